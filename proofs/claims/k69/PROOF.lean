import PyProof.Rows.All
import Wide.All
import OpenK.AllK
import Wide.FinOn
import Lean
import PyProof.EqAt
import PyProof.EqKinds
import PyProof.TupleCall
import PySem.Challenge.RW_bandwright_k69_twofold_refused
set_option Elab.async false
set_option linter.all false
set_option maxRecDepth 100000
namespace L2
open PySem PySem.Spec PyProof.Rows
abbrev Key:=Sum Int Str
def keyIs:Key→Value→Bool
  | .inl k,v=>Value.isInt k v
  | .inr x,v=>Value.isStrOf x v
def keyH (w:World):Key→Int
  | .inl k=>hashInt k
  | .inr x=>hashStr w x
theorem keyIs_shape:∀ {k:Key} {v:Value},keyIs k v = true→(∃ i t,k = Sum.inl i∧v = Value.int i t) ∨ (∃ x t,k = Sum.inr x∧v = Value.str x t)
  | .inl i,v,h=>by
    obtain ⟨t,e⟩:=Value.isInt_shape (k:=i) (v:=v) h
    exact .inl ⟨i,t,rfl,e⟩
  | .inr x,v,h=>by
    obtain ⟨t,e⟩:=Value.isStrOf_shape (x:=x) (v:=v) h
    exact .inr ⟨x,t,rfl,e⟩
theorem key_ll (a b:Int):decide ((Sum.inl a:Key) = Sum.inl b) = (a == b):=by
  by_cases e:a = b
  · subst e; simp
  · have h:¬ (Sum.inl a:Key) = Sum.inl b:=fun q=>e (Sum.inl.inj q)
    rw [decide_eq_false h]
    exact (beq_eq_false_iff_ne.mpr e).symm
theorem key_rr (a b:Str):decide ((Sum.inr a:Key) = Sum.inr b) = decide (a = b):=by
  by_cases e:a = b
  · subst e; simp
  · have h:¬ (Sum.inr a:Key) = Sum.inr b:=fun q=>e (Sum.inr.inj q)
    rw [decide_eq_false h,decide_eq_false e]
theorem key_lr (a:Int) (b:Str):decide ((Sum.inl a:Key) = Sum.inr b) = false:=decide_eq_false (fun q=>nomatch q)
theorem key_rl (a:Str) (b:Int):decide ((Sum.inr a:Key) = Sum.inl b) = false:=decide_eq_false (fun q=>nomatch q)
def mixKind (prog:Program) (w:World):PySem.KeyKind prog w Key where
  is:=keyIs
  hash:=keyH w
  inj:=fun v a b ha hb=>by
    rcases keyIs_shape ha with ⟨i,t,rfl,rfl⟩ | ⟨x,t,rfl,rfl⟩
    · rcases keyIs_shape hb with ⟨j,u,rfl,e⟩ | ⟨y,u,rfl,e⟩
      · injection e with e1 _; rw [e1]
      · exact nomatch e
    · rcases keyIs_shape hb with ⟨j,u,rfl,e⟩ | ⟨y,u,rfl,e⟩
      · exact nomatch e
      · injection e with e1 _; rw [e1]
  byValue:=fun k v h=>by
    rcases keyIs_shape h with ⟨i,t,rfl,rfl⟩ | ⟨x,t,rfl,rfl⟩ <;> rfl
  pyHash:=fun hv h=>by
    rcases keyIs_shape hv with ⟨i,t,rfl,rfl⟩ | ⟨x,t,rfl,rfl⟩
    · exact wpAny_pyHash_int h
    · exact wpAny_pyHash_str h
  eqBool:=fun hu hv h=>by
    rcases keyIs_shape hu with ⟨i,t,rfl,rfl⟩ | ⟨x,t,rfl,rfl⟩
    · rcases keyIs_shape hv with ⟨j,u,rfl,rfl⟩ | ⟨y,u,rfl,rfl⟩
      · rw [key_ll] at h; exact wpAny_eqBool_int h
      · rw [key_lr] at h; exact SeqAt.EqAt.int_str i t y u _ _ _ _ h
    · rcases keyIs_shape hv with ⟨j,u,rfl,rfl⟩ | ⟨y,u,rfl,rfl⟩
      · rw [key_rl] at h; exact SeqAt.EqAt.str_int x t j u _ _ _ _ h
      · rw [key_rr] at h; exact wpAny_eqBool_str h
  «strs»:=fun k x t v h=>by
    rcases keyIs_shape h with ⟨i,u,rfl,e⟩ | ⟨y,u,rfl,e⟩
    · exact nomatch e
    · injection e with e1 _
      subst e1
      cases v <;> rfl
end L2
namespace L2
open PySem PySem.Spec PyProof.Rows
inductive V where
  | non | bl (b:Bool) | int (i:Int) | str (x:Str) | byt (b:Array UInt8) | flt (b:UInt64) | ref (a:Addr) | ty (n:String)
  deriving DecidableEq
def RelV:V→Value→Prop
  | .non,u=>u = Value.none
  | .bl b,u=>u = Value.bool b
  | .int i,u=>∃ t,u = Value.int i t
  | .str x,u=>∃ t,u = Value.str x t
  | .byt b,u=>∃ t,u = Value.bytes b t
  | .flt b,u=>∃ t,u = Value.float b t
  | .ref a,u=>u = Value.ref a
  | .ty n,u=>u = Value.type n
abbrev Vals:List V→List Value→Prop:=Paired RelV
theorem Vals.length {xs:List V} {us:List Value} (r:Vals xs us):xs.length = us.length:=Paired.length r
theorem Vals.get:∀ {xs:List V} {us:List Value} {i:Nat} {x:V},Vals xs us→xs[i]? = some x→∃ u,us[i]? = some u∧RelV x u
  | _,_,_,_,.nil,e=>by simp at e
  | _,_,0,_,.cons r _,e=>by simp at e; subst e; exact ⟨_,rfl,r⟩
  | _,_,i + 1,x,.cons _ t,e=>by
    obtain ⟨u,h1,h2⟩:=Vals.get (i:=i) (x:=x) t (by simpa using e)
    exact ⟨u,by simpa using h1,h2⟩
theorem Vals.set {x:V} {u:Value} (r:RelV x u):∀ {xs:List V} {us:List Value} (i:Nat),Vals xs us→Vals (xs.set i x) (us.set i u)
  | _,_,_,.nil=>.nil
  | _,_,0,.cons _ t=>.cons r t
  | _,_,i + 1,.cons q t=>.cons q (Vals.set r i t)
theorem Vals.append:∀ {xs ys:List V} {us ws:List Value},Vals xs us→Vals ys ws→Vals (xs ++ ys) (us ++ ws)
  | _,_,_,_,.nil,s=>s
  | _,_,_,_,.cons r t,s=>.cons r (Vals.append t s)
theorem Vals.take:∀ {xs:List V} {us:List Value} (n:Nat),Vals xs us→Vals (xs.take n) (us.take n)
  | _,_,0,_=>.nil
  | _,_,_ + 1,.nil=>.nil
  | _,_,n + 1,.cons r t=>.cons r (Vals.take n t)
theorem Vals.drop:∀ {xs:List V} {us:List Value} (n:Nat),Vals xs us→Vals (xs.drop n) (us.drop n)
  | _,_,0,r=>r
  | _,_,_ + 1,.nil=>.nil
  | _,_,n + 1,.cons _ t=>Vals.drop n t
theorem Vals.none_of:∀ {xs:List V} {us:List Value} {i:Nat},Vals xs us→xs[i]? = none→us[i]? = none:=fun {xs us i} r e=>by
  have h1:=r.length
  have h2:xs.length ≤ i:=List.getElem?_eq_none_iff.mp e
  exact List.getElem?_eq_none_iff.mpr (by omega)
def RelO:Option V→Option Value→Prop
  | some v,some u=>RelV v u
  | none,none=>True
  | _,_=>False
def KV {κ:Type}:List (κ × V)→List (κ × Value)→Prop:=Paired fun (p:κ × V) (q:κ × Value)=>p.1 = q.1∧RelV p.2 q.2
def kV:Key→V
  | .inl i=>.int i
  | .inr x=>.str x
inductive HO where
  | lst (xs:List V)
  | tup (xs:List V)
  | dK (kvs:List (Key × V)) | dT (kvs:List (List Key × V))
  | set (S:Int→Bool) (n:Nat)
  | ins (C dx:Addr) (fs:List (Str × V))
  | own (x:Addr)
  | xd (fs:List (Str × V))
  | met (f x:Addr)
  | rng (lo hi:Int)
  | frz (o:Obj) (u:HO)
  | tbl (ps:Array Value)
  | ext (φ:Heap→Prop)
abbrev Hp:=Addr→Option HO
def upd (H:Hp) (a:Addr) (o:HO):Hp:=fun b=>if b = a then some o else H b
theorem upd_same {H:Hp} {a:Addr} {o:HO}:upd H a o a = some o:=by unfold upd; rw [if_pos rfl]
theorem upd_ne {H:Hp} {a b:Addr} {o:HO} (h:b ≠ a):upd H a o b = H b:=by unfold upd; rw [if_neg h]
theorem upd_upd {H:Hp} {a:Addr} {o u:HO}:upd (upd H a o) a u = upd H a u:=by
  funext b; unfold upd; split <;> rfl
theorem ne_of_none {H:Hp} {a b:Addr} {o:HO} (h:H a = some o) (h':H b = none):a ≠ b:=by
  intro e; subst e; rw [h] at h'; cases h'
section
variable (P:Program) (w:World)
def ObjOk (H:Hp) (h:Heap) (a:Addr):HO→Prop
  | .lst xs=>xs.length ≤ sizeLine∧∃ (its:List Value) (n:Nat),Vals xs its∧h.get? a = some { cls:=.type "list",data:=.seq its.toArray n }
  | .tup xs=>xs.length ≤ sizeLine∧∃ its:List Value,Vals xs its∧IsTup h a its.toArray
  | .dK kvs=>kvs.length ≤ sizeLine∧(a == sysModules) = false∧∃ vs,KV kvs vs∧h.DictOf (mixKind P w) a vs
  | .dT kvs=>kvs.length ≤ sizeLine∧(a == sysModules) = false∧∃ xs:List (List Key × Addr × Value),
      Paired (fun (p:List Key × V) (q:List Key × Addr × Value)=>p.1 = q.1∧H q.2.1 = some (.tup (p.1.map kV))∧RelV p.2 q.2.2) kvs xs∧
      ∃ o es ep,h.get? a = some o∧o.ExactDict∧o.data = .dict es ep∧es.toList = xs.map (entryOfKey (tupleKind (mixKind P w)))∧(xs.map (·.1)).Nodup
  | .set S n=>h.SetOf (intKind P w) a S n
  | .ins C dx fs=>H dx = some (.own a)∧fs.length ≤ 1000∧dx ≠ a∧h.get? a = some (PySem.W.instObj C dx)∧
      ∃ mA,h.Ns1 dx mA∧(∀ f,RelO (fs.lookup f) (mA f))∧PySem.Within mA (fs.map (·.1))
  | .own _=>∃ o,h.get? a = some o
  | .xd fs=>∃ mA,h.Ns1 a mA∧∀ f,RelO (fs.lookup f) (mA f)
  | .rng lo hi=>∃ t u v,h.get? a = some { cls:=.type "range",data:=.fields #[.int lo t,.int hi u,.int 1 v] }
  | .frz o u=>h.get? a = some o∧ObjOk H h a u
  | .tbl ps=>h.get? a = some { cls:=.none,data:=.fields ps }
  | .met f x=>h.get? a = some (PySem.W.methodObj (.ref f) (.ref x))
  | .ext φ=>φ h∧(∃ o,h.get? a = some o)∧∀ h1 h2:Heap,φ h1→(∀ o,h1.get? a = some o→h2.get? a = some o)→φ h2
def HOk (H:Hp) (h:Heap):Prop:=∀ a o,H a = some o→ObjOk P w H h a o
end
section
variable {P:Program} {w:World} {H H':Hp} {h h':Heap} {a:Addr} {o:HO}
theorem ObjOk.lt (x:ObjOk P w H h a o):a < h.objs.size:=by
  cases o with
  | lst xs=>obtain ⟨_,_,_,_,e⟩:=x; exact Heap.lt_size e
  | tup xs=>obtain ⟨_,_,_,p⟩:=x; exact p.lt
  | dK kvs=>obtain ⟨_,_,_,_,o,_,_,e,_⟩:=x; exact Heap.lt_size e
  | dT kvs=>obtain ⟨_,_,_,_,o,_,_,e,_⟩:=x; exact Heap.lt_size e
  | set S n=>obtain ⟨o,_,_,_,e,_⟩:=x; exact Heap.lt_size e
  | ins C dx fs=>obtain ⟨_,_,_,e,_⟩:=x; exact Heap.lt_size e
  | own y=>obtain ⟨_,e⟩:=x; exact Heap.lt_size e
  | xd fs=>obtain ⟨_,⟨_,_,_,e,_⟩,_⟩:=x; exact Heap.lt_size e
  | rng lo hi=>obtain ⟨_,_,_,e⟩:=x; exact Heap.lt_size e
  | frz ob u=>obtain ⟨e,_⟩:=x; exact Heap.lt_size e
  | tbl ps=>exact Heap.lt_size (show h.get? a = some _ from x)
  | met f y=>exact Heap.lt_size (show h.get? a = some _ from x)
  | ext φ=>obtain ⟨_,⟨_,e⟩,_⟩:=x; exact Heap.lt_size e
theorem Paired.mapP {α β:Type} {F G:α→β→Prop}:∀ {l₁:List α} {l₂:List β},Paired F l₁ l₂→(∀ a b,F a b→G a b)→Paired G l₁ l₂
  | _,_,.nil,_=>.nil
  | _,_,.cons r t,f=>.cons (f _ _ r) (Paired.mapP t f)
theorem ObjOk.stay (x:ObjOk P w H h a o) (k:∀ b u,(b = a ∨ H b = some (.own a))→h.get? b = some u→h'.get? b = some u)
    (ho:∀ b,H b = some (.own a)→H' b = some (.own a)) (ht:∀ b xs,H b = some (.tup xs)→H' b = some (.tup xs)):ObjOk P w H' h' a o:=by
  induction o with
  | lst xs=>obtain ⟨z,its,n,r,e⟩:=x; exact ⟨z,its,n,r,k _ _ (.inl rfl) e⟩
  | tup xs=>obtain ⟨z,its,r,ob,e,c⟩:=x; exact ⟨z,its,r,ob,k _ _ (.inl rfl) e,c⟩
  | dK kvs=>obtain ⟨z,y,vs,r,ob,es,ep,e,c⟩:=x; exact ⟨z,y,vs,r,ob,es,ep,k _ _ (.inl rfl) e,c⟩
  | dT kvs=>
    obtain ⟨z,y,xs,r,ob,es,ep,e,c⟩:=x
    exact ⟨z,y,xs,Paired.mapP r fun p q z=>⟨z.1,ht _ _ z.2.1,z.2.2⟩,ob,es,ep,k _ _ (.inl rfl) e,c⟩
  | set S n=>obtain ⟨ob,es,ep,t,e,c⟩:=x; exact ⟨ob,es,ep,t,k _ _ (.inl rfl) e,c⟩
  | ins C dx fs=>
    obtain ⟨d,z,ne,e,mA,⟨od,es,ep,e2,c⟩,r⟩:=x
    exact ⟨ho _ d,z,ne,k _ _ (.inl rfl) e,mA,⟨od,es,ep,k _ _ (.inr d) e2,c⟩,r⟩
  | own y=>obtain ⟨ob,e⟩:=x; exact ⟨ob,k _ _ (.inl rfl) e⟩
  | xd fs=>obtain ⟨mA,⟨od,es,ep,e,c⟩,r⟩:=x; exact ⟨mA,⟨od,es,ep,k _ _ (.inl rfl) e,c⟩,r⟩
  | rng lo hi=>obtain ⟨t,u,v,e⟩:=x; exact ⟨t,u,v,k _ _ (.inl rfl) e⟩
  | frz ob u ih=>obtain ⟨e,q⟩:=x; exact ⟨k _ _ (.inl rfl) e,ih q⟩
  | tbl ps=>
    have e:h.get? a = some { cls:=.none,data:=.fields ps }:=x
    show h'.get? a = some { cls:=.none,data:=.fields ps }
    exact k a _ (.inl rfl) e
  | met f y=>
    have e:h.get? a = some (PySem.W.methodObj (.ref f) (.ref y)):=x
    show h'.get? a = some (PySem.W.methodObj (.ref f) (.ref y))
    exact k a _ (.inl rfl) e
  | ext φ=>obtain ⟨p,⟨o,e⟩,st⟩:=x; exact ⟨st _ _ p fun o q=>k _ _ (.inl rfl) q,⟨o,k _ _ (.inl rfl) e⟩,st⟩
theorem HOk.lt (x:HOk P w H h) (e:H a = some o):a < h.objs.size:=(x a o e).lt
theorem HOk.fresh (x:HOk P w H h) (e:h.objs.size ≤ a):H a = none:=by
  cases q:H a with
  | none=>rfl
  | some u=>exact absurd (Nat.lt_of_lt_of_le (x.lt q) e) (Nat.lt_irrefl _)
theorem HOk.kept (x:HOk P w H h) (k:∀ b u,h.get? b = some u→h'.get? b = some u):HOk P w H h':=fun a o e=>
  (x a o e).stay (fun b u _ q=>k b u q) (fun _ q=>q) fun _ _ q=>q
theorem HOk.laid (x:HOk P w H h) (k:∀ b u,h.get? b = some u→h'.get? b = some u) (hp:h.objs.size ≤ a) (new:ObjOk P w (upd H a o) h' a o):HOk P w (upd H a o) h':=fun b u e=>by
  have hn:=x.fresh hp
  by_cases hb:b = a
  · subst hb; rw [upd_same] at e; cases e; exact new
  · rw [upd_ne hb] at e
    exact (x b u e).stay (fun c v _ q=>k c v q) (fun c q=>by rw [upd_ne (ne_of_none q hn)]; exact q) fun c xs q=>by rw [upd_ne (ne_of_none q hn)]; exact q
end
def Rd (H:Hp) (a:Addr) (u:HO):Prop:=H a = some u ∨ ∃ o,H a = some (.frz o u)
theorem Rd.ok {P:Program} {w:World} {H:Hp} {h:Heap} {a:Addr} {u:HO} (r:Rd H a u) (x:HOk P w H h):ObjOk P w H h a u:=by
  rcases r with r | ⟨o,r⟩
  · exact x a u r
  · obtain ⟨_,q⟩:=x a _ r
    exact q
def Mut:Option HO→Prop
  | some (.lst _)=>True
  | some (.dK _)=>True
  | some (.dT _)=>True
  | some (.set _ _)=>True
  | some (.ins _ _ _)=>True
  | some (.ext _)=>True
  | _=>False
section
variable {P:Program} {w:World} {H:Hp} {h h':Heap} {x e:Addr} {o':HO}
theorem HOk.write (ok:HOk P w H h) (mu:Mut (H x)) (he:e = x ∨ H e = some (.own x)) (k:∀ b u,b ≠ e→h.get? b = some u→h'.get? b = some u) (heo:∃ u,h'.get? e = some u)
    (new:ObjOk P w (upd H x o') h' x o'):HOk P w (upd H x o') h':=fun b u q=>by
  have nown:∀ c y,H c = some (.own y)→c ≠ x:=fun c y r z=>by subst z; rw [r] at mu; exact mu
  have ntup:∀ c xs,H c = some (.tup xs)→c ≠ x:=fun c xs r z=>by subst z; rw [r] at mu; exact mu
  by_cases hb:b = x
  · subst hb; rw [upd_same] at q; cases q; exact new
  · rw [upd_ne hb] at q
    by_cases hbe:b = e
    · have q':H b = some (.own x):=by
        rcases he with z | z
        · exact absurd (hbe.trans z) hb
        · rw [hbe]; exact z
      rw [q] at q'; cases q'
      obtain ⟨v,hv⟩:=heo
      exact ⟨v,by rw [hbe]; exact hv⟩
    · refine (ok b u q).stay (fun c v hc r=>k c v ?_ r) (fun c r=>by rw [upd_ne (nown c b r)]; exact r) fun c xs r=>by rw [upd_ne (ntup c xs r)]; exact r
      rcases hc with rfl | hc
      · exact hbe
      · rintro rfl
        rcases he with z | z
        · exact nown c b hc z
        · rw [hc] at z; cases z; exact hb rfl
end
structure Un (fs ex:List Addr) (H H':Hp) (h h':Heap):Prop where
  keep:∀ b o,h.get? b = some o→H b = none→b ∉ fs→b ∉ ex→h'.get? b = some o
  slot:∀ b o,h.get? b = some o→H b = none→b ∈ fs→b ∉ ex→∃ sl,h'.get? b = some { o with slots:=sl }
  free:∀ b o,h.get? b = some o→H b = none→b ∉ ex→H' b = none
  there:∀ b o,h.get? b = some o→b ∉ ex→∃ o',h'.get? b = some o'
  tups:∀ b xs,H b = some (.tup xs)→H' b = some (.tup xs)
  frzs:∀ b o u,H b = some (.frz o u)→H' b = some (.frz o u)
  tbls:∀ b ps,H b = some (.tbl ps)→∃ more,H' b = some (.tbl (ps ++ more))
section
variable {fs fs' ex ex':List Addr} {H H1 H2:Hp} {h h1 h2 h':Heap} {a x e:Addr} {o:HO}
theorem Un.any (u:Un fs ex H H1 h h1) {b:Addr} {ob:Obj} (q:h.get? b = some ob) (n:H b = none) (hx:b ∉ ex):∃ sl,h1.get? b = some { ob with slots:=sl }:=by
  by_cases hb:b ∈ fs
  · exact u.slot b ob q n hb hx
  · exact ⟨ob.slots,u.keep b ob q n hb hx⟩
theorem Un.kept (k:∀ b u,h.get? b = some u→h'.get? b = some u):Un fs ex H H h h':=
  ⟨fun b ob q _ _ _=>k b ob q,fun b ob q _ _ _=>⟨ob.slots,k b ob q⟩,fun _ _ _ n _=>n,fun b ob q _=>⟨ob,k b ob q⟩,fun _ _ q=>q,fun _ _ _ q=>q,fun _ ps q=>⟨#[],by rw [q]; simp⟩⟩
theorem Un.refl:Un fs ex H H h h:=Un.kept fun _ _ q=>q
theorem Un.laid (k:∀ b u,h.get? b = some u→h'.get? b = some u) (hp:h.objs.size ≤ a) (hn:H a = none):Un fs ex H (upd H a o) h h' where
  keep:=fun b u q _ _ _=>k b u q
  slot:=fun b u q _ _ _=>⟨u.slots,k b u q⟩
  free:=fun b u q n _=>by rw [upd_ne (Nat.ne_of_lt (Nat.lt_of_lt_of_le (Heap.lt_size q) hp))]; exact n
  there:=fun b u q _=>⟨u,k b u q⟩
  tups:=fun b xs q=>by rw [upd_ne (ne_of_none q hn)]; exact q
  frzs:=fun b u xs q=>by rw [upd_ne (ne_of_none q hn)]; exact q
  tbls:=fun b ps q=>⟨#[],by rw [upd_ne (ne_of_none q hn),q]; simp⟩
theorem Un.write (mu:Mut (H x)) (he:e = x ∨ H e = some (.own x)) (k:∀ b u,b ≠ e→h.get? b = some u→h'.get? b = some u) (heo:∃ u,h'.get? e = some u):Un fs ex H (upd H x o) h h':=by
  have hx:∀ b,H b = none→b ≠ x:=fun b n z=>by subst z; rw [n] at mu; exact mu
  have hb:∀ b,H b = none→b ≠ e:=fun b n z=>by
    subst z
    rcases he with r | r
    · exact hx b n r
    · rw [n] at r; cases r
  have hm:∀ b u,H b = some u→¬ Mut (some u)→b ≠ x:=fun b u q nm z=>by subst z; rw [q] at mu; exact nm mu
  refine ⟨fun b u q n _ _=>k b u (hb b n) q,fun b u q n _ _=>⟨u.slots,k b u (hb b n) q⟩,fun b u q n _=>by rw [upd_ne (hx b n)]; exact n,fun b u q _=>?_,
    fun b xs q=>by rw [upd_ne (hm b _ q fun z=>z)]; exact q,fun b u xs q=>by rw [upd_ne (hm b _ q fun z=>z)]; exact q,fun b ps q=>⟨#[],by rw [upd_ne (hm b _ q fun z=>z),q]; simp⟩⟩
  by_cases hbe:b = e
  · subst hbe; exact heo
  · exact ⟨u,k b u hbe q⟩
end
def trk (h:Heap) (H:Hp):List Addr:=(List.range h.objs.size).filter fun a=>(H a).isSome
def hidT (h:Heap) (H:Hp):Heap:=PySem.W.hideAll h (trk h H)
theorem hidT_size (h:Heap) (H:Hp):(hidT h H).objs.size = h.objs.size:=PySem.W.hideAll_size _ _
theorem hidT_get {h:Heap} {H:Hp} {b:Addr} {o:Obj} (e:h.get? b = some o) (n:H b = none):(hidT h H).get? b = some o:=
  PySem.W.hideAll_get _ e fun hm=>by
    have q:(H b).isSome = true:=(List.mem_filter.mp hm).2
    rw [n] at q; simp at q
theorem of_hidT {h:Heap} {H:Hp} {b:Addr} {o:Obj} (e:(hidT h H).get? b = some o):h.get? b = some o∧H b = none:=by
  have e':h.get? b = some o:=PySem.W.of_hideAll (trk h H) e
  refine ⟨e',?_⟩
  cases q:H b with
  | none=>rfl
  | some x=>
    have hm:b ∈ trk h H:=List.mem_filter.mpr ⟨List.mem_range.mpr (Heap.lt_size e'),by simp [q]⟩
    have z:(hidT h H).get? b = none:=PySem.W.hideAll_none (trk h H) hm
    rw [z] at e; cases e
end L2
namespace L2
open PySem PySem.Spec PyProof.Rows
structure Mod (K:PySem.W.Frag) (mg:Str→Option Value) (base:Heap):Prop where
  kin:K.In base
  glob:base.Ns mainGlobals mg
  blt:∃ mb,base.Ns builtinsNs mb∧∀ x:Str,x ≠ "__name__"→mb x = bootBuiltins x
  nolimit:base.NoLimit
structure Cx where
  prog:Program
  w:World
  K:PySem.W.Frag
  mg:Str→Option Value
  base:Heap
  A:Around
  N:List Str
  s₀:Shared
  H₀:Hp
  env:Env
  outer:List Env
  stack:List Env
  ex:List Addr
  fn:Str→Bool
  calm:Bool
  pn:List (Addr × Obj)
  xe:Value→Shared→Prop
def frs (l:List Env):List Addr:=l.filterMap (·.frame)
abbrev Cx.fs (X:Cx):List Addr:=frs X.outer
def Vis (sc:Scope) (x:Str):Prop:=sc.names.lookup x = some .local ∨ sc.names.lookup x = some .cell ∨ sc.names.lookup x = some .free
def Loc (sc:Scope) (x:Str):Prop:=sc.names.lookup x = some .local ∨ sc.names.lookup x = some .cell
def Look (env:Env) (h:Heap) (m:Str→Option Value) (x:Str) (u:Value):Prop:=
  (env.kindOf x = some .local∧m x = some u) ∨ ((env.kindOf x = some .cell ∨ env.kindOf x = some .free)∧∃ c,env.cells.lookup x = some c∧h.IsCell c (some u))
structure Cx.Ok (X:Cx):Prop where
  mod:Mod X.K X.mg X.base
  kind:X.env.scope.kind = .function
  glob:X.env.globals = mainGlobals
  blt:X.env.builtins = builtinsNs
  above:X.s₀.heap.objs.size ≤ X.env.locals
  inj:∀ x y c,X.env.cells.lookup x = some c→X.env.cells.lookup y = some c→x = y
  has:∀ x,(X.env.kindOf x = some .cell ∨ X.env.kindOf x = some .free)→∃ c,X.env.cells.lookup x = some c
  cab:∀ x c,X.fn x = true→X.env.cells.lookup x = some c→X.s₀.heap.objs.size ≤ c
  hd:X.calm = true→X.A.handled = none
  frames:X.A.frames = some X.stack
  stk:X.stack = X.outer ∨ (X.stack = X.env :: X.outer∧X.env.frame = some X.env.locals)
  exf:∀ b ∈ X.ex,b ≠ X.env.locals∧∀ x c,X.env.cells.lookup x = some c→c ≠ b
  bs:∀ b o,X.base.get? b = some o→X.s₀.heap.get? b = some o∧X.H₀ b = none
  bsz:X.base.objs.size ≤ X.s₀.heap.objs.size
  noex:∀ b o,X.base.get? b = some o→b ∉ X.ex
  exfs:∀ b ∈ X.ex,b ∉ X.fs
  funs:X.s₀.heap.FunFrames X.base X.outer
  frf:∀ b ∈ X.fs,X.H₀ b = none
structure Inv (X:Cx) (pins:List (Addr × Obj)) (σ:List (Option V)) (H:Hp) (s:Shared):Prop where
  ok:X.Ok
  os:s.os = X.s₀.os
  bare:AllBare s.gens
  base:Un X.fs X.ex X.H₀ H X.s₀.heap s.heap
  loc:∃ m,s.heap.Ns X.env.locals m∧∀ (i:Nat) (x:Str) (v:V),X.N[i]? = some x→σ[i]? = some (some v)→Vis X.env.scope x→∃ u,RelV v u∧Look X.env s.heap m x u
  cell:∀ x c,X.env.cells.lookup x = some c→∃ v,s.heap.IsCell c v
  free:H X.env.locals = none
  freeC:∀ x c,X.env.cells.lookup x = some c→H c = none
  pin:∀ p ∈ X.pn ++ pins,s.heap.get? p.1 = some p.2∧H p.1 = none∧p.1 ≠ X.env.locals∧p.1 ∉ X.fs∧∀ v,p.2.data ≠ .cell v
  hok:HOk X.prog X.w H s.heap
  len:σ.length = X.N.length
section
variable {X:Cx} {pins:List (Addr × Obj)} {σ:List (Option V)} {H H':Hp} {s:Shared} {h':Heap}
theorem Cx.Ok.nofr (ok:X.Ok) {b:Addr} {o:Obj} (e:X.base.get? b = some o):b ∉ X.fs:=fun hb=>by
  have:=(ok.funs.mem hb).1
  rw [e] at this; cases this
theorem Inv.bs (I:Inv X pins σ H s):∀ b o,X.base.get? b = some o→s.heap.get? b = some o∧H b = none:=fun b o e=>
  ⟨I.base.keep b o (I.ok.bs b o e).1 (I.ok.bs b o e).2 (I.ok.nofr e) (I.ok.noex b o e),I.base.free b o (I.ok.bs b o e).1 (I.ok.bs b o e).2 (I.ok.noex b o e)⟩
theorem Inv.bk (I:Inv X pins σ H s):∀ b o,X.base.get? b = some o→s.heap.get? b = some o:=fun b o e=>(I.bs b o e).1
theorem Inv.mod (I:Inv X pins σ H s):Mod X.K X.mg X.base:=I.ok.mod
theorem Inv.kIn (I:Inv X pins σ H s):X.K.In s.heap:=I.ok.mod.kin.keeps I.bk
theorem Inv.lt (I:Inv X pins σ H s):X.env.locals < s.heap.objs.size:=let ⟨_,hn,_⟩:=I.loc; hn.lt
theorem Inv.sz (I:Inv X pins σ H s):X.s₀.heap.objs.size ≤ s.heap.objs.size:=Nat.le_trans I.ok.above (Nat.le_of_lt I.lt)
theorem Inv.nofs (I:Inv X pins σ H s) {a:Addr} (h:s.heap.objs.size ≤ a):a ∉ X.fs:=fun hb=>by
  obtain ⟨_,o,ho,_⟩:=I.ok.funs.mem hb
  exact absurd (Nat.lt_of_lt_of_le (Heap.lt_size ho) (Nat.le_trans I.sz h)) (Nat.lt_irrefl _)
theorem Inv.cne (I:Inv X pins σ H s):∀ x c,X.env.cells.lookup x = some c→c ≠ X.env.locals:=fun x c e z=>by
  obtain ⟨v,o,ho,hd⟩:=I.cell x c e
  obtain ⟨m,⟨o',es,ep,ho',hd',_⟩,_⟩:=I.loc
  rw [z,ho'] at ho; cases ho; rw [hd'] at hd; cases hd
theorem Inv.funs (I:Inv X pins σ H s):s.heap.FunFrames X.base X.outer:=by
  have all:∀ (l:List Env),(∀ b ∈ frs l,b ∈ X.fs)→X.s₀.heap.FunFrames X.base l→s.heap.FunFrames X.base l:=by
    intro l
    induction l with
    | nil=>intro _ _; trivial
    | cons env r ih=>
      intro hs hl
      obtain ⟨hk,⟨L,o,hf,hn,ho,hd⟩,hr⟩:=hl
      have hL:L ∈ X.fs:=hs L (by unfold frs; rw [List.filterMap_cons,hf]; exact List.mem_cons_self)
      obtain ⟨sl,e⟩:=I.base.slot L o ho (I.ok.frf L hL) hL fun z=>I.ok.exfs L z hL
      exact ⟨hk,⟨L,_,hf,hn,e,hd⟩,ih (fun b hb=>hs b (by unfold frs; rw [List.filterMap_cons,hf]; exact List.mem_cons_of_mem _ hb)) hr⟩
  exact all X.outer (fun _ hb=>hb) I.ok.funs
theorem Inv.stack (I:Inv X pins σ H s):s.heap.FunFrames X.base X.stack:=by
  rcases I.ok.stk with e | ⟨e,hf⟩
  · rw [e]; exact I.funs
  · rw [e]
    obtain ⟨m,hn,_⟩:=I.loc
    refine .cons (by rw [I.ok.kind]; decide) hf hn ?_ I.funs
    exact Heap.get?_none_of_le (Nat.le_trans I.ok.bsz I.ok.above)
theorem Inv.stkSub (I:Inv X pins σ H s):∀ b ∈ frs X.stack,b ∈ X.env.locals :: X.fs:=fun b hb=>by
  rcases I.ok.stk with e | ⟨e,hf⟩
  · rw [e] at hb; exact List.mem_cons_of_mem _ hb
  · rw [e] at hb
    unfold frs at hb
    rw [List.filterMap_cons,hf] at hb
    exact hb
theorem Inv.stkFree (I:Inv X pins σ H s):∀ b ∈ frs X.stack,H b = none:=fun b hb=>by
  rcases List.mem_cons.mp (I.stkSub b hb) with e | hb
  · rw [e]; exact I.free
  · obtain ⟨_,o,ho,_⟩:=I.ok.funs.mem hb
    exact I.base.free b o ho (I.ok.frf b hb) fun z=>I.ok.exfs b z hb
theorem Inv.step {g':Array GenState} {t':Nat} {d':Drawn} {ch:List Addr} (I:Inv X pins σ H s)
    (hch:∀ b ∈ ch,(b ∈ X.ex ∨ X.s₀.heap.objs.size ≤ b)∧b ≠ X.env.locals∧(∀ x c,X.env.cells.lookup x = some c→c ≠ b)∧∀ p ∈ X.pn ++ pins,p.1 ≠ b)
    (keep:∀ b o,b ≠ X.env.locals→b ∉ X.fs→b ∉ ch→s.heap.get? b = some o→H b = none→h'.get? b = some o)
    (slot:∀ b o,b ≠ X.env.locals→b ∈ X.fs→b ∉ ch→s.heap.get? b = some o→H b = none→∃ sl,h'.get? b = some { o with slots:=sl }) (free:∀ b o,b ∉ ch→s.heap.get? b = some o→H b = none→H' b = none)
    (there:∀ b o,b ∉ ch→s.heap.get? b = some o→∃ o',h'.get? b = some o')
    (tups:∀ b xs,H b = some (.tup xs)→H' b = some (.tup xs)) (frzs:∀ b o u,H b = some (.frz o u)→H' b = some (.frz o u)) (tbls:∀ b ps,H b = some (.tbl ps)→∃ more,H' b = some (.tbl (ps ++ more)))
    (ns:∀ m,s.heap.Ns X.env.locals m→h'.Ns X.env.locals m) (hok:HOk X.prog X.w H' h') (hg:AllBare g') :
    Inv X pins σ H' { s with heap:=h',gens:=g',drawn:=d',toks:=t' }:=by
  have neL:∀ b o,X.s₀.heap.get? b = some o→b ≠ X.env.locals:=fun b o e=>Nat.ne_of_lt (Nat.lt_of_lt_of_le (Heap.lt_size e) I.ok.above)
  have neC:∀ b o,X.s₀.heap.get? b = some o→b ∉ X.ex→b ∉ ch:=fun b o e hx hb=>by
    rcases (hch b hb).1 with z | z
    · exact hx z
    · exact absurd (Nat.lt_of_lt_of_le (Heap.lt_size e) z) (Nat.lt_irrefl _)
  have cellK:∀ x c,X.env.cells.lookup x = some c→∀ v,s.heap.IsCell c v→h'.IsCell c v:=fun x c e v ⟨o,ho,hd⟩=>by
    have nch:c ∉ ch:=fun z=>(hch c z).2.2.1 x c e rfl
    by_cases hc:c ∈ X.fs
    · obtain ⟨sl,q⟩:=slot c o (I.cne x c e) hc nch ho (I.freeC x c e)
      exact ⟨_,q,hd⟩
    · exact ⟨o,keep c o (I.cne x c e) hc nch ho (I.freeC x c e),hd⟩
  refine ⟨I.ok,I.os,hg,⟨fun b o e n hb hx=>?_,fun b o e n hb hx=>?_,fun b o e n hx=>?_,fun b o e hx=>?_,fun b xs e=>tups b xs (I.base.tups b xs e),fun b o xs e=>frzs b o xs (I.base.frzs b o xs e),fun b ps e=>?_⟩,?_,fun x c e=>?_,?_,fun x c e=>?_,fun p hp=>?_,hok,I.len⟩
  · exact keep b o (neL b o e) hb (neC b o e hx) (I.base.keep b o e n hb hx) (I.base.free b o e n hx)
  · obtain ⟨sl,e1⟩:=I.base.slot b o e n hb hx
    obtain ⟨sl',e2⟩:=slot b _ (neL b o e) hb (neC b o e hx) e1 (I.base.free b o e n hx)
    exact ⟨sl',e2⟩
  · obtain ⟨o',e1⟩:=I.base.there b o e hx
    exact free b o' (neC b o e hx) e1 (I.base.free b o e n hx)
  · obtain ⟨o',e1⟩:=I.base.there b o e hx
    exact there b o' (neC b o e hx) e1
  · obtain ⟨m1,e1⟩:=I.base.tbls b ps e
    obtain ⟨m2,e2⟩:=tbls b _ e1
    exact ⟨m1 ++ m2,by rw [e2,Array.append_assoc]⟩
  · obtain ⟨m,hn,hl⟩:=I.loc
    refine ⟨m,ns m hn,fun i x v e1 e2 e3=>?_⟩
    obtain ⟨u,r,l⟩:=hl i x v e1 e2 e3
    refine ⟨u,r,?_⟩
    rcases l with l | ⟨k,c,e,z⟩
    · exact .inl l
    · exact .inr ⟨k,c,e,cellK x c e _ z⟩
  · obtain ⟨v,z⟩:=I.cell x c e
    exact ⟨v,cellK x c e v z⟩
  · obtain ⟨m,⟨o,_,_,ho,_⟩,_⟩:=I.loc
    exact free _ o (fun z=>(hch _ z).2.1 rfl) ho I.free
  · obtain ⟨v,o,ho,hd⟩:=I.cell x c e
    exact free c o (fun z=>(hch c z).2.2.1 x c e rfl) ho (I.freeC x c e)
  · obtain ⟨e,n,ne,nf,d⟩:=I.pin p hp
    have nch:p.1 ∉ ch:=fun z=>(hch p.1 z).2.2.2 p hp rfl
    exact ⟨keep p.1 p.2 ne nf nch e n,free p.1 p.2 nch e n,ne,nf,d⟩
theorem Inv.un {t':Nat} (I:Inv X pins σ H s) (u:Un X.fs [] H H' s.heap h') (hok:HOk X.prog X.w H' h'):Inv X pins σ H' { s with heap:=h',toks:=t' }:=by
  obtain ⟨m,⟨o,es,ep,ho,r⟩,_⟩:=id I.loc
  obtain ⟨sl,hL⟩:=u.any ho I.free (by simp)
  exact I.step (g':=s.gens) (d':=s.drawn) (ch:=[]) (fun _ z=>nomatch z) (fun b o _ hb _ e n=>u.keep b o e n hb (by simp)) (fun b o _ hb _ e n=>u.slot b o e n hb (by simp)) (fun b o _ e n=>u.free b o e n (by simp)) (fun b o _ e=>u.there b o e (by simp)) u.tups u.frzs u.tbls (fun m' hm=>by
    obtain ⟨o',es',ep',ho',r'⟩:=hm
    rw [ho] at ho'; cases ho'
    exact ⟨_,es',ep',hL,r'⟩) hok I.bare
theorem Inv.call {g':Array GenState} {t':Nat} {d':Drawn} {ch:List Addr} (I:Inv X pins σ H s) (u:Un (frs X.stack) ch H H' s.heap h') (hok:HOk X.prog X.w H' h') (hg:AllBare g')
    (hch:∀ b ∈ ch,(b ∈ X.ex ∨ X.s₀.heap.objs.size ≤ b)∧b ≠ X.env.locals∧(∀ x c,X.env.cells.lookup x = some c→c ≠ b)∧∀ p ∈ X.pn ++ pins,p.1 ≠ b) :
    Inv X pins σ H' { s with heap:=h',gens:=g',drawn:=d',toks:=t' }:=by
  obtain ⟨m,⟨o,es,ep,ho,r⟩,_⟩:=id I.loc
  obtain ⟨sl,hL⟩:=u.any ho I.free fun z=>(hch _ z).2.1 rfl
  exact I.step (ch:=ch) hch (fun b o hL hb hc e n=>u.keep b o e n (fun z=>(List.mem_cons.mp (I.stkSub b z)).elim hL hb) hc) (fun b o _ _ hc e n=>u.any e n hc) (fun b o hc e n=>u.free b o e n hc) (fun b o hc e=>u.there b o e hc) u.tups u.frzs u.tbls (fun m' hm=>by
    obtain ⟨o',es',ep',ho',r'⟩:=hm
    rw [ho] at ho'; cases ho'
    exact ⟨_,es',ep',hL,r'⟩) hok hg
theorem Inv.turned {t':Nat} {it:Addr} (I:Inv X pins σ H s) (k:∀ b o,b ≠ it→s.heap.get? b = some o→h'.get? b = some o) (hn:H it = none) (hL:it ≠ X.env.locals)
    (h1:it ∈ X.ex ∨ X.s₀.heap.objs.size ≤ it) (h2:∀ x c,X.env.cells.lookup x = some c→c ≠ it) (h3:∀ p ∈ X.pn ++ pins,p.1 ≠ it):Inv X pins σ H { s with heap:=h',toks:=t' }:=by
  have nit:∀ b u,H b = some u→b ≠ it:=fun b u e z=>by rw [z,hn] at e; cases e
  refine I.step (g':=s.gens) (d':=s.drawn) (ch:=[it]) (fun b hb=>?_) (fun b o _ _ hc e _=>k b o (fun z=>hc (by simp [z])) e) (fun b o _ _ hc e _=>⟨o.slots,k b o (fun z=>hc (by simp [z])) e⟩) (fun _ _ _ _ n=>n)
    (fun b o hc e=>⟨o,k b o (fun z=>hc (by simp [z])) e⟩) (fun _ _ e=>e) (fun _ _ _ e=>e) (fun b ps e=>⟨#[],by rw [e]; simp⟩) (fun m hm=>?_) (fun b u e=>?_) I.bare
  · have e:b = it:=by simpa using hb
    subst e
    exact ⟨h1,hL,h2,h3⟩
  · obtain ⟨o,es,ep,ho,r⟩:=hm
    exact ⟨o,es,ep,k _ o (Ne.symm hL) ho,r⟩
  · refine (I.hok b u e).stay (fun c v hc q=>k c v ?_ q) (fun _ q=>q) fun _ _ q=>q
    rcases hc with z | z
    · rw [z]; exact nit b u e
    · exact nit c _ z
theorem Inv.tok (I:Inv X pins σ H s) (t:Nat):Inv X pins σ H { s with toks:=t }:=I.un (h':=s.heap) (t':=t) Un.refl I.hok
theorem Inv.kept {t':Nat} (I:Inv X pins σ H s) (k:∀ b u,s.heap.get? b = some u→h'.get? b = some u):Inv X pins σ H { s with heap:=h',toks:=t' }:=I.un (Un.kept k) (I.hok.kept k)
theorem Inv.laid {a:Addr} {o:HO} {t':Nat} (I:Inv X pins σ H s) (k:∀ b u,s.heap.get? b = some u→h'.get? b = some u) (hp:s.heap.objs.size ≤ a) (new:ObjOk X.prog X.w (upd H a o) h' a o) :
    Inv X pins σ (upd H a o) { s with heap:=h',toks:=t' }:=I.un (Un.laid k hp (I.hok.fresh hp)) (I.hok.laid k hp new)
theorem Inv.write {x e:Addr} {o:HO} {t':Nat} (I:Inv X pins σ H s) (mu:Mut (H x)) (he:e = x ∨ H e = some (.own x)) (k:∀ b u,b ≠ e→s.heap.get? b = some u→h'.get? b = some u) (heo:∃ u,h'.get? e = some u)
    (new:ObjOk X.prog X.w (upd H x o) h' x o):Inv X pins σ (upd H x o) { s with heap:=h',toks:=t' }:=I.un (Un.write mu he k heo) (I.hok.write mu he k heo new)
theorem Inv.pins_of {pins':List (Addr × Obj)} (I:Inv X pins σ H s) (h:∀ p ∈ pins',s.heap.get? p.1 = some p.2∧H p.1 = none∧p.1 ≠ X.env.locals∧p.1 ∉ X.fs∧∀ v,p.2.data ≠ .cell v):Inv X pins' σ H s:=
  ⟨I.ok,I.os,I.bare,I.base,I.loc,I.cell,I.free,I.freeC,fun p hp=>(List.mem_append.mp hp).elim (fun z=>I.pin p (List.mem_append_left _ z)) (h p),I.hok,I.len⟩
theorem nodup_ix {N:List Str} (hN:N.Nodup) {i j:Nat} {x:Str} (a:N[i]? = some x) (b:N[j]? = some x):i = j:=by
  obtain ⟨h1,e1⟩:=List.getElem?_eq_some_iff.mp a
  obtain ⟨h2,e2⟩:=List.getElem?_eq_some_iff.mp b
  exact (List.getElem_inj hN).mp (e1.trans e2.symm)
theorem store_ok2 {M:Model} {A:Around} {E:Value→Shared→Prop} {i:Nat} {x:Str} {v:V} {u:Value} {Q:Unit→Shared→Prop} (I:Inv X pins σ H s) (hN:X.N.Nodup) (hi:X.N[i]? = some x) (hx:Loc X.env.scope x) (r:RelV v u)
    (h:∀ s',Inv X pins (σ.set i (some v)) H s'→(∃ a,Heap.SameBut a s.heap s'.heap∧(a = X.env.locals ∨ X.env.cells.lookup x = some a))→Q () s') (hf:X.fn x = true ∨ X.env.scope.names.lookup x = some .local:=by first | exact .inl rfl | exact .inr rfl | assumption):wpAny M A (storeName X.env x u) Q E s:=by
  obtain ⟨m,hn,hl⟩:=id I.loc
  have hcls:(X.env.scope.kind == .class || (X.env.scope.kind == .module && X.env.locals != X.env.globals)) = false:=by rw [I.ok.kind]; rfl
  have hiσ:i < σ.length:=by rw [I.len]; exact (List.getElem?_eq_some_iff.mp hi).1
  have cne:=I.cne
  have tracked:∀ {a:Addr} {h':Heap},(∃ o,s.heap.get? a = some o∧H a = none)→Heap.SameBut a s.heap h'→HOk X.prog X.w H h':=fun {a h'} ha hs b ob e=>by
    obtain ⟨_,_,hfree⟩:=ha
    refine (I.hok b ob e).stay (fun c w' hc q=>(hs.2 c ?_).trans q) (fun _ q=>q) fun _ _ q=>q
    rintro rfl
    rcases hc with rfl | hc
    · rw [hfree] at e; cases e
    · rw [hfree] at hc; cases hc
  rcases hx with hk | hk
  · refine wpAny_storeName_local hk hn (fun h' hn' hs=>?_) hcls
    obtain ⟨oL,_,_,hoL,_⟩:=id hn
    refine h _ ⟨I.ok,I.os,I.bare,⟨fun b o e n hb hx=>?_,fun b o e n hb hx=>?_,I.base.free,fun b o e hx=>?_,I.base.tups,I.base.frzs,I.base.tbls⟩,⟨_,hn',fun j y v' e1 e2 e3=>?_⟩,fun y c e=>?_,I.free,I.freeC,fun p hp=>?_,tracked ⟨oL,hoL,I.free⟩ hs,by simpa using I.len⟩ ⟨_,hs,.inl rfl⟩
    · exact (hs.2 b (Nat.ne_of_lt (Nat.lt_of_lt_of_le (Heap.lt_size e) I.ok.above))).trans (I.base.keep b o e n hb hx)
    · obtain ⟨sl,e1⟩:=I.base.slot b o e n hb hx
      exact ⟨sl,(hs.2 b (Nat.ne_of_lt (Nat.lt_of_lt_of_le (Heap.lt_size e) I.ok.above))).trans e1⟩
    · obtain ⟨o',e1⟩:=I.base.there b o e hx
      exact ⟨o',(hs.2 b (Nat.ne_of_lt (Nat.lt_of_lt_of_le (Heap.lt_size e) I.ok.above))).trans e1⟩
    · by_cases hj:j = i
      · subst hj
        rw [hi] at e1; cases e1
        rw [List.getElem?_set_self hiσ] at e2
        cases e2
        exact ⟨u,r,.inl ⟨hk,by simp⟩⟩
      · rw [List.getElem?_set_ne (Ne.symm hj)] at e2
        obtain ⟨u',r',q⟩:=hl j y v' e1 e2 e3
        refine ⟨u',r',?_⟩
        rcases q with ⟨k,e⟩ | ⟨k,c,e,z⟩
        · refine .inl ⟨k,?_⟩
          have:y ≠ x:=fun e=>hj (nodup_ix hN e1 (e ▸ hi))
          simp [this,e]
        · exact .inr ⟨k,c,e,z.sameBut hs (cne y c e)⟩
    · obtain ⟨w',z⟩:=I.cell y c e
      exact ⟨w',z.sameBut hs (cne y c e)⟩
    · obtain ⟨e,n,ne,nf,d⟩:=I.pin p hp
      exact ⟨(hs.2 p.1 ne).trans e,n,ne,nf,d⟩
  · have hfn:X.fn x = true:=by
      rcases hf with z | z
      · exact z
      · rw [z] at hk; cases hk
    obtain ⟨c,hc⟩:=I.ok.has x (.inl hk)
    obtain ⟨w',z⟩:=I.cell x c hc
    refine wpAny_storeName_cell I.ok.kind hk hc z (fun h' hc' hs=>?_)
    obtain ⟨oc,hoc,hocd⟩:=id z
    refine h { s with heap:=h' } ⟨I.ok,I.os,I.bare,⟨fun b o e n hb hx=>?_,fun b o e n hb hx=>?_,I.base.free,fun b o e hx=>?_,I.base.tups,I.base.frzs,I.base.tbls⟩,⟨m,hn.sameBut hs (Ne.symm (cne x c hc)),fun j y v' e1 e2 e3=>?_⟩,fun y c' e=>?_,I.free,I.freeC,fun p hp=>?_,tracked ⟨oc,hoc,I.freeC x c hc⟩ hs,by simpa using I.len⟩ ⟨c,hs,.inr hc⟩
    · exact (hs.2 b (Nat.ne_of_lt (Nat.lt_of_lt_of_le (Heap.lt_size e) (I.ok.cab x c hfn hc)))).trans (I.base.keep b o e n hb hx)
    · obtain ⟨sl,e1⟩:=I.base.slot b o e n hb hx
      exact ⟨sl,(hs.2 b (Nat.ne_of_lt (Nat.lt_of_lt_of_le (Heap.lt_size e) (I.ok.cab x c hfn hc)))).trans e1⟩
    · obtain ⟨o',e1⟩:=I.base.there b o e hx
      exact ⟨o',(hs.2 b (Nat.ne_of_lt (Nat.lt_of_lt_of_le (Heap.lt_size e) (I.ok.cab x c hfn hc)))).trans e1⟩
    · by_cases hj:j = i
      · subst hj
        rw [hi] at e1; cases e1
        rw [List.getElem?_set_self hiσ] at e2
        cases e2
        exact ⟨u,r,.inr ⟨.inl hk,c,hc,hc'⟩⟩
      · rw [List.getElem?_set_ne (Ne.symm hj)] at e2
        obtain ⟨u',r',q⟩:=hl j y v' e1 e2 e3
        refine ⟨u',r',?_⟩
        rcases q with q | ⟨k,c',e,z'⟩
        · exact .inl q
        · refine .inr ⟨k,c',e,z'.sameBut hs ?_⟩
          rintro rfl
          exact hj (nodup_ix hN e1 (I.ok.inj _ _ _ e hc ▸ hi))
    · by_cases hcc:c' = c
      · subst hcc; exact ⟨_,hc'⟩
      · obtain ⟨w2,z2⟩:=I.cell y c' e
        exact ⟨w2,z2.sameBut hs hcc⟩
    · obtain ⟨e,n,ne,nf,d⟩:=I.pin p hp
      refine ⟨(hs.2 p.1 ?_).trans e,n,ne,nf,d⟩
      intro q
      rw [q,hoc] at e
      have q':oc = p.2:=Option.some.inj e
      exact d w' (by rw [← q']; exact hocd)
theorem store_ok {M:Model} {A:Around} {E:Value→Shared→Prop} {i:Nat} {x:Str} {v:V} {u:Value} {Q:Unit→Shared→Prop} (I:Inv X pins σ H s) (hN:X.N.Nodup) (hi:X.N[i]? = some x) (hx:Loc X.env.scope x) (r:RelV v u)
    (h:∀ s',Inv X pins (σ.set i (some v)) H s'→Q () s') (hf:X.fn x = true ∨ X.env.scope.names.lookup x = some .local:=by first | exact .inl rfl | exact .inr rfl | assumption):wpAny M A (storeName X.env x u) Q E s:=
  store_ok2 I hN hi hx r (fun s' I' _=>h s' I') hf
theorem Inv.call' {s':Shared} {ch:List Addr} (I:Inv X pins σ H s) (ho:s'.os = s.os) (u:Un (frs X.stack) ch H H' s.heap s'.heap) (hok:HOk X.prog X.w H' s'.heap) (hg:AllBare s'.gens)
    (hch:∀ b ∈ ch,(b ∈ X.ex ∨ X.s₀.heap.objs.size ≤ b)∧b ≠ X.env.locals∧(∀ x c,X.env.cells.lookup x = some c→c ≠ b)∧∀ p ∈ X.pn ++ pins,p.1 ≠ b):Inv X pins σ H' s':=by
  obtain ⟨h',g',d',t',o'⟩:=s'
  have e:o' = s.os:=ho
  subst e
  exact I.call (g':=g') (t':=t') (d':=d') u hok hg hch
end
abbrev XK:=Value→Option Addr→Hp→Prop
abbrev St:=List (Option V)
abbrev VK:=V→Hp→Prop
abbrev TE:=St→Hp→VK→Prop
abbrev TT:=St→Hp→(Bool→Hp→Prop)→Prop
abbrev TA:=St→Hp→(List V→Hp→Prop)→Prop
structure Ends where
  nx:St→Hp→Prop
  rt:VK
  bk:St→Hp→Prop:=fun _ _=>False
  ct:St→Hp→Prop:=fun _ _=>False
abbrev TS:=Ends→St→Hp→Prop
def EP (X:Cx) (pins:List (Addr × Obj)) (σ:St) (Q:VK) (u:Value) (s':Shared):Prop:=∃ v H',Inv X pins σ H' s'∧RelV v u∧Q v H'
def TP (X:Cx) (pins:List (Addr × Obj)) (σ:St) (Q:Bool→Hp→Prop) (b:Bool) (s':Shared):Prop:=∃ H',Inv X pins σ H' s'∧Q b H'
def AP (X:Cx) (pins:List (Addr × Obj)) (σ:St) (Q:List V→Hp→Prop) (us:List Value) (s':Shared):Prop:=∃ vs H',Inv X pins σ H' s'∧Vals vs us∧Q vs H'
def SP (X:Cx) (pins:List (Addr × Obj)) (D:Ends) (f:Flow) (s':Shared):Prop:=
  match f with
  | .next=>∃ σ' H',Inv X pins σ' H' s'∧D.nx σ' H'
  | .brk=>∃ σ' H',Inv X pins σ' H' s'∧D.bk σ' H'
  | .cont=>∃ σ' H',Inv X pins σ' H' s'∧D.ct σ' H'
  | .ret u=>∃ v σ' H',Inv X pins σ' H' s'∧RelV v u∧D.rt v H'
def PE (X:Cx) (e:Expr) (t:TE):Prop:=
  ∀ (pins:List (Addr × Obj)) (s:Shared) (σ:St) (H:Hp) (Q:VK),Inv X pins σ H s→t σ H Q→wpAny (model X.prog X.w) X.A (eval e X.env) (EP X pins σ Q) X.xe s
def PT (X:Cx) (e:Expr) (t:TT):Prop:=
  ∀ (pins:List (Addr × Obj)) (s:Shared) (σ:St) (H:Hp) (Q:Bool→Hp→Prop),Inv X pins σ H s→t σ H Q→wpAny (model X.prog X.w) X.A (isTrue e X.env (eval e X.env)) (TP X pins σ Q) X.xe s
def PW (X:Cx) (e:Expr) (t:TT):Prop:=
  ∀ (whole:Sem Value) (pins:List (Addr × Obj)) (s:Shared) (σ:St) (H:Hp) (Q:Bool→Hp→Prop),Inv X pins σ H s→t σ H Q→wpAny (model X.prog X.w) X.A (isTrue e X.env whole) (TP X pins σ Q) X.xe s
theorem PW.pt {X:Cx} {e:Expr} {t:TT} (h:PW X e t):PT X e t:=h _
def PA (X:Cx) (es:List Expr) (t:TA):Prop:=
  ∀ (pos:Pos) (pins:List (Addr × Obj)) (s:Shared) (σ:St) (H:Hp) (Q:List V→Hp→Prop),Inv X pins σ H s→t σ H Q→wpAny (model X.prog X.w) X.A (spliced (backTo pos (starEach es X.env))) (AP X pins σ Q) X.xe s
def PS (X:Cx) (st:Stmt) (t:TS):Prop:=
  ∀ (pins:List (Addr × Obj)) (s:Shared) (σ:St) (H:Hp) (D:Ends),Inv X pins σ H s→t D σ H→wpAny (model X.prog X.w) X.A (exec st X.env) (SP X pins D) X.xe s
def PSs (X:Cx) (st:List Stmt) (t:TS):Prop:=
  ∀ (pins:List (Addr × Obj)) (s:Shared) (σ:St) (H:Hp) (D:Ends),Inv X pins σ H s→t D σ H→wpAny (model X.prog X.w) X.A (execs st X.env) (SP X pins D) X.xe s
theorem thn {α:Type} {t:Sem α} {Q Q':α→Shared→Prop} {M:Model} {A:Around} {E:Value→Shared→Prop} {s:Shared} (h:wpAny M A t Q E s) (hQ:∀ a s,Q a s→Q' a s):wpAny M A t Q' E s:=wpAny_mono h hQ fun _ _ x=>x
end L2
namespace L2
open PySem PySem.Spec PyProof.Rows
section
variable {X:Cx}
theorem bin {a b:Expr} {ta tb:TE} (ha:PE X a ta) (hb:PE X b tb) {pins:List (Addr × Obj)} {s:Shared} {σ:St} {H:Hp} {R:V→V→Hp→Prop} (I:Inv X pins σ H s) (h:ta σ H fun x H1=>tb σ H1 fun y H2=>R x y H2)
    {α:Type} {Q:α→Shared→Prop} {f:Value→Value→Sem α}
    (hf:∀ v u s2 x y H2,Inv X pins σ H2 s2→RelV x v→RelV y u→R x y H2→wpAny (model X.prog X.w) X.A (f v u) Q X.xe s2) :
    wpAny (model X.prog X.w) X.A (eval a X.env) (fun v s₁=>wpAny (model X.prog X.w) X.A (eval b X.env) (fun u s₂=>wpAny (model X.prog X.w) X.A (f v u) Q X.xe s₂) X.xe s₁) X.xe s:=by
  refine thn (ha pins s σ H _ I h) fun v s1 ⟨x,H1,I1,r1,q1⟩=>?_
  refine thn (hb pins s1 σ H1 _ I1 q1) fun u s2 ⟨y,H2,I2,r2,q2⟩=>?_
  exact hf v u s2 x y H2 I2 r1 r2 q2
def tVar (i:Nat):TE:=fun σ H Q=>∃ v,σ[i]? = some (some v)∧Q v H
def tC (v:V):TE:=fun _ H Q=>Q v H
theorem pe_var {i:Nat} {x:Str} {pos:Pos} (hN:X.N[i]? = some x) (hv:Vis X.env.scope x) (hd:(x == ("__debug__":Str)) = false:=by decide) (hcd:(x == ("__classdict__":Str)) = false:=by decide):PE X (.Name x pos) (tVar i):=by
  intro pins s σ H Q I h
  obtain ⟨v,e,h⟩:=h
  obtain ⟨m,hn,hl⟩:=I.loc
  obtain ⟨u,r,l⟩:=hl i x v hN e hv
  have fin:EP X pins σ Q u s:=⟨v,H,I,r,h⟩
  rcases l with ⟨hk,hm⟩ | ⟨hk,c,hc,hcell⟩
  · exact wpAny_Name (wpAny_loadName_local I.ok.kind hk hn hm fin) hd
  · rcases hk with hk | hk
    · exact wpAny_Name (wpAny_loadName_cell I.ok.kind hk hc hcell fin) hd
    · exact wpAny_Name (wpAny_loadName_free I.ok.kind hk hc hcell fin hcd) hd
theorem pe_int {i j pos}:PE X (.Constant (.int i) j pos) (tC (.int i)):=fun _ _ _ H _ I h=>wpAny_Constant_int ⟨.int i,H,I.tok _,⟨_,rfl⟩,h⟩
theorem pe_bl {b j pos}:PE X (.Constant (.bool b) j pos) (tC (.bl b)):=fun _ _ _ H _ I h=>Constant_bool ⟨.bl b,H,I,rfl,h⟩
theorem pe_non {j pos}:PE X (.Constant .none j pos) (tC .non):=fun _ _ _ H _ I h=>Constant_none ⟨.non,H,I,rfl,h⟩
theorem pe_str {x j pos}:PE X (.Constant (.str x) j pos) (tC (.str x)):=fun _ _ _ H _ I h=>Calls.Constant_str ⟨.str x,H,I.tok _,⟨_,rfl⟩,h⟩
def Gl (X:Cx) (x:Str):Prop:=X.env.kindOf x = some .globalImplicit
theorem ld_glob {E:Value→Shared→Prop} {pins:List (Addr × Obj)} {s:Shared} {σ:St} {H:Hp} {x:Str} {u:Value} {pos:Pos} {Q:Value→Shared→Prop} (I:Inv X pins σ H s) (hg:Gl X x) (hm:X.mg x = some u) (h:Q u s)
    (hd:(x == ("__debug__":Str)) = false:=by decide):wpAny (model X.prog X.w) X.A (eval (.Name x pos) X.env) Q E s:=
  Calls.Name_function_global I.ok.kind hg (Calls.loadGlobal_global (by rw [I.ok.glob]; exact I.mod.glob.keeps I.bk) hm h) hd
theorem ld_blt {E:Value→Shared→Prop} {pins:List (Addr × Obj)} {s:Shared} {σ:St} {H:Hp} {x:Str} {u:Value} {pos:Pos} {Q:Value→Shared→Prop} (I:Inv X pins σ H s) (hg:Gl X x) (hm:X.mg x = none) (hv:bootBuiltins x = some u) (h:Q u s)
    (hn:x ≠ "__name__":=by decide) (hd:(x == ("__debug__":Str)) = false:=by decide):wpAny (model X.prog X.w) X.A (eval (.Name x pos) X.env) Q E s:=by
  obtain ⟨mb,h1,h2⟩:=I.mod.blt
  exact Calls.Name_function_global I.ok.kind hg (Calls.loadGlobal_builtin (by rw [I.ok.glob]; exact I.mod.glob.keeps I.bk) hm (by rw [I.ok.blt]; exact h1.keeps I.bk) ((h2 x hn).trans hv) h) hd
theorem pe_glob {x:Str} {v:V} {u:Value} {pos:Pos} (hg:Gl X x) (hm:X.mg x = some u) (r:RelV v u) (hd:(x == ("__debug__":Str)) = false:=by decide):PE X (.Name x pos) (tC v):=
  fun _ _ _ H _ I h=>ld_glob I hg hm ⟨v,H,I,r,h⟩ hd
theorem pe_bltn {x:Str} {v:V} {u:Value} {pos:Pos} (hg:Gl X x) (hm:X.mg x = none) (hv:bootBuiltins x = some u) (r:RelV v u) (hn:x ≠ "__name__":=by decide) (hd:(x == ("__debug__":Str)) = false:=by decide):PE X (.Name x pos) (tC v):=
  fun _ _ _ H _ I h=>ld_blt I hg hm hv ⟨v,H,I,r,h⟩ hn hd
variable {a b:Expr} {ta tb:TE} {pos:Pos}
def PC (X:Cx) (op:CmpOp) (a b:Expr) (t:TE):Prop:=
  ∀ (pins:List (Addr × Obj)) (s:Shared) (σ:St) (H:Hp) (Q:VK),Inv X pins σ H s→t σ H Q→
    wpAny (model X.prog X.w) X.A (eval a X.env) (fun v s₁=>wpAny (model X.prog X.w) X.A (eval b X.env) (fun u s₂=>wpAny (model X.prog X.w) X.A (compareOp op v u) (EP X pins σ Q) X.xe s₂) X.xe s₁) X.xe s
def tB (t:TE):TT:=fun σ H Q=>t σ H fun x H1=>∃ c,x = .bl c∧Q c H1
theorem pt_cmp {op:CmpOp} {t:TE} (h:PC X op a b t) (h1:behindInMarks op b = false:=by first | exact nobehind _ (by decide) (by decide) | rfl):PT X (.Compare a [op] [b] pos) (tB t):=by
  intro pins s σ H Q I hw
  refine wpAny_isTrue_Compare1 (thn (h pins s σ H _ I hw) fun v s1 h1=>thn h1 fun u s2 h2=>thn h2 fun c s3 ⟨x,H1,I1,r1,q1⟩=>?_) h1
  obtain ⟨d,rfl,q⟩:=q1
  cases r1
  exact wpAny_truthy_bool ⟨H1,I1,q⟩
theorem pt_val {e:Expr} {t:TE} (h:PE X e t) (he:∀ whole,isTrue e X.env whole = (do let v ← whole; standAt e.pos; holding [v] (truthy v)):=by intro _; rfl):PT X e (tB t):=by
  intro pins s σ H Q I hw
  refine isTrue_plain (thn (h pins s σ H _ I hw) fun v s1 ⟨x,H1,I1,r1,q1⟩=>?_) (he _)
  obtain ⟨d,rfl,q⟩:=q1
  cases r1
  exact wpAny_truthy_bool ⟨H1,I1,q⟩
variable {tA tB':TT} {rest:List Expr}
def tAnd (t u:TT):TT:=fun σ H Q=>t σ H fun c H1=>if c = true then u σ H1 Q else Q false H1
def tOr (t u:TT):TT:=fun σ H Q=>t σ H fun c H1=>if c = true then Q true H1 else u σ H1 Q
def tNot (t:TT):TT:=fun σ H Q=>t σ H fun c H1=>Q (!c) H1
theorem pw_and1 (ha:PT X a tA):PW X (.BoolOp .And [a] pos) tA:=by
  intro wh pins s σ H Q I h
  refine isTrue_and (thn (ha pins s σ H Q I h) fun c s1 e=>?_)
  cases c with
  | true=>exact isTrue_and_nil e
  | false=>exact e
theorem pw_or1 (ha:PT X a tA):PW X (.BoolOp .Or [a] pos) tA:=by
  intro wh pins s σ H Q I h
  refine isTrue_or (thn (ha pins s σ H Q I h) fun c s1 e=>?_)
  cases c with
  | false=>exact isTrue_or_nil e
  | true=>exact e
theorem pw_and (ha:PT X a tA) (hb:PW X (.BoolOp .And (b :: rest) pos) tB'):PW X (.BoolOp .And (a :: b :: rest) pos) (tAnd tA tB'):=by
  intro wh pins s σ H Q I h
  refine isTrue_and (thn (ha pins s σ H _ I h) fun c s1 ⟨H1,I1,q1⟩=>?_)
  cases c with
  | true=>exact hb wh pins s1 σ H1 Q I1 q1
  | false=>exact ⟨H1,I1,q1⟩
theorem pw_or (ha:PT X a tA) (hb:PW X (.BoolOp .Or (b :: rest) pos) tB'):PW X (.BoolOp .Or (a :: b :: rest) pos) (tOr tA tB'):=by
  intro wh pins s σ H Q I h
  refine isTrue_or (thn (ha pins s σ H _ I h) fun c s1 ⟨H1,I1,q1⟩=>?_)
  cases c with
  | true=>exact ⟨H1,I1,q1⟩
  | false=>exact hb wh pins s1 σ H1 Q I1 q1
theorem pt_not (ha:PT X a tA):PT X (.UnaryOp .Not a pos) (tNot tA):=by
  intro pins s σ H Q I h
  exact isTrue_not (ha pins s σ H (fun c H1=>Q (!c) H1) I h)
def tAndV (ta tb:TE):TE:=fun σ H Q=>ta σ H fun x H1=>∃ c,x = .bl c∧if c = true then tb σ H1 Q else Q (.bl false) H1
def tNotV (ta:TE):TE:=fun σ H Q=>ta σ H fun x H1=>∃ c,x = .bl c∧Q (.bl (!c)) H1
theorem pe_one {op} {t:TE} (h:PE X a t):PE X (.BoolOp op [a] pos) t:=fun pins s σ H Q I hw=>BoolOp_one (h pins s σ H Q I hw)
theorem pe_and (ha:PE X a ta) (hb:PE X (.BoolOp .And (b :: rest) pos) tb):PE X (.BoolOp .And (a :: b :: rest) pos) (tAndV ta tb):=by
  intro pins s σ H Q I h
  refine BoolOp_and (thn (ha pins s σ H _ I h) fun v s1 ⟨x,H1,I1,r1,q1⟩=>?_)
  obtain ⟨c,rfl,q1⟩:=q1
  cases r1
  refine wpAny_truthy_bool ?_
  cases c with
  | true=>exact hb pins s1 σ H1 Q I1 q1
  | false=>exact ⟨.bl false,H1,I1,rfl,q1⟩
theorem pe_not (ha:PE X a ta):PE X (.UnaryOp .Not a pos) (tNotV ta):=by
  intro pins s σ H Q I h
  refine UnaryOp_ (thn (ha pins s σ H _ I h) fun v s1 ⟨x,H1,I1,r1,q1⟩=>?_)
  obtain ⟨c,rfl,q1⟩:=q1
  cases r1
  exact not_of (wpAny_truthy_bool ⟨.bl (!c),H1,I1,rfl,q1⟩)
end
end L2
namespace L2
open PySem PySem.Spec PyProof.Rows
def SqL (K:PySem.W.Frag) (H:Hp) (a:Addr) (xs:List V):Prop:=
  Rd H a (.lst xs) ∨
    ∃ (o:Obj) (its:Array Value) (n:Nat),K.lookup a = some o∧o.cls = .type "list"∧o.dict = none∧o.data = .seq its n∧its.size ≤ sizeLine∧Vals xs its.toList
def SqT (K:PySem.W.Frag) (H:Hp) (a:Addr) (xs:List V):Prop:=
  Rd H a (.tup xs) ∨
    ∃ (o:Obj) (its:Array Value) (n:Nat),K.lookup a = some o∧o.cls = .type "tuple"∧o.data = .seq its n∧its.size ≤ sizeLine∧Vals xs its.toList
def absV:Value→Option V
  | .none=>some .non
  | .bool b=>some (.bl b)
  | .int i _=>some (.int i)
  | .str x _=>some (.str x)
  | .bytes b _=>some (.byt b)
  | .float b _=>some (.flt b)
  | .ref a=>some (.ref a)
  | .type n=>some (.ty n)
  | _=>none
theorem RelV.abs {x:V} {u:Value} (r:RelV x u):absV u = some x:=by
  cases x with
  | non=>cases r; rfl
  | bl _=>cases r; rfl
  | int _=>obtain ⟨t,rfl⟩:=r; rfl
  | str _=>obtain ⟨t,rfl⟩:=r; rfl
  | byt _=>obtain ⟨t,rfl⟩:=r; rfl
  | flt _=>obtain ⟨t,rfl⟩:=r; rfl
  | ref _=>cases r; rfl
  | ty _=>cases r; rfl
theorem RelV.inj {x y:V} {u:Value} (r:RelV x u) (q:RelV y u):x = y:=Option.some.inj (r.abs.symm.trans q.abs)
theorem Vals.inj:∀ {xs ys:List V} {us:List Value},Vals xs us→Vals ys us→xs = ys
  | _,_,_,.nil,.nil=>rfl
  | _,_,_,.cons r t,.cons r' t'=>by rw [r.inj r',Vals.inj t t']
section
variable {X:Cx} {pins:List (Addr × Obj)} {σ:St} {H:Hp} {s:Shared} {a:Addr} {xs ys:List V}
theorem SqL.of {K:PySem.W.Frag} (h:H a = some (.lst xs)):SqL K H a xs:=.inl (.inl h)
theorem SqT.of {K:PySem.W.Frag} (h:H a = some (.tup xs)):SqT K H a xs:=.inl (.inl h)
theorem Inv.list (I:Inv X pins σ H s) (h:SqL X.K H a xs):∃ its:List Value,Vals xs its∧PlainL s.heap a its.toArray∧xs.length ≤ sizeLine:=by
  rcases h with h | ⟨o,its,n,hk,hc,hd,hs,hz,r⟩
  · obtain ⟨z,its,n,r,e⟩:=h.ok I.hok
    exact ⟨its,r,⟨_,n,e,rfl,rfl,rfl⟩,z⟩
  · refine ⟨its.toList,r,⟨o,n,I.kIn a o hk,hc,hd,by simpa using hs⟩,?_⟩
    have e:=r.length
    simp only [Array.length_toList] at e
    omega
theorem Inv.tuple (I:Inv X pins σ H s) (h:SqT X.K H a xs):∃ its:List Value,Vals xs its∧IsTup s.heap a its.toArray∧xs.length ≤ sizeLine:=by
  rcases h with h | ⟨o,its,n,hk,hc,hs,hz,r⟩
  · obtain ⟨z,its,r,p⟩:=h.ok I.hok
    exact ⟨its,r,p,z⟩
  · refine ⟨its.toList,r,⟨o,I.kIn a o hk,hc,n,by simpa using hs⟩,?_⟩
    have e:=r.length
    simp only [Array.length_toList] at e
    omega
theorem Inv.list_inj (I:Inv X pins σ H s) (h:SqL X.K H a xs) (h':SqL X.K H a ys):xs = ys:=by
  obtain ⟨its,r,⟨o,n,e,_,_,d⟩,_⟩:=I.list h
  obtain ⟨its',r',⟨o',n',e',_,_,d'⟩,_⟩:=I.list h'
  rw [e] at e'; cases e'
  rw [d] at d'
  injection d' with d1 _
  have:its = its':=by simpa using congrArg Array.toList d1
  subst this
  exact r.inj r'
end
abbrev Cx.wish (X:Cx) (E:Value→Shared→Prop):Cx:={ X with xe:=E }
abbrev Cx.nox (X:Cx):Cx:=X.wish fun _ _=>False
theorem Cx.Ok.wish {X:Cx} (ok:X.Ok) (E:Value→Shared→Prop):(X.wish E).Ok:=
  ⟨ok.mod,ok.kind,ok.glob,ok.blt,ok.above,ok.inj,ok.has,ok.cab,ok.hd,ok.frames,ok.stk,ok.exf,ok.bs,ok.bsz,ok.noex,ok.exfs,ok.funs,ok.frf⟩
theorem Cx.Ok.unwish {X:Cx} {E:Value→Shared→Prop} (ok:(X.wish E).Ok):X.Ok:=
  ⟨ok.mod,ok.kind,ok.glob,ok.blt,ok.above,ok.inj,ok.has,ok.cab,ok.hd,ok.frames,ok.stk,ok.exf,ok.bs,ok.bsz,ok.noex,ok.exfs,ok.funs,ok.frf⟩
section
variable {X:Cx} {pins:List (Addr × Obj)} {σ:St} {H:Hp} {s:Shared} {E:Value→Shared→Prop}
theorem Inv.wish (I:Inv X pins σ H s) (E:Value→Shared→Prop):Inv (X.wish E) pins σ H s:=⟨I.ok.wish E,I.os,I.bare,I.base,I.loc,I.cell,I.free,I.freeC,I.pin,I.hok,I.len⟩
theorem Inv.unwish (I:Inv (X.wish E) pins σ H s):Inv X pins σ H s:=⟨I.ok.unwish,I.os,I.bare,I.base,I.loc,I.cell,I.free,I.freeC,I.pin,I.hok,I.len⟩
theorem SP.unwish {D:Ends} {f:Flow} {s':Shared} (h:SP (X.wish E) pins D f s'):SP X pins D f s':=by
  cases f with
  | next=>obtain ⟨σ',H',I,q⟩:=h; exact ⟨σ',H',I.unwish,q⟩
  | brk=>obtain ⟨σ',H',I,q⟩:=h; exact ⟨σ',H',I.unwish,q⟩
  | cont=>obtain ⟨σ',H',I,q⟩:=h; exact ⟨σ',H',I.unwish,q⟩
  | ret u=>obtain ⟨v,σ',H',I,r,q⟩:=h; exact ⟨v,σ',H',I.unwish,r,q⟩
theorem PSs.nox {st:List Stmt} {t:TS} (h:PSs X.nox st t):PSs X st t:=fun pins s σ H D I hw=>
  wpAny_mono (h pins s σ H D (I.wish _) hw) (fun _ _ q=>q.unwish) fun _ _ z=>False.elim z
end
section
variable {X:Cx} {st:Stmt} {rest:List Stmt} {t u:TS} {e:Expr} {te:TE} {pos:Pos}
def tNext:TS:=fun D σ H=>D.nx σ H
def tSeq (t u:TS):TS:=fun D σ H=>t { D with nx:=u D } σ H
theorem pss_nil:PSs X [] tNext:=fun _ _ σ H _ I h=>wpAny_execs_nil ⟨σ,H,I,h⟩
theorem pss_cons (h1:PS X st t) (h2:PSs X rest u):PSs X (st :: rest) (tSeq t u):=by
  intro pins s σ H D I h
  refine wpAny_execs_cons (thn (h1 pins s σ H { D with nx:=u D } I h) fun f s1 q=>?_)
  cases f with
  | next=>
    obtain ⟨σ',H',I',q⟩:=q
    exact h2 pins s1 σ' H' D I' q
  | ret v=>exact q
  | brk=>exact q
  | cont=>exact q
theorem pss_one (h1:PS X st t):PSs X [st] t:=by
  intro pins s σ H D I h
  refine wpAny_execs_cons (thn (h1 pins s σ H D I h) fun f s1 q=>?_)
  cases f with
  | next=>exact wpAny_execs_nil q
  | ret v=>exact q
  | brk=>exact q
  | cont=>exact q
theorem Inv.quiet {pins:List (Addr × Obj)} {σ:St} {H:Hp} {s:Shared} (I:Inv X pins σ H s):interactive X.env = false:=by simp [interactive,I.ok.kind]
def tDrop (te:TE):TS:=fun D σ H=>te σ H fun _ H1=>D.nx σ H1
theorem ps_expr (he:PE X e te) (hs:swapsWith e none pos.line X.env = pure false:=by rfl):PS X (.Expr e pos) (tDrop te):=by
  intro pins s σ H D I h
  exact wpAny_Expr_any (thn (he pins s σ H _ I h) fun v s1 ⟨x,H1,I1,r1,q1⟩=>⟨σ,H1,I1,q1⟩) I.quiet hs
def tRet (te:TE):TS:=fun D σ H=>te σ H D.rt
theorem ps_ret (he:PE X e te):PS X (.Return (some e) pos) (tRet te):=by
  intro pins s σ H D I h
  exact wpAny_Return_some (thn (he pins s σ H _ I h) fun v s1 ⟨x,H1,I1,r1,q1⟩=>⟨x,σ,H1,I1,r1,q1⟩)
def tIfS (c:TT) (t u:TS):TS:=fun D σ H=>c σ H fun b H1=>if b = true then t D σ H1 else u D σ H1
theorem ps_if {c:Expr} {a b:List Stmt} {tc:TT} (hc:PT X c tc) (ha:PSs X a t) (hb:PSs X b u):PS X (.If c a b pos) (tIfS tc t u):=by
  intro pins s σ H D I h
  refine wpAny_If (thn (hc pins s σ H _ I h) fun d s1 ⟨H1,I1,q1⟩=>?_)
  cases d with
  | true=>exact ha pins s1 σ H1 D I1 q1
  | false=>exact hb pins s1 σ H1 D I1 q1
def tNever:TS:=fun _ _ _=>False
theorem pss_never {sts:List Stmt}:PSs X sts tNever:=fun _ _ _ _ _ _ h=>h.elim
end
abbrev TG:=V→St→Hp→(St→Hp→Prop)→Prop
abbrev TGs:=List V→St→Hp→(St→Hp→Prop)→Prop
def PG (X:Cx) (target:Expr) (t:TG):Prop:=
  ∀ (pins:List (Addr × Obj)) (s:Shared) (σ:St) (H:Hp) (v:V) (u:Value) (Q:St→Hp→Prop),Inv X pins σ H s→RelV v u→t v σ H Q→
    wpAny (model X.prog X.w) X.A (assign target X.env u) (fun _ s'=>∃ σ' H',Inv X pins σ' H' s'∧Q σ' H') X.xe s
def PGs (X:Cx) (ts:List Expr) (t:TGs):Prop:=
  ∀ (pins:List (Addr × Obj)) (s:Shared) (σ:St) (H:Hp) (vs:List V) (us:List Value) (Q:St→Hp→Prop),Inv X pins σ H s→Vals vs us→t vs σ H Q→
    wpAny (model X.prog X.w) X.A (assignInOrder ((assignEach ts X.env).map (·.2)) us) (fun _ s'=>∃ σ' H',Inv X pins σ' H' s'∧Q σ' H') X.xe s
abbrev TSet:=V→V→V→Hp→(Hp→Prop)→Prop
def PSet (X:Cx) (t:TSet):Prop:=
  ∀ (pins:List (Addr × Obj)) (s:Shared) (σ:St) (H:Hp) (o i v:V) (ov iv u:Value) (Q:Hp→Prop),Inv X pins σ H s→RelV o ov→RelV i iv→RelV v u→t o i v H Q→
    wpAny (model X.prog X.w) X.A (setItem ov iv u) (fun _ s'=>∃ H',Inv X pins σ H' s'∧Q H') X.xe s
abbrev TIp:=V→V→Hp→VK→Prop
def PIp (X:Cx) (op:Operator) (t:TIp):Prop:=
  ∀ (pins:List (Addr × Obj)) (s:Shared) (σ:St) (H:Hp) (x y:V) (v u:Value) (Q:VK),Inv X pins σ H s→RelV x v→RelV y u→t x y H Q→
    wpAny (model X.prog X.w) X.A (inplaceOp op v u) (EP X pins σ Q) X.xe s
section
variable {X:Cx} {pos:Pos}
def gName (i:Nat):TG:=fun v σ H Q=>Q (σ.set i (some v)) H
theorem pg_name {i:Nat} {x:Str} (hN:X.N.Nodup) (hi:X.N[i]? = some x) (hx:Loc X.env.scope x) (hf:X.fn x = true ∨ X.env.scope.names.lookup x = some .local:=by first | exact .inl rfl | exact .inr rfl | assumption):PG X (.Name x pos) (gName i):=by
  intro pins s σ H v u Q I r h
  exact wpAny_assign_Name (store_ok I hN hi hx r (fun s' I'=>⟨_,H,I',h⟩) hf)
def gNil:TGs:=fun vs σ H Q=>vs = []∧Q σ H
def gCons (t:TG) (u:TGs):TGs:=fun vs σ H Q=>∃ v r,vs = v :: r∧t v σ H fun σ' H'=>u r σ' H' Q
theorem pgs_nil:PGs X [] gNil:=by
  intro pins s σ H vs us Q I r h
  obtain ⟨e,h⟩:=h
  subst e
  cases r
  exact assignInOrder_nil ⟨σ,H,I,h⟩
theorem pgs_cons {e:Expr} {es:List Expr} {t:TG} {u:TGs} (h1:PG X e t) (h2:PGs X es u)
    (hs:(assignEach (e :: es) X.env).map (·.2) = assign e X.env :: (assignEach es X.env).map (·.2):=by rfl):PGs X (e :: es) (gCons t u):=by
  intro pins s σ H vs us Q I r h
  obtain ⟨v,vr,e1,h⟩:=h
  subst e1
  cases r with
  | cons r rr=>
    rw [hs]
    refine assignInOrder_cons (thn (h1 pins s σ H _ _ _ I r h) fun _ s1 ⟨σ1,H1,I1,q1⟩=>?_)
    exact h2 pins s1 σ1 H1 _ _ Q I1 rr q1
def gTup (K:PySem.W.Frag) (n:Nat) (t:TGs):TG:=fun v σ H Q=>∃ a xs,v = .ref a∧SqT K H a xs∧xs.length = n∧t xs σ H Q
theorem pg_tup {es:List Expr} {k:Nat} {t:TGs} {n:Nat} (hc:X.calm = true) (h:PGs X es t)
    (hn:(assignEach es X.env).length = n:=by rfl) (hst:(assignEach es X.env).findIdx? (·.1) = none:=by rfl):PG X (.Tuple es k pos) (gTup X.K n t):=by
  intro pins s σ H v u Q I r hw
  obtain ⟨a,xs,e1,hq,hl,hw⟩:=hw
  subst e1
  cases r
  obtain ⟨its,rv,ht,hz⟩:=I.tuple hq
  refine assign_Tuple_tuple (I.ok.hd hc) ht (by simp [hn,← hl,rv.length]) hst fun h' hx=>?_
  have I1:Inv X pins σ H { s with heap:=h' }:=I.kept (t':=s.toks) fun b o e=>hx b o (Nat.ne_of_lt (Heap.lt_size e)) e
  exact h pins _ σ H xs _ Q I1 (by simpa using rv) hw
def gSub (to ti:TE) (t:TSet):TG:=fun v σ H Q=>to σ H fun o H1=>ti σ H1 fun i H2=>t o i v H2 fun H3=>Q σ H3
theorem pg_sub {o i:Expr} {to ti:TE} {t:TSet} (ho:PE X o to) (hi:PE X i ti) (hs:PSet X t)
    (ha:∀ v,assign (.Subscript o i pos) X.env v = (do
      let ov ← holding [v] (eval o X.env)
      let iv ← holding [v,ov] (eval i X.env)
      standAt pos
      holding [v,ov,iv] (setItem ov iv v)
      release [v,ov,iv] []):=by intro _; rfl):PG X (.Subscript o i pos) (gSub to ti t):=by
  intro pins s σ H v u Q I r h
  rw [ha]
  refine wpAny_bind (wpAny_holding (thn (ho pins s σ H _ I h) fun ov s1 ⟨x,H1,I1,r1,q1⟩=>?_))
  refine wpAny_bind (wpAny_holding (thn (hi pins s1 σ H1 _ I1 q1) fun iv s2 ⟨y,H2,I2,r2,q2⟩=>?_))
  refine wpAny_bind (wpAny_standAt (wpAny_bind (wpAny_holding (thn (hs pins s2 σ H2 x y v ov iv u _ I2 r1 r2 r q2) fun _ s3 ⟨H3,I3,q3⟩=>?_))))
  exact wpAny_release ⟨σ,H3,I3,q3⟩
def tAsg (te:TE) (g:TG):TS:=fun D σ H=>te σ H fun x H1=>g x σ H1 D.nx
theorem ps_asg {tg e:Expr} {te:TE} {g:TG} (he:PE X e te) (hg:PG X tg g) (hs:swapsWithSole [tg] e pos.line X.env = pure false:=by rfl) (hw:swappedStores [tg] e X.env = pure none:=by rfl)
    (h1:(assignEach [tg] X.env).map (·.2) = [assign tg X.env]:=by rfl):PS X (.Assign [tg] e pos) (tAsg te g):=by
  intro pins s σ H D I h
  refine wpAny_Assign_stores (thn (he pins s σ H _ I h) fun v s1 ⟨x,H1,I1,r1,q1⟩=>?_) hs hw
  rw [h1]
  exact thn (hg pins s1 σ H1 x v _ I1 r1 q1) fun _ s2 q=>q
theorem ps_set {i:Nat} {x:Str} {e:Expr} {te:TE} {pos':Pos} (hN:X.N.Nodup) (hi:X.N[i]? = some x) (hx:Loc X.env.scope x) (he:PE X e te) (hs:swapsWith e (some (.Name x pos')) pos.line X.env = pure false:=by rfl) (hf:X.fn x = true ∨ X.env.scope.names.lookup x = some .local:=by first | exact .inl rfl | exact .inr rfl | assumption) :
    PS X (.Assign [.Name x pos'] e pos) (tAsg te (gName i)):=by
  intro pins s σ H D I h
  refine wpAny_Assign_Name (thn (he pins s σ H _ I h) fun v s1 ⟨y,H1,I1,r1,q1⟩=>?_) hs
  exact store_ok I1 hN hi hx r1 (fun s2 I2=>⟨_,H1,I2,q1⟩) hf
def tPar (i j:Nat) (ta:TA):TS:=fun D σ H=>ta σ H fun vs H1=>∃ v w,vs = [v,w]∧D.nx ((σ.set i (some v)).set j (some w)) H1
theorem ps_par {i j:Nat} {x y:Str} {a b:Expr} {ta:TA} {px py pt:Pos} {kt k2 pt2} (hc:X.calm = true) (hN:X.N.Nodup) (hi:X.N[i]? = some x) (hj:X.N[j]? = some y) (hij:i ≠ j)
    (hx:X.env.scope.names.lookup x = some .local) (hy:X.env.scope.names.lookup y = some .local) (ha:PA X [a,b] ta)
    (hw:swappedStores [.Tuple [.Name x px,.Name y py] kt pt] (.Tuple [a,b] k2 pt2) X.env = pure (some [x,y]))
    (hs:swapsWithSole [.Tuple [.Name x px,.Name y py] kt pt] (.Tuple [a,b] k2 pt2) pos.line X.env = pure false:=by rfl) :
    PS X (.Assign [.Tuple [.Name x px,.Name y py] kt pt] (.Tuple [a,b] k2 pt2) pos) (tPar i j ta):=by
  intro pins s σ H D I h
  rw [exec_Assign_arm]
  refine wpAny_bind (wpAny_standAt ?_)
  rw [hs]
  refine wpAny_bind (wpAny_pure ?_)
  rw [if_neg (by decide)]
  refine wpAny_bind (Tuple_ (thn (ha _ pins s σ H _ I h) fun us s1 ⟨vs,H1,I1,r1,q1⟩=>?_))
  obtain ⟨v,w,e1,q1⟩:=q1
  subst e1
  obtain ⟨u1,u2,rfl,rv,rw'⟩:∃ u1 u2,us = [u1,u2]∧RelV v u1∧RelV w u2:=by
    cases r1 with
    | cons p q=>
      cases q with
      | cons p' q'=>
        cases q'
        exact ⟨_,_,rfl,p,p'⟩
  refine wpAny_newObj_type ?_ (by show 2 ≤ sizeLine; decide)
  have I2:Inv X pins σ H1 { s1 with heap:=s1.heap.push { cls:=.type "tuple",data:=.seq [u1,u2].toArray } }:=I1.kept (t':=s1.toks) fun b o e=>Heap.get?_push_of_some _ e
  rw [hw]
  refine wpAny_bind (wpAny_pure ?_)
  show wpAny (model X.prog X.w) X.A (do rule "assign.swapped-stores"; let items ← unpackItems (.ref s1.heap.objs.size) 2 none; assignInOrder [fun v=>bindName X.env y v,fun v=>bindName X.env x v] items.reverse; pure Flow.next) _ _ _
  refine wpAny_bind (wpAny_rule (wpAny_bind (unpackItems_tuple (items:=#[u1,u2]) (I.ok.hd hc) (IsTup.new s1.heap _) fun h' hx'=>?_)))
  have I3:=I2.kept (h':=h') (t':=s1.toks) fun b o e=>hx' b o (Nat.ne_of_lt (Heap.lt_size e)) e
  show wpAny _ _ (assignInOrder [fun v=>bindName X.env y v,fun v=>bindName X.env x v] [u2,u1] >>= fun _=>pure Flow.next) _ _ _
  refine wpAny_bind (assignInOrder_cons (wpAny_bindName (store_ok I3 hN hj (.inl hy) rw' (fun s2 I4=>?_) (.inr hy))))
  refine assignInOrder_cons (wpAny_bindName (store_ok I4 hN hi (.inl hx) rv (fun s3 I5=>assignInOrder_nil (wpAny_pure ?_)) (.inr hx)))
  rw [List.set_comm _ _ (Ne.symm hij)] at I5
  exact ⟨_,H1,I5,q1⟩
def tAug (i:Nat) (te:TE) (ti:TIp):TS:=fun D σ H=>∃ x,σ[i]? = some (some x)∧te σ H fun y H1=>ti x y H1 fun z H2=>D.nx (σ.set i (some z)) H2
theorem ps_aug {i:Nat} {x:Str} {e:Expr} {te:TE} {op:Operator} {ti:TIp} {pos':Pos} (hN:X.N.Nodup) (hi:X.N[i]? = some x) (hx:Loc X.env.scope x) (he:PE X e te) (ho:PIp X op ti) (hf:X.fn x = true ∨ X.env.scope.names.lookup x = some .local:=by first | exact .inl rfl | exact .inr rfl | assumption) :
    PS X (.AugAssign (.Name x pos') op e pos) (tAug i te ti):=by
  intro pins s σ H D I h
  obtain ⟨v,e1,h⟩:=h
  obtain ⟨m,hn,hl⟩:=I.loc
  have vis:Vis X.env.scope x:=by rcases hx with k | k; exact .inl k; exact .inr (.inl k)
  obtain ⟨u,r,l⟩:=hl i x v hi e1 vis
  refine wpAny_AugAssign_Name ?_
  have go:wpAny (model X.prog X.w) X.A (eval e X.env) (fun w s₂=>wpAny (model X.prog X.w) X.A (inplaceOp op u w) (fun r s₃=>wpAny (model X.prog X.w) X.A (storeName X.env x r) (fun _=>SP X pins D .next) X.xe s₃) X.xe s₂) X.xe s:=by
    refine thn (he pins s σ H _ I h) fun w s1 ⟨y,H1,I1,r1,q1⟩=>?_
    refine thn (ho pins s1 σ H1 v y u w _ I1 r r1 q1) fun z s2 ⟨zv,H2,I2,r2,q2⟩=>?_
    exact store_ok I2 hN hi hx r2 (fun s3 I3=>⟨_,H2,I3,q2⟩) hf
  rcases l with ⟨hk,hm⟩ | ⟨hk,c,hc,hcell⟩
  · exact wpAny_loadName_local I.ok.kind hk hn hm go
  · rcases hk with hk | hk
    · exact wpAny_loadName_cell I.ok.kind hk hc hcell go
    · rcases hx with k | k
      · have:X.env.scope.names.lookup x = some .free:=hk
        rw [k] at this; cases this
      · have:X.env.scope.names.lookup x = some .free:=hk
        rw [k] at this; cases this
def ipI (f:Int→Int→Int):TIp:=fun x y H Q=>∃ i j,x = .int i∧y = .int j∧Q (.int (f i j)) H
theorem ip_add:PIp X .Add (ipI fun i j=>i + j):=by
  intro pins s σ H x y v u Q I r1 r2 h
  obtain ⟨i,j,e1,e2,q⟩:=h
  subst e1; subst e2
  obtain ⟨t,rfl⟩:=r1
  obtain ⟨t',rfl⟩:=r2
  exact iadd_int ⟨.int _,H,I.tok _,⟨_,rfl⟩,q⟩
end
section
variable {X:Cx} {pos:Pos}
def tWhile (c:TT) (tb:TS):TS:=fun D σ H=>∃ W:Nat→St→Hp→Prop,(∃ m,W m σ H)∧∀ m σ H,W m σ H→
  c σ H fun b H1=>if b = true then ∃ N:St→Hp→Prop,(∀ σ' H',N σ' H'→∃ m',m' < m∧W m' σ' H')∧tb { D with nx:=N,ct:=N,bk:=D.nx } σ H1 else D.nx σ H1
theorem ps_while {c:Expr} {body:List Stmt} {tc:TT} {tb:TS} (hp:PassesOwn (model X.prog X.w) X.A X.env X.xe) (hc:PT X c tc) (hb:PSs X body tb):PS X (.While c body [] pos) (tWhile tc tb):=by
  intro pins s σ H D I h
  obtain ⟨W,⟨m0,w0⟩,turn⟩:=h
  refine wpAny_While (codeAny_whileLoop (fun n s'=>∃ σ' H',Inv X pins σ' H' s'∧W n σ' H') ?_ m0 ⟨σ,H,I,w0⟩)
  rintro n s1 ⟨σ1,H1,I1,w1⟩
  refine wpAny_passesOwn hp (thn (hc pins s1 σ1 H1 _ I1 (turn n σ1 H1 w1)) fun b s2 ⟨H2,I2,q2⟩=>?_)
  cases b with
  | true=>
    obtain ⟨N,hN,q2⟩:=q2
    rw [if_pos rfl]
    refine wpAny_passesOwn hp (thn (hb pins s2 σ1 H2 _ I2 q2) fun f s3 q3=>?_)
    cases f with
    | next=>
      obtain ⟨σ3,H3,I3,n3⟩:=q3
      obtain ⟨m',hm,w3⟩:=hN σ3 H3 n3
      exact ⟨m',hm,σ3,H3,I3,w3⟩
    | cont=>
      obtain ⟨σ3,H3,I3,n3⟩:=q3
      obtain ⟨m',hm,w3⟩:=hN σ3 H3 n3
      exact ⟨m',hm,σ3,H3,I3,w3⟩
    | brk=>exact q3
    | ret v=>exact q3
  | false=>
    rw [if_neg Bool.false_ne_true]
    exact wpAny_execs_nil ⟨σ1,H2,I2,q2⟩
end
structure It where
  go:Nat→Hp→Prop
  yld:Nat→Hp→V→Hp→Prop
  stop:Nat→Hp→Prop
def FpOk (X:Cx) (pins:List (Addr × Obj)) (H:Hp) (b:Addr):Prop:=
  H b = none∧b ≠ X.env.locals∧b ∉ X.fs∧(b ∈ X.ex ∨ X.s₀.heap.objs.size ≤ b)∧(∀ x c,X.env.cells.lookup x = some c→c ≠ b)∧∀ p ∈ X.pn ++ pins,p.1 ≠ b
theorem Inv.fpOk {X:Cx} {pins:List (Addr × Obj)} {σ:St} {H H':Hp} {s:Shared} {b:Addr} (I:Inv X pins σ H s) (hb:s.heap.objs.size ≤ b) (hn:H' b = none):FpOk X pins H' b:=by
  refine ⟨hn,Nat.ne_of_gt (Nat.lt_of_lt_of_le I.lt hb),I.nofs hb,.inr (Nat.le_trans I.sz hb),fun x c e z=>?_,fun p hp z=>?_⟩
  · obtain ⟨v,q⟩:=I.cell x c e
    exact absurd (Nat.lt_of_lt_of_le q.lt (by rw [z]; exact hb)) (Nat.lt_irrefl _)
  · exact absurd (Nat.lt_of_lt_of_le (Heap.lt_size (I.pin p hp).1) (by rw [z]; exact hb)) (Nat.lt_irrefl _)
structure Turn (P:Program) (w:World) (K:PySem.W.Frag) (tg:Expr) (J:It) (fp:List Addr) (it:Addr) (tn:Nat→Heap→Prop):Prop where
  mem:it ∈ fp
  obj:∀ i h,tn i h→∀ b ∈ fp,∃ o,h.get? b = some o∧∀ v,o.data ≠ .cell v
  keep:∀ i h h',tn i h→(∀ b ∈ fp,∀ o,h.get? b = some o→h'.get? b = some o)→tn i h'
  item:∀ (X:Cx),X.prog = P→X.w = w→X.K = K→X.calm = true→∀ (i:Nat) (pins:List (Addr × Obj)) (s:Shared) (σ:St) (H:Hp) (E:Value→Shared→Prop),Inv X pins σ H s→(∀ b ∈ fp,FpOk X pins H b)→tn i s.heap→J.go i H→
    wpAny (model P w) X.A (pyNext (.ref it)) (fun r s1=>∃ u,r = some u∧
      wpAny (model P w) X.A (letOwnedTupleGo tg (.ref it) u) (fun _ s2=>∃ x H',Inv X pins σ H' s2∧RelV x u∧J.yld i H x H'∧tn (i + 1) s2.heap∧∀ b ∈ fp,H' b = none) E s1) E s
  done:∀ (X:Cx),X.prog = P→X.w = w→X.K = K→X.calm = true→∀ (i:Nat) (pins:List (Addr × Obj)) (s:Shared) (σ:St) (H:Hp) (E:Value→Shared→Prop),Inv X pins σ H s→(∀ b ∈ fp,FpOk X pins H b)→tn i s.heap→J.stop i H→
    wpAny (model P w) X.A (pyNext (.ref it)) (fun r s1=>r = none∧Inv X pins σ H s1) E s
  self:∀ (A:Around) (i:Nat) (s:Shared) (Q:Value→Shared→Prop) (E:Value→Shared→Prop),tn i s.heap→Q (.ref it) s→wpAny (model P w) A (pyIter (.ref it)) Q E s
abbrev TI:=St→Hp→(It→Hp→Prop)→Prop
def PIE (X:Cx) (pins:List (Addr × Obj)) (σ:St) (tg:Expr) (R:It→Hp→Prop) (itv:Value) (s2:Shared):Prop:=
  ∃ (it:Addr) (fp:List Addr) (tn:Nat→Heap→Prop) (J:It) (H':Hp),itv = .ref it∧Inv X pins σ H' s2∧Turn X.prog X.w X.K tg J fp it tn∧tn 0 s2.heap∧(∀ b ∈ fp,FpOk X pins H' b)∧R J H'
def PI (X:Cx) (tg iter:Expr) (wi:TI):Prop:=
  ∀ (pins:List (Addr × Obj)) (s:Shared) (σ:St) (H:Hp) (R:It→Hp→Prop),Inv X pins σ H s→wi σ H R→
    wpAny (model X.prog X.w) X.A (eval iter X.env) (fun v s1=>wpAny (model X.prog X.w) X.A (pyIter v) (PIE X pins σ tg R) X.xe s1) X.xe s
theorem go_of {M:Model} {A:Around} {E:Value→Shared→Prop} {s:Shared} {tg:Expr} {it:Addr} {u:Value} {o:Obj} {n:String} {vs:Array Value} {Q:Unit→Shared→Prop} (ho:s.heap.get? it = some o) (hc:o.cls = .type n) (hd:o.data = .fields vs)
    (hn:["enumerate","zip","dict_itemiterator","dict_reverseitemiterator","odict_iterator","itertools.zip_longest","itertools.pairwise"].contains n = false) (hQ:Q () s):wpAny M A (letOwnedTupleGo tg (.ref it) u) Q E s:=by
  unfold letOwnedTupleGo
  cases tg <;> first
    | exact wpAny_pure hQ
    | (cases u <;> first
        | exact wpAny_pure hQ
        | (refine wpAny_bind (wpAny_load ho ?_)
           rw [hc,hd]
           show wpAny M A (if (["enumerate","zip","dict_itemiterator","dict_reverseitemiterator","odict_iterator","itertools.zip_longest","itertools.pairwise"].contains n && vs[0]? == some (rawInt _)) = true then _ else _) Q E s
           rw [if_neg (by intro h; rw [hn,Bool.false_and] at h; cases h)]
           exact wpAny_pure hQ))
def Itl (K:PySem.W.Frag) (a:Addr):It:=
  ⟨fun i H=>∃ xs x,SqL K H a xs∧xs[i]? = some x,fun i H x H'=>H' = H∧∀ xs,SqL K H a xs→xs[i]? = some x,fun i H=>∃ xs,SqL K H a xs∧xs.length ≤ i⟩
def Itr (lo:Int) (n:Nat):It:=⟨fun i _=>i < n,fun i H x H'=>H' = H∧x = .int (lo + i),fun i _=>n ≤ i⟩
theorem turn_list {P:Program} {w:World} {K:PySem.W.Frag} {tg:Expr} (a it:Addr):Turn P w K tg (Itl K a) [it] it (fun i h=>h.IsListIter it a i) where
  mem:=by simp
  obj:=fun i h st b hb=>by
    have e:b = it:=by simpa using hb
    subst e
    obtain ⟨o,e,c,d⟩:=st
    exact ⟨o,e,fun v z=>by rw [d] at z; cases z⟩
  keep:=fun i h h' st k=>st.at fun o e=>k it (by simp) o e
  item:=by
    intro X hP hw hK hc i pins s σ H E I hf st hg
    subst hP hw hK
    obtain ⟨xs,x,hq,hx⟩:=hg
    obtain ⟨its,rv,p,hz⟩:=I.list hq
    obtain ⟨u,hu,ru⟩:=rv.get hx
    obtain ⟨f0,f1,f2,f3,f4,f5⟩:=hf it (by simp)
    refine wpAny_pyNext_list_item st p.isList (x:=u) (by simpa using hu) fun h' st' sb=>?_
    have I1:Inv X pins σ H { s with heap:=h' }:=I.turned (t':=s.toks) (fun b o hb e=>(sb.2 b hb).trans e) f0 f1 f3 f4 f5
    obtain ⟨o,e,c,d⟩:=id st'
    exact ⟨u,rfl,go_of (s:={ s with heap:=h' }) e c d (by decide) ⟨x,H,I1,ru,⟨rfl,fun ys hy=>by rw [I.list_inj hy hq]; exact hx⟩,st',fun b hb=>(hf b hb).1⟩⟩
  done:=by
    intro X hP hw hK hc i pins s σ H E I hf st hg
    subst hP hw hK
    obtain ⟨xs,hq,hx⟩:=hg
    obtain ⟨its,rv,p,hz⟩:=I.list hq
    obtain ⟨f0,f1,f2,f3,f4,f5⟩:=hf it (by simp)
    have hl:=rv.length
    exact wpAny_pyNext_list_end (I.ok.hd hc) st p.isList (by simp; omega) fun h' eb=>⟨rfl,I.turned (t':=s.toks) (fun b o hb e=>eb b o hb e) f0 f1 f3 f4 f5⟩
  self:=fun _ _ _ _ _ st h=>wpAny_pyIter_listiter st h
theorem turn_range {P:Program} {w:World} {K:PySem.W.Frag} {tg:Expr} (it:Addr) (lo:Int) (n:Nat):Turn P w K tg (Itr lo n) [it] it (fun i h=>IsRangeIter h it (lo + (i:Nat) * 1) ((n:Int) - (i:Nat)) 1) where
  mem:=by simp
  obj:=fun i h st b hb=>by
    have e:b = it:=by simpa using hb
    subst e
    exact ⟨_,st,fun v z=>by
      have z':Data.fields _ = Data.cell v:=z
      cases z'⟩
  keep:=fun i h h' st k=>k it (by simp) _ st
  item:=by
    intro X hP hw hK hc i pins s σ H E I hf st hg
    subst hP hw hK
    obtain ⟨f0,f1,f2,f3,f4,f5⟩:=hf it (by simp)
    have W:=Walks.range (prog:=X.prog) (w:=X.w) (I.ok.hd hc) it lo 1 n
    refine W.item i s _ _ hg st fun v h' tk hv st' kk=>?_
    obtain ⟨t,rfl⟩:=hv
    have I1:Inv X pins σ H { s with heap:=h',toks:=tk }:=I.turned (fun b o hb e=>kk b o (by simpa using hb) e) f0 f1 f3 f4 f5
    refine ⟨_,rfl,go_of (s:={ s with heap:=h',toks:=tk }) (n:="range_iterator") st' rfl rfl (by decide) ⟨.int (lo + i),H,I1,⟨t,?_⟩,⟨rfl,rfl⟩,st',fun b hb=>(hf b hb).1⟩⟩
    rw [Int.mul_one]
  done:=by
    intro X hP hw hK hc i pins s σ H E I hf st hg
    subst hP hw hK
    obtain ⟨f0,f1,f2,f3,f4,f5⟩:=hf it (by simp)
    exact wpAny_pyNext_range_end (I.ok.hd hc) st (by have:n ≤ i:=hg; omega) fun h' eb=>⟨rfl,I.turned (t':=s.toks) (fun b o hb e=>eb b o hb e) f0 f1 f3 f4 f5⟩
  self:=fun _ _ _ _ _ st h=>wpAny_pyIter_rangeiter st h
end L2
namespace L2
open PySem PySem.Spec PyProof.Rows
section
variable {X:Cx} {tg:Expr}
def iList (K:PySem.W.Frag) (tl:TE):TI:=fun σ H R=>tl σ H fun x H1=>∃ a,x = .ref a∧(∃ xs,SqL K H1 a xs)∧R (Itl K a) H1
theorem pi_list {l:Expr} {tl:TE} (hl:PE X l tl):PI X tg l (iList X.K tl):=by
  intro pins s σ H R I h
  refine thn (hl pins s σ H _ I h) fun v s1 ⟨x,H1,I1,r1,q1⟩=>?_
  obtain ⟨a,e,⟨xs,hq⟩,q⟩:=q1
  subst e
  cases r1
  obtain ⟨its,rv,p,hz⟩:=I1.list hq
  refine wpAny_pyIter_list p.isList ?_
  refine ⟨s1.heap.objs.size,[s1.heap.objs.size],_,_,H1,rfl,I1.kept (t':=s1.toks) fun b o e=>Heap.get?_push_of_some _ e,turn_list a _,⟨_,Heap.get?_push_size _ rfl,rfl,rfl⟩,fun b hb=>?_,q⟩
  have e:b = s1.heap.objs.size:=by simpa using hb
  subst e
  exact I1.fpOk (Nat.le_refl _) (I1.hok.fresh (Nat.le_refl _))
theorem range_it {pins:List (Addr × Obj)} {σ:St} {H:Hp} {s:Shared} {R:It→Hp→Prop} {E:Value→Shared→Prop} {lo hi:Int} {t u v:Tok} {tk:Nat} (I:Inv X pins σ H s) (h1:-(2 ^ 62) ≤ lo) (h2:lo < 2 ^ 62) (h3:-(2 ^ 62) ≤ hi) (h4:hi < 2 ^ 62)
    (q:R (Itr lo (hi - lo).toNat) H):wpAny (model X.prog X.w) X.A (pyIter (.ref s.heap.objs.size)) (PIE X pins σ tg R) E { s with heap:=s.heap.push { cls:=.type "range",data:=.fields #[.int lo t,.int hi u,.int 1 v] },toks:=tk }:=by
  refine wpAny_pyIter_range (IsRange.new ..) (small_one h1 h2 h3 h4) ?_
  have I1:Inv X pins σ H { s with heap:=s.heap.push { cls:=.type "range",data:=.fields #[.int lo t,.int hi u,.int 1 v] },toks:=tk }:=I.kept fun b o e=>Heap.get?_push_of_some _ e
  refine ⟨(s.heap.push { cls:=.type "range",data:=.fields #[.int lo t,.int hi u,.int 1 v] }).objs.size,[(s.heap.push { cls:=.type "range",data:=.fields #[.int lo t,.int hi u,.int 1 v] }).objs.size],_,_,H,rfl,
    I1.kept (t':=tk) fun b o e=>Heap.get?_push_of_some _ e,turn_range _ lo (hi - lo).toNat,?_,fun b hb=>?_,q⟩
  · have e1:lo + ((0:Nat):Int) * 1 = lo:=by simp
    have e2:(((hi - lo).toNat:Nat):Int) - ((0:Nat):Int) = Builtin.Range.rangeSize lo hi 1:=by rw [rangeSize_one]; split <;> omega
    show IsRangeIter _ _ (lo + ((0:Nat):Int) * 1) ((((hi - lo).toNat:Nat):Int) - ((0:Nat):Int)) 1
    rw [e1,e2]
    exact Heap.get?_push_size _ rfl
  · have e:b = (s.heap.push { cls:=.type "range",data:=.fields #[.int lo t,.int hi u,.int 1 v] }).objs.size:=by simpa using hb
    subst e
    exact I1.fpOk (Nat.le_refl _) (I1.hok.fresh (Nat.le_refl _))
def iRng1 (ta:TA):TI:=fun σ H R=>ta σ H fun vs H1=>∃ j:Int,vs = [.int j]∧-(2 ^ 62) ≤ j∧j < 2 ^ 62∧R (Itr 0 j.toNat) H1
def iRng2 (ta:TA):TI:=fun σ H R=>ta σ H fun vs H1=>∃ i j:Int,vs = [.int i,.int j]∧(-(2 ^ 62) ≤ i∧i < 2 ^ 62∧-(2 ^ 62) ≤ j∧j < 2 ^ 62)∧R (Itr i (j - i).toNat) H1
theorem pi_range1 {a:Expr} {ta:TA} {p pos:Pos} (hg:Gl X "range") (hm:X.mg "range" = none) (ha:PA X [a] ta) (hs:starEach [a] X.env = [(false,eval a X.env)]:=by rfl):PI X tg (.Call (.Name "range" p) [a] [] pos) (iRng1 ta):=by
  intro pins s σ H R I h
  refine Call_ (ld_blt I hg hm boot_range (PyProof.Rows.callWith_type1 (thn (ha pos pins s σ H _ I h) fun us s1 ⟨vs,H1,I1,r1,q1⟩=>?_) hs rfl))
  obtain ⟨j,e,q1,q2,q⟩:=q1
  subst e
  cases r1 with
  | cons r rr=>
    cases rr
    obtain ⟨t,rfl⟩:=r
    exact call_range_1 (range_it I1 (by omega) (by omega) q1 q2 (by simpa using q))
theorem pi_range2 {a b:Expr} {ta:TA} {p pos:Pos} (hg:Gl X "range") (hm:X.mg "range" = none) (ha:PA X [a,b] ta) (hs:starEach [a,b] X.env = [(false,eval a X.env),(false,eval b X.env)]:=by rfl) (hs2:starEach [b] X.env = [(false,eval b X.env)]:=by rfl) :
    PI X tg (.Call (.Name "range" p) [a,b] [] pos) (iRng2 ta):=by
  intro pins s σ H R I h
  refine Call_ (ld_blt I hg hm boot_range (PyProof.Rows.callWith_type1 (thn (ha pos pins s σ H _ I h) fun us s1 ⟨vs,H1,I1,r1,q1⟩=>?_) (by rw [hs,hs2]) (by rw [hs2]; rfl)))
  obtain ⟨i,j,e,⟨q1,q2,q3,q4⟩,q⟩:=q1
  subst e
  cases r1 with
  | cons r rr=>
    cases rr with
    | cons r' rr=>
      cases rr
      obtain ⟨t,rfl⟩:=r
      obtain ⟨t',rfl⟩:=r'
      exact call_range_2 (range_it I1 q1 q2 q3 q4 q)
def tFor (wi:TI) (g:TG) (tb:TS):TS:=fun D σ H=>wi σ H fun J H1=>∃ W:Nat→Nat→St→Hp→Prop,(∃ m,W 0 m σ H1)∧∀ i m σ H,W i m σ H→
  (J.stop i H∧D.nx σ H) ∨ (J.go i H∧∃ N:St→Hp→Prop,(∀ σ' H',N σ' H'→∃ m',m' < m∧W (i + 1) m' σ' H')∧∀ x H',J.yld i H x H'→g x σ H' fun σ2 H2=>tb { D with nx:=N,ct:=N,bk:=D.nx } σ2 H2)
def pinsAt (fp:List Addr) (h:Heap):List (Addr × Obj):=fp.filterMap fun b=>(h.get? b).map fun o=>(b,o)
theorem mem_pinsAt {fp:List Addr} {h:Heap} {b:Addr} {o:Obj} (hb:b ∈ fp) (e:h.get? b = some o):(b,o) ∈ pinsAt fp h:=List.mem_filterMap.mpr ⟨b,hb,by rw [e]; rfl⟩
theorem of_pinsAt {fp:List Addr} {h:Heap} {p:Addr × Obj} (hp:p ∈ pinsAt fp h):p.1 ∈ fp∧h.get? p.1 = some p.2:=by
  obtain ⟨b,hb,e⟩:=List.mem_filterMap.mp hp
  cases q:h.get? b with
  | none=>rw [q] at e; cases e
  | some o=>
    rw [q] at e
    have e':(b,o) = p:=Option.some.inj e
    subst e'
    exact ⟨hb,q⟩
theorem Inv.pinned {pins:List (Addr × Obj)} {σ:St} {H:Hp} {s:Shared} {fp:List Addr} (I:Inv X pins σ H s) (hf:∀ b ∈ fp,FpOk X pins H b) (ho:∀ b ∈ fp,∃ o,s.heap.get? b = some o∧∀ v,o.data ≠ .cell v):Inv X (pins ++ pinsAt fp s.heap) σ H s:=
  I.pins_of fun p hp=>(List.mem_append.mp hp).elim (fun z=>I.pin p (List.mem_append_right _ z)) fun z=>by
    obtain ⟨hb,e⟩:=of_pinsAt z
    obtain ⟨f0,f1,f2,_⟩:=hf p.1 hb
    obtain ⟨o,e',d⟩:=ho p.1 hb
    rw [e] at e'; cases e'
    exact ⟨e,f0,f1,f2,d⟩
theorem Inv.unpinned {pins pl:List (Addr × Obj)} {σ:St} {H:Hp} {s:Shared} (I:Inv X (pins ++ pl) σ H s):Inv X pins σ H s:=I.pins_of fun p hp=>I.pin p (List.mem_append_right _ (List.mem_append_left _ hp))
theorem ps_for {iter:Expr} {body:List Stmt} {wi:TI} {g:TG} {tb:TS} {pos:Pos} (hp:PassesOwn (model X.prog X.w) X.A X.env X.xe) (hc:X.calm = true) (hi:PI X tg iter wi) (hg:PG X tg g) (hb:PSs X body tb)
    (hs:∀ x,foldedSetIterable iter X.env x = pure x:=by intro _; rfl):PS X (.For tg iter body [] pos) (tFor wi g tb):=by
  intro pins s σ H D I h
  refine wpAny_For (thn (hi pins s σ H _ I h) fun v s1 h1=>thn h1 fun itv s2 h2=>?_) hs
  obtain ⟨it,fp,tn,J,H2,e,I2,T,st2,f2,W,⟨m0,w0⟩,turn⟩:=h2
  subst e
  have stat:∀ {H':Hp},(∀ b ∈ fp,H' b = none)→∀ b ∈ fp,FpOk X pins H' b:=fun hn b hb=>⟨hn b hb,(f2 b hb).2⟩
  refine codeAny_forLoop_any (fun n s'=>∃ i σ' H',Inv X pins σ' H' s'∧tn i s'.heap∧(∀ b ∈ fp,H' b = none)∧W i n σ' H') ?_ m0 ⟨0,σ,H2,I2,st2,fun b hb=>(f2 b hb).1,w0⟩
  rintro n s3 ⟨i,σ3,H3,I3,st3,fr3,w3⟩
  rcases turn i n σ3 H3 w3 with ⟨stop,qn⟩ | ⟨go,N,hN,step⟩
  · refine wpAny_passesOwn hp (thn (T.done X rfl rfl rfl hc i pins s3 σ3 H3 X.xe I3 (stat fr3) st3 stop) fun r s4 ⟨hr,I4⟩=>?_)
    subst hr
    exact wpAny_execs_nil ⟨σ3,H3,I4,qn⟩
  · refine wpAny_passesOwn hp (thn (T.item X rfl rfl rfl hc i pins s3 σ3 H3 X.xe I3 (stat fr3) st3 go) fun r s4 ⟨u,hr,h4⟩=>?_)
    subst hr
    refine wpAny_passesOwn hp (thn h4 fun _ s5 ⟨x,H5,I5,r5,y5,st5,fr5⟩=>?_)
    have I5':=I5.pinned (stat fr5) (T.obj _ _ st5)
    refine wpAny_passesOwn hp (thn (hg _ s5 σ3 H5 x u _ I5' r5 (step x H5 y5)) fun _ s6 ⟨σ6,H6,I6,q6⟩=>?_)
    refine wpAny_passesOwn hp (thn (hb _ s6 σ6 H6 _ I6 q6) fun f s7 q7=>?_)
    have again:∀ {σ7:St} {H7:Hp},Inv X (pins ++ pinsAt fp s5.heap) σ7 H7 s7→N σ7 H7→∃ m,m < n∧∃ i σ' H',Inv X pins σ' H' s7∧tn i s7.heap∧(∀ b ∈ fp,H' b = none)∧W i m σ' H':=fun {σ7 H7} I7 n7=>by
      obtain ⟨m',hm,w7⟩:=hN σ7 H7 n7
      refine ⟨m',hm,i + 1,σ7,H7,I7.unpinned,T.keep _ _ _ st5 fun b hb o e=>(I7.pin (b,o) (List.mem_append_right _ (List.mem_append_right _ (mem_pinsAt hb e)))).1,fun b hb=>?_,w7⟩
      obtain ⟨o,e,d⟩:=T.obj _ _ st5 b hb
      exact (I7.pin (b,o) (List.mem_append_right _ (List.mem_append_right _ (mem_pinsAt hb e)))).2.1
    cases f with
    | next=>obtain ⟨σ7,H7,I7,n7⟩:=q7; exact again I7 n7
    | cont=>obtain ⟨σ7,H7,I7,n7⟩:=q7; exact again I7 n7
    | brk=>obtain ⟨σ7,H7,I7,q7⟩:=q7; exact ⟨σ7,H7,I7.unpinned,q7⟩
    | ret v=>obtain ⟨x7,σ7,H7,I7,r7,q7⟩:=q7; exact ⟨x7,σ7,H7,I7.unpinned,r7,q7⟩
end
theorem for_list {K:PySem.W.Frag} {a:Addr} {xs:List V} {g:TG} {tb:TS} {D:Ends} {σ:St} {H:Hp} (Pv:Nat→St→Hp→Prop) (h0:Pv 0 σ H) (hl:∀ i σ H,i ≤ xs.length→Pv i σ H→SqL K H a xs)
    (hs:∀ i x σ H,xs[i]? = some x→Pv i σ H→g x σ H fun σ2 H2=>tb { D with nx:=Pv (i + 1),ct:=Pv (i + 1),bk:=D.nx } σ2 H2) (hd:∀ σ H,Pv xs.length σ H→D.nx σ H) :
    ∃ W:Nat→Nat→St→Hp→Prop,(∃ m,W 0 m σ H)∧∀ i m σ H,W i m σ H→
      ((Itl K a).stop i H∧D.nx σ H) ∨ ((Itl K a).go i H∧∃ N:St→Hp→Prop,(∀ σ' H',N σ' H'→∃ m',m' < m∧W (i + 1) m' σ' H')∧∀ x H',(Itl K a).yld i H x H'→g x σ H' fun σ2 H2=>tb { D with nx:=N,ct:=N,bk:=D.nx } σ2 H2):=by
  refine ⟨fun i m σ H=>m = xs.length - i∧i ≤ xs.length∧Pv i σ H,⟨xs.length,by simp,Nat.zero_le _,h0⟩,?_⟩
  rintro i m σ H ⟨rfl,hi,p⟩
  have q:=hl i σ H hi p
  by_cases hlt:i < xs.length
  · refine .inr ⟨⟨xs,xs[i],q,by simp [hlt]⟩,Pv (i + 1),fun σ' H' p'=>⟨xs.length - (i + 1),by omega,rfl,hlt,p'⟩,fun x H' y=>?_⟩
    obtain ⟨e,y⟩:=y
    subst e
    exact hs i x σ _ (y xs q) p
  · have e:i = xs.length:=by omega
    subst e
    exact .inl ⟨⟨xs,q,Nat.le_refl _⟩,hd σ H p⟩
theorem for_range {lo:Int} {n:Nat} {g:TG} {tb:TS} {D:Ends} {σ:St} {H:Hp} (Pv:Nat→St→Hp→Prop) (h0:Pv 0 σ H)
    (hs:∀ i σ H,i < n→Pv i σ H→g (.int (lo + i)) σ H fun σ2 H2=>tb { D with nx:=Pv (i + 1),ct:=Pv (i + 1),bk:=D.nx } σ2 H2) (hd:∀ σ H,Pv n σ H→D.nx σ H) :
    ∃ W:Nat→Nat→St→Hp→Prop,(∃ m,W 0 m σ H)∧∀ i m σ H,W i m σ H→
      ((Itr lo n).stop i H∧D.nx σ H) ∨ ((Itr lo n).go i H∧∃ N:St→Hp→Prop,(∀ σ' H',N σ' H'→∃ m',m' < m∧W (i + 1) m' σ' H')∧∀ x H',(Itr lo n).yld i H x H'→g x σ H' fun σ2 H2=>tb { D with nx:=N,ct:=N,bk:=D.nx } σ2 H2):=by
  refine ⟨fun i m σ H=>m = n - i∧i ≤ n∧Pv i σ H,⟨n,by simp,Nat.zero_le _,h0⟩,?_⟩
  rintro i m σ H ⟨rfl,hi,p⟩
  by_cases hlt:i < n
  · refine .inr ⟨hlt,Pv (i + 1),fun σ' H' p'=>⟨n - (i + 1),by omega,rfl,hlt,p'⟩,fun x H' y=>?_⟩
    obtain ⟨e,y⟩:=y
    subst e y
    exact hs i σ _ hlt p
  · have e:i = n:=by omega
    subst e
    exact .inl ⟨Nat.le_refl _,hd σ H p⟩
end L2
namespace L2
open PySem PySem.Spec PyProof.Rows
abbrev R2:=V→V→Hp→VK→Prop
def OpR (X:Cx) (f:Value→Value→Sem Value) (r:R2):Prop:=
  ∀ (pins:List (Addr × Obj)) (s:Shared) (σ:St) (H:Hp) (x y:V) (v u:Value) (Q:VK),Inv X pins σ H s→RelV x v→RelV y u→r x y H Q→
    wpAny (model X.prog X.w) X.A (f v u) (EP X pins σ Q) X.xe s
def UnR (X:Cx) (f:Value→Sem Value) (r:V→Hp→VK→Prop):Prop:=
  ∀ (pins:List (Addr × Obj)) (s:Shared) (σ:St) (H:Hp) (x:V) (v:Value) (Q:VK),Inv X pins σ H s→RelV x v→r x H Q→
    wpAny (model X.prog X.w) X.A (f v) (EP X pins σ Q) X.xe s
def CallR (X:Cx) (f:Value) (r:List V→Hp→VK→Prop):Prop:=
  ∀ (pins:List (Addr × Obj)) (s:Shared) (σ:St) (H:Hp) (xs:List V) (us:List Value) (Q:VK),Inv X pins σ H s→Vals xs us→r xs H Q→
    wpAny (model X.prog X.w) X.A (call f us) (EP X pins σ Q) X.xe s
def TruR (X:Cx) (r:V→Hp→(Bool→Hp→Prop)→Prop):Prop:=
  ∀ (pins:List (Addr × Obj)) (s:Shared) (σ:St) (H:Hp) (x:V) (v:Value) (Q:Bool→Hp→Prop),Inv X pins σ H s→RelV x v→r x H Q→
    wpAny (model X.prog X.w) X.A (truthy v) (TP X pins σ Q) X.xe s
def tOp (r:R2) (ta tb:TE):TE:=fun σ H Q=>ta σ H fun x H1=>tb σ H1 fun y H2=>r x y H2 Q
def tUn (r:V→Hp→VK→Prop) (ta:TE):TE:=fun σ H Q=>ta σ H fun x H1=>r x H1 Q
def rI (C:Int→Int→Prop) (g:Int→Int→V):R2:=fun x y H Q=>∃ i j,x = .int i∧y = .int j∧C i j∧Q (g i j) H
def rI0 (g:Int→Int→V):R2:=fun x y H Q=>∃ i j,x = .int i∧y = .int j∧Q (g i j) H
def rU (g:Int→V):V→Hp→VK→Prop:=fun x H Q=>∃ i,x = .int i∧Q (g i) H
section
variable {X:Cx} {a b c:Expr} {ta tb tc:TE} {pos:Pos}
theorem binT (ha:PE X a ta) (hb:PE X b tb) {pins:List (Addr × Obj)} {s:Shared} {σ:St} {H:Hp} {R:V→V→Hp→Prop} (I:Inv X pins σ H s)
    (h:ta σ H fun x H1=>tb σ H1 fun y H2=>R x y H2) {Q:Value→Shared→Prop} {f:Value→Value→Sem Value}
    (hf:∀ v u s2 x y H2,Inv X pins σ H2 s2→RelV x v→RelV y u→R x y H2→wpAny (model X.prog X.w) X.A (f v u) Q X.xe s2) :
    wpAny (model X.prog X.w) X.A (eval a X.env) (fun v s₁=>wpAny (model X.prog X.w) X.A (eval b X.env) (fun u s₂=>wpAny (model X.prog X.w) X.A (f v u) Q X.xe s₂) X.xe s₁) X.xe s:=by
  refine thn (ha pins s σ H _ I h) fun v s1 ⟨x,H1,I1,r1,q1⟩=>?_
  refine thn (hb pins s1 σ H1 _ I1 q1) fun u s2 ⟨y,H2,I2,r2,q2⟩=>?_
  exact hf v u s2 x y H2 I2 r1 r2 q2
theorem pe_op {op:Operator} {r:R2} (ho:OpR X (binaryOp op) r) (ha:PE X a ta) (hb:PE X b tb):PE X (.BinOp a op b pos) (tOp r ta tb):=by
  intro pins s σ H Q I h
  exact wpAny_BinOp (binT ha hb I h fun v u s2 x y H2 I2 rx ry q=>ho pins s2 σ H2 x y v u Q I2 rx ry q)
theorem pe_un {op:UnaryOp} {r:V→Hp→VK→Prop} (ho:UnR X (unaryOp op) r) (ha:PE X a ta):PE X (.UnaryOp op a pos) (tUn r ta):=by
  intro pins s σ H Q I h
  exact UnaryOp_ (thn (ha pins s σ H _ I h) fun v s1 ⟨x,H1,I1,r1,q1⟩=>ho pins s1 σ H1 x v Q I1 r1 q1)
theorem opI {f:Value→Value→Sem Value} {C:Int→Int→Prop} {g:Int→Int→Int}
    (rule:∀ (i j:Int) (t u:Tok) (s:Shared) (Q:Value→Shared→Prop) (E:Value→Shared→Prop),C i j→Q (.int (g i j) s.toks) { s with toks:=s.toks + 1 }→wpAny (model X.prog X.w) X.A (f (.int i t) (.int j u)) Q E s) :
    OpR X f (rI C fun i j=>.int (g i j)):=by
  intro pins s σ H x y v u Q I rx ry h
  obtain ⟨i,j,rfl,rfl,hc,q⟩:=h
  obtain ⟨t,rfl⟩:=rx
  obtain ⟨t',rfl⟩:=ry
  exact rule i j t t' s _ _ hc ⟨.int (g i j),H,I.tok _,⟨_,rfl⟩,q⟩
theorem opI0 {f:Value→Value→Sem Value} {g:Int→Int→Int}
    (rule:∀ (i j:Int) (t u:Tok) (s:Shared) (Q:Value→Shared→Prop) (E:Value→Shared→Prop),Q (.int (g i j) s.toks) { s with toks:=s.toks + 1 }→wpAny (model X.prog X.w) X.A (f (.int i t) (.int j u)) Q E s) :
    OpR X f (rI0 fun i j=>.int (g i j)):=by
  intro pins s σ H x y v u Q I rx ry h
  obtain ⟨i,j,rfl,rfl,q⟩:=h
  obtain ⟨t,rfl⟩:=rx
  obtain ⟨t',rfl⟩:=ry
  exact rule i j t t' s _ _ ⟨.int (g i j),H,I.tok _,⟨_,rfl⟩,q⟩
theorem opB0 {f:Value→Value→Sem Value} {g:Int→Int→Bool}
    (rule:∀ (i j:Int) (t u:Tok) (s:Shared) (Q:Value→Shared→Prop) (E:Value→Shared→Prop),Q (.bool (g i j)) s→wpAny (model X.prog X.w) X.A (f (.int i t) (.int j u)) Q E s) :
    OpR X f (rI0 fun i j=>.bl (g i j)):=by
  intro pins s σ H x y v u Q I rx ry h
  obtain ⟨i,j,rfl,rfl,q⟩:=h
  obtain ⟨t,rfl⟩:=rx
  obtain ⟨t',rfl⟩:=ry
  exact rule i j t t' s _ _ ⟨.bl (g i j),H,I,rfl,q⟩
def CDiv (i j:Int):Prop:=0 < j∧j < 1073741824
def CPow (i j:Int):Prop:=0 ≤ j∧j ≤ 1000000∧i.natAbs < 2 ^ 64
def CMul (i j:Int):Prop:=(-(2 ^ 64) < i∧i < 2 ^ 64) ∨ (-(2 ^ 64) < j∧j < 2 ^ 64)
theorem CMul.ok {i j:Int} (h:CMul i j):IntMulOk i j:=by
  rcases h with ⟨h1,h2⟩ | ⟨h1,h2⟩
  · exact .of_left (intBits_le_64 h1 h2)
  · exact .of_right (intBits_le_64 h1 h2)
theorem op_add:OpR X (binaryOp .Add) (rI0 fun i j=>.int (i + j)):=opI0 fun _ _ _ _ _ _ _ q=>add_int q
theorem op_sub:OpR X (binaryOp .Sub) (rI0 fun i j=>.int (i - j)):=opI0 fun _ _ _ _ _ _ _ q=>sub_int q
theorem op_mul:OpR X (binaryOp .Mult) (rI CMul fun i j=>.int (i * j)):=opI fun _ _ _ _ _ _ _ hc q=>mul_int q hc.ok
theorem op_fdiv:OpR X (binaryOp .FloorDiv) (rI CDiv fun i j=>.int (i / j)):=opI fun i j _ _ _ _ _ hc q=>by
  have h1:(0:Int) < j:=hc.1
  have h2:j < 1073741824:=hc.2
  exact floordiv_int (by omega) (by rw [Int.fdiv_eq_ediv_of_nonneg i (by omega)]; exact q) (.inl (PyProof.noPylong_small (by omega)))
theorem op_mod:OpR X (binaryOp .Mod) (rI (fun _ j=>0 < j) fun i j=>.int (i % j)):=opI fun i j _ _ _ _ _ hc q=>by
  have h1:(0:Int) < j:=hc
  exact mod_int' (by omega) (by rw [Int.fmod_eq_emod_of_nonneg i (by omega)]; exact q)
theorem op_pow:OpR X (binaryOp .Pow) (rI CPow fun i j=>.int (i ^ j.toNat)):=opI fun _ _ _ _ _ _ _ hc q=>pow_int_small hc.1 hc.2.1 hc.2.2 q
theorem unI {f:Value→Sem Value} {g:Int→Int}
    (rule:∀ (i:Int) (t:Tok) (s:Shared) (Q:Value→Shared→Prop) (E:Value→Shared→Prop),Q (.int (g i) s.toks) { s with toks:=s.toks + 1 }→wpAny (model X.prog X.w) X.A (f (.int i t)) Q E s) :
    UnR X f (rU fun i=>.int (g i)):=by
  intro pins s σ H x v Q I rx h
  obtain ⟨i,rfl,q⟩:=h
  obtain ⟨t,rfl⟩:=rx
  exact rule i t s _ _ ⟨.int (g i),H,I.tok _,⟨_,rfl⟩,q⟩
theorem un_neg:UnR X (unaryOp .USub) (rU fun i=>.int (-i)):=unI fun _ _ _ _ _ q=>neg_int q
end
def scal:V→V→Bool
  | .non,.non=>true | .non,.int _=>true | .int _,.non=>true | .non,.bl _=>true | .bl _,.non=>true | .non,.str _=>true | .str _,.non=>true
  | .int _,.int _=>true | .bl _,.bl _=>true | .str _,.str _=>true | .byt _,.byt _=>true
  | .int _,.str _=>true | .str _,.int _=>true | .bl _,.str _=>true | .str _,.bl _=>true
  | _,_=>false
def rEq:R2:=fun x y H Q=>scal x y = true∧Q (.bl (decide (x = y))) H
def rNe:R2:=fun x y H Q=>scal x y = true∧Q (.bl (!decide (x = y))) H
theorem dec_int {i j:Int}:decide (V.int i = V.int j) = (i == j):=by
  rw [Bool.eq_iff_iff]
  simp
theorem dec_bl {i j:Bool}:decide (V.bl i = V.bl j) = (i == j):=by
  rw [Bool.eq_iff_iff]
  simp
theorem dec_str {i j:Str}:decide (V.str i = V.str j) = (i == j):=by
  rw [Bool.eq_iff_iff]
  simp
theorem dec_byt {i j:Array UInt8}:decide (V.byt i = V.byt j) = (i.toList == j.toList):=by
  rw [Bool.eq_iff_iff]
  cases i
  cases j
  simp
section
variable {X:Cx} {a b c:Expr} {ta tb tc:TE} {pos:Pos}
theorem fin_bl {pins:List (Addr × Obj)} {σ:St} {H:Hp} {s:Shared} {Q:VK} {k k':Bool} (I:Inv X pins σ H s) (q:Q (.bl k) H) (e:k = k'):EP X pins σ Q (.bool k') s:=by
  subst e
  exact ⟨.bl k,H,I,rfl,q⟩
theorem op_eq:OpR X (compareOp .Eq) rEq:=by
  intro pins s σ H x y v u Q I rx ry h
  obtain ⟨hs,q⟩:=h
  cases x with
  | non=>
    cases rx
    cases y with
    | non=>cases ry; exact PySem.EqNone.eq_none_none (fin_bl I q (by simp))
    | bl j=>cases ry; exact PySem.EqNone.eq_none_bool (fin_bl I q (by simp))
    | int j=>obtain ⟨t',rfl⟩:=ry; exact PySem.EqNone.eq_none_int (fin_bl I q (by simp))
    | str j=>obtain ⟨t',rfl⟩:=ry; exact PySem.EqNone.eq_none_str (fin_bl I q (by simp))
    | _=>exact absurd (show false = true from hs) Bool.false_ne_true
  | bl i=>
    cases rx
    cases y with
    | non=>cases ry; exact PySem.EqNone.eq_bool_none (fin_bl I q (by simp))
    | bl j=>cases ry; exact eq_bool (fin_bl I q dec_bl)
    | str j=>obtain ⟨t',rfl⟩:=ry; exact PySem.EqMixed.eq_bool_str (fin_bl I q (by simp))
    | _=>exact absurd (show false = true from hs) Bool.false_ne_true
  | int i=>
    obtain ⟨t,rfl⟩:=rx
    cases y with
    | non=>cases ry; exact PySem.EqNone.eq_int_none (fin_bl I q (by simp))
    | int j=>obtain ⟨t',rfl⟩:=ry; exact eq_int (fin_bl I q dec_int)
    | str j=>obtain ⟨t',rfl⟩:=ry; exact PySem.EqMixed.eq_int_str (fin_bl I q (by simp))
    | _=>exact absurd (show false = true from hs) Bool.false_ne_true
  | str i=>
    obtain ⟨t,rfl⟩:=rx
    cases y with
    | non=>cases ry; exact PySem.EqNone.eq_str_none (fin_bl I q (by simp))
    | bl j=>cases ry; exact PySem.EqMixed.eq_str_bool (fin_bl I q (by simp))
    | int j=>obtain ⟨t',rfl⟩:=ry; exact PySem.EqMixed.eq_str_int (fin_bl I q (by simp))
    | str j=>obtain ⟨t',rfl⟩:=ry; exact eq_str (fin_bl I q dec_str)
    | _=>exact absurd (show false = true from hs) Bool.false_ne_true
  | byt i=>
    obtain ⟨t,rfl⟩:=rx
    cases y with
    | byt j=>obtain ⟨t',rfl⟩:=ry; exact PySem.W.eq_bytes (fin_bl I q dec_byt)
    | _=>exact absurd (show false = true from hs) Bool.false_ne_true
  | _=>cases y <;> exact absurd (show false = true from hs) Bool.false_ne_true
theorem op_ne:OpR X (compareOp .NotEq) rNe:=by
  intro pins s σ H x y v u Q I rx ry h
  obtain ⟨hs,q⟩:=h
  cases x with
  | non=>
    cases rx
    cases y with
    | non=>cases ry; exact PySem.EqNone.ne_none_none (fin_bl I q (by simp))
    | bl j=>cases ry; exact PySem.EqNone.ne_none_bool (fin_bl I q (by simp))
    | int j=>obtain ⟨t',rfl⟩:=ry; exact PySem.EqNone.ne_none_int (fin_bl I q (by simp))
    | str j=>obtain ⟨t',rfl⟩:=ry; exact PySem.EqNone.ne_none_str (fin_bl I q (by simp))
    | _=>exact absurd (show false = true from hs) Bool.false_ne_true
  | bl i=>
    cases rx
    cases y with
    | non=>cases ry; exact PySem.EqNone.ne_bool_none (fin_bl I q (by simp))
    | bl j=>cases ry; exact ne_bool (fin_bl I q (congrArg not dec_bl))
    | str j=>obtain ⟨t',rfl⟩:=ry; exact PySem.EqMixed.ne_bool_str (fin_bl I q (by simp))
    | _=>exact absurd (show false = true from hs) Bool.false_ne_true
  | int i=>
    obtain ⟨t,rfl⟩:=rx
    cases y with
    | non=>cases ry; exact PySem.EqNone.ne_int_none (fin_bl I q (by simp))
    | int j=>obtain ⟨t',rfl⟩:=ry; exact ne_int (fin_bl I q (congrArg not dec_int))
    | str j=>obtain ⟨t',rfl⟩:=ry; exact PySem.EqMixed.ne_int_str (fin_bl I q (by simp))
    | _=>exact absurd (show false = true from hs) Bool.false_ne_true
  | str i=>
    obtain ⟨t,rfl⟩:=rx
    cases y with
    | non=>cases ry; exact PySem.EqNone.ne_str_none (fin_bl I q (by simp))
    | bl j=>cases ry; exact PySem.EqMixed.ne_str_bool (fin_bl I q (by simp))
    | int j=>obtain ⟨t',rfl⟩:=ry; exact PySem.EqMixed.ne_str_int (fin_bl I q (by simp))
    | str j=>obtain ⟨t',rfl⟩:=ry; exact ne_str (fin_bl I q (congrArg not dec_str))
    | _=>exact absurd (show false = true from hs) Bool.false_ne_true
  | byt i=>
    obtain ⟨t,rfl⟩:=rx
    cases y with
    | byt j=>obtain ⟨t',rfl⟩:=ry; exact PySem.W.ne_bytes (fin_bl I q (congrArg not dec_byt))
    | _=>exact absurd (show false = true from hs) Bool.false_ne_true
  | _=>cases y <;> exact absurd (show false = true from hs) Bool.false_ne_true
theorem op_lt:OpR X (compareOp .Lt) (rI0 fun i j=>.bl (decide (i < j))):=opB0 fun _ _ _ _ _ _ _ q=>lt_int q
theorem op_le:OpR X (compareOp .LtE) (rI0 fun i j=>.bl (decide (i ≤ j))):=opB0 fun _ _ _ _ _ _ _ q=>le_int q
theorem op_gt:OpR X (compareOp .Gt) (rI0 fun i j=>.bl (decide (j < i))):=opB0 fun _ _ _ _ _ _ _ q=>gt_int q
theorem op_ge:OpR X (compareOp .GtE) (rI0 fun i j=>.bl (decide (j ≤ i))):=opB0 fun _ _ _ _ _ _ _ q=>ge_int q
theorem op_isN:OpR X (compareOp .Is) (fun x y H Q=>y = .non∧Q (.bl (decide (x = .non))) H):=by
  intro pins s σ H x y v u Q I rx ry h
  obtain ⟨rfl,q⟩:=h
  cases ry
  refine is_none_gen (fin_bl I q ?_)
  cases x <;> first
    | (cases rx; rfl)
    | (obtain ⟨t,rfl⟩:=rx; rfl)
theorem op_notN:OpR X (compareOp .IsNot) (fun x y H Q=>y = .non∧Q (.bl (!decide (x = .non))) H):=by
  intro pins s σ H x y v u Q I rx ry h
  obtain ⟨rfl,q⟩:=h
  cases ry
  refine isnot_none_gen (fin_bl I q ?_)
  cases x <;> first
    | (cases rx; rfl)
    | (obtain ⟨t,rfl⟩:=rx; rfl)
theorem nomark (b:Expr) {op:CmpOp} (h:op ≠ .In:=by decide) (h2:op ≠ .NotIn:=by decide):behindInMarks op b = false:=by
  have e1:(op == CmpOp.In) = false:=by cases op <;> first | rfl | exact absurd rfl h
  have e2:(op == CmpOp.NotIn) = false:=by cases op <;> first | rfl | exact absurd rfl h2
  cases b <;> simp [behindInMarks,e1,e2]
theorem pe_cmpR {op:CmpOp} {r:R2} (ho:OpR X (compareOp op) r) (ha:PE X a ta) (hb:PE X b tb) (hm:behindInMarks op b = false):PE X (.Compare a [op] [b] pos) (tOp r ta tb):=by
  intro pins s σ H Q I h
  exact wpAny_Compare1 (binT ha hb I h fun v u s2 x y H2 I2 rx ry q=>ho pins s2 σ H2 x y v u Q I2 rx ry q) hm
def tTest (t:TE):TT:=fun σ H Q=>t σ H fun x H'=>∃ k,x = .bl k∧Q k H'
theorem pt_cmpR {op:CmpOp} {r:R2} (ho:OpR X (compareOp op) r) (ha:PE X a ta) (hb:PE X b tb) (hm:behindInMarks op b = false):PT X (.Compare a [op] [b] pos) (tTest (tOp r ta tb)):=by
  intro pins s σ H Q I h
  refine wpAny_isTrue_Compare1 (thn (ha pins s σ H _ I h) fun v s1 ⟨x,H1,I1,r1,q1⟩=>thn (hb pins s1 σ H1 _ I1 q1) fun u s2 ⟨y,H2,I2,r2,q2⟩=>
    thn (ho pins s2 σ H2 x y v u _ I2 r1 r2 q2) fun c s3 ⟨z,H3,I3,r3,k,e,q3⟩=>?_) hm
  subst e
  cases r3
  exact wpAny_truthy_bool ⟨H3,I3,q3⟩
def tChain (r r':R2) (ta tb tc:TE):TE:=fun σ H Q=>ta σ H fun x H1=>tb σ H1 fun y H2=>r x y H2 fun z H3=>∃ k,z = .bl k∧
  (if k = true then tc σ H3 fun w' H4=>r' y w' H4 Q else Q (.bl false) H3)
theorem pe_chain {op op':CmpOp} {r r':R2} (ho:OpR X (compareOp op) r) (ho':OpR X (compareOp op') r') (ha:PE X a ta) (hb:PE X b tb) (hc:PE X c tc)
    (hm:lastMarks [op,op'] [b,c] = false:=by with_unfolding_all rfl):PE X (.Compare a [op,op'] [b,c] pos) (tChain r r' ta tb tc):=by
  intro pins s σ H Q I h
  refine Compare_chain (thn (ha pins s σ H _ I h) fun v s1 ⟨x,H1,I1,r1,q1⟩=>chain_link (thn (hb pins s1 σ H1 _ I1 q1) fun u s2 ⟨y,H2,I2,r2,q2⟩=>
    thn (ho pins s2 σ H2 x y v u _ I2 r1 r2 q2) fun d s3 ⟨z,H3,I3,r3,k,e,q3⟩=>?_)) hm
  subst e
  cases r3
  refine wpAny_truthy_bool ?_
  cases k with
  | false=>exact ite_ff ⟨.bl false,H3,I3,rfl,q3⟩
  | true=>exact ite_tt (chain_last (thn (hc pins s3 σ H3 _ I3 q3) fun w' s4 ⟨z',H4,I4,r4,q4⟩=>ho' pins s4 σ H4 y z' u w' Q I4 r2 r4 q4))
def TruV (K:PySem.W.Frag) (x:V) (H:Hp) (k:Bool):Prop:=
  match x with
  | .non=>k = false
  | .bl b=>k = b
  | .int i=>k = (i != 0)
  | .str y=>y.length ≤ sizeLine∧k = ((y.length:Int) != 0)
  | .byt y=>y.size ≤ sizeLine∧k = ((y.size:Int) != 0)
  | .ref p=>(∃ xs,SqL K H p xs∧k = !xs.isEmpty) ∨ (∃ xs,SqT K H p xs∧k = !xs.isEmpty) ∨ ∃ kvs,H p = some (.dK kvs)∧k = !kvs.isEmpty
  | _=>False
theorem isEmpty_kv {κ:Type} {kvs:List (κ × V)} {vs:List (κ × Value)} (r:KV kvs vs):(!vs.isEmpty) = !kvs.isEmpty:=by
  cases r <;> rfl
theorem isEmpty_of {xs:List V} {its:List Value} (r:Vals xs its):(!its.toArray.isEmpty) = !xs.isEmpty:=by
  cases r <;> simp
theorem line63:(sizeLine:Nat) < 2 ^ 63:=by rw [sizeLine_eq]; decide
theorem tru_ok:TruR X (fun x H Q=>∃ k,TruV X.K x H k∧Q k H):=by
  intro pins s σ H x v Q I rx h
  obtain ⟨k,e,q⟩:=h
  have hl:=line63
  have hs:sizeLine = 16777216:=sizeLine_eq
  cases x with
  | non=>
    cases rx
    have e':k = false:=e
    subst e'
    exact truthy_none ⟨H,I,q⟩
  | bl b=>
    cases rx
    have e':k = b:=e
    subst e'
    exact wpAny_truthy_bool ⟨H,I,q⟩
  | int i=>
    obtain ⟨t,rfl⟩:=rx
    have e':k = (i != 0):=e
    subst e'
    exact PySem.P.truthy_int ⟨H,I,q⟩
  | str y=>
    obtain ⟨t,rfl⟩:=rx
    obtain ⟨hy,e'⟩:y.length ≤ sizeLine∧k = ((y.length:Int) != 0):=e
    subst e'
    exact PySem.P.truthy_str (by omega) ⟨H,I.tok _,q⟩
  | byt y=>
    obtain ⟨t,rfl⟩:=rx
    obtain ⟨hy,e'⟩:y.size ≤ sizeLine∧k = ((y.size:Int) != 0):=e
    subst e'
    exact PySem.W.truthy_bytes (by omega) ⟨H,I.tok _,q⟩
  | ref p=>
    cases rx
    have e':(∃ xs,SqL X.K H p xs∧k = !xs.isEmpty) ∨ (∃ xs,SqT X.K H p xs∧k = !xs.isEmpty) ∨ ∃ kvs,H p = some (.dK kvs)∧k = !kvs.isEmpty:=e
    rcases e' with ⟨xs,hx,e'⟩ | ⟨xs,hx,e'⟩ | ⟨kvs,hx,e'⟩
    · subst e'
      obtain ⟨its,r,pl,hz⟩:=I.list hx
      have hlen:=r.length
      exact wpAny_truthy_list pl.isList (by simp only [List.size_toArray]; omega) ⟨H,I.tok _,by rw [isEmpty_of r]; exact q⟩
    · subst e'
      obtain ⟨its,r,pl,hz⟩:=I.tuple hx
      have hlen:=r.length
      exact truthy_tuple pl (by simp only [List.size_toArray]; omega) ⟨H,I.tok _,by rw [isEmpty_of r]; exact q⟩
    · subst e'
      obtain ⟨hz,hS,vs,r,m⟩:kvs.length ≤ sizeLine∧(p == sysModules) = false∧∃ vs,KV kvs vs∧s.heap.DictOf (mixKind X.prog X.w) p vs:=I.hok p _ hx
      have hlen:kvs.length = vs.length:=Paired.length r
      exact wpAny_truthy_dict hS m (by omega) ⟨H,I.tok _,by rw [isEmpty_kv r]; exact q⟩
  | _=>exact (show False from e).elim
theorem pt_truth (ha:PE X a ta) (he:∀ whole,isTrue a X.env whole = (do let v ← whole; standAt a.pos; holding [v] (truthy v))) :
    PT X a (fun σ H Q=>ta σ H fun x H'=>∃ k,TruV X.K x H' k∧Q k H'):=by
  intro pins s σ H Q I h
  exact isTrue_plain (thn (ha pins s σ H _ I h) fun v s1 ⟨x,H1,I1,r1,q1⟩=>tru_ok pins s1 σ H1 x v Q I1 r1 q1) (he _)
theorem vals1 {x:V} {us:List Value} (r:Vals [x] us):∃ u,us = [u]∧RelV x u:=by
  cases r with
  | cons r1 r2=>cases r2; exact ⟨_,rfl,r1⟩
theorem vals2 {x y:V} {us:List Value} (r:Vals [x,y] us):∃ u w',us = [u,w']∧RelV x u∧RelV y w':=by
  cases r with
  | cons r1 r2=>
    cases r2 with
    | cons r3 r4=>cases r4; exact ⟨_,_,rfl,r1,r3⟩
theorem call_abs:CallR X (.builtin "abs") (fun xs H Q=>∃ i,xs = [.int i]∧Q (.int (if i < 0 then -i else i)) H):=by
  intro pins s σ H xs us Q I r h
  obtain ⟨i,rfl,q⟩:=h
  obtain ⟨u,rfl,t,rfl⟩:=vals1 r
  exact call_abs_int fun u tk=>⟨.int (if i < 0 then -i else i),H,I.tok _,⟨_,rfl⟩,q⟩
end
end L2
namespace L2
open PySem PySem.Spec PyProof.Rows
structure ObjM (h:Heap) (x dx C:Addr) (mA:Str→Option Value):Prop where
  obj:h.get? x = some (PySem.W.instObj C dx)
  ns:h.Ns1 dx mA
  ne:dx ≠ x
theorem lookIn_ns {h:Heap} {dx:Addr} {mA:Str→Option Value} (n:h.Ns1 dx mA):∃ od,h.get? dx = some od∧∀ name,PySem.W.lookIn name od = some (mA name):=by
  obtain ⟨o,es,ep,ho,hd,hk,_,hm⟩:=n
  refine ⟨o,ho,fun name=>?_⟩
  have e:=hm name
  unfold nsFind findBy at e
  rw [← Array.find?_toList] at e
  unfold PySem.W.lookIn
  rw [hd]
  dsimp only
  split
  · rename_i y q
    rw [q] at e
    exact congrArg some e
  · rename_i q
    rw [q] at e
    have a:es.toList.any (·.refKey) = false:=by
      rw [List.any_eq_false]
      intro y hy
      obtain ⟨z,t,hkey⟩:=hk y (Array.mem_toList_iff.mp hy)
      simp [DictEntry.refKey,hkey]
    have a':¬ es.toList.any (·.refKey) = true:=by rw [a]; exact Bool.false_ne_true
    rw [if_neg a']
    exact congrArg some e
theorem ObjM.look {h:Heap} {x dx C:Addr} {mA:Str→Option Value} (I:ObjM h x dx C mA):∃ od,PySem.W.InstAt h x (PySem.W.instObj C dx) C (some od)∧∀ name,PySem.W.lookIn name od = some (mA name):=
  let ⟨od,ho,hl⟩:=lookIn_ns I.ns
  ⟨od,⟨I.obj,rfl,rfl,ho⟩,hl⟩
section
variable {prog:Program} {w:World} {A:Around} {E:Value→Shared→Prop} {s:Shared} {K:PySem.W.Frag} {x dx C f:Addr} {mA:Str→Option Value} {name:Str} {v:Value}
theorem get_map {expr:Bool} {Q:Value→Shared→Prop} (X:K.In s.heap) (I:ObjM s.heap x dx C mA) (hg:PySem.W.plainGet K C name = true) (hh:PySem.W.hasDictIn K C = true)
    (ha:PySem.W.findIn K (.ref C) name = some none) (hv:mA name = some v) (hv':PySem.W.handedIn v = true) (h:Q v { s with toks:=s.toks + 1 }) :
    wpAny (model prog w) A (getAttr (.ref x) name expr) Q E s:=by
  obtain ⟨od,J,hl⟩:=I.look
  exact PySem.W.get_value X J (PySem.W.plainGet_of hg).1 (PySem.W.findObj_own hh ha rfl (by rw [hl,hv])) hv' h
theorem get_meth {pl:Sem Bool} {Q:Value × List Value→Shared→Prop} (X:K.In s.heap) (I:ObjM s.heap x dx C mA) (hg:PySem.W.plainGet K C name = true)
    (hf:PySem.W.findIn K (.ref C) name = some (some (.ref f))) (ht:PySem.W.isFn K (.ref f) = true) (hv:mA name = none) (h:Q (.ref f,[.ref x]) s) :
    wpAny (model prog w) A (getMethod (.ref x) name pl) Q E s:=by
  obtain ⟨od,J,hl⟩:=I.look
  exact PySem.W.method_fn X J (PySem.W.plainGet_of hg).1 (PySem.W.plainGet_of hg).2 hf (beq_iff_eq.mp ht) (by show (PySem.W.lookIn name od).map (·.isSome) = some false; rw [hl,hv]; rfl) h
theorem set_map {ns:List Str} {Q:Unit→Shared→Prop} (X:K.In s.heap) (I:ObjM s.heap x dx C mA)
    (hs:PySem.W.findIn K (.ref C) "__setattr__" = some (some (.builtin "object.__setattr__"))) (hp:PySem.W.plainOver K C = true) (ht:PySem.W.takerIn K C name = some none) (hh:PySem.W.hasDictIn K C = true)
    (hw:PySem.Within mA ns) (hsz:ns.length ≤ sizeLine)
    (h:∀ h',ObjM h' x dx C (fun y=>if y = name then some v else mA y)→Heap.SameBut dx s.heap h'→Q () { s with heap:=h',toks:=s.toks + 2 }) :
    wpAny (model prog w) A (setAttr (.ref x) name v) Q E s:=by
  obtain ⟨od,J,hl⟩:=I.look
  refine PySem.W.set_plain X J hs (PySem.W.osa_open (s:={ s with toks:=s.toks + 1 }) (r:=none) X J hp ht fun b=>?_)
  obtain ⟨cd,hc,hd'⟩:=PySem.W.any_some hh
  have hx:s.heap.get? x = some ⟨.ref C,some dx,.plain,#[]⟩:=I.obj
  refine wpAny_bind (wpAny_pure (wpAny_bind (wpAny_bind (wpAny_loadPart hx (wpAny_bind (PySem.W.Looks.here (s:={ s with toks:=s.toks + 1 }) (PySem.W.looks_clsIn X hc) ?_))))))
  rw [hd']
  refine wpAny_pure (a:=some dx) (wpAny_bind (wpAny_pure (wpAny_bind ?_)))
  refine wpAny_nsSet1 (s:={ s with toks:=s.toks + 1 }) I.ns fun h' hn2 hs2=>?_
  obtain ⟨oD,esD,epD,hoD,hdD,hcD⟩:=hn2.count (PySem.Within.cons name v hw)
  refine wpAny_bind (wpAny_lookBehind hoD (by rw [hdD]; exact pastItsLine_dict (Nat.le_trans hcD (by rw [List.length_cons]; omega))) ?_)
  exact wpAny_pure (h _ ⟨(hs2.2 _ (Ne.symm I.ne)).trans I.obj,hn2,I.ne⟩ hs2)
theorem make_map {R:Result→Shared→Prop} {vs:List Value} {kw:List (Str × Value)} (X:K.In s.heap) (hm:PySem.W.makesIn K C = true)
    (hi:PySem.W.findIn K (.ref C) "__init__" = some (some (.ref f))) (hf:PySem.W.typeIn K (.ref f) = some (.type "function"))
    (h:codeAny (model prog w) (A.under (.builtin "type.__call__" ⟨.ref C :: vs,kw⟩)) (.call (.ref f) ⟨.ref (s.heap.objs.size + 1) :: vs,kw⟩) (PySem.W.InitBack (s.heap.objs.size + 1) R)
      { s with heap:=(s.heap.push PySem.W.emptyDict).push (PySem.W.instObj C s.heap.objs.size) }) :
    codeAny (model prog w) A (.call (.ref C) ⟨vs,kw⟩) R s:=by
  obtain ⟨hh,g,d,t,os⟩:=s
  exact PySem.W.make_core (PySem.W.makes_of X hm) (PySem.W.looks_findIn X hi) (fun self=>PySem.W.bind_fn X self hf) (.inl rfl) h
end
def putF (f:Str) (v:V):List (Str × V)→List (Str × V)
  | []=>[(f,v)]
  | (g,x) :: r=>if g = f then (g,v) :: r else (g,x) :: putF f v r
theorem lookup_putF (f g:Str) (v:V):∀ fs:List (Str × V),(putF f v fs).lookup g = if g = f then some v else fs.lookup g
  | []=>by
    show List.lookup g [(f,v)] = _
    by_cases h:g = f
    · have hb:(g == f) = true:=beq_iff_eq.mpr h
      simp only [List.lookup,hb,if_pos h]
    · have hb:(g == f) = false:=beq_eq_false_iff_ne.mpr h
      simp only [List.lookup,hb,if_neg h]
  | (k,x) :: r=>by
    have ih:=lookup_putF f g v r
    rw [show putF f v ((k,x) :: r) = (if k = f then (k,v) :: r else (k,x) :: putF f v r) from rfl]
    by_cases hk:k = f
    · rw [if_pos hk]
      by_cases h:g = k
      · have hb:(g == k) = true:=beq_iff_eq.mpr h
        simp only [List.lookup,hb,if_pos (h.trans hk)]
      · have hb:(g == k) = false:=beq_eq_false_iff_ne.mpr h
        simp only [List.lookup,hb,if_neg (fun e:g = f=>h (e.trans hk.symm))]
    · rw [if_neg hk]
      by_cases h:g = k
      · have hb:(g == k) = true:=beq_iff_eq.mpr h
        simp only [List.lookup,hb,if_neg (fun e:g = f=>hk (h.symm.trans e))]
      · have hb:(g == k) = false:=beq_eq_false_iff_ne.mpr h
        simp only [List.lookup,hb]
        exact ih
theorem keys_putF (f:Str) (v:V):∀ fs:List (Str × V),f ∈ (putF f v fs).map (·.1)∧∀ g,g ∈ fs.map (·.1)→g ∈ (putF f v fs).map (·.1)
  | []=>⟨by simp [putF],fun g h=>by simp at h⟩
  | (k,x) :: r=>by
    obtain ⟨i1,i2⟩:=keys_putF f v r
    rw [show putF f v ((k,x) :: r) = (if k = f then (k,v) :: r else (k,x) :: putF f v r) from rfl]
    by_cases hk:k = f
    · rw [if_pos hk]
      subst hk
      exact ⟨by simp,fun g h=>by simpa using h⟩
    · rw [if_neg hk]
      refine ⟨?_,fun g h=>?_⟩
      · rw [List.map_cons]
        exact List.mem_cons_of_mem _ i1
      · rw [List.map_cons] at h ⊢
        rcases List.mem_cons.mp h with e | e
        · exact List.mem_cons.mpr (.inl e)
        · exact List.mem_cons_of_mem _ (i2 g e)
theorem length_putF (f:Str) (v:V):∀ fs:List (Str × V),(putF f v fs).length ≤ fs.length + 1
  | []=>by simp [putF]
  | (k,x) :: r=>by
    have ih:=length_putF f v r
    rw [show putF f v ((k,x) :: r) = (if k = f then (k,v) :: r else (k,x) :: putF f v r) from rfl]
    by_cases hk:k = f
    · rw [if_pos hk,List.length_cons,List.length_cons]; omega
    · rw [if_neg hk,List.length_cons,List.length_cons]; omega
theorem RelO.some_of {v:V} {o:Option Value} (r:RelO (some v) o):∃ u,o = some u∧RelV v u:=by
  cases o with
  | none=>exact (show False from r).elim
  | some u=>exact ⟨u,rfl,r⟩
theorem RelO.none_of {o:Option Value} (r:RelO none o):o = none:=by
  cases o with
  | none=>rfl
  | some u=>exact (show False from r).elim
theorem handed_of {v:V} {u:Value} (r:RelV v u):PySem.W.handedIn u = true:=by
  cases v with
  | non=>cases (show u = Value.none from r); rfl
  | bl b=>cases (show u = Value.bool b from r); rfl
  | int i=>obtain ⟨t,e⟩:=(show ∃ t,u = Value.int i t from r); cases e; rfl
  | str x=>obtain ⟨t,e⟩:=(show ∃ t,u = Value.str x t from r); cases e; rfl
  | byt b=>obtain ⟨t,e⟩:=(show ∃ t,u = Value.bytes b t from r); cases e; rfl
  | flt b=>obtain ⟨t,e⟩:=(show ∃ t,u = Value.float b t from r); cases e; rfl
  | ref a=>cases (show u = Value.ref a from r); rfl
  | ty n=>cases (show u = Value.type n from r); rfl
section
variable {P:Program} {w:World} {H H':Hp} {h h':Heap} {a C dx:Addr} {fs fs':List (Str × V)}
theorem ins_get (hok:HOk P w H h) (e:H a = some (.ins C dx fs)):∃ mA,ObjM h a dx C mA∧(∀ f,RelO (fs.lookup f) (mA f))∧PySem.Within mA (fs.map (·.1))∧fs.length ≤ 1000∧H dx = some (.own a):=by
  obtain ⟨d,z,ne,ob,mA,n,r,q⟩:=(show ObjOk P w H h a (.ins C dx fs) from hok a _ e)
  exact ⟨mA,⟨ob,n,ne⟩,r,q,z,d⟩
end
structure Cls (K:PySem.W.Frag) (C:Addr):Prop where
  pg:PySem.W.plainGet K C Str.empty = true
  hd:PySem.W.hasDictIn K C = true
  po:PySem.W.plainOver K C = true
  sa:PySem.W.findIn K (.ref C) "__setattr__" = some (some (.builtin "object.__setattr__"))
theorem Cls.get {K:PySem.W.Frag} {C:Addr} (c:Cls K C) (f:Str):PySem.W.plainGet K C f = true:=c.pg
def NoAttr (K:PySem.W.Frag) (C:Addr) (f:Str):Prop:=PySem.W.findIn K (.ref C) f = some none
theorem NoAttr.taker {K:PySem.W.Frag} {C:Addr} {f:Str} (n:NoAttr K C f):PySem.W.takerIn K C f = some none:=by
  unfold PySem.W.takerIn
  rw [show PySem.W.findIn K (.ref C) f = some none from n]
  rfl
structure Meth (K:PySem.W.Frag) (C:Addr) (m:Str) (f:Addr):Prop where
  at_:PySem.W.findIn K (.ref C) m = some (some (.ref f))
  fn:PySem.W.isFn K (.ref f) = true
  kp:PySem.W.keepIn K (.ref f) = true
section
variable {X:Cx} {pins:List (Addr × Obj)} {σ:St} {H:Hp} {s:Shared} {a C dx:Addr} {fs:List (Str × V)} {f:Str} {v:V} {A:Around} {E:Value→Shared→Prop}
theorem getattr_ok {b:Bool} {Q:Value→Shared→Prop} (I:Inv X pins σ H s) (e:H a = some (.ins C dx fs)) (c:Cls X.K C) (n:NoAttr X.K C f) (l:fs.lookup f = some v)
    (h:∀ u s',Inv X pins σ H s'→RelV v u→Q u s'):wpAny (model X.prog X.w) A (getAttr (.ref a) f b) Q E s:=by
  obtain ⟨mA,O,r,_,_,_⟩:=ins_get I.hok e
  obtain ⟨u,hu,ru⟩:=RelO.some_of (v:=v) (o:=mA f) (by rw [← l]; exact r f)
  exact get_map I.kIn O (c.get f) c.hd n hu (handed_of ru) (h u _ (I.tok _) ru)
theorem getmeth_ok {m:Str} {g:Addr} {pl:Sem Bool} {Q:Value × List Value→Shared→Prop} (I:Inv X pins σ H s) (e:H a = some (.ins C dx fs)) (c:Cls X.K C) (k:Meth X.K C m g) (l:fs.lookup m = none)
    (h:Q (.ref g,[.ref a]) s):wpAny (model X.prog X.w) A (getMethod (.ref a) m pl) Q E s:=by
  obtain ⟨mA,O,r,_,_,_⟩:=ins_get I.hok e
  have hn:mA m = none:=RelO.none_of (by rw [← l]; exact r m)
  exact get_meth I.kIn O (c.get m) k.at_ k.fn hn h
theorem setattr_ok {y:V} {u:Value} {Q:Unit→Shared→Prop} (I:Inv X pins σ H s) (e:H a = some (.ins C dx fs)) (c:Cls X.K C) (n:NoAttr X.K C f) (hl:fs.length < 1000) (ry:RelV y u)
    (h:∀ s',Inv X pins σ (upd H a (.ins C dx (putF f y fs))) s'→Q () s'):wpAny (model X.prog X.w) A (setAttr (.ref a) f u) Q E s:=by
  obtain ⟨mA,O,r,wi,_,ho⟩:=ins_get I.hok e
  have hz:(fs.map (·.1)).length ≤ sizeLine:=by rw [List.length_map,sizeLine_eq]; omega
  refine set_map I.kIn O c.sa c.po n.taker c.hd wi hz fun h' O' sb=>h _ ?_
  have hd:∃ o,h'.get? dx = some o:=let ⟨o,_,_,e',_⟩:=O'.ns; ⟨o,e'⟩
  refine I.write (x:=a) (e:=dx) (by rw [e]; exact True.intro) (.inr ho) (fun b q hb z=>(sb.2 b hb).trans z) hd ?_
  refine ⟨by rw [upd_ne O.ne]; exact ho,?_,O.ne,O'.obj,_,O'.ns,fun g=>?_,fun g hg=>?_⟩
  · have:=length_putF f y fs; omega
  · show RelO ((putF f y fs).lookup g) (if g = f then some u else mA g)
    rw [lookup_putF]
    by_cases q:g = f
    · rw [if_pos q,if_pos q]; exact ry
    · rw [if_neg q,if_neg q]; exact r g
  · by_cases q:g = f
    · rw [q]; exact (keys_putF f y fs).1
    · refine (keys_putF f y fs).2 g (wi g fun z=>hg ?_)
      show (if g = f then some u else mA g) = none
      rw [if_neg q]; exact z
theorem Inv.made (I:Inv X pins σ H s):Inv X pins σ (upd (upd H s.heap.objs.size (.own (s.heap.objs.size + 1))) (s.heap.objs.size + 1) (.ins C s.heap.objs.size []))
    { s with heap:=(s.heap.push PySem.W.emptyDict).push (PySem.W.instObj C s.heap.objs.size) }:=by
  have e1:(s.heap.push PySem.W.emptyDict).get? s.heap.objs.size = some PySem.W.emptyDict:=Heap.get?_push_size s.heap rfl
  have e2:((s.heap.push PySem.W.emptyDict).push (PySem.W.instObj C s.heap.objs.size)).get? (s.heap.objs.size + 1) = some (PySem.W.instObj C s.heap.objs.size):=by
    have:=Heap.get?_push_size (s.heap.push PySem.W.emptyDict) (o:=PySem.W.instObj C s.heap.objs.size) rfl
    rwa [Heap.size_push] at this
  have e3:(s.heap.push PySem.W.emptyDict).Ns s.heap.objs.size (fun _=>none):=⟨PySem.W.emptyDict,#[],_,e1,rfl,(fun e he=>absurd he (by simp)),fun _=>rfl⟩
  have I1:=I.laid (a:=s.heap.objs.size) (o:=.own (s.heap.objs.size + 1)) (h':=s.heap.push PySem.W.emptyDict) (t':=s.toks) (fun b u q=>Heap.get?_push_of_some _ q) (Nat.le_refl _) ⟨_,e1⟩
  refine I1.laid (a:=s.heap.objs.size + 1) (o:=.ins C s.heap.objs.size []) (t':=s.toks) (fun b u q=>Heap.get?_push_of_some _ q) (Nat.le_of_eq (Heap.size_push _ _)) ?_
  have ne:s.heap.objs.size ≠ s.heap.objs.size + 1:=Nat.ne_of_lt (Nat.lt_succ_self _)
  refine ⟨by rw [upd_ne ne,upd_same],Nat.zero_le _,ne,e2,fun _=>none,(Heap.Ns1.of_empty e3).at fun o q=>Heap.get?_push_of_some _ q,fun _=>True.intro,fun y hy=>absurd rfl hy⟩
theorem attr_of {prog:Program} {w:World} {env:Env} {e:Expr} {f:Str} {pos:Pos} {s:Shared} {Q:Value→Shared→Prop} (hb:attributeBase e f env (eval e env) = eval e env)
    (h:wpAny (model prog w) A (eval e env) (fun o s₁=>wpAny (model prog w) A (getAttr o f true) Q E s₁) E s):wpAny (model prog w) A (eval (.Attribute e f pos) env) Q E s:=
  Attribute_any_ h (by rw [arm_eval_Attribute,hb])
end
def tFld (K:PySem.W.Frag) (ta:TE) (f:Str):TE:=fun σ H Q=>ta σ H fun x H1=>∃ a C dx fs v,x = .ref a∧H1 a = some (.ins C dx fs)∧Cls K C∧NoAttr K C f∧fs.lookup f = some v∧Q v H1
def sFld (K:PySem.W.Frag) (ta tv:TE) (f:Str):TS:=fun D σ H=>tv σ H fun y H1=>ta σ H1 fun x H2=>∃ a C dx fs,x = .ref a∧H2 a = some (.ins C dx fs)∧Cls K C∧NoAttr K C f∧fs.length < 1000∧
  D.nx σ (upd H2 a (.ins C dx (putF f y fs)))
section
variable {X:Cx} {o e value:Expr} {f:Str} {pos pos' tpos:Pos} {ta tv:TE}
theorem pe_fld (he:PE X e ta) (hb:attributeBase e f X.env (eval e X.env) = eval e X.env):PE X (.Attribute e f pos) (tFld X.K ta f):=by
  intro pins s σ H Q I h
  refine attr_of hb (thn (he pins s σ H _ I h) fun u s1 ⟨x,H1,I1,rx,a,C,dx,fs,v,ex,ea,c,n,l,q⟩=>?_)
  subst ex
  obtain rfl:u = Value.ref a:=rx
  exact getattr_ok I1 ea c n l fun u' s2 I2 ru=>⟨v,H1,I2,ru,q⟩
theorem ps_fld (ha:PE X o ta) (hv:PE X value tv) (hs:swapsWith value (some (.Attribute o f pos')) pos.line X.env = pure false):PS X (.Assign [.Attribute o f pos'] value pos) (sFld X.K ta tv f):=by
  intro pins s σ H D I h
  refine plainObj_wpAny_Assign_Attribute (thn (hv pins s σ H _ I h) fun u s1 ⟨y,H1,I1,ry,q⟩=>thn (ha pins s1 σ H1 _ I1 q) fun ov s2 ⟨x,H2,I2,rx,a,C,dx,fs,ex,ea,c,n,l,q2⟩=>?_) hs
  subst ex
  obtain rfl:ov = Value.ref a:=rx
  exact setattr_ok I2 ea c n l ry fun s3 I3=>⟨σ,_,I3,q2⟩
theorem methcall_of {pl:Sem Bool} {m:Str} {apos:Pos} {args:List Expr} {pins:List (Addr × Obj)} {s:Shared} {σ:St} {H:Hp} {Q:Value→Shared→Prop} {te:TE} (he:PE X e te) (I:Inv X pins σ H s)
    (h:te σ H fun x H1=>∃ a C dx fs g,x = .ref a∧H1 a = some (.ins C dx fs)∧Cls X.K C∧Meth X.K C m g∧fs.lookup m = none∧
      ∀ s1,Inv X pins σ H1 s1→wpAny (model X.prog X.w) X.A (callWith pos (.ref g) [.ref a] (backTo pos (starEach args X.env)) (backToKw pos (keywordEach [] X.env))) Q X.xe s1)
    (ht:eval (.Call (.Attribute e m apos) args [] pos) X.env = (do
      let ov ← eval e X.env
      standAt apos.atName
      let (f,first) ← holding [ov] (getMethod ov m pl)
      callWith pos f first (backTo pos (starEach args X.env)) (backToKw pos (keywordEach [] X.env)))) :
    wpAny (model X.prog X.w) X.A (eval (.Call (.Attribute e m apos) args [] pos) X.env) Q X.xe s:=by
  refine PySem.W.methodCall_KW (pl:=pl) (thn (he pins s σ H _ I h) fun u s1 ⟨x,H1,I1,rx,a,C,dx,fs,g,ex,ea,c,k,l,q⟩=>?_) ht
  subst ex
  obtain rfl:u = Value.ref a:=rx
  exact getmeth_ok I1 ea c k l (q s1 I1)
end
section
variable {X:Cx} {pins:List (Addr × Obj)} {σ:St} {H:Hp} {s:Shared} {A:Around} {E:Value→Shared→Prop} {Q:Value→Shared→Prop} {c:Value} {b:Bool}
inductive TyOf (K:PySem.W.Frag) (H:Hp):V→Value→Prop where
  | non:TyOf K H .non (.type "NoneType")
  | bl (x:Bool):TyOf K H (.bl x) (.type "bool")
  | int (i:Int):TyOf K H (.int i) (.type "int")
  | str (x:Str):TyOf K H (.str x) (.type "str")
  | flt (x:UInt64):TyOf K H (.flt x) (.type "float")
  | lst {a:Addr} {xs:List V} (e:H a = some (.lst xs)):TyOf K H (.ref a) (.type "list")
  | frz {a:Addr} {o:Obj} {xs:List V} (e:H a = some (.frz o (.lst xs))):TyOf K H (.ref a) (.type "list")
  | tup {a:Addr} {xs:List V} (e:H a = some (.tup xs)):TyOf K H (.ref a) (.type "tuple")
  | dK {a:Addr} {kvs:List (Key × V)} (e:H a = some (.dK kvs)):TyOf K H (.ref a) (.type "dict")
  | dT {a:Addr} {kvs:List (List Key × V)} (e:H a = some (.dT kvs)):TyOf K H (.ref a) (.type "dict")
  | ins {a C dx:Addr} {fs:List (Str × V)} (e:H a = some (.ins C dx fs)) (cl:Cls K C) (ha:PySem.W.findIn K (.ref C) "__class__" = some (some (.builtin "object.__class__")))
      (hn:PySem.W.specialIn K (.builtin "object.__class__") "__get__" = some (some (.builtin "getset_descriptor.__get__"))) (htk:PySem.W.takesIn K (.builtin "object.__class__") = some true)
      (hm:PySem.W.mroIn K C (.type "object") = some true):TyOf K H (.ref a) (.ref C)
theorem isinst_ok {x:V} {u t:Value} (I:Inv X pins σ H s) (rx:RelV x u) (ty:TyOf X.K H x t) (e:PySem.W.kitOne X.K t c = some b) (h:∀ tk,Q (.bool b) { s with toks:=tk }) :
    wpAny (model X.prog X.w) A (call (.builtin "isinstance") [u,c]) Q E s:=by
  cases ty with
  | non=>cases (show u = Value.none from rx); exact PySem.W.kia_one PySem.W.kitx_none I.kIn True.intro e (fun z=>nomatch z) h
  | bl y=>cases (show u = Value.bool y from rx); exact PySem.W.kia_one PySem.W.kitx_bool I.kIn True.intro e (fun z=>nomatch z) h
  | int i=>obtain ⟨t,q⟩:=(show ∃ t,u = Value.int i t from rx); cases q; exact PySem.W.kia_one PySem.W.kitx_int I.kIn True.intro e (fun z=>nomatch z) h
  | str y=>obtain ⟨t,q⟩:=(show ∃ t,u = Value.str y t from rx); cases q; exact PySem.W.kia_one PySem.W.kitx_str I.kIn True.intro e (fun z=>nomatch z) h
  | flt y=>obtain ⟨t,q⟩:=(show ∃ t,u = Value.float y t from rx); cases q; exact PySem.W.kia_one PySem.W.kitx_float I.kIn True.intro e (fun z=>nomatch z) h
  | @lst a xs ea=>
    cases (show u = Value.ref a from rx)
    obtain ⟨_,_,n,_,h1⟩:=(show ObjOk X.prog X.w H s.heap a (.lst xs) from I.hok a _ ea)
    exact PySem.W.kia_one PySem.W.kitx_list I.kIn ⟨_,h1,rfl⟩ e (fun z=>nomatch z) h
  | @frz a ob xs ea=>
    cases (show u = Value.ref a from rx)
    obtain ⟨_,_,_,n,_,h1⟩:=(show ObjOk X.prog X.w H s.heap a (.frz ob (.lst xs)) from I.hok a _ ea)
    exact PySem.W.kia_one PySem.W.kitx_list I.kIn ⟨_,h1,rfl⟩ e (fun z=>nomatch z) h
  | @tup a xs ea=>
    cases (show u = Value.ref a from rx)
    obtain ⟨_,_,_,p⟩:=(show ObjOk X.prog X.w H s.heap a (.tup xs) from I.hok a _ ea)
    obtain ⟨o,h1,h2,_⟩:=p
    exact PySem.W.kia_one PySem.W.kitx_tuple I.kIn ⟨o,h1,h2⟩ e (fun z=>nomatch z) h
  | @dK a kvs ea=>
    cases (show u = Value.ref a from rx)
    obtain ⟨_,_,vs,_,p⟩:=(show ObjOk X.prog X.w H s.heap a (.dK kvs) from I.hok a _ ea)
    obtain ⟨o,es,ep,h1,h2,_⟩:=p
    exact PySem.W.kia_one PySem.W.kitx_dict I.kIn ⟨o,h1,h2.1⟩ e (fun z=>nomatch z) h
  | @dT a kvs ea=>
    cases (show u = Value.ref a from rx)
    obtain ⟨_,_,xs,_,o,es,ep,h1,h2,_⟩:=(show ObjOk X.prog X.w H s.heap a (.dT kvs) from I.hok a _ ea)
    exact PySem.W.kia_one PySem.W.kitx_dict I.kIn ⟨o,h1,h2.1⟩ e (fun z=>nomatch z) h
  | @ins a C dx fs ea cl ha hn htk hm=>
    cases (show u = Value.ref a from rx)
    obtain ⟨mA,O,_⟩:=ins_get I.hok ea
    obtain ⟨od,J,_⟩:=O.look
    exact PySem.W.kia_one (PySem.W.kitx_own (cl.get _) cl.hd ha hn htk hm) I.kIn J e (fun z=>nomatch z) h
end
end L2
namespace L2
open PySem PySem.Spec PyProof.Rows
structure Room (k:Nat) (A:Around):Prop where
  hd:A.handled = none
  dp:A.depth + 3 * k + 5 < recursionLimit
  un:A.units + 16 * k + 200 < cLine
theorem Room.mono {j k:Nat} {A:Around} (r:Room k A) (h:j ≤ k):Room j A:=⟨r.hd,by have:=r.dp; omega,by have:=r.un; omega⟩
theorem Room.deeper {k:Nat} {A:Around} (r:Room (k + 1) A) (env:Env):Room k (A.deeper env):=
  ⟨r.hd,by have:=r.dp; show A.depth + 1 + 3 * k + 5 < _; omega,by have:=r.un; show A.units + 3 + 16 * k + 200 < _; omega⟩
theorem make_depth {A:Around} {C:Addr} {us:List Value} {kw:List (Str × Value)}:(A.under (.builtin "type.__call__" ⟨.ref C :: us,kw⟩)).depth = A.depth + 1:=by
  first | rfl | simp [Around.under,Code.weight,Code.isCreation,Code.isGuard,Code.isCaller,Code.frames,Code.isFrame,guardIds]
theorem make_units {A:Around} {C:Addr} {us:List Value} {kw:List (Str × Value)}:(A.under (.builtin "type.__call__" ⟨.ref C :: us,kw⟩)).units = A.units + 1:=by
  first | rfl | simp [Around.under,Code.cUnits,Code.frames,Code.isFrame]
theorem Room.make {k:Nat} {A:Around} (r:Room (k + 1) A) (C:Addr) (us:List Value) (kw:List (Str × Value)):Room k (A.under (.builtin "type.__call__" ⟨.ref C :: us,kw⟩)):=
  ⟨r.hd,by have:=r.dp; rw [make_depth]; omega,by have:=r.un; rw [make_units]; omega⟩
theorem Room.depth {k:Nat} {A:Around} (r:Room k A):A.depth < recursionLimit:=by have:=r.dp; omega
theorem Room.units {k:Nat} {A:Around} (r:Room k A):A.units + 64 < cLine:=by have:=r.un; omega
def tNil:TA:=fun _ H Q=>Q [] H
def tCons (ta:TE) (tr:TA):TA:=fun σ H Q=>ta σ H fun x H1=>tr σ H1 fun xs H2=>Q (x :: xs) H2
section
variable {X:Cx} {e:Expr} {es:List Expr} {te:TE} {t:TA} {pos:Pos}
theorem pa_nil:PA X [] tNil:=fun _ _ _ _ H Q I h=>Calls.spliced_nil ⟨[],H,I,.nil,h⟩
theorem pa_cons (ha:PE X e te) (hr:PA X es t) (hs:starEach (e :: es) X.env = (false,eval e X.env) :: starEach es X.env:=by rfl):PA X (e :: es) (tCons te t):=by
  intro pos pins s σ H Q I h
  rw [hs]
  show wpAny _ _ (spliced ((false,eval e X.env) :: backTo pos (starEach es X.env))) _ _ s
  refine Calls.spliced_cons (thn (ha pins s σ H _ I h) fun u s1 ⟨x,H1,I1,r1,q1⟩=>?_)
  exact thn (hr pos pins s1 σ H1 _ I1 q1) fun us s2 ⟨xs,H2,I2,r2,q2⟩=>⟨x :: xs,H2,I2,.cons r1 r2,q2⟩
def tTup (t:TA):TE:=fun σ H Q=>t σ H fun xs H1=>xs.length ≤ sizeLine∧∀ p,H1 p = none→Q (.ref p) (upd H1 p (.tup xs))
def tLst (t:TA):TE:=fun σ H Q=>t σ H fun xs H1=>xs.length ≤ sizeLine∧∀ p,H1 p = none→Q (.ref p) (upd H1 p (.lst xs))
theorem pe_tup {x1} (h:PA X es t):PE X (.Tuple es x1 pos) (tTup t):=by
  intro pins s σ H Q I hq
  refine wpAny_Tuple_spliced (thn (h pos pins s σ H _ I hq) fun us s1 ⟨xs,H1,I1,r,z,q⟩=>⟨by rw [← r.length]; exact z,?_⟩)
  have hf:H1 s1.heap.objs.size = none:=I1.hok.fresh (Nat.le_refl _)
  refine ⟨.ref s1.heap.objs.size,upd H1 s1.heap.objs.size (.tup xs),I1.laid (t':=s1.toks) (fun b u e=>Heap.get?_push_of_some _ e) (Nat.le_refl _) ?_,rfl,q _ hf⟩
  exact ⟨z,us,r,⟨_,Heap.get?_push_size _ rfl,rfl,_,rfl⟩⟩
theorem pe_lst (h:PA X es t):PE X (.List es pos) (tLst t):=by
  intro pins s σ H Q I hq
  refine wpAny_List_spliced (thn (h pos pins s σ H _ I hq) fun us s1 ⟨xs,H1,I1,r,z,q⟩=>⟨by rw [← r.length]; exact z,?_⟩)
  have hf:H1 s1.heap.objs.size = none:=I1.hok.fresh (Nat.le_refl _)
  refine ⟨.ref s1.heap.objs.size,upd H1 s1.heap.objs.size (.lst xs),I1.laid (t':=s1.toks) (fun b u e=>Heap.get?_push_of_some _ e) (Nat.le_refl _) ?_,rfl,q _ hf⟩
  exact ⟨z,us,0,r,Heap.get?_push_size _ rfl⟩
end
abbrev Sp:=List V→Hp→VK→XK→Prop
abbrev CXT:=List Env→Hp→Shared→XK→Value→Shared→Prop
structure Env0 (P:Program) (w:World) (K:PySem.W.Frag) (mg:Str→Option Value) (base:Heap) (A:Around) (outer:List Env) (s:Shared) (H:Hp):Prop where
  frames:A.frames = some outer
  mod:Mod K mg base
  bs:∀ b o,base.get? b = some o→s.heap.get? b = some o∧H b = none
  bsz:base.objs.size ≤ s.heap.objs.size
  funs:s.heap.FunFrames base outer
  frf:∀ b ∈ frs outer,H b = none
  hok:HOk P w H s.heap
  bare:AllBare s.gens
def CE (outer:List Env) (P:Program) (w:World) (H:Hp) (s:Shared) (Q:VK) (u:Value) (s':Shared):Prop:=
  ∃ v H',s'.os = s.os∧AllBare s'.gens∧Un (frs outer) [] H H' s.heap s'.heap∧HOk P w H' s'.heap∧RelV v u∧Q v H'
def CR (CX:CXT) (outer:List Env) (P:Program) (w:World) (H:Hp) (s:Shared) (Q:VK) (E:XK) (r:Result) (s':Shared):Prop:=
  match r with
  | .ok (.ret u)=>CE outer P w H s Q u s'
  | .ok _=>False
  | .error e=>CX outer H s E e s'
structure FnOk (P:Program) (w:World) (K:PySem.W.Frag) (mg:Str→Option Value) (base:Heap) (CX:CXT) (k:Nat) (f:Addr) (fd:FuncData) (ps:List Str) (sp:Sp):Prop where
  len:∀ vs H Q E,sp vs H Q E→vs.length = ps.length
  run:∀ (A:Around) (outer:List Env) (s:Shared) (H:Hp) (args:Args) (us:List Value) (vs:List V) (Q:VK) (E:XK),Room k A→Env0 P w K mg base A outer s H→BindsTo s fd args (ps.zip us)→Vals vs us→sp vs H Q E→
    codeAny (model P w) A (.call (.ref f) args) (CR CX outer P w H s Q E) s
theorem Env0.make {P:Program} {w:World} {K:PySem.W.Frag} {mg:Str→Option Value} {base:Heap} {A:Around} {outer:List Env} {s:Shared} {H:Hp} (e:Env0 P w K mg base A outer s H) (C:Addr) (us:List Value) (kw:List (Str × Value)) :
    Env0 P w K mg base (A.under (.builtin "type.__call__" ⟨.ref C :: us,kw⟩)) outer s H:=⟨by first | exact e.frames | (simpa [Around.under,Code.envs,Code.isFrame,pushEnvs] using e.frames),e.mod,e.bs,e.bsz,e.funs,e.frf,e.hok,e.bare⟩
section
variable {X:Cx} {pins:List (Addr × Obj)} {σ:St} {H:Hp} {s s':Shared}
theorem Inv.env0 (I:Inv X pins σ H s):Env0 X.prog X.w X.K X.mg X.base X.A X.stack s H:=
  ⟨I.ok.frames,I.ok.mod,I.bs,Nat.le_trans I.ok.bsz I.sz,I.stack,I.stkFree,I.hok,I.bare⟩
theorem Inv.after {Q:VK} {u:Value} (I:Inv X pins σ H s) (h:CE X.stack X.prog X.w H s Q u s'):EP X pins σ Q u s':=by
  obtain ⟨v,H',os,bare,un,hok,r,q⟩:=h
  obtain ⟨hh,g,d,t,os'⟩:=s'
  obtain rfl:os' = s.os:=os
  exact ⟨v,H',I.call (h':=hh) (g':=g) (d':=d) (t':=t) (ch:=[]) un hok bare (fun b z=>absurd z (by simp)),r,q⟩
end
def tCall (sp:Sp) (dvs:List V) (E:XK) (t:TA):TE:=fun σ H Q=>t σ H fun vs H1=>sp (vs ++ dvs) H1 Q E
def tMeth (C:Addr) (m:Str) (sp:Sp) (dvs:List V) (E:XK) (ta:TE) (t:TA):TE:=fun σ H Q=>ta σ H fun x H1=>∃ a dx fs,x = .ref a∧H1 a = some (.ins C dx fs)∧fs.lookup m = none∧
  t σ H1 fun vs H2=>sp (x :: (vs ++ dvs)) H2 Q E
def tMake (C:Addr) (sp:Sp) (dvs:List V) (E:XK) (t:TA):TE:=fun σ H Q=>t σ H fun vs H1=>∀ x dx,H1 x = none→H1 dx = none→dx ≠ x→
  sp (.ref x :: (vs ++ dvs)) (upd (upd H1 dx (.own x)) x (.ins C dx [])) (fun v H2=>v = .non∧Q (.ref x) H2) E
def Binds (K:PySem.W.Frag) (fd:FuncData) (ps:List Str) (ds:List Value):Prop:=
  ∀ (s:Shared) (us:List Value),K.In s.heap→(us ++ ds).length = ps.length→BindsTo s fd ⟨us,[]⟩ (ps.zip (us ++ ds))
theorem Binds.all {K:PySem.W.Frag} {fd:FuncData} {ps:List Str} (h:∀ us:List Value,us.length = ps.length→bindArgs fd ⟨us,[]⟩ = pure (ps.zip us)):Binds K fd ps []:=fun s us _ hl=>by
  rw [List.append_nil] at hl ⊢
  exact .of_eq (h us hl)
def Passes (CX:CXT) (X:Cx) (E:XK):Prop:=∀ (pins:List (Addr × Obj)) (σ:St) (H:Hp) (s:Shared) (e:Value) (s':Shared),Inv X pins σ H s→CX X.stack H s E e s'→X.xe e s'
section
variable {X:Cx} {CX:CXT} {k:Nat} {f C:Addr} {fd:FuncData} {ps:List Str} {sp:Sp} {dvs:List V} {ds:List Value} {E:XK} {x m:Str} {p pos apos:Pos} {e o:Expr} {es:List Expr} {ta:TE} {t:TA}
theorem run_fn {pins:List (Addr × Obj)} {σ:St} {H:Hp} {s:Shared} {Q:VK} {us:List Value} {vs:List V} (F:FnOk X.prog X.w X.K X.mg X.base CX k f fd ps sp) (hr:Room k X.A) (hb:Binds X.K fd ps ds) (hd:Vals dvs ds) (hx:Passes CX X E)
    (I:Inv X pins σ H s) (r:Vals vs us) (h:sp (vs ++ dvs) H Q E):wpAny (model X.prog X.w) X.A (call (.ref f) us) (EP X pins σ Q) X.xe s:=by
  have r2:Vals (vs ++ dvs) (us ++ ds):=r.append hd
  have hl:(us ++ ds).length = ps.length:=by rw [← r2.length]; exact F.len _ _ _ _ h
  refine wpAny_call (codeAny_mono (F.run X.A X.stack s H ⟨us,[]⟩ (us ++ ds) (vs ++ dvs) Q E hr I.env0 (hb s us I.kIn hl) r2 h) fun r s' hq=>?_)
  cases r with
  | error e=>exact hx pins σ H s e s' I hq
  | ok fl=>
    cases fl with
    | ret u=>exact I.after hq
    | next=>exact False.elim hq
    | brk=>exact False.elim hq
    | cont=>exact False.elim hq
theorem pe_call (F:FnOk X.prog X.w X.K X.mg X.base CX k f fd ps sp) (hr:Room k X.A) (hg:Gl X x) (hm:X.mg x = some (.ref f)) (hk:PySem.W.keepIn X.K (.ref f) = true) (hb:Binds X.K fd ps ds) (hd:Vals dvs ds) (hx:Passes CX X E)
    (ha:PA X (e :: es) t) (hdb:(x == ("__debug__":Str)) = false:=by decide) (he:starEach (e :: es) X.env = (false,eval e X.env) :: starEach es X.env:=by rfl) (hpl:(backTo pos (starEach es X.env)).any (·.1) = false:=by rfl) :
    PE X (.Call (.Name x p) (e :: es) [] pos) (tCall sp dvs E t):=by
  intro pins s σ H Q I h
  refine wpAny_Call_Name_kw (ld_glob I hg hm ?_ hdb)
  refine PySem.W.callWith_K (h₀:=X.base) I.ok.mod.kin hk (thn (ha pos pins s σ H _ I h) fun us s1 ⟨vs,H1,I1,r,q⟩=>⟨I1.kIn,?_⟩) he hpl
  exact run_fn F hr hb hd hx I1 r q
theorem pe_meth {pl:Sem Bool} (he:PE X o ta) (c:Cls X.K C) (hm:Meth X.K C m f) (F:FnOk X.prog X.w X.K X.mg X.base CX k f fd ps sp) (hr:Room k X.A) (hb:Binds X.K fd ps ds) (hd:Vals dvs ds) (hx:Passes CX X E) (ha:PA X (e :: es) t)
    (hst:starEach (e :: es) X.env = (false,eval e X.env) :: starEach es X.env:=by rfl) (hpl:(backTo pos (starEach es X.env)).any (·.1) = false:=by rfl)
    (ht:eval (.Call (.Attribute o m apos) (e :: es) [] pos) X.env = (do
      let ov ← eval o X.env
      standAt apos.atName
      let (f,first) ← holding [ov] (getMethod ov m pl)
      callWith pos f first (backTo pos (starEach (e :: es) X.env)) (backToKw pos (keywordEach [] X.env))):=by rfl) :
    PE X (.Call (.Attribute o m apos) (e :: es) [] pos) (tMeth C m sp dvs E ta t):=by
  intro pins s σ H Q I h
  refine PySem.W.methodCall_KW (pl:=pl) (thn (he pins s σ H _ I h) fun u s1 ⟨x,H1,I1,rx,a,dx,fs,ex,ea,l,q⟩=>?_) ht
  subst ex
  obtain rfl:u = Value.ref a:=rx
  refine getmeth_ok I1 ea c hm l ?_
  refine PySem.W.callWith_K (first:=[.ref a]) (h₀:=X.base) I.ok.mod.kin hm.kp (thn (ha pos pins s1 σ H1 _ I1 q) fun us s2 ⟨vs,H2,I2,r,q2⟩=>⟨I2.kIn,?_⟩) hst hpl
  exact run_fn (us:=.ref a :: us) (vs:=.ref a :: vs) F hr hb hd hx I2 (.cons rfl r) q2
structure Mk (K:PySem.W.Frag) (C f:Addr):Prop where
  makes:PySem.W.makesIn K C = true
  init:PySem.W.findIn K (.ref C) "__init__" = some (some (.ref f))
  fn:PySem.W.isFn K (.ref f) = true
  kp:PySem.W.keepIn K (.ref C) = true
theorem run_make {pins:List (Addr × Obj)} {σ:St} {H:Hp} {s:Shared} {Q:VK} {us:List Value} {vs:List V} (M:Mk X.K C f) (F:FnOk X.prog X.w X.K X.mg X.base CX k f fd ps sp) (hr:Room (k + 1) X.A) (hb:Binds X.K fd ps ds) (hd:Vals dvs ds)
    (hx:Passes CX X E) (I:Inv X pins σ H s) (r:Vals vs us)
    (h:∀ x dx,H x = none→H dx = none→dx ≠ x→sp (.ref x :: (vs ++ dvs)) (upd (upd H dx (.own x)) x (.ins C dx [])) (fun v H2=>v = .non∧Q (.ref x) H2) E) :
    wpAny (model X.prog X.w) X.A (call (.ref C) us) (EP X pins σ Q) X.xe s:=by
  have hq:=h (s.heap.objs.size + 1) s.heap.objs.size (I.hok.fresh (Nat.le_succ _)) (I.hok.fresh (Nat.le_refl _)) (Nat.ne_of_lt (Nat.lt_succ_self _))
  have I2:=Inv.made (C:=C) I
  have r2:Vals (V.ref (s.heap.objs.size + 1) :: (vs ++ dvs)) (Value.ref (s.heap.objs.size + 1) :: (us ++ ds)):=.cons rfl (r.append hd)
  have hl:(Value.ref (s.heap.objs.size + 1) :: us ++ ds).length = ps.length:=by
    have e:=r2.length
    rw [F.len _ _ _ _ hq] at e
    exact e.symm
  refine wpAny_call (make_map (f:=f) I.kIn M.makes M.init (beq_iff_eq.mp M.fn) (codeAny_mono (F.run _ X.stack _ _ ⟨Value.ref (s.heap.objs.size + 1) :: us,[]⟩ (Value.ref (s.heap.objs.size + 1) :: (us ++ ds)) _ _ E (hr.make C us [])
    (I2.env0.make C us []) (hb _ (Value.ref (s.heap.objs.size + 1) :: us) I2.kIn hl) r2 hq) fun r s' hq'=>?_))
  cases r with
  | error e=>exact hx pins σ _ _ e s' I2 hq'
  | ok fl=>
    cases fl with
    | ret u=>
      obtain ⟨v,H',I3,rv,ev,q3⟩:=I2.after hq'
      subst ev
      exact ⟨rv,⟨V.ref (s.heap.objs.size + 1),H',I3,rfl,q3⟩⟩
    | next=>exact False.elim hq'
    | brk=>exact False.elim hq'
    | cont=>exact False.elim hq'
theorem pe_make (M:Mk X.K C f) (F:FnOk X.prog X.w X.K X.mg X.base CX k f fd ps sp) (hr:Room (k + 1) X.A) (hg:Gl X x) (hm:X.mg x = some (.ref C)) (hb:Binds X.K fd ps ds) (hd:Vals dvs ds) (hx:Passes CX X E)
    (ha:PA X (e :: es) t) (hdb:(x == ("__debug__":Str)) = false:=by decide) (he:starEach (e :: es) X.env = (false,eval e X.env) :: starEach es X.env:=by rfl) (hpl:(backTo pos (starEach es X.env)).any (·.1) = false:=by rfl) :
    PE X (.Call (.Name x p) (e :: es) [] pos) (tMake C sp dvs E t):=by
  intro pins s σ H Q I h
  refine wpAny_Call_Name_kw (ld_glob I hg hm ?_ hdb)
  refine PySem.W.callWith_K (h₀:=X.base) I.ok.mod.kin M.kp (thn (ha pos pins s σ H _ I h) fun us s1 ⟨vs,H1,I1,r,q⟩=>⟨I1.kIn,?_⟩) he hpl
  exact run_make M F hr hb hd hx I1 r q
end
section
variable {X:Cx} {CX:CXT} {k:Nat} {f C:Addr} {fd:FuncData} {ps ks:List Str} {sp:Sp} {E:XK} {x m:Str} {p pos apos kpos:Pos} {e o:Expr} {es:List Expr} {kws:List Keyword} {te ta:TE} {t tk:TA} {nm:Option Str}
variable {g:List Value→List Value→List Value} {gV:List V→List V→List V}
end
structure FnScope (N P:List Str) (sc:Scope):Prop where
  kind:sc.kind = .function
  co:sc.isCoroutine = false
  gen:sc.isGenerator = false
  nd:N.Nodup
  pre:N.take P.length = P
  par:∀ x ∈ P,sc.names.lookup x = some .local ∨ sc.names.lookup x = some .cell
  nofree:∀ y ∈ sc.names,y.2 ≠ .free
theorem bindL_out {kindOf:Str→Option NameKind} {x:Str}:∀ {binds:List (Str × Value)} {m:Str→Option Value},(∀ v,(x,v) ∉ binds)→bindL kindOf binds m x = m x
  | [],_,_=>rfl
  | (n,v) :: r,m,h=>by
    unfold bindL
    rw [bindL_out fun w hw=>h w (List.mem_cons_of_mem _ hw)]
    split
    · have:x ≠ n:=by rintro rfl; exact h v List.mem_cons_self
      simp [this]
    · rfl
theorem bindC_out {kindOf:Str→Option NameKind} {x:Str}:∀ {binds:List (Str × Value)} {m:Str→Option Value},(∀ v,(x,v) ∉ binds)→bindC kindOf binds m x = m x
  | [],_,_=>rfl
  | (n,v) :: r,m,h=>by
    unfold bindC
    rw [bindC_out fun w hw=>h w (List.mem_cons_of_mem _ hw)]
    split
    · rfl
    · have:x ≠ n:=by rintro rfl; exact h v List.mem_cons_self
      simp [this]
theorem bindL_get {kindOf:Str→Option NameKind} {x:Str} {v:Value}:∀ {P:List Str} {vs:List Value} {i:Nat} {m:Str→Option Value},P.Nodup→P[i]? = some x→vs[i]? = some v→kindOf x = some .local→
    bindL kindOf (P.zip vs) m x = some v
  | [],_,_,_,_,h,_,_=>by simp at h
  | _ :: _,[],_,_,_,_,h,_=>by simp at h
  | p :: P,w :: vs,0,m,nd,h1,h2,hk=>by
    simp at h1 h2; subst h1; subst h2
    show bindL kindOf ((p,w) :: P.zip vs) m p = _
    unfold bindL
    rw [bindL_out fun v hv=>(List.nodup_cons.mp nd).1 (List.of_mem_zip hv).1,if_pos hk]
    simp
  | p :: P,w :: vs,i + 1,m,nd,h1,h2,hk=>by
    show bindL kindOf ((p,w) :: P.zip vs) m x = _
    unfold bindL
    exact bindL_get (i:=i) (List.nodup_cons.mp nd).2 (by simpa using h1) (by simpa using h2) hk
theorem bindC_get {kindOf:Str→Option NameKind} {x:Str} {v:Value}:∀ {P:List Str} {vs:List Value} {i:Nat} {m:Str→Option Value},P.Nodup→P[i]? = some x→vs[i]? = some v→kindOf x ≠ some .local→
    bindC kindOf (P.zip vs) m x = some v
  | [],_,_,_,_,h,_,_=>by simp at h
  | _ :: _,[],_,_,_,_,h,_=>by simp at h
  | p :: P,w :: vs,0,m,nd,h1,h2,hk=>by
    simp at h1 h2; subst h1; subst h2
    show bindC kindOf ((p,w) :: P.zip vs) m p = _
    unfold bindC
    rw [bindC_out fun v hv=>(List.nodup_cons.mp nd).1 (List.of_mem_zip hv).1,if_neg hk]
    simp
  | p :: P,w :: vs,i + 1,m,nd,h1,h2,hk=>by
    show bindC kindOf ((p,w) :: P.zip vs) m x = _
    unfold bindC
    exact bindC_get (i:=i) (List.nodup_cons.mp nd).2 (by simpa using h1) (by simpa using h2) hk
def start (N:List Str) (vs:List V):St:=vs.map some ++ List.replicate (N.length - vs.length) none
def cxOf (CX:CXT) (P:Program) (w:World) (K:PySem.W.Frag) (mg:Str→Option Value) (base:Heap) (N:List Str) (qual:Str) (scope:Scope) (f:Addr) (cd:Value) (A:Around) (outer:List Env) (s:Shared) (H:Hp) (E:XK):Cx where
  prog:=P
  w:=w
  K:=K
  mg:=mg
  base:=base
  A:=A.deeper (envOfC qual scope s.heap.objs.size f cd)
  N:=N
  s₀:=s
  H₀:=H
  env:=envOfC qual scope s.heap.objs.size f cd
  outer:=outer
  stack:=envOfC qual scope s.heap.objs.size f cd :: outer
  ex:=[]
  calm:=true
  fn:=fun _=>true
  pn:=[]
  xe:=fun e s'=>wpAny (model P w) (A.deeper (envOfC qual scope s.heap.objs.size f cd)) (leaving (envOfC qual scope s.heap.objs.size f cd) e) (fun _ s''=>CX outer H s E e s'') (fun e' s''=>CX outer H s E e' s'') s'
theorem cell_has {sc:Scope} {n:Nat} {x:Str} (h:sc.names.lookup x = some .cell):∃ c,(cellsFrom n sc.names []).lookup x = some c:=by
  have q:=PySem.W.cellsFrom_some sc.names n [] (.inl h)
  exact Option.isSome_iff_exists.mp q
theorem inv_start {CX:CXT} {P:Program} {w:World} {K:PySem.W.Frag} {mg:Str→Option Value} {base:Heap} {N ps:List Str} {qual:Str} {scope:Scope} {f:Addr} {cd:Value} {A:Around} {outer:List Env} {s s1:Shared} {H:Hp} {E:XK} {us:List Value} {vs:List V}
    (S:FnScope N ps scope) (hd:A.handled = none) (e0:Env0 P w K mg base A outer s H) (hl:vs.length = ps.length) (r:Vals vs us)
    (x:InCallC s s.heap.objs.size (bindL (envOfC qual scope s.heap.objs.size f cd).kindOf (ps.zip us) fun _=>none) (cellsFrom (s.heap.objs.size + 1) scope.names []) (bindC (envOfC qual scope s.heap.objs.size f cd).kindOf (ps.zip us) fun _=>none) s1) :
    Inv (cxOf CX P w K mg base N qual scope f cd A outer s H E) [] (start N vs) H s1:=by
  have hpl:ps.length ≤ N.length:=by have:=congrArg List.length S.pre; rw [List.length_take] at this; omega
  obtain ⟨h1,tk,rfl,hk⟩:=x.done
  have noA:∀ b:Addr,b ∉ (cxOf CX P w K mg base N qual scope f cd A outer s H E).ex:=fun b z=>absurd (show b ∈ ([]:List Addr) from z) (by simp)
  refine ⟨⟨e0.mod,S.kind,rfl,rfl,Nat.le_refl _,fun y z c h1 h2=>?_,fun y hy=>?_,fun y c _ h=>?_,fun _=>hd,Around.frames_deeper e0.frames,.inr ⟨rfl,rfl⟩,fun b z=>absurd z (noA b),e0.bs,e0.bsz,fun b _ _=>noA b,fun b z=>absurd z (noA b),e0.funs,e0.frf⟩,
    rfl,e0.bare,Un.kept hk,⟨_,x.toInCall.ns,fun i y v h1 h2 h3=>?_⟩,fun y c h=>⟨_,x.cell y c h⟩,e0.hok.fresh (Nat.le_refl _),fun y c h=>?_,fun p hp=>absurd (show p ∈ ([]:List (Addr × Obj)) from hp) (by simp),e0.hok.kept hk,?_⟩
  · exact name_of_addr x.apart (PySem.mem_of_lookup h1) (PySem.mem_of_lookup h2)
  · have hy:scope.names.lookup y = some .cell ∨ scope.names.lookup y = some .free:=hy
    rcases hy with hy | hy
    · exact cell_has hy
    · exact absurd rfl (S.nofree _ (PySem.mem_of_lookup hy))
  · exact Nat.le_of_lt (x.above y c (PySem.mem_of_lookup h))
  · have hi:i < vs.length:=by
      unfold start at h2
      by_cases hi:i < vs.length
      · exact hi
      · rw [List.getElem?_append_right (by simpa using hi)] at h2
        rw [List.getElem?_replicate] at h2
        split at h2 <;> cases h2
    have ha:vs[i]? = some v:=by
      unfold start at h2
      rw [List.getElem?_append_left (by simpa using hi),List.getElem?_map] at h2
      cases e:vs[i]? with
      | none=>rw [e] at h2; cases h2
      | some a=>rw [e] at h2; cases h2; rfl
    obtain ⟨u,hu,rv⟩:=r.get ha
    have hp:ps[i]? = some y:=by
      rw [← S.pre,List.getElem?_take_of_lt (by omega)]; exact h1
    have ndP:ps.Nodup:=by rw [← S.pre]; exact S.nd.sublist (List.take_sublist _ _)
    refine ⟨u,rv,?_⟩
    rcases S.par y (List.mem_of_getElem? hp) with k | k
    · exact .inl ⟨k,bindL_get ndP hp hu k⟩
    · obtain ⟨c,e⟩:=cell_has (n:=s.heap.objs.size + 1) k
      refine .inr ⟨.inl k,c,e,?_⟩
      have q:=x.cell y c e
      rw [bindC_get ndP hp hu (by show scope.names.lookup y ≠ _; rw [k]; decide)] at q
      exact q
  · exact e0.hok.fresh (Nat.le_of_lt (x.above y c (PySem.mem_of_lookup h)))
  · unfold start
    show _ = N.length
    rw [List.length_append,List.length_map,List.length_replicate]
    omega
theorem fn_of {CX:CXT} {P:Program} {w:World} {K:PySem.W.Frag} {mg:Str→Option Value} {base:Heap} {k:Nat} {f:Addr} {name qual:Str} {params:Arguments} {body:List Stmt} {scope:Scope} {dV kV doc pm cdv ct oc:Value} {an od:Option Addr}
    {osl:Array (Option Value)} {N ps:List Str} {sp:Sp} (lk:K.lookup f = some ⟨oc,od,.func (PySem.W.fnOf name qual params body scope dV kV doc pm an cdv ct),osl⟩) (hcd:PySem.W.codeIn K cdv qual = true) (S:FnScope N ps scope)
    (len:∀ vs H Q E,sp vs H Q E→vs.length = ps.length)
    (hbody:∀ (A:Around) (outer:List Env) (s:Shared) (H:Hp) (vs:List V) (Q:VK) (E:XK),Room k (A.deeper (envOfC qual scope s.heap.objs.size f cdv))→sp vs H Q E→
      ∃ t,PSs (cxOf CX P w K mg base N qual scope f cdv A outer s H E) body t∧t { nx:=fun _ H'=>Q .non H',rt:=Q } (start N vs) H) :
    FnOk P w K mg base CX (k + 1) f (PySem.W.fnOf name qual params body scope dV kV doc pm an cdv ct) ps sp:=by
  refine ⟨len,fun A outer s H args us vs Q E hr e0 hb r hsp=>?_⟩
  have hl:=len _ _ _ _ hsp
  have KX:K.In s.heap:=e0.mod.kin.keeps fun b o e=>(e0.bs b o e).1
  have lim:s.heap.NoLimit:=e0.mod.nolimit.keeps fun b o e=>(e0.bs b o e).1
  have hkind:∀ y ∈ ps.zip us,scope.names.lookup y.1 = some .local ∨ (scope.names.lookup y.1 = some .cell∧((cellsFrom (s.heap.objs.size + 1) scope.names []).lookup y.1).isSome = true):=fun ⟨n,v⟩ hy=>by
    rcases S.par n (List.of_mem_zip hy).1 with q | q
    · exact .inl q
    · exact .inr ⟨q,PySem.W.cellsFrom_some _ _ _ (.inl q)⟩
  refine codeAny_call_function hr.depth (KX _ _ lk) rfl S.co S.gen rfl (PySem.W.codeRec_of KX hcd) (hb _ _ _ _ ?_)
  refine wpAny_newFunctionEnv_cells S.kind hkind fun env he s1 x=>?_
  subst he
  refine ⟨lim.keeps x.toInCall.keep,codeAny_func ?_⟩
  obtain ⟨t,ht,hq⟩:=hbody A outer s H vs Q E (hr.deeper _) hsp
  have I:Inv (cxOf CX P w K mg base N qual scope f cdv A outer s H E) [] (start N vs) H s1:=inv_start S hr.hd e0 hl r x
  refine wpAny_mono (ht [] s1 (start N vs) H _ I hq) (fun fl s' hs=>?_) fun e s' hs=>hs
  have fin:∀ {σ':St} {H':Hp} {v:V} {u:Value},Inv (cxOf CX P w K mg base N qual scope f cdv A outer s H E) [] σ' H' s'→RelV v u→Q v H'→CE outer P w H s Q u s':=
    fun {σ' H' v u} J rv q=>⟨v,H',J.os,J.bare,J.base,J.hok,rv,q⟩
  cases fl with
  | ret u=>
    obtain ⟨v,σ',H',J,rv,q⟩:=hs
    exact fin J rv q
  | next=>
    obtain ⟨σ',H',J,q⟩:=hs
    exact fin (v:=V.non) (u:=Value.none) J rfl q
  | brk=>
    obtain ⟨_,_,_,q⟩:=hs
    exact False.elim q
  | cont=>
    obtain ⟨_,_,_,q⟩:=hs
    exact False.elim q
end L2
namespace L2
open PySem PySem.Spec PyProof.Rows
section
variable {X:Cx} {x:Str} {p pos:Pos} {e:Expr} {es:List Expr} {t:TA} {id T:String} {r:List V→Hp→VK→Prop}
def tCB (r:List V→Hp→VK→Prop) (t:TA):TE:=fun σ H Q=>t σ H fun vs H1=>r vs H1 Q
theorem pe_callB (hc:CallR X (.builtin id) r) (hg:Gl X x) (hm:X.mg x = none) (hv:bootBuiltins x = some (.builtin id)) (ha:PA X (e :: es) t) (hn:x ≠ "__name__":=by decide) (hdb:(x == ("__debug__":Str)) = false:=by decide)
    (he:starEach (e :: es) X.env = (false,eval e X.env) :: starEach es X.env:=by rfl) (hpl:(backTo pos (starEach es X.env)).any (·.1) = false:=by rfl):PE X (.Call (.Name x p) (e :: es) [] pos) (tCB r t):=by
  intro pins s σ H Q I h
  refine wpAny_Call_Name_kw (ld_blt I hg hm hv ?_ hn hdb)
  exact PyProof.Rows.callWith_builtin1 (thn (ha pos pins s σ H _ I h) fun us s1 ⟨vs,H1,I1,r1,q1⟩=>hc pins s1 σ H1 vs us Q I1 r1 q1) he hpl
theorem pe_callTy (hc:CallR X (.type T) r) (hg:Gl X x) (hm:X.mg x = none) (hv:bootBuiltins x = some (.type T)) (ha:PA X (e :: es) t) (hn:x ≠ "__name__":=by decide) (hdb:(x == ("__debug__":Str)) = false:=by decide)
    (he:starEach (e :: es) X.env = (false,eval e X.env) :: starEach es X.env:=by rfl) (hpl:(backTo pos (starEach es X.env)).any (·.1) = false:=by rfl):PE X (.Call (.Name x p) (e :: es) [] pos) (tCB r t):=by
  intro pins s σ H Q I h
  refine wpAny_Call_Name_kw (ld_blt I hg hm hv ?_ hn hdb)
  exact PyProof.Rows.callWith_type1 (thn (ha pos pins s σ H _ I h) fun us s1 ⟨vs,H1,I1,r1,q1⟩=>hc pins s1 σ H1 vs us Q I1 r1 q1) he hpl
end
end L2
namespace HT
open PySem PyProof.Rows
section
open PySem.SeqAt
open PySem.AutoSeq1 (wpAny_loadPart')
open PySem.MeetsSeq PySem.MeetsSeq2 PySem.MeetsSeq3
end
section
variable {prog:Program} {w:World} {A:Around} {E:Value→Shared→Prop} {s:Shared}
def sIx (n d:Nat):Option Int→Nat
  | none=>d
  | some v=>if v < 0 then (v + (n:Int)).toNat else min v.toNat n
theorem sIx_none (n d:Nat):sIx n d none = d:=rfl
theorem sIx_nat (n d k:Nat):sIx n d (some (k:Int)) = min k n:=by
  show (if (k:Int) < 0 then ((k:Int) + (n:Int)).toNat else min (k:Int).toNat n) = min k n
  rw [if_neg (by omega),Int.toNat_natCast]
end
end HT
namespace L2
open PySem PySem.Spec PyProof.Rows
abbrev TO:=St→Hp→(Option Int→Hp→Prop)→Prop
def PO (X:Cx) (e:Option Expr) (t:TO):Prop:=
  ∀ (pins:List (Addr × Obj)) (s:Shared) (σ:St) (H:Hp) (Q:Option Int→Hp→Prop),Inv X pins σ H s→t σ H Q→
    wpAny (model X.prog X.w) X.A (evalPart e X.env) (fun u s'=>∃ o H',Inv X pins σ H' s'∧IsPart u o∧Q o H') X.xe s
def tNoPart:TO:=fun _ H Q=>Q none H
def tPart (t:TE):TO:=fun σ H Q=>t σ H fun x H1=>∃ i,x = .int i∧Q (some i) H1
section
variable {X:Cx} {e:Expr} {te:TE} {lo hi:Option Expr} {tl th:TO} {pos p2:Pos}
theorem po_none:PO X none tNoPart:=by
  intro pins s σ H Q I h
  rw [evalPart_none]
  exact wpAny_pure ⟨none,H,I,.none,h⟩
theorem po_some (h:PE X e te):PO X (some e) (tPart te):=by
  intro pins s σ H Q I hw
  rw [evalPart_some]
  refine thn (h pins s σ H _ I hw) fun u s1 ⟨x,H1,I1,r1,q1⟩=>?_
  obtain ⟨i,rfl,q⟩:=q1
  obtain ⟨t,rfl⟩:=r1
  exact ⟨some i,H1,I1,.int i t,q⟩
def SlR (X:Cx) (r:V→Option Int→Option Int→Hp→VK→Prop):Prop:=
  ∀ (pins:List (Addr × Obj)) (s:Shared) (σ:St) (H:Hp) (x:V) (v vl vu:Value) (lo hi:Option Int) (sl:Addr) (Q:VK),Inv X pins σ H s→RelV x v→s.heap.IsSliceOf sl vl vu .none→IsPart vl lo→IsPart vu hi→r x lo hi H Q→
    ∃ T id,typeLookup (.type T) "__getitem__" = pure (some (.builtin id))∧s.TypeIs v T∧wpAny (model X.prog X.w) X.A (getItem v (.ref sl)) (EP X pins σ Q) X.xe s
def tSl (r:V→Option Int→Option Int→Hp→VK→Prop) (te:TE) (tl th:TO):TE:=fun σ H Q=>te σ H fun x H1=>tl σ H1 fun l H2=>th σ H2 fun u H3=>r x l u H3 Q
theorem pe_slice {r:V→Option Int→Option Int→Hp→VK→Prop} (hr:SlR X r) (he:PE X e te) (hl:PO X lo tl) (hu:PO X hi th):PE X (.Subscript e (.Slice lo hi none p2) pos) (tSl r te tl th):=by
  intro pins s σ H Q I h
  refine Subscript_ (thn (he pins s σ H _ I h) fun v s1 ⟨x,H1,I1,r1,q1⟩=>?_)
  refine wpAny_Slice (thn (hl pins s1 σ H1 _ I1 q1) fun vl s2 ⟨l,H2,I2,pl,q2⟩=>thn (hu pins s2 σ H2 _ I2 q2) fun vu s3 ⟨u,H3,I3,pu,q3⟩=>?_)
  rw [evalPart_none]
  refine wpAny_pure ?_
  have I4:Inv X pins σ H3 { s3 with heap:=s3.heap.push { cls:=.type "slice",data:=.fields #[vl,vu,.none] } }:=I3.kept (t':=s3.toks) fun b ob q=>Heap.get?_push_of_some _ q
  obtain ⟨T,id,hT,ht,hg⟩:=hr pins { s3 with heap:=s3.heap.push { cls:=.type "slice",data:=.fields #[vl,vu,.none] } } σ H3 x v vl vu l u s3.heap.objs.size Q I4 r1 (Heap.IsSliceOf.new ..) pl pu q3
  show wpAny (model X.prog X.w) X.A (subscriptTail e (.Slice lo hi none p2) v (.ref s3.heap.objs.size)) (EP X pins σ Q) X.xe { s3 with heap:=s3.heap.push { cls:=.type "slice",data:=.fields #[vl,vu,.none] } }
  exact tail_any (ops:=[.ref s3.heap.objs.size,v]) ht hT hg (by with_unfolding_all rfl)
def cutV (xs:List V) (lo hi:Option Int):List V:=(xs.drop (HT.sIx xs.length 0 lo)).take (HT.sIx xs.length xs.length hi - HT.sIx xs.length 0 lo)
theorem cutV_length (xs:List V) (lo hi:Option Int):(cutV xs lo hi).length ≤ xs.length:=by
  unfold cutV
  rw [List.length_take,List.length_drop]
  omega
end
end L2
namespace L2
open PySem PySem.Spec PyProof.Rows
def ixN (n:Nat) (i:Int):Option Nat:=if 0 ≤ i then (if i < n then some i.toNat else none) else if -(n:Int) ≤ i then some (i + n).toNat else none
def atI {α:Type} (xs:List α) (i:Int):Option α:=(ixN xs.length i).bind fun j=>xs[j]?
theorem ixN_seq {n:Nat} {i:Int} {j:Nat} (h:ixN n i = some j):seqIndex? i n = some j∧j < n∧-(n:Int) ≤ i∧i < n:=by
  unfold ixN at h
  by_cases h0:0 ≤ i
  · rw [if_pos h0] at h
    by_cases h1:i < n
    · rw [if_pos h1] at h
      have e:i.toNat = j:=Option.some.inj h
      exact ⟨by rw [seqIndex_of h0 h1,e],by omega,by omega,h1⟩
    · rw [if_neg h1] at h; cases h
  · rw [if_neg h0] at h
    by_cases h1:-(n:Int) ≤ i
    · rw [if_pos h1] at h
      have e:(i + n).toNat = j:=Option.some.inj h
      exact ⟨by rw [seqIndex_neg (by omega) h1,e],by omega,h1,by omega⟩
    · rw [if_neg h1] at h; cases h
theorem atI_get {α:Type} {xs:List α} {i:Int} {v:α} (h:atI xs i = some v):∃ j,seqIndex? i xs.length = some j∧xs[j]? = some v∧j < xs.length∧-(xs.length:Int) ≤ i∧i < xs.length:=by
  unfold atI at h
  cases e:ixN xs.length i with
  | none=>rw [e] at h; cases h
  | some j=>
    rw [e] at h
    obtain ⟨h1,h2,h3,h4⟩:=ixN_seq e
    exact ⟨j,h1,h,h2,h3,h4⟩
theorem atI_nat {α:Type} {xs:List α} {j:Nat} {v:α} (h:xs[j]? = some v):atI xs (j:Int) = some v:=by
  have hj:j < xs.length:=(List.getElem?_eq_some_iff.mp h).1
  have e:ixN xs.length (j:Int) = some j:=by
    unfold ixN
    rw [if_pos (by omega),if_pos (by omega)]; simp
  unfold atI; rw [e]; exact h
def PlainIx (b:Expr):Prop:=∀ o i,subscripted b false o i = operate [o,i] (getItem o i)
def IxR (X:Cx) (r:R2):Prop:=
  ∀ (value slice:Expr) (pins:List (Addr × Obj)) (s:Shared) (σ:St) (H:Hp) (x y:V) (v u:Value) (Q:VK),Inv X pins σ H s→RelV x v→RelV y u→r x y H Q→
    subscripted slice false v u = operate [v,u] (getItem v u)→wpAny (model X.prog X.w) X.A (subscriptTail value slice v u) (EP X pins σ Q) X.xe s
def MtR (X:Cx) (id:String) (r:V→List V→Hp→VK→Prop):Prop:=
  ∀ (pins:List (Addr × Obj)) (s:Shared) (σ:St) (H:Hp) (x:V) (xs:List V) (v:Value) (us:List Value) (Q:VK),Inv X pins σ H s→RelV x v→Vals xs us→r x xs H Q→
    wpAny (model X.prog X.w) X.A (call (.builtin id) (v :: us)) (EP X pins σ Q) X.xe s
section
variable {X:Cx} {a b:Expr} {ta tb:TE} {pos:Pos}
theorem pe_ix {r:R2} (hr:IxR X r) (ha:PE X a ta) (hb:PE X b tb) (hs:PlainIx b):PE X (.Subscript a b pos) (tOp r ta tb):=by
  intro pins s σ H Q I h
  exact Subscript_ (binT ha hb I h fun v u s2 x y H2 I2 rx ry q=>hr a b pins s2 σ H2 x y v u Q I2 rx ry q (hs _ _))
def rIxL (K:PySem.W.Frag):R2:=fun x y H Q=>∃ p xs i v,x = .ref p∧y = .int i∧SqL K H p xs∧atI xs i = some v∧Q v H
def rIxT (K:PySem.W.Frag):R2:=fun x y H Q=>∃ p xs i v,x = .ref p∧y = .int i∧SqT K H p xs∧atI xs i = some v∧Q v H
theorem ix_list:IxR X (rIxL X.K):=by
  intro value slice pins s σ H x y v u Q I rx ry h hs
  obtain ⟨p,xs,i,z,rfl,rfl,hq,he,q⟩:=h
  cases rx
  obtain ⟨t,rfl⟩:=ry
  obtain ⟨its,r,pl,hz⟩:=I.list hq
  obtain ⟨j,h1,h2,h3,h4,h5⟩:=atI_get he
  obtain ⟨w,ew,rw'⟩:=r.get h2
  have hl:=r.length
  have hn:=line63
  have fin:EP X pins σ Q w s:=⟨z,H,I,rw',q⟩
  by_cases h0:0 ≤ i
  · have hj:i.toNat = j:=by
      rw [seqIndex_of h0 h5] at h1
      exact Option.some.inj h1
    exact item_listR pl.isList h0 (by omega) (by rw [hj]; simpa using ew) fin hs
  · have hj:(i + (its.toArray.size:Int)).toNat = j:=by
      rw [seqIndex_neg (by omega) h4] at h1
      rw [List.size_toArray,← hl]
      exact Option.some.inj h1
    exact subscriptTail_builtinR (x:=w) pl.isList.typeIs slot_list_getitem.lookup
      (wpAny_getItem_list_neg (Q:=fun r s'=>r = w∧EP X pins σ Q r s') pl.isList (by omega) (by rw [List.size_toArray] <;> omega) (by omega) (by rw [hj]; simpa using ew) ⟨rfl,fin⟩) hs
theorem ix_tup:IxR X (rIxT X.K):=by
  intro value slice pins s σ H x y v u Q I rx ry h hs
  obtain ⟨p,xs,i,z,rfl,rfl,hq,he,q⟩:=h
  cases rx
  obtain ⟨t,rfl⟩:=ry
  obtain ⟨its,r,pl,hz⟩:=I.tuple hq
  obtain ⟨j,h1,h2,h3,h4,h5⟩:=atI_get he
  obtain ⟨w,ew,rw'⟩:=r.get h2
  have hl:=r.length
  have hn:=line63
  have fin:EP X pins σ Q w s:=⟨z,H,I,rw',q⟩
  exact subscriptTail_builtinR (x:=w) pl.typeIs slot_tuple_getitem.lookup
    (getItem_tuple (j:=j) (Q:=fun r s'=>r = w∧EP X pins σ Q r s') pl (by omega) (by omega) (by rw [List.size_toArray,← hl]; exact h1) (by simpa using ew) ⟨rfl,fin⟩) hs
theorem mapSeq_set (its:List Value) (n j:Nat) (u:Value):Obj.mapSeq (·.setIfInBounds j u) { cls:=.type "list",data:=.seq its.toArray n } = { cls:=.type "list",data:=.seq (its.set j u).toArray n }:=by
  simp [Obj.mapSeq]
theorem Inv.lst {pins:List (Addr × Obj)} {σ:St} {H:Hp} {s:Shared} {p:Addr} {xs:List V} (I:Inv X pins σ H s) (h:H p = some (.lst xs)) :
    ∃ (its:List Value) (n:Nat),Vals xs its∧s.heap.get? p = some { cls:=.type "list",data:=.seq its.toArray n }∧xs.length ≤ sizeLine:=by
  obtain ⟨z,its,n,r,e⟩:=I.hok p _ h
  exact ⟨its,n,r,e,z⟩
theorem Inv.lstUpd {pins:List (Addr × Obj)} {σ:St} {H:Hp} {s:Shared} {p:Addr} {xs ys:List V} {its its':List Value} {n n':Nat} {f:Obj→Obj} (I:Inv X pins σ H s) (h:H p = some (.lst xs))
    (ho:s.heap.get? p = some { cls:=.type "list",data:=.seq its.toArray n }) (hf:f { cls:=.type "list",data:=.seq its.toArray n } = { cls:=.type "list",data:=.seq its'.toArray n' }) (r:Vals ys its') (hz:ys.length ≤ sizeLine) (t:Nat) :
    Inv X pins σ (upd H p (.lst ys)) { s with heap:=s.heap.update p f,toks:=t }:=by
  have e:(s.heap.update p f).get? p = some { cls:=.type "list",data:=.seq its'.toArray n' }:=by
    rw [Heap.get?_update_self f ho (by rw [hf] <;> rfl),hf]
  refine I.write (x:=p) (e:=p) (by rw [h]; trivial) (.inl rfl) (fun b u hb q=>(Heap.get?_update_other _ _ (Ne.symm hb)).trans q) ⟨_,e⟩ ?_
  exact ⟨hz,its',n',r,e⟩
def rSetL:V→V→V→Hp→(Hp→Prop)→Prop:=fun o i v H Q=>∃ p xs k j,o = .ref p∧i = .int k∧H p = some (.lst xs)∧ixN xs.length k = some j∧Q (upd H p (.lst (xs.set j v)))
theorem set_list:PSet X rSetL:=by
  intro pins s σ H o i v ov iv u Q I ro ri rv h
  obtain ⟨p,xs,k,j,rfl,rfl,hp,hj,q⟩:=h
  cases ro
  obtain ⟨t,rfl⟩:=ri
  obtain ⟨its,n,r,ho,hz⟩:=I.lst hp
  obtain ⟨h1,h2,h3,h4⟩:=ixN_seq hj
  have hl:=r.length
  have hn:=line63
  have I':Inv X pins σ (upd H p (.lst (xs.set j v))) { s with heap:=s.heap.update p (Obj.mapSeq (·.setIfInBounds j u)) }:=
    I.lstUpd hp ho (mapSeq_set its n j u) (r.set rv j) (by rw [List.length_set]; exact hz) s.toks
  by_cases h0:0 ≤ k
  · have hk:k.toNat = j:=by
      rw [seqIndex_of h0 h4] at h1
      exact Option.some.inj h1
    exact PySem.W.ki_setAt ho h0 (by omega) (by rw [List.size_toArray,← hl]; exact h4) (by rw [hk]; exact ⟨_,I',q⟩)
  · have hk:(k + (its.toArray.size:Int)).toNat = j:=by
      rw [seqIndex_neg (by omega) h3] at h1
      rw [List.size_toArray,← hl]
      exact Option.some.inj h1
    exact PySem.W.ki_setBack ho (by omega) (by rw [List.size_toArray,← hl]; exact h3) (by omega) (by rw [hk]; exact ⟨_,I',q⟩)
theorem slice_bounds (lo hi:Option Int) (n:Nat):(sliceBounds lo hi none n).1 = ((HT.sIx n 0 lo:Nat):Int)∧(sliceBounds lo hi none n).2.1 = ((HT.sIx n n hi:Nat):Int)∧(sliceBounds lo hi none n).2.2 = 1:=by
  refine ⟨?_,?_,rfl⟩
  · cases lo with
    | none=>simp [sliceBounds,HT.sIx]
    | some i=>
      simp only [sliceBounds,HT.sIx,Option.getD_none,show (1:Int) > 0 by decide,if_true]
      by_cases h:i < 0
      · simp only [h,if_true] <;> omega
      · simp only [h,if_false] <;> omega
  · cases hi with
    | none=>simp [sliceBounds,HT.sIx]
    | some i=>
      simp only [sliceBounds,HT.sIx,Option.getD_none,show (1:Int) > 0 by decide,if_true]
      by_cases h:i < 0
      · simp only [h,if_true] <;> omega
      · simp only [h,if_false] <;> omega
theorem slicePick_cut (its:List Value) (lo hi:Option Int):slicePick its.toArray lo hi none = ((its.drop (HT.sIx its.length 0 lo)).take (HT.sIx its.length its.length hi - HT.sIx its.length 0 lo)).toArray:=by
  obtain ⟨h1,h2,h3⟩:=slice_bounds lo hi its.toArray.size
  unfold slicePick
  rw [h1,h2,h3]
  simp only [sliceRange_one,pick_run,List.size_toArray] <;> rfl
def rSlL (K:PySem.W.Frag):V→Option Int→Option Int→Hp→VK→Prop:=fun x lo hi H Q=>∃ a xs,x = .ref a∧SqL K H a xs∧∀ p,H p = none→Q (.ref p) (upd H p (.lst (cutV xs lo hi)))
theorem sl_list:SlR X (rSlL X.K):=by
  intro pins s σ H x v vl vu lo hi sl Q I rx hs pl pu h
  obtain ⟨a,xs,rfl,hx,q⟩:=h
  cases rx
  obtain ⟨its,r,ht,hz⟩:=I.list hx
  have hlen:=r.length
  refine ⟨"list",_,slot_list_getitem.lookup,ht.isList.typeIs,?_⟩
  refine wpAny_getItem_list_slice ht.isList hs pl pu .none (by simp) ?_ (by rw [List.size_toArray] <;> omega)
  rw [slicePick_cut,← hlen]
  refine ⟨.ref s.heap.objs.size,_,I.laid (t':=s.toks) (o:=.lst (cutV xs lo hi)) (fun b ob q=>Heap.get?_push_of_some _ q) (Nat.le_refl _) ?_,rfl,q _ (I.hok.fresh (Nat.le_refl _))⟩
  exact ⟨Nat.le_trans (cutV_length xs lo hi) hz,_,0,(r.drop (HT.sIx xs.length 0 lo)).take (HT.sIx xs.length xs.length hi - HT.sIx xs.length 0 lo),Heap.get?_push_size _ rfl⟩
def flatV:V→Bool
  | .non=>true
  | .bl _=>true
  | .int _=>true
  | .str _=>true
  | _=>false
def eqV:V→V→Bool
  | .non,.non=>true
  | .bl a,.bl b=>a == b
  | .bl a,.int b=>(if a then 1 else 0) == b
  | .int a,.bl b=>a == (if b then 1 else 0)
  | .int a,.int b=>a == b
  | .str a,.str b=>a == b
  | _,_=>false
theorem eqAt_V {A:Around} {s:Shared} {y x:V} {u v:Value} (ry:RelV y u) (rx:RelV x v) (fy:flatV y = true) (fx:flatV x = true):SeqAt.EqAt A s u v (eqV y x):=by
  cases y with
  | non=>
    cases ry
    cases x with
    | non=>cases rx; exact SeqAt.EqAt.same _
    | bl b=>cases rx; exact SeqAt.EqAt.none_bool b
    | int b=>obtain ⟨t,rfl⟩:=rx; exact SeqAt.EqAt.none_int b t
    | str b=>obtain ⟨t,rfl⟩:=rx; exact SeqAt.EqAt.none_str b t
    | _=>exact absurd (show false = true from fx) Bool.false_ne_true
  | bl a=>
    cases ry
    cases x with
    | non=>cases rx; exact SeqAt.EqAt.bool_none a
    | bl b=>cases rx; exact SeqAt.EqAt.bool_bool a b
    | int b=>obtain ⟨t,rfl⟩:=rx; exact SeqAt.EqAt.bool_int a b t
    | str b=>obtain ⟨t,rfl⟩:=rx; exact SeqAt.EqAt.bool_str a b t
    | _=>exact absurd (show false = true from fx) Bool.false_ne_true
  | int a=>
    obtain ⟨t',rfl⟩:=ry
    cases x with
    | non=>cases rx; exact SeqAt.EqAt.int_none a t'
    | bl b=>cases rx; exact SeqAt.EqAt.int_bool a t' b
    | int b=>obtain ⟨t,rfl⟩:=rx; exact SeqAt.EqAt.int_int a t' b t
    | str b=>obtain ⟨t,rfl⟩:=rx; exact SeqAt.EqAt.int_str a t' b t
    | _=>exact absurd (show false = true from fx) Bool.false_ne_true
  | str a=>
    obtain ⟨t',rfl⟩:=ry
    cases x with
    | non=>cases rx; exact SeqAt.EqAt.str_none a t'
    | bl b=>cases rx; exact SeqAt.EqAt.str_bool a t' b
    | int b=>obtain ⟨t,rfl⟩:=rx; exact SeqAt.EqAt.str_int a t' b t
    | str b=>obtain ⟨t,rfl⟩:=rx; exact SeqAt.EqAt.str_str a t' b t
    | _=>exact absurd (show false = true from fx) Bool.false_ne_true
  | _=>exact absurd (show false = true from fy) Bool.false_ne_true
def eqU (x:V) (u:Value):Bool:=match u with
  | .none=>eqV .non x
  | .bool b=>eqV (.bl b) x
  | .int i _=>eqV (.int i) x
  | .str z _=>eqV (.str z) x
  | _=>false
theorem eqU_of {x y:V} {u:Value} (r:RelV y u) (f:flatV y = true):eqU x u = eqV y x:=by
  cases y with
  | non=>cases r; rfl
  | bl b=>cases r; rfl
  | int i=>obtain ⟨t,rfl⟩:=r; rfl
  | str z=>obtain ⟨t,rfl⟩:=r; rfl
  | _=>exact absurd (show false = true from f) Bool.false_ne_true
theorem any_eqU {x:V}:∀ {xs:List V} {us:List Value},Vals xs us→xs.all flatV = true→us.any (eqU x) = xs.any fun y=>eqV y x
  | _,_,.nil,_=>rfl
  | y :: xs,u :: us,.cons r t,f=>by
    rw [List.all_cons,Bool.and_eq_true] at f
    rw [List.any_cons,List.any_cons,eqU_of r f.1,any_eqU t f.2]
theorem mem_eqAt {A:Around} {s:Shared} {x:V} {v:Value} (rx:RelV x v) (fx:flatV x = true):∀ {xs:List V} {us:List Value},Vals xs us→xs.all flatV = true→∀ u ∈ us,SeqAt.EqAt A s u v (eqU x u)
  | _,_,.nil,_=>fun u hu=>by cases hu
  | y :: xs,u :: us,.cons r t,f=>fun u' hu=>by
    rw [List.all_cons,Bool.and_eq_true] at f
    rcases List.mem_cons.mp hu with rfl | hu
    · rw [eqU_of r f.1]; exact eqAt_V r rx f.1 fx
    · exact mem_eqAt rx fx t f.2 u' hu
def inV (x:V) (xs:List V):Bool:=xs.any fun y=>eqV y x
def rIn (K:PySem.W.Frag) (neg:Bool):R2:=fun x y H Q=>∃ p xs,y = .ref p∧(SqL K H p xs ∨ SqT K H p xs)∧flatV x = true∧xs.all flatV = true∧Q (.bl (if neg then !inV x xs else inV x xs)) H
theorem op_notIn_seq:OpR X (compareOp .NotIn) (rIn X.K true):=by
  intro pins s σ H x y v u Q I rx ry h
  obtain ⟨p,xs,rfl,hq,fx,fs,q⟩:=h
  cases ry
  rcases hq with hq | hq
  · obtain ⟨its,r,pl,hz⟩:=I.list hq
    refine SeqAt.notIn_listAt (eqU x) pl.isList (fun w hw=>mem_eqAt rx fx r fs w (by simpa using hw)) ⟨.bl _,H,I,rfl,?_⟩
    rw [show its.toArray.any (eqU x) = its.any (eqU x) by simp,any_eqU r fs]
    exact q
  · obtain ⟨its,r,pl,hz⟩:=I.tuple hq
    refine SeqAt.notIn_tupleAt (eqU x) pl (fun w hw=>mem_eqAt rx fx r fs w (by simpa using hw)) ⟨.bl _,H,I,rfl,?_⟩
    rw [show its.toArray.any (eqU x) = its.any (eqU x) by simp,any_eqU r fs]
    exact q
theorem call_len_seq:CallR X (.builtin "len") (fun xs H Q=>∃ p ys,xs = [.ref p]∧(SqL X.K H p ys ∨ SqT X.K H p ys)∧Q (.int ys.length) H):=by
  intro pins s σ H xs us Q I r h
  obtain ⟨p,ys,rfl,hq,q⟩:=h
  obtain ⟨u,rfl,rx⟩:=vals1 r
  cases rx
  have hn:=line63
  rcases hq with hq | hq
  · obtain ⟨its,r',pl,hz⟩:=I.list hq
    have hlen:=r'.length
    exact Calls.call_len_list pl.isList (by simp only [List.size_toArray] <;> omega) ⟨.int ys.length,H,I.tok _,⟨s.toks + 1,by rw [List.size_toArray,hlen]⟩,q⟩
  · obtain ⟨its,r',pl,hz⟩:=I.tuple hq
    have hlen:=r'.length
    exact len_tuple pl (by simp only [List.size_toArray] <;> omega) ⟨.int ys.length,H,I.tok _,⟨s.toks + 1,by rw [List.size_toArray,hlen]⟩,q⟩
theorem call_list_of:CallR X (.type "list") (fun xs H Q=>∃ p ys,xs = [.ref p]∧(SqL X.K H p ys ∨ SqT X.K H p ys)∧∀ l,H l = none→Q (.ref l) (upd H l (.lst ys))):=by
  intro pins s σ H xs us Q I r h
  obtain ⟨p,ys,rfl,hq,q⟩:=h
  obtain ⟨u,rfl,rx⟩:=vals1 r
  cases rx
  have fin:∀ (its:List Value),Vals ys its→ys.length ≤ sizeLine→∀ (h':Heap) (c':Nat),(∀ b o',s.heap.get? b = some o'→h'.get? b = some o')→
      h'.get? s.heap.objs.size = some { cls:=.type "list",dict:=none,data:=.seq its.toArray c',slots:=#[] }→EP X pins σ Q (.ref s.heap.objs.size) { s with heap:=h' }:=fun its r' hz h' c' kp e=>
    ⟨.ref s.heap.objs.size,_,I.laid (t':=s.toks) kp (Nat.le_refl _) (show ObjOk X.prog X.w _ h' _ (.lst ys) from ⟨hz,its,c',r',e⟩),rfl,q _ (I.hok.fresh (Nat.le_refl _))⟩
  rcases hq with hq | hq
  · obtain ⟨its,r',pl,hz⟩:=I.list hq
    have hlen:=r'.length
    obtain ⟨o,ho,hc,n,hd⟩:=pl.isList
    exact call_list_seq p (.inl rfl) ho hc hd (fun h' c' kp e=>fin its r' hz h' c' kp e) (by simp only [List.size_toArray] <;> omega)
  · obtain ⟨its,r',pl,hz⟩:=I.tuple hq
    have hlen:=r'.length
    obtain ⟨o,ho,hc,n,hd⟩:=pl
    exact call_list_seq p (.inr rfl) ho hc hd (fun h' c' kp e=>fin its r' hz h' c' kp e) (by simp only [List.size_toArray] <;> omega)
def tyV (K:PySem.W.Frag) (T:String) (x:V) (H:Hp):Prop:=match x with
  | .str _=>T = "str"
  | .int _=>T = "int"
  | .ref p=>(T = "list"∧∃ xs,SqL K H p xs) ∨ (T = "tuple"∧∃ o,K.lookup p = some o∧o.cls = .type "tuple"∧o.dict = none) ∨
      (T = "dict"∧((∃ kvs,H p = some (.dK kvs)) ∨ ∃ kvs,H p = some (.dT kvs))) ∨ (T = "set"∧∃ S n,H p = some (.set S n))
  | _=>False
theorem tyV_is {pins:List (Addr × Obj)} {σ:St} {H:Hp} {s:Shared} {T:String} {x:V} {v:Value} (I:Inv X pins σ H s) (r:RelV x v) (ty:tyV X.K T x H) :
    s.TypeIs v T∧∀ a,v = .ref a→∃ ob,s.heap.get? a = some ob∧ob.dict = none:=by
  cases x with
  | str z=>
    obtain ⟨t,rfl⟩:=r
    cases (show T = "str" from ty)
    exact ⟨typeIs_str s z t,fun _ e=>nomatch e⟩
  | int i=>
    obtain ⟨t,rfl⟩:=r
    cases (show T = "int" from ty)
    exact ⟨typeIs_int s i t,fun _ e=>nomatch e⟩
  | ref p=>
    cases r
    rcases ty with ⟨rfl,xs,hq⟩ | ⟨rfl,o,hk,hc,hd⟩ | ⟨rfl,hk⟩ | ⟨rfl,S,n,hk⟩
    · obtain ⟨its,_,pl,_⟩:=I.list hq
      refine ⟨pl.isList.typeIs,fun a e=>?_⟩
      cases e
      obtain ⟨o,n,e,c,hd,_⟩:=pl
      exact ⟨o,e,hd⟩
    · refine ⟨⟨o,I.kIn p o hk,hc⟩,fun a e=>?_⟩
      cases e
      exact ⟨o,I.kIn _ o hk,hd⟩
    · have z:∃ o,s.heap.get? p = some o∧o.ExactDict:=by
        rcases hk with ⟨kvs,hk⟩ | ⟨kvs,hk⟩
        · obtain ⟨_,_,_,_,o,_,_,e,ex,_⟩:=I.hok p _ hk
          exact ⟨o,e,ex⟩
        · obtain ⟨_,_,_,_,o,_,_,e,ex,_⟩:=I.hok p _ hk
          exact ⟨o,e,ex⟩
      obtain ⟨o,e,ex⟩:=z
      refine ⟨⟨o,e,ex.1⟩,fun a e2=>?_⟩
      cases e2
      exact ⟨o,e,ex.2.1⟩
    · obtain ⟨o,_,_,_,e,ex,_⟩:=I.hok p _ hk
      refine ⟨⟨o,e,ex.1⟩,fun a e2=>?_⟩
      cases e2
      exact ⟨o,e,ex.2.1⟩
  | _=>exact False.elim ty
def tBM0 (K:PySem.W.Frag) (T:String) (r:V→List V→Hp→VK→Prop) (to:TE):TE:=fun σ H Q=>to σ H fun x H1=>tyV K T x H1∧r x [] H1 Q
def tBM (K:PySem.W.Frag) (T:String) (r:V→List V→Hp→VK→Prop) (to:TE) (t:TA):TE:=fun σ H Q=>to σ H fun x H1=>tyV K T x H1∧t σ H1 fun xs H2=>r x xs H2 Q
variable {o e:Expr} {es:List Expr} {to:TE} {t:TA} {name:Str} {apos cpos:Pos} {T id:String} {r:V→List V→Hp→VK→Prop}
theorem pe_bm0 (pa:PlainAttrs T) (slot:Slot T name id) (hty:typeOf (.builtin id) = pure (.type "method_descriptor")) (hm:MtR X id r) (ho:PE X o to)
    (hbase:attributeBase o name X.env (eval o X.env) = eval o X.env:=by rfl) (hline:(apos.endLine == cpos.line) = true:=by rfl):PE X (.Call (.Attribute o name apos) [] [] cpos) (tBM0 X.K T r to):=by
  intro pins s σ H Q I h
  refine wpAny_Call_method0_late hbase hline (thn (ho pins s σ H _ I h) fun v s1 ⟨x,H1,I1,r1,ty,q1⟩=>?_)
  obtain ⟨h1,h2⟩:=tyV_is I1 r1 ty
  exact ⟨T,id,pa,slot,hty,h1,h2,Calls.callWith_builtin rfl (PySem.evalArgs_none (hm pins s1 σ H1 x [] v [] Q I1 r1 .nil q1))⟩
theorem pe_bm (pa:PlainAttrs T) (slot:Slot T name id) (hty:typeOf (.builtin id) = pure (.type "method_descriptor")) (hm:MtR X id r) (ho:PE X o to) (ha:PA X (e :: es) t)
    (hbase:attributeBase o name X.env (eval o X.env) = eval o X.env:=by rfl)
    (hfew:((backTo cpos (starEach (e :: es) X.env)).all (fun x=>!x.1) && (backToKw cpos (keywordEach [] X.env)).all (fun x=>x.1.isSome)
      && decide ((e :: es).length + ([]:List Keyword).length + (if ([]:List Keyword).isEmpty then 0 else 1) < 30)) = true:=by rfl)
    (hline:(apos.endLine == cpos.line) = true:=by rfl) (hs:starEach (e :: es) X.env = (false,eval e X.env) :: starEach es X.env:=by rfl) (hplain:(backTo cpos (starEach es X.env)).any (·.1) = false:=by rfl) :
    PE X (.Call (.Attribute o name apos) (e :: es) [] cpos) (tBM X.K T r to t):=by
  intro pins s σ H Q I h
  refine wpAny_Call_method_late hbase hfew hline rfl (thn (ho pins s σ H _ I h) fun v s1 ⟨x,H1,I1,r1,ty,q1⟩=>?_)
  obtain ⟨h1,h2⟩:=tyV_is I1 r1 ty
  refine ⟨T,id,pa,slot,hty,h1,h2,?_⟩
  have hA:=ha cpos pins s1 σ H1 _ I1 q1
  rw [hs] at hA ⊢
  refine Calls.callWith_builtin (by show (false || (backTo cpos (starEach es X.env)).any (·.1)) = false; rw [hplain] <;> rfl) (Calls.evalArgs_plain ?_)
  exact thn hA fun us s2 ⟨vs,H2,I2,r2,q2⟩=>hm pins s2 σ H2 x vs v us Q I2 r1 r2 q2
end
end L2
namespace L2
open PySem PySem.Spec PyProof.Rows
def MtM (X:Cx) (id:String) (r:V→List V→Hp→VK→Prop):Prop:=
  ∀ (pins:List (Addr × Obj)) (s:Shared) (σ:St) (H:Hp) (x:V) (xs:List V) (v:Value) (us:List Value) (Q:VK),Inv X pins σ H s→RelV x v→Vals xs us→r x xs H Q→
    wpAny (model X.prog X.w) X.A (call (.builtin id) (v :: us)) (EP X pins σ Q) X.xe s
theorem Vals.one:∀ {x:V} {us:List Value},Vals [x] us→∃ u,us = [u]∧RelV x u
  | _,_,.cons r .nil=>⟨_,rfl,r⟩
theorem Vals.zero:∀ {us:List Value},Vals [] us→us = []
  | _,.nil=>rfl
theorem Vals.rep {xs:List V} {us:List Value} (h:Vals xs us):∀ k:Nat,Vals (List.replicate k xs).flatten (List.replicate k us).flatten
  | 0=>.nil
  | k + 1=>by
    rw [List.replicate_succ,List.replicate_succ,List.flatten_cons,List.flatten_cons]
    exact Vals.append h (Vals.rep h k)
theorem foldl_rep (its:List Value):∀ (k:Nat) (acc:List Value),
    List.foldl (fun x1 x2=>x1 ++ x2) acc.toArray (List.replicate k its.toArray) = (acc ++ (List.replicate k its).flatten).toArray
  | 0,acc=>by simp
  | k + 1,acc=>by
    have e:acc.toArray ++ its.toArray = (acc ++ its).toArray:=by simp
    have e2:(acc ++ its) ++ (List.replicate k its).flatten = acc ++ (List.replicate (k + 1) its).flatten:=by
      rw [List.replicate_succ,List.flatten_cons,List.append_assoc]
    rw [← e2,← foldl_rep its k (acc ++ its),← e,List.replicate_succ,List.foldl_cons]
section
variable {X:Cx} {pins:List (Addr × Obj)} {σ:St} {H:Hp} {s:Shared} {l b:Addr} {xs ys zs:List V}
theorem Inv.lset {its its':List Value} {n:Nat} {f:Array Value→Array Value} {t':Nat} (I:Inv X pins σ H s) (hH:H l = some (.lst xs))
    (e:s.heap.get? l = some { cls:=.type "list",data:=.seq its.toArray n }) (hf:f its.toArray = its'.toArray) (hv:Vals ys its') (hz:ys.length ≤ sizeLine) :
    Inv X pins σ (upd H l (.lst ys)) { s with heap:=s.heap.update l (Obj.mapSeq f),toks:=t' }:=by
  have q:=PySem.IsL.update e f
  rw [hf] at q
  refine I.write (x:=l) (e:=l) (by rw [hH]; exact trivial) (.inl rfl) (fun b' u hb hu=>(Heap.get?_update_other s.heap (Obj.mapSeq f) (Ne.symm hb)).trans hu) ⟨_,q⟩ ?_
  exact ⟨hz,its',_,hv,q⟩
theorem Inv.lnew {its:List Value} {t':Nat} (I:Inv X pins σ H s) (hv:Vals ys its) (hz:ys.length ≤ sizeLine) :
    Inv X pins σ (upd H s.heap.objs.size (.lst ys)) { s with heap:=s.heap.push { cls:=.type "list",data:=.seq its.toArray },toks:=t' }:=
  I.laid (fun _ _ q=>Heap.get?_push_of_some _ q) (Nat.le_refl _) ⟨hz,its,0,hv,Heap.get?_push_size _ rfl⟩
theorem Inv.fresh (I:Inv X pins σ H s):H s.heap.objs.size = none:=I.hok.fresh (Nat.le_refl _)
theorem Inv.lstM (I:Inv X pins σ H s) (hH:H l = some (.lst xs)):xs.length ≤ sizeLine∧∃ (its:List Value) (n:Nat),Vals xs its∧xs.length = its.length∧s.heap.get? l = some { cls:=.type "list",data:=.seq its.toArray n }:=by
  obtain ⟨z,its,n,r,e⟩:=I.hok l _ hH
  exact ⟨z,its,n,r,r.length,e⟩
theorem notLongL {n:Nat} (h:n ≤ sizeLine):Builtin.List.listTooLong n = false:=by
  unfold Builtin.List.listTooLong
  exact decide_eq_false (by omega)
end
section
variable {X:Cx}
def rAppend:V→List V→Hp→VK→Prop:=fun x vs H Q=>∃ l xs y,x = .ref l∧vs = [y]∧H l = some (.lst xs)∧xs.length < sizeLine∧Q .non (upd H l (.lst (xs ++ [y])))
theorem mt_append:MtM X "list.append" rAppend:=by
  intro pins s σ H x vs v us Q I rx rv h
  obtain ⟨l,xs,y,rfl,rfl,hH,hz,q⟩:=h
  cases rx
  obtain ⟨u,rfl,ru⟩:=rv.one
  obtain ⟨z,its,n,r,hl,e⟩:=I.lstM hH
  refine call_meets F.slot_list_append ⟨_,e,rfl⟩ F.entry_list_append (F.args_list_append_2 _ _) (PySem.list_append l its.toArray n u (by rw [List.size_toArray]; omega)) ⟨e,?_⟩
  refine ⟨.non,_,I.lset (its':=its ++ [u]) hH e (by simp) (r.append (.cons ru .nil)) ?_,rfl,q⟩
  rw [List.length_append,List.length_singleton]
  omega
def rExtend:V→List V→Hp→VK→Prop:=fun x vs H Q=>∃ l b xs zs,x = .ref l∧vs = [.ref b]∧H l = some (.lst xs)∧H b = some (.lst zs)∧xs.length + zs.length ≤ sizeLine∧Q .non (upd H l (.lst (xs ++ zs)))
theorem mt_extend:MtM X "list.extend" rExtend:=by
  intro pins s σ H x vs v us Q I rx rv h
  obtain ⟨l,b,xs,zs,rfl,rfl,hH,hB,hz,q⟩:=h
  cases rx
  obtain ⟨u,rfl,ru⟩:=rv.one
  cases ru
  obtain ⟨z,its,n,r,hl,e⟩:=I.lstM hH
  obtain ⟨z2,its2,n2,r2,hl2,e2⟩:=I.lstM hB
  have hsz:its.toArray.size + its2.toArray.size ≤ sizeLine:=by rw [List.size_toArray,List.size_toArray]; omega
  have hlong:¬ (!its.toArray.isEmpty && Builtin.List.listTooLong (its.toArray.size + its2.toArray.size)) = true:=by
    rw [notLongL hsz,Bool.and_false]
    exact Bool.false_ne_true
  refine call_meets F.slot_list_extend ⟨_,e,rfl⟩ F.entry_list_extend (F.args_list_extend_2 _ _)
    (AutoSeq1.list_extend_list_list_0 l its.toArray n b its2.toArray n2 hlong (by rw [List.size_toArray]; omega) (by omega)) ⟨e,e2,?_⟩
  refine ⟨.non,_,I.lset (its':=its ++ its2) hH e (by simp) (r.append r2) ?_,rfl,q⟩
  rw [List.length_append]
  omega
def rCat:R2:=fun x y H Q=>∃ l b xs zs,x = .ref l∧y = .ref b∧H l = some (.lst xs)∧H b = some (.lst zs)∧xs.length + zs.length ≤ sizeLine∧∀ p,H p = none→Q (.ref p) (upd H p (.lst (xs ++ zs)))
theorem op_cat:OpR X (binaryOp .Add) rCat:=by
  intro pins s σ H x y v u Q I rx ry h
  obtain ⟨l,b,xs,zs,rfl,rfl,hH,hB,hz,q⟩:=h
  cases rx
  cases ry
  obtain ⟨z,its,n,r,hl,e⟩:=I.lstM hH
  obtain ⟨z2,its2,n2,r2,hl2,e2⟩:=I.lstM hB
  refine PySem.P.add_list e e2 ?_ (by rw [List.size_toArray,List.size_toArray]; omega)
  have ea:its.toArray ++ its2.toArray = (its ++ its2).toArray:=by simp
  rw [ea]
  exact ⟨.ref _,_,I.lnew (t':=s.toks) (r.append r2) (by rw [List.length_append]; omega),rfl,q _ I.fresh⟩
def rRep:R2:=fun x y H Q=>∃ l k xs,x = .ref l∧y = .int k∧H l = some (.lst xs)∧-(2 ^ 63) ≤ k∧k < 2 ^ 63∧xs.length * k.toNat ≤ sizeLine∧
  ∀ p,H p = none→Q (.ref p) (upd H p (.lst (List.replicate k.toNat xs).flatten))
theorem len_rep {α:Type} (xs:List α) (k:Nat):(List.replicate k xs).flatten.length = k * xs.length:=by
  induction k with
  | zero=>simp
  | succ k ih=>rw [List.replicate_succ,List.flatten_cons,List.length_append,ih,Nat.succ_mul,Nat.add_comm]
theorem op_rep:OpR X (binaryOp .Mult) rRep:=by
  intro pins s σ H x y v u Q I rx ry h
  obtain ⟨l,k,xs,rfl,rfl,hH,h1,h2,hz,q⟩:=h
  cases rx
  obtain ⟨t,rfl⟩:=ry
  obtain ⟨z,its,n,r,hl,e⟩:=I.lstM hH
  have hlen:its.toArray.size * k.toNat ≤ sizeLine:=by rw [List.size_toArray,← hl]; exact hz
  have hcap:¬ its.toArray.size * k.toNat > (2 ^ 63 - 1) / 8:=by
    have:(sizeLine:Nat) ≤ (2 ^ 63 - 1) / 8:=by decide
    omega
  have hfit:¬ (!Builtin.List.listFitsIndex k) = true:=by
    rw [fitsIndex_both h1 h2]
    exact Bool.false_ne_true
  have hlong:¬ Builtin.List.listTooLong (its.toArray.size * k.toNat) = true:=by
    rw [notLongL hlen]
    exact Bool.false_ne_true
  have hnew:List.foldl (fun x1 x2=>x1 ++ x2) #[] (List.replicate (if its.toArray.isEmpty = true then 0 else k.toNat) its.toArray) = (List.replicate k.toNat its).flatten.toArray:=by
    have f0:∀ m:Nat,List.foldl (fun x1 x2=>x1 ++ x2) #[] (List.replicate m its.toArray) = (List.replicate m its).flatten.toArray:=fun m=>by
      have:=foldl_rep its m []
      rw [List.nil_append] at this
      exact this
    rw [f0]
    cases its with
    | nil=>simp
    | cons a r'=>rw [if_neg (by simp)]
  refine wpAny_binaryOp_repeat_ref (T:="list") (U:="int") (by decide) ⟨_,e,rfl⟩ (fun s'=>typeIs_int s' k t) noFill_list_mul F.fills_int_mul F.slot_int_rmul repeat_list F.slot_int_index.lookup
    (call_meets F.slot_int_rmul (typeIs_int s k t) F.entry_int_rmul (F.args_int_rmul_2 _ _) (int___rmul___int_list k t l its.toArray n)
      ⟨e,rfl,⟨_,e,rfl⟩,call_meets F.slot_list_mul ⟨_,e,rfl⟩ F.entry_list_mul (F.args_list_mul_2 _ _) (AutoListH.list___mul___list_int_3 l its.toArray n k t hfit hcap hlong) ⟨e,?_⟩⟩)
  rw [hnew]
  exact ⟨.ref _,_,I.lnew (t':=s.toks) (r.rep k.toNat) (by rw [len_rep,Nat.mul_comm]; exact hz),rfl,q _ I.fresh⟩
end
section
variable {prog:Program} {w:World} {A:Around} {E:Value→Shared→Prop} {s:Shared}
end
section
variable {X:Cx}
end
end L2
namespace Att
open PySem PySem.W PySem.Calls PyProof.Rows
theorem ints_of_wellAll {P:Params} {h:Heap}:∀ (ns:List Int) (vs:List Value),WellAll P h vs (ns.map WData.int)→IntsAre vs ns:=by
  intro ns
  induction ns with
  | nil=>
    intro vs w
    rw [List.map_nil] at w
    cases w
    exact .nil
  | cons n ns ih=>
    intro vs w
    rw [List.map_cons] at w
    cases w with
    | cons a b=>
      cases a
      exact .cons _ _ (ih _ b)
theorem script_of {l:OpenLaw} {n:Nat} (hn:l.most = some n) {P:Params} {h:Heap} {args:List WData} {vals:List Value}
    (hpre:l.row.toRowW.claim.pre args = true) (hwl:WellAll P h vals args) :
    ∃ a vs ns,vals = [Value.ref a]∧args = [WData.list (ns.map WData.int)]∧h.get? a = some { cls:=.type "list",data:=.seq vs.toArray }∧IntsAre vs ns∧ns.length ≤ n:=by
  have hsh:WShape.hasAll [] args [.list .int] = true:=(pre_splitW hpre).1
  have hc:l.pre.holds [] { args:=args } = true:=(pre_splitW hpre).2
  obtain ⟨d,r,rfl,h1,h2⟩:=hasAllW_cons hsh
  obtain rfl:=hasAllW_nil h2
  obtain ⟨xs,rfl,h3⟩:=hasW_list h1
  obtain ⟨ns,rfl⟩:=items_int h3
  have hlen:ns.length ≤ n:=by
    unfold OpenLaw.pre at hc
    have h4:(WTm.not (.lt (.lit (.int (n:Int))) (.len (.arg 0)))).holds [] { args:=[.list (ns.map .int)] } = true:=by
      have h4:=(holds_andW hc).1
      rw [hn] at h4
      exact h4
    have h5:=condW_of h4 (w_not (w_lt w_lit (w_len_list (w_arg rfl))))
    rw [List.length_map] at h5
    refine Nat.le_of_not_lt fun q=>?_
    have q':(n:Int) < ((ns.length:Nat):Int):=by omega
    first
      | (rw [decide_eq_true q'] at h5; exact absurd h5 (by decide))
      | (simp at h5; omega)
  cases hwl with
  | cons w1 w2=>
    cases w2
    cases w1 with
    | list ho hall=>exact ⟨_,_,ns,rfl,rfl,ho,ints_of_wellAll ns _ hall,hlen⟩
theorem post_true (l:OpenLaw) (args:List WData):l.row.toRowW.claim.post args (.bool true) args = true:=
  postW_of (r:=l.row.toRowW) (X:=(true == true))
    (show WShape.has [] (.bool true) .bool = true by first | rfl | decide | simp [WShape.has,WShape.arms,WShape.armsAll])
    (show (WTm.eq .res (.lit (.bool true))).value [] { args:=args,res:=some (.bool true),after:=args } = some (.bool (true == true)) from w_eq_bool (w_res rfl) w_lit) rfl
theorem attach_call {l:OpenLaw} {n:Nat} {q:Program} {loose:List Str} {XP:(Str→Option Value)→Heap→Prop} {YP:World→Heap→Prop} {d:DefRec}
    (hn:l.most = some n) (hdf:d.params.defaults = [])
    (call:∀ (w:World) (s₀ s₁:Shared) (mg mb:Str→Option Value) (fa:Addr) (o:Obj) (pm cd doc:Value) (a:Addr) (vs:List Value) (ns:List Int),
      Ground q loose [] XP w s₀ mg mb s₁.heap→YP w s₁.heap→
      s₁.heap.get? fa = some o→o.data = .func (docDef d.name d.params d.body d.scope pm cd doc)→s₁.heap.CodeRec cd d.name→mg d.name = some (.ref fa)→
      s₁.heap.get? a = some { cls:=.type "list",data:=.seq vs.toArray }→IntsAre vs ns→ns.length ≤ n→s₁.gens = #[]→
      codeAny (model l.prog w) callerA (.call (.ref fa) ⟨[.ref a],[]⟩) (fun r s'=>r = .ok (.ret (.bool true))∧OldK s₁.heap s'.heap∧s'.os = s₁.os∧AllBare s'.gens) s₁) :
    WalkO q loose XP YP l.row.toRowW d [] (fun f vs=>PySem.call f vs):=by
  intro w s₀ s₁ mg mb G Y fa o pm cd doc dV kV ho hd hcd hD hmg hg args vals as hpre hlay hrd hwl hlo
  obtain rfl:dV = .none:=Dflts.none hD hdf
  obtain rfl:kV = .none:=Dflts.noKw hD
  obtain ⟨a,vs,ns,rfl,rfl,hobj,hints,hlen⟩:=script_of hn hpre hwl
  refine enter_call (codeAny_mono (call w s₀ s₁ mg mb fa o pm cd doc a vs ns G Y ho (fd_plain hd) hcd hmg hobj hints hlen hg) fun r s' hq=>?_)
  obtain ⟨rfl,h2,h3,h4⟩:=hq
  exact ⟨.inl ⟨.bool true,.bool true,[],rfl,fun _=>rfl,.bool true,post_true l _,fun _=>⟨List.Pairwise.nil,fun _ hm=>(nomatch hm)⟩⟩,h2,h3,h4⟩
section
variable {prog:Program} {w:World} {A:Around} {E:Value→Shared→Prop} {s:Shared} {K:Frag}
end
end Att
namespace L2
open PySem PySem.Spec PyProof.Rows
theorem vals_ints:∀ {vs:List Value} {ns:List Int},IntsAre vs ns→Vals (ns.map V.int) vs
  | _,_,.nil=>.nil
  | _,_,.cons n t h=>.cons ⟨t,rfl⟩ (vals_ints h)
def Only (H:Hp):Prop:=∀ b,H b = none ∨ ∃ o xs,H b = some (.frz o (.lst xs))
theorem law_call {P:Program} {w:World} {K:PySem.W.Frag} {mg mb:Str→Option Value} {CX:CXT} {k:Nat} {fa a:Addr} {fd:FuncData} {x:Str} {sp:Sp} {s₁:Shared} {vs:List Value} {ns:List Int}
    (KX:K.In s₁.heap) (hns:s₁.heap.Ns mainGlobals mg) (hb:s₁.heap.Ns builtinsNs mb) (hbb:∀ x:Str,x ≠ "__name__"→mb x = bootBuiltins x) (hlim:s₁.heap.NoLimit) (hg:s₁.gens = #[])
    (ha:s₁.heap.get? a = some { cls:=.type "list",data:=.seq vs.toArray }) (hi:IntsAre vs ns) (hl:ns.length ≤ sizeLine) (hr:Room k callerA)
    (F:∀ base:Heap,K.In base→base.Ns mainGlobals mg→FnOk P w K mg base CX k fa fd [x] sp) (hbind:∀ (s:Shared) (u:Value),BindsTo s fd ⟨[u],[]⟩ [(x,u)])
    (hsp:∀ H:Hp,Only H→SqL K H a (ns.map V.int)→sp [.ref a] H (fun v _=>v = .bl true) fun _ _ _=>False)
    (hCX:∀ H e s',CX [] H s₁ (fun _ _ _=>False) e s'→False) :
    codeAny (model P w) callerA (.call (.ref fa) ⟨[.ref a],[]⟩) (fun r s'=>r = .ok (.ret (.bool true))∧OldK s₁.heap s'.heap∧s'.os = s₁.os∧AllBare s'.gens) s₁:=by
  have rv:=vals_ints hi
  have lenV:=hi.length
  have core:∀ H:Hp,Only H→SqL K H a (ns.map V.int)→HOk P w H s₁.heap→(∀ b,H b ≠ none→b = a)→(H a ≠ none→K.lookup a = none)→
      codeAny (model P w) callerA (.call (.ref fa) ⟨[.ref a],[]⟩) (fun r s'=>r = .ok (.ret (.bool true))∧OldK s₁.heap s'.heap∧s'.os = s₁.os∧AllBare s'.gens) s₁:=by
    intro H hO hS hok hA hK
    have base_of:∀ {b:Addr} {o:Obj},s₁.heap.get? b = some o→H b = none→(hidT s₁.heap H).get? b = some o:=fun e n=>hidT_get e n
    have noA:∀ {b:Addr} {o:Obj} {es:Array DictEntry} {ep:Nat},s₁.heap.get? b = some o→o.data = .dict es ep→H b = none:=fun {b o es ep} e d=>by
      cases q:H b with
      | none=>rfl
      | some u=>
        have e':b = a:=hA b (by rw [q]; simp)
        subst e'
        rw [ha] at e; cases e
        have d':Data.seq vs.toArray _ = Data.dict es ep:=d
        cases d'
    have nsK:∀ {b:Addr} {m:Str→Option Value},s₁.heap.Ns b m→(hidT s₁.heap H).Ns b m:=fun {b m} ⟨o,es,ep,e,d,r⟩=>⟨o,es,ep,base_of e (noA e d),d,r⟩
    have hKb:K.In (hidT s₁.heap H):=fun b o e=>base_of (KX b o e) (by
      cases q:H b with
      | none=>rfl
      | some u=>
        have e':b = a:=hA b (by rw [q]; simp)
        subst e'
        rw [hK (by rw [q]; simp)] at e; cases e)
    have hM:Mod K mg (hidT s₁.heap H):=⟨hKb,nsK hns,⟨mb,nsK hb,hbb⟩,let ⟨mc,h1,h2⟩:=hlim; ⟨mc,nsK h1,h2⟩⟩
    have e0:Env0 P w K mg (hidT s₁.heap H) callerA [] s₁ H:=⟨rfl,hM,fun b o e=>of_hidT e,Nat.le_of_eq (hidT_size _ _),trivial,fun b hb=>absurd (show b ∈ ([]:List Addr) from hb) (by simp),hok,.of_eq hg⟩
    refine codeAny_mono ((F _ hKb (nsK hns)).run callerA [] s₁ H ⟨[.ref a],[]⟩ [.ref a] [.ref a] _ _ hr e0 (hbind s₁ (.ref a)) (.cons rfl .nil) (hsp H hO hS)) fun r s' h=>?_
    cases r with
    | error e=>exact (hCX H e s' h).elim
    | ok fl=>
      cases fl with
      | next=>exact False.elim h
      | brk=>exact False.elim h
      | cont=>exact False.elim h
      | ret u=>
        obtain ⟨v,H',os,bare,un,hok',r',q⟩:=h
        have q':v = .bl true:=q
        subst q'
        obtain rfl:u = Value.bool true:=r'
        refine ⟨rfl,OldK.of_keep fun b o e=>?_,os,bare⟩
        cases q:H b with
        | none=>exact un.keep b o e q (by intro z; exact absurd (show b ∈ ([]:List Addr) from z) (by simp)) (by simp)
        | some u=>
          rcases hO b with z | ⟨ob,xs,z⟩
          · rw [q] at z; cases z
          · have z2:=un.frzs b ob _ z
            obtain ⟨e1,_⟩:=hok b _ z
            obtain ⟨e2,_⟩:=hok' b _ z2
            rw [e] at e1; cases e1
            exact e2
  cases hk:K.lookup a with
  | some o=>
    have e:=KX a o hk
    rw [ha] at e
    cases e
    refine core (fun _=>none) (fun _=>.inl rfl) (.inr ⟨_,vs.toArray,_,hk,rfl,rfl,rfl,by rw [List.size_toArray,lenV]; exact hl,by simpa using rv⟩) (fun b u z=>by have z':(none:Option HO) = some u:=z; cases z') (fun b z=>absurd rfl z) fun z=>absurd rfl z
  | none=>
    refine core (fun b=>if b = a then some (.frz { cls:=.type "list",data:=.seq vs.toArray } (.lst (ns.map V.int))) else none) (fun b=>?_) (.inl (.inr ⟨{ cls:=.type "list",data:=.seq vs.toArray },if_pos rfl⟩)) (fun b u z=>?_) (fun b z=>?_) fun _=>hk
    · by_cases hb:b = a
      · exact .inr ⟨_,_,if_pos hb⟩
      · exact .inl (if_neg hb)
    · by_cases hb:b = a
      · have z':=(if_pos hb).symm.trans z
        cases z'
        subst hb
        exact ⟨ha,by rw [List.length_map]; exact hl,vs,_,rv,ha⟩
      · have z':=(if_neg hb).symm.trans z
        cases z'
    · by_cases hb:b = a
      · exact hb
      · exact absurd (if_neg hb) z
end L2
namespace L2
open PySem PySem.Spec PyProof.Rows
abbrev KOf {K:PySem.W.Frag} {h:Heap} (_:K.In h):PySem.W.Frag:=K
theorem walk_of {l:PySem.W.OpenLaw} {n k:Nat} {q:Program} {loose:List Str} {XP:(Str→Option Value)→Heap→Prop} {YP:World→Heap→Prop} {d:DefRec} {K:Params→PySem.W.Frag} {CX:World→CXT} {sp:World→Sp} {x:Str}
    (hn:l.most = some n) (hn2:n ≤ sizeLine) (hdf:d.params.defaults = []) (hr:Room k callerA)
    (hY:∀ (w:World) (h:Heap),YP w h→(K w.params).In h)
    (F:∀ (w:World) (mg:Str→Option Value) (fa:Addr) (h:Heap),(K w.params).In h→h.Ns mainGlobals mg→mg d.name = some (.ref fa)→
      ∃ fd:FuncData,(∀ (s:Shared) (u:Value),BindsTo s fd ⟨[u],[]⟩ [(x,u)])∧
        ∀ base:Heap,(K w.params).In base→base.Ns mainGlobals mg→FnOk l.prog w (K w.params) mg base (CX w) k fa fd [x] (sp w))
    (hsp:∀ (w:World) (H:Hp) (a:Addr) (ns:List Int),ns.length ≤ n→Only H→SqL (K w.params) H a (ns.map V.int)→sp w [.ref a] H (fun v _=>v = .bl true) fun _ _ _=>False)
    (hCX:∀ (w:World) (H:Hp) (s:Shared) (e:Value) (s':Shared),CX w [] H s (fun _ _ _=>False) e s'→False) :
    PySem.W.WalkO q loose XP YP l.row.toRowW d [] (fun f vs=>PySem.call f vs):=by
  refine Att.attach_call hn hdf fun w s₀ s₁ mg mb fa o pm cd doc a vs ns G Y ho hd hcd hmg hobj hints hlen hg=>?_
  have KX:=hY w _ Y
  obtain ⟨fd,hb,hF⟩:=F w mg fa _ KX G.T.g hmg
  exact law_call KX G.T.g G.T.b G.T.builtins G.T.nolimit hg hobj hints (Nat.le_trans hlen hn2) hr hF hb (fun H hO hS=>hsp w H a ns hlen hO hS) fun H e s'=>hCX w H s₁ e s'
end L2
namespace L2
open PySem PySem.Spec PyProof.Rows
def inClass (s:Stmt) (j:Nat):Stmt:=match s with
  | .ClassDef _ _ _ body _ _ _ _ _ _ _=>body.getD j (.Pass ⟨0,0,0,0⟩)
  | _=>.Pass ⟨0,0,0,0⟩
def defArgs (s:Stmt):Arguments:=match s with
  | .FunctionDef _ a _ _ _ _ _ _ _ _=>a
  | _=>{ posonlyargs:=[],args:=[],vararg:=none,kwonlyargs:=[],kw_defaults:=[],kwarg:=none,defaults:=[] }
def defBody (s:Stmt):List Stmt:=match s with
  | .FunctionDef _ _ b _ _ _ _ _ _ _=>b
  | _=>[]
def defScope (s:Stmt):Scope:=match s with
  | .FunctionDef _ _ _ _ _ _ sc _ _ _=>sc
  | _=>{ kind:=.function,names:=[],isGenerator:=false,isCoroutine:=false }
abbrev CX0:CXT:=fun _ _ _ _ _ _=>False
abbrev E0:XK:=fun _ _ _=>False
theorem pass0 {X:Cx}:Passes CX0 X E0:=fun _ _ _ _ _ _ _ h=>h.elim
structure Fun (K:PySem.W.Frag) (x qual:Str) (st:Stmt) (f:Addr) (fd:FuncData):Prop where
  ex:∃ (oc:Value) (od:Option Addr) (kV doc pm:Value) (an:Option Addr) (cdv ct:Value) (osl:Array (Option Value)),
    fd = PySem.W.fnOf x qual (defArgs st) (defBody st) (defScope st) .none kV doc pm an cdv ct∧K.lookup f = some ⟨oc,od,.func fd,osl⟩∧PySem.W.codeIn K cdv qual = true
  kp:PySem.W.keepIn K (.ref f) = true
section
variable {P:Program} {w:World} {K:PySem.W.Frag} {mg:Str→Option Value} {base:Heap}
theorem Fun.ok {x qual:Str} {st:Stmt} {f:Addr} {fd:FuncData} {N ps:List Str} {k:Nat} {sp:Sp} (F:Fun K x qual st f fd) (S:FnScope N ps (defScope st)) (len:∀ vs H Q E,sp vs H Q E→vs.length = ps.length)
    (hbody:∀ (cdv:Value) (A:Around) (outer:List Env) (s:Shared) (H:Hp) (vs:List V) (Q:VK) (E:XK),Room k (A.deeper (envOfC qual (defScope st) s.heap.objs.size f cdv))→sp vs H Q E→
      ∃ t,PSs (cxOf CX0 P w K mg base N qual (defScope st) f cdv A outer s H E).nox (defBody st) t∧t { nx:=fun _ H'=>Q .non H',rt:=Q } (start N vs) H):FnOk P w K mg base CX0 (k + 1) f fd ps sp:=by
  obtain ⟨oc,od,kV,doc,pm,an,cdv,ct,osl,rfl,lk,hcd⟩:=F.ex
  refine fn_of lk hcd S len fun A outer s H vs Q E hr hsp=>?_
  obtain ⟨t,h,q⟩:=hbody cdv A outer s H vs Q E hr hsp
  exact ⟨t,h.nox,q⟩
theorem Fun.binds {x qual:Str} {st:Stmt} {f:Addr} {fd:FuncData} {ps:List Str} (F:Fun K x qual st f fd)
    (h:∀ (kV doc pm:Value) (an:Option Addr) (cdv ct:Value) (us:List Value),us.length = ps.length→bindArgs (PySem.W.fnOf x qual (defArgs st) (defBody st) (defScope st) .none kV doc pm an cdv ct) ⟨us,[]⟩ = pure (ps.zip us)):Binds K fd ps []:=by
  obtain ⟨oc,od,kV,doc,pm,an,cdv,ct,osl,rfl,lk,hcd⟩:=F.ex
  exact .all (h kV doc pm an cdv ct)
theorem fun_mk {x qual:Str} {st:Stmt} {f:Addr} {oc:Value} {od an:Option Addr} {osl:Array (Option Value)} {kV doc pm cdv ct:Value} (l:K.lookup f = some ⟨oc,od,.func (PySem.W.fnOf x qual (defArgs st) (defBody st) (defScope st) .none kV doc pm an cdv ct),osl⟩)
    (c:PySem.W.codeIn K cdv qual = true) (k:PySem.W.keepIn K (.ref f) = true):Fun K x qual st f (PySem.W.fnOf x qual (defArgs st) (defBody st) (defScope st) .none kV doc pm an cdv ct):=⟨⟨oc,od,kV,doc,pm,an,cdv,ct,osl,rfl,l,c⟩,k⟩
end
theorem small1000 {n:Nat} (h:n ≤ 1000):n < sizeLine:=Nat.lt_of_le_of_lt h (by decide)
section
variable {X:Cx}
theorem pv (i:Nat) {x:Str} {pos:Pos} (hN:X.N[i]? = some x:=by rfl) (hv:Vis X.env.scope x:=by first | exact Or.inl rfl | exact Or.inr (Or.inl rfl) | exact Or.inr (Or.inr rfl)) (hd:(x == ("__debug__":Str)) = false:=by decide)
    (hcd:(x == ("__classdict__":Str)) = false:=by decide):PE X (.Name x pos) (tVar i):=pe_var hN hv hd hcd
end
theorem iteF {A B:Prop} (h:B):if false = true then A else B:=by
  rw [if_neg Bool.false_ne_true]
  exact h
theorem iteT {A B:Prop} (h:A):if true = true then A else B:=by
  rw [if_pos rfl]
  exact h
theorem ite2 {c A B:Prop} [Decidable c] (h1:c→A) (h2:¬ c→B):if c then A else B:=by
  by_cases h:c
  · rw [if_pos h]
    exact h1 h
  · rw [if_neg h]
    exact h2 h
def Same (H H':Hp):Prop:=∀ b o,H b = some o→H' b = some o
theorem Same.refl (H:Hp):Same H H:=fun _ _ h=>h
theorem Same.trans {H H1 H2:Hp} (a:Same H H1) (b:Same H1 H2):Same H H2:=fun c o h=>b c o (a c o h)
theorem Same.seq {K:PySem.W.Frag} {H H':Hp} {a:Addr} {xs:List V} (e:Same H H') (h:SqL K H a xs):SqL K H' a xs:=by
  rcases h with (h | ⟨o,h⟩) | h
  · exact .inl (.inl (e _ _ h))
  · exact .inl (.inr ⟨o,e _ _ h⟩)
  · exact .inr h
end L2
set_option maxHeartbeats 4000000
namespace L2
open PySem PySem.Spec PyProof.Rows
theorem ObjOk.here {P:Program} {w:World} {H:Hp} {h:Heap} {a:Addr} {o:HO} (x:ObjOk P w H h a o):∃ ob,h.get? a = some ob:=by
  cases o with
  | lst xs=>obtain ⟨_,_,_,_,e⟩:=x; exact ⟨_,e⟩
  | tup xs=>obtain ⟨_,_,_,ob,e,_⟩:=x; exact ⟨_,e⟩
  | dK kvs=>obtain ⟨_,_,_,_,ob,_,_,e,_⟩:=x; exact ⟨_,e⟩
  | dT kvs=>obtain ⟨_,_,_,_,ob,_,_,e,_⟩:=x; exact ⟨_,e⟩
  | set S n=>obtain ⟨ob,_,_,_,e,_⟩:=x; exact ⟨_,e⟩
  | ins C dx fs=>obtain ⟨_,_,_,e,_⟩:=x; exact ⟨_,e⟩
  | own y=>exact x
  | xd fs=>obtain ⟨_,⟨_,_,_,e,_⟩,_⟩:=x; exact ⟨_,e⟩
  | rng lo hi=>obtain ⟨_,_,_,e⟩:=x; exact ⟨_,e⟩
  | frz ob u=>obtain ⟨e,_⟩:=x; exact ⟨_,e⟩
  | tbl ps=>exact ⟨_,x⟩
  | met f y=>exact ⟨_,x⟩
  | ext φ=>exact x.2.1
structure Fly (P:Program) (w:World) (outer:List Env) (H:Hp) (s:Shared) (H':Hp) (ea C:Addr) (B:Heap) (t:Addr) (s':Shared):Prop where
  os:s'.os = s.os
  bare:AllBare s'.gens
  fl:Heap.FlyingW B outer ea (.ref C) (.ref t) s'.heap
  hok:HOk P w H' B
  kb:∀ b o,s.heap.get? b = some o→H b = none→b ∉ frs outer→B.get? b = some o
  tb:∀ b o,s.heap.get? b = some o→b ∉ frs outer→∃ o',B.get? b = some o'
  sl:∀ b o,s.heap.get? b = some o→H b = none→b ∈ frs outer→∃ l,s'.heap.get? b = some { o with slots:=l }
  frh:∀ b ∈ frs outer,H b = none
  fre:∀ b o,s.heap.get? b = some o→H b = none→H' b = none
  tups:∀ b xs,H b = some (.tup xs)→H' b = some (.tup xs)
  frzs:∀ b o u,H b = some (.frz o u)→H' b = some (.frz o u)
  tbls:∀ b ps,H b = some (.tbl ps)→∃ more,H' b = some (.tbl (ps ++ more))
def CXF (P:Program) (w:World):CXT:=fun outer H s E e s'=>∃ ea C H' B t,e = .ref ea∧Fly P w outer H s H' ea C B t s'∧E (.ref C) none H'
section
variable {P:Program} {w:World} {outer:List Env} {H H':Hp} {s s':Shared} {ea C t:Addr} {B:Heap}
theorem Fly.noE (f:Fly P w outer H s H' ea C B t s'):H' ea = none:=by
  cases q:H' ea with
  | none=>rfl
  | some u=>
    obtain ⟨ob,e⟩:=(f.hok ea u q).here
    rw [f.fl.2.1] at e
    cases e
theorem Fly.un (f:Fly P w outer H s H' ea C B t s') {h:Heap} (st:B.StaysIn h) (up:s'.heap.UpToSlots h):Un (frs outer) [] H H' s.heap h where
  keep:=fun b o e n hb _=>st b o (f.kb b o e n hb)
  slot:=fun b o e n hb _=>by
    obtain ⟨l,q⟩:=f.sl b o e n hb
    obtain ⟨_,o2,q2,nf⟩:=f.fl.2.2.1.mem hb
    rw [q] at q2
    cases q2
    obtain ⟨l2,q3⟩:=up b _ q nf
    exact ⟨l2,q3⟩
  free:=fun b o e n _=>f.fre b o e n
  there:=fun b o e _=>by
    by_cases hb:b ∈ frs outer
    · obtain ⟨l,q⟩:=f.sl b o e (f.frh b hb) hb
      obtain ⟨_,o2,q2,nf⟩:=f.fl.2.2.1.mem hb
      rw [q] at q2
      cases q2
      obtain ⟨l2,q3⟩:=up b _ q nf
      exact ⟨_,q3⟩
    · obtain ⟨o',q⟩:=f.tb b o e hb
      exact ⟨o',st b o' q⟩
  tups:=f.tups
  frzs:=f.frzs
  tbls:=f.tbls
def ExcAt (ea C:Addr) (h:Heap):Prop:=∃ oe,h.get? ea = some oe∧oe.cls = .ref C∧PySem.W.notCls oe = true
def ExcO (ea C:Addr):HO:=.ext (ExcAt ea C)
theorem excAt_fly {l:List Env} {h:Heap} (x:Heap.FlyingW B l ea (.ref C) (.ref t) h):ExcAt ea C h:=by
  obtain ⟨oe,vs,e,c,d,_⟩:=x.first
  refine ⟨oe,e,c,?_⟩
  obtain ⟨_,_,dt,_⟩:=oe
  cases d
  rfl
theorem HOk.exc {h:Heap} (x:HOk P w H' h) (n:H' ea = none) (k:ExcAt ea C h):HOk P w (upd H' ea (ExcO ea C)) h:=fun b u e=>by
  by_cases hb:b = ea
  · subst hb
    rw [upd_same] at e
    cases e
    obtain ⟨oe,e1,e2⟩:=k
    refine ⟨⟨oe,e1,e2⟩,⟨oe,e1⟩,fun h1 h2 ⟨o1,a1,a2⟩ z=>⟨o1,z o1 a1,a2⟩⟩
  · rw [upd_ne hb] at e
    refine (x b u e).stay (fun c v _ q=>q) (fun c q=>?_) fun c xs q=>?_
    · rw [upd_ne (ne_of_none q n)]
      exact q
    · rw [upd_ne (ne_of_none q n)]
      exact q
theorem Un.exc {fs ex:List Addr} {h h':Heap} (u:Un fs ex H H' h h') (n:H' ea = none) (k:∀ b o,h.get? b = some o→b ≠ ea) {o:HO}:Un fs ex H (upd H' ea o) h h' where
  keep:=u.keep
  slot:=u.slot
  free:=fun b ob e z hx=>by
    rw [upd_ne (k b ob e)]
    exact u.free b ob e z hx
  there:=u.there
  tups:=fun b xs e=>by
    have q:=u.tups b xs e
    rw [upd_ne (ne_of_none q n)]
    exact q
  frzs:=fun b ob xs e=>by
    have q:=u.frzs b ob xs e
    rw [upd_ne (ne_of_none q n)]
    exact q
  tbls:=fun b ps e=>by
    obtain ⟨m,q⟩:=u.tbls b ps e
    refine ⟨m,?_⟩
    rw [upd_ne (ne_of_none q n)]
    exact q
theorem Fly.apart (f:Fly P w outer H s H' ea C B t s'):∀ b o,s.heap.get? b = some o→b ≠ ea:=fun b o e z=>by
  subst z
  by_cases hb:b ∈ frs outer
  · obtain ⟨_,o2,q2,nf⟩:=f.fl.2.2.1.mem hb
    obtain ⟨oe,vs,q3,_,d,_⟩:=f.fl.first
    rw [q2] at q3
    cases q3
    exact nf _ d
  · obtain ⟨o',q⟩:=f.tb b o e hb
    rw [f.fl.2.1] at q
    cases q
end
section
variable {X:Cx} {pins:List (Addr × Obj)} {σ:St} {H H':Hp} {s s':Shared} {ea C t:Addr} {B:Heap}
theorem noch {P:Addr→Prop}:∀ b ∈ ([]:List Addr),P b:=fun _ z=>nomatch z
theorem Fly.land (I:Inv X pins σ H s) (f:Fly X.prog X.w X.stack H s H' ea C B t s') {h:Heap} {tk:Nat} (st:B.StaysIn h) (up:s'.heap.UpToSlots h):Inv X pins σ H' { s' with heap:=h,toks:=tk }:=
  I.call' (s':={ s' with heap:=h,toks:=tk }) (ch:=[]) f.os (f.un st up) (f.hok.kept fun b o e=>st b o e) f.bare (fun _ z=>nomatch z)
theorem Fly.landE (I:Inv X pins σ H s) (f:Fly X.prog X.w X.stack H s H' ea C B t s') {h:Heap} {tk:Nat} (x:Heap.FlyingW B X.stack ea (.ref C) (.ref t) h) (up:s'.heap.UpToSlots h):Inv X pins σ (upd H' ea (ExcO ea C)) { s' with heap:=h,toks:=tk }:=
  I.call' (s':={ s' with heap:=h,toks:=tk }) (ch:=[]) f.os ((f.un x.1 up).exc f.noE f.apart) ((f.hok.kept fun b o e=>x.1 b o e).exc f.noE (excAt_fly x)) f.bare (fun _ z=>nomatch z)
structure Leaves (X:Cx) (E:XK):Prop where
  stk:X.stack = X.env :: X.outer
  fr:X.env.frame = some X.env.locals
  ex:X.ex = []
  xe:X.xe = fun e s'=>wpAny (model X.prog X.w) X.A (leaving X.env e) (fun _ s''=>CXF X.prog X.w X.outer X.H₀ X.s₀ E e s'') (fun e' s''=>CXF X.prog X.w X.outer X.H₀ X.s₀ E e' s'') s'
theorem frs_cons {env:Env} {outer:List Env} {L:Addr} (h:env.frame = some L):frs (env :: outer) = L :: frs outer:=by
  unfold frs
  rw [List.filterMap_cons,h]
theorem Fly.leave {E:XK} (L:Leaves X E) (I:Inv X pins σ H s) (f:Fly X.prog X.w X.stack H s H' ea C B t s') {h:Heap} (x:Heap.FlyingW B X.outer ea (.ref C) (.ref t) h) (up:s'.heap.UpToSlots h):Fly X.prog X.w X.outer X.H₀ X.s₀ H' ea C B t { s' with heap:=h }:=by
  have nL:∀ b o,X.s₀.heap.get? b = some o→b ≠ X.env.locals:=fun b o e=>Nat.ne_of_lt (Nat.lt_of_lt_of_le (Heap.lt_size e) I.ok.above)
  have ns:∀ b o,X.s₀.heap.get? b = some o→b ∉ frs X.outer→b ∉ frs X.stack:=fun b o e nb z=>by
    rw [L.stk,frs_cons L.fr] at z
    rcases List.mem_cons.mp z with z | z
    · exact nL b o e z
    · exact nb z
  have nx:∀ b:Addr,b ∉ X.ex:=fun b z=>by rw [L.ex] at z; cases z
  refine ⟨f.os.trans I.os,f.bare,x,f.hok,fun b o e n nb=>?_,fun b o e nb=>?_,fun b o e n hb=>?_,I.ok.frf,fun b o e n=>?_,fun b xs e=>f.tups b xs (I.base.tups b xs e),fun b o u e=>f.frzs b o u (I.base.frzs b o u e),fun b ps e=>?_⟩
  · exact f.kb b o (I.base.keep b o e n nb (nx b)) (I.base.free b o e n (nx b)) (ns b o e nb)
  · obtain ⟨o',e'⟩:=I.base.there b o e (nx b)
    exact f.tb b o' e' (ns b o e nb)
  · obtain ⟨l,q⟩:=I.base.slot b o e n hb (nx b)
    have hs:b ∈ frs X.stack:=by rw [L.stk,frs_cons L.fr]; exact List.mem_cons_of_mem _ hb
    obtain ⟨l2,q2⟩:=f.sl b _ q (I.base.free b o e n (nx b)) hs
    obtain ⟨_,o2,q3,nf⟩:=f.fl.2.2.1.mem hs
    rw [q2] at q3
    cases q3
    obtain ⟨l3,q4⟩:=up b _ q2 nf
    exact ⟨l3,q4⟩
  · obtain ⟨o',e'⟩:=I.base.there b o e (nx b)
    exact f.fre b o' e' (I.base.free b o e n (nx b))
  · obtain ⟨m1,e1⟩:=I.base.tbls b ps e
    obtain ⟨m2,e2⟩:=f.tbls b _ e1
    exact ⟨m1 ++ m2,by rw [e2,Array.append_assoc]⟩
theorem passN:Passes (CXF X.prog X.w) X (fun _ _ _=>False):=fun pins σ H s e s' I h=>by
  obtain ⟨_,_,_,_,_,_,_,q⟩:=h
  exact q.elim
theorem passF {E:XK} (L:Leaves X E):Passes (CXF X.prog X.w) X E:=fun pins σ H s e s' I h=>by
  obtain ⟨ea,C,H',B,t,rfl,f,q⟩:=h
  rw [L.xe]
  refine wpAny_leaves_onW (by rw [I.ok.frames,L.stk]) L.fr (by have z:=f.fl; rw [L.stk] at z; exact z) fun h' x up=>?_
  exact ⟨ea,C,H',B,t,rfl,f.leave L I x up,q⟩
end
end L2
namespace L2
open PySem PySem.Spec PyProof.Rows
theorem own_obj {K:PySem.W.Frag} {h:Heap} {C:Addr} {bmB:List Value} {newId:String} (kin:K.In h) (hq:PySem.W.excIn K C bmB newId = true) :
    ∃ bm N nm qn bs hdct sn sub ab col dd k0 k1 k2 k3 k5 mN,h.get? C = some (excClassObj nm qn C N bs bm hdct sn sub ab col dd k0 k1 k2 k3 k5 newId)∧h.Ns N mN∧mN "__init__" = none∧OwnTail h bmB bm∧PySem.W.mroIn K C = fun b=>some ((Value.ref C :: bm).contains b):=by
  unfold PySem.W.excIn at hq
  split at hq
  · rename_i dct cls slt look
    split at hq
    · rename_i CC rest a0 a1 a2 a3 nn a5 em es
      simp only [Bool.and_eq_true,beq_iff_eq,Bool.not_eq_true'] at hq
      obtain ⟨⟨⟨⟨⟨e1,e2⟩,e3⟩,e4⟩,e5⟩,e6⟩:=hq
      subst e1 e2
      have hmro:PySem.W.mroIn K CC = fun b=>some ((Value.ref CC :: rest).contains b):=by
        funext b
        unfold PySem.W.mroIn PySem.W.clsIn
        rw [look]
        simp [em]
      obtain ⟨c1,c2,c3,c4,c5,c6,c7,c8,c9,c10,c11⟩:=cls
      dsimp only at em e3 e5 e6
      subst em e3
      have hsl:slt = #[a0,a1,a2,a3,some (.builtin nn),a5]:=by
        obtain ⟨ll⟩:=slt
        simp only at es
        rw [es]
      subst hsl
      exact ⟨rest,c4,c1,c5,c2,c6,c7,c8,c9,c10,dct,a0,a1,a2,a3,a5,_,kin _ _ look,.of_isNs (PySem.W.isNs_of_in kin e5),PySem.W.nsMap_none_of_in kin e5 e6,PySem.W.tail_of_in kin e4,hmro⟩
    · cases hq
  · cases hq
section
variable {X:Cx} {E:XK} {x:Str} {C:Addr} {np cpos pos:Pos} {e:Expr} {es:List Expr} {ta:TA} {B newId initId:String} {bmB:List Value}
def tRaise (C:Addr) (E:XK) (ta:TA):TS:=fun _ σ H=>ta σ H fun vs H1=>vs.length ≤ sizeLine∧E (.ref C) none H1
theorem ps_raise (L:Leaves X E) (hc:X.calm = true) (FB:ExcBaseFacts B newId initId bmB) (hq:PySem.W.excIn X.K C bmB newId = true) (hg:Gl X x) (hm:X.mg x = some (.ref C)) (ha:PA X (e :: es) ta)
    (hs:starEach (e :: es) X.env = (false,eval e X.env) :: starEach es X.env:=by rfl) (hp:(backTo cpos (starEach es X.env)).any (·.1) = false:=by rfl) (hd:(x == ("__debug__":Str)) = false:=by decide) :
    PS X (.Raise (some (.Call (.Name x np) (e :: es) [] cpos)) none pos) (tRaise C E ta):=by
  intro pins s σ H D I h
  obtain ⟨bm,N,nm,qn,bs,hdct,sn,sub,ab,col,dd,k0,k1,k2,k3,k5,mN,hC,hN,hni,T,_⟩:=own_obj I.ok.mod.kin hq
  refine wpAny_Raise_call_subT (C:=C) (nm:=nm) (q:=qn) (N:=N) (bs:=bs) (bm:=bm) (hdct:=hdct) (sn:=sn) (sub:=sub) (ab:=ab) (col:=col) (dd:=dd) (k0:=k0) (k1:=k1) (k2:=k2) (k3:=k3) (k5:=k5) FB (mN:=mN) (T.hasType FB.hasBase) (I.ok.hd hc)
    (by rw [hs]; show (false || (backTo cpos (starEach es X.env)).any (·.1)) = false; rw [hp]; rfl) hni (ld_glob I hg hm ⟨rfl,?_⟩ hd)
  have h1:=ha cpos pins s σ H _ I h
  rw [hs] at h1 ⊢
  refine Calls.evalArgs_plain (thn h1 fun us s2 ⟨vs,H1,I1,r,hl,q⟩=>⟨rfl,by rw [← r.length]; exact hl,I1.bk _ _ hC,hN.keeps I1.bk,T.keeps I1.bk,fun h' ea mk=>?_⟩)
  rw [L.xe]
  have nL:∀ b o,X.s₀.heap.get? b = some o→b ≠ X.env.locals:=fun b o q=>Nat.ne_of_lt (Nat.lt_of_lt_of_le (Heap.lt_size q) I1.ok.above)
  have ns:∀ b o,X.s₀.heap.get? b = some o→b ∉ frs X.outer→b ∉ frs X.stack:=fun b o q nb z=>by
    rw [L.stk,frs_cons L.fr] at z
    rcases List.mem_cons.mp z with z | z
    · exact nL b o q z
    · exact nb z
  have nx:∀ b:Addr,b ∉ X.ex:=fun b z=>by rw [L.ex] at z; cases z
  have ff:s2.heap.FunFrames (PySem.W.hideAll s2.heap (frs X.stack)) (X.env :: X.outer):=by
    have z:=I1.stack
    rw [← L.stk]
    exact PySem.W.funFrames_hide z fun env he a hf=>List.mem_filterMap.mpr ⟨env,he,hf⟩
  refine wpAny_leaves_madeW (base:=PySem.W.hideAll s2.heap (frs X.stack)) (h:=s2.heap) (by rw [I1.ok.frames,L.stk]) L.fr (fun b o q=>PySem.W.of_hideAll _ q) ff mk fun h2 t fl _ _ up=>?_
  refine ⟨ea,C,H1,_,t,rfl,⟨I1.os,I1.bare,fl,fun a o e1=>?_,fun b o e1 n nb=>?_,fun b o e1 nb=>?_,fun b o e1 n hb=>?_,I1.ok.frf,fun b o e1 n=>?_,I1.base.tups,I1.base.frzs,I1.base.tbls⟩,q⟩
  · refine (I1.hok a o e1).stay (fun b u hb e2=>PySem.W.hideAll_get _ e2 fun z=>?_) (fun _ z=>z) fun _ _ z=>z
    have n0:=I1.stkFree b z
    rcases hb with hb | hb
    · subst hb
      rw [e1] at n0
      cases n0
    · rw [hb] at n0
      cases n0
  · exact PySem.W.hideAll_get _ (I1.base.keep b o e1 n nb (nx b)) (ns b o e1 nb)
  · obtain ⟨o',e2⟩:=I1.base.there b o e1 (nx b)
    exact ⟨o',PySem.W.hideAll_get _ e2 (ns b o e1 nb)⟩
  · obtain ⟨l,e2⟩:=I1.base.slot b o e1 n hb (nx b)
    have hs2:b ∈ frs X.stack:=by rw [L.stk,frs_cons L.fr]; exact List.mem_cons_of_mem _ hb
    obtain ⟨_,o2,e3,nf⟩:=I1.stack.mem hs2
    rw [e2] at e3
    cases e3
    obtain ⟨l2,e4⟩:=up b _ (mk.keeps _ _ e2) nf
    exact ⟨l2,e4⟩
  · obtain ⟨o',e2⟩:=I1.base.there b o e1 (nx b)
    exact I1.base.free b o e1 n (nx b)
end
def XPost (X:Cx) (pins:List (Addr × Obj)) (σ:St) (E:XK) (e:Value) (s':Shared):Prop:=∃ s₁ H₁,Inv X pins σ H₁ s₁∧CXF X.prog X.w X.stack H₁ s₁ E e s'
abbrev TX:=St→Hp→VK→XK→Prop
def PEX (X:Cx) (e:Expr) (t:TX):Prop:=
  ∀ (pins:List (Addr × Obj)) (s:Shared) (σ:St) (H:Hp) (Q:VK) (E:XK),Inv X pins σ H s→t σ H Q E→wpAny (model X.prog X.w) X.A (eval e X.env) (EP X pins σ Q) (XPost X pins σ E) s
abbrev TSX:=Ends→XK→St→Hp→Prop
def PSX (X:Cx) (st:List Stmt) (t:TSX):Prop:=
  ∀ (pins:List (Addr × Obj)) (s:Shared) (σ:St) (H:Hp) (D:Ends) (E:XK),Inv X pins σ H s→t D E σ H→wpAny (model X.prog X.w) X.A (execs st X.env) (SP X pins D) (XPost X pins σ E) s
section
variable {X:Cx} {k:Nat} {f C:Addr} {fd:FuncData} {ps:List Str} {sp:Sp} {dvs:List V} {ds:List Value} {x m:Str} {p pos apos:Pos} {e o:Expr} {es:List Expr} {ta:TE} {t:TA}
theorem run_fnX {pins:List (Addr × Obj)} {σ:St} {H:Hp} {s:Shared} {Q:VK} {E:XK} {us:List Value} {vs:List V} (F:FnOk X.prog X.w X.K X.mg X.base (CXF X.prog X.w) k f fd ps sp) (hr:Room k X.A) (hb:Binds X.K fd ps ds) (hd:Vals dvs ds)
    (I:Inv X pins σ H s) (r:Vals vs us) (h:sp (vs ++ dvs) H Q E):wpAny (model X.prog X.w) X.A (call (.ref f) us) (EP X pins σ Q) (XPost X pins σ E) s:=by
  have r2:Vals (vs ++ dvs) (us ++ ds):=r.append hd
  have hl:(us ++ ds).length = ps.length:=by rw [← r2.length]; exact F.len _ _ _ _ h
  refine wpAny_call (codeAny_mono (F.run X.A X.stack s H ⟨us,[]⟩ (us ++ ds) (vs ++ dvs) Q E hr I.env0 (hb s us I.kIn hl) r2 h) fun r s' hq=>?_)
  cases r with
  | error e=>exact ⟨s,H,I,hq⟩
  | ok fl=>
    cases fl with
    | ret u=>exact I.after hq
    | next=>exact False.elim hq
    | brk=>exact False.elim hq
    | cont=>exact False.elim hq
def xCall (sp:Sp) (dvs:List V) (t:TA):TX:=fun σ H Q E=>t σ H fun vs H1=>sp (vs ++ dvs) H1 Q E
theorem pex_call (F:FnOk X.prog X.w X.K X.mg X.base (CXF X.prog X.w) k f fd ps sp) (hr:Room k X.A) (hg:Gl X x) (hm:X.mg x = some (.ref f)) (hk:PySem.W.keepIn X.K (.ref f) = true) (hb:Binds X.K fd ps ds) (hd:Vals dvs ds)
    (ha:PA X.nox (e :: es) t) (hdb:(x == ("__debug__":Str)) = false:=by decide) (he:starEach (e :: es) X.env = (false,eval e X.env) :: starEach es X.env:=by rfl) (hpl:(backTo pos (starEach es X.env)).any (·.1) = false:=by rfl) :
    PEX X (.Call (.Name x p) (e :: es) [] pos) (xCall sp dvs t):=by
  intro pins s σ H Q E I h
  refine wpAny_Call_Name_kw (ld_glob I hg hm ?_ hdb)
  refine PySem.W.callWith_K (h₀:=X.base) I.ok.mod.kin hk (wpAny_mono (ha pos pins s σ H _ (I.wish _) h) (fun us s1 ⟨vs,H1,I1,r,q⟩=>⟨I1.kIn,?_⟩) fun _ _ z=>z.elim) he hpl
  exact run_fnX F hr hb hd I1.unwish r q
variable {te:TX} {i:Nat} {pos':Pos}
def xDrop (te:TX):TSX:=fun D E σ H=>te σ H (fun _ H1=>D.nx σ H1) E
theorem psx_expr (he:PEX X e te) (hs:swapsWith e none pos.line X.env = pure false:=by rfl):PSX X [.Expr e pos] (xDrop te):=by
  intro pins s σ H D E I h
  refine wpAny_execs_cons (wpAny_mono (Q:=fun f s'=>f = .next∧SP X pins D .next s') (wpAny_Expr_any (wpAny_mono (he pins s σ H _ E I h) (fun v s1 ⟨y,H1,I1,r1,q1⟩=>⟨rfl,σ,H1,I1,q1⟩) fun _ _ z=>z) I.quiet hs) (fun f s1 q=>?_) fun _ _ z=>z)
  obtain ⟨rfl,q⟩:=q
  exact wpAny_execs_nil q
end
abbrev Cx.hnd (X:Cx) (ea:Addr):Cx:={ X with A:=X.A.mark (some (.ref ea)),calm:=false,xe:=fun _ _=>False }
section
variable {X:Cx} {pins:List (Addr × Obj)} {σ:St} {H:Hp} {s:Shared} {ea:Addr}
theorem Cx.Ok.hnd (ok:X.Ok):(X.hnd ea).Ok:=
  ⟨ok.mod,ok.kind,ok.glob,ok.blt,ok.above,ok.inj,ok.has,ok.cab,(fun z=>nomatch z),ok.frames,ok.stk,ok.exf,ok.bs,ok.bsz,ok.noex,ok.exfs,ok.funs,ok.frf⟩
theorem Inv.hnd (I:Inv X pins σ H s):Inv (X.hnd ea) pins σ H s:=⟨I.ok.hnd,I.os,I.bare,I.base,I.loc,I.cell,I.free,I.freeC,I.pin,I.hok,I.len⟩
theorem Inv.unhnd (ok:X.Ok) (I:Inv (X.hnd ea) pins σ H s):Inv X pins σ H s:=⟨ok,I.os,I.bare,I.base,I.loc,I.cell,I.free,I.freeC,I.pin,I.hok,I.len⟩
theorem SP.unhnd (ok:X.Ok) {D:Ends} {f:Flow} (h:SP (X.hnd ea) pins D f s):SP X pins D f s:=by
  cases f with
  | next=>obtain ⟨a,b,I,q⟩:=h; exact ⟨a,b,I.unhnd ok,q⟩
  | brk=>obtain ⟨a,b,I,q⟩:=h; exact ⟨a,b,I.unhnd ok,q⟩
  | cont=>obtain ⟨a,b,I,q⟩:=h; exact ⟨a,b,I.unhnd ok,q⟩
  | ret u=>obtain ⟨v,a,b,I,r,q⟩:=h; exact ⟨v,a,b,I.unhnd ok,r,q⟩
theorem unbind_ok {M:Model} {A:Around} {E:Value→Shared→Prop} {i:Nat} {n:Str} {pos:Pos} {Q:Unit→Shared→Prop} (I:Inv X pins σ H s) (hN:X.N.Nodup) (hi:X.N[i]? = some n) (hk:X.env.scope.names.lookup n = some .local)
    (h:∀ s',Inv X pins (σ.set i none) H s'→Q () s'):wpAny M A (do bindName X.env n .none; unbindBehindTheSuite X.env n pos) Q E s:=by
  obtain ⟨m,hn,hl⟩:=id I.loc
  refine wpAny_nameGoes_keeps hk hn (by rw [I.ok.kind]; rfl) fun h' v hn' hs=>h _ ?_
  have cne:=I.cne
  have hiσ:i < σ.length:=by rw [I.len]; exact (List.getElem?_eq_some_iff.mp hi).1
  have old:∀ b o,X.s₀.heap.get? b = some o→b ≠ X.env.locals:=fun b o e=>Nat.ne_of_lt (Nat.lt_of_lt_of_le (Heap.lt_size e) I.ok.above)
  refine ⟨I.ok,I.os,I.bare,⟨fun b o e z hb hx=>?_,fun b o e z hb hx=>?_,I.base.free,fun b o e hx=>?_,I.base.tups,I.base.frzs,I.base.tbls⟩,⟨_,hn',fun j y v' e1 e2 e3=>?_⟩,fun y c e=>?_,I.free,I.freeC,fun p hp=>?_,fun b ob e=>?_,by simpa using I.len⟩
  · exact (hs.2 b (old b o e)).trans (I.base.keep b o e z hb hx)
  · obtain ⟨sl,q⟩:=I.base.slot b o e z hb hx
    exact ⟨sl,(hs.2 b (old b o e)).trans q⟩
  · obtain ⟨o',q⟩:=I.base.there b o e hx
    exact ⟨o',(hs.2 b (old b o e)).trans q⟩
  · by_cases hj:j = i
    · subst hj
      rw [List.getElem?_set_self hiσ] at e2
      cases e2
    · rw [List.getElem?_set_ne (Ne.symm hj)] at e2
      obtain ⟨u',r',q⟩:=hl j y v' e1 e2 e3
      refine ⟨u',r',?_⟩
      rcases q with ⟨k,z⟩ | ⟨k,c,z1,z2⟩
      · refine .inl ⟨k,?_⟩
        have ne:y ≠ n:=fun z=>hj (nodup_ix hN e1 (z ▸ hi))
        simp [ne,z]
      · exact .inr ⟨k,c,z1,z2.sameBut hs (cne y c z1)⟩
  · obtain ⟨w',z⟩:=I.cell y c e
    exact ⟨w',z.sameBut hs (cne y c e)⟩
  · obtain ⟨a1,a2,a3,a4⟩:=I.pin p hp
    exact ⟨(hs.2 _ a3).trans a1,a2,a3,a4⟩
  · refine (I.hok b ob e).stay (fun c w' hc q=>(hs.2 c ?_).trans q) (fun _ q=>q) fun _ _ q=>q
    intro z
    have z':c = X.env.locals:=z
    have fr:=I.free
    rcases hc with hc | hc
    · rw [← z',hc,e] at fr
      cases fr
    · rw [← z',hc] at fr
      cases fr
end
section
variable {M:Model} {A:Around} {E:Value→Shared→Prop} {h:Heap} {g:Array GenState} {d:Drawn} {t:Nat} {os:OsState} {e:Addr} {oe:Obj} {Q:Bool→Shared→Prop}
variable {nm q nm' q':Str} {C N D N':Addr} {bs bm bs' bm':List Value} {hdct hdct':Bool} {sn sn':List Str} {sub sub':List Value} {ab ab':Bool} {col col':Option Bool} {dd dd':Option Addr} {k0 k1 k2 k3 k5 j0 j1 j2 j3 j5:Option Value} {newId newId':String}
theorem excMatches_sub (hC:h.get? C = some (excClassObj nm q C N bs bm hdct sn sub ab col dd k0 k1 k2 k3 k5 newId)) (hD:h.get? D = some (excClassObj nm' q' D N' bs' bm' hdct' sn' sub' ab' col' dd' j0 j1 j2 j3 j5 newId')) (he:h.get? e = some oe) (hcls:oe.cls = .ref C)
    (hbase:bm'.contains (.type "BaseException") = true) (hsub:(Value.ref C :: bm).contains (.ref D) = true) (hq:Q true ⟨h,g,d,t,os⟩):wpAny M A (excMatches (.ref e) (.ref D)) Q E ⟨h,g,d,t,os⟩:=by
  have hDB:(Value.ref D :: bm').contains (.type "BaseException") = true:=by rw [List.contains_cons,hbase,Bool.or_true]
  have f:=tc_notTuple
  unfold excMatches
  repeat (first | (with_reducible refine wpAny_loadPart_at he ?_; rw [hcls]) | with_reducible refine wpAny_loadPart_at hD ?_ | (with_reducible refine wpAny_isSubtype_exc hD ?_; rw [hDB]) | (with_reducible refine wpAny_isSubtype_exc hC ?_; rw [hsub]) | wp_step)
  exact hq
end
def SubX (K:PySem.W.Frag) (bmB:List Value) (newId:String) (C D:Addr):Prop:=PySem.W.excIn K C bmB newId = true∧PySem.W.mroIn K C (.ref D) = some true
section
variable {X:Cx} {body:List Stmt} {b₀:Stmt} {suite:List Stmt} {np hpos pos:Pos} {x n:Str} {D:Addr} {tb:TSX} {ts:TS} {bmB:List Value} {newId:String} {i:Nat}
def Ends.let_go (En:Ends) (i:Nat):Ends:={ nx:=fun σ H=>En.nx (σ.set i none) H,rt:=En.rt,bk:=fun σ H=>En.bk (σ.set i none) H,ct:=fun σ H=>En.ct (σ.set i none) H }
def tTryAs (K:PySem.W.Frag) (bmB:List Value) (newId:String) (D:Addr) (i:Nat) (tb:TSX) (ts:TS):TS:=fun En σ H=>
  tb En (fun c _ H'=>∃ C,c = .ref C∧SubX K bmB newId C D∧∀ ea,H' ea = none→ts (En.let_go i) (σ.set i (some (.ref ea))) (upd H' ea (ExcO ea C))) σ H
theorem ps_tryAs (hstk:X.stack = X.env :: X.outer) (hfr:X.env.frame = some X.env.locals) (hN:X.N.Nodup) (hi:X.N[i]? = some n) (hk:X.env.scope.names.lookup n = some .local) (hb:PSX X body tb) (hs:∀ ea,PSs (X.hnd ea) (b₀ :: suite) ts) (hg:Gl X x) (hm:X.mg x = some (.ref D))
    (hq:PySem.W.excIn X.K D bmB newId = true) (hbase:bmB.contains (.type "BaseException") = true) (hd:(x == ("__debug__":Str)) = false:=by decide) :
    PS X (.Try body [.ExceptHandler (some (.Name x np)) (some n) (b₀ :: suite) hpos] [] [] pos) (tTryAs X.K bmB newId D i tb ts):=by
  intro pins s σ H En I h
  refine wpAny_Try_except (wpAny_mono (hb pins s σ H En _ I h) (fun f s1 q=>?_) fun e s1 q=>?_)
  · cases f with
    | next=>exact wpAny_execs_nil q
    | brk=>exact q
    | cont=>exact q
    | ret u=>exact q
  · obtain ⟨s₁,H₁,I₁,ea,C',H',B,t,rfl,f,C,eC,⟨hqC,hmro⟩,hts⟩:=q
    cases eC
    have fl:=f.fl
    rw [hstk] at fl
    refine wpAny_looks_onW (by rw [I.ok.frames,hstk]) hfr fl fun h₄ held up₄=>?_
    refine wpAny_landsW held fun h₅ fl₅ up₅=>?_
    have up:=up₄.trans up₅
    have I₅:Inv X pins σ H' { s1 with heap:=h₅ }:=f.land (tk:=s1.toks) I₁ fl₅.1 up
    obtain ⟨ob,hob,hobc⟩:=fl₅.there
    refine wpAny_handleBy_cons (codeAny_handlers_test ?_) (by intro z; cases z)
    refine ld_glob (X:=X.hnd ea) I₅.hnd hg hm ?_ hd
    obtain ⟨bm,N,nm,qn,bs,hdct,sn,sub,ab,col,dd,k0,k1,k2,k3,k5,mN,hC,hN1,hni,T,eM⟩:=own_obj I₅.kIn hqC
    obtain ⟨bm',N',nm',qn',bs',hdct',sn',sub',ab',col',dd',j0,j1,j2,j3,j5,mN',hD,hN',hni',T',_⟩:=own_obj I₅.kIn hq
    rw [eM] at hmro
    refine excMatches_sub hC hD hob hobc (T'.hasType hbase) (Option.some.inj hmro) (codeAny_handlers_suite_as ?_)
    refine lands_againW fl₅ fun h₆ fl₆ up₆=>?_
    have fl₆':=fl₆
    rw [← hstk] at fl₆'
    have I₆:Inv X pins σ (upd H' ea (ExcO ea C')) { s1 with heap:=h₆ }:=f.landE (tk:=s1.toks) I₁ fl₆' (up.trans up₆)
    refine store_ok (X:=X.hnd ea) (v:=.ref ea) I₆.hnd hN hi (.inl hk) rfl (fun s2 I2=>?_) (.inr hk)
    refine wpAny_mono (hs ea pins _ _ _ (En.let_go i) I2 (hts ea f.noE)) (fun f s' q=>?_) fun _ _ z=>z.elim
    have q:=q.unhnd I.ok
    cases f with
    | next=>obtain ⟨a,b,J,q⟩:=q; exact unbind_ok J hN hi hk fun s3 J3=>⟨_,_,J3,q⟩
    | brk=>obtain ⟨a,b,J,q⟩:=q; exact unbind_ok J hN hi hk fun s3 J3=>⟨_,_,J3,q⟩
    | cont=>obtain ⟨a,b,J,q⟩:=q; exact unbind_ok J hN hi hk fun s3 J3=>⟨_,_,J3,q⟩
    | ret u=>obtain ⟨v,a,b,J,r,q⟩:=q; exact unbind_ok J hN hi hk fun s3 J3=>⟨v,_,_,J3,r,q⟩
end
section
variable {P:Program} {w:World} {K:PySem.W.Frag} {mg:Str→Option Value} {base:Heap}
theorem Fun.okX {x qual:Str} {st:Stmt} {f:Addr} {fd:FuncData} {N ps:List Str} {k:Nat} {sp:Sp} (F:Fun K x qual st f fd) (S:FnScope N ps (defScope st)) (len:∀ vs H Q E,sp vs H Q E→vs.length = ps.length)
    (hbody:∀ (cdv:Value) (A:Around) (outer:List Env) (s:Shared) (H:Hp) (vs:List V) (Q:VK) (E:XK),Room k (A.deeper (envOfC qual (defScope st) s.heap.objs.size f cdv))→sp vs H Q E→
      Leaves (cxOf (CXF P w) P w K mg base N qual (defScope st) f cdv A outer s H E) E→
      ∃ t,PSs (cxOf (CXF P w) P w K mg base N qual (defScope st) f cdv A outer s H E) (defBody st) t∧t { nx:=fun _ H'=>Q .non H',rt:=Q } (start N vs) H):FnOk P w K mg base (CXF P w) (k + 1) f fd ps sp:=by
  obtain ⟨oc,od,kV,doc,pm,an,cdv,ct,osl,rfl,lk,hcd⟩:=F.ex
  exact fn_of lk hcd S len fun A outer s H vs Q E hr hsp=>hbody cdv A outer s H vs Q E hr hsp ⟨rfl,rfl,rfl,rfl⟩
end
end L2
namespace L2
open PySem PySem.Spec PyProof.Rows
structure ClsX (K:PySem.W.Frag) (C:Addr):Prop where
  ci:PySem.W.hasDictIn K C = true
  ga:PySem.W.findIn K (.ref C) "__getattribute__" = some (some (.builtin "BaseException.__getattribute__"))
  gn:PySem.W.findIn K (.ref C) "__getattr__" = some none
  ca:PySem.W.findIn K (.ref C) "__class__" = some (some (.builtin "object.__class__"))
  mo:PySem.W.mroIn K C (.type "object") = some true
  mb:PySem.W.mroIn K C (.type "BaseException") = some true
section
variable {prog:Program} {w:World} {A:Around} {E:Value→Shared→Prop} {h:Heap} {g:Array GenState} {d:Drawn} {t:Nat} {os:OsState} {K:PySem.W.Frag} {a C:Addr} {o:Obj}
theorem xcls_get {R:Result→Shared→Prop} (kin:K.In h) (c:ClsX K C) (hx:h.get? a = some o) (hc:o.cls = .ref C) (hq:R (.ok (.ret (.ref C))) ⟨h,g,d,t,os⟩) :
    codeAny (model prog w) A (.call (.builtin "getset_descriptor.__get__") ⟨[.builtin "object.__class__",.ref a,.ref C],[]⟩) R ⟨h,g,d,t,os⟩:=by
  have hT5:(⟨h,g,d,t,os⟩:Shared).TypeIs (.builtin "object.__class__") "getset_descriptor":=F.typeOf_object_class
  have L1:=PySem.W.looks_mroIn (M:=model prog w) kin c.mo
  have ow:=F.owner_object_class
  refine codeAny_call_builtin F.slot_gs_get.plain F.entry_gs_get (F.slot_gs_get.check _ _ _ _ _ _ _ _ hT5 (F.args_gs_get _ _ _) ?_)
  repeat (any_goals (first | assumption | (with_reducible refine wpAny_loadPart_at hx ?_; rw [hc]) | (rw [ow]; with_reducible refine L1.at ?_) | wp_step))
  refine ⟨Code.quiet_builtin _ (by decide +kernel),codeAny_builtin F.entry_object_class ?_⟩
  repeat (any_goals (first | assumption | (with_reducible refine wpAny_loadPart_at hx ?_; rw [hc]) | wp_step))
theorem xcls_entry {tk:Tok} {Q:Fin→Shared→Prop} (kin:K.In h) (c:ClsX K C) (hx:h.get? a = some o) (hc:o.cls = .ref C) (hq:Q (.done (.ret (.ref C))) ⟨h,g,d,t,os⟩) :
    wpAny (model prog w) A (Builtin.«object.__getattribute__» ⟨[.ref a,.str "__class__" tk],[]⟩) Q E ⟨h,g,d,t,os⟩:=by
  have hT5:(⟨h,g,d,t,os⟩:Shared).TypeIs (.builtin "object.__class__") "getset_descriptor":=F.typeOf_object_class
  have L1:=PySem.W.looks_findIn (M:=model prog w) kin c.ca
  have f5:=F.typeOf_object_class
  have f6:=F.slot_gs_get.lookup
  have f7:=F.slot_gs_set.lookup
  repeat (any_goals (first | assumption | (with_reducible refine wpAny_loadPart_at hx ?_; rw [hc]) | with_reducible refine L1.at ?_ | wp_step))
  refine xcls_get kin c hx hc ?_
  repeat (any_goals (first | assumption | wp_step))
theorem xcls_check {M:Model} {nv:Value} {Q:Unit→Shared→Prop} (kin:K.In h) (c:ClsX K C) (hx:h.get? a = some o) (hc:o.cls = .ref C) (hq:Q () ⟨h,g,d,t,os⟩) :
    wpAny M A (checkBuiltinCall "BaseException.__getattribute__" ⟨[.ref a,nv],[]⟩) Q E ⟨h,g,d,t,os⟩:=by
  have hk:builtinKind "BaseException.__getattribute__" = some .slot:=by decide +kernel
  have hs:splitId "BaseException.__getattribute__" = some ("BaseException","__getattribute__"):=by decide +kernel
  have L1:=PySem.W.looks_mroIn (M:=M) kin c.mb
  have ha:=F.args_bexc_ga (.ref a) nv
  simp only [checkBuiltinCall,hk,hs]
  refine wpAny_bind ?_
  unfold isInstance
  repeat (first | (with_reducible refine wpAny_loadPart_at hx ?_; rw [hc]) | with_reducible refine L1.at ?_ | wp_step)
  exact hq
theorem xcls_by {tk:Tok} {fill expr:Bool} {Q:Value→Shared→Prop} (kin:K.In h) (c:ClsX K C) (hx:h.get? a = some o) (hc:o.cls = .ref C) (hq:Q (.ref C) ⟨h,g,d,t,os⟩) :
    wpAny (model prog w) A (getAttrBy (.ref a) (.str "__class__" tk) fill expr) Q E ⟨h,g,d,t,os⟩:=by
  have f3:=F.attrBase_ValueError.ga.bind (.ref a)
  have z0:(expr && onTheHeap (Value.builtin "BaseException.__getattribute__")) = false:=by cases expr <;> rfl
  have z2:(Value.builtin "BaseException.__getattribute__" == Value.builtin "object.__getattribute__") = false:=by decide +kernel
  have z1:(onTheHeap (Value.ref C) && Value.builtin "BaseException.__getattribute__" == Value.builtin "object.__getattribute__") = false:=by rw [z2]; rfl
  have L1:=PySem.W.looks_findIn (M:=model prog w) kin c.ga
  have L2:=PySem.W.looks_findIn (M:=model prog w) kin c.gn
  repeat (any_goals (first | assumption | (with_reducible refine wpAny_loadPart_at hx ?_; rw [hc]) | with_reducible refine L1.at ?_ | with_reducible refine L2.at ?_ | wp_step))
  refine codeAny_call_builtin F.attrBase_ValueError.ga.plain F.entry_bexc_ga (xcls_check kin c hx hc (xcls_entry kin c hx hc ?_))
  repeat (any_goals (first | assumption | wp_step))
theorem xcls_attr {Q:Option Value→Shared→Prop} (kin:K.In h) (c:ClsX K C) (hx:h.get? a = some o) (hc:o.cls = .ref C) (hq:Q (some (.ref C)) ⟨h,g,d,t + 1,os⟩) :
    wpAny (model prog w) A (getAttr? (.ref a) "__class__") Q E ⟨h,g,d,t,os⟩:=by
  unfold getAttr? getAttrBy?
  repeat (any_goals (first | assumption | with_reducible apply xcls_by kin c hx hc | wp_step))
theorem kitx_exc (c:ClsX K C):PySem.W.KitX K (.ref a) (.ref C) (ExcAt a C) where
  ty:=fun M h _ k=>by
    obtain ⟨oe,e1,e2,_⟩:=k
    exact e2 ▸ (PySem.W.Looks.ld e1).andThen .now
  it:=fun M h kin _=>by
    obtain ⟨cd,hc,_⟩:=PySem.W.any_some c.ci
    unfold PySem.W.clsIn at hc
    split at hc
    · rename_i look
      intro A' Q' E' s' k q
      unfold isType loadHead
      exact wpAny_bind (wpAny_loadPart (k _ _ (kin _ _ look)) (wpAny_pure q))
    · cases hc
  ne:=fun h tp dd its n sl kin htp=>by
    obtain ⟨cd,hc,_⟩:=PySem.W.any_some c.ci
    refine Bool.eq_false_iff.mpr fun q=>?_
    have e:C = tp:=Value.ref.inj (beq_iff_eq.mp q)
    subst e
    unfold PySem.W.clsIn at hc
    split at hc
    · rename_i look
      have z:=(kin _ _ look).symm.trans htp
      cases z
    · cases hc
  ca:=fun {prog w A E Q s} kin k z=>by
    obtain ⟨oe,e1,e2,_⟩:=k
    obtain ⟨h,g,d,t,os⟩:=s
    exact xcls_attr kin c e1 e2 z
end
def DctO (a:Addr):HO:=.ext (PySem.W.KitAt a "dict")
inductive TyX (K:PySem.W.Frag) (H:Hp):V→Value→Prop where
  | of {x:V} {t:Value} (h:TyOf K H x t):TyX K H x t
  | exc {a C:Addr} (e:H a = some (ExcO a C)) (c:ClsX K C):TyX K H (.ref a) (.ref C)
  | dct {a:Addr} (e:H a = some (DctO a)):TyX K H (.ref a) (.type "dict")
def clsV:V→Value
  | .ty n=>.type n
  | .ref a=>.ref a
  | _=>.none
def isCls:V→Bool
  | .ty _=>true
  | .ref _=>true
  | _=>false
def isiR (K:PySem.W.Frag):List V→Hp→VK→Prop:=fun xs H Q=>∃ x c t b,xs = [x,c]∧isCls c = true∧TyX K H x t∧PySem.W.kitOne K t (clsV c) = some b∧Q (.bl b) H
theorem call_isi {X:Cx} {K:PySem.W.Frag} (hK:X.K = K:=by rfl):CallR X (.builtin "isinstance") (isiR K):=by
  intro pins s σ H xs us Q I r h
  subst hK
  obtain ⟨x,c,t,b,rfl,hc,ty,e,q⟩:=h
  obtain ⟨u,cv,rfl,rx,rc⟩:=vals2 r
  have ec:cv = clsV c:=by
    cases c with
    | ty n=>exact rc
    | ref a=>exact rc
    | _=>cases hc
  subst ec
  cases ty with
  | of ty=>exact isinst_ok I rx ty e fun tk=>⟨.bl b,H,I.tok tk,rfl,q⟩
  | @dct a ea=>
    cases rx
    obtain ⟨k,_,_⟩:=(show ObjOk X.prog X.w H s.heap a (.ext (PySem.W.KitAt a "dict")) from I.hok a _ ea)
    exact PySem.W.kia_one PySem.W.kitx_dict I.kIn k e (fun z=>nomatch z) fun tk=>⟨.bl b,H,I.tok tk,rfl,q⟩
  | @exc a C ea cc=>
    cases rx
    obtain ⟨k,_,_⟩:=(show ObjOk X.prog X.w H s.heap a (.ext (ExcAt a C)) from I.hok a _ ea)
    exact PySem.W.kia_one (kitx_exc cc) I.kIn k e (fun z=>nomatch z) fun tk=>⟨.bl b,H,I.tok tk,rfl,q⟩
theorem boot_isinstance:bootBuiltins "isinstance" = some (.builtin "isinstance"):=by decide +kernel
theorem boot_abs:bootBuiltins "abs" = some (.builtin "abs"):=by decide +kernel
theorem boot_int:bootBuiltins "int" = some (.type "int"):=by decide +kernel
theorem boot_bool:bootBuiltins "bool" = some (.type "bool"):=by decide +kernel
theorem boot_tuple:bootBuiltins "tuple" = some (.type "tuple"):=by decide +kernel
theorem boot_list:bootBuiltins "list" = some (.type "list"):=by decide +kernel
theorem boot_ValueError:bootBuiltins "ValueError" = some (.type "ValueError"):=by decide +kernel
end L2
namespace My
open PySem L2
def primeB (n:Int):Bool:=(List.range 32).all fun e=>decide (e < 2) || decide (n < (e:Int) * (e:Int)) || decide (n % (e:Int) ≠ 0)
def lawB (n:Int):Bool:=(List.range 32).all fun e=>decide (e < 2) || decide (n ≤ (e:Int)) || decide (n % (e:Int) ≠ 0)
set_option maxRecDepth 100000 in
theorem prime_law_nat:∀ k:Nat,k < 998→(k < 2 ∨ primeB (k:Int) = lawB (k:Int)):=by decide +kernel
theorem prime_law {n:Int} (h1:2 ≤ n) (h2:n ≤ 997):primeB n = lawB n:=by
  obtain ⟨k,rfl⟩:∃ k:Nat,n = (k:Int):=⟨n.toNat,by omega⟩
  rcases prime_law_nat k (by omega) with h | h
  · omega
  · exact h
theorem primeB_no {n d:Int} (h2:n ≤ 997) (hd:2 ≤ d) (hq:d * d ≤ n) (hm:n % d = 0):primeB n = false:=by
  have hd2:d < 32:=by
    by_cases h:d < 32
    · exact h
    · have:32 * 32 ≤ d * d:=Int.mul_le_mul (by omega) (by omega) (by omega) (by omega)
      omega
  obtain ⟨k,rfl⟩:∃ k:Nat,d = (k:Int):=⟨d.toNat,by omega⟩
  cases e:primeB n with
  | false=>rfl
  | true=>
    have z:=List.all_eq_true.mp e k (List.mem_range.mpr (by omega))
    simp only [Bool.or_eq_true,decide_eq_true_eq] at z
    rcases z with (z | z) | z
    · omega
    · omega
    · exact absurd hm z
theorem primeB_yes {n d:Int} (hq:n < d * d) (hd:2 ≤ d) (hm:∀ e:Int,2 ≤ e→e < d→n % e ≠ 0):primeB n = true:=by
  refine List.all_eq_true.mpr fun k _=>?_
  simp only [Bool.or_eq_true,decide_eq_true_eq]
  by_cases h1:k < 2
  · exact .inl (.inl h1)
  · by_cases h2:n < (k:Int) * (k:Int)
    · exact .inl (.inr h2)
    · refine .inr (hm k (by omega) ?_)
      by_cases h3:(k:Int) < d
      · exact h3
      · have:d * d ≤ (k:Int) * (k:Int):=Int.mul_le_mul (by omega) (by omega) (by omega) (by omega)
        omega
theorem lawB_no {n d:Int} (hd:2 ≤ d) (h32:d < 32) (hn:d < n) (hm:n % d = 0):lawB n = false:=by
  obtain ⟨k,rfl⟩:∃ k:Nat,d = (k:Int):=⟨d.toNat,by omega⟩
  cases e:lawB n with
  | false=>rfl
  | true=>
    have z:=List.all_eq_true.mp e k (List.mem_range.mpr (by omega))
    simp only [Bool.or_eq_true,decide_eq_true_eq] at z
    rcases z with (z | z) | z
    · omega
    · omega
    · exact absurd hm z
theorem lawB_yes {n:Int} (hm:∀ e:Int,2 ≤ e→e < 32→e < n→n % e ≠ 0):lawB n = true:=by
  refine List.all_eq_true.mpr fun k hk=>?_
  have:=List.mem_range.mp hk
  simp only [Bool.or_eq_true,decide_eq_true_eq]
  by_cases h1:k < 2
  · exact .inl (.inl h1)
  · by_cases h2:n ≤ (k:Int)
    · exact .inl (.inr h2)
    · exact .inr (hm k (by omega) (by omega) (by omega))
inductive Td where
  | a (w:Str)
  | b (w:Str) (n:Int)
def Td.vs:Td→List V
  | .a w=>[.str w]
  | .b w n=>[.str w,.int n]
def Td.isF:Td→Bool
  | .a w=>decide (w = "fractions")
  | .b _ _=>false
def Td.isW:Td→Bool
  | .a _=>false
  | .b w n=>decide (w = "wheel") && (decide (2 ≤ n) && decide (n ≤ 997) && primeB n)
def Td.good (d:Td):Bool:=d.isF || d.isW
def Td.prime:Td→V
  | .a _=>.non
  | .b _ n=>.int n
end My
namespace L2
open PySem PySem.Spec PyProof.Rows
abbrev Cx.blk (X:Cx) (N:List Str) (scope:Scope) (cl:List (Str × Addr)) (s₃:Shared) (H₃:Hp) (fp:List Addr):Cx:=
  { X with N:=N,s₀:=s₃,H₀:=H₃,env:=compEnvC scope cl s₃.heap.objs.size X.env,outer:=X.stack,stack:=X.stack,ex:=fp,fn:=fun _=>false,pn:=[],xe:=fun _ _=>False }
inductive PTs (X:Cx):List Expr→TT→Prop where
  | nil:PTs X [] (fun _ H Q=>Q true H)
  | one {c:Expr} {t:TT} (h:PT X c t):PTs X [c] t
def tComp (wi:TI) (ρ:St→St) (tt:TT) (te:TE):TE:=fun σ H Q=>wi σ H fun J H1=>∀ D,H1 D = none→∃ W:Nat→Nat→List V→Hp→Prop,(∃ m,W 0 m [] (upd H1 D (.lst [])))∧
  ∀ i m ys Hc,W i m ys Hc→Hc D = some (.lst ys)∧((J.stop i Hc∧Q (.ref D) Hc) ∨ (J.go i Hc∧∀ x H',J.yld i Hc x H'→tt (some x :: ρ σ) H' fun b H2=>
    if b = true then te (some x :: ρ σ) H2 fun y H3=>H3 D = some (.lst ys)∧ys.length < sizeLine∧∃ m',m' < m∧W (i + 1) m' (ys ++ [y]) (upd H3 D (.lst (ys ++ [y]))) else ∃ m',m' < m∧W (i + 1) m' ys H2))
section
variable {X:Cx} {N:List Str} {scope:Scope} {cl:List (Str × Addr)} {x:Str} {px pos:Pos} {iter elt:Expr} {ifs:List Expr} {wi:TI} {ρ:St→St} {tt:TT} {te:TE}
structure Blk (X:Cx) (N:List Str) (scope:Scope) (cl:List (Str × Addr)) (x:Str) (ρ:St→St):Prop where
  clos:closureFor scope X.env = pure cl
  kind:scope.kind = .function
  nocell:∀ y ∈ scope.names,y.2 ≠ .cell
  names:∀ y ∈ scope.names,y.2 = .local→scope.names.lookup y.1 = some .local
  sub:∀ p ∈ cl,X.env.cells.lookup p.1 = some p.2
  has:∀ y,((relabel scope X.env).names.lookup y = some .cell ∨ (relabel scope X.env).names.lookup y = some .free)→∃ c,cl.lookup y = some c
  n0:N[0]? = some x
  nd:N.Nodup
  hx:scope.names.lookup x = some .local
  rho:∀ (σ:St) (j:Nat) (v:V),(ρ σ)[j]? = some (some v)→∃ (i:Nat) (y:Str),N[j + 1]? = some y∧X.N[i]? = some y∧σ[i]? = some (some v)∧Vis X.env.scope y∧(X.env.kindOf y = some .cell ∨ X.env.kindOf y = some .free)∧((relabel scope X.env).names.lookup y = some .cell ∨ (relabel scope X.env).names.lookup y = some .free)
  len:∀ σ:St,σ.length = X.N.length→(ρ σ).length + 1 = N.length
theorem has_of {names:List (Str × NameKind)} {cl:List (Str × Addr)} (h:(names.all fun q=>(q.2 != .cell && q.2 != .free) || (cl.lookup q.1).isSome) = true) :
    ∀ y,(names.lookup y = some .cell ∨ names.lookup y = some .free)→∃ c,cl.lookup y = some c:=fun y hy=>by
  have key:∀ k:NameKind,(k != .cell && k != .free) = false→names.lookup y = some k→∃ c,cl.lookup y = some c:=fun k hk e=>by
    have z:=List.all_eq_true.mp h (y,k) (PySem.mem_of_lookup e)
    rw [hk,Bool.false_or] at z
    exact Option.isSome_iff_exists.mp z
  rcases hy with e | e
  · exact key .cell rfl e
  · exact key .free rfl e
theorem join_some {o:Option (Option V)} {v:V} (h:some o.join = some (some v)):o = some (some v):=by
  cases o with
  | none=>cases h
  | some o=>cases h; rfl
theorem pe_comp (B:Blk X N scope cl x ρ) (hc:X.calm = true) (hi:PI X (.Name x px) iter wi) (ht:∀ s₃ H₃ fp,PTs (X.blk N scope cl s₃ H₃ fp) ifs tt) (he:∀ s₃ H₃ fp,PE (X.blk N scope cl s₃ H₃ fp) elt te)
    (hs:∀ x,foldedSetIterable iter X.env x = pure x:=by intro _; rfl):PE X (.ListComp elt [⟨.Name x px,iter,ifs,0⟩] scope pos) (tComp wi ρ tt te):=by
  intro pins s σ H Q I h
  rw [eval_ListComp]
  refine wpAny_comprehension_free (use:=none) rfl hs B.clos B.kind B.names (thn (hi pins s σ H _ I h) fun v s1 h1=>thn h1 fun itv s2 h2=>?_)
  obtain ⟨it,fp,tn,J,H2,rfl,I2,T,st2,f2,q2⟩:=h2
  have nD:H2 s2.heap.objs.size = none:=I2.hok.fresh (Nat.le_refl _)
  obtain ⟨W,⟨m0,w0⟩,turn⟩:=q2 _ nD
  refine wpAny_newObj_type (wpAny_newFunctionEnv B.nocell (by intro y hy; simp at hy) (fun h₁ hns₁ hsb₁=>?_) B.kind)
  dsimp only at hns₁ hsb₁ ⊢
  generalize hD:s2.heap.objs.size = D at nD w0 turn hns₁ hsb₁ ⊢
  generalize hS3:({ s2 with heap:=s2.heap.push { cls:=.type "list",dict:=none,data:=.seq ([]:List Value).toArray } }:Shared) = s3
  have I3:Inv X pins σ (upd H2 D (.lst [])) s3:=by
    subst hD hS3
    exact I2.laid (t':=s2.toks) (fun b u e=>Heap.get?_push_of_some _ e) (Nat.le_refl _) ⟨Nat.zero_le _,[],_,.nil,Heap.get?_push_size _ rfl⟩
  have e3:s3.heap = s2.heap.push { cls:=.type "list",dict:=none,data:=.seq ([]:List Value).toArray }:=by rw [← hS3]
  have k23:∀ b o,s2.heap.get? b = some o→s3.heap.get? b = some o:=fun b o e=>by rw [e3]; exact Heap.get?_push_of_some _ e
  rw [← e3] at hns₁ hsb₁ ⊢
  have below:∀ b o,s3.heap.get? b = some o→b ≠ s3.heap.objs.size:=fun b o e=>Nat.ne_of_lt (Heap.lt_size e)
  have k34:∀ b o,s3.heap.get? b = some o→h₁.get? b = some o:=fun b o e=>hsb₁.extBut b o (below b o e) (Heap.get?_push_of_some _ e)
  have fpl:∀ b ∈ fp,∃ o,s2.heap.get? b = some o∧∀ v,o.data ≠ .cell v:=T.obj _ _ st2
  have nfD:∀ b ∈ fp,b ≠ D:=fun b hb z=>by
    obtain ⟨o,e,_⟩:=fpl b hb
    rw [z,← hD] at e
    exact absurd (Heap.lt_size e) (Nat.lt_irrefl _)
  have cl_of:∀ y c,cl.lookup y = some c→X.env.cells.lookup y = some c:=fun y c e=>B.sub (y,c) (PySem.mem_of_lookup e)
  have stkf:=I3.stkFree
  have okB:(X.blk N scope cl s3 (upd H2 D (.lst [])) fp).Ok:=by
    refine ⟨I.ok.mod,B.kind,I.ok.glob,I.ok.blt,Nat.le_refl _,fun a b c e1 e2=>I.ok.inj a b c (cl_of a c e1) (cl_of b c e2),fun y hy=>B.has y hy,(fun _ _ z _=>absurd z Bool.false_ne_true),(fun _=>I.ok.hd hc),I.ok.frames,.inl rfl,fun b hb=>⟨?_,fun y c e z=>?_⟩,fun b o e=>?_,Nat.le_trans I.ok.bsz I3.sz,fun b o e hb=>?_,fun b hb z=>?_,I3.stack,stkf⟩
    · obtain ⟨o,e,_⟩:=fpl b hb
      exact below b o (k23 b o e)
    · exact (f2 b hb).2.2.2.2.1 y c (cl_of y c e) z
    · exact I3.bs b o e
    · rcases (f2 b hb).2.2.2.1 with z | z
      · exact I.ok.noex b o e z
      · exact absurd (Nat.lt_of_lt_of_le (Heap.lt_size e) (Nat.le_trans I.ok.bsz z)) (Nat.lt_irrefl _)
    · rcases List.mem_cons.mp (I3.stkSub b z) with z | z
      · exact (f2 b hb).2.1 z
      · exact (f2 b hb).2.2.1 z
  have IB:∀ tk:Nat,Inv (X.blk N scope cl s3 (upd H2 D (.lst [])) fp) [] (none :: ρ σ) (upd H2 D (.lst [])) { s3 with heap:=h₁,toks:=tk }:=fun tk=>by
    refine ⟨okB,rfl,I3.bare,Un.kept k34,⟨_,hns₁,fun j y v e1 e2 e3=>?_⟩,fun y c e=>?_,?_,fun y c e=>I3.freeC y c (cl_of y c e),(fun p hp=>nomatch hp),I3.hok.kept k34,?_⟩
    · cases j with
      | zero=>cases e2
      | succ j=>
        obtain ⟨i,y',a1,a2,a3,a4,a5,a6⟩:=B.rho σ j v e2
        have e1':N[j + 1]? = some y:=e1
        rw [e1'] at a1
        cases a1
        obtain ⟨m,hn,hl⟩:=I3.loc
        obtain ⟨u,r,l⟩:=hl i y v a2 a3 a4
        refine ⟨u,r,.inr ⟨a6,?_⟩⟩
        obtain ⟨c,ec⟩:=B.has y a6
        rcases l with ⟨k,_⟩ | ⟨_,c',ec',z⟩
        · rcases a5 with q | q <;> (rw [k] at q; cases q)
        · have:=cl_of y c ec
          rw [this] at ec'
          cases ec'
          obtain ⟨o,ho,hd⟩:=z
          exact ⟨c,ec,o,k34 _ _ ho,hd⟩
    · obtain ⟨v,o,ho,hd⟩:=I3.cell y c (cl_of y c e)
      exact ⟨v,o,k34 _ _ ho,hd⟩
    · exact I3.hok.fresh (Nat.le_refl _)
    · show (none :: ρ σ).length = N.length
      rw [List.length_cons]
      exact B.len σ I.len
  have fin:∀ {σ':St} {H':Hp} {s':Shared},Inv (X.blk N scope cl s3 (upd H2 D (.lst [])) fp) [] σ' H' s'→Q (.ref D) H'→compPost (model X.prog X.w) X.A X.xe none (EP X pins σ Q) (.ref D) s3.heap.objs.size (.ok .next) s':=fun {σ' H' s'} J q=>by
    obtain ⟨m,hn,_⟩:=J.loc
    refine ⟨m,hn,fun h' hs'=>⟨.ref D,H',?_,rfl,q⟩⟩
    have old:∀ b o,s3.heap.get? b = some o→b ≠ s3.heap.objs.size:=below
    have u1:Un (frs X.stack) fp (upd H2 D (.lst [])) H' s3.heap h':=by
      refine ⟨fun b o e n hb hx=>?_,fun b o e n hb hx=>?_,J.base.free,fun b o e hx=>?_,J.base.tups,J.base.frzs,J.base.tbls⟩
      · exact (hs'.2 b (old b o e)).trans (J.base.keep b o e n hb hx)
      · obtain ⟨sl,z⟩:=J.base.slot b o e n hb hx
        exact ⟨sl,(hs'.2 b (old b o e)).trans z⟩
      · obtain ⟨o',z⟩:=J.base.there b o e hx
        exact ⟨o',(hs'.2 b (old b o e)).trans z⟩
    have hokE:HOk X.prog X.w H' h':=fun b u e=>by
      refine (J.hok b u e).stay (fun c v hc z=>(hs'.2 c fun y=>?_).trans z) (fun _ z=>z) fun _ _ z=>z
      have fr:=J.free
      have y':c = s3.heap.objs.size:=y
      rcases hc with hc | hc
      · rw [← hc,y'] at e
        exact absurd (fr.symm.trans e) (by simp)
      · rw [y'] at hc
        exact absurd (fr.symm.trans hc) (by simp)
    refine I3.call' (s':={ s' with heap:=h' }) (ch:=fp) (J.os) u1 hokE J.bare fun b hb=>?_
    obtain ⟨g0,g1,g2,g3,g4,g5⟩:=f2 b hb
    exact ⟨g3,g1,g4,g5⟩
  have stat:∀ {H':Hp},(∀ b ∈ fp,H' b = none)→∀ b ∈ fp,FpOk (X.blk N scope cl s3 (upd H2 D (.lst [])) fp) [] H' b:=fun hn b hb=>by
    refine ⟨hn b hb,?_,?_,.inl hb,fun y c e z=>(f2 b hb).2.2.2.2.1 y c (cl_of y c e) z,fun p hp=>nomatch hp⟩
    · obtain ⟨o,e,_⟩:=fpl b hb
      exact below b o (k23 b o e)
    · exact okB.exfs b hb
  have loop:∀ tk:Nat,codeAny (model X.prog X.w) X.A (.compLoop (.ListComp elt [⟨.Name x px,iter,ifs,0⟩] scope pos) 0 (.ref it) (.ref D) (compEnvC scope cl s3.heap.objs.size X.env))
      (compPost (model X.prog X.w) X.A X.xe none (EP X pins σ Q) (.ref D) s3.heap.objs.size) { s3 with heap:=h₁,toks:=tk }:=fun tk=>by
    refine codeAny_compLoop_tests (fun n s'=>∃ i ys o H',Inv (X.blk N scope cl s3 (upd H2 D (.lst [])) fp) [] (o :: ρ σ) H' s'∧tn i s'.heap∧(∀ b ∈ fp,H' b = none)∧W i n ys H') ?_ m0
      ⟨0,[],none,_,IB tk,T.keep _ _ _ st2 fun b hb o e=>k34 _ _ (k23 _ _ e),fun b hb=>by rw [upd_ne (nfD b hb)]; exact (f2 b hb).1,w0⟩
    rintro n s4 ⟨i,ys,o,H4,I4,st4,fr4,w4⟩
    obtain ⟨hD4,hturn⟩:=turn i n ys H4 w4
    rcases hturn with ⟨stop,qn⟩ | ⟨go,step⟩
    · refine wpAny_mono (T.done (X.blk N scope cl s3 (upd H2 D (.lst [])) fp) rfl rfl rfl hc i [] s4 _ H4 (fun _ _=>False) I4 (stat fr4) st4 stop) (fun r s5 ⟨hr,I5⟩=>?_) fun _ _ z=>z.elim
      subst hr
      exact fin I5 qn
    · refine wpAny_mono (T.item (X.blk N scope cl s3 (upd H2 D (.lst [])) fp) rfl rfl rfl hc i [] s4 _ H4 (fun _ _=>False) I4 (stat fr4) st4 go) (fun r s5 ⟨u,hr,h5⟩=>?_) fun _ _ z=>z.elim
      subst hr
      have z:letOwnedTupleGo (.Name x px) (.ref it) u = pure ():=rfl
      rw [z] at h5
      show wpAny _ _ ((pure ():Sem Unit) >>= fun _=>assign (.Name x px) (compEnvC scope cl s3.heap.objs.size X.env) u) _ _ s5
      refine wpAny_bind (wpAny_mono h5 (fun _ s5 ⟨y,H5,I5,r5,y5,st5,fr5⟩=>?_) fun _ _ z=>z.elim)
      have I5':=I5.pinned (stat fr5) (T.obj _ _ st5)
      have pg:PG (X.blk N scope cl s3 (upd H2 D (.lst [])) fp) (.Name x px) (gName 0):=pg_name (i:=0) B.nd B.n0 (.inl (lookup_relabel_local B.hx)) (.inr (lookup_relabel_local B.hx))
      have again:∀ {σ7:St} {H7:Hp} {s7:Shared},Inv (X.blk N scope cl s3 (upd H2 D (.lst [])) fp) ([] ++ pinsAt fp s5.heap) σ7 H7 s7→Inv (X.blk N scope cl s3 (upd H2 D (.lst [])) fp) [] σ7 H7 s7∧tn (i + 1) s7.heap∧∀ b ∈ fp,H7 b = none:=fun {σ7 H7 s7} I7=>by
        refine ⟨I7.unpinned,T.keep _ _ _ st5 fun b hb o e=>(I7.pin (b,o) (List.mem_append_right _ (List.mem_append_right _ (mem_pinsAt hb e)))).1,fun b hb=>?_⟩
        obtain ⟨o,e,d⟩:=T.obj _ _ st5 b hb
        exact (I7.pin (b,o) (List.mem_append_right _ (List.mem_append_right _ (mem_pinsAt hb e)))).2.1
      refine wpAny_mono (pg _ s5 _ H5 y u (fun σ2 H6=>σ2 = some y :: ρ σ∧H6 = H5) I5' r5 ⟨rfl,rfl⟩) (fun _ s6 ⟨σ6,H6,I6,q6⟩=>?_) fun _ _ z=>z.elim
      obtain ⟨rfl,rfl⟩:=q6
      have hstep:=step y _ y5
      have tests:∀ {tt':TT},PTs (X.blk N scope cl s3 (upd H2 D (.lst [])) fp) ifs tt'→∀ {R:Bool→Hp→Prop},tt' (some y :: ρ σ) H6 R→wpAny (model X.prog X.w) X.A
          (forIn ifs true fun c r=>if r = true then do let ok ← isTrue c (compEnvC scope cl s3.heap.objs.size X.env) (eval c (compEnvC scope cl s3.heap.objs.size X.env)); pure (ForInStep.yield ok) else pure (ForInStep.yield r))
          (fun ok s7=>∃ H7,Inv (X.blk N scope cl s3 (upd H2 D (.lst [])) fp) ([] ++ pinsAt fp s5.heap) (some y :: ρ σ) H7 s7∧R ok H7) (fun _ _=>False) s6:=fun {tt'} p {R} hR=>by
        cases p with
        | nil=>exact wpAny_tests_nil ⟨_,I6,hR⟩
        | one p=>exact wpAny_tests_one (p _ s6 _ _ _ I6 hR)
      refine wpAny_mono (tests (ht s3 _ fp) hstep) (fun ok s7 ⟨H7,I7,q7⟩=>?_) fun _ _ z=>z.elim
      cases ok with
      | false=>
        obtain ⟨m',hm',w7⟩:=q7
        obtain ⟨a1,a2,a3⟩:=again I7
        exact ⟨m',hm',i + 1,ys,_,H7,a1,a2,a3,w7⟩
      | true=>
        refine wpAny_mono (he s3 _ fp _ s7 _ H7 _ I7 q7) (fun ev s8 ⟨z,H8,I8,r8,hD8,hz,m',hm',w8⟩=>?_) fun _ _ z=>z.elim
        refine wpAny_mono (mt_append (X:=X.blk N scope cl s3 (upd H2 D (.lst [])) fp) _ s8 _ H8 (.ref D) [z] (.ref D) [ev] (fun _ H9=>H9 = upd H8 D (.lst (ys ++ [z]))) I8 rfl (.cons r8 .nil) ⟨D,ys,z,rfl,rfl,hD8,hz,rfl⟩) (fun _ s9 ⟨_,H9,I9,_,q9⟩=>?_) fun _ _ z=>z.elim
        subst q9
        obtain ⟨a1,a2,a3⟩:=again I9
        exact ⟨m',hm',i + 1,ys ++ [z],_,_,a1,a2,a3,w8⟩
  have start:=loop (s3.toks + ([]:List (Str × Value)).length)
  have es:({ s3 with heap:=h₁,toks:=s3.toks + ([]:List (Str × Value)).length }:Shared) = { s2 with heap:=h₁,toks:=s2.toks + ([]:List (Str × Value)).length }:=by rw [← hS3]
  rw [es] at start
  exact codeAny_compStart_list start (T.self _ 0 _ _ _ (T.keep _ _ _ st2 fun b hb o e=>k34 _ _ (k23 _ _ e)) start)
end
end L2
namespace L2
open PySem PySem.Spec PyProof.Rows
def Mid (i:Int):Prop:=i.natAbs < 2 ^ 2048
theorem Mid.log {i:Int} (h:Mid i):i.natAbs.log2 < 2048:=by
  by_cases z:i.natAbs = 0
  · rw [z]; decide
  · exact (Nat.log2_lt z).mpr h
def CDivM (i j:Int):Prop:=j ≠ 0∧Mid j
def CMulM (i j:Int):Prop:=Mid i∧Mid j
theorem CMulM.ok {i j:Int} (h:CMulM i j):IntMulOk i j:=by
  have b:∀ {k:Int},Mid k→Builtin.Int.intBits k ≤ 2048:=fun {k} hk=>by
    have z:=hk.log
    unfold Builtin.Int.intBits
    split <;> omega
  unfold IntMulOk
  have e:Builtin.Int.intTooBig ((Builtin.Int.intBits i:Int) + (Builtin.Int.intBits j:Int)) = false:=by
    unfold Builtin.Int.intTooBig
    have h1:=b h.1
    have h2:=b h.2
    have h3:(4096:Int) ≤ bitsLine:=by decide +kernel
    exact decide_eq_false (by omega)
  intro z
  rw [Bool.and_eq_true] at z
  have z2:=z.2
  rw [show Builtin.Int.intTooBig ((Builtin.Int.intBits i:Int) + (Builtin.Int.intBits j:Int)) = false from e] at z2
  cases z2
theorem paired_of:∀ {xs:List V} {us:List Value},xs.length = us.length→(∀ (i:Nat) (x:V) (u:Value),xs[i]? = some x→us[i]? = some u→RelV x u)→Vals xs us
  | [],[],_,_=>.nil
  | [],_ :: _,h,_=>by simp at h
  | _ :: _,[],h,_=>by simp at h
  | x :: xs,u :: us,h,k=>.cons (k 0 x u rfl rfl) (paired_of (by simpa using h) fun i a b h1 h2=>k (i + 1) a b (by simpa using h1) (by simpa using h2))
section
variable {X:Cx}
theorem op_fdivM:OpR X (binaryOp .FloorDiv) (rI CDivM fun i j=>.int (i.fdiv j)):=opI fun _ _ _ _ _ _ _ hc q=>floordiv_int hc.1 q (.inl (PyProof.noPylong_of_log2 (Nat.lt_of_lt_of_le hc.2.log (by decide))))
theorem op_mulM:OpR X (binaryOp .Mult) (rI CMulM fun i j=>.int (i * j)):=opI fun _ _ _ _ _ _ _ hc q=>mul_int q hc.ok
def CDivP (i j:Int):Prop:=0 < j∧Mid j
theorem op_fdivP:OpR X (binaryOp .FloorDiv) (rI CDivP fun i j=>.int (i / j)):=opI fun i j _ _ _ _ _ hc q=>
  floordiv_int (Int.ne_of_gt hc.1) (by rw [Int.fdiv_eq_ediv_of_nonneg i (Int.le_of_lt hc.1)]; exact q) (.inl (PyProof.noPylong_of_log2 (Nat.lt_of_lt_of_le hc.2.log (by decide))))
def allR (K:PySem.W.Frag):List V→Hp→VK→Prop:=fun xs H Q=>∃ (p:Addr) (bs:List Bool),xs = [.ref p]∧SqL K H p (bs.map V.bl)∧Q (.bl (bs.all id)) H
theorem call_all {K:PySem.W.Frag} (hc:X.calm = true) (hK:X.K = K:=by rfl):CallR X (.builtin "all") (allR K):=by
  intro pins s σ H xs us Q I r h
  subst hK
  obtain ⟨p,bs,rfl,hq,q⟩:=h
  obtain ⟨u,rfl,ru⟩:=vals1 r
  cases ru
  obtain ⟨its,rv,pl,hz⟩:=I.list hq
  have hne:p ≠ s.heap.objs.size:=by
    obtain ⟨o,e,_⟩:=pl.isList
    exact Nat.ne_of_lt (Heap.lt_size e)
  have hl:its.length = bs.length:=by rw [← rv.length,List.length_map]
  refine call_all_walk (wpAny_pyIter_list pl.isList ?_)
  refine ⟨s.heap.objs.size,_,_,_,_,_,fun i=>bs.getD i true,rfl,Walks.list (A:=X.A.in1) (show X.A.in1.handled = none from I.ok.hd hc) s.heap.objs.size p hne its.toArray,⟨⟨_,Heap.get?_push_size _ rfl,rfl,rfl⟩,pl.isList.push _⟩,fun i v s' Q' E' hv hq'=>?_,fun h' tk hk=>?_⟩
  · have hv':its[i]? = some v:=by simpa using hv
    cases eb:bs[i]? with
    | none=>
      have:=rv.none_of (i:=i) (by rw [List.getElem?_map,eb]; rfl)
      rw [this] at hv'
      cases hv'
    | some b=>
      obtain ⟨u,hu,ru⟩:=rv.get (i:=i) (x:=V.bl b) (by rw [List.getElem?_map,eb]; rfl)
      rw [hu] at hv'
      cases hv'
      cases ru
      have e:bs.getD i true = b:=by rw [List.getD_eq_getElem?_getD,eb]; rfl
      have hq2:Q' (bs.getD i true) s':=hq'
      rw [e] at hq2
      exact wpAny_truthy_bool hq2
  · refine ⟨.bl (bs.all id),H,I.kept fun b o e=>hk b o (fun z=>?_) (Heap.get?_push_of_some _ e),?_,q⟩
    · exact absurd (Heap.lt_size e) (by rw [List.mem_singleton.mp z]; exact Nat.lt_irrefl _)
    · show Value.bool _ = Value.bool _
      congr 1
      rw [List.size_toArray,hl]
      clear hk q rv pl hz hl hq
      induction bs with
      | nil=>rfl
      | cons b bs ih=>
        rw [List.length_cons,List.range_succ_eq_map,List.all_cons,List.all_map,List.all_cons]
        show (b && (List.range bs.length).all fun i=>bs.getD i true) = (b && bs.all id)
        rw [ih]
def rngR:List V→Hp→VK→Prop:=fun xs H Q=>∃ j:Int,xs = [.int j]∧∀ p,H p = none→Q (.ref p) (upd H p (.rng 0 j))
theorem call_range:CallR X (.type "range") rngR:=by
  intro pins s σ H xs us Q I r h
  obtain ⟨j,rfl,q⟩:=h
  obtain ⟨u,rfl,ru⟩:=vals1 r
  obtain ⟨t,rfl⟩:=ru
  refine call_range_1 ⟨.ref s.heap.objs.size,_,I.laid (o:=.rng 0 j) (fun b o e=>Heap.get?_push_of_some _ e) (Nat.le_refl _) ⟨_,_,_,Heap.get?_push_size _ rfl⟩,rfl,q _ (I.hok.fresh (Nat.le_refl _))⟩
def upto (n:Nat):List V:=(List.range n).map fun i:Nat=>V.int (i:Int)
def lrngR:List V→Hp→VK→Prop:=fun xs H Q=>∃ p n,xs = [.ref p]∧H p = some (.rng 0 (n:Nat))∧n ≤ 10000∧∀ l,H l = none→Q (.ref l) (upd H l (.lst (upto n)))
theorem call_list_rng (hc:X.calm = true):CallR X (.type "list") lrngR:=by
  intro pins s σ H xs us Q I r h
  obtain ⟨p,n,rfl,hp,hn,q⟩:=h
  obtain ⟨u,rfl,ru⟩:=vals1 r
  cases ru
  obtain ⟨t,u,v,e⟩:=(show ObjOk X.prog X.w H s.heap p (.rng 0 n) from I.hok p _ hp)
  refine call_list_range (n:=n) (I.ok.hd hc) e (small_one (by omega) (by omega) (by omega) (by omega)) (by rw [rangeSize_one]; split <;> omega) (by omega) fun h' tk acc c hk hD hit=>?_
  refine ⟨.ref s.heap.objs.size,_,I.laid (o:=.lst (upto n)) (fun b o e=>hk b o e) (Nat.le_refl _) ⟨?_,acc.toList,c,?_,?_⟩,rfl,q _ (I.hok.fresh (Nat.le_refl _))⟩
  · unfold upto
    rw [List.length_map,List.length_range]
    exact Nat.le_trans hn (by decide)
  · refine paired_of ?_ fun i x u h1 h2=>?_
    · unfold upto
      rw [List.length_map,List.length_range,Array.length_toList,hit.1]
    · have h2':acc[i]? = some u:=by simpa using h2
      obtain ⟨tk',e'⟩:=hit.2 i u h2'
      unfold upto at h1
      rw [List.getElem?_map] at h1
      have hi:i < n:=by
        have z:=(Array.getElem?_eq_some_iff.mp h2').1
        rw [hit.1] at z
        exact z
      rw [List.getElem?_range hi] at h1
      cases h1
      exact ⟨tk',by rw [e']; simp⟩
  · rw [hD]
end
theorem boot_all:bootBuiltins "all" = some (.builtin "all"):=by decide +kernel
theorem boot_range':bootBuiltins "range" = some (.type "range"):=by decide +kernel
def unstarred:Expr→Bool
  | .Starred _ _=>false
  | _=>true
theorem star_cons {e:Expr} {es:List Expr} {env:Env} (h:unstarred e = true):starEach (e :: es) env = (false,eval e env) :: starEach es env:=by
  cases e <;> first | rfl | cases h
theorem pa_mor {X:Cx} {e:Expr} {es:List Expr} {te:TE} {t:TA} (hs:unstarred e = true) (ha:PE X e te) (hr:PA X es t):PA X (e :: es) (tCons te t):=
  pa_cons ha hr (star_cons hs)
theorem ps_put {X:Cx} {pos:Pos} {i:Nat} {x:Str} {e:Expr} {te:TE} {pos':Pos} (hs:swapsWith e (some (.Name x pos')) pos.line X.env = pure false) (hf:X.fn x = true ∨ X.env.scope.names.lookup x = some .local) (hN:X.N.Nodup) (hi:X.N[i]? = some x) (hx:Loc X.env.scope x) (he:PE X e te) :
    PS X (.Assign [.Name x pos'] e pos) (tAsg te (gName i)):=ps_set hN hi hx he hs hf
def bitsR:V→List V→Hp→VK→Prop:=fun x xs H Q=>∃ i:Int,x = .int i∧xs = []∧Q (.int ((Builtin.Int.intBits i:Nat):Int)) H
theorem mt_bits {X:Cx}:MtR X "int.bit_length" bitsR:=by
  intro pins s σ H x xs v us Q I rx rv h
  obtain ⟨i,rfl,rfl,q⟩:=h
  have hus:=rv.zero
  subst hus
  obtain ⟨t,rfl⟩:=rx
  exact call_int_bit_length ⟨.int ((Builtin.Int.intBits i:Nat):Int),H,I.tok _,⟨_,rfl⟩,q⟩
theorem bits_mid {i:Int} (h:Mid i):Builtin.Int.intBits i ≤ 2048:=by
  have z:=h.log
  unfold Builtin.Int.intBits
  split <;> omega
end L2
namespace My
open PySem L2
theorem dV_str (a b:Str):decide (V.str a = V.str b) = decide (a = b):=by
  by_cases h:a = b
  · subst h; simp
  · rw [decide_eq_false h]; exact decide_eq_false fun e=>h (V.str.inj e)
theorem dV_int (a b:Int):decide (V.int a = V.int b) = decide (a = b):=by
  by_cases h:a = b
  · subst h; simp
  · rw [decide_eq_false h]; exact decide_eq_false fun e=>h (V.int.inj e)
theorem kit_same {K:PySem.W.Frag} {T:String}:PySem.W.kitOne K (.type T) (.type T) = some true:=by
  unfold PySem.W.kitOne
  rw [if_pos (beq_self_eq_true _)]
theorem same_upd {H:Hp} {p:Addr} {o:HO} (h:H p = none):Same H (upd H p o):=fun b u e=>by
  rw [upd_ne (ne_of_none e h)]
  exact e
theorem atI_some {α:Type} {xs:List α} {i:Int} (h0:0 ≤ i) (h1:i < xs.length):∃ v,atI xs i = some v∧v ∈ xs:=by
  obtain ⟨k,rfl⟩:∃ k:Nat,i = (k:Int):=⟨i.toNat,by omega⟩
  have hk:k < xs.length:=by omega
  exact ⟨xs[k],atI_nat (by simp [hk]),List.getElem_mem _⟩
theorem lk_prime (v:V):([(("prime":Str),v)]:List (Str × V)).lookup ("prime":Str) = some v:=by simp [List.lookup]
inductive Any (H:Hp):V→Prop where
  | non:Any H .non
  | bl (b:Bool):Any H (.bl b)
  | int (i:Int):Any H (.int i)
  | str (x:Str):Any H (.str x)
  | lst {a:Addr} {xs:List V} (e:H a = some (.lst xs)):Any H (.ref a)
  | tup {a:Addr} {xs:List V} (e:H a = some (.tup xs)):Any H (.ref a)
  | dct {a:Addr} (e:H a = some (DctO a)):Any H (.ref a)
def isIntV:V→Bool
  | .int _=>true
  | _=>false
def isBlV:V→Bool
  | .bl _=>true
  | _=>false
def isTupV (H:Hp):V→Bool
  | .ref a=>(match H a with | some (.tup _)=>true | _=>false)
  | _=>false
theorem Any.kit {K:PySem.W.Frag} {H:Hp} {v:V} (h:Any H v):∃ T:String,TyX K H v (.type T)∧PySem.W.kitOne K (.type T) (.type "int") = some (isIntV v || isBlV v)∧PySem.W.kitOne K (.type T) (.type "bool") = some (isBlV v)∧
    PySem.W.kitOne K (.type T) (.type "tuple") = some (isTupV H v):=by
  cases h with
  | non=>exact ⟨"NoneType",.of .non,rfl,rfl,rfl⟩
  | bl b=>exact ⟨"bool",.of (.bl b),rfl,rfl,rfl⟩
  | int i=>exact ⟨"int",.of (.int i),rfl,rfl,rfl⟩
  | str x=>exact ⟨"str",.of (.str x),rfl,rfl,rfl⟩
  | lst e=>exact ⟨"list",.of (.lst e),rfl,rfl,by unfold isTupV; dsimp only; rw [e]; rfl⟩
  | tup e=>exact ⟨"tuple",.of (.tup e),rfl,rfl,by unfold isTupV; dsimp only; rw [e]; rfl⟩
  | dct e=>exact ⟨"dict",.dct e,rfl,rfl,by unfold isTupV; dsimp only; rw [e]; rfl⟩
theorem bl_int {v:V} (h:isBlV v = true):isIntV v = false:=by cases v <;> first | rfl | cases h
theorem lk_no {v:V} {m:Str} (e:(m == ("prime":Str)) = false):([(("prime":Str),v)]:List (Str × V)).lookup m = none:=by simp [List.lookup,e]
theorem gcd_step (m n:Nat):Nat.gcd n (m % n) = Nat.gcd m n:=by rw [Nat.gcd_comm n,← Nat.gcd_rec,Nat.gcd_comm]
theorem abs_nat (a:Int):(if a < 0 then -a else a) = (a.natAbs:Int):=by split <;> omega
def lowG (a b:Int):Int:=if b < 0 then 0 - (Int.gcd a b:Int) else (Int.gcd a b:Int)
theorem gcd_pos {a b:Int} (h:b ≠ 0):0 < Int.gcd a b:=Nat.gcd_pos_of_pos_right _ (Int.natAbs_pos.mpr h)
theorem gcd_mid {a b:Int} (h:b ≠ 0) (m:Mid b):Int.gcd a b < 2 ^ 2048:=Nat.lt_of_le_of_lt (Nat.gcd_le_right _ (Int.natAbs_pos.mpr h)) m
theorem lowG_ok {a b:Int} (h:b ≠ 0) (m:Mid b):CDivM 0 (lowG a b):=by
  have h1:=gcd_pos (a:=a) h
  have h2:=gcd_mid (a:=a) h m
  unfold lowG
  refine ⟨by split <;> omega,?_⟩
  unfold Mid
  split
  · rw [show (0 - (Int.gcd a b:Int)).natAbs = Int.gcd a b by omega]; exact h2
  · rw [Int.natAbs_natCast]; exact h2
theorem Mid.of_lt {i:Int} (h1:-(10 ^ 70) < i) (h2:i < 10 ^ 70):Mid i:=by
  have h3:i.natAbs < 2 ^ 240:=by omega
  exact Nat.lt_of_lt_of_le h3 (Nat.pow_le_pow_right (by decide) (by decide))
def spWhole:Sp:=fun vs H Q _=>∃ v:V,vs = [v]∧Any H v∧Q (.bl (isIntV v)) H
def spGcd:Sp:=fun vs H Q _=>∃ a b:Int,vs = [.int a,.int b]∧Mid b∧Q (.int (Int.gcd a b:Int)) H
def spPrime:Sp:=fun vs H Q _=>∃ n:Int,vs = [.int n]∧2 ≤ n∧n ≤ 997∧Q (.bl (primeB n)) H
def spIsF:Sp:=fun vs H Q _=>∃ (p:Addr) (d:Td),vs = [.ref p]∧H p = some (.tup d.vs)∧Q (.bl d.isF) H
def spIsW:Sp:=fun vs H Q _=>∃ (p:Addr) (d:Td),vs = [.ref p]∧H p = some (.tup d.vs)∧Q (.bl d.isW) H
def spInit (C N:Addr):Sp:=fun vs H Q E=>∃ (x dx p:Addr) (d:Td),vs = [.ref x,.ref p]∧H x = some (.ins C dx [])∧H p = some (.tup d.vs)∧
  (d.good = true→Q .non (upd H x (.ins C dx [("prime",d.prime)])))∧(d.good = false→E (.ref N) none H)
def WorldAt (C:Addr) (H:Hp) (x:Addr) (q:Int):Prop:=∃ dx,H x = some (.ins C dx [("prime",if q = 0 then .non else .int q)])
theorem WorldAt.mono {C:Addr} {H H':Hp} {x:Addr} {q:Int} (h:WorldAt C H x q) (s:Same H H'):WorldAt C H' x q:=by
  obtain ⟨dx,e⟩:=h
  exact ⟨dx,s _ _ e⟩
def spPrimeN:Sp:=fun vs H Q _=>∃ c:Int,vs = [.int c]∧∀ (p:Int) (H':Hp),Same H H'→2 ≤ p→p ≤ 997→primeB p = true→Q (.int p) H'
def mixStep (m c:Int):Int:=(m * 69621 + c % 998244353 + 1) % 1000000007
def mixV (ns:List Int) (k:Int):Int:=
  let m:=(ns.take 7).foldl mixStep (1000003 * (k + 1))
  let m2:=m * m % 1000000007
  let m3:=(m2 + 7919 * k * k) * 48271 % 2147483647
  m3 * m3 % 2147483647 / 8
def drawV (ns:List Int) (k:Int):Int:=if k < ns.length then ns.getD k.toNat 0 % 10 ^ 40 else mixV ns k
theorem drawV_nonneg (ns:List Int) (k:Int):0 ≤ drawV ns k:=by
  unfold drawV
  split
  · exact Int.emod_nonneg _ (by decide)
  · unfold mixV
    exact Int.ediv_nonneg (Int.emod_nonneg _ (by decide)) (by decide)
theorem drawV_lt (ns:List Int) (k:Int):drawV ns k < 10 ^ 40:=by
  unfold drawV
  split
  · exact Int.emod_lt_of_pos _ (by decide)
  · unfold mixV
    have:∀ a:Int,a % 2147483647 / 8 < 10 ^ 40:=fun a=>by omega
    exact this _
def spDraw (K:PySem.W.Frag):Sp:=fun vs H Q _=>∃ (a:Addr) (ns:List Int) (k:Int),vs = [.ref a,.int k]∧SqL K H a (ns.map V.int)∧0 ≤ k∧k ≤ 1000000∧∀ H',Same H H'→Q (.int (drawV ns k)) H'
def spLaw (K:PySem.W.Frag):Sp:=fun vs H Q _=>∃ (a:Addr) (ns:List Int),vs = [.ref a]∧SqL K H a (ns.map V.int)∧ns.length ≤ 63∧∀ H',Q (.bl true) H'
def cmpL (v:Int) (i:Nat):List Bool:=((List.range i).filter fun e:Nat=>decide ((2 + (e:Int)) < v)).map fun e:Nat=>!decide (v % (2 + (e:Int)) = 0)
theorem cmpL_yes {v:Int} {i:Nat} (h:2 + (i:Int) < v):cmpL v (i + 1) = cmpL v i ++ [!decide (v % (2 + (i:Int)) = 0)]:=by
  unfold cmpL
  rw [List.range_succ,List.filter_append,List.map_append,List.filter_cons,if_pos (decide_eq_true h)]
  rfl
theorem cmpL_no {v:Int} {i:Nat} (h:¬ 2 + (i:Int) < v):cmpL v (i + 1) = cmpL v i:=by
  unfold cmpL
  rw [List.range_succ,List.filter_append,List.filter_cons,if_neg (by simpa using h)]
  simp
theorem cmpL_len (v:Int) (i:Nat):(cmpL v i).length ≤ i:=by
  unfold cmpL
  rw [List.length_map]
  exact Nat.le_trans (List.length_filter_le _ _) (by simp)
theorem cmpL_law (v:Int):(cmpL v 30).all id = lawB v:=by
  rw [Bool.eq_iff_iff]
  unfold cmpL
  rw [List.all_map,List.all_eq_true]
  constructor
  · intro h
    refine lawB_yes fun e h1 h2 h3=>?_
    have z:=h (e - 2).toNat (List.mem_filter.mpr ⟨List.mem_range.mpr (by omega),decide_eq_true (by omega)⟩)
    have e1:(2:Int) + ((e - 2).toNat:Int) = e:=by omega
    simp only [Function.comp_apply,id,e1,Bool.not_eq_true',decide_eq_false_iff_not] at z
    exact z
  · intro h k hk
    obtain ⟨k1,k2⟩:=List.mem_filter.mp hk
    have k1:=List.mem_range.mp k1
    have k2:=of_decide_eq_true k2
    simp only [Function.comp_apply,id,Bool.not_eq_true',decide_eq_false_iff_not]
    intro hm
    rw [lawB_no (d:=2 + (k:Int)) (by omega) (by omega) (by omega) hm] at h
    cases h
set_option maxRecDepth 100000 in
theorem prime_997:lawB 997 = true:=by decide +kernel
theorem cut_take (xs:List V) (k:Nat):cutV xs none (some (k:Int)) = xs.take k:=by
  unfold cutV
  rw [HT.sIx_none,HT.sIx_nat,List.drop_zero,Nat.sub_zero]
  rw [List.take_eq_take_iff]
  omega
end My
namespace My
theorem pos_part {u v:Int} (hu:0 < u) (h:0 < u * v):0 < v:=by
  by_cases z:0 < v
  · exact z
  · have y:=Int.mul_le_mul_of_nonneg_left (show v ≤ 0 by omega) (show 0 ≤ u by omega)
    rw [Int.mul_zero] at y
    omega
theorem cop_of {a b:Int} (h:∀ d:Nat,(d:Int) ∣ a→(d:Int) ∣ b→d = 1):Int.gcd a b = 1:=h _ (Int.gcd_dvd_left ..) (Int.gcd_dvd_right ..)
theorem cop_dvd {a b:Int} (h:Int.gcd a b = 1) {d:Nat} (h1:(d:Int) ∣ a) (h2:(d:Int) ∣ b):d = 1:=by
  have z:(d:Int) ∣ ((Int.gcd a b:Nat):Int):=Int.dvd_coe_gcd h1 h2
  rw [h] at z
  exact Nat.dvd_one.mp (Int.natCast_dvd_natCast.mp z)
theorem cut_dvd {a b c:Int} {d:Nat} (h:Int.gcd b c = 1) (h1:(d:Int) ∣ b) (h2:(d:Int) ∣ a * c):(d:Int) ∣ a:=by
  have hc:Nat.Coprime d c.natAbs:=by
    have z:Nat.Coprime b.natAbs c.natAbs:=h
    exact Nat.Coprime.coprime_dvd_left (Int.ofNat_dvd_left.mp h1) z
  have z:d ∣ a.natAbs * c.natAbs:=by
    rw [← Int.natAbs_mul]
    exact Int.ofNat_dvd_left.mp h2
  exact Int.ofNat_dvd_left.mpr (hc.dvd_of_dvd_mul_right z)
theorem cop_mul {a b c:Int} (h1:Int.gcd a b = 1) (h2:Int.gcd a c = 1):Int.gcd a (b * c) = 1:=by
  refine cop_of fun d x y=>?_
  exact cop_dvd h1 x (cut_dvd (a:=b) (b:=a) (c:=c) h2 x y)
theorem cop_comm {a b:Int} (h:Int.gcd a b = 1):Int.gcd b a = 1:=by rw [Int.gcd_comm]; exact h
theorem cop_part {a b c:Int} (h:Int.gcd a b = 1) (h1:c ∣ a):Int.gcd c b = 1:=cop_of fun d x y=>cop_dvd h (Int.dvd_trans x h1) y
theorem cop_over {a b:Int} (h:b ≠ 0):Int.gcd (a / (Int.gcd a b:Int)) (b / (Int.gcd a b:Int)) = 1:=by
  have z:0 < Int.gcd a b:=Nat.gcd_pos_of_pos_right _ (Int.natAbs_pos.mpr h)
  exact Int.gcd_ediv_gcd_ediv_gcd z
structure Low (x m:Int):Prop where
  pos:1 ≤ m
  cop:Int.gcd x m = 1
theorem low_times {x m y n:Int} (a:Low x m) (b:Low y n) :
    Low ((x / (Int.gcd x n:Int)) * (y / (Int.gcd y m:Int))) ((m / (Int.gcd y m:Int)) * (n / (Int.gcd x n:Int)))∧
      (x / (Int.gcd x n:Int)) * (y / (Int.gcd y m:Int)) * (m * n) = x * y * ((m / (Int.gcd y m:Int)) * (n / (Int.gcd x n:Int))):=by
  have m0:=a.pos
  have n0:=b.pos
  have p1:0 < Int.gcd x n:=Nat.gcd_pos_of_pos_right _ (Int.natAbs_pos.mpr (by omega))
  have p2:0 < Int.gcd y m:=Nat.gcd_pos_of_pos_right _ (Int.natAbs_pos.mpr (by omega))
  have c1:=cop_over (a:=x) (b:=n) (by omega)
  have c2:=cop_over (a:=y) (b:=m) (by omega)
  obtain ⟨x',ex⟩:=Int.gcd_dvd_left (a:=x) (b:=n)
  obtain ⟨n',en⟩:=Int.gcd_dvd_right (a:=x) (b:=n)
  obtain ⟨y',ey⟩:=Int.gcd_dvd_left (a:=y) (b:=m)
  obtain ⟨m',em⟩:=Int.gcd_dvd_right (a:=y) (b:=m)
  have ac:=a.cop
  have bc:=b.cop
  generalize Int.gcd x n = g at *
  generalize Int.gcd y m = k at *
  have g0:(g:Int) ≠ 0:=by omega
  have k0:(k:Int) ≠ 0:=by omega
  have gx:x / (g:Int) = x':=by rw [ex]; exact Int.mul_ediv_cancel_left _ g0
  have gn:n / (g:Int) = n':=by rw [en]; exact Int.mul_ediv_cancel_left _ g0
  have gy:y / (k:Int) = y':=by rw [ey]; exact Int.mul_ediv_cancel_left _ k0
  have gm:m / (k:Int) = m':=by rw [em]; exact Int.mul_ediv_cancel_left _ k0
  rw [gx,gn] at c1
  rw [gy,gm] at c2
  rw [gx,gn,gy,gm]
  have mp:0 < m':=by
    have z:0 < (k:Int) * m':=by rw [← em]; omega
    exact pos_part (by omega) z
  have np:0 < n':=by
    have z:0 < (g:Int) * n':=by rw [← en]; omega
    exact pos_part (by omega) z
  have xm:Int.gcd x' m' = 1:=cop_part (cop_comm (cop_part (cop_comm ac) ⟨k,by rw [em,Int.mul_comm]⟩)) ⟨g,by rw [ex,Int.mul_comm]⟩
  have yn:Int.gcd y' n' = 1:=cop_part (cop_comm (cop_part (cop_comm bc) ⟨g,by rw [en,Int.mul_comm]⟩)) ⟨k,by rw [ey,Int.mul_comm]⟩
  refine ⟨⟨Int.mul_pos mp np,?_⟩,?_⟩
  · exact cop_mul (cop_comm (cop_mul (cop_comm xm) (cop_comm c2))) (cop_comm (cop_mul (cop_comm c1) (cop_comm yn)))
  · rw [ex,en,ey,em]
    simp only [Int.mul_assoc,Int.mul_comm,Int.mul_left_comm]
theorem low_plus1 {x m y n:Int} (a:Low x m) (b:Low y n) (h:Int.gcd m n = 1):Low (x * n + y * m) (m * n):=by
  have m0:=a.pos
  have n0:=b.pos
  refine ⟨Int.mul_pos (by omega) (by omega),cop_mul (cop_of fun d h1 h2=>?_) (cop_of fun d h1 h2=>?_)⟩
  · have z:(d:Int) ∣ x * n:=(Int.dvd_add_left (Int.dvd_trans h2 (Int.dvd_mul_left ..))).mp h1
    exact cop_dvd a.cop (cut_dvd h h2 z) h2
  · have z:(d:Int) ∣ y * m:=(Int.dvd_add_right (Int.dvd_trans h2 (Int.dvd_mul_left ..))).mp h1
    exact cop_dvd b.cop (cut_dvd (cop_comm h) h2 z) h2
theorem low_plus2 {x m y n:Int} (a:Low x m) (b:Low y n) (g k:Nat) (eg:g = Int.gcd m n) (top:Int) (et:top = x * (n / (g:Int)) + y * (m / (g:Int))) (ek:k = Int.gcd top (g:Int)) :
    Low (top / (k:Int)) (m / (g:Int) * (n / (k:Int)))∧top / (k:Int) * (m * n) = (x * n + y * m) * (m / (g:Int) * (n / (k:Int))):=by
  have m0:=a.pos
  have n0:=b.pos
  have gp:0 < g:=by rw [eg]; exact Nat.gcd_pos_of_pos_right _ (Int.natAbs_pos.mpr (by omega))
  have kp:0 < k:=by rw [ek]; exact Nat.gcd_pos_of_pos_right _ (Int.natAbs_pos.mpr (by omega))
  have c1:=cop_over (a:=m) (b:=n) (by omega)
  have c2:=cop_over (a:=top) (b:=(g:Int)) (by omega)
  rw [← eg] at c1
  rw [← ek] at c2
  obtain ⟨m',em⟩:=Int.gcd_dvd_left (a:=m) (b:=n)
  obtain ⟨n',en⟩:=Int.gcd_dvd_right (a:=m) (b:=n)
  obtain ⟨t',e1⟩:=Int.gcd_dvd_left (a:=top) (b:=(g:Int))
  obtain ⟨g',e2⟩:=Int.gcd_dvd_right (a:=top) (b:=(g:Int))
  rw [← eg] at em en
  rw [← ek] at e1 e2
  have g0:(g:Int) ≠ 0:=by omega
  have k0:(k:Int) ≠ 0:=by omega
  have dm:m / (g:Int) = m':=by rw [em]; exact Int.mul_ediv_cancel_left _ g0
  have dn:n / (g:Int) = n':=by rw [en]; exact Int.mul_ediv_cancel_left _ g0
  have dt:top / (k:Int) = t':=by rw [e1]; exact Int.mul_ediv_cancel_left _ k0
  have dg:(g:Int) / (k:Int) = g':=by rw [e2]; exact Int.mul_ediv_cancel_left _ k0
  have dk:n / (k:Int) = g' * n':=by rw [en,e2,Int.mul_assoc]; exact Int.mul_ediv_cancel_left _ k0
  rw [dm,dn] at c1 et
  rw [dt,dg] at c2
  rw [dt,dm,dk]
  have pos:∀ {u v:Int},0 < u→0 < u * v→0 < v:=fun hu hz=>pos_part hu hz
  have mp:0 < m':=pos (u:=(g:Int)) (by omega) (by rw [← em]; omega)
  have np:0 < n':=pos (u:=(g:Int)) (by omega) (by rw [← en]; omega)
  have g'p:0 < g':=pos (u:=(k:Int)) (by omega) (by rw [← e2]; omega)
  have tm:Int.gcd top m' = 1:=cop_of fun d h1 h2=>by
    rw [et] at h1
    have z:(d:Int) ∣ x * n':=(Int.dvd_add_left (Int.dvd_trans h2 (Int.dvd_mul_left ..))).mp h1
    exact cop_dvd a.cop (cut_dvd c1 h2 z) (Int.dvd_trans h2 ⟨g,by rw [em,Int.mul_comm]⟩)
  have tn:Int.gcd top n' = 1:=cop_of fun d h1 h2=>by
    rw [et] at h1
    have z:(d:Int) ∣ y * m':=(Int.dvd_add_right (Int.dvd_trans h2 (Int.dvd_mul_left ..))).mp h1
    exact cop_dvd b.cop (cut_dvd (cop_comm c1) h2 z) (Int.dvd_trans h2 ⟨g,by rw [en,Int.mul_comm]⟩)
  have tt:t' ∣ top:=⟨k,by rw [e1,Int.mul_comm]⟩
  refine ⟨⟨Int.mul_pos mp (Int.mul_pos g'p np),cop_mul (cop_part tm tt) (cop_mul c2 (cop_part tn tt))⟩,?_⟩
  have q:(k:Int) * t' = x * n' + y * m':=by rw [← e1,et]
  have l:t' * (m * n) = (k:Int) * t' * (m' * (g' * n') * (g:Int)):=by
    rw [em,en]
    conv=>lhs; rw [show (g:Int) * n' = (k:Int) * g' * n' by rw [← e2]]
    simp only [Int.mul_assoc,Int.mul_comm,Int.mul_left_comm]
  rw [l,q,em,en]
  simp only [Int.add_mul,Int.mul_assoc,Int.mul_comm,Int.mul_left_comm]
end My
namespace My
open PySem L2
def Big (x:Int):Prop:=x.natAbs ≤ 10 ^ 300
theorem pow300:(10:Nat) ^ 300 < 2 ^ 2048:=by decide +kernel
theorem Big.mid {x:Int} (h:Big x):Mid x:=Nat.lt_of_le_of_lt h pow300
theorem Big.over {x g:Int} (h:Big x):Big (x / g):=Nat.le_trans (Int.natAbs_ediv_le_natAbs x g) h
theorem Big.neg {x:Int} (h:Big x):Big (-x):=by unfold Big; rw [Int.natAbs_neg]; exact h
theorem Big.gcd {x y:Int} (h:Big y) (z:y ≠ 0):Big (Int.gcd x y:Int):=by
  unfold Big
  rw [Int.natAbs_natCast]
  exact Nat.le_trans (Nat.gcd_le_right _ (Int.natAbs_pos.mpr z)) h
theorem gcd_pos' {x y:Int} (z:y ≠ 0):(0:Int) < (Int.gcd x y:Int):=by
  have:=gcd_pos (a:=x) z
  omega
def spRPlus:Sp:=fun vs H Q _=>∃ (p q:Addr) (x m y n:Int),vs = [.ref p,.ref q]∧H p = some (.tup [.int x,.int m])∧H q = some (.tup [.int y,.int n])∧Low x m∧Low y n∧Big x∧Big m∧Big y∧Big n∧
  ∀ (r:Addr) (H':Hp) (u d:Int),Same H H'→H' r = some (.tup [.int u,.int d])→Low u d→u * (m * n) = (x * n + y * m) * d→Q (.ref r) H'
def spRMinus:Sp:=fun vs H Q _=>∃ (p q:Addr) (x m y n:Int),vs = [.ref p,.ref q]∧H p = some (.tup [.int x,.int m])∧H q = some (.tup [.int y,.int n])∧Low x m∧Low y n∧Big x∧Big m∧Big y∧Big n∧
  ∀ (r:Addr) (H':Hp) (u d:Int),Same H H'→H' r = some (.tup [.int u,.int d])→Low u d→u * (m * n) = (x * n - y * m) * d→Q (.ref r) H'
def spRTimes:Sp:=fun vs H Q _=>∃ (p q:Addr) (x m y n:Int),vs = [.ref p,.ref q]∧H p = some (.tup [.int x,.int m])∧H q = some (.tup [.int y,.int n])∧Low x m∧Low y n∧Big x∧Big m∧Big y∧Big n∧
  ∀ (r:Addr) (H':Hp) (u d:Int),Same H H'→H' r = some (.tup [.int u,.int d])→Low u d→u * (m * n) = x * y * d→Q (.ref r) H'
theorem Low.neg {x m:Int} (h:Low x m):Low (-x) m:=⟨h.pos,by rw [Int.neg_gcd]; exact h.cop⟩
def spArith (C:Addr) (fr:Int→Int→Int→Int→Int) (rm:Int→Int→Int):Sp:=fun vs H Q _=>∃ (z:Addr) (q:Int) (v u:V),vs = [.ref z,v,u]∧WorldAt C H z q∧
  ((q = 0∧∃ (p r:Addr) (x m y n:Int),v = .ref p∧u = .ref r∧H p = some (.tup [.int x,.int m])∧H r = some (.tup [.int y,.int n])∧Low x m∧Low y n∧Big x∧Big m∧Big y∧Big n∧
    ∀ (r':Addr) (H':Hp) (a d:Int),Same H H'→H' r' = some (.tup [.int a,.int d])→Low a d→a * (m * n) = fr x m y n * d→Q (.ref r') H') ∨
   (2 ≤ q∧∃ i j:Int,v = .int i∧u = .int j∧0 ≤ i∧i < 1000∧Q (.int (rm i j % q)) H))
def WheelN (p:Int):Prop:=p = 0 ∨ (2 ≤ p∧p ≤ 997∧primeB p = true)
def spWheel:Sp:=fun vs H Q _=>∃ c:Int,vs = [.int c]∧∀ (p:Int) (H':Hp),Same H H'→WheelN p→Q (.int p) H'
def spWorld (C:Addr):Sp:=fun vs H Q _=>∃ p:Int,vs = [.int p]∧WheelN p∧∀ (z:Addr) (H':Hp),Same H H'→WorldAt C H' z p→Q (.ref z) H'
inductive NumAt (B:Nat) (H:Hp):Int→V→Int→Int→Prop where
  | frac {p:Addr} {x m:Int} (e:H p = some (.tup [.int x,.int m])) (l:Low x m) (bx:x.natAbs ≤ B) (bm:m.natAbs ≤ B):NumAt B H 0 (.ref p) x m
  | rem {q i:Int} (h0:0 ≤ i) (h1:i < q) (h2:q ≤ 997):NumAt B H q (.int i) i 1
theorem NumAt.mono {B:Nat} {H H':Hp} {q:Int} {v:V} {x m:Int} (h:NumAt B H q v x m) (s:Same H H'):NumAt B H' q v x m:=by
  cases h with
  | frac e l bx bm=>exact .frac (s _ _ e) l bx bm
  | rem h0 h1 h2=>exact .rem h0 h1 h2
theorem low_of {a b:Int} (h:1 ≤ b):∃ u d:Int,a.fdiv (lowG a b) = u∧b.fdiv (lowG a b) = d∧Low u d∧u.natAbs ≤ a.natAbs∧d.natAbs ≤ b.natAbs:=by
  have hp:=gcd_pos (a:=a) (b:=b) (by omega)
  have e:lowG a b = (Int.gcd a b:Int):=by unfold lowG; rw [if_neg (by omega)]
  rw [e]
  refine ⟨a / (Int.gcd a b:Int),b / (Int.gcd a b:Int),Int.fdiv_eq_ediv_of_nonneg _ (by omega),Int.fdiv_eq_ediv_of_nonneg _ (by omega),⟨?_,cop_over (by omega)⟩,Int.natAbs_ediv_le_natAbs ..,Int.natAbs_ediv_le_natAbs ..⟩
  obtain ⟨b',eb⟩:=Int.gcd_dvd_right (a:=a) (b:=b)
  have z : b / (Int.gcd a b : Int) = b' := by conv => lhs; lhs; rw [eb]
                                              exact Int.mul_ediv_cancel_left _ (by omega)
  rw [z]
  exact pos_part (u:=(Int.gcd a b:Int)) (by omega) (by rw [← eb]; omega)
theorem low_le {u d T B:Int} (l:Low u d) (hB:0 < B) (e:u * B = T * d):d ≤ B∧u.natAbs ≤ T.natAbs:=by
  have h0:=l.pos
  have hd:d ∣ B:=by
    have z:((d.natAbs:Nat):Int) ∣ B:=cut_dvd (a:=B) (b:=d) (c:=u) (cop_comm l.cop) (Int.natAbs_dvd.mpr (Int.dvd_refl d)) ⟨T * (d / (d.natAbs:Int)),by
      have q:(d.natAbs:Int) = d:=by omega
      rw [q,Int.ediv_self (by omega),Int.mul_one,Int.mul_comm B u,e,Int.mul_comm]⟩
    exact Int.natAbs_dvd.mp z
  have hle:=Int.le_of_dvd hB hd
  refine ⟨hle,?_⟩
  have z:u.natAbs * B.natAbs = T.natAbs * d.natAbs:=by rw [← Int.natAbs_mul,e,Int.natAbs_mul]
  have z2:T.natAbs * d.natAbs ≤ T.natAbs * B.natAbs:=Nat.mul_le_mul_left _ (by omega)
  rw [← z] at z2
  exact Nat.le_of_mul_le_mul_right z2 (by omega)
end My
namespace My
theorem prime_cop {q b:Int} (h1:2 ≤ q) (h2:q ≤ 997) (hp:primeB q = true) (b1:1 ≤ b) (b2:b < q):Int.gcd q b = 1:=by
  have gp:0 < Int.gcd q b:=Nat.gcd_pos_of_pos_right _ (Int.natAbs_pos.mpr (by omega))
  by_cases g1:Int.gcd q b = 1
  · exact g1
  exfalso
  obtain ⟨k,ek⟩:=Int.gcd_dvd_left (a:=q) (b:=b)
  have hb:=Int.le_of_dvd (by omega) (Int.gcd_dvd_right (a:=q) (b:=b))
  generalize Int.gcd q b = g at *
  have kp:0 < k:=pos_part (u:=(g:Int)) (by omega) (by rw [← ek]; omega)
  have k2:k ≠ 1:=fun z=>by
    rw [z,Int.mul_one] at ek
    omega
  have no:∀ d:Int,2 ≤ d→d * d ≤ q→q % d = 0→False:=fun d x y z=>by
    rw [primeB_no h2 x y z] at hp
    cases hp
  by_cases c:(g:Int) ≤ k
  · exact no g (by omega) (by rw [ek]; exact Int.mul_le_mul_of_nonneg_left c (by omega)) (by rw [ek]; exact Int.mul_emod_right ..)
  · exact no k (by omega) (by rw [ek]; exact Int.mul_le_mul_of_nonneg_right (by omega) (by omega)) (by rw [ek]; exact Int.mul_emod_left ..)
structure Bond (q b last lt now nt:Int):Prop where
  l:∃ s,last = lt * b + s * q
  n:∃ s,now = nt * b + s * q
  cop:Int.gcd last now = 1
  pos:1 ≤ now
  less:now ≤ last
theorem Bond.step {q b last lt now nt:Int} (h:Bond q b last lt now nt) (h1:1 < now):Bond q b now nt (last - last / now * now) (lt - last / now * nt)∧last - last / now * now < now:=by
  obtain ⟨⟨s,es⟩,⟨r,er⟩,c,p,le⟩:=h
  have e:last - last / now * now = last % now:=by
    have z:=Int.emod_add_mul_ediv last now
    rw [Int.mul_comm] at z
    omega
  have lt1:=Int.emod_lt_of_pos last (show 0 < now by omega)
  have ge:=Int.emod_nonneg last (show now ≠ 0 by omega)
  have c':Int.gcd now (last % now) = 1:=cop_of fun d x y=>cop_dvd c (by
    have z:=Int.emod_add_mul_ediv last now
    rw [← z]
    exact Int.dvd_add y (Int.dvd_trans x (Int.dvd_mul_right ..))) x
  have nz:last % now ≠ 0:=fun z=>by
    rw [z,Int.gcd_zero_right] at c'
    omega
  refine ⟨⟨⟨r,er⟩,⟨s - last / now * r,?_⟩,by rw [e]; exact c',by omega,by omega⟩,by omega⟩
  generalize last / now = f
  rw [es,er,Int.sub_mul,Int.sub_mul,Int.mul_add,Int.mul_assoc,Int.mul_assoc]
  omega
theorem Bond.done {q b last lt nt:Int} (h:Bond q b last lt 1 nt) (hq:2 ≤ q):(nt % q * b) % q = 1:=by
  obtain ⟨s,e⟩:=h.n
  have z:nt * b = 1 + (-s) * q:=by rw [Int.neg_mul]; omega
  have y:nt % q * b % q = nt * b % q:=by rw [Int.mul_emod (nt % q) b,Int.emod_emod,← Int.mul_emod]
  rw [y,z,Int.add_mul_emod_self_right]
  exact Int.emod_eq_of_lt (by omega) (by omega)
theorem Bond.start {q b:Int} (h1:2 ≤ q) (h2:q ≤ 997) (hp:primeB q = true) (b1:1 ≤ b) (b2:b < q):Bond q b q 0 b 1:=
  ⟨⟨1,by omega⟩,⟨0,by omega⟩,prime_cop h1 h2 hp b1 b2,b1,by omega⟩
end My
namespace L2
open PySem PySem.Spec PyProof.Rows
end L2
namespace My
open PySem L2
def spBack (N:Addr):Sp:=fun vs H Q E=>∃ q b:Int,vs = [.int q,.int b]∧2 ≤ q∧q ≤ 997∧primeB q = true∧0 ≤ b∧b < q∧(b = 0→E (.ref N) none H)∧(b ≠ 0→∀ r:Int,0 ≤ r→r < q→(r * b) % q = 1→Q (.int r) H)
def spRemOver (N:Addr):Sp:=fun vs H Q E=>∃ q i j:Int,vs = [.int q,.int i,.int j]∧2 ≤ q∧q ≤ 997∧primeB q = true∧0 ≤ i∧i < q∧0 ≤ j∧j < q∧(j = 0→E (.ref N) none H)∧(j ≠ 0→∀ r:Int,0 ≤ r→r < q→(r * j) % q = i→Q (.int r) H)
theorem rem_over {q i j r:Int} (hq:2 ≤ q) (i0:0 ≤ i) (i1:i < q) (h:(r * j) % q = 1):(i * r % q * j) % q = i:=by
  have y:i * r % q * j % q = i * (r * j) % q:=by rw [Int.mul_emod (i * r % q) j,Int.emod_emod,← Int.mul_emod,Int.mul_assoc]
  rw [y,Int.mul_emod,h,Int.emod_eq_of_lt i0 i1,Int.mul_one,Int.emod_eq_of_lt i0 i1]
end My
namespace L2
open PySem PySem.Spec PyProof.Rows
structure FunD (K:PySem.W.Frag) (x qual:Str) (st:Stmt) (i:Int) (f:Addr) (fd:FuncData):Prop where
  ex:∃ (oc:Value) (od:Option Addr) (kV doc pm:Value) (an:Option Addr) (cdv ct:Value) (osl:Array (Option Value)) (dT:Addr) (tk:Tok) (oc':Value) (od':Option Addr) (n:Nat) (osl':Array (Option Value)),
    fd = PySem.W.fnOf x qual (defArgs st) (defBody st) (defScope st) (.ref dT) kV doc pm an cdv ct∧K.lookup f = some ⟨oc,od,.func fd,osl⟩∧PySem.W.codeIn K cdv qual = true∧K.lookup dT = some ⟨oc',od',.seq #[.int i tk] n,osl'⟩
  kp:PySem.W.keepIn K (.ref f) = true
section
variable {P:Program} {w:World} {K:PySem.W.Frag} {mg:Str→Option Value} {base:Heap}
theorem FunD.okX {x qual:Str} {st:Stmt} {i:Int} {f:Addr} {fd:FuncData} {N ps:List Str} {k:Nat} {sp:Sp} (F:FunD K x qual st i f fd) (S:FnScope N ps (defScope st)) (len:∀ vs H Q E,sp vs H Q E→vs.length = ps.length)
    (hbody:∀ (cdv:Value) (A:Around) (outer:List Env) (s:Shared) (H:Hp) (vs:List V) (Q:VK) (E:XK),Room k (A.deeper (envOfC qual (defScope st) s.heap.objs.size f cdv))→sp vs H Q E→
      Leaves (cxOf (CXF P w) P w K mg base N qual (defScope st) f cdv A outer s H E) E→
      ∃ t,PSs (cxOf (CXF P w) P w K mg base N qual (defScope st) f cdv A outer s H E) (defBody st) t∧t { nx:=fun _ H'=>Q .non H',rt:=Q } (start N vs) H):FnOk P w K mg base (CXF P w) (k + 1) f fd ps sp:=by
  obtain ⟨oc,od,kV,doc,pm,an,cdv,ct,osl,dT,tk,oc',od',n,osl',rfl,lk,hcd,ld⟩:=F.ex
  exact fn_of lk hcd S len fun A outer s H vs Q E hr hsp=>hbody cdv A outer s H vs Q E hr hsp ⟨rfl,rfl,rfl,rfl⟩
theorem fund_mk {x qual:Str} {st:Stmt} {i:Int} {f dT:Addr} {oc:Value} {od an:Option Addr} {osl:Array (Option Value)} {kV doc pm cdv ct:Value} {tk:Tok} {oc':Value} {od':Option Addr} {n:Nat} {osl':Array (Option Value)}
    (l:K.lookup f = some ⟨oc,od,.func (PySem.W.fnOf x qual (defArgs st) (defBody st) (defScope st) (.ref dT) kV doc pm an cdv ct),osl⟩)
    (c:PySem.W.codeIn K cdv qual = true) (k:PySem.W.keepIn K (.ref f) = true) (ld:K.lookup dT = some ⟨oc',od',.seq #[.int i tk] n,osl'⟩):FunD K x qual st i f (PySem.W.fnOf x qual (defArgs st) (defBody st) (defScope st) (.ref dT) kV doc pm an cdv ct):=
  ⟨⟨oc,od,kV,doc,pm,an,cdv,ct,osl,dT,tk,oc',od',n,osl',rfl,l,c,ld⟩,k⟩
theorem FunD.binds {x qual:Str} {st:Stmt} {i:Int} {f:Addr} {fd:FuncData} {ps:List Str} (F:FunD K x qual st i f fd)
    (h:∀ (s:Shared) (dT:Addr) (kV doc pm:Value) (an:Option Addr) (cdv ct:Value) (tk:Tok) (o:Obj) (n:Nat) (us:List Value),s.heap.get? dT = some o→o.data = .seq #[.int i tk] n→us.length = ps.length→
      BindsTo s (PySem.W.fnOf x qual (defArgs st) (defBody st) (defScope st) (.ref dT) kV doc pm an cdv ct) ⟨us,[]⟩ (ps.zip us)):Binds K fd ps []:=by
  obtain ⟨oc,od,kV,doc,pm,an,cdv,ct,osl,dT,tk,oc',od',n,osl',rfl,lk,hcd,ld⟩:=F.ex
  intro s us X hl
  rw [List.append_nil] at hl ⊢
  exact h s dT kV doc pm an cdv ct tk _ n us (X _ _ ld) rfl hl
theorem FunD.binds1 {x qual:Str} {st:Stmt} {i:Int} {f:Addr} {fd:FuncData} {ps:List Str} (F:FunD K x qual st i f fd)
    (h:∀ (s:Shared) (dT:Addr) (kV doc pm:Value) (an:Option Addr) (cdv ct:Value) (tk:Tok) (o:Obj) (n:Nat) (us:List Value),s.heap.get? dT = some o→o.data = .seq #[.int i tk] n→us.length + 1 = ps.length→
      BindsTo s (PySem.W.fnOf x qual (defArgs st) (defBody st) (defScope st) (.ref dT) kV doc pm an cdv ct) ⟨us,[]⟩ (ps.zip (us ++ [.int i tk]))):∃ v,Vals [V.int i] [v]∧Binds K fd ps [v]:=by
  obtain ⟨oc,od,kV,doc,pm,an,cdv,ct,osl,dT,tk,oc',od',n,osl',rfl,lk,hcd,ld⟩:=F.ex
  refine ⟨.int i tk,.cons ⟨tk,rfl⟩ .nil,fun s us X hl=>?_⟩
  exact h s dT kV doc pm an cdv ct tk _ n us (X _ _ ld) rfl (by simpa using hl)
theorem FunD.bindsK {x qual:Str} {st:Stmt} {i:Int} {f:Addr} {fd:FuncData} {ps:List Str} {y:Str} (F:FunD K x qual st i f fd)
    (h:∀ (s:Shared) (dT:Addr) (kV doc pm:Value) (an:Option Addr) (cdv ct:Value) (tk:Tok) (o:Obj) (n:Nat) (us ws:List Value),s.heap.get? dT = some o→o.data = .seq #[.int i tk] n→ws.length = 1→us.length + 1 = ps.length→
      BindsTo s (PySem.W.fnOf x qual (defArgs st) (defBody st) (defScope st) (.ref dT) kV doc pm an cdv ct) ⟨us,[y].zip ws⟩ (ps.zip (us ++ ws))) :
    ∀ (s:Shared) (us ws:List Value),K.In s.heap→ws.length = 1→us.length + 1 = ps.length→BindsTo s fd ⟨us,[y].zip ws⟩ (ps.zip (us ++ ws)):=by
  obtain ⟨oc,od,kV,doc,pm,an,cdv,ct,osl,dT,tk,oc',od',n,osl',rfl,lk,hcd,ld⟩:=F.ex
  intro s us ws X hw hl
  exact h s dT kV doc pm an cdv ct tk _ n us ws (X _ _ ld) rfl hw hl
end
section
variable {X:Cx} {CX:CXT} {k:Nat} {f C:Addr} {fd:FuncData} {ps:List Str} {y:Str} {sp:Sp} {E:XK} {m:Str} {pos apos kpos:Pos} {e e' o:Expr} {ta:TE} {t tk:TA}
end
end L2
namespace My
open PySem L2
def lowU (a b:Int):Int:=a.fdiv (lowG a b)
def lowD (a b:Int):Int:=b.fdiv (lowG a b)
theorem low_fd {a b:Int} (hb:b ≠ 0):Low (lowU a b) (lowD a b)∧lowU a b * b = a * lowD a b∧(lowU a b).natAbs ≤ a.natAbs∧(lowD a b).natAbs ≤ b.natAbs:=by
  have gp:=gcd_pos (a:=a) hb
  have c:=cop_over (a:=a) hb
  obtain ⟨a',ea⟩:=Int.gcd_dvd_left (a:=a) (b:=b)
  obtain ⟨b',eb⟩:=Int.gcd_dvd_right (a:=a) (b:=b)
  unfold lowU lowD lowG
  generalize Int.gcd a b = g at *
  have g0:(g:Int) ≠ 0:=by omega
  have ga:a / (g:Int) = a':=by rw [ea]; exact Int.mul_ediv_cancel_left _ g0
  have gb:b / (g:Int) = b':=by rw [eb]; exact Int.mul_ediv_cancel_left _ g0
  rw [ga,gb] at c
  have la:a'.natAbs ≤ a.natAbs:=by rw [← ga]; exact Int.natAbs_ediv_le_natAbs ..
  have lb:b'.natAbs ≤ b.natAbs:=by rw [← gb]; exact Int.natAbs_ediv_le_natAbs ..
  have cr:a' * b = a * b':=by rw [ea,eb]; simp only [Int.mul_assoc,Int.mul_comm,Int.mul_left_comm]
  by_cases h:b < 0
  · have d1:(0 - (g:Int)) ∣ a:=⟨-a',by rw [ea,Int.zero_sub,Int.neg_mul_neg]⟩
    have d2:(0 - (g:Int)) ∣ b:=⟨-b',by rw [eb,Int.zero_sub,Int.neg_mul_neg]⟩
    rw [if_pos h,Int.fdiv_eq_ediv_of_dvd d1,Int.fdiv_eq_ediv_of_dvd d2,Int.zero_sub,Int.ediv_neg,Int.ediv_neg,ga,gb]
    refine ⟨⟨?_,by rw [Int.neg_gcd,Int.gcd_neg]; exact c⟩,?_,?_,?_⟩
    · have z:0 < -b':=pos_part (u:=(g:Int)) (by omega) (by rw [Int.mul_neg,← eb]; omega)
      omega
    · rw [Int.neg_mul,Int.mul_neg,cr]
    · rw [Int.natAbs_neg]; exact la
    · rw [Int.natAbs_neg]; exact lb
  · rw [if_neg h,Int.fdiv_eq_ediv_of_dvd ⟨a',ea⟩,Int.fdiv_eq_ediv_of_dvd ⟨b',eb⟩,ga,gb]
    have z:0 < b':=pos_part (u:=(g:Int)) (by omega) (by rw [← eb]; omega)
    exact ⟨⟨by omega,c⟩,cr,la,lb⟩
theorem low_fd1 (a:Int):lowU a 1 = a∧lowD a 1 = 1:=by
  unfold lowU lowD lowG
  rw [Int.gcd_one_right,if_neg (by decide)]
  exact ⟨Int.fdiv_one a,Int.fdiv_one 1⟩
def spRatio (N:Addr):Sp:=fun vs H Q E=>∃ a b:Int,vs = [.int a,.int b]∧Mid b∧(b = 0→E (.ref N) none H)∧(b ≠ 0→∀ (r:Addr) (H':Hp),Same H H'→H' r = some (.tup [.int (lowU a b),.int (lowD a b)])→Q (.ref r) H')
def NoOv (q b:Int):Prop:=if q = 0 then b = 0 else b % q = 0
def OfAt (H:Hp) (q:Int) (v:V) (a b:Int):Prop:=
  (q = 0∧∃ r:Addr,v = .ref r∧H r = some (.tup [.int (lowU a b),.int (lowD a b)])) ∨ (2 ≤ q∧∃ r:Int,v = .int r∧0 ≤ r∧r < q∧(r * (b % q)) % q = a % q)
theorem OfAt.mono {H H':Hp} {q:Int} {v:V} {a b:Int} (h:OfAt H q v a b) (s:Same H H'):OfAt H' q v a b:=by
  rcases h with ⟨h,r,e,h2⟩ | h
  · exact .inl ⟨h,r,e,s _ _ h2⟩
  · exact .inr h
def spOf (C N:Addr):Sp:=fun vs H Q E=>∃ (z:Addr) (q a b:Int),vs = [.ref z,.int a,.int b]∧WorldAt C H z q∧WheelN q∧Mid b∧
  (NoOv q b→E (.ref N) none H)∧(¬ NoOv q b→∀ (v:V) (H':Hp),Same H H'→OfAt H' q v a b→Q v H')
end My
namespace L2
open PySem PySem.Spec PyProof.Rows
section
variable {X:Cx}
end
end L2
namespace My
open PySem L2
inductive IsN (H:Hp):Int→V→Int→Int→Prop where
  | frac {p:Addr} {u d t b:Int} (e:H p = some (.tup [.int u,.int d])) (l:Low u d) (hb:b ≠ 0) (h:u * b = t * d):IsN H 0 (.ref p) t b
  | rem {q r t b:Int} (q2:2 ≤ q) (h0:0 ≤ r) (h1:r < q) (g:Int.gcd q b = 1) (h:q ∣ r * b - t):IsN H q (.int r) t b
theorem IsN.mono {H H':Hp} {q:Int} {v:V} {t b:Int} (h:IsN H q v t b) (s:Same H H'):IsN H' q v t b:=by
  cases h with
  | frac e l hb h=>exact .frac (s _ _ e) l hb h
  | rem q2 h0 h1 g h=>exact .rem q2 h0 h1 g h
theorem NumAt.isN {B:Nat} {H:Hp} {q:Int} {v:V} {x m:Int} (h:NumAt B H q v x m) (hq:WheelN q):IsN H q v x m:=by
  cases h with
  | frac e l bx bm=>exact .frac e l (by have:=l.pos; omega) rfl
  | rem h0 h1 h2=>
    have q2:2 ≤ q:=(hq.resolve_left (by omega)).1
    exact .rem q2 h0 h1 (by rw [Int.gcd_one_right]) ⟨0,by omega⟩
theorem can_bd {u d t b:Int} (l:Low u d) (hb:b ≠ 0) (e:u * b = t * d):u.natAbs ≤ t.natAbs∧d.natAbs ≤ b.natAbs:=by
  have h3:=l.pos
  by_cases c:0 < b
  · obtain ⟨z1,z2⟩:=low_le l c e
    omega
  · have e':u * (-b) = (-t) * d:=by rw [Int.mul_neg,e,Int.neg_mul]
    obtain ⟨z1,z2⟩:=low_le l (show 0 < -b by omega) e'
    omega
theorem mul_cancel {a b c:Int} (h:c ≠ 0) (e:a * c = b * c):a = b:=Int.eq_of_mul_eq_mul_right h e
theorem cop_cong {q c t:Int} (h:Int.gcd q c = 1) (d:q ∣ c - t):Int.gcd q t = 1:=by
  refine cop_of fun e h1 h2=>cop_dvd h h1 ?_
  have z:=Int.dvd_add (Int.dvd_trans h1 d) h2
  rw [show c - t + t = c by omega] at z
  exact z
theorem dvd_cop {q a c:Int} (q2:2 ≤ q) (g:Int.gcd q c = 1) (d:q ∣ a * c):q ∣ a:=by
  have qq:((q.natAbs:Nat):Int) = q:=by omega
  have z:=cut_dvd (a:=a) (b:=q) (c:=c) (d:=q.natAbs) g (by rw [qq]; exact Int.dvd_refl q) (by rw [qq]; exact d)
  rw [qq] at z
  exact z
theorem mod_wit (a q:Int):∃ w,a % q + q * w = a:=⟨a / q,Int.emod_add_mul_ediv a q⟩
section
variable {C N z:Addr} {q:Int} {v u:V} {t b t' b':Int} {H:Hp} {Q:VK} {E:XK}
theorem plus_is (hw:WorldAt C H z q) (hq:WheelN q) (hv:IsN H q v t b) (hu:IsN H q u t' b') (b1:Big t) (b2:Big b) (b3:Big t') (b4:Big b')
    (k:∀ (v':V) (H':Hp),Same H H'→IsN H' q v' (t * b' + t' * b) (b * b')→Q v' H'):spArith C (fun x m y n=>x * n + y * m) (fun i j=>i + j) [.ref z,v,u] H Q E:=by
  refine ⟨z,q,v,u,rfl,hw,?_⟩
  cases hv with
  | frac e l hb h=>
    cases hu with
    | frac e' l' hb' h'=>
      rename_i p x m p' y n
      obtain ⟨c1,c2⟩:=can_bd l hb h
      obtain ⟨c3,c4⟩:=can_bd l' hb' h'
      refine .inl ⟨rfl,_,_,x,m,y,n,rfl,rfl,e,e',l,l',Nat.le_trans c1 b1,Nat.le_trans c2 b2,Nat.le_trans c3 b3,Nat.le_trans c4 b4,fun r' H' a d s' er la ea=>k _ H' s' (.frac er la (Int.mul_ne_zero hb hb') ?_)⟩
      have m0:=l.pos
      have n0:=l'.pos
      refine mul_cancel (c:=m * n) (Int.mul_ne_zero (by omega) (by omega)) ?_
      grind
    | rem q2 h0 h1 g h=>omega
  | rem q2 h0 h1 g h=>
    cases hu with
    | frac e' l' hb' h'=>omega
    | rem q2' h0' h1' g' h'=>
      rename_i i j
      have q3:q ≤ 997:=(hq.resolve_left (by omega)).2.1
      refine .inr ⟨q2,i,j,rfl,rfl,h0,by omega,k _ H (Same.refl H) (.rem q2 (Int.emod_nonneg _ (by omega)) (Int.emod_lt_of_pos _ (by omega)) (cop_mul g g') ?_)⟩
      obtain ⟨k1,e1⟩:=h
      obtain ⟨k2,e2⟩:=h'
      obtain ⟨w,ew⟩:=mod_wit (i + j) q
      exact ⟨k1 * b' + k2 * b - w * (b * b'),by grind⟩
theorem minus_is (hw:WorldAt C H z q) (hq:WheelN q) (hv:IsN H q v t b) (hu:IsN H q u t' b') (b1:Big t) (b2:Big b) (b3:Big t') (b4:Big b')
    (k:∀ (v':V) (H':Hp),Same H H'→IsN H' q v' (t * b' - t' * b) (b * b')→Q v' H'):spArith C (fun x m y n=>x * n - y * m) (fun i j=>i - j) [.ref z,v,u] H Q E:=by
  refine ⟨z,q,v,u,rfl,hw,?_⟩
  cases hv with
  | frac e l hb h=>
    cases hu with
    | frac e' l' hb' h'=>
      rename_i p x m p' y n
      obtain ⟨c1,c2⟩:=can_bd l hb h
      obtain ⟨c3,c4⟩:=can_bd l' hb' h'
      refine .inl ⟨rfl,_,_,x,m,y,n,rfl,rfl,e,e',l,l',Nat.le_trans c1 b1,Nat.le_trans c2 b2,Nat.le_trans c3 b3,Nat.le_trans c4 b4,fun r' H' a d s' er la ea=>k _ H' s' (.frac er la (Int.mul_ne_zero hb hb') ?_)⟩
      have m0:=l.pos
      have n0:=l'.pos
      refine mul_cancel (c:=m * n) (Int.mul_ne_zero (by omega) (by omega)) ?_
      grind
    | rem q2 h0 h1 g h=>omega
  | rem q2 h0 h1 g h=>
    cases hu with
    | frac e' l' hb' h'=>omega
    | rem q2' h0' h1' g' h'=>
      rename_i i j
      have q3:q ≤ 997:=(hq.resolve_left (by omega)).2.1
      refine .inr ⟨q2,i,j,rfl,rfl,h0,by omega,k _ H (Same.refl H) (.rem q2 (Int.emod_nonneg _ (by omega)) (Int.emod_lt_of_pos _ (by omega)) (cop_mul g g') ?_)⟩
      obtain ⟨k1,e1⟩:=h
      obtain ⟨k2,e2⟩:=h'
      obtain ⟨w,ew⟩:=mod_wit (i - j) q
      exact ⟨k1 * b' - k2 * b - w * (b * b'),by grind⟩
theorem times_is (hw:WorldAt C H z q) (hq:WheelN q) (hv:IsN H q v t b) (hu:IsN H q u t' b') (b1:Big t) (b2:Big b) (b3:Big t') (b4:Big b')
    (k:∀ (v':V) (H':Hp),Same H H'→IsN H' q v' (t * t') (b * b')→Q v' H'):spArith C (fun x m y n=>x * y) (fun i j=>i * j) [.ref z,v,u] H Q E:=by
  refine ⟨z,q,v,u,rfl,hw,?_⟩
  cases hv with
  | frac e l hb h=>
    cases hu with
    | frac e' l' hb' h'=>
      rename_i p x m p' y n
      obtain ⟨c1,c2⟩:=can_bd l hb h
      obtain ⟨c3,c4⟩:=can_bd l' hb' h'
      refine .inl ⟨rfl,_,_,x,m,y,n,rfl,rfl,e,e',l,l',Nat.le_trans c1 b1,Nat.le_trans c2 b2,Nat.le_trans c3 b3,Nat.le_trans c4 b4,fun r' H' a d s' er la ea=>k _ H' s' (.frac er la (Int.mul_ne_zero hb hb') ?_)⟩
      have m0:=l.pos
      have n0:=l'.pos
      refine mul_cancel (c:=m * n) (Int.mul_ne_zero (by omega) (by omega)) ?_
      grind
    | rem q2 h0 h1 g h=>omega
  | rem q2 h0 h1 g h=>
    cases hu with
    | frac e' l' hb' h'=>omega
    | rem q2' h0' h1' g' h'=>
      rename_i i j
      have q3:q ≤ 997:=(hq.resolve_left (by omega)).2.1
      refine .inr ⟨q2,i,j,rfl,rfl,h0,by omega,k _ H (Same.refl H) (.rem q2 (Int.emod_nonneg _ (by omega)) (Int.emod_lt_of_pos _ (by omega)) (cop_mul g g') ?_)⟩
      obtain ⟨k1,e1⟩:=h
      obtain ⟨k2,e2⟩:=h'
      obtain ⟨w,ew⟩:=mod_wit (i * j) q
      exact ⟨k1 * j * b' + t * k2 - w * (b * b'),by grind⟩
theorem no_ov {b:Int} (nz:¬ q ∣ b):¬ NoOv q b:=fun h=>nz (by
    unfold NoOv at h
    by_cases z:q = 0
    · rw [if_pos z] at h; rw [h]; exact Int.dvd_zero q
    · rw [if_neg z] at h; exact Int.dvd_of_emod_eq_zero h)
end
theorem NumAt.far {B:Nat} {H H':Hp} {q:Int} {v:V} {x m:Int} {D:Addr} {ys:List V} (h:NumAt B H q v x m) (eD:H D = some (.lst ys)) (k:∀ b o,b ≠ D→H b = some o→H' b = some o):NumAt B H' q v x m:=by
  cases h with
  | frac e l bx bm=>
    refine .frac (k _ _ (fun z=>?_) e) l bx bm
    rw [z,eD] at e
    cases e
  | rem h0 h1 h2=>exact .rem h0 h1 h2
end My
namespace L2
open PySem PySem.Spec PyProof.Rows
structure JSeq (J:It) (xs:List V) (H1:Hp):Prop where
  go:∀ i Hc,Same H1 Hc→i < xs.length→J.go i Hc
  yld:∀ i Hc x H',Same H1 Hc→J.yld i Hc x H'→H' = Hc∧(i < xs.length→xs[i]? = some x)
  stop:∀ i Hc,Same H1 Hc→xs.length ≤ i→J.stop i Hc
theorem jseq_list {K:PySem.W.Frag} {a:Addr} {xs:List V} {H1:Hp} (h:SqL K H1 a xs):JSeq (Itl K a) xs H1 where
  go:=fun i Hc s hi=>⟨xs,xs[i],s.seq h,by simp [hi]⟩
  yld:=fun i Hc x H' s y=>⟨y.1,fun _=>y.2 xs (s.seq h)⟩
  stop:=fun i Hc s hi=>⟨xs,s.seq h,hi⟩
theorem jseq_rng {lo:Int} {n:Nat} {H1:Hp}:JSeq (Itr lo n) ((List.range n).map fun i:Nat=>V.int (lo + (i:Int))) H1 where
  go:=fun i Hc s hi=>by
    have hi:i < n:=by simpa using hi
    exact hi
  yld:=fun i Hc x H' s y=>⟨y.1,fun hi=>by
    have hi:i < n:=by simpa using hi
    rw [y.2]
    simp [hi]⟩
  stop:=fun i Hc s hi=>by
    have hi:n ≤ i:=by simpa using hi
    exact hi
theorem same_but {H H':Hp} {D:Addr} {o:HO} (s:Same H H') (n:H D = none):Same H (upd H' D o):=fun b u e=>by
  rw [upd_ne (ne_of_none e n)]
  exact s b u e
theorem comp_seq {J:It} {xs:List V} {H1:Hp} {ρσ:St} {te:TE} {D:Addr} {Q:VK} (js:JSeq J xs H1) (nD:H1 D = none) (hn:xs.length < sizeLine)
    (P:Nat→V→Hp→Prop) (mono:∀ i y H H' ys,P i y H→H D = some (.lst ys)→(∀ b o,b ≠ D→H b = some o→H' b = some o)→P i y H')
    (step:∀ i x,xs[i]? = some x→∀ (Hc:Hp) (R:VK),Same H1 Hc→(∃ ys,Hc D = some (.lst ys))→(∀ y H3,Same Hc H3→P i y H3→R y H3)→te (some x :: ρσ) Hc R)
    (fin:∀ ys Hc,Same H1 Hc→ys.length = xs.length→(∀ i y,ys[i]? = some y→P i y Hc)→Hc D = some (.lst ys)→Q (.ref D) Hc) :
    ∃ W:Nat→Nat→List V→Hp→Prop,(∃ m,W 0 m [] (upd H1 D (.lst [])))∧
      ∀ i m ys Hc,W i m ys Hc→Hc D = some (.lst ys)∧((J.stop i Hc∧Q (.ref D) Hc) ∨ (J.go i Hc∧∀ x H',J.yld i Hc x H'→
        if true = true then te (some x :: ρσ) H' fun y H3=>H3 D = some (.lst ys)∧ys.length < sizeLine∧∃ m',m' < m∧W (i + 1) m' (ys ++ [y]) (upd H3 D (.lst (ys ++ [y]))) else ∃ m',m' < m∧W (i + 1) m' ys H')):=by
  refine ⟨fun i m ys Hc=>m = xs.length - i∧i ≤ xs.length∧Hc D = some (.lst ys)∧Same H1 Hc∧ys.length = i∧∀ j y,ys[j]? = some y→P j y Hc,⟨_,rfl,Nat.zero_le _,upd_same,same_but (Same.refl H1) nD,rfl,fun j y e=>by simp at e⟩,?_⟩
  rintro i m ys Hc ⟨rfl,hi,eD,sH,el,hP⟩
  refine ⟨eD,?_⟩
  by_cases hlt:i < xs.length
  · refine .inr ⟨js.go i Hc sH hlt,fun x H' hy=>?_⟩
    obtain ⟨rfl,hx⟩:=js.yld i Hc x H' sH hy
    rw [if_pos rfl]
    refine step i x (hx hlt) _ _ sH ⟨ys,eD⟩ fun y H3 s3 hp=>?_
    have e3:=s3 _ _ eD
    refine ⟨e3,by omega,xs.length - (i + 1),by omega,rfl,hlt,upd_same,same_but (sH.trans s3) nD,by simp [el],fun j y' e=>?_⟩
    have far:∀ b o,b ≠ D→H3 b = some o→upd H3 D (.lst (ys ++ [y])) b = some o:=fun b o nb e=>by rw [upd_ne nb]; exact e
    by_cases hj:j < i
    · have e':ys[j]? = some y':=by rw [List.getElem?_append_left (by omega)] at e; exact e
      refine mono j y' H' _ ys (hP j y' e') eD fun b o nb e=>?_
      exact far b o nb (s3 _ _ e)
    · have hj:j = i:=by
        have:=(List.getElem?_eq_some_iff.mp e).1
        simp at this
        omega
      subst hj
      have e':y' = y:=by rw [List.getElem?_append_right (by omega),el,Nat.sub_self] at e; simpa using e.symm
      subst e'
      exact mono _ _ H3 _ ys hp e3 far
  · have e:i = xs.length:=by omega
    subst e
    exact .inl ⟨js.stop _ Hc sH (Nat.le_refl _),fin ys Hc sH el hP eD⟩
theorem comp_of {wi:TI} {ρ:St→St} {te:TE} {σ:St} {H:Hp} {Q:VK} {xs:List V} (hwi:∀ R:It→Hp→Prop,(∀ J H1,Same H H1→JSeq J xs H1→R J H1)→wi σ H R) (hn:xs.length < sizeLine)
    (P:Addr→Nat→V→Hp→Prop) (mono:∀ D i y H H' ys,P D i y H→H D = some (.lst ys)→(∀ b o,b ≠ D→H b = some o→H' b = some o)→P D i y H')
    (step:∀ D i x,xs[i]? = some x→∀ (Hc:Hp) (R:VK),Same H Hc→(∃ ys,Hc D = some (.lst ys))→(∀ y H3,Same Hc H3→P D i y H3→R y H3)→te (some x :: ρ σ) Hc R)
    (fin:∀ D ys Hc,Same H Hc→ys.length = xs.length→(∀ i y,ys[i]? = some y→P D i y Hc)→Hc D = some (.lst ys)→Q (.ref D) Hc):tComp wi ρ (fun _ H Q=>Q true H) te σ H Q:=by
  refine hwi _ fun J H1 s1 js=>?_
  intro D nD
  exact comp_seq (ρσ:=ρ σ) (te:=te) (Q:=Q) js nD hn (P D) (mono D) (fun i x hx Hc R sc=>step D i x hx Hc R (s1.trans sc)) (fun ys Hc sc=>fin D ys Hc (s1.trans sc))
theorem asg_of {te:TE} {g:TG} {D:Ends} {σ:St} {H:Hp} (h:te σ H fun x H1=>g x σ H1 D.nx):tAsg te g D σ H:=h
theorem seq_of {a b:TS} {D:Ends} {σ:St} {H:Hp} (h:a { D with nx:=fun σ H=>b D σ H } σ H):tSeq a b D σ H:=h
end L2
namespace L2
open PySem PySem.Spec PyProof.Rows
section
variable {X:Cx} {N:List Str} {scope:Scope} {cl:List (Str × Addr)} {x:Str} {px pos:Pos} {iter elt:Expr} {ifs:List Expr} {wi:TI} {ρ:St→St} {tt:TT} {te:TE}
theorem ps_comp {y:Str} {py spos:Pos} {i0:Nat} (B:Blk X N scope cl x ρ) (hc:X.calm = true) (hN:X.N.Nodup) (hi0:X.N[i0]? = some y) (hy:Loc X.env.scope y) (hi:PI X (.Name x px) iter wi) (ht:∀ s₃ H₃ fp,PTs (X.blk N scope cl s₃ H₃ fp) ifs tt) (he:∀ s₃ H₃ fp,PE (X.blk N scope cl s₃ H₃ fp) elt te)
    (hsw:swapsWith (.ListComp elt [⟨.Name x px,iter,ifs,0⟩] scope pos) (some (.Name y py)) spos.line X.env = pure true:=by rfl) (hf:X.fn y = true ∨ X.env.scope.names.lookup y = some .local:=by first | exact .inl rfl | exact .inr rfl | assumption)
    (hs:∀ x,foldedSetIterable iter X.env x = pure x:=by intro _; rfl):PS X (.Assign [.Name y py] (.ListComp elt [⟨.Name x px,iter,ifs,0⟩] scope pos) spos) (tAsg (tComp wi ρ tt te) (gName i0)):=by
  intro pins s σ H D0 I h
  have h:tComp wi ρ tt te σ H (fun v H1=>D0.nx (σ.set i0 (some v)) H1):=h
  rw [exec_Assign_Name_used _ _ _ _ hsw]
  refine wpAny_bind (wpAny_standAt (wpAny_bind ?_))
  show wpAny _ X.A (do let _ ← comprehension (.ListComp elt [⟨.Name x px,iter,ifs,0⟩] scope pos) scope X.env _ (newList []) false (eval iter X.env) (some (assign (.Name y py) X.env))) _ _ s
  refine wpAny_bind (wpAny_mono (Q:=fun _ s'=>SP X pins D0 .next s') ?_ (fun _ s' hq=>wpAny_pure (wpAny_pure hq)) fun _ _ e=>e)
  refine wpAny_comprehension_free (use:=some (assign (.Name y py) X.env)) rfl hs B.clos B.kind B.names (thn (hi pins s σ H _ I h) fun v s1 h1=>thn h1 fun itv s2 h2=>?_)
  obtain ⟨it,fp,tn,J,H2,rfl,I2,T,st2,f2,q2⟩:=h2
  have nD:H2 s2.heap.objs.size = none:=I2.hok.fresh (Nat.le_refl _)
  obtain ⟨W,⟨m0,w0⟩,turn⟩:=q2 _ nD
  refine wpAny_newObj_type (wpAny_newFunctionEnv B.nocell (by intro y hy; simp at hy) (fun h₁ hns₁ hsb₁=>?_) B.kind)
  dsimp only at hns₁ hsb₁ ⊢
  generalize hD:s2.heap.objs.size = D at nD w0 turn hns₁ hsb₁ ⊢
  generalize hS3:({ s2 with heap:=s2.heap.push { cls:=.type "list",dict:=none,data:=.seq ([]:List Value).toArray } }:Shared) = s3
  have I3:Inv X pins σ (upd H2 D (.lst [])) s3:=by
    subst hD hS3
    exact I2.laid (t':=s2.toks) (fun b u e=>Heap.get?_push_of_some _ e) (Nat.le_refl _) ⟨Nat.zero_le _,[],_,.nil,Heap.get?_push_size _ rfl⟩
  have e3:s3.heap = s2.heap.push { cls:=.type "list",dict:=none,data:=.seq ([]:List Value).toArray }:=by rw [← hS3]
  have k23:∀ b o,s2.heap.get? b = some o→s3.heap.get? b = some o:=fun b o e=>by rw [e3]; exact Heap.get?_push_of_some _ e
  rw [← e3] at hns₁ hsb₁ ⊢
  have below:∀ b o,s3.heap.get? b = some o→b ≠ s3.heap.objs.size:=fun b o e=>Nat.ne_of_lt (Heap.lt_size e)
  have k34:∀ b o,s3.heap.get? b = some o→h₁.get? b = some o:=fun b o e=>hsb₁.extBut b o (below b o e) (Heap.get?_push_of_some _ e)
  have fpl:∀ b ∈ fp,∃ o,s2.heap.get? b = some o∧∀ v,o.data ≠ .cell v:=T.obj _ _ st2
  have nfD:∀ b ∈ fp,b ≠ D:=fun b hb z=>by
    obtain ⟨o,e,_⟩:=fpl b hb
    rw [z,← hD] at e
    exact absurd (Heap.lt_size e) (Nat.lt_irrefl _)
  have cl_of:∀ y c,cl.lookup y = some c→X.env.cells.lookup y = some c:=fun y c e=>B.sub (y,c) (PySem.mem_of_lookup e)
  have stkf:=I3.stkFree
  have okB:(X.blk N scope cl s3 (upd H2 D (.lst [])) fp).Ok:=by
    refine ⟨I.ok.mod,B.kind,I.ok.glob,I.ok.blt,Nat.le_refl _,fun a b c e1 e2=>I.ok.inj a b c (cl_of a c e1) (cl_of b c e2),fun y hy=>B.has y hy,(fun _ _ z _=>absurd z Bool.false_ne_true),(fun _=>I.ok.hd hc),I.ok.frames,.inl rfl,fun b hb=>⟨?_,fun y c e z=>?_⟩,fun b o e=>?_,Nat.le_trans I.ok.bsz I3.sz,fun b o e hb=>?_,fun b hb z=>?_,I3.stack,stkf⟩
    · obtain ⟨o,e,_⟩:=fpl b hb
      exact below b o (k23 b o e)
    · exact (f2 b hb).2.2.2.2.1 y c (cl_of y c e) z
    · exact I3.bs b o e
    · rcases (f2 b hb).2.2.2.1 with z | z
      · exact I.ok.noex b o e z
      · exact absurd (Nat.lt_of_lt_of_le (Heap.lt_size e) (Nat.le_trans I.ok.bsz z)) (Nat.lt_irrefl _)
    · rcases List.mem_cons.mp (I3.stkSub b z) with z | z
      · exact (f2 b hb).2.1 z
      · exact (f2 b hb).2.2.1 z
  have IB:∀ tk:Nat,Inv (X.blk N scope cl s3 (upd H2 D (.lst [])) fp) [] (none :: ρ σ) (upd H2 D (.lst [])) { s3 with heap:=h₁,toks:=tk }:=fun tk=>by
    refine ⟨okB,rfl,I3.bare,Un.kept k34,⟨_,hns₁,fun j y v e1 e2 e3=>?_⟩,fun y c e=>?_,?_,fun y c e=>I3.freeC y c (cl_of y c e),(fun p hp=>nomatch hp),I3.hok.kept k34,?_⟩
    · cases j with
      | zero=>cases e2
      | succ j=>
        obtain ⟨i,y',a1,a2,a3,a4,a5,a6⟩:=B.rho σ j v e2
        have e1':N[j + 1]? = some y:=e1
        rw [e1'] at a1
        cases a1
        obtain ⟨m,hn,hl⟩:=I3.loc
        obtain ⟨u,r,l⟩:=hl i y v a2 a3 a4
        refine ⟨u,r,.inr ⟨a6,?_⟩⟩
        obtain ⟨c,ec⟩:=B.has y a6
        rcases l with ⟨k,_⟩ | ⟨_,c',ec',z⟩
        · rcases a5 with q | q <;> (rw [k] at q; cases q)
        · have:=cl_of y c ec
          rw [this] at ec'
          cases ec'
          obtain ⟨o,ho,hd⟩:=z
          exact ⟨c,ec,o,k34 _ _ ho,hd⟩
    · obtain ⟨v,o,ho,hd⟩:=I3.cell y c (cl_of y c e)
      exact ⟨v,o,k34 _ _ ho,hd⟩
    · exact I3.hok.fresh (Nat.le_refl _)
    · show (none :: ρ σ).length = N.length
      rw [List.length_cons]
      exact B.len σ I.len
  have below3:∀ b o,s3.heap.get? b = some o→b ≠ s3.heap.objs.size:=below
  have fin:∀ {σ':St} {H':Hp} {s':Shared},Inv (X.blk N scope cl s3 (upd H2 D (.lst [])) fp) [] σ' H' s'→D0.nx (σ.set i0 (some (.ref D))) H'→compPost (model X.prog X.w) X.A X.xe (some (assign (.Name y py) X.env)) (fun _ s'=>SP X pins D0 .next s') (.ref D) s3.heap.objs.size (.ok .next) s':=fun {σ' H' s'} J q=>by
    obtain ⟨m,hn,_⟩:=J.loc
    have hn:s'.heap.Ns s3.heap.objs.size m:=hn
    have JC:H' s3.heap.objs.size = none:=J.free
    have u1:Un (frs X.stack) fp (upd H2 D (.lst [])) H' s3.heap s'.heap:=by
      refine ⟨fun b o e n hb hx=>J.base.keep b o e n hb hx,fun b o e n hb hx=>J.base.slot b o e n hb hx,J.base.free,fun b o e hx=>J.base.there b o e hx,J.base.tups,J.base.frzs,J.base.tbls⟩
    have IX:Inv X pins σ H' s':=I3.call' (ch:=fp) (J.os) u1 J.hok J.bare fun b hb=>by
      obtain ⟨g0,g1,g2,g3,g4,g5⟩:=f2 b hb
      exact ⟨g3,g1,g4,g5⟩
    have nl:X.env.locals ≠ s3.heap.objs.size:=by
      obtain ⟨m3,⟨o3,_,_,e3,_⟩,_⟩:=I3.loc
      exact below3 _ _ e3
    have nc:∀ z c,X.env.cells.lookup z = some c→c ≠ s3.heap.objs.size:=fun z c e=>by
      obtain ⟨v3,o3,e3,_⟩:=I3.cell z c e
      exact below3 _ _ e3
    refine wpAny_assign_Name (store_ok2 (v:=.ref D) IX hN hi0 hy rfl (fun s'' I'' hsb=>?_) hf)
    obtain ⟨a,hsb,ha⟩:=hsb
    have na:s3.heap.objs.size ≠ a:=by
      rcases ha with rfl | e
      · exact fun z=>nl z.symm
      · exact fun z=>nc _ _ e z.symm
    refine ⟨m,hn.sameBut hsb na,fun h' hs'=>⟨σ.set i0 (some (.ref D)),H',?_,q⟩⟩
    have u2:Un (frs X.stack) [s3.heap.objs.size] H' H' s''.heap h':=by
      refine ⟨fun b o e n hb hx=>(hs'.2 b (by simpa using hx)).trans e,fun b o e n hb hx=>⟨o.slots,(hs'.2 b (by simpa using hx)).trans e⟩,fun b o e n hx=>n,fun b o e hx=>⟨o,(hs'.2 b (by simpa using hx)).trans e⟩,fun b xs z=>z,fun b o u z=>z,fun b ps z=>⟨#[],by simpa using z⟩⟩
    have hokE:HOk X.prog X.w H' h':=fun b u e=>by
      refine (I''.hok b u e).stay (fun c v hc z=>(hs'.2 c fun y=>?_).trans z) (fun _ z=>z) fun _ _ z=>z
      have y':c = s3.heap.objs.size:=y
      rcases hc with hc | hc
      · rw [← hc,y',JC] at e
        cases e
      · rw [y',JC] at hc
        cases hc
    refine I''.call' (s':={ s'' with heap:=h' }) (ch:=[s3.heap.objs.size]) rfl u2 hokE I''.bare fun b hb=>?_
    have eb:b = s3.heap.objs.size:=by simpa using hb
    subst eb
    refine ⟨.inr I3.sz,fun z=>nl z.symm,fun z c e=>nc z c e,fun p hp=>?_⟩
    exact below3 _ _ (I3.pin p hp).1
  have stat:∀ {H':Hp},(∀ b ∈ fp,H' b = none)→∀ b ∈ fp,FpOk (X.blk N scope cl s3 (upd H2 D (.lst [])) fp) [] H' b:=fun hn b hb=>by
    refine ⟨hn b hb,?_,?_,.inl hb,fun y c e z=>(f2 b hb).2.2.2.2.1 y c (cl_of y c e) z,fun p hp=>nomatch hp⟩
    · obtain ⟨o,e,_⟩:=fpl b hb
      exact below b o (k23 b o e)
    · exact okB.exfs b hb
  have loop:∀ tk:Nat,codeAny (model X.prog X.w) X.A (.compLoop (.ListComp elt [⟨.Name x px,iter,ifs,0⟩] scope pos) 0 (.ref it) (.ref D) (compEnvC scope cl s3.heap.objs.size X.env))
      (compPost (model X.prog X.w) X.A X.xe (some (assign (.Name y py) X.env)) (fun _ s'=>SP X pins D0 .next s') (.ref D) s3.heap.objs.size) { s3 with heap:=h₁,toks:=tk }:=fun tk=>by
    refine codeAny_compLoop_tests (fun n s'=>∃ i ys o H',Inv (X.blk N scope cl s3 (upd H2 D (.lst [])) fp) [] (o :: ρ σ) H' s'∧tn i s'.heap∧(∀ b ∈ fp,H' b = none)∧W i n ys H') ?_ m0
      ⟨0,[],none,_,IB tk,T.keep _ _ _ st2 fun b hb o e=>k34 _ _ (k23 _ _ e),fun b hb=>by rw [upd_ne (nfD b hb)]; exact (f2 b hb).1,w0⟩
    rintro n s4 ⟨i,ys,o,H4,I4,st4,fr4,w4⟩
    obtain ⟨hD4,hturn⟩:=turn i n ys H4 w4
    rcases hturn with ⟨stop,qn⟩ | ⟨go,step⟩
    · refine wpAny_mono (T.done (X.blk N scope cl s3 (upd H2 D (.lst [])) fp) rfl rfl rfl hc i [] s4 _ H4 (fun _ _=>False) I4 (stat fr4) st4 stop) (fun r s5 ⟨hr,I5⟩=>?_) fun _ _ z=>z.elim
      subst hr
      exact fin I5 qn
    · refine wpAny_mono (T.item (X.blk N scope cl s3 (upd H2 D (.lst [])) fp) rfl rfl rfl hc i [] s4 _ H4 (fun _ _=>False) I4 (stat fr4) st4 go) (fun r s5 ⟨u,hr,h5⟩=>?_) fun _ _ z=>z.elim
      subst hr
      have z:letOwnedTupleGo (.Name x px) (.ref it) u = pure ():=rfl
      rw [z] at h5
      show wpAny _ _ ((pure ():Sem Unit) >>= fun _=>assign (.Name x px) (compEnvC scope cl s3.heap.objs.size X.env) u) _ _ s5
      refine wpAny_bind (wpAny_mono h5 (fun _ s5 ⟨y,H5,I5,r5,y5,st5,fr5⟩=>?_) fun _ _ z=>z.elim)
      have I5':=I5.pinned (stat fr5) (T.obj _ _ st5)
      have pg:PG (X.blk N scope cl s3 (upd H2 D (.lst [])) fp) (.Name x px) (gName 0):=pg_name (i:=0) B.nd B.n0 (.inl (lookup_relabel_local B.hx)) (.inr (lookup_relabel_local B.hx))
      have again:∀ {σ7:St} {H7:Hp} {s7:Shared},Inv (X.blk N scope cl s3 (upd H2 D (.lst [])) fp) ([] ++ pinsAt fp s5.heap) σ7 H7 s7→Inv (X.blk N scope cl s3 (upd H2 D (.lst [])) fp) [] σ7 H7 s7∧tn (i + 1) s7.heap∧∀ b ∈ fp,H7 b = none:=fun {σ7 H7 s7} I7=>by
        refine ⟨I7.unpinned,T.keep _ _ _ st5 fun b hb o e=>(I7.pin (b,o) (List.mem_append_right _ (List.mem_append_right _ (mem_pinsAt hb e)))).1,fun b hb=>?_⟩
        obtain ⟨o,e,d⟩:=T.obj _ _ st5 b hb
        exact (I7.pin (b,o) (List.mem_append_right _ (List.mem_append_right _ (mem_pinsAt hb e)))).2.1
      refine wpAny_mono (pg _ s5 _ H5 y u (fun σ2 H6=>σ2 = some y :: ρ σ∧H6 = H5) I5' r5 ⟨rfl,rfl⟩) (fun _ s6 ⟨σ6,H6,I6,q6⟩=>?_) fun _ _ z=>z.elim
      obtain ⟨rfl,rfl⟩:=q6
      have hstep:=step y _ y5
      have tests:∀ {tt':TT},PTs (X.blk N scope cl s3 (upd H2 D (.lst [])) fp) ifs tt'→∀ {R:Bool→Hp→Prop},tt' (some y :: ρ σ) H6 R→wpAny (model X.prog X.w) X.A
          (forIn ifs true fun c r=>if r = true then do let ok ← isTrue c (compEnvC scope cl s3.heap.objs.size X.env) (eval c (compEnvC scope cl s3.heap.objs.size X.env)); pure (ForInStep.yield ok) else pure (ForInStep.yield r))
          (fun ok s7=>∃ H7,Inv (X.blk N scope cl s3 (upd H2 D (.lst [])) fp) ([] ++ pinsAt fp s5.heap) (some y :: ρ σ) H7 s7∧R ok H7) (fun _ _=>False) s6:=fun {tt'} p {R} hR=>by
        cases p with
        | nil=>exact wpAny_tests_nil ⟨_,I6,hR⟩
        | one p=>exact wpAny_tests_one (p _ s6 _ _ _ I6 hR)
      refine wpAny_mono (tests (ht s3 _ fp) hstep) (fun ok s7 ⟨H7,I7,q7⟩=>?_) fun _ _ z=>z.elim
      cases ok with
      | false=>
        obtain ⟨m',hm',w7⟩:=q7
        obtain ⟨a1,a2,a3⟩:=again I7
        exact ⟨m',hm',i + 1,ys,_,H7,a1,a2,a3,w7⟩
      | true=>
        refine wpAny_mono (he s3 _ fp _ s7 _ H7 _ I7 q7) (fun ev s8 ⟨z,H8,I8,r8,hD8,hz,m',hm',w8⟩=>?_) fun _ _ z=>z.elim
        refine wpAny_mono (mt_append (X:=X.blk N scope cl s3 (upd H2 D (.lst [])) fp) _ s8 _ H8 (.ref D) [z] (.ref D) [ev] (fun _ H9=>H9 = upd H8 D (.lst (ys ++ [z]))) I8 rfl (.cons r8 .nil) ⟨D,ys,z,rfl,rfl,hD8,hz,rfl⟩) (fun _ s9 ⟨_,H9,I9,_,q9⟩=>?_) fun _ _ z=>z.elim
        subst q9
        obtain ⟨a1,a2,a3⟩:=again I9
        exact ⟨m',hm',i + 1,ys ++ [z],_,_,a1,a2,a3,w8⟩
  have start:=loop (s3.toks + ([]:List (Str × Value)).length)
  have es:({ s3 with heap:=h₁,toks:=s3.toks + ([]:List (Str × Value)).length }:Shared) = { s2 with heap:=h₁,toks:=s2.toks + ([]:List (Str × Value)).length }:=by rw [← hS3]
  rw [es] at start
  exact codeAny_compStart_list start (T.self _ 0 _ _ _ (T.keep _ _ _ st2 fun b hb o e=>k34 _ _ (k23 _ _ e)) start)
end
end L2
namespace L2
open PySem PySem.Spec PyProof.Rows
def Itz (K:PySem.W.Frag) (l1 l2:Addr):It:=
  ⟨fun i H=>∃ xs ys x y,SqL K H l1 xs∧SqL K H l2 ys∧xs[i]? = some x∧ys[i]? = some y,
   fun i H v H'=>∃ T x y,H T = none∧v = .ref T∧H' = upd H T (.tup [x,y])∧∀ xs ys,SqL K H l1 xs→SqL K H l2 ys→xs[i]? = some x∧ys[i]? = some y,
   fun i H=>∃ xs ys,SqL K H l1 xs∧SqL K H l2 ys∧(xs.length ≤ i ∨ ys.length ≤ i)⟩
theorem turn_zip {P:Program} {w:World} {K:PySem.W.Frag} {elts:List Expr} {k:Nat} {pos:Pos} {z TI TO i1 i2 l1 l2:Addr} (D:ZipApart z TI TO i1 i2 l1 l2):Turn P w K (.Tuple elts k pos) (Itz K l1 l2) [z,TI,TO,i1,i2] z
    (fun i h=>IsZip h z TI TO .none∧IsPair h TI (.ref i1) (.ref i2)∧(∃ a b,IsPair h TO a b)∧h.IsListIter i1 l1 i∧h.IsListIter i2 l2 i) where
  mem:=by simp
  obj:=fun i h st b hb=>by
    obtain ⟨hz,hTI,⟨a,c,hTO⟩,h1,h2⟩:=st
    simp only [List.mem_cons,List.not_mem_nil,or_false] at hb
    rcases hb with rfl | rfl | rfl | rfl | rfl
    · exact ⟨_,hz,fun v z=>by cases z⟩
    · exact ⟨_,hTI,fun v z=>by cases z⟩
    · exact ⟨_,hTO,fun v z=>by cases z⟩
    · obtain ⟨o,e,c,d⟩:=h1
      exact ⟨o,e,fun v z=>by rw [d] at z; cases z⟩
    · obtain ⟨o,e,c,d⟩:=h2
      exact ⟨o,e,fun v z=>by rw [d] at z; cases z⟩
  keep:=fun i h h' st k=>by
    obtain ⟨hz,hTI,⟨a,c,hTO⟩,h1,h2⟩:=st
    exact ⟨k _ (by simp) _ hz,k _ (by simp) _ hTI,⟨a,c,k _ (by simp) _ hTO⟩,h1.at fun o e=>k _ (by simp) o e,h2.at fun o e=>k _ (by simp) o e⟩
  item:=by
    intro X hP hw hK hc i pins s σ H E I hf st hg
    subst hP hw hK
    obtain ⟨hz,hTI,⟨a,c,hTO⟩,h1,h2⟩:=st
    obtain ⟨xs,ys,x,y,hq1,hq2,hx,hy⟩:=hg
    obtain ⟨its,rv,p,_⟩:=I.list hq1
    obtain ⟨jts,rv',p',_⟩:=I.list hq2
    obtain ⟨u,hu,ru⟩:=rv.get hx
    obtain ⟨u',hu',ru'⟩:=rv'.get hy
    refine wpAny_pyNext_zip_item D hz hTI hTO h1 h2 p.isList p'.isList (x:=u) (y:=u') (by simpa using hu) (by simpa using hu') fun h' g1 g2 g3 g4 g5 g6 g7=>⟨_,rfl,?_⟩
    refine wpAny_letOwnedTupleGo_zip g1 fun h'' q1 sb=>?_
    have hfr:H s.heap.objs.size = none:=I.hok.fresh (Nat.le_refl _)
    have lt:∀ b o,s.heap.get? b = some o→b ≠ s.heap.objs.size:=fun b o e=>Nat.ne_of_lt (Heap.lt_size e)
    have keep:∀ b o,b ∉ [z,TI,TO,i1,i2]→s.heap.get? b = some o→h''.get? b = some o:=fun b o nb e=>by
      simp only [List.mem_cons,List.not_mem_nil,or_false,not_or] at nb
      exact sb.extBut _ _ nb.1 (g7 b o nb.1 nb.2.2.1 nb.2.2.2.1 nb.2.2.2.2 e)
    have zlt:z ≠ s.heap.objs.size:=lt _ _ hz
    have pT:IsPair h'' s.heap.objs.size u u':=sb.extBut _ _ zlt.symm g5
    have upn:∀ {b:Addr} {o:HO} (e:H b = some o),upd H s.heap.objs.size (.tup [x,y]) b = some o:=fun e=>by rw [upd_ne (ne_of_none e hfr)]; exact e
    have hok:HOk X.prog X.w (upd H s.heap.objs.size (.tup [x,y])) h'':=fun b o e=>by
      by_cases hb:b = s.heap.objs.size
      · subst hb
        rw [upd_same] at e
        cases e
        exact ⟨by show 2 ≤ sizeLine; decide,[u,u'],.cons ru (.cons ru' .nil),⟨_,pT,rfl,_,rfl⟩⟩
      · rw [upd_ne hb] at e
        refine (I.hok b o e).stay (fun c v hc' q=>keep c v (fun m=>?_) q) (fun c q=>upn q) fun c xs q=>upn q
        have nn:=(hf c m).1
        rcases hc' with rfl | hc'
        · rw [nn] at e; cases e
        · rw [nn] at hc'; cases hc'
    have u1:Un (frs X.stack) [z,TI,TO,i1,i2] H (upd H s.heap.objs.size (.tup [x,y])) s.heap h'':=
      ⟨fun b o e n _ hx=>keep b o hx e,fun b o e n _ hx=>⟨o.slots,keep b o hx e⟩,fun b o e n hx=>by rw [upd_ne (lt b o e)]; exact n,fun b o e hx=>⟨o,keep b o hx e⟩,fun b xs e=>upn e,fun b o u e=>upn e,fun b ps e=>⟨#[],by rw [upn e]; simp⟩⟩
    refine ⟨.ref s.heap.objs.size,upd H s.heap.objs.size (.tup [x,y]),I.call' (s':={ s with heap:=h'' }) (ch:=[z,TI,TO,i1,i2]) rfl u1 hok I.bare (fun b hb=>?_),rfl,⟨_,x,y,hfr,rfl,rfl,fun as bs ha hb=>⟨by rw [I.list_inj ha hq1]; exact hx,by rw [I.list_inj hb hq2]; exact hy⟩⟩,?_,fun b hb=>?_⟩
    · obtain ⟨f0,f1,f2,f3,f4,f5⟩:=hf b hb
      exact ⟨f3,f1,f4,f5⟩
    · exact ⟨q1,sb.extBut _ _ D.TIz (g7 _ _ D.TIz D.TITO D.TIi1 D.TIi2 hTI),⟨_,_,sb.extBut _ _ D.TOz g2⟩,g3.extBut sb.extBut D.i1z,g4.extBut sb.extBut D.i2z⟩
    · have nb:b ≠ s.heap.objs.size:=by
        simp only [List.mem_cons,List.not_mem_nil,or_false] at hb
        rcases hb with rfl | rfl | rfl | rfl | rfl
        · exact lt _ _ hz
        · exact lt _ _ hTI
        · exact lt _ _ hTO
        · obtain ⟨o,e,_⟩:=h1; exact lt _ _ e
        · obtain ⟨o,e,_⟩:=h2; exact lt _ _ e
      rw [upd_ne nb]
      exact (hf b hb).1
  done:=by
    intro X hP hw hK hc i pins s σ H E I hf st hg
    subst hP hw hK
    obtain ⟨hz,hTI,⟨a,c,hTO⟩,h1,h2⟩:=st
    obtain ⟨xs,ys,hq1,hq2,hx⟩:=hg
    obtain ⟨its,rv,p,_⟩:=I.list hq1
    obtain ⟨jts,rv',p',_⟩:=I.list hq2
    have hl:=rv.length
    have hl':=rv'.length
    refine wpAny_pyNext_zip_end (I.ok.hd hc) D hz hTI hTO h1 h2 p.isList p'.isList (hx.imp (fun h=>by simp; omega) fun h=>by simp; omega) fun h' g=>⟨rfl,?_⟩
    have keep:∀ b o,b ∉ [z,TI,TO,i1,i2]→s.heap.get? b = some o→h'.get? b = some o:=fun b o nb e=>by
      simp only [List.mem_cons,List.not_mem_nil,or_false,not_or] at nb
      exact g b o nb.1 nb.2.2.1 nb.2.2.2.1 nb.2.2.2.2 e
    have hok:HOk X.prog X.w H h':=fun b o e=>by
      refine (I.hok b o e).stay (fun c v hc' q=>keep c v (fun m=>?_) q) (fun c q=>q) fun c xs q=>q
      have nn:=(hf c m).1
      rcases hc' with rfl | hc'
      · rw [nn] at e; cases e
      · rw [nn] at hc'; cases hc'
    have u1:Un (frs X.stack) [z,TI,TO,i1,i2] H H s.heap h':=
      ⟨fun b o e n _ hx=>keep b o hx e,fun b o e n _ hx=>⟨o.slots,keep b o hx e⟩,fun b o e n hx=>n,fun b o e hx=>⟨o,keep b o hx e⟩,fun b xs e=>e,fun b o u e=>e,fun b ps e=>⟨#[],by rw [e]; simp⟩⟩
    refine I.call' (s':={ s with heap:=h' }) (ch:=[z,TI,TO,i1,i2]) rfl u1 hok I.bare fun b hb=>?_
    obtain ⟨f0,f1,f2,f3,f4,f5⟩:=hf b hb
    exact ⟨f3,f1,f4,f5⟩
  self:=fun _ _ _ _ _ st h=>wpAny_pyIter_zip st.1 h
theorem boot_zip:bootBuiltins "zip" = some (.type "zip"):=by decide +kernel
def iZip (K:PySem.W.Frag) (ta:TA):TI:=fun σ H R=>ta σ H fun vs H1=>∃ l1 l2,vs = [.ref l1,.ref l2]∧(∃ xs,SqL K H1 l1 xs)∧(∃ ys,SqL K H1 l2 ys)∧R (Itz K l1 l2) H1
section
variable {X:Cx}
theorem pi_zip {elts:List Expr} {k:Nat} {tpos:Pos} {a b:Expr} {ta:TA} {p pos:Pos} (hg:Gl X "zip") (hm:X.mg "zip" = none) (ha:PA X [a,b] ta) (hs:starEach [a,b] X.env = [(false,eval a X.env),(false,eval b X.env)]:=by rfl) (hs2:starEach [b] X.env = [(false,eval b X.env)]:=by rfl) :
    PI X (.Tuple elts k tpos) (.Call (.Name "zip" p) [a,b] [] pos) (iZip X.K ta):=by
  intro pins s σ H R I h
  refine Call_ (ld_blt I hg hm boot_zip (PyProof.Rows.callWith_type1 (thn (ha pos pins s σ H _ I h) fun us s1 ⟨vs,H1,I1,r1,q1⟩=>?_) (by rw [hs,hs2]) (by rw [hs2]; rfl)))
  obtain ⟨l1,l2,e,⟨xs,hq1⟩,⟨ys,hq2⟩,q⟩:=q1
  subst e
  cases r1 with
  | cons r rr=>
    cases rr with
    | cons r' rr=>
      cases rr
      cases r
      cases r'
      obtain ⟨its,rv,p1,_⟩:=I1.list hq1
      obtain ⟨jts,rv',p2,_⟩:=I1.list hq2
      have b1:l1 < s1.heap.objs.size:=by obtain ⟨o,e,_⟩:=p1.isList; exact Heap.lt_size e
      have b2:l2 < s1.heap.objs.size:=by obtain ⟨o,e,_⟩:=p2.isList; exact Heap.lt_size e
      refine call_zip_2 p1.isList p2.isList fun h' z1 z2 z3 z4 z5 z6 z7=>?_
      refine wpAny_pyIter_zip (s:={ s1 with heap:=h' }) z1 ?_
      have D:ZipApart (s1.heap.objs.size + 4) (s1.heap.objs.size + 2) (s1.heap.objs.size + 3) s1.heap.objs.size (s1.heap.objs.size + 1) l1 l2:=by
        constructor <;> (intro h; have h:@Eq Nat _ _:=h; have b1:@LT.lt Nat _ l1 s1.heap.objs.size:=b1; have b2:@LT.lt Nat _ l2 s1.heap.objs.size:=b2; omega)
      refine ⟨_,_,_,_,H1,rfl,I1.kept (t':=s1.toks) z7,turn_zip D,⟨z1,z2,⟨_,_,z3⟩,z4,z5⟩,fun b hb=>?_,q⟩
      have le:s1.heap.objs.size ≤ b:=by
        simp only [List.mem_cons,List.not_mem_nil,or_false] at hb
        rcases hb with rfl | rfl | rfl | rfl | rfl
        · exact Nat.le_add_right ..
        · exact Nat.le_add_right ..
        · exact Nat.le_add_right ..
        · exact Nat.le_refl _
        · exact Nat.le_add_right ..
      exact I1.fpOk le (I1.hok.fresh le)
end
end L2
namespace L2
open PySem PySem.Spec PyProof.Rows
section
variable {prog:Program} {w:World} {A:Around} {R:Result→Shared→Prop} {s:Shared}
theorem compLoop_testsT {elt target iter:Expr} {ifs:List Expr} {scope:Scope} {pos:Pos} {it acc:Value} {env:Env} (I:Nat→Shared→Prop)
    (turn:∀ n s,I n s→wpAny (model prog w) A (pyNext it) (fun r s₁=>match r with
      | none=>R (.ok .next) s₁
      | some v=>wpAny (model prog w) A (letOwnedTupleGo target it v) (fun _ s₁=>wpAny (model prog w) A (assign target env v) (fun _ s₂=>
          wpAny (model prog w) A (forIn ifs true fun c r=>if r = true then do let ok ← isTrue c env (eval c env); pure (ForInStep.yield ok) else pure (ForInStep.yield r)) (fun ok s₃=>
            if ok = true then wpAny (model prog w) A (eval elt env) (fun x s₄=>
              wpAny (model prog w) A (call (.builtin "list.append") [acc,x]) (fun _ s₅=>∃ m,m < n∧I m s₅) (notedBy (model prog w) A env fun e s'=>R (.error e) s') s₄) (notedBy (model prog w) A env fun e s'=>R (.error e) s') s₃
            else ∃ m,m < n∧I m s₃) (notedBy (model prog w) A env fun e s'=>R (.error e) s') s₂) (notedBy (model prog w) A env fun e s'=>R (.error e) s') s₁) (notedBy (model prog w) A env fun e s'=>R (.error e) s') s₁) (notedBy (model prog w) A env fun e s'=>R (.error e) s') s)
    (n:Nat) (h:I n s):codeAny (model prog w) A (.compLoop (.ListComp elt [⟨target,iter,ifs,0⟩] scope pos) 0 it acc env) R s:=by
  refine codeAny_loop rfl I (fun n s hI=>?_) n h
  show wpAny _ A ((compTurn (.ListComp elt [⟨target,iter,ifs,0⟩] scope pos) 0 it acc env).onRaise (fun x=>do noteFrame x env; theTreesLotGoes x)) _ _ s
  refine wpAny_noted ?_
  rw [compTurn_list]
  refine wpAny_bind (wpAny_standAt (wpAny_bind (wpAny_mono (turn n s hI) (fun r s₁ h₁=>?_) fun _ _ h'=>h')))
  cases r with
  | none=>exact wpAny_pure h₁
  | some v=>
    refine wpAny_bind (wpAny_mono h₁ (fun _ s₁ h₁=>?_) fun _ _ h'=>h')
    refine wpAny_bind (wpAny_mono h₁ (fun _ s₂ h₂=>wpAny_bind (wpAny_mono h₂ (fun ok s₃ h₃=>?_) fun _ _ h'=>h')) fun _ _ h'=>h')
    cases ok with
    | false=>exact wpAny_pure ⟨rfl,h₃⟩
    | true=>
      exact wpAny_bind (wpAny_bind (wpAny_mono h₃ (fun x s₄ h₄=>wpAny_bind (wpAny_mono h₄ (fun _ s₅ h₅=>wpAny_pure (wpAny_pure ⟨rfl,h₅⟩)) fun _ _ h'=>h')) fun _ _ h'=>h'))
end
def tComp2 (K:PySem.W.Frag) (wi:TI) (ρ:St→St) (tt:TT) (te:TE):TE:=fun σ H Q=>wi σ H fun J H1=>∀ D,H1 D = none→∃ W:Nat→Nat→List V→Hp→Prop,(∃ m,W 0 m [] (upd H1 D (.lst [])))∧
  ∀ i m ys Hc,W i m ys Hc→Hc D = some (.lst ys)∧((J.stop i Hc∧Q (.ref D) Hc) ∨ (J.go i Hc∧∀ v H',J.yld i Hc v H'→∃ T x1 x2,v = .ref T∧SqT K H' T [x1,x2]∧tt (some x1 :: some x2 :: ρ σ) H' fun b H2=>
    if b = true then te (some x1 :: some x2 :: ρ σ) H2 fun y H3=>H3 D = some (.lst ys)∧ys.length < sizeLine∧∃ m',m' < m∧W (i + 1) m' (ys ++ [y]) (upd H3 D (.lst (ys ++ [y]))) else ∃ m',m' < m∧W (i + 1) m' ys H2))
section
variable {X:Cx} {N:List Str} {scope:Scope} {cl:List (Str × Addr)} {x y:Str} {px py pos tp:Pos} {tk0:Nat} {iter elt:Expr} {ifs:List Expr} {wi:TI} {ρ:St→St} {tt:TT} {te:TE}
structure Blk2 (X:Cx) (N:List Str) (scope:Scope) (cl:List (Str × Addr)) (x y:Str) (ρ:St→St):Prop where
  clos:closureFor scope X.env = pure cl
  kind:scope.kind = .function
  nocell:∀ y ∈ scope.names,y.2 ≠ .cell
  names:∀ y ∈ scope.names,y.2 = .local→scope.names.lookup y.1 = some .local
  sub:∀ p ∈ cl,X.env.cells.lookup p.1 = some p.2
  has:∀ y,((relabel scope X.env).names.lookup y = some .cell ∨ (relabel scope X.env).names.lookup y = some .free)→∃ c,cl.lookup y = some c
  n0:N[0]? = some x
  n1:N[1]? = some y
  nd:N.Nodup
  hx:scope.names.lookup x = some .local
  hy:scope.names.lookup y = some .local
  rho:∀ (σ:St) (j:Nat) (v:V),(ρ σ)[j]? = some (some v)→∃ (i:Nat) (y:Str),N[j + 1 + 1]? = some y∧X.N[i]? = some y∧σ[i]? = some (some v)∧Vis X.env.scope y∧(X.env.kindOf y = some .cell ∨ X.env.kindOf y = some .free)∧((relabel scope X.env).names.lookup y = some .cell ∨ (relabel scope X.env).names.lookup y = some .free)
  len:∀ σ:St,σ.length = X.N.length→(ρ σ).length + 1 + 1 = N.length
theorem pe_comp2 (B:Blk2 X N scope cl x y ρ) (hc:X.calm = true) (hi:PI X (.Tuple [.Name x px,.Name y py] tk0 tp) iter wi) (ht:∀ s₃ H₃ fp,PTs (X.blk N scope cl s₃ H₃ fp) ifs tt) (he:∀ s₃ H₃ fp,PE (X.blk N scope cl s₃ H₃ fp) elt te)
    (hs:∀ x,foldedSetIterable iter X.env x = pure x:=by intro _; rfl):PE X (.ListComp elt [⟨.Tuple [.Name x px,.Name y py] tk0 tp,iter,ifs,0⟩] scope pos) (tComp2 X.K wi ρ tt te):=by
  intro pins s σ H Q I h
  rw [eval_ListComp]
  refine wpAny_comprehension_free (use:=none) rfl hs B.clos B.kind B.names (thn (hi pins s σ H _ I h) fun v s1 h1=>thn h1 fun itv s2 h2=>?_)
  obtain ⟨it,fp,tn,J,H2,rfl,I2,T,st2,f2,q2⟩:=h2
  have nD:H2 s2.heap.objs.size = none:=I2.hok.fresh (Nat.le_refl _)
  obtain ⟨W,⟨m0,w0⟩,turn⟩:=q2 _ nD
  refine wpAny_newObj_type (wpAny_newFunctionEnv B.nocell (by intro y hy; simp at hy) (fun h₁ hns₁ hsb₁=>?_) B.kind)
  dsimp only at hns₁ hsb₁ ⊢
  generalize hD:s2.heap.objs.size = D at nD w0 turn hns₁ hsb₁ ⊢
  generalize hS3:({ s2 with heap:=s2.heap.push { cls:=.type "list",dict:=none,data:=.seq ([]:List Value).toArray } }:Shared) = s3
  have I3:Inv X pins σ (upd H2 D (.lst [])) s3:=by
    subst hD hS3
    exact I2.laid (t':=s2.toks) (fun b u e=>Heap.get?_push_of_some _ e) (Nat.le_refl _) ⟨Nat.zero_le _,[],_,.nil,Heap.get?_push_size _ rfl⟩
  have e3:s3.heap = s2.heap.push { cls:=.type "list",dict:=none,data:=.seq ([]:List Value).toArray }:=by rw [← hS3]
  have k23:∀ b o,s2.heap.get? b = some o→s3.heap.get? b = some o:=fun b o e=>by rw [e3]; exact Heap.get?_push_of_some _ e
  rw [← e3] at hns₁ hsb₁ ⊢
  have below:∀ b o,s3.heap.get? b = some o→b ≠ s3.heap.objs.size:=fun b o e=>Nat.ne_of_lt (Heap.lt_size e)
  have k34:∀ b o,s3.heap.get? b = some o→h₁.get? b = some o:=fun b o e=>hsb₁.extBut b o (below b o e) (Heap.get?_push_of_some _ e)
  have fpl:∀ b ∈ fp,∃ o,s2.heap.get? b = some o∧∀ v,o.data ≠ .cell v:=T.obj _ _ st2
  have nfD:∀ b ∈ fp,b ≠ D:=fun b hb z=>by
    obtain ⟨o,e,_⟩:=fpl b hb
    rw [z,← hD] at e
    exact absurd (Heap.lt_size e) (Nat.lt_irrefl _)
  have cl_of:∀ y c,cl.lookup y = some c→X.env.cells.lookup y = some c:=fun y c e=>B.sub (y,c) (PySem.mem_of_lookup e)
  have stkf:=I3.stkFree
  have okB:(X.blk N scope cl s3 (upd H2 D (.lst [])) fp).Ok:=by
    refine ⟨I.ok.mod,B.kind,I.ok.glob,I.ok.blt,Nat.le_refl _,fun a b c e1 e2=>I.ok.inj a b c (cl_of a c e1) (cl_of b c e2),fun y hy=>B.has y hy,(fun _ _ z _=>absurd z Bool.false_ne_true),(fun _=>I.ok.hd hc),I.ok.frames,.inl rfl,fun b hb=>⟨?_,fun y c e z=>?_⟩,fun b o e=>?_,Nat.le_trans I.ok.bsz I3.sz,fun b o e hb=>?_,fun b hb z=>?_,I3.stack,stkf⟩
    · obtain ⟨o,e,_⟩:=fpl b hb
      exact below b o (k23 b o e)
    · exact (f2 b hb).2.2.2.2.1 y c (cl_of y c e) z
    · exact I3.bs b o e
    · rcases (f2 b hb).2.2.2.1 with z | z
      · exact I.ok.noex b o e z
      · exact absurd (Nat.lt_of_lt_of_le (Heap.lt_size e) (Nat.le_trans I.ok.bsz z)) (Nat.lt_irrefl _)
    · rcases List.mem_cons.mp (I3.stkSub b z) with z | z
      · exact (f2 b hb).2.1 z
      · exact (f2 b hb).2.2.1 z
  have IB:∀ tk:Nat,Inv (X.blk N scope cl s3 (upd H2 D (.lst [])) fp) [] (none :: none :: ρ σ) (upd H2 D (.lst [])) { s3 with heap:=h₁,toks:=tk }:=fun tk=>by
    refine ⟨okB,rfl,I3.bare,Un.kept k34,⟨_,hns₁,fun j y v e1 e2 e3=>?_⟩,fun y c e=>?_,?_,fun y c e=>I3.freeC y c (cl_of y c e),(fun p hp=>nomatch hp),I3.hok.kept k34,?_⟩
    · cases j with
      | zero=>cases e2
      | succ j=>
      cases j with
      | zero=>cases e2
      | succ j=>
        obtain ⟨i,y',a1,a2,a3,a4,a5,a6⟩:=B.rho σ j v e2
        have e1':N[j + 1 + 1]? = some y:=e1
        rw [e1'] at a1
        cases a1
        obtain ⟨m,hn,hl⟩:=I3.loc
        obtain ⟨u,r,l⟩:=hl i y v a2 a3 a4
        refine ⟨u,r,.inr ⟨a6,?_⟩⟩
        obtain ⟨c,ec⟩:=B.has y a6
        rcases l with ⟨k,_⟩ | ⟨_,c',ec',z⟩
        · rcases a5 with q | q <;> (rw [k] at q; cases q)
        · have:=cl_of y c ec
          rw [this] at ec'
          cases ec'
          obtain ⟨o,ho,hd⟩:=z
          exact ⟨c,ec,o,k34 _ _ ho,hd⟩
    · obtain ⟨v,o,ho,hd⟩:=I3.cell y c (cl_of y c e)
      exact ⟨v,o,k34 _ _ ho,hd⟩
    · exact I3.hok.fresh (Nat.le_refl _)
    · show (none :: none :: ρ σ).length = N.length
      rw [List.length_cons,List.length_cons]
      exact B.len σ I.len
  have fin:∀ {σ':St} {H':Hp} {s':Shared},Inv (X.blk N scope cl s3 (upd H2 D (.lst [])) fp) [] σ' H' s'→Q (.ref D) H'→compPost (model X.prog X.w) X.A X.xe none (EP X pins σ Q) (.ref D) s3.heap.objs.size (.ok .next) s':=fun {σ' H' s'} J q=>by
    obtain ⟨m,hn,_⟩:=J.loc
    refine ⟨m,hn,fun h' hs'=>⟨.ref D,H',?_,rfl,q⟩⟩
    have old:∀ b o,s3.heap.get? b = some o→b ≠ s3.heap.objs.size:=below
    have u1:Un (frs X.stack) fp (upd H2 D (.lst [])) H' s3.heap h':=by
      refine ⟨fun b o e n hb hx=>?_,fun b o e n hb hx=>?_,J.base.free,fun b o e hx=>?_,J.base.tups,J.base.frzs,J.base.tbls⟩
      · exact (hs'.2 b (old b o e)).trans (J.base.keep b o e n hb hx)
      · obtain ⟨sl,z⟩:=J.base.slot b o e n hb hx
        exact ⟨sl,(hs'.2 b (old b o e)).trans z⟩
      · obtain ⟨o',z⟩:=J.base.there b o e hx
        exact ⟨o',(hs'.2 b (old b o e)).trans z⟩
    have hokE:HOk X.prog X.w H' h':=fun b u e=>by
      refine (J.hok b u e).stay (fun c v hc z=>(hs'.2 c fun y=>?_).trans z) (fun _ z=>z) fun _ _ z=>z
      have fr:=J.free
      have y':c = s3.heap.objs.size:=y
      rcases hc with hc | hc
      · rw [← hc,y'] at e
        exact absurd (fr.symm.trans e) (by simp)
      · rw [y'] at hc
        exact absurd (fr.symm.trans hc) (by simp)
    refine I3.call' (s':={ s' with heap:=h' }) (ch:=fp) (J.os) u1 hokE J.bare fun b hb=>?_
    obtain ⟨g0,g1,g2,g3,g4,g5⟩:=f2 b hb
    exact ⟨g3,g1,g4,g5⟩
  have stat:∀ {H':Hp},(∀ b ∈ fp,H' b = none)→∀ b ∈ fp,FpOk (X.blk N scope cl s3 (upd H2 D (.lst [])) fp) [] H' b:=fun hn b hb=>by
    refine ⟨hn b hb,?_,?_,.inl hb,fun y c e z=>(f2 b hb).2.2.2.2.1 y c (cl_of y c e) z,fun p hp=>nomatch hp⟩
    · obtain ⟨o,e,_⟩:=fpl b hb
      exact below b o (k23 b o e)
    · exact okB.exfs b hb
  have loop:∀ tk:Nat,codeAny (model X.prog X.w) X.A (.compLoop (.ListComp elt [⟨.Tuple [.Name x px,.Name y py] tk0 tp,iter,ifs,0⟩] scope pos) 0 (.ref it) (.ref D) (compEnvC scope cl s3.heap.objs.size X.env))
      (compPost (model X.prog X.w) X.A X.xe none (EP X pins σ Q) (.ref D) s3.heap.objs.size) { s3 with heap:=h₁,toks:=tk }:=fun tk=>by
    refine compLoop_testsT (fun n s'=>∃ i ys o o2 H',Inv (X.blk N scope cl s3 (upd H2 D (.lst [])) fp) [] (o :: o2 :: ρ σ) H' s'∧tn i s'.heap∧(∀ b ∈ fp,H' b = none)∧W i n ys H') ?_ m0
      ⟨0,[],none,none,_,IB tk,T.keep _ _ _ st2 fun b hb o e=>k34 _ _ (k23 _ _ e),fun b hb=>by rw [upd_ne (nfD b hb)]; exact (f2 b hb).1,w0⟩
    rintro n s4 ⟨i,ys,o,o2,H4,I4,st4,fr4,w4⟩
    obtain ⟨hD4,hturn⟩:=turn i n ys H4 w4
    rcases hturn with ⟨stop,qn⟩ | ⟨go,step⟩
    · refine wpAny_mono (T.done (X.blk N scope cl s3 (upd H2 D (.lst [])) fp) rfl rfl rfl hc i [] s4 _ H4 (fun _ _=>False) I4 (stat fr4) st4 stop) (fun r s5 ⟨hr,I5⟩=>?_) fun _ _ z=>z.elim
      subst hr
      exact fin I5 qn
    · refine wpAny_mono (T.item (X.blk N scope cl s3 (upd H2 D (.lst [])) fp) rfl rfl rfl hc i [] s4 _ H4 (fun _ _=>False) I4 (stat fr4) st4 go) (fun r s5 ⟨u,hr,h5⟩=>?_) fun _ _ z=>z.elim
      subst hr
      refine wpAny_mono h5 (fun _ s5 ⟨y0,H5,I5,r5,y5,st5,fr5⟩=>?_) fun _ _ z=>z.elim
      obtain ⟨Tt,x1,x2,e0,hsq,hstep⟩:=step y0 _ y5
      subst e0
      have I5':=I5.pinned (stat fr5) (T.obj _ _ st5)
      have pg:PG (X.blk N scope cl s3 (upd H2 D (.lst [])) fp) (.Tuple [.Name x px,.Name y py] tk0 tp) (gTup X.K 2 (gCons (gName 0) (gCons (gName 1) gNil))):=
        pg_tup (X:=X.blk N scope cl s3 (upd H2 D (.lst [])) fp) hc (pgs_cons (pg_name (i:=0) B.nd B.n0 (.inl (lookup_relabel_local B.hx)) (.inr (lookup_relabel_local B.hx))) (pgs_cons (pg_name (i:=1) B.nd B.n1 (.inl (lookup_relabel_local B.hy)) (.inr (lookup_relabel_local B.hy))) pgs_nil))
      have again:∀ {σ7:St} {H7:Hp} {s7:Shared},Inv (X.blk N scope cl s3 (upd H2 D (.lst [])) fp) ([] ++ pinsAt fp s5.heap) σ7 H7 s7→Inv (X.blk N scope cl s3 (upd H2 D (.lst [])) fp) [] σ7 H7 s7∧tn (i + 1) s7.heap∧∀ b ∈ fp,H7 b = none:=fun {σ7 H7 s7} I7=>by
        refine ⟨I7.unpinned,T.keep _ _ _ st5 fun b hb o e=>(I7.pin (b,o) (List.mem_append_right _ (List.mem_append_right _ (mem_pinsAt hb e)))).1,fun b hb=>?_⟩
        obtain ⟨o,e,d⟩:=T.obj _ _ st5 b hb
        exact (I7.pin (b,o) (List.mem_append_right _ (List.mem_append_right _ (mem_pinsAt hb e)))).2.1
      refine wpAny_mono (pg _ s5 _ H5 (.ref Tt) u (fun σ2 H6=>σ2 = some x1 :: some x2 :: ρ σ∧H6 = H5) I5' r5 ⟨Tt,_,rfl,hsq,rfl,_,_,rfl,_,_,rfl,rfl,rfl,rfl⟩) (fun _ s6 ⟨σ6,H6,I6,q6⟩=>?_) fun _ _ z=>z.elim
      obtain ⟨rfl,rfl⟩:=q6
      have tests:∀ {tt':TT},PTs (X.blk N scope cl s3 (upd H2 D (.lst [])) fp) ifs tt'→∀ {R:Bool→Hp→Prop},tt' (some x1 :: some x2 :: ρ σ) H6 R→wpAny (model X.prog X.w) X.A
          (forIn ifs true fun c r=>if r = true then do let ok ← isTrue c (compEnvC scope cl s3.heap.objs.size X.env) (eval c (compEnvC scope cl s3.heap.objs.size X.env)); pure (ForInStep.yield ok) else pure (ForInStep.yield r))
          (fun ok s7=>∃ H7,Inv (X.blk N scope cl s3 (upd H2 D (.lst [])) fp) ([] ++ pinsAt fp s5.heap) (some x1 :: some x2 :: ρ σ) H7 s7∧R ok H7) (fun _ _=>False) s6:=fun {tt'} p {R} hR=>by
        cases p with
        | nil=>exact wpAny_tests_nil ⟨_,I6,hR⟩
        | one p=>exact wpAny_tests_one (p _ s6 _ _ _ I6 hR)
      refine wpAny_mono (tests (ht s3 _ fp) hstep) (fun ok s7 ⟨H7,I7,q7⟩=>?_) fun _ _ z=>z.elim
      cases ok with
      | false=>
        obtain ⟨m',hm',w7⟩:=q7
        obtain ⟨a1,a2,a3⟩:=again I7
        exact ⟨m',hm',i + 1,ys,_,_,H7,a1,a2,a3,w7⟩
      | true=>
        refine wpAny_mono (he s3 _ fp _ s7 _ H7 _ I7 q7) (fun ev s8 ⟨z,H8,I8,r8,hD8,hz,m',hm',w8⟩=>?_) fun _ _ z=>z.elim
        refine wpAny_mono (mt_append (X:=X.blk N scope cl s3 (upd H2 D (.lst [])) fp) _ s8 _ H8 (.ref D) [z] (.ref D) [ev] (fun _ H9=>H9 = upd H8 D (.lst (ys ++ [z]))) I8 rfl (.cons r8 .nil) ⟨D,ys,z,rfl,rfl,hD8,hz,rfl⟩) (fun _ s9 ⟨_,H9,I9,_,q9⟩=>?_) fun _ _ z=>z.elim
        subst q9
        obtain ⟨a1,a2,a3⟩:=again I9
        exact ⟨m',hm',i + 1,ys ++ [z],_,_,_,a1,a2,a3,w8⟩
  have start:=loop (s3.toks + ([]:List (Str × Value)).length)
  have es:({ s3 with heap:=h₁,toks:=s3.toks + ([]:List (Str × Value)).length }:Shared) = { s2 with heap:=h₁,toks:=s2.toks + ([]:List (Str × Value)).length }:=by rw [← hS3]
  rw [es] at start
  exact codeAny_compStart_list start (T.self _ 0 _ _ _ (T.keep _ _ _ st2 fun b hb o e=>k34 _ _ (k23 _ _ e)) start)
end
end L2
namespace L2
open PySem PySem.Spec PyProof.Rows
section
variable {X:Cx}
def anyR (K:PySem.W.Frag):List V→Hp→VK→Prop:=fun xs H Q=>∃ (p:Addr) (bs:List Bool),xs = [.ref p]∧SqL K H p (bs.map V.bl)∧Q (.bl (bs.any id)) H
theorem call_any {K:PySem.W.Frag} (hc:X.calm = true) (hK:X.K = K:=by rfl):CallR X (.builtin "any") (anyR K):=by
  intro pins s σ H xs us Q I r h
  subst hK
  obtain ⟨p,bs,rfl,hq,q⟩:=h
  obtain ⟨u,rfl,ru⟩:=vals1 r
  cases ru
  obtain ⟨its,rv,pl,hz⟩:=I.list hq
  have hne:p ≠ s.heap.objs.size:=by
    obtain ⟨o,e,_⟩:=pl.isList
    exact Nat.ne_of_lt (Heap.lt_size e)
  have hl:its.length = bs.length:=by rw [← rv.length,List.length_map]
  refine call_any_walk (wpAny_pyIter_list pl.isList ?_)
  refine ⟨s.heap.objs.size,_,_,_,_,_,fun i=>bs.getD i false,rfl,Walks.list (A:=X.A.in1) (show X.A.in1.handled = none from I.ok.hd hc) s.heap.objs.size p hne its.toArray,⟨⟨_,Heap.get?_push_size _ rfl,rfl,rfl⟩,pl.isList.push _⟩,fun i v s' Q' E' hv hq'=>?_,fun h' tk hk=>?_⟩
  · have hv':its[i]? = some v:=by simpa using hv
    cases eb:bs[i]? with
    | none=>
      have:=rv.none_of (i:=i) (by rw [List.getElem?_map,eb]; rfl)
      rw [this] at hv'
      cases hv'
    | some b=>
      obtain ⟨u,hu,ru⟩:=rv.get (i:=i) (x:=V.bl b) (by rw [List.getElem?_map,eb]; rfl)
      rw [hu] at hv'
      cases hv'
      cases ru
      have e:bs.getD i false = b:=by rw [List.getD_eq_getElem?_getD,eb]; rfl
      have hq2:Q' (bs.getD i false) s':=hq'
      rw [e] at hq2
      exact wpAny_truthy_bool hq2
  · refine ⟨.bl (bs.any id),H,I.kept fun b o e=>hk b o (fun z=>?_) (Heap.get?_push_of_some _ e),?_,q⟩
    · exact absurd (Heap.lt_size e) (by rw [List.mem_singleton.mp z]; exact Nat.lt_irrefl _)
    · show Value.bool _ = Value.bool _
      congr 1
      rw [List.size_toArray,hl]
      clear hk q rv pl hz hl hq
      induction bs with
      | nil=>rfl
      | cons b bs ih=>
        rw [List.length_cons,List.range_succ_eq_map,List.any_cons,List.any_map,List.any_cons]
        show (b || (List.range bs.length).any fun i=>bs.getD i false) = (b || bs.any id)
        rw [ih]
end
theorem boot_any:bootBuiltins "any" = some (.builtin "any"):=by decide +kernel
end L2
namespace L2
open PySem PySem.Spec PyProof.Rows
abbrev Cx.blkC (X:Cx) (N:List Str) (scope:Scope) (cl:List (Str × Addr)) (x:Str) (s₃:Shared) (H₃:Hp) (fp:List Addr):Cx:=
  { X with N:=N,s₀:=s₃,H₀:=H₃,env:=compEnvC scope ((x,s₃.heap.objs.size + 1) :: cl) s₃.heap.objs.size X.env,outer:=X.stack,stack:=X.stack,ex:=fp,fn:=fun y=>y == x,pn:=[],xe:=fun _ _=>False }
section
variable {M:Model} {A:Around} {E:Value→Shared→Prop} {s:Shared}
theorem newEnv_cell {scope:Scope} {globals:Addr} {cl:List (Str × Addr)} {qual x:Str} {env:Env} {Q:Env→Shared→Prop}
    (c1:∀ n,cellsFrom n scope.names cl = (x,n) :: cl) (p1:∀ h:Heap,pushCells h scope.names = h.push { cls:=.type "cell",data:=.cell none })
    (hQ:Q (newEnv scope s.heap.objs.size globals ((x,s.heap.objs.size + 1) :: cl) qual none .none (some env) builtinsNs) { s with heap:=(s.heap.push { cls:=.type "dict",data:=.dict #[] }).push { cls:=.type "cell",data:=.cell none } }) :
    wpAny M A (newFunctionEnv scope globals cl [] qual none .none (some env)) Q E s:=by
  simp only [newFunctionEnv,Option.isSome_some,if_true]
  refine wpAny_bind (wpAny_alloc ?_)
  refine wpAny_bind (wpAny_layCells _ (fun name kind cells=>by cases hkc:kind == NameKind.cell <;> simp [hkc]) _ _ _ _ ?_)
  rw [show ({ s with heap:=s.heap.push { cls:=.type "dict",data:=.dict #[] } }:Shared).heap.objs.size = s.heap.objs.size + 1 from Heap.size_push ..,c1,p1]
  exact wpAny_bind (wpAny_pure (wpAny_pure hQ))
end
section
variable {X:Cx} {N:List Str} {scope:Scope} {cl:List (Str × Addr)} {x:Str} {px pos:Pos} {iter elt:Expr} {ifs:List Expr} {wi:TI} {ρ:St→St} {tt:TT} {te:TE}
theorem hasC_of {names:List (Str × NameKind)} {cl:List (Str × Addr)} {x:Str} (h:(names.all fun q=>(q.2 != .cell && q.2 != .free) || ((cl.lookup q.1).isSome || q.1 == x)) = true) :
    ∀ y,y ≠ x→(names.lookup y = some .cell ∨ names.lookup y = some .free)→∃ c,cl.lookup y = some c:=fun y hx hy=>by
  have key:∀ k:NameKind,(k != .cell && k != .free) = false→names.lookup y = some k→∃ c,cl.lookup y = some c:=fun k hk e=>by
    have z:=List.all_eq_true.mp h (y,k) (PySem.mem_of_lookup e)
    rw [hk,Bool.false_or,show ((y,k).1 == x) = false from beq_eq_false_iff_ne.mpr hx,Bool.or_false] at z
    exact Option.isSome_iff_exists.mp z
  rcases hy with e | e
  · exact key .cell rfl e
  · exact key .free rfl e
structure BlkC (X:Cx) (N:List Str) (scope:Scope) (cl:List (Str × Addr)) (x:Str) (ρ:St→St):Prop where
  clos:closureFor scope X.env = pure cl
  kind:scope.kind = .function
  cells1:∀ n,cellsFrom n scope.names cl = (x,n) :: cl
  push1:∀ h:Heap,pushCells h scope.names = h.push { cls:=.type "cell",data:=.cell none }
  names:∀ y ∈ scope.names,y.2 = .local→scope.names.lookup y.1 = some .local
  sub:∀ p ∈ cl,X.env.cells.lookup p.1 = some p.2
  has:∀ y,y ≠ x→((relabel scope X.env).names.lookup y = some .cell ∨ (relabel scope X.env).names.lookup y = some .free)→∃ c,cl.lookup y = some c
  n0:N[0]? = some x
  nd:N.Nodup
  relx:(relabel scope X.env).names.lookup x = some .cell
  rho:∀ (σ:St) (j:Nat) (v:V),(ρ σ)[j]? = some (some v)→∃ (i:Nat) (y:Str),N[j + 1]? = some y∧X.N[i]? = some y∧σ[i]? = some (some v)∧Vis X.env.scope y∧(X.env.kindOf y = some .cell ∨ X.env.kindOf y = some .free)∧((relabel scope X.env).names.lookup y = some .cell ∨ (relabel scope X.env).names.lookup y = some .free)
  len:∀ σ:St,σ.length = X.N.length→(ρ σ).length + 1 = N.length
theorem pe_compC (B:BlkC X N scope cl x ρ) (hc:X.calm = true) (hi:PI X (.Name x px) iter wi) (ht:∀ s₃ H₃ fp,PTs (X.blkC N scope cl x s₃ H₃ fp) ifs tt) (he:∀ s₃ H₃ fp,PE (X.blkC N scope cl x s₃ H₃ fp) elt te)
    (hs:∀ x,foldedSetIterable iter X.env x = pure x:=by intro _; rfl):PE X (.ListComp elt [⟨.Name x px,iter,ifs,0⟩] scope pos) (tComp wi ρ tt te):=by
  intro pins s σ H Q I h
  rw [eval_ListComp]
  refine wpAny_comprehension_free (use:=none) rfl hs B.clos B.kind B.names (thn (hi pins s σ H _ I h) fun v s1 h1=>thn h1 fun itv s2 h2=>?_)
  obtain ⟨it,fp,tn,J,H2,rfl,I2,T,st2,f2,q2⟩:=h2
  have nD:H2 s2.heap.objs.size = none:=I2.hok.fresh (Nat.le_refl _)
  obtain ⟨W,⟨m0,w0⟩,turn⟩:=q2 _ nD
  refine wpAny_newObj_type (newEnv_cell B.cells1 B.push1 ?_)
  dsimp only
  generalize hD:s2.heap.objs.size = D at nD w0 turn ⊢
  generalize hS3:({ s2 with heap:=s2.heap.push { cls:=.type "list",dict:=none,data:=.seq ([]:List Value).toArray } }:Shared) = s3
  have I3:Inv X pins σ (upd H2 D (.lst [])) s3:=by
    subst hD hS3
    exact I2.laid (t':=s2.toks) (fun b u e=>Heap.get?_push_of_some _ e) (Nat.le_refl _) ⟨Nat.zero_le _,[],_,.nil,Heap.get?_push_size _ rfl⟩
  have e3:s3.heap = s2.heap.push { cls:=.type "list",dict:=none,data:=.seq ([]:List Value).toArray }:=by rw [← hS3]
  have k23:∀ b o,s2.heap.get? b = some o→s3.heap.get? b = some o:=fun b o e=>by rw [e3]; exact Heap.get?_push_of_some _ e
  rw [← e3]
  obtain ⟨h₁,eh⟩:∃ h₁,h₁ = (s3.heap.push { cls:=.type "dict",data:=.dict #[] }).push { cls:=.type "cell",data:=.cell none }:=⟨_,rfl⟩
  rw [← eh]
  have hns₁:h₁.Ns s3.heap.objs.size (fun _=>none):=by
    rw [eh]
    exact (Heap.Ns.new s3.heap (.type "dict")).keeps fun b o e=>Heap.get?_push_of_some _ e
  have sz1:(s3.heap.push { cls:=.type "dict",data:=.dict #[] }).objs.size = s3.heap.objs.size + 1:=Heap.size_push ..
  have hc₁:h₁.IsCell (s3.heap.objs.size + 1) none:=by
    rw [eh,← sz1]
    exact ⟨_,Heap.get?_push_size _ rfl,rfl⟩
  have below:∀ b o,s3.heap.get? b = some o→b ≠ s3.heap.objs.size:=fun b o e=>Nat.ne_of_lt (Heap.lt_size e)
  have k34:∀ b o,s3.heap.get? b = some o→h₁.get? b = some o:=fun b o e=>by rw [eh]; exact Heap.get?_push_of_some _ (Heap.get?_push_of_some _ e)
  have fpl:∀ b ∈ fp,∃ o,s2.heap.get? b = some o∧∀ v,o.data ≠ .cell v:=T.obj _ _ st2
  have nfD:∀ b ∈ fp,b ≠ D:=fun b hb z=>by
    obtain ⟨o,e,_⟩:=fpl b hb
    rw [z,← hD] at e
    exact absurd (Heap.lt_size e) (Nat.lt_irrefl _)
  have cl_of:∀ y c,cl.lookup y = some c→X.env.cells.lookup y = some c:=fun y c e=>B.sub (y,c) (PySem.mem_of_lookup e)
  have old_c:∀ y c,cl.lookup y = some c→c < s3.heap.objs.size:=fun y c e=>by
    obtain ⟨v,o,eo,_⟩:=I3.cell y c (cl_of y c e)
    exact Heap.lt_size eo
  have lk:∀ y c,((x,s3.heap.objs.size + 1) :: cl).lookup y = some c→(y = x∧c = s3.heap.objs.size + 1) ∨ (y ≠ x∧cl.lookup y = some c):=fun y c e=>by
    by_cases z:y = x
    · subst z
      rw [List.lookup_cons,beq_self_eq_true] at e
      exact .inl ⟨rfl,(Option.some.inj e).symm⟩
    · rw [List.lookup_cons,beq_eq_false_iff_ne.mpr z] at e
      exact .inr ⟨z,e⟩
  have lk':∀ y c,y ≠ x→cl.lookup y = some c→((x,s3.heap.objs.size + 1) :: cl).lookup y = some c:=fun y c z e=>by
    rw [List.lookup_cons,beq_eq_false_iff_ne.mpr z]
    exact e
  have fpn:∀ b ∈ fp,b < s3.heap.objs.size:=fun b hb=>by
    obtain ⟨o,e,_⟩:=fpl b hb
    exact Heap.lt_size (k23 b o e)
  have stkf:=I3.stkFree
  have okB:(X.blkC N scope cl x s3 (upd H2 D (.lst [])) fp).Ok:=by
    refine ⟨I.ok.mod,B.kind,I.ok.glob,I.ok.blt,Nat.le_refl _,fun a b c e1 e2=>?inj,fun y hy=>?has,(fun y c z e=>?cab),(fun _=>I.ok.hd hc),I.ok.frames,.inl rfl,fun b hb=>⟨?_,fun y c e z=>?_⟩,fun b o e=>?_,Nat.le_trans I.ok.bsz I3.sz,fun b o e hb=>?_,fun b hb z=>?_,I3.stack,stkf⟩
    case inj=>
      rcases lk a c e1 with ⟨z1,ec1⟩ | ⟨_,f1⟩ <;> rcases lk b _ e2 with ⟨z2,ec⟩ | ⟨_,f2'⟩
      · rw [z1,z2]
      · have:=old_c _ _ f2'
        rw [ec1] at this
        exact absurd this (Nat.not_lt.mpr (Nat.le_succ _))
      · have:=old_c _ _ f1
        rw [ec] at this
        exact absurd this (Nat.not_lt.mpr (Nat.le_succ _))
      · exact I.ok.inj a b c (cl_of a c f1) (cl_of b c f2')
    case has=>
      by_cases z:y = x
      · subst z
        exact ⟨_,by rw [show (compEnvC scope ((y,s3.heap.objs.size + 1) :: cl) s3.heap.objs.size X.env).cells = (y,s3.heap.objs.size + 1) :: cl from rfl,List.lookup_cons,beq_self_eq_true]⟩
      · obtain ⟨c,ec⟩:=B.has y z hy
        exact ⟨c,lk' y c z ec⟩
    case cab=>
      have z:y = x:=by simpa using z
      rcases lk y c e with ⟨_,rfl⟩ | ⟨z',_⟩
      · exact Nat.le_succ _
      · exact absurd z z'
    · obtain ⟨o,e,_⟩:=fpl b hb
      exact below b o (k23 b o e)
    · rcases lk y c e with ⟨rfl,rfl⟩ | ⟨_,e⟩
      · rw [← z] at hb
        exact absurd (fpn _ hb) (Nat.not_lt.mpr (Nat.le_succ _))
      · exact (f2 b hb).2.2.2.2.1 y c (cl_of y c e) z
    · exact I3.bs b o e
    · rcases (f2 b hb).2.2.2.1 with z | z
      · exact I.ok.noex b o e z
      · exact absurd (Nat.lt_of_lt_of_le (Heap.lt_size e) (Nat.le_trans I.ok.bsz z)) (Nat.lt_irrefl _)
    · rcases List.mem_cons.mp (I3.stkSub b z) with z | z
      · exact (f2 b hb).2.1 z
      · exact (f2 b hb).2.2.1 z
  have IB:∀ tk:Nat,Inv (X.blkC N scope cl x s3 (upd H2 D (.lst [])) fp) [] (none :: ρ σ) (upd H2 D (.lst [])) { s3 with heap:=h₁,toks:=tk }:=fun tk=>by
    refine ⟨okB,rfl,I3.bare,Un.kept k34,⟨_,hns₁,fun j y v e1 e2 e3=>?_⟩,fun y c e=>?_,?_,fun y c e=>?fC,(fun p hp=>nomatch hp),I3.hok.kept k34,?_⟩
    · cases j with
      | zero=>cases e2
      | succ j=>
        obtain ⟨i,y',a1,a2,a3,a4,a5,a6⟩:=B.rho σ j v e2
        have e1':N[j + 1]? = some y:=e1
        rw [e1'] at a1
        cases a1
        obtain ⟨m,hn,hl⟩:=I3.loc
        obtain ⟨u,r,l⟩:=hl i y v a2 a3 a4
        refine ⟨u,r,.inr ⟨a6,?_⟩⟩
        have yx:y ≠ x:=fun z=>by
          have n0:=B.n0
          rw [← z] at n0
          have:=(List.getElem?_inj (List.getElem?_eq_some_iff.mp n0).1 B.nd).mp (n0.trans e1'.symm)
          omega
        obtain ⟨c,ec⟩:=B.has y yx a6
        rcases l with ⟨k,_⟩ | ⟨_,c',ec',z⟩
        · rcases a5 with q | q <;> (rw [k] at q; cases q)
        · have:=cl_of y c ec
          rw [this] at ec'
          cases ec'
          obtain ⟨o,ho,hd⟩:=z
          exact ⟨c,lk' y c yx ec,o,k34 _ _ ho,hd⟩
    case fC=>
      rcases lk y c e with ⟨rfl,rfl⟩ | ⟨_,e⟩
      · exact I3.hok.fresh (Nat.le_succ _)
      · exact I3.freeC y c (cl_of y c e)
    · rcases lk y c e with ⟨rfl,rfl⟩ | ⟨_,e⟩
      · exact ⟨none,hc₁⟩
      · obtain ⟨v,o,ho,hd⟩:=I3.cell y c (cl_of y c e)
        exact ⟨v,o,k34 _ _ ho,hd⟩
    · exact I3.hok.fresh (Nat.le_refl _)
    · show (none :: ρ σ).length = N.length
      rw [List.length_cons]
      exact B.len σ I.len
  have fin:∀ {σ':St} {H':Hp} {s':Shared},Inv (X.blkC N scope cl x s3 (upd H2 D (.lst [])) fp) [] σ' H' s'→Q (.ref D) H'→compPost (model X.prog X.w) X.A X.xe none (EP X pins σ Q) (.ref D) s3.heap.objs.size (.ok .next) s':=fun {σ' H' s'} J q=>by
    obtain ⟨m,hn,_⟩:=J.loc
    refine ⟨m,hn,fun h' hs'=>⟨.ref D,H',?_,rfl,q⟩⟩
    have old:∀ b o,s3.heap.get? b = some o→b ≠ s3.heap.objs.size:=below
    have u1:Un (frs X.stack) fp (upd H2 D (.lst [])) H' s3.heap h':=by
      refine ⟨fun b o e n hb hx=>?_,fun b o e n hb hx=>?_,J.base.free,fun b o e hx=>?_,J.base.tups,J.base.frzs,J.base.tbls⟩
      · exact (hs'.2 b (old b o e)).trans (J.base.keep b o e n hb hx)
      · obtain ⟨sl,z⟩:=J.base.slot b o e n hb hx
        exact ⟨sl,(hs'.2 b (old b o e)).trans z⟩
      · obtain ⟨o',z⟩:=J.base.there b o e hx
        exact ⟨o',(hs'.2 b (old b o e)).trans z⟩
    have hokE:HOk X.prog X.w H' h':=fun b u e=>by
      refine (J.hok b u e).stay (fun c v hc z=>(hs'.2 c fun y=>?_).trans z) (fun _ z=>z) fun _ _ z=>z
      have fr:=J.free
      have y':c = s3.heap.objs.size:=y
      rcases hc with hc | hc
      · rw [← hc,y'] at e
        exact absurd (fr.symm.trans e) (by simp)
      · rw [y'] at hc
        exact absurd (fr.symm.trans hc) (by simp)
    refine I3.call' (s':={ s' with heap:=h' }) (ch:=fp) (J.os) u1 hokE J.bare fun b hb=>?_
    obtain ⟨g0,g1,g2,g3,g4,g5⟩:=f2 b hb
    exact ⟨g3,g1,g4,g5⟩
  have stat:∀ {H':Hp},(∀ b ∈ fp,H' b = none)→∀ b ∈ fp,FpOk (X.blkC N scope cl x s3 (upd H2 D (.lst [])) fp) [] H' b:=fun hn b hb=>by
    refine ⟨hn b hb,?_,?_,.inl hb,fun y c e z=>?sc,fun p hp=>nomatch hp⟩
    case sc=>
      rcases lk y c e with ⟨rfl,rfl⟩ | ⟨_,e⟩
      · rw [← z] at hb
        exact absurd (fpn _ hb) (Nat.not_lt.mpr (Nat.le_succ _))
      · exact (f2 b hb).2.2.2.2.1 y c (cl_of y c e) z
    · obtain ⟨o,e,_⟩:=fpl b hb
      exact below b o (k23 b o e)
    · exact okB.exfs b hb
  have loop:∀ tk:Nat,codeAny (model X.prog X.w) X.A (.compLoop (.ListComp elt [⟨.Name x px,iter,ifs,0⟩] scope pos) 0 (.ref it) (.ref D) (compEnvC scope ((x,s3.heap.objs.size + 1) :: cl) s3.heap.objs.size X.env))
      (compPost (model X.prog X.w) X.A X.xe none (EP X pins σ Q) (.ref D) s3.heap.objs.size) { s3 with heap:=h₁,toks:=tk }:=fun tk=>by
    refine codeAny_compLoop_tests (fun n s'=>∃ i ys o H',Inv (X.blkC N scope cl x s3 (upd H2 D (.lst [])) fp) [] (o :: ρ σ) H' s'∧tn i s'.heap∧(∀ b ∈ fp,H' b = none)∧W i n ys H') ?_ m0
      ⟨0,[],none,_,IB tk,T.keep _ _ _ st2 fun b hb o e=>k34 _ _ (k23 _ _ e),fun b hb=>by rw [upd_ne (nfD b hb)]; exact (f2 b hb).1,w0⟩
    rintro n s4 ⟨i,ys,o,H4,I4,st4,fr4,w4⟩
    obtain ⟨hD4,hturn⟩:=turn i n ys H4 w4
    rcases hturn with ⟨stop,qn⟩ | ⟨go,step⟩
    · refine wpAny_mono (T.done (X.blkC N scope cl x s3 (upd H2 D (.lst [])) fp) rfl rfl rfl hc i [] s4 _ H4 (fun _ _=>False) I4 (stat fr4) st4 stop) (fun r s5 ⟨hr,I5⟩=>?_) fun _ _ z=>z.elim
      subst hr
      exact fin I5 qn
    · refine wpAny_mono (T.item (X.blkC N scope cl x s3 (upd H2 D (.lst [])) fp) rfl rfl rfl hc i [] s4 _ H4 (fun _ _=>False) I4 (stat fr4) st4 go) (fun r s5 ⟨u,hr,h5⟩=>?_) fun _ _ z=>z.elim
      subst hr
      have z:letOwnedTupleGo (.Name x px) (.ref it) u = pure ():=rfl
      rw [z] at h5
      show wpAny _ _ ((pure ():Sem Unit) >>= fun _=>assign (.Name x px) (compEnvC scope ((x,s3.heap.objs.size + 1) :: cl) s3.heap.objs.size X.env) u) _ _ s5
      refine wpAny_bind (wpAny_mono h5 (fun _ s5 ⟨y,H5,I5,r5,y5,st5,fr5⟩=>?_) fun _ _ z=>z.elim)
      have I5':=I5.pinned (stat fr5) (T.obj _ _ st5)
      have pg:PG (X.blkC N scope cl x s3 (upd H2 D (.lst [])) fp) (.Name x px) (gName 0):=pg_name (i:=0) B.nd B.n0 (.inr B.relx) (.inl (by show (x == x) = true; simp))
      have again:∀ {σ7:St} {H7:Hp} {s7:Shared},Inv (X.blkC N scope cl x s3 (upd H2 D (.lst [])) fp) ([] ++ pinsAt fp s5.heap) σ7 H7 s7→Inv (X.blkC N scope cl x s3 (upd H2 D (.lst [])) fp) [] σ7 H7 s7∧tn (i + 1) s7.heap∧∀ b ∈ fp,H7 b = none:=fun {σ7 H7 s7} I7=>by
        refine ⟨I7.unpinned,T.keep _ _ _ st5 fun b hb o e=>(I7.pin (b,o) (List.mem_append_right _ (List.mem_append_right _ (mem_pinsAt hb e)))).1,fun b hb=>?_⟩
        obtain ⟨o,e,d⟩:=T.obj _ _ st5 b hb
        exact (I7.pin (b,o) (List.mem_append_right _ (List.mem_append_right _ (mem_pinsAt hb e)))).2.1
      refine wpAny_mono (pg _ s5 _ H5 y u (fun σ2 H6=>σ2 = some y :: ρ σ∧H6 = H5) I5' r5 ⟨rfl,rfl⟩) (fun _ s6 ⟨σ6,H6,I6,q6⟩=>?_) fun _ _ z=>z.elim
      obtain ⟨rfl,rfl⟩:=q6
      have hstep:=step y _ y5
      have tests:∀ {tt':TT},PTs (X.blkC N scope cl x s3 (upd H2 D (.lst [])) fp) ifs tt'→∀ {R:Bool→Hp→Prop},tt' (some y :: ρ σ) H6 R→wpAny (model X.prog X.w) X.A
          (forIn ifs true fun c r=>if r = true then do let ok ← isTrue c (compEnvC scope ((x,s3.heap.objs.size + 1) :: cl) s3.heap.objs.size X.env) (eval c (compEnvC scope ((x,s3.heap.objs.size + 1) :: cl) s3.heap.objs.size X.env)); pure (ForInStep.yield ok) else pure (ForInStep.yield r))
          (fun ok s7=>∃ H7,Inv (X.blkC N scope cl x s3 (upd H2 D (.lst [])) fp) ([] ++ pinsAt fp s5.heap) (some y :: ρ σ) H7 s7∧R ok H7) (fun _ _=>False) s6:=fun {tt'} p {R} hR=>by
        cases p with
        | nil=>exact wpAny_tests_nil ⟨_,I6,hR⟩
        | one p=>exact wpAny_tests_one (p _ s6 _ _ _ I6 hR)
      refine wpAny_mono (tests (ht s3 _ fp) hstep) (fun ok s7 ⟨H7,I7,q7⟩=>?_) fun _ _ z=>z.elim
      cases ok with
      | false=>
        obtain ⟨m',hm',w7⟩:=q7
        obtain ⟨a1,a2,a3⟩:=again I7
        exact ⟨m',hm',i + 1,ys,_,H7,a1,a2,a3,w7⟩
      | true=>
        refine wpAny_mono (he s3 _ fp _ s7 _ H7 _ I7 q7) (fun ev s8 ⟨z,H8,I8,r8,hD8,hz,m',hm',w8⟩=>?_) fun _ _ z=>z.elim
        refine wpAny_mono (mt_append (X:=X.blkC N scope cl x s3 (upd H2 D (.lst [])) fp) _ s8 _ H8 (.ref D) [z] (.ref D) [ev] (fun _ H9=>H9 = upd H8 D (.lst (ys ++ [z]))) I8 rfl (.cons r8 .nil) ⟨D,ys,z,rfl,rfl,hD8,hz,rfl⟩) (fun _ s9 ⟨_,H9,I9,_,q9⟩=>?_) fun _ _ z=>z.elim
        subst q9
        obtain ⟨a1,a2,a3⟩:=again I9
        exact ⟨m',hm',i + 1,ys ++ [z],_,_,a1,a2,a3,w8⟩
  have start:=loop s3.toks
  have es:({ s3 with heap:=h₁,toks:=s3.toks }:Shared) = { s2 with heap:=h₁ }:=by rw [← hS3]
  rw [es] at start
  exact codeAny_compStart_list start (T.self _ 0 _ _ _ (T.keep _ _ _ st2 fun b hb o e=>k34 _ _ (k23 _ _ e)) start)
end
end L2
namespace L2
open PySem PySem.Spec PyProof.Rows
theorem eqV_self {v:V} (h:flatV v = true):eqV v v = true:=by
  cases v with
  | non=>rfl
  | bl b=>show (b == b) = true; simp
  | int i=>show (i == i) = true; simp
  | str x=>show (x == x) = true; simp
  | _=>cases h
section
variable {X:Cx} {pins:List (Addr × Obj)} {σ:St} {H:Hp} {s:Shared}
end
section
variable {X:Cx}
end
end L2
namespace L2
open PySem PySem.Spec PyProof.Rows
section
variable {X:Cx} {N:List Str} {scope:Scope} {cl:List (Str × Addr)} {x:Str} {px pos:Pos} {iter elt:Expr} {ifs:List Expr} {wi:TI} {ρ:St→St} {tt:TT} {te:TE}
theorem ps_compC {y:Str} {py spos:Pos} {i0:Nat} (B:BlkC X N scope cl x ρ) (hc:X.calm = true) (hN:X.N.Nodup) (hi0:X.N[i0]? = some y) (hy:Loc X.env.scope y) (hi:PI X (.Name x px) iter wi) (ht:∀ s₃ H₃ fp,PTs (X.blkC N scope cl x s₃ H₃ fp) ifs tt) (he:∀ s₃ H₃ fp,PE (X.blkC N scope cl x s₃ H₃ fp) elt te)
    (hsw:swapsWith (.ListComp elt [⟨.Name x px,iter,ifs,0⟩] scope pos) (some (.Name y py)) spos.line X.env = pure true:=by rfl) (hf:X.fn y = true ∨ X.env.scope.names.lookup y = some .local:=by first | exact .inl rfl | exact .inr rfl | assumption)
    (hs:∀ x,foldedSetIterable iter X.env x = pure x:=by intro _; rfl):PS X (.Assign [.Name y py] (.ListComp elt [⟨.Name x px,iter,ifs,0⟩] scope pos) spos) (tAsg (tComp wi ρ tt te) (gName i0)):=by
  intro pins s σ H D0 I h
  have h:tComp wi ρ tt te σ H (fun v H1=>D0.nx (σ.set i0 (some v)) H1):=h
  rw [exec_Assign_Name_used _ _ _ _ hsw]
  refine wpAny_bind (wpAny_standAt (wpAny_bind ?_))
  show wpAny _ X.A (do let _ ← comprehension (.ListComp elt [⟨.Name x px,iter,ifs,0⟩] scope pos) scope X.env _ (newList []) false (eval iter X.env) (some (assign (.Name y py) X.env))) _ _ s
  refine wpAny_bind (wpAny_mono (Q:=fun _ s'=>SP X pins D0 .next s') ?_ (fun _ s' hq=>wpAny_pure (wpAny_pure hq)) fun _ _ e=>e)
  refine wpAny_comprehension_free (use:=some (assign (.Name y py) X.env)) rfl hs B.clos B.kind B.names (thn (hi pins s σ H _ I h) fun v s1 h1=>thn h1 fun itv s2 h2=>?_)
  obtain ⟨it,fp,tn,J,H2,rfl,I2,T,st2,f2,q2⟩:=h2
  have nD:H2 s2.heap.objs.size = none:=I2.hok.fresh (Nat.le_refl _)
  obtain ⟨W,⟨m0,w0⟩,turn⟩:=q2 _ nD
  refine wpAny_newObj_type (newEnv_cell B.cells1 B.push1 ?_)
  dsimp only
  generalize hD:s2.heap.objs.size = D at nD w0 turn ⊢
  generalize hS3:({ s2 with heap:=s2.heap.push { cls:=.type "list",dict:=none,data:=.seq ([]:List Value).toArray } }:Shared) = s3
  have I3:Inv X pins σ (upd H2 D (.lst [])) s3:=by
    subst hD hS3
    exact I2.laid (t':=s2.toks) (fun b u e=>Heap.get?_push_of_some _ e) (Nat.le_refl _) ⟨Nat.zero_le _,[],_,.nil,Heap.get?_push_size _ rfl⟩
  have e3:s3.heap = s2.heap.push { cls:=.type "list",dict:=none,data:=.seq ([]:List Value).toArray }:=by rw [← hS3]
  have k23:∀ b o,s2.heap.get? b = some o→s3.heap.get? b = some o:=fun b o e=>by rw [e3]; exact Heap.get?_push_of_some _ e
  rw [← e3]
  obtain ⟨h₁,eh⟩:∃ h₁,h₁ = (s3.heap.push { cls:=.type "dict",data:=.dict #[] }).push { cls:=.type "cell",data:=.cell none }:=⟨_,rfl⟩
  rw [← eh]
  have hns₁:h₁.Ns s3.heap.objs.size (fun _=>none):=by
    rw [eh]
    exact (Heap.Ns.new s3.heap (.type "dict")).keeps fun b o e=>Heap.get?_push_of_some _ e
  have sz1:(s3.heap.push { cls:=.type "dict",data:=.dict #[] }).objs.size = s3.heap.objs.size + 1:=Heap.size_push ..
  have hc₁:h₁.IsCell (s3.heap.objs.size + 1) none:=by
    rw [eh,← sz1]
    exact ⟨_,Heap.get?_push_size _ rfl,rfl⟩
  have below:∀ b o,s3.heap.get? b = some o→b ≠ s3.heap.objs.size:=fun b o e=>Nat.ne_of_lt (Heap.lt_size e)
  have k34:∀ b o,s3.heap.get? b = some o→h₁.get? b = some o:=fun b o e=>by rw [eh]; exact Heap.get?_push_of_some _ (Heap.get?_push_of_some _ e)
  have fpl:∀ b ∈ fp,∃ o,s2.heap.get? b = some o∧∀ v,o.data ≠ .cell v:=T.obj _ _ st2
  have nfD:∀ b ∈ fp,b ≠ D:=fun b hb z=>by
    obtain ⟨o,e,_⟩:=fpl b hb
    rw [z,← hD] at e
    exact absurd (Heap.lt_size e) (Nat.lt_irrefl _)
  have cl_of:∀ y c,cl.lookup y = some c→X.env.cells.lookup y = some c:=fun y c e=>B.sub (y,c) (PySem.mem_of_lookup e)
  have old_c:∀ y c,cl.lookup y = some c→c < s3.heap.objs.size:=fun y c e=>by
    obtain ⟨v,o,eo,_⟩:=I3.cell y c (cl_of y c e)
    exact Heap.lt_size eo
  have lk:∀ y c,((x,s3.heap.objs.size + 1) :: cl).lookup y = some c→(y = x∧c = s3.heap.objs.size + 1) ∨ (y ≠ x∧cl.lookup y = some c):=fun y c e=>by
    by_cases z:y = x
    · subst z
      rw [List.lookup_cons,beq_self_eq_true] at e
      exact .inl ⟨rfl,(Option.some.inj e).symm⟩
    · rw [List.lookup_cons,beq_eq_false_iff_ne.mpr z] at e
      exact .inr ⟨z,e⟩
  have lk':∀ y c,y ≠ x→cl.lookup y = some c→((x,s3.heap.objs.size + 1) :: cl).lookup y = some c:=fun y c z e=>by
    rw [List.lookup_cons,beq_eq_false_iff_ne.mpr z]
    exact e
  have fpn:∀ b ∈ fp,b < s3.heap.objs.size:=fun b hb=>by
    obtain ⟨o,e,_⟩:=fpl b hb
    exact Heap.lt_size (k23 b o e)
  have stkf:=I3.stkFree
  have okB:(X.blkC N scope cl x s3 (upd H2 D (.lst [])) fp).Ok:=by
    refine ⟨I.ok.mod,B.kind,I.ok.glob,I.ok.blt,Nat.le_refl _,fun a b c e1 e2=>?inj,fun y hy=>?has,(fun y c z e=>?cab),(fun _=>I.ok.hd hc),I.ok.frames,.inl rfl,fun b hb=>⟨?_,fun y c e z=>?_⟩,fun b o e=>?_,Nat.le_trans I.ok.bsz I3.sz,fun b o e hb=>?_,fun b hb z=>?_,I3.stack,stkf⟩
    case inj=>
      rcases lk a c e1 with ⟨z1,ec1⟩ | ⟨_,f1⟩ <;> rcases lk b _ e2 with ⟨z2,ec⟩ | ⟨_,f2'⟩
      · rw [z1,z2]
      · have:=old_c _ _ f2'
        rw [ec1] at this
        exact absurd this (Nat.not_lt.mpr (Nat.le_succ _))
      · have:=old_c _ _ f1
        rw [ec] at this
        exact absurd this (Nat.not_lt.mpr (Nat.le_succ _))
      · exact I.ok.inj a b c (cl_of a c f1) (cl_of b c f2')
    case has=>
      by_cases z:y = x
      · subst z
        exact ⟨_,by rw [show (compEnvC scope ((y,s3.heap.objs.size + 1) :: cl) s3.heap.objs.size X.env).cells = (y,s3.heap.objs.size + 1) :: cl from rfl,List.lookup_cons,beq_self_eq_true]⟩
      · obtain ⟨c,ec⟩:=B.has y z hy
        exact ⟨c,lk' y c z ec⟩
    case cab=>
      have z:y = x:=by simpa using z
      rcases lk y c e with ⟨_,rfl⟩ | ⟨z',_⟩
      · exact Nat.le_succ _
      · exact absurd z z'
    · obtain ⟨o,e,_⟩:=fpl b hb
      exact below b o (k23 b o e)
    · rcases lk y c e with ⟨rfl,rfl⟩ | ⟨_,e⟩
      · rw [← z] at hb
        exact absurd (fpn _ hb) (Nat.not_lt.mpr (Nat.le_succ _))
      · exact (f2 b hb).2.2.2.2.1 y c (cl_of y c e) z
    · exact I3.bs b o e
    · rcases (f2 b hb).2.2.2.1 with z | z
      · exact I.ok.noex b o e z
      · exact absurd (Nat.lt_of_lt_of_le (Heap.lt_size e) (Nat.le_trans I.ok.bsz z)) (Nat.lt_irrefl _)
    · rcases List.mem_cons.mp (I3.stkSub b z) with z | z
      · exact (f2 b hb).2.1 z
      · exact (f2 b hb).2.2.1 z
  have IB:∀ tk:Nat,Inv (X.blkC N scope cl x s3 (upd H2 D (.lst [])) fp) [] (none :: ρ σ) (upd H2 D (.lst [])) { s3 with heap:=h₁,toks:=tk }:=fun tk=>by
    refine ⟨okB,rfl,I3.bare,Un.kept k34,⟨_,hns₁,fun j y v e1 e2 e3=>?_⟩,fun y c e=>?_,?_,fun y c e=>?fC,(fun p hp=>nomatch hp),I3.hok.kept k34,?_⟩
    · cases j with
      | zero=>cases e2
      | succ j=>
        obtain ⟨i,y',a1,a2,a3,a4,a5,a6⟩:=B.rho σ j v e2
        have e1':N[j + 1]? = some y:=e1
        rw [e1'] at a1
        cases a1
        obtain ⟨m,hn,hl⟩:=I3.loc
        obtain ⟨u,r,l⟩:=hl i y v a2 a3 a4
        refine ⟨u,r,.inr ⟨a6,?_⟩⟩
        have yx:y ≠ x:=fun z=>by
          have n0:=B.n0
          rw [← z] at n0
          have:=(List.getElem?_inj (List.getElem?_eq_some_iff.mp n0).1 B.nd).mp (n0.trans e1'.symm)
          omega
        obtain ⟨c,ec⟩:=B.has y yx a6
        rcases l with ⟨k,_⟩ | ⟨_,c',ec',z⟩
        · rcases a5 with q | q <;> (rw [k] at q; cases q)
        · have:=cl_of y c ec
          rw [this] at ec'
          cases ec'
          obtain ⟨o,ho,hd⟩:=z
          exact ⟨c,lk' y c yx ec,o,k34 _ _ ho,hd⟩
    case fC=>
      rcases lk y c e with ⟨rfl,rfl⟩ | ⟨_,e⟩
      · exact I3.hok.fresh (Nat.le_succ _)
      · exact I3.freeC y c (cl_of y c e)
    · rcases lk y c e with ⟨rfl,rfl⟩ | ⟨_,e⟩
      · exact ⟨none,hc₁⟩
      · obtain ⟨v,o,ho,hd⟩:=I3.cell y c (cl_of y c e)
        exact ⟨v,o,k34 _ _ ho,hd⟩
    · exact I3.hok.fresh (Nat.le_refl _)
    · show (none :: ρ σ).length = N.length
      rw [List.length_cons]
      exact B.len σ I.len
  have below3:∀ b o,s3.heap.get? b = some o→b ≠ s3.heap.objs.size:=below
  have fin:∀ {σ':St} {H':Hp} {s':Shared},Inv (X.blkC N scope cl x s3 (upd H2 D (.lst [])) fp) [] σ' H' s'→D0.nx (σ.set i0 (some (.ref D))) H'→compPost (model X.prog X.w) X.A X.xe (some (assign (.Name y py) X.env)) (fun _ s'=>SP X pins D0 .next s') (.ref D) s3.heap.objs.size (.ok .next) s':=fun {σ' H' s'} J q=>by
    obtain ⟨m,hn,_⟩:=J.loc
    have hn:s'.heap.Ns s3.heap.objs.size m:=hn
    have JC:H' s3.heap.objs.size = none:=J.free
    have u1:Un (frs X.stack) fp (upd H2 D (.lst [])) H' s3.heap s'.heap:=by
      refine ⟨fun b o e n hb hx=>J.base.keep b o e n hb hx,fun b o e n hb hx=>J.base.slot b o e n hb hx,J.base.free,fun b o e hx=>J.base.there b o e hx,J.base.tups,J.base.frzs,J.base.tbls⟩
    have IX:Inv X pins σ H' s':=I3.call' (ch:=fp) (J.os) u1 J.hok J.bare fun b hb=>by
      obtain ⟨g0,g1,g2,g3,g4,g5⟩:=f2 b hb
      exact ⟨g3,g1,g4,g5⟩
    have nl:X.env.locals ≠ s3.heap.objs.size:=by
      obtain ⟨m3,⟨o3,_,_,e3,_⟩,_⟩:=I3.loc
      exact below3 _ _ e3
    have nc:∀ z c,X.env.cells.lookup z = some c→c ≠ s3.heap.objs.size:=fun z c e=>by
      obtain ⟨v3,o3,e3,_⟩:=I3.cell z c e
      exact below3 _ _ e3
    refine wpAny_assign_Name (store_ok2 (v:=.ref D) IX hN hi0 hy rfl (fun s'' I'' hsb=>?_) hf)
    obtain ⟨a,hsb,ha⟩:=hsb
    have na:s3.heap.objs.size ≠ a:=by
      rcases ha with rfl | e
      · exact fun z=>nl z.symm
      · exact fun z=>nc _ _ e z.symm
    refine ⟨m,hn.sameBut hsb na,fun h' hs'=>⟨σ.set i0 (some (.ref D)),H',?_,q⟩⟩
    have u2:Un (frs X.stack) [s3.heap.objs.size] H' H' s''.heap h':=by
      refine ⟨fun b o e n hb hx=>(hs'.2 b (by simpa using hx)).trans e,fun b o e n hb hx=>⟨o.slots,(hs'.2 b (by simpa using hx)).trans e⟩,fun b o e n hx=>n,fun b o e hx=>⟨o,(hs'.2 b (by simpa using hx)).trans e⟩,fun b xs z=>z,fun b o u z=>z,fun b ps z=>⟨#[],by simpa using z⟩⟩
    have hokE:HOk X.prog X.w H' h':=fun b u e=>by
      refine (I''.hok b u e).stay (fun c v hc z=>(hs'.2 c fun y=>?_).trans z) (fun _ z=>z) fun _ _ z=>z
      have y':c = s3.heap.objs.size:=y
      rcases hc with hc | hc
      · rw [← hc,y',JC] at e
        cases e
      · rw [y',JC] at hc
        cases hc
    refine I''.call' (s':={ s'' with heap:=h' }) (ch:=[s3.heap.objs.size]) rfl u2 hokE I''.bare fun b hb=>?_
    have eb:b = s3.heap.objs.size:=by simpa using hb
    subst eb
    refine ⟨.inr I3.sz,fun z=>nl z.symm,fun z c e=>nc z c e,fun p hp=>?_⟩
    exact below3 _ _ (I3.pin p hp).1
  have stat:∀ {H':Hp},(∀ b ∈ fp,H' b = none)→∀ b ∈ fp,FpOk (X.blkC N scope cl x s3 (upd H2 D (.lst [])) fp) [] H' b:=fun hn b hb=>by
    refine ⟨hn b hb,?_,?_,.inl hb,fun y c e z=>?sc,fun p hp=>nomatch hp⟩
    case sc=>
      rcases lk y c e with ⟨rfl,rfl⟩ | ⟨_,e⟩
      · rw [← z] at hb
        exact absurd (fpn _ hb) (Nat.not_lt.mpr (Nat.le_succ _))
      · exact (f2 b hb).2.2.2.2.1 y c (cl_of y c e) z
    · obtain ⟨o,e,_⟩:=fpl b hb
      exact below b o (k23 b o e)
    · exact okB.exfs b hb
  have loop:∀ tk:Nat,codeAny (model X.prog X.w) X.A (.compLoop (.ListComp elt [⟨.Name x px,iter,ifs,0⟩] scope pos) 0 (.ref it) (.ref D) (compEnvC scope ((x,s3.heap.objs.size + 1) :: cl) s3.heap.objs.size X.env))
      (compPost (model X.prog X.w) X.A X.xe (some (assign (.Name y py) X.env)) (fun _ s'=>SP X pins D0 .next s') (.ref D) s3.heap.objs.size) { s3 with heap:=h₁,toks:=tk }:=fun tk=>by
    refine codeAny_compLoop_tests (fun n s'=>∃ i ys o H',Inv (X.blkC N scope cl x s3 (upd H2 D (.lst [])) fp) [] (o :: ρ σ) H' s'∧tn i s'.heap∧(∀ b ∈ fp,H' b = none)∧W i n ys H') ?_ m0
      ⟨0,[],none,_,IB tk,T.keep _ _ _ st2 fun b hb o e=>k34 _ _ (k23 _ _ e),fun b hb=>by rw [upd_ne (nfD b hb)]; exact (f2 b hb).1,w0⟩
    rintro n s4 ⟨i,ys,o,H4,I4,st4,fr4,w4⟩
    obtain ⟨hD4,hturn⟩:=turn i n ys H4 w4
    rcases hturn with ⟨stop,qn⟩ | ⟨go,step⟩
    · refine wpAny_mono (T.done (X.blkC N scope cl x s3 (upd H2 D (.lst [])) fp) rfl rfl rfl hc i [] s4 _ H4 (fun _ _=>False) I4 (stat fr4) st4 stop) (fun r s5 ⟨hr,I5⟩=>?_) fun _ _ z=>z.elim
      subst hr
      exact fin I5 qn
    · refine wpAny_mono (T.item (X.blkC N scope cl x s3 (upd H2 D (.lst [])) fp) rfl rfl rfl hc i [] s4 _ H4 (fun _ _=>False) I4 (stat fr4) st4 go) (fun r s5 ⟨u,hr,h5⟩=>?_) fun _ _ z=>z.elim
      subst hr
      have z:letOwnedTupleGo (.Name x px) (.ref it) u = pure ():=rfl
      rw [z] at h5
      show wpAny _ _ ((pure ():Sem Unit) >>= fun _=>assign (.Name x px) (compEnvC scope ((x,s3.heap.objs.size + 1) :: cl) s3.heap.objs.size X.env) u) _ _ s5
      refine wpAny_bind (wpAny_mono h5 (fun _ s5 ⟨y,H5,I5,r5,y5,st5,fr5⟩=>?_) fun _ _ z=>z.elim)
      have I5':=I5.pinned (stat fr5) (T.obj _ _ st5)
      have pg:PG (X.blkC N scope cl x s3 (upd H2 D (.lst [])) fp) (.Name x px) (gName 0):=pg_name (i:=0) B.nd B.n0 (.inr B.relx) (.inl (by show (x == x) = true; simp))
      have again:∀ {σ7:St} {H7:Hp} {s7:Shared},Inv (X.blkC N scope cl x s3 (upd H2 D (.lst [])) fp) ([] ++ pinsAt fp s5.heap) σ7 H7 s7→Inv (X.blkC N scope cl x s3 (upd H2 D (.lst [])) fp) [] σ7 H7 s7∧tn (i + 1) s7.heap∧∀ b ∈ fp,H7 b = none:=fun {σ7 H7 s7} I7=>by
        refine ⟨I7.unpinned,T.keep _ _ _ st5 fun b hb o e=>(I7.pin (b,o) (List.mem_append_right _ (List.mem_append_right _ (mem_pinsAt hb e)))).1,fun b hb=>?_⟩
        obtain ⟨o,e,d⟩:=T.obj _ _ st5 b hb
        exact (I7.pin (b,o) (List.mem_append_right _ (List.mem_append_right _ (mem_pinsAt hb e)))).2.1
      refine wpAny_mono (pg _ s5 _ H5 y u (fun σ2 H6=>σ2 = some y :: ρ σ∧H6 = H5) I5' r5 ⟨rfl,rfl⟩) (fun _ s6 ⟨σ6,H6,I6,q6⟩=>?_) fun _ _ z=>z.elim
      obtain ⟨rfl,rfl⟩:=q6
      have hstep:=step y _ y5
      have tests:∀ {tt':TT},PTs (X.blkC N scope cl x s3 (upd H2 D (.lst [])) fp) ifs tt'→∀ {R:Bool→Hp→Prop},tt' (some y :: ρ σ) H6 R→wpAny (model X.prog X.w) X.A
          (forIn ifs true fun c r=>if r = true then do let ok ← isTrue c (compEnvC scope ((x,s3.heap.objs.size + 1) :: cl) s3.heap.objs.size X.env) (eval c (compEnvC scope ((x,s3.heap.objs.size + 1) :: cl) s3.heap.objs.size X.env)); pure (ForInStep.yield ok) else pure (ForInStep.yield r))
          (fun ok s7=>∃ H7,Inv (X.blkC N scope cl x s3 (upd H2 D (.lst [])) fp) ([] ++ pinsAt fp s5.heap) (some y :: ρ σ) H7 s7∧R ok H7) (fun _ _=>False) s6:=fun {tt'} p {R} hR=>by
        cases p with
        | nil=>exact wpAny_tests_nil ⟨_,I6,hR⟩
        | one p=>exact wpAny_tests_one (p _ s6 _ _ _ I6 hR)
      refine wpAny_mono (tests (ht s3 _ fp) hstep) (fun ok s7 ⟨H7,I7,q7⟩=>?_) fun _ _ z=>z.elim
      cases ok with
      | false=>
        obtain ⟨m',hm',w7⟩:=q7
        obtain ⟨a1,a2,a3⟩:=again I7
        exact ⟨m',hm',i + 1,ys,_,H7,a1,a2,a3,w7⟩
      | true=>
        refine wpAny_mono (he s3 _ fp _ s7 _ H7 _ I7 q7) (fun ev s8 ⟨z,H8,I8,r8,hD8,hz,m',hm',w8⟩=>?_) fun _ _ z=>z.elim
        refine wpAny_mono (mt_append (X:=X.blkC N scope cl x s3 (upd H2 D (.lst [])) fp) _ s8 _ H8 (.ref D) [z] (.ref D) [ev] (fun _ H9=>H9 = upd H8 D (.lst (ys ++ [z]))) I8 rfl (.cons r8 .nil) ⟨D,ys,z,rfl,rfl,hD8,hz,rfl⟩) (fun _ s9 ⟨_,H9,I9,_,q9⟩=>?_) fun _ _ z=>z.elim
        subst q9
        obtain ⟨a1,a2,a3⟩:=again I9
        exact ⟨m',hm',i + 1,ys ++ [z],_,_,a1,a2,a3,w8⟩
  have start:=loop s3.toks
  have es:({ s3 with heap:=h₁,toks:=s3.toks }:Shared) = { s2 with heap:=h₁ }:=by rw [← hS3]
  rw [es] at start
  exact codeAny_compStart_list start (T.self _ 0 _ _ _ (T.keep _ _ _ st2 fun b hb o e=>k34 _ _ (k23 _ _ e)) start)
end
end L2
namespace L2
open PySem PySem.Spec PyProof.Rows
structure JSeq2 (J:It) (zs:List (V × V)) (H1:Hp):Prop where
  go:∀ i Hc,Same H1 Hc→i < zs.length→J.go i Hc
  yld:∀ i Hc v H',Same H1 Hc→J.yld i Hc v H'→∃ T x y,v = .ref T∧Hc T = none∧H' = upd Hc T (.tup [x,y])∧(i < zs.length→zs[i]? = some (x,y))
  stop:∀ i Hc,Same H1 Hc→zs.length ≤ i→J.stop i Hc
theorem jseq_zip {K:PySem.W.Frag} {a b:Addr} {xs ys:List V} {H1:Hp} (h1:SqL K H1 a xs) (h2:SqL K H1 b ys):JSeq2 (Itz K a b) (xs.zip ys) H1 where
  go:=fun i Hc s hi=>by
    have hi:i < min xs.length ys.length:=by simpa using hi
    exact ⟨xs,ys,xs[i],ys[i],s.seq h1,s.seq h2,by simp [show i < xs.length by omega],by simp [show i < ys.length by omega]⟩
  yld:=fun i Hc v H' s y=>by
    obtain ⟨T,x,y,nT,ev,eH,hx⟩:=y
    obtain ⟨e1,e2⟩:=hx xs ys (s.seq h1) (s.seq h2)
    exact ⟨T,x,y,ev,nT,eH,fun _=>by rw [List.getElem?_zip_eq_some]; exact ⟨e1,e2⟩⟩
  stop:=fun i Hc s hi=>by
    have hi:min xs.length ys.length ≤ i:=by simpa using hi
    exact ⟨xs,ys,s.seq h1,s.seq h2,by omega⟩
theorem comp_ofN {wi:TI} {ρ:St→St} {te:TE} {σ:St} {H:Hp} {Q:VK} {xs:List V} (hwi:∀ R:It→Hp→Prop,(∀ J H1,Same H H1→JSeq J xs H1→R J H1)→wi σ H R) (hn:xs.length < sizeLine)
    (P:Addr→Nat→V→Hp→Prop) (mono:∀ D i y H H' ys,P D i y H→H D = some (.lst ys)→(∀ b o,b ≠ D→H b = some o→H' b = some o)→P D i y H')
    (step:∀ D i x,xs[i]? = some x→∀ (Hc:Hp) (R:VK),Same H Hc→(∃ ys,Hc D = some (.lst ys))→(∀ y H3,Same Hc H3→P D i y H3→R y H3)→te (some x :: ρ σ) Hc R)
    (fin:∀ D ys Hc,H D = none→Same H Hc→ys.length = xs.length→(∀ (i:Nat) (y:V),ys[i]? = some y→P D i y Hc)→Hc D = some (.lst ys)→Q (.ref D) Hc):tComp wi ρ (fun _ H Q=>Q true H) te σ H Q:=by
  refine hwi _ fun J H1 s1 js=>?_
  intro D nD
  have hD:H D = none:=by
    cases e:H D with
    | none=>rfl
    | some o=>rw [s1 _ _ e] at nD; cases nD
  exact comp_seq (ρσ:=ρ σ) (te:=te) (Q:=Q) js nD hn (P D) (mono D) (fun i x hx Hc R sc=>step D i x hx Hc R (s1.trans sc)) (fun ys Hc sc=>fin D ys Hc hD (s1.trans sc))
theorem for_zip {K:PySem.W.Frag} {l1 l2:Addr} {xs ys:List V} {g:TG} {tb:TS} {D:Ends} {σ:St} {H:Hp} (Pv:Nat→St→Hp→Prop) (h0:Pv 0 σ H) (hl:∀ i σ H,Pv i σ H→SqL K H l1 xs∧SqL K H l2 ys)
    (hs:∀ (i:Nat) (x y:V) σ H T,(xs.zip ys)[i]? = some (x,y)→Pv i σ H→H T = none→g (.ref T) σ (upd H T (.tup [x,y])) fun σ2 H2=>tb { D with nx:=Pv (i + 1),ct:=Pv (i + 1),bk:=D.nx } σ2 H2) (hd:∀ σ H,Pv (xs.zip ys).length σ H→D.nx σ H) :
    ∃ W:Nat→Nat→St→Hp→Prop,(∃ m,W 0 m σ H)∧∀ i m σ H,W i m σ H→
      ((Itz K l1 l2).stop i H∧D.nx σ H) ∨ ((Itz K l1 l2).go i H∧∃ N:St→Hp→Prop,(∀ σ' H',N σ' H'→∃ m',m' < m∧W (i + 1) m' σ' H')∧∀ x H',(Itz K l1 l2).yld i H x H'→g x σ H' fun σ2 H2=>tb { D with nx:=N,ct:=N,bk:=D.nx } σ2 H2):=by
  refine ⟨fun i m σ H=>m = (xs.zip ys).length - i∧i ≤ (xs.zip ys).length∧Pv i σ H,⟨(xs.zip ys).length,by simp,Nat.zero_le _,h0⟩,?_⟩
  rintro i m σ H ⟨rfl,hi,p⟩
  obtain ⟨q1,q2⟩:=hl i σ H p
  have js:=jseq_zip q1 q2
  by_cases hlt:i < (xs.zip ys).length
  · refine .inr ⟨js.go i H (Same.refl H) hlt,Pv (i + 1),fun σ' H' p'=>⟨(xs.zip ys).length - (i + 1),by omega,rfl,hlt,p'⟩,fun v H' hy=>?_⟩
    obtain ⟨T,x,y,rfl,nT,rfl,hx⟩:=js.yld i H v H' (Same.refl H) hy
    exact hs i x y σ H T (hx hlt) p nT
  · have e:i = (xs.zip ys).length:=by omega
    subst e
    exact .inl ⟨js.stop _ H (Same.refl H) (Nat.le_refl _),hd σ H p⟩
end L2
namespace L2
open PySem PySem.Spec PyProof.Rows
section
variable {X:Cx} {K:PySem.W.Frag}
theorem ix_tupK (hK:X.K = K:=by rfl):IxR X (rIxT K):=by
  subst hK
  exact ix_tup
theorem ix_listK (hK:X.K = K:=by rfl):IxR X (rIxL K):=by
  subst hK
  exact ix_list
def lenR (K:PySem.W.Frag):List V→Hp→VK→Prop:=fun xs H Q=>∃ p ys,xs = [.ref p]∧(SqL K H p ys ∨ SqT K H p ys)∧Q (.int (ys.length:Int)) H
theorem call_len_seqK (hK:X.K = K:=by rfl):CallR X (.builtin "len") (lenR K):=by
  subst hK
  exact call_len_seq
def listR (K:PySem.W.Frag):List V→Hp→VK→Prop:=fun xs H Q=>∃ p ys,xs = [.ref p]∧(SqL K H p ys ∨ SqT K H p ys)∧∀ l,H l = none→Q (.ref l) (upd H l (.lst ys))
theorem call_list_ofK (hK:X.K = K:=by rfl):CallR X (.type "list") (listR K):=by
  subst hK
  exact call_list_of
end
end L2
namespace My
open PySem L2
theorem cb_of {r:List V→Hp→VK→Prop} {te:TE} {σ:St} {H:Hp} {Q:VK} (h:te σ H fun x H1=>r [x] H1 Q):tCB r (tCons te tNil) σ H Q:=h
theorem ret_of {te:TE} {D:Ends} {σ:St} {H:Hp} (h:te σ H D.rt):tRet te D σ H:=h
theorem tup1_of {te:TE} {t:TA} {σ:St} {H:Hp} {Q:VK} (h:te σ H fun x H1=>t σ H1 fun xs H2=>(x :: xs).length ≤ sizeLine∧∀ p,H2 p = none→Q (.ref p) (upd H2 p (.tup (x :: xs)))):tTup (tCons te t) σ H Q:=h
theorem vals_of {vs:List V} {ws:List Int} (hl:vs.length = ws.length) (h:∀ (i:Nat) (v:V),vs[i]? = some v→∃ w,ws[i]? = some w∧v = .int w):vs = ws.map V.int:=by
  refine List.ext_getElem? fun i=>?_
  rw [List.getElem?_map]
  by_cases hi:i < vs.length
  · obtain ⟨w,e1,e2⟩:=h i vs[i] (by simp [hi])
    rw [e1,show vs[i]? = some vs[i] by simp [hi],e2]
    rfl
  · rw [List.getElem?_eq_none (by omega),List.getElem?_eq_none (by omega)]
    rfl
def WhNew (H0 H:Hp) (v:V) (ts:List Int) (B:Int):Prop:=∃ tp l:Addr,v = .ref tp∧H tp = some (.tup [.ref l,.int B])∧H l = some (.lst (ts.map V.int))∧H0 l = none
theorem lcm_step {b m:Int} (hb:1 ≤ b) (hm:1 ≤ m):1 ≤ b / (Int.gcd b m:Int) * m∧m ∣ b / (Int.gcd b m:Int) * m∧b ∣ b / (Int.gcd b m:Int) * m∧(b / (Int.gcd b m:Int) * m).natAbs ≤ b.natAbs * m.natAbs:=by
  have gp:=gcd_pos (a:=b) (b:=m) (by omega)
  obtain ⟨b',eb⟩:=Int.gcd_dvd_left (a:=b) (b:=m)
  obtain ⟨m',em⟩:=Int.gcd_dvd_right (a:=b) (b:=m)
  generalize Int.gcd b m = g at *
  have g0:(g:Int) ≠ 0:=by omega
  have gb:b / (g:Int) = b':=by rw [eb]; exact Int.mul_ediv_cancel_left _ g0
  rw [gb]
  have b0:0 < b':=pos_part (u:=(g:Int)) (by omega) (by rw [← eb]; omega)
  have mp:0 < b' * m:=Int.mul_pos b0 (by omega)
  refine ⟨by omega,Int.dvd_mul_left ..,⟨m',?_⟩,?_⟩
  · rw [em,eb]
    simp only [Int.mul_assoc,Int.mul_comm,Int.mul_left_comm]
  · rw [Int.natAbs_mul]
    refine Nat.mul_le_mul_right _ ?_
    rw [← gb]
    exact Int.natAbs_ediv_le_natAbs ..
theorem pick {α β:Type} {xs:List α} {R:Nat→α→β→Prop} (h:∀ (i:Nat) (x:α),xs[i]? = some x→∃ w,R i x w):∃ ws:List β,ws.length = xs.length∧∀ (i:Nat) (x:α) (w:β),xs[i]? = some x→ws[i]? = some w→R i x w:=by
  refine ⟨List.ofFn fun i:Fin xs.length=>Classical.choose (h i.1 xs[i.1] (by simp)),by simp,fun i x w hx hw=>?_⟩
  have hi:i < xs.length:=(List.getElem?_eq_some_iff.mp hx).1
  have ex:xs[i] = x:=(List.getElem?_eq_some_iff.mp hx).2
  rw [List.getElem?_ofFn,dif_pos hi] at hw
  have hw:=Option.some.inj hw
  rw [← hw]
  have z:=Classical.choose_spec (h i xs[i] (by simp [hi]))
  rw [← ex]
  exact z
theorem nz_mul {q b c:Int} (hq:WheelN q) (h1:¬ q ∣ b) (h2:¬ q ∣ c):¬ q ∣ b * c:=fun h=>by
  rcases hq with rfl | ⟨q2,q3,q4⟩
  · have z:=Int.zero_dvd.mp h
    rcases Int.mul_eq_zero.mp z with z | z
    · exact h1 (by rw [z]; exact Int.dvd_refl 0)
    · exact h2 (by rw [z]; exact Int.dvd_refl 0)
  · have k1:=Int.emod_nonneg c (show q ≠ 0 by omega)
    have k2:=Int.emod_lt_of_pos c (show 0 < q by omega)
    have k3:c % q ≠ 0:=fun z=>h2 (Int.dvd_of_emod_eq_zero z)
    have g:=prime_cop q2 q3 q4 (show 1 ≤ c % q by omega) k2
    obtain ⟨w,ew⟩:=mod_wit c q
    exact h1 (dvd_cop q2 (cop_cong g ⟨-w,by rw [Int.mul_neg]; omega⟩) h)
theorem IsN.far {H H':Hp} {q:Int} {v:V} {t b:Int} {D:Addr} {ys:List V} (h:IsN H q v t b) (eD:H D = some (.lst ys)) (k:∀ b o,b ≠ D→H b = some o→H' b = some o):IsN H' q v t b:=by
  cases h with
  | frac e l hb h=>
    refine .frac (k _ _ (fun z=>?_) e) l hb h
    rw [z,eD] at e
    cases e
  | rem q2 h0 h1 g h=>exact .rem q2 h0 h1 g h
def BotOk (q:Int) (b:Int):Prop:=(q = 0→1 ≤ b)∧(q ≠ 0→b = 1)
theorem NumAt.bot {B:Nat} {H:Hp} {q:Int} {v:V} {x m:Int} (h:NumAt B H q v x m) (hq:WheelN q):BotOk q m:=by
  cases h with
  | frac e l bx bm=>exact ⟨fun _=>l.pos,fun z=>absurd rfl z⟩
  | rem h0 h1 h2=>exact ⟨fun _=>by omega,fun _=>rfl⟩
theorem ifs_of {c:TT} {t u:TS} {D:Ends} {σ:St} {H:Hp} (h:c σ H fun b H1=>if b = true then t D σ H1 else u D σ H1):tIfS c t u D σ H:=h
theorem tb_of {te:TE} {σ:St} {H:Hp} {Q:Bool→Hp→Prop} (h:te σ H fun x H1=>∃ c,x = .bl c∧Q c H1):tB te σ H Q:=h
theorem bls_of {vs:List V} {b:Bool} (h:∀ (i:Nat) (v:V),vs[i]? = some v→v = .bl b):vs = (List.replicate vs.length b).map V.bl:=by
  refine List.ext_getElem? fun i=>?_
  rw [List.getElem?_map]
  by_cases hi:i < vs.length
  · rw [show vs[i]? = some vs[i] by simp [hi],h i vs[i] (by simp [hi])]
    simp [hi]
  · rw [List.getElem?_eq_none (by omega),List.getElem?_eq_none (by simp; omega)]
    rfl
theorem any_no (n:Nat):(List.replicate n false).any id = false:=by simp
theorem op_of {r:R2} {ta tb:TE} {σ:St} {H:Hp} {Q:VK} (h:ta σ H fun x H1=>tb σ H1 fun y H2=>r x y H2 Q):tOp r ta tb σ H Q:=h
theorem rng_at {n i:Nat} {v:V} (h:((List.range n).map fun i:Nat=>V.int (0 + (i:Int)))[i]? = some v):i < n∧v = .int (i:Int):=by
  have hi':i < n:=by
    have:=(List.getElem?_eq_some_iff.mp h).1
    simpa using this
  refine ⟨hi',?_⟩
  rw [List.getElem?_map] at h
  simp [hi'] at h
  exact h.symm
theorem none_of {H H':Hp} {b:Addr} (s:Same H H') (h:H' b = none):H b = none:=by
  cases e:H b with
  | none=>rfl
  | some o=>rw [s _ _ e] at h; cases h
end My
namespace My
open PySem L2
def FRow (H:Hp) (q:Int) (r:Addr) (M:Nat) (g:Nat→Int × Int):Prop:=∃ ws:List V,H r = some (.lst ws)∧ws.length = M∧∀ (j:Nat) (w:V),ws[j]? = some w→IsN H q w (g j).1 (g j).2
def mulP (x y:Int × Int):Int × Int:=(x.1 * y.1,x.2 * y.2)
def o1:Int × Int:=(0,1)
theorem getD_at {α:Type} {xs:List α} {d:α} {i:Nat} (hi:i < xs.length):xs.getD i d = xs[i]:=by
  rw [List.getD_eq_getElem?_getD,show xs[i]? = some xs[i] by simp [hi]]
  rfl
theorem cut_div {c k j:Nat} (h:j < k):(c * k + j) / k = c:=by
  rw [Nat.mul_comm,Nat.mul_add_div (by omega),Nat.div_eq_of_lt h,Nat.add_zero]
theorem cut_mod {c k j:Nat} (h:j < k):(c * k + j) % k = j:=by
  rw [Nat.mul_comm,Nat.mul_add_mod,Nat.mod_eq_of_lt h]
theorem drop_of {te:TE} {D:Ends} {σ:St} {H:Hp} (h:te σ H fun _ H1=>D.nx σ H1):tDrop te D σ H:=h
end My
namespace My
open PySem L2
def RowN (H:Hp) (q:Int) (a:Addr) (ps:List (Int × Int)):Prop:=∃ vs:List V,H a = some (.lst vs)∧vs.length = ps.length∧∀ (i:Nat) (v:V) (p:Int × Int),vs[i]? = some v→ps[i]? = some p→NumAt (10 ^ 60) H q v p.1 p.2
end My
namespace My
open PySem L2
def Weq (q:Int) (p t:Int × Int):Prop:=q ∣ p.1 * t.2 - t.1 * p.2
def sumN:Nat→(Nat→Int)→Int
  | 0,_=>0
  | n + 1,f=>f 0 + sumN n fun i=>f (i + 1)
theorem sumN_congr:∀ {n:Nat} {f g:Nat→Int},(∀ i,i < n→f i = g i)→sumN n f = sumN n g
  | 0,f,g,_=>rfl
  | n + 1,f,g,h=>by
    unfold sumN
    rw [h 0 (by omega),sumN_congr fun i hi=>h (i + 1) (by omega)]
theorem sumN_add:∀ (n:Nat) (f g:Nat→Int),sumN n (fun i=>f i + g i) = sumN n f + sumN n g
  | 0,f,g=>rfl
  | n + 1,f,g=>by
    show f 0 + g 0 + sumN n (fun i=>f (i + 1) + g (i + 1)) = (f 0 + sumN n fun i=>f (i + 1)) + (g 0 + sumN n fun i=>g (i + 1))
    rw [sumN_add n]
    omega
theorem sumN_mul (c:Int):∀ (n:Nat) (f:Nat→Int),c * sumN n f = sumN n fun i=>c * f i
  | 0,f=>by unfold sumN; rw [Int.mul_zero]
  | n + 1,f=>by
    unfold sumN
    rw [Int.mul_add,sumN_mul c n]
theorem sumN_zero:∀ (n:Nat),sumN n (fun _=>0) = 0
  | 0=>rfl
  | n + 1=>by unfold sumN; rw [sumN_zero n]; rfl
theorem sumN_swap:∀ (n m:Nat) (F:Nat→Nat→Int),sumN n (fun i=>sumN m fun j=>F i j) = sumN m fun j=>sumN n fun i=>F i j
  | 0,m,F=>by
    show (0:Int) = _
    rw [show (fun j=>sumN 0 fun i=>F i j) = fun _=>(0:Int) from rfl,sumN_zero]
  | n + 1,m,F=>by
    show (sumN m fun j=>F 0 j) + sumN n (fun i=>sumN m fun j=>F (i + 1) j) = sumN m fun j=>F 0 j + sumN n fun i=>F (i + 1) j
    rw [sumN_swap n m,← sumN_add]
theorem sumN_one:∀ (n j:Nat) (f:Nat→Int),j < n→sumN n (fun i=>if i = j then f i else 0) = f j
  | n + 1,0,f,_=>by
    show (if (0:Nat) = 0 then f 0 else 0) + sumN n (fun i=>if i + 1 = 0 then f (i + 1) else 0) = f 0
    rw [if_pos rfl,show (fun i=>if i + 1 = 0 then f (i + 1) else 0) = fun _=>(0:Int) from funext fun i=>if_neg (by omega),sumN_zero]
    omega
  | n + 1,j + 1,f,h=>by
    show (if (0:Nat) = j + 1 then f 0 else 0) + sumN n (fun i=>if i + 1 = j + 1 then f (i + 1) else 0) = f (j + 1)
    rw [if_neg (by omega),show (fun i=>if i + 1 = j + 1 then f (i + 1) else 0) = fun i=>if i = j then (fun i=>f (i + 1)) i else 0 from funext fun i=>by by_cases z:i = j <;> simp [z],sumN_one n j (fun i=>f (i + 1)) (by omega)]
    omega
theorem one_bot {q:Int}:∀ (xs:List (Int × Int)),(∀ p ∈ xs,BotOk q p.2)→(q = 0 ∨ q ≠ 0)→∃ D:Int,BotOk q D∧∀ p ∈ xs,p.2 ∣ D
  | [],_,_=>⟨1,⟨fun _=>by decide,fun _=>rfl⟩,fun p hp=>by simp at hp⟩
  | x :: xs,h,hq=>by
    obtain ⟨D,h1,h2⟩:=one_bot xs (fun p hp=>h p (List.mem_cons_of_mem _ hp)) hq
    have hx:=h x List.mem_cons_self
    refine ⟨x.2 * D,⟨fun z=>?_,fun z=>?_⟩,fun p hp=>?_⟩
    · have:=Int.mul_pos (show 0 < x.2 by have:=hx.1 z; omega) (show 0 < D by have:=h1.1 z; omega)
      omega
    · rw [hx.2 z,h1.2 z]; rfl
    · rcases List.mem_cons.mp hp with e | e
      · rw [e]; exact Int.dvd_mul_right ..
      · exact Int.dvd_trans (h2 p e) (Int.dvd_mul_left ..)
def topOver (D:Int) (p:Int × Int):Int:=p.1 * (D / p.2)
theorem weq_over {q D:Int} {p:Int × Int} (h:p.2 ∣ D) (ok:BotOk q p.2):Weq q p (topOver D p,D):=by
  obtain ⟨c,e⟩:=h
  refine ⟨0,?_⟩
  rw [Int.mul_zero]
  unfold topOver
  dsimp only
  by_cases z:p.2 = 0
  · rw [z,Int.zero_mul] at e
    rw [e,z]
    simp
  · rw [e,Int.mul_ediv_cancel_left _ z]
    grind
theorem isN_num {B:Nat} {H:Hp} {q:Int} {v:V} {t b:Int} (h:IsN H q v t b) (hq:WheelN q) (bt:t.natAbs ≤ B) (bb:b.natAbs ≤ B):∃ xm:Int × Int,NumAt B H q v xm.1 xm.2∧Weq q xm (t,b):=by
  cases h with
  | frac e l hb h=>
    rename_i p x m
    obtain ⟨c1,c2⟩:=can_bd l hb h
    exact ⟨(x,m),.frac e l (Nat.le_trans c1 bt) (Nat.le_trans c2 bb),⟨0,by dsimp only; rw [h]; omega⟩⟩
  | rem q2 h0 h1 g h=>
    rename_i r
    obtain ⟨k,ek⟩:=h
    have q3:q ≤ 997:=by rcases hq with z | ⟨_,z,_⟩ <;> omega
    exact ⟨(r,1),.rem h0 h1 q3,⟨k,by dsimp only; rw [Int.mul_one]; exact ek⟩⟩
end My
namespace My
open PySem L2
def unitRow (n i:Nat):List (Int × Int):=(List.range n).map fun j=>if j = i then ((1:Int),(1:Int)) else ((0:Int),(1:Int))
theorem of_small {B:Nat} (hB:1 ≤ B) {H:Hp} {q:Int} {v:V} {a:Int} (h:OfAt H q v a 1) (hq:WheelN q) (ha:a = 0 ∨ a = 1):NumAt B H q v a 1:=by
  rcases h with ⟨rfl,r,rfl,e⟩ | ⟨q2,r,rfl,r0,r1,er⟩
  · rw [(low_fd1 a).1,(low_fd1 a).2] at e
    exact .frac e ⟨by decide,Int.gcd_one_right ..⟩ (by rcases ha with rfl | rfl <;> simp [hB]) (by simpa using hB)
  · have q3:q ≤ 997:=by rcases hq with z | ⟨_,z,_⟩ <;> omega
    rw [Int.emod_eq_of_lt (show (0:Int) ≤ 1 by decide) (show (1:Int) < q by omega),Int.mul_one,Int.emod_eq_of_lt r0 r1] at er
    have ea:a % q = a:=Int.emod_eq_of_lt (by omega) (by omega)
    rw [ea] at er
    subst er
    exact .rem r0 r1 q3
theorem one_noOv {q:Int} (hq:WheelN q):¬ NoOv q 1:=fun h=>by
  unfold NoOv at h
  rcases hq with rfl | ⟨q2,q3,q4⟩
  · rw [if_pos rfl] at h; omega
  · rw [if_neg (by omega),Int.emod_eq_of_lt (by omega) (by omega)] at h; omega
end My
namespace My
open PySem L2
theorem BotOk.one {q:Int}:BotOk q 1:=⟨fun _=>by decide,fun _=>rfl⟩
theorem tab_rep {q:Int} {pss:List (List (Int × Int))} {N M:Nat} (hb:∀ ps ∈ pss,∀ p ∈ ps,BotOk q p.2) (hN:pss.length = N) (hM:∀ ps ∈ pss,ps.length = M):∃ (D:Int) (A:Nat→Nat→Int),BotOk q D∧∀ i j,i < N→j < M→Weq q ((pss.getD i []).getD j o1) (A i j,D):=by
  obtain ⟨D,h1,h2⟩:=one_bot pss.flatten (fun p hp=>by
    obtain ⟨ps,a,b⟩:=List.mem_flatten.mp hp
    exact hb ps a p b) (Classical.em _)
  refine ⟨D,fun i j=>topOver D ((pss.getD i []).getD j o1),h1,fun i j hi hj=>?_⟩
  have hi':i < pss.length:=by omega
  dsimp only
  rw [getD_at hi']
  have hj':j < pss[i].length:=by rw [hM _ (List.getElem_mem hi')]; exact hj
  rw [getD_at hj']
  exact weq_over (h2 _ (List.mem_flatten.mpr ⟨_,List.getElem_mem hi',List.getElem_mem hj'⟩)) (hb _ (List.getElem_mem hi') _ (List.getElem_mem hj'))
theorem NumAt.both {B:Nat} {H:Hp} {q:Int} {v:V} {x m:Int} (h:NumAt B H q v x m) (b1:1000 ≤ B):x.natAbs ≤ B∧m.natAbs ≤ B:=by
  cases h with
  | frac e l bx bm=>exact ⟨bx,bm⟩
  | rem h0 h1 h2=>exact ⟨by omega,by show Int.natAbs 1 ≤ B; omega⟩
theorem unit_len {n i:Nat}:(unitRow n i).length = n:=by simp [unitRow]
theorem sums_assoc (k m:Nat) (A:Nat→Int) (B:Nat→Nat→Int) (R:Nat→Int):(sumN k fun j=>(sumN m fun l=>A l * B l j) * R j) = sumN m fun l=>A l * sumN k fun j=>B l j * R j:=by
  have e1:(fun j=>(sumN m fun l=>A l * B l j) * R j) = fun j=>sumN m fun l=>A l * (B l j * R j):=funext fun j=>by
    rw [Int.mul_comm,sumN_mul]
    exact sumN_congr fun l _=>by rw [Int.mul_comm,Int.mul_assoc]
  rw [e1,sumN_swap]
  exact sumN_congr fun l _=>(sumN_mul ..).symm
end My
namespace My
open PySem L2
def RowG (B:Nat) (H:Hp) (q:Int) (a:Addr) (ps:List (Int × Int)):Prop:=∃ vs:List V,H a = some (.lst vs)∧vs.length = ps.length∧∀ (i:Nat) (v:V) (p:Int × Int),vs[i]? = some v→ps[i]? = some p→NumAt B H q v p.1 p.2
theorem RowG.mono {B:Nat} {H H':Hp} {q:Int} {a:Addr} {ps:List (Int × Int)} (h:RowG B H q a ps) (s:Same H H'):RowG B H' q a ps:=by
  obtain ⟨vs,e,l,k⟩:=h
  exact ⟨vs,s _ _ e,l,fun i v p h1 h2=>(k i v p h1 h2).mono s⟩
theorem NumAt.weak {B B':Nat} {H:Hp} {q:Int} {v:V} {x m:Int} (h:NumAt B H q v x m) (hb:B ≤ B'):NumAt B' H q v x m:=by
  cases h with
  | frac e l bx bm=>exact .frac e l (Nat.le_trans bx hb) (Nat.le_trans bm hb)
  | rem h0 h1 h2=>exact .rem h0 h1 h2
theorem RowG.weak {B B':Nat} {H:Hp} {q:Int} {a:Addr} {ps:List (Int × Int)} (h:RowG B H q a ps) (hb:B ≤ B'):RowG B' H q a ps:=by
  obtain ⟨vs,e,l,k⟩:=h
  exact ⟨vs,e,l,fun i v p h1 h2=>(k i v p h1 h2).weak hb⟩
theorem cutV_take (xs:List V) (k:Nat) (h:k ≤ xs.length):cutV xs none (some (k:Int)) = xs.take k:=by
  have e:HT.sIx xs.length xs.length (some (k:Int)) = k:=by
    rw [HT.sIx_nat]
    omega
  unfold cutV
  rw [e,show HT.sIx xs.length 0 none = 0 from rfl,List.drop_zero,Nat.sub_zero]
theorem RowG.take {B:Nat} {H:Hp} {q:Int} {r:Addr} {vs:List V} {ps:List (Int × Int)} {k:Nat} (e:H r = some (.lst (vs.take k))) (l:vs.length = ps.length) (f:∀ (i:Nat) (v:V) (p:Int × Int),vs[i]? = some v→ps[i]? = some p→NumAt B H q v p.1 p.2):RowG B H q r (ps.take k):=by
  refine ⟨vs.take k,e,by simp [l],fun i v p h1 h2=>?_⟩
  have hi:i < k:=by
    have:=(List.getElem?_eq_some_iff.mp h1).1
    rw [List.length_take] at this
    omega
  rw [List.getElem?_take_of_lt hi] at h1 h2
  exact f i v p h1 h2
end My
namespace L2
open PySem PySem.Spec PyProof.Rows
end L2
namespace My
open PySem L2
theorem RowG.cat {B:Nat} {H:Hp} {q:Int} {r:Addr} {vs us:List V} {ps rs:List (Int × Int)} (e:H r = some (.lst (vs ++ us))) (l1:vs.length = ps.length) (l2:us.length = rs.length) (f1:∀ (i:Nat) (v:V) (p:Int × Int),vs[i]? = some v→ps[i]? = some p→NumAt B H q v p.1 p.2) (f2:∀ (i:Nat) (v:V) (p:Int × Int),us[i]? = some v→rs[i]? = some p→NumAt B H q v p.1 p.2):RowG B H q r (ps ++ rs):=by
  refine ⟨vs ++ us,e,by simp [l1,l2],fun i v p h1 h2=>?_⟩
  by_cases hi:i < vs.length
  · rw [List.getElem?_append_left hi] at h1
    rw [List.getElem?_append_left (by omega)] at h2
    exact f1 i v p h1 h2
  · rw [List.getElem?_append_right (by omega)] at h1
    rw [List.getElem?_append_right (by omega),← l1] at h2
    exact f2 _ v p h1 h2
end My
namespace L2
open PySem PySem.Spec PyProof.Rows
theorem comp2_ofX {K:PySem.W.Frag} {wi:TI} {ρ:St→St} {te:TE} {σ:St} {H:Hp} {Q:VK} {Z:List (V × V)→Hp→Prop} (hwi:∀ R:It→Hp→Prop,(∀ J H1 zs,Same H H1→JSeq2 J zs H1→zs.length < sizeLine→Z zs H1→R J H1)→wi σ H R)
    (P:Addr→Nat→V→Hp→Prop) (mono:∀ D i y H H' ys,P D i y H→H D = some (.lst ys)→(∀ b o,b ≠ D→H b = some o→H' b = some o)→P D i y H')
    (step:∀ zs H1,Z zs H1→Same H H1→∀ D i x y,zs[i]? = some (x,y)→∀ (Hc:Hp) (R:VK),Same H1 Hc→(∃ ys,Hc D = some (.lst ys))→(∀ v H3,Same Hc H3→P D i v H3→R v H3)→te (some x :: some y :: ρ σ) Hc R)
    (fin:∀ zs H1,Z zs H1→Same H H1→∀ D vs Hc,H D = none→Same H1 Hc→vs.length = zs.length→(∀ (i:Nat) (v:V),vs[i]? = some v→P D i v Hc)→Hc D = some (.lst vs)→Q (.ref D) Hc):tComp2 K wi ρ (fun _ H Q=>Q true H) te σ H Q:=by
  refine hwi _ fun J H1 zs s1 js hn hZ=>?_
  intro D nD
  have hD:H D = none:=by
    cases e:H D with
    | none=>rfl
    | some o=>rw [s1 _ _ e] at nD; cases nD
  refine ⟨fun i m vs Hc=>m = zs.length - i∧i ≤ zs.length∧Hc D = some (.lst vs)∧Same H1 Hc∧vs.length = i∧∀ (j:Nat) (v:V),vs[j]? = some v→P D j v Hc,⟨_,rfl,Nat.zero_le _,upd_same,same_but (Same.refl H1) nD,rfl,fun j y e=>by simp at e⟩,?_⟩
  rintro i m vs Hc ⟨rfl,hi,eD,sH,el,hP⟩
  refine ⟨eD,?_⟩
  by_cases hlt:i < zs.length
  · refine .inr ⟨js.go i Hc sH hlt,fun v H' hy=>?_⟩
    obtain ⟨T,x,y,ev,nT,eH,hx⟩:=js.yld i Hc v H' sH hy
    subst ev eH
    refine ⟨T,x,y,rfl,.of upd_same,?_⟩
    dsimp only
    rw [if_pos rfl]
    have sT:Same Hc (upd Hc T (.tup [x,y])):=fun b o e=>by rw [upd_ne (ne_of_none e nT)]; exact e
    refine step zs H1 hZ s1 D i x y (hx hlt) _ _ (sH.trans sT) ⟨vs,sT _ _ eD⟩ fun w H3 s3 hp=>?_
    have e3:=s3 _ _ (sT _ _ eD)
    have far:∀ b o,b ≠ D→H3 b = some o→upd H3 D (.lst (vs ++ [w])) b = some o:=fun b o nb e=>by rw [upd_ne nb]; exact e
    refine ⟨e3,by omega,zs.length - (i + 1),by omega,rfl,hlt,upd_same,same_but (sH.trans (sT.trans s3)) nD,by simp [el],fun j v' e=>?_⟩
    by_cases hj:j < i
    · exact mono D j v' Hc _ vs (hP j v' (by rw [List.getElem?_append_left (by omega)] at e; exact e)) eD fun b o nb e=>far b o nb (s3 _ _ (sT _ _ e))
    · have hj:j = i:=by
        have:=(List.getElem?_eq_some_iff.mp e).1
        simp at this
        omega
      subst hj
      have e':v' = w:=by rw [List.getElem?_append_right (by omega),el,Nat.sub_self] at e; simpa using e.symm
      subst e'
      exact mono D _ _ H3 _ vs hp e3 far
  · have e:i = zs.length:=by omega
    subst e
    exact .inl ⟨js.stop _ Hc sH (Nat.le_refl _),fin zs H1 hZ s1 D vs Hc hD sH el hP eD⟩
end L2
namespace My
open PySem L2
end My
namespace L2
open PySem PySem.Spec PyProof.Rows
section
variable {X:Cx}
end
end L2
namespace My
open PySem L2
theorem sumN_last:∀ (n:Nat) (f:Nat→Int),sumN (n + 1) f = sumN n f + f n
  | 0,f=>by show f 0 + 0 = 0 + f 0; omega
  | n + 1,f=>by
    show f 0 + sumN (n + 1) (fun i=>f (i + 1)) = (f 0 + sumN n fun i=>f (i + 1)) + f (n + 1)
    rw [sumN_last n]
    omega
end My
namespace My
open PySem L2
def Canon (q:Int) (p:Int × Int):Prop:=(q = 0→Low p.1 p.2)∧(q ≠ 0→p.2 = 1∧0 ≤ p.1∧p.1 < q)
theorem NumAt.canon {B:Nat} {H:Hp} {q:Int} {v:V} {x m:Int} (h:NumAt B H q v x m):Canon q (x,m):=by
  cases h with
  | frac e l bx bm=>exact ⟨fun _=>l,fun z=>absurd rfl z⟩
  | rem h0 h1 h2=>exact ⟨fun z=>by omega,fun _=>⟨rfl,h0,h1⟩⟩
end My
namespace My
open PySem L2
theorem BotOk.nz {q b:Int} (hq:WheelN q) (h:BotOk q b):¬ q ∣ b:=fun hd=>by
  by_cases z:q = 0
  · subst z
    have:=h.1 rfl
    have:=Int.zero_dvd.mp hd
    omega
  · rw [h.2 z] at hd
    have q2:2 ≤ q:=by rcases hq with h | h <;> omega
    have:=Int.le_of_dvd (by decide) hd
    omega
theorem lcm_dvd {b m D:Int} (hb:1 ≤ b) (hm:1 ≤ m) (h1:b ∣ D) (h2:m ∣ D):b / (Int.gcd b m:Int) * m ∣ D:=by
  have gp:=gcd_pos (a:=b) (b:=m) (by omega)
  obtain ⟨b',eb⟩:=Int.gcd_dvd_left (a:=b) (b:=m)
  have g0:(Int.gcd b m:Int) ≠ 0:=by omega
  have gb:b / (Int.gcd b m:Int) = b':=by
    conv=>lhs; lhs; rw [eb]
    exact Int.mul_ediv_cancel_left _ g0
  have z:((Int.lcm b m:Nat):Int) ∣ D:=Int.coe_lcm_dvd h1 h2
  have e:((Int.lcm b m:Nat):Int) = b' * m:=by
    have h:=Int.gcd_mul_lcm b m
    have h2:((Int.gcd b m:Nat):Int) * ((Int.lcm b m:Nat):Int) = ((b * m).natAbs:Int):=by
      rw [← Int.natCast_mul,h,Int.natAbs_mul]
    have bm:0 < b * m:=Int.mul_pos (by omega) (by omega)
    have h3:((b * m).natAbs:Int) = b * m:=by omega
    rw [h3] at h2
    refine Int.eq_of_mul_eq_mul_left g0 ?_
    rw [h2,← Int.mul_assoc,← eb]
  rw [gb,← e]
  exact z
structure WhD (q:Int) (ps:List (Int × Int)) (ts:List Int) (b D:Int) (B:Nat):Prop where
  len:ts.length = ps.length
  ok:BotOk q b
  dvd:b ∣ D
  each:∀ i,i < ps.length→ts.getD i 0 * (ps.getD i o1).2 = (ps.getD i o1).1 * b∧(ts.getD i 0).natAbs ≤ B * D.natAbs
def spWh2:Sp:=fun vs H Q _=>∃ (a:Addr) (ps:List (Int × Int)) (B:Nat) (D:Int),vs = [.ref a]∧RowG B H 0 a ps∧ps.length ≤ 100∧BotOk 0 D∧(∀ p ∈ ps,p.2 ∣ D)∧B ≤ 10 ^ 150∧D.natAbs ≤ 10 ^ 150∧∀ (v:V) (H':Hp) (ts:List Int) (b:Int),Same H H'→WhNew H H' v ts b→WhD 0 ps ts b D B→Q v H'
def spAsW2 (C:Addr):Sp:=fun vs H Q _=>∃ (z a:Addr) (q:Int) (ps:List (Int × Int)) (B:Nat) (D:Int),vs = [.ref z,.ref a]∧WorldAt C H z q∧WheelN q∧RowG B H q a ps∧ps.length ≤ 100∧BotOk q D∧(∀ p ∈ ps,p.2 ∣ D)∧B ≤ 10 ^ 150∧1000 ≤ B∧D.natAbs ≤ 10 ^ 150∧∀ (v:V) (H':Hp) (ts:List Int) (b:Int),Same H H'→WhNew H H' v ts b→WhD q ps ts b D B→Q v H'
theorem Mid.of150 {x:Int} (h:x.natAbs ≤ 10 ^ 150):Mid x:=Nat.lt_of_le_of_lt h (by decide +kernel)
theorem dvd_bd {b D:Int} (h:b ∣ D) (hD:D ≠ 0):b.natAbs ≤ D.natAbs:=Nat.le_of_dvd (Int.natAbs_pos.mpr hD) (Int.natAbs_dvd_natAbs.mpr h)
end My
namespace My
open PySem L2
end My
namespace My
open PySem L2
end My
namespace My
open PySem L2
def spOTRow6 (C:Addr):Sp:=fun vs H Q _=>∃ (z:Addr) (q:Int) (n i:Nat),vs = [.ref z,.int (n:Int),.int (i:Int)]∧WorldAt C H z q∧WheelN q∧n ≤ 40∧i < n∧∀ (r:Addr) (H':Hp),Same H H'→H r = none→RowN H' q r (unitRow n i)→Q (.ref r) H'
end My
namespace My
open PySem L2
end My
namespace My
open PySem L2
def RepT (q:Int) (N M:Nat) (f:Nat→Nat→Int × Int) (A:Nat→Nat→Int) (D:Int):Prop:=BotOk q D∧∀ i j,i < N→j < M→Weq q (f i j) (A i j,D)
def atT (pss:List (List (Int × Int))) (i j:Nat):Int × Int:=(pss.getD i []).getD j o1
end My
namespace My
open PySem L2
theorem repT_of {q:Int} {pss:List (List (Int × Int))} {N M:Nat} (hb:∀ ps ∈ pss,∀ p ∈ ps,BotOk q p.2) (hN:pss.length = N) (hM:∀ ps ∈ pss,ps.length = M):∃ (A:Nat→Nat→Int) (D:Int),RepT q N M (atT pss) A D:=by
  obtain ⟨D,A,h1,h2⟩:=tab_rep hb hN hM
  exact ⟨A,D,h1,h2⟩
end My
namespace My
open PySem L2
end My
namespace L2
open PySem PySem.Spec PyProof.Rows
section
variable {X:Cx} {tg:Expr}
end
end L2
namespace L2
open PySem PySem.Spec PyProof.Rows
theorem pe_fldK {X:Cx} {K:PySem.W.Frag} {e:Expr} {f:Str} {pos:Pos} {ta:TE} (he:PE X e ta) (hb:attributeBase e f X.env (eval e X.env) = eval e X.env) (hK:X.K = K:=by rfl):PE X (.Attribute e f pos) (tFld K ta f):=by
  subst hK
  exact pe_fld he hb
end L2
namespace My
open PySem L2
def Cg (q a b:Int):Prop:=q ∣ a - b
theorem Cg.refl {q:Int} (a:Int):Cg q a a:=⟨0,by omega⟩
theorem Cg.of_eq {q a b:Int} (h:a = b):Cg q a b:=h ▸ Cg.refl a
theorem Cg.symm {q a b:Int} (h:Cg q a b):Cg q b a:=by
  obtain ⟨k,e⟩:=h
  exact ⟨-k,by rw [Int.mul_neg]; omega⟩
theorem Cg.trans {q a b c:Int} (h1:Cg q a b) (h2:Cg q b c):Cg q a c:=by
  obtain ⟨k,e⟩:=h1
  obtain ⟨l,e'⟩:=h2
  exact ⟨k + l,by rw [Int.mul_add]; omega⟩
theorem Cg.add {q a b c d:Int} (h1:Cg q a b) (h2:Cg q c d):Cg q (a + c) (b + d):=by
  obtain ⟨k,e⟩:=h1
  obtain ⟨l,e'⟩:=h2
  exact ⟨k + l,by rw [Int.mul_add]; omega⟩
theorem Cg.sub {q a b c d:Int} (h1:Cg q a b) (h2:Cg q c d):Cg q (a - c) (b - d):=by
  obtain ⟨k,e⟩:=h1
  obtain ⟨l,e'⟩:=h2
  exact ⟨k - l,by rw [Int.mul_sub]; omega⟩
theorem Cg.mulL {q a b:Int} (c:Int) (h:Cg q a b):Cg q (c * a) (c * b):=by
  obtain ⟨k,e⟩:=h
  exact ⟨c * k,by rw [← Int.mul_sub,e]; grind⟩
theorem Cg.mulR {q a b:Int} (c:Int) (h:Cg q a b):Cg q (a * c) (b * c):=by
  rw [Int.mul_comm a,Int.mul_comm b]
  exact h.mulL c
theorem cg_mod (q a:Int):Cg q (a % q) a:=⟨-(a / q),by have:=Int.mul_ediv_add_emod a q; rw [Int.mul_neg]; omega⟩
theorem Cg.nz {q a b:Int} (h:Cg q a b) (n:¬ q ∣ b):¬ q ∣ a:=fun d=>n (by
  have:b = a - (a - b):=by omega
  rw [this]
  exact Int.dvd_sub d h)
theorem cg_sum {q:Int}:∀ {n:Nat} {f g:Nat→Int},(∀ i,i < n→Cg q (f i) (g i))→Cg q (sumN n f) (sumN n g)
  | 0,_,_,_=>Cg.refl _
  | n + 1,f,g,h=>by
    unfold sumN
    exact (h 0 (by omega)).add (cg_sum fun i hi=>h (i + 1) (by omega))
theorem getD_out {α:Type} {xs:List α} {k:Nat} {d:α} (h:xs.length ≤ k):xs.getD k d = d:=by
  rw [List.getD_eq_getElem?_getD,List.getElem?_eq_none h]
  rfl
end My
namespace My
open PySem L2
end My
namespace My
open PySem L2
end My
namespace My
open PySem L2
end My
namespace My
open PySem L2
def skipR (j:Nat) (v:Nat→Nat→Int):Nat→Nat→Int:=fun i=>if i < j then v i else v (i + 1)
def sgn (j:Nat):Int:=if j % 2 = 0 then 1 else -1
theorem sgn_succ (j:Nat):sgn (j + 1) = -sgn j:=by
  unfold sgn
  by_cases h:j % 2 = 0
  · rw [if_pos h,if_neg (by omega)]
  · rw [if_neg h,if_pos (by omega)]; rfl
def detD:List Nat→(Nat→Nat→Int)→Int
  | [],_=>1
  | c :: cs,v=>sumN (cs.length + 1) fun j=>sgn j * v j c * detD cs (skipR j v)
theorem detD_cons (c:Nat) (cs:List Nat) (v:Nat→Nat→Int):detD (c :: cs) v = sumN (cs.length + 1) fun j=>sgn j * v j c * detD cs (skipR j v):=rfl
theorem skip_skip {l j:Nat} (h:l ≤ j) (v:Nat→Nat→Int):skipR l (skipR (j + 1) v) = skipR j (skipR l v):=by
  funext i
  unfold skipR
  by_cases h1:i < l
  · rw [if_pos h1,if_pos (by omega),if_pos (by omega),if_pos h1]
  · rw [if_neg h1]
    by_cases h2:i < j
    · rw [if_pos h2,if_neg h1,if_pos (by omega)]
    · rw [if_neg h2,if_neg (by omega),if_neg (by omega)]
theorem sumN_neg (n:Nat) (f:Nat→Int):sumN n (fun i=>-f i) = -sumN n f:=by
  have:=sumN_mul (-1) n f
  rw [show (fun i=>-f i) = fun i=>-1 * f i from funext fun i=>by omega,← this]
  omega
theorem sumN_pairs (n:Nat) (F:Nat→Nat→Int):(sumN (n + 1) fun j=>sumN n fun l=>F j l) = (sumN n fun j=>sumN (j + 1) fun l=>F (j + 1) l) + sumN n fun l=>sumN (l + 1) fun j=>F j l:=by
  induction n with
  | zero=>rfl
  | succ n ih=>
    rw [sumN_last (n + 1) fun j=>sumN (n + 1) fun l=>F j l]
    have e1:(sumN (n + 1) fun j=>sumN (n + 1) fun l=>F j l) = (sumN (n + 1) fun j=>sumN n fun l=>F j l) + sumN (n + 1) fun j=>F j n:=by
      rw [← sumN_add]
      exact sumN_congr fun j _=>sumN_last n _
    rw [e1,ih,sumN_last n fun j=>sumN (j + 1) fun l=>F (j + 1) l,sumN_last n fun l=>sumN (l + 1) fun j=>F j l]
    omega
theorem det_swap (a b:Nat) (cs:List Nat) (v:Nat→Nat→Int):detD (a :: b :: cs) v = -detD (b :: a :: cs) v:=by
  have ex:∀ x y:Nat,detD (x :: y :: cs) v = (sumN (cs.length + 1) fun j=>sumN (j + 1) fun l=>sgn (j + 1) * sgn l * (v (j + 1) x * v l y) * detD cs (skipR j (skipR l v))) - sumN (cs.length + 1) fun j=>sumN (j + 1) fun l=>sgn (j + 1) * sgn l * (v l x * v (j + 1) y) * detD cs (skipR j (skipR l v)):=fun x y=>by
    have e0:detD (x :: y :: cs) v = sumN (cs.length + 2) fun j=>sumN (cs.length + 1) fun l=>sgn j * v j x * (sgn l * skipR j v l y * detD cs (skipR l (skipR j v))):=by
      rw [detD_cons,List.length_cons]
      refine sumN_congr fun j _=>?_
      rw [detD_cons,sumN_mul]
    rw [e0,sumN_pairs (cs.length + 1)]
    rw [Int.sub_eq_add_neg,← sumN_neg]
    congr 1
    · refine sumN_congr fun j _=>sumN_congr fun l hl=>?_
      rw [skip_skip (by omega),show skipR (j + 1) v l y = v l y by unfold skipR; rw [if_pos (by omega)]]
      grind
    · refine sumN_congr fun l _=>?_
      rw [← sumN_neg]
      refine sumN_congr fun j hj=>?_
      rw [show skipR j v l y = v (l + 1) y by unfold skipR; rw [if_neg (by omega)],sgn_succ]
      grind
  rw [ex a b,ex b a]
  have f:∀ x y:Nat,(sumN (cs.length + 1) fun j=>sumN (j + 1) fun l=>sgn (j + 1) * sgn l * (v l x * v (j + 1) y) * detD cs (skipR j (skipR l v))) = sumN (cs.length + 1) fun j=>sumN (j + 1) fun l=>sgn (j + 1) * sgn l * (v (j + 1) y * v l x) * detD cs (skipR j (skipR l v)):=fun x y=>sumN_congr fun j _=>sumN_congr fun l _=>by rw [Int.mul_comm (v l x)]
  rw [f a b,f b a]
  omega
theorem det_twice (c:Nat):∀ (cs:List Nat) (v:Nat→Nat→Int),c ∈ cs→detD (c :: cs) v = 0
  | b :: cs,v,h=>by
    by_cases e:c = b
    · subst e
      have:=det_swap c c cs v
      omega
    · have h':c ∈ cs:=by
        rcases List.mem_cons.mp h with z | z
        · exact absurd z e
        · exact z
      rw [det_swap,detD_cons]
      rw [show (fun j=>sgn j * v j b * detD (c :: cs) (skipR j v)) = fun _=>0 from funext fun j=>by rw [det_twice c cs _ h',Int.mul_zero],sumN_zero]
      rfl
end My
namespace My
open PySem L2
def consR (e:Nat→Int) (R:Nat→Nat→Int):Nat→Nat→Int
  | 0=>e
  | i + 1=>R i
theorem skip_zero (e:Nat→Int) (R:Nat→Nat→Int):skipR 0 (consR e R) = R:=by
  funext i
  unfold skipR
  rw [if_neg (by omega)]
  rfl
theorem skip_cons (i:Nat) (e:Nat→Int) (R:Nat→Nat→Int):skipR (i + 1) (consR e R) = consR e (skipR i R):=by
  funext j
  unfold skipR
  cases j with
  | zero=>rw [if_pos (by omega)]; rfl
  | succ j=>
    by_cases h:j < i
    · rw [if_pos (by omega)]
      show R j = if j < i then R j else R (j + 1)
      rw [if_pos h]
    · rw [if_neg (by omega)]
      show R (j + 1) = if j < i then R j else R (j + 1)
      rw [if_neg h]
theorem det_row (k:Nat) (C:List Nat) (e:Nat→Int) (R:Nat→Nat→Int):detD (k :: C) (consR e R) = detD C R * e k + sumN C.length fun i=>R i k * (-(sgn i) * detD C (consR e (skipR i R))):=by
  rw [detD_cons,sumN]
  have e0:sgn 0 * consR e R 0 k * detD C (skipR 0 (consR e R)) = detD C R * e k:=by
    rw [skip_zero]
    show 1 * e k * detD C R = _
    rw [Int.one_mul,Int.mul_comm]
  rw [e0]
  congr 1
  refine sumN_congr fun i _=>?_
  rw [skip_cons,sgn_succ]
  show -sgn i * R i k * _ = _
  grind
def SpanOk (C:List Nat) (R:Nat→Nat→Int):Prop:=∀ x:Nat→Int,(∀ c ∈ C,(sumN C.length fun i=>R i c * x i) = 0)→∀ k,(sumN C.length fun i=>R i k * x i) = 0
theorem span_nil (R:Nat→Nat→Int):SpanOk [] R:=fun _ _ _=>rfl
theorem span_cons {C:List Nat} {R:Nat→Nat→Int} {h:Nat→Int} {c:Nat} (sp:SpanOk C R) (d0:detD C R ≠ 0) (p0:detD (c :: C) (consR h R) ≠ 0):SpanOk (c :: C) (consR h R):=by
  intro x hx k
  have ex:∀ k,(sumN (c :: C).length fun i=>consR h R i k * x i) = h k * x 0 + sumN C.length fun i=>R i k * x (i + 1):=fun k=>rfl
  have hz:∀ k,detD C R * (h k * x 0 + sumN C.length fun i=>R i k * x (i + 1)) - x 0 * detD (k :: C) (consR h R) = sumN C.length fun i=>R i k * (detD C R * x (i + 1) - x 0 * (-(sgn i) * detD C (consR h (skipR i R)))):=fun k=>by
    rw [det_row,show (fun i=>R i k * (detD C R * x (i + 1) - x 0 * (-(sgn i) * detD C (consR h (skipR i R))))) = fun i=>detD C R * (R i k * x (i + 1)) + -(x 0) * (R i k * (-(sgn i) * detD C (consR h (skipR i R)))) from funext fun i=>by grind,sumN_add,← sumN_mul,← sumN_mul]
    grind
  have z:=sp _ fun c' hc'=>by
    rw [← hz c',← ex c',hx c' (List.mem_cons_of_mem _ hc'),det_twice c' C _ hc']
    simp
  have z1:∀ k,detD C R * (h k * x 0 + sumN C.length fun i=>R i k * x (i + 1)) = x 0 * detD (k :: C) (consR h R):=fun k=>by
    have:=hz k
    rw [z k] at this
    omega
  have x0:x 0 = 0:=by
    have e:=z1 c
    rw [← ex c,hx c List.mem_cons_self,Int.mul_zero] at e
    rcases Int.mul_eq_zero.mp e.symm with h | h
    · exact h
    · exact absurd h p0
  have e:=z1 k
  rw [x0,Int.zero_mul] at e
  rw [ex k,x0]
  rcases Int.mul_eq_zero.mp e with h | h
  · exact absurd h d0
  · exact h
theorem det_even {C:List Nat} {R:Nat→Nat→Int} (sp:SpanOk C R) (e h:Nat→Int) (c k:Nat) :
    detD C R * detD (k :: c :: C) (consR e (consR h R)) = detD (c :: C) (consR h R) * detD (k :: C) (consR e R) - detD (c :: C) (consR e R) * detD (k :: C) (consR h R):=by
  have two:∀ k,detD (k :: c :: C) (consR e (consR h R)) = detD (c :: C) (consR h R) * e k - detD (c :: C) (consR e R) * h k + sumN C.length fun i=>R i k * (sgn i * detD (c :: C) (consR e (consR h (skipR i R)))):=fun k=>by
    rw [det_row,List.length_cons,sumN]
    have e0:consR h R 0 k * (-(sgn 0) * detD (c :: C) (consR e (skipR 0 (consR h R)))) = -(detD (c :: C) (consR e R) * h k):=by
      rw [skip_zero]
      show h k * (-1 * _) = _
      grind
    rw [e0,show (fun i=>consR h R (i + 1) k * (-(sgn (i + 1)) * detD (c :: C) (consR e (skipR (i + 1) (consR h R))))) = fun i=>R i k * (sgn i * detD (c :: C) (consR e (consR h (skipR i R)))) from funext fun i=>by
      rw [skip_cons,sgn_succ,Int.neg_neg]
      rfl]
    omega
  have hz:∀ k,detD C R * detD (k :: c :: C) (consR e (consR h R)) - (detD (c :: C) (consR h R) * detD (k :: C) (consR e R) - detD (c :: C) (consR e R) * detD (k :: C) (consR h R)) = sumN C.length fun i=>R i k * (detD C R * (sgn i * detD (c :: C) (consR e (consR h (skipR i R)))) - detD (c :: C) (consR h R) * (-(sgn i) * detD C (consR e (skipR i R))) + detD (c :: C) (consR e R) * (-(sgn i) * detD C (consR h (skipR i R)))):=fun k=>by
    rw [two k,det_row k C e R,det_row k C h R]
    rw [show (fun i=>R i k * (detD C R * (sgn i * detD (c :: C) (consR e (consR h (skipR i R)))) - detD (c :: C) (consR h R) * (-(sgn i) * detD C (consR e (skipR i R))) + detD (c :: C) (consR e R) * (-(sgn i) * detD C (consR h (skipR i R))))) = fun i=>(detD C R * (R i k * (sgn i * detD (c :: C) (consR e (consR h (skipR i R))))) + -(detD (c :: C) (consR h R)) * (R i k * (-(sgn i) * detD C (consR e (skipR i R))))) + detD (c :: C) (consR e R) * (R i k * (-(sgn i) * detD C (consR h (skipR i R)))) from funext fun i=>by grind,sumN_add,sumN_add,← sumN_mul,← sumN_mul,← sumN_mul]
    grind
  have z:=sp _ fun c' hc'=>by
    rw [← hz c',det_twice c' (c :: C) _ (List.mem_cons_of_mem _ hc'),det_twice c' C _ hc',det_twice c' C _ hc']
    simp
  have:=hz k
  rw [z k] at this
  omega
end My
namespace My
open PySem L2
def unitR (c:Nat):Nat→Int:=fun k=>if k = c then -1 else 0
def nonP (C:List Nat) (R:Nat→Nat→Int) (f:Nat→Int):Nat→Int:=fun k=>detD (k :: C) (consR f R)
def pivP (C:List Nat) (R:Nat→Nat→Int) (c:Nat):Nat→Int:=fun k=>detD (k :: C) (consR (unitR c) R) - detD C R * unitR c k
theorem nonP_start (R:Nat→Nat→Int) (f:Nat→Int) (k:Nat):nonP [] R f k = f k:=by
  show detD [k] (consR f R) = f k
  rw [det_row]
  show 1 * f k + 0 = f k
  omega
theorem pivP_at {C:List Nat} (R:Nat→Nat→Int) (c':Nat) {c:Nat} (h:c ∈ C):pivP C R c' c = if c = c' then detD C R else 0:=by
  unfold pivP
  rw [det_twice c C _ h]
  unfold unitR
  split <;> omega
theorem det_nought {e:Nat→Int}:∀ {C:List Nat} (S:Nat→Nat→Int),C ≠ []→(∀ x ∈ C,e x = 0)→detD C (consR e S) = 0
  | x :: C,S,_,h=>by
    rw [det_row,h x List.mem_cons_self,Int.mul_zero,Int.zero_add]
    cases C with
    | nil=>rfl
    | cons y C=>
      rw [show (fun i=>S i x * (-(sgn i) * detD (y :: C) (consR e (skipR i S)))) = fun _=>0 from funext fun i=>by rw [det_nought (skipR i S) (by simp) fun z hz=>h z (List.mem_cons_of_mem _ hz)]; simp,sumN_zero]
theorem nonP_unit {C:List Nat} (R:Nat→Nat→Int) {c:Nat} (h:c ∉ C) (k:Nat):nonP C R (unitR c) k = detD C R * unitR c k:=by
  unfold nonP
  rw [det_row]
  have z:(sumN C.length fun i=>R i k * (-(sgn i) * detD C (consR (unitR c) (skipR i R)))) = 0:=by
    cases C with
    | nil=>rfl
    | cons y C=>
      rw [show (fun i=>R i k * (-(sgn i) * detD (y :: C) (consR (unitR c) (skipR i R)))) = fun _=>0 from funext fun i=>by
        rw [det_nought (e:=unitR c) (C:=y :: C) (skipR i R) (by simp) fun z hz=>if_neg fun (e:z = c)=>h (by rw [← e]; exact hz)]
        simp,sumN_zero]
  rw [z,Int.add_zero]
theorem step_non {C:List Nat} {R:Nat→Nat→Int} (sp:SpanOk C R) (f h:Nat→Int) (c k:Nat):nonP C R h c * nonP C R f k - nonP C R f c * nonP C R h k = detD C R * nonP (c :: C) (consR h R) f k:=(det_even sp f h c k).symm
theorem step_piv {C:List Nat} {R:Nat→Nat→Int} (sp:SpanOk C R) (h:Nat→Int) {c c':Nat} (ne:c ≠ c') (k:Nat):nonP C R h c * pivP C R c' k - pivP C R c' c * nonP C R h k = detD C R * pivP (c :: C) (consR h R) c' k:=by
  have e:=det_even sp (unitR c') h c k
  have z:unitR c' c = 0:=if_neg ne
  unfold pivP nonP
  rw [z,Int.mul_zero,Int.sub_zero,Int.mul_sub (detD C R),e]
  grind
theorem step_new {C:List Nat} {R:Nat→Nat→Int} (sp:SpanOk C R) (d0:detD C R ≠ 0) (h:Nat→Int) {c:Nat} (nc:c ∉ C) (k:Nat):pivP (c :: C) (consR h R) c k = nonP C R h k:=by
  have e:=det_even sp (unitR c) h c k
  have u:=nonP_unit R nc
  unfold nonP at u
  rw [u k,u c,show unitR c c = -1 from if_pos rfl] at e
  unfold pivP nonP
  have:detD C R * (detD (k :: c :: C) (consR (unitR c) (consR h R)) - detD (c :: C) (consR h R) * unitR c k) = detD C R * detD (k :: C) (consR h R):=by
    rw [Int.mul_sub,e]
    grind
  exact Int.eq_of_mul_eq_mul_left d0 this
end My
namespace My
open PySem L2
def facN:Nat→Nat
  | 0=>1
  | n + 1=>(n + 1) * facN n
theorem sumN_bdD {M:Nat}:∀ (n:Nat) (f:Nat→Int),(∀ i,i < n→(f i).natAbs ≤ M)→(sumN n f).natAbs ≤ n * M
  | 0,_,_=>by show (0:Int).natAbs ≤ _; simp
  | n + 1,f,h=>by
    rw [sumN_last,Nat.succ_mul]
    exact Nat.le_trans (Int.natAbs_add_le ..) (Nat.add_le_add (sumN_bdD n f fun i hi=>h i (by omega)) (h n (by omega)))
end My
namespace My
open PySem L2
def prodN:Nat→(Nat→Nat)→Nat
  | 0,_=>1
  | n + 1,g=>prodN n g * g n
def skipG (j:Nat) (g:Nat→Nat):Nat→Nat:=fun i=>if i < j then g i else g (i + 1)
def consG (x:Nat) (g:Nat→Nat):Nat→Nat
  | 0=>x
  | i + 1=>g i
theorem prodN_congr:∀ {n:Nat} {f g:Nat→Nat},(∀ i,i < n→f i = g i)→prodN n f = prodN n g
  | 0,_,_,_=>rfl
  | n + 1,f,g,h=>by
    show prodN n f * f n = prodN n g * g n
    rw [prodN_congr fun i hi=>h i (by omega),h n (by omega)]
theorem prodN_skip:∀ (n j:Nat) (g:Nat→Nat),j ≤ n→prodN n (skipG j g) * g j = prodN (n + 1) g
  | 0,j,g,h=>by
    have:j = 0:=by omega
    subst this
    rfl
  | n + 1,j,g,h=>by
    by_cases e:j = n + 1
    · subst e
      show prodN (n + 1) (skipG (n + 1) g) * g (n + 1) = prodN (n + 1) g * g (n + 1)
      rw [prodN_congr fun i hi=>by unfold skipG; rw [if_pos hi]]
    · have ih:=prodN_skip n j g (by omega)
      show prodN n (skipG j g) * skipG j g n * g j = prodN (n + 1) g * g (n + 1)
      have:skipG j g n = g (n + 1):=by unfold skipG; rw [if_neg (by omega)]
      rw [this,Nat.mul_right_comm,ih]
theorem prodN_cons:∀ (n x:Nat) (g:Nat→Nat),prodN (n + 1) (consG x g) = x * prodN n g
  | 0,x,g=>by show 1 * x = x * 1; omega
  | n + 1,x,g=>by
    show prodN (n + 1) (consG x g) * g n = x * (prodN n g * g n)
    rw [prodN_cons n x g,Nat.mul_assoc]
theorem sgn_abs (j:Nat):(sgn j).natAbs = 1:=by unfold sgn; split <;> rfl
theorem det_bdG:∀ (C:List Nat) (v:Nat→Nat→Int) (g:Nat→Nat),(∀ i c,(v i c).natAbs ≤ g i)→(detD C v).natAbs ≤ facN C.length * prodN C.length g
  | [],_,_,_=>by show (1:Int).natAbs ≤ 1 * 1; decide
  | c :: C,v,g,h=>by
    rw [detD_cons]
    refine Nat.le_trans (sumN_bdD (M:=facN C.length * prodN (C.length + 1) g) _ _ fun j hj=>?_) (Nat.le_of_eq ?_)
    · rw [Int.natAbs_mul,Int.natAbs_mul,sgn_abs,Nat.one_mul]
      have d:=det_bdG C (skipR j v) (skipG j g) fun i c'=>by
        unfold skipR skipG
        split
        · exact h _ _
        · exact h _ _
      refine Nat.le_trans (Nat.mul_le_mul (h j c) d) (Nat.le_of_eq ?_)
      rw [← prodN_skip C.length j g (by omega),Nat.mul_left_comm,Nat.mul_comm (g j)]
    · rw [List.length_cons,facN,Nat.mul_assoc]
theorem piv_bdG {C:List Nat} {R:Nat→Nat→Int} {g:Nat→Nat} (h:∀ i c,(R i c).natAbs ≤ g i) (c k:Nat):(pivP C R c k).natAbs ≤ C.length * (facN C.length * prodN C.length g):=by
  have e:pivP C R c k = sumN C.length fun i=>R i k * (-(sgn i) * detD C (consR (unitR c) (skipR i R))):=by
    unfold pivP
    rw [det_row]
    omega
  rw [e]
  refine sumN_bdD _ _ fun i hi=>?_
  rw [Int.natAbs_mul,Int.natAbs_mul,Int.natAbs_neg,sgn_abs,Nat.one_mul]
  have d:=det_bdG C (consR (unitR c) (skipR i R)) (consG 1 (skipG i g)) fun j c'=>by
    cases j with
    | zero=>
      show (unitR c c').natAbs ≤ 1
      unfold unitR
      split <;> decide
    | succ j=>
      show (skipR i R j c').natAbs ≤ skipG i g j
      unfold skipR skipG
      split
      · exact h _ _
      · exact h _ _
  refine Nat.le_trans (Nat.mul_le_mul (h i k) d) (Nat.le_of_eq ?_)
  obtain ⟨m,em⟩:∃ m,C.length = m + 1:=⟨C.length - 1,by omega⟩
  rw [em,prodN_cons,Nat.one_mul,← prodN_skip m i g (by omega),Nat.mul_left_comm,Nat.mul_comm (g i)]
theorem prodN_pos:∀ {n:Nat} {g:Nat→Nat},(∀ i,1 ≤ g i)→1 ≤ prodN n g
  | 0,_,_=>Nat.le_refl _
  | n + 1,g,h=>Nat.mul_le_mul (prodN_pos h) (h n)
theorem facN_pos:∀ n,1 ≤ facN n
  | 0=>Nat.le_refl _
  | n + 1=>Nat.mul_le_mul (by omega:1 ≤ n + 1) (facN_pos n)
theorem facN_mono:∀ {m n:Nat},m ≤ n→facN m ≤ facN n
  | m,n,h=>by
    by_cases e:m = n
    · rw [e]; exact Nat.le_refl _
    · obtain ⟨n',rfl⟩:∃ n',n = n' + 1:=⟨n - 1,by omega⟩
      exact Nat.le_trans (facN_mono (by omega)) (Nat.le_mul_of_pos_left _ (by omega))
def setG (g:Nat→Nat) (r x:Nat):Nat→Nat:=fun i=>if i = r then x else g i
theorem prodN_out:∀ (n r:Nat) (g:Nat→Nat),r < n→prodN n (setG g r 1) * g r = prodN n g
  | 0,_,_,h=>by omega
  | n + 1,r,g,h=>by
    show prodN n (setG g r 1) * setG g r 1 n * g r = prodN n g * g n
    by_cases e:r = n
    · subst e
      rw [show setG g r 1 r = 1 from if_pos rfl,Nat.mul_one,show prodN r (setG g r 1) = prodN r g from prodN_congr fun i hi=>if_neg (by omega)]
    · rw [show setG g r 1 n = g n from if_neg (fun z=>e z.symm),Nat.mul_right_comm,prodN_out n r g (by omega)]
def tailG (r n:Nat) (g:Nat→Nat):Nat:=prodN (n - r) fun i=>g (r + i)
theorem tail_head {r n:Nat} (h:r < n) (g:Nat→Nat):tailG r n g = g r * tailG (r + 1) n g:=by
  unfold tailG
  obtain ⟨m,e⟩:∃ m,n - r = m + 1:=⟨n - r - 1,by omega⟩
  rw [e,show n - (r + 1) = m by omega,← prodN_cons]
  refine prodN_congr fun i _=>?_
  cases i with
  | zero=>rfl
  | succ i=>show g (r + (i + 1)) = g (r + 1 + i); congr 1; omega
def swapG (g:Nat→Nat) (r s:Nat):Nat→Nat:=fun i=>if i = s then g r else if i = r then g s else g i
theorem tail_swap {r s n:Nat} (hr:r < n) (hs:r ≤ s) (sn:s < n) (g:Nat→Nat):tailG r n (swapG g r s) = tailG r n g:=by
  by_cases e:s = r
  · subst e
    have:swapG g s s = g:=funext fun i=>by unfold swapG; split <;> simp_all
    rw [this]
  · unfold tailG
    have h1:=prodN_out (n - r) 0 (fun i=>g (r + i)) (by omega)
    have h2:=prodN_out (n - r) (s - r) (setG (fun i=>g (r + i)) 0 1) (by omega)
    have k1:=prodN_out (n - r) 0 (fun i=>swapG g r s (r + i)) (by omega)
    have k2:=prodN_out (n - r) (s - r) (setG (fun i=>swapG g r s (r + i)) 0 1) (by omega)
    have a1:setG (fun i=>g (r + i)) 0 1 (s - r) = g s:=by
      show (if s - r = 0 then 1 else g (r + (s - r))) = g s
      rw [if_neg (by omega),show r + (s - r) = s by omega]
    have b1:setG (fun i=>swapG g r s (r + i)) 0 1 (s - r) = g r:=by
      show (if s - r = 0 then 1 else swapG g r s (r + (s - r))) = g r
      rw [if_neg (by omega),show r + (s - r) = s by omega]
      exact if_pos rfl
    have b2:swapG g r s (r + 0) = g s:=by
      unfold swapG
      rw [if_neg (by omega),if_pos (by omega)]
    have c:setG (setG (fun i=>swapG g r s (r + i)) 0 1) (s - r) 1 = setG (setG (fun i=>g (r + i)) 0 1) (s - r) 1:=funext fun i=>by
      unfold setG swapG
      by_cases z1:i = s - r
      · rw [if_pos z1,if_pos z1]
      · rw [if_neg z1,if_neg z1]
        by_cases z2:i = 0
        · rw [if_pos z2,if_pos z2]
        · rw [if_neg z2,if_neg z2]
          dsimp only
          rw [if_neg (by omega),if_neg (by omega)]
    rw [← h1,← k1,← h2,← k2,c,a1,b1]
    rw [b2,show r + 0 = r from rfl,Nat.mul_right_comm]
end My
namespace My
open PySem L2
def Made (q:Int) (n:Nat) (A:Nat→Nat→Int) (f:Nat→Int):Prop:=∃ (e:Int) (x:Nat→Int),¬ q ∣ e∧∀ k,Cg q (e * f k) (sumN n fun t=>x t * A t k)
theorem one_nz {q:Int} (hq:WheelN q):¬ q ∣ 1:=fun h=>by
  rcases hq with rfl | ⟨h2,_⟩
  · have:=Int.zero_dvd.mp h
    omega
  · have:=Int.le_of_dvd (by decide) h
    omega
theorem sumN_pick {n t:Nat} (ht:t < n) (f:Nat→Int):(sumN n fun i=>(if i = t then 1 else 0) * f i) = f t:=by
  have e:(fun i=>(if i = t then (1:Int) else 0) * f i) = fun i=>if i = t then f i else 0:=funext fun i=>by
    by_cases h:i = t
    · rw [if_pos h,if_pos h,Int.one_mul]
    · rw [if_neg h,if_neg h,Int.zero_mul]
  rw [e,sumN_one n t f ht]
theorem made_self {q:Int} (hq:WheelN q) {n t:Nat} (ht:t < n) (A:Nat→Nat→Int):Made q n A (A t):=
  ⟨1,fun i=>if i = t then 1 else 0,one_nz hq,fun k=>Cg.of_eq (by rw [sumN_pick ht fun i=>A i k]; omega)⟩
theorem made_two {q:Int} (hq:WheelN q) {n:Nat} {A:Nat→Nat→Int} {f g h:Nat→Int} {u a b:Int} (nu:¬ q ∣ u) (hf:Made q n A f) (hg:Made q n A g) (e:∀ k,Cg q (u * h k) (a * f k - b * g k)):Made q n A h:=by
  obtain ⟨e1,x,n1,h1⟩:=hf
  obtain ⟨e2,y,n2,h2⟩:=hg
  refine ⟨e1 * e2 * u,fun t=>a * e2 * x t - b * e1 * y t,nz_mul hq (nz_mul hq n1 n2) nu,fun k=>?_⟩
  have z1:=(e k).mulL (e1 * e2)
  have z2:=(h1 k).mulL (a * e2)
  have z3:=(h2 k).mulL (b * e1)
  have z4:=z2.sub z3
  rw [show (fun t=>(a * e2 * x t - b * e1 * y t) * A t k) = fun t=>a * e2 * (x t * A t k) + -(b * e1) * (y t * A t k) from funext fun t=>by grind,sumN_add,← sumN_mul,← sumN_mul]
  refine (Cg.of_eq (by grind)).trans (z1.trans ((Cg.of_eq ?_).trans (z4.trans (Cg.of_eq ?_))))
  · grind
  · grind
structure RdI (q:Int) (n:Nat) (A M:Nat→Nat→Int) (L:List Nat) (cur:Nat):Prop where
  len:L.length ≤ n
  lt:∀ c ∈ L,c < cur
  up:L.Pairwise (· < ·)
  lead:∀ j,j < L.length→¬ q ∣ M j (L.getD j 0)
  off:∀ i j,i < n→j < L.length→i ≠ j→Cg q (M i (L.getD j 0)) 0
  low:∀ i k,i < n→L.length ≤ i→k < cur→Cg q (M i k) 0
  bef:∀ j k,j < L.length→k < L.getD j 0→Cg q (M j k) 0
  ofA:∀ i,i < n→Made q n A (M i)
  ofM:∀ t,t < n→Made q n M (A t)
theorem RdI.start {q:Int} (hq:WheelN q) (n:Nat) (A:Nat→Nat→Int):RdI q n A A [] 0:=
  ⟨Nat.zero_le _,fun _ h=>by simp at h,.nil,fun _ h=>by simp at h,fun _ _ _ h=>by simp at h,fun _ _ _ _ h=>by omega,fun _ _ h=>by simp at h,fun i hi=>made_self hq hi A,fun i hi=>made_self hq hi A⟩
theorem RdI.skip {q:Int} {n:Nat} {A M:Nat→Nat→Int} {L:List Nat} {cur:Nat} (h:RdI q n A M L cur) (z:∀ i,i < n→L.length ≤ i→Cg q (M i cur) 0):RdI q n A M L (cur + 1):=
  ⟨h.len,fun c hc=>Nat.lt_succ_of_lt (h.lt c hc),h.up,h.lead,h.off,fun i k hi hl hk=>by
    by_cases e:k = cur
    · rw [e]; exact z i hi hl
    · exact h.low i k hi hl (by omega),h.bef,h.ofA,h.ofM⟩
end My
namespace My
open PySem L2
theorem made_zero {q:Int} (hq:WheelN q) (n:Nat) (A:Nat→Nat→Int):Made q n A fun _=>0:=
  ⟨1,fun _=>0,one_nz hq,fun k=>Cg.of_eq (by rw [show (fun t=>(0:Int) * A t k) = fun _=>0 from funext fun t=>Int.zero_mul _,sumN_zero]; rfl)⟩
theorem made_sum {q:Int} (hq:WheelN q) {n:Nat} {A:Nat→Nat→Int} (y:Nat→Int) (g:Nat→Nat→Int):∀ m,(∀ i,i < m→Made q n A (g i))→Made q n A fun k=>sumN m fun i=>y i * g i k
  | 0,_=>made_zero hq n A
  | m + 1,h=>made_two hq (u:=1) (a:=1) (b:=-(y m)) (one_nz hq) (made_sum hq y g m fun i hi=>h i (by omega)) (h m (by omega)) fun k=>Cg.of_eq (by rw [sumN_last]; grind)
theorem made_trans {q:Int} (hq:WheelN q) {n m:Nat} {A B:Nat→Nat→Int} {f:Nat→Int} (h:∀ i,i < m→Made q n A (B i)) (hf:Made q m B f):Made q n A f:=by
  obtain ⟨e,y,ne,hy⟩:=hf
  exact made_two hq (u:=e) (a:=1) (b:=0) ne (made_sum hq y B m h) (made_zero hq n A) fun k=>(hy k).trans (Cg.of_eq (by grind))
theorem cg_cancel {q u x:Int} (hq:WheelN q) (nu:¬ q ∣ u) (h:Cg q (u * x) 0):Cg q x 0:=by
  unfold Cg at h ⊢
  rw [Int.sub_zero] at h ⊢
  exact Classical.byContradiction fun nx=>nz_mul hq nu nx h
theorem RdI.swap {q:Int} (hq:WheelN q) {n:Nat} {A M M':Nat→Nat→Int} {L:List Nat} {cur s:Nat} (h:RdI q n A M L cur) (hs:L.length ≤ s) (sn:s < n) (e1:M' L.length = M s) (e2:M' s = M L.length) (e3:∀ i,i ≠ L.length→i ≠ s→M' i = M i):RdI q n A M' L cur:=by
  have rn:L.length < n:=by omega
  have up:∀ i,i < n→∃ i',i' < n∧M' i = M i'∧(i < L.length→i' = i)∧(L.length ≤ i→L.length ≤ i'):=fun i hi=>by
    by_cases z1:i = L.length
    · exact ⟨s,sn,by rw [z1,e1],fun _=>by omega,fun _=>hs⟩
    · by_cases z2:i = s
      · exact ⟨L.length,rn,by rw [z2,e2],fun _=>by omega,fun _=>Nat.le_refl _⟩
      · exact ⟨i,hi,e3 i z1 z2,fun _=>rfl,fun z=>z⟩
  have dn:∀ i,i < n→∃ i',i' < n∧M i = M' i':=fun i hi=>by
    by_cases z1:i = L.length
    · exact ⟨s,sn,by rw [z1,e2]⟩
    · by_cases z2:i = s
      · exact ⟨L.length,rn,by rw [z2,e1]⟩
      · exact ⟨i,hi,(e3 i z1 z2).symm⟩
  refine ⟨h.len,h.lt,h.up,fun j hj=>?_,fun i j hi hj ne=>?_,fun i k hi hl hk=>?_,fun j k hj hk=>?_,fun i hi=>?_,fun t ht=>?_⟩
  · rw [e3 j (by omega) (by omega)]
    exact h.lead j hj
  · obtain ⟨i',h1,h2,h3,h4⟩:=up i hi
    rw [h2]
    refine h.off i' j h1 hj fun z=>?_
    by_cases y:i < L.length
    · have:=h3 y; omega
    · have:=h4 (by omega); omega
  · obtain ⟨i',h1,h2,h3,h4⟩:=up i hi
    rw [h2]
    exact h.low i' k h1 (h4 hl) hk
  · rw [e3 j (by omega) (by omega)]
    exact h.bef j k hj hk
  · obtain ⟨i',h1,h2,_⟩:=up i hi
    rw [h2]
    exact h.ofA i' h1
  · refine made_trans hq (fun i hi=>?_) (h.ofM t ht)
    obtain ⟨i',h1,h2⟩:=dn i hi
    rw [h2]
    exact made_self hq h1 M'
theorem RdI.step {q:Int} (hq:WheelN q) {n:Nat} {A M M':Nat→Nat→Int} {L:List Nat} {c:Nat} {u:Int} (h:RdI q n A M L c) (rn:L.length < n) (nu:¬ q ∣ u) (np:¬ q ∣ M L.length c) (eh:M' L.length = M L.length)
    (e:∀ i k,i < n→i ≠ L.length→Cg q (u * M' i k) (M L.length c * M i k - M i c * M L.length k)):RdI q n A M' (L ++ [c]) (c + 1):=by
  have g1:∀ j,j < L.length→(L ++ [c]).getD j 0 = L.getD j 0:=fun j hj=>by
    rw [List.getD_eq_getElem?_getD,List.getElem?_append_left hj,← List.getD_eq_getElem?_getD]
  have g2:(L ++ [c]).getD L.length 0 = c:=by
    rw [List.getD_eq_getElem?_getD,List.getElem?_append_right (Nat.le_refl _),Nat.sub_self]
    rfl
  have atc:∀ i,i < n→i ≠ L.length→Cg q (M' i c) 0:=fun i hi ne=>cg_cancel hq nu ((e i c hi ne).trans (Cg.of_eq (by grind)))
  have len':(L ++ [c]).length = L.length + 1:=by simp
  refine ⟨by omega,fun c' hc'=>?_,?_,fun j hj=>?_,fun i j hi hj ne=>?_,fun i k hi hl hk=>?_,fun j k hj hk=>?_,fun i hi=>?_,fun t ht=>?_⟩
  · rcases List.mem_append.mp hc' with z | z
    · exact Nat.lt_succ_of_lt (h.lt c' z)
    · rw [List.mem_singleton.mp z]; omega
  · rw [List.pairwise_append]
    exact ⟨h.up,List.pairwise_singleton ..,fun a ha b hb=>by rw [List.mem_singleton.mp hb]; exact h.lt a ha⟩
  · by_cases z:j = L.length
    · rw [z,g2,eh]; exact np
    · rw [g1 j (by omega)]
      intro d
      have w:=e j (L.getD j 0) (by omega) z
      have o:=(h.off L.length j rn (by omega) (Ne.symm z)).mulL (M j c)
      have w2:=w.trans ((Cg.refl (M L.length c * M j (L.getD j 0))).sub o)
      rw [Int.mul_zero,Int.sub_zero] at w2
      exact w2.nz (nz_mul hq np (h.lead j (by omega))) (Int.dvd_trans d (Int.dvd_mul_left ..))
  · by_cases z:j = L.length
    · rw [z,g2]
      exact atc i hi (by omega)
    · rw [g1 j (by omega)]
      by_cases y:i = L.length
      · rw [y,eh]
        exact h.off L.length j rn (by omega) (Ne.symm z)
      · have w:=e i (L.getD j 0) hi y
        have o1':=(h.off i j hi (by omega) ne).mulL (M L.length c)
        have o2:=(h.off L.length j rn (by omega) (Ne.symm z)).mulL (M i c)
        exact cg_cancel hq nu (w.trans ((o1'.sub o2).trans (Cg.of_eq (by simp))))
  · rw [len'] at hl
    by_cases z:k = c
    · rw [z]; exact atc i hi (by omega)
    · have w:=e i k hi (by omega)
      have o1':=(h.low i k hi (by omega) (by omega)).mulL (M L.length c)
      have o2:=(h.low L.length k rn (Nat.le_refl _) (by omega)).mulL (M i c)
      exact cg_cancel hq nu (w.trans ((o1'.sub o2).trans (Cg.of_eq (by simp))))
  · by_cases z:j = L.length
    · rw [z,g2] at hk
      rw [z,eh]
      exact h.low L.length k rn (Nat.le_refl _) hk
    · rw [g1 j (by omega)] at hk
      have hj':j < L.length:=by omega
      have hc:L.getD j 0 < c:=h.lt _ (by rw [getD_at hj']; exact List.getElem_mem _)
      have w:=e j k (by omega) z
      have o1':=(h.bef j k hj' hk).mulL (M L.length c)
      have o2:=(h.low L.length k rn (Nat.le_refl _) (by omega)).mulL (M j c)
      exact cg_cancel hq nu (w.trans ((o1'.sub o2).trans (Cg.of_eq (by simp))))
  · by_cases z:i = L.length
    · rw [z,eh]; exact h.ofA _ rn
    · exact made_two hq nu (h.ofA i hi) (h.ofA _ rn) fun k=>e i k hi z
  · refine made_trans hq (fun i hi=>?_) (h.ofM t ht)
    by_cases z:i = L.length
    · rw [z,← eh]; exact made_self hq rn M'
    · refine made_two hq (u:=M L.length c) (a:=u) (b:=-(M i c)) np (made_self hq hi M') (made_self hq rn M') fun k=>?_
      have w:=e i k hi z
      have w2:=(Cg.refl (M i c * M L.length k)).add w.symm
      rw [eh]
      exact (Cg.of_eq (by grind)).trans (w2.trans (Cg.of_eq (by grind)))
end My
namespace My
open PySem L2
structure Bar (P n:Nat) (M:Nat→Nat→Int) (C:List Nat) (R:Nat→Nat→Int) (g G:Nat→Nat):Prop where
  sp:SpanOk C R
  d0:detD C R ≠ 0
  piv:∀ j,j < C.length→M j = pivP C R (C.reverse.getD j 0)
  non:∀ i,C.length ≤ i→i < n→∃ f,(∀ k,(f k).natAbs ≤ G i)∧M i = nonP C R f
  len:C.length ≤ n
  bR:∀ i k,(R i k).natAbs ≤ g i
  pos:∀ i,1 ≤ G i
  bud:prodN C.length g * tailG C.length n G ≤ P
theorem Bar.start {P n:Nat} (A:Nat→Nat→Int) {G:Nat→Nat} (hb:∀ i k,(A i k).natAbs ≤ G i) (pos:∀ i,1 ≤ G i) (hP:prodN n G ≤ P):Bar P n A [] (fun _ _=>0) (fun _=>1) G:=
  ⟨span_nil _,by show (1:Int) ≠ 0; decide,fun j hj=>by simp at hj,fun i _ _=>⟨A i,hb i,funext fun k=>(nonP_start _ (A i) k).symm⟩,Nat.zero_le _,fun _ _=>by simp,pos,by
    show 1 * tailG 0 n G ≤ P
    unfold tailG
    rw [Nat.one_mul]
    refine Nat.le_trans (Nat.le_of_eq (prodN_congr fun i _=>?_)) hP
    rw [Nat.zero_add]⟩
theorem Bar.swap {P n s:Nat} {M M':Nat→Nat→Int} {C:List Nat} {R:Nat→Nat→Int} {g G:Nat→Nat} (h:Bar P n M C R g G) (hs:C.length ≤ s) (sn:s < n) (e1:M' C.length = M s) (e2:M' s = M C.length) (e3:∀ i,i ≠ C.length→i ≠ s→M' i = M i):Bar P n M' C R g (swapG G C.length s):=by
  refine ⟨h.sp,h.d0,fun j hj=>?_,fun i hi hn=>?_,h.len,h.bR,fun i=>?_,?_⟩
  · rw [e3 j (by omega) (by omega)]; exact h.piv j hj
  · unfold swapG
    by_cases z1:i = s
    · rw [if_pos z1,z1,e2]; exact h.non _ (Nat.le_refl _) (by omega)
    · rw [if_neg z1]
      by_cases z2:i = C.length
      · rw [if_pos z2,z2,e1]; exact h.non s hs sn
      · rw [if_neg z2,e3 i z2 z1]; exact h.non i hi hn
  · unfold swapG
    split
    · exact h.pos _
    · split
      · exact h.pos _
      · exact h.pos _
  · rw [tail_swap (by omega) hs sn]
    exact h.bud
theorem Bar.even {P n:Nat} {M:Nat→Nat→Int} {C:List Nat} {R:Nat→Nat→Int} {g G:Nat→Nat} (h:Bar P n M C R g G) (rn:C.length < n) {c:Nat} (nc:c ∉ C) {i:Nat} (hi:i < n) (ne:i ≠ C.length) :
    ∃ g:Nat→Int,∀ k,M C.length c * M i k - M i c * M C.length k = detD C R * g k:=by
  obtain ⟨f,_,ef⟩:=h.non _ (Nat.le_refl _) rn
  by_cases z:i < C.length
  · have e:=h.piv i z
    have ne':c ≠ C.reverse.getD i 0:=fun e=>nc (by
      rw [e]
      have hl:i < C.reverse.length:=by simpa using z
      rw [getD_at hl]
      exact List.mem_reverse.mp (List.getElem_mem hl))
    refine ⟨pivP (c :: C) (consR f R) (C.reverse.getD i 0),fun k=>?_⟩
    rw [e,ef]
    exact step_piv h.sp f ne' k
  · obtain ⟨f',_,ef'⟩:=h.non i (by omega) hi
    refine ⟨nonP (c :: C) (consR f R) f',fun k=>?_⟩
    rw [ef',ef]
    exact step_non h.sp f' f c k
theorem Bar.step {P n:Nat} {M M':Nat→Nat→Int} {C:List Nat} {R:Nat→Nat→Int} {g G:Nat→Nat} (h:Bar P n M C R g G) (rn:C.length < n) {c:Nat} (nc:c ∉ C) (np:M C.length c ≠ 0) (eh:M' C.length = M C.length)
    (e:∀ i k,i < n→i ≠ C.length→detD C R * M' i k = M C.length c * M i k - M i c * M C.length k):∃ R' g',Bar P n M' (c :: C) R' g' G∧detD (c :: C) R' = M C.length c:=by
  obtain ⟨f,bf,ef⟩:=h.non _ (Nat.le_refl _) rn
  have ep:detD (c :: C) (consR f R) = M C.length c:=by rw [ef]; rfl
  have hp:detD (c :: C) (consR f R) ≠ 0:=by rw [ep]; exact np
  refine ⟨consR f R,consG (G C.length) g,⟨span_cons h.sp h.d0 hp,hp,fun j hj=>?_,fun i hi hn=>?_,rn,fun i k=>?_,h.pos,?_⟩,ep⟩
  · rw [List.reverse_cons]
    by_cases z:j = C.length
    · have g:(C.reverse ++ [c]).getD j 0 = c:=by
        rw [z,List.getD_eq_getElem?_getD,List.getElem?_append_right (by simp)]
        simp
      rw [g,z,eh,ef]
      exact funext fun k=>(step_new h.sp h.d0 f nc k).symm
    · have hj':j < C.length:=by simp at hj; omega
      have hl:j < C.reverse.length:=by simpa using hj'
      have g:(C.reverse ++ [c]).getD j 0 = C.reverse.getD j 0:=by
        rw [List.getD_eq_getElem?_getD,List.getElem?_append_left hl,← List.getD_eq_getElem?_getD]
      rw [g]
      have ne':c ≠ C.reverse.getD j 0:=fun e=>nc (by
        rw [e,getD_at hl]
        exact List.mem_reverse.mp (List.getElem_mem hl))
      funext k
      have w:=e j k (by omega) z
      rw [h.piv j hj',ef,step_piv h.sp f ne' k] at w
      exact Int.eq_of_mul_eq_mul_left h.d0 w
  · have ne:i ≠ C.length:=by simp at hi; omega
    obtain ⟨f',bf',ef'⟩:=h.non i (by simp at hi; omega) hn
    refine ⟨f',bf',funext fun k=>?_⟩
    have w:=e i k hn ne
    rw [ef',ef,step_non h.sp f' f c k] at w
    exact Int.eq_of_mul_eq_mul_left h.d0 w
  · cases i with
    | zero=>exact bf k
    | succ i=>exact h.bR i k
  · rw [List.length_cons,prodN_cons,Nat.mul_assoc,Nat.mul_left_comm,← tail_head rn]
    exact h.bud
theorem tail_pos {r n:Nat} {g:Nat→Nat} (h:∀ i,1 ≤ g i):1 ≤ tailG r n g:=prodN_pos fun i=>h (r + i)
theorem tail_one {r n i:Nat} {g:Nat→Nat} (h:∀ i,1 ≤ g i) (hi:r ≤ i) (hn:i < n):g i ≤ tailG r n g:=by
  unfold tailG
  rw [← prodN_out (n - r) (i - r) (fun j=>g (r + j)) (by omega)]
  rw [show r + (i - r) = i by omega]
  exact Nat.le_mul_of_pos_left _ (prodN_pos fun j=>by
    unfold setG
    split
    · exact Nat.le_refl _
    · exact h _)
theorem Bar.bd {P n:Nat} {M:Nat→Nat→Int} {C:List Nat} {R:Nat→Nat→Int} {g G:Nat→Nat} (h:Bar P n M C R g G) {i:Nat} (hi:i < n) (k:Nat):(M i k).natAbs ≤ n * (facN n * P):=by
  by_cases z:i < C.length
  · rw [h.piv i z]
    refine Nat.le_trans (piv_bdG h.bR _ k) (Nat.mul_le_mul h.len (Nat.mul_le_mul (facN_mono h.len) ?_))
    exact Nat.le_trans (Nat.le_mul_of_pos_right _ (tail_pos h.pos)) h.bud
  · obtain ⟨f,bf,ef⟩:=h.non i (by omega) hi
    rw [ef]
    have d:=det_bdG (k :: C) (consR f R) (consG (G i) g) fun j c=>by
      cases j with
      | zero=>exact bf c
      | succ j=>exact h.bR j c
    rw [List.length_cons,prodN_cons] at d
    refine Nat.le_trans d (Nat.le_trans (Nat.mul_le_mul (facN_mono (show C.length + 1 ≤ n by omega)) ?_) (Nat.le_mul_of_pos_left _ (by omega)))
    rw [Nat.mul_comm]
    exact Nat.le_trans (Nat.mul_le_mul_left _ (tail_one h.pos (by omega) hi)) h.bud
theorem Bar.bdD {P n:Nat} {M:Nat→Nat→Int} {C:List Nat} {R:Nat→Nat→Int} {g G:Nat→Nat} (h:Bar P n M C R g G) (n0:1 ≤ n):(detD C R).natAbs ≤ n * (facN n * P):=by
  refine Nat.le_trans (det_bdG C R g h.bR) (Nat.le_trans (Nat.mul_le_mul (facN_mono h.len) ?_) (Nat.le_mul_of_pos_left _ n0))
  exact Nat.le_trans (Nat.le_mul_of_pos_right _ (tail_pos h.pos)) h.bud
theorem Bar.lead {P n:Nat} {M:Nat→Nat→Int} {C:List Nat} {R:Nat→Nat→Int} {g G:Nat→Nat} (h:Bar P n M C R g G) {j:Nat} (hj:j < C.length):M j (C.reverse.getD j 0) = detD C R:=by
  have hl:j < C.reverse.length:=by simpa using hj
  rw [h.piv j hj,pivP_at _ _ (by rw [getD_at hl]; exact List.mem_reverse.mp (List.getElem_mem hl)),if_pos rfl]
end My
namespace L2
open PySem PySem.Spec PyProof.Rows
def rNeI (K:PySem.W.Frag):R2:=fun x y H Q=>∃ (a b:Addr) (xs ys:List Int),x = .ref a∧y = .ref b∧SqL K H a (xs.map V.int)∧SqL K H b (ys.map V.int)∧Q (.bl (!decide (xs = ys))) H
theorem ints_all {xs ys:List Int} (h:xs.length = ys.length):((List.range xs.length).all fun j=>eqV (.int (xs.getD j 0)) (.int (ys.getD j 0))) = decide (xs = ys):=by
  by_cases e:xs = ys
  · subst e
    rw [decide_eq_true rfl,List.all_eq_true]
    intro j _
    exact eqV_self rfl
  · rw [decide_eq_false e]
    cases z:((List.range xs.length).all fun j=>eqV (.int (xs.getD j 0)) (.int (ys.getD j 0))) with
    | false=>rfl
    | true=>
      refine absurd (List.ext_getElem h fun j h1 h2=>?_) e
      have:=List.all_eq_true.mp z j (List.mem_range.mpr h1)
      have this:(xs.getD j 0 == ys.getD j 0) = true:=this
      rw [beq_iff_eq,List.getD_eq_getElem?_getD,List.getD_eq_getElem?_getD] at this
      simpa [h1,h2] using this
theorem op_neI {X:Cx} (hu:X.A.units + 64 < cLine):OpR X (compareOp .NotEq) (rNeI X.K):=by
  intro pins s σ H x y v u Q I rx ry h
  obtain ⟨a,b,xs,ys,rfl,rfl,h1,h2,q⟩:=h
  cases rx
  cases ry
  obtain ⟨us,r1,t1,_⟩:=I.list h1
  obtain ⟨vs,r2,t2,_⟩:=I.list h2
  have l1:=r1.length
  have l2:=r2.length
  rw [List.length_map] at l1 l2
  by_cases hl:xs.length = ys.length
  · refine SeqAt.RcNeAt.lists (e:=fun j=>eqV (.int (xs.getD j 0)) (.int (ys.getD j 0))) t1.isList t2.isList (by simp; omega) (by omega) (fun j z1 z2=>?_) _ _ _ _ ?_
    · have z1':j < us.length:=by simpa using z1
      have z2':j < vs.length:=by simpa using z2
      have ex:(xs.map V.int)[j]? = some (.int (xs.getD j 0)):=by
        rw [List.getElem?_map,List.getD_eq_getElem?_getD]
        simp [show j < xs.length by omega]
      have ey:(ys.map V.int)[j]? = some (.int (ys.getD j 0)):=by
        rw [List.getElem?_map,List.getD_eq_getElem?_getD]
        simp [show j < ys.length by omega]
      obtain ⟨x',ex',rx⟩:=r1.get ex
      obtain ⟨y',ey',ry⟩:=r2.get ey
      have e1:us.toArray[j] = x':=by simpa using (List.getElem?_eq_some_iff.mp ex').2
      have e2:vs.toArray[j] = y':=by simpa using (List.getElem?_eq_some_iff.mp ey').2
      rw [e1,e2]
      exact eqAt_V rx ry rfl rfl
    · rw [show us.toArray.size = xs.length by simp; omega,ints_all hl]
      exact ⟨.bl (!decide (xs = ys)),H,I,rfl,q⟩
  · rw [decide_eq_false (fun e=>hl (by rw [e]))] at q
    refine SeqAt.RcNeAt.lists_lengths t1.isList t2.isList ?_ (by omega) _ _ _ _ ⟨.bl true,H,I,rfl,q⟩
    simp
    omega
end L2
namespace My
open PySem L2
def IRows (H:Hp) (a:Addr) (n W:Nat) (M:Nat→Nat→Int):Prop:=∃ vs:List V,H a = some (.lst vs)∧vs.length = n∧∀ (i:Nat) (v:V),vs[i]? = some v→∃ x:Addr,v = .ref x∧H x = some (.lst (((List.range W).map (M i)).map V.int))
def IRowsX (H:Hp) (a l:Addr) (n W:Nat) (M:Nat→Nat→Int):Prop:=∃ vs:List V,H a = some (.lst vs)∧vs.length = n∧a ≠ l∧∀ (i:Nat) (v:V),vs[i]? = some v→∃ x:Addr,v = .ref x∧x ≠ a∧x ≠ l∧H x = some (.lst (((List.range W).map (M i)).map V.int))
theorem IRowsX.mono {H H':Hp} {a l:Addr} {n W:Nat} {M:Nat→Nat→Int} (h:IRowsX H a l n W M) (s:Same H H'):IRowsX H' a l n W M:=by
  obtain ⟨vs,e,l,ne,k⟩:=h
  exact ⟨vs,s _ _ e,l,ne,fun i v hv=>by
    obtain ⟨x,e1,n1,n2,e2⟩:=k i v hv
    exact ⟨x,e1,n1,n2,s _ _ e2⟩⟩
theorem IRowsX.rows {H:Hp} {a l:Addr} {n W:Nat} {M:Nat→Nat→Int} (h:IRowsX H a l n W M):IRows H a n W M:=by
  obtain ⟨vs,e,l,ne,k⟩:=h
  exact ⟨vs,e,l,fun i v hv=>by
    obtain ⟨x,e1,n1,n2,e2⟩:=k i v hv
    exact ⟨x,e1,e2⟩⟩
theorem IRowsX.off {H:Hp} {a l:Addr} {n W:Nat} {M:Nat→Nat→Int} (h:IRowsX H a l n W M) (o:HO):IRowsX (upd H l o) a l n W M:=by
  obtain ⟨vs,e,l,ne,k⟩:=h
  exact ⟨vs,by rw [upd_ne ne]; exact e,l,ne,fun i v hv=>by
    obtain ⟨x,e1,n1,n2,e2⟩:=k i v hv
    exact ⟨x,e1,n1,n2,by rw [upd_ne n2]; exact e2⟩⟩
theorem irow_at {W c:Nat} (hc:c < W) (f:Nat→Int):atI (((List.range W).map f).map V.int) (c:Int) = some (.int (f c)):=atI_nat (by simp [hc])
def swapM (M:Nat→Nat→Int) (r s:Nat):Nat→Nat→Int:=fun i=>if i = s then M r else if i = r then M s else M i
def spFF:Sp:=fun vs H Q _=>∃ (a:Addr) (n W r c:Nat) (M:Nat→Nat→Int),vs = [.ref a,.int (r:Int),.int (c:Int)]∧IRows H a n W M∧r ≤ n∧n ≤ 100∧c < W∧(∀ s,r ≤ s→s < n→M s c ≠ 0→Q (.int (s:Int)) H)∧((∀ s,r ≤ s→s < n→M s c = 0)→Q .non H)
def spSwap:Sp:=fun vs H Q _=>∃ (a l:Addr) (n W r s:Nat) (M:Nat→Nat→Int),vs = [.ref a,.int (r:Int),.int (s:Int)]∧IRowsX H a l n W M∧(∃ o,H l = some o)∧r < n∧s < n∧∀ (b:Addr) (H':Hp),Same H H'→H b = none→IRowsX H' b l n W (swapM M r s)→Q (.ref b) H'
end My
namespace My
open PySem L2
def spClear (C:Addr):Sp:=fun vs H Q _=>∃ (z a b:Addr) (q last:Int) (W c:Nat) (f g e:Nat→Int),vs = [.ref z,.ref a,.ref b,.int (c:Int),.int last]∧WorldAt C H z q∧WheelN q∧H a = some (.lst (((List.range W).map f).map V.int))∧H b = some (.lst (((List.range W).map g).map V.int))∧c < W∧W ≤ 100∧(∀ k,k < W→Mid (f k)∧Mid (g k))∧Mid last∧last ≠ 0∧
  (q = 0→∀ k,k < W→g c * f k - f c * g k = last * e k)∧(q ≠ 0→∀ k,k < W→e k = (g c * f k - f c * g k) % q)∧∀ (r:Addr) (H':Hp),Same H H'→H r = none→H' r = some (.lst (((List.range W).map e).map V.int))→Q (.ref r) H'
theorem zip_map_rng (W:Nat) (f g:Nat→Int) (h:Int→Int→Int):((((List.range W).map f).zip ((List.range W).map g)).map fun ab=>h ab.1 ab.2) = (List.range W).map fun k=>h (f k) (g k):=by
  rw [List.zip_map',List.map_map]
  rfl
theorem comp2_intN {K:PySem.W.Frag} {wi:TI} {ρ:St→St} {te:TE} {σ:St} {H:Hp} {Q:VK} {xs ys:List Int} (g:Int→Int→Int) (hn:xs.length ≤ 500)
    (hwi:∀ R:It→Hp→Prop,(∀ J H1,Same H H1→JSeq2 J ((xs.map V.int).zip (ys.map V.int)) H1→R J H1)→wi σ H R)
    (step:∀ x y,(x,y) ∈ xs.zip ys→∀ (Hc:Hp) (R:VK),Same H Hc→(∀ H3,Same Hc H3→R (.int (g x y)) H3)→te (some (.int x) :: some (.int y) :: ρ σ) Hc R)
    (fin:∀ D Hc,H D = none→Same H Hc→Hc D = some (.lst (((xs.zip ys).map fun ab=>g ab.1 ab.2).map V.int))→Q (.ref D) Hc):tComp2 K wi ρ (fun _ H Q=>Q true H) te σ H Q:=by
  have lz:((xs.map V.int).zip (ys.map V.int)).length = (xs.zip ys).length:=by simp [List.length_zip]
  have at':∀ (i:Nat) (v u:V),((xs.map V.int).zip (ys.map V.int))[i]? = some (v,u)→∃ x y,(xs.zip ys)[i]? = some (x,y)∧v = .int x∧u = .int y:=fun i v u e=>by
    obtain ⟨h1,h2⟩:=List.getElem?_zip_eq_some.mp e
    rw [List.getElem?_map] at h1 h2
    cases e1:xs[i]? with
    | none=>rw [e1] at h1; cases h1
    | some x=>
      cases e2:ys[i]? with
      | none=>rw [e2] at h2; cases h2
      | some y=>
        rw [e1] at h1
        rw [e2] at h2
        cases h1
        cases h2
        exact ⟨x,y,List.getElem?_zip_eq_some.mpr ⟨e1,e2⟩,rfl,rfl⟩
  refine comp2_ofX (Z:=fun zs _=>zs = (xs.map V.int).zip (ys.map V.int)) (fun R h=>hwi R fun J H1 s1 js=>h J H1 _ s1 js (by rw [lz,List.length_zip]; exact small1000 (by omega)) rfl) (fun _ i v _=>∃ x y,(xs.zip ys)[i]? = some (x,y)∧v = .int (g x y)) (fun _ _ _ _ _ _ h _ _=>h) ?_ ?_
  · rintro zs H1 rfl s1 D i v u hi Hc R sc _ kc
    obtain ⟨x,y,e,rfl,rfl⟩:=at' i v u hi
    exact step x y (List.mem_of_getElem? e) Hc R (s1.trans sc) fun H3 s3=>kc _ H3 s3 ⟨x,y,e,rfl⟩
  · rintro zs H1 rfl s1 D vs Hc nD sc lvs hP eD
    have ey:vs = ((xs.zip ys).map fun ab=>g ab.1 ab.2).map V.int:=vals_of (by rw [lvs,lz,List.length_map]) fun i v e=>by
      obtain ⟨x,y,e1,e2⟩:=hP i v e
      exact ⟨g x y,by rw [List.getElem?_map,e1]; rfl,e2⟩
    rw [ey] at eD
    exact fin D Hc nD (s1.trans sc) eD
end My
namespace My
open PySem L2
def spRowOver10 (C:Addr):Sp:=fun vs H Q _=>∃ (z a:Addr) (q:Int) (W c:Nat) (f:Nat→Int) (B:Nat),vs = [.ref z,.ref a,.int (c:Int)]∧WorldAt C H z q∧WheelN q∧H a = some (.lst (((List.range W).map f).map V.int))∧c < W∧W ≤ 100∧¬ q ∣ f c∧Mid (f c)∧(∀ k,k < W→(f k).natAbs ≤ B)∧
  ∀ (r:Addr) (ps:List (Int × Int)) (H':Hp),Same H H'→H r = none→RowG B H' q r ps→ps.length = W→(∀ i,i < W→Weq q (ps.getD i o1) (f i,f c))→Q (.ref r) H'
def TabB (B:Nat) (H:Hp) (q:Int) (a:Addr) (pss:List (List (Int × Int))):Prop:=∃ vs:List V,H a = some (.lst vs)∧vs.length = pss.length∧∀ (i:Nat) (v:V) (ps:List (Int × Int)),vs[i]? = some v→pss[i]? = some ps→∃ r:Addr,v = .ref r∧RowG B H q r ps
theorem TabB.mono {B:Nat} {H H':Hp} {q:Int} {a:Addr} {pss:List (List (Int × Int))} (h:TabB B H q a pss) (s:Same H H'):TabB B H' q a pss:=by
  obtain ⟨vs,e,l,k⟩:=h
  exact ⟨vs,s _ _ e,l,fun i v ps h1 h2=>by
    obtain ⟨r,e1,e2⟩:=k i v ps h1 h2
    exact ⟨r,e1,e2.mono s⟩⟩
theorem TabB.weak {B B':Nat} {H:Hp} {q:Int} {a:Addr} {pss:List (List (Int × Int))} (h:TabB B H q a pss) (hb:B ≤ B'):TabB B' H q a pss:=by
  obtain ⟨vs,e,l,k⟩:=h
  exact ⟨vs,e,l,fun i v ps h1 h2=>by
    obtain ⟨r,e1,e2⟩:=k i v ps h1 h2
    exact ⟨r,e1,e2.weak hb⟩⟩
def spWidthB (N:Addr):Sp:=fun vs H Q E=>∃ (a:Addr) (q:Int) (B:Nat) (pss:List (List (Int × Int))) (m:Nat),vs = [.ref a]∧TabB B H q a pss∧1 ≤ pss.length∧pss.length ≤ 40∧(∀ ps ∈ pss,ps.length = m)∧∀ H',Same H H'→Q (.int (m:Int)) H'
def spSquareB (N:Addr):Sp:=fun vs H Q E=>∃ (a:Addr) (q:Int) (B:Nat) (pss:List (List (Int × Int))) (m:Nat),vs = [.ref a]∧TabB B H q a pss∧1 ≤ pss.length∧pss.length ≤ 40∧(∀ ps ∈ pss,ps.length = m)∧(m ≠ pss.length→∀ H',Same H H'→E (.ref N) none H')∧(m = pss.length→∀ H',Same H H'→Q (.int (m:Int)) H')
def spBesideB:Sp:=fun vs H Q _=>∃ (a b:Addr) (q:Int) (B:Nat) (pss rss:List (List (Int × Int))) (m u:Nat),vs = [.ref a,.ref b]∧TabB B H q a pss∧TabB B H q b rss∧pss.length = rss.length∧pss.length ≤ 40∧(∀ ps ∈ pss,ps.length = m)∧(∀ ps ∈ rss,ps.length = u)∧m ≤ 40∧u ≤ 40∧∀ (r:Addr) (H':Hp),Same H H'→H r = none→TabB B H' q r (List.zipWith (· ++ ·) pss rss)→Q (.ref r) H'
def RowE (q:Int) (E:Nat) (ps:List (Int × Int)):Prop:=∃ (D:Int) (x:Nat→Int),BotOk q D∧D.natAbs ≤ E∧(∀ p ∈ ps,p.2 ∣ D)∧∀ i,i < ps.length→(ps.getD i o1).1 * D = x i * (ps.getD i o1).2∧(x i).natAbs ≤ E
theorem rowE_top {t u m b D x:Int} {E:Nat} (e1:t * m = u * b) (e2:u * D = x * m) (hb:b ∣ D) (m0:m ≠ 0) (b0:b ≠ 0) (D0:D ≠ 0) (hx:x.natAbs ≤ E):t.natAbs ≤ E:=by
  obtain ⟨e,rfl⟩:=hb
  have e0:e ≠ 0:=fun z=>D0 (by rw [z,Int.mul_zero])
  have h:m * (b * (t * e)) = m * (b * x):=by
    have:t * m * (b * e) = u * b * (b * e):=by rw [e1]
    have:b * (u * (b * e)) = b * (x * m):=by rw [e2]
    grind
  have h:=Int.eq_of_mul_eq_mul_left b0 (Int.eq_of_mul_eq_mul_left m0 h)
  refine Nat.le_trans ?_ hx
  rw [← h,Int.natAbs_mul]
  exact Nat.le_mul_of_pos_right _ (Int.natAbs_pos.mpr e0)
end My
namespace My
open PySem L2
structure RedI (q:Int) (P n W:Nat) (A M:Nat→Nat→Int) (L:List Nat) (last:Int) (cur:Nat):Prop where
  rd:RdI q n A M L cur
  bar:q = 0→∃ R g G,Bar P n M L.reverse R g G∧last = detD L.reverse R
  rem:q ≠ 0→∀ i k,i < n→k < W→0 ≤ M i k∧M i k < q
  lq:q ≠ 0→0 < last∧last < q
  bdd:1000 ≤ n * (facN n * P)
  mid:n * (facN n * P) < 2 ^ 2048
  n1:1 ≤ n
theorem RedI.bd {q:Int} {P n W:Nat} {A M:Nat→Nat→Int} {L:List Nat} {last:Int} {cur:Nat} (h:RedI q P n W A M L last cur) (hq:WheelN q) {i k:Nat} (hi:i < n) (hk:k < W):(M i k).natAbs ≤ n * (facN n * P):=by
  by_cases z:q = 0
  · obtain ⟨R,g,G,b,_⟩:=h.bar z
    exact b.bd hi k
  · have:=h.rem z i k hi hk
    have:=h.bdd
    have:q ≤ 997:=by rcases hq with h | h <;> omega
    omega
theorem RedI.last {q:Int} {P n W:Nat} {A M:Nat→Nat→Int} {L:List Nat} {last:Int} {cur:Nat} (h:RedI q P n W A M L last cur) (hq:WheelN q):Mid last∧last ≠ 0:=by
  by_cases z:q = 0
  · obtain ⟨R,g,G,b,e⟩:=h.bar z
    exact ⟨by rw [e]; exact Nat.lt_of_le_of_lt (b.bdD h.n1) h.mid,by rw [e]; exact b.d0⟩
  · have:=h.lq z
    have:q ≤ 997:=by rcases hq with h | h <;> omega
    exact ⟨Mid.of_lt (by omega) (by omega),by omega⟩
theorem RedI.start {q:Int} (hq:WheelN q) {P n W:Nat} {A:Nat→Nat→Int} {G:Nat→Nat} (hb:∀ i k,(A i k).natAbs ≤ G i) (pos:∀ i,1000 ≤ G i) (hP:prodN n G ≤ P) (hm:n * (facN n * P) < 2 ^ 2048) (n1:1 ≤ n) (hr:q ≠ 0→∀ i k,i < n→k < W→0 ≤ A i k∧A i k < q):RedI q P n W A A [] 1 0:=
  ⟨RdI.start hq n A,fun _=>⟨_,_,_,Bar.start A hb (fun i=>Nat.le_trans (by decide) (pos i)) hP,rfl⟩,hr,fun z=>by
    rcases hq with h | h
    · exact absurd h z
    · omega,by
    have p1:1000 ≤ prodN n G:=by
      have:=tail_one (r:=0) (n:=n) (i:=0) (g:=G) (fun i=>Nat.le_trans (by decide) (pos i)) (Nat.le_refl _) (by omega)
      unfold tailG at this
      rw [Nat.sub_zero,show (fun i=>G (0 + i)) = G from funext fun i=>by rw [Nat.zero_add]] at this
      exact Nat.le_trans (pos 0) this
    exact Nat.le_trans (Nat.le_trans p1 hP) (Nat.le_trans (Nat.le_mul_of_pos_left _ (facN_pos n)) (Nat.le_mul_of_pos_left _ n1)),hm,n1⟩
theorem RedI.skip {q:Int} {P n W:Nat} {A M:Nat→Nat→Int} {L:List Nat} {last:Int} {cur:Nat} (h:RedI q P n W A M L last cur) (z:∀ s,L.length ≤ s→s < n→M s cur = 0):RedI q P n W A M L last (cur + 1):=
  ⟨h.rd.skip fun i hi hl=>Cg.of_eq (z i hl hi),h.bar,h.rem,h.lq,h.bdd,h.mid,h.n1⟩
theorem rem_nz {q x:Int} (hq:WheelN q) (h:q ≠ 0→0 ≤ x∧x < q) (n:x ≠ 0):¬ q ∣ x:=fun d=>by
  rcases hq with rfl | ⟨h2,_⟩
  · exact n (Int.zero_dvd.mp d)
  · have:=h (by omega)
    have:=Int.le_of_dvd (by omega) d
    omega
theorem RedI.next {q:Int} (hq:WheelN q) {P n W:Nat} {A M:Nat→Nat→Int} {L:List Nat} {last:Int} {c s:Nat} (h:RedI q P n W A M L last c) (cW:c < W) (hs:L.length ≤ s) (sn:s < n) (ns:M s c ≠ 0) :
    ∃ Ef:Nat→Nat→Int,(∀ i,i < n→(q = 0→∀ k,swapM M L.length s L.length c * swapM M L.length s i k - swapM M L.length s i c * swapM M L.length s L.length k = last * Ef i k)∧(q ≠ 0→∀ k,Ef i k = (swapM M L.length s L.length c * swapM M L.length s i k - swapM M L.length s i c * swapM M L.length s L.length k) % q))∧
      RedI q P n W A (fun i=>if i = L.length then swapM M L.length s L.length else Ef i) (L ++ [c]) (swapM M L.length s L.length c) (c + 1):=by
  have e1:swapM M L.length s L.length = M s:=by
    unfold swapM
    by_cases z:L.length = s
    · rw [if_pos z,z]
    · rw [if_neg z,if_pos rfl]
  have e2:swapM M L.length s s = M L.length:=if_pos rfl
  have e3:∀ i,i ≠ L.length→i ≠ s→swapM M L.length s i = M i:=fun i z1 z2=>by unfold swapM; rw [if_neg z2,if_neg z1]
  have rd:=h.rd.swap hq hs sn e1 e2 e3
  have remS:q ≠ 0→∀ i k,i < n→k < W→0 ≤ swapM M L.length s i k∧swapM M L.length s i k < q:=fun z i k hi hk=>by
    unfold swapM
    split
    · exact h.rem z _ k (by omega) hk
    · split
      · exact h.rem z _ k sn hk
      · exact h.rem z _ k hi hk
  have rn:L.length < n:=by omega
  have lr:L.reverse.length = L.length:=by simp
  have nc:c ∉ L.reverse:=fun z=>by
    have:=h.rd.lt c (List.mem_reverse.mp z)
    omega
  have barS:q = 0→∃ R g G,Bar P n (swapM M L.length s) L.reverse R g G∧last = detD L.reverse R:=fun z=>by
    obtain ⟨R,g,G,b,e⟩:=h.bar z
    exact ⟨R,g,_,b.swap (s:=s) (by rw [lr]; exact hs) sn (by rw [lr]; exact e1) (by rw [lr]; exact e2) (by rw [lr]; exact e3),e⟩
  rw [← e1] at ns
  generalize swapM M L.length s = M1 at e1 rd remS barS ns ⊢
  have ex:∀ i,∃ g:Nat→Int,i < n→(q = 0→∀ k,M1 L.length c * M1 i k - M1 i c * M1 L.length k = last * g k)∧(q ≠ 0→∀ k,g k = (M1 L.length c * M1 i k - M1 i c * M1 L.length k) % q):=fun i=>by
    by_cases z:q = 0
    · by_cases hi:i < n
      · by_cases ne:i = L.length
        · exact ⟨fun _=>0,fun _=>⟨fun _ k=>by rw [ne,Int.mul_zero]; omega,fun y=>absurd z y⟩⟩
        · obtain ⟨R,g,G,b,e⟩:=barS z
          obtain ⟨f,hf⟩:=b.even (by rw [lr]; exact rn) nc hi (by rw [lr]; exact ne)
          rw [lr] at hf
          exact ⟨f,fun _=>⟨fun _ k=>by rw [e]; exact hf k,fun y=>absurd z y⟩⟩
      · exact ⟨fun _=>0,fun y=>absurd y hi⟩
    · exact ⟨fun k=>(M1 L.length c * M1 i k - M1 i c * M1 L.length k) % q,fun _=>⟨fun y=>absurd y z,fun _ _=>rfl⟩⟩
  obtain ⟨Ef,sp⟩:∃ Ef:Nat→Nat→Int,∀ i,i < n→(q = 0→∀ k,M1 L.length c * M1 i k - M1 i c * M1 L.length k = last * Ef i k)∧(q ≠ 0→∀ k,Ef i k = (M1 L.length c * M1 i k - M1 i c * M1 L.length k) % q):=⟨fun i=>Classical.choose (ex i),fun i hi=>Classical.choose_spec (ex i) hi⟩
  refine ⟨Ef,sp,?_⟩
  have np:¬ q ∣ M1 L.length c:=rem_nz hq (fun z=>remS z _ c rn cW) ns
  have eh:(fun i=>if i = L.length then M1 L.length else Ef i) L.length = M1 L.length:=if_pos rfl
  have en:∀ i,i ≠ L.length→(fun i=>if i = L.length then M1 L.length else Ef i) i = Ef i:=fun i z=>if_neg z
  generalize (fun i=>if i = L.length then M1 L.length else Ef i) = M2 at eh en ⊢
  have ll:=h.last hq
  refine ⟨?_,fun z=>?_,fun z i k hi hk=>?_,fun z=>?_,h.bdd,h.mid,h.n1⟩
  · by_cases z:q = 0
    · refine rd.step hq (u:=last) rn (by rw [z]; exact fun d=>ll.2 (Int.zero_dvd.mp d)) np eh fun i k hi ne=>?_
      rw [en i ne]
      exact Cg.of_eq ((sp i hi).1 z k).symm
    · refine rd.step hq (u:=1) rn (one_nz hq) np eh fun i k hi ne=>?_
      rw [en i ne,Int.one_mul,(sp i hi).2 z k]
      exact cg_mod q _
  · obtain ⟨R,g,G,b,e⟩:=barS z
    obtain ⟨R',g',b',e'⟩:=b.step (M':=M2) (c:=c) (by rw [lr]; exact rn) nc (by rw [lr]; exact ns) (by rw [lr]; exact eh) (fun i k hi ne=>by
      rw [lr] at ne ⊢
      rw [en i ne,← e]
      exact ((sp i hi).1 z k).symm)
    rw [lr] at e'
    refine ⟨R',g',G,?_,?_⟩
    · rw [List.reverse_append]
      exact b'
    · rw [List.reverse_append]
      exact e'.symm
  · by_cases ne:i = L.length
    · rw [ne,eh]
      exact remS z _ k rn hk
    · rw [en i ne,(sp i hi).2 z k]
      have q2:0 < q:=by rcases hq with h | h <;> omega
      exact ⟨Int.emod_nonneg _ z,Int.emod_lt_of_pos _ q2⟩
  · have:=remS z _ c rn cW
    omega
theorem RedI.leads {q:Int} {P n W:Nat} {A M:Nat→Nat→Int} {L:List Nat} {last:Int} {cur:Nat} (h:RedI q P n W A M L last cur) (z:q = 0) {j:Nat} (hj:j < L.length):M j (L.getD j 0) = last:=by
  obtain ⟨R,g,G,b,e⟩:=h.bar z
  have:=b.lead (j:=j) (by simpa using hj)
  rw [List.reverse_reverse] at this
  rw [this,e]
end My
namespace My
open PySem L2
structure RedR (q:Int) (P W:Nat) (pss:List (List (Int × Int))) (A M:Nat→Nat→Int) (c:Nat→Int) (L:List Nat) (last:Int) (rss:List (List (Int × Int))):Prop where
  red:RedI q P pss.length W A M L last W
  bot:∀ i,i < pss.length→BotOk q (c i)
  row:∀ i k,i < pss.length→k < W→A i k * (atT pss i k).2 = (atT pss i k).1 * c i
  len:rss.length = L.length
  wid:∀ ps ∈ rss,ps.length = W
  val:∀ j k,j < L.length→k < W→Weq q (atT rss j k) (M j k,M j (L.getD j 0))
def natsV (L:List Nat):List V:=(L.map fun j:Nat=>(j:Int)).map V.int
def spRed (C N:Addr):Sp:=fun vs H Q E=>∃ (z a:Addr) (q:Int) (B P W:Nat) (pss:List (List (Int × Int))) (G:Nat→Nat),vs = [.ref z,.ref a]∧WorldAt C H z q∧WheelN q∧TabB B H q a pss∧1000 ≤ B∧B ≤ 10 ^ 150∧1 ≤ pss.length∧pss.length ≤ 40∧(∀ ps ∈ pss,ps.length = W)∧W ≤ 100∧(∀ i,i < pss.length→RowE q (G i) (pss.getD i []))∧(∀ i,1000 ≤ G i∧G i ≤ 10 ^ 150)∧prodN pss.length G ≤ P∧pss.length * (facN pss.length * P) < 2 ^ 2048∧
  ∀ (p r l:Addr) (H':Hp) (A M:Nat→Nat→Int) (c:Nat→Int) (L:List Nat) (last:Int) (rss:List (List (Int × Int))),Same H H'→H' p = some (.tup [.ref r,.ref l])→H' l = some (.lst (natsV L))→TabB (pss.length * (facN pss.length * P)) H' q r rss→RedR q P W pss A M c L last rss→Q (.ref p) H'
theorem rng_getD (ts:List Int) {W:Nat} (h:ts.length = W):(List.range W).map (fun k=>ts.getD k 0) = ts:=by
  subst h
  refine List.ext_getElem (by simp) fun j h1 h2=>?_
  simp [List.getD_eq_getElem?_getD,h2]
theorem rows_pick {α:Type} [Inhabited α] {n:Nat} {R:Nat→α→Prop} (h:∀ i,i < n→∃ x,R i x):∃ f:Nat→α,∀ i,i < n→R i (f i):=by
  refine ⟨fun i=>if hi:i < n then Classical.choose (h i hi) else default,fun i hi=>?_⟩
  dsimp only
  rw [dif_pos hi]
  exact Classical.choose_spec (h i hi)
end My
namespace My
open PySem L2
theorem bot_ne {q b:Int} (h:BotOk q b):b ≠ 0:=by
  by_cases z:q = 0
  · have:=h.1 z; omega
  · have:=h.2 z; omega
structure WhR (q:Int) (E W:Nat) (ps:List (Int × Int)) (ts:List Int) (b:Int):Prop where
  len:ts.length = W
  ok:BotOk q b
  eq:∀ k,k < W→ts.getD k 0 * (ps.getD k o1).2 = (ps.getD k o1).1 * b
  bd:∀ k,(ts.getD k 0).natAbs ≤ E
  rem:q ≠ 0→∀ k,k < W→0 ≤ ts.getD k 0∧ts.getD k 0 < q
theorem wh_row {q D b:Int} {ps:List (Int × Int)} {ts:List Int} {E W B' B:Nat} {x:Nat→Int} {H:Hp} {r:Addr} (hq:WheelN q) (wd:WhD q ps ts b D B') (hW:ps.length = W) (hr:RowG B H q r ps) (okD:BotOk q D) (hx:∀ i,i < ps.length→(ps.getD i o1).1 * D = x i * (ps.getD i o1).2∧(x i).natAbs ≤ E):WhR q E W ps ts b:=by
  have can:∀ k,k < W→Canon q (ps.getD k o1)∧BotOk q (ps.getD k o1).2:=fun k hk=>by
    obtain ⟨vs,e,l,f⟩:=hr
    have k1:k < vs.length:=by omega
    have k2:k < ps.length:=by omega
    have z:=f k vs[k] ps[k] (by simp [k1]) (by simp [k2])
    rw [getD_at k2]
    exact ⟨z.canon,z.bot hq⟩
  refine ⟨by rw [wd.len,hW],wd.ok,fun k hk=>(wd.each k (by omega)).1,fun k=>?_,fun z k hk=>?_⟩
  · by_cases hk:k < W
    · obtain ⟨h1,h2⟩:=hx k (by omega)
      exact rowE_top (wd.each k (by omega)).1 h1 wd.dvd (bot_ne (can k hk).2) (bot_ne wd.ok) (bot_ne okD) h2
    · rw [getD_out (by rw [wd.len]; omega)]
      exact Nat.zero_le _
  · obtain ⟨c1,c2⟩:=can k hk
    obtain ⟨m1,m2,m3⟩:=c1.2 z
    have e:=(wd.each k (by omega)).1
    rw [m1,wd.ok.2 z,Int.mul_one,Int.mul_one] at e
    rw [e]
    exact ⟨m2,m3⟩
end My
namespace L2
open PySem PySem.Spec PyProof.Rows
theorem sl_listK {X:Cx} {K:PySem.W.Frag} (hK:X.K = K:=by rfl):SlR X (rSlL K):=by
  subst hK
  exact sl_list
end L2
namespace My
open PySem L2
theorem cg_cancel2 {q u x y:Int} (hq:WheelN q) (nu:¬ q ∣ u) (h:Cg q (u * x) (u * y)):Cg q x y:=by
  have z:Cg q (u * (x - y)) 0:=by
    have:=h.sub (Cg.refl (u * y))
    rw [Int.sub_self] at this
    exact (Cg.of_eq (by rw [Int.mul_sub])).trans this
  have z:=cg_cancel hq nu z
  have:=z.add (Cg.refl y)
  exact (Cg.of_eq (by omega)).trans (this.trans (Cg.of_eq (by omega)))
theorem rise_ge:∀ {L:List Nat},L.Pairwise (· < ·)→∀ j,j < L.length→j ≤ L.getD j 0:=fun {L} h j=>by
  induction j with
  | zero=>intro _; exact Nat.zero_le _
  | succ j ih=>
    intro hj
    have h1:=ih (by omega)
    have h2:=List.pairwise_iff_getElem.mp h j (j + 1) (by omega) hj (by omega)
    rw [getD_at (by omega)] at h1
    rw [getD_at hj]
    omega
theorem rise_lt {L:List Nat} (h:L.Pairwise (· < ·)) {i j:Nat} (hij:i < j) (hj:j < L.length):L.getD i 0 < L.getD j 0:=by
  rw [getD_at (by omega),getD_at hj]
  exact List.pairwise_iff_getElem.mp h i j (by omega) hj hij
theorem rise_range {L:List Nat} {n:Nat} (h:L.Pairwise (· < ·)) (hl:L.length ≤ n) (all:∀ c,c < n→c ∈ L):L = List.range n:=by
  have at':∀ j,j < n→j < L.length∧L.getD j 0 = j:=fun j=>by
    induction j using Nat.strongRecOn with
    | _ j ih=>
      intro hj
      obtain ⟨t,ht,e⟩:=List.mem_iff_getElem.mp (all j hj)
      have tj:j ≤ t:=by
        refine Classical.byContradiction fun z=>?_
        have:=(ih t (by omega) (by omega)).2
        rw [getD_at ht] at this
        omega
      have jl:j < L.length:=by omega
      refine ⟨jl,?_⟩
      have h1:=rise_ge h j jl
      by_cases z:t = j
      · subst z; rw [getD_at ht]; exact e
      · have:=rise_lt h (show j < t by omega) ht
        rw [getD_at (show t < L.length from ht)] at this
        omega
  have ln:L.length = n:=by
    refine Classical.byContradiction fun z=>?_
    have:=(at' L.length (by omega)).1
    omega
  refine List.ext_getElem (by simp [ln]) fun j h1 h2=>?_
  have:=(at' j (by omega)).2
  rw [getD_at h1] at this
  rw [List.getElem_range]
  exact this
theorem sumN_put (n m:Nat) (hm:m < n) (f x:Nat→Int) (p v:Int) (x0:x m = 0):(sumN n fun k=>f k * (if k = m then v else p * x k)) = p * (sumN n fun k=>f k * x k) + f m * v:=by
  have e:(fun k=>f k * (if k = m then v else p * x k)) = fun k=>p * (f k * x k) + (if k = m then f k * v else 0):=funext fun k=>by
    by_cases z:k = m
    · rw [if_pos z,if_pos z,z,x0]; grind
    · rw [if_neg z,if_neg z]; grind
  rw [e,sumN_add,← sumN_mul,sumN_one n m (fun k=>f k * v) hm]
theorem RdI.ker {q:Int} (hq:WheelN q) {n W:Nat} {A M:Nat→Nat→Int} {L:List Nat} (h:RdI q n A M L W) (nW:n ≤ W) (ne:L ≠ List.range n):∃ (x:Nat→Int) (c:Nat),c < n∧¬ q ∣ x c∧∀ t,t < n→Cg q (sumN n fun k=>A t k * x k) 0:=by
  obtain ⟨c,cn,cL⟩:∃ c,c < n∧c ∉ L:=Classical.byContradiction fun z=>ne (rise_range h.up h.len fun c hc=>Classical.byContradiction fun y=>z ⟨c,hc,y⟩)
  have mem:∀ j,j < L.length→L.getD j 0 ∈ L:=fun j hj=>by rw [getD_at hj]; exact List.getElem_mem _
  have main:∀ m,m ≤ L.length→∃ x:Nat→Int,¬ q ∣ x c∧(∀ k,k ≠ c→(∀ j,j < m→k ≠ L.getD j 0)→x k = 0)∧∀ j,j < m→Cg q (sumN n fun k=>M j k * x k) 0:=fun m=>by
    induction m with
    | zero=>exact fun _=>⟨fun k=>if k = c then 1 else 0,by dsimp only; rw [if_pos rfl]; exact one_nz hq,fun k hk _=>if_neg hk,fun j hj=>by omega⟩
    | succ m ih=>
      intro hm
      obtain ⟨x,h1,h2,h3⟩:=ih (by omega)
      by_cases lm:L.getD m 0 < n
      · have lc:L.getD m 0 ≠ c:=fun e=>cL (e ▸ mem m (by omega))
        have x0:x (L.getD m 0) = 0:=h2 _ lc fun j hj e=>by
          have:=rise_lt h.up hj (by omega)
          omega
        refine ⟨fun k=>if k = L.getD m 0 then -(sumN n fun k=>M m k * x k) else M m (L.getD m 0) * x k,?_,fun k hk hj=>?_,fun j hj=>?_⟩
        · dsimp only
          rw [if_neg (Ne.symm lc)]
          exact nz_mul hq (h.lead m (by omega)) h1
        · dsimp only
          rw [if_neg (hj m (by omega)),h2 k hk fun j hj'=>hj j (by omega),Int.mul_zero]
        · rw [sumN_put n _ lm (M j) x _ _ x0]
          by_cases e:j = m
          · subst e
            exact Cg.of_eq (by grind)
          · have a:=(h3 j (by omega)).mulL (M m (L.getD m 0))
            have b:=(h.off j m (by have:=h.len; omega) (by omega) e).mulR (-(sumN n fun k=>M m k * x k))
            exact (a.add b).trans (Cg.of_eq (by simp))
      · refine ⟨x,h1,fun k hk hj=>h2 k hk fun j hj'=>hj j (by omega),fun j hj=>?_⟩
        by_cases e:j = m
        · subst e
          have:=cg_sum (q:=q) (n:=n) (f:=fun k=>M j k * x k) (g:=fun _=>0) fun k hk=>by
            have:=(h.bef j k (by omega) (by omega)).mulR (x k)
            rw [Int.zero_mul] at this
            exact this
          rw [sumN_zero] at this
          exact this
        · exact h3 j (by omega)
  obtain ⟨x,h1,_,h3⟩:=main L.length (Nat.le_refl _)
  have all:∀ i,i < n→Cg q (sumN n fun k=>M i k * x k) 0:=fun i hi=>by
    by_cases z:i < L.length
    · exact h3 i z
    · have:=cg_sum (q:=q) (n:=n) (f:=fun k=>M i k * x k) (g:=fun _=>0) fun k hk=>by
        have:=(h.low i k hi (by omega) (by omega)).mulR (x k)
        rw [Int.zero_mul] at this
        exact this
      rw [sumN_zero] at this
      exact this
  refine ⟨x,c,cn,h1,fun t ht=>?_⟩
  obtain ⟨e,y,ne',hy⟩:=h.ofM t ht
  refine cg_cancel hq ne' ?_
  have s1:Cg q (e * sumN n fun k=>A t k * x k) (sumN n fun k=>(sumN n fun i=>y i * M i k) * x k):=by
    rw [sumN_mul]
    exact cg_sum fun k _=>(Cg.of_eq (by grind)).trans ((hy k).mulR (x k))
  refine s1.trans ?_
  rw [sums_assoc n n (fun i=>y i) (fun i k=>M i k) x]
  have:=cg_sum (q:=q) (n:=n) (f:=fun l=>y l * sumN n fun j=>M l j * x j) (g:=fun _=>0) fun l hl=>by
    have:=(all l hl).mulL (y l)
    rw [Int.mul_zero] at this
    exact this
  rw [sumN_zero] at this
  exact this
theorem rep_row {q a c t D:Int} {p:Int × Int} (hq:WheelN q) (e:a * p.2 = p.1 * c) (w:Weq q p (t,D)) (ok:BotOk q p.2):Cg q (t * c) (a * D):=by
  refine cg_cancel2 hq (ok.nz hq) ?_
  obtain ⟨k,ek⟩:=w
  dsimp only at ek
  refine ⟨-(c * k),?_⟩
  have:p.2 * (a * D) = p.1 * c * D:=by rw [← e]; grind
  grind
end My
namespace My
open PySem L2
def TabF (B:Nat) (H0 H:Hp) (q:Int) (r:Addr) (rss:List (List (Int × Int))):Prop:=∃ vs:List V,H r = some (.lst vs)∧vs.length = rss.length∧H0 r = none∧∀ (i:Nat) (v:V) (ps:List (Int × Int)),vs[i]? = some v→rss[i]? = some ps→∃ x:Addr,v = .ref x∧x ≠ r∧H0 x = none∧RowG B H q x ps
theorem TabF.b {B:Nat} {H0 H:Hp} {q:Int} {r:Addr} {rss:List (List (Int × Int))} (h:TabF B H0 H q r rss):TabB B H q r rss:=by
  obtain ⟨vs,e,l,_,f⟩:=h
  exact ⟨vs,e,l,fun i v ps h1 h2=>by
    obtain ⟨x,e1,_,_,e2⟩:=f i v ps h1 h2
    exact ⟨x,e1,e2⟩⟩
theorem TabB.each {B:Nat} {H:Hp} {q:Int} {r:Addr} {rss:List (List (Int × Int))} (h:TabB B H q r rss):∀ ps ∈ rss,∃ x,RowG B H q x ps:=fun ps hp=>by
  obtain ⟨vs,e,l,f⟩:=h
  obtain ⟨i,hi,e2⟩:=List.mem_iff_getElem.mp hp
  have h1:i < vs.length:=by omega
  obtain ⟨x,_,e3⟩:=f i vs[i] ps (by simp [h1]) (by simp [hi,e2])
  exact ⟨x,e3⟩
theorem RowG.nums {B:Nat} {H:Hp} {q:Int} {a:Addr} {ps:List (Int × Int)} (h:RowG B H q a ps) (hq:WheelN q):∀ p ∈ ps,Canon q p∧BotOk q p.2∧∃ v,NumAt B H q v p.1 p.2:=fun p hp=>by
  obtain ⟨vs,e,l,f⟩:=h
  obtain ⟨i,hi,e2⟩:=List.mem_iff_getElem.mp hp
  have h1:i < vs.length:=by omega
  have z:=f i vs[i] p (by simp [h1]) (by simp [hi,e2])
  exact ⟨z.canon,z.bot hq,_,z⟩
theorem TabB.nums {B:Nat} {H:Hp} {q:Int} {r:Addr} {rss:List (List (Int × Int))} (h:TabB B H q r rss) (hq:WheelN q):∀ ps ∈ rss,∀ p ∈ ps,Canon q p∧BotOk q p.2∧∃ v,NumAt B H q v p.1 p.2:=fun ps hp=>by
  obtain ⟨x,hx⟩:=h.each ps hp
  exact hx.nums hq
def KerP (q:Int) (n:Nat) (pss:List (List (Int × Int))):Prop:=∃ (x:Nat→Int) (c:Nat),c < n∧¬ q ∣ x c∧∀ T D,RepT q n n (atT pss) T D→∀ i,i < n→Cg q (sumN n fun k=>T i k * x k) 0
theorem atT_mem {pss:List (List (Int × Int))} {n m i k:Nat} (h:pss.length = n) (hm:∀ ps ∈ pss,ps.length = m) (hi:i < n) (hk:k < m):∃ ps ∈ pss,atT pss i k ∈ ps:=by
  have h1:i < pss.length:=by omega
  have l:=hm _ (List.getElem_mem h1)
  refine ⟨pss[i],List.getElem_mem h1,?_⟩
  unfold atT
  rw [getD_at h1,getD_at (by omega)]
  exact List.getElem_mem _
theorem drop_at {rss:List (List (Int × Int))} {n j k:Nat} (hj:j < rss.length):atT (rss.map fun ps=>ps.drop n) j k = atT rss j (n + k):=by
  have e:(rss.map fun ps=>ps.drop n).getD j [] = rss[j].drop n:=by
    rw [getD_at (by rw [List.length_map]; exact hj),List.getElem_map]
  unfold atT
  rw [e,getD_at hj,List.getD_eq_getElem?_getD,List.getD_eq_getElem?_getD,List.getElem?_drop]
theorem low_dvd {x m a b:Int} (l:Low x m) (e:x * b = a * m):m ∣ b:=by
  have h:m ∣ x * b:=⟨a,by rw [e,Int.mul_comm]⟩
  have g:Int.gcd m x = 1:=by rw [Int.gcd_comm]; exact l.cop
  have h2:m.natAbs ∣ x.natAbs * b.natAbs:=by rw [← Int.natAbs_mul]; exact Int.natAbs_dvd_natAbs.mpr h
  exact Int.natAbs_dvd_natAbs.mp (Nat.Coprime.dvd_of_dvd_mul_left g h2)
def spBackT (C N:Addr):Sp:=fun vs H Q E=>∃ (z a b:Addr) (q:Int) (B P u:Nat) (pss uss:List (List (Int × Int))) (G:Nat→Nat),vs = [.ref z,.ref a,.ref b]∧WorldAt C H z q∧WheelN q∧TabB B H q a pss∧TabB B H q b uss∧1000 ≤ B∧B ≤ 10 ^ 150∧1 ≤ pss.length∧pss.length ≤ 40∧uss.length = pss.length∧(∀ ps ∈ pss,ps.length = pss.length)∧(∀ ps ∈ uss,ps.length = u)∧u ≤ 40∧(∀ ps ∈ List.zipWith (· ++ ·) pss uss,ps.length = pss.length + u)∧(∀ i,i < pss.length→RowE q (G i) ((List.zipWith (· ++ ·) pss uss).getD i []))∧(∀ i,1000 ≤ G i∧G i ≤ 10 ^ 150)∧prodN pss.length G ≤ P∧pss.length * (facN pss.length * P) < 2 ^ 2048∧
  (∀ (H':Hp) (A M:Nat→Nat→Int) (c:Nat→Int) (L:List Nat) (last:Int) (rss:List (List (Int × Int))),Same H H'→RedR q P (pss.length + u) (List.zipWith (· ++ ·) pss uss) A M c L last rss→L ≠ List.range pss.length→Q .non H')∧
  (∀ (H':Hp) (A M:Nat→Nat→Int) (c:Nat→Int) (last:Int) (rss:List (List (Int × Int))) (r:Addr),Same H H'→RedR q P (pss.length + u) (List.zipWith (· ++ ·) pss uss) A M c (List.range pss.length) last rss→(∃ H1 x,TabB (pss.length * (facN pss.length * P)) H1 q x rss)→TabF (pss.length * (facN pss.length * P)) H H' q r (rss.map fun ps=>ps.drop pss.length)→Q (.ref r) H')
end My
namespace My
open PySem L2
theorem cutV_drop (xs:List V) (k:Nat) (h:k ≤ xs.length):cutV xs (some (k:Int)) none = xs.drop k:=by
  have e1:HT.sIx xs.length 0 (some (k:Int)) = k:=by
    rw [HT.sIx_nat]
    omega
  have e2:HT.sIx xs.length xs.length none = xs.length:=rfl
  unfold cutV
  rw [e1,e2,List.take_of_length_le (by rw [List.length_drop]; omega)]
theorem RowG.drop {B:Nat} {H:Hp} {q:Int} {r:Addr} {vs:List V} {ps:List (Int × Int)} {k:Nat} (e:H r = some (.lst (vs.drop k))) (l:vs.length = ps.length) (f:∀ (i:Nat) (v:V) (p:Int × Int),vs[i]? = some v→ps[i]? = some p→NumAt B H q v p.1 p.2):RowG B H q r (ps.drop k):=by
  refine ⟨_,e,by rw [List.length_drop,List.length_drop,l],fun i v p h1 h2=>?_⟩
  rw [List.getElem?_drop] at h1 h2
  exact f _ v p h1 h2
theorem upto_nats (n:Nat):upto n = ((List.range n).map fun j:Nat=>(j:Int)).map V.int:=by
  unfold upto
  rw [List.map_map]
  rfl
theorem nats_inj {L L':List Nat} (h:(L.map fun j:Nat=>(j:Int)) = L'.map fun j:Nat=>(j:Int)):L = L':=by
  refine List.ext_getElem (by simpa using congrArg List.length h) fun j h1 h2=>?_
  have:=congrArg (fun l=>l[j]?) h
  have:((L[j]:Nat):Int) = ((L'[j]:Nat):Int):=by simpa [h1,h2] using this
  omega
end My
namespace L2
open PySem PySem.Spec PyProof.Rows
def Wide (i:Int):Prop:=i.natAbs < 2 ^ 8192
theorem Wide.log {i:Int} (h:Wide i):i.natAbs.log2 < 8192:=by
  by_cases z:i.natAbs = 0
  · rw [z]; decide
  · exact (Nat.log2_lt z).mpr h
theorem Mid.wide {i:Int} (h:Mid i):Wide i:=Nat.lt_of_lt_of_le h (Nat.pow_le_pow_right (by decide) (by decide))
def CDivW (i j:Int):Prop:=j ≠ 0∧Wide j
section
variable {X:Cx}
theorem op_fdivW:OpR X (binaryOp .FloorDiv) (rI CDivW fun i j=>.int (i.fdiv j)):=opI fun _ _ _ _ _ _ _ hc q=>floordiv_int hc.1 q (.inl (PyProof.noPylong_of_log2 (Nat.lt_of_lt_of_le hc.2.log (by decide))))
end
end L2
namespace My
open PySem L2
theorem lowG_okW {a b:Int} (h:b ≠ 0) (m:Wide b):CDivW 0 (lowG a b):=by
  have h1:=gcd_pos (a:=a) h
  have h2:Int.gcd a b < 2 ^ 8192:=Nat.lt_of_le_of_lt (Nat.gcd_le_right _ (Int.natAbs_pos.mpr h)) m
  unfold lowG
  refine ⟨by split <;> omega,?_⟩
  unfold Wide
  split
  · rw [show (0 - (Int.gcd a b:Int)).natAbs = Int.gcd a b by omega]; exact h2
  · rw [Int.natAbs_natCast]; exact h2
def spLowW:Sp:=fun vs H Q _=>∃ a b:Int,vs = [.int a,.int b]∧b ≠ 0∧Wide b∧∀ (q:Addr) (H':Hp),Same H H'→H' q = some (.tup [.int (a.fdiv (lowG a b)),.int (b.fdiv (lowG a b))])→Q (.ref q) H'
def spNumber10:Sp:=fun vs H Q _=>∃ q c:Int,vs = [.int q,.int c]∧WheelN q∧0 ≤ c∧∀ (v:V) (x m:Int) (H':Hp),Same H H'→NumAt (10 ^ 6) H' q v x m→m.natAbs ≤ 1000→Q v H'
end My
namespace My
open PySem L2
end My
namespace L2
open PySem PySem.Spec PyProof.Rows
end L2
namespace My
open PySem L2
theorem comp_filt {wi:TI} {ρ:St→St} {tt:TT} {te:TE} {σ:St} {H:Hp} {Q:VK} {xs:List V} (f:Nat→Bool) (hwi:∀ R:It→Hp→Prop,(∀ J H1,Same H H1→JSeq J xs H1→R J H1)→wi σ H R) (hn:xs.length < sizeLine)
    (test:∀ (i:Nat) (x:V),xs[i]? = some x→∀ (Hc:Hp) (R:Bool→Hp→Prop),Same H Hc→R (f i) Hc→tt (some x :: ρ σ) Hc R)
    (step:∀ (i:Nat) (x:V),xs[i]? = some x→∀ (Hc:Hp) (R:VK),R x Hc→te (some x :: ρ σ) Hc R)
    (fin:∀ D ys Hc,H D = none→Same H Hc→(∀ v ∈ ys,∃ i:Nat,f i = true∧xs[i]? = some v)→(∀ i,i < xs.length→f i = true→ys ≠ [])→Hc D = some (.lst ys)→Q (.ref D) Hc):tComp wi ρ tt te σ H Q:=by
  refine hwi _ fun J H1 s1 js=>?_
  intro D nD
  have hD:H D = none:=by
    cases e:H D with
    | none=>rfl
    | some o=>rw [s1 _ _ e] at nD; cases nD
  refine ⟨fun i m ys Hc=>m = xs.length - i∧i ≤ xs.length∧Hc D = some (.lst ys)∧Same H1 Hc∧ys.length ≤ i∧(∀ v ∈ ys,∃ i:Nat,f i = true∧xs[i]? = some v)∧(∀ i',i' < i→f i' = true→ys ≠ []),⟨_,rfl,Nat.zero_le _,upd_same,same_but (Same.refl H1) nD,Nat.le_refl _,(fun v hv=>by simp at hv),fun i' h=>by omega⟩,?_⟩
  rintro i m ys Hc ⟨rfl,hi,eD,sH,el,h1,h2⟩
  refine ⟨eD,?_⟩
  by_cases hlt:i < xs.length
  · refine .inr ⟨js.go i Hc sH hlt,fun x H' hy=>?_⟩
    obtain ⟨rfl,hx⟩:=js.yld i Hc x H' sH hy
    refine test i x (hx hlt) _ _ (s1.trans sH) ?_
    cases ef:f i with
    | true=>
      rw [if_pos rfl]
      refine step i x (hx hlt) _ _ ⟨eD,by omega,xs.length - (i + 1),by omega,rfl,hlt,upd_same,same_but sH nD,by simp; exact el,fun v hv=>?_,fun i' h3 h4=>by simp⟩
      rcases List.mem_append.mp hv with z | z
      · exact h1 v z
      · rw [List.mem_singleton.mp z]
        exact ⟨i,ef,hx hlt⟩
    | false=>
      rw [if_neg Bool.false_ne_true]
      refine ⟨xs.length - (i + 1),by omega,rfl,hlt,eD,sH,by omega,h1,fun i' h3 h4=>?_⟩
      by_cases z:i' = i
      · rw [z,ef] at h4; cases h4
      · exact h2 i' (by omega) h4
  · have e:i = xs.length:=by omega
    subst e
    exact .inl ⟨js.stop _ Hc sH (Nat.le_refl _),fin D ys Hc hD (s1.trans sH) h1 h2 eD⟩
def NoKer (q:Int) (n:Nat) (pss:List (List (Int × Int))):Prop:=∀ T D,RepT q n n (atT pss) T D→∀ x:Nat→Int,(∀ i,i < n→Cg q (sumN n fun k=>T i k * x k) 0)→∀ i,i < n→Cg q (x i) 0
end My
namespace My
open PySem L2
def RowV (Dl V:Nat) (ps:List (Int × Int)):Prop:=∃ (D:Int) (x:Nat→Int),1 ≤ D∧D.natAbs ≤ Dl∧∀ j,j < ps.length→(ps.getD j o1).1 * D = x j * (ps.getD j o1).2∧(x j).natAbs ≤ V * D.natAbs
theorem RowV.e {Dl V E:Nat} {ps:List (Int × Int)} (h:RowV Dl V ps) (hc:∀ p ∈ ps,Canon 0 p) (h1:V * Dl ≤ E) (h2:1 ≤ V):RowE 0 E ps:=by
  obtain ⟨D,x,d1,d2,hx⟩:=h
  have dl:D.natAbs ≤ E:=Nat.le_trans (Nat.le_trans d2 (Nat.le_mul_of_pos_left _ h2)) h1
  refine ⟨D,x,⟨fun _=>d1,fun z=>absurd rfl z⟩,dl,fun p hp=>?_,fun j hj=>⟨(hx j hj).1,Nat.le_trans (hx j hj).2 (Nat.le_trans (Nat.mul_le_mul_left _ d2) h1)⟩⟩
  obtain ⟨j,hj,e⟩:=List.mem_iff_getElem.mp hp
  have z:=(hx j hj).1
  rw [getD_at hj,e] at z
  exact low_dvd ((hc p hp).1 rfl) z
theorem rowV_base:∀ (ps:List (Int × Int)),(∀ p ∈ ps,p.1.natAbs ≤ 10 ^ 6∧1 ≤ p.2∧p.2.natAbs ≤ 1000)→RowV (1000 ^ ps.length) (10 ^ 6) ps
  | [],_=>⟨1,fun _=>0,by decide,by decide,fun j hj=>by simp at hj⟩
  | p :: ps,h=>by
    obtain ⟨D,x,d1,d2,hx⟩:=rowV_base ps fun p hp=>h p (List.mem_cons_of_mem _ hp)
    obtain ⟨b1,b2,b3⟩:=h p List.mem_cons_self
    have m1:(p.2 * D).natAbs = p.2.natAbs * D.natAbs:=Int.natAbs_mul ..
    have pd:=Int.mul_pos (show 0 < p.2 by omega) (show 0 < D by omega)
    refine ⟨p.2 * D,fun j=>if j = 0 then p.1 * D else p.2 * x (j - 1),by omega,?_,fun j hj=>?_⟩
    · rw [m1,List.length_cons,Nat.pow_succ,Nat.mul_comm]
      exact Nat.mul_le_mul d2 b3
    · cases j with
      | zero=>
        dsimp only
        rw [if_pos rfl,List.getD_cons_zero]
        refine ⟨by grind,?_⟩
        rw [m1,Int.natAbs_mul]
        refine Nat.mul_le_mul b1 (Nat.le_mul_of_pos_left _ (by omega))
      | succ j=>
        dsimp only
        rw [if_neg (by omega),List.getD_cons_succ,Nat.add_sub_cancel]
        obtain ⟨e1,e2⟩:=hx j (by simpa using hj)
        refine ⟨by grind,?_⟩
        rw [m1,Int.natAbs_mul,Nat.mul_left_comm]
        exact Nat.mul_le_mul_left _ e2
theorem row_far {B:Nat} {H H':Hp} {q:Int} {a D:Addr} {ps:List (Int × Int)} {ys:List V} (h:RowG B H q a ps) (n:a ≠ D) (eD:H D = some (.lst ys)) (k:∀ b o,b ≠ D→H b = some o→H' b = some o):RowG B H' q a ps:=by
  obtain ⟨vs,e,l,f⟩:=h
  exact ⟨vs,k _ _ n e,l,fun i v p h1 h2=>(f i v p h1 h2).far eD k⟩
theorem upd_far {H:Hp} {D:Addr} {o:HO}:∀ b o',b ≠ D→H b = some o'→upd H D o b = some o':=fun b o' nb e=>by rw [upd_ne nb]; exact e
end My
namespace My
open PySem L2
end My
namespace My
open PySem L2
theorem prod_const (b:Nat):∀ n,prodN n (fun _=>b) = b ^ n
  | 0=>rfl
  | n + 1=>by
    show prodN n (fun _=>b) * b = b ^ (n + 1)
    rw [prod_const b n,Nat.pow_succ]
end My
namespace My
open PySem L2
end My
namespace My
open PySem L2
theorem dvd_cg {q x:Int} (h:Cg q x 0):q ∣ x:=by
  unfold Cg at h
  rw [Int.sub_zero] at h
  exact h
theorem ker_noKer {q:Int} {n:Nat} {pss:List (List (Int × Int))} (h1:KerP q n pss) (h2:NoKer q n pss) (r:∃ T D,RepT q n n (atT pss) T D):False:=by
  obtain ⟨x,c,cn,nx,hx⟩:=h1
  obtain ⟨T,D,r⟩:=r
  exact nx (dvd_cg (h2 T D r x (hx T D r) c cn))
theorem rowE_mono {q:Int} {E E':Nat} {ps:List (Int × Int)} (h:RowE q E ps) (h1:E ≤ E'):RowE q E' ps:=by
  obtain ⟨D,x,a,b,c,d⟩:=h
  exact ⟨D,x,a,Nat.le_trans b h1,c,fun i hi=>⟨(d i hi).1,Nat.le_trans (d i hi).2 h1⟩⟩
theorem TabB.rep {B:Nat} {H:Hp} {q:Int} (hq:WheelN q) {r:Addr} {pss:List (List (Int × Int))} {n m:Nat} (h:TabB B H q r pss) (hN:pss.length = n) (hM:∀ ps ∈ pss,ps.length = m):∃ T D,RepT q n m (atT pss) T D:=repT_of (fun ps h1 p h2=>(h.nums hq ps h1 p h2).2.1) hN hM
end My
namespace L2
open PySem PySem.Spec PyProof.Rows
theorem op_notInK {X:Cx} {K:PySem.W.Frag} (hK:X.K = K:=by rfl):OpR X (compareOp .NotIn) (rIn K true):=by
  subst hK
  exact op_notIn_seq
end L2
namespace My
open PySem L2
section
variable {q:Int} {P n W:Nat} {pss qss rss:List (List (Int × Int))} {A M:Nat→Nat→Int} {c:Nat→Int} {L:List Nat} {last:Int}
theorem RedR.rowCgG (hq:WheelN q) (h:RedR q P W qss A M c L last rss) (hn:pss.length = n) (hn':qss.length = n) (hm:∀ ps ∈ pss,ps.length = n) (hl:∀ i k,i < n→k < n→atT qss i k = atT pss i k) (nW:n ≤ W) (hb:∀ ps ∈ pss,∀ p ∈ ps,BotOk q p.2) {T:Nat→Nat→Int} {D:Int} (r:RepT q n n (atT pss) T D) {i k:Nat} (hi:i < n) (hk:k < n):Cg q (T i k * c i) (A i k * D):=by
  have e:=h.row i k (by omega) (by omega)
  rw [hl i k hi hk] at e
  obtain ⟨ps,h1,h2⟩:=atT_mem hn hm hi hk
  exact rep_row hq e (r.2 i k hi hk) (hb ps h1 _ h2)
theorem RedR.kerG (hq:WheelN q) (h:RedR q P W qss A M c L last rss) (hn:pss.length = n) (hn':qss.length = n) (hm:∀ ps ∈ pss,ps.length = n) (hl:∀ i k,i < n→k < n→atT qss i k = atT pss i k) (nW:n ≤ W) (hb:∀ ps ∈ pss,∀ p ∈ ps,BotOk q p.2) (ne:L ≠ List.range n):KerP q n pss:=by
  have rd:=h.red.rd
  rw [hn'] at rd
  obtain ⟨x,k,hk,nx,hx⟩:=rd.ker hq nW ne
  refine ⟨x,k,hk,nx,fun T D r i hi=>?_⟩
  have ci:=h.bot i (by omega)
  refine cg_cancel hq (ci.nz hq) ?_
  have s1:Cg q (c i * sumN n fun k=>T i k * x k) (sumN n fun k=>D * (A i k * x k)):=by
    rw [sumN_mul]
    refine cg_sum fun k hk=>?_
    have:=(h.rowCgG hq hn hn' hm hl nW hb r hi hk).mulR (x k)
    exact (Cg.of_eq (by grind)).trans (this.trans (Cg.of_eq (by grind)))
  refine s1.trans ?_
  rw [← sumN_mul]
  have:=(hx i hi).mulL D
  rw [Int.mul_zero] at this
  exact this
theorem RedR.noKerG (hq:WheelN q) (h:RedR q P W qss A M c (List.range n) last rss) (hn:pss.length = n) (hn':qss.length = n) (hm:∀ ps ∈ pss,ps.length = n) (hl:∀ i k,i < n→k < n→atT qss i k = atT pss i k) (nW:n ≤ W) (hb:∀ ps ∈ pss,∀ p ∈ ps,BotOk q p.2):NoKer q n pss:=fun T D r x hx j hj=>by
  have rd:=h.red.rd
  rw [hn'] at rd
  have gr:∀ j,j < n→(List.range n).getD j 0 = j:=fun j hj=>by
    rw [getD_at (by simpa using hj)]
    simp
  have ax:∀ t,t < n→Cg q (sumN n fun k=>A t k * x k) 0:=fun t ht=>by
    refine cg_cancel hq (r.1.nz hq) ?_
    have s1:Cg q (D * sumN n fun k=>A t k * x k) (sumN n fun k=>c t * (T t k * x k)):=by
      rw [sumN_mul]
      refine cg_sum fun k hk=>?_
      have:=(h.rowCgG hq hn hn' hm hl nW hb r ht hk).symm.mulR (x k)
      exact (Cg.of_eq (by grind)).trans (this.trans (Cg.of_eq (by grind)))
    refine s1.trans ?_
    rw [← sumN_mul]
    have:=(hx t ht).mulL (c t)
    rw [Int.mul_zero] at this
    exact this
  obtain ⟨e,y,ne,hy⟩:=rd.ofA j hj
  have mx:Cg q (sumN n fun k=>M j k * x k) 0:=by
    refine cg_cancel hq ne ?_
    have s1:Cg q (e * sumN n fun k=>M j k * x k) (sumN n fun k=>(sumN n fun t=>y t * A t k) * x k):=by
      rw [sumN_mul]
      exact cg_sum fun k _=>(Cg.of_eq (by grind)).trans ((hy k).mulR (x k))
    refine s1.trans ?_
    rw [sums_assoc n n (fun i=>y i) (fun i k=>A i k) x]
    have:=cg_sum (q:=q) (n:=n) (f:=fun l=>y l * sumN n fun j=>A l j * x j) (g:=fun _=>0) fun l hl=>by
      have:=(ax l hl).mulL (y l)
      rw [Int.mul_zero] at this
      exact this
    rw [sumN_zero] at this
    exact this
  have ld:=rd.lead j (by simpa using hj)
  rw [gr j hj] at ld
  refine cg_cancel hq ld ?_
  have s:Cg q (sumN n fun k=>M j k * x k) (sumN n fun k=>if k = j then M j k * x k else 0):=cg_sum fun k hk=>by
    by_cases z:k = j
    · rw [if_pos z]; exact Cg.refl _
    · rw [if_neg z]
      have o:=rd.off j k hj (by simpa using hk) (Ne.symm z)
      rw [gr k hk] at o
      have:=o.mulR (x k)
      rw [Int.zero_mul] at this
      exact this
  rw [sumN_one n j (fun k=>M j k * x k) hj] at s
  exact s.symm.trans mx
theorem RedR.common {P W:Nat} (h:RedR 0 P W qss A M c L last rss):∃ D:Int,1 ≤ D∧D.natAbs ≤ qss.length * (facN qss.length * P)∧∀ j k,j < L.length→k < W→∃ x:Int,(atT rss j k).1 * D = x * (atT rss j k).2∧x.natAbs ≤ qss.length * (facN qss.length * P):=by
  have l0:=(h.red.last (.inl rfl)).2
  obtain ⟨R,g,G,b,el⟩:=h.red.bar rfl
  have bl:last.natAbs ≤ qss.length * (facN qss.length * P):=by rw [el]; exact b.bdD h.red.n1
  refine ⟨(last.natAbs:Int),by omega,by rw [Int.natAbs_natCast]; exact bl,fun j k hj hk=>?_⟩
  have jn:j < qss.length:=Nat.lt_of_lt_of_le hj h.red.rd.len
  have v:=h.val j k hj hk
  rw [h.red.leads rfl hj] at v
  have e:=Int.zero_dvd.mp v
  dsimp only at e
  have bm:=h.red.bd (.inl rfl) jn hk
  by_cases y:0 < last
  · exact ⟨M j k,by rw [show (last.natAbs:Int) = last by omega]; omega,bm⟩
  · refine ⟨-(M j k),?_,by rw [Int.natAbs_neg]; exact bm⟩
    rw [show (last.natAbs:Int) = -last by omega,Int.mul_neg,Int.neg_mul]
    omega
end
def Nums0 (ps:List (Int × Int)):Prop:=∀ p ∈ ps,p.1.natAbs ≤ 10 ^ 6∧p.2.natAbs ≤ 1000
theorem rowE_base {q:Int} {B:Nat} {H:Hp} {x:Addr} {ps:List (Int × Int)} (hq:WheelN q) (h:RowG B H q x ps) (hb:Nums0 ps) {E:Nat} (hl:10 ^ 6 * 1000 ^ ps.length ≤ E) (h1:1000 ≤ E):RowE q E ps:=by
  have nums:=h.nums hq
  by_cases z:q = 0
  · subst z
    refine (rowV_base ps fun p hp=>⟨(hb p hp).1,(nums p hp).2.1.1 rfl,(hb p hp).2⟩).e (fun p hp=>(nums p hp).1) hl (by decide)
  · have q9:q ≤ 997:=by rcases hq with h | h <;> omega
    refine ⟨1,fun j=>(ps.getD j o1).1,⟨fun y=>absurd y z,fun _=>rfl⟩,by omega,fun p hp=>?_,fun j hj=>?_⟩
    · rw [((nums p hp).1.2 z).1]; exact Int.dvd_refl 1
    · obtain ⟨c1,c2,c3⟩:=(nums _ (by rw [getD_at hj]; exact List.getElem_mem _:ps.getD j o1 ∈ ps)).1.2 z
      rw [c1]
      exact ⟨rfl,by dsimp only; omega⟩
def spColB:Sp:=fun vs H Q _=>∃ (a:Addr) (q:Int) (B j:Nat) (pss:List (List (Int × Int))) (m:Nat),vs = [.ref a,.int (j:Int)]∧TabB B H q a pss∧pss.length ≤ 40∧(∀ ps ∈ pss,ps.length = m)∧j < m∧∀ (b:Addr) (H':Hp),Same H H'→H b = none→RowG B H' q b (pss.map fun ps=>ps.getD j (0,1))→Q (.ref b) H'
def colsT (m:Nat) (pss:List (List (Int × Int))):List (List (Int × Int)):=(List.range m).map fun j=>pss.map fun ps=>ps.getD j (0,1)
def spColsB (N:Addr):Sp:=fun vs H Q E=>∃ (a:Addr) (q:Int) (B:Nat) (pss:List (List (Int × Int))) (m:Nat),vs = [.ref a]∧TabB B H q a pss∧1 ≤ pss.length∧pss.length ≤ 40∧(∀ ps ∈ pss,ps.length = m)∧m ≤ 40∧∀ (b:Addr) (H':Hp),Same H H'→H b = none→TabB B H' q b (colsT m pss)→Q (.ref b) H'
def spMove (C:Addr):Sp:=fun vs H Q _=>∃ (z ra la:Addr) (q:Int) (B W wide free:Nat) (rss:List (List (Int × Int))) (L:List Nat),vs = [.ref z,.ref ra,.ref la,.int (wide:Int),.int (free:Int)]∧WorldAt C H z q∧WheelN q∧TabB B H q ra rss∧1000 ≤ B∧B ≤ 10 ^ 290∧(∀ ps ∈ rss,ps.length = W)∧H la = some (.lst (natsV L))∧rss.length = L.length∧L.length ≤ 40∧(∀ l ∈ L,l < wide)∧wide ≤ 40∧wide ≤ W∧free < wide∧
  ∀ (r:Addr) (ps:List (Int × Int)) (H':Hp),Same H H'→H r = none→RowG B H' q r ps→ps.length = wide→Q (.ref r) H'
def spSome (C:Addr):Sp:=fun vs H Q _=>∃ (z a:Addr) (q:Int) (B P:Nat) (pss:List (List (Int × Int))) (G:Nat→Nat),vs = [.ref z,.ref a]∧WorldAt C H z q∧WheelN q∧TabB B H q a pss∧1000 ≤ B∧B ≤ 10 ^ 150∧1 ≤ pss.length∧pss.length ≤ 40∧(∀ ps ∈ pss,ps.length = pss.length)∧(∀ i,i < pss.length→RowE q (G i) (pss.getD i []))∧(∀ i,1000 ≤ G i∧G i ≤ 10 ^ 150)∧prodN pss.length G ≤ P∧pss.length * (facN pss.length * P) ≤ 10 ^ 290∧KerP q pss.length pss∧
  ∀ (r:Addr) (ps:List (Int × Int)) (H':Hp),Same H H'→H r = none→RowG (pss.length * (facN pss.length * P)) H' q r ps→ps.length = pss.length→Q (.ref r) H'
def spTRowB (C:Addr):Sp:=fun vs H Q _=>∃ (z a b:Addr) (q:Int) (B:Nat) (ps rs:List (Int × Int)),vs = [.ref z,.ref a,.ref b]∧WorldAt C H z q∧WheelN q∧RowG B H q a ps∧RowG B H q b rs∧1000 ≤ B∧B ≤ 10 ^ 300∧ps.length ≤ 40∧rs.length ≤ 40∧1 ≤ rs.length∧
  ∀ (r:Addr) (H':Hp),Same H H'→H r = none→FRow H' q r (ps.length * rs.length) (fun j=>mulP (ps.getD (j / rs.length) o1) (rs.getD (j % rs.length) o1))→Q (.ref r) H'
def spJoin:Sp:=fun vs H Q _=>∃ (a:Addr) (q:Int) (B:Nat) (pss:List (List (Int × Int))) (m:Nat),vs = [.ref a]∧TabB B H q a pss∧pss.length ≤ 40∧(∀ ps ∈ pss,ps.length = m)∧m ≤ 40∧∀ (r:Addr) (H':Hp),Same H H'→H r = none→RowG B H' q r pss.flatten→Q (.ref r) H'
end My
namespace My
open PySem L2
theorem rowE_can {q:Int} {ps:List (Int × Int)} (hq:WheelN q) (hc:∀ p ∈ ps,Canon q p∧BotOk q p.2) (hb:Nums0 ps) {E:Nat} (hl:10 ^ 6 * 1000 ^ ps.length ≤ E) (h1:1000 ≤ E):RowE q E ps:=by
  by_cases z:q = 0
  · subst z
    refine (rowV_base ps fun p hp=>⟨(hb p hp).1,(hc p hp).2.1 rfl,(hb p hp).2⟩).e (fun p hp=>(hc p hp).1) hl (by decide)
  · have q9:q ≤ 997:=by rcases hq with h | h <;> omega
    refine ⟨1,fun j=>(ps.getD j o1).1,⟨fun y=>absurd y z,fun _=>rfl⟩,by omega,fun p hp=>?_,fun j hj=>?_⟩
    · rw [((hc p hp).1.2 z).1]; exact Int.dvd_refl 1
    · obtain ⟨c1,c2,c3⟩:=(hc _ (by rw [getD_at hj]; exact List.getElem_mem _:ps.getD j o1 ∈ ps)).1.2 z
      rw [c1]
      exact ⟨rfl,by dsimp only; omega⟩
theorem rowE_whe {q:Int} {ps:List (Int × Int)} (hq:WheelN q) (z:q ≠ 0) (hc:∀ p ∈ ps,Canon q p):RowE q 1000 ps:=by
  have q9:q ≤ 997:=by rcases hq with h | h <;> omega
  refine ⟨1,fun j=>(ps.getD j o1).1,⟨fun y=>absurd y z,fun _=>rfl⟩,by decide,fun p hp=>?_,fun j hj=>?_⟩
  · rw [((hc p hp).2 z).1]; exact Int.dvd_refl 1
  · obtain ⟨c1,c2,c3⟩:=(hc _ (by rw [getD_at hj]; exact List.getElem_mem _:ps.getD j o1 ∈ ps)).2 z
    rw [c1]
    exact ⟨rfl,by dsimp only; omega⟩
theorem rowE_mix {ps rs:List (Int × Int)} {Dl V X E:Nat} {D:Int} (hv:RowV Dl V ps) (d1:1 ≤ D) (dX:D.natAbs ≤ X) (hr:∀ j,j < rs.length→∃ x:Int,(rs.getD j o1).1 * D = x * (rs.getD j o1).2∧x.natAbs ≤ X) (hc:∀ p ∈ ps ++ rs,Canon 0 p) (h1:V * Dl * X ≤ E) (v1:1 ≤ V):RowE 0 E (ps ++ rs):=by
  obtain ⟨Dp,x,e1,e2,hx⟩:=hv
  have pd:=Int.mul_pos (show 0 < Dp by omega) (show 0 < D by omega)
  have ex:∃ y:Nat→Int,∀ j,j < rs.length→(rs.getD j o1).1 * D = y j * (rs.getD j o1).2∧(y j).natAbs ≤ X:=rows_pick hr
  obtain ⟨y,hy⟩:=ex
  have bd:(Dp * D).natAbs ≤ Dl * X:=by rw [Int.natAbs_mul]; exact Nat.mul_le_mul e2 dX
  have all:∀ j,j < (ps ++ rs).length→((ps ++ rs).getD j o1).1 * (Dp * D) = (if j < ps.length then x j * D else Dp * y (j - ps.length)) * ((ps ++ rs).getD j o1).2∧(if j < ps.length then x j * D else Dp * y (j - ps.length)).natAbs ≤ E:=fun j hj=>by
    by_cases z:j < ps.length
    · rw [if_pos z,show (ps ++ rs).getD j o1 = ps.getD j o1 by rw [List.getD_eq_getElem?_getD,List.getElem?_append_left z,← List.getD_eq_getElem?_getD]]
      obtain ⟨f1,f2⟩:=hx j z
      refine ⟨by grind,?_⟩
      rw [Int.natAbs_mul]
      refine Nat.le_trans (Nat.mul_le_mul (Nat.le_trans f2 (Nat.mul_le_mul_left _ e2)) dX) h1
    · rw [List.length_append] at hj
      rw [if_neg z,show (ps ++ rs).getD j o1 = rs.getD (j - ps.length) o1 by rw [List.getD_eq_getElem?_getD,List.getElem?_append_right (by omega),← List.getD_eq_getElem?_getD]]
      obtain ⟨f1,f2⟩:=hy (j - ps.length) (by omega)
      refine ⟨by grind,?_⟩
      rw [Int.natAbs_mul]
      refine Nat.le_trans (Nat.mul_le_mul (Nat.le_trans e2 (Nat.le_mul_of_pos_left _ v1)) f2) h1
  refine ⟨Dp * D,fun j=>if j < ps.length then x j * D else Dp * y (j - ps.length),⟨fun _=>by omega,fun z=>absurd rfl z⟩,Nat.le_trans bd (Nat.le_trans (by rw [Nat.mul_assoc]; exact Nat.le_mul_of_pos_left _ v1) h1),fun p hp=>?_,all⟩
  obtain ⟨j,hj,e⟩:=List.mem_iff_getElem.mp hp
  have w:=(all j hj).1
  rw [getD_at hj,e] at w
  exact low_dvd ((hc p hp).1 rfl) w
theorem zipT_len {pss uss:List (List (Int × Int))} (h:uss.length = pss.length):(List.zipWith (· ++ ·) pss uss).length = pss.length:=by rw [List.length_zipWith,h,Nat.min_self]
theorem zipT_get {pss uss:List (List (Int × Int))} {i:Nat} (h:uss.length = pss.length) (hi:i < pss.length):(List.zipWith (· ++ ·) pss uss).getD i [] = pss.getD i [] ++ uss.getD i []:=by
  have h2:i < uss.length:=by omega
  rw [List.getD_eq_getElem?_getD,List.getElem?_zipWith,getD_at hi,getD_at h2]
  simp [hi,h2]
theorem zipT_left {pss uss:List (List (Int × Int))} {i k m:Nat} (h:uss.length = pss.length) (hm:∀ ps ∈ pss,ps.length = m) (hi:i < pss.length) (hk:k < m):atT (List.zipWith (· ++ ·) pss uss) i k = atT pss i k:=by
  unfold atT
  rw [zipT_get h hi]
  have l:(pss.getD i []).length = m:=by
    rw [getD_at hi]
    exact hm _ (List.getElem_mem _)
  rw [List.getD_eq_getElem?_getD,List.getElem?_append_left (by omega),← List.getD_eq_getElem?_getD]
theorem zipT_wid {pss uss:List (List (Int × Int))} {m u:Nat} (h:uss.length = pss.length) (hm:∀ ps ∈ pss,ps.length = m) (hu:∀ ps ∈ uss,ps.length = u):∀ ps ∈ List.zipWith (· ++ ·) pss uss,ps.length = m + u:=fun ps hp=>by
  obtain ⟨i,hi,e⟩:=List.mem_iff_getElem.mp hp
  have hi':i < pss.length:=by rw [← zipT_len h]; exact hi
  have h2:i < uss.length:=by omega
  have z:=zipT_get h hi'
  rw [getD_at hi,e] at z
  rw [z,List.length_append,getD_at hi',getD_at h2,hm _ (List.getElem_mem _),hu _ (List.getElem_mem _)]
theorem cutV_mid (xs:List V) (a k:Nat) (h:a + k ≤ xs.length):cutV xs (some (a:Int)) (some ((a + k:Nat):Int)) = (xs.drop a).take k:=by
  have e1:HT.sIx xs.length 0 (some (a:Int)) = a:=by
    rw [HT.sIx_nat]
    omega
  have e2:HT.sIx xs.length xs.length (some ((a + k:Nat):Int)) = a + k:=by
    rw [HT.sIx_nat]
    omega
  unfold cutV
  rw [e1,e2,Nat.add_sub_cancel_left]
theorem RowG.mid {B:Nat} {H:Hp} {q:Int} {r:Addr} {vs:List V} {ps:List (Int × Int)} {a k:Nat} (e:H r = some (.lst ((vs.drop a).take k))) (l:vs.length = ps.length) (f:∀ (i:Nat) (v:V) (p:Int × Int),vs[i]? = some v→ps[i]? = some p→NumAt B H q v p.1 p.2):RowG B H q r ((ps.drop a).take k):=by
  refine ⟨_,e,by rw [List.length_take,List.length_take,List.length_drop,List.length_drop,l],fun i v p h1 h2=>?_⟩
  have hi:i < k:=by
    have:=(List.getElem?_eq_some_iff.mp h1).1
    rw [List.length_take] at this
    omega
  rw [List.getElem?_take_of_lt hi,List.getElem?_drop] at h1 h2
  exact f _ v p h1 h2
theorem colsT_len (m:Nat) (pss:List (List (Int × Int))):(colsT m pss).length = m:=by unfold colsT; simp
theorem colsT_wid (m:Nat) (pss:List (List (Int × Int))):∀ ps ∈ colsT m pss,ps.length = pss.length:=fun ps hp=>by
  unfold colsT at hp
  obtain ⟨i,_,e⟩:=List.mem_map.mp hp
  rw [← e]
  simp
theorem colsT_get {m i j:Nat} {pss:List (List (Int × Int))} (hi:i < m) (hj:j < pss.length):((colsT m pss).getD i []).getD j o1 = atT pss j i:=by
  have e:(colsT m pss).getD i [] = pss.map fun ps=>ps.getD i (0,1):=by
    unfold colsT
    rw [getD_at (by simpa using hi),List.getElem_map,List.getElem_range]
  unfold atT
  rw [e,getD_at (by simpa using hj),List.getElem_map,getD_at hj]
  rfl
theorem prod_cubed {n E:Nat} (h:n ≤ 3) (e1:1 ≤ E):prodN n (fun _=>E) ≤ E ^ 3:=by
  rw [prod_const]
  exact Nat.pow_le_pow_right e1 h
theorem fac_three {n P:Nat} (h:n ≤ 3):n * (facN n * P) ≤ 18 * P:=by
  have:n * (facN n * P) ≤ 3 * (facN 3 * P):=Nat.mul_le_mul h (Nat.mul_le_mul_right _ (facN_mono h))
  have e:facN 3 = 6:=rfl
  rw [e] at this
  omega
end My
namespace L2
open PySem PySem.Spec PyProof.Rows
section
variable {X:Cx} {N:List Str} {scope:Scope} {cl:List (Str × Addr)} {x y:Str} {px py pos tp:Pos} {tk0:Nat} {iter elt:Expr} {ifs:List Expr} {wi:TI} {ρ:St→St} {tt:TT} {te:TE}
end
end L2
set_option maxRecDepth 100000
set_option maxHeartbeats 4000000
namespace My
open PySem L2
def top (i:Nat):Stmt:=PySem.Challenge.pw_bandwright_k69_twofold_refused.main.body.getD i (.Pass ⟨0,0,0,0⟩)
abbrev s_is_whole:Stmt:=top 38
abbrev s_common_divisor:Stmt:=top 40
abbrev s_is_prime:Stmt:=top 41
abbrev s_ratio:Stmt:=top 43
abbrev s_ratio_plus:Stmt:=top 44
abbrev s_ratio_minus:Stmt:=top 45
abbrev s_ratio_times:Stmt:=top 46
abbrev s_one_bottom:Stmt:=top 48
abbrev s_remainder_back:Stmt:=top 50
abbrev s_remainder_over:Stmt:=top 51
abbrev s_is_fractions:Stmt:=top 54
abbrev s_is_wheel:Stmt:=top 55
abbrev s_width:Stmt:=top 13
abbrev s_square_size:Stmt:=top 14
abbrev s_check_aim:Stmt:=top 15
abbrev s_column:Stmt:=top 16
abbrev s_columns:Stmt:=top 17
abbrev s_one_table_row:Stmt:=top 18
abbrev s_cleared:Stmt:=top 20
abbrev s_first_filled:Stmt:=top 21
abbrev s_swapped:Stmt:=top 22
abbrev s_row_over:Stmt:=top 23
abbrev s_reduced:Stmt:=top 24
abbrev s_beside:Stmt:=top 26
abbrev s_move_of:Stmt:=top 27
abbrev s_back_times:Stmt:=top 28
abbrev s_some_move:Stmt:=top 29
abbrev s_check_sizes:Stmt:=top 31
abbrev s_twofold_row:Stmt:=top 32
abbrev s_joined:Stmt:=top 33
abbrev s_twofold_undone:Stmt:=top 34
abbrev s_b_draw:Stmt:=top 58
abbrev s_b_low:Stmt:=top 59
abbrev s_b_prime:Stmt:=top 60
abbrev s_b_wheel:Stmt:=top 61
abbrev s_b_world:Stmt:=top 62
abbrev s_b_number:Stmt:=top 63
abbrev s_b_table:Stmt:=top 64
abbrev s_b_refused:Stmt:=top 65
abbrev s_b_bent:Stmt:=top 66
abbrev s_law:Stmt:=top 67
abbrev s_World___init__:Stmt:=inClass (top 56) 0
abbrev s_World_of:Stmt:=inClass (top 56) 3
abbrev s_World_minus:Stmt:=inClass (top 56) 5
abbrev s_World_times:Stmt:=inClass (top 56) 6
abbrev s_World_as_wholes:Stmt:=inClass (top 56) 8
structure Adr where
  f_is_whole:Addr
  d_is_whole:FuncData
  f_common_divisor:Addr
  d_common_divisor:FuncData
  f_is_prime:Addr
  d_is_prime:FuncData
  f_ratio:Addr
  d_ratio:FuncData
  f_ratio_plus:Addr
  d_ratio_plus:FuncData
  f_ratio_minus:Addr
  d_ratio_minus:FuncData
  f_ratio_times:Addr
  d_ratio_times:FuncData
  f_one_bottom:Addr
  d_one_bottom:FuncData
  f_remainder_back:Addr
  d_remainder_back:FuncData
  f_remainder_over:Addr
  d_remainder_over:FuncData
  f_is_fractions:Addr
  d_is_fractions:FuncData
  f_is_wheel:Addr
  d_is_wheel:FuncData
  f_width:Addr
  d_width:FuncData
  f_square_size:Addr
  d_square_size:FuncData
  f_check_aim:Addr
  d_check_aim:FuncData
  f_column:Addr
  d_column:FuncData
  f_columns:Addr
  d_columns:FuncData
  f_one_table_row:Addr
  d_one_table_row:FuncData
  f_cleared:Addr
  d_cleared:FuncData
  f_first_filled:Addr
  d_first_filled:FuncData
  f_swapped:Addr
  d_swapped:FuncData
  f_row_over:Addr
  d_row_over:FuncData
  f_reduced:Addr
  d_reduced:FuncData
  f_beside:Addr
  d_beside:FuncData
  f_move_of:Addr
  d_move_of:FuncData
  f_back_times:Addr
  d_back_times:FuncData
  f_some_move:Addr
  d_some_move:FuncData
  f_check_sizes:Addr
  d_check_sizes:FuncData
  f_twofold_row:Addr
  d_twofold_row:FuncData
  f_joined:Addr
  d_joined:FuncData
  f_twofold_undone:Addr
  d_twofold_undone:FuncData
  f_b_draw:Addr
  d_b_draw:FuncData
  f_b_low:Addr
  d_b_low:FuncData
  f_b_prime:Addr
  d_b_prime:FuncData
  f_b_wheel:Addr
  d_b_wheel:FuncData
  f_b_world:Addr
  d_b_world:FuncData
  f_b_number:Addr
  d_b_number:FuncData
  f_b_table:Addr
  d_b_table:FuncData
  f_b_refused:Addr
  d_b_refused:FuncData
  f_b_bent:Addr
  d_b_bent:FuncData
  f_law:Addr
  d_law:FuncData
  f_World___init__:Addr
  d_World___init__:FuncData
  f_World_of:Addr
  d_World_of:FuncData
  f_World_minus:Addr
  d_World_minus:FuncData
  f_World_times:Addr
  d_World_times:FuncData
  f_World_as_wholes:Addr
  d_World_as_wholes:FuncData
  C_World:Addr
  C_NoWorld:Addr
  C_NoOver:Addr
  C_WrightError:Addr
  C_NoFit:Addr
  C_NoShape:Addr
  C_NoOrder:Addr
  C_NoSize:Addr
  C_NoLink:Addr
  C_Tied:Addr
structure Txt (K:PySem.W.Frag) (mg:Str→Option Value) (t:Adr):Prop where
  F_is_whole:Fun K "is_whole" "is_whole" s_is_whole t.f_is_whole t.d_is_whole
  b_is_whole:Binds K t.d_is_whole ["thing"] []
  mg_is_whole:mg "is_whole" = some (.ref t.f_is_whole)
  F_common_divisor:Fun K "common_divisor" "common_divisor" s_common_divisor t.f_common_divisor t.d_common_divisor
  b_common_divisor:Binds K t.d_common_divisor ["one","other"] []
  mg_common_divisor:mg "common_divisor" = some (.ref t.f_common_divisor)
  F_is_prime:Fun K "is_prime" "is_prime" s_is_prime t.f_is_prime t.d_is_prime
  b_is_prime:Binds K t.d_is_prime ["number"] []
  mg_is_prime:mg "is_prime" = some (.ref t.f_is_prime)
  F_ratio:Fun K "ratio" "ratio" s_ratio t.f_ratio t.d_ratio
  b_ratio:Binds K t.d_ratio ["top","bottom"] []
  mg_ratio:mg "ratio" = some (.ref t.f_ratio)
  F_ratio_plus:Fun K "ratio_plus" "ratio_plus" s_ratio_plus t.f_ratio_plus t.d_ratio_plus
  b_ratio_plus:Binds K t.d_ratio_plus ["a","b"] []
  mg_ratio_plus:mg "ratio_plus" = some (.ref t.f_ratio_plus)
  F_ratio_minus:Fun K "ratio_minus" "ratio_minus" s_ratio_minus t.f_ratio_minus t.d_ratio_minus
  b_ratio_minus:Binds K t.d_ratio_minus ["a","b"] []
  mg_ratio_minus:mg "ratio_minus" = some (.ref t.f_ratio_minus)
  F_ratio_times:Fun K "ratio_times" "ratio_times" s_ratio_times t.f_ratio_times t.d_ratio_times
  b_ratio_times:Binds K t.d_ratio_times ["a","b"] []
  mg_ratio_times:mg "ratio_times" = some (.ref t.f_ratio_times)
  F_one_bottom:Fun K "one_bottom" "one_bottom" s_one_bottom t.f_one_bottom t.d_one_bottom
  b_one_bottom:Binds K t.d_one_bottom ["row"] []
  mg_one_bottom:mg "one_bottom" = some (.ref t.f_one_bottom)
  F_remainder_back:Fun K "remainder_back" "remainder_back" s_remainder_back t.f_remainder_back t.d_remainder_back
  b_remainder_back:Binds K t.d_remainder_back ["prime","number"] []
  mg_remainder_back:mg "remainder_back" = some (.ref t.f_remainder_back)
  F_remainder_over:Fun K "remainder_over" "remainder_over" s_remainder_over t.f_remainder_over t.d_remainder_over
  b_remainder_over:Binds K t.d_remainder_over ["prime","a","b"] []
  mg_remainder_over:mg "remainder_over" = some (.ref t.f_remainder_over)
  F_is_fractions:Fun K "is_fractions" "is_fractions" s_is_fractions t.f_is_fractions t.d_is_fractions
  b_is_fractions:Binds K t.d_is_fractions ["told"] []
  mg_is_fractions:mg "is_fractions" = some (.ref t.f_is_fractions)
  F_is_wheel:Fun K "is_wheel" "is_wheel" s_is_wheel t.f_is_wheel t.d_is_wheel
  b_is_wheel:Binds K t.d_is_wheel ["told"] []
  mg_is_wheel:mg "is_wheel" = some (.ref t.f_is_wheel)
  F_width:Fun K "width" "width" s_width t.f_width t.d_width
  b_width:Binds K t.d_width ["table"] []
  mg_width:mg "width" = some (.ref t.f_width)
  F_square_size:Fun K "square_size" "square_size" s_square_size t.f_square_size t.d_square_size
  b_square_size:Binds K t.d_square_size ["table"] []
  mg_square_size:mg "square_size" = some (.ref t.f_square_size)
  F_check_aim:Fun K "check_aim" "check_aim" s_check_aim t.f_check_aim t.d_check_aim
  b_check_aim:Binds K t.d_check_aim ["n","aim"] []
  mg_check_aim:mg "check_aim" = some (.ref t.f_check_aim)
  F_column:Fun K "column" "column" s_column t.f_column t.d_column
  b_column:Binds K t.d_column ["table","place"] []
  mg_column:mg "column" = some (.ref t.f_column)
  F_columns:Fun K "columns" "columns" s_columns t.f_columns t.d_columns
  b_columns:Binds K t.d_columns ["table"] []
  mg_columns:mg "columns" = some (.ref t.f_columns)
  F_one_table_row:Fun K "one_table_row" "one_table_row" s_one_table_row t.f_one_table_row t.d_one_table_row
  b_one_table_row:Binds K t.d_one_table_row ["world","n","place"] []
  mg_one_table_row:mg "one_table_row" = some (.ref t.f_one_table_row)
  F_cleared:Fun K "cleared" "cleared" s_cleared t.f_cleared t.d_cleared
  b_cleared:Binds K t.d_cleared ["world","row","head","lead","last"] []
  mg_cleared:mg "cleared" = some (.ref t.f_cleared)
  F_first_filled:Fun K "first_filled" "first_filled" s_first_filled t.f_first_filled t.d_first_filled
  b_first_filled:Binds K t.d_first_filled ["rows","start","lead"] []
  mg_first_filled:mg "first_filled" = some (.ref t.f_first_filled)
  F_swapped:Fun K "swapped" "swapped" s_swapped t.f_swapped t.d_swapped
  b_swapped:Binds K t.d_swapped ["rows","one","other"] []
  mg_swapped:mg "swapped" = some (.ref t.f_swapped)
  F_row_over:Fun K "row_over" "row_over" s_row_over t.f_row_over t.d_row_over
  b_row_over:Binds K t.d_row_over ["world","row","lead"] []
  mg_row_over:mg "row_over" = some (.ref t.f_row_over)
  F_reduced:Fun K "reduced" "reduced" s_reduced t.f_reduced t.d_reduced
  b_reduced:Binds K t.d_reduced ["world","table"] []
  mg_reduced:mg "reduced" = some (.ref t.f_reduced)
  F_beside:Fun K "beside" "beside" s_beside t.f_beside t.d_beside
  b_beside:Binds K t.d_beside ["table","other"] []
  mg_beside:mg "beside" = some (.ref t.f_beside)
  F_move_of:Fun K "move_of" "move_of" s_move_of t.f_move_of t.d_move_of
  b_move_of:Binds K t.d_move_of ["world","rows","leads","wide","free"] []
  mg_move_of:mg "move_of" = some (.ref t.f_move_of)
  F_back_times:Fun K "back_times" "back_times" s_back_times t.f_back_times t.d_back_times
  b_back_times:Binds K t.d_back_times ["world","table","other"] []
  mg_back_times:mg "back_times" = some (.ref t.f_back_times)
  F_some_move:Fun K "some_move" "some_move" s_some_move t.f_some_move t.d_some_move
  b_some_move:Binds K t.d_some_move ["world","table"] []
  mg_some_move:mg "some_move" = some (.ref t.f_some_move)
  F_check_sizes:Fun K "check_sizes" "check_sizes" s_check_sizes t.f_check_sizes t.d_check_sizes
  b_check_sizes:Binds K t.d_check_sizes ["one","other"] []
  mg_check_sizes:mg "check_sizes" = some (.ref t.f_check_sizes)
  F_twofold_row:Fun K "twofold_row" "twofold_row" s_twofold_row t.f_twofold_row t.d_twofold_row
  b_twofold_row:Binds K t.d_twofold_row ["world","row","more"] []
  mg_twofold_row:mg "twofold_row" = some (.ref t.f_twofold_row)
  F_joined:Fun K "joined" "joined" s_joined t.f_joined t.d_joined
  b_joined:Binds K t.d_joined ["rows"] []
  mg_joined:mg "joined" = some (.ref t.f_joined)
  F_twofold_undone:Fun K "twofold_undone" "twofold_undone" s_twofold_undone t.f_twofold_undone t.d_twofold_undone
  b_twofold_undone:Binds K t.d_twofold_undone ["world","one","other","aim"] []
  mg_twofold_undone:mg "twofold_undone" = some (.ref t.f_twofold_undone)
  F_b_draw:Fun K "_law_b_draw" "_law_b_draw" s_b_draw t.f_b_draw t.d_b_draw
  b_b_draw:Binds K t.d_b_draw ["script","k"] []
  mg_b_draw:mg "_law_b_draw" = some (.ref t.f_b_draw)
  F_b_low:Fun K "_law_b_low" "_law_b_low" s_b_low t.f_b_low t.d_b_low
  b_b_low:Binds K t.d_b_low ["top","bottom"] []
  mg_b_low:mg "_law_b_low" = some (.ref t.f_b_low)
  F_b_prime:Fun K "_law_b_prime" "_law_b_prime" s_b_prime t.f_b_prime t.d_b_prime
  b_b_prime:Binds K t.d_b_prime ["cell"] []
  mg_b_prime:mg "_law_b_prime" = some (.ref t.f_b_prime)
  F_b_wheel:Fun K "_law_b_wheel" "_law_b_wheel" s_b_wheel t.f_b_wheel t.d_b_wheel
  b_b_wheel:Binds K t.d_b_wheel ["draw"] []
  mg_b_wheel:mg "_law_b_wheel" = some (.ref t.f_b_wheel)
  F_b_world:Fun K "_law_b_world" "_law_b_world" s_b_world t.f_b_world t.d_b_world
  b_b_world:Binds K t.d_b_world ["p"] []
  mg_b_world:mg "_law_b_world" = some (.ref t.f_b_world)
  F_b_number:Fun K "_law_b_number" "_law_b_number" s_b_number t.f_b_number t.d_b_number
  b_b_number:Binds K t.d_b_number ["p","draw"] []
  mg_b_number:mg "_law_b_number" = some (.ref t.f_b_number)
  F_b_table:Fun K "_law_b_table" "_law_b_table" s_b_table t.f_b_table t.d_b_table
  b_b_table:Binds K t.d_b_table ["script","p","n","m","at"] []
  mg_b_table:mg "_law_b_table" = some (.ref t.f_b_table)
  F_b_refused:Fun K "_law_b_refused" "_law_b_refused" s_b_refused t.f_b_refused t.d_b_refused
  b_b_refused:Binds K t.d_b_refused ["world","one","other","aim"] []
  mg_b_refused:mg "_law_b_refused" = some (.ref t.f_b_refused)
  F_b_bent:Fun K "_law_b_bent" "_law_b_bent" s_b_bent t.f_b_bent t.d_b_bent
  b_b_bent:Binds K t.d_b_bent ["table","draw"] []
  mg_b_bent:mg "_law_b_bent" = some (.ref t.f_b_bent)
  F_law:Fun K "law" "law" s_law t.f_law t.d_law
  b_law:Binds K t.d_law ["script"] []
  mg_law:mg "law" = some (.ref t.f_law)
  F_World___init__:Fun K "__init__" "World.__init__" s_World___init__ t.f_World___init__ t.d_World___init__
  b_World___init__:Binds K t.d_World___init__ ["self","told"] []
  M_World:Mk K t.C_World t.f_World___init__
  F_World_of:FunD K "of" "World.of" s_World_of 1 t.f_World_of t.d_World_of
  b_World_of:Binds K t.d_World_of ["self","top","bottom"] []
  b1_World_of:∃ v,Vals [V.int 1] [v]∧Binds K t.d_World_of ["self","top","bottom"] [v]
  bk_World_of:∀ (s:Shared) (us ws:List Value),K.In s.heap→ws.length = 1→us.length + 1 = (["self","top","bottom"]:List Str).length→BindsTo s t.d_World_of ⟨us,[("bottom":Str)].zip ws⟩ ((["self","top","bottom"]:List Str).zip (us ++ ws))
  m_World_of:Meth K t.C_World "of" t.f_World_of
  F_World_minus:Fun K "minus" "World.minus" s_World_minus t.f_World_minus t.d_World_minus
  b_World_minus:Binds K t.d_World_minus ["self","a","b"] []
  m_World_minus:Meth K t.C_World "minus" t.f_World_minus
  F_World_times:Fun K "times" "World.times" s_World_times t.f_World_times t.d_World_times
  b_World_times:Binds K t.d_World_times ["self","a","b"] []
  m_World_times:Meth K t.C_World "times" t.f_World_times
  F_World_as_wholes:Fun K "as_wholes" "World.as_wholes" s_World_as_wholes t.f_World_as_wholes t.d_World_as_wholes
  b_World_as_wholes:Binds K t.d_World_as_wholes ["self","row"] []
  m_World_as_wholes:Meth K t.C_World "as_wholes" t.f_World_as_wholes
  cl_World:Cls K t.C_World
  mg_World:mg "World" = some (.ref t.C_World)
  na_World_prime:NoAttr K t.C_World "prime"
  mg_NoWorld:mg "NoWorld" = some (.ref t.C_NoWorld)
  mg_NoOver:mg "NoOver" = some (.ref t.C_NoOver)
  mg_WrightError:mg "WrightError" = some (.ref t.C_WrightError)
  mg_NoFit:mg "NoFit" = some (.ref t.C_NoFit)
  mg_NoShape:mg "NoShape" = some (.ref t.C_NoShape)
  mg_NoOrder:mg "NoOrder" = some (.ref t.C_NoOrder)
  mg_NoSize:mg "NoSize" = some (.ref t.C_NoSize)
  mg_NoLink:mg "NoLink" = some (.ref t.C_NoLink)
  mg_Tied:mg "Tied" = some (.ref t.C_Tied)
  n_len:mg "len" = none
  n_isinstance:mg "isinstance" = none
  n_int:mg "int" = none
  n_bool:mg "bool" = none
  n_tuple:mg "tuple" = none
  n_list:mg "list" = none
  n_range:mg "range" = none
  n_abs:mg "abs" = none
  n_all:mg "all" = none
  n_any:mg "any" = none
  n_sum:mg "sum" = none
  n_zip:mg "zip" = none
  n_ValueError:mg "ValueError" = none
  mg_GREATEST_PRIME:∃ u,mg "GREATEST_PRIME" = some u∧RelV (.int 997) u
  mg_LONG:∃ u,mg "LONG" = some u∧RelV (.int 2048) u
  mg_MOST:∃ u,mg "MOST" = some u∧RelV (.int 40) u
  x_NoWorld:PySem.W.excIn K t.C_NoWorld [.type "ValueError",.type "Exception",.type "BaseException",.type "object"] "ValueError.__new__" = true
  x_NoOver:PySem.W.excIn K t.C_NoOver [.type "ValueError",.type "Exception",.type "BaseException",.type "object"] "ValueError.__new__" = true
  x_NoFit:PySem.W.excIn K t.C_NoFit [.type "ValueError",.type "Exception",.type "BaseException",.type "object"] "ValueError.__new__" = true
  x_WrightError:PySem.W.excIn K t.C_WrightError [.type "ValueError",.type "Exception",.type "BaseException",.type "object"] "ValueError.__new__" = true
  m_NF_NF:PySem.W.mroIn K t.C_NoFit (.ref t.C_NoFit) = some true
  m_NF_WE:PySem.W.mroIn K t.C_NoFit (.ref t.C_WrightError) = some true
  k_VE:PySem.W.kitOne K (.ref t.C_NoFit) (.type "ValueError") = some true
  k_NF:PySem.W.kitOne K (.ref t.C_NoFit) (.ref t.C_NoFit) = some true
  k_NoWorld:PySem.W.kitOne K (.ref t.C_NoFit) (.ref t.C_NoWorld) = some false
  k_NoOver:PySem.W.kitOne K (.ref t.C_NoFit) (.ref t.C_NoOver) = some false
  k_NoShape:PySem.W.kitOne K (.ref t.C_NoFit) (.ref t.C_NoShape) = some false
  k_NoOrder:PySem.W.kitOne K (.ref t.C_NoFit) (.ref t.C_NoOrder) = some false
  k_NoSize:PySem.W.kitOne K (.ref t.C_NoFit) (.ref t.C_NoSize) = some false
  k_NoLink:PySem.W.kitOne K (.ref t.C_NoFit) (.ref t.C_NoLink) = some false
  k_Tied:PySem.W.kitOne K (.ref t.C_NoFit) (.ref t.C_Tied) = some false
  cx1:PySem.W.hasDictIn K t.C_NoFit = true
  cx2:PySem.W.findIn K (.ref t.C_NoFit) "__getattribute__" = some (some (.builtin "BaseException.__getattribute__"))
  cx3:PySem.W.findIn K (.ref t.C_NoFit) "__getattr__" = some none
  cx4:PySem.W.findIn K (.ref t.C_NoFit) "__class__" = some (some (.builtin "object.__class__"))
  cx5:PySem.W.mroIn K t.C_NoFit (.type "object") = some true
  cx6:PySem.W.mroIn K t.C_NoFit (.type "BaseException") = some true
section
variable {P:Program} {w:World} {K:PySem.W.Frag} {mg:Str→Option Value} {base:Heap} {t:Adr}
theorem sc_is_whole:FnScope ["thing"] ["thing"] (defScope s_is_whole):=⟨rfl,rfl,rfl,by decide +kernel,rfl,by decide +kernel,by decide +kernel⟩
theorem ok_is_whole (T:Txt K mg t):FnOk P w K mg base CX0 1 t.f_is_whole t.d_is_whole ["thing"] spWhole:=by
  have S:=sc_is_whole
  refine T.F_is_whole.ok S (fun vs H Q E h=>?_) (fun cdv A outer s H vs Q E hr h=>?_)
  · obtain ⟨v,rfl,_⟩:=h
    rfl
  · obtain ⟨v,rfl,ha,k⟩:=h
    refine ⟨_,(@pss_one _ _ _ (@ps_ret _ _ _ _ (@pe_and _ _ _ _ _ _ _ (pe_callB (call_isi (K:=K)) rfl T.n_isinstance boot_isinstance (@pa_mor _ _ _ _ _ (by rfl) (pv 0) (@pa_mor _ _ _ _ _ (by rfl) (pe_bltn (v:=.ty "int") rfl T.n_int boot_int rfl) pa_nil))) (@pe_one _ _ _ _ _ (@pe_not _ _ _ _ (pe_callB (call_isi (K:=K)) rfl T.n_isinstance boot_isinstance (@pa_mor _ _ _ _ _ (by rfl) (pv 0) (@pa_mor _ _ _ _ _ (by rfl) (pe_bltn (v:=.ty "bool") rfl T.n_bool boot_bool rfl) pa_nil)))))))),?_⟩
    obtain ⟨Ty,ty,k1,k2,_⟩:=ha.kit (K:=K)
    refine ⟨_,rfl,_,_,_,_,rfl,rfl,ty,k1,_,rfl,ite2 (fun h1=>?_) (fun h1=>?_)⟩
    · refine ⟨_,rfl,_,_,_,_,rfl,rfl,ty,k2,_,rfl,?_⟩
      have e:(!isBlV v) = isIntV v:=by
        cases h2:isBlV v with
        | true=>rw [bl_int h2]; rfl
        | false=>rw [h2,Bool.or_false] at h1; rw [h1]; rfl
      show Q (.bl (!isBlV v)) H
      rw [e]
      exact k
    · have e:isIntV v = false:=by
        cases h2:isIntV v with
        | true=>rw [h2] at h1; exact absurd rfl h1
        | false=>rfl
      rw [e] at k
      exact k
theorem sc_common_divisor:FnScope ["one","other","left","shorter"] ["one","other"] (defScope s_common_divisor):=⟨rfl,rfl,rfl,by decide +kernel,rfl,by decide +kernel,by decide +kernel⟩
theorem ok_common_divisor (T:Txt K mg t):FnOk P w K mg base CX0 1 t.f_common_divisor t.d_common_divisor ["one","other"] spGcd:=by
  have S:=sc_common_divisor
  obtain ⟨uL,hL,rL⟩:=T.mg_LONG
  refine T.F_common_divisor.ok S (fun vs H Q E h=>?_) (fun cdv A outer s H vs Q E hr h=>?_)
  · obtain ⟨a,b,rfl,_⟩:=h
    rfl
  · obtain ⟨a,b,rfl,mb,k⟩:=h
    refine ⟨_,(@pss_cons _ _ _ _ _ (@ps_put _ _ 0 _ _ _ _ (by rfl) (by first | exact .inl rfl | exact .inr rfl | assumption) S.nd rfl (Or.inl rfl) (pe_callB call_abs rfl T.n_abs boot_abs (@pa_mor _ _ _ _ _ (by rfl) (pv 0) pa_nil)))
      (@pss_cons _ _ _ _ _ (@ps_put _ _ 1 _ _ _ _ (by rfl) (by first | exact .inl rfl | exact .inr rfl | assumption) S.nd rfl (Or.inl rfl) (pe_callB call_abs rfl T.n_abs boot_abs (@pa_mor _ _ _ _ _ (by rfl) (pv 1) pa_nil)))
      (@pss_cons _ _ _ _ _ (@ps_while _ _ _ _ _ _ PassesOwn.never (@pt_cmpR _ _ _ _ _ _ _ _ op_gt (pv 1) pe_int (nomark _)) (@pss_cons _ _ _ _ _ (@ps_put _ _ 2 _ _ _ _ (by rfl) (by first | exact .inl rfl | exact .inr rfl | assumption) S.nd rfl (Or.inl rfl) (@pe_op _ _ _ _ _ _ _ _ op_mod (pv 0) (pv 1)))
      (@pss_cons _ _ _ _ _ (@ps_put _ _ 0 _ _ _ _ (by rfl) (by first | exact .inl rfl | exact .inr rfl | assumption) S.nd rfl (Or.inl rfl) (pv 1))
      (@pss_cons _ _ _ _ _ (@ps_put _ _ 1 _ _ _ _ (by rfl) (by first | exact .inl rfl | exact .inr rfl | assumption) S.nd rfl (Or.inl rfl) (pv 2))
      (@pss_one _ _ _ (@ps_if _ _ _ _ _ _ _ _ (@pt_cmpR _ _ _ _ _ _ _ _ op_gt (pe_bm0 PySem.F.plainAttrs_int PySem.F.slot_int_bit_length PySem.F.type_int_bit_length mt_bits (pv 0)) (pe_glob (v:=.int 2048) rfl hL rL) (nomark _)) pss_never pss_nil))))))
      (@pss_one _ _ _ (@ps_ret _ _ _ _ (pv 0)))))),?_⟩
    refine ⟨_,rfl,a,rfl,_,rfl,b,rfl,fun m σ H'=>H' = H∧∃ (x y:Nat) (v u:Option V),σ = [some (.int (x:Int)),some (.int (y:Int)),v,u]∧m = y∧y ≤ b.natAbs∧Nat.gcd x y = Int.gcd a b,⟨b.natAbs,rfl,a.natAbs,b.natAbs,none,none,?_,rfl,Nat.le_refl _,rfl⟩,?_⟩
    · show [some (V.int (if a < 0 then -a else a)),some (V.int (if b < 0 then -b else b)),none,none] = _
      rw [abs_nat,abs_nat]
    · rintro m σ H' ⟨rfl,x,y,v,u,rfl,em,hb,hg⟩
      refine ⟨_,rfl,_,_,rfl,rfl,_,rfl,ite2 (fun hy=>?_) (fun hy=>?_)⟩
      · have hy:(0:Int) < y:=of_decide_eq_true hy
        refine ⟨fun σ' H2=>H2 = H'∧σ' = [some (.int (y:Int)),some (.int (((x % y:Nat)):Int)),some (.int (((x % y:Nat)):Int)),u],?_,?_⟩
        · rintro σ' H2 ⟨rfl,rfl⟩
          exact ⟨x % y,by rw [em]; exact Nat.mod_lt _ (by omega),rfl,y,x % y,_,_,rfl,rfl,Nat.le_trans (Nat.le_of_lt (Nat.mod_lt _ (by omega))) hb,by rw [gcd_step]; exact hg⟩
        · have hm:Mid (y:Int):=Nat.lt_of_le_of_lt (by rw [Int.natAbs_natCast]; exact hb) mb
          have hbt:=bits_mid hm
          refine ⟨_,rfl,_,rfl,_,_,rfl,rfl,hy,_,rfl,_,rfl,_,rfl,rfl,_,rfl,rfl,_,_,rfl,rfl,_,rfl,ite2 (fun hz=>?_) (fun _=>⟨rfl,rfl⟩)⟩
          have hz:=of_decide_eq_true hz
          exact absurd hz (by omega)
      · have hy:¬ (0:Int) < y:=fun z=>hy (decide_eq_true z)
        have y0:y = 0:=by omega
        subst y0
        rw [Nat.gcd_zero_right] at hg
        rw [← hg] at k
        exact ⟨_,rfl,k⟩
theorem sc_is_prime:FnScope ["number","divisor"] ["number"] (defScope s_is_prime):=⟨rfl,rfl,rfl,by decide +kernel,rfl,by decide +kernel,by decide +kernel⟩
theorem ok_is_prime (T:Txt K mg t):FnOk P w K mg base CX0 1 t.f_is_prime t.d_is_prime ["number"] spPrime:=by
  have S:=sc_is_prime
  refine T.F_is_prime.ok S (fun vs H Q E h=>?_) (fun cdv A outer s H vs Q E hr h=>?_)
  · obtain ⟨n,rfl,_⟩:=h
    rfl
  · obtain ⟨n,rfl,hn1,hn2,k⟩:=h
    refine ⟨_,(@pss_cons _ _ _ _ _ (@ps_put _ _ 1 _ _ _ _ (by rfl) (by first | exact .inl rfl | exact .inr rfl | assumption) S.nd rfl (Or.inl rfl) pe_int)
      (@pss_cons _ _ _ _ _ (@ps_while _ _ _ _ _ _ PassesOwn.never (@pt_cmpR _ _ _ _ _ _ _ _ op_le (@pe_op _ _ _ _ _ _ _ _ op_mul (pv 1) (pv 1)) (pv 0) (nomark _)) (@pss_cons _ _ _ _ _ (@ps_if _ _ _ _ _ _ _ _ (@pt_cmpR _ _ _ _ _ _ _ _ op_eq (@pe_op _ _ _ _ _ _ _ _ op_mod (pv 0) (pv 1)) pe_int (nomark _)) (@pss_one _ _ _ (@ps_ret _ _ _ _ pe_bl)) pss_nil)
      (@pss_one _ _ _ (ps_aug (i:=1) S.nd rfl (Or.inl rfl) pe_int ip_add))))
      (@pss_one _ _ _ (@ps_ret _ _ _ _ (@pe_cmpR _ _ _ _ _ _ _ _ op_ge (pv 0) pe_int (nomark _)))))),?_⟩
    refine ⟨fun m σ H'=>H' = H∧∃ d:Int,σ = [some (.int n),some (.int d)]∧2 ≤ d∧d ≤ 32∧m = (33 - d).toNat∧∀ e:Int,2 ≤ e→e < d→n % e ≠ 0,⟨_,rfl,2,rfl,by omega,by omega,rfl,fun e a b=>by omega⟩,?_⟩
    rintro m σ H' ⟨rfl,d,rfl,h1,h2,rfl,h3⟩
    refine ⟨_,rfl,_,rfl,_,_,rfl,rfl,.inl ⟨by omega,by omega⟩,_,rfl,_,_,rfl,rfl,_,rfl,ite2 (fun hq=>?_) (fun hq=>?_)⟩
    · have hq:=of_decide_eq_true hq
      have hd:d < 32:=by
        by_cases z:d < 32
        · exact z
        · have:d = 32:=by omega
          subst this
          omega
      refine ⟨fun σ' H2=>H2 = H'∧σ' = [some (.int n),some (.int (d + 1))]∧n % d ≠ 0,?_,?_⟩
      · rintro σ' H2 ⟨rfl,rfl,hm⟩
        refine ⟨(33 - (d + 1)).toNat,by omega,rfl,d + 1,rfl,by omega,by omega,rfl,fun e a b=>?_⟩
        by_cases z:e = d
        · subst z; exact hm
        · exact h3 e a (by omega)
      · refine ⟨_,rfl,_,rfl,_,_,rfl,rfl,(show (0:Int) < d by omega),rfl,_,rfl,ite2 (fun hm=>?_) (fun hm=>?_)⟩
        · have hm:=V.int.inj (of_decide_eq_true hm)
          rw [primeB_no hn2 h1 hq hm] at k
          exact k
        · exact ⟨_,rfl,_,_,rfl,rfl,rfl,rfl,fun z=>hm (decide_eq_true (congrArg V.int z))⟩
    · have hq:¬ d * d ≤ n:=fun z=>hq (decide_eq_true z)
      refine ⟨_,rfl,_,_,rfl,rfl,?_⟩
      rw [primeB_yes (n:=n) (d:=d) (by omega) h1 h3] at k
      have e:decide ((2:Int) ≤ n) = true:=decide_eq_true hn1
      show Q (.bl (decide ((2:Int) ≤ n))) H'
      rw [e]
      exact k
theorem sc_is_fractions:FnScope ["told"] ["told"] (defScope s_is_fractions):=⟨rfl,rfl,rfl,by decide +kernel,rfl,by decide +kernel,by decide +kernel⟩
theorem ok_is_fractions (T:Txt K mg t):FnOk P w K mg base CX0 1 t.f_is_fractions t.d_is_fractions ["told"] spIsF:=by
  have S:=sc_is_fractions
  refine T.F_is_fractions.ok S (fun vs H Q E h=>?_) (fun cdv A outer s H vs Q E hr h=>?_)
  · obtain ⟨p,d,rfl,_⟩:=h
    rfl
  · obtain ⟨p,d,rfl,hp,k⟩:=h
    refine ⟨_,(@pss_one _ _ _ (@ps_ret _ _ _ _ (@pe_and _ _ _ _ _ _ _ (pe_callB (call_isi (K:=K)) rfl T.n_isinstance boot_isinstance (@pa_mor _ _ _ _ _ (by rfl) (pv 0) (@pa_mor _ _ _ _ _ (by rfl) (pe_bltn (v:=.ty "tuple") rfl T.n_tuple boot_tuple rfl) pa_nil))) (@pe_and _ _ _ _ _ _ _ (@pe_cmpR _ _ _ _ _ _ _ _ op_eq (pe_callB call_len_seq rfl T.n_len boot_len (@pa_mor _ _ _ _ _ (by rfl) (pv 0) pa_nil)) pe_int (nomark _)) (@pe_one _ _ _ _ _ (@pe_cmpR _ _ _ _ _ _ _ _ op_eq (@pe_ix _ _ _ _ _ _ _ ix_tup (pv 0) pe_int (fun _ _=>rfl)) pe_str (nomark _))))))),?_⟩
    refine ⟨_,rfl,_,_,_,true,rfl,rfl,.of (.tup hp),kit_same,true,rfl,iteT ?_⟩
    cases d with
    | a x=>
      refine ⟨_,rfl,p,_,rfl,.inr (.of hp),rfl,true,rfl,iteT ?_⟩
      refine ⟨_,rfl,p,_,0,.str x,rfl,rfl,.of hp,rfl,rfl,?_⟩
      rw [dV_str]
      exact k
    | b x n=>
      exact ⟨_,rfl,p,_,rfl,.inr (.of hp),rfl,false,rfl,iteF k⟩
theorem sc_is_wheel:FnScope ["told"] ["told"] (defScope s_is_wheel):=⟨rfl,rfl,rfl,by decide +kernel,rfl,by decide +kernel,by decide +kernel⟩
theorem ok_is_wheel (T:Txt K mg t):FnOk P w K mg base CX0 2 t.f_is_wheel t.d_is_wheel ["told"] spIsW:=by
  have S:=sc_is_wheel
  have G_is_whole:=ok_is_whole (P:=P) (w:=w) (base:=base) T
  have G_is_prime:=ok_is_prime (P:=P) (w:=w) (base:=base) T
  obtain ⟨uG,hG,rG⟩:=T.mg_GREATEST_PRIME
  refine T.F_is_wheel.ok S (fun vs H Q E h=>?_) (fun cdv A outer s H vs Q E hr h=>?_)
  · obtain ⟨p,d,rfl,_⟩:=h
    rfl
  · obtain ⟨p,d,rfl,hp,k⟩:=h
    refine ⟨_,(@pss_cons _ _ _ _ _ (@ps_if _ _ _ _ _ _ _ _ (PW.pt (@pw_or _ _ _ _ _ _ _ (@pt_not _ _ _ _ (pt_val (pe_callB (call_isi (K:=K)) rfl T.n_isinstance boot_isinstance (@pa_mor _ _ _ _ _ (by rfl) (pv 0) (@pa_mor _ _ _ _ _ (by rfl) (pe_bltn (v:=.ty "tuple") rfl T.n_tuple boot_tuple rfl) pa_nil))))) (@pw_or _ _ _ _ _ _ _ (@pt_cmpR _ _ _ _ _ _ _ _ op_ne (pe_callB call_len_seq rfl T.n_len boot_len (@pa_mor _ _ _ _ _ (by rfl) (pv 0) pa_nil)) pe_int (nomark _)) (@pw_or1 _ _ _ _ (@pt_cmpR _ _ _ _ _ _ _ _ op_ne (@pe_ix _ _ _ _ _ _ _ ix_tup (pv 0) pe_int (fun _ _=>rfl)) pe_str (nomark _)))))) (@pss_one _ _ _ (@ps_ret _ _ _ _ pe_bl)) pss_nil)
      (@pss_one _ _ _ (@ps_ret _ _ _ _ (@pe_and _ _ _ _ _ _ _ (pe_call G_is_whole (hr.mono (by decide)) rfl T.mg_is_whole T.F_is_whole.kp T.b_is_whole .nil pass0 (@pa_mor _ _ _ _ _ (by rfl) (@pe_ix _ _ _ _ _ _ _ ix_tup (pv 0) pe_int (fun _ _=>rfl)) pa_nil)) (@pe_and _ _ _ _ _ _ _ (pe_chain op_le op_le pe_int (@pe_ix _ _ _ _ _ _ _ ix_tup (pv 0) pe_int (fun _ _=>rfl)) (pe_glob (v:=.int 997) rfl hG rG)) (@pe_one _ _ _ _ _ (pe_call G_is_prime (hr.mono (by decide)) rfl T.mg_is_prime T.F_is_prime.kp T.b_is_prime .nil pass0 (@pa_mor _ _ _ _ _ (by rfl) (@pe_ix _ _ _ _ _ _ _ ix_tup (pv 0) pe_int (fun _ _=>rfl)) pa_nil)))))))),?_⟩
    refine ⟨_,rfl,_,_,_,true,rfl,rfl,.of (.tup hp),kit_same,true,rfl,iteF ?_⟩
    cases d with
    | a x=>exact ⟨_,rfl,p,_,rfl,.inr (.of hp),rfl,true,rfl,iteT (iteT k)⟩
    | b x n=>
      refine ⟨_,rfl,p,_,rfl,.inr (.of hp),rfl,false,rfl,iteF ?_⟩
      refine ⟨_,rfl,p,_,0,.str x,rfl,rfl,.of hp,rfl,rfl,_,rfl,ite2 (fun hw=>?_) (fun hw=>?_)⟩
      · have hw:¬ x = "wheel":=by
          rw [dV_str] at hw
          simpa using hw
        have e:(Td.b x n).isW = false:=by simp [Td.isW,hw]
        rw [e] at k
        exact k
      · have hw:x = "wheel":=by
          rw [dV_str] at hw
          simpa using hw
        refine ⟨_,rfl,p,_,1,.int n,rfl,rfl,.of hp,rfl,.int n,rfl,.int n,true,rfl,iteT ?_⟩
        refine ⟨_,rfl,p,_,1,.int n,rfl,rfl,.of hp,rfl,_,_,rfl,rfl,_,rfl,?_⟩
        refine ite2 (fun h2=>?_) (fun h2=>?_)
        · have h2:=of_decide_eq_true h2
          refine ⟨_,_,rfl,rfl,_,rfl,ite2 (fun h3=>?_) (fun h3=>?_)⟩
          · have h3:=of_decide_eq_true h3
            refine ⟨_,rfl,p,_,1,.int n,rfl,rfl,.of hp,rfl,n,rfl,h2,h3,?_⟩
            have e:(Td.b x n).isW = primeB n:=by simp [Td.isW,hw,h2,h3]
            rw [e] at k
            exact k
          · have h3:¬ n ≤ 997:=fun z=>h3 (decide_eq_true z)
            have e:(Td.b x n).isW = false:=by simp [Td.isW,h3]
            rw [e] at k
            exact k
        · have h2:¬ 2 ≤ n:=fun z=>h2 (decide_eq_true z)
          have e:(Td.b x n).isW = false:=by simp [Td.isW,h2]
          rw [e] at k
          exact ⟨false,rfl,iteF k⟩
theorem sc_init:FnScope ["self","told"] ["self","told"] (defScope s_World___init__):=⟨rfl,rfl,rfl,by decide +kernel,rfl,by decide +kernel,by decide +kernel⟩
theorem ok_init (T:Txt K mg t):FnOk P w K mg base (CXF P w) 3 t.f_World___init__ t.d_World___init__ ["self","told"] (spInit t.C_World t.C_NoWorld):=by
  have S:=sc_init
  have G_is_fractions:=ok_is_fractions (P:=P) (w:=w) (base:=base) T
  have G_is_wheel:=ok_is_wheel (P:=P) (w:=w) (base:=base) T
  refine T.F_World___init__.okX S (fun vs H Q E h=>?_) (fun cdv A outer s H vs Q E hr h L=>?_)
  · obtain ⟨x,dx,p,d,rfl,_⟩:=h
    rfl
  · obtain ⟨x,dx,p,d,rfl,hx,hp,k1,k2⟩:=h
    refine ⟨_,(@pss_one _ _ _ (@ps_if _ _ _ _ _ _ _ _ (pt_val (pe_call G_is_fractions (hr.mono (by decide)) rfl T.mg_is_fractions T.F_is_fractions.kp T.b_is_fractions .nil pass0 (@pa_mor _ _ _ _ _ (by rfl) (pv 1) pa_nil))) (@pss_one _ _ _ (@ps_fld _ _ _ _ _ _ _ _ (pv 0) pe_non rfl)) (@pss_one _ _ _ (@ps_if _ _ _ _ _ _ _ _ (pt_val (pe_call G_is_wheel (hr.mono (by decide)) rfl T.mg_is_wheel T.F_is_wheel.kp T.b_is_wheel .nil pass0 (@pa_mor _ _ _ _ _ (by rfl) (pv 1) pa_nil))) (@pss_one _ _ _ (@ps_fld _ _ _ _ _ _ _ _ (pv 0) (@pe_ix _ _ _ _ _ _ _ ix_tup (pv 1) pe_int (fun _ _=>rfl)) rfl)) (@pss_one _ _ _ (ps_raise L rfl PySem.F.excBase_ValueError T.x_NoWorld rfl T.mg_NoWorld (@pa_mor _ _ _ _ _ (by rfl) pe_str pa_nil))))))),?_⟩
    refine ⟨_,rfl,p,d,rfl,hp,_,rfl,ite2 (fun hF=>?_) (fun hF=>?_)⟩
    · refine ⟨_,rfl,x,t.C_World,dx,[],rfl,hx,T.cl_World,T.na_World_prime,(by show 0 < 1000; decide),?_⟩
      have e:d.prime = .non:=by
        cases d with
        | a x=>rfl
        | b x n=>cases hF
      have k:=k1 (by unfold Td.good; rw [hF]; rfl)
      rw [e] at k
      exact k
    · have hF:d.isF = false:=by simpa using hF
      refine ⟨_,rfl,p,d,rfl,hp,_,rfl,ite2 (fun hW=>?_) (fun hW=>?_)⟩
      · have k:=k1 (by unfold Td.good; rw [hW,Bool.or_true])
        cases d with
        | a x=>cases hW
        | b y n=>
          exact ⟨_,rfl,p,_,1,.int n,rfl,rfl,.of hp,rfl,_,rfl,x,t.C_World,dx,[],rfl,hx,T.cl_World,T.na_World_prime,(by show 0 < 1000; decide),k⟩
      · have hW:d.isW = false:=by simpa using hW
        exact ⟨by show 1 ≤ sizeLine; decide,k2 (by unfold Td.good; rw [hF,hW]; rfl)⟩
theorem sc_ratio:FnScope ["top","bottom","shared"] ["top","bottom"] (defScope s_ratio):=⟨rfl,rfl,rfl,by decide +kernel,rfl,by decide +kernel,by decide +kernel⟩
theorem ok_ratio (T:Txt K mg t):FnOk P w K mg base (CXF P w) 2 t.f_ratio t.d_ratio ["top","bottom"] (spRatio t.C_NoOver):=by
  have S:=sc_ratio
  have G_common_divisor:=ok_common_divisor (P:=P) (w:=w) (base:=base) T
  refine T.F_ratio.okX S (fun vs H Q E h=>?_) (fun cdv A outer s H vs Q E hr h L=>?_)
  · obtain ⟨a,b,rfl,_⟩:=h
    rfl
  · obtain ⟨a,b,rfl,mb,kE,k⟩:=h
    refine ⟨_,(@pss_cons _ _ _ _ _ (@ps_if _ _ _ _ _ _ _ _ (@pt_cmpR _ _ _ _ _ _ _ _ op_eq (pv 1) pe_int (nomark _)) (@pss_one _ _ _ (ps_raise L rfl PySem.F.excBase_ValueError T.x_NoOver rfl T.mg_NoOver (@pa_mor _ _ _ _ _ (by rfl) pe_str pa_nil))) pss_nil)
      (PSs.nox (@pss_cons _ _ _ _ _ (@ps_put _ _ 2 _ _ _ _ (by rfl) (by first | exact .inl rfl | exact .inr rfl | assumption) S.nd rfl (Or.inl rfl) (pe_call G_common_divisor (hr.mono (by decide)) rfl T.mg_common_divisor T.F_common_divisor.kp T.b_common_divisor .nil pass0 (@pa_mor _ _ _ _ _ (by rfl) (pv 0) (@pa_mor _ _ _ _ _ (by rfl) (pv 1) pa_nil))))
      (@pss_cons _ _ _ _ _ (@ps_if _ _ _ _ _ _ _ _ (@pt_cmpR _ _ _ _ _ _ _ _ op_lt (pv 1) pe_int (nomark _)) (@pss_one _ _ _ (@ps_put _ _ 2 _ _ _ _ (by rfl) (by first | exact .inl rfl | exact .inr rfl | assumption) S.nd rfl (Or.inl rfl) (@pe_un _ _ _ _ _ _ un_neg (pv 2)))) pss_nil)
      (@pss_one _ _ _ (@ps_ret _ _ _ _ (@pe_tup _ _ _ _ _ (@pa_mor _ _ _ _ _ (by rfl) (@pe_op _ _ _ _ _ _ _ _ op_fdivM (pv 0) (pv 2)) (@pa_mor _ _ _ _ _ (by rfl) (@pe_op _ _ _ _ _ _ _ _ op_fdivM (pv 1) (pv 2)) pa_nil))))))))),?_⟩
    have n2:2 ≤ sizeLine:=by decide
    refine ⟨_,rfl,rfl,_,rfl,ite2 (fun hz=>?_) (fun hz=>?_)⟩
    · have hz:b = 0:=V.int.inj (of_decide_eq_true hz)
      exact ⟨by show 1 ≤ sizeLine; decide,kE hz⟩
    have hz:b ≠ 0:=fun z=>hz (decide_eq_true (by rw [z]))
    have ok:=lowG_ok (a:=a) hz mb
    have kk:=k hz
    unfold lowU lowD at kk
    refine ⟨_,rfl,_,rfl,a,b,rfl,mb,_,rfl,_,_,rfl,rfl,_,rfl,ite2 (fun hn=>?_) (fun hn=>?_)⟩
    · have hn:b < 0:=of_decide_eq_true hn
      have e:lowG a b = -(Int.gcd a b:Int):=by unfold lowG; rw [if_pos hn,Int.zero_sub]
      rw [e] at ok kk
      refine ⟨_,rfl,_,rfl,_,rfl,_,rfl,_,_,rfl,rfl,ok,_,rfl,_,rfl,_,_,rfl,rfl,ok,n2,fun r hr=>kk r _ (same_upd hr) upd_same⟩
    · have hn:¬ b < 0:=fun z=>hn (decide_eq_true z)
      have e:lowG a b = (Int.gcd a b:Int):=by unfold lowG; rw [if_neg hn]
      rw [e] at ok kk
      refine ⟨_,rfl,_,rfl,_,_,rfl,rfl,ok,_,rfl,_,rfl,_,_,rfl,rfl,ok,n2,fun r hr=>kk r _ (same_upd hr) upd_same⟩
theorem sc_ratio_plus:FnScope ["a","b","shared","top","again"] ["a","b"] (defScope s_ratio_plus):=⟨rfl,rfl,rfl,by decide +kernel,rfl,by decide +kernel,by decide +kernel⟩
theorem ok_ratio_plus (T:Txt K mg t):FnOk P w K mg base CX0 2 t.f_ratio_plus t.d_ratio_plus ["a","b"] spRPlus:=by
  have S:=sc_ratio_plus
  have G_common_divisor:=ok_common_divisor (P:=P) (w:=w) (base:=base) T
  refine T.F_ratio_plus.ok S (fun vs H Q E h=>?_) (fun cdv A outer s H vs Q E hr h=>?_)
  · obtain ⟨p,q,x,m,y,n,rfl,_⟩:=h
    rfl
  · obtain ⟨p,q,x,m,y,n,rfl,hp,hq,la,lb,bx,bm,by',bn,k⟩:=h
    refine ⟨_,(@pss_cons _ _ _ _ _ (@ps_put _ _ 2 _ _ _ _ (by rfl) (by first | exact .inl rfl | exact .inr rfl | assumption) S.nd rfl (Or.inl rfl) (pe_call G_common_divisor (hr.mono (by decide)) rfl T.mg_common_divisor T.F_common_divisor.kp T.b_common_divisor .nil pass0 (@pa_mor _ _ _ _ _ (by rfl) (@pe_ix _ _ _ _ _ _ _ ix_tup (pv 0) pe_int (fun _ _=>rfl)) (@pa_mor _ _ _ _ _ (by rfl) (@pe_ix _ _ _ _ _ _ _ ix_tup (pv 1) pe_int (fun _ _=>rfl)) pa_nil))))
      (@pss_cons _ _ _ _ _ (@ps_if _ _ _ _ _ _ _ _ (@pt_cmpR _ _ _ _ _ _ _ _ op_eq (pv 2) pe_int (nomark _)) (@pss_one _ _ _ (@ps_ret _ _ _ _ (@pe_tup _ _ _ _ _ (@pa_mor _ _ _ _ _ (by rfl) (@pe_op _ _ _ _ _ _ _ _ op_add (@pe_op _ _ _ _ _ _ _ _ op_mulM (@pe_ix _ _ _ _ _ _ _ ix_tup (pv 0) pe_int (fun _ _=>rfl)) (@pe_ix _ _ _ _ _ _ _ ix_tup (pv 1) pe_int (fun _ _=>rfl))) (@pe_op _ _ _ _ _ _ _ _ op_mulM (@pe_ix _ _ _ _ _ _ _ ix_tup (pv 1) pe_int (fun _ _=>rfl)) (@pe_ix _ _ _ _ _ _ _ ix_tup (pv 0) pe_int (fun _ _=>rfl)))) (@pa_mor _ _ _ _ _ (by rfl) (@pe_op _ _ _ _ _ _ _ _ op_mulM (@pe_ix _ _ _ _ _ _ _ ix_tup (pv 0) pe_int (fun _ _=>rfl)) (@pe_ix _ _ _ _ _ _ _ ix_tup (pv 1) pe_int (fun _ _=>rfl))) pa_nil))))) pss_nil)
      (@pss_cons _ _ _ _ _ (@ps_put _ _ 3 _ _ _ _ (by rfl) (by first | exact .inl rfl | exact .inr rfl | assumption) S.nd rfl (Or.inl rfl) (@pe_op _ _ _ _ _ _ _ _ op_add (@pe_op _ _ _ _ _ _ _ _ op_mulM (@pe_ix _ _ _ _ _ _ _ ix_tup (pv 0) pe_int (fun _ _=>rfl)) (@pe_op _ _ _ _ _ _ _ _ op_fdivP (@pe_ix _ _ _ _ _ _ _ ix_tup (pv 1) pe_int (fun _ _=>rfl)) (pv 2))) (@pe_op _ _ _ _ _ _ _ _ op_mulM (@pe_ix _ _ _ _ _ _ _ ix_tup (pv 1) pe_int (fun _ _=>rfl)) (@pe_op _ _ _ _ _ _ _ _ op_fdivP (@pe_ix _ _ _ _ _ _ _ ix_tup (pv 0) pe_int (fun _ _=>rfl)) (pv 2)))))
      (@pss_cons _ _ _ _ _ (@ps_put _ _ 4 _ _ _ _ (by rfl) (by first | exact .inl rfl | exact .inr rfl | assumption) S.nd rfl (Or.inl rfl) (pe_call G_common_divisor (hr.mono (by decide)) rfl T.mg_common_divisor T.F_common_divisor.kp T.b_common_divisor .nil pass0 (@pa_mor _ _ _ _ _ (by rfl) (pv 3) (@pa_mor _ _ _ _ _ (by rfl) (pv 2) pa_nil))))
      (@pss_one _ _ _ (@ps_ret _ _ _ _ (@pe_tup _ _ _ _ _ (@pa_mor _ _ _ _ _ (by rfl) (@pe_op _ _ _ _ _ _ _ _ op_fdivP (pv 3) (pv 4)) (@pa_mor _ _ _ _ _ (by rfl) (@pe_op _ _ _ _ _ _ _ _ op_mulM (@pe_op _ _ _ _ _ _ _ _ op_fdivP (@pe_ix _ _ _ _ _ _ _ ix_tup (pv 0) pe_int (fun _ _=>rfl)) (pv 2)) (@pe_op _ _ _ _ _ _ _ _ op_fdivP (@pe_ix _ _ _ _ _ _ _ ix_tup (pv 1) pe_int (fun _ _=>rfl)) (pv 4))) pa_nil))))))))),?_⟩
    have n2:2 ≤ sizeLine:=by decide
    have m0:=la.pos
    have n0:=lb.pos
    refine ⟨_,rfl,p,_,_,_,rfl,rfl,.of hp,rfl,_,rfl,q,_,_,_,rfl,rfl,.of hq,rfl,m,n,rfl,bn.mid,?_⟩
    have gp:(0:Int) < (Int.gcd m n:Int):=gcd_pos' (by omega)
    have gb:Big (Int.gcd m n:Int):=bn.gcd (by omega)
    refine ⟨_,rfl,rfl,_,rfl,ite2 (fun e=>?_) (fun _=>?_)⟩
    · have e:Int.gcd m n = 1:=by
        have z:=of_decide_eq_true e
        have z:=V.int.inj z
        omega
      exact ⟨_,rfl,p,_,_,_,rfl,rfl,.of hp,rfl,_,rfl,q,_,_,_,rfl,rfl,.of hq,rfl,_,_,rfl,rfl,⟨bx.mid,bn.mid⟩,
        _,rfl,q,_,_,_,rfl,rfl,.of hq,rfl,_,rfl,p,_,_,_,rfl,rfl,.of hp,rfl,_,_,rfl,rfl,⟨by'.mid,bm.mid⟩,_,_,rfl,rfl,
        _,rfl,p,_,_,_,rfl,rfl,.of hp,rfl,_,rfl,q,_,_,_,rfl,rfl,.of hq,rfl,_,_,rfl,rfl,⟨bm.mid,bn.mid⟩,n2,fun r hr=>k r _ _ _ (same_upd hr) upd_same (low_plus1 la lb e) rfl⟩
    refine ⟨_,rfl,p,_,_,_,rfl,rfl,.of hp,rfl,_,rfl,q,_,_,_,rfl,rfl,.of hq,rfl,_,rfl,_,_,rfl,rfl,⟨gp,gb.mid⟩,_,_,rfl,rfl,⟨bx.mid,bn.over.mid⟩,
      _,rfl,q,_,_,_,rfl,rfl,.of hq,rfl,_,rfl,p,_,_,_,rfl,rfl,.of hp,rfl,_,rfl,_,_,rfl,rfl,⟨gp,gb.mid⟩,_,_,rfl,rfl,⟨by'.mid,bm.over.mid⟩,_,_,rfl,rfl,?_⟩
    refine ⟨_,rfl,_,rfl,_,_,rfl,gb.mid,?_⟩
    have ap:(0:Int) < (Int.gcd (x * (n / (Int.gcd m n:Int)) + y * (m / (Int.gcd m n:Int))) (Int.gcd m n:Int):Int):=gcd_pos' (by omega)
    have ab:Big (Int.gcd (x * (n / (Int.gcd m n:Int)) + y * (m / (Int.gcd m n:Int))) (Int.gcd m n:Int):Int):=gb.gcd (by omega)
    have z:=low_plus2 la lb _ _ rfl _ rfl rfl
    exact ⟨_,rfl,_,rfl,_,_,rfl,rfl,⟨ap,ab.mid⟩,_,rfl,p,_,_,_,rfl,rfl,.of hp,rfl,_,rfl,_,_,rfl,rfl,⟨gp,gb.mid⟩,_,rfl,q,_,_,_,rfl,rfl,.of hq,rfl,_,rfl,_,_,rfl,rfl,⟨ap,ab.mid⟩,_,_,rfl,rfl,⟨bm.over.mid,bn.over.mid⟩,n2,
      fun r hr=>k r _ _ _ (same_upd hr) upd_same z.1 z.2⟩
theorem sc_ratio_minus:FnScope ["a","b"] ["a","b"] (defScope s_ratio_minus):=⟨rfl,rfl,rfl,by decide +kernel,rfl,by decide +kernel,by decide +kernel⟩
theorem ok_ratio_minus (T:Txt K mg t):FnOk P w K mg base CX0 3 t.f_ratio_minus t.d_ratio_minus ["a","b"] spRMinus:=by
  have S:=sc_ratio_minus
  have G_ratio_plus:=ok_ratio_plus (P:=P) (w:=w) (base:=base) T
  refine T.F_ratio_minus.ok S (fun vs H Q E h=>?_) (fun cdv A outer s H vs Q E hr h=>?_)
  · obtain ⟨p,q,x,m,y,n,rfl,_⟩:=h
    rfl
  · obtain ⟨p,q,x,m,y,n,rfl,hp,hq,la,lb,bx,bm,by',bn,k⟩:=h
    refine ⟨_,(@pss_one _ _ _ (@ps_ret _ _ _ _ (pe_call G_ratio_plus (hr.mono (by decide)) rfl T.mg_ratio_plus T.F_ratio_plus.kp T.b_ratio_plus .nil pass0 (@pa_mor _ _ _ _ _ (by rfl) (pv 0) (@pa_mor _ _ _ _ _ (by rfl) (@pe_tup _ _ _ _ _ (@pa_mor _ _ _ _ _ (by rfl) (@pe_un _ _ _ _ _ _ un_neg (@pe_ix _ _ _ _ _ _ _ ix_tup (pv 1) pe_int (fun _ _=>rfl))) (@pa_mor _ _ _ _ _ (by rfl) (@pe_ix _ _ _ _ _ _ _ ix_tup (pv 1) pe_int (fun _ _=>rfl)) pa_nil))) pa_nil))))),?_⟩
    exact ⟨_,rfl,_,rfl,q,_,_,_,rfl,rfl,.of hq,rfl,_,rfl,_,rfl,q,_,_,_,rfl,rfl,.of hq,rfl,by show 2 ≤ sizeLine; decide,fun r hr=>⟨p,r,x,m,-y,n,rfl,same_upd hr _ _ hp,upd_same,la,lb.neg,bx,bm,by'.neg,bn,
      fun r' H' u d s' e l z=>k r' H' u d ((same_upd hr).trans s') e l (by rw [z,Int.neg_mul,Int.sub_eq_add_neg])⟩⟩
theorem sc_ratio_times:FnScope ["a","b","first","second"] ["a","b"] (defScope s_ratio_times):=⟨rfl,rfl,rfl,by decide +kernel,rfl,by decide +kernel,by decide +kernel⟩
theorem ok_ratio_times (T:Txt K mg t):FnOk P w K mg base CX0 2 t.f_ratio_times t.d_ratio_times ["a","b"] spRTimes:=by
  have S:=sc_ratio_times
  have G_common_divisor:=ok_common_divisor (P:=P) (w:=w) (base:=base) T
  refine T.F_ratio_times.ok S (fun vs H Q E h=>?_) (fun cdv A outer s H vs Q E hr h=>?_)
  · obtain ⟨p,q,x,m,y,n,rfl,_⟩:=h
    rfl
  · obtain ⟨p,q,x,m,y,n,rfl,hp,hq,la,lb,bx,bm,by',bn,k⟩:=h
    refine ⟨_,(@pss_cons _ _ _ _ _ (@ps_put _ _ 2 _ _ _ _ (by rfl) (by first | exact .inl rfl | exact .inr rfl | assumption) S.nd rfl (Or.inl rfl) (pe_call G_common_divisor (hr.mono (by decide)) rfl T.mg_common_divisor T.F_common_divisor.kp T.b_common_divisor .nil pass0 (@pa_mor _ _ _ _ _ (by rfl) (@pe_ix _ _ _ _ _ _ _ ix_tup (pv 0) pe_int (fun _ _=>rfl)) (@pa_mor _ _ _ _ _ (by rfl) (@pe_ix _ _ _ _ _ _ _ ix_tup (pv 1) pe_int (fun _ _=>rfl)) pa_nil))))
      (@pss_cons _ _ _ _ _ (@ps_put _ _ 3 _ _ _ _ (by rfl) (by first | exact .inl rfl | exact .inr rfl | assumption) S.nd rfl (Or.inl rfl) (pe_call G_common_divisor (hr.mono (by decide)) rfl T.mg_common_divisor T.F_common_divisor.kp T.b_common_divisor .nil pass0 (@pa_mor _ _ _ _ _ (by rfl) (@pe_ix _ _ _ _ _ _ _ ix_tup (pv 1) pe_int (fun _ _=>rfl)) (@pa_mor _ _ _ _ _ (by rfl) (@pe_ix _ _ _ _ _ _ _ ix_tup (pv 0) pe_int (fun _ _=>rfl)) pa_nil))))
      (@pss_one _ _ _ (@ps_ret _ _ _ _ (@pe_tup _ _ _ _ _ (@pa_mor _ _ _ _ _ (by rfl) (@pe_op _ _ _ _ _ _ _ _ op_mulM (@pe_op _ _ _ _ _ _ _ _ op_fdivP (@pe_ix _ _ _ _ _ _ _ ix_tup (pv 0) pe_int (fun _ _=>rfl)) (pv 2)) (@pe_op _ _ _ _ _ _ _ _ op_fdivP (@pe_ix _ _ _ _ _ _ _ ix_tup (pv 1) pe_int (fun _ _=>rfl)) (pv 3))) (@pa_mor _ _ _ _ _ (by rfl) (@pe_op _ _ _ _ _ _ _ _ op_mulM (@pe_op _ _ _ _ _ _ _ _ op_fdivP (@pe_ix _ _ _ _ _ _ _ ix_tup (pv 0) pe_int (fun _ _=>rfl)) (pv 3)) (@pe_op _ _ _ _ _ _ _ _ op_fdivP (@pe_ix _ _ _ _ _ _ _ ix_tup (pv 1) pe_int (fun _ _=>rfl)) (pv 2))) pa_nil))))))),?_⟩
    have n2:2 ≤ sizeLine:=by decide
    have m0:=la.pos
    have n0:=lb.pos
    have gp:(0:Int) < (Int.gcd x n:Int):=gcd_pos' (by omega)
    have gb:Big (Int.gcd x n:Int):=bn.gcd (by omega)
    have ap:(0:Int) < (Int.gcd y m:Int):=gcd_pos' (by omega)
    have ab:Big (Int.gcd y m:Int):=bm.gcd (by omega)
    refine ⟨_,rfl,p,_,_,_,rfl,rfl,.of hp,rfl,_,rfl,q,_,_,_,rfl,rfl,.of hq,rfl,x,n,rfl,bn.mid,?_⟩
    refine ⟨_,rfl,q,_,_,_,rfl,rfl,.of hq,rfl,_,rfl,p,_,_,_,rfl,rfl,.of hp,rfl,y,m,rfl,bm.mid,?_⟩
    have z:=low_times la lb
    exact ⟨_,rfl,p,_,_,_,rfl,rfl,.of hp,rfl,_,rfl,_,_,rfl,rfl,⟨gp,gb.mid⟩,_,rfl,q,_,_,_,rfl,rfl,.of hq,rfl,_,rfl,_,_,rfl,rfl,⟨ap,ab.mid⟩,_,_,rfl,rfl,⟨bx.over.mid,by'.over.mid⟩,
      _,rfl,p,_,_,_,rfl,rfl,.of hp,rfl,_,rfl,_,_,rfl,rfl,⟨ap,ab.mid⟩,_,rfl,q,_,_,_,rfl,rfl,.of hq,rfl,_,rfl,_,_,rfl,rfl,⟨gp,gb.mid⟩,_,_,rfl,rfl,⟨bm.over.mid,bn.over.mid⟩,n2,
      fun r hr=>k r _ _ _ (same_upd hr) upd_same z.1 z.2⟩
theorem sc_remainder_back:FnScope ["prime","number","last","last_times","now","now_times","fits","left","left_times"] ["prime","number"] (defScope s_remainder_back):=⟨rfl,rfl,rfl,by decide +kernel,rfl,by decide +kernel,by decide +kernel⟩
theorem ok_remainder_back (T:Txt K mg t):FnOk P w K mg base (CXF P w) 1 t.f_remainder_back t.d_remainder_back ["prime","number"] (spBack t.C_NoOver):=by
  have S:=sc_remainder_back
  refine T.F_remainder_back.okX S (fun vs H Q E h=>?_) (fun cdv A outer s H vs Q E hr h L=>?_)
  · obtain ⟨q,b,rfl,_⟩:=h
    rfl
  · obtain ⟨q,b,rfl,q1,q2,q3,b0,b1,kE,k⟩:=h
    refine ⟨_,(@pss_cons _ _ _ _ _ (@ps_if _ _ _ _ _ _ _ _ (@pt_cmpR _ _ _ _ _ _ _ _ op_eq (pv 1) pe_int (nomark _)) (@pss_one _ _ _ (ps_raise L rfl PySem.F.excBase_ValueError T.x_NoOver rfl T.mg_NoOver (@pa_mor _ _ _ _ _ (by rfl) pe_str pa_nil))) pss_nil)
      (PSs.nox (@pss_cons _ _ _ _ _ (@ps_put _ _ 2 _ _ _ _ (by rfl) (by first | exact .inl rfl | exact .inr rfl | assumption) S.nd rfl (Or.inl rfl) (pv 0))
      (@pss_cons _ _ _ _ _ (@ps_put _ _ 3 _ _ _ _ (by rfl) (by first | exact .inl rfl | exact .inr rfl | assumption) S.nd rfl (Or.inl rfl) pe_int)
      (@pss_cons _ _ _ _ _ (@ps_put _ _ 4 _ _ _ _ (by rfl) (by first | exact .inl rfl | exact .inr rfl | assumption) S.nd rfl (Or.inl rfl) (pv 1))
      (@pss_cons _ _ _ _ _ (@ps_put _ _ 5 _ _ _ _ (by rfl) (by first | exact .inl rfl | exact .inr rfl | assumption) S.nd rfl (Or.inl rfl) pe_int)
      (@pss_cons _ _ _ _ _ (@ps_while _ _ _ _ _ _ PassesOwn.never (@pt_cmpR _ _ _ _ _ _ _ _ op_gt (pv 4) pe_int (nomark _)) (@pss_cons _ _ _ _ _ (@ps_put _ _ 6 _ _ _ _ (by rfl) (by first | exact .inl rfl | exact .inr rfl | assumption) S.nd rfl (Or.inl rfl) (@pe_op _ _ _ _ _ _ _ _ op_fdiv (pv 2) (pv 4)))
      (@pss_cons _ _ _ _ _ (@ps_put _ _ 7 _ _ _ _ (by rfl) (by first | exact .inl rfl | exact .inr rfl | assumption) S.nd rfl (Or.inl rfl) (@pe_op _ _ _ _ _ _ _ _ op_sub (pv 2) (@pe_op _ _ _ _ _ _ _ _ op_mul (pv 6) (pv 4))))
      (@pss_cons _ _ _ _ _ (@ps_put _ _ 8 _ _ _ _ (by rfl) (by first | exact .inl rfl | exact .inr rfl | assumption) S.nd rfl (Or.inl rfl) (@pe_op _ _ _ _ _ _ _ _ op_sub (pv 3) (@pe_op _ _ _ _ _ _ _ _ op_mul (pv 6) (pv 5))))
      (@pss_cons _ _ _ _ _ (@ps_put _ _ 2 _ _ _ _ (by rfl) (by first | exact .inl rfl | exact .inr rfl | assumption) S.nd rfl (Or.inl rfl) (pv 4))
      (@pss_cons _ _ _ _ _ (@ps_put _ _ 3 _ _ _ _ (by rfl) (by first | exact .inl rfl | exact .inr rfl | assumption) S.nd rfl (Or.inl rfl) (pv 5))
      (@pss_cons _ _ _ _ _ (@ps_put _ _ 4 _ _ _ _ (by rfl) (by first | exact .inl rfl | exact .inr rfl | assumption) S.nd rfl (Or.inl rfl) (pv 7))
      (@pss_one _ _ _ (@ps_put _ _ 5 _ _ _ _ (by rfl) (by first | exact .inl rfl | exact .inr rfl | assumption) S.nd rfl (Or.inl rfl) (pv 8))))))))))
      (@pss_one _ _ _ (@ps_ret _ _ _ _ (@pe_op _ _ _ _ _ _ _ _ op_mod (pv 5) (pv 0))))))))))),?_⟩
    refine ⟨_,rfl,rfl,_,rfl,ite2 (fun hz=>?_) (fun hz=>?_)⟩
    · have hz:b = 0:=V.int.inj (of_decide_eq_true hz)
      exact ⟨by show 1 ≤ sizeLine; decide,kE hz⟩
    have hz:b ≠ 0:=fun z=>hz (decide_eq_true (by rw [z]))
    refine ⟨_,rfl,_,rfl,fun m σ H'=>H' = H∧∃ (l lt n nt:Int) (v1 v2 v3:Option V),σ = [some (.int q),some (.int b),some (.int l),some (.int lt),some (.int n),some (.int nt),v1,v2,v3]∧m = n.toNat∧Bond q b l lt n nt∧l ≤ 997,
      ⟨b.toNat,rfl,q,0,b,1,none,none,none,rfl,rfl,Bond.start q1 q2 q3 (by omega) b1,q2⟩,?_⟩
    rintro m σ H' ⟨rfl,l,lt,n,nt,v1,v2,v3,rfl,em,hb,hl⟩
    have p1:=hb.pos
    have p2:=hb.less
    refine ⟨_,rfl,_,_,rfl,rfl,_,rfl,ite2 (fun hy=>?_) (fun hy=>?_)⟩
    · have hy:1 < n:=of_decide_eq_true hy
      have hs:=hb.step hy
      have f0:0 ≤ l / n:=Int.ediv_nonneg (by omega) (by omega)
      have f1:l / n ≤ l:=Int.ediv_le_self _ (by omega)
      refine ⟨fun σ' H2=>H2 = H'∧σ' = [some (.int q),some (.int b),some (.int n),some (.int nt),some (.int (l - l / n * n)),some (.int (lt - l / n * nt)),some (.int (l / n)),some (.int (l - l / n * n)),some (.int (lt - l / n * nt))],?_,?_⟩
      · rintro σ' H2 ⟨rfl,rfl⟩
        exact ⟨(l - l / n * n).toNat,by rw [em]; omega,rfl,_,_,_,_,_,_,_,rfl,rfl,hs.1,by omega⟩
      · exact ⟨_,rfl,_,rfl,_,_,rfl,rfl,⟨by omega,by omega⟩,_,rfl,_,rfl,_,rfl,_,_,rfl,rfl,.inr ⟨by omega,by omega⟩,_,_,rfl,rfl,
          _,rfl,_,rfl,_,rfl,_,_,rfl,rfl,.inl ⟨by omega,by omega⟩,_,_,rfl,rfl,_,rfl,_,rfl,_,rfl,_,rfl,rfl,rfl⟩
    · have hy:¬ 1 < n:=fun z=>hy (decide_eq_true z)
      have n1:n = 1:=by omega
      subst n1
      exact ⟨_,rfl,_,rfl,_,_,rfl,rfl,(show (0:Int) < q by omega),k hz _ (Int.emod_nonneg _ (by omega)) (Int.emod_lt_of_pos _ (by omega)) (hb.done q1)⟩
theorem sc_remainder_over:FnScope ["prime","a","b"] ["prime","a","b"] (defScope s_remainder_over):=⟨rfl,rfl,rfl,by decide +kernel,rfl,by decide +kernel,by decide +kernel⟩
theorem ok_remainder_over (T:Txt K mg t):FnOk P w K mg base (CXF P w) 2 t.f_remainder_over t.d_remainder_over ["prime","a","b"] (spRemOver t.C_NoOver):=by
  have S:=sc_remainder_over
  have G_remainder_back:=ok_remainder_back (P:=P) (w:=w) (base:=base) T
  refine T.F_remainder_over.okX S (fun vs H Q E h=>?_) (fun cdv A outer s H vs Q E hr h L=>?_)
  · obtain ⟨q,i,j,rfl,_⟩:=h
    rfl
  · obtain ⟨q,i,j,rfl,q1,q2,q3,i0,i1,j0,j1,kE,k⟩:=h
    refine ⟨_,(@pss_one _ _ _ (@ps_ret _ _ _ _ (@pe_op _ _ _ _ _ _ _ _ op_mod (@pe_op _ _ _ _ _ _ _ _ op_mul (pv 1) (pe_call G_remainder_back (hr.mono (by decide)) rfl T.mg_remainder_back T.F_remainder_back.kp T.b_remainder_back .nil (passF L) (@pa_mor _ _ _ _ _ (by rfl) (pv 0) (@pa_mor _ _ _ _ _ (by rfl) (pv 2) pa_nil)))) (pv 0)))),?_⟩
    exact ⟨_,rfl,_,rfl,_,rfl,q,j,rfl,q1,q2,q3,j0,j1,kE,fun hj r r0 r1 hr'=>⟨_,_,rfl,rfl,.inl ⟨by omega,by omega⟩,_,rfl,_,_,rfl,rfl,(show (0:Int) < q by omega),
      k hj _ (Int.emod_nonneg _ (by omega)) (Int.emod_lt_of_pos _ (by omega)) (rem_over q1 i0 i1 hr')⟩⟩
theorem sc_of:FnScope ["self","top","bottom"] ["self","top","bottom"] (defScope s_World_of):=⟨rfl,rfl,rfl,by decide +kernel,rfl,by decide +kernel,by decide +kernel⟩
theorem ok_of (T:Txt K mg t):FnOk P w K mg base (CXF P w) 3 t.f_World_of t.d_World_of ["self","top","bottom"] (spOf t.C_World t.C_NoOver):=by
  have S:=sc_of
  have G_ratio:=ok_ratio (P:=P) (w:=w) (base:=base) T
  have G_remainder_over:=ok_remainder_over (P:=P) (w:=w) (base:=base) T
  refine T.F_World_of.okX S (fun vs H Q E h=>?_) (fun cdv A outer s H vs Q E hr h L=>?_)
  · obtain ⟨z,q,a,b,rfl,_⟩:=h
    rfl
  · obtain ⟨z,q,a,b,rfl,⟨dx,hx⟩,hq,mb,kE,k⟩:=h
    refine ⟨_,(@pss_cons _ _ _ _ _ (@ps_if _ _ _ _ _ _ _ _ (@pt_cmpR _ _ _ _ _ _ _ _ op_isN (@pe_fld _ _ _ _ _ (pv 0) rfl) pe_non (nomark _)) (@pss_one _ _ _ (@ps_ret _ _ _ _ (pe_call G_ratio (hr.mono (by decide)) rfl T.mg_ratio T.F_ratio.kp T.b_ratio .nil (passF L) (@pa_mor _ _ _ _ _ (by rfl) (pv 1) (@pa_mor _ _ _ _ _ (by rfl) (pv 2) pa_nil))))) pss_nil)
      (@pss_one _ _ _ (@ps_ret _ _ _ _ (pe_call G_remainder_over (hr.mono (by decide)) rfl T.mg_remainder_over T.F_remainder_over.kp T.b_remainder_over .nil (passF L) (@pa_mor _ _ _ _ _ (by rfl) (@pe_fld _ _ _ _ _ (pv 0) rfl) (@pa_mor _ _ _ _ _ (by rfl) (@pe_op _ _ _ _ _ _ _ _ op_mod (pv 1) (@pe_fld _ _ _ _ _ (pv 0) rfl)) (@pa_mor _ _ _ _ _ (by rfl) (@pe_op _ _ _ _ _ _ _ _ op_mod (pv 2) (@pe_fld _ _ _ _ _ (pv 0) rfl)) pa_nil))))))),?_⟩
    refine ⟨_,rfl,z,t.C_World,dx,_,_,rfl,hx,T.cl_World,T.na_World_prime,lk_prime _,rfl,_,rfl,?_⟩
    rcases hq with rfl | ⟨q2,q3,q4⟩
    · rw [if_pos rfl]
      refine iteT ⟨_,rfl,_,rfl,a,b,rfl,mb,fun hb=>kE (by unfold NoOv; rw [if_pos rfl]; exact hb),fun hb r H' s' er=>k (fun hn=>hb (by unfold NoOv at hn; rw [if_pos rfl] at hn; exact hn)) _ H' s' (.inl ⟨rfl,r,rfl,er⟩)⟩
    · have hq:q ≠ 0:=by omega
      rw [if_neg hq] at hx ⊢
      have p0:(0:Int) < q:=by omega
      refine iteF ⟨_,rfl,z,t.C_World,dx,_,_,rfl,hx,T.cl_World,T.na_World_prime,lk_prime _,_,rfl,_,rfl,z,t.C_World,dx,_,_,rfl,hx,T.cl_World,T.na_World_prime,lk_prime _,_,_,rfl,rfl,p0,_,rfl,_,rfl,z,t.C_World,dx,_,_,rfl,hx,T.cl_World,T.na_World_prime,lk_prime _,_,_,rfl,rfl,p0,?_⟩
      have nv:NoOv q b ↔ b % q = 0:=by unfold NoOv; rw [if_neg hq]
      exact ⟨q,a % q,b % q,rfl,q2,q3,q4,Int.emod_nonneg _ hq,Int.emod_lt_of_pos _ p0,Int.emod_nonneg _ hq,Int.emod_lt_of_pos _ p0,fun hj=>kE (nv.mpr hj),fun hj r r0 r1 hr'=>k (fun z=>hj (nv.mp z)) _ H (Same.refl H) (.inr ⟨q2,r,rfl,r0,r1,hr'⟩)⟩
theorem sc_minus:FnScope ["self","a","b"] ["self","a","b"] (defScope s_World_minus):=⟨rfl,rfl,rfl,by decide +kernel,rfl,by decide +kernel,by decide +kernel⟩
theorem ok_minus (T:Txt K mg t):FnOk P w K mg base CX0 4 t.f_World_minus t.d_World_minus ["self","a","b"] (spArith t.C_World (fun x m y n=>x * n - y * m) (fun i j=>i - j)):=by
  have S:=sc_minus
  have G_ratio_minus:=ok_ratio_minus (P:=P) (w:=w) (base:=base) T
  refine T.F_World_minus.ok S (fun vs H Q E h=>?_) (fun cdv A outer s H vs Q E hr h=>?_)
  · obtain ⟨z,q,v,u,rfl,_⟩:=h
    rfl
  · obtain ⟨z,q,v,u,rfl,⟨dx,hx⟩,hc⟩:=h
    refine ⟨_,(@pss_cons _ _ _ _ _ (@ps_if _ _ _ _ _ _ _ _ (@pt_cmpR _ _ _ _ _ _ _ _ op_isN (@pe_fld _ _ _ _ _ (pv 0) rfl) pe_non (nomark _)) (@pss_one _ _ _ (@ps_ret _ _ _ _ (pe_call G_ratio_minus (hr.mono (by decide)) rfl T.mg_ratio_minus T.F_ratio_minus.kp T.b_ratio_minus .nil pass0 (@pa_mor _ _ _ _ _ (by rfl) (pv 1) (@pa_mor _ _ _ _ _ (by rfl) (pv 2) pa_nil))))) pss_nil)
      (@pss_one _ _ _ (@ps_ret _ _ _ _ (@pe_op _ _ _ _ _ _ _ _ op_mod (@pe_op _ _ _ _ _ _ _ _ op_sub (pv 1) (pv 2)) (@pe_fld _ _ _ _ _ (pv 0) rfl))))),?_⟩
    refine ⟨_,rfl,z,t.C_World,dx,_,_,rfl,hx,T.cl_World,T.na_World_prime,lk_prime _,rfl,_,rfl,?_⟩
    rcases hc with ⟨rfl,p,r,x,m,y,n,rfl,rfl,h1⟩ | ⟨q2,i,j,rfl,rfl,i0,i1,k⟩
    · rw [if_pos rfl]
      exact iteT ⟨_,rfl,_,rfl,p,r,x,m,y,n,rfl,h1⟩
    · have hq:q ≠ 0:=by omega
      rw [if_neg hq] at hx ⊢
      exact iteF ⟨_,rfl,_,rfl,_,_,rfl,rfl,_,rfl,z,t.C_World,dx,_,_,rfl,hx,T.cl_World,T.na_World_prime,lk_prime _,_,_,rfl,rfl,(show (0:Int) < q by omega),k⟩
theorem sc_times:FnScope ["self","a","b"] ["self","a","b"] (defScope s_World_times):=⟨rfl,rfl,rfl,by decide +kernel,rfl,by decide +kernel,by decide +kernel⟩
theorem ok_times (T:Txt K mg t):FnOk P w K mg base CX0 4 t.f_World_times t.d_World_times ["self","a","b"] (spArith t.C_World (fun x m y n=>x * y) (fun i j=>i * j)):=by
  have S:=sc_times
  have G_ratio_times:=ok_ratio_times (P:=P) (w:=w) (base:=base) T
  refine T.F_World_times.ok S (fun vs H Q E h=>?_) (fun cdv A outer s H vs Q E hr h=>?_)
  · obtain ⟨z,q,v,u,rfl,_⟩:=h
    rfl
  · obtain ⟨z,q,v,u,rfl,⟨dx,hx⟩,hc⟩:=h
    refine ⟨_,(@pss_cons _ _ _ _ _ (@ps_if _ _ _ _ _ _ _ _ (@pt_cmpR _ _ _ _ _ _ _ _ op_isN (@pe_fld _ _ _ _ _ (pv 0) rfl) pe_non (nomark _)) (@pss_one _ _ _ (@ps_ret _ _ _ _ (pe_call G_ratio_times (hr.mono (by decide)) rfl T.mg_ratio_times T.F_ratio_times.kp T.b_ratio_times .nil pass0 (@pa_mor _ _ _ _ _ (by rfl) (pv 1) (@pa_mor _ _ _ _ _ (by rfl) (pv 2) pa_nil))))) pss_nil)
      (@pss_one _ _ _ (@ps_ret _ _ _ _ (@pe_op _ _ _ _ _ _ _ _ op_mod (@pe_op _ _ _ _ _ _ _ _ op_mul (pv 1) (pv 2)) (@pe_fld _ _ _ _ _ (pv 0) rfl))))),?_⟩
    refine ⟨_,rfl,z,t.C_World,dx,_,_,rfl,hx,T.cl_World,T.na_World_prime,lk_prime _,rfl,_,rfl,?_⟩
    rcases hc with ⟨rfl,p,r,x,m,y,n,rfl,rfl,h1⟩ | ⟨q2,i,j,rfl,rfl,i0,i1,k⟩
    · rw [if_pos rfl]
      exact iteT ⟨_,rfl,_,rfl,p,r,x,m,y,n,rfl,h1⟩
    · have hq:q ≠ 0:=by omega
      rw [if_neg hq] at hx ⊢
      exact iteF ⟨_,rfl,_,rfl,_,_,rfl,rfl,.inl ⟨by omega,by omega⟩,_,rfl,z,t.C_World,dx,_,_,rfl,hx,T.cl_World,T.na_World_prime,lk_prime _,_,_,rfl,rfl,(show (0:Int) < q by omega),k⟩
theorem sc_first_filled:FnScope ["rows","start","lead","place"] ["rows","start","lead"] (defScope s_first_filled):=⟨rfl,rfl,rfl,by decide +kernel,rfl,by decide +kernel,by decide +kernel⟩
theorem ok_first_filled (T:Txt K mg t):FnOk P w K mg base CX0 1 t.f_first_filled t.d_first_filled ["rows","start","lead"] spFF:=by
  have S:=sc_first_filled
  refine T.F_first_filled.ok S (fun vs H Q E h=>?_) (fun cdv A outer s H vs Q E hr h=>?_)
  · obtain ⟨a,n,W,r,c,M,rfl,_⟩:=h
    rfl
  · obtain ⟨a,n,W,r,c,M,rfl,hA,rn,n100,cW,k1,k2⟩:=h
    refine ⟨_,(@pss_cons _ _ _ _ _ (ps_for PassesOwn.never rfl (pi_range2 rfl T.n_range (@pa_mor _ _ _ _ _ (by rfl) (pv 1) (@pa_mor _ _ _ _ _ (by rfl) (pe_callB call_len_seq rfl T.n_len boot_len (@pa_mor _ _ _ _ _ (by rfl) (pv 0) pa_nil)) pa_nil))) (pg_name (i:=3) S.nd rfl (Or.inl rfl))
        (@pss_one _ _ _ (@ps_if _ _ _ _ _ _ _ _ (@pt_cmpR _ _ _ _ _ _ _ _ op_ne (@pe_ix _ _ _ _ _ _ _ ix_list (@pe_ix _ _ _ _ _ _ _ ix_list (pv 0) (pv 3) (fun _ _=>rfl)) (pv 2) (fun _ _=>rfl)) pe_int (nomark _)) (@pss_one _ _ _ (@ps_ret _ _ _ _ (pv 3))) pss_nil)))
      (@pss_one _ _ _ (@ps_ret _ _ _ _ pe_non))),?_⟩
    obtain ⟨vs,ea,lv,fv⟩:=id hA
    refine ⟨_,rfl,_,rfl,a,vs,rfl,.inl (.of ea),(r:Int),(vs.length:Int),rfl,⟨by omega,by omega,by omega,by omega⟩,?_⟩
    rw [show ((vs.length:Int) - (r:Int)).toNat = n - r by omega]
    refine for_range (fun i σ Hc=>Hc = H∧(∃ v3:Option V,σ = [some (.ref a),some (.int (r:Int)),some (.int (c:Int)),v3])∧∀ s,r ≤ s→s < r + i→M s c = 0) ⟨rfl,⟨_,rfl⟩,fun s h1 h2=>by omega⟩ ?_ ?_
    · rintro i σ Hc hi ⟨rfl,⟨v3,rfl⟩,hz⟩
      have hp:r + i < vs.length:=by omega
      obtain ⟨x,ex,exl⟩:=fv (r + i) vs[r + i] (by simp [hp])
      refine ⟨_,rfl,_,rfl,a,vs,_,.ref x,rfl,rfl,.of ea,?_,_,rfl,x,_,_,_,rfl,rfl,.of exl,irow_at cW (M (r + i)),rfl,_,rfl,ite2 (fun h=>?_) (fun h=>?_)⟩
      · rw [show (r:Int) + (i:Int) = ((r + i:Nat):Int) by omega]
        exact atI_nat (by rw [← ex]; simp [hp])
      · have e:M (r + i) c ≠ 0:=by simpa using h
        have z:=k1 (r + i) (by omega) (by omega) e
        refine ⟨_,rfl,?_⟩
        rw [show (r:Int) + (i:Int) = ((r + i:Nat):Int) by omega]
        exact z
      · have e:M (r + i) c = 0:=by simpa using h
        refine ⟨rfl,⟨_,rfl⟩,fun s h1 h2=>?_⟩
        by_cases z:s = r + i
        · rw [z]; exact e
        · exact hz s h1 (by omega)
    · rintro σ Hc ⟨rfl,⟨v3,rfl⟩,hz⟩
      exact k2 fun s h1 h2=>hz s h1 (by omega)
theorem sc_swapped:FnScope ["rows","one","other","told"] ["rows","one","other"] (defScope s_swapped):=⟨rfl,rfl,rfl,by decide +kernel,rfl,by decide +kernel,by decide +kernel⟩
theorem ok_swapped (T:Txt K mg t):FnOk P w K mg base CX0 1 t.f_swapped t.d_swapped ["rows","one","other"] spSwap:=by
  have S:=sc_swapped
  refine T.F_swapped.ok S (fun vs H Q E h=>?_) (fun cdv A outer s H vs Q E hr h=>?_)
  · obtain ⟨a,l,n,W,r,s,M,rfl,_⟩:=h
    rfl
  · obtain ⟨a,l,n,W,r,s',M,rfl,hA,⟨ol,hl⟩,rn,sn,k⟩:=h
    refine ⟨_,(@pss_cons _ _ _ _ _ (@ps_put _ _ 3 _ _ _ _ (by rfl) (by first | exact .inl rfl | exact .inr rfl | assumption) S.nd rfl (Or.inl rfl) (pe_callTy call_list_of rfl T.n_list boot_list (@pa_mor _ _ _ _ _ (by rfl) (pv 0) pa_nil)))
      (@pss_cons _ _ _ _ _ (@ps_asg _ _ _ _ _ _ (@pe_ix _ _ _ _ _ _ _ ix_list (pv 0) (pv 2) (fun _ _=>rfl)) (pg_sub (pv 3) (pv 1) set_list) (by rfl) (by rfl) (by rfl))
      (@pss_cons _ _ _ _ _ (@ps_asg _ _ _ _ _ _ (@pe_ix _ _ _ _ _ _ _ ix_list (pv 0) (pv 1) (fun _ _=>rfl)) (pg_sub (pv 3) (pv 2) set_list) (by rfl) (by rfl) (by rfl))
      (@pss_one _ _ _ (@ps_ret _ _ _ _ (pv 3)))))),?_⟩
    obtain ⟨vs,ea,lv,al,fv⟩:=id hA
    have hr':r < vs.length:=by omega
    have hs':s' < vs.length:=by omega
    refine ⟨_,rfl,a,vs,rfl,.inl (.of ea),fun b nb=>?_⟩
    have s1:Same H (upd H b (.lst vs)):=same_upd nb
    have eb:upd H b (.lst vs) b = some (.lst vs):=upd_same
    have ab:a ≠ b:=fun e=>by rw [← e,ea] at nb; cases nb
    dsimp only [gName]
    generalize upd H b (.lst vs) = H1 at s1 eb ⊢
    refine ⟨_,rfl,_,rfl,a,vs,_,vs[s'],rfl,rfl,.of (s1 _ _ ea),atI_nat (by simp [hs']),_,rfl,_,rfl,b,vs,_,r,rfl,rfl,eb,(by unfold ixN; rw [if_pos (by omega),if_pos (by omega),Int.toNat_natCast]),?_⟩
    have s2:Same H (upd H1 b (.lst (vs.set r vs[s']))):=same_but s1 nb
    have eb2:upd H1 b (.lst (vs.set r vs[s'])) b = some (.lst (vs.set r vs[s'])):=upd_same
    dsimp only
    generalize upd H1 b (.lst (vs.set r vs[s'])) = H2 at s2 eb2 ⊢
    refine ⟨_,rfl,_,rfl,a,vs,_,vs[r],rfl,rfl,.of (s2 _ _ ea),atI_nat (by simp [hr']),_,rfl,_,rfl,b,vs.set r vs[s'],_,s',rfl,rfl,eb2,(by unfold ixN; rw [List.length_set,if_pos (by omega),if_pos (by omega),Int.toNat_natCast]),?_⟩
    have s3:Same H (upd H2 b (.lst ((vs.set r vs[s']).set s' vs[r]))):=same_but s2 nb
    refine ⟨_,rfl,k b _ s3 nb ⟨_,upd_same,by simp [lv],(fun e=>by rw [e,hl] at nb; cases nb),fun i v hv=>?_⟩⟩
    have pick:∀ j,(hj:j < vs.length)→∃ x:Addr,vs[j] = .ref x∧x ≠ b∧x ≠ l∧upd H2 b (.lst ((vs.set r vs[s']).set s' vs[r])) x = some (.lst (((List.range W).map (M j)).map V.int)):=fun j hj=>by
      obtain ⟨x,e1,_,nl,e2⟩:=fv j vs[j] (by simp [hj])
      exact ⟨x,e1,(fun e=>by rw [e,nb] at e2; cases e2),nl,s3 _ _ e2⟩
    unfold swapM
    by_cases z1:i = s'
    · subst z1
      rw [List.getElem?_set_self (by rw [List.length_set]; omega)] at hv
      cases hv
      rw [if_pos rfl]
      exact pick r hr'
    · rw [List.getElem?_set_ne (by omega)] at hv
      rw [if_neg z1]
      by_cases z2:i = r
      · subst z2
        rw [List.getElem?_set_self (by omega)] at hv
        cases hv
        rw [if_pos rfl]
        exact pick s' hs'
      · rw [List.getElem?_set_ne (by omega)] at hv
        rw [if_neg z2]
        obtain ⟨x,e1,_,nl,e2⟩:=fv i v hv
        exact ⟨x,e1,(fun e=>by rw [e,nb] at e2; cases e2),nl,s3 _ _ e2⟩
theorem sc_cleared:FnScope ["world","row","head","lead","last","much","less"] ["world","row","head","lead","last"] (defScope s_cleared):=⟨rfl,rfl,rfl,by decide +kernel,rfl,by decide +kernel,by decide +kernel⟩
theorem ok_cleared (T:Txt K mg t):FnOk P w K mg base CX0 1 t.f_cleared t.d_cleared ["world","row","head","lead","last"] (spClear t.C_World):=by
  have S:=sc_cleared
  refine T.F_cleared.ok S (fun vs H Q E h=>?_) (fun cdv A outer s H vs Q E hr h=>?_)
  · obtain ⟨z,a,b,q,last,W,c,f,g,e,rfl,_⟩:=h
    rfl
  · obtain ⟨z,a,b,q,last,W,c,f,g,e,rfl,⟨dx,hx⟩,hq,ea,eb,cW,w100,bd,ml,nl,h0,h1,k⟩:=h
    refine ⟨_,(@pss_cons _ _ _ _ _ (@ps_put _ _ 5 _ _ _ _ (by rfl) (by first | exact .inl rfl | exact .inr rfl | assumption) S.nd rfl (Or.inr rfl) (@pe_ix _ _ _ _ _ _ _ ix_list (pv 2) (pv 3) (fun _ _=>rfl)))
      (@pss_cons _ _ _ _ _ (@ps_put _ _ 6 _ _ _ _ (by rfl) (by first | exact .inl rfl | exact .inr rfl | assumption) S.nd rfl (Or.inr rfl) (@pe_ix _ _ _ _ _ _ _ ix_list (pv 1) (pv 3) (fun _ _=>rfl)))
      (@pss_cons _ _ _ _ _ (@ps_if _ _ _ _ _ _ _ _ (@pt_cmpR _ _ _ _ _ _ _ _ op_isN (@pe_fld _ _ _ _ _ (pv 0) rfl) pe_non (nomark _)) (@pss_one _ _ _ (@ps_ret _ _ _ _ (pe_comp2 (N:=["a","b","last","much","less"]) (ρ:=(fun σ=>[σ[4]?.join,σ[5]?.join,σ[6]?.join])) ⟨rfl,rfl,by decide +kernel,by decide +kernel,(List.forall_mem_cons.mpr ⟨rfl,(List.forall_mem_cons.mpr ⟨rfl,(List.forall_mem_cons.mpr ⟨rfl,(List.forall_mem_nil _)⟩)⟩)⟩),has_of (by rfl),rfl,rfl,by decide +kernel,rfl,rfl,(fun σ j v h=>match j,h with | 0,h=>⟨4,_,rfl,rfl,join_some h,Or.inr (Or.inl rfl),.inl rfl,.inl rfl⟩ | 1,h=>⟨5,_,rfl,rfl,join_some h,Or.inr (Or.inl rfl),.inl rfl,.inl rfl⟩ | 2,h=>⟨6,_,rfl,rfl,join_some h,Or.inr (Or.inl rfl),.inl rfl,.inl rfl⟩ | j + 3,h=>by cases h),(fun _ _=>rfl)⟩ rfl (pi_zip rfl T.n_zip (@pa_mor _ _ _ _ _ (by rfl) (pv 1) (@pa_mor _ _ _ _ _ (by rfl) (pv 2) pa_nil))) (fun s₃ H₃ fp=>.nil) (fun s₃ H₃ fp=>(@pe_op _ _ _ _ _ _ _ _ op_fdivM (@pe_op _ _ _ _ _ _ _ _ op_sub (@pe_op _ _ _ _ _ _ _ _ op_mulM (pv 3) (pv 0)) (@pe_op _ _ _ _ _ _ _ _ op_mulM (pv 4) (pv 1))) (pv 2)))))) pss_nil)
      (@pss_one _ _ _ (@ps_ret _ _ _ _ (pe_comp2 (N:=["a","b","world","much","less"]) (ρ:=(fun σ=>[σ[0]?.join,σ[5]?.join,σ[6]?.join])) ⟨rfl,rfl,by decide +kernel,by decide +kernel,(List.forall_mem_cons.mpr ⟨rfl,(List.forall_mem_cons.mpr ⟨rfl,(List.forall_mem_cons.mpr ⟨rfl,(List.forall_mem_nil _)⟩)⟩)⟩),has_of (by rfl),rfl,rfl,by decide +kernel,rfl,rfl,(fun σ j v h=>match j,h with | 0,h=>⟨0,_,rfl,rfl,join_some h,Or.inr (Or.inl rfl),.inl rfl,.inl rfl⟩ | 1,h=>⟨5,_,rfl,rfl,join_some h,Or.inr (Or.inl rfl),.inl rfl,.inl rfl⟩ | 2,h=>⟨6,_,rfl,rfl,join_some h,Or.inr (Or.inl rfl),.inl rfl,.inl rfl⟩ | j + 3,h=>by cases h),(fun _ _=>rfl)⟩ rfl (pi_zip rfl T.n_zip (@pa_mor _ _ _ _ _ (by rfl) (pv 1) (@pa_mor _ _ _ _ _ (by rfl) (pv 2) pa_nil))) (fun s₃ H₃ fp=>.nil) (fun s₃ H₃ fp=>(@pe_op _ _ _ _ _ _ _ _ op_mod (@pe_op _ _ _ _ _ _ _ _ op_sub (@pe_op _ _ _ _ _ _ _ _ op_mulM (pv 3) (pv 0)) (@pe_op _ _ _ _ _ _ _ _ op_mulM (pv 4) (pv 1))) (pe_fldK (K:=K) (pv 2) rfl))))))))),?_⟩
    refine ⟨_,rfl,_,rfl,b,_,_,_,rfl,rfl,.of eb,irow_at cW g,?_⟩
    dsimp only [gName]
    simp only [L2.start,List.length_cons,List.length_nil,List.map_cons,List.map_nil,List.replicate,List.cons_append,List.nil_append,List.set_cons_zero,List.set_cons_succ]
    refine ⟨_,rfl,_,rfl,a,_,_,_,rfl,rfl,.of ea,irow_at cW f,?_⟩
    dsimp only [gName]
    simp only [List.set_cons_zero,List.set_cons_succ]
    have inF:∀ x y,(x,y) ∈ ((List.range W).map f).zip ((List.range W).map g)→Mid x∧Mid y:=fun x y h=>by
      have m:=List.of_mem_zip h
      obtain ⟨k1,hk1,rfl⟩:=List.mem_map.mp m.1
      obtain ⟨k2,hk2,rfl⟩:=List.mem_map.mp m.2
      exact ⟨(bd k1 (List.mem_range.mp hk1)).1,(bd k2 (List.mem_range.mp hk2)).2⟩
    have mg':=(bd c cW).2
    have mf':=(bd c cW).1
    refine ⟨_,rfl,z,t.C_World,dx,_,_,rfl,hx,T.cl_World,T.na_World_prime,lk_prime _,rfl,_,rfl,?_⟩
    rcases id hq with rfl | ⟨q2,q3,q4⟩
    · rw [if_pos rfl]
      refine iteT (ret_of (comp2_intN (xs:=(List.range W).map f) (ys:=(List.range W).map g) (fun x y=>(g c * x - f c * y).fdiv last) (by simp; omega) (fun R h=>⟨_,rfl,_,rfl,a,b,rfl,⟨_,.of ea⟩,⟨_,.of eb⟩,h _ _ (Same.refl _) (jseq_zip (.of ea) (.of eb))⟩) ?_ ?_))
      · intro x y hxy Hc R sc kc
        obtain ⟨mx,my⟩:=inF x y hxy
        exact ⟨_,rfl,_,rfl,_,_,rfl,rfl,⟨mg',mx⟩,_,rfl,_,rfl,_,_,rfl,rfl,⟨mf',my⟩,_,_,rfl,rfl,_,rfl,_,_,rfl,rfl,⟨nl,ml⟩,kc Hc (Same.refl _)⟩
      · intro D Hc nD sc eD
        have ez:=zip_map_rng W f g (fun x y=>(g c * x - f c * y).fdiv last)
        rw [ez] at eD
        refine k D Hc sc nD ?_
        rw [eD]
        congr 3
        refine List.map_congr_left fun i hi=>?_
        rw [h0 rfl i (List.mem_range.mp hi)]
        exact Int.mul_fdiv_cancel_left _ nl
    · have hq0:q ≠ 0:=by omega
      rw [if_neg hq0] at hx ⊢
      refine iteF ?_
      dsimp only [tNext]
      refine ret_of (comp2_intN (xs:=(List.range W).map f) (ys:=(List.range W).map g) (fun x y=>(g c * x - f c * y) % q) (by simp; omega) (fun R h=>⟨_,rfl,_,rfl,a,b,rfl,⟨_,.of ea⟩,⟨_,.of eb⟩,h _ _ (Same.refl _) (jseq_zip (.of ea) (.of eb))⟩) ?_ ?_)
      · intro x y hxy Hc R sc kc
        obtain ⟨mx,my⟩:=inF x y hxy
        exact ⟨_,rfl,_,rfl,_,_,rfl,rfl,⟨mg',mx⟩,_,rfl,_,rfl,_,_,rfl,rfl,⟨mf',my⟩,_,_,rfl,rfl,_,rfl,z,t.C_World,dx,_,_,rfl,sc _ _ hx,T.cl_World,T.na_World_prime,lk_prime _,_,_,rfl,rfl,(show (0:Int) < q by omega),kc Hc (Same.refl _)⟩
      · intro D Hc nD sc eD
        have ez:=zip_map_rng W f g (fun x y=>(g c * x - f c * y) % q)
        rw [ez] at eD
        refine k D Hc sc nD ?_
        rw [eD]
        congr 3
        exact List.map_congr_left fun i hi=>(h1 hq0 i (List.mem_range.mp hi)).symm
theorem of_any10 {B:Nat} {H:Hp} {q a b:Int} {v:V} (ho:OfAt H q v a b) (hq:WheelN q) (nb:¬ q ∣ b) (ba:a.natAbs ≤ B) (bb:b.natAbs ≤ B):∃ p:Int × Int,NumAt B H q v p.1 p.2∧Weq q p (a,b):=by
  rcases ho with ⟨rfl,r,rfl,e⟩ | ⟨q2,r,rfl,r0,r1,er⟩
  · have hb:b ≠ 0:=fun z=>nb (z ▸ Int.dvd_refl 0)
    obtain ⟨l,w,b1,b2⟩:=low_fd (a:=a) hb
    exact ⟨(lowU a b,lowD a b),.frac e l (Nat.le_trans b1 ba) (Nat.le_trans b2 bb),⟨0,by dsimp only; omega⟩⟩
  · have q3:q ≤ 997:=by rcases hq with h | h <;> omega
    refine ⟨(r,1),.rem r0 r1 q3,?_⟩
    show q ∣ r * b - a * 1
    have h1:Cg q (r * (b % q)) a:=(cg_mod q _).symm.trans (er ▸ cg_mod q a)
    have h2:Cg q (r * b) (r * (b % q)):=((cg_mod q b).mulL r).symm
    have h3:=h2.trans h1
    rw [Int.mul_one]
    exact h3
theorem sc_row_over:FnScope ["world","row","lead"] ["world","row","lead"] (defScope s_row_over):=⟨rfl,rfl,rfl,by decide +kernel,rfl,by decide +kernel,by decide +kernel⟩
theorem ok_row_over (T:Txt K mg t):FnOk P w K mg base CX0 4 t.f_row_over t.d_row_over ["world","row","lead"] (spRowOver10 t.C_World):=by
  have S:=sc_row_over
  have G_World_of:=ok_of (P:=P) (w:=w) (base:=base) T
  refine T.F_row_over.ok S (fun vs H Q E h=>?_) (fun cdv A outer s H vs Q E hr h=>?_)
  · obtain ⟨z,a,q,W,c,f,B,rfl,_⟩:=h
    rfl
  · obtain ⟨z,a,q,W,c,f,B,rfl,⟨dz,hd⟩,hq,ea,cW,w100,nb,mb,bd,k⟩:=h
    refine ⟨_,(@pss_one _ _ _ (@ps_ret _ _ _ _ (pe_comp (N:=["number","world","row","lead"]) (ρ:=(fun σ=>[σ[0]?.join,σ[1]?.join,σ[2]?.join])) ⟨rfl,rfl,by decide +kernel,by decide +kernel,(List.forall_mem_cons.mpr ⟨rfl,(List.forall_mem_cons.mpr ⟨rfl,(List.forall_mem_cons.mpr ⟨rfl,(List.forall_mem_nil _)⟩)⟩)⟩),has_of (by rfl),rfl,by decide +kernel,rfl,(fun σ j v h=>match j,h with | 0,h=>⟨0,_,rfl,rfl,join_some h,Or.inr (Or.inl rfl),.inl rfl,.inl rfl⟩ | 1,h=>⟨1,_,rfl,rfl,join_some h,Or.inr (Or.inl rfl),.inl rfl,.inl rfl⟩ | 2,h=>⟨2,_,rfl,rfl,join_some h,Or.inr (Or.inl rfl),.inl rfl,.inl rfl⟩ | j + 3,h=>by cases h),(fun _ _=>rfl)⟩ rfl (pi_list (pv 1)) (fun s₃ H₃ fp=>.nil) (fun s₃ H₃ fp=>(pe_meth (pv 1) T.cl_World T.m_World_of G_World_of (hr.mono (by decide)) T.b_World_of .nil passN (@pa_mor _ _ _ _ _ (by rfl) (pv 0) (@pa_mor _ _ _ _ _ (by rfl) (@pe_ix _ _ _ _ _ _ _ (ix_listK (K:=K)) (pv 2) (pv 3) (fun _ _=>rfl)) pa_nil))))))),?_⟩
    refine ret_of (comp_ofN (xs:=((List.range W).map f).map V.int) (fun R h=>⟨_,rfl,a,rfl,⟨_,.of ea⟩,h _ _ (Same.refl _) (jseq_list (.of ea))⟩) (by rw [List.length_map,List.length_map,List.length_range]; exact small1000 (by omega)) (fun _ i y Hx=>∃ p:Int × Int,NumAt B Hx q y p.1 p.2∧Weq q p (f i,f c)) (fun _ _ _ _ _ _ ⟨p,h0,h1⟩ e f=>⟨p,h0.far e f,h1⟩) ?_ ?_)
    · intro D i v hi Hc R sc _ kc
      have hi':i < W:=by
        have:=(List.getElem?_eq_some_iff.mp hi).1
        simpa using this
      have ev:v = .int (f i):=by
        rw [List.getElem?_map,List.getElem?_map] at hi
        simp [hi'] at hi
        exact hi.symm
      subst ev
      exact ⟨_,rfl,z,dz,_,rfl,sc _ _ hd,lk_no (by decide +kernel),_,rfl,_,rfl,_,rfl,a,_,_,_,rfl,rfl,.of (sc _ _ ea),irow_at cW f,z,q,f i,f c,rfl,⟨dz,sc _ _ hd⟩,hq,mb,fun h=>absurd h (no_ov nb),fun _ v' H' s' ho=>kc v' H' s' (of_any10 ho hq nb (bd i hi') (bd c cW))⟩
    · intro D ys Hc nD sc hys hP eD
      obtain ⟨ps,lp,hp⟩:=pick (R:=fun i y p=>NumAt B Hc q y (Prod.fst p) (Prod.snd p)∧Weq q p (f i,f c)) hP
      rw [List.length_map,List.length_map,List.length_range] at hys
      refine k D ps Hc sc nD ⟨ys,eD,lp.symm,fun i v p h1 h2=>(hp i v p h1 h2).1⟩ (by omega) fun i hi=>?_
      have i1:i < ys.length:=by omega
      have i2:i < ps.length:=by omega
      rw [getD_at i2]
      exact (hp i ys[i] ps[i] (by simp [i1]) (by simp [i2])).2
theorem sc_one_bottom:FnScope ["row","bottom","number"] ["row"] (defScope s_one_bottom):=⟨rfl,rfl,rfl,by decide +kernel,rfl,by decide +kernel,by decide +kernel⟩
theorem ok_one_bottom (T:Txt K mg t):FnOk P w K mg base CX0 2 t.f_one_bottom t.d_one_bottom ["row"] spWh2:=by
  have S:=sc_one_bottom
  have G_common_divisor:=ok_common_divisor (P:=P) (w:=w) (base:=base) T
  refine T.F_one_bottom.ok S (fun vs H Q E h=>?_) (fun cdv A outer s H vs Q E hr h=>?_)
  · obtain ⟨a,ps,B,D,rfl,_⟩:=h
    rfl
  · obtain ⟨a,ps,B,D,rfl,⟨vs,ea,hl,hn⟩,h100,okD,hD,hB,bD,k⟩:=h
    refine ⟨_,(@pss_cons _ _ _ _ _ (@ps_put _ _ 1 _ _ _ _ (by rfl) (by first | exact .inl rfl | exact .inr rfl | assumption) S.nd rfl (Or.inr rfl) pe_int)
      (@pss_cons _ _ _ _ _ (ps_for PassesOwn.never rfl (pi_list (pv 0)) (pg_name (i:=2) S.nd rfl (Or.inl rfl))
        (@pss_one _ _ _ (@ps_put _ _ 1 _ _ _ _ (by rfl) (by first | exact .inl rfl | exact .inr rfl | assumption) S.nd rfl (Or.inr rfl) (@pe_op _ _ _ _ _ _ _ _ op_mulM (@pe_op _ _ _ _ _ _ _ _ op_fdivP (pv 1) (pe_call G_common_divisor (hr.mono (by decide)) rfl T.mg_common_divisor T.F_common_divisor.kp T.b_common_divisor .nil pass0 (@pa_mor _ _ _ _ _ (by rfl) (pv 1) (@pa_mor _ _ _ _ _ (by rfl) (@pe_ix _ _ _ _ _ _ _ ix_tup (pv 2) pe_int (fun _ _=>rfl)) pa_nil)))) (@pe_ix _ _ _ _ _ _ _ ix_tup (pv 2) pe_int (fun _ _=>rfl))))))
      (@pss_one _ _ _ (@ps_ret _ _ _ _ (@pe_tup _ _ _ _ _ (@pa_mor _ _ _ _ _ (by rfl) (pe_comp (N:=["number","bottom"]) (ρ:=(fun σ=>[σ[1]?.join])) ⟨rfl,rfl,by decide +kernel,by decide +kernel,(List.forall_mem_cons.mpr ⟨rfl,(List.forall_mem_nil _)⟩),has_of (by rfl),rfl,by decide +kernel,rfl,(fun σ j v h=>match j,h with | 0,h=>⟨1,_,rfl,rfl,join_some h,Or.inr (Or.inl rfl),.inl rfl,.inl rfl⟩ | j + 1,h=>by cases h),(fun _ _=>rfl)⟩ rfl (pi_list (pv 0)) (fun s₃ H₃ fp=>.nil) (fun s₃ H₃ fp=>(@pe_op _ _ _ _ _ _ _ _ op_mulM (@pe_ix _ _ _ _ _ _ _ (ix_tupK (K:=K)) (pv 0) pe_int (fun _ _=>rfl)) (@pe_op _ _ _ _ _ _ _ _ op_fdivP (pv 1) (@pe_ix _ _ _ _ _ _ _ (ix_tupK (K:=K)) (pv 0) pe_int (fun _ _=>rfl)))))) (@pa_mor _ _ _ _ _ (by rfl) (pv 1) pa_nil))))))),?_⟩
    have D1:=okD.1 rfl
    have parts:∀ (i:Nat) (v:V),vs[i]? = some v→∃ (r:Addr) (x m:Int),v = .ref r∧H r = some (.tup [.int x,.int m])∧ps[i]? = some (x,m)∧Low x m∧x.natAbs ≤ B∧m ∣ D:=fun i v e=>by
      have hi:i < ps.length:=by rw [← hl]; exact (List.getElem?_eq_some_iff.mp e).1
      have ep:ps[i]? = some ps[i]:=by simp [hi]
      have h1:=hn i v ps[i] e ep
      have h2:=hD _ (List.getElem_mem hi)
      generalize ps[i] = p at h1 ep h2
      obtain ⟨x,m⟩:=p
      cases h1 with
      | frac er l bx bm=>exact ⟨_,x,m,rfl,er,ep,l,bx,h2⟩
      | rem h0 h1 h2=>omega
    have midV:∀ {y:Int},y ∣ D→Mid y:=fun h=>Mid.of150 (Nat.le_trans (dvd_bd h (by omega)) bD)
    refine ⟨_,rfl,a,rfl,⟨_,.of ea⟩,?_⟩
    refine for_list (K:=K) (a:=a) (xs:=vs) (fun i σ Hc=>Hc = H∧∃ (b:Int) (v2:Option V),σ = [some (.ref a),some (.int b),v2]∧1 ≤ b∧b ∣ D∧∀ (j:Nat) (p:Int × Int),j < i→ps[j]? = some p→p.2 ∣ b)
      ⟨rfl,1,none,rfl,by decide,Int.one_dvd D,fun j p hj=>by omega⟩ (fun i σ Hc _ ⟨z,_⟩=>by rw [z]; exact .of ea) ?_ ?_
    · rintro i v σ Hc hi ⟨rfl,b,v2,rfl,b1,bb,hd⟩
      obtain ⟨r,x,m,rfl,er,ep,l,bx,bm⟩:=parts i v hi
      have m1:=l.pos
      obtain ⟨s1,s2,s3,s4⟩:=lcm_step b1 m1
      have gp:=gcd_pos (a:=b) (b:=m) (by omega)
      have gm:Mid (Int.gcd b m:Int):=midV (Int.dvd_trans (Int.gcd_dvd_right ..) bm)
      refine ⟨_,rfl,_,rfl,_,rfl,r,_,_,_,rfl,rfl,.of er,rfl,b,m,rfl,midV bm,_,_,rfl,rfl,⟨by omega,gm⟩,_,rfl,r,_,_,_,rfl,rfl,.of er,rfl,_,_,rfl,rfl,⟨?_,midV bm⟩,?_⟩
      · exact Nat.lt_of_le_of_lt (Int.natAbs_ediv_le_natAbs ..) (midV bb)
      · refine ⟨rfl,_,_,rfl,s1,lcm_dvd b1 m1 bb bm,fun j p hj hp=>?_⟩
        by_cases z:j = i
        · subst z
          rw [ep] at hp
          cases hp
          exact s2
        · exact Int.dvd_trans (hd j p (by omega) hp) s3
    · rintro σ Hc ⟨rfl,b,v2,rfl,b1,bb,hd⟩
      rw [hl] at hd
      have mb:Mid b:=midV bb
      dsimp only
      refine ret_of (tup1_of (comp_ofN (xs:=vs) (fun R h=>⟨_,rfl,a,rfl,⟨_,.of ea⟩,h _ _ (Same.refl _) (jseq_list (.of ea))⟩) (by rw [hl]; exact small1000 (by omega)) (fun _ i y _=>∃ (p:Int × Int),ps[i]? = some p∧y = .int (p.1 * (b / p.2))) (fun _ _ _ _ _ _ h _ _=>h) ?_ ?_))
      · intro D' i v hi Hd R sd _ kd
        obtain ⟨r,x,m,rfl,er,ep,l,bx,bm⟩:=parts i v hi
        have m1:=l.pos
        have hbm:Mid (b / m):=Nat.lt_of_le_of_lt (Int.natAbs_ediv_le_natAbs ..) mb
        exact ⟨_,rfl,r,_,_,_,rfl,rfl,.of (sd _ _ er),rfl,_,rfl,_,rfl,r,_,_,_,rfl,rfl,.of (sd _ _ er),rfl,_,_,rfl,rfl,⟨by omega,midV bm⟩,_,_,rfl,rfl,⟨Mid.of150 (Nat.le_trans bx hB),hbm⟩,kd _ Hd (Same.refl _) ⟨(x,m),ep,rfl⟩⟩
      · intro D' ys Hd nD sd hys hP eD
        have ey:ys = (ps.map fun p=>p.1 * (b / p.2)).map V.int:=vals_of (by rw [hys,hl,List.length_map]) fun i v e=>by
          obtain ⟨p,e1,e2⟩:=hP i v e
          exact ⟨p.1 * (b / p.2),by rw [List.getElem?_map,e1]; rfl,e2⟩
        refine ⟨_,rfl,by show 2 ≤ sizeLine; decide,fun r hr'=>?_⟩
        refine k _ _ (ps.map fun p=>p.1 * (b / p.2)) b (sd.trans (same_upd hr')) ⟨r,D',rfl,upd_same,same_upd hr' _ _ (by rw [eD,ey]),nD⟩ ⟨by rw [List.length_map],⟨fun _=>b1,fun z=>absurd rfl z⟩,bb,fun i hi=>?_⟩
        have hi2:i < vs.length:=by omega
        have e1:(ps.map fun p=>p.1 * (b / p.2)).getD i 0 = ps[i].1 * (b / ps[i].2):=by rw [getD_at (by rw [List.length_map]; exact hi),List.getElem_map]
        rw [e1,getD_at hi]
        obtain ⟨r',x,m,_,_,ep,l,bx,bm⟩:=parts i vs[i] (by simp [hi2])
        have ep2:ps[i] = (x,m):=by
          rw [show ps[i]? = some ps[i] by simp [hi]] at ep
          exact Option.some.inj ep
        rw [ep2]
        dsimp only
        have m1:=l.pos
        obtain ⟨c,ec⟩:=hd i (x,m) hi (by rw [← ep2]; simp [hi])
        dsimp only at ec
        have eq:b / m = c:=by rw [ec]; exact Int.mul_ediv_cancel_left _ (by omega)
        refine ⟨by rw [eq,ec]; grind,?_⟩
        rw [Int.natAbs_mul]
        exact Nat.mul_le_mul bx (Nat.le_trans (Int.natAbs_ediv_le_natAbs ..) (dvd_bd bb (by omega)))
theorem sc_as_wholes:FnScope ["self","row"] ["self","row"] (defScope s_World_as_wholes):=⟨rfl,rfl,rfl,by decide +kernel,rfl,by decide +kernel,by decide +kernel⟩
theorem ok_as_wholes (T:Txt K mg t):FnOk P w K mg base CX0 3 t.f_World_as_wholes t.d_World_as_wholes ["self","row"] (spAsW2 t.C_World):=by
  have S:=sc_as_wholes
  have G_one_bottom:=ok_one_bottom (P:=P) (w:=w) (base:=base) T
  refine T.F_World_as_wholes.ok S (fun vs H Q E h=>?_) (fun cdv A outer s H vs Q E hr h=>?_)
  · obtain ⟨z,a,q,ps,B,D,rfl,_⟩:=h
    rfl
  · obtain ⟨z,a,q,ps,B,D,rfl,⟨dx,hx⟩,hq,hrow,h100,okD,hD,hB,b1,bD,k⟩:=h
    refine ⟨_,(@pss_cons _ _ _ _ _ (@ps_if _ _ _ _ _ _ _ _ (@pt_cmpR _ _ _ _ _ _ _ _ op_isN (@pe_fld _ _ _ _ _ (pv 0) rfl) pe_non (nomark _)) (@pss_one _ _ _ (@ps_ret _ _ _ _ (pe_call G_one_bottom (hr.mono (by decide)) rfl T.mg_one_bottom T.F_one_bottom.kp T.b_one_bottom .nil pass0 (@pa_mor _ _ _ _ _ (by rfl) (pv 1) pa_nil)))) pss_nil)
      (@pss_one _ _ _ (@ps_ret _ _ _ _ (@pe_tup _ _ _ _ _ (@pa_mor _ _ _ _ _ (by rfl) (pe_callTy call_list_of rfl T.n_list boot_list (@pa_mor _ _ _ _ _ (by rfl) (pv 1) pa_nil)) (@pa_mor _ _ _ _ _ (by rfl) pe_int pa_nil)))))),?_⟩
    refine ⟨_,rfl,z,t.C_World,dx,_,_,rfl,hx,T.cl_World,T.na_World_prime,lk_prime _,rfl,_,rfl,?_⟩
    rcases hq with rfl | ⟨q2,q3,q4⟩
    · rw [if_pos rfl]
      exact iteT ⟨_,rfl,a,ps,B,D,rfl,hrow,h100,okD,hD,hB,bD,k⟩
    · have hq:q ≠ 0:=by omega
      rw [if_neg hq] at hx ⊢
      obtain ⟨vs,ea,hl,hn⟩:=hrow
      have parts:∀ (i:Nat) (v:V),vs[i]? = some v→∃ x:Int,v = .int x∧ps[i]? = some (x,1)∧0 ≤ x∧x < q:=fun i v e=>by
        have hi:i < ps.length:=by rw [← hl]; exact (List.getElem?_eq_some_iff.mp e).1
        have ep:ps[i]? = some ps[i]:=by simp [hi]
        have h1:=hn i v ps[i] e ep
        generalize ps[i] = p at h1 ep
        obtain ⟨x,m⟩:=p
        cases h1 with
        | frac er l bx bm=>exact absurd rfl hq
        | rem h0 h1 h2=>exact ⟨x,rfl,ep,h0,h1⟩
      have ey:vs = (ps.map fun p=>p.1).map V.int:=vals_of (by rw [hl,List.length_map]) fun i v e=>by
        obtain ⟨x,e1,e2,_⟩:=parts i v e
        exact ⟨x,by rw [List.getElem?_map,e2]; rfl,e1⟩
      have eD:=okD.2 hq
      refine iteF ⟨_,rfl,a,vs,rfl,.inl (.of ea),fun l nl=>⟨by show 2 ≤ sizeLine; decide,fun r hr'=>?_⟩⟩
      refine k _ _ (ps.map fun p=>p.1) 1 ((same_upd nl).trans (same_upd hr')) ⟨r,l,rfl,upd_same,same_upd hr' _ _ (by rw [upd_same,ey]),nl⟩ ⟨by rw [List.length_map],BotOk.one,Int.one_dvd D,fun i hi=>?_⟩
      have hi2:i < vs.length:=by omega
      rw [getD_at (by rw [List.length_map]; exact hi),List.getElem_map,getD_at hi]
      obtain ⟨x,_,ep,x0,x1⟩:=parts i vs[i] (by simp [hi2])
      have ep2:ps[i] = (x,1):=by
        rw [show ps[i]? = some ps[i] by simp [hi]] at ep
        exact Option.some.inj ep
      rw [ep2]
      refine ⟨rfl,?_⟩
      rw [eD]
      show x.natAbs ≤ B * 1
      omega
theorem sc_width:FnScope ["table","wide"] ["table"] (defScope s_width):=⟨rfl,rfl,rfl,by decide +kernel,rfl,by decide +kernel,by decide +kernel⟩
theorem ok_width (T:Txt K mg t):FnOk P w K mg base (CXF P w) 1 t.f_width t.d_width ["table"] (spWidthB t.C_NoFit):=by
  have S:=sc_width
  refine T.F_width.okX S (fun vs H Q E h=>?_) (fun cdv A outer s H vs Q E hr h L=>?_)
  · obtain ⟨a,q,B,pss,m,rfl,_⟩:=h
    rfl
  · obtain ⟨a,q,B,pss,m,rfl,⟨vs,ea,hl,hn⟩,h1,h40,hm,k⟩:=h
    refine ⟨_,(@pss_cons _ _ _ _ _ (@ps_if _ _ _ _ _ _ _ _ (@pt_cmpR _ _ _ _ _ _ _ _ op_eq (pe_callB call_len_seq rfl T.n_len boot_len (@pa_mor _ _ _ _ _ (by rfl) (pv 0) pa_nil)) pe_int (nomark _)) (@pss_one _ _ _ (@ps_ret _ _ _ _ pe_int)) pss_nil)
      (@pss_cons _ _ _ _ _ (@ps_put _ _ 1 _ _ _ _ (by rfl) (by first | exact .inl rfl | exact .inr rfl | assumption) S.nd rfl (Or.inr rfl) (pe_callB call_len_seq rfl T.n_len boot_len (@pa_mor _ _ _ _ _ (by rfl) (@pe_ix _ _ _ _ _ _ _ ix_list (pv 0) pe_int (fun _ _=>rfl)) pa_nil)))
      (@pss_cons _ _ _ _ _ (@ps_if _ _ _ _ _ _ _ _ (pt_val (pe_callB (call_any (K:=K) rfl) rfl T.n_any boot_any (@pa_mor _ _ _ _ _ (by rfl) (pe_comp (N:=["row","wide"]) (ρ:=(fun σ=>[σ[1]?.join])) ⟨rfl,rfl,by decide +kernel,by decide +kernel,(List.forall_mem_cons.mpr ⟨rfl,(List.forall_mem_nil _)⟩),has_of (by rfl),rfl,by decide +kernel,rfl,(fun σ j v h=>match j,h with | 0,h=>⟨1,_,rfl,rfl,join_some h,Or.inr (Or.inl rfl),.inl rfl,.inl rfl⟩ | j + 1,h=>by cases h),(fun _ _=>rfl)⟩ rfl (pi_list (pv 0)) (fun s₃ H₃ fp=>.nil) (fun s₃ H₃ fp=>(@pe_cmpR _ _ _ _ _ _ _ _ op_ne (pe_callB (call_len_seqK (K:=K)) rfl T.n_len boot_len (@pa_mor _ _ _ _ _ (by rfl) (pv 0) pa_nil)) (pv 1) (nomark _)))) pa_nil))) (@pss_one _ _ _ (ps_raise L rfl PySem.F.excBase_ValueError T.x_NoFit rfl T.mg_NoFit (@pa_mor _ _ _ _ _ (by rfl) pe_str pa_nil))) pss_nil)
      (@pss_one _ _ _ (@ps_ret _ _ _ _ (pv 1)))))),?_⟩
    have h0:0 < vs.length:=by omega
    refine ⟨_,rfl,a,vs,rfl,.inl (.of ea),rfl,false,by rw [dV_int,decide_eq_false (by omega)],iteF ?_⟩
    have hp0:0 < pss.length:=by omega
    obtain ⟨r,er,us,eu,lu,_⟩:=hn 0 vs[0] pss[0] (by simp [h0]) (by simp [hp0])
    have hm0:=hm pss[0] (List.getElem_mem ..)
    refine ⟨_,rfl,a,vs,_,vs[0],rfl,rfl,.of ea,(by exact atI_nat (j:=0) (by simp [h0])),r,us,by rw [er],.inl (.of eu),?_⟩
    have em:(us.length:Int) = (m:Int):=by omega
    rw [em]
    dsimp only [gName]
    have all_m:∀ (i:Nat) (v:V),vs[i]? = some v→∃ (r:Addr) (us:List V),v = .ref r∧H r = some (.lst us)∧us.length = m:=fun i v e=>by
      have hi':i < pss.length:=by rw [← hl]; exact (List.getElem?_eq_some_iff.mp e).1
      obtain ⟨r,e1,us,e2,e3,_⟩:=hn i v pss[i] e (by simp [hi'])
      exact ⟨r,us,e1,e2,by rw [e3]; exact hm _ (List.getElem_mem ..)⟩
    refine seq_of (ifs_of (tb_of (cb_of (comp_of (xs:=vs) (fun R h=>⟨_,rfl,a,rfl,⟨_,.of ea⟩,h _ _ (Same.refl _) (jseq_list (.of ea))⟩) (by rw [hl]; exact small1000 (by omega)) (fun _ i y _=>y = .bl false) (fun _ _ _ _ _ _ h _ _=>h) ?_ ?_))))
    · intro D i v hi Hc R sc _ kc
      obtain ⟨r',us',rfl,e2,e3⟩:=all_m i v hi
      refine ⟨_,rfl,r',us',rfl,.inl (.of (sc _ _ e2)),_,rfl,rfl,?_⟩
      have zz:(!decide (V.int (us'.length:Int) = V.int (m:Int))) = false:=by rw [dV_int,decide_eq_true (by omega)]; rfl
      rw [zz]
      exact kc _ Hc (Same.refl _) rfl
    · intro D ys Hc sc hys hP eD
      refine ⟨D,List.replicate ys.length false,rfl,.of (by rw [eD]; exact congrArg _ (congrArg _ (bls_of hP))),false,by rw [any_no],iteF ?_⟩
      exact ⟨_,rfl,k Hc sc⟩
theorem sc_one_table_row:FnScope ["world","n","place","row"] ["world","n","place"] (defScope s_one_table_row):=⟨rfl,rfl,rfl,by decide +kernel,rfl,by decide +kernel,by decide +kernel⟩
theorem ok_one_table_row (T:Txt K mg t):FnOk P w K mg base CX0 4 t.f_one_table_row t.d_one_table_row ["world","n","place"] (spOTRow6 t.C_World):=by
  have S:=sc_one_table_row
  have G_World_of:=ok_of (P:=P) (w:=w) (base:=base) T
  obtain ⟨dv,hd1,hb1⟩:=T.b1_World_of
  refine T.F_one_table_row.ok S (fun vs H Q E h=>?_) (fun cdv A outer s H vs Q E hr h=>?_)
  · obtain ⟨z,q,n,i,rfl,_⟩:=h
    rfl
  · obtain ⟨z,q,n,i,rfl,⟨dz,hd⟩,hq,n4,hi,k⟩:=h
    refine ⟨_,(@pss_cons _ _ _ _ _ (@ps_put _ _ 3 _ _ _ _ (by rfl) (by first | exact .inl rfl | exact .inr rfl | assumption) S.nd rfl (Or.inl rfl) (@pe_op _ _ _ _ _ _ _ _ op_rep (@pe_lst _ _ _ _ (@pa_mor _ _ _ _ _ (by rfl) (pe_meth (pv 0) T.cl_World T.m_World_of G_World_of (hr.mono (by decide)) hb1 hd1 passN (@pa_mor _ _ _ _ _ (by rfl) pe_int pa_nil)) pa_nil)) (pv 1)))
      (@pss_cons _ _ _ _ _ (@ps_asg _ _ _ _ _ _ (pe_meth (pv 0) T.cl_World T.m_World_of G_World_of (hr.mono (by decide)) hb1 hd1 passN (@pa_mor _ _ _ _ _ (by rfl) pe_int pa_nil)) (pg_sub (pv 3) (pv 2) set_list) (by rfl) (by rfl) (by rfl))
      (@pss_one _ _ _ (@ps_ret _ _ _ _ (pv 3))))),?_⟩
    have nv:=one_noOv hq
    refine ⟨_,rfl,z,dz,_,rfl,hd,lk_no (by decide +kernel),z,q,0,1,rfl,⟨dz,hd⟩,hq,Mid.of_lt (by decide) (by decide),fun h=>absurd h nv,fun _ v0 H1 s1 ho=>?_⟩
    refine ⟨by show 1 ≤ sizeLine; decide,fun l nl=>?_⟩
    have sl:Same H1 (upd H1 l (.lst [v0])):=same_upd nl
    have el:upd H1 l (.lst [v0]) l = some (.lst [v0]):=upd_same
    have h0:=of_small (B:=10 ^ 60) (by decide) (ho.mono sl) hq (.inl rfl)
    generalize upd H1 l (.lst [v0]) = H2 at sl el h0 ⊢
    refine ⟨_,rfl,l,(n:Int),[v0],rfl,rfl,el,by omega,by omega,?_,fun r nr=>?_⟩
    · rw [Int.toNat_natCast]
      exact Nat.le_trans (show [v0].length * n ≤ 40 by simp; exact n4) (by decide)
    rw [Int.toNat_natCast,show (List.replicate n [v0]).flatten = List.replicate n v0 by induction n with
      | zero=>rfl
      | succ n ih=>simp [List.replicate_succ]]
    have sr:Same H2 (upd H2 r (.lst (List.replicate n v0))):=same_upd nr
    have er:upd H2 r (.lst (List.replicate n v0)) r = some (.lst (List.replicate n v0)):=upd_same
    have h0:=h0.mono sr
    generalize upd H2 r (.lst (List.replicate n v0)) = H3 at sr er h0 ⊢
    have s3:=s1.trans (sl.trans sr)
    refine ⟨_,rfl,z,dz,_,rfl,s3 _ _ hd,lk_no (by decide +kernel),z,q,1,1,rfl,⟨dz,s3 _ _ hd⟩,hq,Mid.of_lt (by decide) (by decide),fun h=>absurd h nv,fun _ v1 H4 s4 ho1=>?_⟩
    have h1:=of_small (B:=10 ^ 60) (by decide) ho1 hq (.inr rfl)
    refine ⟨_,rfl,_,rfl,r,_,_,i,rfl,rfl,s4 _ _ er,?_,?_⟩
    · unfold ixN
      rw [if_pos (by omega),if_pos (by simp; exact hi),Int.toNat_natCast]
    have nr1:H1 r = none:=none_of sl nr
    refine ⟨_,rfl,k r _ (same_but (s3.trans s4) (none_of s1 nr1)) (none_of s1 nr1) ⟨_,upd_same,by simp [unitRow],fun j v p hv hp=>?_⟩⟩
    have far:∀ b o,b ≠ r→H4 b = some o→upd H4 r (.lst ((List.replicate n v0).set i v1)) b = some o:=fun b o nb e=>by rw [upd_ne nb]; exact e
    have hj:j < n:=by
      have:=(List.getElem?_eq_some_iff.mp hv).1
      simpa using this
    unfold unitRow at hp
    rw [List.getElem?_map] at hp
    simp [hj] at hp
    by_cases z:j = i
    · subst z
      rw [if_pos rfl] at hp
      have ev:v1 = v:=by
        rw [List.getElem?_set_self (by simpa using hj)] at hv
        exact Option.some.inj hv
      subst ev hp
      exact h1.far (s4 _ _ er) far
    · rw [if_neg z] at hp
      have ev:v0 = v:=by
        rw [List.getElem?_set_ne (by omega)] at hv
        simpa [hj] using hv
      subst ev hp
      exact (h0.mono s4).far (s4 _ _ er) far
theorem sc_square_size:FnScope ["table"] ["table"] (defScope s_square_size):=⟨rfl,rfl,rfl,by decide +kernel,rfl,by decide +kernel,by decide +kernel⟩
theorem ok_square_size (T:Txt K mg t):FnOk P w K mg base (CXF P w) 2 t.f_square_size t.d_square_size ["table"] (spSquareB t.C_NoFit):=by
  have S:=sc_square_size
  have G_width:=ok_width (P:=P) (w:=w) (base:=base) T
  refine T.F_square_size.okX S (fun vs H Q E h=>?_) (fun cdv A outer s H vs Q E hr h L=>?_)
  · obtain ⟨a,q,B,pss,m,rfl,_⟩:=h
    rfl
  · obtain ⟨a,q,B,pss,m,rfl,hA,h1,h40,hm,kE,k⟩:=h
    refine ⟨_,(@pss_cons _ _ _ _ _ (@ps_if _ _ _ _ _ _ _ _ (@pt_cmpR _ _ _ _ _ _ _ _ op_ne (pe_call G_width (hr.mono (by decide)) rfl T.mg_width T.F_width.kp T.b_width .nil (passF L) (@pa_mor _ _ _ _ _ (by rfl) (pv 0) pa_nil)) (pe_callB call_len_seq rfl T.n_len boot_len (@pa_mor _ _ _ _ _ (by rfl) (pv 0) pa_nil)) (nomark _)) (@pss_one _ _ _ (ps_raise L rfl PySem.F.excBase_ValueError T.x_NoFit rfl T.mg_NoFit (@pa_mor _ _ _ _ _ (by rfl) pe_str pa_nil))) pss_nil)
      (@pss_one _ _ _ (@ps_ret _ _ _ _ (pe_callB call_len_seq rfl T.n_len boot_len (@pa_mor _ _ _ _ _ (by rfl) (pv 0) pa_nil))))),?_⟩
    refine ⟨_,rfl,a,q,B,pss,m,rfl,hA,h1,h40,hm,fun H1 s1=>?_⟩
    obtain ⟨vs,ea,lv,_⟩:=id (hA.mono s1)
    refine ⟨_,rfl,a,vs,rfl,.inl (.of ea),rfl,_,rfl,ite2 (fun hne=>?_) (fun hne=>?_)⟩
    · have hne:m ≠ pss.length:=fun z=>by
        have:(m:Int) = (vs.length:Int):=by omega
        rw [dV_int,decide_eq_true this] at hne
        cases hne
      exact ⟨by show 1 ≤ sizeLine; decide,kE hne H1 s1⟩
    · have heq:m = pss.length:=by
        by_cases z:(m:Int) = (vs.length:Int)
        · omega
        · exact absurd (by rw [dV_int,decide_eq_false z]; rfl) hne
      have z:=k heq H1 s1
      dsimp only [tNext]
      refine ⟨_,rfl,a,vs,rfl,.inl (.of ea),?_⟩
      rw [show (vs.length:Int) = (m:Int) by omega]
      exact z
theorem sc_beside:FnScope ["table","other"] ["table","other"] (defScope s_beside):=⟨rfl,rfl,rfl,by decide +kernel,rfl,by decide +kernel,by decide +kernel⟩
theorem ok_beside (T:Txt K mg t):FnOk P w K mg base CX0 1 t.f_beside t.d_beside ["table","other"] spBesideB:=by
  have S:=sc_beside
  refine T.F_beside.ok S (fun vs H Q E h=>?_) (fun cdv A outer s H vs Q E hr h=>?_)
  · obtain ⟨a,b,q,B,pss,rss,m,u,rfl,_⟩:=h
    rfl
  · obtain ⟨a,b,q,B,pss,rss,m,u,rfl,hA,hB,ln,n40,hm,hu,m40,u40,k⟩:=h
    refine ⟨_,(@pss_one _ _ _ (@ps_ret _ _ _ _ (pe_comp2 (N:=["row","more"]) (ρ:=(fun σ=>[])) ⟨rfl,rfl,by decide +kernel,by decide +kernel,(List.forall_mem_nil _),has_of (by rfl),rfl,rfl,by decide +kernel,rfl,rfl,(fun σ j v h=>match j,h with | j,h=>by cases h),(fun _ _=>rfl)⟩ rfl (pi_zip rfl T.n_zip (@pa_mor _ _ _ _ _ (by rfl) (pv 0) (@pa_mor _ _ _ _ _ (by rfl) (pv 1) pa_nil))) (fun s₃ H₃ fp=>.nil) (fun s₃ H₃ fp=>(@pe_op _ _ _ _ _ _ _ _ op_cat (pv 0) (pv 1)))))),?_⟩
    obtain ⟨vs,ea,lv,fv⟩:=id hA
    obtain ⟨us,eb,lu,fu⟩:=id hB
    refine ret_of (comp2_ofX (Z:=fun zs Hx=>zs = vs.zip us∧Hx = H) (fun R h=>⟨_,rfl,_,rfl,a,b,rfl,⟨_,.of ea⟩,⟨_,.of eb⟩,h _ _ _ (Same.refl _) (jseq_zip (.of ea) (.of eb)) (small1000 (by rw [List.length_zip]; omega)) ⟨rfl,rfl⟩⟩) (fun D i y Hx=>∃ x:Addr,y = .ref x∧x ≠ D∧RowG B Hx q x (pss.getD i [] ++ rss.getD i [])) (fun D i y Ha Hb ys ⟨x,h1,h2,vs,e1,e2,e3⟩ e f=>⟨x,h1,h2,vs,f _ _ h2 e1,e2,fun j v p x y=>(e3 j v p x y).far e f⟩) ?_ ?_)
    · rintro zs H1 ⟨rfl,rfl⟩ _ D i x y hxy Hc R sc ⟨ys,eD⟩ kc
      obtain ⟨h1,h2⟩:=List.getElem?_zip_eq_some.mp hxy
      have i1:i < vs.length:=(List.getElem?_eq_some_iff.mp h1).1
      have i2:i < us.length:=(List.getElem?_eq_some_iff.mp h2).1
      have p1:i < pss.length:=by omega
      have p2:i < rss.length:=by omega
      obtain ⟨rx,rfl,xs,ex,lx,fx⟩:=fv i x pss[i] h1 (by simp [p1])
      obtain ⟨ry,rfl,ys',ey,ly,fy⟩:=fu i y rss[i] h2 (by simp [p2])
      have l1:=hm _ (List.getElem_mem p1)
      have l2:=hu _ (List.getElem_mem p2)
      refine ⟨_,rfl,_,rfl,rx,ry,xs,ys',rfl,rfl,sc _ _ ex,sc _ _ ey,Nat.le_trans (show _ ≤ 100 by omega) (by decide),fun p np=>?_⟩
      have sp:Same Hc (upd Hc p (.lst (xs ++ ys'))):=same_upd np
      refine kc _ _ sp ⟨p,rfl,(fun e=>by rw [e,eD] at np; cases np),?_⟩
      rw [getD_at p1,getD_at p2]
      exact RowG.cat (B:=B) upd_same lx ly (fun j v p' h1 h2=>((fx j v p' h1 h2).mono sc).mono sp) (fun j v p' h1 h2=>((fy j v p' h1 h2).mono sc).mono sp)
    · rintro zs H1 ⟨rfl,rfl⟩ _ D ws Hc nD sc lws hP eD
      have lz:ws.length = pss.length:=by rw [lws,List.length_zip]; omega
      refine k D Hc sc nD ⟨ws,eD,by rw [lz,List.length_zipWith]; omega,fun i v ps h1 h2=>?_⟩
      have i1:i < ws.length:=(List.getElem?_eq_some_iff.mp h1).1
      have p1:i < pss.length:=by omega
      have p2:i < rss.length:=by omega
      obtain ⟨x,e1,_,e2⟩:=hP i v h1
      refine ⟨x,e1,?_⟩
      rw [getD_at p1,getD_at p2] at e2
      have e3:ps = pss[i] ++ rss[i]:=by
        rw [List.getElem?_zipWith] at h2
        simp [p1,p2] at h2
        exact h2.symm
      rw [e3]
      exact e2
def spAim (N:Addr):Sp:=fun vs H Q E=>∃ (n:Nat) (a:Addr) (xs:List V),vs = [.int (n:Int),.ref a]∧H a = some (.lst xs)∧(xs.length ≠ n→E (.ref N) none H)∧(xs.length = n→Q .non H)
theorem sc_check_aim:FnScope ["n","aim"] ["n","aim"] (defScope s_check_aim):=⟨rfl,rfl,rfl,by decide +kernel,rfl,by decide +kernel,by decide +kernel⟩
theorem ok_check_aim (T:Txt K mg t):FnOk P w K mg base (CXF P w) 1 t.f_check_aim t.d_check_aim ["n","aim"] (spAim t.C_NoFit):=by
  have S:=sc_check_aim
  refine T.F_check_aim.okX S (fun vs H Q E h=>?_) (fun cdv A outer s H vs Q E hr h L=>?_)
  · obtain ⟨n,a,xs,rfl,_⟩:=h
    rfl
  · obtain ⟨n,a,xs,rfl,ea,kE,k⟩:=h
    refine ⟨_,(@pss_one _ _ _ (@ps_if _ _ _ _ _ _ _ _ (@pt_cmpR _ _ _ _ _ _ _ _ op_ne (pe_callB call_len_seq rfl T.n_len boot_len (@pa_mor _ _ _ _ _ (by rfl) (pv 1) pa_nil)) (pv 0) (nomark _)) (@pss_one _ _ _ (ps_raise L rfl PySem.F.excBase_ValueError T.x_NoFit rfl T.mg_NoFit (@pa_mor _ _ _ _ _ (by rfl) pe_str pa_nil))) pss_nil)),?_⟩
    refine ⟨_,rfl,a,xs,rfl,.inl (.of ea),_,rfl,rfl,_,rfl,ite2 (fun hne=>?_) (fun hne=>?_)⟩
    · have hne:xs.length ≠ n:=fun z=>by
        have:(xs.length:Int) = (n:Int):=by omega
        rw [dV_int,decide_eq_true this] at hne
        cases hne
      exact ⟨by show 1 ≤ sizeLine; decide,kE hne⟩
    · have heq:xs.length = n:=by
        by_cases z:(xs.length:Int) = (n:Int)
        · omega
        · exact absurd (by rw [dV_int,decide_eq_false z]; rfl) hne
      exact k heq
theorem sc_column:FnScope ["table","place"] ["table","place"] (defScope s_column):=⟨rfl,rfl,rfl,by decide +kernel,rfl,by decide +kernel,by decide +kernel⟩
theorem ok_column (T:Txt K mg t):FnOk P w K mg base CX0 1 t.f_column t.d_column ["table","place"] spColB:=by
  have S:=sc_column
  refine T.F_column.ok S (fun vs H Q E h=>?_) (fun cdv A outer s H vs Q E hr h=>?_)
  · obtain ⟨a,q,B,j,pss,m,rfl,_⟩:=h
    rfl
  · obtain ⟨a,q,B,j,pss,m,rfl,⟨vs,ea,hl,hn⟩,h40,hm,hj,k⟩:=h
    refine ⟨_,(@pss_one _ _ _ (@ps_ret _ _ _ _ (pe_comp (N:=["row","place"]) (ρ:=(fun σ=>[σ[1]?.join])) ⟨rfl,rfl,by decide +kernel,by decide +kernel,(List.forall_mem_cons.mpr ⟨rfl,(List.forall_mem_nil _)⟩),has_of (by rfl),rfl,by decide +kernel,rfl,(fun σ j v h=>match j,h with | 0,h=>⟨1,_,rfl,rfl,join_some h,Or.inr (Or.inl rfl),.inl rfl,.inl rfl⟩ | j + 1,h=>by cases h),(fun _ _=>rfl)⟩ rfl (pi_list (pv 0)) (fun s₃ H₃ fp=>.nil) (fun s₃ H₃ fp=>(@pe_ix _ _ _ _ _ _ _ (ix_listK (K:=K)) (pv 0) (pv 1) (fun _ _=>rfl)))))),?_⟩
    refine ret_of (comp_ofN (xs:=vs) (fun R h=>⟨_,rfl,a,rfl,⟨_,.of ea⟩,h _ _ (Same.refl _) (jseq_list (.of ea))⟩) (by rw [hl]; exact small1000 (by omega)) (fun D i y Hx=>∃ ps,pss[i]? = some ps∧NumAt B Hx q y (ps.getD j (0,1)).1 (ps.getD j (0,1)).2) (fun _ _ _ _ _ _ ⟨ps,h1,h2⟩ e f=>⟨ps,h1,h2.far e f⟩) ?_ ?_)
    · intro D i v hi Hc R sc _ kc
      have hi':i < pss.length:=by rw [← hl]; exact (List.getElem?_eq_some_iff.mp hi).1
      have ep:pss[i]? = some pss[i]:=by simp [hi']
      obtain ⟨r,rfl,us,er,lr,f⟩:=hn i v pss[i] hi ep
      have hlen:=hm pss[i] (List.getElem_mem ..)
      have hju:j < us.length:=by omega
      have hjp:j < pss[i].length:=by omega
      refine ⟨_,rfl,_,rfl,r,us,_,us[j],rfl,rfl,.of (sc _ _ er),atI_nat (by simp [hju]),kc _ Hc (Same.refl _) ⟨pss[i],ep,?_⟩⟩
      have eg:pss[i].getD j (0,1) = pss[i][j]:=by simp [hjp]
      rw [eg]
      exact (f j us[j] pss[i][j] (by simp [hju]) (by simp [hjp])).mono sc
    · intro D ys Hc nD sc hys hP eD
      refine k D Hc sc nD ⟨ys,eD,by rw [hys,hl,List.length_map],fun i v p h1 h2=>?_⟩
      obtain ⟨ps,e1,e2⟩:=hP i v h1
      rw [List.getElem?_map,e1] at h2
      cases h2
      exact e2
theorem sc_columns:FnScope ["table"] ["table"] (defScope s_columns):=⟨rfl,rfl,rfl,by decide +kernel,rfl,by decide +kernel,by decide +kernel⟩
theorem ok_columns (T:Txt K mg t):FnOk P w K mg base CX0 2 t.f_columns t.d_columns ["table"] (spColsB t.C_NoFit):=by
  have S:=sc_columns
  have G_width:=ok_width (P:=P) (w:=w) (base:=base) T
  have G_column:=ok_column (P:=P) (w:=w) (base:=base) T
  refine T.F_columns.ok S (fun vs H Q E h=>?_) (fun cdv A outer s H vs Q E hr h=>?_)
  · obtain ⟨a,q,B,pss,m,rfl,_⟩:=h
    rfl
  · obtain ⟨a,q,B,pss,m,rfl,hA,h1,h40,hm,m40,k⟩:=h
    refine ⟨_,(@pss_one _ _ _ (@ps_ret _ _ _ _ (pe_comp (N:=["place","table"]) (ρ:=(fun σ=>[σ[0]?.join])) ⟨rfl,rfl,by decide +kernel,by decide +kernel,(List.forall_mem_cons.mpr ⟨rfl,(List.forall_mem_nil _)⟩),has_of (by rfl),rfl,by decide +kernel,rfl,(fun σ j v h=>match j,h with | 0,h=>⟨0,_,rfl,rfl,join_some h,Or.inr (Or.inl rfl),.inl rfl,.inl rfl⟩ | j + 1,h=>by cases h),(fun _ _=>rfl)⟩ rfl (pi_range1 rfl T.n_range (@pa_mor _ _ _ _ _ (by rfl) (pe_call G_width (hr.mono (by decide)) rfl T.mg_width T.F_width.kp T.b_width .nil passN (@pa_mor _ _ _ _ _ (by rfl) (pv 0) pa_nil)) pa_nil)) (fun s₃ H₃ fp=>.nil) (fun s₃ H₃ fp=>(pe_call G_column (hr.mono (by decide)) rfl T.mg_column T.F_column.kp T.b_column .nil pass0 (@pa_mor _ _ _ _ _ (by rfl) (pv 1) (@pa_mor _ _ _ _ _ (by rfl) (pv 0) pa_nil))))))),?_⟩
    refine ret_of (comp_ofN (xs:=(List.range m).map fun i:Nat=>V.int (0 + (i:Int))) (fun R h=>⟨_,rfl,a,q,B,pss,m,rfl,hA,h1,h40,hm,fun H1 s1=>⟨(m:Int),rfl,by omega,by omega,h _ _ s1 (by rw [Int.toNat_natCast]; exact jseq_rng)⟩⟩) (by rw [List.length_map,List.length_range]; exact small1000 (by omega)) (fun D i y Hx=>∃ r,y = .ref r∧r ≠ D∧RowG B Hx q r (pss.map fun ps:List (Int × Int)=>ps.getD i ((0:Int),(1:Int)))) (fun D i y Ha Hb ys ⟨r,h1,h2,vs,e1,e2,e3⟩ e f=>⟨r,h1,h2,vs,f _ _ h2 e1,e2,fun j v p x y=>(e3 j v p x y).far e f⟩) ?_ ?_)
    · intro D i v hi Hc R sc ⟨zs,eD⟩ kc
      have hi':i < m:=by
        have:=(List.getElem?_eq_some_iff.mp hi).1
        simpa using this
      have ev:v = .int (i:Int):=by
        rw [List.getElem?_map] at hi
        simp [hi'] at hi
        exact hi.symm
      subst ev
      refine ⟨_,rfl,_,rfl,a,q,B,i,pss,m,rfl,hA.mono sc,h40,hm,hi',fun b H' s' nb hb=>kc _ H' s' ⟨b,rfl,fun z=>by (rw [z,eD] at nb; cases nb),hb⟩⟩
    · intro D ys Hc nD sc hys hP eD
      refine k D Hc sc nD ⟨ys,eD,by unfold colsT; rw [hys,List.length_map,List.length_map],fun i v ps h1 h2=>?_⟩
      obtain ⟨r,e1,_,e3⟩:=hP i v h1
      have hi':i < m:=by
        have:=(List.getElem?_eq_some_iff.mp h2).1
        simpa [colsT] using this
      unfold colsT at h2
      rw [List.getElem?_map] at h2
      simp [hi'] at h2
      subst h2
      exact ⟨r,e1,e3⟩
def spCheckB (N:Addr):Sp:=fun vs H Q E=>∃ (a b:Addr) (q:Int) (B:Nat) (pss rss:List (List (Int × Int))) (m u:Nat),vs = [.ref a,.ref b]∧TabB B H q a pss∧TabB B H q b rss∧1 ≤ pss.length∧pss.length ≤ 40∧1 ≤ rss.length∧rss.length ≤ 40∧(∀ ps ∈ pss,ps.length = m)∧(∀ ps ∈ rss,ps.length = u)∧m ≤ 40∧u ≤ 40∧
  (40 < pss.length * rss.length ∨ 40 < m * u→∀ H',Same H H'→E (.ref N) none H')∧(pss.length * rss.length ≤ 40→m * u ≤ 40→∀ H',Same H H'→Q .non H')
theorem sc_check_sizes:FnScope ["one","other"] ["one","other"] (defScope s_check_sizes):=⟨rfl,rfl,rfl,by decide +kernel,rfl,by decide +kernel,by decide +kernel⟩
theorem ok_check_sizes (T:Txt K mg t):FnOk P w K mg base (CXF P w) 2 t.f_check_sizes t.d_check_sizes ["one","other"] (spCheckB t.C_NoFit):=by
  have S:=sc_check_sizes
  have G_width:=ok_width (P:=P) (w:=w) (base:=base) T
  obtain ⟨uM,hM,rM⟩:=T.mg_MOST
  refine T.F_check_sizes.okX S (fun vs H Q E h=>?_) (fun cdv A outer s H vs Q E hr h L=>?_)
  · obtain ⟨a,b,q,B,pss,rss,m,u,rfl,_⟩:=h
    rfl
  · obtain ⟨a,b,q,B,pss,rss,m,u,rfl,hA,hB,n1,n40,k1,k40,hm,hu,m40,u40,kE,k⟩:=h
    refine ⟨_,(@pss_one _ _ _ (@ps_if _ _ _ _ _ _ _ _ (PW.pt (@pw_or _ _ _ _ _ _ _ (@pt_cmpR _ _ _ _ _ _ _ _ op_gt (@pe_op _ _ _ _ _ _ _ _ op_mul (pe_callB call_len_seq rfl T.n_len boot_len (@pa_mor _ _ _ _ _ (by rfl) (pv 0) pa_nil)) (pe_callB call_len_seq rfl T.n_len boot_len (@pa_mor _ _ _ _ _ (by rfl) (pv 1) pa_nil))) (pe_glob (v:=.int 40) rfl hM rM) (nomark _)) (@pw_or1 _ _ _ _ (@pt_cmpR _ _ _ _ _ _ _ _ op_gt (@pe_op _ _ _ _ _ _ _ _ op_mul (pe_call G_width (hr.mono (by decide)) rfl T.mg_width T.F_width.kp T.b_width .nil (passF L) (@pa_mor _ _ _ _ _ (by rfl) (pv 0) pa_nil)) (pe_call G_width (hr.mono (by decide)) rfl T.mg_width T.F_width.kp T.b_width .nil (passF L) (@pa_mor _ _ _ _ _ (by rfl) (pv 1) pa_nil))) (pe_glob (v:=.int 40) rfl hM rM) (nomark _))))) (@pss_one _ _ _ (ps_raise L rfl PySem.F.excBase_ValueError T.x_NoFit rfl T.mg_NoFit (@pa_mor _ _ _ _ _ (by rfl) pe_str pa_nil))) pss_nil)),?_⟩
    obtain ⟨vs,ea,la,_⟩:=id hA
    obtain ⟨us,eb,lb,_⟩:=id hB
    refine ⟨_,rfl,a,vs,rfl,.inl (.of ea),_,rfl,b,us,rfl,.inl (.of eb),_,_,rfl,rfl,.inl ⟨by omega,by omega⟩,_,_,rfl,rfl,_,rfl,ite2 (fun hc=>?_) (fun hc=>?_)⟩
    · have hc:(40:Int) < (vs.length:Int) * (us.length:Int):=of_decide_eq_true hc
      rw [la,lb,← Int.natCast_mul] at hc
      exact iteT ⟨by show 1 ≤ sizeLine; decide,kE (.inl (by omega)) H (Same.refl H)⟩
    · have hc:¬ (40:Int) < (vs.length:Int) * (us.length:Int):=fun z=>hc (decide_eq_true z)
      rw [la,lb,← Int.natCast_mul] at hc
      refine ⟨_,rfl,a,q,B,pss,m,rfl,hA,n1,n40,hm,fun H1 s1=>⟨_,rfl,b,q,B,rss,u,rfl,hB.mono s1,k1,k40,hu,fun H2 s2=>⟨_,_,rfl,rfl,.inl ⟨by omega,by omega⟩,_,_,rfl,rfl,_,rfl,ite2 (fun hd=>?_) (fun hd=>?_)⟩⟩⟩
      · have hd:(40:Int) < (m:Int) * (u:Int):=of_decide_eq_true hd
        rw [← Int.natCast_mul] at hd
        exact ⟨by show 1 ≤ sizeLine; decide,kE (.inr (by omega)) H2 (s1.trans s2)⟩
      · have hd:¬ (40:Int) < (m:Int) * (u:Int):=fun z=>hd (decide_eq_true z)
        rw [← Int.natCast_mul] at hd
        exact k (by omega) (by omega) H2 (s1.trans s2)
theorem sc_twofold_row:FnScope ["world","row","more","told","number"] ["world","row","more"] (defScope s_twofold_row):=⟨rfl,rfl,rfl,by decide +kernel,rfl,by decide +kernel,by decide +kernel⟩
theorem ok_twofold_row (T:Txt K mg t):FnOk P w K mg base CX0 6 t.f_twofold_row t.d_twofold_row ["world","row","more"] (spTRowB t.C_World):=by
  have S:=sc_twofold_row
  have G_World_times:=ok_times (P:=P) (w:=w) (base:=base) T
  refine T.F_twofold_row.ok S (fun vs H Q E h=>?_) (fun cdv A outer s H vs Q E hr h=>?_)
  · obtain ⟨z,a,b,q,B,ps,rs,rfl,_⟩:=h
    rfl
  · obtain ⟨z,a,b,q,B,ps,rs,rfl,hz,hq,hA,hB,bl,bh,p40,r40,r1,k⟩:=h
    refine ⟨_,(@pss_cons _ _ _ _ _ (@ps_put _ _ 3 _ _ _ _ (by rfl) (by first | exact .inl rfl | exact .inr rfl | assumption) S.nd rfl (Or.inl rfl) (@pe_lst _ _ _ _ pa_nil))
      (@pss_cons _ _ _ _ _ (ps_for PassesOwn.never rfl (pi_list (pv 1)) (pg_name (i:=4) S.nd rfl (Or.inr rfl))
        (@pss_one _ _ _ (ps_expr (pe_bm PySem.F.plainAttrs_list PySem.F.slot_list_extend PySem.F.type_list_extend mt_extend (pv 3) (@pa_mor _ _ _ _ _ (by rfl) (pe_comp (N:=["other","number","world"]) (ρ:=(fun σ=>[σ[4]?.join,σ[0]?.join])) ⟨rfl,rfl,by decide +kernel,by decide +kernel,(List.forall_mem_cons.mpr ⟨rfl,(List.forall_mem_cons.mpr ⟨rfl,(List.forall_mem_nil _)⟩)⟩),has_of (by rfl),rfl,by decide +kernel,rfl,(fun σ j v h=>match j,h with | 0,h=>⟨4,_,rfl,rfl,join_some h,Or.inr (Or.inl rfl),.inl rfl,.inl rfl⟩ | 1,h=>⟨0,_,rfl,rfl,join_some h,Or.inr (Or.inl rfl),.inl rfl,.inl rfl⟩ | j + 2,h=>by cases h),(fun _ _=>rfl)⟩ rfl (pi_list (pv 2)) (fun s₃ H₃ fp=>.nil) (fun s₃ H₃ fp=>(pe_meth (pv 2) T.cl_World T.m_World_times G_World_times (hr.mono (by decide)) T.b_World_times .nil pass0 (@pa_mor _ _ _ _ _ (by rfl) (pv 1) (@pa_mor _ _ _ _ _ (by rfl) (pv 0) pa_nil))))) pa_nil)))))
      (@pss_one _ _ _ (@ps_ret _ _ _ _ (pv 3))))),?_⟩
    obtain ⟨vs,ea,la,fa⟩:=id hA
    obtain ⟨dz,hdz⟩:=id hz
    obtain ⟨us,eb,lb,fb⟩:=id hB
    refine ⟨by show 0 ≤ sizeLine; decide,fun l nl=>?_⟩
    have sl:Same H (upd H l (.lst [])):=same_upd nl
    refine ⟨_,rfl,a,rfl,⟨_,.of (sl _ _ ea)⟩,?_⟩
    refine for_list (K:=K) (a:=a) (xs:=vs) (fun i σ Hc=>Same H Hc∧∃ (v4:Option V) (ys:List V),σ = [some (.ref z),some (.ref a),some (.ref b),some (.ref l),v4]∧Hc l = some (.lst ys)∧ys.length = i * rs.length∧∀ (j:Nat) (y:V),ys[j]? = some y→IsN Hc q y (mulP (ps.getD (j / rs.length) o1) (rs.getD (j % rs.length) o1)).1 (mulP (ps.getD (j / rs.length) o1) (rs.getD (j % rs.length) o1)).2)
      ⟨sl,none,[],rfl,upd_same,by simp,fun j y e=>by simp at e⟩ (fun i σ Hc _ ⟨z,_⟩=>.of (z _ _ ea)) ?_ ?_
    · rintro i v σ Hc hi ⟨sc,v4,ys,rfl,el,ly,hy⟩
      have hi':i < ps.length:=by rw [← la]; exact (List.getElem?_eq_some_iff.mp hi).1
      have hv:=fa i v ps[i] hi (by simp [hi'])
      refine drop_of ⟨_,rfl,.inl ⟨rfl,_,.of el⟩,comp_ofN (xs:=us) (fun R h=>⟨_,rfl,b,rfl,⟨_,.of (sc _ _ eb)⟩,h _ _ (Same.refl _) (jseq_list (.of (sc _ _ eb)))⟩) (small1000 (by omega)) (fun _ j y Hx=>IsN Hx q y (mulP (ps.getD i o1) (rs.getD j o1)).1 (mulP (ps.getD i o1) (rs.getD j o1)).2) (fun _ _ _ _ _ _ h1 e f=>h1.far e f) ?_ ?_⟩
      · intro D j u hj Hd R sd _ kd
        have hj':j < rs.length:=by rw [← lb]; exact (List.getElem?_eq_some_iff.mp hj).1
        have hu:=fb j u rs[j] hj (by simp [hj'])
        rw [getD_at hi',getD_at hj'] at kd
        have bg:∀ {v:V} {x y:Int},NumAt B H q v x y→Big x∧Big y:=fun {v x y} h=>by
          obtain ⟨h1,h2⟩:=h.both bl
          exact ⟨Nat.le_trans h1 bh,Nat.le_trans h2 bh⟩
        exact ⟨_,rfl,z,dz,_,rfl,(sc.trans sd) _ _ hdz,lk_no (by decide +kernel),_,rfl,_,rfl,times_is (E:=E0) (hz.mono (sc.trans sd)) hq ((hv.mono (sc.trans sd)).isN hq) ((hu.mono (sc.trans sd)).isN hq) (bg hv).1 (bg hv).2 (bg hu).1 (bg hu).2 fun v' H' s' hN=>kd v' H' s' hN⟩
      · intro D zs Hd nD sd lz hP eD
        refine ⟨l,D,ys,zs,rfl,rfl,sd _ _ el,eD,?_,?_⟩
        · have:i * rs.length ≤ 40 * 40:=Nat.mul_le_mul (by omega) r40
          exact Nat.le_trans (show _ ≤ 2000 by omega) (by decide)
        have far:∀ b o,b ≠ l→Hd b = some o→upd Hd l (.lst (ys ++ zs)) b = some o:=fun b o nb e=>by rw [upd_ne nb]; exact e
        refine ⟨same_but (sc.trans sd) nl,_,_,rfl,upd_same,by rw [List.length_append,ly,lz,lb,Nat.succ_mul],fun j y e=>?_⟩
        by_cases hj:j < ys.length
        · rw [List.getElem?_append_left hj] at e
          exact ((hy j y e).mono sd).far (sd _ _ el) far
        · rw [List.getElem?_append_right (by omega)] at e
          have hj2:j - ys.length < rs.length:=by rw [← lb,← lz]; exact (List.getElem?_eq_some_iff.mp e).1
          have ej:j = i * rs.length + (j - ys.length):=by omega
          have z1:=(hP _ y e).far (sd _ _ el) far
          rw [ej,cut_div hj2,cut_mod hj2]
          exact z1
    · rintro σ Hc ⟨sc,v4,ys,rfl,el,ly,hy⟩
      exact ⟨_,rfl,k l Hc sc nl ⟨ys,el,by rw [ly,la],hy⟩⟩
theorem sc_reduced:FnScope ["world","table","rows","leads","last","lead","turn","found","head"] ["world","table"] (defScope s_reduced):=⟨rfl,rfl,rfl,by decide +kernel,rfl,by decide +kernel,by decide +kernel⟩
theorem ok_reduced (T:Txt K mg t):FnOk P w K mg base CX0 5 t.f_reduced t.d_reduced ["world","table"] (spRed t.C_World t.C_NoFit):=by
  have S:=sc_reduced
  have G_width:=ok_width (P:=P) (w:=w) (base:=base) T
  have G_World_as_wholes:=ok_as_wholes (P:=P) (w:=w) (base:=base) T
  have G_first_filled:=ok_first_filled (P:=P) (w:=w) (base:=base) T
  have G_swapped:=ok_swapped (P:=P) (w:=w) (base:=base) T
  have G_cleared:=ok_cleared (P:=P) (w:=w) (base:=base) T
  have G_row_over:=ok_row_over (P:=P) (w:=w) (base:=base) T
  refine T.F_reduced.ok S (fun vs H Q E h=>?_) (fun cdv A outer s H vs Q E hr h=>?_)
  · obtain ⟨z,a,q,B,P,W,pss,G,rfl,_⟩:=h
    rfl
  · obtain ⟨z,a,q,B,PP,W,pss,G,rfl,⟨dz,hd⟩,hq,hA,B1,B150,n1,n40,hW,W100,hE,hG,hP,hmid,k⟩:=h
    refine ⟨_,(@pss_cons _ _ _ _ _ (ps_comp (i0:=2) (N:=["row","world"]) (ρ:=(fun σ=>[σ[0]?.join])) ⟨rfl,rfl,by decide +kernel,by decide +kernel,(List.forall_mem_cons.mpr ⟨rfl,(List.forall_mem_nil _)⟩),has_of (by rfl),rfl,by decide +kernel,rfl,(fun σ j v h=>match j,h with | 0,h=>⟨0,_,rfl,rfl,join_some h,Or.inr (Or.inl rfl),.inl rfl,.inl rfl⟩ | j + 1,h=>by cases h),(fun _ _=>rfl)⟩ rfl S.nd rfl (Or.inl rfl) (pi_list (pv 1)) (fun s₃ H₃ fp=>.nil) (fun s₃ H₃ fp=>(@pe_ix _ _ _ _ _ _ _ (ix_tupK (K:=K)) (pe_meth (pv 1) T.cl_World T.m_World_as_wholes G_World_as_wholes (hr.mono (by decide)) T.b_World_as_wholes .nil pass0 (@pa_mor _ _ _ _ _ (by rfl) (pv 0) pa_nil)) pe_int (fun _ _=>rfl))))
      (@pss_cons _ _ _ _ _ (@ps_put _ _ 3 _ _ _ _ (by rfl) (by first | exact .inl rfl | exact .inr rfl | assumption) S.nd rfl (Or.inl rfl) (@pe_lst _ _ _ _ pa_nil))
      (@pss_cons _ _ _ _ _ (@ps_put _ _ 4 _ _ _ _ (by rfl) (by first | exact .inl rfl | exact .inr rfl | assumption) S.nd rfl (Or.inr rfl) pe_int)
      (@pss_cons _ _ _ _ _ (ps_for PassesOwn.never rfl (pi_range1 rfl T.n_range (@pa_mor _ _ _ _ _ (by rfl) (pe_call G_width (hr.mono (by decide)) rfl T.mg_width T.F_width.kp T.b_width .nil passN (@pa_mor _ _ _ _ _ (by rfl) (pv 1) pa_nil)) pa_nil)) (pg_name (i:=5) S.nd rfl (Or.inr rfl))
        (@pss_cons _ _ _ _ _ (@ps_put _ _ 6 _ _ _ _ (by rfl) (by first | exact .inl rfl | exact .inr rfl | assumption) S.nd rfl (Or.inl rfl) (pe_callB call_len_seq rfl T.n_len boot_len (@pa_mor _ _ _ _ _ (by rfl) (pv 3) pa_nil)))
      (@pss_cons _ _ _ _ _ (@ps_put _ _ 7 _ _ _ _ (by rfl) (by first | exact .inl rfl | exact .inr rfl | assumption) S.nd rfl (Or.inl rfl) (pe_call G_first_filled (hr.mono (by decide)) rfl T.mg_first_filled T.F_first_filled.kp T.b_first_filled .nil pass0 (@pa_mor _ _ _ _ _ (by rfl) (pv 2) (@pa_mor _ _ _ _ _ (by rfl) (pv 6) (@pa_mor _ _ _ _ _ (by rfl) (pv 5) pa_nil)))))
      (@pss_one _ _ _ (@ps_if _ _ _ _ _ _ _ _ (@pt_cmpR _ _ _ _ _ _ _ _ op_notN (pv 7) pe_non (nomark _)) (@pss_cons _ _ _ _ _ (@ps_put _ _ 2 _ _ _ _ (by rfl) (by first | exact .inl rfl | exact .inr rfl | assumption) S.nd rfl (Or.inl rfl) (pe_call G_swapped (hr.mono (by decide)) rfl T.mg_swapped T.F_swapped.kp T.b_swapped .nil pass0 (@pa_mor _ _ _ _ _ (by rfl) (pv 2) (@pa_mor _ _ _ _ _ (by rfl) (pv 6) (@pa_mor _ _ _ _ _ (by rfl) (pv 7) pa_nil)))))
      (@pss_cons _ _ _ _ _ (@ps_put _ _ 8 _ _ _ _ (by rfl) (by first | exact .inl rfl | exact .inr rfl | assumption) S.nd rfl (Or.inr rfl) (@pe_ix _ _ _ _ _ _ _ ix_list (pv 2) (pv 6) (fun _ _=>rfl)))
      (@pss_cons _ _ _ _ _ (ps_comp (i0:=2) (N:=["row","world","head","lead","last"]) (ρ:=(fun σ=>[σ[0]?.join,σ[8]?.join,σ[5]?.join,σ[4]?.join])) ⟨rfl,rfl,by decide +kernel,by decide +kernel,(List.forall_mem_cons.mpr ⟨rfl,(List.forall_mem_cons.mpr ⟨rfl,(List.forall_mem_cons.mpr ⟨rfl,(List.forall_mem_cons.mpr ⟨rfl,(List.forall_mem_nil _)⟩)⟩)⟩)⟩),has_of (by rfl),rfl,by decide +kernel,rfl,(fun σ j v h=>match j,h with | 0,h=>⟨0,_,rfl,rfl,join_some h,Or.inr (Or.inl rfl),.inl rfl,.inl rfl⟩ | 1,h=>⟨8,_,rfl,rfl,join_some h,Or.inr (Or.inl rfl),.inl rfl,.inl rfl⟩ | 2,h=>⟨5,_,rfl,rfl,join_some h,Or.inr (Or.inl rfl),.inl rfl,.inl rfl⟩ | 3,h=>⟨4,_,rfl,rfl,join_some h,Or.inr (Or.inl rfl),.inl rfl,.inl rfl⟩ | j + 4,h=>by cases h),(fun _ _=>rfl)⟩ rfl S.nd rfl (Or.inl rfl) (pi_list (pv 2)) (fun s₃ H₃ fp=>.nil) (fun s₃ H₃ fp=>(pe_call G_cleared (hr.mono (by decide)) rfl T.mg_cleared T.F_cleared.kp T.b_cleared .nil pass0 (@pa_mor _ _ _ _ _ (by rfl) (pv 1) (@pa_mor _ _ _ _ _ (by rfl) (pv 0) (@pa_mor _ _ _ _ _ (by rfl) (pv 2) (@pa_mor _ _ _ _ _ (by rfl) (pv 3) (@pa_mor _ _ _ _ _ (by rfl) (pv 4) pa_nil))))))))
      (@pss_cons _ _ _ _ _ (@ps_asg _ _ _ _ _ _ (pv 8) (pg_sub (pv 2) (pv 6) set_list) (by rfl) (by rfl) (by rfl))
      (@pss_cons _ _ _ _ _ (@ps_put _ _ 4 _ _ _ _ (by rfl) (by first | exact .inl rfl | exact .inr rfl | assumption) S.nd rfl (Or.inr rfl) (@pe_ix _ _ _ _ _ _ _ ix_list (pv 8) (pv 5) (fun _ _=>rfl)))
      (@pss_one _ _ _ (ps_expr (pe_bm PySem.F.plainAttrs_list PySem.F.slot_list_append PySem.F.type_list_append mt_append (pv 3) (@pa_mor _ _ _ _ _ (by rfl) (pv 5) pa_nil))))))))) pss_nil)))))
      (@pss_one _ _ _ (@ps_ret _ _ _ _ (@pe_tup _ _ _ _ _ (@pa_mor _ _ _ _ _ (by rfl) (pe_comp2 (N:=["row","lead","world"]) (ρ:=(fun σ=>[σ[0]?.join])) ⟨rfl,rfl,by decide +kernel,by decide +kernel,(List.forall_mem_cons.mpr ⟨rfl,(List.forall_mem_nil _)⟩),has_of (by rfl),rfl,rfl,by decide +kernel,rfl,rfl,(fun σ j v h=>match j,h with | 0,h=>⟨0,_,rfl,rfl,join_some h,Or.inr (Or.inl rfl),.inl rfl,.inl rfl⟩ | j + 1,h=>by cases h),(fun _ _=>rfl)⟩ rfl (pi_zip rfl T.n_zip (@pa_mor _ _ _ _ _ (by rfl) (pv 2) (@pa_mor _ _ _ _ _ (by rfl) (pv 3) pa_nil))) (fun s₃ H₃ fp=>.nil) (fun s₃ H₃ fp=>(pe_call G_row_over (hr.mono (by decide)) rfl T.mg_row_over T.F_row_over.kp T.b_row_over .nil pass0 (@pa_mor _ _ _ _ _ (by rfl) (pv 2) (@pa_mor _ _ _ _ _ (by rfl) (pv 0) (@pa_mor _ _ _ _ _ (by rfl) (pv 1) pa_nil)))))) (@pa_mor _ _ _ _ _ (by rfl) (pv 3) pa_nil))))))))),?_⟩
    obtain ⟨vs,ea,lv,fv⟩:=id hA
    refine seq_of (asg_of (comp_ofN (xs:=vs) (fun R h=>⟨_,rfl,a,rfl,⟨_,.of ea⟩,h _ _ (Same.refl _) (jseq_list (.of ea))⟩) (by rw [lv]; exact small1000 (by omega)) (fun D i y Hx=>∃ (x:Addr) (ts:List Int) (b:Int),y = .ref x∧x ≠ D∧H x = none∧Hx x = some (.lst (ts.map V.int))∧WhR q (G i) W (pss.getD i []) ts b) (fun D i y Ha Hb ys ⟨x,ts,b,h1,h2,h3,h4,h5⟩ e f=>⟨x,ts,b,h1,h2,h3,f _ _ h2 h4,h5⟩) ?_ ?_))
    · intro D i v hi Hc R sc ⟨zs,eD⟩ kc
      have hi':i < vs.length:=(List.getElem?_eq_some_iff.mp hi).1
      have hp:i < pss.length:=by omega
      obtain ⟨r,rfl,hr'⟩:=fv i v pss[i] hi (by simp [hp])
      obtain ⟨D',x,okD,bD,dv,hx⟩:=hE i hp
      have ep:pss.getD i [] = pss[i]:=getD_at hp
      rw [ep] at dv hx kc
      have lW:=hW _ (List.getElem_mem hp)
      refine ⟨_,rfl,z,dz,_,rfl,sc _ _ hd,lk_no (by decide +kernel),_,rfl,z,r,q,pss[i],B,D',rfl,⟨dz,sc _ _ hd⟩,hq,hr'.mono sc,by rw [lW]; exact W100,okD,dv,B150,B1,Nat.le_trans bD (hG i).2,fun v H' ts b s' hn wd=>?_⟩
      obtain ⟨tp,l,rfl,etp,el,nl⟩:=hn
      exact ⟨tp,_,_,_,rfl,rfl,.of etp,rfl,kc _ H' s' ⟨l,ts,b,rfl,(fun e=>by rw [e,eD] at nl; cases nl),none_of sc nl,el,wh_row hq wd lW hr' okD hx⟩⟩
    intro D ys H1 nD s1 lys hP1 eD
    have hn:ys.length = pss.length:=by rw [lys,lv]
    obtain ⟨f,hf⟩:=rows_pick (n:=pss.length) (α:=List Int × Int) (R:=fun i y=>∃ x:Addr,ys[i]? = some (.ref x)∧x ≠ D∧H1 x = some (.lst (y.1.map V.int))∧WhR q (G i) W (pss.getD i []) y.1 y.2) fun i hi=>by
      have hi':i < ys.length:=by omega
      obtain ⟨x,ts,b,e1,h2,h3,h4,h5⟩:=hP1 i ys[i] (by simp [hi'])
      exact ⟨(ts,b),x,by rw [← e1]; simp [hi'],h2,h4,h5⟩
    obtain ⟨AA,hAA,hAA'⟩:∃ AA:Nat→Nat→Int,(∀ i,i < pss.length→∀ k,AA i k = (f i).1.getD k 0)∧∀ i k,pss.length ≤ i→AA i k = 0:=⟨fun i k=>if i < pss.length then (f i).1.getD k 0 else 0,fun i hi k=>if_pos hi,fun i k hi=>if_neg (by omega)⟩
    dsimp only [gName]
    simp only [L2.start,List.length_cons,List.length_nil,List.map_cons,List.map_nil,List.replicate,List.cons_append,List.nil_append,List.set_cons_zero,List.set_cons_succ]
    refine ⟨by show 0 ≤ sizeLine; decide,fun l nl=>?_⟩
    have s2:Same H (upd H1 l (.lst [])):=s1.trans (same_upd nl)
    have el:upd H1 l (.lst []) l = some (.lst (natsV [])):=upd_same
    have iR:IRowsX (upd H1 l (.lst [])) D l pss.length W AA:=by
      refine ⟨ys,same_upd nl _ _ eD,hn,(fun e=>by rw [e,nl] at eD; cases eD),fun i v hv=>?_⟩
      have hi':i < pss.length:=by rw [← hn]; exact (List.getElem?_eq_some_iff.mp hv).1
      obtain ⟨x,e1,e2,e3,e4⟩:=hf i hi'
      rw [e1] at hv
      cases hv
      refine ⟨x,rfl,e2,(fun e=>by rw [e,nl] at e3; cases e3),?_⟩
      rw [show AA i = fun k=>(f i).1.getD k 0 from funext fun k=>hAA i hi' k,rng_getD _ e4.len]
      exact same_upd nl _ _ e3
    generalize upd H1 l (.lst []) = H2 at s2 el iR ⊢
    dsimp only [gName]
    simp only [List.set_cons_zero,List.set_cons_succ]
    have nlH:H l = none:=none_of s1 nl
    refine ⟨_,rfl,a,q,B,pss,W,rfl,hA.mono s2,n1,n40,hW,fun H3 s3=>⟨(W:Int),rfl,by omega,by omega,?_⟩⟩
    rw [Int.toNat_natCast]
    obtain ⟨A0,hA0,bA0⟩:∃ A0:Nat→Nat→Int,A0 = AA∧∀ i k,(A0 i k).natAbs ≤ G i:=⟨AA,rfl,fun i k=>by
      by_cases hi:i < pss.length
      · obtain ⟨x,e1,e2,e3,e4⟩:=hf i hi
        rw [hAA i hi k]
        exact e4.bd k
      · rw [hAA' i k (by omega)]
        exact Nat.zero_le _⟩
    have I0:RedI q PP pss.length W AA AA [] 1 0:=by
      refine RedI.start hq (G:=G) (hA0 ▸ bA0) (fun i=>(hG i).1) hP hmid n1 fun z i k hi hk=>?_
      obtain ⟨x,e1,e2,e3,e4⟩:=hf i hi
      rw [hAA i hi k]
      exact e4.rem z k hk
    refine for_range (fun i σ Hc=>Same H Hc∧∃ (rr:Addr) (M:Nat→Nat→Int) (L:List Nat) (last:Int) (v5 v6 v7 v8:Option V),σ = [some (.ref z),some (.ref a),some (.ref rr),some (.ref l),some (.int last),v5,v6,v7,v8]∧Hc l = some (.lst (natsV L))∧IRowsX Hc rr l pss.length W M∧RedI q PP pss.length W AA M L last i) ⟨s2.trans s3,D,AA,[],1,none,none,none,none,rfl,s3 _ _ el,iR.mono s3,I0⟩ ?_ ?_
    · rintro i σ Hc hi ⟨sc,rr,M,L,last,v5,v6,v7,v8,rfl,el,iR,I⟩
      rw [show (0:Int) + (i:Int) = (i:Int) by omega]
      refine ⟨_,rfl,l,natsV L,rfl,.inl (.of el),?_⟩
      rw [show ((natsV L).length:Int) = (L.length:Int) by simp [natsV]]
      dsimp only [gName]
      simp only [List.set_cons_zero,List.set_cons_succ]
      refine ⟨_,rfl,_,rfl,_,rfl,rr,pss.length,W,L.length,i,M,rfl,iR.rows,I.rd.len,by omega,hi,fun s' hs sn ns=>?_,fun hz=>?_⟩
      · dsimp only [gName]
        simp only [List.set_cons_zero,List.set_cons_succ]
        obtain ⟨Ef,hEf,I'⟩:=I.next hq hi hs sn ns
        obtain ⟨ml,nl0⟩:=I.last hq
        have md:∀ i' k',i' < pss.length→k' < W→Mid (swapM M L.length s' i' k'):=fun i' k' h1 h2=>by
          have b:∀ j,j < pss.length→Mid (M j k'):=fun j hj=>Nat.lt_of_le_of_lt (I.bd hq hj h2) I.mid
          unfold swapM
          split
          · exact b _ (by omega)
          · split
            · exact b _ sn
            · exact b _ h1
        have rn:L.length < pss.length:=by omega
        refine ⟨_,rfl,rfl,_,rfl,iteT ?_⟩
        refine ⟨_,rfl,_,rfl,_,rfl,rr,l,pss.length,W,L.length,s',M,rfl,iR,⟨_,el⟩,rn,sn,fun b H4 s4 nb iR4=>?_⟩
        dsimp only [gName]
        simp only [List.set_cons_zero,List.set_cons_succ]
        have el4:=s4 _ _ el
        generalize swapM M L.length s' = M1 at hEf I' iR4 md
        obtain ⟨vs4,eb,lv4,bl,fv4⟩:=id iR4
        have hr4:L.length < vs4.length:=by omega
        obtain ⟨hx,ehx,hxb,hxl,eh⟩:=fv4 L.length vs4[L.length] (by simp [hr4])
        refine ⟨_,rfl,_,rfl,b,vs4,_,.ref hx,rfl,rfl,.of eb,atI_nat (by rw [← ehx]; simp [hr4]),?_⟩
        dsimp only [gName]
        simp only [List.set_cons_zero,List.set_cons_succ]
        have sc4:=sc.trans s4
        refine seq_of (asg_of (comp_ofN (xs:=vs4) (fun R h=>⟨_,rfl,b,rfl,⟨_,.of eb⟩,h _ _ (Same.refl _) (jseq_list (.of eb))⟩) (by rw [lv4]; exact small1000 (by omega)) (fun D i y Hx=>∃ x:Addr,y = .ref x∧x ≠ D∧x ≠ l∧Hx x = some (.lst (((List.range W).map (Ef i)).map V.int))) (fun D i y Ha Hb ys ⟨x,h1,h2,h3,h4⟩ e f=>⟨x,h1,h2,h3,f _ _ h2 h4⟩) ?_ ?_))
        · intro D i' v hi' Hd R sd ⟨zs,eD⟩ kd
          have hv':i' < vs4.length:=(List.getElem?_eq_some_iff.mp hi').1
          have hp:i' < pss.length:=by omega
          obtain ⟨x,rfl,_,_,ex⟩:=fv4 i' v hi'
          exact ⟨_,rfl,_,rfl,_,rfl,_,rfl,_,rfl,z,x,hx,q,last,W,i,M1 i',M1 L.length,Ef i',rfl,⟨dz,sd _ _ (sc4 _ _ hd)⟩,hq,sd _ _ ex,sd _ _ eh,hi,W100,fun k' hk'=>⟨md i' k' hp hk',md _ k' rn hk'⟩,ml,nl0,fun z k' _=>(hEf i' hp).1 z k',fun z k' _=>(hEf i' hp).2 z k',fun r H' s' nr er=>kd _ H' s' ⟨r,rfl,(fun e=>by rw [e,eD] at nr; cases nr),(fun e=>by rw [e,sd _ _ el4] at nr; cases nr),er⟩⟩
        intro D ys5 H5 nD5 s5 lys5 hP5 eD5
        dsimp only [gName]
        simp only [List.set_cons_zero,List.set_cons_succ]
        have hr5:L.length < ys5.length:=by omega
        have Dl:D ≠ l:=fun e=>by rw [e,el4] at nD5; cases nD5
        refine ⟨_,rfl,_,rfl,_,rfl,D,ys5,_,L.length,rfl,rfl,eD5,(by unfold ixN; rw [if_pos (by omega),if_pos (by omega),Int.toNat_natCast]),?_⟩
        have nDH:H D = none:=none_of sc4 nD5
        have s6:Same H (upd H5 D (.lst (ys5.set L.length (.ref hx)))):=same_but (sc4.trans s5) nDH
        have hxD:hx ≠ D:=fun e=>by rw [e,nD5] at eh; cases eh
        have eh6:upd H5 D (.lst (ys5.set L.length (.ref hx))) hx = some (.lst (((List.range W).map (M1 L.length)).map V.int)):=by rw [upd_ne hxD]; exact s5 _ _ eh
        have el6:upd H5 D (.lst (ys5.set L.length (.ref hx))) l = some (.lst (natsV L)):=by rw [upd_ne (Ne.symm Dl)]; exact s5 _ _ el4
        have iR6:IRowsX (upd H5 D (.lst (ys5.set L.length (.ref hx)))) D l pss.length W (fun i=>if i = L.length then M1 L.length else Ef i):=by
          refine ⟨_,upd_same,by rw [List.length_set,lys5,lv4],Dl,fun j v hv=>?_⟩
          by_cases ej:j = L.length
          · subst ej
            rw [List.getElem?_set_self hr5] at hv
            cases hv
            refine ⟨hx,rfl,hxD,hxl,?_⟩
            dsimp only
            rw [if_pos rfl]
            exact eh6
          · rw [List.getElem?_set_ne (fun e=>ej e.symm)] at hv
            obtain ⟨x,e1,e2,e3,e4⟩:=hP5 j v hv
            refine ⟨x,e1,e2,e3,?_⟩
            dsimp only
            rw [if_neg ej,upd_ne e2]
            exact e4
        dsimp only
        generalize upd H5 D (.lst (ys5.set L.length (.ref hx))) = H6 at s6 eh6 el6 iR6 ⊢
        refine ⟨_,rfl,_,rfl,hx,_,_,_,rfl,rfl,.of eh6,irow_at hi (M1 L.length),?_⟩
        dsimp only [gName]
        simp only [List.set_cons_zero,List.set_cons_succ]
        refine ⟨_,rfl,.inl ⟨rfl,_,.of el6⟩,_,rfl,l,natsV L,_,rfl,rfl,el6,Nat.lt_of_le_of_lt (show (natsV L).length ≤ 100 by simp [natsV]; omega) (by decide),?_⟩
        have eN:natsV L ++ [.int (i:Int)] = natsV (L ++ [i]):=by simp [natsV]
        rw [eN]
        exact ⟨same_but s6 nlH,D,_,L ++ [i],M1 L.length i,_,_,_,_,rfl,upd_same,iR6.off _,I'⟩
      · dsimp only [gName]
        simp only [List.set_cons_zero,List.set_cons_succ]
        refine ⟨_,rfl,rfl,_,rfl,iteF ?_⟩
        exact ⟨sc,rr,M,L,last,_,_,_,_,rfl,el,iR,I.skip hz⟩
    · rintro σ Hc ⟨sc,rr,M,L,last,v5,v6,v7,v8,rfl,el,iR,I⟩
      obtain ⟨vs6,er,lv6,rl,fv6⟩:=id iR
      have lN:(natsV L).length = L.length:=by simp [natsV]
      have ln:=I.rd.len
      dsimp only
      refine ret_of (tup1_of (comp2_ofX (Z:=fun zs Hx=>zs = vs6.zip (natsV L)∧Hx = Hc) (fun R h=>⟨_,rfl,_,rfl,rr,l,rfl,⟨_,.of er⟩,⟨_,.of el⟩,h _ _ _ (Same.refl _) (jseq_zip (.of er) (.of el)) (small1000 (by rw [List.length_zip]; omega)) ⟨rfl,rfl⟩⟩) (fun D j y Hx=>∃ (x:Addr) (ps:List (Int × Int)),y = .ref x∧x ≠ D∧RowG (pss.length * (facN pss.length * PP)) Hx q x ps∧ps.length = W∧∀ k,k < W→Weq q (ps.getD k o1) (M j k,M j (L.getD j 0))) (fun D j y Ha Hb ys ⟨x,ps,h1,h2,⟨ws,e1,e2,e3⟩,h4,h5⟩ e f=>⟨x,ps,h1,h2,⟨ws,f _ _ h2 e1,e2,fun j v p x y=>(e3 j v p x y).far e f⟩,h4,h5⟩) ?_ ?_))
      · rintro zs H1' ⟨rfl,rfl⟩ _ D' j x y hxy Hd R sd ⟨ws,eD'⟩ kd
        obtain ⟨h1,h2⟩:=List.getElem?_zip_eq_some.mp hxy
        have j2:j < L.length:=by rw [← lN]; exact (List.getElem?_eq_some_iff.mp h2).1
        have j1:j < pss.length:=by omega
        obtain ⟨rx,rfl,_,_,ex⟩:=fv6 j x h1
        have ey:y = .int ((L.getD j 0:Nat):Int):=by
          unfold natsV at h2
          rw [List.getElem?_map,List.getElem?_map] at h2
          simp [j2] at h2
          rw [getD_at j2]
          exact h2.symm
        subst ey
        have cW:L.getD j 0 < W:=I.rd.lt _ (by rw [getD_at j2]; exact List.getElem_mem _)
        exact ⟨_,rfl,_,rfl,_,rfl,z,rx,q,W,L.getD j 0,M j,pss.length * (facN pss.length * PP),rfl,⟨dz,sd _ _ (sc _ _ hd)⟩,hq,sd _ _ ex,cW,W100,I.rd.lead j j2,Nat.lt_of_le_of_lt (I.bd hq j1 cW) I.mid,fun k' hk'=>I.bd hq j1 hk',fun r ps H' s' nr hr' lp hw=>kd _ H' s' ⟨r,ps,rfl,(fun e=>by rw [e,eD'] at nr; cases nr),hr',lp,hw⟩⟩
      · rintro zs H1' ⟨rfl,rfl⟩ _ D' ws H7 nD7 s7 lws hP7 eD7
        have lz:ws.length = L.length:=by rw [lws,List.length_zip]; omega
        obtain ⟨rss,lr,hr7⟩:=pick (R:=fun (j:Nat) (y:V) (ps:List (Int × Int))=>∃ x:Addr,y = .ref x∧RowG (pss.length * (facN pss.length * PP)) H7 q x ps∧ps.length = W∧∀ k,k < W→Weq q (ps.getD k o1) (M j k,M j (L.getD j 0))) (fun j y hy=>by
          obtain ⟨x,ps,h1,_,h3,h4,h5⟩:=hP7 j y hy
          exact ⟨ps,x,h1,h3,h4,h5⟩)
        refine ⟨_,rfl,by show 2 ≤ sizeLine; decide,fun p np=>?_⟩
        have sp:Same H7 (upd H7 p (.tup [.ref D',.ref l])):=same_upd np
        refine k p D' l _ AA M (fun i=>(f i).2) L last rss (sc.trans (s7.trans sp)) upd_same (sp _ _ (s7 _ _ el)) ⟨ws,sp _ _ eD7,lr.symm,fun j v ps h1 h2=>?_⟩ ⟨I,fun i hi=>?_,fun i k' hi hk'=>?_,by omega,fun ps hps=>?_,fun j k' hj hk'=>?_⟩
        · obtain ⟨x,e1,e2,_⟩:=hr7 j v ps h1 h2
          exact ⟨x,e1,e2.mono sp⟩
        · obtain ⟨x,e1,e2,e3,e4⟩:=hf i hi
          exact e4.ok
        · obtain ⟨x,e1,e2,e3,e4⟩:=hf i hi
          rw [hAA i hi k']
          exact e4.eq k' hk'
        · obtain ⟨j,hj,e⟩:=List.mem_iff_getElem.mp hps
          have j1:j < ws.length:=by omega
          obtain ⟨x,_,_,e3,_⟩:=hr7 j ws[j] ps (by simp [j1]) (by simp [hj,e])
          exact e3
        · have j1:j < ws.length:=by omega
          have j2:j < rss.length:=by omega
          obtain ⟨x,_,_,_,e4⟩:=hr7 j ws[j] rss[j] (by simp [j1]) (by simp [j2])
          unfold atT
          rw [getD_at j2]
          exact e4 k' hk'
theorem sc_back_times:FnScope ["world","table","other","n","told"] ["world","table","other"] (defScope s_back_times):=⟨rfl,rfl,rfl,by decide +kernel,rfl,by decide +kernel,by decide +kernel⟩
theorem ok_back_times (T:Txt K mg t):FnOk P w K mg base (CXF P w) 6 t.f_back_times t.d_back_times ["world","table","other"] (spBackT t.C_World t.C_NoFit):=by
  have S:=sc_back_times
  have G_square_size:=ok_square_size (P:=P) (w:=w) (base:=base) T
  have G_reduced:=ok_reduced (P:=P) (w:=w) (base:=base) T
  have G_beside:=ok_beside (P:=P) (w:=w) (base:=base) T
  refine T.F_back_times.okX S (fun vs H Q E h=>?_) (fun cdv A outer s H vs Q E hr h L=>?_)
  · obtain ⟨z,a,b,q,B,P,u,pss,uss,G,rfl,_⟩:=h
    rfl
  · obtain ⟨z,a,b,q,B,PP,u,pss,uss,G,rfl,hz,hq,hA,hU,B1,B150,n1,n40,lu,hm,hu,u40,hw,hE,hG,hP,hmid,kN,k⟩:=h
    have hu8:=hr.units
    refine ⟨_,(@pss_cons _ _ _ _ _ (@ps_put _ _ 3 _ _ _ _ (by rfl) (by first | exact .inl rfl | exact .inr rfl | assumption) S.nd rfl (Or.inr rfl) (pe_call G_square_size (hr.mono (by decide)) rfl T.mg_square_size T.F_square_size.kp T.b_square_size .nil (passF L) (@pa_mor _ _ _ _ _ (by rfl) (pv 1) pa_nil)))
      (@pss_cons _ _ _ _ _ (@ps_put _ _ 4 _ _ _ _ (by rfl) (by first | exact .inl rfl | exact .inr rfl | assumption) S.nd rfl (Or.inl rfl) (pe_call G_reduced (hr.mono (by decide)) rfl T.mg_reduced T.F_reduced.kp T.b_reduced .nil pass0 (@pa_mor _ _ _ _ _ (by rfl) (pv 0) (@pa_mor _ _ _ _ _ (by rfl) (pe_call G_beside (hr.mono (by decide)) rfl T.mg_beside T.F_beside.kp T.b_beside .nil pass0 (@pa_mor _ _ _ _ _ (by rfl) (pv 1) (@pa_mor _ _ _ _ _ (by rfl) (pv 2) pa_nil))) pa_nil))))
      (@pss_cons _ _ _ _ _ (@ps_if _ _ _ _ _ _ _ _ (@pt_cmpR _ _ _ _ _ _ _ _ (op_neI hu8) (@pe_ix _ _ _ _ _ _ _ ix_tup (pv 4) pe_int (fun _ _=>rfl)) (pe_callTy (call_list_rng rfl) rfl T.n_list boot_list (@pa_mor _ _ _ _ _ (by rfl) (pe_callTy call_range rfl T.n_range boot_range' (@pa_mor _ _ _ _ _ (by rfl) (pv 3) pa_nil)) pa_nil)) (nomark _)) (@pss_one _ _ _ (@ps_ret _ _ _ _ pe_non)) pss_nil)
      (@pss_one _ _ _ (@ps_ret _ _ _ _ (pe_comp (N:=["row","n"]) (ρ:=(fun σ=>[σ[3]?.join])) ⟨rfl,rfl,by decide +kernel,by decide +kernel,(List.forall_mem_cons.mpr ⟨rfl,(List.forall_mem_nil _)⟩),has_of (by rfl),rfl,by decide +kernel,rfl,(fun σ j v h=>match j,h with | 0,h=>⟨3,_,rfl,rfl,join_some h,Or.inr (Or.inl rfl),.inl rfl,.inl rfl⟩ | j + 1,h=>by cases h),(fun _ _=>rfl)⟩ rfl (pi_list (@pe_ix _ _ _ _ _ _ _ ix_tup (pv 4) pe_int (fun _ _=>rfl))) (fun s₃ H₃ fp=>.nil) (fun s₃ H₃ fp=>(@pe_slice _ _ _ _ _ _ _ _ _ _ (sl_listK (K:=K)) (pv 0) (po_some (pv 1)) po_none)))))))),?_⟩
    have lz:(List.zipWith (· ++ ·) pss uss).length = pss.length:=by rw [List.length_zipWith,lu,Nat.min_self]
    refine ⟨_,rfl,a,q,B,pss,pss.length,rfl,hA,n1,n40,hm,fun h=>absurd rfl h,fun _ H1 s1=>?_⟩
    dsimp only [gName]
    simp only [L2.start,List.length_cons,List.length_nil,List.map_cons,List.map_nil,List.replicate,List.cons_append,List.nil_append,List.set_cons_zero,List.set_cons_succ]
    refine ⟨_,rfl,_,rfl,_,rfl,a,b,q,B,pss,uss,pss.length,u,rfl,hA.mono s1,hU.mono s1,lu.symm,n40,hm,hu,n40,u40,fun r H2 s2 nr hT=>?_⟩
    refine ⟨z,r,q,B,PP,pss.length + u,List.zipWith (· ++ ·) pss uss,G,rfl,(hz.mono s1).mono s2,hq,hT,B1,B150,by omega,by omega,hw,by omega,fun i hi=>hE i (by omega),hG,by rw [lz]; exact hP,by rw [lz]; exact hmid,fun p rr l H3 AA M c LL last rss s3 ep el hR R=>?_⟩
    rw [lz] at hR
    dsimp only [gName]
    simp only [List.set_cons_zero,List.set_cons_succ]
    have s03:=s1.trans (s2.trans s3)
    refine ⟨_,rfl,p,_,_,_,rfl,rfl,.of ep,rfl,_,rfl,(pss.length:Int),rfl,fun pr npr=>?_⟩
    have s4:Same H3 (upd H3 pr (.rng 0 (pss.length:Int))):=same_upd npr
    have er4:upd H3 pr (.rng 0 (pss.length:Int)) pr = some (.rng 0 (pss.length:Int)):=upd_same
    generalize upd H3 pr (.rng 0 (pss.length:Int)) = H4 at s4 er4 ⊢
    refine ⟨pr,pss.length,rfl,er4,by omega,fun lr nlr=>?_⟩
    have s5:Same H4 (upd H4 lr (.lst (upto pss.length))):=same_upd nlr
    have el5:upd H4 lr (.lst (upto pss.length)) lr = some (.lst (upto pss.length)):=upd_same
    generalize upd H4 lr (.lst (upto pss.length)) = H5 at s5 el5 ⊢
    rw [upto_nats] at el5
    have s35:=s4.trans s5
    refine ⟨l,lr,LL.map (fun j:Nat=>(j:Int)),(List.range pss.length).map (fun j:Nat=>(j:Int)),rfl,rfl,.of (s35 _ _ el),.of el5,_,rfl,ite2 (fun hne=>?_) (fun hne=>?_)⟩
    · refine kN H5 AA M c LL last rss (s03.trans s35) R fun e=>?_
      rw [e] at hne
      simp at hne
    · have eL:LL = List.range pss.length:=nats_inj (by simpa using hne)
      subst eL
      have hR5:=hR.mono s35
      obtain ⟨vs,er,lv,fv⟩:=id hR5
      have lr:rss.length = pss.length:=by rw [R.len,List.length_range]
      dsimp only [tNext]
      refine ret_of (comp_ofN (xs:=vs) (fun R h=>⟨_,rfl,p,_,_,_,rfl,rfl,.of (s35 _ _ ep),rfl,rr,rfl,⟨_,.of er⟩,h _ _ (Same.refl _) (jseq_list (.of er))⟩) (by rw [lv]; exact small1000 (by omega)) (fun D j y Hx=>∃ x:Addr,y = .ref x∧x ≠ D∧H x = none∧RowG (pss.length * (facN pss.length * PP)) Hx q x ((rss.getD j []).drop pss.length)) (fun D j y Ha Hb ys ⟨x,h1,h2,h3,⟨ws,e1,e2,e3⟩⟩ e f=>⟨x,h1,h2,h3,⟨ws,f _ _ h2 e1,e2,fun j v p x y=>(e3 j v p x y).far e f⟩⟩) ?_ ?_)
      · intro D j v hj Hc R' sc ⟨zs,eD⟩ kc
        have j1:j < vs.length:=(List.getElem?_eq_some_iff.mp hj).1
        have j2:j < rss.length:=by omega
        obtain ⟨x,rfl,ws,ew,lw,fw⟩:=fv j v rss[j] hj (by simp [j2])
        have lW:=R.wid _ (List.getElem_mem j2)
        refine ⟨_,rfl,_,rfl,_,rfl,x,ws,rfl,.of (sc _ _ ew),fun r' nr'=>?_⟩
        rw [cutV_drop _ _ (by omega)]
        have s6:Same Hc (upd Hc r' (.lst (ws.drop pss.length))):=same_upd nr'
        refine kc _ _ s6 ⟨r',rfl,(fun e=>by rw [e,eD] at nr'; cases nr'),none_of (s03.trans (s35.trans sc)) nr',?_⟩
        rw [getD_at j2]
        exact RowG.drop upd_same lw fun i v p h1 h2=>((fw i v p h1 h2).mono sc).mono s6
      · intro D ys H6 nD s6 lys hP6 eD
        refine k H6 AA M c last rss D (s03.trans (s35.trans s6)) R ⟨H3,rr,hR⟩ ⟨ys,eD,by rw [lys,lv,List.length_map],none_of (s03.trans s35) nD,fun j v ps h1 h2=>?_⟩
        obtain ⟨x,e1,e2,e3,e4⟩:=hP6 j v h1
        have j2:j < rss.length:=by
          have:=(List.getElem?_eq_some_iff.mp h2).1
          simpa using this
        rw [List.getElem?_map] at h2
        simp [j2] at h2
        rw [getD_at j2] at e4
        subst h2
        exact ⟨x,e1,e2,e3,e4⟩
theorem sc_move_of:FnScope ["world","rows","leads","wide","free","move","row","lead"] ["world","rows","leads","wide","free"] (defScope s_move_of):=⟨rfl,rfl,rfl,by decide +kernel,rfl,by decide +kernel,by decide +kernel⟩
theorem ok_move_of (T:Txt K mg t):FnOk P w K mg base CX0 5 t.f_move_of t.d_move_of ["world","rows","leads","wide","free"] (spMove t.C_World):=by
  have S:=sc_move_of
  have G_World_of:=ok_of (P:=P) (w:=w) (base:=base) T
  have G_World_minus:=ok_minus (P:=P) (w:=w) (base:=base) T
  obtain ⟨dv,hd1,hb1⟩:=T.b1_World_of
  refine T.F_move_of.ok S (fun vs H Q E h=>?_) (fun cdv A outer s H vs Q E hr h=>?_)
  · obtain ⟨z,ra,la,q,B,W,wide,free,rss,L,rfl,_⟩:=h
    rfl
  · obtain ⟨z,ra,la,q,B,W,wide,free,rss,L,rfl,hz,hq,hR,B1,B2,hW,el,lr,L40,hL,w40,wW,hf,k⟩:=h
    refine ⟨_,(@pss_cons _ _ _ _ _ (@ps_put _ _ 5 _ _ _ _ (by rfl) (by first | exact .inl rfl | exact .inr rfl | assumption) S.nd rfl (Or.inl rfl) (@pe_op _ _ _ _ _ _ _ _ op_rep (@pe_lst _ _ _ _ (@pa_mor _ _ _ _ _ (by rfl) (pe_meth (pv 0) T.cl_World T.m_World_of G_World_of (hr.mono (by decide)) hb1 hd1 passN (@pa_mor _ _ _ _ _ (by rfl) pe_int pa_nil)) pa_nil)) (pv 3)))
      (@pss_cons _ _ _ _ _ (@ps_asg _ _ _ _ _ _ (pe_meth (pv 0) T.cl_World T.m_World_of G_World_of (hr.mono (by decide)) hb1 hd1 passN (@pa_mor _ _ _ _ _ (by rfl) pe_int pa_nil)) (pg_sub (pv 5) (pv 4) set_list) (by rfl) (by rfl) (by rfl))
      (@pss_cons _ _ _ _ _ (ps_for PassesOwn.never rfl (pi_zip rfl T.n_zip (@pa_mor _ _ _ _ _ (by rfl) (pv 1) (@pa_mor _ _ _ _ _ (by rfl) (pv 2) pa_nil))) (pg_tup rfl (pgs_cons (pg_name (i:=6) S.nd rfl (Or.inl rfl)) (pgs_cons (pg_name (i:=7) S.nd rfl (Or.inl rfl)) pgs_nil)))
        (@pss_one _ _ _ (@ps_asg _ _ _ _ _ _ (pe_meth (pv 0) T.cl_World T.m_World_minus G_World_minus (hr.mono (by decide)) T.b_World_minus .nil pass0 (@pa_mor _ _ _ _ _ (by rfl) (pe_meth (pv 0) T.cl_World T.m_World_of G_World_of (hr.mono (by decide)) hb1 hd1 passN (@pa_mor _ _ _ _ _ (by rfl) pe_int pa_nil)) (@pa_mor _ _ _ _ _ (by rfl) (@pe_ix _ _ _ _ _ _ _ ix_list (pv 6) (pv 4) (fun _ _=>rfl)) pa_nil))) (pg_sub (pv 5) (pv 7) set_list) (by rfl) (by rfl) (by rfl))))
      (@pss_one _ _ _ (@ps_ret _ _ _ _ (pv 5)))))),?_⟩
    obtain ⟨dz,hd⟩:=id hz
    have nv:=one_noOv hq
    refine ⟨_,rfl,z,dz,_,rfl,hd,lk_no (by decide +kernel),z,q,0,1,rfl,⟨dz,hd⟩,hq,Mid.of_lt (by decide) (by decide),fun h=>absurd h nv,fun _ v0 H1 s1 ho=>?_⟩
    refine ⟨by show 1 ≤ sizeLine; decide,fun l nl=>?_⟩
    have sl:Same H1 (upd H1 l (.lst [v0])):=same_upd nl
    have el':upd H1 l (.lst [v0]) l = some (.lst [v0]):=upd_same
    have h0:=of_small (B:=B) (by omega) (ho.mono sl) hq (.inl rfl)
    generalize upd H1 l (.lst [v0]) = H2 at sl el' h0 ⊢
    refine ⟨_,rfl,l,(wide:Int),[v0],rfl,rfl,el',by omega,by omega,?_,fun r nr=>?_⟩
    · rw [Int.toNat_natCast]
      exact Nat.le_trans (show [v0].length * wide ≤ 40 by simp; exact w40) (by decide)
    rw [Int.toNat_natCast,show (List.replicate wide [v0]).flatten = List.replicate wide v0 by
      clear hf wW hL k
      induction wide with
      | zero=>rfl
      | succ n ih=>simp [List.replicate_succ]]
    have sr:Same H2 (upd H2 r (.lst (List.replicate wide v0))):=same_upd nr
    have er:upd H2 r (.lst (List.replicate wide v0)) r = some (.lst (List.replicate wide v0)):=upd_same
    have h0:=h0.mono sr
    generalize upd H2 r (.lst (List.replicate wide v0)) = H3 at sr er h0 ⊢
    have s3:=s1.trans (sl.trans sr)
    have nrH:H r = none:=none_of (s1.trans sl) nr
    dsimp only [gName]
    simp only [L2.start,List.length_cons,List.length_nil,List.map_cons,List.map_nil,List.replicate,List.cons_append,List.nil_append,List.set_cons_zero,List.set_cons_succ]
    refine ⟨_,rfl,z,dz,_,rfl,s3 _ _ hd,lk_no (by decide +kernel),z,q,1,1,rfl,⟨dz,s3 _ _ hd⟩,hq,Mid.of_lt (by decide) (by decide),fun h=>absurd h nv,fun _ v1 H4 s4 ho1=>?_⟩
    have h1:=of_small (B:=B) (by omega) ho1 hq (.inr rfl)
    refine ⟨_,rfl,_,rfl,r,_,_,free,rfl,rfl,s4 _ _ er,?_,?_⟩
    · unfold ixN
      rw [if_pos (by omega),if_pos (by simp; exact hf),Int.toNat_natCast]
    have hrow:RowG B (upd H4 r (.lst ((List.replicate wide v0).set free v1))) q r (((List.replicate wide ((0:Int),(1:Int)))).set free (1,1)):=by
      refine ⟨_,upd_same,by simp,fun j v p hv hp=>?_⟩
      have far:∀ b o,b ≠ r→H4 b = some o→upd H4 r (.lst ((List.replicate wide v0).set free v1)) b = some o:=fun b o nb e=>by rw [upd_ne nb]; exact e
      have hj:j < wide:=by
        have:=(List.getElem?_eq_some_iff.mp hv).1
        simpa using this
      by_cases y:j = free
      · subst y
        rw [List.getElem?_set_self (by simpa using hj)] at hv hp
        cases hv
        cases hp
        exact h1.far (s4 _ _ er) far
      · rw [List.getElem?_set_ne (by omega)] at hv hp
        simp [hj] at hv hp
        subst hv hp
        exact (h0.mono s4).far (s4 _ _ er) far
    have s5:Same H (upd H4 r (.lst ((List.replicate wide v0).set free v1))):=same_but (s3.trans s4) nrH
    dsimp only
    generalize upd H4 r (.lst ((List.replicate wide v0).set free v1)) = H5 at hrow s5 ⊢
    obtain ⟨vs,ea,lv,fv⟩:=id hR
    have lN:(natsV L).length = L.length:=by simp [natsV]
    refine ⟨_,rfl,_,rfl,ra,la,rfl,⟨_,.of (s5 _ _ ea)⟩,⟨_,.of (s5 _ _ el)⟩,?_⟩
    refine for_zip (K:=K) (xs:=vs) (ys:=natsV L) (fun i σ Hc=>Same H Hc∧∃ (ps:List (Int × Int)) (v6 v7:Option V),σ = [some (.ref z),some (.ref ra),some (.ref la),some (.int (wide:Int)),some (.int (free:Int)),some (.ref r),v6,v7]∧RowG B Hc q r ps∧ps.length = wide) ⟨s5,_,none,none,rfl,hrow,by simp⟩ (fun i σ Hc ⟨sc,_⟩=>⟨.of (sc _ _ ea),.of (sc _ _ el)⟩) ?_ ?_
    · rintro i x y σ Hc Tt hxy ⟨sc,ps,v6,v7,rfl,hr',lp⟩ nT
      obtain ⟨e1,e2⟩:=List.getElem?_zip_eq_some.mp hxy
      have i1:i < vs.length:=(List.getElem?_eq_some_iff.mp e1).1
      have i2:i < rss.length:=by omega
      have i3:i < L.length:=by omega
      obtain ⟨rx,rfl,ws,ew,lw,fw⟩:=fv i x rss[i] e1 (by simp [i2])
      have ey:y = .int ((L.getD i 0:Nat):Int):=by
        unfold natsV at e2
        rw [List.getElem?_map,List.getElem?_map] at e2
        simp [i3] at e2
        rw [getD_at i3]
        exact e2.symm
      subst ey
      have cW:L.getD i 0 < wide:=hL _ (by rw [getD_at i3]; exact List.getElem_mem _)
      have sT:Same Hc (upd Hc Tt (.tup [.ref rx,.int ((L.getD i 0:Nat):Int)])):=same_upd nT
      have eT:upd Hc Tt (.tup [.ref rx,.int ((L.getD i 0:Nat):Int)]) Tt = some (.tup [.ref rx,.int ((L.getD i 0:Nat):Int)]):=upd_same
      generalize upd Hc Tt (.tup [.ref rx,.int ((L.getD i 0:Nat):Int)]) = Hd at sT eT ⊢
      have sd:=sc.trans sT
      refine ⟨Tt,_,rfl,.of eT,rfl,_,_,rfl,_,_,rfl,rfl,?_⟩
      have lW:=hW _ (List.getElem_mem i2)
      have f1:free < ws.length:=by omega
      have f2:free < rss[i].length:=by omega
      have zf:=(fw free ws[free] rss[i][free] (by simp [f1]) (by simp [f2])).mono sd
      have atf:atI ws (free:Int) = some ws[free]:=atI_nat (by simp [f1])
      refine ⟨_,rfl,z,dz,_,rfl,sd _ _ hd,lk_no (by decide +kernel),_,rfl,z,dz,_,rfl,sd _ _ hd,lk_no (by decide +kernel),z,q,0,1,rfl,⟨dz,sd _ _ hd⟩,hq,Mid.of_lt (by decide) (by decide),fun h=>absurd h nv,fun _ v2 H6 s6 ho2=>?_⟩
      have h2:=of_small (B:=B) (by omega) ho2 hq (.inl rfl)
      refine ⟨_,rfl,_,rfl,rx,ws,_,_,rfl,rfl,.of (s6 _ _ (sd _ _ ew)),atf,?_⟩
      obtain ⟨b1,b2⟩:=zf.both B1
      have big:∀ {x:Int},x.natAbs ≤ B→Big x:=fun h=>Nat.le_trans h (Nat.le_trans B2 (by decide +kernel))
      dsimp only [tNil,List.cons_append,List.nil_append]
      refine minus_is (hz.mono (sd.trans s6)) hq (h2.isN hq) ((zf.mono s6).isN hq) (big (by simp)) (big (by show 1 ≤ B; omega)) (big b1) (big b2) fun v' H7 s7 hN=>?_
      obtain ⟨p',hp',_⟩:=isN_num (B:=B) hN hq (by rw [show (0:Int) * rss[i][free].2 - rss[i][free].1 * 1 = -rss[i][free].1 by omega,Int.natAbs_neg]; exact b1) (by rw [Int.one_mul]; exact b2)
      have s17:=sT.trans (s6.trans s7)
      have hr7:=hr'.mono s17
      obtain ⟨us,eu,lu,fu⟩:=hr7
      refine ⟨_,rfl,_,rfl,r,us,_,L.getD i 0,rfl,rfl,eu,?_,?_⟩
      · unfold ixN
        rw [if_pos (by omega),if_pos (by omega),Int.toNat_natCast]
      · refine ⟨same_but (sc.trans s17) nrH,ps.set (L.getD i 0) p',_,_,rfl,⟨_,upd_same,by rw [List.length_set,List.length_set]; exact lu,fun j v p h1 h2=>?_⟩,by rw [List.length_set]; exact lp⟩
        by_cases y:j = L.getD i 0
        · subst y
          rw [List.getElem?_set_self (by omega)] at h1 h2
          cases h1
          cases h2
          exact hp'.far eu upd_far
        · rw [List.getElem?_set_ne (fun e=>y e.symm)] at h1 h2
          exact (fu j v p h1 h2).far eu upd_far
    · rintro σ Hc ⟨sc,ps,v6,v7,rfl,hr',lp⟩
      exact ⟨_,rfl,k r ps Hc sc nrH hr' lp⟩
theorem inV_nats {L:List Nat} {i:Nat}:inV (.int (i:Int)) (natsV L) = decide (i ∈ L):=by
  unfold natsV
  induction L with
  | nil=>rfl
  | cons a L ih=>
    show (eqV (.int (a:Int)) (.int (i:Int)) || inV (.int (i:Int)) ((L.map fun j:Nat=>(j:Int)).map V.int)) = _
    rw [ih]
    by_cases e:i = a
    · subst e
      rw [eqV_self rfl,Bool.true_or,decide_eq_true List.mem_cons_self]
    · have h:eqV (.int (a:Int)) (.int (i:Int)) = false:=by
        show ((a:Int) == (i:Int)) = false
        simp
        omega
      rw [h,Bool.false_or]
      simp [e]
theorem nats_flat {L:List Nat}:(natsV L).all flatV = true:=by
  unfold natsV
  rw [List.all_eq_true]
  intro v hv
  obtain ⟨i,_,e⟩:=List.mem_map.mp hv
  rw [← e]
  rfl
theorem sc_some_move:FnScope ["world","table","wide","told","free"] ["world","table"] (defScope s_some_move):=⟨rfl,rfl,rfl,by decide +kernel,rfl,by decide +kernel,by decide +kernel⟩
theorem ok_some_move (T:Txt K mg t):FnOk P w K mg base CX0 6 t.f_some_move t.d_some_move ["world","table"] (spSome t.C_World):=by
  have S:=sc_some_move
  have G_width:=ok_width (P:=P) (w:=w) (base:=base) T
  have G_reduced:=ok_reduced (P:=P) (w:=w) (base:=base) T
  have G_move_of:=ok_move_of (P:=P) (w:=w) (base:=base) T
  refine T.F_some_move.ok S (fun vs H Q E h=>?_) (fun cdv A outer s H vs Q E hr h=>?_)
  · obtain ⟨z,a,q,B,P,pss,G,rfl,_⟩:=h
    rfl
  · obtain ⟨z,a,q,B,PP,pss,G,rfl,hz,hq,hA,B1,B150,n1,n40,hm,hE,hG,hP,hmid,hk,k⟩:=h
    refine ⟨_,(@pss_cons _ _ _ _ _ (@ps_put _ _ 2 _ _ _ _ (by rfl) (by first | exact .inl rfl | exact .inr rfl | assumption) S.nd rfl (Or.inl rfl) (pe_call G_width (hr.mono (by decide)) rfl T.mg_width T.F_width.kp T.b_width .nil passN (@pa_mor _ _ _ _ _ (by rfl) (pv 1) pa_nil)))
      (@pss_cons _ _ _ _ _ (@ps_put _ _ 3 _ _ _ _ (by rfl) (by first | exact .inl rfl | exact .inr rfl | assumption) S.nd rfl (Or.inr rfl) (pe_call G_reduced (hr.mono (by decide)) rfl T.mg_reduced T.F_reduced.kp T.b_reduced .nil pass0 (@pa_mor _ _ _ _ _ (by rfl) (pv 0) (@pa_mor _ _ _ _ _ (by rfl) (pv 1) pa_nil))))
      (@pss_cons _ _ _ _ _ (ps_comp (i0:=4) (N:=["place","told"]) (ρ:=(fun σ=>[σ[3]?.join])) ⟨rfl,rfl,by decide +kernel,by decide +kernel,(List.forall_mem_cons.mpr ⟨rfl,(List.forall_mem_nil _)⟩),has_of (by rfl),rfl,by decide +kernel,rfl,(fun σ j v h=>match j,h with | 0,h=>⟨3,_,rfl,rfl,join_some h,Or.inr (Or.inl rfl),.inl rfl,.inl rfl⟩ | j + 1,h=>by cases h),(fun _ _=>rfl)⟩ rfl S.nd rfl (Or.inl rfl) (pi_range1 rfl T.n_range (@pa_mor _ _ _ _ _ (by rfl) (pv 2) pa_nil)) (fun s₃ H₃ fp=>(.one (@pt_cmpR _ _ _ _ _ _ _ _ (op_notInK (K:=K)) (pv 0) (@pe_ix _ _ _ _ _ _ _ (ix_tupK (K:=K)) (pv 1) pe_int (fun _ _=>rfl)) rfl))) (fun s₃ H₃ fp=>(pv 0)))
      (@pss_cons _ _ _ _ _ (@ps_if _ _ _ _ _ _ _ _ (@pt_cmpR _ _ _ _ _ _ _ _ op_eq (pe_callB call_len_seq rfl T.n_len boot_len (@pa_mor _ _ _ _ _ (by rfl) (pv 4) pa_nil)) pe_int (nomark _)) (@pss_one _ _ _ (@ps_ret _ _ _ _ pe_non)) pss_nil)
      (@pss_one _ _ _ (@ps_ret _ _ _ _ (pe_call G_move_of (hr.mono (by decide)) rfl T.mg_move_of T.F_move_of.kp T.b_move_of .nil pass0 (@pa_mor _ _ _ _ _ (by rfl) (pv 0) (@pa_mor _ _ _ _ _ (by rfl) (@pe_ix _ _ _ _ _ _ _ ix_tup (pv 3) pe_int (fun _ _=>rfl)) (@pa_mor _ _ _ _ _ (by rfl) (@pe_ix _ _ _ _ _ _ _ ix_tup (pv 3) pe_int (fun _ _=>rfl)) (@pa_mor _ _ _ _ _ (by rfl) (pv 2) (@pa_mor _ _ _ _ _ (by rfl) (@pe_ix _ _ _ _ _ _ _ ix_list (pv 4) pe_int (fun _ _=>rfl)) pa_nil)))))))))))),?_⟩
    refine ⟨_,rfl,a,q,B,pss,pss.length,rfl,hA,n1,n40,hm,fun H1 s1=>?_⟩
    dsimp only [gName]
    simp only [L2.start,List.length_cons,List.length_nil,List.map_cons,List.map_nil,List.replicate,List.cons_append,List.nil_append,List.set_cons_zero,List.set_cons_succ]
    refine ⟨_,rfl,_,rfl,z,a,q,B,PP,pss.length,pss,G,rfl,hz.mono s1,hq,hA.mono s1,B1,B150,n1,n40,hm,by omega,hE,hG,hP,Nat.lt_of_le_of_lt hmid (by decide +kernel),fun p rr l H2 AA M c L last rss s2 ep el hR R=>?_⟩
    have hb:∀ ps ∈ pss,∀ p ∈ ps,BotOk q p.2:=fun ps h1 p h2=>(hA.nums hq ps h1 p h2).2.1
    have repP:=hA.rep hq rfl hm
    have neL:L ≠ List.range pss.length:=fun e=>by
      subst e
      exact ker_noKer hk (R.noKerG hq rfl rfl hm (fun _ _ _ _=>rfl) (Nat.le_refl _) hb) repP
    obtain ⟨c0,c0n,c0L⟩:∃ c,c < pss.length∧c ∉ L:=Classical.byContradiction fun y=>neL (rise_range R.red.rd.up R.red.rd.len fun c hc=>Classical.byContradiction fun x=>y ⟨c,hc,x⟩)
    have hL:∀ l ∈ L,l < pss.length:=R.red.rd.lt
    have ln:=R.red.rd.len
    dsimp only [gName]
    simp only [List.set_cons_zero,List.set_cons_succ]
    refine seq_of (asg_of (comp_filt (xs:=(List.range pss.length).map fun i:Nat=>V.int (0 + (i:Int))) (fun i=>!decide (i ∈ L)) (fun R h=>⟨_,rfl,(pss.length:Int),rfl,by omega,by omega,h _ _ (Same.refl _) (by rw [Int.toNat_natCast]; exact jseq_rng)⟩) (by rw [List.length_map,List.length_range]; exact small1000 (by omega)) ?_ (fun i x hx Hd R h=>⟨_,rfl,h⟩) ?_))
    · intro i x hx Hd R' sd h
      obtain ⟨hi,rfl⟩:=rng_at hx
      refine ⟨_,rfl,_,rfl,p,_,_,_,rfl,rfl,.of (sd _ _ ep),rfl,l,natsV L,rfl,.inl (.of (sd _ _ el)),rfl,nats_flat,_,rfl,?_⟩
      rw [if_pos rfl,inV_nats]
      exact h
    · intro D ys H3 nD s3 h1 h2 eD
      dsimp only [gName]
      simp only [List.set_cons_zero,List.set_cons_succ]
      refine ⟨_,rfl,D,ys,rfl,.inl (.of eD),rfl,_,rfl,?_⟩
      cases ys with
      | nil=>exact absurd rfl (h2 c0 (by simpa using c0n) (by simpa using c0L))
      | cons v ys'=>
        obtain ⟨f0,hf0,hx0⟩:=h1 v List.mem_cons_self
        obtain ⟨hf,rfl⟩:=rng_at hx0
        rw [dV_int,decide_eq_false (by simp; omega)]
        refine iteF ?_
        dsimp only [tNext]
        have at0:atI (V.int (f0:Int) :: ys') 0 = some (V.int (f0:Int)):=by exact atI_nat (j:=0) rfl
        have s123:=s1.trans (s2.trans s3)
        refine ⟨_,rfl,_,rfl,p,_,_,_,rfl,rfl,.of (s3 _ _ ep),rfl,_,rfl,p,_,_,_,rfl,rfl,.of (s3 _ _ ep),rfl,_,rfl,_,rfl,D,_,_,_,rfl,rfl,.of eD,at0,z,rr,l,q,pss.length * (facN pss.length * PP),pss.length,pss.length,f0,rss,L,rfl,hz.mono s123,hq,hR.mono s3,R.red.bdd,hmid,R.wid,s3 _ _ el,R.len,by omega,hL,by omega,Nat.le_refl _,hf,fun r ps H4 s4 nr hr' lp=>k r ps H4 (s123.trans s4) (none_of s123 nr) hr' lp⟩
theorem sc_joined:FnScope ["rows","told","row"] ["rows"] (defScope s_joined):=⟨rfl,rfl,rfl,by decide +kernel,rfl,by decide +kernel,by decide +kernel⟩
theorem ok_joined (T:Txt K mg t):FnOk P w K mg base CX0 1 t.f_joined t.d_joined ["rows"] spJoin:=by
  have S:=sc_joined
  refine T.F_joined.ok S (fun vs H Q E h=>?_) (fun cdv A outer s H vs Q E hr h=>?_)
  · obtain ⟨a,q,B,pss,m,rfl,_⟩:=h
    rfl
  · obtain ⟨a,q,B,pss,m,rfl,hA,n40,hm,m40,k⟩:=h
    refine ⟨_,(@pss_cons _ _ _ _ _ (@ps_put _ _ 1 _ _ _ _ (by rfl) (by first | exact .inl rfl | exact .inr rfl | assumption) S.nd rfl (Or.inl rfl) (@pe_lst _ _ _ _ pa_nil))
      (@pss_cons _ _ _ _ _ (ps_for PassesOwn.never rfl (pi_list (pv 0)) (pg_name (i:=2) S.nd rfl (Or.inl rfl))
        (@pss_one _ _ _ (ps_expr (pe_bm PySem.F.plainAttrs_list PySem.F.slot_list_extend PySem.F.type_list_extend mt_extend (pv 1) (@pa_mor _ _ _ _ _ (by rfl) (pv 2) pa_nil)))))
      (@pss_one _ _ _ (@ps_ret _ _ _ _ (pv 1))))),?_⟩
    obtain ⟨vs,ea,lv,fv⟩:=id hA
    refine ⟨by show 0 ≤ sizeLine; decide,fun l nl=>?_⟩
    have sl:Same H (upd H l (.lst [])):=same_upd nl
    have el0:upd H l (.lst []) l = some (.lst []):=upd_same
    generalize upd H l (.lst []) = H0 at sl el0 ⊢
    dsimp only [gName]
    simp only [L2.start,List.length_cons,List.length_nil,List.map_cons,List.map_nil,List.replicate,List.cons_append,List.nil_append,List.set_cons_zero,List.set_cons_succ]
    refine ⟨_,rfl,a,rfl,⟨_,.of (sl _ _ ea)⟩,?_⟩
    refine for_list (K:=K) (a:=a) (xs:=vs) (fun i σ Hc=>Same H Hc∧∃ v2:Option V,σ = [some (.ref a),some (.ref l),v2]∧RowG B Hc q l (pss.take i).flatten) ⟨sl,none,rfl,⟨[],el0,rfl,fun i v p e=>by simp at e⟩⟩ (fun i σ Hc _ ⟨sc,_⟩=>.of (sc _ _ ea)) ?_ ?_
    · rintro i v σ Hc hi ⟨sc,v2,rfl,ys,ey,ly,fy⟩
      have i1:i < vs.length:=(List.getElem?_eq_some_iff.mp hi).1
      have i2:i < pss.length:=by omega
      obtain ⟨r,rfl,ws,ew,lw,fw⟩:=fv i v pss[i] hi (by simp [i2])
      have lW:=hm _ (List.getElem_mem i2)
      have lt:((pss.take i).flatten).length ≤ 40 * 40:=by
        rw [List.length_flatten]
        have:∀ (l:List (List (Int × Int))),(∀ ps ∈ l,ps.length = m)→(l.map List.length).sum = l.length * m:=fun l=>by
          induction l with
          | nil=>intro _; simp
          | cons x l ih=>
            intro h
            rw [List.map_cons,List.sum_cons,ih fun ps hp=>h ps (List.mem_cons_of_mem _ hp),h x List.mem_cons_self,List.length_cons,Nat.succ_mul]
            omega
        rw [this _ fun ps hp=>hm ps (List.mem_of_mem_take hp)]
        exact Nat.mul_le_mul (by rw [List.length_take]; omega) m40
      refine drop_of ⟨_,rfl,.inl ⟨rfl,_,.of ey⟩,_,rfl,l,r,ys,ws,rfl,rfl,ey,sc _ _ ew,Nat.le_trans (show _ ≤ 2000 by omega) (by decide),?_⟩
      refine ⟨same_but sc nl,_,rfl,?_⟩
      have tk:(pss.take (i + 1)).flatten = (pss.take i).flatten ++ pss[i]:=by
        have e:pss.take (i + 1) = pss.take i ++ [pss[i]]:=by rw [List.take_succ]; simp [i2]
        rw [e,List.flatten_append]
        simp
      rw [tk]
      exact RowG.cat (B:=B) upd_same ly lw (fun j v p h1 h2=>(fy j v p h1 h2).far ey upd_far) (fun j v p h1 h2=>((fw j v p h1 h2).mono sc).far ey upd_far)
    · rintro σ Hc ⟨sc,v2,rfl,hr'⟩
      rw [lv,List.take_length] at hr'
      exact ⟨_,rfl,k l Hc sc nl hr'⟩
def spTwoU (C N:Addr):Sp:=fun vs H Q E=>∃ (z a b d:Addr) (q:Int) (pss rss:List (List (Int × Int))) (xs:List V) (m u:Nat),vs = [.ref z,.ref a,.ref b,.ref d]∧WorldAt C H z q∧WheelN q∧TabB (10 ^ 6) H q a pss∧TabB (10 ^ 6) H q b rss∧H d = some (.lst xs)∧1 ≤ pss.length∧pss.length ≤ 40∧1 ≤ rss.length∧rss.length ≤ 40∧(∀ ps ∈ pss,ps.length = m)∧(∀ ps ∈ rss,ps.length = u)∧m ≤ 40∧u ≤ 40∧
  (m ≠ pss.length ∨ u ≠ rss.length ∨ 40 < pss.length * rss.length ∨ xs.length ≠ pss.length * rss.length→∀ H',Same H H'→E (.ref N) none H')∧
  (m = pss.length→u = rss.length→pss.length * rss.length ≤ 40→xs.length = pss.length * rss.length→pss.length ≤ 3∧rss.length ≤ 3∧(∃ as,RowG (10 ^ 6) H q d as∧Nums0 as)∧(∀ ps ∈ pss,Nums0 ps)∧(∀ ps ∈ rss,Nums0 ps)∧(KerP q m pss ∨ KerP q u rss→∀ (tp:Addr) (ys:List V) (H':Hp),Same H H'→H' tp = some (.tup (.str "loose" :: ys))→Q (.ref tp) H')∧(NoKer q m pss→NoKer q u rss→∀ (tp:Addr) (ys:List V) (H':Hp),Same H H'→H' tp = some (.tup (.str "one" :: ys))→Q (.ref tp) H'))
theorem sc_twofold_undone:FnScope ["world","one","other","aim","n","k","half","whole"] ["world","one","other","aim"] (defScope s_twofold_undone):=⟨rfl,rfl,rfl,by decide +kernel,rfl,by decide +kernel,by decide +kernel⟩
theorem ok_twofold_undone (T:Txt K mg t):FnOk P w K mg base (CXF P w) 7 t.f_twofold_undone t.d_twofold_undone ["world","one","other","aim"] (spTwoU t.C_World t.C_NoFit):=by
  have S:=sc_twofold_undone
  have G_square_size:=ok_square_size (P:=P) (w:=w) (base:=base) T
  have G_check_sizes:=ok_check_sizes (P:=P) (w:=w) (base:=base) T
  have G_check_aim:=ok_check_aim (P:=P) (w:=w) (base:=base) T
  have G_back_times:=ok_back_times (P:=P) (w:=w) (base:=base) T
  have G_twofold_row:=ok_twofold_row (P:=P) (w:=w) (base:=base) T
  have G_some_move:=ok_some_move (P:=P) (w:=w) (base:=base) T
  have G_one_table_row:=ok_one_table_row (P:=P) (w:=w) (base:=base) T
  have G_columns:=ok_columns (P:=P) (w:=w) (base:=base) T
  have G_joined:=ok_joined (P:=P) (w:=w) (base:=base) T
  refine T.F_twofold_undone.okX S (fun vs H Q E h=>?_) (fun cdv A outer s H vs Q E hr h L=>?_)
  · obtain ⟨z,a,b,d,q,pss,rss,xs,m,u,rfl,_⟩:=h
    rfl
  · obtain ⟨z,a,b,d,q,pss,rss,xs,m,u,rfl,hz,hq,hA,hB,ed,n1,n40,k1,k40,hm,hu,m40,u40,kE,kk⟩:=h
    refine ⟨_,(@pss_cons _ _ _ _ _ (@ps_put _ _ 4 _ _ _ _ (by rfl) (by first | exact .inl rfl | exact .inr rfl | assumption) S.nd rfl (Or.inl rfl) (pe_call G_square_size (hr.mono (by decide)) rfl T.mg_square_size T.F_square_size.kp T.b_square_size .nil (passF L) (@pa_mor _ _ _ _ _ (by rfl) (pv 1) pa_nil)))
      (@pss_cons _ _ _ _ _ (@ps_put _ _ 5 _ _ _ _ (by rfl) (by first | exact .inl rfl | exact .inr rfl | assumption) S.nd rfl (Or.inr rfl) (pe_call G_square_size (hr.mono (by decide)) rfl T.mg_square_size T.F_square_size.kp T.b_square_size .nil (passF L) (@pa_mor _ _ _ _ _ (by rfl) (pv 2) pa_nil)))
      (@pss_cons _ _ _ _ _ (ps_expr (pe_call G_check_sizes (hr.mono (by decide)) rfl T.mg_check_sizes T.F_check_sizes.kp T.b_check_sizes .nil (passF L) (@pa_mor _ _ _ _ _ (by rfl) (pv 1) (@pa_mor _ _ _ _ _ (by rfl) (pv 2) pa_nil))))
      (@pss_cons _ _ _ _ _ (ps_expr (pe_call G_check_aim (hr.mono (by decide)) rfl T.mg_check_aim T.F_check_aim.kp T.b_check_aim .nil (passF L) (@pa_mor _ _ _ _ _ (by rfl) (@pe_op _ _ _ _ _ _ _ _ op_mul (pv 4) (pv 5)) (@pa_mor _ _ _ _ _ (by rfl) (pv 3) pa_nil))))
      (@pss_cons _ _ _ _ _ (@ps_put _ _ 6 _ _ _ _ (by rfl) (by first | exact .inl rfl | exact .inr rfl | assumption) S.nd rfl (Or.inl rfl) (pe_call G_back_times (hr.mono (by decide)) rfl T.mg_back_times T.F_back_times.kp T.b_back_times .nil (passF L) (@pa_mor _ _ _ _ _ (by rfl) (pv 0) (@pa_mor _ _ _ _ _ (by rfl) (pv 1) (@pa_mor _ _ _ _ _ (by rfl) (pe_comp (N:=["i","aim","k"]) (ρ:=(fun σ=>[σ[3]?.join,σ[5]?.join])) ⟨rfl,rfl,by decide +kernel,by decide +kernel,(List.forall_mem_cons.mpr ⟨rfl,(List.forall_mem_cons.mpr ⟨rfl,(List.forall_mem_nil _)⟩)⟩),has_of (by rfl),rfl,by decide +kernel,rfl,(fun σ j v h=>match j,h with | 0,h=>⟨3,_,rfl,rfl,join_some h,Or.inr (Or.inl rfl),.inl rfl,.inl rfl⟩ | 1,h=>⟨5,_,rfl,rfl,join_some h,Or.inr (Or.inl rfl),.inl rfl,.inl rfl⟩ | j + 2,h=>by cases h),(fun _ _=>rfl)⟩ rfl (pi_range1 rfl T.n_range (@pa_mor _ _ _ _ _ (by rfl) (pv 4) pa_nil)) (fun s₃ H₃ fp=>.nil) (fun s₃ H₃ fp=>(@pe_slice _ _ _ _ _ _ _ _ _ _ (sl_listK (K:=K)) (pv 1) (po_some (@pe_op _ _ _ _ _ _ _ _ op_mul (pv 0) (pv 2))) (po_some (@pe_op _ _ _ _ _ _ _ _ op_add (@pe_op _ _ _ _ _ _ _ _ op_mul (pv 0) (pv 2)) (pv 2)))))) pa_nil)))))
      (@pss_cons _ _ _ _ _ (@ps_if _ _ _ _ _ _ _ _ (@pt_cmpR _ _ _ _ _ _ _ _ op_isN (pv 6) pe_non (nomark _)) (@pss_one _ _ _ (@ps_ret _ _ _ _ (@pe_tup _ _ _ _ _ (@pa_mor _ _ _ _ _ (by rfl) pe_str (@pa_mor _ _ _ _ _ (by rfl) pe_int (@pa_mor _ _ _ _ _ (by rfl) (pe_call G_twofold_row (hr.mono (by decide)) rfl T.mg_twofold_row T.F_twofold_row.kp T.b_twofold_row .nil pass0 (@pa_mor _ _ _ _ _ (by rfl) (pv 0) (@pa_mor _ _ _ _ _ (by rfl) (pe_call G_some_move (hr.mono (by decide)) rfl T.mg_some_move T.F_some_move.kp T.b_some_move .nil pass0 (@pa_mor _ _ _ _ _ (by rfl) (pv 0) (@pa_mor _ _ _ _ _ (by rfl) (pv 1) pa_nil))) (@pa_mor _ _ _ _ _ (by rfl) (pe_call G_one_table_row (hr.mono (by decide)) rfl T.mg_one_table_row T.F_one_table_row.kp T.b_one_table_row .nil pass0 (@pa_mor _ _ _ _ _ (by rfl) (pv 0) (@pa_mor _ _ _ _ _ (by rfl) (pv 5) (@pa_mor _ _ _ _ _ (by rfl) pe_int pa_nil)))) pa_nil)))) pa_nil)))))) pss_nil)
      (@pss_cons _ _ _ _ _ (@ps_put _ _ 7 _ _ _ _ (by rfl) (by first | exact .inl rfl | exact .inr rfl | assumption) S.nd rfl (Or.inl rfl) (pe_call G_back_times (hr.mono (by decide)) rfl T.mg_back_times T.F_back_times.kp T.b_back_times .nil (passF L) (@pa_mor _ _ _ _ _ (by rfl) (pv 0) (@pa_mor _ _ _ _ _ (by rfl) (pv 2) (@pa_mor _ _ _ _ _ (by rfl) (pe_call G_columns (hr.mono (by decide)) rfl T.mg_columns T.F_columns.kp T.b_columns .nil pass0 (@pa_mor _ _ _ _ _ (by rfl) (pv 6) pa_nil)) pa_nil)))))
      (@pss_cons _ _ _ _ _ (@ps_if _ _ _ _ _ _ _ _ (@pt_cmpR _ _ _ _ _ _ _ _ op_isN (pv 7) pe_non (nomark _)) (@pss_one _ _ _ (@ps_ret _ _ _ _ (@pe_tup _ _ _ _ _ (@pa_mor _ _ _ _ _ (by rfl) pe_str (@pa_mor _ _ _ _ _ (by rfl) pe_int (@pa_mor _ _ _ _ _ (by rfl) (pe_call G_twofold_row (hr.mono (by decide)) rfl T.mg_twofold_row T.F_twofold_row.kp T.b_twofold_row .nil pass0 (@pa_mor _ _ _ _ _ (by rfl) (pv 0) (@pa_mor _ _ _ _ _ (by rfl) (pe_call G_one_table_row (hr.mono (by decide)) rfl T.mg_one_table_row T.F_one_table_row.kp T.b_one_table_row .nil pass0 (@pa_mor _ _ _ _ _ (by rfl) (pv 0) (@pa_mor _ _ _ _ _ (by rfl) (pv 4) (@pa_mor _ _ _ _ _ (by rfl) pe_int pa_nil)))) (@pa_mor _ _ _ _ _ (by rfl) (pe_call G_some_move (hr.mono (by decide)) rfl T.mg_some_move T.F_some_move.kp T.b_some_move .nil pass0 (@pa_mor _ _ _ _ _ (by rfl) (pv 0) (@pa_mor _ _ _ _ _ (by rfl) (pv 2) pa_nil))) pa_nil)))) pa_nil)))))) pss_nil)
      (@pss_one _ _ _ (@ps_ret _ _ _ _ (@pe_tup _ _ _ _ _ (@pa_mor _ _ _ _ _ (by rfl) pe_str (@pa_mor _ _ _ _ _ (by rfl) (pe_call G_joined (hr.mono (by decide)) rfl T.mg_joined T.F_joined.kp T.b_joined .nil pass0 (@pa_mor _ _ _ _ _ (by rfl) (pe_call G_columns (hr.mono (by decide)) rfl T.mg_columns T.F_columns.kp T.b_columns .nil pass0 (@pa_mor _ _ _ _ _ (by rfl) (pv 7) pa_nil)) pa_nil)) pa_nil))))))))))))),?_⟩
    refine ⟨_,rfl,a,q,10 ^ 6,pss,m,rfl,hA,n1,n40,hm,fun ne H1 s1=>kE (.inl ne) H1 s1,fun em H1 s1=>?_⟩
    dsimp only [gName]
    simp only [L2.start,List.length_cons,List.length_nil,List.map_cons,List.map_nil,List.replicate,List.cons_append,List.nil_append,List.set_cons_zero,List.set_cons_succ]
    refine ⟨_,rfl,b,q,10 ^ 6,rss,u,rfl,hB.mono s1,k1,k40,hu,fun ne H2 s2=>kE (.inr (.inl ne)) H2 (s1.trans s2),fun eu H2 s2=>?_⟩
    dsimp only [gName]
    simp only [List.set_cons_zero,List.set_cons_succ]
    have s12:=s1.trans s2
    subst em eu
    refine ⟨_,rfl,_,rfl,a,b,q,10 ^ 6,pss,rss,pss.length,rss.length,rfl,hA.mono s12,hB.mono s12,n1,n40,k1,k40,hm,hu,m40,u40,fun h H3 s3=>kE (.inr (.inr (.inl (h.elim id id)))) H3 (s12.trans s3),fun nk40 _ H3 s3=>?_⟩
    have s13:=s12.trans s3
    refine ⟨_,rfl,_,rfl,_,_,rfl,rfl,.inl ⟨by omega,by omega⟩,_,rfl,pss.length * rss.length,d,xs,rfl,s13 _ _ ed,fun ne=>kE (.inr (.inr (.inr ne))) H3 s13,fun el=>?_⟩
    obtain ⟨n3,k3,⟨as,hd,nas⟩,np,nr,kL,kO⟩:=kk rfl rfl nk40 el
    obtain ⟨xs',ed',las,fas⟩:=id hd
    rw [ed] at ed'
    cases ed'
    have numsA:=hA.nums hq
    have numsB:=hB.nums hq
    have hbA:∀ ps ∈ pss,∀ p ∈ ps,BotOk q p.2:=fun ps h1 p h2=>(numsA ps h1 p h2).2.1
    have hbB:∀ ps ∈ rss,∀ p ∈ ps,BotOk q p.2:=fun ps h1 p h2=>(numsB ps h1 p h2).2.1
    have numsD:=hd.nums hq
    have repA:=hA.rep hq rfl hm
    have repB:=hB.rep hq rfl hu
    have E24:∀ i:Nat,1000 ≤ (fun _:Nat=>10 ^ 24) i∧(fun _:Nat=>10 ^ 24) i ≤ 10 ^ 150:=fun i=>⟨show 1000 ≤ 10 ^ 24 by decide,show 10 ^ 24 ≤ 10 ^ 150 by decide +kernel⟩
    have pw:∀ {l:Nat},l ≤ 6→10 ^ 6 * 1000 ^ l ≤ 10 ^ 24:=fun {l} h=>Nat.le_trans (Nat.mul_le_mul_left _ (Nat.pow_le_pow_right (by decide) h)) (by decide)
    have b290:∀ {n:Nat},n ≤ 3→n * (facN n * 10 ^ 72) ≤ 10 ^ 74:=fun {n} h=>Nat.le_trans (fac_three h) (by decide +kernel)
    have reA:∀ i,i < pss.length→RowE q (10 ^ 24) (pss.getD i []):=fun i hi=>by
      rw [getD_at hi]
      have mem:=List.getElem_mem hi
      exact rowE_can hq (fun p hp=>⟨(numsA _ mem p hp).1,(numsA _ mem p hp).2.1⟩) (np _ mem) (pw (by rw [hm _ mem]; omega)) (by decide)
    have reB:∀ i,i < rss.length→RowE q (10 ^ 24) (rss.getD i []):=fun i hi=>by
      rw [getD_at hi]
      have mem:=List.getElem_mem hi
      exact rowE_can hq (fun p hp=>⟨(numsB _ mem p hp).1,(numsB _ mem p hp).2.1⟩) (nr _ mem) (pw (by rw [hu _ mem]; omega)) (by decide)
    have small:∀ i:Nat,i < pss.length→i * rss.length + rss.length ≤ xs.length:=fun i hi=>by
      rw [el,← Nat.succ_mul]
      exact Nat.mul_le_mul_right _ hi
    have x40:xs.length ≤ 40:=by omega
    dsimp only
    refine ⟨_,rfl,_,rfl,?_⟩
    refine comp_ofN (xs:=(List.range pss.length).map fun i:Nat=>V.int (0 + (i:Int))) (fun R h=>⟨_,rfl,(pss.length:Int),rfl,by omega,by omega,h _ _ (Same.refl _) (by rw [Int.toNat_natCast]; exact jseq_rng)⟩) (by rw [List.length_map,List.length_range]; exact small1000 (by omega)) (fun D i y Hx=>∃ x:Addr,y = .ref x∧x ≠ D∧RowG (10 ^ 6) Hx q x ((as.drop (i * rss.length)).take rss.length)) (fun D i y Ha Hb ys ⟨x,h1,h2,h3⟩ e f=>⟨x,h1,h2,row_far h3 h2 e f⟩) ?_ ?_
    · intro D i v hi Hc R sc ⟨zs,eD⟩ kc
      obtain ⟨hi',rfl⟩:=rng_at hi
      have sm:=small i hi'
      refine ⟨_,rfl,_,rfl,_,rfl,_,_,rfl,rfl,.inl ⟨by omega,by omega⟩,_,rfl,_,rfl,_,rfl,_,_,rfl,rfl,.inl ⟨by omega,by omega⟩,_,rfl,_,_,rfl,rfl,_,rfl,d,xs,rfl,.of (sc _ _ (s13 _ _ ed)),fun p np'=>?_⟩
      have ec:cutV xs (some ((i:Int) * (rss.length:Int))) (some ((i:Int) * (rss.length:Int) + (rss.length:Int))) = (xs.drop (i * rss.length)).take rss.length:=cutV_mid xs (i * rss.length) rss.length sm
      rw [ec]
      have sp:Same Hc (upd Hc p (.lst ((xs.drop (i * rss.length)).take rss.length))):=same_upd np'
      refine kc _ _ sp ⟨p,rfl,(fun e=>by rw [e,eD] at np'; cases np'),?_⟩
      exact RowG.mid upd_same las fun j v p h1 h2=>(((fas j v p h1 h2).mono s13).mono sc).mono sp
    intro D ys H4 nD s4 lys hP4 eD
    obtain ⟨uss,huss⟩:∃ uss:List (List (Int × Int)),uss = (List.range pss.length).map fun i=>(as.drop (i * rss.length)).take rss.length:=⟨_,rfl⟩
    have lu':uss.length = pss.length:=by rw [huss]; simp
    have getU:∀ i,i < pss.length→uss.getD i [] = (as.drop (i * rss.length)).take rss.length:=fun i hi=>by
      rw [huss,getD_at (by simpa using hi)]
      simp
    have wU:∀ ps ∈ uss,ps.length = rss.length:=fun ps hp=>by
      rw [huss] at hp
      obtain ⟨i,hi,e⟩:=List.mem_map.mp hp
      have:=small i (List.mem_range.mp hi)
      rw [← e,List.length_take,List.length_drop]
      omega
    have subU:∀ ps ∈ uss,∀ p ∈ ps,p ∈ as:=fun ps hp p h=>by
      rw [huss] at hp
      obtain ⟨i,hi,e⟩:=List.mem_map.mp hp
      rw [← e] at h
      exact List.mem_of_mem_drop (List.mem_of_mem_take h)
    have tU:TabB (10 ^ 6) H4 q D uss:=by
      refine ⟨ys,eD,by rw [lys,lu']; simp,fun i v ps h1 h2=>?_⟩
      obtain ⟨x,e1,_,e3⟩:=hP4 i v h1
      have i2:i < uss.length:=(List.getElem?_eq_some_iff.mp h2).1
      have g:=getU i (by omega)
      rw [getD_at i2] at g
      have:ps = uss[i]:=by simpa [i2] using h2.symm
      rw [this,g]
      exact ⟨x,e1,e3⟩
    have s14:=s13.trans s4
    have rowZ:∀ i,i < pss.length→RowE q (10 ^ 24) ((List.zipWith (· ++ ·) pss uss).getD i []):=fun i hi=>by
      have h2:i < uss.length:=by omega
      have m1:=List.getElem_mem hi
      have m2:=List.getElem_mem h2
      rw [zipT_get lu' hi,getD_at hi,getD_at h2]
      refine rowE_can hq (fun p hp=>?_) (fun p hp=>?_) (pw (by rw [List.length_append,hm _ m1,wU _ m2]; omega)) (by decide)
      · rcases List.mem_append.mp hp with y | y
        · exact ⟨(numsA _ m1 p y).1,(numsA _ m1 p y).2.1⟩
        · have:=subU _ m2 p y
          exact ⟨(numsD p this).1,(numsD p this).2.1⟩
      · rcases List.mem_append.mp hp with y | y
        · exact np _ m1 p y
        · exact nas p (subU _ m2 p y)
    have le150:10 ^ 6 ≤ 10 ^ 150:=by decide +kernel
    have mid1:∀ {n:Nat},n ≤ 3→n * (facN n * 10 ^ 72) < 2 ^ 2048:=fun h=>Nat.lt_of_le_of_lt (b290 h) (by decide +kernel)
    have cubed:∀ {n:Nat},n ≤ 3→prodN n (fun _=>10 ^ 24) ≤ 10 ^ 72:=fun h=>Nat.le_trans (prod_cubed h (by decide)) (by decide +kernel)
    refine ⟨z,a,D,q,10 ^ 6,10 ^ 72,rss.length,pss,uss,fun _=>10 ^ 24,rfl,hz.mono s14,hq,hA.mono s14,tU,by decide,le150,n1,n40,lu',hm,wU,k40,zipT_wid lu' hm wU,rowZ,E24,cubed n3,mid1 n3,fun H5 AA M c LL last tss s5 R neL=>?_,fun H5 AA M c last tss hf s5 R hTs hF=>?_⟩
    · have ker:KerP q pss.length pss:=R.kerG hq rfl (zipT_len lu') hm (fun i k hi hk=>zipT_left lu' hm hi hk) (Nat.le_add_right _ _) hbA neL
      dsimp only [gName]
      simp only [List.set_cons_zero,List.set_cons_succ]
      refine ⟨_,rfl,rfl,_,rfl,iteT ?_⟩
      refine ⟨_,rfl,_,rfl,_,rfl,z,a,q,10 ^ 6,10 ^ 72,pss,fun _=>10 ^ 24,rfl,hz.mono (s14.trans s5),hq,hA.mono (s14.trans s5),by decide,le150,n1,n40,hm,reA,E24,cubed n3,Nat.le_trans (b290 n3) (by decide +kernel),ker,fun r1 ps1 H6 s6 nr1 hr1 lp1=>?_⟩
      have s16:=s14.trans (s5.trans s6)
      refine ⟨_,rfl,_,rfl,z,q,rss.length,0,rfl,hz.mono s16,hq,k40,by omega,fun r2 H7 s7 nr2 hr2=>?_⟩
      have s17:=s16.trans s7
      refine ⟨z,r1,r2,q,10 ^ 74,ps1,unitRow rss.length 0,rfl,hz.mono s17,hq,(hr1.mono s7).weak (b290 n3),RowG.weak (B:=10 ^ 60) hr2 (by decide +kernel),by decide +kernel,by decide +kernel,by omega,by rw [unit_len]; omega,by rw [unit_len]; omega,fun r3 H8 s8 nr3 _=>?_⟩
      refine ⟨by show 3 ≤ sizeLine; decide,fun tp ntp=>?_⟩
      exact kL (.inl ker) tp _ _ (s17.trans (s8.trans (same_upd ntp))) upd_same
    · have noKA:NoKer q pss.length pss:=R.noKerG hq rfl (zipT_len lu') hm (fun i k hi hk=>zipT_left lu' hm hi hk) (Nat.le_add_right _ _) hbA
      obtain ⟨Hx,xx,hTs⟩:=hTs
      have numsT:=hTs.nums hq
      have lts:tss.length = pss.length:=by rw [R.len,List.length_range]
      obtain ⟨fss,hfss⟩:∃ fss:List (List (Int × Int)),fss = tss.map fun ps=>ps.drop pss.length:=⟨_,rfl⟩
      rw [← hfss] at hF
      have lf:fss.length = pss.length:=by rw [hfss,List.length_map,lts]
      have wf:∀ ps ∈ fss,ps.length = rss.length:=fun ps hp=>by
        rw [hfss] at hp
        obtain ⟨ps',h1,e⟩:=List.mem_map.mp hp
        rw [← e,List.length_drop,R.wid _ h1]
        omega
      have numsF:=hF.b.nums hq
      have b74:=b290 n3
      dsimp only [gName]
      simp only [List.set_cons_zero,List.set_cons_succ]
      refine ⟨_,rfl,rfl,_,rfl,iteF ?_⟩
      dsimp only [tNext]
      have s15:=s14.trans s5
      have hF5:=hF.b.weak (Nat.le_trans b74 (show 10 ^ 74 ≤ 10 ^ 150 by decide +kernel))
      refine ⟨_,rfl,_,rfl,_,rfl,hf,q,10 ^ 150,fss,rss.length,rfl,hF5,by omega,by omega,wf,k40,fun cb H6 s6 ncb hC=>?_⟩
      have s16:=s15.trans s6
      have lC:=colsT_len rss.length fss
      have wC:∀ ps ∈ colsT rss.length fss,ps.length = pss.length:=fun ps hp=>by rw [colsT_wid _ _ ps hp,lf]
      have numsC:=hC.nums hq
      have rowY:∀ i,i < rss.length→RowE q (10 ^ 90) ((List.zipWith (· ++ ·) rss (colsT rss.length fss)).getD i []):=fun i hi=>by
        have h2:i < (colsT rss.length fss).length:=by omega
        have m1:=List.getElem_mem hi
        have m2:=List.getElem_mem h2
        rw [zipT_get lC hi,getD_at hi,getD_at h2]
        have can:∀ p ∈ rss[i] ++ (colsT rss.length fss)[i],Canon q p:=fun p hp=>by
          rcases List.mem_append.mp hp with y | y
          · exact (numsB _ m1 p y).1
          · exact (numsC _ m2 p y).1
        by_cases zq:q = 0
        · subst zq
          obtain ⟨Dc,dc1,dcX,hDc⟩:=R.common
          rw [zipT_len lu'] at dcX hDc
          have hv:RowV (1000 ^ rss[i].length) (10 ^ 6) rss[i]:=rowV_base _ fun p hp=>⟨(nr _ m1 p hp).1,(numsB _ m1 p hp).2.1.1 rfl,(nr _ m1 p hp).2⟩
          have l3:1000 ^ rss[i].length ≤ 10 ^ 9:=Nat.le_trans (Nat.pow_le_pow_right (by decide) (show rss[i].length ≤ 3 by rw [hu _ m1]; exact k3)) (by decide)
          refine rowE_mix (X:=10 ^ 74) hv dc1 (Nat.le_trans dcX b74) (fun j hj=>?_) can (Nat.le_trans (Nat.mul_le_mul_right _ (Nat.mul_le_mul_left _ l3)) (by decide +kernel)) (by decide)
          have hj':j < pss.length:=by rw [← wC _ m2]; exact hj
          have g:=colsT_get (m:=rss.length) (i:=i) (j:=j) (pss:=fss) hi (by omega)
          rw [getD_at h2] at g
          rw [g,hfss,drop_at (by omega)]
          obtain ⟨x,e1,e2⟩:=hDc j (pss.length + i) (by simpa using hj') (by omega)
          exact ⟨x,e1,Nat.le_trans e2 b74⟩
        · exact rowE_mono (rowE_whe hq zq can) (by decide +kernel)
      have E90:∀ i:Nat,1000 ≤ (fun _:Nat=>10 ^ 90) i∧(fun _:Nat=>10 ^ 90) i ≤ 10 ^ 150:=fun i=>⟨show 1000 ≤ 10 ^ 90 by decide +kernel,show 10 ^ 90 ≤ 10 ^ 150 by decide +kernel⟩
      have b270:rss.length * (facN rss.length * 10 ^ 270) ≤ 10 ^ 290:=Nat.le_trans (fac_three k3) (by decide +kernel)
      refine ⟨z,b,cb,q,10 ^ 150,10 ^ 270,pss.length,rss,colsT rss.length fss,fun _=>10 ^ 90,rfl,hz.mono s16,hq,(hB.mono s16).weak le150,hC,by decide +kernel,Nat.le_refl _,k1,k40,lC,hu,wC,n40,zipT_wid lC hu wC,rowY,E90,Nat.le_trans (prod_cubed k3 (by decide +kernel)) (by decide +kernel),Nat.lt_of_le_of_lt b270 (by decide +kernel),fun H7 AA' M' c' LL' last' tss' s7 R' neL'=>?_,fun H7 AA' M' c' last' tss' hf' s7 R' hTs' hF'=>?_⟩
      · have ker:KerP q rss.length rss:=R'.kerG hq rfl (zipT_len lC) hu (fun i k hi hk=>zipT_left lC hu hi hk) (Nat.le_add_right _ _) hbB neL'
        dsimp only [gName]
        simp only [List.set_cons_zero,List.set_cons_succ]
        refine ⟨_,rfl,rfl,_,rfl,iteT ?_⟩
        have s17:=s16.trans s7
        refine ⟨_,rfl,_,rfl,_,rfl,z,q,pss.length,0,rfl,hz.mono s17,hq,n40,by omega,fun r2 H8 s8 nr2 hr2=>?_⟩
        have s18:=s17.trans s8
        refine ⟨_,rfl,_,rfl,z,b,q,10 ^ 6,10 ^ 72,rss,fun _=>10 ^ 24,rfl,hz.mono s18,hq,hB.mono s18,by decide,le150,k1,k40,hu,reB,E24,cubed k3,Nat.le_trans (b290 k3) (by decide +kernel),ker,fun r1 ps1 H9 s9 nr1 hr1 lp1=>?_⟩
        have s19:=s18.trans s9
        refine ⟨z,r2,r1,q,10 ^ 74,unitRow pss.length 0,ps1,rfl,hz.mono s19,hq,RowG.weak (B:=10 ^ 60) (RowG.mono (B:=10 ^ 60) hr2 s9) (by decide +kernel),hr1.weak (b290 k3),by decide +kernel,by decide +kernel,by rw [unit_len]; omega,by omega,by omega,fun r3 H10 s10 nr3 _=>?_⟩
        refine ⟨by show 3 ≤ sizeLine; decide,fun tp ntp=>?_⟩
        exact kL (.inr ker) tp _ _ (s19.trans (s10.trans (same_upd ntp))) upd_same
      · have noKB:NoKer q rss.length rss:=R'.noKerG hq rfl (zipT_len lC) hu (fun i k hi hk=>zipT_left lC hu hi hk) (Nat.le_add_right _ _) hbB
        have lts':tss'.length = rss.length:=by rw [R'.len,List.length_range]
        dsimp only [gName]
        simp only [List.set_cons_zero,List.set_cons_succ]
        refine ⟨_,rfl,rfl,_,rfl,iteF ?_⟩
        dsimp only [tNext]
        have s17:=s16.trans s7
        have lf':(tss'.map fun ps=>ps.drop rss.length).length = rss.length:=by rw [List.length_map,lts']
        have wf':∀ ps ∈ tss'.map fun ps=>ps.drop rss.length,ps.length = pss.length:=fun ps hp=>by
          obtain ⟨ps',h1,e⟩:=List.mem_map.mp hp
          rw [← e,List.length_drop,R'.wid _ h1]
          omega
        refine ⟨_,rfl,hf',q,_,_,pss.length,rfl,hF'.b,by rw [lf']; omega,by rw [lf']; omega,wf',n40,fun cb' H8 s8 ncb' hC'=>?_⟩
        refine ⟨cb',q,_,_,rss.length,rfl,hC',by rw [colsT_len]; omega,(fun ps hp=>by rw [colsT_wid _ _ ps hp,lf']),k40,fun r4 H9 s9 nr4 _=>?_⟩
        refine ⟨by show 2 ≤ sizeLine; decide,fun tp ntp=>?_⟩
        exact kO noKA noKB tp _ _ (s17.trans (s8.trans (s9.trans (same_upd ntp)))) upd_same
theorem sc_b_draw:FnScope ["script","k","mixed","cell"] ["script","k"] (defScope s_b_draw):=⟨rfl,rfl,rfl,by decide +kernel,rfl,by decide +kernel,by decide +kernel⟩
theorem ok_b_draw (T:Txt K mg t):FnOk P w K mg base CX0 1 t.f_b_draw t.d_b_draw ["script","k"] (spDraw K):=by
  have S:=sc_b_draw
  refine T.F_b_draw.ok S (fun vs H Q E h=>?_) (fun cdv A outer s H vs Q E hr h=>?_)
  · obtain ⟨a,ns,k,rfl,_⟩:=h
    rfl
  · obtain ⟨a,ns,j,rfl,hS,h0,h1,k⟩:=h
    refine ⟨_,(@pss_cons _ _ _ _ _ (@ps_if _ _ _ _ _ _ _ _ (@pt_cmpR _ _ _ _ _ _ _ _ op_lt (pv 1) (pe_callB call_len_seq rfl T.n_len boot_len (@pa_mor _ _ _ _ _ (by rfl) (pv 0) pa_nil)) (nomark _)) (@pss_one _ _ _ (@ps_ret _ _ _ _ (@pe_op _ _ _ _ _ _ _ _ op_mod (@pe_ix _ _ _ _ _ _ _ ix_list (pv 0) (pv 1) (fun _ _=>rfl)) (@pe_op _ _ _ _ _ _ _ _ op_pow pe_int pe_int)))) pss_nil)
      (@pss_cons _ _ _ _ _ (@ps_put _ _ 2 _ _ _ _ (by rfl) (by first | exact .inl rfl | exact .inr rfl | assumption) S.nd rfl (Or.inl rfl) (@pe_op _ _ _ _ _ _ _ _ op_mul pe_int (@pe_op _ _ _ _ _ _ _ _ op_add (pv 1) pe_int)))
      (@pss_cons _ _ _ _ _ (ps_for PassesOwn.never rfl (pi_list (@pe_slice _ _ _ _ _ _ _ _ _ _ sl_list (pv 0) po_none (po_some pe_int))) (pg_name (i:=3) S.nd rfl (Or.inl rfl))
        (@pss_one _ _ _ (@ps_put _ _ 2 _ _ _ _ (by rfl) (by first | exact .inl rfl | exact .inr rfl | assumption) S.nd rfl (Or.inl rfl) (@pe_op _ _ _ _ _ _ _ _ op_mod (@pe_op _ _ _ _ _ _ _ _ op_add (@pe_op _ _ _ _ _ _ _ _ op_add (@pe_op _ _ _ _ _ _ _ _ op_mul (pv 2) pe_int) (@pe_op _ _ _ _ _ _ _ _ op_mod (pv 3) pe_int)) pe_int) pe_int))))
      (@pss_cons _ _ _ _ _ (@ps_put _ _ 2 _ _ _ _ (by rfl) (by first | exact .inl rfl | exact .inr rfl | assumption) S.nd rfl (Or.inl rfl) (@pe_op _ _ _ _ _ _ _ _ op_mod (@pe_op _ _ _ _ _ _ _ _ op_mul (pv 2) (pv 2)) pe_int))
      (@pss_cons _ _ _ _ _ (@ps_put _ _ 2 _ _ _ _ (by rfl) (by first | exact .inl rfl | exact .inr rfl | assumption) S.nd rfl (Or.inl rfl) (@pe_op _ _ _ _ _ _ _ _ op_mod (@pe_op _ _ _ _ _ _ _ _ op_mul (@pe_op _ _ _ _ _ _ _ _ op_add (pv 2) (@pe_op _ _ _ _ _ _ _ _ op_mul (@pe_op _ _ _ _ _ _ _ _ op_mul pe_int (pv 1)) (pv 1))) pe_int) pe_int))
      (@pss_one _ _ _ (@ps_ret _ _ _ _ (@pe_op _ _ _ _ _ _ _ _ op_fdiv (@pe_op _ _ _ _ _ _ _ _ op_mod (@pe_op _ _ _ _ _ _ _ _ op_mul (pv 2) (pv 2)) pe_int) pe_int)))))))),?_⟩
    refine ⟨_,rfl,_,rfl,a,_,rfl,.inl hS,_,_,rfl,rfl,_,rfl,ite2 (fun hj=>?_) (fun hj=>?_)⟩
    · have hj:j < (ns.map V.int).length:=of_decide_eq_true hj
      rw [List.length_map] at hj
      have hz:atI (ns.map V.int) j = some (.int (ns.getD j.toNat 0)):=by
        have e:j = (j.toNat:Int):=by omega
        rw [e]
        refine atI_nat ?_
        rw [List.getElem?_map,List.getElem?_eq_getElem (by omega),Int.toNat_natCast,List.getD_eq_getElem?_getD,List.getElem?_eq_getElem (by omega)]
        rfl
      refine ⟨_,rfl,_,rfl,a,_,j,_,rfl,rfl,hS,hz,_,_,rfl,rfl,⟨by decide,by decide,by decide⟩,_,_,rfl,rfl,(by show (0:Int) < 10 ^ 40; decide),?_⟩
      have z:=k H (Same.refl H)
      unfold drawV at z
      rw [if_pos hj] at z
      exact z
    · have hj:¬ j < ns.length:=fun z=>hj (decide_eq_true (by rw [List.length_map]; exact z))
      refine ⟨_,rfl,_,_,rfl,rfl,_,_,rfl,rfl,.inl ⟨by decide,by decide⟩,?_⟩
      refine ⟨_,rfl,_,rfl,a,_,rfl,hS,fun c nc=>⟨c,rfl,⟨_,.of upd_same⟩,?_⟩⟩
      refine for_list (K:=K) (a:=c) (xs:=(ns.take 7).map V.int) (fun i σ H'=>H' = upd H c (.lst (cutV (ns.map V.int) none (some 7)))∧∃ (m:Int) (v:Option V),σ = [some (.ref a),some (.int j),some (.int m),v]∧m = ((ns.take 7).take i).foldl mixStep (1000003 * (j + 1))∧-(2 ^ 64) < m∧m < 2 ^ 64)
        ⟨rfl,_,_,rfl,rfl,by omega,by omega⟩ ?_ ?_ ?_
      · rintro i σ H' _ ⟨rfl,_⟩
        have e:cutV (ns.map V.int) none (some 7) = (ns.take 7).map V.int:=by
          have:=cut_take (ns.map V.int) 7
          rw [← List.map_take] at this
          exact this
        rw [e]
        exact .of upd_same
      · rintro i y σ H' hi ⟨rfl,m,v,rfl,hm,_,_⟩
        rw [List.getElem?_map] at hi
        cases ez:(ns.take 7)[i]? with
        | none=>rw [ez] at hi; cases hi
        | some z=>
          rw [ez] at hi
          cases hi
          refine ⟨_,rfl,_,_,rfl,rfl,.inr ⟨by decide,by decide⟩,_,rfl,_,_,rfl,rfl,(by show (0:Int) < 998244353; decide),_,_,rfl,rfl,_,_,rfl,rfl,_,_,rfl,rfl,(by show (0:Int) < 1000000007; decide),rfl,_,_,rfl,?_,?_,?_⟩
          · rw [List.take_succ,ez,Option.toList_some,List.foldl_append,← hm]
            rfl
          · have:=Int.emod_nonneg (m * 69621 + z % 998244353 + 1) (show (1000000007:Int) ≠ 0 by decide)
            show -(2 ^ 64) < (m * 69621 + z % 998244353 + 1) % 1000000007
            omega
          · have:=Int.emod_lt_of_pos (m * 69621 + z % 998244353 + 1) (show (0:Int) < 1000000007 by decide)
            show (m * 69621 + z % 998244353 + 1) % 1000000007 < 2 ^ 64
            omega
      · rintro σ H' ⟨rfl,m,v,rfl,hm,hm1,hm2⟩
        rw [List.length_map,List.take_length] at hm
        refine ⟨_,rfl,_,rfl,_,_,rfl,rfl,.inl ⟨hm1,hm2⟩,_,_,rfl,rfl,(by show (0:Int) < 1000000007; decide),?_⟩
        refine ⟨_,rfl,_,rfl,_,_,rfl,rfl,.inl ⟨by decide,by decide⟩,_,rfl,_,_,rfl,rfl,.inr ⟨by omega,by omega⟩,_,_,rfl,rfl,_,_,rfl,rfl,.inr ⟨by decide,by decide⟩,_,_,rfl,rfl,(by show (0:Int) < 2147483647; decide),?_⟩
        have b0:=Int.emod_nonneg ((m * m % 1000000007 + 7919 * j * j) * 48271) (show (2147483647:Int) ≠ 0 by decide)
        have b1:=Int.emod_lt_of_pos ((m * m % 1000000007 + 7919 * j * j) * 48271) (show (0:Int) < 2147483647 by decide)
        refine ⟨_,rfl,_,rfl,_,_,rfl,rfl,.inl ⟨?_,?_⟩,_,_,rfl,rfl,(by show (0:Int) < 2147483647; decide),_,_,rfl,rfl,⟨by decide,by decide⟩,?_⟩
        · show -(2 ^ 64) < (m * m % 1000000007 + 7919 * j * j) * 48271 % 2147483647
          omega
        · show (m * m % 1000000007 + 7919 * j * j) * 48271 % 2147483647 < 2 ^ 64
          omega
        · have z:=k (upd H c (.lst (cutV (ns.map V.int) none (some 7)))) (same_upd nc)
          unfold drawV mixV at z
          rw [if_neg hj,← hm] at z
          exact z
theorem sc_b_low:FnScope ["top","bottom","one","other"] ["top","bottom"] (defScope s_b_low):=⟨rfl,rfl,rfl,by decide +kernel,rfl,by decide +kernel,by decide +kernel⟩
theorem ok_b_low (T:Txt K mg t):FnOk P w K mg base CX0 1 t.f_b_low t.d_b_low ["top","bottom"] spLowW:=by
  have S:=sc_b_low
  refine T.F_b_low.ok S (fun vs H Q E h=>?_) (fun cdv A outer s H vs Q E hr h=>?_)
  · obtain ⟨a,b,rfl,_⟩:=h
    rfl
  · obtain ⟨a,b,rfl,hb,mb,k⟩:=h
    refine ⟨_,(@pss_cons _ _ _ _ _ (@ps_put _ _ 2 _ _ _ _ (by rfl) (by first | exact .inl rfl | exact .inr rfl | assumption) S.nd rfl (Or.inl rfl) (pe_callB call_abs rfl T.n_abs boot_abs (@pa_mor _ _ _ _ _ (by rfl) (pv 0) pa_nil)))
      (@pss_cons _ _ _ _ _ (@ps_put _ _ 3 _ _ _ _ (by rfl) (by first | exact .inl rfl | exact .inr rfl | assumption) S.nd rfl (Or.inl rfl) (pe_callB call_abs rfl T.n_abs boot_abs (@pa_mor _ _ _ _ _ (by rfl) (pv 1) pa_nil)))
      (@pss_cons _ _ _ _ _ (@ps_while _ _ _ _ _ _ PassesOwn.never (@pt_truth _ _ _ (pv 3) (fun _=>rfl)) (@pss_one _ _ _ (ps_par (i:=2) (j:=3) rfl S.nd rfl rfl (by decide) rfl rfl (@pa_mor _ _ _ _ _ (by rfl) (pv 3) (@pa_mor _ _ _ _ _ (by rfl) (@pe_op _ _ _ _ _ _ _ _ op_mod (pv 2) (pv 3)) pa_nil)) rfl)))
      (@pss_cons _ _ _ _ _ (@ps_if _ _ _ _ _ _ _ _ (@pt_cmpR _ _ _ _ _ _ _ _ op_lt (pv 1) pe_int (nomark _)) (@pss_one _ _ _ (@ps_put _ _ 2 _ _ _ _ (by rfl) (by first | exact .inl rfl | exact .inr rfl | assumption) S.nd rfl (Or.inl rfl) (@pe_op _ _ _ _ _ _ _ _ op_sub pe_int (pv 2)))) pss_nil)
      (@pss_one _ _ _ (@ps_ret _ _ _ _ (@pe_tup _ _ _ _ _ (@pa_mor _ _ _ _ _ (by rfl) (@pe_op _ _ _ _ _ _ _ _ op_fdivW (pv 0) (pv 2)) (@pa_mor _ _ _ _ _ (by rfl) (@pe_op _ _ _ _ _ _ _ _ op_fdivW (pv 1) (pv 2)) pa_nil))))))))),?_⟩
    have ok:=lowG_okW (a:=a) hb mb
    refine ⟨_,rfl,a,rfl,_,rfl,b,rfl,fun m σ H'=>H' = H∧∃ (x y:Nat),σ = [some (.int a),some (.int b),some (.int (x:Int)),some (.int (y:Int))]∧m = y∧Nat.gcd x y = Int.gcd a b,⟨b.natAbs,rfl,a.natAbs,b.natAbs,?_,rfl,rfl⟩,?_⟩
    · show [some (V.int a),some (V.int b),some (V.int (if a < 0 then -a else a)),some (V.int (if b < 0 then -b else b))] = _
      rw [abs_nat,abs_nat]
    · rintro m σ H' ⟨rfl,x,y,rfl,em,hg⟩
      refine ⟨_,rfl,_,rfl,ite2 (fun hy=>?_) (fun hy=>?_)⟩
      · have hy:y ≠ 0:=fun z=>by subst z; cases hy
        refine ⟨fun σ' H2=>H2 = H'∧σ' = [some (.int a),some (.int b),some (.int (y:Int)),some (.int (((x % y:Nat)):Int))],?_,?_⟩
        · rintro σ' H2 ⟨rfl,rfl⟩
          exact ⟨x % y,by rw [em]; exact Nat.mod_lt _ (by omega),rfl,y,x % y,rfl,rfl,by rw [gcd_step]; exact hg⟩
        · exact ⟨_,rfl,_,rfl,_,rfl,_,_,rfl,rfl,(show (0:Int) < y by omega),_,_,rfl,rfl,rfl⟩
      · have y0:y = 0:=by
          by_cases z:y = 0
          · exact z
          · exact absurd (by simpa using z) hy
        subst y0
        rw [Nat.gcd_zero_right] at hg
        have fin1:∀ (g:Int),g = lowG a b→∀ (p:Addr),H' p = none→Q (.ref p) (upd H' p (.tup [.int (a.fdiv g),.int (b.fdiv g)])):=fun g e p hp=>by
          rw [e]
          exact k p _ (same_upd hp) upd_same
        refine ⟨_,rfl,_,_,rfl,rfl,_,rfl,ite2 (fun hn=>?_) (fun hn=>?_)⟩
        · have hn:b < 0:=of_decide_eq_true hn
          have eg:0 - (x:Int) = lowG a b:=by unfold lowG; rw [if_pos hn,hg]
          have ok2:CDivW 0 (0 - (x:Int)):=by rw [eg]; exact ok
          exact ⟨_,rfl,_,_,rfl,rfl,_,rfl,_,rfl,_,_,rfl,rfl,ok2,_,rfl,_,rfl,_,_,rfl,rfl,ok2,by show 2 ≤ sizeLine; decide,fin1 _ eg⟩
        · have hn:¬ b < 0:=fun z=>hn (decide_eq_true z)
          have eg:(x:Int) = lowG a b:=by unfold lowG; rw [if_neg hn,hg]
          have ok2:CDivW 0 (x:Int):=by rw [eg]; exact ok
          exact ⟨_,rfl,_,rfl,_,_,rfl,rfl,ok2,_,rfl,_,rfl,_,_,rfl,rfl,ok2,by show 2 ≤ sizeLine; decide,fin1 _ eg⟩
theorem sc_b_prime:FnScope ["cell","at"] ["cell"] (defScope s_b_prime):=⟨rfl,rfl,rfl,by decide +kernel,rfl,by decide +kernel,by decide +kernel⟩
theorem ok_b_prime (T:Txt K mg t):FnOk P w K mg base CX0 1 t.f_b_prime t.d_b_prime ["cell"] spPrimeN:=by
  have S:=sc_b_prime
  refine T.F_b_prime.ok S (fun vs H Q E h=>?_) (fun cdv A outer s H vs Q E hr h=>?_)
  · obtain ⟨c,rfl,_⟩:=h
    rfl
  · obtain ⟨c,rfl,k⟩:=h
    refine ⟨_,(@pss_cons _ _ _ _ _ (@ps_put _ _ 1 _ _ _ _ (by rfl) (by first | exact .inl rfl | exact .inr rfl | assumption) S.nd rfl (Or.inr rfl) (@pe_op _ _ _ _ _ _ _ _ op_add pe_int (@pe_op _ _ _ _ _ _ _ _ op_mod (pv 0) pe_int)))
      (@pss_cons _ _ _ _ _ (@ps_while _ _ _ _ _ _ PassesOwn.never (@pt_not _ _ _ _ (pt_val (pe_callB (call_all (K:=K) rfl) rfl T.n_all boot_all (@pa_mor _ _ _ _ _ (by rfl) (pe_comp (N:=["by","at"]) (ρ:=(fun σ=>[σ[1]?.join])) ⟨rfl,rfl,by decide +kernel,by decide +kernel,(List.forall_mem_cons.mpr ⟨rfl,(List.forall_mem_nil _)⟩),has_of (by rfl),rfl,by decide +kernel,rfl,(fun σ j v h=>match j,h with | 0,h=>⟨1,_,rfl,rfl,join_some h,Or.inr (Or.inl rfl),.inl rfl,.inl rfl⟩ | j + 1,h=>by cases h),(fun _ _=>rfl)⟩ rfl (pi_range2 rfl T.n_range (@pa_mor _ _ _ _ _ (by rfl) pe_int (@pa_mor _ _ _ _ _ (by rfl) pe_int pa_nil))) (fun s₃ H₃ fp=>(.one (@pt_cmpR _ _ _ _ _ _ _ _ op_lt (pv 0) (pv 1) (nomark _)))) (fun s₃ H₃ fp=>(@pe_cmpR _ _ _ _ _ _ _ _ op_ne (@pe_op _ _ _ _ _ _ _ _ op_mod (pv 1) (pv 0)) pe_int (nomark _)))) pa_nil)))) (@pss_one _ _ _ (@ps_put _ _ 1 _ _ _ _ (by rfl) (by first | exact .inl rfl | exact .inr rfl | assumption) S.nd rfl (Or.inr rfl) (@pe_op _ _ _ _ _ _ _ _ op_add (pv 1) pe_int))))
      (@pss_one _ _ _ (@ps_ret _ _ _ _ (pv 1))))),?_⟩
    have c0:=Int.emod_nonneg c (show (996:Int) ≠ 0 by decide)
    have c1:=Int.emod_lt_of_pos c (show (0:Int) < 996 by decide)
    refine ⟨_,rfl,_,_,rfl,rfl,(by show (0:Int) < 996; decide),_,_,rfl,rfl,fun m σ H'=>Same H H'∧∃ v:Int,σ = [some (.int c),some (.int v)]∧2 ≤ v∧v ≤ 997∧m = (997 - v).toNat,
      ⟨_,Same.refl H,2 + c % 996,rfl,by omega,by omega,rfl⟩,?_⟩
    rintro m σ H' ⟨sH,v,rfl,h1,h2,rfl⟩
    refine ⟨2,32,rfl,⟨by decide,by decide,by decide,by decide⟩,fun D nD=>⟨fun i m ys Hc=>Hc = upd H' D (.lst ys)∧i + m = 30∧ys = (cmpL v i).map V.bl,⟨30,rfl,rfl,rfl⟩,?_⟩⟩
    rintro i m ys Hc ⟨rfl,hm,rfl⟩
    refine ⟨upd_same,?_⟩
    have hl:((cmpL v i).map V.bl).length < sizeLine:=by
      rw [List.length_map]
      have:=cmpL_len v i
      exact small1000 (by omega)
    by_cases hi:i < 30
    · refine .inr ⟨hi,fun x H2 y=>?_⟩
      obtain ⟨rfl,rfl⟩:=y
      refine ⟨_,rfl,_,rfl,_,_,rfl,rfl,_,rfl,ite2 (fun hx=>?_) (fun hx=>?_)⟩
      · have hx:2 + (i:Int) < v:=of_decide_eq_true hx
        refine ⟨_,rfl,_,rfl,_,_,rfl,rfl,(show (0:Int) < 2 + (i:Int) by omega),rfl,upd_same,hl,m - 1,by omega,upd_upd,by omega,?_⟩
        rw [cmpL_yes hx,List.map_append]
        show _ ++ [V.bl (!decide (V.int (v % (2 + (i:Int))) = V.int 0))] = _
        rw [dV_int]
        rfl
      · have hx:¬ 2 + (i:Int) < v:=fun z=>hx (decide_eq_true z)
        exact ⟨m - 1,by omega,rfl,by omega,by rw [cmpL_no hx]⟩
    · have i30:i = 30:=by omega
      subst i30
      refine .inl ⟨Nat.le_refl _,D,cmpL v 30,rfl,.of upd_same,_,rfl,?_⟩
      rw [cmpL_law]
      have s2:Same H (upd H' D (.lst ((cmpL v 30).map V.bl))):=sH.trans (same_upd nD)
      refine ite2 (fun hb=>?_) (fun hb=>?_)
      · have hb:lawB v = false:=by simpa using hb
        have hv:v ≠ 997:=fun z=>by rw [z,prime_997] at hb; cases hb
        refine ⟨fun σ' H2=>Same H H2∧σ' = [some (.int c),some (.int (v + 1))],?_,?_⟩
        · rintro σ' H2 ⟨s3,rfl⟩
          exact ⟨(997 - (v + 1)).toNat,by omega,s3,v + 1,rfl,by omega,by omega,rfl⟩
        · exact ⟨_,rfl,_,_,rfl,rfl,s2,rfl⟩
      · have hb:lawB v = true:=by simpa using hb
        exact ⟨_,rfl,k v _ s2 h1 h2 (by rw [prime_law h1 h2]; exact hb)⟩
theorem sc_b_wheel:FnScope ["draw","way"] ["draw"] (defScope s_b_wheel):=⟨rfl,rfl,rfl,by decide +kernel,rfl,by decide +kernel,by decide +kernel⟩
theorem ok_b_wheel (T:Txt K mg t):FnOk P w K mg base CX0 2 t.f_b_wheel t.d_b_wheel ["draw"] spWheel:=by
  have S:=sc_b_wheel
  have G_b_prime:=ok_b_prime (P:=P) (w:=w) (base:=base) T
  refine T.F_b_wheel.ok S (fun vs H Q E h=>?_) (fun cdv A outer s H vs Q E hr h=>?_)
  · obtain ⟨c,rfl,_⟩:=h
    rfl
  · obtain ⟨c,rfl,k⟩:=h
    refine ⟨_,(@pss_cons _ _ _ _ _ (@ps_put _ _ 1 _ _ _ _ (by rfl) (by first | exact .inl rfl | exact .inr rfl | assumption) S.nd rfl (Or.inl rfl) (@pe_op _ _ _ _ _ _ _ _ op_mod (pv 0) pe_int))
      (@pss_cons _ _ _ _ _ (@ps_if _ _ _ _ _ _ _ _ (@pt_cmpR _ _ _ _ _ _ _ _ op_lt (pv 1) pe_int (nomark _)) (@pss_one _ _ _ (@ps_ret _ _ _ _ pe_int)) pss_nil)
      (@pss_cons _ _ _ _ _ (@ps_if _ _ _ _ _ _ _ _ (@pt_cmpR _ _ _ _ _ _ _ _ op_lt (pv 1) pe_int (nomark _)) (@pss_one _ _ _ (@ps_ret _ _ _ _ (@pe_ix _ _ _ _ _ _ _ ix_list (@pe_lst _ _ _ _ (@pa_mor _ _ _ _ _ (by rfl) pe_int (@pa_mor _ _ _ _ _ (by rfl) pe_int (@pa_mor _ _ _ _ _ (by rfl) pe_int pa_nil)))) (@pe_op _ _ _ _ _ _ _ _ op_sub (pv 1) pe_int) (fun _ _=>rfl)))) pss_nil)
      (@pss_one _ _ _ (@ps_ret _ _ _ _ (pe_call G_b_prime (hr.mono (by decide)) rfl T.mg_b_prime T.F_b_prime.kp T.b_b_prime .nil pass0 (@pa_mor _ _ _ _ _ (by rfl) (@pe_op _ _ _ _ _ _ _ _ op_fdiv (pv 0) pe_int) pa_nil))))))),?_⟩
    refine ⟨_,rfl,_,_,rfl,rfl,(by show (0:Int) < 8; decide),?_⟩
    refine ⟨_,rfl,_,_,rfl,rfl,_,rfl,ite2 (fun _=>k 0 H (Same.refl H) (.inl rfl)) (fun h3=>?_)⟩
    refine ⟨_,rfl,_,_,rfl,rfl,_,rfl,ite2 (fun h6=>⟨by show 3 ≤ sizeLine; decide,fun l hl=>?_⟩) (fun _=>?_)⟩
    · have h3:¬ c % 8 < 3:=fun z=>h3 (decide_eq_true z)
      have h6:c % 8 < 6:=of_decide_eq_true h6
      obtain ⟨v,hv,mv⟩:=atI_some (xs:=([.int 2,.int 3,.int 5]:List V)) (i:=c % 8 - 3) (by omega) (by show c % 8 - 3 < 3; omega)
      refine ⟨_,rfl,_,_,rfl,rfl,l,_,_,v,rfl,rfl,.of upd_same,hv,?_⟩
      simp only [List.mem_cons,List.not_mem_nil,or_false] at mv
      rcases mv with e | e | e
      · rw [e]; exact k 2 _ (same_upd hl) (.inr ⟨by decide,by decide,by decide +kernel⟩)
      · rw [e]; exact k 3 _ (same_upd hl) (.inr ⟨by decide,by decide,by decide +kernel⟩)
      · rw [e]; exact k 5 _ (same_upd hl) (.inr ⟨by decide,by decide,by decide +kernel⟩)
    · exact ⟨_,rfl,_,_,rfl,rfl,⟨by decide,by decide⟩,_,rfl,fun p H' s' h1 h2 h3=>k p H' s' (.inr ⟨h1,h2,h3⟩)⟩
theorem td_wheel {p:Int} (h1:2 ≤ p) (h2:p ≤ 997) (h3:primeB p = true):(Td.b "wheel" p).good = true:=by simp [Td.good,Td.isF,Td.isW,h1,h2,h3]
theorem td_frac:(Td.a "fractions").good = true:=by simp [Td.good,Td.isF]
theorem sc_b_world:FnScope ["p"] ["p"] (defScope s_b_world):=⟨rfl,rfl,rfl,by decide +kernel,rfl,by decide +kernel,by decide +kernel⟩
theorem ok_b_world (T:Txt K mg t):FnOk P w K mg base CX0 5 t.f_b_world t.d_b_world ["p"] (spWorld t.C_World):=by
  have S:=sc_b_world
  have G_World___init__:=ok_init (P:=P) (w:=w) (base:=base) T
  refine T.F_b_world.ok S (fun vs H Q E h=>?_) (fun cdv A outer s H vs Q E hr h=>?_)
  · obtain ⟨p,rfl,_⟩:=h
    rfl
  · obtain ⟨p,rfl,hp,k⟩:=h
    refine ⟨_,(@pss_cons _ _ _ _ _ (@ps_if _ _ _ _ _ _ _ _ (@pt_truth _ _ _ (pv 0) (fun _=>rfl)) (@pss_one _ _ _ (@ps_ret _ _ _ _ (pe_make T.M_World G_World___init__ (hr.mono (by decide)) rfl T.mg_World T.b_World___init__ .nil passN (@pa_mor _ _ _ _ _ (by rfl) (@pe_tup _ _ _ _ _ (@pa_mor _ _ _ _ _ (by rfl) pe_str (@pa_mor _ _ _ _ _ (by rfl) (pv 0) pa_nil))) pa_nil)))) pss_nil)
      (@pss_one _ _ _ (@ps_ret _ _ _ _ (pe_make T.M_World G_World___init__ (hr.mono (by decide)) rfl T.mg_World T.b_World___init__ .nil passN (@pa_mor _ _ _ _ _ (by rfl) (@pe_tup _ _ _ _ _ (@pa_mor _ _ _ _ _ (by rfl) pe_str pa_nil)) pa_nil))))),?_⟩
    refine ⟨_,rfl,_,rfl,ite2 (fun hq=>?_) (fun hq=>?_)⟩
    · have hq:p ≠ 0:=by simpa using hq
      obtain ⟨hp1,hp2,hp3⟩:2 ≤ p∧p ≤ 997∧primeB p = true:=hp.resolve_left hq
      refine ⟨_,rfl,by show 2 ≤ sizeLine; decide,fun q nq xw dw nx ndx nex=>⟨xw,dw,q,.b "wheel" p,rfl,upd_same,?_,fun _=>⟨rfl,k xw _ ?_ ⟨dw,by rw [upd_same,if_neg hq]; rfl⟩⟩,fun hg=>absurd ((td_wheel hp1 hp2 hp3).symm.trans hg) (by decide)⟩⟩
      · rw [upd_ne (ne_of_none upd_same nx),upd_ne (ne_of_none upd_same ndx)]
        exact upd_same
      · intro b o e
        have e1:=same_upd (o:=.tup [.str "wheel",.int p]) nq _ _ e
        rw [upd_ne (ne_of_none e1 nx),upd_ne (ne_of_none e1 nx),upd_ne (ne_of_none e1 ndx)]
        exact e1
    · have hq:p = 0:=by simpa using hq
      subst hq
      refine ⟨by show 1 ≤ sizeLine; decide,fun q nq xw dw nx ndx nex=>⟨xw,dw,q,.a "fractions",rfl,upd_same,?_,fun _=>⟨rfl,k xw _ ?_ ⟨dw,by rw [upd_same,if_pos rfl]; rfl⟩⟩,fun hg=>absurd (td_frac.symm.trans hg) (by decide)⟩⟩
      · rw [upd_ne (ne_of_none upd_same nx),upd_ne (ne_of_none upd_same ndx)]
        exact upd_same
      · intro b o e
        have e1:=same_upd (o:=.tup [.str "fractions"]) nq _ _ e
        rw [upd_ne (ne_of_none e1 nx),upd_ne (ne_of_none e1 nx),upd_ne (ne_of_none e1 ndx)]
        exact e1
theorem sc_b_number:FnScope ["p","draw","way","rest"] ["p","draw"] (defScope s_b_number):=⟨rfl,rfl,rfl,by decide +kernel,rfl,by decide +kernel,by decide +kernel⟩
theorem ok_b_number (T:Txt K mg t):FnOk P w K mg base CX0 2 t.f_b_number t.d_b_number ["p","draw"] spNumber10:=by
  have S:=sc_b_number
  have G_b_low:=ok_b_low (P:=P) (w:=w) (base:=base) T
  refine T.F_b_number.ok S (fun vs H Q E h=>?_) (fun cdv A outer s H vs Q E hr h=>?_)
  · obtain ⟨q,c,rfl,_⟩:=h
    rfl
  · obtain ⟨q,c,rfl,hp,hc,k⟩:=h
    refine ⟨_,(@pss_cons _ _ _ _ _ (@ps_if _ _ _ _ _ _ _ _ (@pt_truth _ _ _ (pv 0) (fun _=>rfl)) (@pss_one _ _ _ (@ps_ret _ _ _ _ (@pe_op _ _ _ _ _ _ _ _ op_mod (pv 1) (pv 0)))) pss_nil)
      (@pss_cons _ _ _ _ _ (@ps_put _ _ 2 _ _ _ _ (by rfl) (by first | exact .inl rfl | exact .inr rfl | assumption) S.nd rfl (Or.inl rfl) (@pe_op _ _ _ _ _ _ _ _ op_mod (pv 1) pe_int))
      (@pss_cons _ _ _ _ _ (@ps_put _ _ 3 _ _ _ _ (by rfl) (by first | exact .inl rfl | exact .inr rfl | assumption) S.nd rfl (Or.inl rfl) (@pe_op _ _ _ _ _ _ _ _ op_fdiv (pv 1) pe_int))
      (@pss_cons _ _ _ _ _ (@ps_if _ _ _ _ _ _ _ _ (@pt_cmpR _ _ _ _ _ _ _ _ op_lt (pv 2) pe_int (nomark _)) (@pss_one _ _ _ (@ps_ret _ _ _ _ (@pe_tup _ _ _ _ _ (@pa_mor _ _ _ _ _ (by rfl) pe_int (@pa_mor _ _ _ _ _ (by rfl) pe_int pa_nil))))) pss_nil)
      (@pss_cons _ _ _ _ _ (@ps_if _ _ _ _ _ _ _ _ (@pt_cmpR _ _ _ _ _ _ _ _ op_lt (pv 2) pe_int (nomark _)) (@pss_one _ _ _ (@ps_ret _ _ _ _ (@pe_tup _ _ _ _ _ (@pa_mor _ _ _ _ _ (by rfl) (@pe_op _ _ _ _ _ _ _ _ op_sub (@pe_op _ _ _ _ _ _ _ _ op_mod (pv 3) pe_int) pe_int) (@pa_mor _ _ _ _ _ (by rfl) pe_int pa_nil))))) pss_nil)
      (@pss_cons _ _ _ _ _ (@ps_if _ _ _ _ _ _ _ _ (@pt_cmpR _ _ _ _ _ _ _ _ op_lt (pv 2) pe_int (nomark _)) (@pss_one _ _ _ (@ps_ret _ _ _ _ (pe_call G_b_low (hr.mono (by decide)) rfl T.mg_b_low T.F_b_low.kp T.b_b_low .nil pass0 (@pa_mor _ _ _ _ _ (by rfl) (@pe_op _ _ _ _ _ _ _ _ op_sub (@pe_op _ _ _ _ _ _ _ _ op_mod (pv 3) pe_int) pe_int) (@pa_mor _ _ _ _ _ (by rfl) (@pe_op _ _ _ _ _ _ _ _ op_add (@pe_op _ _ _ _ _ _ _ _ op_mod (@pe_op _ _ _ _ _ _ _ _ op_fdiv (pv 3) pe_int) pe_int) pe_int) pa_nil))))) pss_nil)
      (@pss_one _ _ _ (@ps_ret _ _ _ _ (pe_call G_b_low (hr.mono (by decide)) rfl T.mg_b_low T.F_b_low.kp T.b_b_low .nil pass0 (@pa_mor _ _ _ _ _ (by rfl) (@pe_op _ _ _ _ _ _ _ _ op_sub (@pe_op _ _ _ _ _ _ _ _ op_mod (pv 3) pe_int) pe_int) (@pa_mor _ _ _ _ _ (by rfl) (@pe_op _ _ _ _ _ _ _ _ op_add (@pe_op _ _ _ _ _ _ _ _ op_mod (@pe_op _ _ _ _ _ _ _ _ op_fdiv (pv 3) pe_int) pe_int) pe_int) pa_nil))))))))))),?_⟩
    have lowk:∀ (a b:Int),1 ≤ b→a.natAbs ≤ 10 ^ 6→b.natAbs ≤ 1000→q = 0→spLowW [.int a,.int b] H Q E:=fun a b hb ba bb e=>by
      subst e
      obtain ⟨u,d,e1,e2,l,l1,l2⟩:=low_of (a:=a) hb
      refine ⟨a,b,rfl,by omega,(Mid.of_lt (by omega) (by omega)).wide,fun r H' s' e=>k (.ref r) u d H' s' (.frac ?_ l (Nat.le_trans l1 ba) (Nat.le_trans l2 (Nat.le_trans bb (by decide)))) (Nat.le_trans l2 bb)⟩
      rw [e,e1,e2]
    refine ⟨_,rfl,_,rfl,ite2 (fun hq=>?_) (fun hq=>?_)⟩
    · have hq:q ≠ 0:=by simpa using hq
      obtain ⟨hp1,hp2,hp3⟩:2 ≤ q∧q ≤ 997∧primeB q = true:=hp.resolve_left hq
      exact ⟨_,rfl,_,rfl,_,_,rfl,rfl,(show (0:Int) < q by omega),k _ _ _ H (Same.refl H) (.rem (Int.emod_nonneg _ hq) (Int.emod_lt_of_pos _ (by omega)) hp2) (by decide)⟩
    · have hq:q = 0:=by simpa using hq
      refine ⟨_,rfl,_,_,rfl,rfl,(by show (0:Int) < 8; decide),?_⟩
      refine ⟨_,rfl,_,_,rfl,rfl,⟨by decide,by decide⟩,?_⟩
      generalize c / 8 = e
      refine ⟨_,rfl,_,_,rfl,rfl,_,rfl,ite2 (fun _=>⟨by show 2 ≤ sizeLine; decide,fun r hr=>?_⟩) (fun _=>?_)⟩
      · subst hq
        exact k _ _ _ _ (same_upd hr) (.frac upd_same ⟨by decide,by decide⟩ (by decide) (by decide)) (by decide)
      refine ⟨_,rfl,_,_,rfl,rfl,_,rfl,ite2 (fun _=>⟨_,rfl,_,_,rfl,rfl,(by show (0:Int) < 7; decide),_,_,rfl,rfl,by show 2 ≤ sizeLine; decide,fun r hr=>?_⟩) (fun _=>?_)⟩
      · subst hq
        have b0:=Int.emod_nonneg e (show (7:Int) ≠ 0 by decide)
        have b1:=Int.emod_lt_of_pos e (show (0:Int) < 7 by decide)
        exact k _ _ _ _ (same_upd hr) (.frac upd_same ⟨by decide,Int.gcd_one_right ..⟩ (by omega) (by decide)) (by decide)
      refine ⟨_,rfl,_,_,rfl,rfl,_,rfl,ite2 (fun _=>⟨_,rfl,_,_,rfl,rfl,(by show (0:Int) < 23; decide),_,_,rfl,rfl,_,rfl,_,_,rfl,rfl,⟨by decide,by decide⟩,_,_,rfl,rfl,(by show (0:Int) < 6; decide),_,_,rfl,rfl,?_⟩) (fun _=>?_)⟩
      · have b0:=Int.emod_nonneg e (show (23:Int) ≠ 0 by decide)
        have b1:=Int.emod_lt_of_pos e (show (0:Int) < 23 by decide)
        have b2:=Int.emod_nonneg (e / 23) (show (6:Int) ≠ 0 by decide)
        have b3:=Int.emod_lt_of_pos (e / 23) (show (0:Int) < 6 by decide)
        exact lowk _ _ (by omega) (by omega) (by omega) hq
      · refine ⟨_,rfl,_,_,rfl,rfl,(by show (0:Int) < 2000001; decide),_,_,rfl,rfl,_,rfl,_,_,rfl,rfl,⟨by decide,by decide⟩,_,_,rfl,rfl,(by show (0:Int) < 1000; decide),_,_,rfl,rfl,?_⟩
        have b0:=Int.emod_nonneg e (show (2000001:Int) ≠ 0 by decide)
        have b1:=Int.emod_lt_of_pos e (show (0:Int) < 2000001 by decide)
        have b2:=Int.emod_nonneg (e / 2000001) (show (1000:Int) ≠ 0 by decide)
        have b3:=Int.emod_lt_of_pos (e / 2000001) (show (0:Int) < 1000 by decide)
        exact lowk _ _ (by omega) (by omega) (by omega) hq
def spTable69 (K:PySem.W.Frag):Sp:=fun vs H Q _=>∃ (a:Addr) (ns:List Int) (q:Int) (n m:Nat) (c:Int),vs = [.ref a,.int q,.int (n:Int),.int (m:Int),.int c]∧SqL K H a (ns.map V.int)∧WheelN q∧n ≤ 40∧m ≤ 40∧0 ≤ c∧c ≤ 10000∧∀ (r:Addr) (H':Hp) (pss:List (List (Int × Int))),Same H H'→H r = none→TabB (10 ^ 6) H' q r pss→pss.length = n→(∀ ps ∈ pss,ps.length = m)→(∀ ps ∈ pss,Nums0 ps)→Q (.ref r) H'
theorem sc_b_table:FnScope ["script","p","n","m","at"] ["script","p","n","m","at"] (defScope s_b_table):=⟨rfl,rfl,rfl,by decide +kernel,rfl,by decide +kernel,by decide +kernel⟩
theorem ok_b_table (T:Txt K mg t):FnOk P w K mg base CX0 3 t.f_b_table t.d_b_table ["script","p","n","m","at"] (spTable69 K):=by
  have S:=sc_b_table
  have G_b_draw:=ok_b_draw (P:=P) (w:=w) (base:=base) T
  have G_b_number:=ok_b_number (P:=P) (w:=w) (base:=base) T
  refine T.F_b_table.ok S (fun vs H Q E h=>?_) (fun cdv A outer s H vs Q E hr h=>?_)
  · obtain ⟨a,ns,q,n,m,c,rfl,_⟩:=h
    rfl
  · obtain ⟨sa,ns,q,n,m,at0,rfl,hS,hq,n40,m40,c0,c1,k⟩:=h
    refine ⟨_,(@pss_one _ _ _ (@ps_ret _ _ _ _ (pe_compC (N:=["i","p","script","m","at"]) (ρ:=(fun σ=>[σ[1]?.join,σ[0]?.join,σ[3]?.join,σ[4]?.join])) ⟨rfl,rfl,(fun _=>rfl),(fun _=>rfl),by decide +kernel,(List.forall_mem_cons.mpr ⟨rfl,(List.forall_mem_cons.mpr ⟨rfl,(List.forall_mem_cons.mpr ⟨rfl,(List.forall_mem_cons.mpr ⟨rfl,(List.forall_mem_nil _)⟩)⟩)⟩)⟩),hasC_of (by rfl),rfl,by decide +kernel,rfl,(fun σ j v h=>match j,h with | 0,h=>⟨1,_,rfl,rfl,join_some h,Or.inr (Or.inl rfl),.inl rfl,.inl rfl⟩ | 1,h=>⟨0,_,rfl,rfl,join_some h,Or.inr (Or.inl rfl),.inl rfl,.inl rfl⟩ | 2,h=>⟨3,_,rfl,rfl,join_some h,Or.inr (Or.inl rfl),.inl rfl,.inl rfl⟩ | 3,h=>⟨4,_,rfl,rfl,join_some h,Or.inr (Or.inl rfl),.inl rfl,.inl rfl⟩ | j + 4,h=>by cases h),(fun _ _=>rfl)⟩ rfl (pi_range1 rfl T.n_range (@pa_mor _ _ _ _ _ (by rfl) (pv 2) pa_nil)) (fun s₃ H₃ fp=>.nil) (fun s₃ H₃ fp=>(pe_comp (N:=["j","p","script","at","i","m"]) (ρ:=(fun σ=>[σ[1]?.join,σ[2]?.join,σ[4]?.join,σ[0]?.join,σ[3]?.join])) ⟨rfl,rfl,by decide +kernel,by decide +kernel,(List.forall_mem_cons.mpr ⟨rfl,(List.forall_mem_cons.mpr ⟨rfl,(List.forall_mem_cons.mpr ⟨rfl,(List.forall_mem_cons.mpr ⟨rfl,(List.forall_mem_cons.mpr ⟨rfl,(List.forall_mem_nil _)⟩)⟩)⟩)⟩)⟩),has_of (by rfl),rfl,by decide +kernel,rfl,(fun σ j v h=>match j,h with | 0,h=>⟨1,_,rfl,rfl,join_some h,Or.inr (Or.inl rfl),.inl rfl,.inl rfl⟩ | 1,h=>⟨2,_,rfl,rfl,join_some h,Or.inr (Or.inl rfl),.inl rfl,.inl rfl⟩ | 2,h=>⟨4,_,rfl,rfl,join_some h,Or.inr (Or.inl rfl),.inl rfl,.inl rfl⟩ | 3,h=>⟨0,_,rfl,rfl,join_some h,Or.inr (Or.inl rfl),.inl rfl,.inl rfl⟩ | 4,h=>⟨3,_,rfl,rfl,join_some h,Or.inr (Or.inl rfl),.inl rfl,.inl rfl⟩ | j + 5,h=>by cases h),(fun _ _=>rfl)⟩ rfl (pi_range1 rfl T.n_range (@pa_mor _ _ _ _ _ (by rfl) (pv 3) pa_nil)) (fun s₃ H₃ fp=>.nil) (fun s₃ H₃ fp=>(pe_call G_b_number (hr.mono (by decide)) rfl T.mg_b_number T.F_b_number.kp T.b_b_number .nil pass0 (@pa_mor _ _ _ _ _ (by rfl) (pv 1) (@pa_mor _ _ _ _ _ (by rfl) (pe_call G_b_draw (hr.mono (by decide)) rfl T.mg_b_draw T.F_b_draw.kp T.b_b_draw .nil pass0 (@pa_mor _ _ _ _ _ (by rfl) (pv 2) (@pa_mor _ _ _ _ _ (by rfl) (@pe_op _ _ _ _ _ _ _ _ op_add (@pe_op _ _ _ _ _ _ _ _ op_add (pv 3) (@pe_op _ _ _ _ _ _ _ _ op_mul (pv 4) (pv 5))) (pv 0)) pa_nil))) pa_nil))))))))),?_⟩
    have im:∀ i:Nat,i < n→(i:Int) * (m:Int) ≤ 1600∧0 ≤ (i:Int) * (m:Int):=fun i hi=>by
      have:=Nat.mul_le_mul (show i ≤ 40 by omega) m40
      have e:(i:Int) * (m:Int) = ((i * m:Nat):Int):=by simp
      omega
    refine ret_of (comp_ofN (xs:=(List.range n).map fun i:Nat=>V.int (0 + (i:Int))) (fun R h=>⟨_,rfl,(n:Int),rfl,by omega,by omega,h _ _ (Same.refl _) (by rw [Int.toNat_natCast]; exact jseq_rng)⟩) (by rw [List.length_map,List.length_range]; exact small1000 (by omega)) (fun D i y Hx=>∃ (x:Addr) (ps:List (Int × Int)),y = .ref x∧x ≠ D∧RowG (10 ^ 6) Hx q x ps∧ps.length = m∧Nums0 ps) (fun D i y Ha Hb ys ⟨x,ps,h1,h2,h3,h4⟩ e f=>⟨x,ps,h1,h2,row_far h3 h2 e f,h4⟩) ?_ ?_)
    · intro D i v hi Hc R sc ⟨zs,eD⟩ kc
      obtain ⟨hi',rfl⟩:=rng_at hi
      obtain ⟨im1,im2⟩:=im i hi'
      refine comp_ofN (xs:=(List.range m).map fun i:Nat=>V.int (0 + (i:Int))) (fun R h=>⟨_,rfl,(m:Int),rfl,by omega,by omega,h _ _ (Same.refl _) (by rw [Int.toNat_natCast]; exact jseq_rng)⟩) (by rw [List.length_map,List.length_range]; exact small1000 (by omega)) (fun D j y Hx=>∃ p:Int × Int,NumAt (10 ^ 6) Hx q y p.1 p.2∧p.2.natAbs ≤ 1000) (fun D i y Ha Hb ys ⟨p,h0,h1⟩ e f=>⟨p,h0.far e f,h1⟩) ?_ ?_
      · intro D' j v hj Hd R' sd _ kd
        obtain ⟨hj',rfl⟩:=rng_at hj
        refine ⟨_,rfl,_,rfl,_,rfl,_,rfl,_,rfl,_,_,rfl,rfl,.inl ⟨by omega,by omega⟩,_,_,rfl,rfl,_,rfl,_,_,rfl,rfl,sa,ns,_,rfl,(sc.trans sd).seq hS,by omega,by omega,fun H3 s3=>⟨q,_,rfl,hq,drawV_nonneg ..,fun v x mm H4 s4 hN hb=>kd v H4 (s3.trans s4) ⟨(x,mm),hN,hb⟩⟩⟩
      · intro D' ys Hd nD' sd lys hP eD'
        obtain ⟨ps,lp,hp⟩:=pick (R:=fun _ y p=>NumAt (10 ^ 6) Hd q y (Prod.fst p) (Prod.snd p)∧(Prod.snd p).natAbs ≤ 1000) hP
        rw [List.length_map,List.length_range] at lys
        refine kc _ Hd sd ⟨D',ps,rfl,(fun e=>by rw [e,eD] at nD'; cases nD'),⟨ys,eD',lp.symm,fun j v p h1 h2=>(hp j v p h1 h2).1⟩,by omega,fun p hp'=>?_⟩
        obtain ⟨j,hj,e⟩:=List.mem_iff_getElem.mp hp'
        have j1:j < ys.length:=by omega
        have z:=hp j ys[j] p (by simp [j1]) (by simp [hj,e])
        exact ⟨(z.1.both (by decide)).1,z.2⟩
    · intro D ys Hc nD sc hys hP eD
      obtain ⟨pss,lp,hp⟩:=pick (R:=fun (_:Nat) (y:V) (ps:List (Int × Int))=>∃ x:Addr,y = .ref x∧RowG (10 ^ 6) Hc q x ps∧ps.length = m∧Nums0 ps) (fun i y e=>by
        obtain ⟨x,ps,h1,_,h3,h4⟩:=hP i y e
        exact ⟨ps,x,h1,h3,h4⟩)
      rw [List.length_map,List.length_range] at hys
      have each:∀ ps ∈ pss,ps.length = m∧Nums0 ps:=fun ps hps=>by
        obtain ⟨i,hi,ei⟩:=List.getElem_of_mem hps
        have hi':i < ys.length:=by omega
        obtain ⟨x,_,_,e3,e4⟩:=hp i ys[i] ps (by simp [hi']) (by rw [← ei]; simp [hi])
        exact ⟨e3,e4⟩
      refine k D Hc pss sc nD ⟨ys,eD,lp.symm,fun i v ps h1 h2=>?_⟩ (by omega) (fun ps h=>(each ps h).1) (fun ps h=>(each ps h).2)
      obtain ⟨x,e1,e2,_⟩:=hp i v ps h1 h2
      exact ⟨x,e1,e2⟩
def spRef69 (C:Addr):Sp:=fun vs H Q _=>∃ (z a b d:Addr) (q:Int) (pss rss:List (List (Int × Int))) (xs:List V) (m u:Nat),vs = [.ref z,.ref a,.ref b,.ref d]∧WorldAt C H z q∧WheelN q∧TabB (10 ^ 6) H q a pss∧TabB (10 ^ 6) H q b rss∧H d = some (.lst xs)∧1 ≤ pss.length∧pss.length ≤ 40∧1 ≤ rss.length∧rss.length ≤ 40∧(∀ ps ∈ pss,ps.length = m)∧(∀ ps ∈ rss,ps.length = u)∧m ≤ 40∧u ≤ 40∧(m ≠ pss.length ∨ u ≠ rss.length ∨ 40 < pss.length * rss.length ∨ xs.length ≠ pss.length * rss.length)∧∀ H',Same H H'→Q (.bl true) H'
theorem Txt.cx_NoFit {K:PySem.W.Frag} {mg:Str→Option Value} {t:Adr} (T:Txt K mg t):ClsX K t.C_NoFit:=⟨T.cx1,T.cx2,T.cx3,T.cx4,T.cx5,T.cx6⟩
theorem sc_b_refused:FnScope ["world","one","other","aim","fits","e"] ["world","one","other","aim"] (defScope s_b_refused):=⟨rfl,rfl,rfl,by decide +kernel,rfl,by decide +kernel,by decide +kernel⟩
theorem ok_b_refused (T:Txt K mg t):FnOk P w K mg base CX0 8 t.f_b_refused t.d_b_refused ["world","one","other","aim"] (spRef69 t.C_World):=by
  have S:=sc_b_refused
  have G_twofold_undone:=ok_twofold_undone (P:=P) (w:=w) (base:=base) T
  refine T.F_b_refused.ok S (fun vs H0 Q E h=>?_) (fun cdv A outer s H0 vs Q E hr h=>?_)
  · obtain ⟨z,a,b,d,q,pss,rss,xs,m,u,rfl,_⟩:=h
    rfl
  · obtain ⟨z,a,b,d,q,pss,rss,xs,m,u,rfl,hz,hq,hA,hB,ed,n1,n40,k1,k40,hm,hu,m40,u40,bad,k0⟩:=h
    refine ⟨_,(@pss_cons _ _ _ _ _ (@ps_put _ _ 4 _ _ _ _ (by rfl) (by first | exact .inl rfl | exact .inr rfl | assumption) S.nd rfl (Or.inl rfl) pe_bl)
      (@pss_cons _ _ _ _ _ (ps_tryAs rfl rfl S.nd (i:=5) rfl rfl (psx_expr (pex_call G_twofold_undone (hr.mono (by decide)) rfl T.mg_twofold_undone T.F_twofold_undone.kp T.b_twofold_undone .nil (@pa_mor _ _ _ _ _ (by rfl) (pv 0) (@pa_mor _ _ _ _ _ (by rfl) (pv 1) (@pa_mor _ _ _ _ _ (by rfl) (pv 2) (@pa_mor _ _ _ _ _ (by rfl) (pv 3) pa_nil))))))
        (fun ea=>(@pss_cons _ _ _ _ _ (@ps_put _ _ 4 _ _ _ _ (by rfl) (by first | exact .inl rfl | exact .inr rfl | assumption) S.nd rfl (Or.inl rfl) (@pe_and _ _ _ _ _ _ _ (pe_callB (call_isi (K:=K)) rfl T.n_isinstance boot_isinstance (@pa_mor _ _ _ _ _ (by rfl) (pv 5) (@pa_mor _ _ _ _ _ (by rfl) (pe_bltn (v:=.ty "ValueError") rfl T.n_ValueError boot_ValueError rfl) pa_nil))) (@pe_and _ _ _ _ _ _ _ (pe_callB (call_isi (K:=K)) rfl T.n_isinstance boot_isinstance (@pa_mor _ _ _ _ _ (by rfl) (pv 5) (@pa_mor _ _ _ _ _ (by rfl) (pe_glob (v:=.ref _) rfl T.mg_NoFit rfl) pa_nil))) (@pe_one _ _ _ _ _ (@pe_not _ _ _ _ (pe_callB (call_isi (K:=K)) rfl T.n_isinstance boot_isinstance (@pa_mor _ _ _ _ _ (by rfl) (pv 5) (@pa_mor _ _ _ _ _ (by rfl) (pe_glob (v:=.ref _) rfl T.mg_NoWorld rfl) pa_nil))))))))
      (@pss_cons _ _ _ _ _ (@ps_put _ _ 4 _ _ _ _ (by rfl) (by first | exact .inl rfl | exact .inr rfl | assumption) S.nd rfl (Or.inl rfl) (@pe_and _ _ _ _ _ _ _ (pv 4) (@pe_and _ _ _ _ _ _ _ (@pe_not _ _ _ _ (pe_callB (call_isi (K:=K)) rfl T.n_isinstance boot_isinstance (@pa_mor _ _ _ _ _ (by rfl) (pv 5) (@pa_mor _ _ _ _ _ (by rfl) (pe_glob (v:=.ref _) rfl T.mg_NoOver rfl) pa_nil)))) (@pe_and _ _ _ _ _ _ _ (@pe_not _ _ _ _ (pe_callB (call_isi (K:=K)) rfl T.n_isinstance boot_isinstance (@pa_mor _ _ _ _ _ (by rfl) (pv 5) (@pa_mor _ _ _ _ _ (by rfl) (pe_glob (v:=.ref _) rfl T.mg_NoShape rfl) pa_nil)))) (@pe_one _ _ _ _ _ (@pe_not _ _ _ _ (pe_callB (call_isi (K:=K)) rfl T.n_isinstance boot_isinstance (@pa_mor _ _ _ _ _ (by rfl) (pv 5) (@pa_mor _ _ _ _ _ (by rfl) (pe_glob (v:=.ref _) rfl T.mg_NoOrder rfl) pa_nil)))))))))
      (@pss_one _ _ _ (@ps_put _ _ 4 _ _ _ _ (by rfl) (by first | exact .inl rfl | exact .inr rfl | assumption) S.nd rfl (Or.inl rfl) (@pe_and _ _ _ _ _ _ _ (pv 4) (@pe_and _ _ _ _ _ _ _ (@pe_not _ _ _ _ (pe_callB (call_isi (K:=K)) rfl T.n_isinstance boot_isinstance (@pa_mor _ _ _ _ _ (by rfl) (pv 5) (@pa_mor _ _ _ _ _ (by rfl) (pe_glob (v:=.ref _) rfl T.mg_NoSize rfl) pa_nil)))) (@pe_and _ _ _ _ _ _ _ (@pe_not _ _ _ _ (pe_callB (call_isi (K:=K)) rfl T.n_isinstance boot_isinstance (@pa_mor _ _ _ _ _ (by rfl) (pv 5) (@pa_mor _ _ _ _ _ (by rfl) (pe_glob (v:=.ref _) rfl T.mg_NoLink rfl) pa_nil)))) (@pe_one _ _ _ _ _ (@pe_not _ _ _ _ (pe_callB (call_isi (K:=K)) rfl T.n_isinstance boot_isinstance (@pa_mor _ _ _ _ _ (by rfl) (pv 5) (@pa_mor _ _ _ _ _ (by rfl) (pe_glob (v:=.ref _) rfl T.mg_Tied rfl) pa_nil))))))))))))) rfl T.mg_WrightError T.x_WrightError PySem.F.excBase_ValueError.hasBase)
      (@pss_one _ _ _ (@ps_ret _ _ _ _ (pv 4))))),?_⟩
    refine ⟨_,rfl,_,rfl,_,rfl,_,rfl,z,a,b,d,q,pss,rss,xs,m,u,rfl,hz,hq,hA,hB,ed,n1,n40,k1,k40,hm,hu,m40,u40,fun _ H s0=>⟨_,rfl,⟨T.x_NoFit,T.m_NF_WE⟩,fun ea hea=>?_⟩,fun e1 e2 e3 e4=>(by omega:False).elim⟩
    have k:∀ H',Same H H'→Q (.bl true) H':=fun H' s'=>k0 H' (s0.trans s')
    have ty:TyX K (upd H ea (ExcO ea t.C_NoFit)) (.ref ea) (.ref t.C_NoFit):=.exc upd_same T.cx_NoFit
    refine ⟨_,rfl,_,_,_,true,rfl,rfl,ty,T.k_VE,true,rfl,iteT ?_⟩
    refine ⟨_,rfl,_,_,_,true,rfl,rfl,ty,T.k_NF,true,rfl,iteT ?_⟩
    refine ⟨_,rfl,_,_,_,false,rfl,rfl,ty,T.k_NoWorld,false,rfl,?_⟩
    refine ⟨_,rfl,true,rfl,iteT ⟨_,rfl,_,_,_,false,rfl,rfl,ty,T.k_NoOver,false,rfl,true,rfl,iteT ?_⟩⟩
    refine ⟨_,rfl,_,_,_,false,rfl,rfl,ty,T.k_NoShape,false,rfl,true,rfl,iteT ?_⟩
    refine ⟨_,rfl,_,_,_,false,rfl,rfl,ty,T.k_NoOrder,false,rfl,?_⟩
    refine ⟨_,rfl,true,rfl,iteT ⟨_,rfl,_,_,_,false,rfl,rfl,ty,T.k_NoSize,false,rfl,true,rfl,iteT ?_⟩⟩
    refine ⟨_,rfl,_,_,_,false,rfl,rfl,ty,T.k_NoLink,false,rfl,true,rfl,iteT ?_⟩
    refine ⟨_,rfl,_,_,_,false,rfl,rfl,ty,T.k_Tied,false,rfl,?_⟩
    exact ⟨_,rfl,k _ (same_upd hea)⟩
theorem te_gen {t:TE} {σ:St} {H:Hp} {Q:VK} (P:V→Hp→Prop) (h:∀ Q':VK,(∀ v H',P v H'→Q' v H')→t σ H Q') (k:∀ v H',P v H'→Q v H'):t σ H Q:=h Q k
theorem copy_of {K1 K2:PySem.W.Frag} {i:Nat} {a:Addr} {B:Nat} {q:Int} {pss:List (List (Int × Int))} {σ:St} {H:Hp} {Q:VK} (e:σ[i]? = some (some (.ref a))) (h:TabB B H q a pss) (n40:pss.length ≤ 40) (k:∀ D H',H D = none→Same H H'→TabB B H' q D pss→Q (.ref D) H'):tComp (iList K1 (tVar i)) (fun _=>[]) (fun _ H Q=>Q true H) (tCB (listR K2) (tCons (tVar 0) tNil)) σ H Q:=by
  obtain ⟨vs,ea,lv,fv⟩:=id h
  refine comp_ofN (xs:=vs) (fun R h=>⟨_,e,a,rfl,⟨_,.of ea⟩,h _ _ (Same.refl _) (jseq_list (.of ea))⟩) (by rw [lv]; exact small1000 (by omega)) (fun D i y Hx=>∃ x:Addr,y = .ref x∧x ≠ D∧RowG B Hx q x (pss.getD i [])) (fun D i y Ha Hb ys ⟨x,h1,h2,h3⟩ e f=>⟨x,h1,h2,row_far h3 h2 e f⟩) ?_ ?_
  · intro D i v hi Hc R sc ⟨zs,eD⟩ kc
    have i1:i < vs.length:=(List.getElem?_eq_some_iff.mp hi).1
    have i2:i < pss.length:=by omega
    obtain ⟨r,rfl,ws,ew,lw,fw⟩:=fv i v pss[i] hi (by simp [i2])
    refine ⟨_,rfl,r,ws,rfl,.inl (.of (sc _ _ ew)),fun b nb=>?_⟩
    have sb:Same Hc (upd Hc b (.lst ws)):=same_upd nb
    refine kc _ _ sb ⟨b,rfl,(fun e=>by rw [e,eD] at nb; cases nb),?_⟩
    rw [getD_at i2]
    exact ⟨ws,upd_same,lw,fun j v p h1 h2=>((fw j v p h1 h2).mono sc).mono sb⟩
  · intro D ys Hc nD sc lys hP eD
    refine k D Hc nD sc ⟨ys,eD,by omega,fun i v ps h1 h2=>?_⟩
    obtain ⟨x,e1,_,e3⟩:=hP i v h1
    have i2:i < pss.length:=(List.getElem?_eq_some_iff.mp h2).1
    rw [getD_at i2] at e3
    have:ps = pss[i]:=by simpa [i2] using h2.symm
    rw [this]
    exact ⟨x,e1,e3⟩
def spBent:Sp:=fun vs H Q _=>∃ (a:Addr) (q c:Int) (pss:List (List (Int × Int))),vs = [.ref a,.int c]∧TabB (10 ^ 6) H q a pss∧1 ≤ pss.length∧pss.length ≤ 10∧(∀ ps ∈ pss,ps.length = pss.length)∧∀ (r:Addr) (rss:List (List (Int × Int))) (m:Nat) (H':Hp),Same H H'→TabB (10 ^ 6) H' q r rss→1 ≤ rss.length→rss.length ≤ 40→(∀ ps ∈ rss,ps.length = m)→m ≤ 40→m ≠ rss.length→Q (.ref r) H'
theorem tabB_pick {B:Nat} {H:Hp} {q:Int} {D:Addr} {ys:List V} {m:Nat} (eD:H D = some (.lst ys)) (hP:∀ (i:Nat) (y:V),ys[i]? = some y→∃ (x:Addr) (ps:List (Int × Int)),y = .ref x∧x ≠ D∧RowG B H q x ps∧ps.length = m):∃ rss,TabB B H q D rss∧rss.length = ys.length∧∀ ps ∈ rss,ps.length = m:=by
  obtain ⟨rss,lr,hr⟩:=pick (R:=fun (_:Nat) (y:V) (ps:List (Int × Int))=>∃ x:Addr,y = .ref x∧RowG B H q x ps∧ps.length = m) (fun i y e=>by
    obtain ⟨x,ps,h1,_,h3,h4⟩:=hP i y e
    exact ⟨ps,x,h1,h3,h4⟩)
  refine ⟨rss,⟨ys,eD,lr.symm,fun i v ps h1 h2=>?_⟩,lr,fun ps hps=>?_⟩
  · obtain ⟨x,e1,e2,_⟩:=hr i v ps h1 h2
    exact ⟨x,e1,e2⟩
  · obtain ⟨i,hi,ei⟩:=List.getElem_of_mem hps
    have hi':i < ys.length:=by omega
    obtain ⟨x,_,_,e4⟩:=hr i ys[i] ps (by simp [hi']) (by rw [← ei]; simp [hi])
    exact e4
theorem sc_b_bent:FnScope ["table","draw"] ["table","draw"] (defScope s_b_bent):=⟨rfl,rfl,rfl,by decide +kernel,rfl,by decide +kernel,by decide +kernel⟩
theorem ok_b_bent (T:Txt K mg t):FnOk P w K mg base CX0 1 t.f_b_bent t.d_b_bent ["table","draw"] spBent:=by
  have S:=sc_b_bent
  refine T.F_b_bent.ok S (fun vs H Q E h=>?_) (fun cdv A outer s H vs Q E hr h=>?_)
  · obtain ⟨a,q,c,pss,rfl,_⟩:=h
    rfl
  · obtain ⟨a,q,c,pss,rfl,hA,n1,n10,hm,k⟩:=h
    refine ⟨_,(@pss_cons _ _ _ _ _ (@ps_if _ _ _ _ _ _ _ _ (@pt_cmpR _ _ _ _ _ _ _ _ op_eq (@pe_op _ _ _ _ _ _ _ _ op_mod (pv 1) pe_int) pe_int (nomark _)) (@pss_one _ _ _ (@ps_ret _ _ _ _ (pe_comp (N:=["row"]) (ρ:=(fun σ=>[])) ⟨rfl,rfl,by decide +kernel,by decide +kernel,(List.forall_mem_nil _),has_of (by rfl),rfl,by decide +kernel,rfl,(fun σ j v h=>match j,h with | j,h=>by cases h),(fun _ _=>rfl)⟩ rfl (pi_list (pv 0)) (fun s₃ H₃ fp=>.nil) (fun s₃ H₃ fp=>(@pe_op _ _ _ _ _ _ _ _ op_cat (pv 0) (@pe_lst _ _ _ _ (@pa_mor _ _ _ _ _ (by rfl) (@pe_ix _ _ _ _ _ _ _ (ix_listK (K:=K)) (pv 0) pe_int (fun _ _=>rfl)) pa_nil))))))) pss_nil)
      (@pss_one _ _ _ (@ps_ret _ _ _ _ (@pe_op _ _ _ _ _ _ _ _ op_cat (pe_comp (N:=["row"]) (ρ:=(fun σ=>[])) ⟨rfl,rfl,by decide +kernel,by decide +kernel,(List.forall_mem_nil _),has_of (by rfl),rfl,by decide +kernel,rfl,(fun σ j v h=>match j,h with | j,h=>by cases h),(fun _ _=>rfl)⟩ rfl (pi_list (pv 0)) (fun s₃ H₃ fp=>.nil) (fun s₃ H₃ fp=>(pe_callTy (call_list_ofK (K:=K)) rfl T.n_list boot_list (@pa_mor _ _ _ _ _ (by rfl) (pv 0) pa_nil)))) (@pe_lst _ _ _ _ (@pa_mor _ _ _ _ _ (by rfl) (pe_callTy call_list_of rfl T.n_list boot_list (@pa_mor _ _ _ _ _ (by rfl) (@pe_ix _ _ _ _ _ _ _ ix_list (pv 0) pe_int (fun _ _=>rfl)) pa_nil)) pa_nil)))))),?_⟩
    obtain ⟨vs,ea,lv,fv⟩:=id hA
    refine ⟨_,rfl,_,_,rfl,rfl,(by show (0:Int) < 2; decide),rfl,_,rfl,ite2 (fun _=>?_) (fun _=>?_)⟩
    · refine ret_of (comp_ofN (xs:=vs) (fun R h=>⟨_,rfl,a,rfl,⟨_,.of ea⟩,h _ _ (Same.refl _) (jseq_list (.of ea))⟩) (by rw [lv]; exact small1000 (by omega)) (fun D i y Hx=>∃ (x:Addr) (ps:List (Int × Int)),y = .ref x∧x ≠ D∧RowG (10 ^ 6) Hx q x ps∧ps.length = pss.length + 1) (fun D i y Ha Hb ys ⟨x,ps,h1,h2,h3,h4⟩ e f=>⟨x,ps,h1,h2,row_far h3 h2 e f,h4⟩) ?_ ?_)
      · intro D i v hi Hd R sd ⟨zs,eD⟩ kd
        have i1:i < vs.length:=(List.getElem?_eq_some_iff.mp hi).1
        have i2:i < pss.length:=by omega
        obtain ⟨r,rfl,ws,ew,lw,fw⟩:=fv i v pss[i] hi (by simp [i2])
        have lp:=hm _ (List.getElem_mem i2)
        have u1:0 < ws.length:=by omega
        have u2:0 < pss[i].length:=by omega
        have ew:=sd _ _ ew
        have zu:=(fw 0 ws[0] pss[i][0] (by simp [u1]) (by simp [u2])).mono sd
        have at0:atI ws 0 = some ws[0]:=by exact atI_nat (j:=0) (by simp [u1])
        refine ⟨_,rfl,_,rfl,r,ws,_,_,rfl,rfl,.of ew,at0,by show 1 ≤ sizeLine; decide,fun l nl=>?_⟩
        have sl:Same Hd (upd Hd l (.lst [ws[0]])):=same_upd nl
        have el:upd Hd l (.lst [ws[0]]) l = some (.lst [ws[0]]):=upd_same
        generalize upd Hd l (.lst [ws[0]]) = He at sl el ⊢
        refine ⟨r,l,ws,[ws[0]],rfl,rfl,sl _ _ ew,el,Nat.le_trans (show ws.length + [ws[0]].length ≤ 100 by simp; omega) (by decide),fun p np'=>?_⟩
        have sp:Same He (upd He p (.lst (ws ++ [ws[0]]))):=same_upd np'
        have nlD:Hd p = none:=none_of sl np'
        refine kd _ _ (sl.trans sp) ⟨p,pss[i] ++ [pss[i][0]],rfl,(fun e=>by rw [e,eD] at nlD; cases nlD),?_,by simp; exact lp⟩
        refine RowG.cat (B:=10 ^ 6) upd_same lw rfl (fun j v p' h1 h2=>(((fw j v p' h1 h2).mono sd).mono sl).mono sp) (fun j v p' h1 h2=>?_)
        match j,h1,h2 with
        | 0,h1,h2=>cases h1; cases h2; exact (zu.mono sl).mono sp
      · intro D ys Hd nD sd lys hP eD
        obtain ⟨rss,hw1,lr1,wr1⟩:=tabB_pick eD hP
        exact k D rss (pss.length + 1) Hd sd hw1 (by omega) (by omega) wr1 (by omega) (by omega)
    · dsimp only [tNext]
      refine ret_of (op_of (copy_of rfl hA (by omega) fun D H1 nD s1 hD=>?_))
      obtain ⟨ds,ed,ld,fd⟩:=id hD
      have v0:0 < vs.length:=by omega
      have p0:0 < pss.length:=by omega
      obtain ⟨r0,er0,ws,ew,lw,fw⟩:=fv 0 vs[0] pss[0] (by simp [v0]) (by simp [p0])
      have at0:atI vs 0 = some (.ref r0):=by exact atI_nat (j:=0) (by rw [← er0]; simp [v0])
      refine ⟨_,rfl,a,vs,_,_,rfl,rfl,.of (s1 _ _ ea),at0,r0,ws,rfl,.inl (.of (s1 _ _ ew)),fun b nb=>?_⟩
      have sb:Same H1 (upd H1 b (.lst ws)):=same_upd nb
      have eb:upd H1 b (.lst ws) b = some (.lst ws):=upd_same
      generalize upd H1 b (.lst ws) = H2 at sb eb ⊢
      refine ⟨by show 1 ≤ sizeLine; decide,fun l nl=>?_⟩
      have sl:Same H2 (upd H2 l (.lst [.ref b])):=same_upd nl
      have el:upd H2 l (.lst [.ref b]) l = some (.lst [.ref b]):=upd_same
      generalize upd H2 l (.lst [.ref b]) = H3 at sl el ⊢
      refine ⟨D,l,ds,[.ref b],rfl,rfl,sl _ _ (sb _ _ ed),el,Nat.le_trans (show ds.length + [V.ref b].length ≤ 100 by simp; omega) (by decide),fun p np'=>?_⟩
      have sp:Same H3 (upd H3 p (.lst (ds ++ [.ref b]))):=same_upd np'
      have s13:=sb.trans (sl.trans sp)
      refine k p (pss ++ [pss[0]]) pss.length _ (s1.trans s13) ⟨_,upd_same,by simp [ld],fun i v ps h1 h2=>?_⟩ (by simp) (by simp; omega) (fun ps hp=>?_) (by omega) (by simp)
      · by_cases y:i < ds.length
        · rw [List.getElem?_append_left y] at h1
          rw [List.getElem?_append_left (by omega)] at h2
          obtain ⟨x,e1,e2⟩:=fd i v ps h1 h2
          exact ⟨x,e1,e2.mono s13⟩
        · rw [List.getElem?_append_right (by omega)] at h1
          rw [List.getElem?_append_right (by omega)] at h2
          have ei:i - ds.length = 0:=by
            have:=(List.getElem?_eq_some_iff.mp h1).1
            simp at this
            omega
          rw [ei] at h1
          rw [show i - pss.length = 0 by omega] at h2
          cases h1
          cases h2
          exact ⟨b,rfl,ws,(sl.trans sp) _ _ eb,lw,fun j v p h1 h2=>((fw j v p h1 h2).mono s1).mono s13⟩
      · rcases List.mem_append.mp hp with y | y
        · exact hm ps y
        · rw [List.mem_singleton.mp y]
          exact hm _ (List.getElem_mem p0)
theorem ifs_gen10 {c:TT} {t u:TS} {D:Ends} {σ:St} {H:Hp} (k:∀ R:St→Hp→Prop,(∀ σ H,D.nx σ H→R σ H)→tIfS c t u { D with nx:=R } σ H):tIfS c t u D σ H:=k D.nx fun _ _ h=>h
theorem ifs_dec {c:TT} {t u:TS} {D:Ends} {σ:St} {H:Hp} (b:Bool) (hc:∀ Q:Bool→Hp→Prop,Q b H→c σ H Q) (ht:b = true→t D σ H) (hu:b = false→u D σ H):tIfS c t u D σ H:=hc _ (by
  cases b with
  | true=>rw [if_pos rfl]; exact ht rfl
  | false=>rw [if_neg Bool.false_ne_true]; exact hu rfl)
theorem sc_law:FnScope ["script","p","world","draw","n","k","one","other","aim","found","many","great"] ["script"] (defScope s_law):=⟨rfl,rfl,rfl,by decide +kernel,rfl,by decide +kernel,by decide +kernel⟩
theorem ok_law (T:Txt K mg t):FnOk P w K mg base CX0 9 t.f_law t.d_law ["script"] (spLaw K):=by
  have S:=sc_law
  have G_b_draw:=ok_b_draw (P:=P) (w:=w) (base:=base) T
  have G_b_wheel:=ok_b_wheel (P:=P) (w:=w) (base:=base) T
  have G_b_world:=ok_b_world (P:=P) (w:=w) (base:=base) T
  have G_b_table:=ok_b_table (P:=P) (w:=w) (base:=base) T
  have G_b_refused:=ok_b_refused (P:=P) (w:=w) (base:=base) T
  have G_b_bent:=ok_b_bent (P:=P) (w:=w) (base:=base) T
  have G_twofold_undone:=ok_twofold_undone (P:=P) (w:=w) (base:=base) T
  refine T.F_law.ok S (fun vs H Q E h=>?_) (fun cdv A outer s H vs Q E hr h=>?_)
  · obtain ⟨a,ns,rfl,_⟩:=h
    rfl
  · obtain ⟨a,ns,rfl,hS,hlen,kQ⟩:=h
    have hu8:=hr.units
    refine ⟨_,(@pss_cons _ _ _ _ _ (@ps_put _ _ 1 _ _ _ _ (by rfl) (by first | exact .inl rfl | exact .inr rfl | assumption) S.nd rfl (Or.inl rfl) (pe_call G_b_wheel (hr.mono (by decide)) rfl T.mg_b_wheel T.F_b_wheel.kp T.b_b_wheel .nil pass0 (@pa_mor _ _ _ _ _ (by rfl) (pe_call G_b_draw (hr.mono (by decide)) rfl T.mg_b_draw T.F_b_draw.kp T.b_b_draw .nil pass0 (@pa_mor _ _ _ _ _ (by rfl) (pv 0) (@pa_mor _ _ _ _ _ (by rfl) pe_int pa_nil))) pa_nil)))
      (@pss_cons _ _ _ _ _ (@ps_put _ _ 2 _ _ _ _ (by rfl) (by first | exact .inl rfl | exact .inr rfl | assumption) S.nd rfl (Or.inl rfl) (pe_call G_b_world (hr.mono (by decide)) rfl T.mg_b_world T.F_b_world.kp T.b_b_world .nil pass0 (@pa_mor _ _ _ _ _ (by rfl) (pv 1) pa_nil)))
      (@pss_cons _ _ _ _ _ (@ps_put _ _ 3 _ _ _ _ (by rfl) (by first | exact .inl rfl | exact .inr rfl | assumption) S.nd rfl (Or.inl rfl) (pe_call G_b_draw (hr.mono (by decide)) rfl T.mg_b_draw T.F_b_draw.kp T.b_b_draw .nil pass0 (@pa_mor _ _ _ _ _ (by rfl) (pv 0) (@pa_mor _ _ _ _ _ (by rfl) pe_int pa_nil))))
      (@pss_cons _ _ _ _ _ (@ps_put _ _ 4 _ _ _ _ (by rfl) (by first | exact .inl rfl | exact .inr rfl | assumption) S.nd rfl (Or.inr rfl) (@pe_op _ _ _ _ _ _ _ _ op_add pe_int (@pe_op _ _ _ _ _ _ _ _ op_mod (pv 3) pe_int)))
      (@pss_cons _ _ _ _ _ (@ps_put _ _ 5 _ _ _ _ (by rfl) (by first | exact .inl rfl | exact .inr rfl | assumption) S.nd rfl (Or.inr rfl) (@pe_op _ _ _ _ _ _ _ _ op_add pe_int (@pe_op _ _ _ _ _ _ _ _ op_mod (@pe_op _ _ _ _ _ _ _ _ op_fdivP (pv 3) pe_int) pe_int)))
      (@pss_cons _ _ _ _ _ (@ps_put _ _ 6 _ _ _ _ (by rfl) (by first | exact .inl rfl | exact .inr rfl | assumption) S.nd rfl (Or.inr rfl) (pe_call G_b_table (hr.mono (by decide)) rfl T.mg_b_table T.F_b_table.kp T.b_b_table .nil pass0 (@pa_mor _ _ _ _ _ (by rfl) (pv 0) (@pa_mor _ _ _ _ _ (by rfl) (pv 1) (@pa_mor _ _ _ _ _ (by rfl) (pv 4) (@pa_mor _ _ _ _ _ (by rfl) (pv 4) (@pa_mor _ _ _ _ _ (by rfl) pe_int pa_nil)))))))
      (@pss_cons _ _ _ _ _ (@ps_put _ _ 7 _ _ _ _ (by rfl) (by first | exact .inl rfl | exact .inr rfl | assumption) S.nd rfl (Or.inl rfl) (pe_call G_b_table (hr.mono (by decide)) rfl T.mg_b_table T.F_b_table.kp T.b_b_table .nil pass0 (@pa_mor _ _ _ _ _ (by rfl) (pv 0) (@pa_mor _ _ _ _ _ (by rfl) (pv 1) (@pa_mor _ _ _ _ _ (by rfl) (pv 5) (@pa_mor _ _ _ _ _ (by rfl) (pv 5) (@pa_mor _ _ _ _ _ (by rfl) pe_int pa_nil)))))))
      (@pss_cons _ _ _ _ _ (@ps_put _ _ 8 _ _ _ _ (by rfl) (by first | exact .inl rfl | exact .inr rfl | assumption) S.nd rfl (Or.inr rfl) (@pe_ix _ _ _ _ _ _ _ ix_list (pe_call G_b_table (hr.mono (by decide)) rfl T.mg_b_table T.F_b_table.kp T.b_b_table .nil pass0 (@pa_mor _ _ _ _ _ (by rfl) (pv 0) (@pa_mor _ _ _ _ _ (by rfl) (pv 1) (@pa_mor _ _ _ _ _ (by rfl) pe_int (@pa_mor _ _ _ _ _ (by rfl) (@pe_op _ _ _ _ _ _ _ _ op_mul (pv 4) (pv 5)) (@pa_mor _ _ _ _ _ (by rfl) pe_int pa_nil)))))) pe_int (fun _ _=>rfl)))
      (@pss_cons _ _ _ _ _ (@ps_put _ _ 9 _ _ _ _ (by rfl) (by first | exact .inl rfl | exact .inr rfl | assumption) S.nd rfl (Or.inl rfl) (pe_call G_twofold_undone (hr.mono (by decide)) rfl T.mg_twofold_undone T.F_twofold_undone.kp T.b_twofold_undone .nil passN (@pa_mor _ _ _ _ _ (by rfl) (pv 2) (@pa_mor _ _ _ _ _ (by rfl) (pv 6) (@pa_mor _ _ _ _ _ (by rfl) (pv 7) (@pa_mor _ _ _ _ _ (by rfl) (pv 8) pa_nil))))))
      (@pss_cons _ _ _ _ _ (@ps_if _ _ _ _ _ _ _ _ (PW.pt (pw_and (@pt_cmpR _ _ _ _ _ _ _ _ op_ne (@pe_ix _ _ _ _ _ _ _ ix_tup (pv 9) pe_int (fun _ _=>rfl)) pe_str (nomark _)) (pw_and1 (@pt_cmpR _ _ _ _ _ _ _ _ op_ne (@pe_ix _ _ _ _ _ _ _ ix_tup (pv 9) pe_int (fun _ _=>rfl)) pe_str (nomark _))))) (@pss_one _ _ _ (@ps_ret _ _ _ _ pe_bl)) pss_nil)
      (@pss_cons _ _ _ _ _ (@ps_if _ _ _ _ _ _ _ _ (@pt_not _ _ _ _ (pt_val (pe_call G_b_refused (hr.mono (by decide)) rfl T.mg_b_refused T.F_b_refused.kp T.b_b_refused .nil pass0 (@pa_mor _ _ _ _ _ (by rfl) (pv 2) (@pa_mor _ _ _ _ _ (by rfl) (pe_call G_b_bent (hr.mono (by decide)) rfl T.mg_b_bent T.F_b_bent.kp T.b_b_bent .nil pass0 (@pa_mor _ _ _ _ _ (by rfl) (pv 6) (@pa_mor _ _ _ _ _ (by rfl) (@pe_op _ _ _ _ _ _ _ _ op_fdivP (pv 3) pe_int) pa_nil))) (@pa_mor _ _ _ _ _ (by rfl) (pv 7) (@pa_mor _ _ _ _ _ (by rfl) (pv 8) pa_nil))))))) (@pss_one _ _ _ (@ps_ret _ _ _ _ pe_bl)) pss_nil)
      (@pss_cons _ _ _ _ _ (@ps_if _ _ _ _ _ _ _ _ (@pt_not _ _ _ _ (pt_val (pe_call G_b_refused (hr.mono (by decide)) rfl T.mg_b_refused T.F_b_refused.kp T.b_b_refused .nil pass0 (@pa_mor _ _ _ _ _ (by rfl) (pv 2) (@pa_mor _ _ _ _ _ (by rfl) (pv 6) (@pa_mor _ _ _ _ _ (by rfl) (pe_call G_b_bent (hr.mono (by decide)) rfl T.mg_b_bent T.F_b_bent.kp T.b_b_bent .nil pass0 (@pa_mor _ _ _ _ _ (by rfl) (pv 7) (@pa_mor _ _ _ _ _ (by rfl) (@pe_op _ _ _ _ _ _ _ _ op_fdivP (pv 3) pe_int) pa_nil))) (@pa_mor _ _ _ _ _ (by rfl) (pv 8) pa_nil))))))) (@pss_one _ _ _ (@ps_ret _ _ _ _ pe_bl)) pss_nil)
      (@pss_cons _ _ _ _ _ (@ps_put _ _ 10 _ _ _ _ (by rfl) (by first | exact .inl rfl | exact .inr rfl | assumption) S.nd rfl (Or.inl rfl) (@pe_op _ _ _ _ _ _ _ _ op_mod (@pe_op _ _ _ _ _ _ _ _ op_fdivP (pv 3) pe_int) pe_int))
      (@pss_cons _ _ _ _ _ (@ps_if _ _ _ _ _ _ _ _ (@pt_cmpR _ _ _ _ _ _ _ _ op_eq (pv 10) (@pe_op _ _ _ _ _ _ _ _ op_mul (pv 4) (pv 5)) (nomark _)) (@pss_one _ _ _ (@ps_put _ _ 10 _ _ _ _ (by rfl) (by first | exact .inl rfl | exact .inr rfl | assumption) S.nd rfl (Or.inl rfl) (@pe_op _ _ _ _ _ _ _ _ op_add (@pe_op _ _ _ _ _ _ _ _ op_mul (pv 4) (pv 5)) pe_int))) pss_nil)
      (@pss_cons _ _ _ _ _ (@ps_if _ _ _ _ _ _ _ _ (@pt_not _ _ _ _ (pt_val (pe_call G_b_refused (hr.mono (by decide)) rfl T.mg_b_refused T.F_b_refused.kp T.b_b_refused .nil pass0 (@pa_mor _ _ _ _ _ (by rfl) (pv 2) (@pa_mor _ _ _ _ _ (by rfl) (pv 6) (@pa_mor _ _ _ _ _ (by rfl) (pv 7) (@pa_mor _ _ _ _ _ (by rfl) (pe_comp (N:=["i","aim","n","k"]) (ρ:=(fun σ=>[σ[8]?.join,σ[4]?.join,σ[5]?.join])) ⟨rfl,rfl,by decide +kernel,by decide +kernel,(List.forall_mem_cons.mpr ⟨rfl,(List.forall_mem_cons.mpr ⟨rfl,(List.forall_mem_cons.mpr ⟨rfl,(List.forall_mem_nil _)⟩)⟩)⟩),has_of (by rfl),rfl,by decide +kernel,rfl,(fun σ j v h=>match j,h with | 0,h=>⟨8,_,rfl,rfl,join_some h,Or.inr (Or.inl rfl),.inl rfl,.inl rfl⟩ | 1,h=>⟨4,_,rfl,rfl,join_some h,Or.inr (Or.inl rfl),.inl rfl,.inl rfl⟩ | 2,h=>⟨5,_,rfl,rfl,join_some h,Or.inr (Or.inl rfl),.inl rfl,.inl rfl⟩ | j + 3,h=>by cases h),(fun _ _=>rfl)⟩ rfl (pi_range1 rfl T.n_range (@pa_mor _ _ _ _ _ (by rfl) (pv 10) pa_nil)) (fun s₃ H₃ fp=>.nil) (fun s₃ H₃ fp=>(@pe_ix _ _ _ _ _ _ _ (ix_listK (K:=K)) (pv 1) (@pe_op _ _ _ _ _ _ _ _ op_mod (pv 0) (@pe_op _ _ _ _ _ _ _ _ op_mul (pv 2) (pv 3))) (fun _ _=>rfl)))) pa_nil))))))) (@pss_one _ _ _ (@ps_ret _ _ _ _ pe_bl)) pss_nil)
      (@pss_cons _ _ _ _ _ (ps_compC (i0:=11) (N:=["i","one","n"]) (ρ:=(fun σ=>[σ[6]?.join,σ[4]?.join])) ⟨rfl,rfl,(fun _=>rfl),(fun _=>rfl),by decide +kernel,(List.forall_mem_cons.mpr ⟨rfl,(List.forall_mem_cons.mpr ⟨rfl,(List.forall_mem_nil _)⟩)⟩),hasC_of (by rfl),rfl,by decide +kernel,rfl,(fun σ j v h=>match j,h with | 0,h=>⟨6,_,rfl,rfl,join_some h,Or.inr (Or.inl rfl),.inl rfl,.inl rfl⟩ | 1,h=>⟨4,_,rfl,rfl,join_some h,Or.inr (Or.inl rfl),.inl rfl,.inl rfl⟩ | j + 2,h=>by cases h),(fun _ _=>rfl)⟩ rfl S.nd rfl (Or.inl rfl) (pi_range1 rfl T.n_range (@pa_mor _ _ _ _ _ (by rfl) pe_int pa_nil)) (fun s₃ H₃ fp=>.nil) (fun s₃ H₃ fp=>(pe_comp (N:=["j","one","n","i"]) (ρ:=(fun σ=>[σ[1]?.join,σ[2]?.join,σ[0]?.join])) ⟨rfl,rfl,by decide +kernel,by decide +kernel,(List.forall_mem_cons.mpr ⟨rfl,(List.forall_mem_cons.mpr ⟨rfl,(List.forall_mem_cons.mpr ⟨rfl,(List.forall_mem_nil _)⟩)⟩)⟩),has_of (by rfl),rfl,by decide +kernel,rfl,(fun σ j v h=>match j,h with | 0,h=>⟨1,_,rfl,rfl,join_some h,Or.inr (Or.inl rfl),.inl rfl,.inl rfl⟩ | 1,h=>⟨2,_,rfl,rfl,join_some h,Or.inr (Or.inl rfl),.inl rfl,.inl rfl⟩ | 2,h=>⟨0,_,rfl,rfl,join_some h,Or.inr (Or.inl rfl),.inl rfl,.inl rfl⟩ | j + 3,h=>by cases h),(fun _ _=>rfl)⟩ rfl (pi_range1 rfl T.n_range (@pa_mor _ _ _ _ _ (by rfl) pe_int pa_nil)) (fun s₃ H₃ fp=>.nil) (fun s₃ H₃ fp=>(@pe_ix _ _ _ _ _ _ _ (ix_listK (K:=K)) (@pe_ix _ _ _ _ _ _ _ (ix_listK (K:=K)) (pv 1) (@pe_op _ _ _ _ _ _ _ _ op_mod (pv 3) (pv 2)) (fun _ _=>rfl)) (@pe_op _ _ _ _ _ _ _ _ op_mod (pv 0) (pv 2)) (fun _ _=>rfl))))))
      (@pss_cons _ _ _ _ _ (@ps_if _ _ _ _ _ _ _ _ (@pt_not _ _ _ _ (pt_val (pe_call G_b_refused (hr.mono (by decide)) rfl T.mg_b_refused T.F_b_refused.kp T.b_b_refused .nil pass0 (@pa_mor _ _ _ _ _ (by rfl) (pv 2) (@pa_mor _ _ _ _ _ (by rfl) (pv 11) (@pa_mor _ _ _ _ _ (by rfl) (pe_comp (N:=["row"]) (ρ:=(fun σ=>[])) ⟨rfl,rfl,by decide +kernel,by decide +kernel,(List.forall_mem_nil _),has_of (by rfl),rfl,by decide +kernel,rfl,(fun σ j v h=>match j,h with | j,h=>by cases h),(fun _ _=>rfl)⟩ rfl (pi_list (@pe_slice _ _ _ _ _ _ _ _ _ _ sl_list (pv 11) po_none (po_some pe_int))) (fun s₃ H₃ fp=>.nil) (fun s₃ H₃ fp=>(@pe_slice _ _ _ _ _ _ _ _ _ _ (sl_listK (K:=K)) (pv 0) po_none (po_some pe_int)))) (@pa_mor _ _ _ _ _ (by rfl) (@pe_op _ _ _ _ _ _ _ _ op_rep (@pe_lst _ _ _ _ (@pa_mor _ _ _ _ _ (by rfl) (@pe_ix _ _ _ _ _ _ _ ix_list (pv 8) pe_int (fun _ _=>rfl)) pa_nil)) pe_int) pa_nil))))))) (@pss_one _ _ _ (@ps_ret _ _ _ _ pe_bl)) pss_nil)
      (@pss_one _ _ _ (@ps_ret _ _ _ _ (@pe_cmpR _ _ _ _ _ _ _ _ op_eq (@pe_ix _ _ _ _ _ _ _ ix_tup (pe_call G_twofold_undone (hr.mono (by decide)) rfl T.mg_twofold_undone T.F_twofold_undone.kp T.b_twofold_undone .nil passN (@pa_mor _ _ _ _ _ (by rfl) (pv 2) (@pa_mor _ _ _ _ _ (by rfl) (pv 6) (@pa_mor _ _ _ _ _ (by rfl) (pv 7) (@pa_mor _ _ _ _ _ (by rfl) (pv 8) pa_nil))))) pe_int (fun _ _=>rfl)) (@pe_ix _ _ _ _ _ _ _ ix_tup (pv 9) pe_int (fun _ _=>rfl)) (nomark _))))))))))))))))))))),?_⟩
    refine ⟨_,rfl,a,ns,0,rfl,hS,by omega,by omega,fun H1 s1=>⟨_,rfl,fun q H2 s2 hq=>?_⟩⟩
    dsimp only [gName]
    simp only [L2.start,List.length_cons,List.length_nil,List.map_cons,List.map_nil,List.replicate,List.cons_append,List.nil_append,List.set_cons_zero,List.set_cons_succ]
    refine ⟨_,rfl,q,rfl,hq,fun z H3 s3 hz=>?_⟩
    have hS3:SqL K H3 a (ns.map V.int):=(s1.trans (s2.trans s3)).seq hS
    dsimp only [gName]
    simp only [List.set_cons_zero,List.set_cons_succ]
    refine ⟨_,rfl,a,ns,1,rfl,hS3,by omega,by omega,fun H4 s4=>?_⟩
    have hz:=hz.mono s4
    have hS4:=s4.seq hS3
    clear hS3 hS s1 s2 s3 s4
    have d0:=drawV_nonneg ns 1
    have d1:=drawV_lt ns 1
    generalize drawV ns 1 = d at d0 d1
    have md:∀ c:Int,0 < c→c < 10000→CDivP d c:=fun c h1 h2=>⟨h1,Mid.of_lt (by omega) (by omega)⟩
    dsimp only [gName]
    simp only [List.set_cons_zero,List.set_cons_succ]
    obtain ⟨n,en,n1,n3⟩:∃ n:Nat,1 + d % 3 = (n:Int)∧1 ≤ n∧n ≤ 3:=⟨(1 + d % 3).toNat,by omega,by omega,by omega⟩
    obtain ⟨k,ek,k1,k3⟩:∃ k:Nat,1 + d / 3 % 3 = (k:Int)∧1 ≤ k∧k ≤ 3:=⟨(1 + d / 3 % 3).toNat,by omega,by omega,by omega⟩
    have nk9:n * k ≤ 9:=Nat.le_trans (Nat.mul_le_mul n3 k3) (by decide)
    have nk1:1 ≤ n * k:=Nat.mul_pos n1 k1
    refine ⟨_,rfl,_,_,rfl,rfl,(by show (0:Int) < 3; decide),_,_,rfl,rfl,?_⟩
    dsimp only [gName]
    rw [en]
    simp only [List.set_cons_zero,List.set_cons_succ]
    refine ⟨_,rfl,_,_,rfl,rfl,md 3 (by decide) (by decide),_,_,rfl,rfl,(by show (0:Int) < 3; decide),_,_,rfl,rfl,?_⟩
    dsimp only [gName]
    rw [ek]
    simp only [List.set_cons_zero,List.set_cons_succ]
    refine ⟨_,rfl,_,rfl,_,rfl,_,rfl,a,ns,q,n,n,2,rfl,hS4,hq,by omega,by omega,by decide,by decide,fun ao H5 pss s5 no hA lp wp np=>?_⟩
    dsimp only [gName]
    simp only [List.set_cons_zero,List.set_cons_succ]
    refine ⟨_,rfl,_,rfl,_,rfl,_,rfl,a,ns,q,k,k,11,rfl,s5.seq hS4,hq,by omega,by omega,by decide,by decide,fun bo H6 rss s6 nb hB lr wr nr=>?_⟩
    dsimp only [gName]
    simp only [List.set_cons_zero,List.set_cons_succ]
    refine ⟨_,rfl,_,rfl,_,rfl,_,rfl,_,_,rfl,rfl,.inl ⟨by omega,by omega⟩,a,ns,q,1,n * k,20,rfl,s6.seq (s5.seq hS4),hq,by decide,by omega,by decide,by decide,fun co H7 ass s7 nc hC lc wc nac=>?_⟩
    obtain ⟨cs,ec,lcs,fc⟩:=id hC
    have c0:0 < cs.length:=by omega
    have a0:0 < ass.length:=by omega
    obtain ⟨ad,ead,hD⟩:=fc 0 cs[0] ass[0] (by simp [c0]) (by simp [a0])
    have at0:atI cs 0 = some (.ref ad):=by exact atI_nat (j:=0) (by rw [← ead]; simp [c0])
    refine ⟨co,cs,_,_,rfl,rfl,.of ec,at0,?_⟩
    have las:=wc _ (List.getElem_mem a0)
    have nas:=nac _ (List.getElem_mem a0)
    generalize ass[0] = as at hD las nas
    obtain ⟨xs,ed,lx,fx⟩:=id hD
    have lxs:xs.length = n * k:=by omega
    dsimp only [gName]
    simp only [List.set_cons_zero,List.set_cons_succ]
    have hA7:=(hA.mono s6).mono s7
    have hB7:=hB.mono s7
    have hz7:=((hz.mono s5).mono s6).mono s7
    have wp':∀ ps ∈ pss,ps.length = pss.length:=fun ps h=>by rw [wp ps h,lp]
    have wr':∀ ps ∈ rss,ps.length = rss.length:=fun ps h=>by rw [wr ps h,lr]
    have nkl:pss.length * rss.length = n * k:=by rw [lp,lr]
    have repA:=hA.rep hq rfl wp'
    have repB:=hB.rep hq rfl wr'
    have two:∀ (Hx:Hp),Same H7 Hx→∀ Q':VK,(∀ (tp:Addr) (tag:Str) (ys:List V) (H':Hp),Same Hx H'→H' tp = some (.tup (.str tag :: ys))→((tag = "loose"∧(KerP q pss.length pss ∨ KerP q rss.length rss)) ∨ (tag = "one"∧NoKer q pss.length pss∧NoKer q rss.length rss))→Q' (.ref tp) H')→spTwoU t.C_World t.C_NoFit [.ref z,.ref ao,.ref bo,.ref ad] Hx Q' (fun _ _ _=>False):=fun Hx sx Q' kq=>⟨z,ao,bo,ad,q,pss,rss,xs,pss.length,rss.length,rfl,hz7.mono sx,hq,hA7.mono sx,hB7.mono sx,sx _ _ ed,by omega,by omega,by omega,by omega,wp',wr',by omega,by omega,fun bad=>by omega,fun _ _ _ _=>⟨by omega,by omega,⟨as,hD.mono sx,nas⟩,np,nr,fun hk tp ys H' s' e=>kq tp _ ys H' s' e (.inl ⟨rfl,hk⟩),fun h1 h2 tp ys H' s' e=>kq tp _ ys H' s' e (.inr ⟨rfl,h1,h2⟩)⟩⟩
    refine seq_of (asg_of (te_gen (fun v H8=>∃ (tp:Addr) (tag:Str) (ys:List V),v = .ref tp∧Same H7 H8∧H8 tp = some (.tup (.str tag :: ys))∧((tag = "loose"∧(KerP q pss.length pss ∨ KerP q rss.length rss)) ∨ (tag = "one"∧NoKer q pss.length pss∧NoKer q rss.length rss))) (fun Q' kq=>⟨_,rfl,_,rfl,_,rfl,_,rfl,two H7 (Same.refl _) Q' fun tp tag ys H' s' e ht=>kq _ _ ⟨tp,tag,ys,rfl,s',e,ht⟩⟩) (fun v8 H8 h8=>?_)))
    obtain ⟨tp,tag,tys,rfl,s8,etp,ht⟩:=h8
    dsimp only [gName]
    simp only [List.set_cons_zero,List.set_cons_succ]
    refine seq_of (ifs_dec false (fun Q' hQ=>?_) (fun e=>absurd e (by decide)) (fun _=>?_))
    · have att:atI (V.str tag :: tys) 0 = some (.str tag):=by exact atI_nat (j:=0) rfl
      rcases ht with ⟨rfl,_⟩ | ⟨rfl,_⟩
      · exact ⟨_,rfl,tp,_,_,_,rfl,rfl,.of etp,att,rfl,true,by decide,iteT ⟨_,rfl,tp,_,_,_,rfl,rfl,.of etp,att,rfl,false,by decide,hQ⟩⟩
      · exact ⟨_,rfl,tp,_,_,_,rfl,rfl,.of etp,att,rfl,false,by decide,iteF hQ⟩
    dsimp only [tNext]
    have hA8:=hA7.mono s8
    have hB8:=hB7.mono s8
    have hz8:=hz7.mono s8
    have hD8:=hD.mono s8
    have ed8:=s8 _ _ ed
    refine ⟨_,rfl,_,rfl,_,rfl,_,_,rfl,rfl,md 9 (by decide) (by decide),ao,q,_,pss,rfl,hA8,by omega,by omega,wp',fun rb bss m' H9 s9 hb lb1 lb2 wb mb neb=>?_⟩
    refine ⟨_,rfl,_,rfl,z,rb,bo,ad,q,bss,rss,xs,m',rss.length,rfl,hz8.mono s9,hq,hb,hB8.mono s9,s9 _ _ ed8,lb1,lb2,by omega,by omega,wb,wr',mb,by omega,.inl neb,fun H10 s10=>⟨true,rfl,iteF ?_⟩⟩
    dsimp only [tNext]
    have s910:=s9.trans s10
    refine ⟨_,rfl,_,rfl,_,rfl,_,rfl,_,_,rfl,rfl,md 18 (by decide) (by decide),bo,q,_,rss,rfl,hB8.mono s910,by omega,by omega,wr',fun rb2 bss2 m2 H11 s11 hb2 lb21 lb22 wb2 mb2 neb2=>?_⟩
    have s911:=s910.trans s11
    refine ⟨_,rfl,z,ao,rb2,ad,q,pss,bss2,xs,pss.length,m2,rfl,hz8.mono s911,hq,hA8.mono s911,hb2,s911 _ _ ed8,by omega,by omega,lb21,lb22,wp',wb2,by omega,mb2,.inr (.inl neb2),fun H12 s12=>⟨true,rfl,iteF ?_⟩⟩
    dsimp only [tNext]
    have s912:=s911.trans s12
    obtain ⟨M0,eM0,M10⟩:∃ M:Nat,d / 36 % 11 = (M:Int)∧M ≤ 10:=⟨(d / 36 % 11).toNat,by omega,by omega⟩
    refine ⟨_,rfl,_,_,rfl,rfl,md 36 (by decide) (by decide),_,_,rfl,rfl,(by show (0:Int) < 11; decide),?_⟩
    dsimp only [gName]
    rw [eM0]
    simp only [List.set_cons_zero,List.set_cons_succ]
    refine seq_of (ifs_gen10 fun R hR=>?_)
    have npos:(0:Int) < (n:Int):=by omega
    have nkpos:(0:Int) < (n:Int) * (k:Int):=by rw [← Int.natCast_mul]; omega
    have fin:∀ M:Nat,M ≠ n * k→M ≤ 11→R [some (.ref a),some (.int q),some (.ref z),some (.int d),some (.int (n:Int)),some (.int (k:Int)),some (.ref ao),some (.ref bo),some (.ref ad),some (.ref tp),some (.int (M:Int)),none] H12:=fun M neM M11=>hR _ _ (by
      have hA12:=hA8.mono s912
      have hB12:=hB8.mono s912
      have hz12:=hz8.mono s912
      have ed12:=s912 _ _ ed8
      have hD12:=hD8.mono s912
      dsimp only
      refine ⟨_,rfl,_,rfl,_,rfl,?_⟩
      refine comp_ofN (xs:=(List.range M).map fun i:Nat=>V.int (0 + (i:Int))) (fun R h=>⟨_,rfl,(M:Int),rfl,by omega,by omega,h _ _ (Same.refl _) (by rw [Int.toNat_natCast]; exact jseq_rng)⟩) (by rw [List.length_map,List.length_range]; exact small1000 (by omega)) (fun _ _ _ _=>True) (fun _ _ _ _ _ _ h _ _=>h) ?_ ?_
      · intro D i v hi Hc R' sc _ kc
        obtain ⟨hi',rfl⟩:=rng_at hi
        have h1:=Int.emod_nonneg (i:Int) (show (n:Int) * (k:Int) ≠ 0 by omega)
        have h2:=Int.emod_lt_of_pos (i:Int) nkpos
        have hnk:(n:Int) * (k:Int) = ((n * k:Nat):Int):=by simp
        obtain ⟨w,wn,ew⟩:∃ w:Nat,w < n * k∧(i:Int) % ((n:Int) * (k:Int)) = (w:Int):=by
          rw [hnk] at h1 h2 ⊢
          generalize n * k = nk at h1 h2
          exact ⟨((i:Int) % (nk:Int)).toNat,by omega,by omega⟩
        have wx:w < xs.length:=by omega
        have atw:atI xs ((i:Int) % ((n:Int) * (k:Int))) = some xs[w]:=by rw [ew]; exact atI_nat (by simp [wx])
        exact ⟨_,rfl,_,rfl,_,rfl,_,rfl,_,_,rfl,rfl,.inl ⟨by omega,by omega⟩,_,_,rfl,rfl,nkpos,ad,xs,_,_,rfl,rfl,.of (sc _ _ ed12),atw,kc _ Hc (Same.refl _) trivial⟩
      intro D ys H13 nD s13 lys _ eD
      have lys':ys.length = M:=by simpa using lys
      refine ⟨z,ao,bo,D,q,pss,rss,ys,pss.length,rss.length,rfl,hz12.mono s13,hq,hA12.mono s13,hB12.mono s13,eD,by omega,by omega,by omega,by omega,wp',wr',by omega,by omega,.inr (.inr (.inr (by omega))),fun H14 s14=>⟨true,rfl,iteF ?_⟩⟩
      dsimp only [tNext]
      have s1214:=s13.trans s14
      have hA14:=hA12.mono s1214
      obtain ⟨vs,ea,lv,fv⟩:=id hA14
      have modn:∀ i:Nat,∃ w:Nat,w < n∧(i:Int) % (n:Int) = (w:Int):=fun i=>by
        have h1:=Int.emod_nonneg (i:Int) (show (n:Int) ≠ 0 by omega)
        have h2:=Int.emod_lt_of_pos (i:Int) npos
        exact ⟨((i:Int) % (n:Int)).toNat,by omega,by omega⟩
      refine seq_of (asg_of (comp_ofN (xs:=(List.range 7).map fun i:Nat=>V.int (0 + (i:Int))) (fun R h=>⟨7,rfl,by decide,by decide,h _ _ (Same.refl _) jseq_rng⟩) (by decide) (fun D i y Hx=>∃ (x:Addr) (ps:List (Int × Int)),y = .ref x∧x ≠ D∧RowG (10 ^ 6) Hx q x ps∧ps.length = 7) (fun D i y Ha Hb ys ⟨x,ps,h1,h2,h3,h4⟩ e f=>⟨x,ps,h1,h2,row_far h3 h2 e f,h4⟩) ?_ ?_))
      · intro D' i v hi Hc R' sc ⟨zs,eD'⟩ kc
        obtain ⟨hi',rfl⟩:=rng_at hi
        obtain ⟨w,wn,ew⟩:=modn i
        have wv:w < vs.length:=by omega
        have wp2:w < pss.length:=by omega
        obtain ⟨rw',erw,ws,ews,lws,fws⟩:=fv w vs[w] pss[w] (by simp [wv]) (by simp [wp2])
        have atw:atI vs ((i:Int) % (n:Int)) = some (.ref rw'):=by rw [ew]; exact atI_nat (by rw [← erw]; simp [wv])
        refine comp_ofN (xs:=(List.range 7).map fun i:Nat=>V.int (0 + (i:Int))) (fun R h=>⟨7,rfl,by decide,by decide,h _ _ (Same.refl _) jseq_rng⟩) (by decide) (fun D j y Hx=>∃ p:Int × Int,NumAt (10 ^ 6) Hx q y p.1 p.2) (fun D i y Ha Hb ys ⟨p,h0⟩ e f=>⟨p,h0.far e f⟩) ?_ ?_
        · intro D2 j v hj Hd R2 sd _ kd
          obtain ⟨hj',rfl⟩:=rng_at hj
          obtain ⟨w2,wn2,ew2⟩:=modn j
          have lw2:w2 < ws.length:=by rw [lws,wp _ (List.getElem_mem wp2)]; exact wn2
          have lw3:w2 < pss[w].length:=by omega
          have atw2:atI ws ((j:Int) % (n:Int)) = some ws[w2]:=by rw [ew2]; exact atI_nat (by simp [lw2])
          have zz:=fws w2 ws[w2] pss[w][w2] (by simp [lw2]) (by simp [lw3])
          have scd:=sc.trans sd
          exact ⟨_,rfl,_,rfl,_,rfl,_,_,rfl,rfl,npos,ao,vs,_,_,rfl,rfl,.of (scd _ _ ea),atw,_,rfl,_,rfl,_,_,rfl,rfl,npos,rw',ws,_,_,rfl,rfl,.of (scd _ _ ews),atw2,kd _ Hd (Same.refl _) ⟨_,zz.mono scd⟩⟩
        · intro D2 ys2 Hd nD2 sd lys2 hP2 eD2
          obtain ⟨ps,lp2,hp2⟩:=pick (R:=fun _ y p=>NumAt (10 ^ 6) Hd q y (Prod.fst p) (Prod.snd p)) hP2
          have l7:ys2.length = 7:=by simpa using lys2
          exact kc _ Hd sd ⟨D2,ps,rfl,(fun e=>by rw [e,eD'] at nD2; cases nD2),⟨ys2,eD2,lp2.symm,fun j v p h1 h2=>hp2 j v p h1 h2⟩,by omega⟩
      intro gr gys H15 ngr s15 lgys hPg eg
      have l7:gys.length = 7:=by simpa using lgys
      obtain ⟨gss,hG,lg,wg⟩:=tabB_pick eg hPg
      dsimp only [gName]
      simp only [List.set_cons_zero,List.set_cons_succ]
      have s1215:=s1214.trans s15
      refine ⟨_,rfl,_,rfl,?_⟩
      have e6:cutV gys none (some 6) = gys.take 6:=cutV_take gys 6 (by omega)
      obtain ⟨gvs,egv,lgv,fgv⟩:=id hG
      rw [eg] at egv
      cases egv
      refine comp_ofN (xs:=gys.take 6) (fun R h=>⟨_,rfl,_,rfl,gr,gys,rfl,.of eg,fun p np'=>⟨p,rfl,⟨_,.of upd_same⟩,h _ _ (same_upd np') (by rw [← e6]; exact jseq_list (.of upd_same))⟩⟩) (by rw [List.length_take]; exact small1000 (by omega)) (fun D i y Hx=>∃ (x:Addr) (ps:List (Int × Int)),y = .ref x∧x ≠ D∧RowG (10 ^ 6) Hx q x ps∧ps.length = 6) (fun D i y Ha Hb ys ⟨x,ps,h1,h2,h3,h4⟩ e f=>⟨x,ps,h1,h2,row_far h3 h2 e f,h4⟩) ?_ ?_
      · intro D' i v hi Hc R' sc ⟨zs,eD'⟩ kc
        have i6:i < 6:=by
          have:=(List.getElem?_eq_some_iff.mp hi).1
          rw [List.length_take] at this
          omega
        rw [List.getElem?_take_of_lt i6] at hi
        have i2:i < gss.length:=by omega
        obtain ⟨r,rfl,ws,ews,lws,fws⟩:=fgv i v gss[i] hi (by simp [i2])
        have l7':=wg _ (List.getElem_mem i2)
        have e6':cutV ws none (some 6) = ws.take 6:=cutV_take ws 6 (by omega)
        refine ⟨_,rfl,_,rfl,r,ws,rfl,.of (sc _ _ ews),fun p np'=>?_⟩
        rw [e6']
        have sp:Same Hc (upd Hc p (.lst (ws.take 6))):=same_upd np'
        refine kc _ _ sp ⟨p,gss[i].take 6,rfl,(fun e=>by rw [e,eD'] at np'; cases np'),?_,by rw [List.length_take]; omega⟩
        exact RowG.take upd_same lws fun j v p h1 h2=>((fws j v p h1 h2).mono sc).mono sp
      intro hd6 hys H16 nh6 s16 lhys hPh eh
      have l6:hys.length = 6:=by rw [lhys,List.length_take]; omega
      obtain ⟨hss,hH,lh,wh⟩:=tabB_pick eh hPh
      have s1216:=s1215.trans s16
      have x0:0 < xs.length:=by omega
      have atx:atI xs 0 = some xs[0]:=by exact atI_nat (j:=0) (by simp [x0])
      refine ⟨_,rfl,ad,xs,_,_,rfl,rfl,.of (s1216 _ _ ed12),atx,by show 1 ≤ sizeLine; decide,fun l nl=>?_⟩
      have sl:Same H16 (upd H16 l (.lst [xs[0]])):=same_upd nl
      have el:upd H16 l (.lst [xs[0]]) l = some (.lst [xs[0]]):=upd_same
      generalize upd H16 l (.lst [xs[0]]) = H17 at sl el ⊢
      refine ⟨l,42,[xs[0]],rfl,rfl,el,by decide,by decide,?_,fun r42 nr42=>?_⟩
      · show [xs[0]].length * 42 ≤ sizeLine
        exact Nat.le_trans (show [xs[0]].length * 42 ≤ 42 by simp) (by decide)
      have s42:Same H17 (upd H17 r42 (.lst (List.replicate 42 [xs[0]]).flatten)):=same_upd nr42
      have e42:upd H17 r42 (.lst (List.replicate 42 [xs[0]]).flatten) r42 = some (.lst (List.replicate 42 [xs[0]]).flatten):=upd_same
      have sg:Same H15 (upd H17 r42 (.lst (List.replicate 42 [xs[0]]).flatten)):=s16.trans (sl.trans s42)
      have sh:Same H16 (upd H17 r42 (.lst (List.replicate 42 [xs[0]]).flatten)):=sl.trans s42
      refine ⟨z,gr,hd6,r42,q,gss,hss,_,7,6,rfl,hz12.mono (s1215.trans sg),hq,hG.mono sg,hH.mono sh,e42,by omega,by omega,by omega,by omega,wg,wh,by decide,by decide,.inr (.inr (.inl (by rw [lg,lh,l7,l6]; decide))),fun H18 s18=>⟨true,rfl,iteF ?_⟩⟩
      dsimp only [tNext]
      have s818:=s912.trans (s1215.trans (sg.trans s18))
      have s718:=s8.trans s818
      refine ret_of (op_of (op_of (te_gen (fun v H19=>∃ (tp2:Addr) (tag2:Str) (ys2:List V),v = .ref tp2∧Same H18 H19∧H19 tp2 = some (.tup (.str tag2 :: ys2))∧tag2 = tag) (fun Q' kq=>⟨_,rfl,_,rfl,_,rfl,_,rfl,two H18 s718 Q' fun tp2 tag2 ys2 H' s' e ht2=>kq _ _ ⟨tp2,tag2,ys2,rfl,s',e,?_⟩⟩) (fun v19 H19 h19=>?_))))
      · rcases ht with ⟨e1,h1⟩ | ⟨e1,h1,h1'⟩
        · rcases ht2 with ⟨e2,_⟩ | ⟨_,h2,h2'⟩
          · rw [e1,e2]
          · rcases h1 with h1 | h1
            · exact (ker_noKer h1 h2 repA).elim
            · exact (ker_noKer h1 h2' repB).elim
        · rcases ht2 with ⟨_,h2⟩ | ⟨e2,_⟩
          · rcases h2 with h2 | h2
            · exact (ker_noKer h2 h1 repA).elim
            · exact (ker_noKer h2 h1' repB).elim
          · rw [e1,e2]
      obtain ⟨tp2,tag2,ys2,rfl,s19,e19,rfl⟩:=h19
      have att:∀ l:List V,atI (V.str tag2 :: l) 0 = some (.str tag2):=fun l=>by exact atI_nat (j:=0) rfl
      refine ⟨tp2,_,_,_,rfl,rfl,.of e19,att _,_,rfl,tp,_,_,_,rfl,rfl,.of (s19 _ _ (s818 _ _ etp)),att _,rfl,?_⟩
      rw [decide_eq_true rfl]
      exact kQ _)
    refine ⟨_,rfl,_,rfl,_,rfl,_,_,rfl,rfl,.inl ⟨by omega,by omega⟩,rfl,_,rfl,ite2 (fun hm=>?_) (fun hm=>?_)⟩
    · refine ⟨_,rfl,_,rfl,_,_,rfl,rfl,.inl ⟨by omega,by omega⟩,_,_,rfl,rfl,?_⟩
      exact fin (n * k + 1) (by omega) (by omega)
    · refine fin M0 (fun e=>hm ?_) (by omega)
      rw [dV_int,decide_eq_true (by rw [e]; simp)]
theorem law_all {l:PySem.W.OpenLaw} (T:Txt K mg t):∃ fd:FuncData,(∀ (s:Shared) (v:Value),BindsTo s fd ⟨[v],[]⟩ [("script",v)])∧∀ base:Heap,K.In base→base.Ns mainGlobals mg→FnOk l.prog w K mg base CX0 9 t.f_law fd ["script"] (spLaw K):=by
  obtain ⟨oc,od,kV,doc,pm,an,cdv,ct,osl,e,lk,hcd⟩:=T.F_law.ex
  refine ⟨t.d_law,fun s v=>?_,fun base _ _=>ok_law T⟩
  rw [e]
  exact .of_eq rfl
end
theorem walk {l:PySem.W.OpenLaw} {q:Program} {loose:List Str} {XP:(Str→Option Value)→Heap→Prop} {YP:World→Heap→Prop} {d:DefRec} {K:Params→PySem.W.Frag} (hn:l.most = some 63) (hdf:d.params.defaults = [])
    (hY:∀ (w:World) (h:Heap),YP w h→(K w.params).In h)
    (F:∀ (w:World) (mg:Str→Option Value) (fa:Addr) (h:Heap),(K w.params).In h→h.Ns mainGlobals mg→mg d.name = some (.ref fa)→
      ∃ fd:FuncData,(∀ (s:Shared) (u:Value),BindsTo s fd ⟨[u],[]⟩ [("script",u)])∧∀ base:Heap,(K w.params).In base→base.Ns mainGlobals mg→FnOk l.prog w (K w.params) mg base CX0 9 fa fd ["script"] (spLaw (K w.params))) :
    PySem.W.WalkO q loose XP YP l.row.toRowW d [] (fun f vs=>PySem.call f vs):=
  L2.walk_of (n:=63) (k:=9) (x:="script") (CX:=fun _=>CX0) (sp:=fun w=>spLaw (K w.params)) hn (by decide) hdf ⟨rfl,by decide,by decide⟩ hY F (fun _ _ a ns hl _ hS=>⟨a,ns,rfl,hS,hl,fun _=>rfl⟩) fun _ _ _ _ _ z=>z
theorem txt_mk {K:PySem.W.Frag} {h:Heap} {mg:Str→Option Value} (X:K.In h) (G:h.Ns mainGlobals mg)
    {C_World:Addr}
    {C_NoWorld:Addr}
    {C_NoOver:Addr}
    {C_WrightError:Addr}
    {C_NoFit:Addr}
    {C_NoShape:Addr}
    {C_NoOrder:Addr}
    {C_NoSize:Addr}
    {C_NoLink:Addr}
    {C_Tied:Addr}
    {f_is_whole:Addr} {od_is_whole an_is_whole:Option Addr} {sl_is_whole:Array (Option Value)} {oc_is_whole kV_is_whole dc_is_whole pm_is_whole cd_is_whole ct_is_whole:Value}
    {f_common_divisor:Addr} {od_common_divisor an_common_divisor:Option Addr} {sl_common_divisor:Array (Option Value)} {oc_common_divisor kV_common_divisor dc_common_divisor pm_common_divisor cd_common_divisor ct_common_divisor:Value}
    {f_is_prime:Addr} {od_is_prime an_is_prime:Option Addr} {sl_is_prime:Array (Option Value)} {oc_is_prime kV_is_prime dc_is_prime pm_is_prime cd_is_prime ct_is_prime:Value}
    {f_ratio:Addr} {od_ratio an_ratio:Option Addr} {sl_ratio:Array (Option Value)} {oc_ratio kV_ratio dc_ratio pm_ratio cd_ratio ct_ratio:Value}
    {f_ratio_plus:Addr} {od_ratio_plus an_ratio_plus:Option Addr} {sl_ratio_plus:Array (Option Value)} {oc_ratio_plus kV_ratio_plus dc_ratio_plus pm_ratio_plus cd_ratio_plus ct_ratio_plus:Value}
    {f_ratio_minus:Addr} {od_ratio_minus an_ratio_minus:Option Addr} {sl_ratio_minus:Array (Option Value)} {oc_ratio_minus kV_ratio_minus dc_ratio_minus pm_ratio_minus cd_ratio_minus ct_ratio_minus:Value}
    {f_ratio_times:Addr} {od_ratio_times an_ratio_times:Option Addr} {sl_ratio_times:Array (Option Value)} {oc_ratio_times kV_ratio_times dc_ratio_times pm_ratio_times cd_ratio_times ct_ratio_times:Value}
    {f_one_bottom:Addr} {od_one_bottom an_one_bottom:Option Addr} {sl_one_bottom:Array (Option Value)} {oc_one_bottom kV_one_bottom dc_one_bottom pm_one_bottom cd_one_bottom ct_one_bottom:Value}
    {f_remainder_back:Addr} {od_remainder_back an_remainder_back:Option Addr} {sl_remainder_back:Array (Option Value)} {oc_remainder_back kV_remainder_back dc_remainder_back pm_remainder_back cd_remainder_back ct_remainder_back:Value}
    {f_remainder_over:Addr} {od_remainder_over an_remainder_over:Option Addr} {sl_remainder_over:Array (Option Value)} {oc_remainder_over kV_remainder_over dc_remainder_over pm_remainder_over cd_remainder_over ct_remainder_over:Value}
    {f_is_fractions:Addr} {od_is_fractions an_is_fractions:Option Addr} {sl_is_fractions:Array (Option Value)} {oc_is_fractions kV_is_fractions dc_is_fractions pm_is_fractions cd_is_fractions ct_is_fractions:Value}
    {f_is_wheel:Addr} {od_is_wheel an_is_wheel:Option Addr} {sl_is_wheel:Array (Option Value)} {oc_is_wheel kV_is_wheel dc_is_wheel pm_is_wheel cd_is_wheel ct_is_wheel:Value}
    {f_width:Addr} {od_width an_width:Option Addr} {sl_width:Array (Option Value)} {oc_width kV_width dc_width pm_width cd_width ct_width:Value}
    {f_square_size:Addr} {od_square_size an_square_size:Option Addr} {sl_square_size:Array (Option Value)} {oc_square_size kV_square_size dc_square_size pm_square_size cd_square_size ct_square_size:Value}
    {f_check_aim:Addr} {od_check_aim an_check_aim:Option Addr} {sl_check_aim:Array (Option Value)} {oc_check_aim kV_check_aim dc_check_aim pm_check_aim cd_check_aim ct_check_aim:Value}
    {f_column:Addr} {od_column an_column:Option Addr} {sl_column:Array (Option Value)} {oc_column kV_column dc_column pm_column cd_column ct_column:Value}
    {f_columns:Addr} {od_columns an_columns:Option Addr} {sl_columns:Array (Option Value)} {oc_columns kV_columns dc_columns pm_columns cd_columns ct_columns:Value}
    {f_one_table_row:Addr} {od_one_table_row an_one_table_row:Option Addr} {sl_one_table_row:Array (Option Value)} {oc_one_table_row kV_one_table_row dc_one_table_row pm_one_table_row cd_one_table_row ct_one_table_row:Value}
    {f_cleared:Addr} {od_cleared an_cleared:Option Addr} {sl_cleared:Array (Option Value)} {oc_cleared kV_cleared dc_cleared pm_cleared cd_cleared ct_cleared:Value}
    {f_first_filled:Addr} {od_first_filled an_first_filled:Option Addr} {sl_first_filled:Array (Option Value)} {oc_first_filled kV_first_filled dc_first_filled pm_first_filled cd_first_filled ct_first_filled:Value}
    {f_swapped:Addr} {od_swapped an_swapped:Option Addr} {sl_swapped:Array (Option Value)} {oc_swapped kV_swapped dc_swapped pm_swapped cd_swapped ct_swapped:Value}
    {f_row_over:Addr} {od_row_over an_row_over:Option Addr} {sl_row_over:Array (Option Value)} {oc_row_over kV_row_over dc_row_over pm_row_over cd_row_over ct_row_over:Value}
    {f_reduced:Addr} {od_reduced an_reduced:Option Addr} {sl_reduced:Array (Option Value)} {oc_reduced kV_reduced dc_reduced pm_reduced cd_reduced ct_reduced:Value}
    {f_beside:Addr} {od_beside an_beside:Option Addr} {sl_beside:Array (Option Value)} {oc_beside kV_beside dc_beside pm_beside cd_beside ct_beside:Value}
    {f_move_of:Addr} {od_move_of an_move_of:Option Addr} {sl_move_of:Array (Option Value)} {oc_move_of kV_move_of dc_move_of pm_move_of cd_move_of ct_move_of:Value}
    {f_back_times:Addr} {od_back_times an_back_times:Option Addr} {sl_back_times:Array (Option Value)} {oc_back_times kV_back_times dc_back_times pm_back_times cd_back_times ct_back_times:Value}
    {f_some_move:Addr} {od_some_move an_some_move:Option Addr} {sl_some_move:Array (Option Value)} {oc_some_move kV_some_move dc_some_move pm_some_move cd_some_move ct_some_move:Value}
    {f_check_sizes:Addr} {od_check_sizes an_check_sizes:Option Addr} {sl_check_sizes:Array (Option Value)} {oc_check_sizes kV_check_sizes dc_check_sizes pm_check_sizes cd_check_sizes ct_check_sizes:Value}
    {f_twofold_row:Addr} {od_twofold_row an_twofold_row:Option Addr} {sl_twofold_row:Array (Option Value)} {oc_twofold_row kV_twofold_row dc_twofold_row pm_twofold_row cd_twofold_row ct_twofold_row:Value}
    {f_joined:Addr} {od_joined an_joined:Option Addr} {sl_joined:Array (Option Value)} {oc_joined kV_joined dc_joined pm_joined cd_joined ct_joined:Value}
    {f_twofold_undone:Addr} {od_twofold_undone an_twofold_undone:Option Addr} {sl_twofold_undone:Array (Option Value)} {oc_twofold_undone kV_twofold_undone dc_twofold_undone pm_twofold_undone cd_twofold_undone ct_twofold_undone:Value}
    {f_b_draw:Addr} {od_b_draw an_b_draw:Option Addr} {sl_b_draw:Array (Option Value)} {oc_b_draw kV_b_draw dc_b_draw pm_b_draw cd_b_draw ct_b_draw:Value}
    {f_b_low:Addr} {od_b_low an_b_low:Option Addr} {sl_b_low:Array (Option Value)} {oc_b_low kV_b_low dc_b_low pm_b_low cd_b_low ct_b_low:Value}
    {f_b_prime:Addr} {od_b_prime an_b_prime:Option Addr} {sl_b_prime:Array (Option Value)} {oc_b_prime kV_b_prime dc_b_prime pm_b_prime cd_b_prime ct_b_prime:Value}
    {f_b_wheel:Addr} {od_b_wheel an_b_wheel:Option Addr} {sl_b_wheel:Array (Option Value)} {oc_b_wheel kV_b_wheel dc_b_wheel pm_b_wheel cd_b_wheel ct_b_wheel:Value}
    {f_b_world:Addr} {od_b_world an_b_world:Option Addr} {sl_b_world:Array (Option Value)} {oc_b_world kV_b_world dc_b_world pm_b_world cd_b_world ct_b_world:Value}
    {f_b_number:Addr} {od_b_number an_b_number:Option Addr} {sl_b_number:Array (Option Value)} {oc_b_number kV_b_number dc_b_number pm_b_number cd_b_number ct_b_number:Value}
    {f_b_table:Addr} {od_b_table an_b_table:Option Addr} {sl_b_table:Array (Option Value)} {oc_b_table kV_b_table dc_b_table pm_b_table cd_b_table ct_b_table:Value}
    {f_b_refused:Addr} {od_b_refused an_b_refused:Option Addr} {sl_b_refused:Array (Option Value)} {oc_b_refused kV_b_refused dc_b_refused pm_b_refused cd_b_refused ct_b_refused:Value}
    {f_b_bent:Addr} {od_b_bent an_b_bent:Option Addr} {sl_b_bent:Array (Option Value)} {oc_b_bent kV_b_bent dc_b_bent pm_b_bent cd_b_bent ct_b_bent:Value}
    {f_law:Addr} {od_law an_law:Option Addr} {sl_law:Array (Option Value)} {oc_law kV_law dc_law pm_law cd_law ct_law:Value}
    {f_World___init__:Addr} {od_World___init__ an_World___init__:Option Addr} {sl_World___init__:Array (Option Value)} {oc_World___init__ kV_World___init__ dc_World___init__ pm_World___init__ cd_World___init__ ct_World___init__:Value}
    {f_World_of:Addr} {od_World_of an_World_of:Option Addr} {sl_World_of:Array (Option Value)} {oc_World_of kV_World_of dc_World_of pm_World_of cd_World_of ct_World_of:Value}
    {dT_World_of:Addr} {tk_World_of:Tok} {oc2_World_of:Value} {od2_World_of:Option Addr} {n2_World_of:Nat} {sl2_World_of:Array (Option Value)}
    {f_World_minus:Addr} {od_World_minus an_World_minus:Option Addr} {sl_World_minus:Array (Option Value)} {oc_World_minus kV_World_minus dc_World_minus pm_World_minus cd_World_minus ct_World_minus:Value}
    {f_World_times:Addr} {od_World_times an_World_times:Option Addr} {sl_World_times:Array (Option Value)} {oc_World_times kV_World_times dc_World_times pm_World_times cd_World_times ct_World_times:Value}
    {f_World_as_wholes:Addr} {od_World_as_wholes an_World_as_wholes:Option Addr} {sl_World_as_wholes:Array (Option Value)} {oc_World_as_wholes kV_World_as_wholes dc_World_as_wholes pm_World_as_wholes cd_World_as_wholes ct_World_as_wholes:Value}
    {tk_GREATEST_PRIME:Tok}
    {tk_LONG:Tok}
    {tk_MOST:Tok}
    (aC_World:PySem.W.nsIn K mainGlobals "World" = some (some (.ref C_World)))
    (aC_NoWorld:PySem.W.nsIn K mainGlobals "NoWorld" = some (some (.ref C_NoWorld)))
    (aC_NoOver:PySem.W.nsIn K mainGlobals "NoOver" = some (some (.ref C_NoOver)))
    (aC_WrightError:PySem.W.nsIn K mainGlobals "WrightError" = some (some (.ref C_WrightError)))
    (aC_NoFit:PySem.W.nsIn K mainGlobals "NoFit" = some (some (.ref C_NoFit)))
    (aC_NoShape:PySem.W.nsIn K mainGlobals "NoShape" = some (some (.ref C_NoShape)))
    (aC_NoOrder:PySem.W.nsIn K mainGlobals "NoOrder" = some (some (.ref C_NoOrder)))
    (aC_NoSize:PySem.W.nsIn K mainGlobals "NoSize" = some (some (.ref C_NoSize)))
    (aC_NoLink:PySem.W.nsIn K mainGlobals "NoLink" = some (some (.ref C_NoLink)))
    (aC_Tied:PySem.W.nsIn K mainGlobals "Tied" = some (some (.ref C_Tied)))
    (a_is_whole:PySem.W.nsIn K mainGlobals "is_whole" = some (some (.ref f_is_whole)))
    (l_is_whole:K.lookup f_is_whole = some ⟨oc_is_whole,od_is_whole,.func (PySem.W.fnOf "is_whole" "is_whole" (defArgs s_is_whole) (defBody s_is_whole) (defScope s_is_whole) .none kV_is_whole dc_is_whole pm_is_whole an_is_whole cd_is_whole ct_is_whole),sl_is_whole⟩)
    (c_is_whole:PySem.W.codeIn K cd_is_whole "is_whole" = true)
    (k_is_whole:PySem.W.keepIn K (.ref f_is_whole) = true)
    (a_common_divisor:PySem.W.nsIn K mainGlobals "common_divisor" = some (some (.ref f_common_divisor)))
    (l_common_divisor:K.lookup f_common_divisor = some ⟨oc_common_divisor,od_common_divisor,.func (PySem.W.fnOf "common_divisor" "common_divisor" (defArgs s_common_divisor) (defBody s_common_divisor) (defScope s_common_divisor) .none kV_common_divisor dc_common_divisor pm_common_divisor an_common_divisor cd_common_divisor ct_common_divisor),sl_common_divisor⟩)
    (c_common_divisor:PySem.W.codeIn K cd_common_divisor "common_divisor" = true)
    (k_common_divisor:PySem.W.keepIn K (.ref f_common_divisor) = true)
    (a_is_prime:PySem.W.nsIn K mainGlobals "is_prime" = some (some (.ref f_is_prime)))
    (l_is_prime:K.lookup f_is_prime = some ⟨oc_is_prime,od_is_prime,.func (PySem.W.fnOf "is_prime" "is_prime" (defArgs s_is_prime) (defBody s_is_prime) (defScope s_is_prime) .none kV_is_prime dc_is_prime pm_is_prime an_is_prime cd_is_prime ct_is_prime),sl_is_prime⟩)
    (c_is_prime:PySem.W.codeIn K cd_is_prime "is_prime" = true)
    (k_is_prime:PySem.W.keepIn K (.ref f_is_prime) = true)
    (a_ratio:PySem.W.nsIn K mainGlobals "ratio" = some (some (.ref f_ratio)))
    (l_ratio:K.lookup f_ratio = some ⟨oc_ratio,od_ratio,.func (PySem.W.fnOf "ratio" "ratio" (defArgs s_ratio) (defBody s_ratio) (defScope s_ratio) .none kV_ratio dc_ratio pm_ratio an_ratio cd_ratio ct_ratio),sl_ratio⟩)
    (c_ratio:PySem.W.codeIn K cd_ratio "ratio" = true)
    (k_ratio:PySem.W.keepIn K (.ref f_ratio) = true)
    (a_ratio_plus:PySem.W.nsIn K mainGlobals "ratio_plus" = some (some (.ref f_ratio_plus)))
    (l_ratio_plus:K.lookup f_ratio_plus = some ⟨oc_ratio_plus,od_ratio_plus,.func (PySem.W.fnOf "ratio_plus" "ratio_plus" (defArgs s_ratio_plus) (defBody s_ratio_plus) (defScope s_ratio_plus) .none kV_ratio_plus dc_ratio_plus pm_ratio_plus an_ratio_plus cd_ratio_plus ct_ratio_plus),sl_ratio_plus⟩)
    (c_ratio_plus:PySem.W.codeIn K cd_ratio_plus "ratio_plus" = true)
    (k_ratio_plus:PySem.W.keepIn K (.ref f_ratio_plus) = true)
    (a_ratio_minus:PySem.W.nsIn K mainGlobals "ratio_minus" = some (some (.ref f_ratio_minus)))
    (l_ratio_minus:K.lookup f_ratio_minus = some ⟨oc_ratio_minus,od_ratio_minus,.func (PySem.W.fnOf "ratio_minus" "ratio_minus" (defArgs s_ratio_minus) (defBody s_ratio_minus) (defScope s_ratio_minus) .none kV_ratio_minus dc_ratio_minus pm_ratio_minus an_ratio_minus cd_ratio_minus ct_ratio_minus),sl_ratio_minus⟩)
    (c_ratio_minus:PySem.W.codeIn K cd_ratio_minus "ratio_minus" = true)
    (k_ratio_minus:PySem.W.keepIn K (.ref f_ratio_minus) = true)
    (a_ratio_times:PySem.W.nsIn K mainGlobals "ratio_times" = some (some (.ref f_ratio_times)))
    (l_ratio_times:K.lookup f_ratio_times = some ⟨oc_ratio_times,od_ratio_times,.func (PySem.W.fnOf "ratio_times" "ratio_times" (defArgs s_ratio_times) (defBody s_ratio_times) (defScope s_ratio_times) .none kV_ratio_times dc_ratio_times pm_ratio_times an_ratio_times cd_ratio_times ct_ratio_times),sl_ratio_times⟩)
    (c_ratio_times:PySem.W.codeIn K cd_ratio_times "ratio_times" = true)
    (k_ratio_times:PySem.W.keepIn K (.ref f_ratio_times) = true)
    (a_one_bottom:PySem.W.nsIn K mainGlobals "one_bottom" = some (some (.ref f_one_bottom)))
    (l_one_bottom:K.lookup f_one_bottom = some ⟨oc_one_bottom,od_one_bottom,.func (PySem.W.fnOf "one_bottom" "one_bottom" (defArgs s_one_bottom) (defBody s_one_bottom) (defScope s_one_bottom) .none kV_one_bottom dc_one_bottom pm_one_bottom an_one_bottom cd_one_bottom ct_one_bottom),sl_one_bottom⟩)
    (c_one_bottom:PySem.W.codeIn K cd_one_bottom "one_bottom" = true)
    (k_one_bottom:PySem.W.keepIn K (.ref f_one_bottom) = true)
    (a_remainder_back:PySem.W.nsIn K mainGlobals "remainder_back" = some (some (.ref f_remainder_back)))
    (l_remainder_back:K.lookup f_remainder_back = some ⟨oc_remainder_back,od_remainder_back,.func (PySem.W.fnOf "remainder_back" "remainder_back" (defArgs s_remainder_back) (defBody s_remainder_back) (defScope s_remainder_back) .none kV_remainder_back dc_remainder_back pm_remainder_back an_remainder_back cd_remainder_back ct_remainder_back),sl_remainder_back⟩)
    (c_remainder_back:PySem.W.codeIn K cd_remainder_back "remainder_back" = true)
    (k_remainder_back:PySem.W.keepIn K (.ref f_remainder_back) = true)
    (a_remainder_over:PySem.W.nsIn K mainGlobals "remainder_over" = some (some (.ref f_remainder_over)))
    (l_remainder_over:K.lookup f_remainder_over = some ⟨oc_remainder_over,od_remainder_over,.func (PySem.W.fnOf "remainder_over" "remainder_over" (defArgs s_remainder_over) (defBody s_remainder_over) (defScope s_remainder_over) .none kV_remainder_over dc_remainder_over pm_remainder_over an_remainder_over cd_remainder_over ct_remainder_over),sl_remainder_over⟩)
    (c_remainder_over:PySem.W.codeIn K cd_remainder_over "remainder_over" = true)
    (k_remainder_over:PySem.W.keepIn K (.ref f_remainder_over) = true)
    (a_is_fractions:PySem.W.nsIn K mainGlobals "is_fractions" = some (some (.ref f_is_fractions)))
    (l_is_fractions:K.lookup f_is_fractions = some ⟨oc_is_fractions,od_is_fractions,.func (PySem.W.fnOf "is_fractions" "is_fractions" (defArgs s_is_fractions) (defBody s_is_fractions) (defScope s_is_fractions) .none kV_is_fractions dc_is_fractions pm_is_fractions an_is_fractions cd_is_fractions ct_is_fractions),sl_is_fractions⟩)
    (c_is_fractions:PySem.W.codeIn K cd_is_fractions "is_fractions" = true)
    (k_is_fractions:PySem.W.keepIn K (.ref f_is_fractions) = true)
    (a_is_wheel:PySem.W.nsIn K mainGlobals "is_wheel" = some (some (.ref f_is_wheel)))
    (l_is_wheel:K.lookup f_is_wheel = some ⟨oc_is_wheel,od_is_wheel,.func (PySem.W.fnOf "is_wheel" "is_wheel" (defArgs s_is_wheel) (defBody s_is_wheel) (defScope s_is_wheel) .none kV_is_wheel dc_is_wheel pm_is_wheel an_is_wheel cd_is_wheel ct_is_wheel),sl_is_wheel⟩)
    (c_is_wheel:PySem.W.codeIn K cd_is_wheel "is_wheel" = true)
    (k_is_wheel:PySem.W.keepIn K (.ref f_is_wheel) = true)
    (a_width:PySem.W.nsIn K mainGlobals "width" = some (some (.ref f_width)))
    (l_width:K.lookup f_width = some ⟨oc_width,od_width,.func (PySem.W.fnOf "width" "width" (defArgs s_width) (defBody s_width) (defScope s_width) .none kV_width dc_width pm_width an_width cd_width ct_width),sl_width⟩)
    (c_width:PySem.W.codeIn K cd_width "width" = true)
    (k_width:PySem.W.keepIn K (.ref f_width) = true)
    (a_square_size:PySem.W.nsIn K mainGlobals "square_size" = some (some (.ref f_square_size)))
    (l_square_size:K.lookup f_square_size = some ⟨oc_square_size,od_square_size,.func (PySem.W.fnOf "square_size" "square_size" (defArgs s_square_size) (defBody s_square_size) (defScope s_square_size) .none kV_square_size dc_square_size pm_square_size an_square_size cd_square_size ct_square_size),sl_square_size⟩)
    (c_square_size:PySem.W.codeIn K cd_square_size "square_size" = true)
    (k_square_size:PySem.W.keepIn K (.ref f_square_size) = true)
    (a_check_aim:PySem.W.nsIn K mainGlobals "check_aim" = some (some (.ref f_check_aim)))
    (l_check_aim:K.lookup f_check_aim = some ⟨oc_check_aim,od_check_aim,.func (PySem.W.fnOf "check_aim" "check_aim" (defArgs s_check_aim) (defBody s_check_aim) (defScope s_check_aim) .none kV_check_aim dc_check_aim pm_check_aim an_check_aim cd_check_aim ct_check_aim),sl_check_aim⟩)
    (c_check_aim:PySem.W.codeIn K cd_check_aim "check_aim" = true)
    (k_check_aim:PySem.W.keepIn K (.ref f_check_aim) = true)
    (a_column:PySem.W.nsIn K mainGlobals "column" = some (some (.ref f_column)))
    (l_column:K.lookup f_column = some ⟨oc_column,od_column,.func (PySem.W.fnOf "column" "column" (defArgs s_column) (defBody s_column) (defScope s_column) .none kV_column dc_column pm_column an_column cd_column ct_column),sl_column⟩)
    (c_column:PySem.W.codeIn K cd_column "column" = true)
    (k_column:PySem.W.keepIn K (.ref f_column) = true)
    (a_columns:PySem.W.nsIn K mainGlobals "columns" = some (some (.ref f_columns)))
    (l_columns:K.lookup f_columns = some ⟨oc_columns,od_columns,.func (PySem.W.fnOf "columns" "columns" (defArgs s_columns) (defBody s_columns) (defScope s_columns) .none kV_columns dc_columns pm_columns an_columns cd_columns ct_columns),sl_columns⟩)
    (c_columns:PySem.W.codeIn K cd_columns "columns" = true)
    (k_columns:PySem.W.keepIn K (.ref f_columns) = true)
    (a_one_table_row:PySem.W.nsIn K mainGlobals "one_table_row" = some (some (.ref f_one_table_row)))
    (l_one_table_row:K.lookup f_one_table_row = some ⟨oc_one_table_row,od_one_table_row,.func (PySem.W.fnOf "one_table_row" "one_table_row" (defArgs s_one_table_row) (defBody s_one_table_row) (defScope s_one_table_row) .none kV_one_table_row dc_one_table_row pm_one_table_row an_one_table_row cd_one_table_row ct_one_table_row),sl_one_table_row⟩)
    (c_one_table_row:PySem.W.codeIn K cd_one_table_row "one_table_row" = true)
    (k_one_table_row:PySem.W.keepIn K (.ref f_one_table_row) = true)
    (a_cleared:PySem.W.nsIn K mainGlobals "cleared" = some (some (.ref f_cleared)))
    (l_cleared:K.lookup f_cleared = some ⟨oc_cleared,od_cleared,.func (PySem.W.fnOf "cleared" "cleared" (defArgs s_cleared) (defBody s_cleared) (defScope s_cleared) .none kV_cleared dc_cleared pm_cleared an_cleared cd_cleared ct_cleared),sl_cleared⟩)
    (c_cleared:PySem.W.codeIn K cd_cleared "cleared" = true)
    (k_cleared:PySem.W.keepIn K (.ref f_cleared) = true)
    (a_first_filled:PySem.W.nsIn K mainGlobals "first_filled" = some (some (.ref f_first_filled)))
    (l_first_filled:K.lookup f_first_filled = some ⟨oc_first_filled,od_first_filled,.func (PySem.W.fnOf "first_filled" "first_filled" (defArgs s_first_filled) (defBody s_first_filled) (defScope s_first_filled) .none kV_first_filled dc_first_filled pm_first_filled an_first_filled cd_first_filled ct_first_filled),sl_first_filled⟩)
    (c_first_filled:PySem.W.codeIn K cd_first_filled "first_filled" = true)
    (k_first_filled:PySem.W.keepIn K (.ref f_first_filled) = true)
    (a_swapped:PySem.W.nsIn K mainGlobals "swapped" = some (some (.ref f_swapped)))
    (l_swapped:K.lookup f_swapped = some ⟨oc_swapped,od_swapped,.func (PySem.W.fnOf "swapped" "swapped" (defArgs s_swapped) (defBody s_swapped) (defScope s_swapped) .none kV_swapped dc_swapped pm_swapped an_swapped cd_swapped ct_swapped),sl_swapped⟩)
    (c_swapped:PySem.W.codeIn K cd_swapped "swapped" = true)
    (k_swapped:PySem.W.keepIn K (.ref f_swapped) = true)
    (a_row_over:PySem.W.nsIn K mainGlobals "row_over" = some (some (.ref f_row_over)))
    (l_row_over:K.lookup f_row_over = some ⟨oc_row_over,od_row_over,.func (PySem.W.fnOf "row_over" "row_over" (defArgs s_row_over) (defBody s_row_over) (defScope s_row_over) .none kV_row_over dc_row_over pm_row_over an_row_over cd_row_over ct_row_over),sl_row_over⟩)
    (c_row_over:PySem.W.codeIn K cd_row_over "row_over" = true)
    (k_row_over:PySem.W.keepIn K (.ref f_row_over) = true)
    (a_reduced:PySem.W.nsIn K mainGlobals "reduced" = some (some (.ref f_reduced)))
    (l_reduced:K.lookup f_reduced = some ⟨oc_reduced,od_reduced,.func (PySem.W.fnOf "reduced" "reduced" (defArgs s_reduced) (defBody s_reduced) (defScope s_reduced) .none kV_reduced dc_reduced pm_reduced an_reduced cd_reduced ct_reduced),sl_reduced⟩)
    (c_reduced:PySem.W.codeIn K cd_reduced "reduced" = true)
    (k_reduced:PySem.W.keepIn K (.ref f_reduced) = true)
    (a_beside:PySem.W.nsIn K mainGlobals "beside" = some (some (.ref f_beside)))
    (l_beside:K.lookup f_beside = some ⟨oc_beside,od_beside,.func (PySem.W.fnOf "beside" "beside" (defArgs s_beside) (defBody s_beside) (defScope s_beside) .none kV_beside dc_beside pm_beside an_beside cd_beside ct_beside),sl_beside⟩)
    (c_beside:PySem.W.codeIn K cd_beside "beside" = true)
    (k_beside:PySem.W.keepIn K (.ref f_beside) = true)
    (a_move_of:PySem.W.nsIn K mainGlobals "move_of" = some (some (.ref f_move_of)))
    (l_move_of:K.lookup f_move_of = some ⟨oc_move_of,od_move_of,.func (PySem.W.fnOf "move_of" "move_of" (defArgs s_move_of) (defBody s_move_of) (defScope s_move_of) .none kV_move_of dc_move_of pm_move_of an_move_of cd_move_of ct_move_of),sl_move_of⟩)
    (c_move_of:PySem.W.codeIn K cd_move_of "move_of" = true)
    (k_move_of:PySem.W.keepIn K (.ref f_move_of) = true)
    (a_back_times:PySem.W.nsIn K mainGlobals "back_times" = some (some (.ref f_back_times)))
    (l_back_times:K.lookup f_back_times = some ⟨oc_back_times,od_back_times,.func (PySem.W.fnOf "back_times" "back_times" (defArgs s_back_times) (defBody s_back_times) (defScope s_back_times) .none kV_back_times dc_back_times pm_back_times an_back_times cd_back_times ct_back_times),sl_back_times⟩)
    (c_back_times:PySem.W.codeIn K cd_back_times "back_times" = true)
    (k_back_times:PySem.W.keepIn K (.ref f_back_times) = true)
    (a_some_move:PySem.W.nsIn K mainGlobals "some_move" = some (some (.ref f_some_move)))
    (l_some_move:K.lookup f_some_move = some ⟨oc_some_move,od_some_move,.func (PySem.W.fnOf "some_move" "some_move" (defArgs s_some_move) (defBody s_some_move) (defScope s_some_move) .none kV_some_move dc_some_move pm_some_move an_some_move cd_some_move ct_some_move),sl_some_move⟩)
    (c_some_move:PySem.W.codeIn K cd_some_move "some_move" = true)
    (k_some_move:PySem.W.keepIn K (.ref f_some_move) = true)
    (a_check_sizes:PySem.W.nsIn K mainGlobals "check_sizes" = some (some (.ref f_check_sizes)))
    (l_check_sizes:K.lookup f_check_sizes = some ⟨oc_check_sizes,od_check_sizes,.func (PySem.W.fnOf "check_sizes" "check_sizes" (defArgs s_check_sizes) (defBody s_check_sizes) (defScope s_check_sizes) .none kV_check_sizes dc_check_sizes pm_check_sizes an_check_sizes cd_check_sizes ct_check_sizes),sl_check_sizes⟩)
    (c_check_sizes:PySem.W.codeIn K cd_check_sizes "check_sizes" = true)
    (k_check_sizes:PySem.W.keepIn K (.ref f_check_sizes) = true)
    (a_twofold_row:PySem.W.nsIn K mainGlobals "twofold_row" = some (some (.ref f_twofold_row)))
    (l_twofold_row:K.lookup f_twofold_row = some ⟨oc_twofold_row,od_twofold_row,.func (PySem.W.fnOf "twofold_row" "twofold_row" (defArgs s_twofold_row) (defBody s_twofold_row) (defScope s_twofold_row) .none kV_twofold_row dc_twofold_row pm_twofold_row an_twofold_row cd_twofold_row ct_twofold_row),sl_twofold_row⟩)
    (c_twofold_row:PySem.W.codeIn K cd_twofold_row "twofold_row" = true)
    (k_twofold_row:PySem.W.keepIn K (.ref f_twofold_row) = true)
    (a_joined:PySem.W.nsIn K mainGlobals "joined" = some (some (.ref f_joined)))
    (l_joined:K.lookup f_joined = some ⟨oc_joined,od_joined,.func (PySem.W.fnOf "joined" "joined" (defArgs s_joined) (defBody s_joined) (defScope s_joined) .none kV_joined dc_joined pm_joined an_joined cd_joined ct_joined),sl_joined⟩)
    (c_joined:PySem.W.codeIn K cd_joined "joined" = true)
    (k_joined:PySem.W.keepIn K (.ref f_joined) = true)
    (a_twofold_undone:PySem.W.nsIn K mainGlobals "twofold_undone" = some (some (.ref f_twofold_undone)))
    (l_twofold_undone:K.lookup f_twofold_undone = some ⟨oc_twofold_undone,od_twofold_undone,.func (PySem.W.fnOf "twofold_undone" "twofold_undone" (defArgs s_twofold_undone) (defBody s_twofold_undone) (defScope s_twofold_undone) .none kV_twofold_undone dc_twofold_undone pm_twofold_undone an_twofold_undone cd_twofold_undone ct_twofold_undone),sl_twofold_undone⟩)
    (c_twofold_undone:PySem.W.codeIn K cd_twofold_undone "twofold_undone" = true)
    (k_twofold_undone:PySem.W.keepIn K (.ref f_twofold_undone) = true)
    (a_b_draw:PySem.W.nsIn K mainGlobals "_law_b_draw" = some (some (.ref f_b_draw)))
    (l_b_draw:K.lookup f_b_draw = some ⟨oc_b_draw,od_b_draw,.func (PySem.W.fnOf "_law_b_draw" "_law_b_draw" (defArgs s_b_draw) (defBody s_b_draw) (defScope s_b_draw) .none kV_b_draw dc_b_draw pm_b_draw an_b_draw cd_b_draw ct_b_draw),sl_b_draw⟩)
    (c_b_draw:PySem.W.codeIn K cd_b_draw "_law_b_draw" = true)
    (k_b_draw:PySem.W.keepIn K (.ref f_b_draw) = true)
    (a_b_low:PySem.W.nsIn K mainGlobals "_law_b_low" = some (some (.ref f_b_low)))
    (l_b_low:K.lookup f_b_low = some ⟨oc_b_low,od_b_low,.func (PySem.W.fnOf "_law_b_low" "_law_b_low" (defArgs s_b_low) (defBody s_b_low) (defScope s_b_low) .none kV_b_low dc_b_low pm_b_low an_b_low cd_b_low ct_b_low),sl_b_low⟩)
    (c_b_low:PySem.W.codeIn K cd_b_low "_law_b_low" = true)
    (k_b_low:PySem.W.keepIn K (.ref f_b_low) = true)
    (a_b_prime:PySem.W.nsIn K mainGlobals "_law_b_prime" = some (some (.ref f_b_prime)))
    (l_b_prime:K.lookup f_b_prime = some ⟨oc_b_prime,od_b_prime,.func (PySem.W.fnOf "_law_b_prime" "_law_b_prime" (defArgs s_b_prime) (defBody s_b_prime) (defScope s_b_prime) .none kV_b_prime dc_b_prime pm_b_prime an_b_prime cd_b_prime ct_b_prime),sl_b_prime⟩)
    (c_b_prime:PySem.W.codeIn K cd_b_prime "_law_b_prime" = true)
    (k_b_prime:PySem.W.keepIn K (.ref f_b_prime) = true)
    (a_b_wheel:PySem.W.nsIn K mainGlobals "_law_b_wheel" = some (some (.ref f_b_wheel)))
    (l_b_wheel:K.lookup f_b_wheel = some ⟨oc_b_wheel,od_b_wheel,.func (PySem.W.fnOf "_law_b_wheel" "_law_b_wheel" (defArgs s_b_wheel) (defBody s_b_wheel) (defScope s_b_wheel) .none kV_b_wheel dc_b_wheel pm_b_wheel an_b_wheel cd_b_wheel ct_b_wheel),sl_b_wheel⟩)
    (c_b_wheel:PySem.W.codeIn K cd_b_wheel "_law_b_wheel" = true)
    (k_b_wheel:PySem.W.keepIn K (.ref f_b_wheel) = true)
    (a_b_world:PySem.W.nsIn K mainGlobals "_law_b_world" = some (some (.ref f_b_world)))
    (l_b_world:K.lookup f_b_world = some ⟨oc_b_world,od_b_world,.func (PySem.W.fnOf "_law_b_world" "_law_b_world" (defArgs s_b_world) (defBody s_b_world) (defScope s_b_world) .none kV_b_world dc_b_world pm_b_world an_b_world cd_b_world ct_b_world),sl_b_world⟩)
    (c_b_world:PySem.W.codeIn K cd_b_world "_law_b_world" = true)
    (k_b_world:PySem.W.keepIn K (.ref f_b_world) = true)
    (a_b_number:PySem.W.nsIn K mainGlobals "_law_b_number" = some (some (.ref f_b_number)))
    (l_b_number:K.lookup f_b_number = some ⟨oc_b_number,od_b_number,.func (PySem.W.fnOf "_law_b_number" "_law_b_number" (defArgs s_b_number) (defBody s_b_number) (defScope s_b_number) .none kV_b_number dc_b_number pm_b_number an_b_number cd_b_number ct_b_number),sl_b_number⟩)
    (c_b_number:PySem.W.codeIn K cd_b_number "_law_b_number" = true)
    (k_b_number:PySem.W.keepIn K (.ref f_b_number) = true)
    (a_b_table:PySem.W.nsIn K mainGlobals "_law_b_table" = some (some (.ref f_b_table)))
    (l_b_table:K.lookup f_b_table = some ⟨oc_b_table,od_b_table,.func (PySem.W.fnOf "_law_b_table" "_law_b_table" (defArgs s_b_table) (defBody s_b_table) (defScope s_b_table) .none kV_b_table dc_b_table pm_b_table an_b_table cd_b_table ct_b_table),sl_b_table⟩)
    (c_b_table:PySem.W.codeIn K cd_b_table "_law_b_table" = true)
    (k_b_table:PySem.W.keepIn K (.ref f_b_table) = true)
    (a_b_refused:PySem.W.nsIn K mainGlobals "_law_b_refused" = some (some (.ref f_b_refused)))
    (l_b_refused:K.lookup f_b_refused = some ⟨oc_b_refused,od_b_refused,.func (PySem.W.fnOf "_law_b_refused" "_law_b_refused" (defArgs s_b_refused) (defBody s_b_refused) (defScope s_b_refused) .none kV_b_refused dc_b_refused pm_b_refused an_b_refused cd_b_refused ct_b_refused),sl_b_refused⟩)
    (c_b_refused:PySem.W.codeIn K cd_b_refused "_law_b_refused" = true)
    (k_b_refused:PySem.W.keepIn K (.ref f_b_refused) = true)
    (a_b_bent:PySem.W.nsIn K mainGlobals "_law_b_bent" = some (some (.ref f_b_bent)))
    (l_b_bent:K.lookup f_b_bent = some ⟨oc_b_bent,od_b_bent,.func (PySem.W.fnOf "_law_b_bent" "_law_b_bent" (defArgs s_b_bent) (defBody s_b_bent) (defScope s_b_bent) .none kV_b_bent dc_b_bent pm_b_bent an_b_bent cd_b_bent ct_b_bent),sl_b_bent⟩)
    (c_b_bent:PySem.W.codeIn K cd_b_bent "_law_b_bent" = true)
    (k_b_bent:PySem.W.keepIn K (.ref f_b_bent) = true)
    (a_law:PySem.W.nsIn K mainGlobals "law" = some (some (.ref f_law)))
    (l_law:K.lookup f_law = some ⟨oc_law,od_law,.func (PySem.W.fnOf "law" "law" (defArgs s_law) (defBody s_law) (defScope s_law) .none kV_law dc_law pm_law an_law cd_law ct_law),sl_law⟩)
    (c_law:PySem.W.codeIn K cd_law "law" = true)
    (k_law:PySem.W.keepIn K (.ref f_law) = true)
    (a_World___init__:PySem.W.findIn K (.ref C_World) "__init__" = some (some (.ref f_World___init__)))
    (i_World___init__:PySem.W.isFn K (.ref f_World___init__) = true)
    (l_World___init__:K.lookup f_World___init__ = some ⟨oc_World___init__,od_World___init__,.func (PySem.W.fnOf "__init__" "World.__init__" (defArgs s_World___init__) (defBody s_World___init__) (defScope s_World___init__) .none kV_World___init__ dc_World___init__ pm_World___init__ an_World___init__ cd_World___init__ ct_World___init__),sl_World___init__⟩)
    (c_World___init__:PySem.W.codeIn K cd_World___init__ "World.__init__" = true)
    (k_World___init__:PySem.W.keepIn K (.ref f_World___init__) = true)
    (a_World_of:PySem.W.findIn K (.ref C_World) "of" = some (some (.ref f_World_of)))
    (i_World_of:PySem.W.isFn K (.ref f_World_of) = true)
    (l_World_of:K.lookup f_World_of = some ⟨oc_World_of,od_World_of,.func (PySem.W.fnOf "of" "World.of" (defArgs s_World_of) (defBody s_World_of) (defScope s_World_of) (.ref dT_World_of) kV_World_of dc_World_of pm_World_of an_World_of cd_World_of ct_World_of),sl_World_of⟩)
    (c_World_of:PySem.W.codeIn K cd_World_of "World.of" = true)
    (k_World_of:PySem.W.keepIn K (.ref f_World_of) = true)
    (ld_World_of:K.lookup dT_World_of = some ⟨oc2_World_of,od2_World_of,.seq #[.int 1 tk_World_of] n2_World_of,sl2_World_of⟩)
    (a_World_minus:PySem.W.findIn K (.ref C_World) "minus" = some (some (.ref f_World_minus)))
    (i_World_minus:PySem.W.isFn K (.ref f_World_minus) = true)
    (l_World_minus:K.lookup f_World_minus = some ⟨oc_World_minus,od_World_minus,.func (PySem.W.fnOf "minus" "World.minus" (defArgs s_World_minus) (defBody s_World_minus) (defScope s_World_minus) .none kV_World_minus dc_World_minus pm_World_minus an_World_minus cd_World_minus ct_World_minus),sl_World_minus⟩)
    (c_World_minus:PySem.W.codeIn K cd_World_minus "World.minus" = true)
    (k_World_minus:PySem.W.keepIn K (.ref f_World_minus) = true)
    (a_World_times:PySem.W.findIn K (.ref C_World) "times" = some (some (.ref f_World_times)))
    (i_World_times:PySem.W.isFn K (.ref f_World_times) = true)
    (l_World_times:K.lookup f_World_times = some ⟨oc_World_times,od_World_times,.func (PySem.W.fnOf "times" "World.times" (defArgs s_World_times) (defBody s_World_times) (defScope s_World_times) .none kV_World_times dc_World_times pm_World_times an_World_times cd_World_times ct_World_times),sl_World_times⟩)
    (c_World_times:PySem.W.codeIn K cd_World_times "World.times" = true)
    (k_World_times:PySem.W.keepIn K (.ref f_World_times) = true)
    (a_World_as_wholes:PySem.W.findIn K (.ref C_World) "as_wholes" = some (some (.ref f_World_as_wholes)))
    (i_World_as_wholes:PySem.W.isFn K (.ref f_World_as_wholes) = true)
    (l_World_as_wholes:K.lookup f_World_as_wholes = some ⟨oc_World_as_wholes,od_World_as_wholes,.func (PySem.W.fnOf "as_wholes" "World.as_wholes" (defArgs s_World_as_wholes) (defBody s_World_as_wholes) (defScope s_World_as_wholes) .none kV_World_as_wholes dc_World_as_wholes pm_World_as_wholes an_World_as_wholes cd_World_as_wholes ct_World_as_wholes),sl_World_as_wholes⟩)
    (c_World_as_wholes:PySem.W.codeIn K cd_World_as_wholes "World.as_wholes" = true)
    (k_World_as_wholes:PySem.W.keepIn K (.ref f_World_as_wholes) = true)
    (pg_World:PySem.W.plainGet K C_World Str.empty = true)
    (hd_World:PySem.W.hasDictIn K C_World = true)
    (po_World:PySem.W.plainOver K C_World = true)
    (sa_World:PySem.W.findIn K (.ref C_World) "__setattr__" = some (some (.builtin "object.__setattr__")))
    (mk_World:PySem.W.makesIn K C_World = true)
    (kc_World:PySem.W.keepIn K (.ref C_World) = true)
    (n_World_prime:PySem.W.findIn K (.ref C_World) "prime" = some none)
    (z_len:PySem.W.nsIn K mainGlobals "len" = some none)
    (z_isinstance:PySem.W.nsIn K mainGlobals "isinstance" = some none)
    (z_int:PySem.W.nsIn K mainGlobals "int" = some none)
    (z_bool:PySem.W.nsIn K mainGlobals "bool" = some none)
    (z_tuple:PySem.W.nsIn K mainGlobals "tuple" = some none)
    (z_list:PySem.W.nsIn K mainGlobals "list" = some none)
    (z_range:PySem.W.nsIn K mainGlobals "range" = some none)
    (z_abs:PySem.W.nsIn K mainGlobals "abs" = some none)
    (z_all:PySem.W.nsIn K mainGlobals "all" = some none)
    (z_any:PySem.W.nsIn K mainGlobals "any" = some none)
    (z_sum:PySem.W.nsIn K mainGlobals "sum" = some none)
    (z_zip:PySem.W.nsIn K mainGlobals "zip" = some none)
    (z_ValueError:PySem.W.nsIn K mainGlobals "ValueError" = some none)
    (a_GREATEST_PRIME:PySem.W.nsIn K mainGlobals "GREATEST_PRIME" = some (some (.int 997 tk_GREATEST_PRIME)))
    (a_LONG:PySem.W.nsIn K mainGlobals "LONG" = some (some (.int 2048 tk_LONG)))
    (a_MOST:PySem.W.nsIn K mainGlobals "MOST" = some (some (.int 40 tk_MOST)))
    (e_x_NoWorld:PySem.W.excIn K C_NoWorld [.type "ValueError",.type "Exception",.type "BaseException",.type "object"] "ValueError.__new__" = true)
    (e_x_NoOver:PySem.W.excIn K C_NoOver [.type "ValueError",.type "Exception",.type "BaseException",.type "object"] "ValueError.__new__" = true)
    (e_x_NoFit:PySem.W.excIn K C_NoFit [.type "ValueError",.type "Exception",.type "BaseException",.type "object"] "ValueError.__new__" = true)
    (e_x_WrightError:PySem.W.excIn K C_WrightError [.type "ValueError",.type "Exception",.type "BaseException",.type "object"] "ValueError.__new__" = true)
    (e_m_NF_NF:PySem.W.mroIn K C_NoFit (.ref C_NoFit) = some true)
    (e_m_NF_WE:PySem.W.mroIn K C_NoFit (.ref C_WrightError) = some true)
    (e_k_VE:PySem.W.kitOne K (.ref C_NoFit) (.type "ValueError") = some true)
    (e_k_NF:PySem.W.kitOne K (.ref C_NoFit) (.ref C_NoFit) = some true)
    (e_k_NoWorld:PySem.W.kitOne K (.ref C_NoFit) (.ref C_NoWorld) = some false)
    (e_k_NoOver:PySem.W.kitOne K (.ref C_NoFit) (.ref C_NoOver) = some false)
    (e_k_NoShape:PySem.W.kitOne K (.ref C_NoFit) (.ref C_NoShape) = some false)
    (e_k_NoOrder:PySem.W.kitOne K (.ref C_NoFit) (.ref C_NoOrder) = some false)
    (e_k_NoSize:PySem.W.kitOne K (.ref C_NoFit) (.ref C_NoSize) = some false)
    (e_k_NoLink:PySem.W.kitOne K (.ref C_NoFit) (.ref C_NoLink) = some false)
    (e_k_Tied:PySem.W.kitOne K (.ref C_NoFit) (.ref C_Tied) = some false)
    (e_cx1:PySem.W.hasDictIn K C_NoFit = true)
    (e_cx2:PySem.W.findIn K (.ref C_NoFit) "__getattribute__" = some (some (.builtin "BaseException.__getattribute__")))
    (e_cx3:PySem.W.findIn K (.ref C_NoFit) "__getattr__" = some none)
    (e_cx4:PySem.W.findIn K (.ref C_NoFit) "__class__" = some (some (.builtin "object.__class__")))
    (e_cx5:PySem.W.mroIn K C_NoFit (.type "object") = some true)
    (e_cx6:PySem.W.mroIn K C_NoFit (.type "BaseException") = some true)
    : ∃ t:Adr,Txt K mg t:=by
  refine ⟨⟨f_is_whole,PySem.W.fnOf "is_whole" "is_whole" (defArgs s_is_whole) (defBody s_is_whole) (defScope s_is_whole) .none kV_is_whole dc_is_whole pm_is_whole an_is_whole cd_is_whole ct_is_whole,f_common_divisor,PySem.W.fnOf "common_divisor" "common_divisor" (defArgs s_common_divisor) (defBody s_common_divisor) (defScope s_common_divisor) .none kV_common_divisor dc_common_divisor pm_common_divisor an_common_divisor cd_common_divisor ct_common_divisor,f_is_prime,PySem.W.fnOf "is_prime" "is_prime" (defArgs s_is_prime) (defBody s_is_prime) (defScope s_is_prime) .none kV_is_prime dc_is_prime pm_is_prime an_is_prime cd_is_prime ct_is_prime,f_ratio,PySem.W.fnOf "ratio" "ratio" (defArgs s_ratio) (defBody s_ratio) (defScope s_ratio) .none kV_ratio dc_ratio pm_ratio an_ratio cd_ratio ct_ratio,f_ratio_plus,PySem.W.fnOf "ratio_plus" "ratio_plus" (defArgs s_ratio_plus) (defBody s_ratio_plus) (defScope s_ratio_plus) .none kV_ratio_plus dc_ratio_plus pm_ratio_plus an_ratio_plus cd_ratio_plus ct_ratio_plus,f_ratio_minus,PySem.W.fnOf "ratio_minus" "ratio_minus" (defArgs s_ratio_minus) (defBody s_ratio_minus) (defScope s_ratio_minus) .none kV_ratio_minus dc_ratio_minus pm_ratio_minus an_ratio_minus cd_ratio_minus ct_ratio_minus,f_ratio_times,PySem.W.fnOf "ratio_times" "ratio_times" (defArgs s_ratio_times) (defBody s_ratio_times) (defScope s_ratio_times) .none kV_ratio_times dc_ratio_times pm_ratio_times an_ratio_times cd_ratio_times ct_ratio_times,f_one_bottom,PySem.W.fnOf "one_bottom" "one_bottom" (defArgs s_one_bottom) (defBody s_one_bottom) (defScope s_one_bottom) .none kV_one_bottom dc_one_bottom pm_one_bottom an_one_bottom cd_one_bottom ct_one_bottom,f_remainder_back,PySem.W.fnOf "remainder_back" "remainder_back" (defArgs s_remainder_back) (defBody s_remainder_back) (defScope s_remainder_back) .none kV_remainder_back dc_remainder_back pm_remainder_back an_remainder_back cd_remainder_back ct_remainder_back,f_remainder_over,PySem.W.fnOf "remainder_over" "remainder_over" (defArgs s_remainder_over) (defBody s_remainder_over) (defScope s_remainder_over) .none kV_remainder_over dc_remainder_over pm_remainder_over an_remainder_over cd_remainder_over ct_remainder_over,f_is_fractions,PySem.W.fnOf "is_fractions" "is_fractions" (defArgs s_is_fractions) (defBody s_is_fractions) (defScope s_is_fractions) .none kV_is_fractions dc_is_fractions pm_is_fractions an_is_fractions cd_is_fractions ct_is_fractions,f_is_wheel,PySem.W.fnOf "is_wheel" "is_wheel" (defArgs s_is_wheel) (defBody s_is_wheel) (defScope s_is_wheel) .none kV_is_wheel dc_is_wheel pm_is_wheel an_is_wheel cd_is_wheel ct_is_wheel,f_width,PySem.W.fnOf "width" "width" (defArgs s_width) (defBody s_width) (defScope s_width) .none kV_width dc_width pm_width an_width cd_width ct_width,f_square_size,PySem.W.fnOf "square_size" "square_size" (defArgs s_square_size) (defBody s_square_size) (defScope s_square_size) .none kV_square_size dc_square_size pm_square_size an_square_size cd_square_size ct_square_size,f_check_aim,PySem.W.fnOf "check_aim" "check_aim" (defArgs s_check_aim) (defBody s_check_aim) (defScope s_check_aim) .none kV_check_aim dc_check_aim pm_check_aim an_check_aim cd_check_aim ct_check_aim,f_column,PySem.W.fnOf "column" "column" (defArgs s_column) (defBody s_column) (defScope s_column) .none kV_column dc_column pm_column an_column cd_column ct_column,f_columns,PySem.W.fnOf "columns" "columns" (defArgs s_columns) (defBody s_columns) (defScope s_columns) .none kV_columns dc_columns pm_columns an_columns cd_columns ct_columns,f_one_table_row,PySem.W.fnOf "one_table_row" "one_table_row" (defArgs s_one_table_row) (defBody s_one_table_row) (defScope s_one_table_row) .none kV_one_table_row dc_one_table_row pm_one_table_row an_one_table_row cd_one_table_row ct_one_table_row,f_cleared,PySem.W.fnOf "cleared" "cleared" (defArgs s_cleared) (defBody s_cleared) (defScope s_cleared) .none kV_cleared dc_cleared pm_cleared an_cleared cd_cleared ct_cleared,f_first_filled,PySem.W.fnOf "first_filled" "first_filled" (defArgs s_first_filled) (defBody s_first_filled) (defScope s_first_filled) .none kV_first_filled dc_first_filled pm_first_filled an_first_filled cd_first_filled ct_first_filled,f_swapped,PySem.W.fnOf "swapped" "swapped" (defArgs s_swapped) (defBody s_swapped) (defScope s_swapped) .none kV_swapped dc_swapped pm_swapped an_swapped cd_swapped ct_swapped,f_row_over,PySem.W.fnOf "row_over" "row_over" (defArgs s_row_over) (defBody s_row_over) (defScope s_row_over) .none kV_row_over dc_row_over pm_row_over an_row_over cd_row_over ct_row_over,f_reduced,PySem.W.fnOf "reduced" "reduced" (defArgs s_reduced) (defBody s_reduced) (defScope s_reduced) .none kV_reduced dc_reduced pm_reduced an_reduced cd_reduced ct_reduced,f_beside,PySem.W.fnOf "beside" "beside" (defArgs s_beside) (defBody s_beside) (defScope s_beside) .none kV_beside dc_beside pm_beside an_beside cd_beside ct_beside,f_move_of,PySem.W.fnOf "move_of" "move_of" (defArgs s_move_of) (defBody s_move_of) (defScope s_move_of) .none kV_move_of dc_move_of pm_move_of an_move_of cd_move_of ct_move_of,f_back_times,PySem.W.fnOf "back_times" "back_times" (defArgs s_back_times) (defBody s_back_times) (defScope s_back_times) .none kV_back_times dc_back_times pm_back_times an_back_times cd_back_times ct_back_times,f_some_move,PySem.W.fnOf "some_move" "some_move" (defArgs s_some_move) (defBody s_some_move) (defScope s_some_move) .none kV_some_move dc_some_move pm_some_move an_some_move cd_some_move ct_some_move,f_check_sizes,PySem.W.fnOf "check_sizes" "check_sizes" (defArgs s_check_sizes) (defBody s_check_sizes) (defScope s_check_sizes) .none kV_check_sizes dc_check_sizes pm_check_sizes an_check_sizes cd_check_sizes ct_check_sizes,f_twofold_row,PySem.W.fnOf "twofold_row" "twofold_row" (defArgs s_twofold_row) (defBody s_twofold_row) (defScope s_twofold_row) .none kV_twofold_row dc_twofold_row pm_twofold_row an_twofold_row cd_twofold_row ct_twofold_row,f_joined,PySem.W.fnOf "joined" "joined" (defArgs s_joined) (defBody s_joined) (defScope s_joined) .none kV_joined dc_joined pm_joined an_joined cd_joined ct_joined,f_twofold_undone,PySem.W.fnOf "twofold_undone" "twofold_undone" (defArgs s_twofold_undone) (defBody s_twofold_undone) (defScope s_twofold_undone) .none kV_twofold_undone dc_twofold_undone pm_twofold_undone an_twofold_undone cd_twofold_undone ct_twofold_undone,f_b_draw,PySem.W.fnOf "_law_b_draw" "_law_b_draw" (defArgs s_b_draw) (defBody s_b_draw) (defScope s_b_draw) .none kV_b_draw dc_b_draw pm_b_draw an_b_draw cd_b_draw ct_b_draw,f_b_low,PySem.W.fnOf "_law_b_low" "_law_b_low" (defArgs s_b_low) (defBody s_b_low) (defScope s_b_low) .none kV_b_low dc_b_low pm_b_low an_b_low cd_b_low ct_b_low,f_b_prime,PySem.W.fnOf "_law_b_prime" "_law_b_prime" (defArgs s_b_prime) (defBody s_b_prime) (defScope s_b_prime) .none kV_b_prime dc_b_prime pm_b_prime an_b_prime cd_b_prime ct_b_prime,f_b_wheel,PySem.W.fnOf "_law_b_wheel" "_law_b_wheel" (defArgs s_b_wheel) (defBody s_b_wheel) (defScope s_b_wheel) .none kV_b_wheel dc_b_wheel pm_b_wheel an_b_wheel cd_b_wheel ct_b_wheel,f_b_world,PySem.W.fnOf "_law_b_world" "_law_b_world" (defArgs s_b_world) (defBody s_b_world) (defScope s_b_world) .none kV_b_world dc_b_world pm_b_world an_b_world cd_b_world ct_b_world,f_b_number,PySem.W.fnOf "_law_b_number" "_law_b_number" (defArgs s_b_number) (defBody s_b_number) (defScope s_b_number) .none kV_b_number dc_b_number pm_b_number an_b_number cd_b_number ct_b_number,f_b_table,PySem.W.fnOf "_law_b_table" "_law_b_table" (defArgs s_b_table) (defBody s_b_table) (defScope s_b_table) .none kV_b_table dc_b_table pm_b_table an_b_table cd_b_table ct_b_table,f_b_refused,PySem.W.fnOf "_law_b_refused" "_law_b_refused" (defArgs s_b_refused) (defBody s_b_refused) (defScope s_b_refused) .none kV_b_refused dc_b_refused pm_b_refused an_b_refused cd_b_refused ct_b_refused,f_b_bent,PySem.W.fnOf "_law_b_bent" "_law_b_bent" (defArgs s_b_bent) (defBody s_b_bent) (defScope s_b_bent) .none kV_b_bent dc_b_bent pm_b_bent an_b_bent cd_b_bent ct_b_bent,f_law,PySem.W.fnOf "law" "law" (defArgs s_law) (defBody s_law) (defScope s_law) .none kV_law dc_law pm_law an_law cd_law ct_law,f_World___init__,PySem.W.fnOf "__init__" "World.__init__" (defArgs s_World___init__) (defBody s_World___init__) (defScope s_World___init__) .none kV_World___init__ dc_World___init__ pm_World___init__ an_World___init__ cd_World___init__ ct_World___init__,f_World_of,PySem.W.fnOf "of" "World.of" (defArgs s_World_of) (defBody s_World_of) (defScope s_World_of) (.ref dT_World_of) kV_World_of dc_World_of pm_World_of an_World_of cd_World_of ct_World_of,f_World_minus,PySem.W.fnOf "minus" "World.minus" (defArgs s_World_minus) (defBody s_World_minus) (defScope s_World_minus) .none kV_World_minus dc_World_minus pm_World_minus an_World_minus cd_World_minus ct_World_minus,f_World_times,PySem.W.fnOf "times" "World.times" (defArgs s_World_times) (defBody s_World_times) (defScope s_World_times) .none kV_World_times dc_World_times pm_World_times an_World_times cd_World_times ct_World_times,f_World_as_wholes,PySem.W.fnOf "as_wholes" "World.as_wholes" (defArgs s_World_as_wholes) (defBody s_World_as_wholes) (defScope s_World_as_wholes) .none kV_World_as_wholes dc_World_as_wholes pm_World_as_wholes an_World_as_wholes cd_World_as_wholes ct_World_as_wholes,C_World,C_NoWorld,C_NoOver,C_WrightError,C_NoFit,C_NoShape,C_NoOrder,C_NoSize,C_NoLink,C_Tied⟩,?_⟩
  exact {
    F_is_whole:=fun_mk (st:=s_is_whole) l_is_whole c_is_whole k_is_whole
    b_is_whole:=(fun_mk (st:=s_is_whole) l_is_whole c_is_whole k_is_whole).binds (ps:=["thing"]) fun _ _ _ _ _ _ us hl=>match us,hl with | [_],_=>rfl
    mg_is_whole:=PySem.W.mg_of X G a_is_whole
    F_common_divisor:=fun_mk (st:=s_common_divisor) l_common_divisor c_common_divisor k_common_divisor
    b_common_divisor:=(fun_mk (st:=s_common_divisor) l_common_divisor c_common_divisor k_common_divisor).binds (ps:=["one","other"]) fun _ _ _ _ _ _ us hl=>match us,hl with | [_,_],_=>rfl
    mg_common_divisor:=PySem.W.mg_of X G a_common_divisor
    F_is_prime:=fun_mk (st:=s_is_prime) l_is_prime c_is_prime k_is_prime
    b_is_prime:=(fun_mk (st:=s_is_prime) l_is_prime c_is_prime k_is_prime).binds (ps:=["number"]) fun _ _ _ _ _ _ us hl=>match us,hl with | [_],_=>rfl
    mg_is_prime:=PySem.W.mg_of X G a_is_prime
    F_ratio:=fun_mk (st:=s_ratio) l_ratio c_ratio k_ratio
    b_ratio:=(fun_mk (st:=s_ratio) l_ratio c_ratio k_ratio).binds (ps:=["top","bottom"]) fun _ _ _ _ _ _ us hl=>match us,hl with | [_,_],_=>rfl
    mg_ratio:=PySem.W.mg_of X G a_ratio
    F_ratio_plus:=fun_mk (st:=s_ratio_plus) l_ratio_plus c_ratio_plus k_ratio_plus
    b_ratio_plus:=(fun_mk (st:=s_ratio_plus) l_ratio_plus c_ratio_plus k_ratio_plus).binds (ps:=["a","b"]) fun _ _ _ _ _ _ us hl=>match us,hl with | [_,_],_=>rfl
    mg_ratio_plus:=PySem.W.mg_of X G a_ratio_plus
    F_ratio_minus:=fun_mk (st:=s_ratio_minus) l_ratio_minus c_ratio_minus k_ratio_minus
    b_ratio_minus:=(fun_mk (st:=s_ratio_minus) l_ratio_minus c_ratio_minus k_ratio_minus).binds (ps:=["a","b"]) fun _ _ _ _ _ _ us hl=>match us,hl with | [_,_],_=>rfl
    mg_ratio_minus:=PySem.W.mg_of X G a_ratio_minus
    F_ratio_times:=fun_mk (st:=s_ratio_times) l_ratio_times c_ratio_times k_ratio_times
    b_ratio_times:=(fun_mk (st:=s_ratio_times) l_ratio_times c_ratio_times k_ratio_times).binds (ps:=["a","b"]) fun _ _ _ _ _ _ us hl=>match us,hl with | [_,_],_=>rfl
    mg_ratio_times:=PySem.W.mg_of X G a_ratio_times
    F_one_bottom:=fun_mk (st:=s_one_bottom) l_one_bottom c_one_bottom k_one_bottom
    b_one_bottom:=(fun_mk (st:=s_one_bottom) l_one_bottom c_one_bottom k_one_bottom).binds (ps:=["row"]) fun _ _ _ _ _ _ us hl=>match us,hl with | [_],_=>rfl
    mg_one_bottom:=PySem.W.mg_of X G a_one_bottom
    F_remainder_back:=fun_mk (st:=s_remainder_back) l_remainder_back c_remainder_back k_remainder_back
    b_remainder_back:=(fun_mk (st:=s_remainder_back) l_remainder_back c_remainder_back k_remainder_back).binds (ps:=["prime","number"]) fun _ _ _ _ _ _ us hl=>match us,hl with | [_,_],_=>rfl
    mg_remainder_back:=PySem.W.mg_of X G a_remainder_back
    F_remainder_over:=fun_mk (st:=s_remainder_over) l_remainder_over c_remainder_over k_remainder_over
    b_remainder_over:=(fun_mk (st:=s_remainder_over) l_remainder_over c_remainder_over k_remainder_over).binds (ps:=["prime","a","b"]) fun _ _ _ _ _ _ us hl=>match us,hl with | [_,_,_],_=>rfl
    mg_remainder_over:=PySem.W.mg_of X G a_remainder_over
    F_is_fractions:=fun_mk (st:=s_is_fractions) l_is_fractions c_is_fractions k_is_fractions
    b_is_fractions:=(fun_mk (st:=s_is_fractions) l_is_fractions c_is_fractions k_is_fractions).binds (ps:=["told"]) fun _ _ _ _ _ _ us hl=>match us,hl with | [_],_=>rfl
    mg_is_fractions:=PySem.W.mg_of X G a_is_fractions
    F_is_wheel:=fun_mk (st:=s_is_wheel) l_is_wheel c_is_wheel k_is_wheel
    b_is_wheel:=(fun_mk (st:=s_is_wheel) l_is_wheel c_is_wheel k_is_wheel).binds (ps:=["told"]) fun _ _ _ _ _ _ us hl=>match us,hl with | [_],_=>rfl
    mg_is_wheel:=PySem.W.mg_of X G a_is_wheel
    F_width:=fun_mk (st:=s_width) l_width c_width k_width
    b_width:=(fun_mk (st:=s_width) l_width c_width k_width).binds (ps:=["table"]) fun _ _ _ _ _ _ us hl=>match us,hl with | [_],_=>rfl
    mg_width:=PySem.W.mg_of X G a_width
    F_square_size:=fun_mk (st:=s_square_size) l_square_size c_square_size k_square_size
    b_square_size:=(fun_mk (st:=s_square_size) l_square_size c_square_size k_square_size).binds (ps:=["table"]) fun _ _ _ _ _ _ us hl=>match us,hl with | [_],_=>rfl
    mg_square_size:=PySem.W.mg_of X G a_square_size
    F_check_aim:=fun_mk (st:=s_check_aim) l_check_aim c_check_aim k_check_aim
    b_check_aim:=(fun_mk (st:=s_check_aim) l_check_aim c_check_aim k_check_aim).binds (ps:=["n","aim"]) fun _ _ _ _ _ _ us hl=>match us,hl with | [_,_],_=>rfl
    mg_check_aim:=PySem.W.mg_of X G a_check_aim
    F_column:=fun_mk (st:=s_column) l_column c_column k_column
    b_column:=(fun_mk (st:=s_column) l_column c_column k_column).binds (ps:=["table","place"]) fun _ _ _ _ _ _ us hl=>match us,hl with | [_,_],_=>rfl
    mg_column:=PySem.W.mg_of X G a_column
    F_columns:=fun_mk (st:=s_columns) l_columns c_columns k_columns
    b_columns:=(fun_mk (st:=s_columns) l_columns c_columns k_columns).binds (ps:=["table"]) fun _ _ _ _ _ _ us hl=>match us,hl with | [_],_=>rfl
    mg_columns:=PySem.W.mg_of X G a_columns
    F_one_table_row:=fun_mk (st:=s_one_table_row) l_one_table_row c_one_table_row k_one_table_row
    b_one_table_row:=(fun_mk (st:=s_one_table_row) l_one_table_row c_one_table_row k_one_table_row).binds (ps:=["world","n","place"]) fun _ _ _ _ _ _ us hl=>match us,hl with | [_,_,_],_=>rfl
    mg_one_table_row:=PySem.W.mg_of X G a_one_table_row
    F_cleared:=fun_mk (st:=s_cleared) l_cleared c_cleared k_cleared
    b_cleared:=(fun_mk (st:=s_cleared) l_cleared c_cleared k_cleared).binds (ps:=["world","row","head","lead","last"]) fun _ _ _ _ _ _ us hl=>match us,hl with | [_,_,_,_,_],_=>rfl
    mg_cleared:=PySem.W.mg_of X G a_cleared
    F_first_filled:=fun_mk (st:=s_first_filled) l_first_filled c_first_filled k_first_filled
    b_first_filled:=(fun_mk (st:=s_first_filled) l_first_filled c_first_filled k_first_filled).binds (ps:=["rows","start","lead"]) fun _ _ _ _ _ _ us hl=>match us,hl with | [_,_,_],_=>rfl
    mg_first_filled:=PySem.W.mg_of X G a_first_filled
    F_swapped:=fun_mk (st:=s_swapped) l_swapped c_swapped k_swapped
    b_swapped:=(fun_mk (st:=s_swapped) l_swapped c_swapped k_swapped).binds (ps:=["rows","one","other"]) fun _ _ _ _ _ _ us hl=>match us,hl with | [_,_,_],_=>rfl
    mg_swapped:=PySem.W.mg_of X G a_swapped
    F_row_over:=fun_mk (st:=s_row_over) l_row_over c_row_over k_row_over
    b_row_over:=(fun_mk (st:=s_row_over) l_row_over c_row_over k_row_over).binds (ps:=["world","row","lead"]) fun _ _ _ _ _ _ us hl=>match us,hl with | [_,_,_],_=>rfl
    mg_row_over:=PySem.W.mg_of X G a_row_over
    F_reduced:=fun_mk (st:=s_reduced) l_reduced c_reduced k_reduced
    b_reduced:=(fun_mk (st:=s_reduced) l_reduced c_reduced k_reduced).binds (ps:=["world","table"]) fun _ _ _ _ _ _ us hl=>match us,hl with | [_,_],_=>rfl
    mg_reduced:=PySem.W.mg_of X G a_reduced
    F_beside:=fun_mk (st:=s_beside) l_beside c_beside k_beside
    b_beside:=(fun_mk (st:=s_beside) l_beside c_beside k_beside).binds (ps:=["table","other"]) fun _ _ _ _ _ _ us hl=>match us,hl with | [_,_],_=>rfl
    mg_beside:=PySem.W.mg_of X G a_beside
    F_move_of:=fun_mk (st:=s_move_of) l_move_of c_move_of k_move_of
    b_move_of:=(fun_mk (st:=s_move_of) l_move_of c_move_of k_move_of).binds (ps:=["world","rows","leads","wide","free"]) fun _ _ _ _ _ _ us hl=>match us,hl with | [_,_,_,_,_],_=>rfl
    mg_move_of:=PySem.W.mg_of X G a_move_of
    F_back_times:=fun_mk (st:=s_back_times) l_back_times c_back_times k_back_times
    b_back_times:=(fun_mk (st:=s_back_times) l_back_times c_back_times k_back_times).binds (ps:=["world","table","other"]) fun _ _ _ _ _ _ us hl=>match us,hl with | [_,_,_],_=>rfl
    mg_back_times:=PySem.W.mg_of X G a_back_times
    F_some_move:=fun_mk (st:=s_some_move) l_some_move c_some_move k_some_move
    b_some_move:=(fun_mk (st:=s_some_move) l_some_move c_some_move k_some_move).binds (ps:=["world","table"]) fun _ _ _ _ _ _ us hl=>match us,hl with | [_,_],_=>rfl
    mg_some_move:=PySem.W.mg_of X G a_some_move
    F_check_sizes:=fun_mk (st:=s_check_sizes) l_check_sizes c_check_sizes k_check_sizes
    b_check_sizes:=(fun_mk (st:=s_check_sizes) l_check_sizes c_check_sizes k_check_sizes).binds (ps:=["one","other"]) fun _ _ _ _ _ _ us hl=>match us,hl with | [_,_],_=>rfl
    mg_check_sizes:=PySem.W.mg_of X G a_check_sizes
    F_twofold_row:=fun_mk (st:=s_twofold_row) l_twofold_row c_twofold_row k_twofold_row
    b_twofold_row:=(fun_mk (st:=s_twofold_row) l_twofold_row c_twofold_row k_twofold_row).binds (ps:=["world","row","more"]) fun _ _ _ _ _ _ us hl=>match us,hl with | [_,_,_],_=>rfl
    mg_twofold_row:=PySem.W.mg_of X G a_twofold_row
    F_joined:=fun_mk (st:=s_joined) l_joined c_joined k_joined
    b_joined:=(fun_mk (st:=s_joined) l_joined c_joined k_joined).binds (ps:=["rows"]) fun _ _ _ _ _ _ us hl=>match us,hl with | [_],_=>rfl
    mg_joined:=PySem.W.mg_of X G a_joined
    F_twofold_undone:=fun_mk (st:=s_twofold_undone) l_twofold_undone c_twofold_undone k_twofold_undone
    b_twofold_undone:=(fun_mk (st:=s_twofold_undone) l_twofold_undone c_twofold_undone k_twofold_undone).binds (ps:=["world","one","other","aim"]) fun _ _ _ _ _ _ us hl=>match us,hl with | [_,_,_,_],_=>rfl
    mg_twofold_undone:=PySem.W.mg_of X G a_twofold_undone
    F_b_draw:=fun_mk (st:=s_b_draw) l_b_draw c_b_draw k_b_draw
    b_b_draw:=(fun_mk (st:=s_b_draw) l_b_draw c_b_draw k_b_draw).binds (ps:=["script","k"]) fun _ _ _ _ _ _ us hl=>match us,hl with | [_,_],_=>rfl
    mg_b_draw:=PySem.W.mg_of X G a_b_draw
    F_b_low:=fun_mk (st:=s_b_low) l_b_low c_b_low k_b_low
    b_b_low:=(fun_mk (st:=s_b_low) l_b_low c_b_low k_b_low).binds (ps:=["top","bottom"]) fun _ _ _ _ _ _ us hl=>match us,hl with | [_,_],_=>rfl
    mg_b_low:=PySem.W.mg_of X G a_b_low
    F_b_prime:=fun_mk (st:=s_b_prime) l_b_prime c_b_prime k_b_prime
    b_b_prime:=(fun_mk (st:=s_b_prime) l_b_prime c_b_prime k_b_prime).binds (ps:=["cell"]) fun _ _ _ _ _ _ us hl=>match us,hl with | [_],_=>rfl
    mg_b_prime:=PySem.W.mg_of X G a_b_prime
    F_b_wheel:=fun_mk (st:=s_b_wheel) l_b_wheel c_b_wheel k_b_wheel
    b_b_wheel:=(fun_mk (st:=s_b_wheel) l_b_wheel c_b_wheel k_b_wheel).binds (ps:=["draw"]) fun _ _ _ _ _ _ us hl=>match us,hl with | [_],_=>rfl
    mg_b_wheel:=PySem.W.mg_of X G a_b_wheel
    F_b_world:=fun_mk (st:=s_b_world) l_b_world c_b_world k_b_world
    b_b_world:=(fun_mk (st:=s_b_world) l_b_world c_b_world k_b_world).binds (ps:=["p"]) fun _ _ _ _ _ _ us hl=>match us,hl with | [_],_=>rfl
    mg_b_world:=PySem.W.mg_of X G a_b_world
    F_b_number:=fun_mk (st:=s_b_number) l_b_number c_b_number k_b_number
    b_b_number:=(fun_mk (st:=s_b_number) l_b_number c_b_number k_b_number).binds (ps:=["p","draw"]) fun _ _ _ _ _ _ us hl=>match us,hl with | [_,_],_=>rfl
    mg_b_number:=PySem.W.mg_of X G a_b_number
    F_b_table:=fun_mk (st:=s_b_table) l_b_table c_b_table k_b_table
    b_b_table:=(fun_mk (st:=s_b_table) l_b_table c_b_table k_b_table).binds (ps:=["script","p","n","m","at"]) fun _ _ _ _ _ _ us hl=>match us,hl with | [_,_,_,_,_],_=>rfl
    mg_b_table:=PySem.W.mg_of X G a_b_table
    F_b_refused:=fun_mk (st:=s_b_refused) l_b_refused c_b_refused k_b_refused
    b_b_refused:=(fun_mk (st:=s_b_refused) l_b_refused c_b_refused k_b_refused).binds (ps:=["world","one","other","aim"]) fun _ _ _ _ _ _ us hl=>match us,hl with | [_,_,_,_],_=>rfl
    mg_b_refused:=PySem.W.mg_of X G a_b_refused
    F_b_bent:=fun_mk (st:=s_b_bent) l_b_bent c_b_bent k_b_bent
    b_b_bent:=(fun_mk (st:=s_b_bent) l_b_bent c_b_bent k_b_bent).binds (ps:=["table","draw"]) fun _ _ _ _ _ _ us hl=>match us,hl with | [_,_],_=>rfl
    mg_b_bent:=PySem.W.mg_of X G a_b_bent
    F_law:=fun_mk (st:=s_law) l_law c_law k_law
    b_law:=(fun_mk (st:=s_law) l_law c_law k_law).binds (ps:=["script"]) fun _ _ _ _ _ _ us hl=>match us,hl with | [_],_=>rfl
    mg_law:=PySem.W.mg_of X G a_law
    F_World___init__:=fun_mk (st:=s_World___init__) l_World___init__ c_World___init__ k_World___init__
    b_World___init__:=(fun_mk (st:=s_World___init__) l_World___init__ c_World___init__ k_World___init__).binds (ps:=["self","told"]) fun _ _ _ _ _ _ us hl=>match us,hl with | [_,_],_=>rfl
    M_World:=⟨mk_World,a_World___init__,i_World___init__,kc_World⟩
    F_World_of:=(fund_mk (st:=s_World_of) (i:=1) l_World_of c_World_of k_World_of ld_World_of)
    b_World_of:=FunD.binds (ps:=["self","top","bottom"]) (fund_mk (st:=s_World_of) (i:=1) l_World_of c_World_of k_World_of ld_World_of) fun s dT kV doc pm an cdv ct tk o n us ho hd hl=>match us,hl with | [_,_,_],_=>.of_defaults rfl ho hd rfl rfl
    b1_World_of:=FunD.binds1 (ps:=["self","top","bottom"]) (fund_mk (st:=s_World_of) (i:=1) l_World_of c_World_of k_World_of ld_World_of) fun s dT kV doc pm an cdv ct tk o n us ho hd hl=>match us,hl with | [_,_],_=>.of_defaults rfl ho hd rfl rfl
    bk_World_of:=FunD.bindsK (ps:=["self","top","bottom"]) (y:="bottom") (fund_mk (st:=s_World_of) (i:=1) l_World_of c_World_of k_World_of ld_World_of) fun s dT kV doc pm an cdv ct tk o n us ws ho hd hw hl=>match ws,us,hw,hl with | [_],[_,_],_,_=>.of_defaults rfl ho hd rfl rfl
    m_World_of:=⟨a_World_of,i_World_of,k_World_of⟩
    F_World_minus:=fun_mk (st:=s_World_minus) l_World_minus c_World_minus k_World_minus
    b_World_minus:=(fun_mk (st:=s_World_minus) l_World_minus c_World_minus k_World_minus).binds (ps:=["self","a","b"]) fun _ _ _ _ _ _ us hl=>match us,hl with | [_,_,_],_=>rfl
    m_World_minus:=⟨a_World_minus,i_World_minus,k_World_minus⟩
    F_World_times:=fun_mk (st:=s_World_times) l_World_times c_World_times k_World_times
    b_World_times:=(fun_mk (st:=s_World_times) l_World_times c_World_times k_World_times).binds (ps:=["self","a","b"]) fun _ _ _ _ _ _ us hl=>match us,hl with | [_,_,_],_=>rfl
    m_World_times:=⟨a_World_times,i_World_times,k_World_times⟩
    F_World_as_wholes:=fun_mk (st:=s_World_as_wholes) l_World_as_wholes c_World_as_wholes k_World_as_wholes
    b_World_as_wholes:=(fun_mk (st:=s_World_as_wholes) l_World_as_wholes c_World_as_wholes k_World_as_wholes).binds (ps:=["self","row"]) fun _ _ _ _ _ _ us hl=>match us,hl with | [_,_],_=>rfl
    m_World_as_wholes:=⟨a_World_as_wholes,i_World_as_wholes,k_World_as_wholes⟩
    cl_World:=⟨pg_World,hd_World,po_World,sa_World⟩
    mg_World:=PySem.W.mg_of X G aC_World
    na_World_prime:=n_World_prime
    mg_NoWorld:=PySem.W.mg_of X G aC_NoWorld
    mg_NoOver:=PySem.W.mg_of X G aC_NoOver
    mg_WrightError:=PySem.W.mg_of X G aC_WrightError
    mg_NoFit:=PySem.W.mg_of X G aC_NoFit
    mg_NoShape:=PySem.W.mg_of X G aC_NoShape
    mg_NoOrder:=PySem.W.mg_of X G aC_NoOrder
    mg_NoSize:=PySem.W.mg_of X G aC_NoSize
    mg_NoLink:=PySem.W.mg_of X G aC_NoLink
    mg_Tied:=PySem.W.mg_of X G aC_Tied
    n_len:=PySem.W.mg_none_of X G z_len
    n_isinstance:=PySem.W.mg_none_of X G z_isinstance
    n_int:=PySem.W.mg_none_of X G z_int
    n_bool:=PySem.W.mg_none_of X G z_bool
    n_tuple:=PySem.W.mg_none_of X G z_tuple
    n_list:=PySem.W.mg_none_of X G z_list
    n_range:=PySem.W.mg_none_of X G z_range
    n_abs:=PySem.W.mg_none_of X G z_abs
    n_all:=PySem.W.mg_none_of X G z_all
    n_any:=PySem.W.mg_none_of X G z_any
    n_sum:=PySem.W.mg_none_of X G z_sum
    n_zip:=PySem.W.mg_none_of X G z_zip
    n_ValueError:=PySem.W.mg_none_of X G z_ValueError
    mg_GREATEST_PRIME:=⟨_,PySem.W.mg_of X G a_GREATEST_PRIME,_,rfl⟩
    mg_LONG:=⟨_,PySem.W.mg_of X G a_LONG,_,rfl⟩
    mg_MOST:=⟨_,PySem.W.mg_of X G a_MOST,_,rfl⟩
    x_NoWorld:=e_x_NoWorld
    x_NoOver:=e_x_NoOver
    x_NoFit:=e_x_NoFit
    x_WrightError:=e_x_WrightError
    m_NF_NF:=e_m_NF_NF
    m_NF_WE:=e_m_NF_WE
    k_VE:=e_k_VE
    k_NF:=e_k_NF
    k_NoWorld:=e_k_NoWorld
    k_NoOver:=e_k_NoOver
    k_NoShape:=e_k_NoShape
    k_NoOrder:=e_k_NoOrder
    k_NoSize:=e_k_NoSize
    k_NoLink:=e_k_NoLink
    k_Tied:=e_k_Tied
    cx1:=e_cx1
    cx2:=e_cx2
    cx3:=e_cx3
    cx4:=e_cx4
    cx5:=e_cx5
    cx6:=e_cx6
  }
end My
def PySem.W.Fast.tw15686833910420794076:Unit:=()
def PySem.W.Fast.tw2154950258189816200:Unit:=()
def PySem.W.Fast.tw8789231510690722855:Unit:=()
def PySem.W.Fast.tw17924725407281215788:Unit:=()
def PySem.W.Fast.tw14426535377691824705:Unit:=()
def PySem.W.Fast.tw7916518431698428977:Unit:=()
def PySem.W.Fast.tw11083055421590844798:Unit:=()
def PySem.W.Fast.tw1392421796562974898:Unit:=()
def PySem.W.Fast.tw14756386924990245254:Unit:=()
def PySem.W.Fast.tw558011550476055858:Unit:=()
def PySem.W.Fast.tw11491736423113583230:Unit:=()
def PySem.W.Fast.tw2829729588791711020:Unit:=()
def PySem.W.Fast.tw10973540156402308986:Unit:=()
def PySem.W.Fast.tw11046872058131377206:Unit:=()
def PySem.W.Fast.tw12471916262562433916:Unit:=()
def PySem.W.Fast.tw8099736406103646694:Unit:=()
def PySem.W.Fast.tw5498655993358559923:Unit:=()
def PySem.W.Fast.tw2242944731409553289:Unit:=()
def PySem.W.Fast.tw6161877140681707800:Unit:=()
def PySem.W.Fast.tw16386145364998253780:Unit:=()
def PySem.W.Fast.tw4912582918680540989:Unit:=()
def PySem.W.Fast.tw4848472545918465971:Unit:=()
def PySem.W.Fast.tw14128172782452540988:Unit:=()
def PySem.W.Fast.tw15237913745494696295:Unit:=()
def PySem.W.Fast.tw18010525886153190093:Unit:=()
def PySem.W.Fast.tw1986809118181763825:Unit:=()
def PySem.W.Fast.tw2618277894461184504:Unit:=()
def PySem.W.Fast.tw14964843627830366923:Unit:=()
def PySem.W.Fast.tw5646916829077847811:Unit:=()
def PySem.W.Fast.tw13319655079667964592:Unit:=()
def PySem.W.Fast.tw17321933659136756099:Unit:=()
def PySem.W.Fast.tw13145941813662079401:Unit:=()
def PySem.W.Fast.tw11264820200779803152:Unit:=()
def PySem.W.Fast.tw8959783081022389048:Unit:=()
def PySem.W.Fast.tw1888365712700134559:Unit:=()
def PySem.W.Fast.tw4688445300914418514:Unit:=()
open PySem PySem.W PyProof.Rows
set_option maxRecDepth 100000 in
set_option maxHeartbeats 0 in
theorem PySem.Challenge.cw_bandwright_k69_twofold_refused_holds : PySem.Challenge.rw_bandwright_k69_twofold_refused.Holds := by
  w_on; o_law; k_head; (case hw=>w_witness2)
  k_fill
  refine My.walk (l:=PySem.Challenge.rw_bandwright_k69_twofold_refused) rfl rfl (fun w h Y=>PySem.W.kIn_of Y) ?F
  case F=>
    intro w mg fa h KX G hmg
    have T:∃ t,My.Txt (L2.KOf KX) mg t:=by
      dsimp only [L2.KOf]
      refine' My.txt_mk KX G ?aC_World ?aC_NoWorld ?aC_NoOver ?aC_WrightError ?aC_NoFit ?aC_NoShape ?aC_NoOrder ?aC_NoSize ?aC_NoLink ?aC_Tied ?a_is_whole ?l_is_whole ?c_is_whole ?k_is_whole ?a_common_divisor ?l_common_divisor ?c_common_divisor ?k_common_divisor ?a_is_prime ?l_is_prime ?c_is_prime ?k_is_prime ?a_ratio ?l_ratio ?c_ratio ?k_ratio ?a_ratio_plus ?l_ratio_plus ?c_ratio_plus ?k_ratio_plus ?a_ratio_minus ?l_ratio_minus ?c_ratio_minus ?k_ratio_minus ?a_ratio_times ?l_ratio_times ?c_ratio_times ?k_ratio_times ?a_one_bottom ?l_one_bottom ?c_one_bottom ?k_one_bottom ?a_remainder_back ?l_remainder_back ?c_remainder_back ?k_remainder_back ?a_remainder_over ?l_remainder_over ?c_remainder_over ?k_remainder_over ?a_is_fractions ?l_is_fractions ?c_is_fractions ?k_is_fractions ?a_is_wheel ?l_is_wheel ?c_is_wheel ?k_is_wheel ?a_width ?l_width ?c_width ?k_width ?a_square_size ?l_square_size ?c_square_size ?k_square_size ?a_check_aim ?l_check_aim ?c_check_aim ?k_check_aim ?a_column ?l_column ?c_column ?k_column ?a_columns ?l_columns ?c_columns ?k_columns ?a_one_table_row ?l_one_table_row ?c_one_table_row ?k_one_table_row ?a_cleared ?l_cleared ?c_cleared ?k_cleared ?a_first_filled ?l_first_filled ?c_first_filled ?k_first_filled ?a_swapped ?l_swapped ?c_swapped ?k_swapped ?a_row_over ?l_row_over ?c_row_over ?k_row_over ?a_reduced ?l_reduced ?c_reduced ?k_reduced ?a_beside ?l_beside ?c_beside ?k_beside ?a_move_of ?l_move_of ?c_move_of ?k_move_of ?a_back_times ?l_back_times ?c_back_times ?k_back_times ?a_some_move ?l_some_move ?c_some_move ?k_some_move ?a_check_sizes ?l_check_sizes ?c_check_sizes ?k_check_sizes ?a_twofold_row ?l_twofold_row ?c_twofold_row ?k_twofold_row ?a_joined ?l_joined ?c_joined ?k_joined ?a_twofold_undone ?l_twofold_undone ?c_twofold_undone ?k_twofold_undone ?a_b_draw ?l_b_draw ?c_b_draw ?k_b_draw ?a_b_low ?l_b_low ?c_b_low ?k_b_low ?a_b_prime ?l_b_prime ?c_b_prime ?k_b_prime ?a_b_wheel ?l_b_wheel ?c_b_wheel ?k_b_wheel ?a_b_world ?l_b_world ?c_b_world ?k_b_world ?a_b_number ?l_b_number ?c_b_number ?k_b_number ?a_b_table ?l_b_table ?c_b_table ?k_b_table ?a_b_refused ?l_b_refused ?c_b_refused ?k_b_refused ?a_b_bent ?l_b_bent ?c_b_bent ?k_b_bent ?a_law ?l_law ?c_law ?k_law ?a_World___init__ ?i_World___init__ ?l_World___init__ ?c_World___init__ ?k_World___init__ ?a_World_of ?i_World_of ?l_World_of ?c_World_of ?k_World_of ?ld_World_of ?a_World_minus ?i_World_minus ?l_World_minus ?c_World_minus ?k_World_minus ?a_World_times ?i_World_times ?l_World_times ?c_World_times ?k_World_times ?a_World_as_wholes ?i_World_as_wholes ?l_World_as_wholes ?c_World_as_wholes ?k_World_as_wholes ?pg_World ?hd_World ?po_World ?sa_World ?mk_World ?kc_World ?n_World_prime ?z_len ?z_isinstance ?z_int ?z_bool ?z_tuple ?z_list ?z_range ?z_abs ?z_all ?z_any ?z_sum ?z_zip ?z_ValueError ?a_GREATEST_PRIME ?a_LONG ?a_MOST ?e_x_NoWorld ?e_x_NoOver ?e_x_NoFit ?e_x_WrightError ?e_m_NF_NF ?e_m_NF_WE ?e_k_VE ?e_k_NF ?e_k_NoWorld ?e_k_NoOver ?e_k_NoShape ?e_k_NoOrder ?e_k_NoSize ?e_k_NoLink ?e_k_Tied ?e_cx1 ?e_cx2 ?e_cx3 ?e_cx4 ?e_cx5 ?e_cx6
      (case aC_World=>k_is)
      (case aC_NoWorld=>k_is)
      (case aC_NoOver=>k_is)
      (case aC_WrightError=>k_is)
      (case aC_NoFit=>k_is)
      (case aC_NoShape=>k_is)
      (case aC_NoOrder=>k_is)
      (case aC_NoSize=>k_is)
      (case aC_NoLink=>k_is)
      (case aC_Tied=>k_is)
      (case a_is_whole=>k_is)
      (case l_is_whole=>k_is)
      (case c_is_whole=>k_is)
      (case k_is_whole=>k_is)
      (case a_common_divisor=>k_is)
      (case l_common_divisor=>k_is)
      (case c_common_divisor=>k_is)
      (case k_common_divisor=>k_is)
      (case a_is_prime=>k_is)
      (case l_is_prime=>k_is)
      (case c_is_prime=>k_is)
      (case k_is_prime=>k_is)
      (case a_ratio=>k_is)
      (case l_ratio=>k_is)
      (case c_ratio=>k_is)
      (case k_ratio=>k_is)
      (case a_ratio_plus=>k_is)
      (case l_ratio_plus=>k_is)
      (case c_ratio_plus=>k_is)
      (case k_ratio_plus=>k_is)
      (case a_ratio_minus=>k_is)
      (case l_ratio_minus=>k_is)
      (case c_ratio_minus=>k_is)
      (case k_ratio_minus=>k_is)
      (case a_ratio_times=>k_is)
      (case l_ratio_times=>k_is)
      (case c_ratio_times=>k_is)
      (case k_ratio_times=>k_is)
      (case a_one_bottom=>k_is)
      (case l_one_bottom=>k_is)
      (case c_one_bottom=>k_is)
      (case k_one_bottom=>k_is)
      (case a_remainder_back=>k_is)
      (case l_remainder_back=>k_is)
      (case c_remainder_back=>k_is)
      (case k_remainder_back=>k_is)
      (case a_remainder_over=>k_is)
      (case l_remainder_over=>k_is)
      (case c_remainder_over=>k_is)
      (case k_remainder_over=>k_is)
      (case a_is_fractions=>k_is)
      (case l_is_fractions=>k_is)
      (case c_is_fractions=>k_is)
      (case k_is_fractions=>k_is)
      (case a_is_wheel=>k_is)
      (case l_is_wheel=>k_is)
      (case c_is_wheel=>k_is)
      (case k_is_wheel=>k_is)
      (case a_width=>k_is)
      (case l_width=>k_is)
      (case c_width=>k_is)
      (case k_width=>k_is)
      (case a_square_size=>k_is)
      (case l_square_size=>k_is)
      (case c_square_size=>k_is)
      (case k_square_size=>k_is)
      (case a_check_aim=>k_is)
      (case l_check_aim=>k_is)
      (case c_check_aim=>k_is)
      (case k_check_aim=>k_is)
      (case a_column=>k_is)
      (case l_column=>k_is)
      (case c_column=>k_is)
      (case k_column=>k_is)
      (case a_columns=>k_is)
      (case l_columns=>k_is)
      (case c_columns=>k_is)
      (case k_columns=>k_is)
      (case a_one_table_row=>k_is)
      (case l_one_table_row=>k_is)
      (case c_one_table_row=>k_is)
      (case k_one_table_row=>k_is)
      (case a_cleared=>k_is)
      (case l_cleared=>k_is)
      (case c_cleared=>k_is)
      (case k_cleared=>k_is)
      (case a_first_filled=>k_is)
      (case l_first_filled=>k_is)
      (case c_first_filled=>k_is)
      (case k_first_filled=>k_is)
      (case a_swapped=>k_is)
      (case l_swapped=>k_is)
      (case c_swapped=>k_is)
      (case k_swapped=>k_is)
      (case a_row_over=>k_is)
      (case l_row_over=>k_is)
      (case c_row_over=>k_is)
      (case k_row_over=>k_is)
      (case a_reduced=>k_is)
      (case l_reduced=>k_is)
      (case c_reduced=>k_is)
      (case k_reduced=>k_is)
      (case a_beside=>k_is)
      (case l_beside=>k_is)
      (case c_beside=>k_is)
      (case k_beside=>k_is)
      (case a_move_of=>k_is)
      (case l_move_of=>k_is)
      (case c_move_of=>k_is)
      (case k_move_of=>k_is)
      (case a_back_times=>k_is)
      (case l_back_times=>k_is)
      (case c_back_times=>k_is)
      (case k_back_times=>k_is)
      (case a_some_move=>k_is)
      (case l_some_move=>k_is)
      (case c_some_move=>k_is)
      (case k_some_move=>k_is)
      (case a_check_sizes=>k_is)
      (case l_check_sizes=>k_is)
      (case c_check_sizes=>k_is)
      (case k_check_sizes=>k_is)
      (case a_twofold_row=>k_is)
      (case l_twofold_row=>k_is)
      (case c_twofold_row=>k_is)
      (case k_twofold_row=>k_is)
      (case a_joined=>k_is)
      (case l_joined=>k_is)
      (case c_joined=>k_is)
      (case k_joined=>k_is)
      (case a_twofold_undone=>k_is)
      (case l_twofold_undone=>k_is)
      (case c_twofold_undone=>k_is)
      (case k_twofold_undone=>k_is)
      (case a_b_draw=>k_is)
      (case l_b_draw=>k_is)
      (case c_b_draw=>k_is)
      (case k_b_draw=>k_is)
      (case a_b_low=>k_is)
      (case l_b_low=>k_is)
      (case c_b_low=>k_is)
      (case k_b_low=>k_is)
      (case a_b_prime=>k_is)
      (case l_b_prime=>k_is)
      (case c_b_prime=>k_is)
      (case k_b_prime=>k_is)
      (case a_b_wheel=>k_is)
      (case l_b_wheel=>k_is)
      (case c_b_wheel=>k_is)
      (case k_b_wheel=>k_is)
      (case a_b_world=>k_is)
      (case l_b_world=>k_is)
      (case c_b_world=>k_is)
      (case k_b_world=>k_is)
      (case a_b_number=>k_is)
      (case l_b_number=>k_is)
      (case c_b_number=>k_is)
      (case k_b_number=>k_is)
      (case a_b_table=>k_is)
      (case l_b_table=>k_is)
      (case c_b_table=>k_is)
      (case k_b_table=>k_is)
      (case a_b_refused=>k_is)
      (case l_b_refused=>k_is)
      (case c_b_refused=>k_is)
      (case k_b_refused=>k_is)
      (case a_b_bent=>k_is)
      (case l_b_bent=>k_is)
      (case c_b_bent=>k_is)
      (case k_b_bent=>k_is)
      (case a_law=>k_is)
      (case l_law=>k_is)
      (case c_law=>k_is)
      (case k_law=>k_is)
      (case a_World___init__=>k_is)
      (case i_World___init__=>k_is)
      (case l_World___init__=>k_is)
      (case c_World___init__=>k_is)
      (case k_World___init__=>k_is)
      (case a_World_of=>k_is)
      (case i_World_of=>k_is)
      (case l_World_of=>k_is)
      (case c_World_of=>k_is)
      (case k_World_of=>k_is)
      (case ld_World_of=>k_is)
      (case a_World_minus=>k_is)
      (case i_World_minus=>k_is)
      (case l_World_minus=>k_is)
      (case c_World_minus=>k_is)
      (case k_World_minus=>k_is)
      (case a_World_times=>k_is)
      (case i_World_times=>k_is)
      (case l_World_times=>k_is)
      (case c_World_times=>k_is)
      (case k_World_times=>k_is)
      (case a_World_as_wholes=>k_is)
      (case i_World_as_wholes=>k_is)
      (case l_World_as_wholes=>k_is)
      (case c_World_as_wholes=>k_is)
      (case k_World_as_wholes=>k_is)
      (case pg_World=>k_is)
      (case hd_World=>k_is)
      (case po_World=>k_is)
      (case sa_World=>k_is)
      (case mk_World=>k_is)
      (case kc_World=>k_is)
      (case n_World_prime=>k_is)
      (case z_len=>k_is)
      (case z_isinstance=>k_is)
      (case z_int=>k_is)
      (case z_bool=>k_is)
      (case z_tuple=>k_is)
      (case z_list=>k_is)
      (case z_range=>k_is)
      (case z_abs=>k_is)
      (case z_all=>k_is)
      (case z_any=>k_is)
      (case z_sum=>k_is)
      (case z_zip=>k_is)
      (case z_ValueError=>k_is)
      (case a_GREATEST_PRIME=>k_is)
      (case a_LONG=>k_is)
      (case a_MOST=>k_is)
      (case e_x_NoWorld=>k_exc)
      (case e_x_NoOver=>k_exc)
      (case e_x_NoFit=>k_exc)
      (case e_x_WrightError=>k_exc)
      (case e_m_NF_NF=>k_is)
      (case e_m_NF_WE=>k_is)
      (case e_k_VE=>kit_is)
      (case e_k_NF=>kit_is)
      (case e_k_NoWorld=>kit_is)
      (case e_k_NoOver=>kit_is)
      (case e_k_NoShape=>kit_is)
      (case e_k_NoOrder=>kit_is)
      (case e_k_NoSize=>kit_is)
      (case e_k_NoLink=>kit_is)
      (case e_k_Tied=>kit_is)
      (case e_cx1=>k_is)
      (case e_cx2=>k_is)
      (case e_cx3=>k_is)
      (case e_cx4=>k_is)
      (case e_cx5=>k_is)
      (case e_cx6=>k_is)
    obtain ⟨t,T⟩:=T
    have e0:=hmg.symm.trans T.mg_law
    cases e0
    exact My.law_all T
#print axioms PySem.Challenge.cw_bandwright_k69_twofold_refused_holds
