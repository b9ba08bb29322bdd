import PyProof.Rows.All
import Wide.All
import OpenK.AllK
import Wide.FinOn
import Lean
import PyProof.EqAt
import PyProof.EqKinds
import PyProof.TupleCall
import PySem.Challenge.RW_bandwright_k58_grown_pair_by_pair
set_option Elab.async false
set_option linter.all false
set_option maxRecDepth 100000
namespace L2
open PySem PySem.Spec PyProof.Rows
abbrev Key:=Sum Int Str
def keyIs:Key→Value→Bool
  | .inl k,v=>Value.isInt k v
  | .inr x,v=>Value.isStrOf x v
def keyH (w:World):Key→Int
  | .inl k=>hashInt k
  | .inr x=>hashStr w x
theorem keyIs_shape:∀ {k:Key} {v:Value},keyIs k v = true→(∃ i t,k = Sum.inl i∧v = Value.int i t) ∨ (∃ x t,k = Sum.inr x∧v = Value.str x t)
  | .inl i,v,h=>by
    obtain ⟨t,e⟩:=Value.isInt_shape (k:=i) (v:=v) h
    exact .inl ⟨i,t,rfl,e⟩
  | .inr x,v,h=>by
    obtain ⟨t,e⟩:=Value.isStrOf_shape (x:=x) (v:=v) h
    exact .inr ⟨x,t,rfl,e⟩
theorem key_ll (a b:Int):decide ((Sum.inl a:Key) = Sum.inl b) = (a == b):=by
  by_cases e:a = b
  · subst e; simp
  · have h:¬ (Sum.inl a:Key) = Sum.inl b:=fun q=>e (Sum.inl.inj q)
    rw [decide_eq_false h]
    exact (beq_eq_false_iff_ne.mpr e).symm
theorem key_rr (a b:Str):decide ((Sum.inr a:Key) = Sum.inr b) = decide (a = b):=by
  by_cases e:a = b
  · subst e; simp
  · have h:¬ (Sum.inr a:Key) = Sum.inr b:=fun q=>e (Sum.inr.inj q)
    rw [decide_eq_false h,decide_eq_false e]
theorem key_lr (a:Int) (b:Str):decide ((Sum.inl a:Key) = Sum.inr b) = false:=decide_eq_false (fun q=>nomatch q)
theorem key_rl (a:Str) (b:Int):decide ((Sum.inr a:Key) = Sum.inl b) = false:=decide_eq_false (fun q=>nomatch q)
def mixKind (prog:Program) (w:World):PySem.KeyKind prog w Key where
  is:=keyIs
  hash:=keyH w
  inj:=fun v a b ha hb=>by
    rcases keyIs_shape ha with ⟨i,t,rfl,rfl⟩ | ⟨x,t,rfl,rfl⟩
    · rcases keyIs_shape hb with ⟨j,u,rfl,e⟩ | ⟨y,u,rfl,e⟩
      · injection e with e1 _; rw [e1]
      · exact nomatch e
    · rcases keyIs_shape hb with ⟨j,u,rfl,e⟩ | ⟨y,u,rfl,e⟩
      · exact nomatch e
      · injection e with e1 _; rw [e1]
  byValue:=fun k v h=>by
    rcases keyIs_shape h with ⟨i,t,rfl,rfl⟩ | ⟨x,t,rfl,rfl⟩ <;> rfl
  pyHash:=fun hv h=>by
    rcases keyIs_shape hv with ⟨i,t,rfl,rfl⟩ | ⟨x,t,rfl,rfl⟩
    · exact wpAny_pyHash_int h
    · exact wpAny_pyHash_str h
  eqBool:=fun hu hv h=>by
    rcases keyIs_shape hu with ⟨i,t,rfl,rfl⟩ | ⟨x,t,rfl,rfl⟩
    · rcases keyIs_shape hv with ⟨j,u,rfl,rfl⟩ | ⟨y,u,rfl,rfl⟩
      · rw [key_ll] at h; exact wpAny_eqBool_int h
      · rw [key_lr] at h; exact SeqAt.EqAt.int_str i t y u _ _ _ _ h
    · rcases keyIs_shape hv with ⟨j,u,rfl,rfl⟩ | ⟨y,u,rfl,rfl⟩
      · rw [key_rl] at h; exact SeqAt.EqAt.str_int x t j u _ _ _ _ h
      · rw [key_rr] at h; exact wpAny_eqBool_str h
  «strs»:=fun k x t v h=>by
    rcases keyIs_shape h with ⟨i,u,rfl,e⟩ | ⟨y,u,rfl,e⟩
    · exact nomatch e
    · injection e with e1 _
      subst e1
      cases v <;> rfl
end L2
namespace L2
open PySem PySem.Spec PyProof.Rows
inductive V where
  | non | bl (b:Bool) | int (i:Int) | str (x:Str) | byt (b:Array UInt8) | flt (b:UInt64) | ref (a:Addr) | ty (n:String)
  deriving DecidableEq
def RelV:V→Value→Prop
  | .non,u=>u = Value.none
  | .bl b,u=>u = Value.bool b
  | .int i,u=>∃ t,u = Value.int i t
  | .str x,u=>∃ t,u = Value.str x t
  | .byt b,u=>∃ t,u = Value.bytes b t
  | .flt b,u=>∃ t,u = Value.float b t
  | .ref a,u=>u = Value.ref a
  | .ty n,u=>u = Value.type n
abbrev Vals:List V→List Value→Prop:=Paired RelV
theorem Vals.length {xs:List V} {us:List Value} (r:Vals xs us):xs.length = us.length:=Paired.length r
theorem Vals.get:∀ {xs:List V} {us:List Value} {i:Nat} {x:V},Vals xs us→xs[i]? = some x→∃ u,us[i]? = some u∧RelV x u
  | _,_,_,_,.nil,e=>by simp at e
  | _,_,0,_,.cons r _,e=>by simp at e; subst e; exact ⟨_,rfl,r⟩
  | _,_,i + 1,x,.cons _ t,e=>by
    obtain ⟨u,h1,h2⟩:=Vals.get (i:=i) (x:=x) t (by simpa using e)
    exact ⟨u,by simpa using h1,h2⟩
theorem Vals.set {x:V} {u:Value} (r:RelV x u):∀ {xs:List V} {us:List Value} (i:Nat),Vals xs us→Vals (xs.set i x) (us.set i u)
  | _,_,_,.nil=>.nil
  | _,_,0,.cons _ t=>.cons r t
  | _,_,i + 1,.cons q t=>.cons q (Vals.set r i t)
theorem Vals.append:∀ {xs ys:List V} {us ws:List Value},Vals xs us→Vals ys ws→Vals (xs ++ ys) (us ++ ws)
  | _,_,_,_,.nil,s=>s
  | _,_,_,_,.cons r t,s=>.cons r (Vals.append t s)
theorem Vals.take:∀ {xs:List V} {us:List Value} (n:Nat),Vals xs us→Vals (xs.take n) (us.take n)
  | _,_,0,_=>.nil
  | _,_,_ + 1,.nil=>.nil
  | _,_,n + 1,.cons r t=>.cons r (Vals.take n t)
theorem Vals.drop:∀ {xs:List V} {us:List Value} (n:Nat),Vals xs us→Vals (xs.drop n) (us.drop n)
  | _,_,0,r=>r
  | _,_,_ + 1,.nil=>.nil
  | _,_,n + 1,.cons _ t=>Vals.drop n t
theorem Vals.none_of:∀ {xs:List V} {us:List Value} {i:Nat},Vals xs us→xs[i]? = none→us[i]? = none:=fun {xs us i} r e=>by
  have h1:=r.length
  have h2:xs.length ≤ i:=List.getElem?_eq_none_iff.mp e
  exact List.getElem?_eq_none_iff.mpr (by omega)
def RelO:Option V→Option Value→Prop
  | some v,some u=>RelV v u
  | none,none=>True
  | _,_=>False
def KV {κ:Type}:List (κ × V)→List (κ × Value)→Prop:=Paired fun (p:κ × V) (q:κ × Value)=>p.1 = q.1∧RelV p.2 q.2
def kV:Key→V
  | .inl i=>.int i
  | .inr x=>.str x
inductive HO where
  | lst (xs:List V)
  | tup (xs:List V)
  | dK (kvs:List (Key × V)) | dT (kvs:List (List Key × V))
  | set (S:Int→Bool) (n:Nat)
  | ins (C dx:Addr) (fs:List (Str × V))
  | own (x:Addr)
  | xd (fs:List (Str × V))
  | met (f x:Addr)
  | rng (lo hi:Int)
  | frz (o:Obj) (u:HO)
  | tbl (ps:Array Value)
  | ext (φ:Heap→Prop)
abbrev Hp:=Addr→Option HO
def upd (H:Hp) (a:Addr) (o:HO):Hp:=fun b=>if b = a then some o else H b
theorem upd_same {H:Hp} {a:Addr} {o:HO}:upd H a o a = some o:=by unfold upd; rw [if_pos rfl]
theorem upd_ne {H:Hp} {a b:Addr} {o:HO} (h:b ≠ a):upd H a o b = H b:=by unfold upd; rw [if_neg h]
theorem ne_of_none {H:Hp} {a b:Addr} {o:HO} (h:H a = some o) (h':H b = none):a ≠ b:=by
  intro e; subst e; rw [h] at h'; cases h'
section
variable (P:Program) (w:World)
def ObjOk (H:Hp) (h:Heap) (a:Addr):HO→Prop
  | .lst xs=>xs.length ≤ sizeLine∧∃ (its:List Value) (n:Nat),Vals xs its∧h.get? a = some { cls:=.type "list",data:=.seq its.toArray n }
  | .tup xs=>xs.length ≤ sizeLine∧∃ its:List Value,Vals xs its∧IsTup h a its.toArray
  | .dK kvs=>kvs.length ≤ sizeLine∧(a == sysModules) = false∧∃ vs,KV kvs vs∧h.DictOf (mixKind P w) a vs
  | .dT kvs=>kvs.length ≤ sizeLine∧(a == sysModules) = false∧∃ xs:List (List Key × Addr × Value),
      Paired (fun (p:List Key × V) (q:List Key × Addr × Value)=>p.1 = q.1∧H q.2.1 = some (.tup (p.1.map kV))∧RelV p.2 q.2.2) kvs xs∧
      ∃ o es ep,h.get? a = some o∧o.ExactDict∧o.data = .dict es ep∧es.toList = xs.map (entryOfKey (tupleKind (mixKind P w)))∧(xs.map (·.1)).Nodup
  | .set S n=>h.SetOf (intKind P w) a S n
  | .ins C dx fs=>H dx = some (.own a)∧fs.length ≤ 1000∧dx ≠ a∧h.get? a = some (PySem.W.instObj C dx)∧
      ∃ mA,h.Ns1 dx mA∧(∀ f,RelO (fs.lookup f) (mA f))∧PySem.Within mA (fs.map (·.1))
  | .own _=>∃ o,h.get? a = some o
  | .xd fs=>∃ mA,h.Ns1 a mA∧∀ f,RelO (fs.lookup f) (mA f)
  | .rng lo hi=>∃ t u v,h.get? a = some { cls:=.type "range",data:=.fields #[.int lo t,.int hi u,.int 1 v] }
  | .frz o u=>h.get? a = some o∧ObjOk H h a u
  | .tbl ps=>h.get? a = some { cls:=.none,data:=.fields ps }
  | .met f x=>h.get? a = some (PySem.W.methodObj (.ref f) (.ref x))
  | .ext φ=>φ h∧(∃ o,h.get? a = some o)∧∀ h1 h2:Heap,φ h1→(∀ o,h1.get? a = some o→h2.get? a = some o)→φ h2
def HOk (H:Hp) (h:Heap):Prop:=∀ a o,H a = some o→ObjOk P w H h a o
end
section
variable {P:Program} {w:World} {H H':Hp} {h h':Heap} {a:Addr} {o:HO}
theorem ObjOk.lt (x:ObjOk P w H h a o):a < h.objs.size:=by
  cases o with
  | lst xs=>obtain ⟨_,_,_,_,e⟩:=x; exact Heap.lt_size e
  | tup xs=>obtain ⟨_,_,_,p⟩:=x; exact p.lt
  | dK kvs=>obtain ⟨_,_,_,_,o,_,_,e,_⟩:=x; exact Heap.lt_size e
  | dT kvs=>obtain ⟨_,_,_,_,o,_,_,e,_⟩:=x; exact Heap.lt_size e
  | set S n=>obtain ⟨o,_,_,_,e,_⟩:=x; exact Heap.lt_size e
  | ins C dx fs=>obtain ⟨_,_,_,e,_⟩:=x; exact Heap.lt_size e
  | own y=>obtain ⟨_,e⟩:=x; exact Heap.lt_size e
  | xd fs=>obtain ⟨_,⟨_,_,_,e,_⟩,_⟩:=x; exact Heap.lt_size e
  | rng lo hi=>obtain ⟨_,_,_,e⟩:=x; exact Heap.lt_size e
  | frz ob u=>obtain ⟨e,_⟩:=x; exact Heap.lt_size e
  | tbl ps=>exact Heap.lt_size (show h.get? a = some _ from x)
  | met f y=>exact Heap.lt_size (show h.get? a = some _ from x)
  | ext φ=>obtain ⟨_,⟨_,e⟩,_⟩:=x; exact Heap.lt_size e
theorem Paired.mapP {α β:Type} {F G:α→β→Prop}:∀ {l₁:List α} {l₂:List β},Paired F l₁ l₂→(∀ a b,F a b→G a b)→Paired G l₁ l₂
  | _,_,.nil,_=>.nil
  | _,_,.cons r t,f=>.cons (f _ _ r) (Paired.mapP t f)
theorem ObjOk.stay (x:ObjOk P w H h a o) (k:∀ b u,(b = a ∨ H b = some (.own a))→h.get? b = some u→h'.get? b = some u)
    (ho:∀ b,H b = some (.own a)→H' b = some (.own a)) (ht:∀ b xs,H b = some (.tup xs)→H' b = some (.tup xs)):ObjOk P w H' h' a o:=by
  induction o with
  | lst xs=>obtain ⟨z,its,n,r,e⟩:=x; exact ⟨z,its,n,r,k _ _ (.inl rfl) e⟩
  | tup xs=>obtain ⟨z,its,r,ob,e,c⟩:=x; exact ⟨z,its,r,ob,k _ _ (.inl rfl) e,c⟩
  | dK kvs=>obtain ⟨z,y,vs,r,ob,es,ep,e,c⟩:=x; exact ⟨z,y,vs,r,ob,es,ep,k _ _ (.inl rfl) e,c⟩
  | dT kvs=>
    obtain ⟨z,y,xs,r,ob,es,ep,e,c⟩:=x
    exact ⟨z,y,xs,Paired.mapP r fun p q z=>⟨z.1,ht _ _ z.2.1,z.2.2⟩,ob,es,ep,k _ _ (.inl rfl) e,c⟩
  | set S n=>obtain ⟨ob,es,ep,t,e,c⟩:=x; exact ⟨ob,es,ep,t,k _ _ (.inl rfl) e,c⟩
  | ins C dx fs=>
    obtain ⟨d,z,ne,e,mA,⟨od,es,ep,e2,c⟩,r⟩:=x
    exact ⟨ho _ d,z,ne,k _ _ (.inl rfl) e,mA,⟨od,es,ep,k _ _ (.inr d) e2,c⟩,r⟩
  | own y=>obtain ⟨ob,e⟩:=x; exact ⟨ob,k _ _ (.inl rfl) e⟩
  | xd fs=>obtain ⟨mA,⟨od,es,ep,e,c⟩,r⟩:=x; exact ⟨mA,⟨od,es,ep,k _ _ (.inl rfl) e,c⟩,r⟩
  | rng lo hi=>obtain ⟨t,u,v,e⟩:=x; exact ⟨t,u,v,k _ _ (.inl rfl) e⟩
  | frz ob u ih=>obtain ⟨e,q⟩:=x; exact ⟨k _ _ (.inl rfl) e,ih q⟩
  | tbl ps=>
    have e:h.get? a = some { cls:=.none,data:=.fields ps }:=x
    show h'.get? a = some { cls:=.none,data:=.fields ps }
    exact k a _ (.inl rfl) e
  | met f y=>
    have e:h.get? a = some (PySem.W.methodObj (.ref f) (.ref y)):=x
    show h'.get? a = some (PySem.W.methodObj (.ref f) (.ref y))
    exact k a _ (.inl rfl) e
  | ext φ=>obtain ⟨p,⟨o,e⟩,st⟩:=x; exact ⟨st _ _ p fun o q=>k _ _ (.inl rfl) q,⟨o,k _ _ (.inl rfl) e⟩,st⟩
theorem HOk.lt (x:HOk P w H h) (e:H a = some o):a < h.objs.size:=(x a o e).lt
theorem HOk.fresh (x:HOk P w H h) (e:h.objs.size ≤ a):H a = none:=by
  cases q:H a with
  | none=>rfl
  | some u=>exact absurd (Nat.lt_of_lt_of_le (x.lt q) e) (Nat.lt_irrefl _)
theorem HOk.kept (x:HOk P w H h) (k:∀ b u,h.get? b = some u→h'.get? b = some u):HOk P w H h':=fun a o e=>
  (x a o e).stay (fun b u _ q=>k b u q) (fun _ q=>q) fun _ _ q=>q
theorem HOk.laid (x:HOk P w H h) (k:∀ b u,h.get? b = some u→h'.get? b = some u) (hp:h.objs.size ≤ a) (new:ObjOk P w (upd H a o) h' a o):HOk P w (upd H a o) h':=fun b u e=>by
  have hn:=x.fresh hp
  by_cases hb:b = a
  · subst hb; rw [upd_same] at e; cases e; exact new
  · rw [upd_ne hb] at e
    exact (x b u e).stay (fun c v _ q=>k c v q) (fun c q=>by rw [upd_ne (ne_of_none q hn)]; exact q) fun c xs q=>by rw [upd_ne (ne_of_none q hn)]; exact q
end
def Rd (H:Hp) (a:Addr) (u:HO):Prop:=H a = some u ∨ ∃ o,H a = some (.frz o u)
theorem Rd.ok {P:Program} {w:World} {H:Hp} {h:Heap} {a:Addr} {u:HO} (r:Rd H a u) (x:HOk P w H h):ObjOk P w H h a u:=by
  rcases r with r | ⟨o,r⟩
  · exact x a u r
  · obtain ⟨_,q⟩:=x a _ r
    exact q
def Mut:Option HO→Prop
  | some (.lst _)=>True
  | some (.dK _)=>True
  | some (.dT _)=>True
  | some (.set _ _)=>True
  | some (.ins _ _ _)=>True
  | some (.ext _)=>True
  | _=>False
section
variable {P:Program} {w:World} {H:Hp} {h h':Heap} {x e:Addr} {o':HO}
theorem HOk.write (ok:HOk P w H h) (mu:Mut (H x)) (he:e = x ∨ H e = some (.own x)) (k:∀ b u,b ≠ e→h.get? b = some u→h'.get? b = some u) (heo:∃ u,h'.get? e = some u)
    (new:ObjOk P w (upd H x o') h' x o'):HOk P w (upd H x o') h':=fun b u q=>by
  have nown:∀ c y,H c = some (.own y)→c ≠ x:=fun c y r z=>by subst z; rw [r] at mu; exact mu
  have ntup:∀ c xs,H c = some (.tup xs)→c ≠ x:=fun c xs r z=>by subst z; rw [r] at mu; exact mu
  by_cases hb:b = x
  · subst hb; rw [upd_same] at q; cases q; exact new
  · rw [upd_ne hb] at q
    by_cases hbe:b = e
    · have q':H b = some (.own x):=by
        rcases he with z | z
        · exact absurd (hbe.trans z) hb
        · rw [hbe]; exact z
      rw [q] at q'; cases q'
      obtain ⟨v,hv⟩:=heo
      exact ⟨v,by rw [hbe]; exact hv⟩
    · refine (ok b u q).stay (fun c v hc r=>k c v ?_ r) (fun c r=>by rw [upd_ne (nown c b r)]; exact r) fun c xs r=>by rw [upd_ne (ntup c xs r)]; exact r
      rcases hc with rfl | hc
      · exact hbe
      · rintro rfl
        rcases he with z | z
        · exact nown c b hc z
        · rw [hc] at z; cases z; exact hb rfl
end
structure Un (fs ex:List Addr) (H H':Hp) (h h':Heap):Prop where
  keep:∀ b o,h.get? b = some o→H b = none→b ∉ fs→b ∉ ex→h'.get? b = some o
  slot:∀ b o,h.get? b = some o→H b = none→b ∈ fs→b ∉ ex→∃ sl,h'.get? b = some { o with slots:=sl }
  free:∀ b o,h.get? b = some o→H b = none→b ∉ ex→H' b = none
  there:∀ b o,h.get? b = some o→b ∉ ex→∃ o',h'.get? b = some o'
  tups:∀ b xs,H b = some (.tup xs)→H' b = some (.tup xs)
  frzs:∀ b o u,H b = some (.frz o u)→H' b = some (.frz o u)
  tbls:∀ b ps,H b = some (.tbl ps)→∃ more,H' b = some (.tbl (ps ++ more))
section
variable {fs fs' ex ex':List Addr} {H H1 H2:Hp} {h h1 h2 h':Heap} {a x e:Addr} {o:HO}
theorem Un.any (u:Un fs ex H H1 h h1) {b:Addr} {ob:Obj} (q:h.get? b = some ob) (n:H b = none) (hx:b ∉ ex):∃ sl,h1.get? b = some { ob with slots:=sl }:=by
  by_cases hb:b ∈ fs
  · exact u.slot b ob q n hb hx
  · exact ⟨ob.slots,u.keep b ob q n hb hx⟩
theorem Un.kept (k:∀ b u,h.get? b = some u→h'.get? b = some u):Un fs ex H H h h':=
  ⟨fun b ob q _ _ _=>k b ob q,fun b ob q _ _ _=>⟨ob.slots,k b ob q⟩,fun _ _ _ n _=>n,fun b ob q _=>⟨ob,k b ob q⟩,fun _ _ q=>q,fun _ _ _ q=>q,fun _ ps q=>⟨#[],by rw [q]; simp⟩⟩
theorem Un.refl:Un fs ex H H h h:=Un.kept fun _ _ q=>q
theorem Un.laid (k:∀ b u,h.get? b = some u→h'.get? b = some u) (hp:h.objs.size ≤ a) (hn:H a = none):Un fs ex H (upd H a o) h h' where
  keep:=fun b u q _ _ _=>k b u q
  slot:=fun b u q _ _ _=>⟨u.slots,k b u q⟩
  free:=fun b u q n _=>by rw [upd_ne (Nat.ne_of_lt (Nat.lt_of_lt_of_le (Heap.lt_size q) hp))]; exact n
  there:=fun b u q _=>⟨u,k b u q⟩
  tups:=fun b xs q=>by rw [upd_ne (ne_of_none q hn)]; exact q
  frzs:=fun b u xs q=>by rw [upd_ne (ne_of_none q hn)]; exact q
  tbls:=fun b ps q=>⟨#[],by rw [upd_ne (ne_of_none q hn),q]; simp⟩
theorem Un.write (mu:Mut (H x)) (he:e = x ∨ H e = some (.own x)) (k:∀ b u,b ≠ e→h.get? b = some u→h'.get? b = some u) (heo:∃ u,h'.get? e = some u):Un fs ex H (upd H x o) h h':=by
  have hx:∀ b,H b = none→b ≠ x:=fun b n z=>by subst z; rw [n] at mu; exact mu
  have hb:∀ b,H b = none→b ≠ e:=fun b n z=>by
    subst z
    rcases he with r | r
    · exact hx b n r
    · rw [n] at r; cases r
  have hm:∀ b u,H b = some u→¬ Mut (some u)→b ≠ x:=fun b u q nm z=>by subst z; rw [q] at mu; exact nm mu
  refine ⟨fun b u q n _ _=>k b u (hb b n) q,fun b u q n _ _=>⟨u.slots,k b u (hb b n) q⟩,fun b u q n _=>by rw [upd_ne (hx b n)]; exact n,fun b u q _=>?_,
    fun b xs q=>by rw [upd_ne (hm b _ q fun z=>z)]; exact q,fun b u xs q=>by rw [upd_ne (hm b _ q fun z=>z)]; exact q,fun b ps q=>⟨#[],by rw [upd_ne (hm b _ q fun z=>z),q]; simp⟩⟩
  by_cases hbe:b = e
  · subst hbe; exact heo
  · exact ⟨u,k b u hbe q⟩
end
def trk (h:Heap) (H:Hp):List Addr:=(List.range h.objs.size).filter fun a=>(H a).isSome
def hidT (h:Heap) (H:Hp):Heap:=PySem.W.hideAll h (trk h H)
theorem hidT_size (h:Heap) (H:Hp):(hidT h H).objs.size = h.objs.size:=PySem.W.hideAll_size _ _
theorem hidT_get {h:Heap} {H:Hp} {b:Addr} {o:Obj} (e:h.get? b = some o) (n:H b = none):(hidT h H).get? b = some o:=
  PySem.W.hideAll_get _ e fun hm=>by
    have q:(H b).isSome = true:=(List.mem_filter.mp hm).2
    rw [n] at q; simp at q
theorem of_hidT {h:Heap} {H:Hp} {b:Addr} {o:Obj} (e:(hidT h H).get? b = some o):h.get? b = some o∧H b = none:=by
  have e':h.get? b = some o:=PySem.W.of_hideAll (trk h H) e
  refine ⟨e',?_⟩
  cases q:H b with
  | none=>rfl
  | some x=>
    have hm:b ∈ trk h H:=List.mem_filter.mpr ⟨List.mem_range.mpr (Heap.lt_size e'),by simp [q]⟩
    have z:(hidT h H).get? b = none:=PySem.W.hideAll_none (trk h H) hm
    rw [z] at e; cases e
end L2
namespace L2
open PySem PySem.Spec PyProof.Rows
structure Mod (K:PySem.W.Frag) (mg:Str→Option Value) (base:Heap):Prop where
  kin:K.In base
  glob:base.Ns mainGlobals mg
  blt:∃ mb,base.Ns builtinsNs mb∧∀ x:Str,x ≠ "__name__"→mb x = bootBuiltins x
  nolimit:base.NoLimit
structure Cx where
  prog:Program
  w:World
  K:PySem.W.Frag
  mg:Str→Option Value
  base:Heap
  A:Around
  N:List Str
  s₀:Shared
  H₀:Hp
  env:Env
  outer:List Env
  stack:List Env
  ex:List Addr
  fn:Str→Bool
  calm:Bool
  pn:List (Addr × Obj)
  xe:Value→Shared→Prop
def frs (l:List Env):List Addr:=l.filterMap (·.frame)
abbrev Cx.fs (X:Cx):List Addr:=frs X.outer
def Vis (sc:Scope) (x:Str):Prop:=sc.names.lookup x = some .local ∨ sc.names.lookup x = some .cell ∨ sc.names.lookup x = some .free
def Loc (sc:Scope) (x:Str):Prop:=sc.names.lookup x = some .local ∨ sc.names.lookup x = some .cell
def Look (env:Env) (h:Heap) (m:Str→Option Value) (x:Str) (u:Value):Prop:=
  (env.kindOf x = some .local∧m x = some u) ∨ ((env.kindOf x = some .cell ∨ env.kindOf x = some .free)∧∃ c,env.cells.lookup x = some c∧h.IsCell c (some u))
structure Cx.Ok (X:Cx):Prop where
  mod:Mod X.K X.mg X.base
  kind:X.env.scope.kind = .function
  glob:X.env.globals = mainGlobals
  blt:X.env.builtins = builtinsNs
  above:X.s₀.heap.objs.size ≤ X.env.locals
  inj:∀ x y c,X.env.cells.lookup x = some c→X.env.cells.lookup y = some c→x = y
  has:∀ x,(X.env.kindOf x = some .cell ∨ X.env.kindOf x = some .free)→∃ c,X.env.cells.lookup x = some c
  cab:∀ x c,X.fn x = true→X.env.cells.lookup x = some c→X.s₀.heap.objs.size ≤ c
  hd:X.calm = true→X.A.handled = none
  frames:X.A.frames = some X.stack
  stk:X.stack = X.outer ∨ (X.stack = X.env :: X.outer∧X.env.frame = some X.env.locals)
  exf:∀ b ∈ X.ex,b ≠ X.env.locals∧∀ x c,X.env.cells.lookup x = some c→c ≠ b
  bs:∀ b o,X.base.get? b = some o→X.s₀.heap.get? b = some o∧X.H₀ b = none
  bsz:X.base.objs.size ≤ X.s₀.heap.objs.size
  noex:∀ b o,X.base.get? b = some o→b ∉ X.ex
  exfs:∀ b ∈ X.ex,b ∉ X.fs
  funs:X.s₀.heap.FunFrames X.base X.outer
  frf:∀ b ∈ X.fs,X.H₀ b = none
structure Inv (X:Cx) (pins:List (Addr × Obj)) (σ:List (Option V)) (H:Hp) (s:Shared):Prop where
  ok:X.Ok
  os:s.os = X.s₀.os
  bare:AllBare s.gens
  base:Un X.fs X.ex X.H₀ H X.s₀.heap s.heap
  loc:∃ m,s.heap.Ns X.env.locals m∧∀ (i:Nat) (x:Str) (v:V),X.N[i]? = some x→σ[i]? = some (some v)→Vis X.env.scope x→∃ u,RelV v u∧Look X.env s.heap m x u
  cell:∀ x c,X.env.cells.lookup x = some c→∃ v,s.heap.IsCell c v
  free:H X.env.locals = none
  freeC:∀ x c,X.env.cells.lookup x = some c→H c = none
  pin:∀ p ∈ X.pn ++ pins,s.heap.get? p.1 = some p.2∧H p.1 = none∧p.1 ≠ X.env.locals∧p.1 ∉ X.fs∧∀ v,p.2.data ≠ .cell v
  hok:HOk X.prog X.w H s.heap
  len:σ.length = X.N.length
section
variable {X:Cx} {pins:List (Addr × Obj)} {σ:List (Option V)} {H H':Hp} {s:Shared} {h':Heap}
theorem Cx.Ok.nofr (ok:X.Ok) {b:Addr} {o:Obj} (e:X.base.get? b = some o):b ∉ X.fs:=fun hb=>by
  have:=(ok.funs.mem hb).1
  rw [e] at this; cases this
theorem Inv.bs (I:Inv X pins σ H s):∀ b o,X.base.get? b = some o→s.heap.get? b = some o∧H b = none:=fun b o e=>
  ⟨I.base.keep b o (I.ok.bs b o e).1 (I.ok.bs b o e).2 (I.ok.nofr e) (I.ok.noex b o e),I.base.free b o (I.ok.bs b o e).1 (I.ok.bs b o e).2 (I.ok.noex b o e)⟩
theorem Inv.bk (I:Inv X pins σ H s):∀ b o,X.base.get? b = some o→s.heap.get? b = some o:=fun b o e=>(I.bs b o e).1
theorem Inv.mod (I:Inv X pins σ H s):Mod X.K X.mg X.base:=I.ok.mod
theorem Inv.kIn (I:Inv X pins σ H s):X.K.In s.heap:=I.ok.mod.kin.keeps I.bk
theorem Inv.lt (I:Inv X pins σ H s):X.env.locals < s.heap.objs.size:=let ⟨_,hn,_⟩:=I.loc; hn.lt
theorem Inv.sz (I:Inv X pins σ H s):X.s₀.heap.objs.size ≤ s.heap.objs.size:=Nat.le_trans I.ok.above (Nat.le_of_lt I.lt)
theorem Inv.nofs (I:Inv X pins σ H s) {a:Addr} (h:s.heap.objs.size ≤ a):a ∉ X.fs:=fun hb=>by
  obtain ⟨_,o,ho,_⟩:=I.ok.funs.mem hb
  exact absurd (Nat.lt_of_lt_of_le (Heap.lt_size ho) (Nat.le_trans I.sz h)) (Nat.lt_irrefl _)
theorem Inv.cne (I:Inv X pins σ H s):∀ x c,X.env.cells.lookup x = some c→c ≠ X.env.locals:=fun x c e z=>by
  obtain ⟨v,o,ho,hd⟩:=I.cell x c e
  obtain ⟨m,⟨o',es,ep,ho',hd',_⟩,_⟩:=I.loc
  rw [z,ho'] at ho; cases ho; rw [hd'] at hd; cases hd
theorem Inv.funs (I:Inv X pins σ H s):s.heap.FunFrames X.base X.outer:=by
  have all:∀ (l:List Env),(∀ b ∈ frs l,b ∈ X.fs)→X.s₀.heap.FunFrames X.base l→s.heap.FunFrames X.base l:=by
    intro l
    induction l with
    | nil=>intro _ _; trivial
    | cons env r ih=>
      intro hs hl
      obtain ⟨hk,⟨L,o,hf,hn,ho,hd⟩,hr⟩:=hl
      have hL:L ∈ X.fs:=hs L (by unfold frs; rw [List.filterMap_cons,hf]; exact List.mem_cons_self)
      obtain ⟨sl,e⟩:=I.base.slot L o ho (I.ok.frf L hL) hL fun z=>I.ok.exfs L z hL
      exact ⟨hk,⟨L,_,hf,hn,e,hd⟩,ih (fun b hb=>hs b (by unfold frs; rw [List.filterMap_cons,hf]; exact List.mem_cons_of_mem _ hb)) hr⟩
  exact all X.outer (fun _ hb=>hb) I.ok.funs
theorem Inv.stack (I:Inv X pins σ H s):s.heap.FunFrames X.base X.stack:=by
  rcases I.ok.stk with e | ⟨e,hf⟩
  · rw [e]; exact I.funs
  · rw [e]
    obtain ⟨m,hn,_⟩:=I.loc
    refine .cons (by rw [I.ok.kind]; decide) hf hn ?_ I.funs
    exact Heap.get?_none_of_le (Nat.le_trans I.ok.bsz I.ok.above)
theorem Inv.stkSub (I:Inv X pins σ H s):∀ b ∈ frs X.stack,b ∈ X.env.locals :: X.fs:=fun b hb=>by
  rcases I.ok.stk with e | ⟨e,hf⟩
  · rw [e] at hb; exact List.mem_cons_of_mem _ hb
  · rw [e] at hb
    unfold frs at hb
    rw [List.filterMap_cons,hf] at hb
    exact hb
theorem Inv.stkFree (I:Inv X pins σ H s):∀ b ∈ frs X.stack,H b = none:=fun b hb=>by
  rcases List.mem_cons.mp (I.stkSub b hb) with e | hb
  · rw [e]; exact I.free
  · obtain ⟨_,o,ho,_⟩:=I.ok.funs.mem hb
    exact I.base.free b o ho (I.ok.frf b hb) fun z=>I.ok.exfs b z hb
theorem Inv.step {g':Array GenState} {t':Nat} {d':Drawn} {ch:List Addr} (I:Inv X pins σ H s)
    (hch:∀ b ∈ ch,(b ∈ X.ex ∨ X.s₀.heap.objs.size ≤ b)∧b ≠ X.env.locals∧(∀ x c,X.env.cells.lookup x = some c→c ≠ b)∧∀ p ∈ X.pn ++ pins,p.1 ≠ b)
    (keep:∀ b o,b ≠ X.env.locals→b ∉ X.fs→b ∉ ch→s.heap.get? b = some o→H b = none→h'.get? b = some o)
    (slot:∀ b o,b ≠ X.env.locals→b ∈ X.fs→b ∉ ch→s.heap.get? b = some o→H b = none→∃ sl,h'.get? b = some { o with slots:=sl }) (free:∀ b o,b ∉ ch→s.heap.get? b = some o→H b = none→H' b = none)
    (there:∀ b o,b ∉ ch→s.heap.get? b = some o→∃ o',h'.get? b = some o')
    (tups:∀ b xs,H b = some (.tup xs)→H' b = some (.tup xs)) (frzs:∀ b o u,H b = some (.frz o u)→H' b = some (.frz o u)) (tbls:∀ b ps,H b = some (.tbl ps)→∃ more,H' b = some (.tbl (ps ++ more)))
    (ns:∀ m,s.heap.Ns X.env.locals m→h'.Ns X.env.locals m) (hok:HOk X.prog X.w H' h') (hg:AllBare g') :
    Inv X pins σ H' { s with heap:=h',gens:=g',drawn:=d',toks:=t' }:=by
  have neL:∀ b o,X.s₀.heap.get? b = some o→b ≠ X.env.locals:=fun b o e=>Nat.ne_of_lt (Nat.lt_of_lt_of_le (Heap.lt_size e) I.ok.above)
  have neC:∀ b o,X.s₀.heap.get? b = some o→b ∉ X.ex→b ∉ ch:=fun b o e hx hb=>by
    rcases (hch b hb).1 with z | z
    · exact hx z
    · exact absurd (Nat.lt_of_lt_of_le (Heap.lt_size e) z) (Nat.lt_irrefl _)
  have cellK:∀ x c,X.env.cells.lookup x = some c→∀ v,s.heap.IsCell c v→h'.IsCell c v:=fun x c e v ⟨o,ho,hd⟩=>by
    have nch:c ∉ ch:=fun z=>(hch c z).2.2.1 x c e rfl
    by_cases hc:c ∈ X.fs
    · obtain ⟨sl,q⟩:=slot c o (I.cne x c e) hc nch ho (I.freeC x c e)
      exact ⟨_,q,hd⟩
    · exact ⟨o,keep c o (I.cne x c e) hc nch ho (I.freeC x c e),hd⟩
  refine ⟨I.ok,I.os,hg,⟨fun b o e n hb hx=>?_,fun b o e n hb hx=>?_,fun b o e n hx=>?_,fun b o e hx=>?_,fun b xs e=>tups b xs (I.base.tups b xs e),fun b o xs e=>frzs b o xs (I.base.frzs b o xs e),fun b ps e=>?_⟩,?_,fun x c e=>?_,?_,fun x c e=>?_,fun p hp=>?_,hok,I.len⟩
  · exact keep b o (neL b o e) hb (neC b o e hx) (I.base.keep b o e n hb hx) (I.base.free b o e n hx)
  · obtain ⟨sl,e1⟩:=I.base.slot b o e n hb hx
    obtain ⟨sl',e2⟩:=slot b _ (neL b o e) hb (neC b o e hx) e1 (I.base.free b o e n hx)
    exact ⟨sl',e2⟩
  · obtain ⟨o',e1⟩:=I.base.there b o e hx
    exact free b o' (neC b o e hx) e1 (I.base.free b o e n hx)
  · obtain ⟨o',e1⟩:=I.base.there b o e hx
    exact there b o' (neC b o e hx) e1
  · obtain ⟨m1,e1⟩:=I.base.tbls b ps e
    obtain ⟨m2,e2⟩:=tbls b _ e1
    exact ⟨m1 ++ m2,by rw [e2,Array.append_assoc]⟩
  · obtain ⟨m,hn,hl⟩:=I.loc
    refine ⟨m,ns m hn,fun i x v e1 e2 e3=>?_⟩
    obtain ⟨u,r,l⟩:=hl i x v e1 e2 e3
    refine ⟨u,r,?_⟩
    rcases l with l | ⟨k,c,e,z⟩
    · exact .inl l
    · exact .inr ⟨k,c,e,cellK x c e _ z⟩
  · obtain ⟨v,z⟩:=I.cell x c e
    exact ⟨v,cellK x c e v z⟩
  · obtain ⟨m,⟨o,_,_,ho,_⟩,_⟩:=I.loc
    exact free _ o (fun z=>(hch _ z).2.1 rfl) ho I.free
  · obtain ⟨v,o,ho,hd⟩:=I.cell x c e
    exact free c o (fun z=>(hch c z).2.2.1 x c e rfl) ho (I.freeC x c e)
  · obtain ⟨e,n,ne,nf,d⟩:=I.pin p hp
    have nch:p.1 ∉ ch:=fun z=>(hch p.1 z).2.2.2 p hp rfl
    exact ⟨keep p.1 p.2 ne nf nch e n,free p.1 p.2 nch e n,ne,nf,d⟩
theorem Inv.un {t':Nat} (I:Inv X pins σ H s) (u:Un X.fs [] H H' s.heap h') (hok:HOk X.prog X.w H' h'):Inv X pins σ H' { s with heap:=h',toks:=t' }:=by
  obtain ⟨m,⟨o,es,ep,ho,r⟩,_⟩:=id I.loc
  obtain ⟨sl,hL⟩:=u.any ho I.free (by simp)
  exact I.step (g':=s.gens) (d':=s.drawn) (ch:=[]) (fun _ z=>nomatch z) (fun b o _ hb _ e n=>u.keep b o e n hb (by simp)) (fun b o _ hb _ e n=>u.slot b o e n hb (by simp)) (fun b o _ e n=>u.free b o e n (by simp)) (fun b o _ e=>u.there b o e (by simp)) u.tups u.frzs u.tbls (fun m' hm=>by
    obtain ⟨o',es',ep',ho',r'⟩:=hm
    rw [ho] at ho'; cases ho'
    exact ⟨_,es',ep',hL,r'⟩) hok I.bare
theorem Inv.call {g':Array GenState} {t':Nat} {d':Drawn} {ch:List Addr} (I:Inv X pins σ H s) (u:Un (frs X.stack) ch H H' s.heap h') (hok:HOk X.prog X.w H' h') (hg:AllBare g')
    (hch:∀ b ∈ ch,(b ∈ X.ex ∨ X.s₀.heap.objs.size ≤ b)∧b ≠ X.env.locals∧(∀ x c,X.env.cells.lookup x = some c→c ≠ b)∧∀ p ∈ X.pn ++ pins,p.1 ≠ b) :
    Inv X pins σ H' { s with heap:=h',gens:=g',drawn:=d',toks:=t' }:=by
  obtain ⟨m,⟨o,es,ep,ho,r⟩,_⟩:=id I.loc
  obtain ⟨sl,hL⟩:=u.any ho I.free fun z=>(hch _ z).2.1 rfl
  exact I.step (ch:=ch) hch (fun b o hL hb hc e n=>u.keep b o e n (fun z=>(List.mem_cons.mp (I.stkSub b z)).elim hL hb) hc) (fun b o _ _ hc e n=>u.any e n hc) (fun b o hc e n=>u.free b o e n hc) (fun b o hc e=>u.there b o e hc) u.tups u.frzs u.tbls (fun m' hm=>by
    obtain ⟨o',es',ep',ho',r'⟩:=hm
    rw [ho] at ho'; cases ho'
    exact ⟨_,es',ep',hL,r'⟩) hok hg
theorem Inv.turned {t':Nat} {it:Addr} (I:Inv X pins σ H s) (k:∀ b o,b ≠ it→s.heap.get? b = some o→h'.get? b = some o) (hn:H it = none) (hL:it ≠ X.env.locals)
    (h1:it ∈ X.ex ∨ X.s₀.heap.objs.size ≤ it) (h2:∀ x c,X.env.cells.lookup x = some c→c ≠ it) (h3:∀ p ∈ X.pn ++ pins,p.1 ≠ it):Inv X pins σ H { s with heap:=h',toks:=t' }:=by
  have nit:∀ b u,H b = some u→b ≠ it:=fun b u e z=>by rw [z,hn] at e; cases e
  refine I.step (g':=s.gens) (d':=s.drawn) (ch:=[it]) (fun b hb=>?_) (fun b o _ _ hc e _=>k b o (fun z=>hc (by simp [z])) e) (fun b o _ _ hc e _=>⟨o.slots,k b o (fun z=>hc (by simp [z])) e⟩) (fun _ _ _ _ n=>n)
    (fun b o hc e=>⟨o,k b o (fun z=>hc (by simp [z])) e⟩) (fun _ _ e=>e) (fun _ _ _ e=>e) (fun b ps e=>⟨#[],by rw [e]; simp⟩) (fun m hm=>?_) (fun b u e=>?_) I.bare
  · have e:b = it:=by simpa using hb
    subst e
    exact ⟨h1,hL,h2,h3⟩
  · obtain ⟨o,es,ep,ho,r⟩:=hm
    exact ⟨o,es,ep,k _ o (Ne.symm hL) ho,r⟩
  · refine (I.hok b u e).stay (fun c v hc q=>k c v ?_ q) (fun _ q=>q) fun _ _ q=>q
    rcases hc with z | z
    · rw [z]; exact nit b u e
    · exact nit c _ z
theorem Inv.tok (I:Inv X pins σ H s) (t:Nat):Inv X pins σ H { s with toks:=t }:=I.un (h':=s.heap) (t':=t) Un.refl I.hok
theorem Inv.kept {t':Nat} (I:Inv X pins σ H s) (k:∀ b u,s.heap.get? b = some u→h'.get? b = some u):Inv X pins σ H { s with heap:=h',toks:=t' }:=I.un (Un.kept k) (I.hok.kept k)
theorem Inv.laid {a:Addr} {o:HO} {t':Nat} (I:Inv X pins σ H s) (k:∀ b u,s.heap.get? b = some u→h'.get? b = some u) (hp:s.heap.objs.size ≤ a) (new:ObjOk X.prog X.w (upd H a o) h' a o) :
    Inv X pins σ (upd H a o) { s with heap:=h',toks:=t' }:=I.un (Un.laid k hp (I.hok.fresh hp)) (I.hok.laid k hp new)
theorem Inv.write {x e:Addr} {o:HO} {t':Nat} (I:Inv X pins σ H s) (mu:Mut (H x)) (he:e = x ∨ H e = some (.own x)) (k:∀ b u,b ≠ e→s.heap.get? b = some u→h'.get? b = some u) (heo:∃ u,h'.get? e = some u)
    (new:ObjOk X.prog X.w (upd H x o) h' x o):Inv X pins σ (upd H x o) { s with heap:=h',toks:=t' }:=I.un (Un.write mu he k heo) (I.hok.write mu he k heo new)
theorem Inv.pins_of {pins':List (Addr × Obj)} (I:Inv X pins σ H s) (h:∀ p ∈ pins',s.heap.get? p.1 = some p.2∧H p.1 = none∧p.1 ≠ X.env.locals∧p.1 ∉ X.fs∧∀ v,p.2.data ≠ .cell v):Inv X pins' σ H s:=
  ⟨I.ok,I.os,I.bare,I.base,I.loc,I.cell,I.free,I.freeC,fun p hp=>(List.mem_append.mp hp).elim (fun z=>I.pin p (List.mem_append_left _ z)) (h p),I.hok,I.len⟩
theorem nodup_ix {N:List Str} (hN:N.Nodup) {i j:Nat} {x:Str} (a:N[i]? = some x) (b:N[j]? = some x):i = j:=by
  obtain ⟨h1,e1⟩:=List.getElem?_eq_some_iff.mp a
  obtain ⟨h2,e2⟩:=List.getElem?_eq_some_iff.mp b
  exact (List.getElem_inj hN).mp (e1.trans e2.symm)
theorem store_ok2 {M:Model} {A:Around} {E:Value→Shared→Prop} {i:Nat} {x:Str} {v:V} {u:Value} {Q:Unit→Shared→Prop} (I:Inv X pins σ H s) (hN:X.N.Nodup) (hi:X.N[i]? = some x) (hx:Loc X.env.scope x) (r:RelV v u)
    (h:∀ s',Inv X pins (σ.set i (some v)) H s'→(∃ a,Heap.SameBut a s.heap s'.heap∧(a = X.env.locals ∨ X.env.cells.lookup x = some a))→Q () s') (hf:X.fn x = true ∨ X.env.scope.names.lookup x = some .local:=by first | exact .inl rfl | exact .inr rfl | assumption):wpAny M A (storeName X.env x u) Q E s:=by
  obtain ⟨m,hn,hl⟩:=id I.loc
  have hcls:(X.env.scope.kind == .class || (X.env.scope.kind == .module && X.env.locals != X.env.globals)) = false:=by rw [I.ok.kind]; rfl
  have hiσ:i < σ.length:=by rw [I.len]; exact (List.getElem?_eq_some_iff.mp hi).1
  have cne:=I.cne
  have tracked:∀ {a:Addr} {h':Heap},(∃ o,s.heap.get? a = some o∧H a = none)→Heap.SameBut a s.heap h'→HOk X.prog X.w H h':=fun {a h'} ha hs b ob e=>by
    obtain ⟨_,_,hfree⟩:=ha
    refine (I.hok b ob e).stay (fun c w' hc q=>(hs.2 c ?_).trans q) (fun _ q=>q) fun _ _ q=>q
    rintro rfl
    rcases hc with rfl | hc
    · rw [hfree] at e; cases e
    · rw [hfree] at hc; cases hc
  rcases hx with hk | hk
  · refine wpAny_storeName_local hk hn (fun h' hn' hs=>?_) hcls
    obtain ⟨oL,_,_,hoL,_⟩:=id hn
    refine h _ ⟨I.ok,I.os,I.bare,⟨fun b o e n hb hx=>?_,fun b o e n hb hx=>?_,I.base.free,fun b o e hx=>?_,I.base.tups,I.base.frzs,I.base.tbls⟩,⟨_,hn',fun j y v' e1 e2 e3=>?_⟩,fun y c e=>?_,I.free,I.freeC,fun p hp=>?_,tracked ⟨oL,hoL,I.free⟩ hs,by simpa using I.len⟩ ⟨_,hs,.inl rfl⟩
    · exact (hs.2 b (Nat.ne_of_lt (Nat.lt_of_lt_of_le (Heap.lt_size e) I.ok.above))).trans (I.base.keep b o e n hb hx)
    · obtain ⟨sl,e1⟩:=I.base.slot b o e n hb hx
      exact ⟨sl,(hs.2 b (Nat.ne_of_lt (Nat.lt_of_lt_of_le (Heap.lt_size e) I.ok.above))).trans e1⟩
    · obtain ⟨o',e1⟩:=I.base.there b o e hx
      exact ⟨o',(hs.2 b (Nat.ne_of_lt (Nat.lt_of_lt_of_le (Heap.lt_size e) I.ok.above))).trans e1⟩
    · by_cases hj:j = i
      · subst hj
        rw [hi] at e1; cases e1
        rw [List.getElem?_set_self hiσ] at e2
        cases e2
        exact ⟨u,r,.inl ⟨hk,by simp⟩⟩
      · rw [List.getElem?_set_ne (Ne.symm hj)] at e2
        obtain ⟨u',r',q⟩:=hl j y v' e1 e2 e3
        refine ⟨u',r',?_⟩
        rcases q with ⟨k,e⟩ | ⟨k,c,e,z⟩
        · refine .inl ⟨k,?_⟩
          have:y ≠ x:=fun e=>hj (nodup_ix hN e1 (e ▸ hi))
          simp [this,e]
        · exact .inr ⟨k,c,e,z.sameBut hs (cne y c e)⟩
    · obtain ⟨w',z⟩:=I.cell y c e
      exact ⟨w',z.sameBut hs (cne y c e)⟩
    · obtain ⟨e,n,ne,nf,d⟩:=I.pin p hp
      exact ⟨(hs.2 p.1 ne).trans e,n,ne,nf,d⟩
  · have hfn:X.fn x = true:=by
      rcases hf with z | z
      · exact z
      · rw [z] at hk; cases hk
    obtain ⟨c,hc⟩:=I.ok.has x (.inl hk)
    obtain ⟨w',z⟩:=I.cell x c hc
    refine wpAny_storeName_cell I.ok.kind hk hc z (fun h' hc' hs=>?_)
    obtain ⟨oc,hoc,hocd⟩:=id z
    refine h { s with heap:=h' } ⟨I.ok,I.os,I.bare,⟨fun b o e n hb hx=>?_,fun b o e n hb hx=>?_,I.base.free,fun b o e hx=>?_,I.base.tups,I.base.frzs,I.base.tbls⟩,⟨m,hn.sameBut hs (Ne.symm (cne x c hc)),fun j y v' e1 e2 e3=>?_⟩,fun y c' e=>?_,I.free,I.freeC,fun p hp=>?_,tracked ⟨oc,hoc,I.freeC x c hc⟩ hs,by simpa using I.len⟩ ⟨c,hs,.inr hc⟩
    · exact (hs.2 b (Nat.ne_of_lt (Nat.lt_of_lt_of_le (Heap.lt_size e) (I.ok.cab x c hfn hc)))).trans (I.base.keep b o e n hb hx)
    · obtain ⟨sl,e1⟩:=I.base.slot b o e n hb hx
      exact ⟨sl,(hs.2 b (Nat.ne_of_lt (Nat.lt_of_lt_of_le (Heap.lt_size e) (I.ok.cab x c hfn hc)))).trans e1⟩
    · obtain ⟨o',e1⟩:=I.base.there b o e hx
      exact ⟨o',(hs.2 b (Nat.ne_of_lt (Nat.lt_of_lt_of_le (Heap.lt_size e) (I.ok.cab x c hfn hc)))).trans e1⟩
    · by_cases hj:j = i
      · subst hj
        rw [hi] at e1; cases e1
        rw [List.getElem?_set_self hiσ] at e2
        cases e2
        exact ⟨u,r,.inr ⟨.inl hk,c,hc,hc'⟩⟩
      · rw [List.getElem?_set_ne (Ne.symm hj)] at e2
        obtain ⟨u',r',q⟩:=hl j y v' e1 e2 e3
        refine ⟨u',r',?_⟩
        rcases q with q | ⟨k,c',e,z'⟩
        · exact .inl q
        · refine .inr ⟨k,c',e,z'.sameBut hs ?_⟩
          rintro rfl
          exact hj (nodup_ix hN e1 (I.ok.inj _ _ _ e hc ▸ hi))
    · by_cases hcc:c' = c
      · subst hcc; exact ⟨_,hc'⟩
      · obtain ⟨w2,z2⟩:=I.cell y c' e
        exact ⟨w2,z2.sameBut hs hcc⟩
    · obtain ⟨e,n,ne,nf,d⟩:=I.pin p hp
      refine ⟨(hs.2 p.1 ?_).trans e,n,ne,nf,d⟩
      intro q
      rw [q,hoc] at e
      have q':oc = p.2:=Option.some.inj e
      exact d w' (by rw [← q']; exact hocd)
theorem store_ok {M:Model} {A:Around} {E:Value→Shared→Prop} {i:Nat} {x:Str} {v:V} {u:Value} {Q:Unit→Shared→Prop} (I:Inv X pins σ H s) (hN:X.N.Nodup) (hi:X.N[i]? = some x) (hx:Loc X.env.scope x) (r:RelV v u)
    (h:∀ s',Inv X pins (σ.set i (some v)) H s'→Q () s') (hf:X.fn x = true ∨ X.env.scope.names.lookup x = some .local:=by first | exact .inl rfl | exact .inr rfl | assumption):wpAny M A (storeName X.env x u) Q E s:=
  store_ok2 I hN hi hx r (fun s' I' _=>h s' I') hf
theorem Inv.call' {s':Shared} {ch:List Addr} (I:Inv X pins σ H s) (ho:s'.os = s.os) (u:Un (frs X.stack) ch H H' s.heap s'.heap) (hok:HOk X.prog X.w H' s'.heap) (hg:AllBare s'.gens)
    (hch:∀ b ∈ ch,(b ∈ X.ex ∨ X.s₀.heap.objs.size ≤ b)∧b ≠ X.env.locals∧(∀ x c,X.env.cells.lookup x = some c→c ≠ b)∧∀ p ∈ X.pn ++ pins,p.1 ≠ b):Inv X pins σ H' s':=by
  obtain ⟨h',g',d',t',o'⟩:=s'
  have e:o' = s.os:=ho
  subst e
  exact I.call (g':=g') (t':=t') (d':=d') u hok hg hch
end
abbrev XK:=Value→Option Addr→Hp→Prop
abbrev St:=List (Option V)
abbrev VK:=V→Hp→Prop
abbrev TE:=St→Hp→VK→Prop
abbrev TT:=St→Hp→(Bool→Hp→Prop)→Prop
abbrev TA:=St→Hp→(List V→Hp→Prop)→Prop
structure Ends where
  nx:St→Hp→Prop
  rt:VK
  bk:St→Hp→Prop:=fun _ _=>False
  ct:St→Hp→Prop:=fun _ _=>False
abbrev TS:=Ends→St→Hp→Prop
def EP (X:Cx) (pins:List (Addr × Obj)) (σ:St) (Q:VK) (u:Value) (s':Shared):Prop:=∃ v H',Inv X pins σ H' s'∧RelV v u∧Q v H'
def TP (X:Cx) (pins:List (Addr × Obj)) (σ:St) (Q:Bool→Hp→Prop) (b:Bool) (s':Shared):Prop:=∃ H',Inv X pins σ H' s'∧Q b H'
def AP (X:Cx) (pins:List (Addr × Obj)) (σ:St) (Q:List V→Hp→Prop) (us:List Value) (s':Shared):Prop:=∃ vs H',Inv X pins σ H' s'∧Vals vs us∧Q vs H'
def SP (X:Cx) (pins:List (Addr × Obj)) (D:Ends) (f:Flow) (s':Shared):Prop:=
  match f with
  | .next=>∃ σ' H',Inv X pins σ' H' s'∧D.nx σ' H'
  | .brk=>∃ σ' H',Inv X pins σ' H' s'∧D.bk σ' H'
  | .cont=>∃ σ' H',Inv X pins σ' H' s'∧D.ct σ' H'
  | .ret u=>∃ v σ' H',Inv X pins σ' H' s'∧RelV v u∧D.rt v H'
def PE (X:Cx) (e:Expr) (t:TE):Prop:=
  ∀ (pins:List (Addr × Obj)) (s:Shared) (σ:St) (H:Hp) (Q:VK),Inv X pins σ H s→t σ H Q→wpAny (model X.prog X.w) X.A (eval e X.env) (EP X pins σ Q) X.xe s
def PT (X:Cx) (e:Expr) (t:TT):Prop:=
  ∀ (pins:List (Addr × Obj)) (s:Shared) (σ:St) (H:Hp) (Q:Bool→Hp→Prop),Inv X pins σ H s→t σ H Q→wpAny (model X.prog X.w) X.A (isTrue e X.env (eval e X.env)) (TP X pins σ Q) X.xe s
def PW (X:Cx) (e:Expr) (t:TT):Prop:=
  ∀ (whole:Sem Value) (pins:List (Addr × Obj)) (s:Shared) (σ:St) (H:Hp) (Q:Bool→Hp→Prop),Inv X pins σ H s→t σ H Q→wpAny (model X.prog X.w) X.A (isTrue e X.env whole) (TP X pins σ Q) X.xe s
theorem PW.pt {X:Cx} {e:Expr} {t:TT} (h:PW X e t):PT X e t:=h _
def PA (X:Cx) (es:List Expr) (t:TA):Prop:=
  ∀ (pos:Pos) (pins:List (Addr × Obj)) (s:Shared) (σ:St) (H:Hp) (Q:List V→Hp→Prop),Inv X pins σ H s→t σ H Q→wpAny (model X.prog X.w) X.A (spliced (backTo pos (starEach es X.env))) (AP X pins σ Q) X.xe s
def PS (X:Cx) (st:Stmt) (t:TS):Prop:=
  ∀ (pins:List (Addr × Obj)) (s:Shared) (σ:St) (H:Hp) (D:Ends),Inv X pins σ H s→t D σ H→wpAny (model X.prog X.w) X.A (exec st X.env) (SP X pins D) X.xe s
def PSs (X:Cx) (st:List Stmt) (t:TS):Prop:=
  ∀ (pins:List (Addr × Obj)) (s:Shared) (σ:St) (H:Hp) (D:Ends),Inv X pins σ H s→t D σ H→wpAny (model X.prog X.w) X.A (execs st X.env) (SP X pins D) X.xe s
theorem thn {α:Type} {t:Sem α} {Q Q':α→Shared→Prop} {M:Model} {A:Around} {E:Value→Shared→Prop} {s:Shared} (h:wpAny M A t Q E s) (hQ:∀ a s,Q a s→Q' a s):wpAny M A t Q' E s:=wpAny_mono h hQ fun _ _ x=>x
end L2
namespace L2
open PySem PySem.Spec PyProof.Rows
section
variable {X:Cx}
theorem bin {a b:Expr} {ta tb:TE} (ha:PE X a ta) (hb:PE X b tb) {pins:List (Addr × Obj)} {s:Shared} {σ:St} {H:Hp} {R:V→V→Hp→Prop} (I:Inv X pins σ H s) (h:ta σ H fun x H1=>tb σ H1 fun y H2=>R x y H2)
    {α:Type} {Q:α→Shared→Prop} {f:Value→Value→Sem α}
    (hf:∀ v u s2 x y H2,Inv X pins σ H2 s2→RelV x v→RelV y u→R x y H2→wpAny (model X.prog X.w) X.A (f v u) Q X.xe s2) :
    wpAny (model X.prog X.w) X.A (eval a X.env) (fun v s₁=>wpAny (model X.prog X.w) X.A (eval b X.env) (fun u s₂=>wpAny (model X.prog X.w) X.A (f v u) Q X.xe s₂) X.xe s₁) X.xe s:=by
  refine thn (ha pins s σ H _ I h) fun v s1 ⟨x,H1,I1,r1,q1⟩=>?_
  refine thn (hb pins s1 σ H1 _ I1 q1) fun u s2 ⟨y,H2,I2,r2,q2⟩=>?_
  exact hf v u s2 x y H2 I2 r1 r2 q2
def tVar (i:Nat):TE:=fun σ H Q=>∃ v,σ[i]? = some (some v)∧Q v H
def tC (v:V):TE:=fun _ H Q=>Q v H
theorem pe_var {i:Nat} {x:Str} {pos:Pos} (hN:X.N[i]? = some x) (hv:Vis X.env.scope x) (hd:(x == ("__debug__":Str)) = false:=by decide) (hcd:(x == ("__classdict__":Str)) = false:=by decide):PE X (.Name x pos) (tVar i):=by
  intro pins s σ H Q I h
  obtain ⟨v,e,h⟩:=h
  obtain ⟨m,hn,hl⟩:=I.loc
  obtain ⟨u,r,l⟩:=hl i x v hN e hv
  have fin:EP X pins σ Q u s:=⟨v,H,I,r,h⟩
  rcases l with ⟨hk,hm⟩ | ⟨hk,c,hc,hcell⟩
  · exact wpAny_Name (wpAny_loadName_local I.ok.kind hk hn hm fin) hd
  · rcases hk with hk | hk
    · exact wpAny_Name (wpAny_loadName_cell I.ok.kind hk hc hcell fin) hd
    · exact wpAny_Name (wpAny_loadName_free I.ok.kind hk hc hcell fin hcd) hd
theorem pe_int {i j pos}:PE X (.Constant (.int i) j pos) (tC (.int i)):=fun _ _ _ H _ I h=>wpAny_Constant_int ⟨.int i,H,I.tok _,⟨_,rfl⟩,h⟩
theorem pe_bl {b j pos}:PE X (.Constant (.bool b) j pos) (tC (.bl b)):=fun _ _ _ H _ I h=>Constant_bool ⟨.bl b,H,I,rfl,h⟩
theorem pe_non {j pos}:PE X (.Constant .none j pos) (tC .non):=fun _ _ _ H _ I h=>Constant_none ⟨.non,H,I,rfl,h⟩
theorem pe_str {x j pos}:PE X (.Constant (.str x) j pos) (tC (.str x)):=fun _ _ _ H _ I h=>Calls.Constant_str ⟨.str x,H,I.tok _,⟨_,rfl⟩,h⟩
def Gl (X:Cx) (x:Str):Prop:=X.env.kindOf x = some .globalImplicit
theorem ld_glob {E:Value→Shared→Prop} {pins:List (Addr × Obj)} {s:Shared} {σ:St} {H:Hp} {x:Str} {u:Value} {pos:Pos} {Q:Value→Shared→Prop} (I:Inv X pins σ H s) (hg:Gl X x) (hm:X.mg x = some u) (h:Q u s)
    (hd:(x == ("__debug__":Str)) = false:=by decide):wpAny (model X.prog X.w) X.A (eval (.Name x pos) X.env) Q E s:=
  Calls.Name_function_global I.ok.kind hg (Calls.loadGlobal_global (by rw [I.ok.glob]; exact I.mod.glob.keeps I.bk) hm h) hd
theorem ld_blt {E:Value→Shared→Prop} {pins:List (Addr × Obj)} {s:Shared} {σ:St} {H:Hp} {x:Str} {u:Value} {pos:Pos} {Q:Value→Shared→Prop} (I:Inv X pins σ H s) (hg:Gl X x) (hm:X.mg x = none) (hv:bootBuiltins x = some u) (h:Q u s)
    (hn:x ≠ "__name__":=by decide) (hd:(x == ("__debug__":Str)) = false:=by decide):wpAny (model X.prog X.w) X.A (eval (.Name x pos) X.env) Q E s:=by
  obtain ⟨mb,h1,h2⟩:=I.mod.blt
  exact Calls.Name_function_global I.ok.kind hg (Calls.loadGlobal_builtin (by rw [I.ok.glob]; exact I.mod.glob.keeps I.bk) hm (by rw [I.ok.blt]; exact h1.keeps I.bk) ((h2 x hn).trans hv) h) hd
theorem pe_glob {x:Str} {v:V} {u:Value} {pos:Pos} (hg:Gl X x) (hm:X.mg x = some u) (r:RelV v u) (hd:(x == ("__debug__":Str)) = false:=by decide):PE X (.Name x pos) (tC v):=
  fun _ _ _ H _ I h=>ld_glob I hg hm ⟨v,H,I,r,h⟩ hd
theorem pe_bltn {x:Str} {v:V} {u:Value} {pos:Pos} (hg:Gl X x) (hm:X.mg x = none) (hv:bootBuiltins x = some u) (r:RelV v u) (hn:x ≠ "__name__":=by decide) (hd:(x == ("__debug__":Str)) = false:=by decide):PE X (.Name x pos) (tC v):=
  fun _ _ _ H _ I h=>ld_blt I hg hm hv ⟨v,H,I,r,h⟩ hn hd
variable {a b:Expr} {ta tb:TE} {pos:Pos}
def PC (X:Cx) (op:CmpOp) (a b:Expr) (t:TE):Prop:=
  ∀ (pins:List (Addr × Obj)) (s:Shared) (σ:St) (H:Hp) (Q:VK),Inv X pins σ H s→t σ H Q→
    wpAny (model X.prog X.w) X.A (eval a X.env) (fun v s₁=>wpAny (model X.prog X.w) X.A (eval b X.env) (fun u s₂=>wpAny (model X.prog X.w) X.A (compareOp op v u) (EP X pins σ Q) X.xe s₂) X.xe s₁) X.xe s
def tB (t:TE):TT:=fun σ H Q=>t σ H fun x H1=>∃ c,x = .bl c∧Q c H1
theorem pt_cmp {op:CmpOp} {t:TE} (h:PC X op a b t) (h1:behindInMarks op b = false:=by first | exact nobehind _ (by decide) (by decide) | rfl):PT X (.Compare a [op] [b] pos) (tB t):=by
  intro pins s σ H Q I hw
  refine wpAny_isTrue_Compare1 (thn (h pins s σ H _ I hw) fun v s1 h1=>thn h1 fun u s2 h2=>thn h2 fun c s3 ⟨x,H1,I1,r1,q1⟩=>?_) h1
  obtain ⟨d,rfl,q⟩:=q1
  cases r1
  exact wpAny_truthy_bool ⟨H1,I1,q⟩
theorem pt_val {e:Expr} {t:TE} (h:PE X e t) (he:∀ whole,isTrue e X.env whole = (do let v ← whole; standAt e.pos; holding [v] (truthy v)):=by intro _; rfl):PT X e (tB t):=by
  intro pins s σ H Q I hw
  refine isTrue_plain (thn (h pins s σ H _ I hw) fun v s1 ⟨x,H1,I1,r1,q1⟩=>?_) (he _)
  obtain ⟨d,rfl,q⟩:=q1
  cases r1
  exact wpAny_truthy_bool ⟨H1,I1,q⟩
variable {tA tB':TT} {rest:List Expr}
def tAnd (t u:TT):TT:=fun σ H Q=>t σ H fun c H1=>if c = true then u σ H1 Q else Q false H1
def tOr (t u:TT):TT:=fun σ H Q=>t σ H fun c H1=>if c = true then Q true H1 else u σ H1 Q
def tNot (t:TT):TT:=fun σ H Q=>t σ H fun c H1=>Q (!c) H1
theorem pw_and1 (ha:PT X a tA):PW X (.BoolOp .And [a] pos) tA:=by
  intro wh pins s σ H Q I h
  refine isTrue_and (thn (ha pins s σ H Q I h) fun c s1 e=>?_)
  cases c with
  | true=>exact isTrue_and_nil e
  | false=>exact e
theorem pw_or1 (ha:PT X a tA):PW X (.BoolOp .Or [a] pos) tA:=by
  intro wh pins s σ H Q I h
  refine isTrue_or (thn (ha pins s σ H Q I h) fun c s1 e=>?_)
  cases c with
  | false=>exact isTrue_or_nil e
  | true=>exact e
theorem pw_and (ha:PT X a tA) (hb:PW X (.BoolOp .And (b :: rest) pos) tB'):PW X (.BoolOp .And (a :: b :: rest) pos) (tAnd tA tB'):=by
  intro wh pins s σ H Q I h
  refine isTrue_and (thn (ha pins s σ H _ I h) fun c s1 ⟨H1,I1,q1⟩=>?_)
  cases c with
  | true=>exact hb wh pins s1 σ H1 Q I1 q1
  | false=>exact ⟨H1,I1,q1⟩
theorem pw_or (ha:PT X a tA) (hb:PW X (.BoolOp .Or (b :: rest) pos) tB'):PW X (.BoolOp .Or (a :: b :: rest) pos) (tOr tA tB'):=by
  intro wh pins s σ H Q I h
  refine isTrue_or (thn (ha pins s σ H _ I h) fun c s1 ⟨H1,I1,q1⟩=>?_)
  cases c with
  | true=>exact ⟨H1,I1,q1⟩
  | false=>exact hb wh pins s1 σ H1 Q I1 q1
theorem pt_not (ha:PT X a tA):PT X (.UnaryOp .Not a pos) (tNot tA):=by
  intro pins s σ H Q I h
  exact isTrue_not (ha pins s σ H (fun c H1=>Q (!c) H1) I h)
def tAndV (ta tb:TE):TE:=fun σ H Q=>ta σ H fun x H1=>∃ c,x = .bl c∧if c = true then tb σ H1 Q else Q (.bl false) H1
def tNotV (ta:TE):TE:=fun σ H Q=>ta σ H fun x H1=>∃ c,x = .bl c∧Q (.bl (!c)) H1
theorem pe_one {op} {t:TE} (h:PE X a t):PE X (.BoolOp op [a] pos) t:=fun pins s σ H Q I hw=>BoolOp_one (h pins s σ H Q I hw)
theorem pe_and (ha:PE X a ta) (hb:PE X (.BoolOp .And (b :: rest) pos) tb):PE X (.BoolOp .And (a :: b :: rest) pos) (tAndV ta tb):=by
  intro pins s σ H Q I h
  refine BoolOp_and (thn (ha pins s σ H _ I h) fun v s1 ⟨x,H1,I1,r1,q1⟩=>?_)
  obtain ⟨c,rfl,q1⟩:=q1
  cases r1
  refine wpAny_truthy_bool ?_
  cases c with
  | true=>exact hb pins s1 σ H1 Q I1 q1
  | false=>exact ⟨.bl false,H1,I1,rfl,q1⟩
theorem pe_not (ha:PE X a ta):PE X (.UnaryOp .Not a pos) (tNotV ta):=by
  intro pins s σ H Q I h
  refine UnaryOp_ (thn (ha pins s σ H _ I h) fun v s1 ⟨x,H1,I1,r1,q1⟩=>?_)
  obtain ⟨c,rfl,q1⟩:=q1
  cases r1
  exact not_of (wpAny_truthy_bool ⟨.bl (!c),H1,I1,rfl,q1⟩)
end
end L2
namespace L2
open PySem PySem.Spec PyProof.Rows
def SqL (K:PySem.W.Frag) (H:Hp) (a:Addr) (xs:List V):Prop:=
  Rd H a (.lst xs) ∨
    ∃ (o:Obj) (its:Array Value) (n:Nat),K.lookup a = some o∧o.cls = .type "list"∧o.dict = none∧o.data = .seq its n∧its.size ≤ sizeLine∧Vals xs its.toList
def SqT (K:PySem.W.Frag) (H:Hp) (a:Addr) (xs:List V):Prop:=
  Rd H a (.tup xs) ∨
    ∃ (o:Obj) (its:Array Value) (n:Nat),K.lookup a = some o∧o.cls = .type "tuple"∧o.data = .seq its n∧its.size ≤ sizeLine∧Vals xs its.toList
def absV:Value→Option V
  | .none=>some .non
  | .bool b=>some (.bl b)
  | .int i _=>some (.int i)
  | .str x _=>some (.str x)
  | .bytes b _=>some (.byt b)
  | .float b _=>some (.flt b)
  | .ref a=>some (.ref a)
  | .type n=>some (.ty n)
  | _=>none
theorem RelV.abs {x:V} {u:Value} (r:RelV x u):absV u = some x:=by
  cases x with
  | non=>cases r; rfl
  | bl _=>cases r; rfl
  | int _=>obtain ⟨t,rfl⟩:=r; rfl
  | str _=>obtain ⟨t,rfl⟩:=r; rfl
  | byt _=>obtain ⟨t,rfl⟩:=r; rfl
  | flt _=>obtain ⟨t,rfl⟩:=r; rfl
  | ref _=>cases r; rfl
  | ty _=>cases r; rfl
theorem RelV.inj {x y:V} {u:Value} (r:RelV x u) (q:RelV y u):x = y:=Option.some.inj (r.abs.symm.trans q.abs)
theorem Vals.inj:∀ {xs ys:List V} {us:List Value},Vals xs us→Vals ys us→xs = ys
  | _,_,_,.nil,.nil=>rfl
  | _,_,_,.cons r t,.cons r' t'=>by rw [r.inj r',Vals.inj t t']
section
variable {X:Cx} {pins:List (Addr × Obj)} {σ:St} {H:Hp} {s:Shared} {a:Addr} {xs ys:List V}
theorem SqL.of {K:PySem.W.Frag} (h:H a = some (.lst xs)):SqL K H a xs:=.inl (.inl h)
theorem SqT.of {K:PySem.W.Frag} (h:H a = some (.tup xs)):SqT K H a xs:=.inl (.inl h)
theorem Inv.list (I:Inv X pins σ H s) (h:SqL X.K H a xs):∃ its:List Value,Vals xs its∧PlainL s.heap a its.toArray∧xs.length ≤ sizeLine:=by
  rcases h with h | ⟨o,its,n,hk,hc,hd,hs,hz,r⟩
  · obtain ⟨z,its,n,r,e⟩:=h.ok I.hok
    exact ⟨its,r,⟨_,n,e,rfl,rfl,rfl⟩,z⟩
  · refine ⟨its.toList,r,⟨o,n,I.kIn a o hk,hc,hd,by simpa using hs⟩,?_⟩
    have e:=r.length
    simp only [Array.length_toList] at e
    omega
theorem Inv.tuple (I:Inv X pins σ H s) (h:SqT X.K H a xs):∃ its:List Value,Vals xs its∧IsTup s.heap a its.toArray∧xs.length ≤ sizeLine:=by
  rcases h with h | ⟨o,its,n,hk,hc,hs,hz,r⟩
  · obtain ⟨z,its,r,p⟩:=h.ok I.hok
    exact ⟨its,r,p,z⟩
  · refine ⟨its.toList,r,⟨o,I.kIn a o hk,hc,n,by simpa using hs⟩,?_⟩
    have e:=r.length
    simp only [Array.length_toList] at e
    omega
theorem Inv.list_inj (I:Inv X pins σ H s) (h:SqL X.K H a xs) (h':SqL X.K H a ys):xs = ys:=by
  obtain ⟨its,r,⟨o,n,e,_,_,d⟩,_⟩:=I.list h
  obtain ⟨its',r',⟨o',n',e',_,_,d'⟩,_⟩:=I.list h'
  rw [e] at e'; cases e'
  rw [d] at d'
  injection d' with d1 _
  have:its = its':=by simpa using congrArg Array.toList d1
  subst this
  exact r.inj r'
theorem Inv.tuple_inj (I:Inv X pins σ H s) (h:SqT X.K H a xs) (h':SqT X.K H a ys):xs = ys:=by
  obtain ⟨its,r,⟨o,e,_,n,d⟩,_⟩:=I.tuple h
  obtain ⟨its',r',⟨o',e',_,n',d'⟩,_⟩:=I.tuple h'
  rw [e] at e'; cases e'
  rw [d] at d'
  injection d' with d1 _
  have:its = its':=by simpa using congrArg Array.toList d1
  subst this
  exact r.inj r'
end
abbrev Cx.wish (X:Cx) (E:Value→Shared→Prop):Cx:={ X with xe:=E }
abbrev Cx.nox (X:Cx):Cx:=X.wish fun _ _=>False
theorem Cx.Ok.wish {X:Cx} (ok:X.Ok) (E:Value→Shared→Prop):(X.wish E).Ok:=
  ⟨ok.mod,ok.kind,ok.glob,ok.blt,ok.above,ok.inj,ok.has,ok.cab,ok.hd,ok.frames,ok.stk,ok.exf,ok.bs,ok.bsz,ok.noex,ok.exfs,ok.funs,ok.frf⟩
theorem Cx.Ok.unwish {X:Cx} {E:Value→Shared→Prop} (ok:(X.wish E).Ok):X.Ok:=
  ⟨ok.mod,ok.kind,ok.glob,ok.blt,ok.above,ok.inj,ok.has,ok.cab,ok.hd,ok.frames,ok.stk,ok.exf,ok.bs,ok.bsz,ok.noex,ok.exfs,ok.funs,ok.frf⟩
section
variable {X:Cx} {pins:List (Addr × Obj)} {σ:St} {H:Hp} {s:Shared} {E:Value→Shared→Prop}
theorem Inv.wish (I:Inv X pins σ H s) (E:Value→Shared→Prop):Inv (X.wish E) pins σ H s:=⟨I.ok.wish E,I.os,I.bare,I.base,I.loc,I.cell,I.free,I.freeC,I.pin,I.hok,I.len⟩
theorem Inv.unwish (I:Inv (X.wish E) pins σ H s):Inv X pins σ H s:=⟨I.ok.unwish,I.os,I.bare,I.base,I.loc,I.cell,I.free,I.freeC,I.pin,I.hok,I.len⟩
theorem SP.unwish {D:Ends} {f:Flow} {s':Shared} (h:SP (X.wish E) pins D f s'):SP X pins D f s':=by
  cases f with
  | next=>obtain ⟨σ',H',I,q⟩:=h; exact ⟨σ',H',I.unwish,q⟩
  | brk=>obtain ⟨σ',H',I,q⟩:=h; exact ⟨σ',H',I.unwish,q⟩
  | cont=>obtain ⟨σ',H',I,q⟩:=h; exact ⟨σ',H',I.unwish,q⟩
  | ret u=>obtain ⟨v,σ',H',I,r,q⟩:=h; exact ⟨v,σ',H',I.unwish,r,q⟩
theorem PSs.nox {st:List Stmt} {t:TS} (h:PSs X.nox st t):PSs X st t:=fun pins s σ H D I hw=>
  wpAny_mono (h pins s σ H D (I.wish _) hw) (fun _ _ q=>q.unwish) fun _ _ z=>False.elim z
end
section
variable {X:Cx} {st:Stmt} {rest:List Stmt} {t u:TS} {e:Expr} {te:TE} {pos:Pos}
def tNext:TS:=fun D σ H=>D.nx σ H
def tSeq (t u:TS):TS:=fun D σ H=>t { D with nx:=u D } σ H
theorem pss_nil:PSs X [] tNext:=fun _ _ σ H _ I h=>wpAny_execs_nil ⟨σ,H,I,h⟩
theorem pss_cons (h1:PS X st t) (h2:PSs X rest u):PSs X (st :: rest) (tSeq t u):=by
  intro pins s σ H D I h
  refine wpAny_execs_cons (thn (h1 pins s σ H { D with nx:=u D } I h) fun f s1 q=>?_)
  cases f with
  | next=>
    obtain ⟨σ',H',I',q⟩:=q
    exact h2 pins s1 σ' H' D I' q
  | ret v=>exact q
  | brk=>exact q
  | cont=>exact q
theorem pss_one (h1:PS X st t):PSs X [st] t:=by
  intro pins s σ H D I h
  refine wpAny_execs_cons (thn (h1 pins s σ H D I h) fun f s1 q=>?_)
  cases f with
  | next=>exact wpAny_execs_nil q
  | ret v=>exact q
  | brk=>exact q
  | cont=>exact q
def tBreak:TS:=fun D σ H=>D.bk σ H
theorem ps_break:PS X (.Break pos) tBreak:=fun _ _ σ H _ I h=>wpAny_Break ⟨σ,H,I,h⟩
theorem Inv.quiet {pins:List (Addr × Obj)} {σ:St} {H:Hp} {s:Shared} (I:Inv X pins σ H s):interactive X.env = false:=by simp [interactive,I.ok.kind]
def tDrop (te:TE):TS:=fun D σ H=>te σ H fun _ H1=>D.nx σ H1
theorem ps_expr (he:PE X e te) (hs:swapsWith e none pos.line X.env = pure false:=by rfl):PS X (.Expr e pos) (tDrop te):=by
  intro pins s σ H D I h
  exact wpAny_Expr_any (thn (he pins s σ H _ I h) fun v s1 ⟨x,H1,I1,r1,q1⟩=>⟨σ,H1,I1,q1⟩) I.quiet hs
def tRet (te:TE):TS:=fun D σ H=>te σ H D.rt
theorem ps_ret (he:PE X e te):PS X (.Return (some e) pos) (tRet te):=by
  intro pins s σ H D I h
  exact wpAny_Return_some (thn (he pins s σ H _ I h) fun v s1 ⟨x,H1,I1,r1,q1⟩=>⟨x,σ,H1,I1,r1,q1⟩)
def tIfS (c:TT) (t u:TS):TS:=fun D σ H=>c σ H fun b H1=>if b = true then t D σ H1 else u D σ H1
theorem ps_if {c:Expr} {a b:List Stmt} {tc:TT} (hc:PT X c tc) (ha:PSs X a t) (hb:PSs X b u):PS X (.If c a b pos) (tIfS tc t u):=by
  intro pins s σ H D I h
  refine wpAny_If (thn (hc pins s σ H _ I h) fun d s1 ⟨H1,I1,q1⟩=>?_)
  cases d with
  | true=>exact ha pins s1 σ H1 D I1 q1
  | false=>exact hb pins s1 σ H1 D I1 q1
def tNever:TS:=fun _ _ _=>False
theorem pss_never {sts:List Stmt}:PSs X sts tNever:=fun _ _ _ _ _ _ h=>h.elim
end
abbrev TG:=V→St→Hp→(St→Hp→Prop)→Prop
abbrev TGs:=List V→St→Hp→(St→Hp→Prop)→Prop
def PG (X:Cx) (target:Expr) (t:TG):Prop:=
  ∀ (pins:List (Addr × Obj)) (s:Shared) (σ:St) (H:Hp) (v:V) (u:Value) (Q:St→Hp→Prop),Inv X pins σ H s→RelV v u→t v σ H Q→
    wpAny (model X.prog X.w) X.A (assign target X.env u) (fun _ s'=>∃ σ' H',Inv X pins σ' H' s'∧Q σ' H') X.xe s
def PGs (X:Cx) (ts:List Expr) (t:TGs):Prop:=
  ∀ (pins:List (Addr × Obj)) (s:Shared) (σ:St) (H:Hp) (vs:List V) (us:List Value) (Q:St→Hp→Prop),Inv X pins σ H s→Vals vs us→t vs σ H Q→
    wpAny (model X.prog X.w) X.A (assignInOrder ((assignEach ts X.env).map (·.2)) us) (fun _ s'=>∃ σ' H',Inv X pins σ' H' s'∧Q σ' H') X.xe s
abbrev TSet:=V→V→V→Hp→(Hp→Prop)→Prop
def PSet (X:Cx) (t:TSet):Prop:=
  ∀ (pins:List (Addr × Obj)) (s:Shared) (σ:St) (H:Hp) (o i v:V) (ov iv u:Value) (Q:Hp→Prop),Inv X pins σ H s→RelV o ov→RelV i iv→RelV v u→t o i v H Q→
    wpAny (model X.prog X.w) X.A (setItem ov iv u) (fun _ s'=>∃ H',Inv X pins σ H' s'∧Q H') X.xe s
abbrev TIp:=V→V→Hp→VK→Prop
def PIp (X:Cx) (op:Operator) (t:TIp):Prop:=
  ∀ (pins:List (Addr × Obj)) (s:Shared) (σ:St) (H:Hp) (x y:V) (v u:Value) (Q:VK),Inv X pins σ H s→RelV x v→RelV y u→t x y H Q→
    wpAny (model X.prog X.w) X.A (inplaceOp op v u) (EP X pins σ Q) X.xe s
section
variable {X:Cx} {pos:Pos}
def gName (i:Nat):TG:=fun v σ H Q=>Q (σ.set i (some v)) H
theorem pg_name {i:Nat} {x:Str} (hN:X.N.Nodup) (hi:X.N[i]? = some x) (hx:Loc X.env.scope x) (hf:X.fn x = true ∨ X.env.scope.names.lookup x = some .local:=by first | exact .inl rfl | exact .inr rfl | assumption):PG X (.Name x pos) (gName i):=by
  intro pins s σ H v u Q I r h
  exact wpAny_assign_Name (store_ok I hN hi hx r (fun s' I'=>⟨_,H,I',h⟩) hf)
def gNil:TGs:=fun vs σ H Q=>vs = []∧Q σ H
def gCons (t:TG) (u:TGs):TGs:=fun vs σ H Q=>∃ v r,vs = v :: r∧t v σ H fun σ' H'=>u r σ' H' Q
theorem pgs_nil:PGs X [] gNil:=by
  intro pins s σ H vs us Q I r h
  obtain ⟨e,h⟩:=h
  subst e
  cases r
  exact assignInOrder_nil ⟨σ,H,I,h⟩
theorem pgs_cons {e:Expr} {es:List Expr} {t:TG} {u:TGs} (h1:PG X e t) (h2:PGs X es u)
    (hs:(assignEach (e :: es) X.env).map (·.2) = assign e X.env :: (assignEach es X.env).map (·.2):=by rfl):PGs X (e :: es) (gCons t u):=by
  intro pins s σ H vs us Q I r h
  obtain ⟨v,vr,e1,h⟩:=h
  subst e1
  cases r with
  | cons r rr=>
    rw [hs]
    refine assignInOrder_cons (thn (h1 pins s σ H _ _ _ I r h) fun _ s1 ⟨σ1,H1,I1,q1⟩=>?_)
    exact h2 pins s1 σ1 H1 _ _ Q I1 rr q1
def gTup (K:PySem.W.Frag) (n:Nat) (t:TGs):TG:=fun v σ H Q=>∃ a xs,v = .ref a∧SqT K H a xs∧xs.length = n∧t xs σ H Q
theorem pg_tup {es:List Expr} {k:Nat} {t:TGs} {n:Nat} (hc:X.calm = true) (h:PGs X es t)
    (hn:(assignEach es X.env).length = n:=by rfl) (hst:(assignEach es X.env).findIdx? (·.1) = none:=by rfl):PG X (.Tuple es k pos) (gTup X.K n t):=by
  intro pins s σ H v u Q I r hw
  obtain ⟨a,xs,e1,hq,hl,hw⟩:=hw
  subst e1
  cases r
  obtain ⟨its,rv,ht,hz⟩:=I.tuple hq
  refine assign_Tuple_tuple (I.ok.hd hc) ht (by simp [hn,← hl,rv.length]) hst fun h' hx=>?_
  have I1:Inv X pins σ H { s with heap:=h' }:=I.kept (t':=s.toks) fun b o e=>hx b o (Nat.ne_of_lt (Heap.lt_size e)) e
  exact h pins _ σ H xs _ Q I1 (by simpa using rv) hw
def gSub (to ti:TE) (t:TSet):TG:=fun v σ H Q=>to σ H fun o H1=>ti σ H1 fun i H2=>t o i v H2 fun H3=>Q σ H3
theorem pg_sub {o i:Expr} {to ti:TE} {t:TSet} (ho:PE X o to) (hi:PE X i ti) (hs:PSet X t)
    (ha:∀ v,assign (.Subscript o i pos) X.env v = (do
      let ov ← holding [v] (eval o X.env)
      let iv ← holding [v,ov] (eval i X.env)
      standAt pos
      holding [v,ov,iv] (setItem ov iv v)
      release [v,ov,iv] []):=by intro _; rfl):PG X (.Subscript o i pos) (gSub to ti t):=by
  intro pins s σ H v u Q I r h
  rw [ha]
  refine wpAny_bind (wpAny_holding (thn (ho pins s σ H _ I h) fun ov s1 ⟨x,H1,I1,r1,q1⟩=>?_))
  refine wpAny_bind (wpAny_holding (thn (hi pins s1 σ H1 _ I1 q1) fun iv s2 ⟨y,H2,I2,r2,q2⟩=>?_))
  refine wpAny_bind (wpAny_standAt (wpAny_bind (wpAny_holding (thn (hs pins s2 σ H2 x y v ov iv u _ I2 r1 r2 r q2) fun _ s3 ⟨H3,I3,q3⟩=>?_))))
  exact wpAny_release ⟨σ,H3,I3,q3⟩
def tAsg (te:TE) (g:TG):TS:=fun D σ H=>te σ H fun x H1=>g x σ H1 D.nx
theorem ps_asg {tg e:Expr} {te:TE} {g:TG} (he:PE X e te) (hg:PG X tg g) (hs:swapsWithSole [tg] e pos.line X.env = pure false:=by rfl) (hw:swappedStores [tg] e X.env = pure none:=by rfl)
    (h1:(assignEach [tg] X.env).map (·.2) = [assign tg X.env]:=by rfl):PS X (.Assign [tg] e pos) (tAsg te g):=by
  intro pins s σ H D I h
  refine wpAny_Assign_stores (thn (he pins s σ H _ I h) fun v s1 ⟨x,H1,I1,r1,q1⟩=>?_) hs hw
  rw [h1]
  exact thn (hg pins s1 σ H1 x v _ I1 r1 q1) fun _ s2 q=>q
theorem ps_set {i:Nat} {x:Str} {e:Expr} {te:TE} {pos':Pos} (hN:X.N.Nodup) (hi:X.N[i]? = some x) (hx:Loc X.env.scope x) (he:PE X e te) (hs:swapsWith e (some (.Name x pos')) pos.line X.env = pure false:=by rfl) (hf:X.fn x = true ∨ X.env.scope.names.lookup x = some .local:=by first | exact .inl rfl | exact .inr rfl | assumption) :
    PS X (.Assign [.Name x pos'] e pos) (tAsg te (gName i)):=by
  intro pins s σ H D I h
  refine wpAny_Assign_Name (thn (he pins s σ H _ I h) fun v s1 ⟨y,H1,I1,r1,q1⟩=>?_) hs
  exact store_ok I1 hN hi hx r1 (fun s2 I2=>⟨_,H1,I2,q1⟩) hf
def tPar (i j:Nat) (ta:TA):TS:=fun D σ H=>ta σ H fun vs H1=>∃ v w,vs = [v,w]∧D.nx ((σ.set i (some v)).set j (some w)) H1
theorem ps_par {i j:Nat} {x y:Str} {a b:Expr} {ta:TA} {px py pt:Pos} {kt k2 pt2} (hc:X.calm = true) (hN:X.N.Nodup) (hi:X.N[i]? = some x) (hj:X.N[j]? = some y) (hij:i ≠ j)
    (hx:X.env.scope.names.lookup x = some .local) (hy:X.env.scope.names.lookup y = some .local) (ha:PA X [a,b] ta)
    (hw:swappedStores [.Tuple [.Name x px,.Name y py] kt pt] (.Tuple [a,b] k2 pt2) X.env = pure (some [x,y]))
    (hs:swapsWithSole [.Tuple [.Name x px,.Name y py] kt pt] (.Tuple [a,b] k2 pt2) pos.line X.env = pure false:=by rfl) :
    PS X (.Assign [.Tuple [.Name x px,.Name y py] kt pt] (.Tuple [a,b] k2 pt2) pos) (tPar i j ta):=by
  intro pins s σ H D I h
  rw [exec_Assign_arm]
  refine wpAny_bind (wpAny_standAt ?_)
  rw [hs]
  refine wpAny_bind (wpAny_pure ?_)
  rw [if_neg (by decide)]
  refine wpAny_bind (Tuple_ (thn (ha _ pins s σ H _ I h) fun us s1 ⟨vs,H1,I1,r1,q1⟩=>?_))
  obtain ⟨v,w,e1,q1⟩:=q1
  subst e1
  obtain ⟨u1,u2,rfl,rv,rw'⟩:∃ u1 u2,us = [u1,u2]∧RelV v u1∧RelV w u2:=by
    cases r1 with
    | cons p q=>
      cases q with
      | cons p' q'=>
        cases q'
        exact ⟨_,_,rfl,p,p'⟩
  refine wpAny_newObj_type ?_ (by show 2 ≤ sizeLine; decide)
  have I2:Inv X pins σ H1 { s1 with heap:=s1.heap.push { cls:=.type "tuple",data:=.seq [u1,u2].toArray } }:=I1.kept (t':=s1.toks) fun b o e=>Heap.get?_push_of_some _ e
  rw [hw]
  refine wpAny_bind (wpAny_pure ?_)
  show wpAny (model X.prog X.w) X.A (do rule "assign.swapped-stores"; let items ← unpackItems (.ref s1.heap.objs.size) 2 none; assignInOrder [fun v=>bindName X.env y v,fun v=>bindName X.env x v] items.reverse; pure Flow.next) _ _ _
  refine wpAny_bind (wpAny_rule (wpAny_bind (unpackItems_tuple (items:=#[u1,u2]) (I.ok.hd hc) (IsTup.new s1.heap _) fun h' hx'=>?_)))
  have I3:=I2.kept (h':=h') (t':=s1.toks) fun b o e=>hx' b o (Nat.ne_of_lt (Heap.lt_size e)) e
  show wpAny _ _ (assignInOrder [fun v=>bindName X.env y v,fun v=>bindName X.env x v] [u2,u1] >>= fun _=>pure Flow.next) _ _ _
  refine wpAny_bind (assignInOrder_cons (wpAny_bindName (store_ok I3 hN hj (.inl hy) rw' (fun s2 I4=>?_) (.inr hy))))
  refine assignInOrder_cons (wpAny_bindName (store_ok I4 hN hi (.inl hx) rv (fun s3 I5=>assignInOrder_nil (wpAny_pure ?_)) (.inr hx)))
  rw [List.set_comm _ _ (Ne.symm hij)] at I5
  exact ⟨_,H1,I5,q1⟩
def tAug (i:Nat) (te:TE) (ti:TIp):TS:=fun D σ H=>∃ x,σ[i]? = some (some x)∧te σ H fun y H1=>ti x y H1 fun z H2=>D.nx (σ.set i (some z)) H2
theorem ps_aug {i:Nat} {x:Str} {e:Expr} {te:TE} {op:Operator} {ti:TIp} {pos':Pos} (hN:X.N.Nodup) (hi:X.N[i]? = some x) (hx:Loc X.env.scope x) (he:PE X e te) (ho:PIp X op ti) (hf:X.fn x = true ∨ X.env.scope.names.lookup x = some .local:=by first | exact .inl rfl | exact .inr rfl | assumption) :
    PS X (.AugAssign (.Name x pos') op e pos) (tAug i te ti):=by
  intro pins s σ H D I h
  obtain ⟨v,e1,h⟩:=h
  obtain ⟨m,hn,hl⟩:=I.loc
  have vis:Vis X.env.scope x:=by rcases hx with k | k; exact .inl k; exact .inr (.inl k)
  obtain ⟨u,r,l⟩:=hl i x v hi e1 vis
  refine wpAny_AugAssign_Name ?_
  have go:wpAny (model X.prog X.w) X.A (eval e X.env) (fun w s₂=>wpAny (model X.prog X.w) X.A (inplaceOp op u w) (fun r s₃=>wpAny (model X.prog X.w) X.A (storeName X.env x r) (fun _=>SP X pins D .next) X.xe s₃) X.xe s₂) X.xe s:=by
    refine thn (he pins s σ H _ I h) fun w s1 ⟨y,H1,I1,r1,q1⟩=>?_
    refine thn (ho pins s1 σ H1 v y u w _ I1 r r1 q1) fun z s2 ⟨zv,H2,I2,r2,q2⟩=>?_
    exact store_ok I2 hN hi hx r2 (fun s3 I3=>⟨_,H2,I3,q2⟩) hf
  rcases l with ⟨hk,hm⟩ | ⟨hk,c,hc,hcell⟩
  · exact wpAny_loadName_local I.ok.kind hk hn hm go
  · rcases hk with hk | hk
    · exact wpAny_loadName_cell I.ok.kind hk hc hcell go
    · rcases hx with k | k
      · have:X.env.scope.names.lookup x = some .free:=hk
        rw [k] at this; cases this
      · have:X.env.scope.names.lookup x = some .free:=hk
        rw [k] at this; cases this
def ipI (f:Int→Int→Int):TIp:=fun x y H Q=>∃ i j,x = .int i∧y = .int j∧Q (.int (f i j)) H
theorem ip_add:PIp X .Add (ipI fun i j=>i + j):=by
  intro pins s σ H x y v u Q I r1 r2 h
  obtain ⟨i,j,e1,e2,q⟩:=h
  subst e1; subst e2
  obtain ⟨t,rfl⟩:=r1
  obtain ⟨t',rfl⟩:=r2
  exact iadd_int ⟨.int _,H,I.tok _,⟨_,rfl⟩,q⟩
end
section
variable {X:Cx} {pos:Pos}
def tWhile (c:TT) (tb:TS):TS:=fun D σ H=>∃ W:Nat→St→Hp→Prop,(∃ m,W m σ H)∧∀ m σ H,W m σ H→
  c σ H fun b H1=>if b = true then ∃ N:St→Hp→Prop,(∀ σ' H',N σ' H'→∃ m',m' < m∧W m' σ' H')∧tb { D with nx:=N,ct:=N,bk:=D.nx } σ H1 else D.nx σ H1
theorem ps_while {c:Expr} {body:List Stmt} {tc:TT} {tb:TS} (hp:PassesOwn (model X.prog X.w) X.A X.env X.xe) (hc:PT X c tc) (hb:PSs X body tb):PS X (.While c body [] pos) (tWhile tc tb):=by
  intro pins s σ H D I h
  obtain ⟨W,⟨m0,w0⟩,turn⟩:=h
  refine wpAny_While (codeAny_whileLoop (fun n s'=>∃ σ' H',Inv X pins σ' H' s'∧W n σ' H') ?_ m0 ⟨σ,H,I,w0⟩)
  rintro n s1 ⟨σ1,H1,I1,w1⟩
  refine wpAny_passesOwn hp (thn (hc pins s1 σ1 H1 _ I1 (turn n σ1 H1 w1)) fun b s2 ⟨H2,I2,q2⟩=>?_)
  cases b with
  | true=>
    obtain ⟨N,hN,q2⟩:=q2
    rw [if_pos rfl]
    refine wpAny_passesOwn hp (thn (hb pins s2 σ1 H2 _ I2 q2) fun f s3 q3=>?_)
    cases f with
    | next=>
      obtain ⟨σ3,H3,I3,n3⟩:=q3
      obtain ⟨m',hm,w3⟩:=hN σ3 H3 n3
      exact ⟨m',hm,σ3,H3,I3,w3⟩
    | cont=>
      obtain ⟨σ3,H3,I3,n3⟩:=q3
      obtain ⟨m',hm,w3⟩:=hN σ3 H3 n3
      exact ⟨m',hm,σ3,H3,I3,w3⟩
    | brk=>exact q3
    | ret v=>exact q3
  | false=>
    rw [if_neg Bool.false_ne_true]
    exact wpAny_execs_nil ⟨σ1,H2,I2,q2⟩
end
structure It where
  go:Nat→Hp→Prop
  yld:Nat→Hp→V→Hp→Prop
  stop:Nat→Hp→Prop
def FpOk (X:Cx) (pins:List (Addr × Obj)) (H:Hp) (b:Addr):Prop:=
  H b = none∧b ≠ X.env.locals∧b ∉ X.fs∧(b ∈ X.ex ∨ X.s₀.heap.objs.size ≤ b)∧(∀ x c,X.env.cells.lookup x = some c→c ≠ b)∧∀ p ∈ X.pn ++ pins,p.1 ≠ b
theorem Inv.fpOk {X:Cx} {pins:List (Addr × Obj)} {σ:St} {H H':Hp} {s:Shared} {b:Addr} (I:Inv X pins σ H s) (hb:s.heap.objs.size ≤ b) (hn:H' b = none):FpOk X pins H' b:=by
  refine ⟨hn,Nat.ne_of_gt (Nat.lt_of_lt_of_le I.lt hb),I.nofs hb,.inr (Nat.le_trans I.sz hb),fun x c e z=>?_,fun p hp z=>?_⟩
  · obtain ⟨v,q⟩:=I.cell x c e
    exact absurd (Nat.lt_of_lt_of_le q.lt (by rw [z]; exact hb)) (Nat.lt_irrefl _)
  · exact absurd (Nat.lt_of_lt_of_le (Heap.lt_size (I.pin p hp).1) (by rw [z]; exact hb)) (Nat.lt_irrefl _)
structure Turn (P:Program) (w:World) (K:PySem.W.Frag) (tg:Expr) (J:It) (fp:List Addr) (it:Addr) (tn:Nat→Heap→Prop):Prop where
  mem:it ∈ fp
  obj:∀ i h,tn i h→∀ b ∈ fp,∃ o,h.get? b = some o∧∀ v,o.data ≠ .cell v
  keep:∀ i h h',tn i h→(∀ b ∈ fp,∀ o,h.get? b = some o→h'.get? b = some o)→tn i h'
  item:∀ (X:Cx),X.prog = P→X.w = w→X.K = K→X.calm = true→∀ (i:Nat) (pins:List (Addr × Obj)) (s:Shared) (σ:St) (H:Hp) (E:Value→Shared→Prop),Inv X pins σ H s→(∀ b ∈ fp,FpOk X pins H b)→tn i s.heap→J.go i H→
    wpAny (model P w) X.A (pyNext (.ref it)) (fun r s1=>∃ u,r = some u∧
      wpAny (model P w) X.A (letOwnedTupleGo tg (.ref it) u) (fun _ s2=>∃ x H',Inv X pins σ H' s2∧RelV x u∧J.yld i H x H'∧tn (i + 1) s2.heap∧∀ b ∈ fp,H' b = none) E s1) E s
  done:∀ (X:Cx),X.prog = P→X.w = w→X.K = K→X.calm = true→∀ (i:Nat) (pins:List (Addr × Obj)) (s:Shared) (σ:St) (H:Hp) (E:Value→Shared→Prop),Inv X pins σ H s→(∀ b ∈ fp,FpOk X pins H b)→tn i s.heap→J.stop i H→
    wpAny (model P w) X.A (pyNext (.ref it)) (fun r s1=>r = none∧Inv X pins σ H s1) E s
  self:∀ (A:Around) (i:Nat) (s:Shared) (Q:Value→Shared→Prop) (E:Value→Shared→Prop),tn i s.heap→Q (.ref it) s→wpAny (model P w) A (pyIter (.ref it)) Q E s
abbrev TI:=St→Hp→(It→Hp→Prop)→Prop
def PIE (X:Cx) (pins:List (Addr × Obj)) (σ:St) (tg:Expr) (R:It→Hp→Prop) (itv:Value) (s2:Shared):Prop:=
  ∃ (it:Addr) (fp:List Addr) (tn:Nat→Heap→Prop) (J:It) (H':Hp),itv = .ref it∧Inv X pins σ H' s2∧Turn X.prog X.w X.K tg J fp it tn∧tn 0 s2.heap∧(∀ b ∈ fp,FpOk X pins H' b)∧R J H'
def PI (X:Cx) (tg iter:Expr) (wi:TI):Prop:=
  ∀ (pins:List (Addr × Obj)) (s:Shared) (σ:St) (H:Hp) (R:It→Hp→Prop),Inv X pins σ H s→wi σ H R→
    wpAny (model X.prog X.w) X.A (eval iter X.env) (fun v s1=>wpAny (model X.prog X.w) X.A (pyIter v) (PIE X pins σ tg R) X.xe s1) X.xe s
theorem go_of {M:Model} {A:Around} {E:Value→Shared→Prop} {s:Shared} {tg:Expr} {it:Addr} {u:Value} {o:Obj} {n:String} {vs:Array Value} {Q:Unit→Shared→Prop} (ho:s.heap.get? it = some o) (hc:o.cls = .type n) (hd:o.data = .fields vs)
    (hn:["enumerate","zip","dict_itemiterator","dict_reverseitemiterator","odict_iterator","itertools.zip_longest","itertools.pairwise"].contains n = false) (hQ:Q () s):wpAny M A (letOwnedTupleGo tg (.ref it) u) Q E s:=by
  unfold letOwnedTupleGo
  cases tg <;> first
    | exact wpAny_pure hQ
    | (cases u <;> first
        | exact wpAny_pure hQ
        | (refine wpAny_bind (wpAny_load ho ?_)
           rw [hc,hd]
           show wpAny M A (if (["enumerate","zip","dict_itemiterator","dict_reverseitemiterator","odict_iterator","itertools.zip_longest","itertools.pairwise"].contains n && vs[0]? == some (rawInt _)) = true then _ else _) Q E s
           rw [if_neg (by intro h; rw [hn,Bool.false_and] at h; cases h)]
           exact wpAny_pure hQ))
def Itl (K:PySem.W.Frag) (a:Addr):It:=
  ⟨fun i H=>∃ xs x,SqL K H a xs∧xs[i]? = some x,fun i H x H'=>H' = H∧∀ xs,SqL K H a xs→xs[i]? = some x,fun i H=>∃ xs,SqL K H a xs∧xs.length ≤ i⟩
def Itt (K:PySem.W.Frag) (a:Addr):It:=
  ⟨fun i H=>∃ xs x,SqT K H a xs∧xs[i]? = some x,fun i H x H'=>H' = H∧∀ xs,SqT K H a xs→xs[i]? = some x,fun i H=>∃ xs,SqT K H a xs∧xs.length ≤ i⟩
def Itr (lo:Int) (n:Nat):It:=⟨fun i _=>i < n,fun i H x H'=>H' = H∧x = .int (lo + i),fun i _=>n ≤ i⟩
theorem turn_list {P:Program} {w:World} {K:PySem.W.Frag} {tg:Expr} (a it:Addr):Turn P w K tg (Itl K a) [it] it (fun i h=>h.IsListIter it a i) where
  mem:=by simp
  obj:=fun i h st b hb=>by
    have e:b = it:=by simpa using hb
    subst e
    obtain ⟨o,e,c,d⟩:=st
    exact ⟨o,e,fun v z=>by rw [d] at z; cases z⟩
  keep:=fun i h h' st k=>st.at fun o e=>k it (by simp) o e
  item:=by
    intro X hP hw hK hc i pins s σ H E I hf st hg
    subst hP hw hK
    obtain ⟨xs,x,hq,hx⟩:=hg
    obtain ⟨its,rv,p,hz⟩:=I.list hq
    obtain ⟨u,hu,ru⟩:=rv.get hx
    obtain ⟨f0,f1,f2,f3,f4,f5⟩:=hf it (by simp)
    refine wpAny_pyNext_list_item st p.isList (x:=u) (by simpa using hu) fun h' st' sb=>?_
    have I1:Inv X pins σ H { s with heap:=h' }:=I.turned (t':=s.toks) (fun b o hb e=>(sb.2 b hb).trans e) f0 f1 f3 f4 f5
    obtain ⟨o,e,c,d⟩:=id st'
    exact ⟨u,rfl,go_of (s:={ s with heap:=h' }) e c d (by decide) ⟨x,H,I1,ru,⟨rfl,fun ys hy=>by rw [I.list_inj hy hq]; exact hx⟩,st',fun b hb=>(hf b hb).1⟩⟩
  done:=by
    intro X hP hw hK hc i pins s σ H E I hf st hg
    subst hP hw hK
    obtain ⟨xs,hq,hx⟩:=hg
    obtain ⟨its,rv,p,hz⟩:=I.list hq
    obtain ⟨f0,f1,f2,f3,f4,f5⟩:=hf it (by simp)
    have hl:=rv.length
    exact wpAny_pyNext_list_end (I.ok.hd hc) st p.isList (by simp; omega) fun h' eb=>⟨rfl,I.turned (t':=s.toks) (fun b o hb e=>eb b o hb e) f0 f1 f3 f4 f5⟩
  self:=fun _ _ _ _ _ st h=>wpAny_pyIter_listiter st h
theorem turn_tuple {P:Program} {w:World} {K:PySem.W.Frag} {tg:Expr} (a it:Addr):Turn P w K tg (Itt K a) [it] it (fun i h=>h.IsTupleIter it a i) where
  mem:=by simp
  obj:=fun i h st b hb=>by
    have e:b = it:=by simpa using hb
    subst e
    obtain ⟨o,e,c,d⟩:=st
    exact ⟨o,e,fun v z=>by rw [d] at z; cases z⟩
  keep:=fun i h h' st k=>st.at fun o e=>k it (by simp) o e
  item:=by
    intro X hP hw hK hc i pins s σ H E I hf st hg
    subst hP hw hK
    obtain ⟨xs,x,hq,hx⟩:=hg
    obtain ⟨its,rv,p,hz⟩:=I.tuple hq
    obtain ⟨u,hu,ru⟩:=rv.get hx
    obtain ⟨f0,f1,f2,f3,f4,f5⟩:=hf it (by simp)
    refine wpAny_pyNext_tuple_item st (show s.heap.IsTuple a its.toArray from p) (x:=u) (by simpa using hu) fun h' st' sb=>?_
    have I1:Inv X pins σ H { s with heap:=h' }:=I.turned (t':=s.toks) (fun b o hb e=>(sb.2 b hb).trans e) f0 f1 f3 f4 f5
    obtain ⟨o,e,c,d⟩:=id st'
    exact ⟨u,rfl,go_of (s:={ s with heap:=h' }) e c d (by decide) ⟨x,H,I1,ru,⟨rfl,fun ys hy=>by rw [I.tuple_inj hy hq]; exact hx⟩,st',fun b hb=>(hf b hb).1⟩⟩
  done:=by
    intro X hP hw hK hc i pins s σ H E I hf st hg
    subst hP hw hK
    obtain ⟨xs,hq,hx⟩:=hg
    obtain ⟨its,rv,p,hz⟩:=I.tuple hq
    obtain ⟨f0,f1,f2,f3,f4,f5⟩:=hf it (by simp)
    have hl:=rv.length
    exact wpAny_pyNext_tuple_end (I.ok.hd hc) st (show s.heap.IsTuple a its.toArray from p) (by simp; omega) fun h' eb=>⟨rfl,I.turned (t':=s.toks) (fun b o hb e=>eb b o hb e) f0 f1 f3 f4 f5⟩
  self:=fun _ _ _ _ _ st h=>wpAny_pyIter_tupleiter st h
theorem turn_range {P:Program} {w:World} {K:PySem.W.Frag} {tg:Expr} (it:Addr) (lo:Int) (n:Nat):Turn P w K tg (Itr lo n) [it] it (fun i h=>IsRangeIter h it (lo + (i:Nat) * 1) ((n:Int) - (i:Nat)) 1) where
  mem:=by simp
  obj:=fun i h st b hb=>by
    have e:b = it:=by simpa using hb
    subst e
    exact ⟨_,st,fun v z=>by
      have z':Data.fields _ = Data.cell v:=z
      cases z'⟩
  keep:=fun i h h' st k=>k it (by simp) _ st
  item:=by
    intro X hP hw hK hc i pins s σ H E I hf st hg
    subst hP hw hK
    obtain ⟨f0,f1,f2,f3,f4,f5⟩:=hf it (by simp)
    have W:=Walks.range (prog:=X.prog) (w:=X.w) (I.ok.hd hc) it lo 1 n
    refine W.item i s _ _ hg st fun v h' tk hv st' kk=>?_
    obtain ⟨t,rfl⟩:=hv
    have I1:Inv X pins σ H { s with heap:=h',toks:=tk }:=I.turned (fun b o hb e=>kk b o (by simpa using hb) e) f0 f1 f3 f4 f5
    refine ⟨_,rfl,go_of (s:={ s with heap:=h',toks:=tk }) (n:="range_iterator") st' rfl rfl (by decide) ⟨.int (lo + i),H,I1,⟨t,?_⟩,⟨rfl,rfl⟩,st',fun b hb=>(hf b hb).1⟩⟩
    rw [Int.mul_one]
  done:=by
    intro X hP hw hK hc i pins s σ H E I hf st hg
    subst hP hw hK
    obtain ⟨f0,f1,f2,f3,f4,f5⟩:=hf it (by simp)
    exact wpAny_pyNext_range_end (I.ok.hd hc) st (by have:n ≤ i:=hg; omega) fun h' eb=>⟨rfl,I.turned (t':=s.toks) (fun b o hb e=>eb b o hb e) f0 f1 f3 f4 f5⟩
  self:=fun _ _ _ _ _ st h=>wpAny_pyIter_rangeiter st h
end L2
namespace L2
open PySem PySem.Spec PyProof.Rows
section
variable {X:Cx} {tg:Expr}
def iList (K:PySem.W.Frag) (tl:TE):TI:=fun σ H R=>tl σ H fun x H1=>∃ a,x = .ref a∧(∃ xs,SqL K H1 a xs)∧R (Itl K a) H1
def iTup (K:PySem.W.Frag) (tl:TE):TI:=fun σ H R=>tl σ H fun x H1=>∃ a,x = .ref a∧(∃ xs,SqT K H1 a xs)∧R (Itt K a) H1
theorem pi_list {l:Expr} {tl:TE} (hl:PE X l tl):PI X tg l (iList X.K tl):=by
  intro pins s σ H R I h
  refine thn (hl pins s σ H _ I h) fun v s1 ⟨x,H1,I1,r1,q1⟩=>?_
  obtain ⟨a,e,⟨xs,hq⟩,q⟩:=q1
  subst e
  cases r1
  obtain ⟨its,rv,p,hz⟩:=I1.list hq
  refine wpAny_pyIter_list p.isList ?_
  refine ⟨s1.heap.objs.size,[s1.heap.objs.size],_,_,H1,rfl,I1.kept (t':=s1.toks) fun b o e=>Heap.get?_push_of_some _ e,turn_list a _,⟨_,Heap.get?_push_size _ rfl,rfl,rfl⟩,fun b hb=>?_,q⟩
  have e:b = s1.heap.objs.size:=by simpa using hb
  subst e
  exact I1.fpOk (Nat.le_refl _) (I1.hok.fresh (Nat.le_refl _))
theorem pi_tup {l:Expr} {tl:TE} (hl:PE X l tl):PI X tg l (iTup X.K tl):=by
  intro pins s σ H R I h
  refine thn (hl pins s σ H _ I h) fun v s1 ⟨x,H1,I1,r1,q1⟩=>?_
  obtain ⟨a,e,⟨xs,hq⟩,q⟩:=q1
  subst e
  cases r1
  obtain ⟨its,rv,p,hz⟩:=I1.tuple hq
  refine wpAny_pyIter_tuple (show s1.heap.IsTuple a its.toArray from p) ?_
  refine ⟨s1.heap.objs.size,[s1.heap.objs.size],_,_,H1,rfl,I1.kept (t':=s1.toks) fun b o e=>Heap.get?_push_of_some _ e,turn_tuple a _,⟨_,Heap.get?_push_size _ rfl,rfl,rfl⟩,fun b hb=>?_,q⟩
  have e:b = s1.heap.objs.size:=by simpa using hb
  subst e
  exact I1.fpOk (Nat.le_refl _) (I1.hok.fresh (Nat.le_refl _))
theorem range_it {pins:List (Addr × Obj)} {σ:St} {H:Hp} {s:Shared} {R:It→Hp→Prop} {E:Value→Shared→Prop} {lo hi:Int} {t u v:Tok} {tk:Nat} (I:Inv X pins σ H s) (h1:-(2 ^ 62) ≤ lo) (h2:lo < 2 ^ 62) (h3:-(2 ^ 62) ≤ hi) (h4:hi < 2 ^ 62)
    (q:R (Itr lo (hi - lo).toNat) H):wpAny (model X.prog X.w) X.A (pyIter (.ref s.heap.objs.size)) (PIE X pins σ tg R) E { s with heap:=s.heap.push { cls:=.type "range",data:=.fields #[.int lo t,.int hi u,.int 1 v] },toks:=tk }:=by
  refine wpAny_pyIter_range (IsRange.new ..) (small_one h1 h2 h3 h4) ?_
  have I1:Inv X pins σ H { s with heap:=s.heap.push { cls:=.type "range",data:=.fields #[.int lo t,.int hi u,.int 1 v] },toks:=tk }:=I.kept fun b o e=>Heap.get?_push_of_some _ e
  refine ⟨(s.heap.push { cls:=.type "range",data:=.fields #[.int lo t,.int hi u,.int 1 v] }).objs.size,[(s.heap.push { cls:=.type "range",data:=.fields #[.int lo t,.int hi u,.int 1 v] }).objs.size],_,_,H,rfl,
    I1.kept (t':=tk) fun b o e=>Heap.get?_push_of_some _ e,turn_range _ lo (hi - lo).toNat,?_,fun b hb=>?_,q⟩
  · have e1:lo + ((0:Nat):Int) * 1 = lo:=by simp
    have e2:(((hi - lo).toNat:Nat):Int) - ((0:Nat):Int) = Builtin.Range.rangeSize lo hi 1:=by rw [rangeSize_one]; split <;> omega
    show IsRangeIter _ _ (lo + ((0:Nat):Int) * 1) ((((hi - lo).toNat:Nat):Int) - ((0:Nat):Int)) 1
    rw [e1,e2]
    exact Heap.get?_push_size _ rfl
  · have e:b = (s.heap.push { cls:=.type "range",data:=.fields #[.int lo t,.int hi u,.int 1 v] }).objs.size:=by simpa using hb
    subst e
    exact I1.fpOk (Nat.le_refl _) (I1.hok.fresh (Nat.le_refl _))
def iRng1 (ta:TA):TI:=fun σ H R=>ta σ H fun vs H1=>∃ j:Int,vs = [.int j]∧-(2 ^ 62) ≤ j∧j < 2 ^ 62∧R (Itr 0 j.toNat) H1
theorem pi_range1 {a:Expr} {ta:TA} {p pos:Pos} (hg:Gl X "range") (hm:X.mg "range" = none) (ha:PA X [a] ta) (hs:starEach [a] X.env = [(false,eval a X.env)]:=by rfl):PI X tg (.Call (.Name "range" p) [a] [] pos) (iRng1 ta):=by
  intro pins s σ H R I h
  refine Call_ (ld_blt I hg hm boot_range (PyProof.Rows.callWith_type1 (thn (ha pos pins s σ H _ I h) fun us s1 ⟨vs,H1,I1,r1,q1⟩=>?_) hs rfl))
  obtain ⟨j,e,q1,q2,q⟩:=q1
  subst e
  cases r1 with
  | cons r rr=>
    cases rr
    obtain ⟨t,rfl⟩:=r
    exact call_range_1 (range_it I1 (by omega) (by omega) q1 q2 (by simpa using q))
def tFor (wi:TI) (g:TG) (tb:TS):TS:=fun D σ H=>wi σ H fun J H1=>∃ W:Nat→Nat→St→Hp→Prop,(∃ m,W 0 m σ H1)∧∀ i m σ H,W i m σ H→
  (J.stop i H∧D.nx σ H) ∨ (J.go i H∧∃ N:St→Hp→Prop,(∀ σ' H',N σ' H'→∃ m',m' < m∧W (i + 1) m' σ' H')∧∀ x H',J.yld i H x H'→g x σ H' fun σ2 H2=>tb { D with nx:=N,ct:=N,bk:=D.nx } σ2 H2)
def pinsAt (fp:List Addr) (h:Heap):List (Addr × Obj):=fp.filterMap fun b=>(h.get? b).map fun o=>(b,o)
theorem mem_pinsAt {fp:List Addr} {h:Heap} {b:Addr} {o:Obj} (hb:b ∈ fp) (e:h.get? b = some o):(b,o) ∈ pinsAt fp h:=List.mem_filterMap.mpr ⟨b,hb,by rw [e]; rfl⟩
theorem of_pinsAt {fp:List Addr} {h:Heap} {p:Addr × Obj} (hp:p ∈ pinsAt fp h):p.1 ∈ fp∧h.get? p.1 = some p.2:=by
  obtain ⟨b,hb,e⟩:=List.mem_filterMap.mp hp
  cases q:h.get? b with
  | none=>rw [q] at e; cases e
  | some o=>
    rw [q] at e
    have e':(b,o) = p:=Option.some.inj e
    subst e'
    exact ⟨hb,q⟩
theorem Inv.pinned {pins:List (Addr × Obj)} {σ:St} {H:Hp} {s:Shared} {fp:List Addr} (I:Inv X pins σ H s) (hf:∀ b ∈ fp,FpOk X pins H b) (ho:∀ b ∈ fp,∃ o,s.heap.get? b = some o∧∀ v,o.data ≠ .cell v):Inv X (pins ++ pinsAt fp s.heap) σ H s:=
  I.pins_of fun p hp=>(List.mem_append.mp hp).elim (fun z=>I.pin p (List.mem_append_right _ z)) fun z=>by
    obtain ⟨hb,e⟩:=of_pinsAt z
    obtain ⟨f0,f1,f2,_⟩:=hf p.1 hb
    obtain ⟨o,e',d⟩:=ho p.1 hb
    rw [e] at e'; cases e'
    exact ⟨e,f0,f1,f2,d⟩
theorem Inv.unpinned {pins pl:List (Addr × Obj)} {σ:St} {H:Hp} {s:Shared} (I:Inv X (pins ++ pl) σ H s):Inv X pins σ H s:=I.pins_of fun p hp=>I.pin p (List.mem_append_right _ (List.mem_append_left _ hp))
theorem ps_for {iter:Expr} {body:List Stmt} {wi:TI} {g:TG} {tb:TS} {pos:Pos} (hp:PassesOwn (model X.prog X.w) X.A X.env X.xe) (hc:X.calm = true) (hi:PI X tg iter wi) (hg:PG X tg g) (hb:PSs X body tb)
    (hs:∀ x,foldedSetIterable iter X.env x = pure x:=by intro _; rfl):PS X (.For tg iter body [] pos) (tFor wi g tb):=by
  intro pins s σ H D I h
  refine wpAny_For (thn (hi pins s σ H _ I h) fun v s1 h1=>thn h1 fun itv s2 h2=>?_) hs
  obtain ⟨it,fp,tn,J,H2,e,I2,T,st2,f2,W,⟨m0,w0⟩,turn⟩:=h2
  subst e
  have stat:∀ {H':Hp},(∀ b ∈ fp,H' b = none)→∀ b ∈ fp,FpOk X pins H' b:=fun hn b hb=>⟨hn b hb,(f2 b hb).2⟩
  refine codeAny_forLoop_any (fun n s'=>∃ i σ' H',Inv X pins σ' H' s'∧tn i s'.heap∧(∀ b ∈ fp,H' b = none)∧W i n σ' H') ?_ m0 ⟨0,σ,H2,I2,st2,fun b hb=>(f2 b hb).1,w0⟩
  rintro n s3 ⟨i,σ3,H3,I3,st3,fr3,w3⟩
  rcases turn i n σ3 H3 w3 with ⟨stop,qn⟩ | ⟨go,N,hN,step⟩
  · refine wpAny_passesOwn hp (thn (T.done X rfl rfl rfl hc i pins s3 σ3 H3 X.xe I3 (stat fr3) st3 stop) fun r s4 ⟨hr,I4⟩=>?_)
    subst hr
    exact wpAny_execs_nil ⟨σ3,H3,I4,qn⟩
  · refine wpAny_passesOwn hp (thn (T.item X rfl rfl rfl hc i pins s3 σ3 H3 X.xe I3 (stat fr3) st3 go) fun r s4 ⟨u,hr,h4⟩=>?_)
    subst hr
    refine wpAny_passesOwn hp (thn h4 fun _ s5 ⟨x,H5,I5,r5,y5,st5,fr5⟩=>?_)
    have I5':=I5.pinned (stat fr5) (T.obj _ _ st5)
    refine wpAny_passesOwn hp (thn (hg _ s5 σ3 H5 x u _ I5' r5 (step x H5 y5)) fun _ s6 ⟨σ6,H6,I6,q6⟩=>?_)
    refine wpAny_passesOwn hp (thn (hb _ s6 σ6 H6 _ I6 q6) fun f s7 q7=>?_)
    have again:∀ {σ7:St} {H7:Hp},Inv X (pins ++ pinsAt fp s5.heap) σ7 H7 s7→N σ7 H7→∃ m,m < n∧∃ i σ' H',Inv X pins σ' H' s7∧tn i s7.heap∧(∀ b ∈ fp,H' b = none)∧W i m σ' H':=fun {σ7 H7} I7 n7=>by
      obtain ⟨m',hm,w7⟩:=hN σ7 H7 n7
      refine ⟨m',hm,i + 1,σ7,H7,I7.unpinned,T.keep _ _ _ st5 fun b hb o e=>(I7.pin (b,o) (List.mem_append_right _ (List.mem_append_right _ (mem_pinsAt hb e)))).1,fun b hb=>?_,w7⟩
      obtain ⟨o,e,d⟩:=T.obj _ _ st5 b hb
      exact (I7.pin (b,o) (List.mem_append_right _ (List.mem_append_right _ (mem_pinsAt hb e)))).2.1
    cases f with
    | next=>obtain ⟨σ7,H7,I7,n7⟩:=q7; exact again I7 n7
    | cont=>obtain ⟨σ7,H7,I7,n7⟩:=q7; exact again I7 n7
    | brk=>obtain ⟨σ7,H7,I7,q7⟩:=q7; exact ⟨σ7,H7,I7.unpinned,q7⟩
    | ret v=>obtain ⟨x7,σ7,H7,I7,r7,q7⟩:=q7; exact ⟨x7,σ7,H7,I7.unpinned,r7,q7⟩
end
theorem for_list {K:PySem.W.Frag} {a:Addr} {xs:List V} {g:TG} {tb:TS} {D:Ends} {σ:St} {H:Hp} (Pv:Nat→St→Hp→Prop) (h0:Pv 0 σ H) (hl:∀ i σ H,i ≤ xs.length→Pv i σ H→SqL K H a xs)
    (hs:∀ i x σ H,xs[i]? = some x→Pv i σ H→g x σ H fun σ2 H2=>tb { D with nx:=Pv (i + 1),ct:=Pv (i + 1),bk:=D.nx } σ2 H2) (hd:∀ σ H,Pv xs.length σ H→D.nx σ H) :
    ∃ W:Nat→Nat→St→Hp→Prop,(∃ m,W 0 m σ H)∧∀ i m σ H,W i m σ H→
      ((Itl K a).stop i H∧D.nx σ H) ∨ ((Itl K a).go i H∧∃ N:St→Hp→Prop,(∀ σ' H',N σ' H'→∃ m',m' < m∧W (i + 1) m' σ' H')∧∀ x H',(Itl K a).yld i H x H'→g x σ H' fun σ2 H2=>tb { D with nx:=N,ct:=N,bk:=D.nx } σ2 H2):=by
  refine ⟨fun i m σ H=>m = xs.length - i∧i ≤ xs.length∧Pv i σ H,⟨xs.length,by simp,Nat.zero_le _,h0⟩,?_⟩
  rintro i m σ H ⟨rfl,hi,p⟩
  have q:=hl i σ H hi p
  by_cases hlt:i < xs.length
  · refine .inr ⟨⟨xs,xs[i],q,by simp [hlt]⟩,Pv (i + 1),fun σ' H' p'=>⟨xs.length - (i + 1),by omega,rfl,hlt,p'⟩,fun x H' y=>?_⟩
    obtain ⟨e,y⟩:=y
    subst e
    exact hs i x σ _ (y xs q) p
  · have e:i = xs.length:=by omega
    subst e
    exact .inl ⟨⟨xs,q,Nat.le_refl _⟩,hd σ H p⟩
theorem for_tup {K:PySem.W.Frag} {a:Addr} {xs:List V} {g:TG} {tb:TS} {D:Ends} {σ:St} {H:Hp} (Pv:Nat→St→Hp→Prop) (h0:Pv 0 σ H) (hl:∀ i σ H,i ≤ xs.length→Pv i σ H→SqT K H a xs)
    (hs:∀ i x σ H,xs[i]? = some x→Pv i σ H→g x σ H fun σ2 H2=>tb { D with nx:=Pv (i + 1),ct:=Pv (i + 1),bk:=D.nx } σ2 H2) (hd:∀ σ H,Pv xs.length σ H→D.nx σ H) :
    ∃ W:Nat→Nat→St→Hp→Prop,(∃ m,W 0 m σ H)∧∀ i m σ H,W i m σ H→
      ((Itt K a).stop i H∧D.nx σ H) ∨ ((Itt K a).go i H∧∃ N:St→Hp→Prop,(∀ σ' H',N σ' H'→∃ m',m' < m∧W (i + 1) m' σ' H')∧∀ x H',(Itt K a).yld i H x H'→g x σ H' fun σ2 H2=>tb { D with nx:=N,ct:=N,bk:=D.nx } σ2 H2):=by
  refine ⟨fun i m σ H=>m = xs.length - i∧i ≤ xs.length∧Pv i σ H,⟨xs.length,by simp,Nat.zero_le _,h0⟩,?_⟩
  rintro i m σ H ⟨rfl,hi,p⟩
  have q:=hl i σ H hi p
  by_cases hlt:i < xs.length
  · refine .inr ⟨⟨xs,xs[i],q,by simp [hlt]⟩,Pv (i + 1),fun σ' H' p'=>⟨xs.length - (i + 1),by omega,rfl,hlt,p'⟩,fun x H' y=>?_⟩
    obtain ⟨e,y⟩:=y
    subst e
    exact hs i x σ _ (y xs q) p
  · have e:i = xs.length:=by omega
    subst e
    exact .inl ⟨⟨xs,q,Nat.le_refl _⟩,hd σ H p⟩
theorem for_range {lo:Int} {n:Nat} {g:TG} {tb:TS} {D:Ends} {σ:St} {H:Hp} (Pv:Nat→St→Hp→Prop) (h0:Pv 0 σ H)
    (hs:∀ i σ H,i < n→Pv i σ H→g (.int (lo + i)) σ H fun σ2 H2=>tb { D with nx:=Pv (i + 1),ct:=Pv (i + 1),bk:=D.nx } σ2 H2) (hd:∀ σ H,Pv n σ H→D.nx σ H) :
    ∃ W:Nat→Nat→St→Hp→Prop,(∃ m,W 0 m σ H)∧∀ i m σ H,W i m σ H→
      ((Itr lo n).stop i H∧D.nx σ H) ∨ ((Itr lo n).go i H∧∃ N:St→Hp→Prop,(∀ σ' H',N σ' H'→∃ m',m' < m∧W (i + 1) m' σ' H')∧∀ x H',(Itr lo n).yld i H x H'→g x σ H' fun σ2 H2=>tb { D with nx:=N,ct:=N,bk:=D.nx } σ2 H2):=by
  refine ⟨fun i m σ H=>m = n - i∧i ≤ n∧Pv i σ H,⟨n,by simp,Nat.zero_le _,h0⟩,?_⟩
  rintro i m σ H ⟨rfl,hi,p⟩
  by_cases hlt:i < n
  · refine .inr ⟨hlt,Pv (i + 1),fun σ' H' p'=>⟨n - (i + 1),by omega,rfl,hlt,p'⟩,fun x H' y=>?_⟩
    obtain ⟨e,y⟩:=y
    subst e y
    exact hs i σ _ hlt p
  · have e:i = n:=by omega
    subst e
    exact .inl ⟨Nat.le_refl _,hd σ H p⟩
end L2
namespace L2
open PySem PySem.Spec PyProof.Rows
abbrev R2:=V→V→Hp→VK→Prop
def OpR (X:Cx) (f:Value→Value→Sem Value) (r:R2):Prop:=
  ∀ (pins:List (Addr × Obj)) (s:Shared) (σ:St) (H:Hp) (x y:V) (v u:Value) (Q:VK),Inv X pins σ H s→RelV x v→RelV y u→r x y H Q→
    wpAny (model X.prog X.w) X.A (f v u) (EP X pins σ Q) X.xe s
def UnR (X:Cx) (f:Value→Sem Value) (r:V→Hp→VK→Prop):Prop:=
  ∀ (pins:List (Addr × Obj)) (s:Shared) (σ:St) (H:Hp) (x:V) (v:Value) (Q:VK),Inv X pins σ H s→RelV x v→r x H Q→
    wpAny (model X.prog X.w) X.A (f v) (EP X pins σ Q) X.xe s
def CallR (X:Cx) (f:Value) (r:List V→Hp→VK→Prop):Prop:=
  ∀ (pins:List (Addr × Obj)) (s:Shared) (σ:St) (H:Hp) (xs:List V) (us:List Value) (Q:VK),Inv X pins σ H s→Vals xs us→r xs H Q→
    wpAny (model X.prog X.w) X.A (call f us) (EP X pins σ Q) X.xe s
def TruR (X:Cx) (r:V→Hp→(Bool→Hp→Prop)→Prop):Prop:=
  ∀ (pins:List (Addr × Obj)) (s:Shared) (σ:St) (H:Hp) (x:V) (v:Value) (Q:Bool→Hp→Prop),Inv X pins σ H s→RelV x v→r x H Q→
    wpAny (model X.prog X.w) X.A (truthy v) (TP X pins σ Q) X.xe s
def tOp (r:R2) (ta tb:TE):TE:=fun σ H Q=>ta σ H fun x H1=>tb σ H1 fun y H2=>r x y H2 Q
def tUn (r:V→Hp→VK→Prop) (ta:TE):TE:=fun σ H Q=>ta σ H fun x H1=>r x H1 Q
def rI (C:Int→Int→Prop) (g:Int→Int→V):R2:=fun x y H Q=>∃ i j,x = .int i∧y = .int j∧C i j∧Q (g i j) H
def rI0 (g:Int→Int→V):R2:=fun x y H Q=>∃ i j,x = .int i∧y = .int j∧Q (g i j) H
def rU (g:Int→V):V→Hp→VK→Prop:=fun x H Q=>∃ i,x = .int i∧Q (g i) H
section
variable {X:Cx} {a b c:Expr} {ta tb tc:TE} {pos:Pos}
theorem binT (ha:PE X a ta) (hb:PE X b tb) {pins:List (Addr × Obj)} {s:Shared} {σ:St} {H:Hp} {R:V→V→Hp→Prop} (I:Inv X pins σ H s)
    (h:ta σ H fun x H1=>tb σ H1 fun y H2=>R x y H2) {Q:Value→Shared→Prop} {f:Value→Value→Sem Value}
    (hf:∀ v u s2 x y H2,Inv X pins σ H2 s2→RelV x v→RelV y u→R x y H2→wpAny (model X.prog X.w) X.A (f v u) Q X.xe s2) :
    wpAny (model X.prog X.w) X.A (eval a X.env) (fun v s₁=>wpAny (model X.prog X.w) X.A (eval b X.env) (fun u s₂=>wpAny (model X.prog X.w) X.A (f v u) Q X.xe s₂) X.xe s₁) X.xe s:=by
  refine thn (ha pins s σ H _ I h) fun v s1 ⟨x,H1,I1,r1,q1⟩=>?_
  refine thn (hb pins s1 σ H1 _ I1 q1) fun u s2 ⟨y,H2,I2,r2,q2⟩=>?_
  exact hf v u s2 x y H2 I2 r1 r2 q2
theorem pe_op {op:Operator} {r:R2} (ho:OpR X (binaryOp op) r) (ha:PE X a ta) (hb:PE X b tb):PE X (.BinOp a op b pos) (tOp r ta tb):=by
  intro pins s σ H Q I h
  exact wpAny_BinOp (binT ha hb I h fun v u s2 x y H2 I2 rx ry q=>ho pins s2 σ H2 x y v u Q I2 rx ry q)
theorem pe_un {op:UnaryOp} {r:V→Hp→VK→Prop} (ho:UnR X (unaryOp op) r) (ha:PE X a ta):PE X (.UnaryOp op a pos) (tUn r ta):=by
  intro pins s σ H Q I h
  exact UnaryOp_ (thn (ha pins s σ H _ I h) fun v s1 ⟨x,H1,I1,r1,q1⟩=>ho pins s1 σ H1 x v Q I1 r1 q1)
theorem opI {f:Value→Value→Sem Value} {C:Int→Int→Prop} {g:Int→Int→Int}
    (rule:∀ (i j:Int) (t u:Tok) (s:Shared) (Q:Value→Shared→Prop) (E:Value→Shared→Prop),C i j→Q (.int (g i j) s.toks) { s with toks:=s.toks + 1 }→wpAny (model X.prog X.w) X.A (f (.int i t) (.int j u)) Q E s) :
    OpR X f (rI C fun i j=>.int (g i j)):=by
  intro pins s σ H x y v u Q I rx ry h
  obtain ⟨i,j,rfl,rfl,hc,q⟩:=h
  obtain ⟨t,rfl⟩:=rx
  obtain ⟨t',rfl⟩:=ry
  exact rule i j t t' s _ _ hc ⟨.int (g i j),H,I.tok _,⟨_,rfl⟩,q⟩
theorem opI0 {f:Value→Value→Sem Value} {g:Int→Int→Int}
    (rule:∀ (i j:Int) (t u:Tok) (s:Shared) (Q:Value→Shared→Prop) (E:Value→Shared→Prop),Q (.int (g i j) s.toks) { s with toks:=s.toks + 1 }→wpAny (model X.prog X.w) X.A (f (.int i t) (.int j u)) Q E s) :
    OpR X f (rI0 fun i j=>.int (g i j)):=by
  intro pins s σ H x y v u Q I rx ry h
  obtain ⟨i,j,rfl,rfl,q⟩:=h
  obtain ⟨t,rfl⟩:=rx
  obtain ⟨t',rfl⟩:=ry
  exact rule i j t t' s _ _ ⟨.int (g i j),H,I.tok _,⟨_,rfl⟩,q⟩
theorem opB0 {f:Value→Value→Sem Value} {g:Int→Int→Bool}
    (rule:∀ (i j:Int) (t u:Tok) (s:Shared) (Q:Value→Shared→Prop) (E:Value→Shared→Prop),Q (.bool (g i j)) s→wpAny (model X.prog X.w) X.A (f (.int i t) (.int j u)) Q E s) :
    OpR X f (rI0 fun i j=>.bl (g i j)):=by
  intro pins s σ H x y v u Q I rx ry h
  obtain ⟨i,j,rfl,rfl,q⟩:=h
  obtain ⟨t,rfl⟩:=rx
  obtain ⟨t',rfl⟩:=ry
  exact rule i j t t' s _ _ ⟨.bl (g i j),H,I,rfl,q⟩
def CDiv (i j:Int):Prop:=0 < j∧j < 1073741824
def CPow (i j:Int):Prop:=0 ≤ j∧j ≤ 1000000∧i.natAbs < 2 ^ 64
def CMul (i j:Int):Prop:=(-(2 ^ 64) < i∧i < 2 ^ 64) ∨ (-(2 ^ 64) < j∧j < 2 ^ 64)
theorem CMul.ok {i j:Int} (h:CMul i j):IntMulOk i j:=by
  rcases h with ⟨h1,h2⟩ | ⟨h1,h2⟩
  · exact .of_left (intBits_le_64 h1 h2)
  · exact .of_right (intBits_le_64 h1 h2)
theorem op_add:OpR X (binaryOp .Add) (rI0 fun i j=>.int (i + j)):=opI0 fun _ _ _ _ _ _ _ q=>add_int q
theorem op_sub:OpR X (binaryOp .Sub) (rI0 fun i j=>.int (i - j)):=opI0 fun _ _ _ _ _ _ _ q=>sub_int q
theorem op_mul:OpR X (binaryOp .Mult) (rI CMul fun i j=>.int (i * j)):=opI fun _ _ _ _ _ _ _ hc q=>mul_int q hc.ok
theorem op_fdiv:OpR X (binaryOp .FloorDiv) (rI CDiv fun i j=>.int (i / j)):=opI fun i j _ _ _ _ _ hc q=>by
  have h1:(0:Int) < j:=hc.1
  have h2:j < 1073741824:=hc.2
  exact floordiv_int (by omega) (by rw [Int.fdiv_eq_ediv_of_nonneg i (by omega)]; exact q) (.inl (PyProof.noPylong_small (by omega)))
theorem op_mod:OpR X (binaryOp .Mod) (rI (fun _ j=>0 < j) fun i j=>.int (i % j)):=opI fun i j _ _ _ _ _ hc q=>by
  have h1:(0:Int) < j:=hc
  exact mod_int' (by omega) (by rw [Int.fmod_eq_emod_of_nonneg i (by omega)]; exact q)
theorem op_pow:OpR X (binaryOp .Pow) (rI CPow fun i j=>.int (i ^ j.toNat)):=opI fun _ _ _ _ _ _ _ hc q=>pow_int_small hc.1 hc.2.1 hc.2.2 q
theorem unI {f:Value→Sem Value} {g:Int→Int}
    (rule:∀ (i:Int) (t:Tok) (s:Shared) (Q:Value→Shared→Prop) (E:Value→Shared→Prop),Q (.int (g i) s.toks) { s with toks:=s.toks + 1 }→wpAny (model X.prog X.w) X.A (f (.int i t)) Q E s) :
    UnR X f (rU fun i=>.int (g i)):=by
  intro pins s σ H x v Q I rx h
  obtain ⟨i,rfl,q⟩:=h
  obtain ⟨t,rfl⟩:=rx
  exact rule i t s _ _ ⟨.int (g i),H,I.tok _,⟨_,rfl⟩,q⟩
theorem un_neg:UnR X (unaryOp .USub) (rU fun i=>.int (-i)):=unI fun _ _ _ _ _ q=>neg_int q
end
def scal:V→V→Bool
  | .non,.non=>true | .non,.int _=>true | .int _,.non=>true | .non,.bl _=>true | .bl _,.non=>true | .non,.str _=>true | .str _,.non=>true
  | .int _,.int _=>true | .bl _,.bl _=>true | .str _,.str _=>true | .byt _,.byt _=>true
  | .int _,.str _=>true | .str _,.int _=>true | .bl _,.str _=>true | .str _,.bl _=>true
  | _,_=>false
def rEq:R2:=fun x y H Q=>scal x y = true∧Q (.bl (decide (x = y))) H
def rNe:R2:=fun x y H Q=>scal x y = true∧Q (.bl (!decide (x = y))) H
theorem dec_int {i j:Int}:decide (V.int i = V.int j) = (i == j):=by
  rw [Bool.eq_iff_iff]
  simp
theorem dec_bl {i j:Bool}:decide (V.bl i = V.bl j) = (i == j):=by
  rw [Bool.eq_iff_iff]
  simp
theorem dec_str {i j:Str}:decide (V.str i = V.str j) = (i == j):=by
  rw [Bool.eq_iff_iff]
  simp
theorem dec_byt {i j:Array UInt8}:decide (V.byt i = V.byt j) = (i.toList == j.toList):=by
  rw [Bool.eq_iff_iff]
  cases i
  cases j
  simp
section
variable {X:Cx} {a b c:Expr} {ta tb tc:TE} {pos:Pos}
theorem fin_bl {pins:List (Addr × Obj)} {σ:St} {H:Hp} {s:Shared} {Q:VK} {k k':Bool} (I:Inv X pins σ H s) (q:Q (.bl k) H) (e:k = k'):EP X pins σ Q (.bool k') s:=by
  subst e
  exact ⟨.bl k,H,I,rfl,q⟩
theorem op_eq:OpR X (compareOp .Eq) rEq:=by
  intro pins s σ H x y v u Q I rx ry h
  obtain ⟨hs,q⟩:=h
  cases x with
  | non=>
    cases rx
    cases y with
    | non=>cases ry; exact PySem.EqNone.eq_none_none (fin_bl I q (by simp))
    | bl j=>cases ry; exact PySem.EqNone.eq_none_bool (fin_bl I q (by simp))
    | int j=>obtain ⟨t',rfl⟩:=ry; exact PySem.EqNone.eq_none_int (fin_bl I q (by simp))
    | str j=>obtain ⟨t',rfl⟩:=ry; exact PySem.EqNone.eq_none_str (fin_bl I q (by simp))
    | _=>exact absurd (show false = true from hs) Bool.false_ne_true
  | bl i=>
    cases rx
    cases y with
    | non=>cases ry; exact PySem.EqNone.eq_bool_none (fin_bl I q (by simp))
    | bl j=>cases ry; exact eq_bool (fin_bl I q dec_bl)
    | str j=>obtain ⟨t',rfl⟩:=ry; exact PySem.EqMixed.eq_bool_str (fin_bl I q (by simp))
    | _=>exact absurd (show false = true from hs) Bool.false_ne_true
  | int i=>
    obtain ⟨t,rfl⟩:=rx
    cases y with
    | non=>cases ry; exact PySem.EqNone.eq_int_none (fin_bl I q (by simp))
    | int j=>obtain ⟨t',rfl⟩:=ry; exact eq_int (fin_bl I q dec_int)
    | str j=>obtain ⟨t',rfl⟩:=ry; exact PySem.EqMixed.eq_int_str (fin_bl I q (by simp))
    | _=>exact absurd (show false = true from hs) Bool.false_ne_true
  | str i=>
    obtain ⟨t,rfl⟩:=rx
    cases y with
    | non=>cases ry; exact PySem.EqNone.eq_str_none (fin_bl I q (by simp))
    | bl j=>cases ry; exact PySem.EqMixed.eq_str_bool (fin_bl I q (by simp))
    | int j=>obtain ⟨t',rfl⟩:=ry; exact PySem.EqMixed.eq_str_int (fin_bl I q (by simp))
    | str j=>obtain ⟨t',rfl⟩:=ry; exact eq_str (fin_bl I q dec_str)
    | _=>exact absurd (show false = true from hs) Bool.false_ne_true
  | byt i=>
    obtain ⟨t,rfl⟩:=rx
    cases y with
    | byt j=>obtain ⟨t',rfl⟩:=ry; exact PySem.W.eq_bytes (fin_bl I q dec_byt)
    | _=>exact absurd (show false = true from hs) Bool.false_ne_true
  | _=>cases y <;> exact absurd (show false = true from hs) Bool.false_ne_true
theorem op_ne:OpR X (compareOp .NotEq) rNe:=by
  intro pins s σ H x y v u Q I rx ry h
  obtain ⟨hs,q⟩:=h
  cases x with
  | non=>
    cases rx
    cases y with
    | non=>cases ry; exact PySem.EqNone.ne_none_none (fin_bl I q (by simp))
    | bl j=>cases ry; exact PySem.EqNone.ne_none_bool (fin_bl I q (by simp))
    | int j=>obtain ⟨t',rfl⟩:=ry; exact PySem.EqNone.ne_none_int (fin_bl I q (by simp))
    | str j=>obtain ⟨t',rfl⟩:=ry; exact PySem.EqNone.ne_none_str (fin_bl I q (by simp))
    | _=>exact absurd (show false = true from hs) Bool.false_ne_true
  | bl i=>
    cases rx
    cases y with
    | non=>cases ry; exact PySem.EqNone.ne_bool_none (fin_bl I q (by simp))
    | bl j=>cases ry; exact ne_bool (fin_bl I q (congrArg not dec_bl))
    | str j=>obtain ⟨t',rfl⟩:=ry; exact PySem.EqMixed.ne_bool_str (fin_bl I q (by simp))
    | _=>exact absurd (show false = true from hs) Bool.false_ne_true
  | int i=>
    obtain ⟨t,rfl⟩:=rx
    cases y with
    | non=>cases ry; exact PySem.EqNone.ne_int_none (fin_bl I q (by simp))
    | int j=>obtain ⟨t',rfl⟩:=ry; exact ne_int (fin_bl I q (congrArg not dec_int))
    | str j=>obtain ⟨t',rfl⟩:=ry; exact PySem.EqMixed.ne_int_str (fin_bl I q (by simp))
    | _=>exact absurd (show false = true from hs) Bool.false_ne_true
  | str i=>
    obtain ⟨t,rfl⟩:=rx
    cases y with
    | non=>cases ry; exact PySem.EqNone.ne_str_none (fin_bl I q (by simp))
    | bl j=>cases ry; exact PySem.EqMixed.ne_str_bool (fin_bl I q (by simp))
    | int j=>obtain ⟨t',rfl⟩:=ry; exact PySem.EqMixed.ne_str_int (fin_bl I q (by simp))
    | str j=>obtain ⟨t',rfl⟩:=ry; exact ne_str (fin_bl I q (congrArg not dec_str))
    | _=>exact absurd (show false = true from hs) Bool.false_ne_true
  | byt i=>
    obtain ⟨t,rfl⟩:=rx
    cases y with
    | byt j=>obtain ⟨t',rfl⟩:=ry; exact PySem.W.ne_bytes (fin_bl I q (congrArg not dec_byt))
    | _=>exact absurd (show false = true from hs) Bool.false_ne_true
  | _=>cases y <;> exact absurd (show false = true from hs) Bool.false_ne_true
theorem op_lt:OpR X (compareOp .Lt) (rI0 fun i j=>.bl (decide (i < j))):=opB0 fun _ _ _ _ _ _ _ q=>lt_int q
theorem op_le:OpR X (compareOp .LtE) (rI0 fun i j=>.bl (decide (i ≤ j))):=opB0 fun _ _ _ _ _ _ _ q=>le_int q
theorem op_gt:OpR X (compareOp .Gt) (rI0 fun i j=>.bl (decide (j < i))):=opB0 fun _ _ _ _ _ _ _ q=>gt_int q
theorem op_ge:OpR X (compareOp .GtE) (rI0 fun i j=>.bl (decide (j ≤ i))):=opB0 fun _ _ _ _ _ _ _ q=>ge_int q
theorem op_isN:OpR X (compareOp .Is) (fun x y H Q=>y = .non∧Q (.bl (decide (x = .non))) H):=by
  intro pins s σ H x y v u Q I rx ry h
  obtain ⟨rfl,q⟩:=h
  cases ry
  refine is_none_gen (fin_bl I q ?_)
  cases x <;> first
    | (cases rx; rfl)
    | (obtain ⟨t,rfl⟩:=rx; rfl)
theorem op_notN:OpR X (compareOp .IsNot) (fun x y H Q=>y = .non∧Q (.bl (!decide (x = .non))) H):=by
  intro pins s σ H x y v u Q I rx ry h
  obtain ⟨rfl,q⟩:=h
  cases ry
  refine isnot_none_gen (fin_bl I q ?_)
  cases x <;> first
    | (cases rx; rfl)
    | (obtain ⟨t,rfl⟩:=rx; rfl)
theorem nomark (b:Expr) {op:CmpOp} (h:op ≠ .In:=by decide) (h2:op ≠ .NotIn:=by decide):behindInMarks op b = false:=by
  have e1:(op == CmpOp.In) = false:=by cases op <;> first | rfl | exact absurd rfl h
  have e2:(op == CmpOp.NotIn) = false:=by cases op <;> first | rfl | exact absurd rfl h2
  cases b <;> simp [behindInMarks,e1,e2]
theorem pe_cmpR {op:CmpOp} {r:R2} (ho:OpR X (compareOp op) r) (ha:PE X a ta) (hb:PE X b tb) (hm:behindInMarks op b = false):PE X (.Compare a [op] [b] pos) (tOp r ta tb):=by
  intro pins s σ H Q I h
  exact wpAny_Compare1 (binT ha hb I h fun v u s2 x y H2 I2 rx ry q=>ho pins s2 σ H2 x y v u Q I2 rx ry q) hm
def tTest (t:TE):TT:=fun σ H Q=>t σ H fun x H'=>∃ k,x = .bl k∧Q k H'
theorem pt_cmpR {op:CmpOp} {r:R2} (ho:OpR X (compareOp op) r) (ha:PE X a ta) (hb:PE X b tb) (hm:behindInMarks op b = false):PT X (.Compare a [op] [b] pos) (tTest (tOp r ta tb)):=by
  intro pins s σ H Q I h
  refine wpAny_isTrue_Compare1 (thn (ha pins s σ H _ I h) fun v s1 ⟨x,H1,I1,r1,q1⟩=>thn (hb pins s1 σ H1 _ I1 q1) fun u s2 ⟨y,H2,I2,r2,q2⟩=>
    thn (ho pins s2 σ H2 x y v u _ I2 r1 r2 q2) fun c s3 ⟨z,H3,I3,r3,k,e,q3⟩=>?_) hm
  subst e
  cases r3
  exact wpAny_truthy_bool ⟨H3,I3,q3⟩
def tChain (r r':R2) (ta tb tc:TE):TE:=fun σ H Q=>ta σ H fun x H1=>tb σ H1 fun y H2=>r x y H2 fun z H3=>∃ k,z = .bl k∧
  (if k = true then tc σ H3 fun w' H4=>r' y w' H4 Q else Q (.bl false) H3)
theorem pe_chain {op op':CmpOp} {r r':R2} (ho:OpR X (compareOp op) r) (ho':OpR X (compareOp op') r') (ha:PE X a ta) (hb:PE X b tb) (hc:PE X c tc)
    (hm:lastMarks [op,op'] [b,c] = false:=by with_unfolding_all rfl):PE X (.Compare a [op,op'] [b,c] pos) (tChain r r' ta tb tc):=by
  intro pins s σ H Q I h
  refine Compare_chain (thn (ha pins s σ H _ I h) fun v s1 ⟨x,H1,I1,r1,q1⟩=>chain_link (thn (hb pins s1 σ H1 _ I1 q1) fun u s2 ⟨y,H2,I2,r2,q2⟩=>
    thn (ho pins s2 σ H2 x y v u _ I2 r1 r2 q2) fun d s3 ⟨z,H3,I3,r3,k,e,q3⟩=>?_)) hm
  subst e
  cases r3
  refine wpAny_truthy_bool ?_
  cases k with
  | false=>exact ite_ff ⟨.bl false,H3,I3,rfl,q3⟩
  | true=>exact ite_tt (chain_last (thn (hc pins s3 σ H3 _ I3 q3) fun w' s4 ⟨z',H4,I4,r4,q4⟩=>ho' pins s4 σ H4 y z' u w' Q I4 r2 r4 q4))
theorem pt_chain {op op':CmpOp} {r r':R2} (ho:OpR X (compareOp op) r) (ho':OpR X (compareOp op') r') (ha:PE X a ta) (hb:PE X b tb) (hc:PE X c tc)
    (hm:lastMarks [op,op'] [b,c] = false:=by with_unfolding_all rfl):PT X (.Compare a [op,op'] [b,c] pos) (tTest (tChain r r' ta tb tc)):=by
  intro pins s σ H Q I h
  refine isTrue_chain (thn (ha pins s σ H _ I h) fun v s1 ⟨x,H1,I1,r1,q1⟩=>test_link (thn (hb pins s1 σ H1 _ I1 q1) fun u s2 ⟨y,H2,I2,r2,q2⟩=>
    thn (ho pins s2 σ H2 x y v u _ I2 r1 r2 q2) fun d s3 ⟨z,H3,I3,r3,k,e,q3⟩=>?_)) hm
  subst e
  cases r3
  refine wpAny_truthy_bool ?_
  cases k with
  | false=>
    obtain ⟨k',e',q'⟩:=q3
    cases e'
    exact ite_ff ⟨H3,I3,q'⟩
  | true=>
    refine ite_tt (test_last (thn (hc pins s3 σ H3 _ I3 q3) fun w' s4 ⟨z',H4,I4,r4,q4⟩=>thn (ho' pins s4 σ H4 y z' u w' _ I4 r2 r4 q4) fun d' s5 ⟨z2,H5,I5,r5,k2,e2,q5⟩=>?_))
    subst e2
    cases r5
    exact wpAny_truthy_bool ⟨H5,I5,q5⟩
def TruV (K:PySem.W.Frag) (x:V) (H:Hp) (k:Bool):Prop:=
  match x with
  | .non=>k = false
  | .bl b=>k = b
  | .int i=>k = (i != 0)
  | .str y=>y.length ≤ sizeLine∧k = ((y.length:Int) != 0)
  | .byt y=>y.size ≤ sizeLine∧k = ((y.size:Int) != 0)
  | .ref p=>(∃ xs,SqL K H p xs∧k = !xs.isEmpty) ∨ (∃ xs,SqT K H p xs∧k = !xs.isEmpty) ∨ ∃ kvs,H p = some (.dK kvs)∧k = !kvs.isEmpty
  | _=>False
theorem isEmpty_kv {κ:Type} {kvs:List (κ × V)} {vs:List (κ × Value)} (r:KV kvs vs):(!vs.isEmpty) = !kvs.isEmpty:=by
  cases r <;> rfl
theorem isEmpty_of {xs:List V} {its:List Value} (r:Vals xs its):(!its.toArray.isEmpty) = !xs.isEmpty:=by
  cases r <;> simp
theorem line63:(sizeLine:Nat) < 2 ^ 63:=by rw [sizeLine_eq]; decide
theorem tru_ok:TruR X (fun x H Q=>∃ k,TruV X.K x H k∧Q k H):=by
  intro pins s σ H x v Q I rx h
  obtain ⟨k,e,q⟩:=h
  have hl:=line63
  have hs:sizeLine = 16777216:=sizeLine_eq
  cases x with
  | non=>
    cases rx
    have e':k = false:=e
    subst e'
    exact truthy_none ⟨H,I,q⟩
  | bl b=>
    cases rx
    have e':k = b:=e
    subst e'
    exact wpAny_truthy_bool ⟨H,I,q⟩
  | int i=>
    obtain ⟨t,rfl⟩:=rx
    have e':k = (i != 0):=e
    subst e'
    exact PySem.P.truthy_int ⟨H,I,q⟩
  | str y=>
    obtain ⟨t,rfl⟩:=rx
    obtain ⟨hy,e'⟩:y.length ≤ sizeLine∧k = ((y.length:Int) != 0):=e
    subst e'
    exact PySem.P.truthy_str (by omega) ⟨H,I.tok _,q⟩
  | byt y=>
    obtain ⟨t,rfl⟩:=rx
    obtain ⟨hy,e'⟩:y.size ≤ sizeLine∧k = ((y.size:Int) != 0):=e
    subst e'
    exact PySem.W.truthy_bytes (by omega) ⟨H,I.tok _,q⟩
  | ref p=>
    cases rx
    have e':(∃ xs,SqL X.K H p xs∧k = !xs.isEmpty) ∨ (∃ xs,SqT X.K H p xs∧k = !xs.isEmpty) ∨ ∃ kvs,H p = some (.dK kvs)∧k = !kvs.isEmpty:=e
    rcases e' with ⟨xs,hx,e'⟩ | ⟨xs,hx,e'⟩ | ⟨kvs,hx,e'⟩
    · subst e'
      obtain ⟨its,r,pl,hz⟩:=I.list hx
      have hlen:=r.length
      exact wpAny_truthy_list pl.isList (by simp only [List.size_toArray]; omega) ⟨H,I.tok _,by rw [isEmpty_of r]; exact q⟩
    · subst e'
      obtain ⟨its,r,pl,hz⟩:=I.tuple hx
      have hlen:=r.length
      exact truthy_tuple pl (by simp only [List.size_toArray]; omega) ⟨H,I.tok _,by rw [isEmpty_of r]; exact q⟩
    · subst e'
      obtain ⟨hz,hS,vs,r,m⟩:kvs.length ≤ sizeLine∧(p == sysModules) = false∧∃ vs,KV kvs vs∧s.heap.DictOf (mixKind X.prog X.w) p vs:=I.hok p _ hx
      have hlen:kvs.length = vs.length:=Paired.length r
      exact wpAny_truthy_dict hS m (by omega) ⟨H,I.tok _,by rw [isEmpty_kv r]; exact q⟩
  | _=>exact (show False from e).elim
theorem pt_truth (ha:PE X a ta) (he:∀ whole,isTrue a X.env whole = (do let v ← whole; standAt a.pos; holding [v] (truthy v))) :
    PT X a (fun σ H Q=>ta σ H fun x H'=>∃ k,TruV X.K x H' k∧Q k H'):=by
  intro pins s σ H Q I h
  exact isTrue_plain (thn (ha pins s σ H _ I h) fun v s1 ⟨x,H1,I1,r1,q1⟩=>tru_ok pins s1 σ H1 x v Q I1 r1 q1) (he _)
theorem vals1 {x:V} {us:List Value} (r:Vals [x] us):∃ u,us = [u]∧RelV x u:=by
  cases r with
  | cons r1 r2=>cases r2; exact ⟨_,rfl,r1⟩
theorem vals2 {x y:V} {us:List Value} (r:Vals [x,y] us):∃ u w',us = [u,w']∧RelV x u∧RelV y w':=by
  cases r with
  | cons r1 r2=>
    cases r2 with
    | cons r3 r4=>cases r4; exact ⟨_,_,rfl,r1,r3⟩
theorem call_abs:CallR X (.builtin "abs") (fun xs H Q=>∃ i,xs = [.int i]∧Q (.int (if i < 0 then -i else i)) H):=by
  intro pins s σ H xs us Q I r h
  obtain ⟨i,rfl,q⟩:=h
  obtain ⟨u,rfl,t,rfl⟩:=vals1 r
  exact call_abs_int fun u tk=>⟨.int (if i < 0 then -i else i),H,I.tok _,⟨_,rfl⟩,q⟩
theorem call_min2 (hc:X.calm = true):CallR X (.builtin "min") (fun xs H Q=>∃ i j,xs = [.int i,.int j]∧Q (.int (if j < i then j else i)) H):=by
  intro pins s σ H xs us Q I r h
  obtain ⟨i,j,rfl,q⟩:=h
  obtain ⟨u,w',rfl,⟨t,rfl⟩,⟨t',rfl⟩⟩:=vals2 r
  refine min_two_ints (I.ok.hd hc) fun h' tk k=>⟨_,H,I.kept k,?_,q⟩
  by_cases hj:j < i
  · rw [if_pos hj,if_pos hj]; exact ⟨_,rfl⟩
  · rw [if_neg hj,if_neg hj]; exact ⟨_,rfl⟩
end
end L2
namespace L2
open PySem PySem.Spec PyProof.Rows
structure ObjM (h:Heap) (x dx C:Addr) (mA:Str→Option Value):Prop where
  obj:h.get? x = some (PySem.W.instObj C dx)
  ns:h.Ns1 dx mA
  ne:dx ≠ x
theorem lookIn_ns {h:Heap} {dx:Addr} {mA:Str→Option Value} (n:h.Ns1 dx mA):∃ od,h.get? dx = some od∧∀ name,PySem.W.lookIn name od = some (mA name):=by
  obtain ⟨o,es,ep,ho,hd,hk,_,hm⟩:=n
  refine ⟨o,ho,fun name=>?_⟩
  have e:=hm name
  unfold nsFind findBy at e
  rw [← Array.find?_toList] at e
  unfold PySem.W.lookIn
  rw [hd]
  dsimp only
  split
  · rename_i y q
    rw [q] at e
    exact congrArg some e
  · rename_i q
    rw [q] at e
    have a:es.toList.any (·.refKey) = false:=by
      rw [List.any_eq_false]
      intro y hy
      obtain ⟨z,t,hkey⟩:=hk y (Array.mem_toList_iff.mp hy)
      simp [DictEntry.refKey,hkey]
    have a':¬ es.toList.any (·.refKey) = true:=by rw [a]; exact Bool.false_ne_true
    rw [if_neg a']
    exact congrArg some e
theorem ObjM.look {h:Heap} {x dx C:Addr} {mA:Str→Option Value} (I:ObjM h x dx C mA):∃ od,PySem.W.InstAt h x (PySem.W.instObj C dx) C (some od)∧∀ name,PySem.W.lookIn name od = some (mA name):=
  let ⟨od,ho,hl⟩:=lookIn_ns I.ns
  ⟨od,⟨I.obj,rfl,rfl,ho⟩,hl⟩
section
variable {prog:Program} {w:World} {A:Around} {E:Value→Shared→Prop} {s:Shared} {K:PySem.W.Frag} {x dx C f:Addr} {mA:Str→Option Value} {name:Str} {v:Value}
theorem get_map {expr:Bool} {Q:Value→Shared→Prop} (X:K.In s.heap) (I:ObjM s.heap x dx C mA) (hg:PySem.W.plainGet K C name = true) (hh:PySem.W.hasDictIn K C = true)
    (ha:PySem.W.findIn K (.ref C) name = some none) (hv:mA name = some v) (hv':PySem.W.handedIn v = true) (h:Q v { s with toks:=s.toks + 1 }) :
    wpAny (model prog w) A (getAttr (.ref x) name expr) Q E s:=by
  obtain ⟨od,J,hl⟩:=I.look
  exact PySem.W.get_value X J (PySem.W.plainGet_of hg).1 (PySem.W.findObj_own hh ha rfl (by rw [hl,hv])) hv' h
theorem get_meth {pl:Sem Bool} {Q:Value × List Value→Shared→Prop} (X:K.In s.heap) (I:ObjM s.heap x dx C mA) (hg:PySem.W.plainGet K C name = true)
    (hf:PySem.W.findIn K (.ref C) name = some (some (.ref f))) (ht:PySem.W.isFn K (.ref f) = true) (hv:mA name = none) (h:Q (.ref f,[.ref x]) s) :
    wpAny (model prog w) A (getMethod (.ref x) name pl) Q E s:=by
  obtain ⟨od,J,hl⟩:=I.look
  exact PySem.W.method_fn X J (PySem.W.plainGet_of hg).1 (PySem.W.plainGet_of hg).2 hf (beq_iff_eq.mp ht) (by show (PySem.W.lookIn name od).map (·.isSome) = some false; rw [hl,hv]; rfl) h
theorem set_map {ns:List Str} {Q:Unit→Shared→Prop} (X:K.In s.heap) (I:ObjM s.heap x dx C mA)
    (hs:PySem.W.findIn K (.ref C) "__setattr__" = some (some (.builtin "object.__setattr__"))) (hp:PySem.W.plainOver K C = true) (ht:PySem.W.takerIn K C name = some none) (hh:PySem.W.hasDictIn K C = true)
    (hw:PySem.Within mA ns) (hsz:ns.length ≤ sizeLine)
    (h:∀ h',ObjM h' x dx C (fun y=>if y = name then some v else mA y)→Heap.SameBut dx s.heap h'→Q () { s with heap:=h',toks:=s.toks + 2 }) :
    wpAny (model prog w) A (setAttr (.ref x) name v) Q E s:=by
  obtain ⟨od,J,hl⟩:=I.look
  refine PySem.W.set_plain X J hs (PySem.W.osa_open (s:={ s with toks:=s.toks + 1 }) (r:=none) X J hp ht fun b=>?_)
  obtain ⟨cd,hc,hd'⟩:=PySem.W.any_some hh
  have hx:s.heap.get? x = some ⟨.ref C,some dx,.plain,#[]⟩:=I.obj
  refine wpAny_bind (wpAny_pure (wpAny_bind (wpAny_bind (wpAny_loadPart hx (wpAny_bind (PySem.W.Looks.here (s:={ s with toks:=s.toks + 1 }) (PySem.W.looks_clsIn X hc) ?_))))))
  rw [hd']
  refine wpAny_pure (a:=some dx) (wpAny_bind (wpAny_pure (wpAny_bind ?_)))
  refine wpAny_nsSet1 (s:={ s with toks:=s.toks + 1 }) I.ns fun h' hn2 hs2=>?_
  obtain ⟨oD,esD,epD,hoD,hdD,hcD⟩:=hn2.count (PySem.Within.cons name v hw)
  refine wpAny_bind (wpAny_lookBehind hoD (by rw [hdD]; exact pastItsLine_dict (Nat.le_trans hcD (by rw [List.length_cons]; omega))) ?_)
  exact wpAny_pure (h _ ⟨(hs2.2 _ (Ne.symm I.ne)).trans I.obj,hn2,I.ne⟩ hs2)
theorem make_map {R:Result→Shared→Prop} {vs:List Value} {kw:List (Str × Value)} (X:K.In s.heap) (hm:PySem.W.makesIn K C = true)
    (hi:PySem.W.findIn K (.ref C) "__init__" = some (some (.ref f))) (hf:PySem.W.typeIn K (.ref f) = some (.type "function"))
    (h:codeAny (model prog w) (A.under (.builtin "type.__call__" ⟨.ref C :: vs,kw⟩)) (.call (.ref f) ⟨.ref (s.heap.objs.size + 1) :: vs,kw⟩) (PySem.W.InitBack (s.heap.objs.size + 1) R)
      { s with heap:=(s.heap.push PySem.W.emptyDict).push (PySem.W.instObj C s.heap.objs.size) }) :
    codeAny (model prog w) A (.call (.ref C) ⟨vs,kw⟩) R s:=by
  obtain ⟨hh,g,d,t,os⟩:=s
  exact PySem.W.make_core (PySem.W.makes_of X hm) (PySem.W.looks_findIn X hi) (fun self=>PySem.W.bind_fn X self hf) (.inl rfl) h
end
def putF (f:Str) (v:V):List (Str × V)→List (Str × V)
  | []=>[(f,v)]
  | (g,x) :: r=>if g = f then (g,v) :: r else (g,x) :: putF f v r
theorem lookup_putF (f g:Str) (v:V):∀ fs:List (Str × V),(putF f v fs).lookup g = if g = f then some v else fs.lookup g
  | []=>by
    show List.lookup g [(f,v)] = _
    by_cases h:g = f
    · have hb:(g == f) = true:=beq_iff_eq.mpr h
      simp only [List.lookup,hb,if_pos h]
    · have hb:(g == f) = false:=beq_eq_false_iff_ne.mpr h
      simp only [List.lookup,hb,if_neg h]
  | (k,x) :: r=>by
    have ih:=lookup_putF f g v r
    rw [show putF f v ((k,x) :: r) = (if k = f then (k,v) :: r else (k,x) :: putF f v r) from rfl]
    by_cases hk:k = f
    · rw [if_pos hk]
      by_cases h:g = k
      · have hb:(g == k) = true:=beq_iff_eq.mpr h
        simp only [List.lookup,hb,if_pos (h.trans hk)]
      · have hb:(g == k) = false:=beq_eq_false_iff_ne.mpr h
        simp only [List.lookup,hb,if_neg (fun e:g = f=>h (e.trans hk.symm))]
    · rw [if_neg hk]
      by_cases h:g = k
      · have hb:(g == k) = true:=beq_iff_eq.mpr h
        simp only [List.lookup,hb,if_neg (fun e:g = f=>hk (h.symm.trans e))]
      · have hb:(g == k) = false:=beq_eq_false_iff_ne.mpr h
        simp only [List.lookup,hb]
        exact ih
theorem keys_putF (f:Str) (v:V):∀ fs:List (Str × V),f ∈ (putF f v fs).map (·.1)∧∀ g,g ∈ fs.map (·.1)→g ∈ (putF f v fs).map (·.1)
  | []=>⟨by simp [putF],fun g h=>by simp at h⟩
  | (k,x) :: r=>by
    obtain ⟨i1,i2⟩:=keys_putF f v r
    rw [show putF f v ((k,x) :: r) = (if k = f then (k,v) :: r else (k,x) :: putF f v r) from rfl]
    by_cases hk:k = f
    · rw [if_pos hk]
      subst hk
      exact ⟨by simp,fun g h=>by simpa using h⟩
    · rw [if_neg hk]
      refine ⟨?_,fun g h=>?_⟩
      · rw [List.map_cons]
        exact List.mem_cons_of_mem _ i1
      · rw [List.map_cons] at h ⊢
        rcases List.mem_cons.mp h with e | e
        · exact List.mem_cons.mpr (.inl e)
        · exact List.mem_cons_of_mem _ (i2 g e)
theorem length_putF (f:Str) (v:V):∀ fs:List (Str × V),(putF f v fs).length ≤ fs.length + 1
  | []=>by simp [putF]
  | (k,x) :: r=>by
    have ih:=length_putF f v r
    rw [show putF f v ((k,x) :: r) = (if k = f then (k,v) :: r else (k,x) :: putF f v r) from rfl]
    by_cases hk:k = f
    · rw [if_pos hk,List.length_cons,List.length_cons]; omega
    · rw [if_neg hk,List.length_cons,List.length_cons]; omega
theorem RelO.some_of {v:V} {o:Option Value} (r:RelO (some v) o):∃ u,o = some u∧RelV v u:=by
  cases o with
  | none=>exact (show False from r).elim
  | some u=>exact ⟨u,rfl,r⟩
theorem RelO.none_of {o:Option Value} (r:RelO none o):o = none:=by
  cases o with
  | none=>rfl
  | some u=>exact (show False from r).elim
theorem handed_of {v:V} {u:Value} (r:RelV v u):PySem.W.handedIn u = true:=by
  cases v with
  | non=>cases (show u = Value.none from r); rfl
  | bl b=>cases (show u = Value.bool b from r); rfl
  | int i=>obtain ⟨t,e⟩:=(show ∃ t,u = Value.int i t from r); cases e; rfl
  | str x=>obtain ⟨t,e⟩:=(show ∃ t,u = Value.str x t from r); cases e; rfl
  | byt b=>obtain ⟨t,e⟩:=(show ∃ t,u = Value.bytes b t from r); cases e; rfl
  | flt b=>obtain ⟨t,e⟩:=(show ∃ t,u = Value.float b t from r); cases e; rfl
  | ref a=>cases (show u = Value.ref a from r); rfl
  | ty n=>cases (show u = Value.type n from r); rfl
section
variable {P:Program} {w:World} {H H':Hp} {h h':Heap} {a C dx:Addr} {fs fs':List (Str × V)}
theorem ins_get (hok:HOk P w H h) (e:H a = some (.ins C dx fs)):∃ mA,ObjM h a dx C mA∧(∀ f,RelO (fs.lookup f) (mA f))∧PySem.Within mA (fs.map (·.1))∧fs.length ≤ 1000∧H dx = some (.own a):=by
  obtain ⟨d,z,ne,ob,mA,n,r,q⟩:=(show ObjOk P w H h a (.ins C dx fs) from hok a _ e)
  exact ⟨mA,⟨ob,n,ne⟩,r,q,z,d⟩
end
structure Cls (K:PySem.W.Frag) (C:Addr):Prop where
  pg:PySem.W.plainGet K C Str.empty = true
  hd:PySem.W.hasDictIn K C = true
  po:PySem.W.plainOver K C = true
  sa:PySem.W.findIn K (.ref C) "__setattr__" = some (some (.builtin "object.__setattr__"))
theorem Cls.get {K:PySem.W.Frag} {C:Addr} (c:Cls K C) (f:Str):PySem.W.plainGet K C f = true:=c.pg
def NoAttr (K:PySem.W.Frag) (C:Addr) (f:Str):Prop:=PySem.W.findIn K (.ref C) f = some none
theorem NoAttr.taker {K:PySem.W.Frag} {C:Addr} {f:Str} (n:NoAttr K C f):PySem.W.takerIn K C f = some none:=by
  unfold PySem.W.takerIn
  rw [show PySem.W.findIn K (.ref C) f = some none from n]
  rfl
structure Meth (K:PySem.W.Frag) (C:Addr) (m:Str) (f:Addr):Prop where
  at_:PySem.W.findIn K (.ref C) m = some (some (.ref f))
  fn:PySem.W.isFn K (.ref f) = true
  kp:PySem.W.keepIn K (.ref f) = true
section
variable {X:Cx} {pins:List (Addr × Obj)} {σ:St} {H:Hp} {s:Shared} {a C dx:Addr} {fs:List (Str × V)} {f:Str} {v:V} {A:Around} {E:Value→Shared→Prop}
theorem getattr_ok {b:Bool} {Q:Value→Shared→Prop} (I:Inv X pins σ H s) (e:H a = some (.ins C dx fs)) (c:Cls X.K C) (n:NoAttr X.K C f) (l:fs.lookup f = some v)
    (h:∀ u s',Inv X pins σ H s'→RelV v u→Q u s'):wpAny (model X.prog X.w) A (getAttr (.ref a) f b) Q E s:=by
  obtain ⟨mA,O,r,_,_,_⟩:=ins_get I.hok e
  obtain ⟨u,hu,ru⟩:=RelO.some_of (v:=v) (o:=mA f) (by rw [← l]; exact r f)
  exact get_map I.kIn O (c.get f) c.hd n hu (handed_of ru) (h u _ (I.tok _) ru)
theorem getmeth_ok {m:Str} {g:Addr} {pl:Sem Bool} {Q:Value × List Value→Shared→Prop} (I:Inv X pins σ H s) (e:H a = some (.ins C dx fs)) (c:Cls X.K C) (k:Meth X.K C m g) (l:fs.lookup m = none)
    (h:Q (.ref g,[.ref a]) s):wpAny (model X.prog X.w) A (getMethod (.ref a) m pl) Q E s:=by
  obtain ⟨mA,O,r,_,_,_⟩:=ins_get I.hok e
  have hn:mA m = none:=RelO.none_of (by rw [← l]; exact r m)
  exact get_meth I.kIn O (c.get m) k.at_ k.fn hn h
theorem setattr_ok {y:V} {u:Value} {Q:Unit→Shared→Prop} (I:Inv X pins σ H s) (e:H a = some (.ins C dx fs)) (c:Cls X.K C) (n:NoAttr X.K C f) (hl:fs.length < 1000) (ry:RelV y u)
    (h:∀ s',Inv X pins σ (upd H a (.ins C dx (putF f y fs))) s'→Q () s'):wpAny (model X.prog X.w) A (setAttr (.ref a) f u) Q E s:=by
  obtain ⟨mA,O,r,wi,_,ho⟩:=ins_get I.hok e
  have hz:(fs.map (·.1)).length ≤ sizeLine:=by rw [List.length_map,sizeLine_eq]; omega
  refine set_map I.kIn O c.sa c.po n.taker c.hd wi hz fun h' O' sb=>h _ ?_
  have hd:∃ o,h'.get? dx = some o:=let ⟨o,_,_,e',_⟩:=O'.ns; ⟨o,e'⟩
  refine I.write (x:=a) (e:=dx) (by rw [e]; exact True.intro) (.inr ho) (fun b q hb z=>(sb.2 b hb).trans z) hd ?_
  refine ⟨by rw [upd_ne O.ne]; exact ho,?_,O.ne,O'.obj,_,O'.ns,fun g=>?_,fun g hg=>?_⟩
  · have:=length_putF f y fs; omega
  · show RelO ((putF f y fs).lookup g) (if g = f then some u else mA g)
    rw [lookup_putF]
    by_cases q:g = f
    · rw [if_pos q,if_pos q]; exact ry
    · rw [if_neg q,if_neg q]; exact r g
  · by_cases q:g = f
    · rw [q]; exact (keys_putF f y fs).1
    · refine (keys_putF f y fs).2 g (wi g fun z=>hg ?_)
      show (if g = f then some u else mA g) = none
      rw [if_neg q]; exact z
theorem Inv.made (I:Inv X pins σ H s):Inv X pins σ (upd (upd H s.heap.objs.size (.own (s.heap.objs.size + 1))) (s.heap.objs.size + 1) (.ins C s.heap.objs.size []))
    { s with heap:=(s.heap.push PySem.W.emptyDict).push (PySem.W.instObj C s.heap.objs.size) }:=by
  have e1:(s.heap.push PySem.W.emptyDict).get? s.heap.objs.size = some PySem.W.emptyDict:=Heap.get?_push_size s.heap rfl
  have e2:((s.heap.push PySem.W.emptyDict).push (PySem.W.instObj C s.heap.objs.size)).get? (s.heap.objs.size + 1) = some (PySem.W.instObj C s.heap.objs.size):=by
    have:=Heap.get?_push_size (s.heap.push PySem.W.emptyDict) (o:=PySem.W.instObj C s.heap.objs.size) rfl
    rwa [Heap.size_push] at this
  have e3:(s.heap.push PySem.W.emptyDict).Ns s.heap.objs.size (fun _=>none):=⟨PySem.W.emptyDict,#[],_,e1,rfl,(fun e he=>absurd he (by simp)),fun _=>rfl⟩
  have I1:=I.laid (a:=s.heap.objs.size) (o:=.own (s.heap.objs.size + 1)) (h':=s.heap.push PySem.W.emptyDict) (t':=s.toks) (fun b u q=>Heap.get?_push_of_some _ q) (Nat.le_refl _) ⟨_,e1⟩
  refine I1.laid (a:=s.heap.objs.size + 1) (o:=.ins C s.heap.objs.size []) (t':=s.toks) (fun b u q=>Heap.get?_push_of_some _ q) (Nat.le_of_eq (Heap.size_push _ _)) ?_
  have ne:s.heap.objs.size ≠ s.heap.objs.size + 1:=Nat.ne_of_lt (Nat.lt_succ_self _)
  refine ⟨by rw [upd_ne ne,upd_same],Nat.zero_le _,ne,e2,fun _=>none,(Heap.Ns1.of_empty e3).at fun o q=>Heap.get?_push_of_some _ q,fun _=>True.intro,fun y hy=>absurd rfl hy⟩
theorem attr_of {prog:Program} {w:World} {env:Env} {e:Expr} {f:Str} {pos:Pos} {s:Shared} {Q:Value→Shared→Prop} (hb:attributeBase e f env (eval e env) = eval e env)
    (h:wpAny (model prog w) A (eval e env) (fun o s₁=>wpAny (model prog w) A (getAttr o f true) Q E s₁) E s):wpAny (model prog w) A (eval (.Attribute e f pos) env) Q E s:=
  Attribute_any_ h (by rw [arm_eval_Attribute,hb])
end
def tFld (K:PySem.W.Frag) (ta:TE) (f:Str):TE:=fun σ H Q=>ta σ H fun x H1=>∃ a C dx fs v,x = .ref a∧H1 a = some (.ins C dx fs)∧Cls K C∧NoAttr K C f∧fs.lookup f = some v∧Q v H1
def sFld (K:PySem.W.Frag) (ta tv:TE) (f:Str):TS:=fun D σ H=>tv σ H fun y H1=>ta σ H1 fun x H2=>∃ a C dx fs,x = .ref a∧H2 a = some (.ins C dx fs)∧Cls K C∧NoAttr K C f∧fs.length < 1000∧
  D.nx σ (upd H2 a (.ins C dx (putF f y fs)))
section
variable {X:Cx} {o e value:Expr} {f:Str} {pos pos' tpos:Pos} {ta tv:TE}
theorem pe_fld (he:PE X e ta) (hb:attributeBase e f X.env (eval e X.env) = eval e X.env):PE X (.Attribute e f pos) (tFld X.K ta f):=by
  intro pins s σ H Q I h
  refine attr_of hb (thn (he pins s σ H _ I h) fun u s1 ⟨x,H1,I1,rx,a,C,dx,fs,v,ex,ea,c,n,l,q⟩=>?_)
  subst ex
  obtain rfl:u = Value.ref a:=rx
  exact getattr_ok I1 ea c n l fun u' s2 I2 ru=>⟨v,H1,I2,ru,q⟩
theorem ps_fld (ha:PE X o ta) (hv:PE X value tv) (hs:swapsWith value (some (.Attribute o f pos')) pos.line X.env = pure false):PS X (.Assign [.Attribute o f pos'] value pos) (sFld X.K ta tv f):=by
  intro pins s σ H D I h
  refine plainObj_wpAny_Assign_Attribute (thn (hv pins s σ H _ I h) fun u s1 ⟨y,H1,I1,ry,q⟩=>thn (ha pins s1 σ H1 _ I1 q) fun ov s2 ⟨x,H2,I2,rx,a,C,dx,fs,ex,ea,c,n,l,q2⟩=>?_) hs
  subst ex
  obtain rfl:ov = Value.ref a:=rx
  exact setattr_ok I2 ea c n l ry fun s3 I3=>⟨σ,_,I3,q2⟩
theorem methcall_of {pl:Sem Bool} {m:Str} {apos:Pos} {args:List Expr} {pins:List (Addr × Obj)} {s:Shared} {σ:St} {H:Hp} {Q:Value→Shared→Prop} {te:TE} (he:PE X e te) (I:Inv X pins σ H s)
    (h:te σ H fun x H1=>∃ a C dx fs g,x = .ref a∧H1 a = some (.ins C dx fs)∧Cls X.K C∧Meth X.K C m g∧fs.lookup m = none∧
      ∀ s1,Inv X pins σ H1 s1→wpAny (model X.prog X.w) X.A (callWith pos (.ref g) [.ref a] (backTo pos (starEach args X.env)) (backToKw pos (keywordEach [] X.env))) Q X.xe s1)
    (ht:eval (.Call (.Attribute e m apos) args [] pos) X.env = (do
      let ov ← eval e X.env
      standAt apos.atName
      let (f,first) ← holding [ov] (getMethod ov m pl)
      callWith pos f first (backTo pos (starEach args X.env)) (backToKw pos (keywordEach [] X.env)))) :
    wpAny (model X.prog X.w) X.A (eval (.Call (.Attribute e m apos) args [] pos) X.env) Q X.xe s:=by
  refine PySem.W.methodCall_KW (pl:=pl) (thn (he pins s σ H _ I h) fun u s1 ⟨x,H1,I1,rx,a,C,dx,fs,g,ex,ea,c,k,l,q⟩=>?_) ht
  subst ex
  obtain rfl:u = Value.ref a:=rx
  exact getmeth_ok I1 ea c k l (q s1 I1)
end
section
variable {X:Cx} {pins:List (Addr × Obj)} {σ:St} {H:Hp} {s:Shared} {A:Around} {E:Value→Shared→Prop} {Q:Value→Shared→Prop} {c:Value} {b:Bool}
inductive TyOf (K:PySem.W.Frag) (H:Hp):V→Value→Prop where
  | non:TyOf K H .non (.type "NoneType")
  | bl (x:Bool):TyOf K H (.bl x) (.type "bool")
  | int (i:Int):TyOf K H (.int i) (.type "int")
  | str (x:Str):TyOf K H (.str x) (.type "str")
  | flt (x:UInt64):TyOf K H (.flt x) (.type "float")
  | lst {a:Addr} {xs:List V} (e:H a = some (.lst xs)):TyOf K H (.ref a) (.type "list")
  | frz {a:Addr} {o:Obj} {xs:List V} (e:H a = some (.frz o (.lst xs))):TyOf K H (.ref a) (.type "list")
  | tup {a:Addr} {xs:List V} (e:H a = some (.tup xs)):TyOf K H (.ref a) (.type "tuple")
  | dK {a:Addr} {kvs:List (Key × V)} (e:H a = some (.dK kvs)):TyOf K H (.ref a) (.type "dict")
  | dT {a:Addr} {kvs:List (List Key × V)} (e:H a = some (.dT kvs)):TyOf K H (.ref a) (.type "dict")
  | ins {a C dx:Addr} {fs:List (Str × V)} (e:H a = some (.ins C dx fs)) (cl:Cls K C) (ha:PySem.W.findIn K (.ref C) "__class__" = some (some (.builtin "object.__class__")))
      (hn:PySem.W.specialIn K (.builtin "object.__class__") "__get__" = some (some (.builtin "getset_descriptor.__get__"))) (htk:PySem.W.takesIn K (.builtin "object.__class__") = some true)
      (hm:PySem.W.mroIn K C (.type "object") = some true):TyOf K H (.ref a) (.ref C)
theorem isinst_ok {x:V} {u t:Value} (I:Inv X pins σ H s) (rx:RelV x u) (ty:TyOf X.K H x t) (e:PySem.W.kitOne X.K t c = some b) (h:∀ tk,Q (.bool b) { s with toks:=tk }) :
    wpAny (model X.prog X.w) A (call (.builtin "isinstance") [u,c]) Q E s:=by
  cases ty with
  | non=>cases (show u = Value.none from rx); exact PySem.W.kia_one PySem.W.kitx_none I.kIn True.intro e (fun z=>nomatch z) h
  | bl y=>cases (show u = Value.bool y from rx); exact PySem.W.kia_one PySem.W.kitx_bool I.kIn True.intro e (fun z=>nomatch z) h
  | int i=>obtain ⟨t,q⟩:=(show ∃ t,u = Value.int i t from rx); cases q; exact PySem.W.kia_one PySem.W.kitx_int I.kIn True.intro e (fun z=>nomatch z) h
  | str y=>obtain ⟨t,q⟩:=(show ∃ t,u = Value.str y t from rx); cases q; exact PySem.W.kia_one PySem.W.kitx_str I.kIn True.intro e (fun z=>nomatch z) h
  | flt y=>obtain ⟨t,q⟩:=(show ∃ t,u = Value.float y t from rx); cases q; exact PySem.W.kia_one PySem.W.kitx_float I.kIn True.intro e (fun z=>nomatch z) h
  | @lst a xs ea=>
    cases (show u = Value.ref a from rx)
    obtain ⟨_,_,n,_,h1⟩:=(show ObjOk X.prog X.w H s.heap a (.lst xs) from I.hok a _ ea)
    exact PySem.W.kia_one PySem.W.kitx_list I.kIn ⟨_,h1,rfl⟩ e (fun z=>nomatch z) h
  | @frz a ob xs ea=>
    cases (show u = Value.ref a from rx)
    obtain ⟨_,_,_,n,_,h1⟩:=(show ObjOk X.prog X.w H s.heap a (.frz ob (.lst xs)) from I.hok a _ ea)
    exact PySem.W.kia_one PySem.W.kitx_list I.kIn ⟨_,h1,rfl⟩ e (fun z=>nomatch z) h
  | @tup a xs ea=>
    cases (show u = Value.ref a from rx)
    obtain ⟨_,_,_,p⟩:=(show ObjOk X.prog X.w H s.heap a (.tup xs) from I.hok a _ ea)
    obtain ⟨o,h1,h2,_⟩:=p
    exact PySem.W.kia_one PySem.W.kitx_tuple I.kIn ⟨o,h1,h2⟩ e (fun z=>nomatch z) h
  | @dK a kvs ea=>
    cases (show u = Value.ref a from rx)
    obtain ⟨_,_,vs,_,p⟩:=(show ObjOk X.prog X.w H s.heap a (.dK kvs) from I.hok a _ ea)
    obtain ⟨o,es,ep,h1,h2,_⟩:=p
    exact PySem.W.kia_one PySem.W.kitx_dict I.kIn ⟨o,h1,h2.1⟩ e (fun z=>nomatch z) h
  | @dT a kvs ea=>
    cases (show u = Value.ref a from rx)
    obtain ⟨_,_,xs,_,o,es,ep,h1,h2,_⟩:=(show ObjOk X.prog X.w H s.heap a (.dT kvs) from I.hok a _ ea)
    exact PySem.W.kia_one PySem.W.kitx_dict I.kIn ⟨o,h1,h2.1⟩ e (fun z=>nomatch z) h
  | @ins a C dx fs ea cl ha hn htk hm=>
    cases (show u = Value.ref a from rx)
    obtain ⟨mA,O,_⟩:=ins_get I.hok ea
    obtain ⟨od,J,_⟩:=O.look
    exact PySem.W.kia_one (PySem.W.kitx_own (cl.get _) cl.hd ha hn htk hm) I.kIn J e (fun z=>nomatch z) h
end
end L2
namespace L2
open PySem PySem.Spec PyProof.Rows
structure Room (k:Nat) (A:Around):Prop where
  hd:A.handled = none
  dp:A.depth + 3 * k + 5 < recursionLimit
  un:A.units + 16 * k + 200 < cLine
theorem Room.mono {j k:Nat} {A:Around} (r:Room k A) (h:j ≤ k):Room j A:=⟨r.hd,by have:=r.dp; omega,by have:=r.un; omega⟩
theorem Room.deeper {k:Nat} {A:Around} (r:Room (k + 1) A) (env:Env):Room k (A.deeper env):=
  ⟨r.hd,by have:=r.dp; show A.depth + 1 + 3 * k + 5 < _; omega,by have:=r.un; show A.units + 3 + 16 * k + 200 < _; omega⟩
theorem make_depth {A:Around} {C:Addr} {us:List Value} {kw:List (Str × Value)}:(A.under (.builtin "type.__call__" ⟨.ref C :: us,kw⟩)).depth = A.depth + 1:=by
  first | rfl | simp [Around.under,Code.weight,Code.isCreation,Code.isGuard,Code.isCaller,Code.frames,Code.isFrame,guardIds]
theorem make_units {A:Around} {C:Addr} {us:List Value} {kw:List (Str × Value)}:(A.under (.builtin "type.__call__" ⟨.ref C :: us,kw⟩)).units = A.units + 1:=by
  first | rfl | simp [Around.under,Code.cUnits,Code.frames,Code.isFrame]
theorem Room.make {k:Nat} {A:Around} (r:Room (k + 1) A) (C:Addr) (us:List Value) (kw:List (Str × Value)):Room k (A.under (.builtin "type.__call__" ⟨.ref C :: us,kw⟩)):=
  ⟨r.hd,by have:=r.dp; rw [make_depth]; omega,by have:=r.un; rw [make_units]; omega⟩
theorem Room.depth {k:Nat} {A:Around} (r:Room k A):A.depth < recursionLimit:=by have:=r.dp; omega
theorem Room.units {k:Nat} {A:Around} (r:Room k A):A.units + 64 < cLine:=by have:=r.un; omega
theorem Room.units0 {k:Nat} {A:Around} (r:Room k A):A.units < cLine:=by have:=r.un; omega
def tNil:TA:=fun _ H Q=>Q [] H
def tCons (ta:TE) (tr:TA):TA:=fun σ H Q=>ta σ H fun x H1=>tr σ H1 fun xs H2=>Q (x :: xs) H2
section
variable {X:Cx} {e:Expr} {es:List Expr} {te:TE} {t:TA} {pos:Pos}
theorem pa_nil:PA X [] tNil:=fun _ _ _ _ H Q I h=>Calls.spliced_nil ⟨[],H,I,.nil,h⟩
theorem pa_cons (ha:PE X e te) (hr:PA X es t) (hs:starEach (e :: es) X.env = (false,eval e X.env) :: starEach es X.env:=by rfl):PA X (e :: es) (tCons te t):=by
  intro pos pins s σ H Q I h
  rw [hs]
  show wpAny _ _ (spliced ((false,eval e X.env) :: backTo pos (starEach es X.env))) _ _ s
  refine Calls.spliced_cons (thn (ha pins s σ H _ I h) fun u s1 ⟨x,H1,I1,r1,q1⟩=>?_)
  exact thn (hr pos pins s1 σ H1 _ I1 q1) fun us s2 ⟨xs,H2,I2,r2,q2⟩=>⟨x :: xs,H2,I2,.cons r1 r2,q2⟩
def tTup (t:TA):TE:=fun σ H Q=>t σ H fun xs H1=>xs.length ≤ sizeLine∧∀ p,H1 p = none→Q (.ref p) (upd H1 p (.tup xs))
def tLst (t:TA):TE:=fun σ H Q=>t σ H fun xs H1=>xs.length ≤ sizeLine∧∀ p,H1 p = none→Q (.ref p) (upd H1 p (.lst xs))
theorem pe_tup {x1} (h:PA X es t):PE X (.Tuple es x1 pos) (tTup t):=by
  intro pins s σ H Q I hq
  refine wpAny_Tuple_spliced (thn (h pos pins s σ H _ I hq) fun us s1 ⟨xs,H1,I1,r,z,q⟩=>⟨by rw [← r.length]; exact z,?_⟩)
  have hf:H1 s1.heap.objs.size = none:=I1.hok.fresh (Nat.le_refl _)
  refine ⟨.ref s1.heap.objs.size,upd H1 s1.heap.objs.size (.tup xs),I1.laid (t':=s1.toks) (fun b u e=>Heap.get?_push_of_some _ e) (Nat.le_refl _) ?_,rfl,q _ hf⟩
  exact ⟨z,us,r,⟨_,Heap.get?_push_size _ rfl,rfl,_,rfl⟩⟩
theorem pe_lst (h:PA X es t):PE X (.List es pos) (tLst t):=by
  intro pins s σ H Q I hq
  refine wpAny_List_spliced (thn (h pos pins s σ H _ I hq) fun us s1 ⟨xs,H1,I1,r,z,q⟩=>⟨by rw [← r.length]; exact z,?_⟩)
  have hf:H1 s1.heap.objs.size = none:=I1.hok.fresh (Nat.le_refl _)
  refine ⟨.ref s1.heap.objs.size,upd H1 s1.heap.objs.size (.lst xs),I1.laid (t':=s1.toks) (fun b u e=>Heap.get?_push_of_some _ e) (Nat.le_refl _) ?_,rfl,q _ hf⟩
  exact ⟨z,us,0,r,Heap.get?_push_size _ rfl⟩
end
abbrev Sp:=List V→Hp→VK→XK→Prop
abbrev CXT:=List Env→Hp→Shared→XK→Value→Shared→Prop
structure Env0 (P:Program) (w:World) (K:PySem.W.Frag) (mg:Str→Option Value) (base:Heap) (A:Around) (outer:List Env) (s:Shared) (H:Hp):Prop where
  frames:A.frames = some outer
  mod:Mod K mg base
  bs:∀ b o,base.get? b = some o→s.heap.get? b = some o∧H b = none
  bsz:base.objs.size ≤ s.heap.objs.size
  funs:s.heap.FunFrames base outer
  frf:∀ b ∈ frs outer,H b = none
  hok:HOk P w H s.heap
  bare:AllBare s.gens
def CE (outer:List Env) (P:Program) (w:World) (H:Hp) (s:Shared) (Q:VK) (u:Value) (s':Shared):Prop:=
  ∃ v H',s'.os = s.os∧AllBare s'.gens∧Un (frs outer) [] H H' s.heap s'.heap∧HOk P w H' s'.heap∧RelV v u∧Q v H'
def CR (CX:CXT) (outer:List Env) (P:Program) (w:World) (H:Hp) (s:Shared) (Q:VK) (E:XK) (r:Result) (s':Shared):Prop:=
  match r with
  | .ok (.ret u)=>CE outer P w H s Q u s'
  | .ok _=>False
  | .error e=>CX outer H s E e s'
structure FnOk (P:Program) (w:World) (K:PySem.W.Frag) (mg:Str→Option Value) (base:Heap) (CX:CXT) (k:Nat) (f:Addr) (fd:FuncData) (ps:List Str) (sp:Sp):Prop where
  len:∀ vs H Q E,sp vs H Q E→vs.length = ps.length
  run:∀ (A:Around) (outer:List Env) (s:Shared) (H:Hp) (args:Args) (us:List Value) (vs:List V) (Q:VK) (E:XK),Room k A→Env0 P w K mg base A outer s H→BindsTo s fd args (ps.zip us)→Vals vs us→sp vs H Q E→
    codeAny (model P w) A (.call (.ref f) args) (CR CX outer P w H s Q E) s
theorem Env0.make {P:Program} {w:World} {K:PySem.W.Frag} {mg:Str→Option Value} {base:Heap} {A:Around} {outer:List Env} {s:Shared} {H:Hp} (e:Env0 P w K mg base A outer s H) (C:Addr) (us:List Value) (kw:List (Str × Value)) :
    Env0 P w K mg base (A.under (.builtin "type.__call__" ⟨.ref C :: us,kw⟩)) outer s H:=⟨by first | exact e.frames | (simpa [Around.under,Code.envs,Code.isFrame,pushEnvs] using e.frames),e.mod,e.bs,e.bsz,e.funs,e.frf,e.hok,e.bare⟩
section
variable {X:Cx} {pins:List (Addr × Obj)} {σ:St} {H:Hp} {s s':Shared}
theorem Inv.env0 (I:Inv X pins σ H s):Env0 X.prog X.w X.K X.mg X.base X.A X.stack s H:=
  ⟨I.ok.frames,I.ok.mod,I.bs,Nat.le_trans I.ok.bsz I.sz,I.stack,I.stkFree,I.hok,I.bare⟩
theorem Inv.after {Q:VK} {u:Value} (I:Inv X pins σ H s) (h:CE X.stack X.prog X.w H s Q u s'):EP X pins σ Q u s':=by
  obtain ⟨v,H',os,bare,un,hok,r,q⟩:=h
  obtain ⟨hh,g,d,t,os'⟩:=s'
  obtain rfl:os' = s.os:=os
  exact ⟨v,H',I.call (h':=hh) (g':=g) (d':=d) (t':=t) (ch:=[]) un hok bare (fun b z=>absurd z (by simp)),r,q⟩
end
def tCall (sp:Sp) (dvs:List V) (E:XK) (t:TA):TE:=fun σ H Q=>t σ H fun vs H1=>sp (vs ++ dvs) H1 Q E
def tMeth (C:Addr) (m:Str) (sp:Sp) (dvs:List V) (E:XK) (ta:TE) (t:TA):TE:=fun σ H Q=>ta σ H fun x H1=>∃ a dx fs,x = .ref a∧H1 a = some (.ins C dx fs)∧fs.lookup m = none∧
  t σ H1 fun vs H2=>sp (x :: (vs ++ dvs)) H2 Q E
def tMake (C:Addr) (sp:Sp) (dvs:List V) (E:XK) (t:TA):TE:=fun σ H Q=>t σ H fun vs H1=>∀ x dx,H1 x = none→H1 dx = none→dx ≠ x→
  sp (.ref x :: (vs ++ dvs)) (upd (upd H1 dx (.own x)) x (.ins C dx [])) (fun v H2=>v = .non∧Q (.ref x) H2) E
def Binds (K:PySem.W.Frag) (fd:FuncData) (ps:List Str) (ds:List Value):Prop:=
  ∀ (s:Shared) (us:List Value),K.In s.heap→(us ++ ds).length = ps.length→BindsTo s fd ⟨us,[]⟩ (ps.zip (us ++ ds))
theorem Binds.all {K:PySem.W.Frag} {fd:FuncData} {ps:List Str} (h:∀ us:List Value,us.length = ps.length→bindArgs fd ⟨us,[]⟩ = pure (ps.zip us)):Binds K fd ps []:=fun s us _ hl=>by
  rw [List.append_nil] at hl ⊢
  exact .of_eq (h us hl)
def Passes (CX:CXT) (X:Cx) (E:XK):Prop:=∀ (pins:List (Addr × Obj)) (σ:St) (H:Hp) (s:Shared) (e:Value) (s':Shared),Inv X pins σ H s→CX X.stack H s E e s'→X.xe e s'
section
variable {X:Cx} {CX:CXT} {k:Nat} {f C:Addr} {fd:FuncData} {ps:List Str} {sp:Sp} {dvs:List V} {ds:List Value} {E:XK} {x m:Str} {p pos apos:Pos} {e o:Expr} {es:List Expr} {ta:TE} {t:TA}
theorem run_fn {pins:List (Addr × Obj)} {σ:St} {H:Hp} {s:Shared} {Q:VK} {us:List Value} {vs:List V} (F:FnOk X.prog X.w X.K X.mg X.base CX k f fd ps sp) (hr:Room k X.A) (hb:Binds X.K fd ps ds) (hd:Vals dvs ds) (hx:Passes CX X E)
    (I:Inv X pins σ H s) (r:Vals vs us) (h:sp (vs ++ dvs) H Q E):wpAny (model X.prog X.w) X.A (call (.ref f) us) (EP X pins σ Q) X.xe s:=by
  have r2:Vals (vs ++ dvs) (us ++ ds):=r.append hd
  have hl:(us ++ ds).length = ps.length:=by rw [← r2.length]; exact F.len _ _ _ _ h
  refine wpAny_call (codeAny_mono (F.run X.A X.stack s H ⟨us,[]⟩ (us ++ ds) (vs ++ dvs) Q E hr I.env0 (hb s us I.kIn hl) r2 h) fun r s' hq=>?_)
  cases r with
  | error e=>exact hx pins σ H s e s' I hq
  | ok fl=>
    cases fl with
    | ret u=>exact I.after hq
    | next=>exact False.elim hq
    | brk=>exact False.elim hq
    | cont=>exact False.elim hq
theorem pe_call (F:FnOk X.prog X.w X.K X.mg X.base CX k f fd ps sp) (hr:Room k X.A) (hg:Gl X x) (hm:X.mg x = some (.ref f)) (hk:PySem.W.keepIn X.K (.ref f) = true) (hb:Binds X.K fd ps ds) (hd:Vals dvs ds) (hx:Passes CX X E)
    (ha:PA X (e :: es) t) (hdb:(x == ("__debug__":Str)) = false:=by decide) (he:starEach (e :: es) X.env = (false,eval e X.env) :: starEach es X.env:=by rfl) (hpl:(backTo pos (starEach es X.env)).any (·.1) = false:=by rfl) :
    PE X (.Call (.Name x p) (e :: es) [] pos) (tCall sp dvs E t):=by
  intro pins s σ H Q I h
  refine wpAny_Call_Name_kw (ld_glob I hg hm ?_ hdb)
  refine PySem.W.callWith_K (h₀:=X.base) I.ok.mod.kin hk (thn (ha pos pins s σ H _ I h) fun us s1 ⟨vs,H1,I1,r,q⟩=>⟨I1.kIn,?_⟩) he hpl
  exact run_fn F hr hb hd hx I1 r q
theorem pe_meth {pl:Sem Bool} (he:PE X o ta) (c:Cls X.K C) (hm:Meth X.K C m f) (F:FnOk X.prog X.w X.K X.mg X.base CX k f fd ps sp) (hr:Room k X.A) (hb:Binds X.K fd ps ds) (hd:Vals dvs ds) (hx:Passes CX X E) (ha:PA X (e :: es) t)
    (hst:starEach (e :: es) X.env = (false,eval e X.env) :: starEach es X.env:=by rfl) (hpl:(backTo pos (starEach es X.env)).any (·.1) = false:=by rfl)
    (ht:eval (.Call (.Attribute o m apos) (e :: es) [] pos) X.env = (do
      let ov ← eval o X.env
      standAt apos.atName
      let (f,first) ← holding [ov] (getMethod ov m pl)
      callWith pos f first (backTo pos (starEach (e :: es) X.env)) (backToKw pos (keywordEach [] X.env))):=by rfl) :
    PE X (.Call (.Attribute o m apos) (e :: es) [] pos) (tMeth C m sp dvs E ta t):=by
  intro pins s σ H Q I h
  refine PySem.W.methodCall_KW (pl:=pl) (thn (he pins s σ H _ I h) fun u s1 ⟨x,H1,I1,rx,a,dx,fs,ex,ea,l,q⟩=>?_) ht
  subst ex
  obtain rfl:u = Value.ref a:=rx
  refine getmeth_ok I1 ea c hm l ?_
  refine PySem.W.callWith_K (first:=[.ref a]) (h₀:=X.base) I.ok.mod.kin hm.kp (thn (ha pos pins s1 σ H1 _ I1 q) fun us s2 ⟨vs,H2,I2,r,q2⟩=>⟨I2.kIn,?_⟩) hst hpl
  exact run_fn (us:=.ref a :: us) (vs:=.ref a :: vs) F hr hb hd hx I2 (.cons rfl r) q2
structure Mk (K:PySem.W.Frag) (C f:Addr):Prop where
  makes:PySem.W.makesIn K C = true
  init:PySem.W.findIn K (.ref C) "__init__" = some (some (.ref f))
  fn:PySem.W.isFn K (.ref f) = true
  kp:PySem.W.keepIn K (.ref C) = true
theorem run_make {pins:List (Addr × Obj)} {σ:St} {H:Hp} {s:Shared} {Q:VK} {us:List Value} {vs:List V} (M:Mk X.K C f) (F:FnOk X.prog X.w X.K X.mg X.base CX k f fd ps sp) (hr:Room (k + 1) X.A) (hb:Binds X.K fd ps ds) (hd:Vals dvs ds)
    (hx:Passes CX X E) (I:Inv X pins σ H s) (r:Vals vs us)
    (h:∀ x dx,H x = none→H dx = none→dx ≠ x→sp (.ref x :: (vs ++ dvs)) (upd (upd H dx (.own x)) x (.ins C dx [])) (fun v H2=>v = .non∧Q (.ref x) H2) E) :
    wpAny (model X.prog X.w) X.A (call (.ref C) us) (EP X pins σ Q) X.xe s:=by
  have hq:=h (s.heap.objs.size + 1) s.heap.objs.size (I.hok.fresh (Nat.le_succ _)) (I.hok.fresh (Nat.le_refl _)) (Nat.ne_of_lt (Nat.lt_succ_self _))
  have I2:=Inv.made (C:=C) I
  have r2:Vals (V.ref (s.heap.objs.size + 1) :: (vs ++ dvs)) (Value.ref (s.heap.objs.size + 1) :: (us ++ ds)):=.cons rfl (r.append hd)
  have hl:(Value.ref (s.heap.objs.size + 1) :: us ++ ds).length = ps.length:=by
    have e:=r2.length
    rw [F.len _ _ _ _ hq] at e
    exact e.symm
  refine wpAny_call (make_map (f:=f) I.kIn M.makes M.init (beq_iff_eq.mp M.fn) (codeAny_mono (F.run _ X.stack _ _ ⟨Value.ref (s.heap.objs.size + 1) :: us,[]⟩ (Value.ref (s.heap.objs.size + 1) :: (us ++ ds)) _ _ E (hr.make C us [])
    (I2.env0.make C us []) (hb _ (Value.ref (s.heap.objs.size + 1) :: us) I2.kIn hl) r2 hq) fun r s' hq'=>?_))
  cases r with
  | error e=>exact hx pins σ _ _ e s' I2 hq'
  | ok fl=>
    cases fl with
    | ret u=>
      obtain ⟨v,H',I3,rv,ev,q3⟩:=I2.after hq'
      subst ev
      exact ⟨rv,⟨V.ref (s.heap.objs.size + 1),H',I3,rfl,q3⟩⟩
    | next=>exact False.elim hq'
    | brk=>exact False.elim hq'
    | cont=>exact False.elim hq'
theorem pe_make (M:Mk X.K C f) (F:FnOk X.prog X.w X.K X.mg X.base CX k f fd ps sp) (hr:Room (k + 1) X.A) (hg:Gl X x) (hm:X.mg x = some (.ref C)) (hb:Binds X.K fd ps ds) (hd:Vals dvs ds) (hx:Passes CX X E)
    (ha:PA X (e :: es) t) (hdb:(x == ("__debug__":Str)) = false:=by decide) (he:starEach (e :: es) X.env = (false,eval e X.env) :: starEach es X.env:=by rfl) (hpl:(backTo pos (starEach es X.env)).any (·.1) = false:=by rfl) :
    PE X (.Call (.Name x p) (e :: es) [] pos) (tMake C sp dvs E t):=by
  intro pins s σ H Q I h
  refine wpAny_Call_Name_kw (ld_glob I hg hm ?_ hdb)
  refine PySem.W.callWith_K (h₀:=X.base) I.ok.mod.kin M.kp (thn (ha pos pins s σ H _ I h) fun us s1 ⟨vs,H1,I1,r,q⟩=>⟨I1.kIn,?_⟩) he hpl
  exact run_make M F hr hb hd hx I1 r q
end
section
variable {X:Cx} {CX:CXT} {k:Nat} {f C:Addr} {fd:FuncData} {ps ks:List Str} {sp:Sp} {E:XK} {x m:Str} {p pos apos kpos:Pos} {e o:Expr} {es:List Expr} {kws:List Keyword} {te ta:TE} {t tk:TA} {nm:Option Str}
variable {g:List Value→List Value→List Value} {gV:List V→List V→List V}
end
structure FnScope (N P:List Str) (sc:Scope):Prop where
  kind:sc.kind = .function
  co:sc.isCoroutine = false
  gen:sc.isGenerator = false
  nd:N.Nodup
  pre:N.take P.length = P
  par:∀ x ∈ P,sc.names.lookup x = some .local ∨ sc.names.lookup x = some .cell
  nofree:∀ y ∈ sc.names,y.2 ≠ .free
theorem bindL_out {kindOf:Str→Option NameKind} {x:Str}:∀ {binds:List (Str × Value)} {m:Str→Option Value},(∀ v,(x,v) ∉ binds)→bindL kindOf binds m x = m x
  | [],_,_=>rfl
  | (n,v) :: r,m,h=>by
    unfold bindL
    rw [bindL_out fun w hw=>h w (List.mem_cons_of_mem _ hw)]
    split
    · have:x ≠ n:=by rintro rfl; exact h v List.mem_cons_self
      simp [this]
    · rfl
theorem bindC_out {kindOf:Str→Option NameKind} {x:Str}:∀ {binds:List (Str × Value)} {m:Str→Option Value},(∀ v,(x,v) ∉ binds)→bindC kindOf binds m x = m x
  | [],_,_=>rfl
  | (n,v) :: r,m,h=>by
    unfold bindC
    rw [bindC_out fun w hw=>h w (List.mem_cons_of_mem _ hw)]
    split
    · rfl
    · have:x ≠ n:=by rintro rfl; exact h v List.mem_cons_self
      simp [this]
theorem bindL_get {kindOf:Str→Option NameKind} {x:Str} {v:Value}:∀ {P:List Str} {vs:List Value} {i:Nat} {m:Str→Option Value},P.Nodup→P[i]? = some x→vs[i]? = some v→kindOf x = some .local→
    bindL kindOf (P.zip vs) m x = some v
  | [],_,_,_,_,h,_,_=>by simp at h
  | _ :: _,[],_,_,_,_,h,_=>by simp at h
  | p :: P,w :: vs,0,m,nd,h1,h2,hk=>by
    simp at h1 h2; subst h1; subst h2
    show bindL kindOf ((p,w) :: P.zip vs) m p = _
    unfold bindL
    rw [bindL_out fun v hv=>(List.nodup_cons.mp nd).1 (List.of_mem_zip hv).1,if_pos hk]
    simp
  | p :: P,w :: vs,i + 1,m,nd,h1,h2,hk=>by
    show bindL kindOf ((p,w) :: P.zip vs) m x = _
    unfold bindL
    exact bindL_get (i:=i) (List.nodup_cons.mp nd).2 (by simpa using h1) (by simpa using h2) hk
theorem bindC_get {kindOf:Str→Option NameKind} {x:Str} {v:Value}:∀ {P:List Str} {vs:List Value} {i:Nat} {m:Str→Option Value},P.Nodup→P[i]? = some x→vs[i]? = some v→kindOf x ≠ some .local→
    bindC kindOf (P.zip vs) m x = some v
  | [],_,_,_,_,h,_,_=>by simp at h
  | _ :: _,[],_,_,_,_,h,_=>by simp at h
  | p :: P,w :: vs,0,m,nd,h1,h2,hk=>by
    simp at h1 h2; subst h1; subst h2
    show bindC kindOf ((p,w) :: P.zip vs) m p = _
    unfold bindC
    rw [bindC_out fun v hv=>(List.nodup_cons.mp nd).1 (List.of_mem_zip hv).1,if_neg hk]
    simp
  | p :: P,w :: vs,i + 1,m,nd,h1,h2,hk=>by
    show bindC kindOf ((p,w) :: P.zip vs) m x = _
    unfold bindC
    exact bindC_get (i:=i) (List.nodup_cons.mp nd).2 (by simpa using h1) (by simpa using h2) hk
def start (N:List Str) (vs:List V):St:=vs.map some ++ List.replicate (N.length - vs.length) none
def cxOf (CX:CXT) (P:Program) (w:World) (K:PySem.W.Frag) (mg:Str→Option Value) (base:Heap) (N:List Str) (qual:Str) (scope:Scope) (f:Addr) (cd:Value) (A:Around) (outer:List Env) (s:Shared) (H:Hp) (E:XK):Cx where
  prog:=P
  w:=w
  K:=K
  mg:=mg
  base:=base
  A:=A.deeper (envOfC qual scope s.heap.objs.size f cd)
  N:=N
  s₀:=s
  H₀:=H
  env:=envOfC qual scope s.heap.objs.size f cd
  outer:=outer
  stack:=envOfC qual scope s.heap.objs.size f cd :: outer
  ex:=[]
  calm:=true
  fn:=fun _=>true
  pn:=[]
  xe:=fun e s'=>wpAny (model P w) (A.deeper (envOfC qual scope s.heap.objs.size f cd)) (leaving (envOfC qual scope s.heap.objs.size f cd) e) (fun _ s''=>CX outer H s E e s'') (fun e' s''=>CX outer H s E e' s'') s'
theorem cell_has {sc:Scope} {n:Nat} {x:Str} (h:sc.names.lookup x = some .cell):∃ c,(cellsFrom n sc.names []).lookup x = some c:=by
  have q:=PySem.W.cellsFrom_some sc.names n [] (.inl h)
  exact Option.isSome_iff_exists.mp q
theorem inv_start {CX:CXT} {P:Program} {w:World} {K:PySem.W.Frag} {mg:Str→Option Value} {base:Heap} {N ps:List Str} {qual:Str} {scope:Scope} {f:Addr} {cd:Value} {A:Around} {outer:List Env} {s s1:Shared} {H:Hp} {E:XK} {us:List Value} {vs:List V}
    (S:FnScope N ps scope) (hd:A.handled = none) (e0:Env0 P w K mg base A outer s H) (hl:vs.length = ps.length) (r:Vals vs us)
    (x:InCallC s s.heap.objs.size (bindL (envOfC qual scope s.heap.objs.size f cd).kindOf (ps.zip us) fun _=>none) (cellsFrom (s.heap.objs.size + 1) scope.names []) (bindC (envOfC qual scope s.heap.objs.size f cd).kindOf (ps.zip us) fun _=>none) s1) :
    Inv (cxOf CX P w K mg base N qual scope f cd A outer s H E) [] (start N vs) H s1:=by
  have hpl:ps.length ≤ N.length:=by have:=congrArg List.length S.pre; rw [List.length_take] at this; omega
  obtain ⟨h1,tk,rfl,hk⟩:=x.done
  have noA:∀ b:Addr,b ∉ (cxOf CX P w K mg base N qual scope f cd A outer s H E).ex:=fun b z=>absurd (show b ∈ ([]:List Addr) from z) (by simp)
  refine ⟨⟨e0.mod,S.kind,rfl,rfl,Nat.le_refl _,fun y z c h1 h2=>?_,fun y hy=>?_,fun y c _ h=>?_,fun _=>hd,Around.frames_deeper e0.frames,.inr ⟨rfl,rfl⟩,fun b z=>absurd z (noA b),e0.bs,e0.bsz,fun b _ _=>noA b,fun b z=>absurd z (noA b),e0.funs,e0.frf⟩,
    rfl,e0.bare,Un.kept hk,⟨_,x.toInCall.ns,fun i y v h1 h2 h3=>?_⟩,fun y c h=>⟨_,x.cell y c h⟩,e0.hok.fresh (Nat.le_refl _),fun y c h=>?_,fun p hp=>absurd (show p ∈ ([]:List (Addr × Obj)) from hp) (by simp),e0.hok.kept hk,?_⟩
  · exact name_of_addr x.apart (PySem.mem_of_lookup h1) (PySem.mem_of_lookup h2)
  · have hy:scope.names.lookup y = some .cell ∨ scope.names.lookup y = some .free:=hy
    rcases hy with hy | hy
    · exact cell_has hy
    · exact absurd rfl (S.nofree _ (PySem.mem_of_lookup hy))
  · exact Nat.le_of_lt (x.above y c (PySem.mem_of_lookup h))
  · have hi:i < vs.length:=by
      unfold start at h2
      by_cases hi:i < vs.length
      · exact hi
      · rw [List.getElem?_append_right (by simpa using hi)] at h2
        rw [List.getElem?_replicate] at h2
        split at h2 <;> cases h2
    have ha:vs[i]? = some v:=by
      unfold start at h2
      rw [List.getElem?_append_left (by simpa using hi),List.getElem?_map] at h2
      cases e:vs[i]? with
      | none=>rw [e] at h2; cases h2
      | some a=>rw [e] at h2; cases h2; rfl
    obtain ⟨u,hu,rv⟩:=r.get ha
    have hp:ps[i]? = some y:=by
      rw [← S.pre,List.getElem?_take_of_lt (by omega)]; exact h1
    have ndP:ps.Nodup:=by rw [← S.pre]; exact S.nd.sublist (List.take_sublist _ _)
    refine ⟨u,rv,?_⟩
    rcases S.par y (List.mem_of_getElem? hp) with k | k
    · exact .inl ⟨k,bindL_get ndP hp hu k⟩
    · obtain ⟨c,e⟩:=cell_has (n:=s.heap.objs.size + 1) k
      refine .inr ⟨.inl k,c,e,?_⟩
      have q:=x.cell y c e
      rw [bindC_get ndP hp hu (by show scope.names.lookup y ≠ _; rw [k]; decide)] at q
      exact q
  · exact e0.hok.fresh (Nat.le_of_lt (x.above y c (PySem.mem_of_lookup h)))
  · unfold start
    show _ = N.length
    rw [List.length_append,List.length_map,List.length_replicate]
    omega
theorem fn_of {CX:CXT} {P:Program} {w:World} {K:PySem.W.Frag} {mg:Str→Option Value} {base:Heap} {k:Nat} {f:Addr} {name qual:Str} {params:Arguments} {body:List Stmt} {scope:Scope} {dV kV doc pm cdv ct oc:Value} {an od:Option Addr}
    {osl:Array (Option Value)} {N ps:List Str} {sp:Sp} (lk:K.lookup f = some ⟨oc,od,.func (PySem.W.fnOf name qual params body scope dV kV doc pm an cdv ct),osl⟩) (hcd:PySem.W.codeIn K cdv qual = true) (S:FnScope N ps scope)
    (len:∀ vs H Q E,sp vs H Q E→vs.length = ps.length)
    (hbody:∀ (A:Around) (outer:List Env) (s:Shared) (H:Hp) (vs:List V) (Q:VK) (E:XK),Room k (A.deeper (envOfC qual scope s.heap.objs.size f cdv))→sp vs H Q E→
      ∃ t,PSs (cxOf CX P w K mg base N qual scope f cdv A outer s H E) body t∧t { nx:=fun _ H'=>Q .non H',rt:=Q } (start N vs) H) :
    FnOk P w K mg base CX (k + 1) f (PySem.W.fnOf name qual params body scope dV kV doc pm an cdv ct) ps sp:=by
  refine ⟨len,fun A outer s H args us vs Q E hr e0 hb r hsp=>?_⟩
  have hl:=len _ _ _ _ hsp
  have KX:K.In s.heap:=e0.mod.kin.keeps fun b o e=>(e0.bs b o e).1
  have lim:s.heap.NoLimit:=e0.mod.nolimit.keeps fun b o e=>(e0.bs b o e).1
  have hkind:∀ y ∈ ps.zip us,scope.names.lookup y.1 = some .local ∨ (scope.names.lookup y.1 = some .cell∧((cellsFrom (s.heap.objs.size + 1) scope.names []).lookup y.1).isSome = true):=fun ⟨n,v⟩ hy=>by
    rcases S.par n (List.of_mem_zip hy).1 with q | q
    · exact .inl q
    · exact .inr ⟨q,PySem.W.cellsFrom_some _ _ _ (.inl q)⟩
  refine codeAny_call_function hr.depth (KX _ _ lk) rfl S.co S.gen rfl (PySem.W.codeRec_of KX hcd) (hb _ _ _ _ ?_)
  refine wpAny_newFunctionEnv_cells S.kind hkind fun env he s1 x=>?_
  subst he
  refine ⟨lim.keeps x.toInCall.keep,codeAny_func ?_⟩
  obtain ⟨t,ht,hq⟩:=hbody A outer s H vs Q E (hr.deeper _) hsp
  have I:Inv (cxOf CX P w K mg base N qual scope f cdv A outer s H E) [] (start N vs) H s1:=inv_start S hr.hd e0 hl r x
  refine wpAny_mono (ht [] s1 (start N vs) H _ I hq) (fun fl s' hs=>?_) fun e s' hs=>hs
  have fin:∀ {σ':St} {H':Hp} {v:V} {u:Value},Inv (cxOf CX P w K mg base N qual scope f cdv A outer s H E) [] σ' H' s'→RelV v u→Q v H'→CE outer P w H s Q u s':=
    fun {σ' H' v u} J rv q=>⟨v,H',J.os,J.bare,J.base,J.hok,rv,q⟩
  cases fl with
  | ret u=>
    obtain ⟨v,σ',H',J,rv,q⟩:=hs
    exact fin J rv q
  | next=>
    obtain ⟨σ',H',J,q⟩:=hs
    exact fin (v:=V.non) (u:=Value.none) J rfl q
  | brk=>
    obtain ⟨_,_,_,q⟩:=hs
    exact False.elim q
  | cont=>
    obtain ⟨_,_,_,q⟩:=hs
    exact False.elim q
end L2
namespace L2
open PySem PySem.Spec PyProof.Rows
section
variable {X:Cx} {x:Str} {p pos:Pos} {e:Expr} {es:List Expr} {t:TA} {id T:String} {r:List V→Hp→VK→Prop}
def tCB (r:List V→Hp→VK→Prop) (t:TA):TE:=fun σ H Q=>t σ H fun vs H1=>r vs H1 Q
theorem pe_callB (hc:CallR X (.builtin id) r) (hg:Gl X x) (hm:X.mg x = none) (hv:bootBuiltins x = some (.builtin id)) (ha:PA X (e :: es) t) (hn:x ≠ "__name__":=by decide) (hdb:(x == ("__debug__":Str)) = false:=by decide)
    (he:starEach (e :: es) X.env = (false,eval e X.env) :: starEach es X.env:=by rfl) (hpl:(backTo pos (starEach es X.env)).any (·.1) = false:=by rfl):PE X (.Call (.Name x p) (e :: es) [] pos) (tCB r t):=by
  intro pins s σ H Q I h
  refine wpAny_Call_Name_kw (ld_blt I hg hm hv ?_ hn hdb)
  exact PyProof.Rows.callWith_builtin1 (thn (ha pos pins s σ H _ I h) fun us s1 ⟨vs,H1,I1,r1,q1⟩=>hc pins s1 σ H1 vs us Q I1 r1 q1) he hpl
theorem pe_callTy (hc:CallR X (.type T) r) (hg:Gl X x) (hm:X.mg x = none) (hv:bootBuiltins x = some (.type T)) (ha:PA X (e :: es) t) (hn:x ≠ "__name__":=by decide) (hdb:(x == ("__debug__":Str)) = false:=by decide)
    (he:starEach (e :: es) X.env = (false,eval e X.env) :: starEach es X.env:=by rfl) (hpl:(backTo pos (starEach es X.env)).any (·.1) = false:=by rfl):PE X (.Call (.Name x p) (e :: es) [] pos) (tCB r t):=by
  intro pins s σ H Q I h
  refine wpAny_Call_Name_kw (ld_blt I hg hm hv ?_ hn hdb)
  exact PyProof.Rows.callWith_type1 (thn (ha pos pins s σ H _ I h) fun us s1 ⟨vs,H1,I1,r1,q1⟩=>hc pins s1 σ H1 vs us Q I1 r1 q1) he hpl
end
end L2
namespace HT
open PySem PyProof.Rows
section
open PySem.SeqAt
open PySem.AutoSeq1 (wpAny_loadPart')
open PySem.MeetsSeq PySem.MeetsSeq2 PySem.MeetsSeq3
end
section
variable {prog:Program} {w:World} {A:Around} {E:Value→Shared→Prop} {s:Shared}
def sIx (n d:Nat):Option Int→Nat
  | none=>d
  | some v=>if v < 0 then (v + (n:Int)).toNat else min v.toNat n
theorem sIx_nat (n d k:Nat):sIx n d (some (k:Int)) = min k n:=by
  show (if (k:Int) < 0 then ((k:Int) + (n:Int)).toNat else min (k:Int).toNat n) = min k n
  rw [if_neg (by omega),Int.toNat_natCast]
end
end HT
namespace L2
open PySem PySem.Spec PyProof.Rows
abbrev TO:=St→Hp→(Option Int→Hp→Prop)→Prop
def PO (X:Cx) (e:Option Expr) (t:TO):Prop:=
  ∀ (pins:List (Addr × Obj)) (s:Shared) (σ:St) (H:Hp) (Q:Option Int→Hp→Prop),Inv X pins σ H s→t σ H Q→
    wpAny (model X.prog X.w) X.A (evalPart e X.env) (fun u s'=>∃ o H',Inv X pins σ H' s'∧IsPart u o∧Q o H') X.xe s
def tNoPart:TO:=fun _ H Q=>Q none H
def tPart (t:TE):TO:=fun σ H Q=>t σ H fun x H1=>∃ i,x = .int i∧Q (some i) H1
section
variable {X:Cx} {e:Expr} {te:TE} {lo hi:Option Expr} {tl th:TO} {pos p2:Pos}
theorem po_none:PO X none tNoPart:=by
  intro pins s σ H Q I h
  rw [evalPart_none]
  exact wpAny_pure ⟨none,H,I,.none,h⟩
theorem po_some (h:PE X e te):PO X (some e) (tPart te):=by
  intro pins s σ H Q I hw
  rw [evalPart_some]
  refine thn (h pins s σ H _ I hw) fun u s1 ⟨x,H1,I1,r1,q1⟩=>?_
  obtain ⟨i,rfl,q⟩:=q1
  obtain ⟨t,rfl⟩:=r1
  exact ⟨some i,H1,I1,.int i t,q⟩
def SlR (X:Cx) (r:V→Option Int→Option Int→Hp→VK→Prop):Prop:=
  ∀ (pins:List (Addr × Obj)) (s:Shared) (σ:St) (H:Hp) (x:V) (v vl vu:Value) (lo hi:Option Int) (sl:Addr) (Q:VK),Inv X pins σ H s→RelV x v→s.heap.IsSliceOf sl vl vu .none→IsPart vl lo→IsPart vu hi→r x lo hi H Q→
    ∃ T id,typeLookup (.type T) "__getitem__" = pure (some (.builtin id))∧s.TypeIs v T∧wpAny (model X.prog X.w) X.A (getItem v (.ref sl)) (EP X pins σ Q) X.xe s
def tSl (r:V→Option Int→Option Int→Hp→VK→Prop) (te:TE) (tl th:TO):TE:=fun σ H Q=>te σ H fun x H1=>tl σ H1 fun l H2=>th σ H2 fun u H3=>r x l u H3 Q
theorem pe_slice {r:V→Option Int→Option Int→Hp→VK→Prop} (hr:SlR X r) (he:PE X e te) (hl:PO X lo tl) (hu:PO X hi th):PE X (.Subscript e (.Slice lo hi none p2) pos) (tSl r te tl th):=by
  intro pins s σ H Q I h
  refine Subscript_ (thn (he pins s σ H _ I h) fun v s1 ⟨x,H1,I1,r1,q1⟩=>?_)
  refine wpAny_Slice (thn (hl pins s1 σ H1 _ I1 q1) fun vl s2 ⟨l,H2,I2,pl,q2⟩=>thn (hu pins s2 σ H2 _ I2 q2) fun vu s3 ⟨u,H3,I3,pu,q3⟩=>?_)
  rw [evalPart_none]
  refine wpAny_pure ?_
  have I4:Inv X pins σ H3 { s3 with heap:=s3.heap.push { cls:=.type "slice",data:=.fields #[vl,vu,.none] } }:=I3.kept (t':=s3.toks) fun b ob q=>Heap.get?_push_of_some _ q
  obtain ⟨T,id,hT,ht,hg⟩:=hr pins { s3 with heap:=s3.heap.push { cls:=.type "slice",data:=.fields #[vl,vu,.none] } } σ H3 x v vl vu l u s3.heap.objs.size Q I4 r1 (Heap.IsSliceOf.new ..) pl pu q3
  show wpAny (model X.prog X.w) X.A (subscriptTail e (.Slice lo hi none p2) v (.ref s3.heap.objs.size)) (EP X pins σ Q) X.xe { s3 with heap:=s3.heap.push { cls:=.type "slice",data:=.fields #[vl,vu,.none] } }
  exact tail_any (ops:=[.ref s3.heap.objs.size,v]) ht hT hg (by with_unfolding_all rfl)
def cutV (xs:List V) (lo hi:Option Int):List V:=(xs.drop (HT.sIx xs.length 0 lo)).take (HT.sIx xs.length xs.length hi - HT.sIx xs.length 0 lo)
theorem cutV_length (xs:List V) (lo hi:Option Int):(cutV xs lo hi).length ≤ xs.length:=by
  unfold cutV
  rw [List.length_take,List.length_drop]
  omega
end
end L2
namespace L2
open PySem PySem.Spec PyProof.Rows
def ixN (n:Nat) (i:Int):Option Nat:=if 0 ≤ i then (if i < n then some i.toNat else none) else if -(n:Int) ≤ i then some (i + n).toNat else none
def atI {α:Type} (xs:List α) (i:Int):Option α:=(ixN xs.length i).bind fun j=>xs[j]?
theorem ixN_seq {n:Nat} {i:Int} {j:Nat} (h:ixN n i = some j):seqIndex? i n = some j∧j < n∧-(n:Int) ≤ i∧i < n:=by
  unfold ixN at h
  by_cases h0:0 ≤ i
  · rw [if_pos h0] at h
    by_cases h1:i < n
    · rw [if_pos h1] at h
      have e:i.toNat = j:=Option.some.inj h
      exact ⟨by rw [seqIndex_of h0 h1,e],by omega,by omega,h1⟩
    · rw [if_neg h1] at h; cases h
  · rw [if_neg h0] at h
    by_cases h1:-(n:Int) ≤ i
    · rw [if_pos h1] at h
      have e:(i + n).toNat = j:=Option.some.inj h
      exact ⟨by rw [seqIndex_neg (by omega) h1,e],by omega,h1,by omega⟩
    · rw [if_neg h1] at h; cases h
theorem atI_get {α:Type} {xs:List α} {i:Int} {v:α} (h:atI xs i = some v):∃ j,seqIndex? i xs.length = some j∧xs[j]? = some v∧j < xs.length∧-(xs.length:Int) ≤ i∧i < xs.length:=by
  unfold atI at h
  cases e:ixN xs.length i with
  | none=>rw [e] at h; cases h
  | some j=>
    rw [e] at h
    obtain ⟨h1,h2,h3,h4⟩:=ixN_seq e
    exact ⟨j,h1,h,h2,h3,h4⟩
theorem atI_nat {α:Type} {xs:List α} {j:Nat} {v:α} (h:xs[j]? = some v):atI xs (j:Int) = some v:=by
  have hj:j < xs.length:=(List.getElem?_eq_some_iff.mp h).1
  have e:ixN xs.length (j:Int) = some j:=by
    unfold ixN
    rw [if_pos (by omega),if_pos (by omega)]; simp
  unfold atI; rw [e]; exact h
def PlainIx (b:Expr):Prop:=∀ o i,subscripted b false o i = operate [o,i] (getItem o i)
def IxR (X:Cx) (r:R2):Prop:=
  ∀ (value slice:Expr) (pins:List (Addr × Obj)) (s:Shared) (σ:St) (H:Hp) (x y:V) (v u:Value) (Q:VK),Inv X pins σ H s→RelV x v→RelV y u→r x y H Q→
    subscripted slice false v u = operate [v,u] (getItem v u)→wpAny (model X.prog X.w) X.A (subscriptTail value slice v u) (EP X pins σ Q) X.xe s
def MtR (X:Cx) (id:String) (r:V→List V→Hp→VK→Prop):Prop:=
  ∀ (pins:List (Addr × Obj)) (s:Shared) (σ:St) (H:Hp) (x:V) (xs:List V) (v:Value) (us:List Value) (Q:VK),Inv X pins σ H s→RelV x v→Vals xs us→r x xs H Q→
    wpAny (model X.prog X.w) X.A (call (.builtin id) (v :: us)) (EP X pins σ Q) X.xe s
section
variable {X:Cx} {a b:Expr} {ta tb:TE} {pos:Pos}
theorem pe_ix {r:R2} (hr:IxR X r) (ha:PE X a ta) (hb:PE X b tb) (hs:PlainIx b):PE X (.Subscript a b pos) (tOp r ta tb):=by
  intro pins s σ H Q I h
  exact Subscript_ (binT ha hb I h fun v u s2 x y H2 I2 rx ry q=>hr a b pins s2 σ H2 x y v u Q I2 rx ry q (hs _ _))
def rIxL (K:PySem.W.Frag):R2:=fun x y H Q=>∃ p xs i v,x = .ref p∧y = .int i∧SqL K H p xs∧atI xs i = some v∧Q v H
def rIxT (K:PySem.W.Frag):R2:=fun x y H Q=>∃ p xs i v,x = .ref p∧y = .int i∧SqT K H p xs∧atI xs i = some v∧Q v H
theorem ix_list:IxR X (rIxL X.K):=by
  intro value slice pins s σ H x y v u Q I rx ry h hs
  obtain ⟨p,xs,i,z,rfl,rfl,hq,he,q⟩:=h
  cases rx
  obtain ⟨t,rfl⟩:=ry
  obtain ⟨its,r,pl,hz⟩:=I.list hq
  obtain ⟨j,h1,h2,h3,h4,h5⟩:=atI_get he
  obtain ⟨w,ew,rw'⟩:=r.get h2
  have hl:=r.length
  have hn:=line63
  have fin:EP X pins σ Q w s:=⟨z,H,I,rw',q⟩
  by_cases h0:0 ≤ i
  · have hj:i.toNat = j:=by
      rw [seqIndex_of h0 h5] at h1
      exact Option.some.inj h1
    exact item_listR pl.isList h0 (by omega) (by rw [hj]; simpa using ew) fin hs
  · have hj:(i + (its.toArray.size:Int)).toNat = j:=by
      rw [seqIndex_neg (by omega) h4] at h1
      rw [List.size_toArray,← hl]
      exact Option.some.inj h1
    exact subscriptTail_builtinR (x:=w) pl.isList.typeIs slot_list_getitem.lookup
      (wpAny_getItem_list_neg (Q:=fun r s'=>r = w∧EP X pins σ Q r s') pl.isList (by omega) (by rw [List.size_toArray] <;> omega) (by omega) (by rw [hj]; simpa using ew) ⟨rfl,fin⟩) hs
theorem ix_tup:IxR X (rIxT X.K):=by
  intro value slice pins s σ H x y v u Q I rx ry h hs
  obtain ⟨p,xs,i,z,rfl,rfl,hq,he,q⟩:=h
  cases rx
  obtain ⟨t,rfl⟩:=ry
  obtain ⟨its,r,pl,hz⟩:=I.tuple hq
  obtain ⟨j,h1,h2,h3,h4,h5⟩:=atI_get he
  obtain ⟨w,ew,rw'⟩:=r.get h2
  have hl:=r.length
  have hn:=line63
  have fin:EP X pins σ Q w s:=⟨z,H,I,rw',q⟩
  exact subscriptTail_builtinR (x:=w) pl.typeIs slot_tuple_getitem.lookup
    (getItem_tuple (j:=j) (Q:=fun r s'=>r = w∧EP X pins σ Q r s') pl (by omega) (by omega) (by rw [List.size_toArray,← hl]; exact h1) (by simpa using ew) ⟨rfl,fin⟩) hs
theorem mapSeq_set (its:List Value) (n j:Nat) (u:Value):Obj.mapSeq (·.setIfInBounds j u) { cls:=.type "list",data:=.seq its.toArray n } = { cls:=.type "list",data:=.seq (its.set j u).toArray n }:=by
  simp [Obj.mapSeq]
theorem Inv.lst {pins:List (Addr × Obj)} {σ:St} {H:Hp} {s:Shared} {p:Addr} {xs:List V} (I:Inv X pins σ H s) (h:H p = some (.lst xs)) :
    ∃ (its:List Value) (n:Nat),Vals xs its∧s.heap.get? p = some { cls:=.type "list",data:=.seq its.toArray n }∧xs.length ≤ sizeLine:=by
  obtain ⟨z,its,n,r,e⟩:=I.hok p _ h
  exact ⟨its,n,r,e,z⟩
theorem Inv.lstUpd {pins:List (Addr × Obj)} {σ:St} {H:Hp} {s:Shared} {p:Addr} {xs ys:List V} {its its':List Value} {n n':Nat} {f:Obj→Obj} (I:Inv X pins σ H s) (h:H p = some (.lst xs))
    (ho:s.heap.get? p = some { cls:=.type "list",data:=.seq its.toArray n }) (hf:f { cls:=.type "list",data:=.seq its.toArray n } = { cls:=.type "list",data:=.seq its'.toArray n' }) (r:Vals ys its') (hz:ys.length ≤ sizeLine) (t:Nat) :
    Inv X pins σ (upd H p (.lst ys)) { s with heap:=s.heap.update p f,toks:=t }:=by
  have e:(s.heap.update p f).get? p = some { cls:=.type "list",data:=.seq its'.toArray n' }:=by
    rw [Heap.get?_update_self f ho (by rw [hf] <;> rfl),hf]
  refine I.write (x:=p) (e:=p) (by rw [h]; trivial) (.inl rfl) (fun b u hb q=>(Heap.get?_update_other _ _ (Ne.symm hb)).trans q) ⟨_,e⟩ ?_
  exact ⟨hz,its',n',r,e⟩
def rSetL:V→V→V→Hp→(Hp→Prop)→Prop:=fun o i v H Q=>∃ p xs k j,o = .ref p∧i = .int k∧H p = some (.lst xs)∧ixN xs.length k = some j∧Q (upd H p (.lst (xs.set j v)))
theorem set_list:PSet X rSetL:=by
  intro pins s σ H o i v ov iv u Q I ro ri rv h
  obtain ⟨p,xs,k,j,rfl,rfl,hp,hj,q⟩:=h
  cases ro
  obtain ⟨t,rfl⟩:=ri
  obtain ⟨its,n,r,ho,hz⟩:=I.lst hp
  obtain ⟨h1,h2,h3,h4⟩:=ixN_seq hj
  have hl:=r.length
  have hn:=line63
  have I':Inv X pins σ (upd H p (.lst (xs.set j v))) { s with heap:=s.heap.update p (Obj.mapSeq (·.setIfInBounds j u)) }:=
    I.lstUpd hp ho (mapSeq_set its n j u) (r.set rv j) (by rw [List.length_set]; exact hz) s.toks
  by_cases h0:0 ≤ k
  · have hk:k.toNat = j:=by
      rw [seqIndex_of h0 h4] at h1
      exact Option.some.inj h1
    exact PySem.W.ki_setAt ho h0 (by omega) (by rw [List.size_toArray,← hl]; exact h4) (by rw [hk]; exact ⟨_,I',q⟩)
  · have hk:(k + (its.toArray.size:Int)).toNat = j:=by
      rw [seqIndex_neg (by omega) h3] at h1
      rw [List.size_toArray,← hl]
      exact Option.some.inj h1
    exact PySem.W.ki_setBack ho (by omega) (by rw [List.size_toArray,← hl]; exact h3) (by omega) (by rw [hk]; exact ⟨_,I',q⟩)
theorem slice_bounds (lo hi:Option Int) (n:Nat):(sliceBounds lo hi none n).1 = ((HT.sIx n 0 lo:Nat):Int)∧(sliceBounds lo hi none n).2.1 = ((HT.sIx n n hi:Nat):Int)∧(sliceBounds lo hi none n).2.2 = 1:=by
  refine ⟨?_,?_,rfl⟩
  · cases lo with
    | none=>simp [sliceBounds,HT.sIx]
    | some i=>
      simp only [sliceBounds,HT.sIx,Option.getD_none,show (1:Int) > 0 by decide,if_true]
      by_cases h:i < 0
      · simp only [h,if_true] <;> omega
      · simp only [h,if_false] <;> omega
  · cases hi with
    | none=>simp [sliceBounds,HT.sIx]
    | some i=>
      simp only [sliceBounds,HT.sIx,Option.getD_none,show (1:Int) > 0 by decide,if_true]
      by_cases h:i < 0
      · simp only [h,if_true] <;> omega
      · simp only [h,if_false] <;> omega
theorem slicePick_cut (its:List Value) (lo hi:Option Int):slicePick its.toArray lo hi none = ((its.drop (HT.sIx its.length 0 lo)).take (HT.sIx its.length its.length hi - HT.sIx its.length 0 lo)).toArray:=by
  obtain ⟨h1,h2,h3⟩:=slice_bounds lo hi its.toArray.size
  unfold slicePick
  rw [h1,h2,h3]
  simp only [sliceRange_one,pick_run,List.size_toArray] <;> rfl
def rSlL (K:PySem.W.Frag):V→Option Int→Option Int→Hp→VK→Prop:=fun x lo hi H Q=>∃ a xs,x = .ref a∧SqL K H a xs∧∀ p,H p = none→Q (.ref p) (upd H p (.lst (cutV xs lo hi)))
theorem sl_list:SlR X (rSlL X.K):=by
  intro pins s σ H x v vl vu lo hi sl Q I rx hs pl pu h
  obtain ⟨a,xs,rfl,hx,q⟩:=h
  cases rx
  obtain ⟨its,r,ht,hz⟩:=I.list hx
  have hlen:=r.length
  refine ⟨"list",_,slot_list_getitem.lookup,ht.isList.typeIs,?_⟩
  refine wpAny_getItem_list_slice ht.isList hs pl pu .none (by simp) ?_ (by rw [List.size_toArray] <;> omega)
  rw [slicePick_cut,← hlen]
  refine ⟨.ref s.heap.objs.size,_,I.laid (t':=s.toks) (o:=.lst (cutV xs lo hi)) (fun b ob q=>Heap.get?_push_of_some _ q) (Nat.le_refl _) ?_,rfl,q _ (I.hok.fresh (Nat.le_refl _))⟩
  exact ⟨Nat.le_trans (cutV_length xs lo hi) hz,_,0,(r.drop (HT.sIx xs.length 0 lo)).take (HT.sIx xs.length xs.length hi - HT.sIx xs.length 0 lo),Heap.get?_push_size _ rfl⟩
def flatV:V→Bool
  | .non=>true
  | .bl _=>true
  | .int _=>true
  | .str _=>true
  | _=>false
def eqV:V→V→Bool
  | .non,.non=>true
  | .bl a,.bl b=>a == b
  | .bl a,.int b=>(if a then 1 else 0) == b
  | .int a,.bl b=>a == (if b then 1 else 0)
  | .int a,.int b=>a == b
  | .str a,.str b=>a == b
  | _,_=>false
theorem eqAt_V {A:Around} {s:Shared} {y x:V} {u v:Value} (ry:RelV y u) (rx:RelV x v) (fy:flatV y = true) (fx:flatV x = true):SeqAt.EqAt A s u v (eqV y x):=by
  cases y with
  | non=>
    cases ry
    cases x with
    | non=>cases rx; exact SeqAt.EqAt.same _
    | bl b=>cases rx; exact SeqAt.EqAt.none_bool b
    | int b=>obtain ⟨t,rfl⟩:=rx; exact SeqAt.EqAt.none_int b t
    | str b=>obtain ⟨t,rfl⟩:=rx; exact SeqAt.EqAt.none_str b t
    | _=>exact absurd (show false = true from fx) Bool.false_ne_true
  | bl a=>
    cases ry
    cases x with
    | non=>cases rx; exact SeqAt.EqAt.bool_none a
    | bl b=>cases rx; exact SeqAt.EqAt.bool_bool a b
    | int b=>obtain ⟨t,rfl⟩:=rx; exact SeqAt.EqAt.bool_int a b t
    | str b=>obtain ⟨t,rfl⟩:=rx; exact SeqAt.EqAt.bool_str a b t
    | _=>exact absurd (show false = true from fx) Bool.false_ne_true
  | int a=>
    obtain ⟨t',rfl⟩:=ry
    cases x with
    | non=>cases rx; exact SeqAt.EqAt.int_none a t'
    | bl b=>cases rx; exact SeqAt.EqAt.int_bool a t' b
    | int b=>obtain ⟨t,rfl⟩:=rx; exact SeqAt.EqAt.int_int a t' b t
    | str b=>obtain ⟨t,rfl⟩:=rx; exact SeqAt.EqAt.int_str a t' b t
    | _=>exact absurd (show false = true from fx) Bool.false_ne_true
  | str a=>
    obtain ⟨t',rfl⟩:=ry
    cases x with
    | non=>cases rx; exact SeqAt.EqAt.str_none a t'
    | bl b=>cases rx; exact SeqAt.EqAt.str_bool a t' b
    | int b=>obtain ⟨t,rfl⟩:=rx; exact SeqAt.EqAt.str_int a t' b t
    | str b=>obtain ⟨t,rfl⟩:=rx; exact SeqAt.EqAt.str_str a t' b t
    | _=>exact absurd (show false = true from fx) Bool.false_ne_true
  | _=>exact absurd (show false = true from fy) Bool.false_ne_true
theorem call_len_seq:CallR X (.builtin "len") (fun xs H Q=>∃ p ys,xs = [.ref p]∧(SqL X.K H p ys ∨ SqT X.K H p ys)∧Q (.int ys.length) H):=by
  intro pins s σ H xs us Q I r h
  obtain ⟨p,ys,rfl,hq,q⟩:=h
  obtain ⟨u,rfl,rx⟩:=vals1 r
  cases rx
  have hn:=line63
  rcases hq with hq | hq
  · obtain ⟨its,r',pl,hz⟩:=I.list hq
    have hlen:=r'.length
    exact Calls.call_len_list pl.isList (by simp only [List.size_toArray] <;> omega) ⟨.int ys.length,H,I.tok _,⟨s.toks + 1,by rw [List.size_toArray,hlen]⟩,q⟩
  · obtain ⟨its,r',pl,hz⟩:=I.tuple hq
    have hlen:=r'.length
    exact len_tuple pl (by simp only [List.size_toArray] <;> omega) ⟨.int ys.length,H,I.tok _,⟨s.toks + 1,by rw [List.size_toArray,hlen]⟩,q⟩
theorem call_list_of:CallR X (.type "list") (fun xs H Q=>∃ p ys,xs = [.ref p]∧(SqL X.K H p ys ∨ SqT X.K H p ys)∧∀ l,H l = none→Q (.ref l) (upd H l (.lst ys))):=by
  intro pins s σ H xs us Q I r h
  obtain ⟨p,ys,rfl,hq,q⟩:=h
  obtain ⟨u,rfl,rx⟩:=vals1 r
  cases rx
  have fin:∀ (its:List Value),Vals ys its→ys.length ≤ sizeLine→∀ (h':Heap) (c':Nat),(∀ b o',s.heap.get? b = some o'→h'.get? b = some o')→
      h'.get? s.heap.objs.size = some { cls:=.type "list",dict:=none,data:=.seq its.toArray c',slots:=#[] }→EP X pins σ Q (.ref s.heap.objs.size) { s with heap:=h' }:=fun its r' hz h' c' kp e=>
    ⟨.ref s.heap.objs.size,_,I.laid (t':=s.toks) kp (Nat.le_refl _) (show ObjOk X.prog X.w _ h' _ (.lst ys) from ⟨hz,its,c',r',e⟩),rfl,q _ (I.hok.fresh (Nat.le_refl _))⟩
  rcases hq with hq | hq
  · obtain ⟨its,r',pl,hz⟩:=I.list hq
    have hlen:=r'.length
    obtain ⟨o,ho,hc,n,hd⟩:=pl.isList
    exact call_list_seq p (.inl rfl) ho hc hd (fun h' c' kp e=>fin its r' hz h' c' kp e) (by simp only [List.size_toArray] <;> omega)
  · obtain ⟨its,r',pl,hz⟩:=I.tuple hq
    have hlen:=r'.length
    obtain ⟨o,ho,hc,n,hd⟩:=pl
    exact call_list_seq p (.inr rfl) ho hc hd (fun h' c' kp e=>fin its r' hz h' c' kp e) (by simp only [List.size_toArray] <;> omega)
def tyV (K:PySem.W.Frag) (T:String) (x:V) (H:Hp):Prop:=match x with
  | .str _=>T = "str"
  | .int _=>T = "int"
  | .ref p=>(T = "list"∧∃ xs,SqL K H p xs) ∨ (T = "tuple"∧∃ o,K.lookup p = some o∧o.cls = .type "tuple"∧o.dict = none) ∨
      (T = "dict"∧((∃ kvs,H p = some (.dK kvs)) ∨ ∃ kvs,H p = some (.dT kvs))) ∨ (T = "set"∧∃ S n,H p = some (.set S n))
  | _=>False
theorem tyV_is {pins:List (Addr × Obj)} {σ:St} {H:Hp} {s:Shared} {T:String} {x:V} {v:Value} (I:Inv X pins σ H s) (r:RelV x v) (ty:tyV X.K T x H) :
    s.TypeIs v T∧∀ a,v = .ref a→∃ ob,s.heap.get? a = some ob∧ob.dict = none:=by
  cases x with
  | str z=>
    obtain ⟨t,rfl⟩:=r
    cases (show T = "str" from ty)
    exact ⟨typeIs_str s z t,fun _ e=>nomatch e⟩
  | int i=>
    obtain ⟨t,rfl⟩:=r
    cases (show T = "int" from ty)
    exact ⟨typeIs_int s i t,fun _ e=>nomatch e⟩
  | ref p=>
    cases r
    rcases ty with ⟨rfl,xs,hq⟩ | ⟨rfl,o,hk,hc,hd⟩ | ⟨rfl,hk⟩ | ⟨rfl,S,n,hk⟩
    · obtain ⟨its,_,pl,_⟩:=I.list hq
      refine ⟨pl.isList.typeIs,fun a e=>?_⟩
      cases e
      obtain ⟨o,n,e,c,hd,_⟩:=pl
      exact ⟨o,e,hd⟩
    · refine ⟨⟨o,I.kIn p o hk,hc⟩,fun a e=>?_⟩
      cases e
      exact ⟨o,I.kIn _ o hk,hd⟩
    · have z:∃ o,s.heap.get? p = some o∧o.ExactDict:=by
        rcases hk with ⟨kvs,hk⟩ | ⟨kvs,hk⟩
        · obtain ⟨_,_,_,_,o,_,_,e,ex,_⟩:=I.hok p _ hk
          exact ⟨o,e,ex⟩
        · obtain ⟨_,_,_,_,o,_,_,e,ex,_⟩:=I.hok p _ hk
          exact ⟨o,e,ex⟩
      obtain ⟨o,e,ex⟩:=z
      refine ⟨⟨o,e,ex.1⟩,fun a e2=>?_⟩
      cases e2
      exact ⟨o,e,ex.2.1⟩
    · obtain ⟨o,_,_,_,e,ex,_⟩:=I.hok p _ hk
      refine ⟨⟨o,e,ex.1⟩,fun a e2=>?_⟩
      cases e2
      exact ⟨o,e,ex.2.1⟩
  | _=>exact False.elim ty
def tBM0 (K:PySem.W.Frag) (T:String) (r:V→List V→Hp→VK→Prop) (to:TE):TE:=fun σ H Q=>to σ H fun x H1=>tyV K T x H1∧r x [] H1 Q
def tBM (K:PySem.W.Frag) (T:String) (r:V→List V→Hp→VK→Prop) (to:TE) (t:TA):TE:=fun σ H Q=>to σ H fun x H1=>tyV K T x H1∧t σ H1 fun xs H2=>r x xs H2 Q
variable {o e:Expr} {es:List Expr} {to:TE} {t:TA} {name:Str} {apos cpos:Pos} {T id:String} {r:V→List V→Hp→VK→Prop}
theorem pe_bm0 (pa:PlainAttrs T) (slot:Slot T name id) (hty:typeOf (.builtin id) = pure (.type "method_descriptor")) (hm:MtR X id r) (ho:PE X o to)
    (hbase:attributeBase o name X.env (eval o X.env) = eval o X.env:=by rfl) (hline:(apos.endLine == cpos.line) = true:=by rfl):PE X (.Call (.Attribute o name apos) [] [] cpos) (tBM0 X.K T r to):=by
  intro pins s σ H Q I h
  refine wpAny_Call_method0_late hbase hline (thn (ho pins s σ H _ I h) fun v s1 ⟨x,H1,I1,r1,ty,q1⟩=>?_)
  obtain ⟨h1,h2⟩:=tyV_is I1 r1 ty
  exact ⟨T,id,pa,slot,hty,h1,h2,Calls.callWith_builtin rfl (PySem.evalArgs_none (hm pins s1 σ H1 x [] v [] Q I1 r1 .nil q1))⟩
theorem pe_bm (pa:PlainAttrs T) (slot:Slot T name id) (hty:typeOf (.builtin id) = pure (.type "method_descriptor")) (hm:MtR X id r) (ho:PE X o to) (ha:PA X (e :: es) t)
    (hbase:attributeBase o name X.env (eval o X.env) = eval o X.env:=by rfl)
    (hfew:((backTo cpos (starEach (e :: es) X.env)).all (fun x=>!x.1) && (backToKw cpos (keywordEach [] X.env)).all (fun x=>x.1.isSome)
      && decide ((e :: es).length + ([]:List Keyword).length + (if ([]:List Keyword).isEmpty then 0 else 1) < 30)) = true:=by rfl)
    (hline:(apos.endLine == cpos.line) = true:=by rfl) (hs:starEach (e :: es) X.env = (false,eval e X.env) :: starEach es X.env:=by rfl) (hplain:(backTo cpos (starEach es X.env)).any (·.1) = false:=by rfl) :
    PE X (.Call (.Attribute o name apos) (e :: es) [] cpos) (tBM X.K T r to t):=by
  intro pins s σ H Q I h
  refine wpAny_Call_method_late hbase hfew hline rfl (thn (ho pins s σ H _ I h) fun v s1 ⟨x,H1,I1,r1,ty,q1⟩=>?_)
  obtain ⟨h1,h2⟩:=tyV_is I1 r1 ty
  refine ⟨T,id,pa,slot,hty,h1,h2,?_⟩
  have hA:=ha cpos pins s1 σ H1 _ I1 q1
  rw [hs] at hA ⊢
  refine Calls.callWith_builtin (by show (false || (backTo cpos (starEach es X.env)).any (·.1)) = false; rw [hplain] <;> rfl) (Calls.evalArgs_plain ?_)
  exact thn hA fun us s2 ⟨vs,H2,I2,r2,q2⟩=>hm pins s2 σ H2 x vs v us Q I2 r1 r2 q2
end
end L2
namespace L2
open PySem PySem.Spec PyProof.Rows
def MtM (X:Cx) (id:String) (r:V→List V→Hp→VK→Prop):Prop:=
  ∀ (pins:List (Addr × Obj)) (s:Shared) (σ:St) (H:Hp) (x:V) (xs:List V) (v:Value) (us:List Value) (Q:VK),Inv X pins σ H s→RelV x v→Vals xs us→r x xs H Q→
    wpAny (model X.prog X.w) X.A (call (.builtin id) (v :: us)) (EP X pins σ Q) X.xe s
theorem Vals.one:∀ {x:V} {us:List Value},Vals [x] us→∃ u,us = [u]∧RelV x u
  | _,_,.cons r .nil=>⟨_,rfl,r⟩
theorem Vals.zero:∀ {us:List Value},Vals [] us→us = []
  | _,.nil=>rfl
section
variable {X:Cx} {pins:List (Addr × Obj)} {σ:St} {H:Hp} {s:Shared} {l b:Addr} {xs ys zs:List V}
theorem Inv.lset {its its':List Value} {n:Nat} {f:Array Value→Array Value} {t':Nat} (I:Inv X pins σ H s) (hH:H l = some (.lst xs))
    (e:s.heap.get? l = some { cls:=.type "list",data:=.seq its.toArray n }) (hf:f its.toArray = its'.toArray) (hv:Vals ys its') (hz:ys.length ≤ sizeLine) :
    Inv X pins σ (upd H l (.lst ys)) { s with heap:=s.heap.update l (Obj.mapSeq f),toks:=t' }:=by
  have q:=PySem.IsL.update e f
  rw [hf] at q
  refine I.write (x:=l) (e:=l) (by rw [hH]; exact trivial) (.inl rfl) (fun b' u hb hu=>(Heap.get?_update_other s.heap (Obj.mapSeq f) (Ne.symm hb)).trans hu) ⟨_,q⟩ ?_
  exact ⟨hz,its',_,hv,q⟩
theorem Inv.lnew {its:List Value} {t':Nat} (I:Inv X pins σ H s) (hv:Vals ys its) (hz:ys.length ≤ sizeLine) :
    Inv X pins σ (upd H s.heap.objs.size (.lst ys)) { s with heap:=s.heap.push { cls:=.type "list",data:=.seq its.toArray },toks:=t' }:=
  I.laid (fun _ _ q=>Heap.get?_push_of_some _ q) (Nat.le_refl _) ⟨hz,its,0,hv,Heap.get?_push_size _ rfl⟩
theorem Inv.fresh (I:Inv X pins σ H s):H s.heap.objs.size = none:=I.hok.fresh (Nat.le_refl _)
theorem Inv.lstM (I:Inv X pins σ H s) (hH:H l = some (.lst xs)):xs.length ≤ sizeLine∧∃ (its:List Value) (n:Nat),Vals xs its∧xs.length = its.length∧s.heap.get? l = some { cls:=.type "list",data:=.seq its.toArray n }:=by
  obtain ⟨z,its,n,r,e⟩:=I.hok l _ hH
  exact ⟨z,its,n,r,r.length,e⟩
theorem notLongL {n:Nat} (h:n ≤ sizeLine):Builtin.List.listTooLong n = false:=by
  unfold Builtin.List.listTooLong
  exact decide_eq_false (by omega)
end
section
variable {X:Cx}
def rAppend:V→List V→Hp→VK→Prop:=fun x vs H Q=>∃ l xs y,x = .ref l∧vs = [y]∧H l = some (.lst xs)∧xs.length < sizeLine∧Q .non (upd H l (.lst (xs ++ [y])))
theorem mt_append:MtM X "list.append" rAppend:=by
  intro pins s σ H x vs v us Q I rx rv h
  obtain ⟨l,xs,y,rfl,rfl,hH,hz,q⟩:=h
  cases rx
  obtain ⟨u,rfl,ru⟩:=rv.one
  obtain ⟨z,its,n,r,hl,e⟩:=I.lstM hH
  refine call_meets F.slot_list_append ⟨_,e,rfl⟩ F.entry_list_append (F.args_list_append_2 _ _) (PySem.list_append l its.toArray n u (by rw [List.size_toArray]; omega)) ⟨e,?_⟩
  refine ⟨.non,_,I.lset (its':=its ++ [u]) hH e (by simp) (r.append (.cons ru .nil)) ?_,rfl,q⟩
  rw [List.length_append,List.length_singleton]
  omega
def rExtend:V→List V→Hp→VK→Prop:=fun x vs H Q=>∃ l b xs zs,x = .ref l∧vs = [.ref b]∧H l = some (.lst xs)∧H b = some (.lst zs)∧xs.length + zs.length ≤ sizeLine∧Q .non (upd H l (.lst (xs ++ zs)))
theorem mt_extend:MtM X "list.extend" rExtend:=by
  intro pins s σ H x vs v us Q I rx rv h
  obtain ⟨l,b,xs,zs,rfl,rfl,hH,hB,hz,q⟩:=h
  cases rx
  obtain ⟨u,rfl,ru⟩:=rv.one
  cases ru
  obtain ⟨z,its,n,r,hl,e⟩:=I.lstM hH
  obtain ⟨z2,its2,n2,r2,hl2,e2⟩:=I.lstM hB
  have hsz:its.toArray.size + its2.toArray.size ≤ sizeLine:=by rw [List.size_toArray,List.size_toArray]; omega
  have hlong:¬ (!its.toArray.isEmpty && Builtin.List.listTooLong (its.toArray.size + its2.toArray.size)) = true:=by
    rw [notLongL hsz,Bool.and_false]
    exact Bool.false_ne_true
  refine call_meets F.slot_list_extend ⟨_,e,rfl⟩ F.entry_list_extend (F.args_list_extend_2 _ _)
    (AutoSeq1.list_extend_list_list_0 l its.toArray n b its2.toArray n2 hlong (by rw [List.size_toArray]; omega) (by omega)) ⟨e,e2,?_⟩
  refine ⟨.non,_,I.lset (its':=its ++ its2) hH e (by simp) (r.append r2) ?_,rfl,q⟩
  rw [List.length_append]
  omega
def rCat:R2:=fun x y H Q=>∃ l b xs zs,x = .ref l∧y = .ref b∧H l = some (.lst xs)∧H b = some (.lst zs)∧xs.length + zs.length ≤ sizeLine∧∀ p,H p = none→Q (.ref p) (upd H p (.lst (xs ++ zs)))
theorem op_cat:OpR X (binaryOp .Add) rCat:=by
  intro pins s σ H x y v u Q I rx ry h
  obtain ⟨l,b,xs,zs,rfl,rfl,hH,hB,hz,q⟩:=h
  cases rx
  cases ry
  obtain ⟨z,its,n,r,hl,e⟩:=I.lstM hH
  obtain ⟨z2,its2,n2,r2,hl2,e2⟩:=I.lstM hB
  refine PySem.P.add_list e e2 ?_ (by rw [List.size_toArray,List.size_toArray]; omega)
  have ea:its.toArray ++ its2.toArray = (its ++ its2).toArray:=by simp
  rw [ea]
  exact ⟨.ref _,_,I.lnew (t':=s.toks) (r.append r2) (by rw [List.length_append]; omega),rfl,q _ I.fresh⟩
end
section
variable {prog:Program} {w:World} {A:Around} {E:Value→Shared→Prop} {s:Shared}
end
section
variable {X:Cx}
end
end L2
namespace Att
open PySem PySem.W PySem.Calls PyProof.Rows
theorem ints_of_wellAll {P:Params} {h:Heap}:∀ (ns:List Int) (vs:List Value),WellAll P h vs (ns.map WData.int)→IntsAre vs ns:=by
  intro ns
  induction ns with
  | nil=>
    intro vs w
    rw [List.map_nil] at w
    cases w
    exact .nil
  | cons n ns ih=>
    intro vs w
    rw [List.map_cons] at w
    cases w with
    | cons a b=>
      cases a
      exact .cons _ _ (ih _ b)
theorem script_of {l:OpenLaw} {n:Nat} (hn:l.most = some n) {P:Params} {h:Heap} {args:List WData} {vals:List Value}
    (hpre:l.row.toRowW.claim.pre args = true) (hwl:WellAll P h vals args) :
    ∃ a vs ns,vals = [Value.ref a]∧args = [WData.list (ns.map WData.int)]∧h.get? a = some { cls:=.type "list",data:=.seq vs.toArray }∧IntsAre vs ns∧ns.length ≤ n:=by
  have hsh:WShape.hasAll [] args [.list .int] = true:=(pre_splitW hpre).1
  have hc:l.pre.holds [] { args:=args } = true:=(pre_splitW hpre).2
  obtain ⟨d,r,rfl,h1,h2⟩:=hasAllW_cons hsh
  obtain rfl:=hasAllW_nil h2
  obtain ⟨xs,rfl,h3⟩:=hasW_list h1
  obtain ⟨ns,rfl⟩:=items_int h3
  have hlen:ns.length ≤ n:=by
    unfold OpenLaw.pre at hc
    have h4:(WTm.not (.lt (.lit (.int (n:Int))) (.len (.arg 0)))).holds [] { args:=[.list (ns.map .int)] } = true:=by
      have h4:=(holds_andW hc).1
      rw [hn] at h4
      exact h4
    have h5:=condW_of h4 (w_not (w_lt w_lit (w_len_list (w_arg rfl))))
    rw [List.length_map] at h5
    refine Nat.le_of_not_lt fun q=>?_
    have q':(n:Int) < ((ns.length:Nat):Int):=by omega
    first
      | (rw [decide_eq_true q'] at h5; exact absurd h5 (by decide))
      | (simp at h5; omega)
  cases hwl with
  | cons w1 w2=>
    cases w2
    cases w1 with
    | list ho hall=>exact ⟨_,_,ns,rfl,rfl,ho,ints_of_wellAll ns _ hall,hlen⟩
theorem post_true (l:OpenLaw) (args:List WData):l.row.toRowW.claim.post args (.bool true) args = true:=
  postW_of (r:=l.row.toRowW) (X:=(true == true))
    (show WShape.has [] (.bool true) .bool = true by first | rfl | decide | simp [WShape.has,WShape.arms,WShape.armsAll])
    (show (WTm.eq .res (.lit (.bool true))).value [] { args:=args,res:=some (.bool true),after:=args } = some (.bool (true == true)) from w_eq_bool (w_res rfl) w_lit) rfl
theorem attach_call {l:OpenLaw} {n:Nat} {q:Program} {loose:List Str} {XP:(Str→Option Value)→Heap→Prop} {YP:World→Heap→Prop} {d:DefRec}
    (hn:l.most = some n) (hdf:d.params.defaults = [])
    (call:∀ (w:World) (s₀ s₁:Shared) (mg mb:Str→Option Value) (fa:Addr) (o:Obj) (pm cd doc:Value) (a:Addr) (vs:List Value) (ns:List Int),
      Ground q loose [] XP w s₀ mg mb s₁.heap→YP w s₁.heap→
      s₁.heap.get? fa = some o→o.data = .func (docDef d.name d.params d.body d.scope pm cd doc)→s₁.heap.CodeRec cd d.name→mg d.name = some (.ref fa)→
      s₁.heap.get? a = some { cls:=.type "list",data:=.seq vs.toArray }→IntsAre vs ns→ns.length ≤ n→s₁.gens = #[]→
      codeAny (model l.prog w) callerA (.call (.ref fa) ⟨[.ref a],[]⟩) (fun r s'=>r = .ok (.ret (.bool true))∧OldK s₁.heap s'.heap∧s'.os = s₁.os∧AllBare s'.gens) s₁) :
    WalkO q loose XP YP l.row.toRowW d [] (fun f vs=>PySem.call f vs):=by
  intro w s₀ s₁ mg mb G Y fa o pm cd doc dV kV ho hd hcd hD hmg hg args vals as hpre hlay hrd hwl hlo
  obtain rfl:dV = .none:=Dflts.none hD hdf
  obtain rfl:kV = .none:=Dflts.noKw hD
  obtain ⟨a,vs,ns,rfl,rfl,hobj,hints,hlen⟩:=script_of hn hpre hwl
  refine enter_call (codeAny_mono (call w s₀ s₁ mg mb fa o pm cd doc a vs ns G Y ho (fd_plain hd) hcd hmg hobj hints hlen hg) fun r s' hq=>?_)
  obtain ⟨rfl,h2,h3,h4⟩:=hq
  exact ⟨.inl ⟨.bool true,.bool true,[],rfl,fun _=>rfl,.bool true,post_true l _,fun _=>⟨List.Pairwise.nil,fun _ hm=>(nomatch hm)⟩⟩,h2,h3,h4⟩
section
variable {prog:Program} {w:World} {A:Around} {E:Value→Shared→Prop} {s:Shared} {K:Frag}
end
end Att
namespace L2
open PySem PySem.Spec PyProof.Rows
theorem vals_ints:∀ {vs:List Value} {ns:List Int},IntsAre vs ns→Vals (ns.map V.int) vs
  | _,_,.nil=>.nil
  | _,_,.cons n t h=>.cons ⟨t,rfl⟩ (vals_ints h)
def Only (H:Hp):Prop:=∀ b,H b = none ∨ ∃ o xs,H b = some (.frz o (.lst xs))
theorem law_call {P:Program} {w:World} {K:PySem.W.Frag} {mg mb:Str→Option Value} {CX:CXT} {k:Nat} {fa a:Addr} {fd:FuncData} {x:Str} {sp:Sp} {s₁:Shared} {vs:List Value} {ns:List Int}
    (KX:K.In s₁.heap) (hns:s₁.heap.Ns mainGlobals mg) (hb:s₁.heap.Ns builtinsNs mb) (hbb:∀ x:Str,x ≠ "__name__"→mb x = bootBuiltins x) (hlim:s₁.heap.NoLimit) (hg:s₁.gens = #[])
    (ha:s₁.heap.get? a = some { cls:=.type "list",data:=.seq vs.toArray }) (hi:IntsAre vs ns) (hl:ns.length ≤ sizeLine) (hr:Room k callerA)
    (F:∀ base:Heap,K.In base→base.Ns mainGlobals mg→FnOk P w K mg base CX k fa fd [x] sp) (hbind:∀ (s:Shared) (u:Value),BindsTo s fd ⟨[u],[]⟩ [(x,u)])
    (hsp:∀ H:Hp,Only H→SqL K H a (ns.map V.int)→sp [.ref a] H (fun v _=>v = .bl true) fun _ _ _=>False)
    (hCX:∀ H e s',CX [] H s₁ (fun _ _ _=>False) e s'→False) :
    codeAny (model P w) callerA (.call (.ref fa) ⟨[.ref a],[]⟩) (fun r s'=>r = .ok (.ret (.bool true))∧OldK s₁.heap s'.heap∧s'.os = s₁.os∧AllBare s'.gens) s₁:=by
  have rv:=vals_ints hi
  have lenV:=hi.length
  have core:∀ H:Hp,Only H→SqL K H a (ns.map V.int)→HOk P w H s₁.heap→(∀ b,H b ≠ none→b = a)→(H a ≠ none→K.lookup a = none)→
      codeAny (model P w) callerA (.call (.ref fa) ⟨[.ref a],[]⟩) (fun r s'=>r = .ok (.ret (.bool true))∧OldK s₁.heap s'.heap∧s'.os = s₁.os∧AllBare s'.gens) s₁:=by
    intro H hO hS hok hA hK
    have base_of:∀ {b:Addr} {o:Obj},s₁.heap.get? b = some o→H b = none→(hidT s₁.heap H).get? b = some o:=fun e n=>hidT_get e n
    have noA:∀ {b:Addr} {o:Obj} {es:Array DictEntry} {ep:Nat},s₁.heap.get? b = some o→o.data = .dict es ep→H b = none:=fun {b o es ep} e d=>by
      cases q:H b with
      | none=>rfl
      | some u=>
        have e':b = a:=hA b (by rw [q]; simp)
        subst e'
        rw [ha] at e; cases e
        have d':Data.seq vs.toArray _ = Data.dict es ep:=d
        cases d'
    have nsK:∀ {b:Addr} {m:Str→Option Value},s₁.heap.Ns b m→(hidT s₁.heap H).Ns b m:=fun {b m} ⟨o,es,ep,e,d,r⟩=>⟨o,es,ep,base_of e (noA e d),d,r⟩
    have hKb:K.In (hidT s₁.heap H):=fun b o e=>base_of (KX b o e) (by
      cases q:H b with
      | none=>rfl
      | some u=>
        have e':b = a:=hA b (by rw [q]; simp)
        subst e'
        rw [hK (by rw [q]; simp)] at e; cases e)
    have hM:Mod K mg (hidT s₁.heap H):=⟨hKb,nsK hns,⟨mb,nsK hb,hbb⟩,let ⟨mc,h1,h2⟩:=hlim; ⟨mc,nsK h1,h2⟩⟩
    have e0:Env0 P w K mg (hidT s₁.heap H) callerA [] s₁ H:=⟨rfl,hM,fun b o e=>of_hidT e,Nat.le_of_eq (hidT_size _ _),trivial,fun b hb=>absurd (show b ∈ ([]:List Addr) from hb) (by simp),hok,.of_eq hg⟩
    refine codeAny_mono ((F _ hKb (nsK hns)).run callerA [] s₁ H ⟨[.ref a],[]⟩ [.ref a] [.ref a] _ _ hr e0 (hbind s₁ (.ref a)) (.cons rfl .nil) (hsp H hO hS)) fun r s' h=>?_
    cases r with
    | error e=>exact (hCX H e s' h).elim
    | ok fl=>
      cases fl with
      | next=>exact False.elim h
      | brk=>exact False.elim h
      | cont=>exact False.elim h
      | ret u=>
        obtain ⟨v,H',os,bare,un,hok',r',q⟩:=h
        have q':v = .bl true:=q
        subst q'
        obtain rfl:u = Value.bool true:=r'
        refine ⟨rfl,OldK.of_keep fun b o e=>?_,os,bare⟩
        cases q:H b with
        | none=>exact un.keep b o e q (by intro z; exact absurd (show b ∈ ([]:List Addr) from z) (by simp)) (by simp)
        | some u=>
          rcases hO b with z | ⟨ob,xs,z⟩
          · rw [q] at z; cases z
          · have z2:=un.frzs b ob _ z
            obtain ⟨e1,_⟩:=hok b _ z
            obtain ⟨e2,_⟩:=hok' b _ z2
            rw [e] at e1; cases e1
            exact e2
  cases hk:K.lookup a with
  | some o=>
    have e:=KX a o hk
    rw [ha] at e
    cases e
    refine core (fun _=>none) (fun _=>.inl rfl) (.inr ⟨_,vs.toArray,_,hk,rfl,rfl,rfl,by rw [List.size_toArray,lenV]; exact hl,by simpa using rv⟩) (fun b u z=>by have z':(none:Option HO) = some u:=z; cases z') (fun b z=>absurd rfl z) fun z=>absurd rfl z
  | none=>
    refine core (fun b=>if b = a then some (.frz { cls:=.type "list",data:=.seq vs.toArray } (.lst (ns.map V.int))) else none) (fun b=>?_) (.inl (.inr ⟨{ cls:=.type "list",data:=.seq vs.toArray },if_pos rfl⟩)) (fun b u z=>?_) (fun b z=>?_) fun _=>hk
    · by_cases hb:b = a
      · exact .inr ⟨_,_,if_pos hb⟩
      · exact .inl (if_neg hb)
    · by_cases hb:b = a
      · have z':=(if_pos hb).symm.trans z
        cases z'
        subst hb
        exact ⟨ha,by rw [List.length_map]; exact hl,vs,_,rv,ha⟩
      · have z':=(if_neg hb).symm.trans z
        cases z'
    · by_cases hb:b = a
      · exact hb
      · exact absurd (if_neg hb) z
end L2
namespace L2
open PySem PySem.Spec PyProof.Rows
abbrev KOf {K:PySem.W.Frag} {h:Heap} (_:K.In h):PySem.W.Frag:=K
theorem walk_of {l:PySem.W.OpenLaw} {n k:Nat} {q:Program} {loose:List Str} {XP:(Str→Option Value)→Heap→Prop} {YP:World→Heap→Prop} {d:DefRec} {K:Params→PySem.W.Frag} {CX:World→CXT} {sp:World→Sp} {x:Str}
    (hn:l.most = some n) (hn2:n ≤ sizeLine) (hdf:d.params.defaults = []) (hr:Room k callerA)
    (hY:∀ (w:World) (h:Heap),YP w h→(K w.params).In h)
    (F:∀ (w:World) (mg:Str→Option Value) (fa:Addr) (h:Heap),(K w.params).In h→h.Ns mainGlobals mg→mg d.name = some (.ref fa)→
      ∃ fd:FuncData,(∀ (s:Shared) (u:Value),BindsTo s fd ⟨[u],[]⟩ [(x,u)])∧
        ∀ base:Heap,(K w.params).In base→base.Ns mainGlobals mg→FnOk l.prog w (K w.params) mg base (CX w) k fa fd [x] (sp w))
    (hsp:∀ (w:World) (H:Hp) (a:Addr) (ns:List Int),ns.length ≤ n→Only H→SqL (K w.params) H a (ns.map V.int)→sp w [.ref a] H (fun v _=>v = .bl true) fun _ _ _=>False)
    (hCX:∀ (w:World) (H:Hp) (s:Shared) (e:Value) (s':Shared),CX w [] H s (fun _ _ _=>False) e s'→False) :
    PySem.W.WalkO q loose XP YP l.row.toRowW d [] (fun f vs=>PySem.call f vs):=by
  refine Att.attach_call hn hdf fun w s₀ s₁ mg mb fa o pm cd doc a vs ns G Y ho hd hcd hmg hobj hints hlen hg=>?_
  have KX:=hY w _ Y
  obtain ⟨fd,hb,hF⟩:=F w mg fa _ KX G.T.g hmg
  exact law_call KX G.T.g G.T.b G.T.builtins G.T.nolimit hg hobj hints (Nat.le_trans hlen hn2) hr hF hb (fun H hO hS=>hsp w H a ns hlen hO hS) fun H e s'=>hCX w H s₁ e s'
end L2
namespace L2
open PySem PySem.Spec PyProof.Rows
def inClass (s:Stmt) (j:Nat):Stmt:=match s with
  | .ClassDef _ _ _ body _ _ _ _ _ _ _=>body.getD j (.Pass ⟨0,0,0,0⟩)
  | _=>.Pass ⟨0,0,0,0⟩
def defArgs (s:Stmt):Arguments:=match s with
  | .FunctionDef _ a _ _ _ _ _ _ _ _=>a
  | _=>{ posonlyargs:=[],args:=[],vararg:=none,kwonlyargs:=[],kw_defaults:=[],kwarg:=none,defaults:=[] }
def defBody (s:Stmt):List Stmt:=match s with
  | .FunctionDef _ _ b _ _ _ _ _ _ _=>b
  | _=>[]
def defScope (s:Stmt):Scope:=match s with
  | .FunctionDef _ _ _ _ _ _ sc _ _ _=>sc
  | _=>{ kind:=.function,names:=[],isGenerator:=false,isCoroutine:=false }
abbrev CX0:CXT:=fun _ _ _ _ _ _=>False
abbrev E0:XK:=fun _ _ _=>False
theorem pass0 {X:Cx}:Passes CX0 X E0:=fun _ _ _ _ _ _ _ h=>h.elim
structure Fun (K:PySem.W.Frag) (x qual:Str) (st:Stmt) (f:Addr) (fd:FuncData):Prop where
  ex:∃ (oc:Value) (od:Option Addr) (kV doc pm:Value) (an:Option Addr) (cdv ct:Value) (osl:Array (Option Value)),
    fd = PySem.W.fnOf x qual (defArgs st) (defBody st) (defScope st) .none kV doc pm an cdv ct∧K.lookup f = some ⟨oc,od,.func fd,osl⟩∧PySem.W.codeIn K cdv qual = true
  kp:PySem.W.keepIn K (.ref f) = true
section
variable {P:Program} {w:World} {K:PySem.W.Frag} {mg:Str→Option Value} {base:Heap}
theorem Fun.ok {x qual:Str} {st:Stmt} {f:Addr} {fd:FuncData} {N ps:List Str} {k:Nat} {sp:Sp} (F:Fun K x qual st f fd) (S:FnScope N ps (defScope st)) (len:∀ vs H Q E,sp vs H Q E→vs.length = ps.length)
    (hbody:∀ (cdv:Value) (A:Around) (outer:List Env) (s:Shared) (H:Hp) (vs:List V) (Q:VK) (E:XK),Room k (A.deeper (envOfC qual (defScope st) s.heap.objs.size f cdv))→sp vs H Q E→
      ∃ t,PSs (cxOf CX0 P w K mg base N qual (defScope st) f cdv A outer s H E).nox (defBody st) t∧t { nx:=fun _ H'=>Q .non H',rt:=Q } (start N vs) H):FnOk P w K mg base CX0 (k + 1) f fd ps sp:=by
  obtain ⟨oc,od,kV,doc,pm,an,cdv,ct,osl,rfl,lk,hcd⟩:=F.ex
  refine fn_of lk hcd S len fun A outer s H vs Q E hr hsp=>?_
  obtain ⟨t,h,q⟩:=hbody cdv A outer s H vs Q E hr hsp
  exact ⟨t,h.nox,q⟩
theorem Fun.binds {x qual:Str} {st:Stmt} {f:Addr} {fd:FuncData} {ps:List Str} (F:Fun K x qual st f fd)
    (h:∀ (kV doc pm:Value) (an:Option Addr) (cdv ct:Value) (us:List Value),us.length = ps.length→bindArgs (PySem.W.fnOf x qual (defArgs st) (defBody st) (defScope st) .none kV doc pm an cdv ct) ⟨us,[]⟩ = pure (ps.zip us)):Binds K fd ps []:=by
  obtain ⟨oc,od,kV,doc,pm,an,cdv,ct,osl,rfl,lk,hcd⟩:=F.ex
  exact .all (h kV doc pm an cdv ct)
theorem fun_mk {x qual:Str} {st:Stmt} {f:Addr} {oc:Value} {od an:Option Addr} {osl:Array (Option Value)} {kV doc pm cdv ct:Value} (l:K.lookup f = some ⟨oc,od,.func (PySem.W.fnOf x qual (defArgs st) (defBody st) (defScope st) .none kV doc pm an cdv ct),osl⟩)
    (c:PySem.W.codeIn K cdv qual = true) (k:PySem.W.keepIn K (.ref f) = true):Fun K x qual st f (PySem.W.fnOf x qual (defArgs st) (defBody st) (defScope st) .none kV doc pm an cdv ct):=⟨⟨oc,od,kV,doc,pm,an,cdv,ct,osl,rfl,l,c⟩,k⟩
end
theorem small1000 {n:Nat} (h:n ≤ 1000):n < sizeLine:=Nat.lt_of_le_of_lt h (by decide)
section
variable {X:Cx}
theorem pv (i:Nat) {x:Str} {pos:Pos} (hN:X.N[i]? = some x:=by rfl) (hv:Vis X.env.scope x:=by first | exact Or.inl rfl | exact Or.inr (Or.inl rfl) | exact Or.inr (Or.inr rfl)) (hd:(x == ("__debug__":Str)) = false:=by decide)
    (hcd:(x == ("__classdict__":Str)) = false:=by decide):PE X (.Name x pos) (tVar i):=pe_var hN hv hd hcd
end
theorem iteF {A B:Prop} (h:B):if false = true then A else B:=by
  rw [if_neg Bool.false_ne_true]
  exact h
theorem iteT {A B:Prop} (h:A):if true = true then A else B:=by
  rw [if_pos rfl]
  exact h
theorem ite2 {c A B:Prop} [Decidable c] (h1:c→A) (h2:¬ c→B):if c then A else B:=by
  by_cases h:c
  · rw [if_pos h]
    exact h1 h
  · rw [if_neg h]
    exact h2 h
def Same (H H':Hp):Prop:=∀ b o,H b = some o→H' b = some o
theorem Same.refl (H:Hp):Same H H:=fun _ _ h=>h
theorem Same.trans {H H1 H2:Hp} (a:Same H H1) (b:Same H1 H2):Same H H2:=fun c o h=>b c o (a c o h)
theorem Same.seq {K:PySem.W.Frag} {H H':Hp} {a:Addr} {xs:List V} (e:Same H H') (h:SqL K H a xs):SqL K H' a xs:=by
  rcases h with (h | ⟨o,h⟩) | h
  · exact .inl (.inl (e _ _ h))
  · exact .inl (.inr ⟨o,e _ _ h⟩)
  · exact .inr h
end L2
set_option maxHeartbeats 4000000
namespace L2
open PySem PySem.Spec PyProof.Rows
structure Fly (P:Program) (w:World) (outer:List Env) (H:Hp) (s:Shared) (H':Hp) (ea C:Addr) (B:Heap) (t:Addr) (s':Shared):Prop where
  os:s'.os = s.os
  bare:AllBare s'.gens
  fl:Heap.FlyingW B outer ea (.ref C) (.ref t) s'.heap
  hok:HOk P w H' B
  kb:∀ b o,s.heap.get? b = some o→H b = none→b ∉ frs outer→B.get? b = some o
  tb:∀ b o,s.heap.get? b = some o→b ∉ frs outer→∃ o',B.get? b = some o'
  sl:∀ b o,s.heap.get? b = some o→H b = none→b ∈ frs outer→∃ l,s'.heap.get? b = some { o with slots:=l }
  frh:∀ b ∈ frs outer,H b = none
  fre:∀ b o,s.heap.get? b = some o→H b = none→H' b = none
  tups:∀ b xs,H b = some (.tup xs)→H' b = some (.tup xs)
  frzs:∀ b o u,H b = some (.frz o u)→H' b = some (.frz o u)
  tbls:∀ b ps,H b = some (.tbl ps)→∃ more,H' b = some (.tbl (ps ++ more))
def CXF (P:Program) (w:World):CXT:=fun outer H s E e s'=>∃ ea C H' B t,e = .ref ea∧Fly P w outer H s H' ea C B t s'∧E (.ref C) none H'
section
variable {P:Program} {w:World} {outer:List Env} {H H':Hp} {s s':Shared} {ea C t:Addr} {B:Heap}
def ExcAt (ea C:Addr) (h:Heap):Prop:=∃ oe,h.get? ea = some oe∧oe.cls = .ref C∧PySem.W.notCls oe = true
def ExcO (ea C:Addr):HO:=.ext (ExcAt ea C)
end
section
variable {X:Cx} {pins:List (Addr × Obj)} {σ:St} {H H':Hp} {s s':Shared} {ea C t:Addr} {B:Heap}
structure Leaves (X:Cx) (E:XK):Prop where
  stk:X.stack = X.env :: X.outer
  fr:X.env.frame = some X.env.locals
  ex:X.ex = []
  xe:X.xe = fun e s'=>wpAny (model X.prog X.w) X.A (leaving X.env e) (fun _ s''=>CXF X.prog X.w X.outer X.H₀ X.s₀ E e s'') (fun e' s''=>CXF X.prog X.w X.outer X.H₀ X.s₀ E e' s'') s'
theorem frs_cons {env:Env} {outer:List Env} {L:Addr} (h:env.frame = some L):frs (env :: outer) = L :: frs outer:=by
  unfold frs
  rw [List.filterMap_cons,h]
theorem Fly.leave {E:XK} (L:Leaves X E) (I:Inv X pins σ H s) (f:Fly X.prog X.w X.stack H s H' ea C B t s') {h:Heap} (x:Heap.FlyingW B X.outer ea (.ref C) (.ref t) h) (up:s'.heap.UpToSlots h):Fly X.prog X.w X.outer X.H₀ X.s₀ H' ea C B t { s' with heap:=h }:=by
  have nL:∀ b o,X.s₀.heap.get? b = some o→b ≠ X.env.locals:=fun b o e=>Nat.ne_of_lt (Nat.lt_of_lt_of_le (Heap.lt_size e) I.ok.above)
  have ns:∀ b o,X.s₀.heap.get? b = some o→b ∉ frs X.outer→b ∉ frs X.stack:=fun b o e nb z=>by
    rw [L.stk,frs_cons L.fr] at z
    rcases List.mem_cons.mp z with z | z
    · exact nL b o e z
    · exact nb z
  have nx:∀ b:Addr,b ∉ X.ex:=fun b z=>by rw [L.ex] at z; cases z
  refine ⟨f.os.trans I.os,f.bare,x,f.hok,fun b o e n nb=>?_,fun b o e nb=>?_,fun b o e n hb=>?_,I.ok.frf,fun b o e n=>?_,fun b xs e=>f.tups b xs (I.base.tups b xs e),fun b o u e=>f.frzs b o u (I.base.frzs b o u e),fun b ps e=>?_⟩
  · exact f.kb b o (I.base.keep b o e n nb (nx b)) (I.base.free b o e n (nx b)) (ns b o e nb)
  · obtain ⟨o',e'⟩:=I.base.there b o e (nx b)
    exact f.tb b o' e' (ns b o e nb)
  · obtain ⟨l,q⟩:=I.base.slot b o e n hb (nx b)
    have hs:b ∈ frs X.stack:=by rw [L.stk,frs_cons L.fr]; exact List.mem_cons_of_mem _ hb
    obtain ⟨l2,q2⟩:=f.sl b _ q (I.base.free b o e n (nx b)) hs
    obtain ⟨_,o2,q3,nf⟩:=f.fl.2.2.1.mem hs
    rw [q2] at q3
    cases q3
    obtain ⟨l3,q4⟩:=up b _ q2 nf
    exact ⟨l3,q4⟩
  · obtain ⟨o',e'⟩:=I.base.there b o e (nx b)
    exact f.fre b o' e' (I.base.free b o e n (nx b))
  · obtain ⟨m1,e1⟩:=I.base.tbls b ps e
    obtain ⟨m2,e2⟩:=f.tbls b _ e1
    exact ⟨m1 ++ m2,by rw [e2,Array.append_assoc]⟩
theorem passN:Passes (CXF X.prog X.w) X (fun _ _ _=>False):=fun pins σ H s e s' I h=>by
  obtain ⟨_,_,_,_,_,_,_,q⟩:=h
  exact q.elim
theorem passF {E:XK} (L:Leaves X E):Passes (CXF X.prog X.w) X E:=fun pins σ H s e s' I h=>by
  obtain ⟨ea,C,H',B,t,rfl,f,q⟩:=h
  rw [L.xe]
  refine wpAny_leaves_onW (by rw [I.ok.frames,L.stk]) L.fr (by have z:=f.fl; rw [L.stk] at z; exact z) fun h' x up=>?_
  exact ⟨ea,C,H',B,t,rfl,f.leave L I x up,q⟩
end
end L2
namespace L2
open PySem PySem.Spec PyProof.Rows
theorem own_obj {K:PySem.W.Frag} {h:Heap} {C:Addr} {bmB:List Value} {newId:String} (kin:K.In h) (hq:PySem.W.excIn K C bmB newId = true) :
    ∃ bm N nm qn bs hdct sn sub ab col dd k0 k1 k2 k3 k5 mN,h.get? C = some (excClassObj nm qn C N bs bm hdct sn sub ab col dd k0 k1 k2 k3 k5 newId)∧h.Ns N mN∧mN "__init__" = none∧OwnTail h bmB bm∧PySem.W.mroIn K C = fun b=>some ((Value.ref C :: bm).contains b):=by
  unfold PySem.W.excIn at hq
  split at hq
  · rename_i dct cls slt look
    split at hq
    · rename_i CC rest a0 a1 a2 a3 nn a5 em es
      simp only [Bool.and_eq_true,beq_iff_eq,Bool.not_eq_true'] at hq
      obtain ⟨⟨⟨⟨⟨e1,e2⟩,e3⟩,e4⟩,e5⟩,e6⟩:=hq
      subst e1 e2
      have hmro:PySem.W.mroIn K CC = fun b=>some ((Value.ref CC :: rest).contains b):=by
        funext b
        unfold PySem.W.mroIn PySem.W.clsIn
        rw [look]
        simp [em]
      obtain ⟨c1,c2,c3,c4,c5,c6,c7,c8,c9,c10,c11⟩:=cls
      dsimp only at em e3 e5 e6
      subst em e3
      have hsl:slt = #[a0,a1,a2,a3,some (.builtin nn),a5]:=by
        obtain ⟨ll⟩:=slt
        simp only at es
        rw [es]
      subst hsl
      exact ⟨rest,c4,c1,c5,c2,c6,c7,c8,c9,c10,dct,a0,a1,a2,a3,a5,_,kin _ _ look,.of_isNs (PySem.W.isNs_of_in kin e5),PySem.W.nsMap_none_of_in kin e5 e6,PySem.W.tail_of_in kin e4,hmro⟩
    · cases hq
  · cases hq
section
variable {X:Cx} {E:XK} {x:Str} {C:Addr} {np cpos pos:Pos} {e:Expr} {es:List Expr} {ta:TA} {B newId initId:String} {bmB:List Value}
def tRaise (C:Addr) (E:XK) (ta:TA):TS:=fun _ σ H=>ta σ H fun vs H1=>vs.length ≤ sizeLine∧E (.ref C) none H1
theorem ps_raise (L:Leaves X E) (hc:X.calm = true) (FB:ExcBaseFacts B newId initId bmB) (hq:PySem.W.excIn X.K C bmB newId = true) (hg:Gl X x) (hm:X.mg x = some (.ref C)) (ha:PA X (e :: es) ta)
    (hs:starEach (e :: es) X.env = (false,eval e X.env) :: starEach es X.env:=by rfl) (hp:(backTo cpos (starEach es X.env)).any (·.1) = false:=by rfl) (hd:(x == ("__debug__":Str)) = false:=by decide) :
    PS X (.Raise (some (.Call (.Name x np) (e :: es) [] cpos)) none pos) (tRaise C E ta):=by
  intro pins s σ H D I h
  obtain ⟨bm,N,nm,qn,bs,hdct,sn,sub,ab,col,dd,k0,k1,k2,k3,k5,mN,hC,hN,hni,T,_⟩:=own_obj I.ok.mod.kin hq
  refine wpAny_Raise_call_subT (C:=C) (nm:=nm) (q:=qn) (N:=N) (bs:=bs) (bm:=bm) (hdct:=hdct) (sn:=sn) (sub:=sub) (ab:=ab) (col:=col) (dd:=dd) (k0:=k0) (k1:=k1) (k2:=k2) (k3:=k3) (k5:=k5) FB (mN:=mN) (T.hasType FB.hasBase) (I.ok.hd hc)
    (by rw [hs]; show (false || (backTo cpos (starEach es X.env)).any (·.1)) = false; rw [hp]; rfl) hni (ld_glob I hg hm ⟨rfl,?_⟩ hd)
  have h1:=ha cpos pins s σ H _ I h
  rw [hs] at h1 ⊢
  refine Calls.evalArgs_plain (thn h1 fun us s2 ⟨vs,H1,I1,r,hl,q⟩=>⟨rfl,by rw [← r.length]; exact hl,I1.bk _ _ hC,hN.keeps I1.bk,T.keeps I1.bk,fun h' ea mk=>?_⟩)
  rw [L.xe]
  have nL:∀ b o,X.s₀.heap.get? b = some o→b ≠ X.env.locals:=fun b o q=>Nat.ne_of_lt (Nat.lt_of_lt_of_le (Heap.lt_size q) I1.ok.above)
  have ns:∀ b o,X.s₀.heap.get? b = some o→b ∉ frs X.outer→b ∉ frs X.stack:=fun b o q nb z=>by
    rw [L.stk,frs_cons L.fr] at z
    rcases List.mem_cons.mp z with z | z
    · exact nL b o q z
    · exact nb z
  have nx:∀ b:Addr,b ∉ X.ex:=fun b z=>by rw [L.ex] at z; cases z
  have ff:s2.heap.FunFrames (PySem.W.hideAll s2.heap (frs X.stack)) (X.env :: X.outer):=by
    have z:=I1.stack
    rw [← L.stk]
    exact PySem.W.funFrames_hide z fun env he a hf=>List.mem_filterMap.mpr ⟨env,he,hf⟩
  refine wpAny_leaves_madeW (base:=PySem.W.hideAll s2.heap (frs X.stack)) (h:=s2.heap) (by rw [I1.ok.frames,L.stk]) L.fr (fun b o q=>PySem.W.of_hideAll _ q) ff mk fun h2 t fl _ _ up=>?_
  refine ⟨ea,C,H1,_,t,rfl,⟨I1.os,I1.bare,fl,fun a o e1=>?_,fun b o e1 n nb=>?_,fun b o e1 nb=>?_,fun b o e1 n hb=>?_,I1.ok.frf,fun b o e1 n=>?_,I1.base.tups,I1.base.frzs,I1.base.tbls⟩,q⟩
  · refine (I1.hok a o e1).stay (fun b u hb e2=>PySem.W.hideAll_get _ e2 fun z=>?_) (fun _ z=>z) fun _ _ z=>z
    have n0:=I1.stkFree b z
    rcases hb with hb | hb
    · subst hb
      rw [e1] at n0
      cases n0
    · rw [hb] at n0
      cases n0
  · exact PySem.W.hideAll_get _ (I1.base.keep b o e1 n nb (nx b)) (ns b o e1 nb)
  · obtain ⟨o',e2⟩:=I1.base.there b o e1 (nx b)
    exact ⟨o',PySem.W.hideAll_get _ e2 (ns b o e1 nb)⟩
  · obtain ⟨l,e2⟩:=I1.base.slot b o e1 n hb (nx b)
    have hs2:b ∈ frs X.stack:=by rw [L.stk,frs_cons L.fr]; exact List.mem_cons_of_mem _ hb
    obtain ⟨_,o2,e3,nf⟩:=I1.stack.mem hs2
    rw [e2] at e3
    cases e3
    obtain ⟨l2,e4⟩:=up b _ (mk.keeps _ _ e2) nf
    exact ⟨l2,e4⟩
  · obtain ⟨o',e2⟩:=I1.base.there b o e1 (nx b)
    exact I1.base.free b o e1 n (nx b)
end
section
variable {X:Cx} {k:Nat} {f C:Addr} {fd:FuncData} {ps:List Str} {sp:Sp} {dvs:List V} {ds:List Value} {x m:Str} {p pos apos:Pos} {e o:Expr} {es:List Expr} {ta:TE} {t:TA}
variable {te:TX} {i:Nat} {pos':Pos}
end
section
variable {X:Cx} {pins:List (Addr × Obj)} {σ:St} {H:Hp} {s:Shared} {ea:Addr}
end
section
variable {M:Model} {A:Around} {E:Value→Shared→Prop} {h:Heap} {g:Array GenState} {d:Drawn} {t:Nat} {os:OsState} {e:Addr} {oe:Obj} {Q:Bool→Shared→Prop}
variable {nm q nm' q':Str} {C N D N':Addr} {bs bm bs' bm':List Value} {hdct hdct':Bool} {sn sn':List Str} {sub sub':List Value} {ab ab':Bool} {col col':Option Bool} {dd dd':Option Addr} {k0 k1 k2 k3 k5 j0 j1 j2 j3 j5:Option Value} {newId newId':String}
end
section
variable {X:Cx} {body:List Stmt} {b₀:Stmt} {suite:List Stmt} {np hpos pos:Pos} {x n:Str} {D:Addr} {tb:TSX} {ts:TS} {bmB:List Value} {newId:String} {i:Nat}
end
section
variable {P:Program} {w:World} {K:PySem.W.Frag} {mg:Str→Option Value} {base:Heap}
theorem Fun.okX {x qual:Str} {st:Stmt} {f:Addr} {fd:FuncData} {N ps:List Str} {k:Nat} {sp:Sp} (F:Fun K x qual st f fd) (S:FnScope N ps (defScope st)) (len:∀ vs H Q E,sp vs H Q E→vs.length = ps.length)
    (hbody:∀ (cdv:Value) (A:Around) (outer:List Env) (s:Shared) (H:Hp) (vs:List V) (Q:VK) (E:XK),Room k (A.deeper (envOfC qual (defScope st) s.heap.objs.size f cdv))→sp vs H Q E→
      Leaves (cxOf (CXF P w) P w K mg base N qual (defScope st) f cdv A outer s H E) E→
      ∃ t,PSs (cxOf (CXF P w) P w K mg base N qual (defScope st) f cdv A outer s H E) (defBody st) t∧t { nx:=fun _ H'=>Q .non H',rt:=Q } (start N vs) H):FnOk P w K mg base (CXF P w) (k + 1) f fd ps sp:=by
  obtain ⟨oc,od,kV,doc,pm,an,cdv,ct,osl,rfl,lk,hcd⟩:=F.ex
  exact fn_of lk hcd S len fun A outer s H vs Q E hr hsp=>hbody cdv A outer s H vs Q E hr hsp ⟨rfl,rfl,rfl,rfl⟩
end
end L2
namespace L2
open PySem PySem.Spec PyProof.Rows
structure ClsX (K:PySem.W.Frag) (C:Addr):Prop where
  ci:PySem.W.hasDictIn K C = true
  ga:PySem.W.findIn K (.ref C) "__getattribute__" = some (some (.builtin "BaseException.__getattribute__"))
  gn:PySem.W.findIn K (.ref C) "__getattr__" = some none
  ca:PySem.W.findIn K (.ref C) "__class__" = some (some (.builtin "object.__class__"))
  mo:PySem.W.mroIn K C (.type "object") = some true
  mb:PySem.W.mroIn K C (.type "BaseException") = some true
section
variable {prog:Program} {w:World} {A:Around} {E:Value→Shared→Prop} {h:Heap} {g:Array GenState} {d:Drawn} {t:Nat} {os:OsState} {K:PySem.W.Frag} {a C:Addr} {o:Obj}
theorem xcls_get {R:Result→Shared→Prop} (kin:K.In h) (c:ClsX K C) (hx:h.get? a = some o) (hc:o.cls = .ref C) (hq:R (.ok (.ret (.ref C))) ⟨h,g,d,t,os⟩) :
    codeAny (model prog w) A (.call (.builtin "getset_descriptor.__get__") ⟨[.builtin "object.__class__",.ref a,.ref C],[]⟩) R ⟨h,g,d,t,os⟩:=by
  have hT5:(⟨h,g,d,t,os⟩:Shared).TypeIs (.builtin "object.__class__") "getset_descriptor":=F.typeOf_object_class
  have L1:=PySem.W.looks_mroIn (M:=model prog w) kin c.mo
  have ow:=F.owner_object_class
  refine codeAny_call_builtin F.slot_gs_get.plain F.entry_gs_get (F.slot_gs_get.check _ _ _ _ _ _ _ _ hT5 (F.args_gs_get _ _ _) ?_)
  repeat (any_goals (first | assumption | (with_reducible refine wpAny_loadPart_at hx ?_; rw [hc]) | (rw [ow]; with_reducible refine L1.at ?_) | wp_step))
  refine ⟨Code.quiet_builtin _ (by decide +kernel),codeAny_builtin F.entry_object_class ?_⟩
  repeat (any_goals (first | assumption | (with_reducible refine wpAny_loadPart_at hx ?_; rw [hc]) | wp_step))
theorem xcls_entry {tk:Tok} {Q:Fin→Shared→Prop} (kin:K.In h) (c:ClsX K C) (hx:h.get? a = some o) (hc:o.cls = .ref C) (hq:Q (.done (.ret (.ref C))) ⟨h,g,d,t,os⟩) :
    wpAny (model prog w) A (Builtin.«object.__getattribute__» ⟨[.ref a,.str "__class__" tk],[]⟩) Q E ⟨h,g,d,t,os⟩:=by
  have hT5:(⟨h,g,d,t,os⟩:Shared).TypeIs (.builtin "object.__class__") "getset_descriptor":=F.typeOf_object_class
  have L1:=PySem.W.looks_findIn (M:=model prog w) kin c.ca
  have f5:=F.typeOf_object_class
  have f6:=F.slot_gs_get.lookup
  have f7:=F.slot_gs_set.lookup
  repeat (any_goals (first | assumption | (with_reducible refine wpAny_loadPart_at hx ?_; rw [hc]) | with_reducible refine L1.at ?_ | wp_step))
  refine xcls_get kin c hx hc ?_
  repeat (any_goals (first | assumption | wp_step))
theorem xcls_check {M:Model} {nv:Value} {Q:Unit→Shared→Prop} (kin:K.In h) (c:ClsX K C) (hx:h.get? a = some o) (hc:o.cls = .ref C) (hq:Q () ⟨h,g,d,t,os⟩) :
    wpAny M A (checkBuiltinCall "BaseException.__getattribute__" ⟨[.ref a,nv],[]⟩) Q E ⟨h,g,d,t,os⟩:=by
  have hk:builtinKind "BaseException.__getattribute__" = some .slot:=by decide +kernel
  have hs:splitId "BaseException.__getattribute__" = some ("BaseException","__getattribute__"):=by decide +kernel
  have L1:=PySem.W.looks_mroIn (M:=M) kin c.mb
  have ha:=F.args_bexc_ga (.ref a) nv
  simp only [checkBuiltinCall,hk,hs]
  refine wpAny_bind ?_
  unfold isInstance
  repeat (first | (with_reducible refine wpAny_loadPart_at hx ?_; rw [hc]) | with_reducible refine L1.at ?_ | wp_step)
  exact hq
theorem xcls_by {tk:Tok} {fill expr:Bool} {Q:Value→Shared→Prop} (kin:K.In h) (c:ClsX K C) (hx:h.get? a = some o) (hc:o.cls = .ref C) (hq:Q (.ref C) ⟨h,g,d,t,os⟩) :
    wpAny (model prog w) A (getAttrBy (.ref a) (.str "__class__" tk) fill expr) Q E ⟨h,g,d,t,os⟩:=by
  have f3:=F.attrBase_ValueError.ga.bind (.ref a)
  have z0:(expr && onTheHeap (Value.builtin "BaseException.__getattribute__")) = false:=by cases expr <;> rfl
  have z2:(Value.builtin "BaseException.__getattribute__" == Value.builtin "object.__getattribute__") = false:=by decide +kernel
  have z1:(onTheHeap (Value.ref C) && Value.builtin "BaseException.__getattribute__" == Value.builtin "object.__getattribute__") = false:=by rw [z2]; rfl
  have L1:=PySem.W.looks_findIn (M:=model prog w) kin c.ga
  have L2:=PySem.W.looks_findIn (M:=model prog w) kin c.gn
  repeat (any_goals (first | assumption | (with_reducible refine wpAny_loadPart_at hx ?_; rw [hc]) | with_reducible refine L1.at ?_ | with_reducible refine L2.at ?_ | wp_step))
  refine codeAny_call_builtin F.attrBase_ValueError.ga.plain F.entry_bexc_ga (xcls_check kin c hx hc (xcls_entry kin c hx hc ?_))
  repeat (any_goals (first | assumption | wp_step))
theorem xcls_attr {Q:Option Value→Shared→Prop} (kin:K.In h) (c:ClsX K C) (hx:h.get? a = some o) (hc:o.cls = .ref C) (hq:Q (some (.ref C)) ⟨h,g,d,t + 1,os⟩) :
    wpAny (model prog w) A (getAttr? (.ref a) "__class__") Q E ⟨h,g,d,t,os⟩:=by
  unfold getAttr? getAttrBy?
  repeat (any_goals (first | assumption | with_reducible apply xcls_by kin c hx hc | wp_step))
theorem kitx_exc (c:ClsX K C):PySem.W.KitX K (.ref a) (.ref C) (ExcAt a C) where
  ty:=fun M h _ k=>by
    obtain ⟨oe,e1,e2,_⟩:=k
    exact e2 ▸ (PySem.W.Looks.ld e1).andThen .now
  it:=fun M h kin _=>by
    obtain ⟨cd,hc,_⟩:=PySem.W.any_some c.ci
    unfold PySem.W.clsIn at hc
    split at hc
    · rename_i look
      intro A' Q' E' s' k q
      unfold isType loadHead
      exact wpAny_bind (wpAny_loadPart (k _ _ (kin _ _ look)) (wpAny_pure q))
    · cases hc
  ne:=fun h tp dd its n sl kin htp=>by
    obtain ⟨cd,hc,_⟩:=PySem.W.any_some c.ci
    refine Bool.eq_false_iff.mpr fun q=>?_
    have e:C = tp:=Value.ref.inj (beq_iff_eq.mp q)
    subst e
    unfold PySem.W.clsIn at hc
    split at hc
    · rename_i look
      have z:=(kin _ _ look).symm.trans htp
      cases z
    · cases hc
  ca:=fun {prog w A E Q s} kin k z=>by
    obtain ⟨oe,e1,e2,_⟩:=k
    obtain ⟨h,g,d,t,os⟩:=s
    exact xcls_attr kin c e1 e2 z
end
def EmptyD (a:Addr) (h:Heap):Prop:=∃ o ep,h.get? a = some o∧o.ExactDict∧o.data = .dict #[] ep∧(a == sysModules) = false
theorem EmptyD.kit {a:Addr} {h:Heap} (e:EmptyD a h):PySem.W.KitAt a "dict" h:=by
  obtain ⟨o,_,e,c,_⟩:=e
  exact ⟨o,e,c.1⟩
def DctO (a:Addr):HO:=.ext (EmptyD a)
inductive TyX (K:PySem.W.Frag) (H:Hp):V→Value→Prop where
  | of {x:V} {t:Value} (h:TyOf K H x t):TyX K H x t
  | exc {a C:Addr} (e:H a = some (ExcO a C)) (c:ClsX K C):TyX K H (.ref a) (.ref C)
  | dct {a:Addr} (e:H a = some (DctO a)):TyX K H (.ref a) (.type "dict")
def clsV:V→Value
  | .ty n=>.type n
  | .ref a=>.ref a
  | _=>.none
def isCls:V→Bool
  | .ty _=>true
  | .ref _=>true
  | _=>false
def isiR (K:PySem.W.Frag):List V→Hp→VK→Prop:=fun xs H Q=>∃ x c t b,xs = [x,c]∧isCls c = true∧TyX K H x t∧PySem.W.kitOne K t (clsV c) = some b∧Q (.bl b) H
theorem call_isi {X:Cx} {K:PySem.W.Frag} (hK:X.K = K:=by rfl):CallR X (.builtin "isinstance") (isiR K):=by
  intro pins s σ H xs us Q I r h
  subst hK
  obtain ⟨x,c,t,b,rfl,hc,ty,e,q⟩:=h
  obtain ⟨u,cv,rfl,rx,rc⟩:=vals2 r
  have ec:cv = clsV c:=by
    cases c with
    | ty n=>exact rc
    | ref a=>exact rc
    | _=>cases hc
  subst ec
  cases ty with
  | of ty=>exact isinst_ok I rx ty e fun tk=>⟨.bl b,H,I.tok tk,rfl,q⟩
  | @dct a ea=>
    cases rx
    obtain ⟨k,_,_⟩:=(show ObjOk X.prog X.w H s.heap a (.ext (EmptyD a)) from I.hok a _ ea)
    exact PySem.W.kia_one PySem.W.kitx_dict I.kIn k.kit e (fun z=>nomatch z) fun tk=>⟨.bl b,H,I.tok tk,rfl,q⟩
  | @exc a C ea cc=>
    cases rx
    obtain ⟨k,_,_⟩:=(show ObjOk X.prog X.w H s.heap a (.ext (ExcAt a C)) from I.hok a _ ea)
    exact PySem.W.kia_one (kitx_exc cc) I.kIn k e (fun z=>nomatch z) fun tk=>⟨.bl b,H,I.tok tk,rfl,q⟩
def eqL:List V→List V→Bool
  | [],[]=>true
  | x :: xs,y :: ys=>eqV x y && eqL xs ys
  | _,_=>false
def rEqT (K:PySem.W.Frag) (neg:Bool):R2:=fun x y H Q=>∃ a b xs ys,x = .ref a∧y = .ref b∧SqT K H a xs∧SqT K H b ys∧xs.all flatV = true∧ys.all flatV = true∧Q (.bl (if neg then !eqL xs ys else eqL xs ys)) H
theorem eqL_range {A:Around} {s:Shared}:∀ {xs ys:List V} {us vs:List Value},Vals xs us→Vals ys vs→xs.all flatV = true→ys.all flatV = true→
    ∃ e:Nat→Bool,(∀ j (h1:j < us.length) (h2:j < vs.length),SeqAt.EqAt A s us[j] vs[j] (e j))∧((List.range (min us.length vs.length)).all e && us.length == vs.length) = eqL xs ys
  | [],[],_,_,.nil,.nil,_,_=>⟨fun _=>true,fun j h1=>absurd h1 (Nat.not_lt_zero _),by simp [eqL]⟩
  | [],_ :: _,_,_,.nil,.cons _ _,_,_=>⟨fun _=>true,fun j h1=>absurd h1 (Nat.not_lt_zero _),by simp [eqL]⟩
  | _ :: _,[],_,_,.cons _ _,.nil,_,_=>⟨fun _=>true,fun j _ h2=>absurd h2 (Nat.not_lt_zero _),by simp [eqL]⟩
  | x :: xs,y :: ys,u :: us,v :: vs,.cons r1 t1,.cons r2 t2,f1,f2=>by
    rw [List.all_cons,Bool.and_eq_true] at f1 f2
    obtain ⟨e,h,q⟩:=eqL_range (A:=A) (s:=s) t1 t2 f1.2 f2.2
    refine ⟨fun j=>match j with | 0=>eqV x y | k + 1=>e k,fun j h1 h2=>?_,?_⟩
    · cases j with
      | zero=>exact eqAt_V r1 r2 f1.1 f2.1
      | succ k=>exact h k (by simpa using h1) (by simpa using h2)
    · have em:min (u :: us).length (v :: vs).length = min us.length vs.length + 1:=by simp only [List.length_cons]; omega
      rw [em,List.range_succ_eq_map,List.all_cons,List.all_map]
      show (eqV x y && (List.range (min us.length vs.length)).all e && ((us.length + 1) == (vs.length + 1))) = (eqV x y && eqL xs ys)
      rw [← q]
      have eb:((us.length + 1) == (vs.length + 1)) = (us.length == vs.length):=by
        rw [Bool.eq_iff_iff,beq_iff_eq,beq_iff_eq]; omega
      rw [eb,Bool.and_assoc]
theorem op_eqT {X:Cx} (hu:X.A.units < cLine):OpR X (compareOp .Eq) (rEqT X.K false):=by
  intro pins s σ H x y v u Q I rx ry h
  obtain ⟨a,b,xs,ys,rfl,rfl,h1,h2,f1,f2,q⟩:=h
  cases rx
  cases ry
  obtain ⟨us,r1,t1,_⟩:=I.tuple h1
  obtain ⟨vs,r2,t2,_⟩:=I.tuple h2
  obtain ⟨e,he,eq⟩:=eqL_range (A:=X.A.in1) (s:=s) r1 r2 f1 f2
  refine SeqAt.eq_tupleAt (e:=e) t1 t2 hu (fun j z1 z2=>by simpa using he j (by simpa using z1) (by simpa using z2)) ⟨.bl (eqL xs ys),H,I,?_,q⟩
  show _ = Value.bool (eqL xs ys)
  rw [← eq]
  simp
theorem boot_isinstance:bootBuiltins "isinstance" = some (.builtin "isinstance"):=by decide +kernel
theorem boot_abs:bootBuiltins "abs" = some (.builtin "abs"):=by decide +kernel
theorem boot_min:bootBuiltins "min" = some (.builtin "min"):=by decide +kernel
theorem boot_int:bootBuiltins "int" = some (.type "int"):=by decide +kernel
theorem boot_bool:bootBuiltins "bool" = some (.type "bool"):=by decide +kernel
theorem boot_tuple:bootBuiltins "tuple" = some (.type "tuple"):=by decide +kernel
theorem boot_list:bootBuiltins "list" = some (.type "list"):=by decide +kernel
end L2
namespace My
open PySem L2
def primeB (n:Int):Bool:=(List.range 32).all fun e=>decide (e < 2) || decide (n < (e:Int) * (e:Int)) || decide (n % (e:Int) ≠ 0)
theorem primeB_no {n d:Int} (h2:n ≤ 997) (hd:2 ≤ d) (hq:d * d ≤ n) (hm:n % d = 0):primeB n = false:=by
  have hd2:d < 32:=by
    by_cases h:d < 32
    · exact h
    · have:32 * 32 ≤ d * d:=Int.mul_le_mul (by omega) (by omega) (by omega) (by omega)
      omega
  obtain ⟨k,rfl⟩:∃ k:Nat,d = (k:Int):=⟨d.toNat,by omega⟩
  cases e:primeB n with
  | false=>rfl
  | true=>
    have z:=List.all_eq_true.mp e k (List.mem_range.mpr (by omega))
    simp only [Bool.or_eq_true,decide_eq_true_eq] at z
    rcases z with (z | z) | z
    · omega
    · omega
    · exact absurd hm z
theorem primeB_yes {n d:Int} (hq:n < d * d) (hd:2 ≤ d) (hm:∀ e:Int,2 ≤ e→e < d→n % e ≠ 0):primeB n = true:=by
  refine List.all_eq_true.mpr fun k _=>?_
  simp only [Bool.or_eq_true,decide_eq_true_eq]
  by_cases h1:k < 2
  · exact .inl (.inl h1)
  · by_cases h2:n < (k:Int) * (k:Int)
    · exact .inl (.inr h2)
    · refine .inr (hm k (by omega) ?_)
      by_cases h3:(k:Int) < d
      · exact h3
      · have:d * d ≤ (k:Int) * (k:Int):=Int.mul_le_mul (by omega) (by omega) (by omega) (by omega)
        omega
inductive Td where
  | a (w:Str)
  | b (w:Str) (n:Int)
def Td.vs:Td→List V
  | .a w=>[.str w]
  | .b w n=>[.str w,.int n]
def Td.isF:Td→Bool
  | .a w=>decide (w = "fractions")
  | .b _ _=>false
def Td.isW:Td→Bool
  | .a _=>false
  | .b w n=>decide (w = "wheel") && (decide (2 ≤ n) && decide (n ≤ 997) && primeB n)
def Td.good (d:Td):Bool:=d.isF || d.isW
def Td.prime:Td→V
  | .a _=>.non
  | .b _ n=>.int n
end My
namespace L2
open PySem PySem.Spec PyProof.Rows
abbrev Cx.blk (X:Cx) (N:List Str) (scope:Scope) (cl:List (Str × Addr)) (s₃:Shared) (H₃:Hp) (fp:List Addr):Cx:=
  { X with N:=N,s₀:=s₃,H₀:=H₃,env:=compEnvC scope cl s₃.heap.objs.size X.env,outer:=X.stack,stack:=X.stack,ex:=fp,fn:=fun _=>false,pn:=[],xe:=fun _ _=>False }
inductive PTs (X:Cx):List Expr→TT→Prop where
  | nil:PTs X [] (fun _ H Q=>Q true H)
  | one {c:Expr} {t:TT} (h:PT X c t):PTs X [c] t
def tComp (wi:TI) (ρ:St→St) (tt:TT) (te:TE):TE:=fun σ H Q=>wi σ H fun J H1=>∀ D,H1 D = none→∃ W:Nat→Nat→List V→Hp→Prop,(∃ m,W 0 m [] (upd H1 D (.lst [])))∧
  ∀ i m ys Hc,W i m ys Hc→Hc D = some (.lst ys)∧((J.stop i Hc∧Q (.ref D) Hc) ∨ (J.go i Hc∧∀ x H',J.yld i Hc x H'→tt (some x :: ρ σ) H' fun b H2=>
    if b = true then te (some x :: ρ σ) H2 fun y H3=>H3 D = some (.lst ys)∧ys.length < sizeLine∧∃ m',m' < m∧W (i + 1) m' (ys ++ [y]) (upd H3 D (.lst (ys ++ [y]))) else ∃ m',m' < m∧W (i + 1) m' ys H2))
section
variable {X:Cx} {N:List Str} {scope:Scope} {cl:List (Str × Addr)} {x:Str} {px pos:Pos} {iter elt:Expr} {ifs:List Expr} {wi:TI} {ρ:St→St} {tt:TT} {te:TE}
structure Blk (X:Cx) (N:List Str) (scope:Scope) (cl:List (Str × Addr)) (x:Str) (ρ:St→St):Prop where
  clos:closureFor scope X.env = pure cl
  kind:scope.kind = .function
  nocell:∀ y ∈ scope.names,y.2 ≠ .cell
  names:∀ y ∈ scope.names,y.2 = .local→scope.names.lookup y.1 = some .local
  sub:∀ p ∈ cl,X.env.cells.lookup p.1 = some p.2
  has:∀ y,((relabel scope X.env).names.lookup y = some .cell ∨ (relabel scope X.env).names.lookup y = some .free)→∃ c,cl.lookup y = some c
  n0:N[0]? = some x
  nd:N.Nodup
  hx:scope.names.lookup x = some .local
  rho:∀ (σ:St) (j:Nat) (v:V),(ρ σ)[j]? = some (some v)→∃ (i:Nat) (y:Str),N[j + 1]? = some y∧X.N[i]? = some y∧σ[i]? = some (some v)∧Vis X.env.scope y∧(X.env.kindOf y = some .cell ∨ X.env.kindOf y = some .free)∧((relabel scope X.env).names.lookup y = some .cell ∨ (relabel scope X.env).names.lookup y = some .free)
  len:∀ σ:St,σ.length = X.N.length→(ρ σ).length + 1 = N.length
theorem has_of {names:List (Str × NameKind)} {cl:List (Str × Addr)} (h:(names.all fun q=>(q.2 != .cell && q.2 != .free) || (cl.lookup q.1).isSome) = true) :
    ∀ y,(names.lookup y = some .cell ∨ names.lookup y = some .free)→∃ c,cl.lookup y = some c:=fun y hy=>by
  have key:∀ k:NameKind,(k != .cell && k != .free) = false→names.lookup y = some k→∃ c,cl.lookup y = some c:=fun k hk e=>by
    have z:=List.all_eq_true.mp h (y,k) (PySem.mem_of_lookup e)
    rw [hk,Bool.false_or] at z
    exact Option.isSome_iff_exists.mp z
  rcases hy with e | e
  · exact key .cell rfl e
  · exact key .free rfl e
theorem join_some {o:Option (Option V)} {v:V} (h:some o.join = some (some v)):o = some (some v):=by
  cases o with
  | none=>cases h
  | some o=>cases h; rfl
theorem pe_comp (B:Blk X N scope cl x ρ) (hc:X.calm = true) (hi:PI X (.Name x px) iter wi) (ht:∀ s₃ H₃ fp,PTs (X.blk N scope cl s₃ H₃ fp) ifs tt) (he:∀ s₃ H₃ fp,PE (X.blk N scope cl s₃ H₃ fp) elt te)
    (hs:∀ x,foldedSetIterable iter X.env x = pure x:=by intro _; rfl):PE X (.ListComp elt [⟨.Name x px,iter,ifs,0⟩] scope pos) (tComp wi ρ tt te):=by
  intro pins s σ H Q I h
  rw [eval_ListComp]
  refine wpAny_comprehension_free (use:=none) rfl hs B.clos B.kind B.names (thn (hi pins s σ H _ I h) fun v s1 h1=>thn h1 fun itv s2 h2=>?_)
  obtain ⟨it,fp,tn,J,H2,rfl,I2,T,st2,f2,q2⟩:=h2
  have nD:H2 s2.heap.objs.size = none:=I2.hok.fresh (Nat.le_refl _)
  obtain ⟨W,⟨m0,w0⟩,turn⟩:=q2 _ nD
  refine wpAny_newObj_type (wpAny_newFunctionEnv B.nocell (by intro y hy; simp at hy) (fun h₁ hns₁ hsb₁=>?_) B.kind)
  dsimp only at hns₁ hsb₁ ⊢
  generalize hD:s2.heap.objs.size = D at nD w0 turn hns₁ hsb₁ ⊢
  generalize hS3:({ s2 with heap:=s2.heap.push { cls:=.type "list",dict:=none,data:=.seq ([]:List Value).toArray } }:Shared) = s3
  have I3:Inv X pins σ (upd H2 D (.lst [])) s3:=by
    subst hD hS3
    exact I2.laid (t':=s2.toks) (fun b u e=>Heap.get?_push_of_some _ e) (Nat.le_refl _) ⟨Nat.zero_le _,[],_,.nil,Heap.get?_push_size _ rfl⟩
  have e3:s3.heap = s2.heap.push { cls:=.type "list",dict:=none,data:=.seq ([]:List Value).toArray }:=by rw [← hS3]
  have k23:∀ b o,s2.heap.get? b = some o→s3.heap.get? b = some o:=fun b o e=>by rw [e3]; exact Heap.get?_push_of_some _ e
  rw [← e3] at hns₁ hsb₁ ⊢
  have below:∀ b o,s3.heap.get? b = some o→b ≠ s3.heap.objs.size:=fun b o e=>Nat.ne_of_lt (Heap.lt_size e)
  have k34:∀ b o,s3.heap.get? b = some o→h₁.get? b = some o:=fun b o e=>hsb₁.extBut b o (below b o e) (Heap.get?_push_of_some _ e)
  have fpl:∀ b ∈ fp,∃ o,s2.heap.get? b = some o∧∀ v,o.data ≠ .cell v:=T.obj _ _ st2
  have nfD:∀ b ∈ fp,b ≠ D:=fun b hb z=>by
    obtain ⟨o,e,_⟩:=fpl b hb
    rw [z,← hD] at e
    exact absurd (Heap.lt_size e) (Nat.lt_irrefl _)
  have cl_of:∀ y c,cl.lookup y = some c→X.env.cells.lookup y = some c:=fun y c e=>B.sub (y,c) (PySem.mem_of_lookup e)
  have stkf:=I3.stkFree
  have okB:(X.blk N scope cl s3 (upd H2 D (.lst [])) fp).Ok:=by
    refine ⟨I.ok.mod,B.kind,I.ok.glob,I.ok.blt,Nat.le_refl _,fun a b c e1 e2=>I.ok.inj a b c (cl_of a c e1) (cl_of b c e2),fun y hy=>B.has y hy,(fun _ _ z _=>absurd z Bool.false_ne_true),(fun _=>I.ok.hd hc),I.ok.frames,.inl rfl,fun b hb=>⟨?_,fun y c e z=>?_⟩,fun b o e=>?_,Nat.le_trans I.ok.bsz I3.sz,fun b o e hb=>?_,fun b hb z=>?_,I3.stack,stkf⟩
    · obtain ⟨o,e,_⟩:=fpl b hb
      exact below b o (k23 b o e)
    · exact (f2 b hb).2.2.2.2.1 y c (cl_of y c e) z
    · exact I3.bs b o e
    · rcases (f2 b hb).2.2.2.1 with z | z
      · exact I.ok.noex b o e z
      · exact absurd (Nat.lt_of_lt_of_le (Heap.lt_size e) (Nat.le_trans I.ok.bsz z)) (Nat.lt_irrefl _)
    · rcases List.mem_cons.mp (I3.stkSub b z) with z | z
      · exact (f2 b hb).2.1 z
      · exact (f2 b hb).2.2.1 z
  have IB:∀ tk:Nat,Inv (X.blk N scope cl s3 (upd H2 D (.lst [])) fp) [] (none :: ρ σ) (upd H2 D (.lst [])) { s3 with heap:=h₁,toks:=tk }:=fun tk=>by
    refine ⟨okB,rfl,I3.bare,Un.kept k34,⟨_,hns₁,fun j y v e1 e2 e3=>?_⟩,fun y c e=>?_,?_,fun y c e=>I3.freeC y c (cl_of y c e),(fun p hp=>nomatch hp),I3.hok.kept k34,?_⟩
    · cases j with
      | zero=>cases e2
      | succ j=>
        obtain ⟨i,y',a1,a2,a3,a4,a5,a6⟩:=B.rho σ j v e2
        have e1':N[j + 1]? = some y:=e1
        rw [e1'] at a1
        cases a1
        obtain ⟨m,hn,hl⟩:=I3.loc
        obtain ⟨u,r,l⟩:=hl i y v a2 a3 a4
        refine ⟨u,r,.inr ⟨a6,?_⟩⟩
        obtain ⟨c,ec⟩:=B.has y a6
        rcases l with ⟨k,_⟩ | ⟨_,c',ec',z⟩
        · rcases a5 with q | q <;> (rw [k] at q; cases q)
        · have:=cl_of y c ec
          rw [this] at ec'
          cases ec'
          obtain ⟨o,ho,hd⟩:=z
          exact ⟨c,ec,o,k34 _ _ ho,hd⟩
    · obtain ⟨v,o,ho,hd⟩:=I3.cell y c (cl_of y c e)
      exact ⟨v,o,k34 _ _ ho,hd⟩
    · exact I3.hok.fresh (Nat.le_refl _)
    · show (none :: ρ σ).length = N.length
      rw [List.length_cons]
      exact B.len σ I.len
  have fin:∀ {σ':St} {H':Hp} {s':Shared},Inv (X.blk N scope cl s3 (upd H2 D (.lst [])) fp) [] σ' H' s'→Q (.ref D) H'→compPost (model X.prog X.w) X.A X.xe none (EP X pins σ Q) (.ref D) s3.heap.objs.size (.ok .next) s':=fun {σ' H' s'} J q=>by
    obtain ⟨m,hn,_⟩:=J.loc
    refine ⟨m,hn,fun h' hs'=>⟨.ref D,H',?_,rfl,q⟩⟩
    have old:∀ b o,s3.heap.get? b = some o→b ≠ s3.heap.objs.size:=below
    have u1:Un (frs X.stack) fp (upd H2 D (.lst [])) H' s3.heap h':=by
      refine ⟨fun b o e n hb hx=>?_,fun b o e n hb hx=>?_,J.base.free,fun b o e hx=>?_,J.base.tups,J.base.frzs,J.base.tbls⟩
      · exact (hs'.2 b (old b o e)).trans (J.base.keep b o e n hb hx)
      · obtain ⟨sl,z⟩:=J.base.slot b o e n hb hx
        exact ⟨sl,(hs'.2 b (old b o e)).trans z⟩
      · obtain ⟨o',z⟩:=J.base.there b o e hx
        exact ⟨o',(hs'.2 b (old b o e)).trans z⟩
    have hokE:HOk X.prog X.w H' h':=fun b u e=>by
      refine (J.hok b u e).stay (fun c v hc z=>(hs'.2 c fun y=>?_).trans z) (fun _ z=>z) fun _ _ z=>z
      have fr:=J.free
      have y':c = s3.heap.objs.size:=y
      rcases hc with hc | hc
      · rw [← hc,y'] at e
        exact absurd (fr.symm.trans e) (by simp)
      · rw [y'] at hc
        exact absurd (fr.symm.trans hc) (by simp)
    refine I3.call' (s':={ s' with heap:=h' }) (ch:=fp) (J.os) u1 hokE J.bare fun b hb=>?_
    obtain ⟨g0,g1,g2,g3,g4,g5⟩:=f2 b hb
    exact ⟨g3,g1,g4,g5⟩
  have stat:∀ {H':Hp},(∀ b ∈ fp,H' b = none)→∀ b ∈ fp,FpOk (X.blk N scope cl s3 (upd H2 D (.lst [])) fp) [] H' b:=fun hn b hb=>by
    refine ⟨hn b hb,?_,?_,.inl hb,fun y c e z=>(f2 b hb).2.2.2.2.1 y c (cl_of y c e) z,fun p hp=>nomatch hp⟩
    · obtain ⟨o,e,_⟩:=fpl b hb
      exact below b o (k23 b o e)
    · exact okB.exfs b hb
  have loop:∀ tk:Nat,codeAny (model X.prog X.w) X.A (.compLoop (.ListComp elt [⟨.Name x px,iter,ifs,0⟩] scope pos) 0 (.ref it) (.ref D) (compEnvC scope cl s3.heap.objs.size X.env))
      (compPost (model X.prog X.w) X.A X.xe none (EP X pins σ Q) (.ref D) s3.heap.objs.size) { s3 with heap:=h₁,toks:=tk }:=fun tk=>by
    refine codeAny_compLoop_tests (fun n s'=>∃ i ys o H',Inv (X.blk N scope cl s3 (upd H2 D (.lst [])) fp) [] (o :: ρ σ) H' s'∧tn i s'.heap∧(∀ b ∈ fp,H' b = none)∧W i n ys H') ?_ m0
      ⟨0,[],none,_,IB tk,T.keep _ _ _ st2 fun b hb o e=>k34 _ _ (k23 _ _ e),fun b hb=>by rw [upd_ne (nfD b hb)]; exact (f2 b hb).1,w0⟩
    rintro n s4 ⟨i,ys,o,H4,I4,st4,fr4,w4⟩
    obtain ⟨hD4,hturn⟩:=turn i n ys H4 w4
    rcases hturn with ⟨stop,qn⟩ | ⟨go,step⟩
    · refine wpAny_mono (T.done (X.blk N scope cl s3 (upd H2 D (.lst [])) fp) rfl rfl rfl hc i [] s4 _ H4 (fun _ _=>False) I4 (stat fr4) st4 stop) (fun r s5 ⟨hr,I5⟩=>?_) fun _ _ z=>z.elim
      subst hr
      exact fin I5 qn
    · refine wpAny_mono (T.item (X.blk N scope cl s3 (upd H2 D (.lst [])) fp) rfl rfl rfl hc i [] s4 _ H4 (fun _ _=>False) I4 (stat fr4) st4 go) (fun r s5 ⟨u,hr,h5⟩=>?_) fun _ _ z=>z.elim
      subst hr
      have z:letOwnedTupleGo (.Name x px) (.ref it) u = pure ():=rfl
      rw [z] at h5
      show wpAny _ _ ((pure ():Sem Unit) >>= fun _=>assign (.Name x px) (compEnvC scope cl s3.heap.objs.size X.env) u) _ _ s5
      refine wpAny_bind (wpAny_mono h5 (fun _ s5 ⟨y,H5,I5,r5,y5,st5,fr5⟩=>?_) fun _ _ z=>z.elim)
      have I5':=I5.pinned (stat fr5) (T.obj _ _ st5)
      have pg:PG (X.blk N scope cl s3 (upd H2 D (.lst [])) fp) (.Name x px) (gName 0):=pg_name (i:=0) B.nd B.n0 (.inl (lookup_relabel_local B.hx)) (.inr (lookup_relabel_local B.hx))
      have again:∀ {σ7:St} {H7:Hp} {s7:Shared},Inv (X.blk N scope cl s3 (upd H2 D (.lst [])) fp) ([] ++ pinsAt fp s5.heap) σ7 H7 s7→Inv (X.blk N scope cl s3 (upd H2 D (.lst [])) fp) [] σ7 H7 s7∧tn (i + 1) s7.heap∧∀ b ∈ fp,H7 b = none:=fun {σ7 H7 s7} I7=>by
        refine ⟨I7.unpinned,T.keep _ _ _ st5 fun b hb o e=>(I7.pin (b,o) (List.mem_append_right _ (List.mem_append_right _ (mem_pinsAt hb e)))).1,fun b hb=>?_⟩
        obtain ⟨o,e,d⟩:=T.obj _ _ st5 b hb
        exact (I7.pin (b,o) (List.mem_append_right _ (List.mem_append_right _ (mem_pinsAt hb e)))).2.1
      refine wpAny_mono (pg _ s5 _ H5 y u (fun σ2 H6=>σ2 = some y :: ρ σ∧H6 = H5) I5' r5 ⟨rfl,rfl⟩) (fun _ s6 ⟨σ6,H6,I6,q6⟩=>?_) fun _ _ z=>z.elim
      obtain ⟨rfl,rfl⟩:=q6
      have hstep:=step y _ y5
      have tests:∀ {tt':TT},PTs (X.blk N scope cl s3 (upd H2 D (.lst [])) fp) ifs tt'→∀ {R:Bool→Hp→Prop},tt' (some y :: ρ σ) H6 R→wpAny (model X.prog X.w) X.A
          (forIn ifs true fun c r=>if r = true then do let ok ← isTrue c (compEnvC scope cl s3.heap.objs.size X.env) (eval c (compEnvC scope cl s3.heap.objs.size X.env)); pure (ForInStep.yield ok) else pure (ForInStep.yield r))
          (fun ok s7=>∃ H7,Inv (X.blk N scope cl s3 (upd H2 D (.lst [])) fp) ([] ++ pinsAt fp s5.heap) (some y :: ρ σ) H7 s7∧R ok H7) (fun _ _=>False) s6:=fun {tt'} p {R} hR=>by
        cases p with
        | nil=>exact wpAny_tests_nil ⟨_,I6,hR⟩
        | one p=>exact wpAny_tests_one (p _ s6 _ _ _ I6 hR)
      refine wpAny_mono (tests (ht s3 _ fp) hstep) (fun ok s7 ⟨H7,I7,q7⟩=>?_) fun _ _ z=>z.elim
      cases ok with
      | false=>
        obtain ⟨m',hm',w7⟩:=q7
        obtain ⟨a1,a2,a3⟩:=again I7
        exact ⟨m',hm',i + 1,ys,_,H7,a1,a2,a3,w7⟩
      | true=>
        refine wpAny_mono (he s3 _ fp _ s7 _ H7 _ I7 q7) (fun ev s8 ⟨z,H8,I8,r8,hD8,hz,m',hm',w8⟩=>?_) fun _ _ z=>z.elim
        refine wpAny_mono (mt_append (X:=X.blk N scope cl s3 (upd H2 D (.lst [])) fp) _ s8 _ H8 (.ref D) [z] (.ref D) [ev] (fun _ H9=>H9 = upd H8 D (.lst (ys ++ [z]))) I8 rfl (.cons r8 .nil) ⟨D,ys,z,rfl,rfl,hD8,hz,rfl⟩) (fun _ s9 ⟨_,H9,I9,_,q9⟩=>?_) fun _ _ z=>z.elim
        subst q9
        obtain ⟨a1,a2,a3⟩:=again I9
        exact ⟨m',hm',i + 1,ys ++ [z],_,_,a1,a2,a3,w8⟩
  have start:=loop (s3.toks + ([]:List (Str × Value)).length)
  have es:({ s3 with heap:=h₁,toks:=s3.toks + ([]:List (Str × Value)).length }:Shared) = { s2 with heap:=h₁,toks:=s2.toks + ([]:List (Str × Value)).length }:=by rw [← hS3]
  rw [es] at start
  exact codeAny_compStart_list start (T.self _ 0 _ _ _ (T.keep _ _ _ st2 fun b hb o e=>k34 _ _ (k23 _ _ e)) start)
end
end L2
namespace L2
open PySem PySem.Spec PyProof.Rows
def Mid (i:Int):Prop:=i.natAbs < 2 ^ 2048
theorem Mid.log {i:Int} (h:Mid i):i.natAbs.log2 < 2048:=by
  by_cases z:i.natAbs = 0
  · rw [z]; decide
  · exact (Nat.log2_lt z).mpr h
def CDivM (i j:Int):Prop:=j ≠ 0∧Mid j
def CMulM (i j:Int):Prop:=Mid i∧Mid j
theorem CMulM.ok {i j:Int} (h:CMulM i j):IntMulOk i j:=by
  have b:∀ {k:Int},Mid k→Builtin.Int.intBits k ≤ 2048:=fun {k} hk=>by
    have z:=hk.log
    unfold Builtin.Int.intBits
    split <;> omega
  unfold IntMulOk
  have e:Builtin.Int.intTooBig ((Builtin.Int.intBits i:Int) + (Builtin.Int.intBits j:Int)) = false:=by
    unfold Builtin.Int.intTooBig
    have h1:=b h.1
    have h2:=b h.2
    have h3:(4096:Int) ≤ bitsLine:=by decide +kernel
    exact decide_eq_false (by omega)
  intro z
  rw [Bool.and_eq_true] at z
  have z2:=z.2
  rw [show Builtin.Int.intTooBig ((Builtin.Int.intBits i:Int) + (Builtin.Int.intBits j:Int)) = false from e] at z2
  cases z2
theorem paired_of:∀ {xs:List V} {us:List Value},xs.length = us.length→(∀ (i:Nat) (x:V) (u:Value),xs[i]? = some x→us[i]? = some u→RelV x u)→Vals xs us
  | [],[],_,_=>.nil
  | [],_ :: _,h,_=>by simp at h
  | _ :: _,[],h,_=>by simp at h
  | x :: xs,u :: us,h,k=>.cons (k 0 x u rfl rfl) (paired_of (by simpa using h) fun i a b h1 h2=>k (i + 1) a b (by simpa using h1) (by simpa using h2))
section
variable {X:Cx}
theorem op_fdivM:OpR X (binaryOp .FloorDiv) (rI CDivM fun i j=>.int (i.fdiv j)):=opI fun _ _ _ _ _ _ _ hc q=>floordiv_int hc.1 q (.inl (PyProof.noPylong_of_log2 (Nat.lt_of_lt_of_le hc.2.log (by decide))))
theorem op_mulM:OpR X (binaryOp .Mult) (rI CMulM fun i j=>.int (i * j)):=opI fun _ _ _ _ _ _ _ hc q=>mul_int q hc.ok
def CDivP (i j:Int):Prop:=0 < j∧Mid j
theorem op_fdivP:OpR X (binaryOp .FloorDiv) (rI CDivP fun i j=>.int (i / j)):=opI fun i j _ _ _ _ _ hc q=>
  floordiv_int (Int.ne_of_gt hc.1) (by rw [Int.fdiv_eq_ediv_of_nonneg i (Int.le_of_lt hc.1)]; exact q) (.inl (PyProof.noPylong_of_log2 (Nat.lt_of_lt_of_le hc.2.log (by decide))))
def allR (K:PySem.W.Frag):List V→Hp→VK→Prop:=fun xs H Q=>∃ (p:Addr) (bs:List Bool),xs = [.ref p]∧SqL K H p (bs.map V.bl)∧Q (.bl (bs.all id)) H
theorem call_all {K:PySem.W.Frag} (hc:X.calm = true) (hK:X.K = K:=by rfl):CallR X (.builtin "all") (allR K):=by
  intro pins s σ H xs us Q I r h
  subst hK
  obtain ⟨p,bs,rfl,hq,q⟩:=h
  obtain ⟨u,rfl,ru⟩:=vals1 r
  cases ru
  obtain ⟨its,rv,pl,hz⟩:=I.list hq
  have hne:p ≠ s.heap.objs.size:=by
    obtain ⟨o,e,_⟩:=pl.isList
    exact Nat.ne_of_lt (Heap.lt_size e)
  have hl:its.length = bs.length:=by rw [← rv.length,List.length_map]
  refine call_all_walk (wpAny_pyIter_list pl.isList ?_)
  refine ⟨s.heap.objs.size,_,_,_,_,_,fun i=>bs.getD i true,rfl,Walks.list (A:=X.A.in1) (show X.A.in1.handled = none from I.ok.hd hc) s.heap.objs.size p hne its.toArray,⟨⟨_,Heap.get?_push_size _ rfl,rfl,rfl⟩,pl.isList.push _⟩,fun i v s' Q' E' hv hq'=>?_,fun h' tk hk=>?_⟩
  · have hv':its[i]? = some v:=by simpa using hv
    cases eb:bs[i]? with
    | none=>
      have:=rv.none_of (i:=i) (by rw [List.getElem?_map,eb]; rfl)
      rw [this] at hv'
      cases hv'
    | some b=>
      obtain ⟨u,hu,ru⟩:=rv.get (i:=i) (x:=V.bl b) (by rw [List.getElem?_map,eb]; rfl)
      rw [hu] at hv'
      cases hv'
      cases ru
      have e:bs.getD i true = b:=by rw [List.getD_eq_getElem?_getD,eb]; rfl
      have hq2:Q' (bs.getD i true) s':=hq'
      rw [e] at hq2
      exact wpAny_truthy_bool hq2
  · refine ⟨.bl (bs.all id),H,I.kept fun b o e=>hk b o (fun z=>?_) (Heap.get?_push_of_some _ e),?_,q⟩
    · exact absurd (Heap.lt_size e) (by rw [List.mem_singleton.mp z]; exact Nat.lt_irrefl _)
    · show Value.bool _ = Value.bool _
      congr 1
      rw [List.size_toArray,hl]
      clear hk q rv pl hz hl hq
      induction bs with
      | nil=>rfl
      | cons b bs ih=>
        rw [List.length_cons,List.range_succ_eq_map,List.all_cons,List.all_map,List.all_cons]
        show (b && (List.range bs.length).all fun i=>bs.getD i true) = (b && bs.all id)
        rw [ih]
def rngR:List V→Hp→VK→Prop:=fun xs H Q=>∃ j:Int,xs = [.int j]∧∀ p,H p = none→Q (.ref p) (upd H p (.rng 0 j))
theorem call_range:CallR X (.type "range") rngR:=by
  intro pins s σ H xs us Q I r h
  obtain ⟨j,rfl,q⟩:=h
  obtain ⟨u,rfl,ru⟩:=vals1 r
  obtain ⟨t,rfl⟩:=ru
  refine call_range_1 ⟨.ref s.heap.objs.size,_,I.laid (o:=.rng 0 j) (fun b o e=>Heap.get?_push_of_some _ e) (Nat.le_refl _) ⟨_,_,_,Heap.get?_push_size _ rfl⟩,rfl,q _ (I.hok.fresh (Nat.le_refl _))⟩
def upto (n:Nat):List V:=(List.range n).map fun i:Nat=>V.int (i:Int)
def lrngR:List V→Hp→VK→Prop:=fun xs H Q=>∃ p n,xs = [.ref p]∧H p = some (.rng 0 (n:Nat))∧n ≤ 10000∧∀ l,H l = none→Q (.ref l) (upd H l (.lst (upto n)))
theorem call_list_rng (hc:X.calm = true):CallR X (.type "list") lrngR:=by
  intro pins s σ H xs us Q I r h
  obtain ⟨p,n,rfl,hp,hn,q⟩:=h
  obtain ⟨u,rfl,ru⟩:=vals1 r
  cases ru
  obtain ⟨t,u,v,e⟩:=(show ObjOk X.prog X.w H s.heap p (.rng 0 n) from I.hok p _ hp)
  refine call_list_range (n:=n) (I.ok.hd hc) e (small_one (by omega) (by omega) (by omega) (by omega)) (by rw [rangeSize_one]; split <;> omega) (by omega) fun h' tk acc c hk hD hit=>?_
  refine ⟨.ref s.heap.objs.size,_,I.laid (o:=.lst (upto n)) (fun b o e=>hk b o e) (Nat.le_refl _) ⟨?_,acc.toList,c,?_,?_⟩,rfl,q _ (I.hok.fresh (Nat.le_refl _))⟩
  · unfold upto
    rw [List.length_map,List.length_range]
    exact Nat.le_trans hn (by decide)
  · refine paired_of ?_ fun i x u h1 h2=>?_
    · unfold upto
      rw [List.length_map,List.length_range,Array.length_toList,hit.1]
    · have h2':acc[i]? = some u:=by simpa using h2
      obtain ⟨tk',e'⟩:=hit.2 i u h2'
      unfold upto at h1
      rw [List.getElem?_map] at h1
      have hi:i < n:=by
        have z:=(Array.getElem?_eq_some_iff.mp h2').1
        rw [hit.1] at z
        exact z
      rw [List.getElem?_range hi] at h1
      cases h1
      exact ⟨tk',by rw [e']; simp⟩
  · rw [hD]
end
theorem boot_all:bootBuiltins "all" = some (.builtin "all"):=by decide +kernel
theorem boot_range':bootBuiltins "range" = some (.type "range"):=by decide +kernel
def unstarred:Expr→Bool
  | .Starred _ _=>false
  | _=>true
theorem star_cons {e:Expr} {es:List Expr} {env:Env} (h:unstarred e = true):starEach (e :: es) env = (false,eval e env) :: starEach es env:=by
  cases e <;> first | rfl | cases h
theorem pa_mor {X:Cx} {e:Expr} {es:List Expr} {te:TE} {t:TA} (hs:unstarred e = true) (ha:PE X e te) (hr:PA X es t):PA X (e :: es) (tCons te t):=
  pa_cons ha hr (star_cons hs)
theorem ps_put {X:Cx} {pos:Pos} {i:Nat} {x:Str} {e:Expr} {te:TE} {pos':Pos} (hs:swapsWith e (some (.Name x pos')) pos.line X.env = pure false) (hf:X.fn x = true ∨ X.env.scope.names.lookup x = some .local) (hN:X.N.Nodup) (hi:X.N[i]? = some x) (hx:Loc X.env.scope x) (he:PE X e te) :
    PS X (.Assign [.Name x pos'] e pos) (tAsg te (gName i)):=ps_set hN hi hx he hs hf
def bitsR:V→List V→Hp→VK→Prop:=fun x xs H Q=>∃ i:Int,x = .int i∧xs = []∧Q (.int ((Builtin.Int.intBits i:Nat):Int)) H
theorem mt_bits {X:Cx}:MtR X "int.bit_length" bitsR:=by
  intro pins s σ H x xs v us Q I rx rv h
  obtain ⟨i,rfl,rfl,q⟩:=h
  have hus:=rv.zero
  subst hus
  obtain ⟨t,rfl⟩:=rx
  exact call_int_bit_length ⟨.int ((Builtin.Int.intBits i:Nat):Int),H,I.tok _,⟨_,rfl⟩,q⟩
theorem bits_mid {i:Int} (h:Mid i):Builtin.Int.intBits i ≤ 2048:=by
  have z:=h.log
  unfold Builtin.Int.intBits
  split <;> omega
end L2
namespace My
open PySem L2
theorem dV_str (a b:Str):decide (V.str a = V.str b) = decide (a = b):=by
  by_cases h:a = b
  · subst h; simp
  · rw [decide_eq_false h]; exact decide_eq_false fun e=>h (V.str.inj e)
theorem dV_int (a b:Int):decide (V.int a = V.int b) = decide (a = b):=by
  by_cases h:a = b
  · subst h; simp
  · rw [decide_eq_false h]; exact decide_eq_false fun e=>h (V.int.inj e)
theorem kit_same {K:PySem.W.Frag} {T:String}:PySem.W.kitOne K (.type T) (.type T) = some true:=by
  unfold PySem.W.kitOne
  rw [if_pos (beq_self_eq_true _)]
theorem same_upd {H:Hp} {p:Addr} {o:HO} (h:H p = none):Same H (upd H p o):=fun b u e=>by
  rw [upd_ne (ne_of_none e h)]
  exact e
theorem atI_some {α:Type} {xs:List α} {i:Int} (h0:0 ≤ i) (h1:i < xs.length):∃ v,atI xs i = some v∧v ∈ xs:=by
  obtain ⟨k,rfl⟩:∃ k:Nat,i = (k:Int):=⟨i.toNat,by omega⟩
  have hk:k < xs.length:=by omega
  exact ⟨xs[k],atI_nat (by simp [hk]),List.getElem_mem _⟩
theorem lk_prime (v:V):([(("prime":Str),v)]:List (Str × V)).lookup ("prime":Str) = some v:=by simp [List.lookup]
inductive Any (H:Hp):V→Prop where
  | non:Any H .non
  | bl (b:Bool):Any H (.bl b)
  | int (i:Int):Any H (.int i)
  | str (x:Str):Any H (.str x)
  | lst {a:Addr} {xs:List V} (e:H a = some (.lst xs)):Any H (.ref a)
  | tup {a:Addr} {xs:List V} (e:H a = some (.tup xs)):Any H (.ref a)
  | dct {a:Addr} (e:H a = some (DctO a)):Any H (.ref a)
def isIntV:V→Bool
  | .int _=>true
  | _=>false
def isBlV:V→Bool
  | .bl _=>true
  | _=>false
def isTupV (H:Hp):V→Bool
  | .ref a=>(match H a with | some (.tup _)=>true | _=>false)
  | _=>false
theorem Any.kit {K:PySem.W.Frag} {H:Hp} {v:V} (h:Any H v):∃ T:String,TyX K H v (.type T)∧PySem.W.kitOne K (.type T) (.type "int") = some (isIntV v || isBlV v)∧PySem.W.kitOne K (.type T) (.type "bool") = some (isBlV v)∧
    PySem.W.kitOne K (.type T) (.type "tuple") = some (isTupV H v):=by
  cases h with
  | non=>exact ⟨"NoneType",.of .non,rfl,rfl,rfl⟩
  | bl b=>exact ⟨"bool",.of (.bl b),rfl,rfl,rfl⟩
  | int i=>exact ⟨"int",.of (.int i),rfl,rfl,rfl⟩
  | str x=>exact ⟨"str",.of (.str x),rfl,rfl,rfl⟩
  | lst e=>exact ⟨"list",.of (.lst e),rfl,rfl,by unfold isTupV; dsimp only; rw [e]; rfl⟩
  | tup e=>exact ⟨"tuple",.of (.tup e),rfl,rfl,by unfold isTupV; dsimp only; rw [e]; rfl⟩
  | dct e=>exact ⟨"dict",.dct e,rfl,rfl,by unfold isTupV; dsimp only; rw [e]; rfl⟩
theorem bl_int {v:V} (h:isBlV v = true):isIntV v = false:=by cases v <;> first | rfl | cases h
theorem lk_no {v:V} {m:Str} (e:(m == ("prime":Str)) = false):([(("prime":Str),v)]:List (Str × V)).lookup m = none:=by simp [List.lookup,e]
theorem gcd_step (m n:Nat):Nat.gcd n (m % n) = Nat.gcd m n:=by rw [Nat.gcd_comm n,← Nat.gcd_rec,Nat.gcd_comm]
theorem abs_nat (a:Int):(if a < 0 then -a else a) = (a.natAbs:Int):=by split <;> omega
def lowG (a b:Int):Int:=if b < 0 then 0 - (Int.gcd a b:Int) else (Int.gcd a b:Int)
theorem gcd_pos {a b:Int} (h:b ≠ 0):0 < Int.gcd a b:=Nat.gcd_pos_of_pos_right _ (Int.natAbs_pos.mpr h)
theorem gcd_mid {a b:Int} (h:b ≠ 0) (m:Mid b):Int.gcd a b < 2 ^ 2048:=Nat.lt_of_le_of_lt (Nat.gcd_le_right _ (Int.natAbs_pos.mpr h)) m
theorem lowG_ok {a b:Int} (h:b ≠ 0) (m:Mid b):CDivM 0 (lowG a b):=by
  have h1:=gcd_pos (a:=a) h
  have h2:=gcd_mid (a:=a) h m
  unfold lowG
  refine ⟨by split <;> omega,?_⟩
  unfold Mid
  split
  · rw [show (0 - (Int.gcd a b:Int)).natAbs = Int.gcd a b by omega]; exact h2
  · rw [Int.natAbs_natCast]; exact h2
theorem Mid.of_lt {i:Int} (h1:-(10 ^ 70) < i) (h2:i < 10 ^ 70):Mid i:=by
  have h3:i.natAbs < 2 ^ 240:=by omega
  exact Nat.lt_of_lt_of_le h3 (Nat.pow_le_pow_right (by decide) (by decide))
def spWhole:Sp:=fun vs H Q _=>∃ v:V,vs = [v]∧Any H v∧Q (.bl (isIntV v)) H
def spGcd:Sp:=fun vs H Q _=>∃ a b:Int,vs = [.int a,.int b]∧Mid b∧Q (.int (Int.gcd a b:Int)) H
def spPrime:Sp:=fun vs H Q _=>∃ n:Int,vs = [.int n]∧2 ≤ n∧n ≤ 997∧Q (.bl (primeB n)) H
def spIsF:Sp:=fun vs H Q _=>∃ (p:Addr) (d:Td),vs = [.ref p]∧H p = some (.tup d.vs)∧Q (.bl d.isF) H
def spIsW:Sp:=fun vs H Q _=>∃ (p:Addr) (d:Td),vs = [.ref p]∧H p = some (.tup d.vs)∧Q (.bl d.isW) H
def spInit (C N:Addr):Sp:=fun vs H Q E=>∃ (x dx p:Addr) (d:Td),vs = [.ref x,.ref p]∧H x = some (.ins C dx [])∧H p = some (.tup d.vs)∧
  (d.good = true→Q .non (upd H x (.ins C dx [("prime",d.prime)])))∧(d.good = false→E (.ref N) none H)
def WorldAt (C:Addr) (H:Hp) (x:Addr) (q:Int):Prop:=∃ dx,H x = some (.ins C dx [("prime",if q = 0 then .non else .int q)])
theorem WorldAt.mono {C:Addr} {H H':Hp} {x:Addr} {q:Int} (h:WorldAt C H x q) (s:Same H H'):WorldAt C H' x q:=by
  obtain ⟨dx,e⟩:=h
  exact ⟨dx,s _ _ e⟩
def spLow:Sp:=fun vs H Q _=>∃ a b:Int,vs = [.int a,.int b]∧b ≠ 0∧Mid b∧∀ (q:Addr) (H':Hp),Same H H'→H' q = some (.tup [.int (a.fdiv (lowG a b)),.int (b.fdiv (lowG a b))])→Q (.ref q) H'
def spLaw (K:PySem.W.Frag):Sp:=fun vs H Q _=>∃ (a:Addr) (ns:List Int),vs = [.ref a]∧SqL K H a (ns.map V.int)∧ns.length ≤ 63∧∀ H',Q (.bl true) H'
end My
namespace My
theorem pos_part {u v:Int} (hu:0 < u) (h:0 < u * v):0 < v:=by
  by_cases z:0 < v
  · exact z
  · have y:=Int.mul_le_mul_of_nonneg_left (show v ≤ 0 by omega) (show 0 ≤ u by omega)
    rw [Int.mul_zero] at y
    omega
theorem cop_of {a b:Int} (h:∀ d:Nat,(d:Int) ∣ a→(d:Int) ∣ b→d = 1):Int.gcd a b = 1:=h _ (Int.gcd_dvd_left ..) (Int.gcd_dvd_right ..)
theorem cop_dvd {a b:Int} (h:Int.gcd a b = 1) {d:Nat} (h1:(d:Int) ∣ a) (h2:(d:Int) ∣ b):d = 1:=by
  have z:(d:Int) ∣ ((Int.gcd a b:Nat):Int):=Int.dvd_coe_gcd h1 h2
  rw [h] at z
  exact Nat.dvd_one.mp (Int.natCast_dvd_natCast.mp z)
theorem cut_dvd {a b c:Int} {d:Nat} (h:Int.gcd b c = 1) (h1:(d:Int) ∣ b) (h2:(d:Int) ∣ a * c):(d:Int) ∣ a:=by
  have hc:Nat.Coprime d c.natAbs:=by
    have z:Nat.Coprime b.natAbs c.natAbs:=h
    exact Nat.Coprime.coprime_dvd_left (Int.ofNat_dvd_left.mp h1) z
  have z:d ∣ a.natAbs * c.natAbs:=by
    rw [← Int.natAbs_mul]
    exact Int.ofNat_dvd_left.mp h2
  exact Int.ofNat_dvd_left.mpr (hc.dvd_of_dvd_mul_right z)
theorem cop_mul {a b c:Int} (h1:Int.gcd a b = 1) (h2:Int.gcd a c = 1):Int.gcd a (b * c) = 1:=by
  refine cop_of fun d x y=>?_
  exact cop_dvd h1 x (cut_dvd (a:=b) (b:=a) (c:=c) h2 x y)
theorem cop_comm {a b:Int} (h:Int.gcd a b = 1):Int.gcd b a = 1:=by rw [Int.gcd_comm]; exact h
theorem cop_over {a b:Int} (h:b ≠ 0):Int.gcd (a / (Int.gcd a b:Int)) (b / (Int.gcd a b:Int)) = 1:=by
  have z:0 < Int.gcd a b:=Nat.gcd_pos_of_pos_right _ (Int.natAbs_pos.mpr h)
  exact Int.gcd_ediv_gcd_ediv_gcd z
structure Low (x m:Int):Prop where
  pos:1 ≤ m
  cop:Int.gcd x m = 1
end My
namespace My
open PySem L2
def Big (x:Int):Prop:=x.natAbs ≤ 10 ^ 300
theorem pow300:(10:Nat) ^ 300 < 2 ^ 2048:=by decide +kernel
def spArith (C:Addr) (fr:Int→Int→Int→Int→Int) (rm:Int→Int→Int):Sp:=fun vs H Q _=>∃ (z:Addr) (q:Int) (v u:V),vs = [.ref z,v,u]∧WorldAt C H z q∧
  ((q = 0∧∃ (p r:Addr) (x m y n:Int),v = .ref p∧u = .ref r∧H p = some (.tup [.int x,.int m])∧H r = some (.tup [.int y,.int n])∧Low x m∧Low y n∧Big x∧Big m∧Big y∧Big n∧
    ∀ (r':Addr) (H':Hp) (a d:Int),Same H H'→H' r' = some (.tup [.int a,.int d])→Low a d→a * (m * n) = fr x m y n * d→Q (.ref r') H') ∨
   (2 ≤ q∧∃ i j:Int,v = .int i∧u = .int j∧0 ≤ i∧i < 1000∧Q (.int (rm i j % q)) H))
def WheelN (p:Int):Prop:=p = 0 ∨ (2 ≤ p∧p ≤ 997∧primeB p = true)
inductive NumAt (B:Nat) (H:Hp):Int→V→Int→Int→Prop where
  | frac {p:Addr} {x m:Int} (e:H p = some (.tup [.int x,.int m])) (l:Low x m) (bx:x.natAbs ≤ B) (bm:m.natAbs ≤ B):NumAt B H 0 (.ref p) x m
  | rem {q i:Int} (h0:0 ≤ i) (h1:i < q) (h2:q ≤ 997):NumAt B H q (.int i) i 1
theorem NumAt.mono {B:Nat} {H H':Hp} {q:Int} {v:V} {x m:Int} (h:NumAt B H q v x m) (s:Same H H'):NumAt B H' q v x m:=by
  cases h with
  | frac e l bx bm=>exact .frac (s _ _ e) l bx bm
  | rem h0 h1 h2=>exact .rem h0 h1 h2
theorem low_of {a b:Int} (h:1 ≤ b):∃ u d:Int,a.fdiv (lowG a b) = u∧b.fdiv (lowG a b) = d∧Low u d∧u.natAbs ≤ a.natAbs∧d.natAbs ≤ b.natAbs:=by
  have hp:=gcd_pos (a:=a) (b:=b) (by omega)
  have e:lowG a b = (Int.gcd a b:Int):=by unfold lowG; rw [if_neg (by omega)]
  rw [e]
  refine ⟨a / (Int.gcd a b:Int),b / (Int.gcd a b:Int),Int.fdiv_eq_ediv_of_nonneg _ (by omega),Int.fdiv_eq_ediv_of_nonneg _ (by omega),⟨?_,cop_over (by omega)⟩,Int.natAbs_ediv_le_natAbs ..,Int.natAbs_ediv_le_natAbs ..⟩
  obtain ⟨b',eb⟩:=Int.gcd_dvd_right (a:=a) (b:=b)
  have z : b / (Int.gcd a b : Int) = b' := by conv => lhs; lhs; rw [eb]
                                              exact Int.mul_ediv_cancel_left _ (by omega)
  rw [z]
  exact pos_part (u:=(Int.gcd a b:Int)) (by omega) (by rw [← eb]; omega)
theorem low_le {u d T B:Int} (l:Low u d) (hB:0 < B) (e:u * B = T * d):d ≤ B∧u.natAbs ≤ T.natAbs:=by
  have h0:=l.pos
  have hd:d ∣ B:=by
    have z:((d.natAbs:Nat):Int) ∣ B:=cut_dvd (a:=B) (b:=d) (c:=u) (cop_comm l.cop) (Int.natAbs_dvd.mpr (Int.dvd_refl d)) ⟨T * (d / (d.natAbs:Int)),by
      have q:(d.natAbs:Int) = d:=by omega
      rw [q,Int.ediv_self (by omega),Int.mul_one,Int.mul_comm B u,e,Int.mul_comm]⟩
    exact Int.natAbs_dvd.mp z
  have hle:=Int.le_of_dvd hB hd
  refine ⟨hle,?_⟩
  have z:u.natAbs * B.natAbs = T.natAbs * d.natAbs:=by rw [← Int.natAbs_mul,e,Int.natAbs_mul]
  have z2:T.natAbs * d.natAbs ≤ T.natAbs * B.natAbs:=Nat.mul_le_mul_left _ (by omega)
  rw [← z] at z2
  exact Nat.le_of_mul_le_mul_right z2 (by omega)
end My
namespace My
theorem prime_cop {q b:Int} (h1:2 ≤ q) (h2:q ≤ 997) (hp:primeB q = true) (b1:1 ≤ b) (b2:b < q):Int.gcd q b = 1:=by
  have gp:0 < Int.gcd q b:=Nat.gcd_pos_of_pos_right _ (Int.natAbs_pos.mpr (by omega))
  by_cases g1:Int.gcd q b = 1
  · exact g1
  exfalso
  obtain ⟨k,ek⟩:=Int.gcd_dvd_left (a:=q) (b:=b)
  have hb:=Int.le_of_dvd (by omega) (Int.gcd_dvd_right (a:=q) (b:=b))
  generalize Int.gcd q b = g at *
  have kp:0 < k:=pos_part (u:=(g:Int)) (by omega) (by rw [← ek]; omega)
  have k2:k ≠ 1:=fun z=>by
    rw [z,Int.mul_one] at ek
    omega
  have no:∀ d:Int,2 ≤ d→d * d ≤ q→q % d = 0→False:=fun d x y z=>by
    rw [primeB_no h2 x y z] at hp
    cases hp
  by_cases c:(g:Int) ≤ k
  · exact no g (by omega) (by rw [ek]; exact Int.mul_le_mul_of_nonneg_left c (by omega)) (by rw [ek]; exact Int.mul_emod_right ..)
  · exact no k (by omega) (by rw [ek]; exact Int.mul_le_mul_of_nonneg_right (by omega) (by omega)) (by rw [ek]; exact Int.mul_emod_left ..)
structure Bond (q b last lt now nt:Int):Prop where
  l:∃ s,last = lt * b + s * q
  n:∃ s,now = nt * b + s * q
  cop:Int.gcd last now = 1
  pos:1 ≤ now
  less:now ≤ last
theorem Bond.step {q b last lt now nt:Int} (h:Bond q b last lt now nt) (h1:1 < now):Bond q b now nt (last - last / now * now) (lt - last / now * nt)∧last - last / now * now < now:=by
  obtain ⟨⟨s,es⟩,⟨r,er⟩,c,p,le⟩:=h
  have e:last - last / now * now = last % now:=by
    have z:=Int.emod_add_mul_ediv last now
    rw [Int.mul_comm] at z
    omega
  have lt1:=Int.emod_lt_of_pos last (show 0 < now by omega)
  have ge:=Int.emod_nonneg last (show now ≠ 0 by omega)
  have c':Int.gcd now (last % now) = 1:=cop_of fun d x y=>cop_dvd c (by
    have z:=Int.emod_add_mul_ediv last now
    rw [← z]
    exact Int.dvd_add y (Int.dvd_trans x (Int.dvd_mul_right ..))) x
  have nz:last % now ≠ 0:=fun z=>by
    rw [z,Int.gcd_zero_right] at c'
    omega
  refine ⟨⟨⟨r,er⟩,⟨s - last / now * r,?_⟩,by rw [e]; exact c',by omega,by omega⟩,by omega⟩
  generalize last / now = f
  rw [es,er,Int.sub_mul,Int.sub_mul,Int.mul_add,Int.mul_assoc,Int.mul_assoc]
  omega
theorem Bond.done {q b last lt nt:Int} (h:Bond q b last lt 1 nt) (hq:2 ≤ q):(nt % q * b) % q = 1:=by
  obtain ⟨s,e⟩:=h.n
  have z:nt * b = 1 + (-s) * q:=by rw [Int.neg_mul]; omega
  have y:nt % q * b % q = nt * b % q:=by rw [Int.mul_emod (nt % q) b,Int.emod_emod,← Int.mul_emod]
  rw [y,z,Int.add_mul_emod_self_right]
  exact Int.emod_eq_of_lt (by omega) (by omega)
theorem Bond.start {q b:Int} (h1:2 ≤ q) (h2:q ≤ 997) (hp:primeB q = true) (b1:1 ≤ b) (b2:b < q):Bond q b q 0 b 1:=
  ⟨⟨1,by omega⟩,⟨0,by omega⟩,prime_cop h1 h2 hp b1 b2,b1,by omega⟩
end My
namespace L2
open PySem PySem.Spec PyProof.Rows
def rEqM (K:PySem.W.Frag):R2:=fun x y H Q=>(∃ a xs i,x = .ref a∧y = .int i∧SqT K H a xs∧Q (.bl false) H) ∨ (∃ a xs i,x = .int i∧y = .ref a∧SqT K H a xs∧Q (.bl false) H) ∨ rEqT K false x y H Q ∨ rEq x y H Q
theorem op_eqM {X:Cx} (hu:X.A.units < cLine):OpR X (compareOp .Eq) (rEqM X.K):=by
  intro pins s σ H x y v u Q I rx ry h
  rcases h with ⟨a,xs,i,rfl,rfl,h1,q⟩ | ⟨a,xs,i,rfl,rfl,h1,q⟩ | h | h
  · cases rx
    obtain ⟨t,rfl⟩:=ry
    obtain ⟨us,r1,t1,_⟩:=I.tuple h1
    exact SeqAt.RcAt.tuple_int i t t1 hu _ _ _ _ ⟨.bl false,H,I,rfl,q⟩
  · cases ry
    obtain ⟨t,rfl⟩:=rx
    obtain ⟨us,r1,t1,_⟩:=I.tuple h1
    exact SeqAt.RcAt.int_tuple i t t1 hu _ _ _ _ ⟨.bl false,H,I,rfl,q⟩
  · exact op_eqT hu pins s σ H x y v u Q I rx ry h
  · exact op_eq pins s σ H x y v u Q I rx ry h
end L2
namespace My
open PySem L2
def spBack (N:Addr):Sp:=fun vs H Q E=>∃ q b:Int,vs = [.int q,.int b]∧2 ≤ q∧q ≤ 997∧primeB q = true∧0 ≤ b∧b < q∧(b = 0→E (.ref N) none H)∧(b ≠ 0→∀ r:Int,0 ≤ r→r < q→(r * b) % q = 1→Q (.int r) H)
def spRemOver (N:Addr):Sp:=fun vs H Q E=>∃ q i j:Int,vs = [.int q,.int i,.int j]∧2 ≤ q∧q ≤ 997∧primeB q = true∧0 ≤ i∧i < q∧0 ≤ j∧j < q∧(j = 0→E (.ref N) none H)∧(j ≠ 0→∀ r:Int,0 ≤ r→r < q→(r * j) % q = i→Q (.int r) H)
theorem rem_over {q i j r:Int} (hq:2 ≤ q) (i0:0 ≤ i) (i1:i < q) (h:(r * j) % q = 1):(i * r % q * j) % q = i:=by
  have y:i * r % q * j % q = i * (r * j) % q:=by rw [Int.mul_emod (i * r % q) j,Int.emod_emod,← Int.mul_emod,Int.mul_assoc]
  rw [y,Int.mul_emod,h,Int.emod_eq_of_lt i0 i1,Int.mul_one,Int.emod_eq_of_lt i0 i1]
end My
namespace L2
open PySem PySem.Spec PyProof.Rows
structure FunD (K:PySem.W.Frag) (x qual:Str) (st:Stmt) (i:Int) (f:Addr) (fd:FuncData):Prop where
  ex:∃ (oc:Value) (od:Option Addr) (kV doc pm:Value) (an:Option Addr) (cdv ct:Value) (osl:Array (Option Value)) (dT:Addr) (tk:Tok) (oc':Value) (od':Option Addr) (n:Nat) (osl':Array (Option Value)),
    fd = PySem.W.fnOf x qual (defArgs st) (defBody st) (defScope st) (.ref dT) kV doc pm an cdv ct∧K.lookup f = some ⟨oc,od,.func fd,osl⟩∧PySem.W.codeIn K cdv qual = true∧K.lookup dT = some ⟨oc',od',.seq #[.int i tk] n,osl'⟩
  kp:PySem.W.keepIn K (.ref f) = true
section
variable {P:Program} {w:World} {K:PySem.W.Frag} {mg:Str→Option Value} {base:Heap}
theorem FunD.okX {x qual:Str} {st:Stmt} {i:Int} {f:Addr} {fd:FuncData} {N ps:List Str} {k:Nat} {sp:Sp} (F:FunD K x qual st i f fd) (S:FnScope N ps (defScope st)) (len:∀ vs H Q E,sp vs H Q E→vs.length = ps.length)
    (hbody:∀ (cdv:Value) (A:Around) (outer:List Env) (s:Shared) (H:Hp) (vs:List V) (Q:VK) (E:XK),Room k (A.deeper (envOfC qual (defScope st) s.heap.objs.size f cdv))→sp vs H Q E→
      Leaves (cxOf (CXF P w) P w K mg base N qual (defScope st) f cdv A outer s H E) E→
      ∃ t,PSs (cxOf (CXF P w) P w K mg base N qual (defScope st) f cdv A outer s H E) (defBody st) t∧t { nx:=fun _ H'=>Q .non H',rt:=Q } (start N vs) H):FnOk P w K mg base (CXF P w) (k + 1) f fd ps sp:=by
  obtain ⟨oc,od,kV,doc,pm,an,cdv,ct,osl,dT,tk,oc',od',n,osl',rfl,lk,hcd,ld⟩:=F.ex
  exact fn_of lk hcd S len fun A outer s H vs Q E hr hsp=>hbody cdv A outer s H vs Q E hr hsp ⟨rfl,rfl,rfl,rfl⟩
theorem fund_mk {x qual:Str} {st:Stmt} {i:Int} {f dT:Addr} {oc:Value} {od an:Option Addr} {osl:Array (Option Value)} {kV doc pm cdv ct:Value} {tk:Tok} {oc':Value} {od':Option Addr} {n:Nat} {osl':Array (Option Value)}
    (l:K.lookup f = some ⟨oc,od,.func (PySem.W.fnOf x qual (defArgs st) (defBody st) (defScope st) (.ref dT) kV doc pm an cdv ct),osl⟩)
    (c:PySem.W.codeIn K cdv qual = true) (k:PySem.W.keepIn K (.ref f) = true) (ld:K.lookup dT = some ⟨oc',od',.seq #[.int i tk] n,osl'⟩):FunD K x qual st i f (PySem.W.fnOf x qual (defArgs st) (defBody st) (defScope st) (.ref dT) kV doc pm an cdv ct):=
  ⟨⟨oc,od,kV,doc,pm,an,cdv,ct,osl,dT,tk,oc',od',n,osl',rfl,l,c,ld⟩,k⟩
theorem FunD.binds {x qual:Str} {st:Stmt} {i:Int} {f:Addr} {fd:FuncData} {ps:List Str} (F:FunD K x qual st i f fd)
    (h:∀ (s:Shared) (dT:Addr) (kV doc pm:Value) (an:Option Addr) (cdv ct:Value) (tk:Tok) (o:Obj) (n:Nat) (us:List Value),s.heap.get? dT = some o→o.data = .seq #[.int i tk] n→us.length = ps.length→
      BindsTo s (PySem.W.fnOf x qual (defArgs st) (defBody st) (defScope st) (.ref dT) kV doc pm an cdv ct) ⟨us,[]⟩ (ps.zip us)):Binds K fd ps []:=by
  obtain ⟨oc,od,kV,doc,pm,an,cdv,ct,osl,dT,tk,oc',od',n,osl',rfl,lk,hcd,ld⟩:=F.ex
  intro s us X hl
  rw [List.append_nil] at hl ⊢
  exact h s dT kV doc pm an cdv ct tk _ n us (X _ _ ld) rfl hl
theorem FunD.binds1 {x qual:Str} {st:Stmt} {i:Int} {f:Addr} {fd:FuncData} {ps:List Str} (F:FunD K x qual st i f fd)
    (h:∀ (s:Shared) (dT:Addr) (kV doc pm:Value) (an:Option Addr) (cdv ct:Value) (tk:Tok) (o:Obj) (n:Nat) (us:List Value),s.heap.get? dT = some o→o.data = .seq #[.int i tk] n→us.length + 1 = ps.length→
      BindsTo s (PySem.W.fnOf x qual (defArgs st) (defBody st) (defScope st) (.ref dT) kV doc pm an cdv ct) ⟨us,[]⟩ (ps.zip (us ++ [.int i tk]))):∃ v,Vals [V.int i] [v]∧Binds K fd ps [v]:=by
  obtain ⟨oc,od,kV,doc,pm,an,cdv,ct,osl,dT,tk,oc',od',n,osl',rfl,lk,hcd,ld⟩:=F.ex
  refine ⟨.int i tk,.cons ⟨tk,rfl⟩ .nil,fun s us X hl=>?_⟩
  exact h s dT kV doc pm an cdv ct tk _ n us (X _ _ ld) rfl (by simpa using hl)
theorem FunD.bindsK {x qual:Str} {st:Stmt} {i:Int} {f:Addr} {fd:FuncData} {ps:List Str} {y:Str} (F:FunD K x qual st i f fd)
    (h:∀ (s:Shared) (dT:Addr) (kV doc pm:Value) (an:Option Addr) (cdv ct:Value) (tk:Tok) (o:Obj) (n:Nat) (us ws:List Value),s.heap.get? dT = some o→o.data = .seq #[.int i tk] n→ws.length = 1→us.length + 1 = ps.length→
      BindsTo s (PySem.W.fnOf x qual (defArgs st) (defBody st) (defScope st) (.ref dT) kV doc pm an cdv ct) ⟨us,[y].zip ws⟩ (ps.zip (us ++ ws))) :
    ∀ (s:Shared) (us ws:List Value),K.In s.heap→ws.length = 1→us.length + 1 = ps.length→BindsTo s fd ⟨us,[y].zip ws⟩ (ps.zip (us ++ ws)):=by
  obtain ⟨oc,od,kV,doc,pm,an,cdv,ct,osl,dT,tk,oc',od',n,osl',rfl,lk,hcd,ld⟩:=F.ex
  intro s us ws X hw hl
  exact h s dT kV doc pm an cdv ct tk _ n us ws (X _ _ ld) rfl hw hl
end
section
variable {X:Cx} {CX:CXT} {k:Nat} {f C:Addr} {fd:FuncData} {ps:List Str} {y:Str} {sp:Sp} {E:XK} {m:Str} {pos apos kpos:Pos} {e e' o:Expr} {ta:TE} {t tk:TA}
end
end L2
namespace My
open PySem L2
def lowU (a b:Int):Int:=a.fdiv (lowG a b)
def lowD (a b:Int):Int:=b.fdiv (lowG a b)
theorem low_fd {a b:Int} (hb:b ≠ 0):Low (lowU a b) (lowD a b)∧lowU a b * b = a * lowD a b∧(lowU a b).natAbs ≤ a.natAbs∧(lowD a b).natAbs ≤ b.natAbs:=by
  have gp:=gcd_pos (a:=a) hb
  have c:=cop_over (a:=a) hb
  obtain ⟨a',ea⟩:=Int.gcd_dvd_left (a:=a) (b:=b)
  obtain ⟨b',eb⟩:=Int.gcd_dvd_right (a:=a) (b:=b)
  unfold lowU lowD lowG
  generalize Int.gcd a b = g at *
  have g0:(g:Int) ≠ 0:=by omega
  have ga:a / (g:Int) = a':=by rw [ea]; exact Int.mul_ediv_cancel_left _ g0
  have gb:b / (g:Int) = b':=by rw [eb]; exact Int.mul_ediv_cancel_left _ g0
  rw [ga,gb] at c
  have la:a'.natAbs ≤ a.natAbs:=by rw [← ga]; exact Int.natAbs_ediv_le_natAbs ..
  have lb:b'.natAbs ≤ b.natAbs:=by rw [← gb]; exact Int.natAbs_ediv_le_natAbs ..
  have cr:a' * b = a * b':=by rw [ea,eb]; simp only [Int.mul_assoc,Int.mul_comm,Int.mul_left_comm]
  by_cases h:b < 0
  · have d1:(0 - (g:Int)) ∣ a:=⟨-a',by rw [ea,Int.zero_sub,Int.neg_mul_neg]⟩
    have d2:(0 - (g:Int)) ∣ b:=⟨-b',by rw [eb,Int.zero_sub,Int.neg_mul_neg]⟩
    rw [if_pos h,Int.fdiv_eq_ediv_of_dvd d1,Int.fdiv_eq_ediv_of_dvd d2,Int.zero_sub,Int.ediv_neg,Int.ediv_neg,ga,gb]
    refine ⟨⟨?_,by rw [Int.neg_gcd,Int.gcd_neg]; exact c⟩,?_,?_,?_⟩
    · have z:0 < -b':=pos_part (u:=(g:Int)) (by omega) (by rw [Int.mul_neg,← eb]; omega)
      omega
    · rw [Int.neg_mul,Int.mul_neg,cr]
    · rw [Int.natAbs_neg]; exact la
    · rw [Int.natAbs_neg]; exact lb
  · rw [if_neg h,Int.fdiv_eq_ediv_of_dvd ⟨a',ea⟩,Int.fdiv_eq_ediv_of_dvd ⟨b',eb⟩,ga,gb]
    have z:0 < b':=pos_part (u:=(g:Int)) (by omega) (by rw [← eb]; omega)
    exact ⟨⟨by omega,c⟩,cr,la,lb⟩
def spRatio (N:Addr):Sp:=fun vs H Q E=>∃ a b:Int,vs = [.int a,.int b]∧Mid b∧(b = 0→E (.ref N) none H)∧(b ≠ 0→∀ (r:Addr) (H':Hp),Same H H'→H' r = some (.tup [.int (lowU a b),.int (lowD a b)])→Q (.ref r) H')
def NoOv (q b:Int):Prop:=if q = 0 then b = 0 else b % q = 0
def OfAt (H:Hp) (q:Int) (v:V) (a b:Int):Prop:=
  (q = 0∧∃ r:Addr,v = .ref r∧H r = some (.tup [.int (lowU a b),.int (lowD a b)])) ∨ (2 ≤ q∧∃ r:Int,v = .int r∧0 ≤ r∧r < q∧(r * (b % q)) % q = a % q)
def spOf (C N:Addr):Sp:=fun vs H Q E=>∃ (z:Addr) (q a b:Int),vs = [.ref z,.int a,.int b]∧WorldAt C H z q∧WheelN q∧Mid b∧
  (NoOv q b→E (.ref N) none H)∧(¬ NoOv q b→∀ (v:V) (H':Hp),Same H H'→OfAt H' q v a b→Q v H')
end My
namespace L2
open PySem PySem.Spec PyProof.Rows
section
variable {X:Cx}
end
end L2
namespace My
open PySem L2
inductive IsN (H:Hp):Int→V→Int→Int→Prop where
  | frac {p:Addr} {u d t b:Int} (e:H p = some (.tup [.int u,.int d])) (l:Low u d) (hb:b ≠ 0) (h:u * b = t * d):IsN H 0 (.ref p) t b
  | rem {q r t b:Int} (q2:2 ≤ q) (h0:0 ≤ r) (h1:r < q) (g:Int.gcd q b = 1) (h:q ∣ r * b - t):IsN H q (.int r) t b
theorem NumAt.isN {B:Nat} {H:Hp} {q:Int} {v:V} {x m:Int} (h:NumAt B H q v x m) (hq:WheelN q):IsN H q v x m:=by
  cases h with
  | frac e l bx bm=>exact .frac e l (by have:=l.pos; omega) rfl
  | rem h0 h1 h2=>
    have q2:2 ≤ q:=(hq.resolve_left (by omega)).1
    exact .rem q2 h0 h1 (by rw [Int.gcd_one_right]) ⟨0,by omega⟩
theorem can_bd {u d t b:Int} (l:Low u d) (hb:b ≠ 0) (e:u * b = t * d):u.natAbs ≤ t.natAbs∧d.natAbs ≤ b.natAbs:=by
  have h3:=l.pos
  by_cases c:0 < b
  · obtain ⟨z1,z2⟩:=low_le l c e
    omega
  · have e':u * (-b) = (-t) * d:=by rw [Int.mul_neg,e,Int.neg_mul]
    obtain ⟨z1,z2⟩:=low_le l (show 0 < -b by omega) e'
    omega
theorem mul_cancel {a b c:Int} (h:c ≠ 0) (e:a * c = b * c):a = b:=Int.eq_of_mul_eq_mul_right h e
theorem cop_cong {q c t:Int} (h:Int.gcd q c = 1) (d:q ∣ c - t):Int.gcd q t = 1:=by
  refine cop_of fun e h1 h2=>cop_dvd h h1 ?_
  have z:=Int.dvd_add (Int.dvd_trans h1 d) h2
  rw [show c - t + t = c by omega] at z
  exact z
theorem dvd_cop {q a c:Int} (q2:2 ≤ q) (g:Int.gcd q c = 1) (d:q ∣ a * c):q ∣ a:=by
  have qq:((q.natAbs:Nat):Int) = q:=by omega
  have z:=cut_dvd (a:=a) (b:=q) (c:=c) (d:=q.natAbs) g (by rw [qq]; exact Int.dvd_refl q) (by rw [qq]; exact d)
  rw [qq] at z
  exact z
theorem mod_wit (a q:Int):∃ w,a % q + q * w = a:=⟨a / q,Int.emod_add_mul_ediv a q⟩
section
variable {C N z:Addr} {q:Int} {v u:V} {t b t' b':Int} {H:Hp} {Q:VK} {E:XK}
theorem plus_is (hw:WorldAt C H z q) (hq:WheelN q) (hv:IsN H q v t b) (hu:IsN H q u t' b') (b1:Big t) (b2:Big b) (b3:Big t') (b4:Big b')
    (k:∀ (v':V) (H':Hp),Same H H'→IsN H' q v' (t * b' + t' * b) (b * b')→Q v' H'):spArith C (fun x m y n=>x * n + y * m) (fun i j=>i + j) [.ref z,v,u] H Q E:=by
  refine ⟨z,q,v,u,rfl,hw,?_⟩
  cases hv with
  | frac e l hb h=>
    cases hu with
    | frac e' l' hb' h'=>
      rename_i p x m p' y n
      obtain ⟨c1,c2⟩:=can_bd l hb h
      obtain ⟨c3,c4⟩:=can_bd l' hb' h'
      refine .inl ⟨rfl,_,_,x,m,y,n,rfl,rfl,e,e',l,l',Nat.le_trans c1 b1,Nat.le_trans c2 b2,Nat.le_trans c3 b3,Nat.le_trans c4 b4,fun r' H' a d s' er la ea=>k _ H' s' (.frac er la (Int.mul_ne_zero hb hb') ?_)⟩
      have m0:=l.pos
      have n0:=l'.pos
      refine mul_cancel (c:=m * n) (Int.mul_ne_zero (by omega) (by omega)) ?_
      grind
    | rem q2 h0 h1 g h=>omega
  | rem q2 h0 h1 g h=>
    cases hu with
    | frac e' l' hb' h'=>omega
    | rem q2' h0' h1' g' h'=>
      rename_i i j
      have q3:q ≤ 997:=(hq.resolve_left (by omega)).2.1
      refine .inr ⟨q2,i,j,rfl,rfl,h0,by omega,k _ H (Same.refl H) (.rem q2 (Int.emod_nonneg _ (by omega)) (Int.emod_lt_of_pos _ (by omega)) (cop_mul g g') ?_)⟩
      obtain ⟨k1,e1⟩:=h
      obtain ⟨k2,e2⟩:=h'
      obtain ⟨w,ew⟩:=mod_wit (i + j) q
      exact ⟨k1 * b' + k2 * b - w * (b * b'),by grind⟩
theorem no_ov {b:Int} (nz:¬ q ∣ b):¬ NoOv q b:=fun h=>nz (by
    unfold NoOv at h
    by_cases z:q = 0
    · rw [if_pos z] at h; rw [h]; exact Int.dvd_zero q
    · rw [if_neg z] at h; exact Int.dvd_of_emod_eq_zero h)
theorem low_same {u d u' d':Int} (l:Low u d) (l':Low u' d') (e:u * d' = u' * d):u = u'∧d = d':=by
  have h1:=l.pos
  have h2:=l'.pos
  have a:=(low_le l (show 0 < d' by omega) e).1
  have c:=(low_le l' (show 0 < d by omega) e.symm).1
  have dd:d = d':=by omega
  subst dd
  exact ⟨mul_cancel (show d ≠ 0 by omega) e,rfl⟩
theorem isN_alike (hv:IsN H q v t b) (hu:IsN H q u t' b') (e:t * b' = t' * b) :
    (∃ p p' x m,v = .ref p∧u = .ref p'∧H p = some (.tup [.int x,.int m])∧H p' = some (.tup [.int x,.int m])) ∨ (∃ i:Int,v = .int i∧u = .int i):=by
  cases hv with
  | frac e1 l hb h=>
    cases hu with
    | frac e2 l' hb' h'=>
      rename_i p x m p' y n
      have z:x * n = y * m:=by
        refine mul_cancel (c:=b * b') (Int.mul_ne_zero hb hb') ?_
        grind
      obtain ⟨rfl,rfl⟩:=low_same l l' z
      exact .inl ⟨_,_,_,_,rfl,rfl,e1,e2⟩
    | rem q2 h0 h1 g h=>omega
  | rem q2 h0 h1 g h=>
    cases hu with
    | frac e' l' hb' h'=>omega
    | rem q2' h0' h1' g' h'=>
      rename_i i j
      have d:q ∣ (i - j) * (b * b'):=by
        obtain ⟨k1,e1⟩:=h
        obtain ⟨k2,e2⟩:=h'
        exact ⟨k1 * b' - k2 * b,by grind⟩
      have d2:=dvd_cop q2 (cop_mul g g') d
      have ij:i = j:=by
        obtain ⟨k,ek⟩:=d2
        by_cases z:k = 0
        · rw [z,Int.mul_zero] at ek; omega
        · exfalso
          rcases Int.lt_or_gt_of_ne z with z | z
          · have:=Int.mul_le_mul_of_nonneg_left (show k ≤ -1 by omega) (show 0 ≤ q by omega)
            omega
          · have:=Int.mul_le_mul_of_nonneg_left (show 1 ≤ k by omega) (show 0 ≤ q by omega)
            omega
      subst ij
      exact .inr ⟨_,rfl,rfl⟩
theorem eqL_self (x m:Int):eqL [V.int x,V.int m] [V.int x,V.int m] = true:=by
  show ((x == x) && ((m == m) && true)) = true
  simp
end
theorem NumAt.far {B:Nat} {H H':Hp} {q:Int} {v:V} {x m:Int} {D:Addr} {ys:List V} (h:NumAt B H q v x m) (eD:H D = some (.lst ys)) (k:∀ b o,b ≠ D→H b = some o→H' b = some o):NumAt B H' q v x m:=by
  cases h with
  | frac e l bx bm=>
    refine .frac (k _ _ (fun z=>?_) e) l bx bm
    rw [z,eD] at e
    cases e
  | rem h0 h1 h2=>exact .rem h0 h1 h2
end My
namespace L2
open PySem PySem.Spec PyProof.Rows
structure JSeq (J:It) (xs:List V) (H1:Hp):Prop where
  go:∀ i Hc,Same H1 Hc→i < xs.length→J.go i Hc
  yld:∀ i Hc x H',Same H1 Hc→J.yld i Hc x H'→H' = Hc∧(i < xs.length→xs[i]? = some x)
  stop:∀ i Hc,Same H1 Hc→xs.length ≤ i→J.stop i Hc
theorem jseq_list {K:PySem.W.Frag} {a:Addr} {xs:List V} {H1:Hp} (h:SqL K H1 a xs):JSeq (Itl K a) xs H1 where
  go:=fun i Hc s hi=>⟨xs,xs[i],s.seq h,by simp [hi]⟩
  yld:=fun i Hc x H' s y=>⟨y.1,fun _=>y.2 xs (s.seq h)⟩
  stop:=fun i Hc s hi=>⟨xs,s.seq h,hi⟩
theorem jseq_rng {lo:Int} {n:Nat} {H1:Hp}:JSeq (Itr lo n) ((List.range n).map fun i:Nat=>V.int (lo + (i:Int))) H1 where
  go:=fun i Hc s hi=>by
    have hi:i < n:=by simpa using hi
    exact hi
  yld:=fun i Hc x H' s y=>⟨y.1,fun hi=>by
    have hi:i < n:=by simpa using hi
    rw [y.2]
    simp [hi]⟩
  stop:=fun i Hc s hi=>by
    have hi:n ≤ i:=by simpa using hi
    exact hi
theorem same_but {H H':Hp} {D:Addr} {o:HO} (s:Same H H') (n:H D = none):Same H (upd H' D o):=fun b u e=>by
  rw [upd_ne (ne_of_none e n)]
  exact s b u e
theorem comp_seq {J:It} {xs:List V} {H1:Hp} {ρσ:St} {te:TE} {D:Addr} {Q:VK} (js:JSeq J xs H1) (nD:H1 D = none) (hn:xs.length < sizeLine)
    (P:Nat→V→Hp→Prop) (mono:∀ i y H H' ys,P i y H→H D = some (.lst ys)→(∀ b o,b ≠ D→H b = some o→H' b = some o)→P i y H')
    (step:∀ i x,xs[i]? = some x→∀ (Hc:Hp) (R:VK),Same H1 Hc→(∃ ys,Hc D = some (.lst ys))→(∀ y H3,Same Hc H3→P i y H3→R y H3)→te (some x :: ρσ) Hc R)
    (fin:∀ ys Hc,Same H1 Hc→ys.length = xs.length→(∀ i y,ys[i]? = some y→P i y Hc)→Hc D = some (.lst ys)→Q (.ref D) Hc) :
    ∃ W:Nat→Nat→List V→Hp→Prop,(∃ m,W 0 m [] (upd H1 D (.lst [])))∧
      ∀ i m ys Hc,W i m ys Hc→Hc D = some (.lst ys)∧((J.stop i Hc∧Q (.ref D) Hc) ∨ (J.go i Hc∧∀ x H',J.yld i Hc x H'→
        if true = true then te (some x :: ρσ) H' fun y H3=>H3 D = some (.lst ys)∧ys.length < sizeLine∧∃ m',m' < m∧W (i + 1) m' (ys ++ [y]) (upd H3 D (.lst (ys ++ [y]))) else ∃ m',m' < m∧W (i + 1) m' ys H')):=by
  refine ⟨fun i m ys Hc=>m = xs.length - i∧i ≤ xs.length∧Hc D = some (.lst ys)∧Same H1 Hc∧ys.length = i∧∀ j y,ys[j]? = some y→P j y Hc,⟨_,rfl,Nat.zero_le _,upd_same,same_but (Same.refl H1) nD,rfl,fun j y e=>by simp at e⟩,?_⟩
  rintro i m ys Hc ⟨rfl,hi,eD,sH,el,hP⟩
  refine ⟨eD,?_⟩
  by_cases hlt:i < xs.length
  · refine .inr ⟨js.go i Hc sH hlt,fun x H' hy=>?_⟩
    obtain ⟨rfl,hx⟩:=js.yld i Hc x H' sH hy
    rw [if_pos rfl]
    refine step i x (hx hlt) _ _ sH ⟨ys,eD⟩ fun y H3 s3 hp=>?_
    have e3:=s3 _ _ eD
    refine ⟨e3,by omega,xs.length - (i + 1),by omega,rfl,hlt,upd_same,same_but (sH.trans s3) nD,by simp [el],fun j y' e=>?_⟩
    have far:∀ b o,b ≠ D→H3 b = some o→upd H3 D (.lst (ys ++ [y])) b = some o:=fun b o nb e=>by rw [upd_ne nb]; exact e
    by_cases hj:j < i
    · have e':ys[j]? = some y':=by rw [List.getElem?_append_left (by omega)] at e; exact e
      refine mono j y' H' _ ys (hP j y' e') eD fun b o nb e=>?_
      exact far b o nb (s3 _ _ e)
    · have hj:j = i:=by
        have:=(List.getElem?_eq_some_iff.mp e).1
        simp at this
        omega
      subst hj
      have e':y' = y:=by rw [List.getElem?_append_right (by omega),el,Nat.sub_self] at e; simpa using e.symm
      subst e'
      exact mono _ _ H3 _ ys hp e3 far
  · have e:i = xs.length:=by omega
    subst e
    exact .inl ⟨js.stop _ Hc sH (Nat.le_refl _),fin ys Hc sH el hP eD⟩
theorem comp_of {wi:TI} {ρ:St→St} {te:TE} {σ:St} {H:Hp} {Q:VK} {xs:List V} (hwi:∀ R:It→Hp→Prop,(∀ J H1,Same H H1→JSeq J xs H1→R J H1)→wi σ H R) (hn:xs.length < sizeLine)
    (P:Addr→Nat→V→Hp→Prop) (mono:∀ D i y H H' ys,P D i y H→H D = some (.lst ys)→(∀ b o,b ≠ D→H b = some o→H' b = some o)→P D i y H')
    (step:∀ D i x,xs[i]? = some x→∀ (Hc:Hp) (R:VK),Same H Hc→(∃ ys,Hc D = some (.lst ys))→(∀ y H3,Same Hc H3→P D i y H3→R y H3)→te (some x :: ρ σ) Hc R)
    (fin:∀ D ys Hc,Same H Hc→ys.length = xs.length→(∀ i y,ys[i]? = some y→P D i y Hc)→Hc D = some (.lst ys)→Q (.ref D) Hc):tComp wi ρ (fun _ H Q=>Q true H) te σ H Q:=by
  refine hwi _ fun J H1 s1 js=>?_
  intro D nD
  exact comp_seq (ρσ:=ρ σ) (te:=te) (Q:=Q) js nD hn (P D) (mono D) (fun i x hx Hc R sc=>step D i x hx Hc R (s1.trans sc)) (fun ys Hc sc=>fin D ys Hc (s1.trans sc))
theorem asg_of {te:TE} {g:TG} {D:Ends} {σ:St} {H:Hp} (h:te σ H fun x H1=>g x σ H1 D.nx):tAsg te g D σ H:=h
theorem seq_of {a b:TS} {D:Ends} {σ:St} {H:Hp} (h:a { D with nx:=fun σ H=>b D σ H } σ H):tSeq a b D σ H:=h
end L2
namespace L2
open PySem PySem.Spec PyProof.Rows
section
variable {X:Cx} {N:List Str} {scope:Scope} {cl:List (Str × Addr)} {x:Str} {px pos:Pos} {iter elt:Expr} {ifs:List Expr} {wi:TI} {ρ:St→St} {tt:TT} {te:TE}
theorem ps_comp {y:Str} {py spos:Pos} {i0:Nat} (B:Blk X N scope cl x ρ) (hc:X.calm = true) (hN:X.N.Nodup) (hi0:X.N[i0]? = some y) (hy:Loc X.env.scope y) (hi:PI X (.Name x px) iter wi) (ht:∀ s₃ H₃ fp,PTs (X.blk N scope cl s₃ H₃ fp) ifs tt) (he:∀ s₃ H₃ fp,PE (X.blk N scope cl s₃ H₃ fp) elt te)
    (hsw:swapsWith (.ListComp elt [⟨.Name x px,iter,ifs,0⟩] scope pos) (some (.Name y py)) spos.line X.env = pure true:=by rfl) (hf:X.fn y = true ∨ X.env.scope.names.lookup y = some .local:=by first | exact .inl rfl | exact .inr rfl | assumption)
    (hs:∀ x,foldedSetIterable iter X.env x = pure x:=by intro _; rfl):PS X (.Assign [.Name y py] (.ListComp elt [⟨.Name x px,iter,ifs,0⟩] scope pos) spos) (tAsg (tComp wi ρ tt te) (gName i0)):=by
  intro pins s σ H D0 I h
  have h:tComp wi ρ tt te σ H (fun v H1=>D0.nx (σ.set i0 (some v)) H1):=h
  rw [exec_Assign_Name_used _ _ _ _ hsw]
  refine wpAny_bind (wpAny_standAt (wpAny_bind ?_))
  show wpAny _ X.A (do let _ ← comprehension (.ListComp elt [⟨.Name x px,iter,ifs,0⟩] scope pos) scope X.env _ (newList []) false (eval iter X.env) (some (assign (.Name y py) X.env))) _ _ s
  refine wpAny_bind (wpAny_mono (Q:=fun _ s'=>SP X pins D0 .next s') ?_ (fun _ s' hq=>wpAny_pure (wpAny_pure hq)) fun _ _ e=>e)
  refine wpAny_comprehension_free (use:=some (assign (.Name y py) X.env)) rfl hs B.clos B.kind B.names (thn (hi pins s σ H _ I h) fun v s1 h1=>thn h1 fun itv s2 h2=>?_)
  obtain ⟨it,fp,tn,J,H2,rfl,I2,T,st2,f2,q2⟩:=h2
  have nD:H2 s2.heap.objs.size = none:=I2.hok.fresh (Nat.le_refl _)
  obtain ⟨W,⟨m0,w0⟩,turn⟩:=q2 _ nD
  refine wpAny_newObj_type (wpAny_newFunctionEnv B.nocell (by intro y hy; simp at hy) (fun h₁ hns₁ hsb₁=>?_) B.kind)
  dsimp only at hns₁ hsb₁ ⊢
  generalize hD:s2.heap.objs.size = D at nD w0 turn hns₁ hsb₁ ⊢
  generalize hS3:({ s2 with heap:=s2.heap.push { cls:=.type "list",dict:=none,data:=.seq ([]:List Value).toArray } }:Shared) = s3
  have I3:Inv X pins σ (upd H2 D (.lst [])) s3:=by
    subst hD hS3
    exact I2.laid (t':=s2.toks) (fun b u e=>Heap.get?_push_of_some _ e) (Nat.le_refl _) ⟨Nat.zero_le _,[],_,.nil,Heap.get?_push_size _ rfl⟩
  have e3:s3.heap = s2.heap.push { cls:=.type "list",dict:=none,data:=.seq ([]:List Value).toArray }:=by rw [← hS3]
  have k23:∀ b o,s2.heap.get? b = some o→s3.heap.get? b = some o:=fun b o e=>by rw [e3]; exact Heap.get?_push_of_some _ e
  rw [← e3] at hns₁ hsb₁ ⊢
  have below:∀ b o,s3.heap.get? b = some o→b ≠ s3.heap.objs.size:=fun b o e=>Nat.ne_of_lt (Heap.lt_size e)
  have k34:∀ b o,s3.heap.get? b = some o→h₁.get? b = some o:=fun b o e=>hsb₁.extBut b o (below b o e) (Heap.get?_push_of_some _ e)
  have fpl:∀ b ∈ fp,∃ o,s2.heap.get? b = some o∧∀ v,o.data ≠ .cell v:=T.obj _ _ st2
  have nfD:∀ b ∈ fp,b ≠ D:=fun b hb z=>by
    obtain ⟨o,e,_⟩:=fpl b hb
    rw [z,← hD] at e
    exact absurd (Heap.lt_size e) (Nat.lt_irrefl _)
  have cl_of:∀ y c,cl.lookup y = some c→X.env.cells.lookup y = some c:=fun y c e=>B.sub (y,c) (PySem.mem_of_lookup e)
  have stkf:=I3.stkFree
  have okB:(X.blk N scope cl s3 (upd H2 D (.lst [])) fp).Ok:=by
    refine ⟨I.ok.mod,B.kind,I.ok.glob,I.ok.blt,Nat.le_refl _,fun a b c e1 e2=>I.ok.inj a b c (cl_of a c e1) (cl_of b c e2),fun y hy=>B.has y hy,(fun _ _ z _=>absurd z Bool.false_ne_true),(fun _=>I.ok.hd hc),I.ok.frames,.inl rfl,fun b hb=>⟨?_,fun y c e z=>?_⟩,fun b o e=>?_,Nat.le_trans I.ok.bsz I3.sz,fun b o e hb=>?_,fun b hb z=>?_,I3.stack,stkf⟩
    · obtain ⟨o,e,_⟩:=fpl b hb
      exact below b o (k23 b o e)
    · exact (f2 b hb).2.2.2.2.1 y c (cl_of y c e) z
    · exact I3.bs b o e
    · rcases (f2 b hb).2.2.2.1 with z | z
      · exact I.ok.noex b o e z
      · exact absurd (Nat.lt_of_lt_of_le (Heap.lt_size e) (Nat.le_trans I.ok.bsz z)) (Nat.lt_irrefl _)
    · rcases List.mem_cons.mp (I3.stkSub b z) with z | z
      · exact (f2 b hb).2.1 z
      · exact (f2 b hb).2.2.1 z
  have IB:∀ tk:Nat,Inv (X.blk N scope cl s3 (upd H2 D (.lst [])) fp) [] (none :: ρ σ) (upd H2 D (.lst [])) { s3 with heap:=h₁,toks:=tk }:=fun tk=>by
    refine ⟨okB,rfl,I3.bare,Un.kept k34,⟨_,hns₁,fun j y v e1 e2 e3=>?_⟩,fun y c e=>?_,?_,fun y c e=>I3.freeC y c (cl_of y c e),(fun p hp=>nomatch hp),I3.hok.kept k34,?_⟩
    · cases j with
      | zero=>cases e2
      | succ j=>
        obtain ⟨i,y',a1,a2,a3,a4,a5,a6⟩:=B.rho σ j v e2
        have e1':N[j + 1]? = some y:=e1
        rw [e1'] at a1
        cases a1
        obtain ⟨m,hn,hl⟩:=I3.loc
        obtain ⟨u,r,l⟩:=hl i y v a2 a3 a4
        refine ⟨u,r,.inr ⟨a6,?_⟩⟩
        obtain ⟨c,ec⟩:=B.has y a6
        rcases l with ⟨k,_⟩ | ⟨_,c',ec',z⟩
        · rcases a5 with q | q <;> (rw [k] at q; cases q)
        · have:=cl_of y c ec
          rw [this] at ec'
          cases ec'
          obtain ⟨o,ho,hd⟩:=z
          exact ⟨c,ec,o,k34 _ _ ho,hd⟩
    · obtain ⟨v,o,ho,hd⟩:=I3.cell y c (cl_of y c e)
      exact ⟨v,o,k34 _ _ ho,hd⟩
    · exact I3.hok.fresh (Nat.le_refl _)
    · show (none :: ρ σ).length = N.length
      rw [List.length_cons]
      exact B.len σ I.len
  have below3:∀ b o,s3.heap.get? b = some o→b ≠ s3.heap.objs.size:=below
  have fin:∀ {σ':St} {H':Hp} {s':Shared},Inv (X.blk N scope cl s3 (upd H2 D (.lst [])) fp) [] σ' H' s'→D0.nx (σ.set i0 (some (.ref D))) H'→compPost (model X.prog X.w) X.A X.xe (some (assign (.Name y py) X.env)) (fun _ s'=>SP X pins D0 .next s') (.ref D) s3.heap.objs.size (.ok .next) s':=fun {σ' H' s'} J q=>by
    obtain ⟨m,hn,_⟩:=J.loc
    have hn:s'.heap.Ns s3.heap.objs.size m:=hn
    have JC:H' s3.heap.objs.size = none:=J.free
    have u1:Un (frs X.stack) fp (upd H2 D (.lst [])) H' s3.heap s'.heap:=by
      refine ⟨fun b o e n hb hx=>J.base.keep b o e n hb hx,fun b o e n hb hx=>J.base.slot b o e n hb hx,J.base.free,fun b o e hx=>J.base.there b o e hx,J.base.tups,J.base.frzs,J.base.tbls⟩
    have IX:Inv X pins σ H' s':=I3.call' (ch:=fp) (J.os) u1 J.hok J.bare fun b hb=>by
      obtain ⟨g0,g1,g2,g3,g4,g5⟩:=f2 b hb
      exact ⟨g3,g1,g4,g5⟩
    have nl:X.env.locals ≠ s3.heap.objs.size:=by
      obtain ⟨m3,⟨o3,_,_,e3,_⟩,_⟩:=I3.loc
      exact below3 _ _ e3
    have nc:∀ z c,X.env.cells.lookup z = some c→c ≠ s3.heap.objs.size:=fun z c e=>by
      obtain ⟨v3,o3,e3,_⟩:=I3.cell z c e
      exact below3 _ _ e3
    refine wpAny_assign_Name (store_ok2 (v:=.ref D) IX hN hi0 hy rfl (fun s'' I'' hsb=>?_) hf)
    obtain ⟨a,hsb,ha⟩:=hsb
    have na:s3.heap.objs.size ≠ a:=by
      rcases ha with rfl | e
      · exact fun z=>nl z.symm
      · exact fun z=>nc _ _ e z.symm
    refine ⟨m,hn.sameBut hsb na,fun h' hs'=>⟨σ.set i0 (some (.ref D)),H',?_,q⟩⟩
    have u2:Un (frs X.stack) [s3.heap.objs.size] H' H' s''.heap h':=by
      refine ⟨fun b o e n hb hx=>(hs'.2 b (by simpa using hx)).trans e,fun b o e n hb hx=>⟨o.slots,(hs'.2 b (by simpa using hx)).trans e⟩,fun b o e n hx=>n,fun b o e hx=>⟨o,(hs'.2 b (by simpa using hx)).trans e⟩,fun b xs z=>z,fun b o u z=>z,fun b ps z=>⟨#[],by simpa using z⟩⟩
    have hokE:HOk X.prog X.w H' h':=fun b u e=>by
      refine (I''.hok b u e).stay (fun c v hc z=>(hs'.2 c fun y=>?_).trans z) (fun _ z=>z) fun _ _ z=>z
      have y':c = s3.heap.objs.size:=y
      rcases hc with hc | hc
      · rw [← hc,y',JC] at e
        cases e
      · rw [y',JC] at hc
        cases hc
    refine I''.call' (s':={ s'' with heap:=h' }) (ch:=[s3.heap.objs.size]) rfl u2 hokE I''.bare fun b hb=>?_
    have eb:b = s3.heap.objs.size:=by simpa using hb
    subst eb
    refine ⟨.inr I3.sz,fun z=>nl z.symm,fun z c e=>nc z c e,fun p hp=>?_⟩
    exact below3 _ _ (I3.pin p hp).1
  have stat:∀ {H':Hp},(∀ b ∈ fp,H' b = none)→∀ b ∈ fp,FpOk (X.blk N scope cl s3 (upd H2 D (.lst [])) fp) [] H' b:=fun hn b hb=>by
    refine ⟨hn b hb,?_,?_,.inl hb,fun y c e z=>(f2 b hb).2.2.2.2.1 y c (cl_of y c e) z,fun p hp=>nomatch hp⟩
    · obtain ⟨o,e,_⟩:=fpl b hb
      exact below b o (k23 b o e)
    · exact okB.exfs b hb
  have loop:∀ tk:Nat,codeAny (model X.prog X.w) X.A (.compLoop (.ListComp elt [⟨.Name x px,iter,ifs,0⟩] scope pos) 0 (.ref it) (.ref D) (compEnvC scope cl s3.heap.objs.size X.env))
      (compPost (model X.prog X.w) X.A X.xe (some (assign (.Name y py) X.env)) (fun _ s'=>SP X pins D0 .next s') (.ref D) s3.heap.objs.size) { s3 with heap:=h₁,toks:=tk }:=fun tk=>by
    refine codeAny_compLoop_tests (fun n s'=>∃ i ys o H',Inv (X.blk N scope cl s3 (upd H2 D (.lst [])) fp) [] (o :: ρ σ) H' s'∧tn i s'.heap∧(∀ b ∈ fp,H' b = none)∧W i n ys H') ?_ m0
      ⟨0,[],none,_,IB tk,T.keep _ _ _ st2 fun b hb o e=>k34 _ _ (k23 _ _ e),fun b hb=>by rw [upd_ne (nfD b hb)]; exact (f2 b hb).1,w0⟩
    rintro n s4 ⟨i,ys,o,H4,I4,st4,fr4,w4⟩
    obtain ⟨hD4,hturn⟩:=turn i n ys H4 w4
    rcases hturn with ⟨stop,qn⟩ | ⟨go,step⟩
    · refine wpAny_mono (T.done (X.blk N scope cl s3 (upd H2 D (.lst [])) fp) rfl rfl rfl hc i [] s4 _ H4 (fun _ _=>False) I4 (stat fr4) st4 stop) (fun r s5 ⟨hr,I5⟩=>?_) fun _ _ z=>z.elim
      subst hr
      exact fin I5 qn
    · refine wpAny_mono (T.item (X.blk N scope cl s3 (upd H2 D (.lst [])) fp) rfl rfl rfl hc i [] s4 _ H4 (fun _ _=>False) I4 (stat fr4) st4 go) (fun r s5 ⟨u,hr,h5⟩=>?_) fun _ _ z=>z.elim
      subst hr
      have z:letOwnedTupleGo (.Name x px) (.ref it) u = pure ():=rfl
      rw [z] at h5
      show wpAny _ _ ((pure ():Sem Unit) >>= fun _=>assign (.Name x px) (compEnvC scope cl s3.heap.objs.size X.env) u) _ _ s5
      refine wpAny_bind (wpAny_mono h5 (fun _ s5 ⟨y,H5,I5,r5,y5,st5,fr5⟩=>?_) fun _ _ z=>z.elim)
      have I5':=I5.pinned (stat fr5) (T.obj _ _ st5)
      have pg:PG (X.blk N scope cl s3 (upd H2 D (.lst [])) fp) (.Name x px) (gName 0):=pg_name (i:=0) B.nd B.n0 (.inl (lookup_relabel_local B.hx)) (.inr (lookup_relabel_local B.hx))
      have again:∀ {σ7:St} {H7:Hp} {s7:Shared},Inv (X.blk N scope cl s3 (upd H2 D (.lst [])) fp) ([] ++ pinsAt fp s5.heap) σ7 H7 s7→Inv (X.blk N scope cl s3 (upd H2 D (.lst [])) fp) [] σ7 H7 s7∧tn (i + 1) s7.heap∧∀ b ∈ fp,H7 b = none:=fun {σ7 H7 s7} I7=>by
        refine ⟨I7.unpinned,T.keep _ _ _ st5 fun b hb o e=>(I7.pin (b,o) (List.mem_append_right _ (List.mem_append_right _ (mem_pinsAt hb e)))).1,fun b hb=>?_⟩
        obtain ⟨o,e,d⟩:=T.obj _ _ st5 b hb
        exact (I7.pin (b,o) (List.mem_append_right _ (List.mem_append_right _ (mem_pinsAt hb e)))).2.1
      refine wpAny_mono (pg _ s5 _ H5 y u (fun σ2 H6=>σ2 = some y :: ρ σ∧H6 = H5) I5' r5 ⟨rfl,rfl⟩) (fun _ s6 ⟨σ6,H6,I6,q6⟩=>?_) fun _ _ z=>z.elim
      obtain ⟨rfl,rfl⟩:=q6
      have hstep:=step y _ y5
      have tests:∀ {tt':TT},PTs (X.blk N scope cl s3 (upd H2 D (.lst [])) fp) ifs tt'→∀ {R:Bool→Hp→Prop},tt' (some y :: ρ σ) H6 R→wpAny (model X.prog X.w) X.A
          (forIn ifs true fun c r=>if r = true then do let ok ← isTrue c (compEnvC scope cl s3.heap.objs.size X.env) (eval c (compEnvC scope cl s3.heap.objs.size X.env)); pure (ForInStep.yield ok) else pure (ForInStep.yield r))
          (fun ok s7=>∃ H7,Inv (X.blk N scope cl s3 (upd H2 D (.lst [])) fp) ([] ++ pinsAt fp s5.heap) (some y :: ρ σ) H7 s7∧R ok H7) (fun _ _=>False) s6:=fun {tt'} p {R} hR=>by
        cases p with
        | nil=>exact wpAny_tests_nil ⟨_,I6,hR⟩
        | one p=>exact wpAny_tests_one (p _ s6 _ _ _ I6 hR)
      refine wpAny_mono (tests (ht s3 _ fp) hstep) (fun ok s7 ⟨H7,I7,q7⟩=>?_) fun _ _ z=>z.elim
      cases ok with
      | false=>
        obtain ⟨m',hm',w7⟩:=q7
        obtain ⟨a1,a2,a3⟩:=again I7
        exact ⟨m',hm',i + 1,ys,_,H7,a1,a2,a3,w7⟩
      | true=>
        refine wpAny_mono (he s3 _ fp _ s7 _ H7 _ I7 q7) (fun ev s8 ⟨z,H8,I8,r8,hD8,hz,m',hm',w8⟩=>?_) fun _ _ z=>z.elim
        refine wpAny_mono (mt_append (X:=X.blk N scope cl s3 (upd H2 D (.lst [])) fp) _ s8 _ H8 (.ref D) [z] (.ref D) [ev] (fun _ H9=>H9 = upd H8 D (.lst (ys ++ [z]))) I8 rfl (.cons r8 .nil) ⟨D,ys,z,rfl,rfl,hD8,hz,rfl⟩) (fun _ s9 ⟨_,H9,I9,_,q9⟩=>?_) fun _ _ z=>z.elim
        subst q9
        obtain ⟨a1,a2,a3⟩:=again I9
        exact ⟨m',hm',i + 1,ys ++ [z],_,_,a1,a2,a3,w8⟩
  have start:=loop (s3.toks + ([]:List (Str × Value)).length)
  have es:({ s3 with heap:=h₁,toks:=s3.toks + ([]:List (Str × Value)).length }:Shared) = { s2 with heap:=h₁,toks:=s2.toks + ([]:List (Str × Value)).length }:=by rw [← hS3]
  rw [es] at start
  exact codeAny_compStart_list start (T.self _ 0 _ _ _ (T.keep _ _ _ st2 fun b hb o e=>k34 _ _ (k23 _ _ e)) start)
end
end L2
namespace L2
open PySem PySem.Spec PyProof.Rows
def Itz (K:PySem.W.Frag) (l1 l2:Addr):It:=
  ⟨fun i H=>∃ xs ys x y,SqL K H l1 xs∧SqL K H l2 ys∧xs[i]? = some x∧ys[i]? = some y,
   fun i H v H'=>∃ T x y,H T = none∧v = .ref T∧H' = upd H T (.tup [x,y])∧∀ xs ys,SqL K H l1 xs→SqL K H l2 ys→xs[i]? = some x∧ys[i]? = some y,
   fun i H=>∃ xs ys,SqL K H l1 xs∧SqL K H l2 ys∧(xs.length ≤ i ∨ ys.length ≤ i)⟩
theorem turn_zip {P:Program} {w:World} {K:PySem.W.Frag} {elts:List Expr} {k:Nat} {pos:Pos} {z TI TO i1 i2 l1 l2:Addr} (D:ZipApart z TI TO i1 i2 l1 l2):Turn P w K (.Tuple elts k pos) (Itz K l1 l2) [z,TI,TO,i1,i2] z
    (fun i h=>IsZip h z TI TO .none∧IsPair h TI (.ref i1) (.ref i2)∧(∃ a b,IsPair h TO a b)∧h.IsListIter i1 l1 i∧h.IsListIter i2 l2 i) where
  mem:=by simp
  obj:=fun i h st b hb=>by
    obtain ⟨hz,hTI,⟨a,c,hTO⟩,h1,h2⟩:=st
    simp only [List.mem_cons,List.not_mem_nil,or_false] at hb
    rcases hb with rfl | rfl | rfl | rfl | rfl
    · exact ⟨_,hz,fun v z=>by cases z⟩
    · exact ⟨_,hTI,fun v z=>by cases z⟩
    · exact ⟨_,hTO,fun v z=>by cases z⟩
    · obtain ⟨o,e,c,d⟩:=h1
      exact ⟨o,e,fun v z=>by rw [d] at z; cases z⟩
    · obtain ⟨o,e,c,d⟩:=h2
      exact ⟨o,e,fun v z=>by rw [d] at z; cases z⟩
  keep:=fun i h h' st k=>by
    obtain ⟨hz,hTI,⟨a,c,hTO⟩,h1,h2⟩:=st
    exact ⟨k _ (by simp) _ hz,k _ (by simp) _ hTI,⟨a,c,k _ (by simp) _ hTO⟩,h1.at fun o e=>k _ (by simp) o e,h2.at fun o e=>k _ (by simp) o e⟩
  item:=by
    intro X hP hw hK hc i pins s σ H E I hf st hg
    subst hP hw hK
    obtain ⟨hz,hTI,⟨a,c,hTO⟩,h1,h2⟩:=st
    obtain ⟨xs,ys,x,y,hq1,hq2,hx,hy⟩:=hg
    obtain ⟨its,rv,p,_⟩:=I.list hq1
    obtain ⟨jts,rv',p',_⟩:=I.list hq2
    obtain ⟨u,hu,ru⟩:=rv.get hx
    obtain ⟨u',hu',ru'⟩:=rv'.get hy
    refine wpAny_pyNext_zip_item D hz hTI hTO h1 h2 p.isList p'.isList (x:=u) (y:=u') (by simpa using hu) (by simpa using hu') fun h' g1 g2 g3 g4 g5 g6 g7=>⟨_,rfl,?_⟩
    refine wpAny_letOwnedTupleGo_zip g1 fun h'' q1 sb=>?_
    have hfr:H s.heap.objs.size = none:=I.hok.fresh (Nat.le_refl _)
    have lt:∀ b o,s.heap.get? b = some o→b ≠ s.heap.objs.size:=fun b o e=>Nat.ne_of_lt (Heap.lt_size e)
    have keep:∀ b o,b ∉ [z,TI,TO,i1,i2]→s.heap.get? b = some o→h''.get? b = some o:=fun b o nb e=>by
      simp only [List.mem_cons,List.not_mem_nil,or_false,not_or] at nb
      exact sb.extBut _ _ nb.1 (g7 b o nb.1 nb.2.2.1 nb.2.2.2.1 nb.2.2.2.2 e)
    have zlt:z ≠ s.heap.objs.size:=lt _ _ hz
    have pT:IsPair h'' s.heap.objs.size u u':=sb.extBut _ _ zlt.symm g5
    have upn:∀ {b:Addr} {o:HO} (e:H b = some o),upd H s.heap.objs.size (.tup [x,y]) b = some o:=fun e=>by rw [upd_ne (ne_of_none e hfr)]; exact e
    have hok:HOk X.prog X.w (upd H s.heap.objs.size (.tup [x,y])) h'':=fun b o e=>by
      by_cases hb:b = s.heap.objs.size
      · subst hb
        rw [upd_same] at e
        cases e
        exact ⟨by show 2 ≤ sizeLine; decide,[u,u'],.cons ru (.cons ru' .nil),⟨_,pT,rfl,_,rfl⟩⟩
      · rw [upd_ne hb] at e
        refine (I.hok b o e).stay (fun c v hc' q=>keep c v (fun m=>?_) q) (fun c q=>upn q) fun c xs q=>upn q
        have nn:=(hf c m).1
        rcases hc' with rfl | hc'
        · rw [nn] at e; cases e
        · rw [nn] at hc'; cases hc'
    have u1:Un (frs X.stack) [z,TI,TO,i1,i2] H (upd H s.heap.objs.size (.tup [x,y])) s.heap h'':=
      ⟨fun b o e n _ hx=>keep b o hx e,fun b o e n _ hx=>⟨o.slots,keep b o hx e⟩,fun b o e n hx=>by rw [upd_ne (lt b o e)]; exact n,fun b o e hx=>⟨o,keep b o hx e⟩,fun b xs e=>upn e,fun b o u e=>upn e,fun b ps e=>⟨#[],by rw [upn e]; simp⟩⟩
    refine ⟨.ref s.heap.objs.size,upd H s.heap.objs.size (.tup [x,y]),I.call' (s':={ s with heap:=h'' }) (ch:=[z,TI,TO,i1,i2]) rfl u1 hok I.bare (fun b hb=>?_),rfl,⟨_,x,y,hfr,rfl,rfl,fun as bs ha hb=>⟨by rw [I.list_inj ha hq1]; exact hx,by rw [I.list_inj hb hq2]; exact hy⟩⟩,?_,fun b hb=>?_⟩
    · obtain ⟨f0,f1,f2,f3,f4,f5⟩:=hf b hb
      exact ⟨f3,f1,f4,f5⟩
    · exact ⟨q1,sb.extBut _ _ D.TIz (g7 _ _ D.TIz D.TITO D.TIi1 D.TIi2 hTI),⟨_,_,sb.extBut _ _ D.TOz g2⟩,g3.extBut sb.extBut D.i1z,g4.extBut sb.extBut D.i2z⟩
    · have nb:b ≠ s.heap.objs.size:=by
        simp only [List.mem_cons,List.not_mem_nil,or_false] at hb
        rcases hb with rfl | rfl | rfl | rfl | rfl
        · exact lt _ _ hz
        · exact lt _ _ hTI
        · exact lt _ _ hTO
        · obtain ⟨o,e,_⟩:=h1; exact lt _ _ e
        · obtain ⟨o,e,_⟩:=h2; exact lt _ _ e
      rw [upd_ne nb]
      exact (hf b hb).1
  done:=by
    intro X hP hw hK hc i pins s σ H E I hf st hg
    subst hP hw hK
    obtain ⟨hz,hTI,⟨a,c,hTO⟩,h1,h2⟩:=st
    obtain ⟨xs,ys,hq1,hq2,hx⟩:=hg
    obtain ⟨its,rv,p,_⟩:=I.list hq1
    obtain ⟨jts,rv',p',_⟩:=I.list hq2
    have hl:=rv.length
    have hl':=rv'.length
    refine wpAny_pyNext_zip_end (I.ok.hd hc) D hz hTI hTO h1 h2 p.isList p'.isList (hx.imp (fun h=>by simp; omega) fun h=>by simp; omega) fun h' g=>⟨rfl,?_⟩
    have keep:∀ b o,b ∉ [z,TI,TO,i1,i2]→s.heap.get? b = some o→h'.get? b = some o:=fun b o nb e=>by
      simp only [List.mem_cons,List.not_mem_nil,or_false,not_or] at nb
      exact g b o nb.1 nb.2.2.1 nb.2.2.2.1 nb.2.2.2.2 e
    have hok:HOk X.prog X.w H h':=fun b o e=>by
      refine (I.hok b o e).stay (fun c v hc' q=>keep c v (fun m=>?_) q) (fun c q=>q) fun c xs q=>q
      have nn:=(hf c m).1
      rcases hc' with rfl | hc'
      · rw [nn] at e; cases e
      · rw [nn] at hc'; cases hc'
    have u1:Un (frs X.stack) [z,TI,TO,i1,i2] H H s.heap h':=
      ⟨fun b o e n _ hx=>keep b o hx e,fun b o e n _ hx=>⟨o.slots,keep b o hx e⟩,fun b o e n hx=>n,fun b o e hx=>⟨o,keep b o hx e⟩,fun b xs e=>e,fun b o u e=>e,fun b ps e=>⟨#[],by rw [e]; simp⟩⟩
    refine I.call' (s':={ s with heap:=h' }) (ch:=[z,TI,TO,i1,i2]) rfl u1 hok I.bare fun b hb=>?_
    obtain ⟨f0,f1,f2,f3,f4,f5⟩:=hf b hb
    exact ⟨f3,f1,f4,f5⟩
  self:=fun _ _ _ _ _ st h=>wpAny_pyIter_zip st.1 h
theorem boot_zip:bootBuiltins "zip" = some (.type "zip"):=by decide +kernel
def iZip (K:PySem.W.Frag) (ta:TA):TI:=fun σ H R=>ta σ H fun vs H1=>∃ l1 l2,vs = [.ref l1,.ref l2]∧(∃ xs,SqL K H1 l1 xs)∧(∃ ys,SqL K H1 l2 ys)∧R (Itz K l1 l2) H1
section
variable {X:Cx}
theorem pi_zip {elts:List Expr} {k:Nat} {tpos:Pos} {a b:Expr} {ta:TA} {p pos:Pos} (hg:Gl X "zip") (hm:X.mg "zip" = none) (ha:PA X [a,b] ta) (hs:starEach [a,b] X.env = [(false,eval a X.env),(false,eval b X.env)]:=by rfl) (hs2:starEach [b] X.env = [(false,eval b X.env)]:=by rfl) :
    PI X (.Tuple elts k tpos) (.Call (.Name "zip" p) [a,b] [] pos) (iZip X.K ta):=by
  intro pins s σ H R I h
  refine Call_ (ld_blt I hg hm boot_zip (PyProof.Rows.callWith_type1 (thn (ha pos pins s σ H _ I h) fun us s1 ⟨vs,H1,I1,r1,q1⟩=>?_) (by rw [hs,hs2]) (by rw [hs2]; rfl)))
  obtain ⟨l1,l2,e,⟨xs,hq1⟩,⟨ys,hq2⟩,q⟩:=q1
  subst e
  cases r1 with
  | cons r rr=>
    cases rr with
    | cons r' rr=>
      cases rr
      cases r
      cases r'
      obtain ⟨its,rv,p1,_⟩:=I1.list hq1
      obtain ⟨jts,rv',p2,_⟩:=I1.list hq2
      have b1:l1 < s1.heap.objs.size:=by obtain ⟨o,e,_⟩:=p1.isList; exact Heap.lt_size e
      have b2:l2 < s1.heap.objs.size:=by obtain ⟨o,e,_⟩:=p2.isList; exact Heap.lt_size e
      refine call_zip_2 p1.isList p2.isList fun h' z1 z2 z3 z4 z5 z6 z7=>?_
      refine wpAny_pyIter_zip (s:={ s1 with heap:=h' }) z1 ?_
      have D:ZipApart (s1.heap.objs.size + 4) (s1.heap.objs.size + 2) (s1.heap.objs.size + 3) s1.heap.objs.size (s1.heap.objs.size + 1) l1 l2:=by
        constructor <;> (intro h; have h:@Eq Nat _ _:=h; have b1:@LT.lt Nat _ l1 s1.heap.objs.size:=b1; have b2:@LT.lt Nat _ l2 s1.heap.objs.size:=b2; omega)
      refine ⟨_,_,_,_,H1,rfl,I1.kept (t':=s1.toks) z7,turn_zip D,⟨z1,z2,⟨_,_,z3⟩,z4,z5⟩,fun b hb=>?_,q⟩
      have le:s1.heap.objs.size ≤ b:=by
        simp only [List.mem_cons,List.not_mem_nil,or_false] at hb
        rcases hb with rfl | rfl | rfl | rfl | rfl
        · exact Nat.le_add_right ..
        · exact Nat.le_add_right ..
        · exact Nat.le_add_right ..
        · exact Nat.le_refl _
        · exact Nat.le_add_right ..
      exact I1.fpOk le (I1.hok.fresh le)
end
end L2
namespace L2
open PySem PySem.Spec PyProof.Rows
section
variable {prog:Program} {w:World} {A:Around} {R:Result→Shared→Prop} {s:Shared}
theorem compLoop_testsT {elt target iter:Expr} {ifs:List Expr} {scope:Scope} {pos:Pos} {it acc:Value} {env:Env} (I:Nat→Shared→Prop)
    (turn:∀ n s,I n s→wpAny (model prog w) A (pyNext it) (fun r s₁=>match r with
      | none=>R (.ok .next) s₁
      | some v=>wpAny (model prog w) A (letOwnedTupleGo target it v) (fun _ s₁=>wpAny (model prog w) A (assign target env v) (fun _ s₂=>
          wpAny (model prog w) A (forIn ifs true fun c r=>if r = true then do let ok ← isTrue c env (eval c env); pure (ForInStep.yield ok) else pure (ForInStep.yield r)) (fun ok s₃=>
            if ok = true then wpAny (model prog w) A (eval elt env) (fun x s₄=>
              wpAny (model prog w) A (call (.builtin "list.append") [acc,x]) (fun _ s₅=>∃ m,m < n∧I m s₅) (notedBy (model prog w) A env fun e s'=>R (.error e) s') s₄) (notedBy (model prog w) A env fun e s'=>R (.error e) s') s₃
            else ∃ m,m < n∧I m s₃) (notedBy (model prog w) A env fun e s'=>R (.error e) s') s₂) (notedBy (model prog w) A env fun e s'=>R (.error e) s') s₁) (notedBy (model prog w) A env fun e s'=>R (.error e) s') s₁) (notedBy (model prog w) A env fun e s'=>R (.error e) s') s)
    (n:Nat) (h:I n s):codeAny (model prog w) A (.compLoop (.ListComp elt [⟨target,iter,ifs,0⟩] scope pos) 0 it acc env) R s:=by
  refine codeAny_loop rfl I (fun n s hI=>?_) n h
  show wpAny _ A ((compTurn (.ListComp elt [⟨target,iter,ifs,0⟩] scope pos) 0 it acc env).onRaise (fun x=>do noteFrame x env; theTreesLotGoes x)) _ _ s
  refine wpAny_noted ?_
  rw [compTurn_list]
  refine wpAny_bind (wpAny_standAt (wpAny_bind (wpAny_mono (turn n s hI) (fun r s₁ h₁=>?_) fun _ _ h'=>h')))
  cases r with
  | none=>exact wpAny_pure h₁
  | some v=>
    refine wpAny_bind (wpAny_mono h₁ (fun _ s₁ h₁=>?_) fun _ _ h'=>h')
    refine wpAny_bind (wpAny_mono h₁ (fun _ s₂ h₂=>wpAny_bind (wpAny_mono h₂ (fun ok s₃ h₃=>?_) fun _ _ h'=>h')) fun _ _ h'=>h')
    cases ok with
    | false=>exact wpAny_pure ⟨rfl,h₃⟩
    | true=>
      exact wpAny_bind (wpAny_bind (wpAny_mono h₃ (fun x s₄ h₄=>wpAny_bind (wpAny_mono h₄ (fun _ s₅ h₅=>wpAny_pure (wpAny_pure ⟨rfl,h₅⟩)) fun _ _ h'=>h')) fun _ _ h'=>h'))
end
def tComp2 (K:PySem.W.Frag) (wi:TI) (ρ:St→St) (tt:TT) (te:TE):TE:=fun σ H Q=>wi σ H fun J H1=>∀ D,H1 D = none→∃ W:Nat→Nat→List V→Hp→Prop,(∃ m,W 0 m [] (upd H1 D (.lst [])))∧
  ∀ i m ys Hc,W i m ys Hc→Hc D = some (.lst ys)∧((J.stop i Hc∧Q (.ref D) Hc) ∨ (J.go i Hc∧∀ v H',J.yld i Hc v H'→∃ T x1 x2,v = .ref T∧SqT K H' T [x1,x2]∧tt (some x1 :: some x2 :: ρ σ) H' fun b H2=>
    if b = true then te (some x1 :: some x2 :: ρ σ) H2 fun y H3=>H3 D = some (.lst ys)∧ys.length < sizeLine∧∃ m',m' < m∧W (i + 1) m' (ys ++ [y]) (upd H3 D (.lst (ys ++ [y]))) else ∃ m',m' < m∧W (i + 1) m' ys H2))
section
variable {X:Cx} {N:List Str} {scope:Scope} {cl:List (Str × Addr)} {x y:Str} {px py pos tp:Pos} {tk0:Nat} {iter elt:Expr} {ifs:List Expr} {wi:TI} {ρ:St→St} {tt:TT} {te:TE}
structure Blk2 (X:Cx) (N:List Str) (scope:Scope) (cl:List (Str × Addr)) (x y:Str) (ρ:St→St):Prop where
  clos:closureFor scope X.env = pure cl
  kind:scope.kind = .function
  nocell:∀ y ∈ scope.names,y.2 ≠ .cell
  names:∀ y ∈ scope.names,y.2 = .local→scope.names.lookup y.1 = some .local
  sub:∀ p ∈ cl,X.env.cells.lookup p.1 = some p.2
  has:∀ y,((relabel scope X.env).names.lookup y = some .cell ∨ (relabel scope X.env).names.lookup y = some .free)→∃ c,cl.lookup y = some c
  n0:N[0]? = some x
  n1:N[1]? = some y
  nd:N.Nodup
  hx:scope.names.lookup x = some .local
  hy:scope.names.lookup y = some .local
  rho:∀ (σ:St) (j:Nat) (v:V),(ρ σ)[j]? = some (some v)→∃ (i:Nat) (y:Str),N[j + 1 + 1]? = some y∧X.N[i]? = some y∧σ[i]? = some (some v)∧Vis X.env.scope y∧(X.env.kindOf y = some .cell ∨ X.env.kindOf y = some .free)∧((relabel scope X.env).names.lookup y = some .cell ∨ (relabel scope X.env).names.lookup y = some .free)
  len:∀ σ:St,σ.length = X.N.length→(ρ σ).length + 1 + 1 = N.length
theorem pe_comp2 (B:Blk2 X N scope cl x y ρ) (hc:X.calm = true) (hi:PI X (.Tuple [.Name x px,.Name y py] tk0 tp) iter wi) (ht:∀ s₃ H₃ fp,PTs (X.blk N scope cl s₃ H₃ fp) ifs tt) (he:∀ s₃ H₃ fp,PE (X.blk N scope cl s₃ H₃ fp) elt te)
    (hs:∀ x,foldedSetIterable iter X.env x = pure x:=by intro _; rfl):PE X (.ListComp elt [⟨.Tuple [.Name x px,.Name y py] tk0 tp,iter,ifs,0⟩] scope pos) (tComp2 X.K wi ρ tt te):=by
  intro pins s σ H Q I h
  rw [eval_ListComp]
  refine wpAny_comprehension_free (use:=none) rfl hs B.clos B.kind B.names (thn (hi pins s σ H _ I h) fun v s1 h1=>thn h1 fun itv s2 h2=>?_)
  obtain ⟨it,fp,tn,J,H2,rfl,I2,T,st2,f2,q2⟩:=h2
  have nD:H2 s2.heap.objs.size = none:=I2.hok.fresh (Nat.le_refl _)
  obtain ⟨W,⟨m0,w0⟩,turn⟩:=q2 _ nD
  refine wpAny_newObj_type (wpAny_newFunctionEnv B.nocell (by intro y hy; simp at hy) (fun h₁ hns₁ hsb₁=>?_) B.kind)
  dsimp only at hns₁ hsb₁ ⊢
  generalize hD:s2.heap.objs.size = D at nD w0 turn hns₁ hsb₁ ⊢
  generalize hS3:({ s2 with heap:=s2.heap.push { cls:=.type "list",dict:=none,data:=.seq ([]:List Value).toArray } }:Shared) = s3
  have I3:Inv X pins σ (upd H2 D (.lst [])) s3:=by
    subst hD hS3
    exact I2.laid (t':=s2.toks) (fun b u e=>Heap.get?_push_of_some _ e) (Nat.le_refl _) ⟨Nat.zero_le _,[],_,.nil,Heap.get?_push_size _ rfl⟩
  have e3:s3.heap = s2.heap.push { cls:=.type "list",dict:=none,data:=.seq ([]:List Value).toArray }:=by rw [← hS3]
  have k23:∀ b o,s2.heap.get? b = some o→s3.heap.get? b = some o:=fun b o e=>by rw [e3]; exact Heap.get?_push_of_some _ e
  rw [← e3] at hns₁ hsb₁ ⊢
  have below:∀ b o,s3.heap.get? b = some o→b ≠ s3.heap.objs.size:=fun b o e=>Nat.ne_of_lt (Heap.lt_size e)
  have k34:∀ b o,s3.heap.get? b = some o→h₁.get? b = some o:=fun b o e=>hsb₁.extBut b o (below b o e) (Heap.get?_push_of_some _ e)
  have fpl:∀ b ∈ fp,∃ o,s2.heap.get? b = some o∧∀ v,o.data ≠ .cell v:=T.obj _ _ st2
  have nfD:∀ b ∈ fp,b ≠ D:=fun b hb z=>by
    obtain ⟨o,e,_⟩:=fpl b hb
    rw [z,← hD] at e
    exact absurd (Heap.lt_size e) (Nat.lt_irrefl _)
  have cl_of:∀ y c,cl.lookup y = some c→X.env.cells.lookup y = some c:=fun y c e=>B.sub (y,c) (PySem.mem_of_lookup e)
  have stkf:=I3.stkFree
  have okB:(X.blk N scope cl s3 (upd H2 D (.lst [])) fp).Ok:=by
    refine ⟨I.ok.mod,B.kind,I.ok.glob,I.ok.blt,Nat.le_refl _,fun a b c e1 e2=>I.ok.inj a b c (cl_of a c e1) (cl_of b c e2),fun y hy=>B.has y hy,(fun _ _ z _=>absurd z Bool.false_ne_true),(fun _=>I.ok.hd hc),I.ok.frames,.inl rfl,fun b hb=>⟨?_,fun y c e z=>?_⟩,fun b o e=>?_,Nat.le_trans I.ok.bsz I3.sz,fun b o e hb=>?_,fun b hb z=>?_,I3.stack,stkf⟩
    · obtain ⟨o,e,_⟩:=fpl b hb
      exact below b o (k23 b o e)
    · exact (f2 b hb).2.2.2.2.1 y c (cl_of y c e) z
    · exact I3.bs b o e
    · rcases (f2 b hb).2.2.2.1 with z | z
      · exact I.ok.noex b o e z
      · exact absurd (Nat.lt_of_lt_of_le (Heap.lt_size e) (Nat.le_trans I.ok.bsz z)) (Nat.lt_irrefl _)
    · rcases List.mem_cons.mp (I3.stkSub b z) with z | z
      · exact (f2 b hb).2.1 z
      · exact (f2 b hb).2.2.1 z
  have IB:∀ tk:Nat,Inv (X.blk N scope cl s3 (upd H2 D (.lst [])) fp) [] (none :: none :: ρ σ) (upd H2 D (.lst [])) { s3 with heap:=h₁,toks:=tk }:=fun tk=>by
    refine ⟨okB,rfl,I3.bare,Un.kept k34,⟨_,hns₁,fun j y v e1 e2 e3=>?_⟩,fun y c e=>?_,?_,fun y c e=>I3.freeC y c (cl_of y c e),(fun p hp=>nomatch hp),I3.hok.kept k34,?_⟩
    · cases j with
      | zero=>cases e2
      | succ j=>
      cases j with
      | zero=>cases e2
      | succ j=>
        obtain ⟨i,y',a1,a2,a3,a4,a5,a6⟩:=B.rho σ j v e2
        have e1':N[j + 1 + 1]? = some y:=e1
        rw [e1'] at a1
        cases a1
        obtain ⟨m,hn,hl⟩:=I3.loc
        obtain ⟨u,r,l⟩:=hl i y v a2 a3 a4
        refine ⟨u,r,.inr ⟨a6,?_⟩⟩
        obtain ⟨c,ec⟩:=B.has y a6
        rcases l with ⟨k,_⟩ | ⟨_,c',ec',z⟩
        · rcases a5 with q | q <;> (rw [k] at q; cases q)
        · have:=cl_of y c ec
          rw [this] at ec'
          cases ec'
          obtain ⟨o,ho,hd⟩:=z
          exact ⟨c,ec,o,k34 _ _ ho,hd⟩
    · obtain ⟨v,o,ho,hd⟩:=I3.cell y c (cl_of y c e)
      exact ⟨v,o,k34 _ _ ho,hd⟩
    · exact I3.hok.fresh (Nat.le_refl _)
    · show (none :: none :: ρ σ).length = N.length
      rw [List.length_cons,List.length_cons]
      exact B.len σ I.len
  have fin:∀ {σ':St} {H':Hp} {s':Shared},Inv (X.blk N scope cl s3 (upd H2 D (.lst [])) fp) [] σ' H' s'→Q (.ref D) H'→compPost (model X.prog X.w) X.A X.xe none (EP X pins σ Q) (.ref D) s3.heap.objs.size (.ok .next) s':=fun {σ' H' s'} J q=>by
    obtain ⟨m,hn,_⟩:=J.loc
    refine ⟨m,hn,fun h' hs'=>⟨.ref D,H',?_,rfl,q⟩⟩
    have old:∀ b o,s3.heap.get? b = some o→b ≠ s3.heap.objs.size:=below
    have u1:Un (frs X.stack) fp (upd H2 D (.lst [])) H' s3.heap h':=by
      refine ⟨fun b o e n hb hx=>?_,fun b o e n hb hx=>?_,J.base.free,fun b o e hx=>?_,J.base.tups,J.base.frzs,J.base.tbls⟩
      · exact (hs'.2 b (old b o e)).trans (J.base.keep b o e n hb hx)
      · obtain ⟨sl,z⟩:=J.base.slot b o e n hb hx
        exact ⟨sl,(hs'.2 b (old b o e)).trans z⟩
      · obtain ⟨o',z⟩:=J.base.there b o e hx
        exact ⟨o',(hs'.2 b (old b o e)).trans z⟩
    have hokE:HOk X.prog X.w H' h':=fun b u e=>by
      refine (J.hok b u e).stay (fun c v hc z=>(hs'.2 c fun y=>?_).trans z) (fun _ z=>z) fun _ _ z=>z
      have fr:=J.free
      have y':c = s3.heap.objs.size:=y
      rcases hc with hc | hc
      · rw [← hc,y'] at e
        exact absurd (fr.symm.trans e) (by simp)
      · rw [y'] at hc
        exact absurd (fr.symm.trans hc) (by simp)
    refine I3.call' (s':={ s' with heap:=h' }) (ch:=fp) (J.os) u1 hokE J.bare fun b hb=>?_
    obtain ⟨g0,g1,g2,g3,g4,g5⟩:=f2 b hb
    exact ⟨g3,g1,g4,g5⟩
  have stat:∀ {H':Hp},(∀ b ∈ fp,H' b = none)→∀ b ∈ fp,FpOk (X.blk N scope cl s3 (upd H2 D (.lst [])) fp) [] H' b:=fun hn b hb=>by
    refine ⟨hn b hb,?_,?_,.inl hb,fun y c e z=>(f2 b hb).2.2.2.2.1 y c (cl_of y c e) z,fun p hp=>nomatch hp⟩
    · obtain ⟨o,e,_⟩:=fpl b hb
      exact below b o (k23 b o e)
    · exact okB.exfs b hb
  have loop:∀ tk:Nat,codeAny (model X.prog X.w) X.A (.compLoop (.ListComp elt [⟨.Tuple [.Name x px,.Name y py] tk0 tp,iter,ifs,0⟩] scope pos) 0 (.ref it) (.ref D) (compEnvC scope cl s3.heap.objs.size X.env))
      (compPost (model X.prog X.w) X.A X.xe none (EP X pins σ Q) (.ref D) s3.heap.objs.size) { s3 with heap:=h₁,toks:=tk }:=fun tk=>by
    refine compLoop_testsT (fun n s'=>∃ i ys o o2 H',Inv (X.blk N scope cl s3 (upd H2 D (.lst [])) fp) [] (o :: o2 :: ρ σ) H' s'∧tn i s'.heap∧(∀ b ∈ fp,H' b = none)∧W i n ys H') ?_ m0
      ⟨0,[],none,none,_,IB tk,T.keep _ _ _ st2 fun b hb o e=>k34 _ _ (k23 _ _ e),fun b hb=>by rw [upd_ne (nfD b hb)]; exact (f2 b hb).1,w0⟩
    rintro n s4 ⟨i,ys,o,o2,H4,I4,st4,fr4,w4⟩
    obtain ⟨hD4,hturn⟩:=turn i n ys H4 w4
    rcases hturn with ⟨stop,qn⟩ | ⟨go,step⟩
    · refine wpAny_mono (T.done (X.blk N scope cl s3 (upd H2 D (.lst [])) fp) rfl rfl rfl hc i [] s4 _ H4 (fun _ _=>False) I4 (stat fr4) st4 stop) (fun r s5 ⟨hr,I5⟩=>?_) fun _ _ z=>z.elim
      subst hr
      exact fin I5 qn
    · refine wpAny_mono (T.item (X.blk N scope cl s3 (upd H2 D (.lst [])) fp) rfl rfl rfl hc i [] s4 _ H4 (fun _ _=>False) I4 (stat fr4) st4 go) (fun r s5 ⟨u,hr,h5⟩=>?_) fun _ _ z=>z.elim
      subst hr
      refine wpAny_mono h5 (fun _ s5 ⟨y0,H5,I5,r5,y5,st5,fr5⟩=>?_) fun _ _ z=>z.elim
      obtain ⟨Tt,x1,x2,e0,hsq,hstep⟩:=step y0 _ y5
      subst e0
      have I5':=I5.pinned (stat fr5) (T.obj _ _ st5)
      have pg:PG (X.blk N scope cl s3 (upd H2 D (.lst [])) fp) (.Tuple [.Name x px,.Name y py] tk0 tp) (gTup X.K 2 (gCons (gName 0) (gCons (gName 1) gNil))):=
        pg_tup (X:=X.blk N scope cl s3 (upd H2 D (.lst [])) fp) hc (pgs_cons (pg_name (i:=0) B.nd B.n0 (.inl (lookup_relabel_local B.hx)) (.inr (lookup_relabel_local B.hx))) (pgs_cons (pg_name (i:=1) B.nd B.n1 (.inl (lookup_relabel_local B.hy)) (.inr (lookup_relabel_local B.hy))) pgs_nil))
      have again:∀ {σ7:St} {H7:Hp} {s7:Shared},Inv (X.blk N scope cl s3 (upd H2 D (.lst [])) fp) ([] ++ pinsAt fp s5.heap) σ7 H7 s7→Inv (X.blk N scope cl s3 (upd H2 D (.lst [])) fp) [] σ7 H7 s7∧tn (i + 1) s7.heap∧∀ b ∈ fp,H7 b = none:=fun {σ7 H7 s7} I7=>by
        refine ⟨I7.unpinned,T.keep _ _ _ st5 fun b hb o e=>(I7.pin (b,o) (List.mem_append_right _ (List.mem_append_right _ (mem_pinsAt hb e)))).1,fun b hb=>?_⟩
        obtain ⟨o,e,d⟩:=T.obj _ _ st5 b hb
        exact (I7.pin (b,o) (List.mem_append_right _ (List.mem_append_right _ (mem_pinsAt hb e)))).2.1
      refine wpAny_mono (pg _ s5 _ H5 (.ref Tt) u (fun σ2 H6=>σ2 = some x1 :: some x2 :: ρ σ∧H6 = H5) I5' r5 ⟨Tt,_,rfl,hsq,rfl,_,_,rfl,_,_,rfl,rfl,rfl,rfl⟩) (fun _ s6 ⟨σ6,H6,I6,q6⟩=>?_) fun _ _ z=>z.elim
      obtain ⟨rfl,rfl⟩:=q6
      have tests:∀ {tt':TT},PTs (X.blk N scope cl s3 (upd H2 D (.lst [])) fp) ifs tt'→∀ {R:Bool→Hp→Prop},tt' (some x1 :: some x2 :: ρ σ) H6 R→wpAny (model X.prog X.w) X.A
          (forIn ifs true fun c r=>if r = true then do let ok ← isTrue c (compEnvC scope cl s3.heap.objs.size X.env) (eval c (compEnvC scope cl s3.heap.objs.size X.env)); pure (ForInStep.yield ok) else pure (ForInStep.yield r))
          (fun ok s7=>∃ H7,Inv (X.blk N scope cl s3 (upd H2 D (.lst [])) fp) ([] ++ pinsAt fp s5.heap) (some x1 :: some x2 :: ρ σ) H7 s7∧R ok H7) (fun _ _=>False) s6:=fun {tt'} p {R} hR=>by
        cases p with
        | nil=>exact wpAny_tests_nil ⟨_,I6,hR⟩
        | one p=>exact wpAny_tests_one (p _ s6 _ _ _ I6 hR)
      refine wpAny_mono (tests (ht s3 _ fp) hstep) (fun ok s7 ⟨H7,I7,q7⟩=>?_) fun _ _ z=>z.elim
      cases ok with
      | false=>
        obtain ⟨m',hm',w7⟩:=q7
        obtain ⟨a1,a2,a3⟩:=again I7
        exact ⟨m',hm',i + 1,ys,_,_,H7,a1,a2,a3,w7⟩
      | true=>
        refine wpAny_mono (he s3 _ fp _ s7 _ H7 _ I7 q7) (fun ev s8 ⟨z,H8,I8,r8,hD8,hz,m',hm',w8⟩=>?_) fun _ _ z=>z.elim
        refine wpAny_mono (mt_append (X:=X.blk N scope cl s3 (upd H2 D (.lst [])) fp) _ s8 _ H8 (.ref D) [z] (.ref D) [ev] (fun _ H9=>H9 = upd H8 D (.lst (ys ++ [z]))) I8 rfl (.cons r8 .nil) ⟨D,ys,z,rfl,rfl,hD8,hz,rfl⟩) (fun _ s9 ⟨_,H9,I9,_,q9⟩=>?_) fun _ _ z=>z.elim
        subst q9
        obtain ⟨a1,a2,a3⟩:=again I9
        exact ⟨m',hm',i + 1,ys ++ [z],_,_,_,a1,a2,a3,w8⟩
  have start:=loop (s3.toks + ([]:List (Str × Value)).length)
  have es:({ s3 with heap:=h₁,toks:=s3.toks + ([]:List (Str × Value)).length }:Shared) = { s2 with heap:=h₁,toks:=s2.toks + ([]:List (Str × Value)).length }:=by rw [← hS3]
  rw [es] at start
  exact codeAny_compStart_list start (T.self _ 0 _ _ _ (T.keep _ _ _ st2 fun b hb o e=>k34 _ _ (k23 _ _ e)) start)
end
end L2
namespace L2
open PySem PySem.Spec PyProof.Rows
section
variable {X:Cx}
def sumR (K:PySem.W.Frag):List V→Hp→VK→Prop:=fun xs H Q=>∃ (p:Addr) (ns:List Int),xs = [.ref p]∧SqL K H p (ns.map V.int)∧Q (.int ns.sum) H
theorem preSum_get:∀ (ns:List Int),preSum (fun i=>ns.getD i 0) ns.length = ns.sum:=by
  intro ns
  have key:∀ k,k ≤ ns.length→preSum (fun i=>ns.getD i 0) k = (ns.take k).sum:=by
    intro k
    induction k with
    | zero=>intro _; rfl
    | succ k ih=>
      intro hk
      show preSum (fun i=>ns.getD i 0) k + ns.getD k 0 = _
      rw [ih (by omega),List.take_add_one,List.sum_append]
      have e:ns[k]? = some ns[k]:=by simp [show k < ns.length by omega]
      rw [List.getD_eq_getElem?_getD,e]
      simp
  rw [key ns.length (Nat.le_refl _),List.take_length]
theorem call_sum {K:PySem.W.Frag} (hc:X.calm = true) (hK:X.K = K:=by rfl):CallR X (.builtin "sum") (sumR K):=by
  intro pins s σ H xs us Q I r h
  subst hK
  obtain ⟨p,ns,rfl,hq,q⟩:=h
  obtain ⟨u,rfl,ru⟩:=vals1 r
  cases ru
  obtain ⟨its,rv,pl,hz⟩:=I.list hq
  have hne:p ≠ s.heap.objs.size:=by
    obtain ⟨o,e,_⟩:=pl.isList
    exact Nat.ne_of_lt (Heap.lt_size e)
  have hl:its.length = ns.length:=by rw [← rv.length,List.length_map]
  refine call_sum_walkG (wpAny_pyIter_list pl.isList ?_)
  refine ⟨s.heap.objs.size,_,_,_,_,_,fun i=>ns.getD i 0,rfl,Walks.list (A:=X.A.in1) (show X.A.in1.handled = none from I.ok.hd hc) s.heap.objs.size p hne its.toArray,⟨⟨_,Heap.get?_push_size _ rfl,rfl,rfl⟩,pl.isList.push _⟩,?_,fun i v hv=>?_,fun h' tk t' hk=>?_⟩
  · intro b hb
    rw [Heap.size_push]
    simp only [List.mem_cons,List.not_mem_nil,or_false] at hb
    rcases hb with rfl | rfl
    · exact Nat.lt_succ_self _
    · obtain ⟨o,e,_⟩:=pl.isList
      exact Nat.lt_succ_of_lt (Heap.lt_size e)
  · have hv':its[i]? = some v:=by simpa using hv
    cases eb:ns[i]? with
    | none=>
      have:=rv.none_of (i:=i) (by rw [List.getElem?_map,eb]; rfl)
      rw [this] at hv'
      cases hv'
    | some b=>
      obtain ⟨u,hu,ru⟩:=rv.get (i:=i) (x:=V.int b) (by rw [List.getElem?_map,eb]; rfl)
      rw [hu] at hv'
      cases hv'
      obtain ⟨t,rfl⟩:=ru
      exact ⟨t,by show Value.int b t = Value.int (ns.getD i 0) t; rw [List.getD_eq_getElem?_getD,eb]; rfl⟩
  · refine ⟨.int ns.sum,H,I.kept fun b o e=>hk b o (fun z=>?_) (Heap.get?_push_of_some _ e),⟨t',?_⟩,q⟩
    · exact absurd (Heap.lt_size e) (by rw [List.mem_singleton.mp z]; exact Nat.lt_irrefl _)
    · congr 1
      rw [List.size_toArray,hl]
      exact preSum_get ns
end
theorem boot_sum:bootBuiltins "sum" = some (.builtin "sum"):=by decide +kernel
end L2
namespace L2
open PySem PySem.Spec PyProof.Rows
section
variable {M:Model} {A:Around} {E:Value→Shared→Prop} {s:Shared}
end
section
variable {X:Cx} {N:List Str} {scope:Scope} {cl:List (Str × Addr)} {x:Str} {px pos:Pos} {iter elt:Expr} {ifs:List Expr} {wi:TI} {ρ:St→St} {tt:TT} {te:TE}
end
end L2
namespace L2
open PySem PySem.Spec PyProof.Rows
def LikeN (K:PySem.W.Frag) (H:Hp):Nat→V→V→Prop
  | 0,v,u=>v = u∧flatV v = true
  | n + 1,v,u=>(v = u∧flatV v = true) ∨ ∃ a b xs ys,v = .ref a∧u = .ref b∧((SqL K H a xs∧SqL K H b ys) ∨ (SqT K H a xs∧SqT K H b ys))∧xs.length = ys.length∧∀ (j:Nat) (x y:V),xs[j]? = some x→ys[j]? = some y→LikeN K H n x y
theorem eqV_self {v:V} (h:flatV v = true):eqV v v = true:=by
  cases v with
  | non=>rfl
  | bl b=>show (b == b) = true; simp
  | int i=>show (i == i) = true; simp
  | str x=>show (x == x) = true; simp
  | _=>cases h
theorem all_range (n:Nat):(List.range n).all (fun _=>true) = true:=by simp
section
variable {X:Cx} {pins:List (Addr × Obj)} {σ:St} {H:Hp} {s:Shared}
theorem like_items (I:Inv X pins σ H s):∀ (n:Nat) (A:Around) (v u:V) (a b:Value),LikeN X.K H n v u→RelV v a→RelV u b→A.units + n < cLine→SeqAt.EqAt A s a b true
  | 0,A,v,u,a,b,h,ra,rb,hu=>by
    obtain ⟨rfl,hf⟩:=h
    have z:=eqAt_V (A:=A) (s:=s) ra rb hf hf
    rw [eqV_self hf] at z
    exact z
  | n + 1,A,v,u,a,b,h,ra,rb,hu=>by
    rcases h with ⟨rfl,hf⟩ | ⟨p,q,xs,ys,rfl,rfl,hs,hl,hi⟩
    · have z:=eqAt_V (A:=A) (s:=s) ra rb hf hf
      rw [eqV_self hf] at z
      exact z
    · cases ra
      cases rb
      by_cases pq:p = q
      · subst pq
        exact SeqAt.EqAt.same _
      rcases hs with ⟨h1,h2⟩ | ⟨h1,h2⟩
      · obtain ⟨us,r1,t1,_⟩:=I.list h1
        obtain ⟨vs,r2,t2,_⟩:=I.list h2
        have l1:=r1.length
        have l2:=r2.length
        have z:=SeqAt.RcAt.lists (A:=A) (e:=fun _=>true) t1.isList t2.isList (by simp; omega) (by omega) (fun j z1 z2=>by
          have z1':j < us.length:=by simpa using z1
          have z2':j < vs.length:=by simpa using z2
          obtain ⟨x,ex⟩:∃ x,xs[j]? = some x:=⟨xs[j],by simp [show j < xs.length by omega]⟩
          obtain ⟨y,ey⟩:∃ y,ys[j]? = some y:=⟨ys[j],by simp [show j < ys.length by omega]⟩
          obtain ⟨x',ex',rx⟩:=r1.get ex
          obtain ⟨y',ey',ry⟩:=r2.get ey
          have e1:us.toArray[j] = x':=by simpa using (List.getElem?_eq_some_iff.mp ex').2
          have e2:vs.toArray[j] = y':=by simpa using (List.getElem?_eq_some_iff.mp ey').2
          rw [e1,e2]
          exact like_items I n A.in1 x y x' y' (hi j x y ex ey) rx ry (by rw [Around.in1_units]; omega))
        rw [all_range] at z
        exact SeqAt.EqAt.of_refs pq z
      · obtain ⟨us,r1,t1,_⟩:=I.tuple h1
        obtain ⟨vs,r2,t2,_⟩:=I.tuple h2
        have l1:=r1.length
        have l2:=r2.length
        have z:=SeqAt.RcAt.tuples (A:=A) (e:=fun _=>true) t1 t2 (by omega) (fun j z1 z2=>by
          have z1':j < us.length:=by simpa using z1
          have z2':j < vs.length:=by simpa using z2
          obtain ⟨x,ex⟩:∃ x,xs[j]? = some x:=⟨xs[j],by simp [show j < xs.length by omega]⟩
          obtain ⟨y,ey⟩:∃ y,ys[j]? = some y:=⟨ys[j],by simp [show j < ys.length by omega]⟩
          obtain ⟨x',ex',rx⟩:=r1.get ex
          obtain ⟨y',ey',ry⟩:=r2.get ey
          have e1:us.toArray[j] = x':=by simpa using (List.getElem?_eq_some_iff.mp ex').2
          have e2:vs.toArray[j] = y':=by simpa using (List.getElem?_eq_some_iff.mp ey').2
          rw [e1,e2]
          exact like_items I n A.in1 x y x' y' (hi j x y ex ey) rx ry (by rw [Around.in1_units]; omega))
        have e3:(us.toArray.size == vs.toArray.size) = true:=by simp; omega
        rw [all_range,e3] at z
        exact SeqAt.EqAt.of_refs pq z
end
section
variable {X:Cx}
def rLike (K:PySem.W.Frag) (n:Nat) (r:Bool):R2:=fun x y H Q=>∃ a b xs ys,x = .ref a∧y = .ref b∧SqL K H a xs∧SqL K H b ys∧xs.length = ys.length∧(∀ (j:Nat) (x y:V),xs[j]? = some x→ys[j]? = some y→LikeN K H n x y)∧Q (.bl r) H
theorem op_eqL {n:Nat} (hu:X.A.units + 64 < cLine) (hn:n < 60:=by decide):OpR X (compareOp .Eq) (rLike X.K n true):=by
  intro pins s σ H x y v u Q I rx ry h
  obtain ⟨a,b,xs,ys,rfl,rfl,h1,h2,hl,hi,q⟩:=h
  cases rx
  cases ry
  obtain ⟨us,r1,t1,_⟩:=I.list h1
  obtain ⟨vs,r2,t2,_⟩:=I.list h2
  have l1:=r1.length
  have l2:=r2.length
  refine SeqAt.eq_listAt (e:=fun _=>true) t1.isList t2.isList (by simp; omega) (by omega) (fun j z1 z2=>?_) ?_
  · have z1':j < us.length:=by simpa using z1
    have z2':j < vs.length:=by simpa using z2
    obtain ⟨x,ex⟩:∃ x,xs[j]? = some x:=⟨xs[j],by simp [show j < xs.length by omega]⟩
    obtain ⟨y,ey⟩:∃ y,ys[j]? = some y:=⟨ys[j],by simp [show j < ys.length by omega]⟩
    obtain ⟨x',ex',rx⟩:=r1.get ex
    obtain ⟨y',ey',ry⟩:=r2.get ey
    have e1:us.toArray[j] = x':=by simpa using (List.getElem?_eq_some_iff.mp ex').2
    have e2:vs.toArray[j] = y':=by simpa using (List.getElem?_eq_some_iff.mp ey').2
    rw [e1,e2]
    exact like_items I n X.A.in1 x y x' y' (hi j x y ex ey) rx ry (by rw [Around.in1_units]; omega)
  · rw [all_range]
    exact ⟨.bl true,H,I,rfl,q⟩
theorem op_neL {n:Nat} (hu:X.A.units + 64 < cLine) (hn:n < 60:=by decide):OpR X (compareOp .NotEq) (rLike X.K n false):=by
  intro pins s σ H x y v u Q I rx ry h
  obtain ⟨a,b,xs,ys,rfl,rfl,h1,h2,hl,hi,q⟩:=h
  cases rx
  cases ry
  obtain ⟨us,r1,t1,_⟩:=I.list h1
  obtain ⟨vs,r2,t2,_⟩:=I.list h2
  have l1:=r1.length
  have l2:=r2.length
  refine SeqAt.RcNeAt.lists (e:=fun _=>true) t1.isList t2.isList (by simp; omega) (by omega) (fun j z1 z2=>?_) _ _ _ _ ?_
  · have z1':j < us.length:=by simpa using z1
    have z2':j < vs.length:=by simpa using z2
    obtain ⟨x,ex⟩:∃ x,xs[j]? = some x:=⟨xs[j],by simp [show j < xs.length by omega]⟩
    obtain ⟨y,ey⟩:∃ y,ys[j]? = some y:=⟨ys[j],by simp [show j < ys.length by omega]⟩
    obtain ⟨x',ex',rx⟩:=r1.get ex
    obtain ⟨y',ey',ry⟩:=r2.get ey
    have e1:us.toArray[j] = x':=by simpa using (List.getElem?_eq_some_iff.mp ex').2
    have e2:vs.toArray[j] = y':=by simpa using (List.getElem?_eq_some_iff.mp ey').2
    rw [e1,e2]
    exact like_items I n X.A.in1 x y x' y' (hi j x y ex ey) rx ry (by rw [Around.in1_units]; omega)
  · rw [all_range]
    exact ⟨.bl false,H,I,rfl,q⟩
end
end L2
namespace L2
open PySem PySem.Spec PyProof.Rows
section
variable {X:Cx} {N:List Str} {scope:Scope} {cl:List (Str × Addr)} {x:Str} {px pos:Pos} {iter elt:Expr} {ifs:List Expr} {wi:TI} {ρ:St→St} {tt:TT} {te:TE}
end
end L2
namespace L2
open PySem PySem.Spec PyProof.Rows
structure JSeq2 (J:It) (zs:List (V × V)) (H1:Hp):Prop where
  go:∀ i Hc,Same H1 Hc→i < zs.length→J.go i Hc
  yld:∀ i Hc v H',Same H1 Hc→J.yld i Hc v H'→∃ T x y,v = .ref T∧Hc T = none∧H' = upd Hc T (.tup [x,y])∧(i < zs.length→zs[i]? = some (x,y))
  stop:∀ i Hc,Same H1 Hc→zs.length ≤ i→J.stop i Hc
theorem jseq_zip {K:PySem.W.Frag} {a b:Addr} {xs ys:List V} {H1:Hp} (h1:SqL K H1 a xs) (h2:SqL K H1 b ys):JSeq2 (Itz K a b) (xs.zip ys) H1 where
  go:=fun i Hc s hi=>by
    have hi:i < min xs.length ys.length:=by simpa using hi
    exact ⟨xs,ys,xs[i],ys[i],s.seq h1,s.seq h2,by simp [show i < xs.length by omega],by simp [show i < ys.length by omega]⟩
  yld:=fun i Hc v H' s y=>by
    obtain ⟨T,x,y,nT,ev,eH,hx⟩:=y
    obtain ⟨e1,e2⟩:=hx xs ys (s.seq h1) (s.seq h2)
    exact ⟨T,x,y,ev,nT,eH,fun _=>by rw [List.getElem?_zip_eq_some]; exact ⟨e1,e2⟩⟩
  stop:=fun i Hc s hi=>by
    have hi:min xs.length ys.length ≤ i:=by simpa using hi
    exact ⟨xs,ys,s.seq h1,s.seq h2,by omega⟩
theorem comp2_of {K:PySem.W.Frag} {wi:TI} {ρ:St→St} {te:TE} {σ:St} {H:Hp} {Q:VK} {zs:List (V × V)} (hwi:∀ R:It→Hp→Prop,(∀ J H1,Same H H1→JSeq2 J zs H1→R J H1)→wi σ H R) (hn:zs.length < sizeLine)
    (P:Nat→V→Prop)
    (step:∀ i x y,zs[i]? = some (x,y)→∀ (Hc:Hp) (R:VK),Same H Hc→(∀ v H3,Same Hc H3→P i v→R v H3)→te (some x :: some y :: ρ σ) Hc R)
    (fin:∀ D vs Hc,Same H Hc→vs.length = zs.length→(∀ (i:Nat) (v:V),vs[i]? = some v→P i v)→Hc D = some (.lst vs)→Q (.ref D) Hc):tComp2 K wi ρ (fun _ H Q=>Q true H) te σ H Q:=by
  refine hwi _ fun J H1 s1 js=>?_
  intro D nD
  refine ⟨fun i m vs Hc=>m = zs.length - i∧i ≤ zs.length∧Hc D = some (.lst vs)∧Same H1 Hc∧vs.length = i∧∀ (j:Nat) (v:V),vs[j]? = some v→P j v,⟨_,rfl,Nat.zero_le _,upd_same,same_but (Same.refl H1) nD,rfl,fun j y e=>by simp at e⟩,?_⟩
  rintro i m vs Hc ⟨rfl,hi,eD,sH,el,hP⟩
  refine ⟨eD,?_⟩
  by_cases hlt:i < zs.length
  · refine .inr ⟨js.go i Hc sH hlt,fun v H' hy=>?_⟩
    obtain ⟨T,x,y,ev,nT,eH,hx⟩:=js.yld i Hc v H' sH hy
    subst ev eH
    refine ⟨T,x,y,rfl,.of upd_same,?_⟩
    dsimp only
    rw [if_pos rfl]
    have sT:Same Hc (upd Hc T (.tup [x,y])):=fun b o e=>by rw [upd_ne (ne_of_none e nT)]; exact e
    refine step i x y (hx hlt) _ _ (s1.trans (sH.trans sT)) fun w H3 s3 hp=>?_
    have e3:=s3 _ _ (sT _ _ eD)
    refine ⟨e3,by omega,zs.length - (i + 1),by omega,rfl,hlt,upd_same,same_but (sH.trans (sT.trans s3)) nD,by simp [el],fun j v' e=>?_⟩
    by_cases hj:j < i
    · exact hP j v' (by rw [List.getElem?_append_left (by omega)] at e; exact e)
    · have hj:j = i:=by
        have:=(List.getElem?_eq_some_iff.mp e).1
        simp at this
        omega
      subst hj
      have e':v' = w:=by rw [List.getElem?_append_right (by omega),el,Nat.sub_self] at e; simpa using e.symm
      subst e'
      exact hp
  · have e:i = zs.length:=by omega
    subst e
    exact .inl ⟨js.stop _ Hc sH (Nat.le_refl _),fin D vs Hc (s1.trans sH) el hP eD⟩
theorem comp_ofN {wi:TI} {ρ:St→St} {te:TE} {σ:St} {H:Hp} {Q:VK} {xs:List V} (hwi:∀ R:It→Hp→Prop,(∀ J H1,Same H H1→JSeq J xs H1→R J H1)→wi σ H R) (hn:xs.length < sizeLine)
    (P:Addr→Nat→V→Hp→Prop) (mono:∀ D i y H H' ys,P D i y H→H D = some (.lst ys)→(∀ b o,b ≠ D→H b = some o→H' b = some o)→P D i y H')
    (step:∀ D i x,xs[i]? = some x→∀ (Hc:Hp) (R:VK),Same H Hc→(∃ ys,Hc D = some (.lst ys))→(∀ y H3,Same Hc H3→P D i y H3→R y H3)→te (some x :: ρ σ) Hc R)
    (fin:∀ D ys Hc,H D = none→Same H Hc→ys.length = xs.length→(∀ (i:Nat) (y:V),ys[i]? = some y→P D i y Hc)→Hc D = some (.lst ys)→Q (.ref D) Hc):tComp wi ρ (fun _ H Q=>Q true H) te σ H Q:=by
  refine hwi _ fun J H1 s1 js=>?_
  intro D nD
  have hD:H D = none:=by
    cases e:H D with
    | none=>rfl
    | some o=>rw [s1 _ _ e] at nD; cases nD
  exact comp_seq (ρσ:=ρ σ) (te:=te) (Q:=Q) js nD hn (P D) (mono D) (fun i x hx Hc R sc=>step D i x hx Hc R (s1.trans sc)) (fun ys Hc sc=>fin D ys Hc hD (s1.trans sc))
end L2
namespace L2
open PySem PySem.Spec PyProof.Rows
section
variable {X:Cx} {K:PySem.W.Frag}
theorem ix_tupK (hK:X.K = K:=by rfl):IxR X (rIxT K):=by
  subst hK
  exact ix_tup
theorem ix_listK (hK:X.K = K:=by rfl):IxR X (rIxL K):=by
  subst hK
  exact ix_list
end
end L2
namespace My
open PySem L2
theorem cb_of {r:List V→Hp→VK→Prop} {te:TE} {σ:St} {H:Hp} {Q:VK} (h:te σ H fun x H1=>r [x] H1 Q):tCB r (tCons te tNil) σ H Q:=h
theorem ret_of {te:TE} {D:Ends} {σ:St} {H:Hp} (h:te σ H D.rt):tRet te D σ H:=h
theorem tup1_of {te:TE} {t:TA} {σ:St} {H:Hp} {Q:VK} (h:te σ H fun x H1=>t σ H1 fun xs H2=>(x :: xs).length ≤ sizeLine∧∀ p,H2 p = none→Q (.ref p) (upd H2 p (.tup (x :: xs)))):tTup (tCons te t) σ H Q:=h
def dotI (ts us:List Int):Int:=(List.zipWith (· * ·) ts us).sum
theorem zip_ints {ts us:List Int} {i:Nat} {x y:V} (h:((ts.map V.int).zip (us.map V.int))[i]? = some (x,y)):∃ t u:Int,x = .int t∧y = .int u∧ts[i]? = some t∧us[i]? = some u:=by
  rw [List.getElem?_zip_eq_some] at h
  obtain ⟨h1,h2⟩:=h
  rw [List.getElem?_map] at h1 h2
  obtain ⟨t,e1,e2⟩:=Option.map_eq_some_iff.mp h1
  obtain ⟨u,e3,e4⟩:=Option.map_eq_some_iff.mp h2
  exact ⟨t,u,e2.symm,e4.symm,e1,e3⟩
theorem vals_of {vs:List V} {ws:List Int} (hl:vs.length = ws.length) (h:∀ (i:Nat) (v:V),vs[i]? = some v→∃ w,ws[i]? = some w∧v = .int w):vs = ws.map V.int:=by
  refine List.ext_getElem? fun i=>?_
  rw [List.getElem?_map]
  by_cases hi:i < vs.length
  · obtain ⟨w,e1,e2⟩:=h i vs[i] (by simp [hi])
    rw [e1,show vs[i]? = some vs[i] by simp [hi],e2]
    rfl
  · rw [List.getElem?_eq_none (by omega),List.getElem?_eq_none (by omega)]
    rfl
def WhNew (H0 H:Hp) (v:V) (ts:List Int) (B:Int):Prop:=∃ tp l:Addr,v = .ref tp∧H tp = some (.tup [.ref l,.int B])∧H l = some (.lst (ts.map V.int))∧H0 l = none
theorem lcm_step {b m:Int} (hb:1 ≤ b) (hm:1 ≤ m):1 ≤ b / (Int.gcd b m:Int) * m∧m ∣ b / (Int.gcd b m:Int) * m∧b ∣ b / (Int.gcd b m:Int) * m∧(b / (Int.gcd b m:Int) * m).natAbs ≤ b.natAbs * m.natAbs:=by
  have gp:=gcd_pos (a:=b) (b:=m) (by omega)
  obtain ⟨b',eb⟩:=Int.gcd_dvd_left (a:=b) (b:=m)
  obtain ⟨m',em⟩:=Int.gcd_dvd_right (a:=b) (b:=m)
  generalize Int.gcd b m = g at *
  have g0:(g:Int) ≠ 0:=by omega
  have gb:b / (g:Int) = b':=by rw [eb]; exact Int.mul_ediv_cancel_left _ g0
  rw [gb]
  have b0:0 < b':=pos_part (u:=(g:Int)) (by omega) (by rw [← eb]; omega)
  have mp:0 < b' * m:=Int.mul_pos b0 (by omega)
  refine ⟨by omega,Int.dvd_mul_left ..,⟨m',?_⟩,?_⟩
  · rw [em,eb]
    simp only [Int.mul_assoc,Int.mul_comm,Int.mul_left_comm]
  · rw [Int.natAbs_mul]
    refine Nat.mul_le_mul_right _ ?_
    rw [← gb]
    exact Int.natAbs_ediv_le_natAbs ..
theorem pick {α β:Type} {xs:List α} {R:Nat→α→β→Prop} (h:∀ (i:Nat) (x:α),xs[i]? = some x→∃ w,R i x w):∃ ws:List β,ws.length = xs.length∧∀ (i:Nat) (x:α) (w:β),xs[i]? = some x→ws[i]? = some w→R i x w:=by
  refine ⟨List.ofFn fun i:Fin xs.length=>Classical.choose (h i.1 xs[i.1] (by simp)),by simp,fun i x w hx hw=>?_⟩
  have hi:i < xs.length:=(List.getElem?_eq_some_iff.mp hx).1
  have ex:xs[i] = x:=(List.getElem?_eq_some_iff.mp hx).2
  rw [List.getElem?_ofFn,dif_pos hi] at hw
  have hw:=Option.some.inj hw
  rw [← hw]
  have z:=Classical.choose_spec (h i xs[i] (by simp [hi]))
  rw [← ex]
  exact z
theorem nz_mul {q b c:Int} (hq:WheelN q) (h1:¬ q ∣ b) (h2:¬ q ∣ c):¬ q ∣ b * c:=fun h=>by
  rcases hq with rfl | ⟨q2,q3,q4⟩
  · have z:=Int.zero_dvd.mp h
    rcases Int.mul_eq_zero.mp z with z | z
    · exact h1 (by rw [z]; exact Int.dvd_refl 0)
    · exact h2 (by rw [z]; exact Int.dvd_refl 0)
  · have k1:=Int.emod_nonneg c (show q ≠ 0 by omega)
    have k2:=Int.emod_lt_of_pos c (show 0 < q by omega)
    have k3:c % q ≠ 0:=fun z=>h2 (Int.dvd_of_emod_eq_zero z)
    have g:=prime_cop q2 q3 q4 (show 1 ≤ c % q by omega) k2
    obtain ⟨w,ew⟩:=mod_wit c q
    exact h1 (dvd_cop q2 (cop_cong g ⟨-w,by rw [Int.mul_neg]; omega⟩) h)
def BotOk (q:Int) (b:Int):Prop:=(q = 0→1 ≤ b)∧(q ≠ 0→b = 1)
theorem bls_of {vs:List V} {b:Bool} (h:∀ (i:Nat) (v:V),vs[i]? = some v→v = .bl b):vs = (List.replicate vs.length b).map V.bl:=by
  refine List.ext_getElem? fun i=>?_
  rw [List.getElem?_map]
  by_cases hi:i < vs.length
  · rw [show vs[i]? = some vs[i] by simp [hi],h i vs[i] (by simp [hi])]
    simp [hi]
  · rw [List.getElem?_eq_none (by omega),List.getElem?_eq_none (by simp; omega)]
    rfl
theorem all_yes (n:Nat):(List.replicate n true).all id = true:=by simp
theorem rng_at {n i:Nat} {v:V} (h:((List.range n).map fun i:Nat=>V.int (0 + (i:Int)))[i]? = some v):i < n∧v = .int (i:Int):=by
  have hi':i < n:=by
    have:=(List.getElem?_eq_some_iff.mp h).1
    simpa using this
  refine ⟨hi',?_⟩
  rw [List.getElem?_map] at h
  simp [hi'] at h
  exact h.symm
theorem none_of {H H':Hp} {b:Addr} (s:Same H H') (h:H' b = none):H b = none:=by
  cases e:H b with
  | none=>rfl
  | some o=>rw [s _ _ e] at h; cases h
theorem isN_like {K:PySem.W.Frag} {H:Hp} {q:Int} {v u:V} {t b t' b':Int} (hv:IsN H q v t b) (hu:IsN H q u t' b') (e:t * b' = t' * b) (n:Nat):LikeN K H (n + 1) v u:=by
  rcases isN_alike hv hu e with ⟨p,p',x,m,rfl,rfl,e1,e2⟩ | ⟨i,rfl,rfl⟩
  · refine .inr ⟨p,p',_,_,rfl,rfl,.inr ⟨.of e1,.of e2⟩,rfl,fun j x y h1 h2=>?_⟩
    rw [h1] at h2
    cases h2
    have hf:flatV x = true:=by
      match j,h1 with
      | 0,h1=>cases h1; rfl
      | 1,h1=>cases h1; rfl
      | j + 2,h1=>cases h1
    cases n with
    | zero=>exact ⟨rfl,hf⟩
    | succ n=>exact .inl ⟨rfl,hf⟩
  · exact .inl ⟨rfl,rfl⟩
end My
namespace My
open PySem L2
def o1:Int × Int:=(0,1)
theorem getD_at {α:Type} {xs:List α} {d:α} {i:Nat} (hi:i < xs.length):xs.getD i d = xs[i]:=by
  rw [List.getD_eq_getElem?_getD,show xs[i]? = some xs[i] by simp [hi]]
  rfl
end My
namespace My
open PySem L2
end My
namespace My
open PySem L2
def Weq (q:Int) (p t:Int × Int):Prop:=q ∣ p.1 * t.2 - t.1 * p.2
theorem Weq.refl {q:Int} (p:Int × Int):Weq q p p:=⟨0,by rw [Int.sub_self,Int.mul_zero]⟩
theorem Weq.symm {q:Int} {p t:Int × Int} (h:Weq q p t):Weq q t p:=by
  obtain ⟨k,e⟩:=h
  exact ⟨-k,by rw [Int.mul_neg]; omega⟩
def sumN:Nat→(Nat→Int)→Int
  | 0,_=>0
  | n + 1,f=>f 0 + sumN n fun i=>f (i + 1)
theorem sumN_congr:∀ {n:Nat} {f g:Nat→Int},(∀ i,i < n→f i = g i)→sumN n f = sumN n g
  | 0,f,g,_=>rfl
  | n + 1,f,g,h=>by
    unfold sumN
    rw [h 0 (by omega),sumN_congr fun i hi=>h (i + 1) (by omega)]
theorem sumN_add:∀ (n:Nat) (f g:Nat→Int),sumN n (fun i=>f i + g i) = sumN n f + sumN n g
  | 0,f,g=>rfl
  | n + 1,f,g=>by
    show f 0 + g 0 + sumN n (fun i=>f (i + 1) + g (i + 1)) = (f 0 + sumN n fun i=>f (i + 1)) + (g 0 + sumN n fun i=>g (i + 1))
    rw [sumN_add n]
    omega
theorem sumN_mul (c:Int):∀ (n:Nat) (f:Nat→Int),c * sumN n f = sumN n fun i=>c * f i
  | 0,f=>by unfold sumN; rw [Int.mul_zero]
  | n + 1,f=>by
    unfold sumN
    rw [Int.mul_add,sumN_mul c n]
theorem sumN_zero:∀ (n:Nat),sumN n (fun _=>0) = 0
  | 0=>rfl
  | n + 1=>by unfold sumN; rw [sumN_zero n]; rfl
theorem sumN_swap:∀ (n m:Nat) (F:Nat→Nat→Int),sumN n (fun i=>sumN m fun j=>F i j) = sumN m fun j=>sumN n fun i=>F i j
  | 0,m,F=>by
    show (0:Int) = _
    rw [show (fun j=>sumN 0 fun i=>F i j) = fun _=>(0:Int) from rfl,sumN_zero]
  | n + 1,m,F=>by
    show (sumN m fun j=>F 0 j) + sumN n (fun i=>sumN m fun j=>F (i + 1) j) = sumN m fun j=>F 0 j + sumN n fun i=>F (i + 1) j
    rw [sumN_swap n m,← sumN_add]
theorem sumN_one:∀ (n j:Nat) (f:Nat→Int),j < n→sumN n (fun i=>if i = j then f i else 0) = f j
  | n + 1,0,f,_=>by
    show (if (0:Nat) = 0 then f 0 else 0) + sumN n (fun i=>if i + 1 = 0 then f (i + 1) else 0) = f 0
    rw [if_pos rfl,show (fun i=>if i + 1 = 0 then f (i + 1) else 0) = fun _=>(0:Int) from funext fun i=>if_neg (by omega),sumN_zero]
    omega
  | n + 1,j + 1,f,h=>by
    show (if (0:Nat) = j + 1 then f 0 else 0) + sumN n (fun i=>if i + 1 = j + 1 then f (i + 1) else 0) = f (j + 1)
    rw [if_neg (by omega),show (fun i=>if i + 1 = j + 1 then f (i + 1) else 0) = fun i=>if i = j then (fun i=>f (i + 1)) i else 0 from funext fun i=>by by_cases z:i = j <;> simp [z],sumN_one n j (fun i=>f (i + 1)) (by omega)]
    omega
end My
namespace My
open PySem L2
end My
namespace My
open PySem L2
theorem BotOk.mul {q a b:Int} (h1:BotOk q a) (h2:BotOk q b):BotOk q (a * b):=⟨fun z=>by
    have:=Int.mul_pos (show 0 < a by have:=h1.1 z; omega) (show 0 < b by have:=h2.1 z; omega)
    omega,fun z=>by rw [h1.2 z,h2.2 z]; rfl⟩
theorem BotOk.one {q:Int}:BotOk q 1:=⟨fun _=>by decide,fun _=>rfl⟩
theorem sums_assoc (k m:Nat) (A:Nat→Int) (B:Nat→Nat→Int) (R:Nat→Int):(sumN k fun j=>(sumN m fun l=>A l * B l j) * R j) = sumN m fun l=>A l * sumN k fun j=>B l j * R j:=by
  have e1:(fun j=>(sumN m fun l=>A l * B l j) * R j) = fun j=>sumN m fun l=>A l * (B l j * R j):=funext fun j=>by
    rw [Int.mul_comm,sumN_mul]
    exact sumN_congr fun l _=>by rw [Int.mul_comm,Int.mul_assoc]
  rw [e1,sumN_swap]
  exact sumN_congr fun l _=>(sumN_mul ..).symm
end My
namespace My
open PySem L2
def er (P:Addr) (H:Hp):Hp:=fun b=>if b = P then none else H b
theorem er_le {P:Addr} {H:Hp}:Same (er P H) H:=fun b o e=>by
  unfold er at e
  split at e
  · cases e
  · exact e
theorem er_ne {P b:Addr} {H:Hp} (h:b ≠ P):er P H b = H b:=if_neg h
theorem er_some {P b:Addr} {H:Hp} {o:HO} (h:b ≠ P) (e:H b = some o):er P H b = some o:=by rw [er_ne h]; exact e
theorem er_same {P:Addr} {H H':Hp} (s:Same H H'):Same (er P H) (er P H'):=fun b o e=>by
  unfold er at e ⊢
  split at e
  · cases e
  · rename_i h
    rw [if_neg h]
    exact s _ _ e
theorem er_upd {P:Addr} {H:Hp} {o:HO}:er P (upd H P o) = er P H:=funext fun b=>by
  unfold er
  split
  · rfl
  · rename_i h
    exact upd_ne h
def PenC (H:Hp) (P a:Addr):Prop:=∃ x y:Int,H P = some (.lst [.ref a,.int x,.int y])∧0 ≤ x∧0 ≤ y
theorem PenC.mono {H H':Hp} {P a:Addr} (h:PenC H P a) (s:Same H H'):PenC H' P a:=by
  obtain ⟨x,y,e,h1,h2⟩:=h
  exact ⟨x,y,s _ _ e,h1,h2⟩
theorem PenC.upd {H:Hp} {P a D:Addr} {o:HO} (h:PenC H P a) (n:D ≠ P):PenC (L2.upd H D o) P a:=by
  obtain ⟨x,y,e,h1,h2⟩:=h
  exact ⟨x,y,by rw [upd_ne n.symm]; exact e,h1,h2⟩
theorem PenC.ne {H:Hp} {P a D:Addr} (h:PenC H P a) (n:H D = none):D ≠ P:=fun z=>by
  obtain ⟨x,y,e,_⟩:=h
  rw [z,e] at n
  cases n
def SameE (P:Addr) (H H':Hp):Prop:=Same (er P H) (er P H')
theorem SameE.refl {P:Addr} (H:Hp):SameE P H H:=Same.refl _
theorem SameE.trans {P:Addr} {H H' H2:Hp} (s:SameE P H H') (t:SameE P H' H2):SameE P H H2:=Same.trans s t
theorem SameE.of {P:Addr} {H H':Hp} (s:Same H H'):SameE P H H':=er_same s
theorem SameE.pen {P:Addr} {H:Hp} {o:HO}:SameE P H (upd H P o):=by
  unfold SameE
  rw [er_upd]
  exact Same.refl _
theorem SameE.but {P D:Addr} {H H':Hp} {o:HO} (s:SameE P H H') (n:H D = none):SameE P H (upd H' D o):=fun b u e=>by
  have e0:=s b u e
  have nb:b ≠ P:=fun z=>by unfold er at e; rw [if_pos z] at e; cases e
  rw [er_ne nb] at e e0 ⊢
  rw [upd_ne (ne_of_none e n)]
  exact e0
theorem SameE.at {P b:Addr} {H H':Hp} {o:HO} (s:SameE P H H') (nb:b ≠ P) (e:H b = some o):H' b = some o:=by
  have z:=s b o (er_some nb e)
  rw [er_ne nb] at z
  exact z
def RowG (B:Nat) (H:Hp) (q:Int) (a:Addr) (ps:List (Int × Int)):Prop:=∃ vs:List V,H a = some (.lst vs)∧vs.length = ps.length∧∀ (i:Nat) (v:V) (p:Int × Int),vs[i]? = some v→ps[i]? = some p→NumAt B H q v p.1 p.2
theorem RowG.mono {B:Nat} {H H':Hp} {q:Int} {a:Addr} {ps:List (Int × Int)} (h:RowG B H q a ps) (s:Same H H'):RowG B H' q a ps:=by
  obtain ⟨vs,e,l,k⟩:=h
  exact ⟨vs,s _ _ e,l,fun i v p h1 h2=>(k i v p h1 h2).mono s⟩
theorem NumAt.weak {B B':Nat} {H:Hp} {q:Int} {v:V} {x m:Int} (h:NumAt B H q v x m) (hb:B ≤ B'):NumAt B' H q v x m:=by
  cases h with
  | frac e l bx bm=>exact .frac e l (Nat.le_trans bx hb) (Nat.le_trans bm hb)
  | rem h0 h1 h2=>exact .rem h0 h1 h2
theorem RowG.weak {B B':Nat} {H:Hp} {q:Int} {a:Addr} {ps:List (Int × Int)} (h:RowG B H q a ps) (hb:B ≤ B'):RowG B' H q a ps:=by
  obtain ⟨vs,e,l,k⟩:=h
  exact ⟨vs,e,l,fun i v p h1 h2=>(k i v p h1 h2).weak hb⟩
theorem rowG_like {K:PySem.W.Frag} {B B':Nat} {H:Hp} {q:Int} (hq:WheelN q) {a b:Addr} {ps:List (Int × Int)} (h1:RowG B H q a ps) (h2:RowG B' H q b ps) (n:Nat):LikeN K H (n + 2) (.ref a) (.ref b):=by
  obtain ⟨vs,e1,l1,f1⟩:=h1
  obtain ⟨us,e2,l2,f2⟩:=h2
  refine .inr ⟨a,b,vs,us,rfl,rfl,.inl ⟨.of e1,.of e2⟩,by omega,fun j x y hx hy=>?_⟩
  have hj:j < ps.length:=by rw [← l1]; exact (List.getElem?_eq_some_iff.mp hx).1
  exact isN_like ((f1 j x ps[j] hx (by simp [hj])).isN hq) ((f2 j y ps[j] hy (by simp [hj])).isN hq) rfl n
theorem rowG_rlike {K:PySem.W.Frag} {B B':Nat} {H:Hp} {q:Int} (hq:WheelN q) {a b:Addr} {ps:List (Int × Int)} {R:VK} {r:Bool} (h1:RowG B H q a ps) (h2:RowG B' H q b ps) (k:R (.bl r) H):rLike K 1 r (.ref a) (.ref b) H R:=by
  obtain ⟨vs,e1,l1,f1⟩:=h1
  obtain ⟨us,e2,l2,f2⟩:=h2
  refine ⟨a,b,vs,us,rfl,rfl,.of e1,.of e2,by omega,fun j x y hx hy=>?_,k⟩
  have hj:j < ps.length:=by rw [← l1]; exact (List.getElem?_eq_some_iff.mp hx).1
  exact isN_like ((f1 j x ps[j] hx (by simp [hj])).isN hq) ((f2 j y ps[j] hy (by simp [hj])).isN hq) rfl 0
theorem eqM_zero {K:PySem.W.Frag} {B B':Nat} {H:Hp} {q:Int} {v u:V} {x m:Int} {R:VK} (hv:NumAt B H q v x m) (hu:NumAt B' H q u 0 1) (k:R (.bl (decide (x = 0))) H):rEqM K v u H R:=by
  cases hv with
  | frac e l bx bm=>
    cases hu with
    | frac e' l' _ _=>
      refine .inr (.inr (.inl ⟨_,_,_,_,rfl,rfl,.of e,.of e',rfl,rfl,?_⟩))
      have z:(eqL [V.int x,V.int m] [V.int 0,V.int 1]) = decide (x = 0):=by
        show ((x == 0) && ((m == 1) && true)) = _
        by_cases hx:x = 0
        · subst hx
          have:=l.cop
          rw [Int.gcd_zero_left] at this
          have:=l.pos
          have:m = 1:=by omega
          subst this
          rfl
        · rw [decide_eq_false hx,show (x == 0) = false from beq_eq_false_iff_ne.mpr hx]
          rfl
      show R (.bl (eqL [V.int x,V.int m] [V.int 0,V.int 1])) H
      rw [z]
      exact k
    | rem h0 h1 h2=>omega
  | rem h0 h1 h2=>
    cases hu with
    | frac=>omega
    | rem h0' h1' h2'=>
      refine .inr (.inr (.inr ⟨by simp [scal],?_⟩))
      rw [dV_int]
      exact k
def cutTo (ps:List (Int × Int)):Nat→Nat
  | 0=>0
  | n + 1=>if (ps.getD n o1).1 = 0 then cutTo ps n else n + 1
theorem cutTo_le (ps:List (Int × Int)):∀ n,cutTo ps n ≤ n
  | 0=>Nat.le_refl _
  | n + 1=>by
    unfold cutTo
    split
    · exact Nat.le_trans (cutTo_le ps n) (Nat.le_succ n)
    · exact Nat.le_refl _
def cutP (ps:List (Int × Int)):List (Int × Int):=ps.take (cutTo ps ps.length)
theorem cutV_take (xs:List V) (k:Nat) (h:k ≤ xs.length):cutV xs none (some (k:Int)) = xs.take k:=by
  have e:HT.sIx xs.length xs.length (some (k:Int)) = k:=by
    rw [HT.sIx_nat]
    omega
  unfold cutV
  rw [e,show HT.sIx xs.length 0 none = 0 from rfl,List.drop_zero,Nat.sub_zero]
end My
namespace L2
open PySem PySem.Spec PyProof.Rows
def rNeE (K:PySem.W.Frag):R2:=fun x y H Q=>∃ a b xs,x = .ref a∧y = .ref b∧SqL K H a xs∧H b = some (.lst [])∧(∀ v ∈ xs,∃ i,v = .int i)∧Q (.bl (!xs.isEmpty)) H
theorem op_neE {X:Cx} (hu:X.A.units + 64 < cLine):OpR X (compareOp .NotEq) (rNeE X.K):=by
  intro pins s σ H x y v u Q I rx ry h
  obtain ⟨a,b,xs,rfl,rfl,h1,h2,_,q⟩:=h
  cases rx
  cases ry
  obtain ⟨us,r1,t1,_⟩:=I.list h1
  obtain ⟨vs,r2,t2,_⟩:=I.list (SqL.of h2)
  have l1:=r1.length
  have l2:=r2.length
  cases xs with
  | nil=>
    refine SeqAt.RcNeAt.lists (e:=fun _=>true) t1.isList t2.isList (by simp at l1 l2 ⊢; omega) (by omega) (fun j z1 z2=>?_) _ _ _ _ ?_
    · simp at l1
      have:us = []:=List.length_eq_zero_iff.mp l1.symm
      subst this
      simp at z1
    · rw [all_range]
      exact ⟨.bl false,H,I,rfl,q⟩
  | cons w ws=>
    refine SeqAt.RcNeAt.lists_lengths t1.isList t2.isList ?_ (by omega) _ _ _ _ ⟨.bl true,H,I,rfl,q⟩
    simp at l1 l2 ⊢
    omega
end L2
namespace My
open PySem L2
def tdOf (q:Int):Td:=if q = 0 then .a "fractions" else .b "wheel" q
theorem tdOf_good {q:Int} (hq:WheelN q):(tdOf q).good = true:=by
  unfold tdOf
  rcases hq with rfl | ⟨h1,h2,h3⟩
  · rw [if_pos rfl]; simp [Td.good,Td.isF]
  · rw [if_neg (by omega)]; simp [Td.good,Td.isF,Td.isW,h1,h2,h3]
theorem tdOf_zero:tdOf 0 = .a "fractions":=if_pos rfl
theorem tdOf_pos {q:Int} (h:q ≠ 0):tdOf q = .b "wheel" q:=if_neg h
def ToldAt (H:Hp) (td:Addr) (q:Int):Prop:=H td = some (.tup (tdOf q).vs)
theorem ToldAt.mono {H H':Hp} {td:Addr} {q:Int} (h:ToldAt H td q) (s:Same H H'):ToldAt H' td q:=s _ _ h
def spFill:Sp:=fun vs H Q _=>∃ c a:Int,vs = [.int c,.int a]∧0 ≤ a∧∀ r:Int,0 ≤ r→Q (.int r) H
def spNext (K:PySem.W.Frag):Sp:=fun vs H Q _=>∃ (P a:Addr) (ns:List Int) (many:Int),vs = [.ref P,.int many]∧PenC H P a∧SqL K (er P H) a (ns.map V.int)∧1 ≤ many∧Mid many∧∀ (r:Int) (H':Hp),0 ≤ r→r < many→SameE P H H'→PenC H' P a→Q (.int r) H'
def ofP (q i:Int):Int × Int:=if q = 0 then (i,1) else (i % q,1)
def addP (q:Int) (p r:Int × Int):Int × Int:=if q = 0 then (lowU (p.1 * r.2 + r.1 * p.2) (p.2 * r.2),lowD (p.1 * r.2 + r.1 * p.2) (p.2 * r.2)) else ((p.1 + r.1) % q,1)
def mulQ (q:Int) (p r:Int × Int):Int × Int:=if q = 0 then (lowU (p.1 * r.1) (p.2 * r.2),lowD (p.1 * r.1) (p.2 * r.2)) else (p.1 * r.1 % q,1)
def spEOf (B:Nat):Sp:=fun vs H Q _=>∃ (td:Addr) (q i:Int),vs = [.ref td,.int i]∧ToldAt H td q∧WheelN q∧i.natAbs ≤ B∧1000 ≤ B∧∀ (v:V) (H':Hp),Same H H'→NumAt B H' q v (ofP q i).1 (ofP q i).2→Q v H'
theorem low_num {B:Nat} {H:Hp} {r:Addr} {a b:Int} (e:H r = some (.tup [.int (lowU a b),.int (lowD a b)])) (hb:1 ≤ b) (ba:a.natAbs ≤ B) (bb:b.natAbs ≤ B):NumAt B H 0 (.ref r) (lowU a b) (lowD a b):=by
  obtain ⟨u,d,e1,e2,l,l1,l2⟩:=low_of (a:=a) hb
  unfold lowU lowD at e ⊢
  rw [e1,e2] at e ⊢
  exact .frac e l (Nat.le_trans l1 ba) (Nat.le_trans l2 bb)
def spEIs:Sp:=fun vs H Q _=>∃ (td:Addr) (q:Int) (v:V) (x m:Int) (B:Nat),vs = [.ref td,v]∧ToldAt H td q∧WheelN q∧NumAt B H q v x m∧B ≤ 10 ^ 300∧∀ H',Same H H'→Q (.bl true) H'
def spERowIs:Sp:=fun vs H Q _=>∃ (td a:Addr) (q:Int) (ps:List (Int × Int)) (B:Nat),vs = [.ref td,.ref a]∧ToldAt H td q∧WheelN q∧RowG B H q a ps∧ps.length ≤ 1000∧B ≤ 10 ^ 300∧∀ H',Same H H'→Q (.bl true) H'
def spEWorld (K:PySem.W.Frag):Sp:=fun vs H Q _=>∃ (P a:Addr) (ns:List Int),vs = [.ref P]∧PenC H P a∧SqL K (er P H) a (ns.map V.int)∧∀ (td:Addr) (q:Int) (H':Hp),WheelN q→SameE P H H'→PenC H' P a→ToldAt (er P H') td q→Q (.ref td) H'
theorem NumAt.er {B:Nat} {H H':Hp} {q:Int} {v:V} {x m:Int} {P a:Addr} (h:NumAt B H q v x m) (p:PenC H P a):NumAt B (er P H) q v x m:=by
  cases h with
  | frac e l bx bm=>
    refine .frac (er_some (fun z=>?_) e) l bx bm
    obtain ⟨x,y,e',_⟩:=p
    rw [z,e'] at e
    cases e
  | rem h0 h1 h2=>exact .rem h0 h1 h2
theorem NumAt.farE {B:Nat} {H H':Hp} {q:Int} {v:V} {x m:Int} {P D:Addr} {ys:List V} (h:NumAt B (My.er P H) q v x m) (eD:H D = some (.lst ys)) (k:∀ b o,b ≠ D→b ≠ P→H b = some o→H' b = some o):NumAt B (My.er P H') q v x m:=by
  cases h with
  | frac e l bx bm=>
    rename_i r
    have nP:r ≠ P:=fun z=>by unfold My.er at e; rw [if_pos z] at e; cases e
    rw [er_ne nP] at e
    refine .frac (er_some nP (k _ _ (fun z=>?_) nP e)) l bx bm
    rw [z,eD] at e
    cases e
  | rem h0 h1 h2=>exact .rem h0 h1 h2
theorem rowG_pick {B:Nat} {H:Hp} {q:Int} {D:Addr} {ys:List V} (eD:H D = some (.lst ys)) (hP:∀ (i:Nat) (y:V),ys[i]? = some y→∃ xm:Int × Int,NumAt B H q y xm.1 xm.2):∃ ps,RowG B H q D ps∧ps.length = ys.length:=by
  obtain ⟨ps,lp,hp⟩:=pick (R:=fun _ y xm=>NumAt B H q y (Prod.fst xm) (Prod.snd xm)) hP
  exact ⟨ps,⟨ys,eD,lp.symm,fun i v x h1 h2=>hp i v x h1 h2⟩,lp⟩
theorem RowG.cat {B:Nat} {H:Hp} {q:Int} {r:Addr} {vs us:List V} {ps rs:List (Int × Int)} (e:H r = some (.lst (vs ++ us))) (l1:vs.length = ps.length) (l2:us.length = rs.length) (f1:∀ (i:Nat) (v:V) (p:Int × Int),vs[i]? = some v→ps[i]? = some p→NumAt B H q v p.1 p.2) (f2:∀ (i:Nat) (v:V) (p:Int × Int),us[i]? = some v→rs[i]? = some p→NumAt B H q v p.1 p.2):RowG B H q r (ps ++ rs):=by
  refine ⟨vs ++ us,e,by simp [l1,l2],fun i v p h1 h2=>?_⟩
  by_cases hi:i < vs.length
  · rw [List.getElem?_append_left hi] at h1
    rw [List.getElem?_append_left (by omega)] at h2
    exact f1 i v p h1 h2
  · rw [List.getElem?_append_right (by omega)] at h1
    rw [List.getElem?_append_right (by omega),← l1] at h2
    exact f2 _ v p h1 h2
end My
namespace L2
open PySem PySem.Spec PyProof.Rows
end L2
namespace My
open PySem L2
end My
namespace L2
open PySem PySem.Spec PyProof.Rows
section
variable {X:Cx}
end
end L2
namespace My
open PySem L2
theorem sumN_last:∀ (n:Nat) (f:Nat→Int),sumN (n + 1) f = sumN n f + f n
  | 0,f=>by show f 0 + 0 = 0 + f 0; omega
  | n + 1,f=>by
    show f 0 + sumN (n + 1) (fun i=>f (i + 1)) = (f 0 + sumN n fun i=>f (i + 1)) + f (n + 1)
    rw [sumN_last n]
    omega
end My
namespace My
open PySem L2
theorem Mid.of300 {B:Nat} (hB:B ≤ 10 ^ 300) {x:Int} (h:x.natAbs ≤ 2 * B * B):Mid x:=by
  have z:2 * B * B ≤ 2 * 10 ^ 300 * 10 ^ 300:=Nat.mul_le_mul (Nat.mul_le_mul_left 2 hB) hB
  exact Nat.lt_of_le_of_lt (Nat.le_trans h z) (by decide +kernel)
def spEArith3 (f:Int→Int × Int→Int × Int→Int × Int):Sp:=fun vs H Q _=>∃ (td:Addr) (q:Int) (v u:V) (p r:Int × Int) (B:Nat),vs = [.ref td,v,u]∧ToldAt H td q∧WheelN q∧NumAt B H q v p.1 p.2∧NumAt B H q u r.1 r.2∧1000 ≤ B∧B ≤ 10 ^ 300∧∀ (v':V) (H':Hp),Same H H'→NumAt (2 * B * B) H' q v' (f q p r).1 (f q p r).2→Q v' H'
def canP (q T D:Int):Int × Int:=if q = 0 then (lowU T D,lowD T D) else (T % q,1)
theorem canP_worth {q T D:Int} (ok:BotOk q D):Weq q (canP q T D) (T,D):=by
  unfold canP Weq
  by_cases z:q = 0
  · subst z
    have hD:=ok.1 rfl
    have e:=(low_fd (a:=T) (show D ≠ 0 by omega)).2.1
    rw [if_pos rfl]
    exact ⟨0,by dsimp only; rw [e]; omega⟩
  · rw [if_neg z,ok.2 z]
    obtain ⟨w,ew⟩:=mod_wit T q
    exact ⟨-w,by dsimp only; rw [Int.mul_neg]; omega⟩
def Canon (q:Int) (p:Int × Int):Prop:=(q = 0→Low p.1 p.2)∧(q ≠ 0→p.2 = 1∧0 ≤ p.1∧p.1 < q)
theorem NumAt.canon {B:Nat} {H:Hp} {q:Int} {v:V} {x m:Int} (h:NumAt B H q v x m):Canon q (x,m):=by
  cases h with
  | frac e l bx bm=>exact ⟨fun _=>l,fun z=>absurd rfl z⟩
  | rem h0 h1 h2=>exact ⟨fun z=>by omega,fun _=>⟨rfl,h0,h1⟩⟩
theorem canon_uniq {q:Int} (hq:WheelN q) {p r:Int × Int} (h1:Canon q p) (h2:Canon q r) (e:Weq q p r):p = r:=by
  obtain ⟨x,m⟩:=p
  obtain ⟨y,n⟩:=r
  unfold Weq at e
  dsimp only at e
  by_cases z:q = 0
  · subst z
    have l1:=h1.1 rfl
    have l2:=h2.1 rfl
    have e:=Int.zero_dvd.mp e
    obtain ⟨a,b⟩:=low_same l1 l2 (show x * n = y * m by omega)
    dsimp only at a b
    rw [a,b]
  · obtain ⟨a1,a2,a3⟩:=h1.2 z
    obtain ⟨b1,b2,b3⟩:=h2.2 z
    dsimp only at a1 a2 a3 b1 b2 b3
    subst a1 b1
    rw [Int.mul_one,Int.mul_one] at e
    obtain ⟨k,ek⟩:=e
    have:k = 0:=by
      rcases Int.lt_trichotomy k 0 with h | h | h
      · have:=Int.mul_le_mul_of_nonneg_left (show k ≤ -1 by omega) (show 0 ≤ q by omega)
        omega
      · exact h
      · have:=Int.mul_le_mul_of_nonneg_left (show 1 ≤ k by omega) (show 0 ≤ q by omega)
        omega
    rw [this,Int.mul_zero] at ek
    rw [show x = y by omega]
theorem canP_canon {q T D:Int} (hq:WheelN q) (ok:BotOk q D):Canon q (canP q T D):=by
  unfold canP
  refine ⟨fun z=>?_,fun z=>?_⟩
  · rw [if_pos z]
    exact (low_fd (a:=T) (show D ≠ 0 by have:=ok.1 z; omega)).1
  · rw [if_neg z]
    have q2:0 < q:=by rcases hq with h | h <;> omega
    exact ⟨rfl,Int.emod_nonneg _ z,Int.emod_lt_of_pos _ q2⟩
theorem NumAt.sized {B B':Nat} {H:Hp} {q:Int} {v:V} {x m:Int} (h:NumAt B H q v x m) (bx:x.natAbs ≤ B') (bm:m.natAbs ≤ B'):NumAt B' H q v x m:=by
  cases h with
  | frac e l _ _=>exact .frac e l bx bm
  | rem h0 h1 h2=>exact .rem h0 h1 h2
theorem Canon.bot {q:Int} {p:Int × Int} (h:Canon q p):BotOk q p.2:=⟨fun z=>(h.1 z).pos,fun z=>(h.2 z).1⟩
theorem addP_canon {q:Int} (hq:WheelN q) {p r:Int × Int} (h1:Canon q p) (h2:Canon q r):Canon q (addP q p r)∧Weq q (addP q p r) (p.1 * r.2 + r.1 * p.2,p.2 * r.2):=by
  have e:addP q p r = canP q (p.1 * r.2 + r.1 * p.2) (p.2 * r.2):=by
    unfold addP canP
    by_cases z:q = 0
    · rw [if_pos z,if_pos z]
    · rw [if_neg z,if_neg z,(h1.2 z).1,(h2.2 z).1,Int.mul_one,Int.mul_one]
  rw [e]
  exact ⟨canP_canon hq (h1.bot.mul h2.bot),canP_worth (h1.bot.mul h2.bot)⟩
theorem mulQ_canon {q:Int} (hq:WheelN q) {p r:Int × Int} (h1:Canon q p) (h2:Canon q r):Canon q (mulQ q p r)∧Weq q (mulQ q p r) (p.1 * r.1,p.2 * r.2):=by
  have e:mulQ q p r = canP q (p.1 * r.1) (p.2 * r.2):=rfl
  rw [e]
  exact ⟨canP_canon hq (h1.bot.mul h2.bot),canP_worth (h1.bot.mul h2.bot)⟩
end My
namespace My
open PySem L2
theorem BotOk.nz {q b:Int} (hq:WheelN q) (h:BotOk q b):¬ q ∣ b:=fun hd=>by
  by_cases z:q = 0
  · subst z
    have:=h.1 rfl
    have:=Int.zero_dvd.mp hd
    omega
  · rw [h.2 z] at hd
    have q2:2 ≤ q:=by rcases hq with h | h <;> omega
    have:=Int.le_of_dvd (by decide) hd
    omega
theorem lcm_dvd {b m D:Int} (hb:1 ≤ b) (hm:1 ≤ m) (h1:b ∣ D) (h2:m ∣ D):b / (Int.gcd b m:Int) * m ∣ D:=by
  have gp:=gcd_pos (a:=b) (b:=m) (by omega)
  obtain ⟨b',eb⟩:=Int.gcd_dvd_left (a:=b) (b:=m)
  have g0:(Int.gcd b m:Int) ≠ 0:=by omega
  have gb:b / (Int.gcd b m:Int) = b':=by
    conv=>lhs; lhs; rw [eb]
    exact Int.mul_ediv_cancel_left _ g0
  have z:((Int.lcm b m:Nat):Int) ∣ D:=Int.coe_lcm_dvd h1 h2
  have e:((Int.lcm b m:Nat):Int) = b' * m:=by
    have h:=Int.gcd_mul_lcm b m
    have h2:((Int.gcd b m:Nat):Int) * ((Int.lcm b m:Nat):Int) = ((b * m).natAbs:Int):=by
      rw [← Int.natCast_mul,h,Int.natAbs_mul]
    have bm:0 < b * m:=Int.mul_pos (by omega) (by omega)
    have h3:((b * m).natAbs:Int) = b * m:=by omega
    rw [h3] at h2
    refine Int.eq_of_mul_eq_mul_left g0 ?_
    rw [h2,← Int.mul_assoc,← eb]
  rw [gb,← e]
  exact z
structure WhD (q:Int) (ps:List (Int × Int)) (ts:List Int) (b D:Int) (B:Nat):Prop where
  len:ts.length = ps.length
  ok:BotOk q b
  dvd:b ∣ D
  each:∀ i,i < ps.length→ts.getD i 0 * (ps.getD i o1).2 = (ps.getD i o1).1 * b∧(ts.getD i 0).natAbs ≤ B * D.natAbs
def spWh2:Sp:=fun vs H Q _=>∃ (a:Addr) (ps:List (Int × Int)) (B:Nat) (D:Int),vs = [.ref a]∧RowG B H 0 a ps∧ps.length ≤ 100∧BotOk 0 D∧(∀ p ∈ ps,p.2 ∣ D)∧B ≤ 10 ^ 150∧D.natAbs ≤ 10 ^ 150∧∀ (v:V) (H':Hp) (ts:List Int) (b:Int),Same H H'→WhNew H H' v ts b→WhD 0 ps ts b D B→Q v H'
def spAsW2 (C:Addr):Sp:=fun vs H Q _=>∃ (z a:Addr) (q:Int) (ps:List (Int × Int)) (B:Nat) (D:Int),vs = [.ref z,.ref a]∧WorldAt C H z q∧WheelN q∧RowG B H q a ps∧ps.length ≤ 100∧BotOk q D∧(∀ p ∈ ps,p.2 ∣ D)∧B ≤ 10 ^ 150∧1000 ≤ B∧D.natAbs ≤ 10 ^ 150∧∀ (v:V) (H':Hp) (ts:List Int) (b:Int),Same H H'→WhNew H H' v ts b→WhD q ps ts b D B→Q v H'
theorem Mid.of150 {x:Int} (h:x.natAbs ≤ 10 ^ 150):Mid x:=Nat.lt_of_le_of_lt h (by decide +kernel)
theorem dvd_bd {b D:Int} (h:b ∣ D) (hD:D ≠ 0):b.natAbs ≤ D.natAbs:=Nat.le_of_dvd (Int.natAbs_pos.mpr hD) (Int.natAbs_dvd_natAbs.mpr h)
end My
namespace My
open PySem L2
def spENumberF (K:PySem.W.Frag):Sp:=fun vs H Q _=>∃ (P a td:Addr) (ns:List Int) (q far:Int) (F:Nat),vs = [.ref P,.ref td,.int far]∧PenC H P a∧SqL K (er P H) a (ns.map V.int)∧ToldAt (er P H) td q∧WheelN q∧1 ≤ far∧far ≤ (F:Int)∧4 ≤ F∧F ≤ 10 ^ 20∧∀ (v:V) (x m:Int) (H':Hp),SameE P H H'→PenC H' P a→NumAt F (er P H') q v x m→Q v H'
theorem NumAt.botF {F:Nat} (hF:1 ≤ F) {H:Hp} {q:Int} {v:V} {x m:Int} (h:NumAt F H q v x m):BotOk q m∧m.natAbs ≤ F:=by
  refine ⟨h.canon.bot,?_⟩
  cases h with
  | frac e l bx bm=>exact bm
  | rem h0 h1 h2=>exact hF
theorem RowG.botF {F:Nat} (hF:1 ≤ F) {H:Hp} {q:Int} {a:Addr} {ps:List (Int × Int)} (h:RowG F H q a ps):∀ p ∈ ps,BotOk q p.2∧p.2.natAbs ≤ F:=fun p hp=>by
  obtain ⟨vs,e,l,k⟩:=h
  obtain ⟨i,hi,ei⟩:=List.getElem_of_mem hp
  have hi':i < vs.length:=by omega
  exact (k i vs[i] p (by simp [hi']) (by rw [← ei]; simp [hi])).botF hF
end My
namespace My
open PySem L2
end My
namespace L2
open PySem PySem.Spec PyProof.Rows
section
variable {X:Cx} {tg:Expr}
end
end L2
namespace L2
open PySem PySem.Spec PyProof.Rows
theorem pe_fldK {X:Cx} {K:PySem.W.Frag} {e:Expr} {f:Str} {pos:Pos} {ta:TE} (he:PE X e ta) (hb:attributeBase e f X.env (eval e X.env) = eval e X.env) (hK:X.K = K:=by rfl):PE X (.Attribute e f pos) (tFld K ta f):=by
  subst hK
  exact pe_fld he hb
end L2
namespace My
open PySem L2
def Cg (q a b:Int):Prop:=q ∣ a - b
theorem Cg.refl {q:Int} (a:Int):Cg q a a:=⟨0,by omega⟩
theorem Cg.of_eq {q a b:Int} (h:a = b):Cg q a b:=h ▸ Cg.refl a
theorem Cg.symm {q a b:Int} (h:Cg q a b):Cg q b a:=by
  obtain ⟨k,e⟩:=h
  exact ⟨-k,by rw [Int.mul_neg]; omega⟩
theorem Cg.trans {q a b c:Int} (h1:Cg q a b) (h2:Cg q b c):Cg q a c:=by
  obtain ⟨k,e⟩:=h1
  obtain ⟨l,e'⟩:=h2
  exact ⟨k + l,by rw [Int.mul_add]; omega⟩
theorem Cg.add {q a b c d:Int} (h1:Cg q a b) (h2:Cg q c d):Cg q (a + c) (b + d):=by
  obtain ⟨k,e⟩:=h1
  obtain ⟨l,e'⟩:=h2
  exact ⟨k + l,by rw [Int.mul_add]; omega⟩
theorem Cg.sub {q a b c d:Int} (h1:Cg q a b) (h2:Cg q c d):Cg q (a - c) (b - d):=by
  obtain ⟨k,e⟩:=h1
  obtain ⟨l,e'⟩:=h2
  exact ⟨k - l,by rw [Int.mul_sub]; omega⟩
theorem Cg.mulL {q a b:Int} (c:Int) (h:Cg q a b):Cg q (c * a) (c * b):=by
  obtain ⟨k,e⟩:=h
  exact ⟨c * k,by rw [← Int.mul_sub,e]; grind⟩
theorem Cg.mulR {q a b:Int} (c:Int) (h:Cg q a b):Cg q (a * c) (b * c):=by
  rw [Int.mul_comm a,Int.mul_comm b]
  exact h.mulL c
theorem cg_mod (q a:Int):Cg q (a % q) a:=⟨-(a / q),by have:=Int.mul_ediv_add_emod a q; rw [Int.mul_neg]; omega⟩
theorem Cg.nz {q a b:Int} (h:Cg q a b) (n:¬ q ∣ b):¬ q ∣ a:=fun d=>n (by
  have:b = a - (a - b):=by omega
  rw [this]
  exact Int.dvd_sub d h)
theorem cg_sum {q:Int}:∀ {n:Nat} {f g:Nat→Int},(∀ i,i < n→Cg q (f i) (g i))→Cg q (sumN n f) (sumN n g)
  | 0,_,_,_=>Cg.refl _
  | n + 1,f,g,h=>by
    unfold sumN
    exact (h 0 (by omega)).add (cg_sum fun i hi=>h (i + 1) (by omega))
theorem getD_out {α:Type} {xs:List α} {k:Nat} {d:α} (h:xs.length ≤ k):xs.getD k d = d:=by
  rw [List.getD_eq_getElem?_getD,List.getElem?_eq_none h]
  rfl
theorem getD_bd {B:Nat} {xs:List Int} (h:∀ x ∈ xs,x.natAbs ≤ B) (k:Nat):(xs.getD k 0).natAbs ≤ B:=by
  by_cases hk:k < xs.length
  · rw [getD_at hk]; exact h _ (List.getElem_mem _)
  · rw [getD_out (by omega)]; exact Nat.zero_le _
end My
namespace My
open PySem L2
theorem comp_int {wi:TI} {ρ:St→St} {te:TE} {σ:St} {H:Hp} {Q:VK} {ts:List Int} (g:Int→Int) (hn:ts.length ≤ 500)
    (hwi:∀ R:It→Hp→Prop,(∀ J H1,Same H H1→JSeq J (ts.map V.int) H1→R J H1)→wi σ H R)
    (step:∀ t ∈ ts,∀ (Hc:Hp) (R:VK),Same H Hc→(∀ H3,Same Hc H3→R (.int (g t)) H3)→te (some (.int t) :: ρ σ) Hc R)
    (fin:∀ D Hc,H D = none→Same H Hc→Hc D = some (.lst ((ts.map g).map V.int))→Q (.ref D) Hc):tComp wi ρ (fun _ H Q=>Q true H) te σ H Q:=by
  refine comp_ofN (xs:=ts.map V.int) hwi (by rw [List.length_map]; exact small1000 (by omega)) (fun _ i y _=>∃ t,ts[i]? = some t∧y = .int (g t)) (fun _ _ _ _ _ _ h _ _=>h) ?_ ?_
  · intro D i v hi Hc R sc _ kc
    rw [List.getElem?_map] at hi
    cases e:ts[i]? with
    | none=>rw [e] at hi; cases hi
    | some t=>
      rw [e] at hi
      cases hi
      exact step t (List.mem_of_getElem? e) Hc R sc fun H3 s3=>kc _ H3 s3 ⟨t,e,rfl⟩
  · intro D ys Hc nD sc lys hP eD
    have ey:ys = (ts.map g).map V.int:=vals_of (by rw [lys,List.length_map,List.length_map]) fun i v e=>by
      obtain ⟨t,e1,e2⟩:=hP i v e
      exact ⟨g t,by rw [List.getElem?_map,e1]; rfl,e2⟩
    rw [ey] at eD
    exact fin D Hc nD sc eD
end My
namespace My
open PySem L2
theorem comp2_int {K:PySem.W.Frag} {wi:TI} {ρ:St→St} {te:TE} {σ:St} {H:Hp} {Q:VK} {xs ys:List Int} (g:Int→Int→Int) (hn:xs.length ≤ 500)
    (hwi:∀ R:It→Hp→Prop,(∀ J H1,Same H H1→JSeq2 J ((xs.map V.int).zip (ys.map V.int)) H1→R J H1)→wi σ H R)
    (step:∀ x y,(x,y) ∈ xs.zip ys→∀ (Hc:Hp) (R:VK),Same H Hc→(∀ H3,Same Hc H3→R (.int (g x y)) H3)→te (some (.int x) :: some (.int y) :: ρ σ) Hc R)
    (fin:∀ D Hc,Same H Hc→Hc D = some (.lst (((xs.zip ys).map fun ab=>g ab.1 ab.2).map V.int))→Q (.ref D) Hc):tComp2 K wi ρ (fun _ H Q=>Q true H) te σ H Q:=by
  have lz:((xs.map V.int).zip (ys.map V.int)).length = (xs.zip ys).length:=by simp [List.length_zip]
  have at':∀ (i:Nat) (v u:V),((xs.map V.int).zip (ys.map V.int))[i]? = some (v,u)→∃ x y,(xs.zip ys)[i]? = some (x,y)∧v = .int x∧u = .int y:=fun i v u e=>by
    obtain ⟨h1,h2⟩:=List.getElem?_zip_eq_some.mp e
    rw [List.getElem?_map] at h1 h2
    cases e1:xs[i]? with
    | none=>rw [e1] at h1; cases h1
    | some x=>
      cases e2:ys[i]? with
      | none=>rw [e2] at h2; cases h2
      | some y=>
        rw [e1] at h1
        rw [e2] at h2
        cases h1
        cases h2
        exact ⟨x,y,List.getElem?_zip_eq_some.mpr ⟨e1,e2⟩,rfl,rfl⟩
  refine comp2_of (zs:=(xs.map V.int).zip (ys.map V.int)) hwi (by rw [lz,List.length_zip]; exact small1000 (by omega)) (fun i v=>∃ x y,(xs.zip ys)[i]? = some (x,y)∧v = .int (g x y)) ?_ ?_
  · intro i v u hi Hc R sc kc
    obtain ⟨x,y,e,rfl,rfl⟩:=at' i v u hi
    exact step x y (List.mem_of_getElem? e) Hc R sc fun H3 s3=>kc _ H3 s3 ⟨x,y,e,rfl⟩
  · intro D vs Hc sc lvs hP eD
    have ey:vs = ((xs.zip ys).map fun ab=>g ab.1 ab.2).map V.int:=vals_of (by rw [lvs,lz,List.length_map]) fun i v e=>by
      obtain ⟨x,y,e1,e2⟩:=hP i v e
      exact ⟨g x y,by rw [List.getElem?_map,e1]; rfl,e2⟩
    rw [ey] at eD
    exact fin D Hc sc eD
theorem mid520 {x:Int} (h:x.natAbs ≤ 4 * 10 ^ 520):Mid x:=Nat.lt_of_le_of_lt h (by decide +kernel)
end My
namespace My
open PySem L2
end My
namespace My
open PySem L2
theorem nz_cancel {q b x:Int} (hq:WheelN q) (nb:¬ q ∣ b) (h:q ∣ b * x):q ∣ x:=Classical.byContradiction fun nx=>nz_mul hq nb nx h
theorem of_any {B:Nat} {H:Hp} {q a b:Int} {v:V} (ho:OfAt H q v a b) (hq:WheelN q) (nb:¬ q ∣ b) (ba:a.natAbs ≤ B) (bb:b.natAbs ≤ B):∃ p:Int × Int,NumAt B H q v p.1 p.2∧Weq q p (a,b):=by
  rcases ho with ⟨rfl,r,rfl,e⟩ | ⟨q2,r,rfl,r0,r1,er⟩
  · have hb:b ≠ 0:=fun z=>nb (z ▸ Int.dvd_refl 0)
    obtain ⟨l,w,b1,b2⟩:=low_fd (a:=a) hb
    exact ⟨(lowU a b,lowD a b),.frac e l (Nat.le_trans b1 ba) (Nat.le_trans b2 bb),⟨0,by dsimp only; omega⟩⟩
  · have q3:q ≤ 997:=by rcases hq with h | h <;> omega
    refine ⟨(r,1),.rem r0 r1 q3,?_⟩
    show q ∣ r * b - a * 1
    have h1:Cg q (r * (b % q)) a:=(cg_mod q _).symm.trans (er ▸ cg_mod q a)
    have h2:Cg q (r * b) (r * (b % q)):=((cg_mod q b).mulL r).symm
    have h3:=h2.trans h1
    rw [Int.mul_one]
    exact h3
theorem cutTo_zero (ps:List (Int × Int)):∀ n k,cutTo ps n ≤ k→k < n→(ps.getD k o1).1 = 0
  | 0,_,_,h=>by omega
  | n + 1,k,h1,h2=>by
    unfold cutTo at h1
    by_cases z:(ps.getD n o1).1 = 0
    · rw [if_pos z] at h1
      by_cases e:k = n
      · rw [e]; exact z
      · exact cutTo_zero ps n k h1 (by omega)
    · rw [if_neg z] at h1
      omega
theorem cutP_length (ps:List (Int × Int)):(cutP ps).length = cutTo ps ps.length:=by
  unfold cutP
  rw [List.length_take]
  have:=cutTo_le ps ps.length
  omega
theorem cutP_out {ps:List (Int × Int)} {k:Nat} (h:(cutP ps).length ≤ k):(ps.getD k o1).1 = 0:=by
  rw [cutP_length] at h
  by_cases hk:k < ps.length
  · exact cutTo_zero ps ps.length k h hk
  · rw [getD_out (by omega)]; rfl
end My
namespace My
open PySem L2
theorem whole_bd {q t b f D:Int} {p:Int × Int} {T:Nat} (hq:WheelN q) (hT:1000 ≤ T) (hc:Canon q p) (e:t * p.2 = p.1 * b) (ok:BotOk q b) (okD:BotOk q D) (db:b ∣ D) (w:Weq q p (f,D)) (bf:f.natAbs ≤ T):t.natAbs ≤ T:=by
  by_cases z:q = 0
  · subst z
    have hp:=(hc.bot).1 rfl
    have hb:=ok.1 rfl
    have hD:=okD.1 rfl
    obtain ⟨k,ek⟩:=w
    have e2:p.1 * D = f * p.2:=by
      dsimp only at ek
      omega
    have e3:t * D = f * b:=by
      have:(t * D) * p.2 = (f * b) * p.2:=by grind
      exact Int.eq_of_mul_eq_mul_right (show p.2 ≠ 0 by omega) this
    have e4:t.natAbs * D.natAbs = f.natAbs * b.natAbs:=by rw [← Int.natAbs_mul,e3,Int.natAbs_mul]
    have e5:b.natAbs ≤ D.natAbs:=dvd_bd db (by omega)
    have e6:t.natAbs * D.natAbs ≤ f.natAbs * D.natAbs:=by rw [e4]; exact Nat.mul_le_mul_left _ e5
    exact Nat.le_trans (Nat.le_of_mul_le_mul_right e6 (by omega)) bf
  · have e1:=(hc.2 z)
    have q3:q ≤ 997:=by rcases hq with h | h <;> omega
    rw [e1.1,ok.2 z] at e
    omega
theorem RowG.canonP {B:Nat} {H:Hp} {q:Int} {a:Addr} {ps:List (Int × Int)} (h:RowG B H q a ps):∀ p ∈ ps,Canon q p:=fun p hp=>by
  obtain ⟨vs,e,l,k⟩:=h
  obtain ⟨i,hi,rfl⟩:=List.getElem_of_mem hp
  have hv:i < vs.length:=by omega
  exact (k i vs[i] ps[i] (by simp [hv]) (by simp [hi])).canon
theorem canon_o1 {q:Int} (hq:WheelN q):Canon q o1:=⟨fun _=>⟨by decide,by decide⟩,fun z=>⟨rfl,by decide,by rcases hq with h | h; exact absurd h z; show (0:Int) < q; omega⟩⟩
theorem canonD {q:Int} (hq:WheelN q) {ps:List (Int × Int)} (h:∀ p ∈ ps,Canon q p) (k:Nat):Canon q (ps.getD k o1):=by
  by_cases hk:k < ps.length
  · rw [getD_at hk]; exact h _ (List.getElem_mem _)
  · rw [getD_out (by omega)]; exact canon_o1 hq
theorem top_nz {q x M:Int} {p:Int × Int} (hq:WheelN q) (hc:Canon q p) (nx:¬ q ∣ x) (w:Weq q p (x,M)):p.1 ≠ 0:=fun z=>by
  obtain ⟨k,e⟩:=w
  dsimp only at e
  rw [z,Int.zero_mul,Int.zero_sub] at e
  refine nz_mul hq nx (hc.bot.nz hq) ⟨-k,?_⟩
  rw [Int.mul_neg,← e,Int.neg_neg]
end My
namespace My
open PySem L2
end My
namespace My
open PySem L2
theorem one_botC {q:Int} {F:Nat} (hF:1 ≤ F):∀ (xs:List (Int × Int)),(∀ p ∈ xs,BotOk q p.2∧p.2.natAbs ≤ F)→∃ D:Int,BotOk q D∧(∀ p ∈ xs,p.2 ∣ D)∧D.natAbs ≤ F ^ xs.length∧∀ p ∈ xs,D.natAbs ≤ p.2.natAbs * F ^ (xs.length - 1)
  | [],_=>⟨1,BotOk.one,fun p hp=>by simp at hp,by simp,fun p hp=>by simp at hp⟩
  | x :: xs,h=>by
    obtain ⟨D,h1,h2,h3,h4⟩:=one_botC hF xs (fun p hp=>h p (List.mem_cons_of_mem _ hp))
    have hx:=h x List.mem_cons_self
    refine ⟨x.2 * D,hx.1.mul h1,fun p hp=>?_,?_,fun p hp=>?_⟩
    · rcases List.mem_cons.mp hp with e | e
      · rw [e]; exact Int.dvd_mul_right ..
      · exact Int.dvd_trans (h2 p e) (Int.dvd_mul_left ..)
    · rw [Int.natAbs_mul,List.length_cons,Nat.pow_succ,Nat.mul_comm]
      exact Nat.mul_le_mul h3 hx.2
    · rw [Int.natAbs_mul,List.length_cons,Nat.add_sub_cancel]
      rcases List.mem_cons.mp hp with e | e
      · rw [e]; exact Nat.mul_le_mul_left _ h3
      · have l:1 ≤ xs.length:=List.length_pos_of_mem e
        refine Nat.le_trans (Nat.mul_le_mul hx.2 (h4 p e)) (Nat.le_of_eq ?_)
        rw [show xs.length = xs.length - 1 + 1 by omega,Nat.pow_succ,Nat.add_sub_cancel]
        rw [Nat.mul_left_comm,Nat.mul_comm F]
end My
namespace My
open PySem L2
theorem rng_getD {α:Type} {N k:Nat} {F:Nat→α} {d:α} (hk:k < N):((List.range N).map F).getD k d = F k:=by
  rw [getD_at (by simpa using hk),List.getElem_map,List.getElem_range]
end My
namespace L2
open PySem PySem.Spec PyProof.Rows
end L2
namespace My
open PySem L2
theorem weq_mul2 {q a b D1 D2:Int} {p r:Int × Int} (h1:Weq q p (a,D1)) (h2:Weq q r (b,D2)):Weq q (p.1 * r.1,p.2 * r.2) (a * b,D1 * D2):=by
  obtain ⟨k1,e1⟩:=h1
  obtain ⟨k2,e2⟩:=h2
  dsimp only at e1 e2
  refine ⟨k1 * (r.1 * D2) + a * p.2 * k2,?_⟩
  dsimp only
  grind
theorem weq_scale {q x D:Int} {p:Int × Int} (c:Int) (h:Weq q p (x,D)):Weq q p (x * c,D * c):=by
  obtain ⟨k,e⟩:=h
  dsimp only at e
  refine ⟨k * c,?_⟩
  dsimp only
  grind
end My
namespace L2
open PySem PySem.Spec PyProof.Rows
theorem pick_all (its:List Value):∀ (L:List Nat),(∀ x ∈ L,x < its.length)→L.filterMap (fun x=>its.toArray[x]?) = L.map fun x=>its.getD x .none
  | [],_=>rfl
  | x :: L,h=>by
    have hx:=h x List.mem_cons_self
    rw [List.filterMap_cons_some (b:=its.getD x .none),List.map_cons,pick_all its L fun y hy=>h y (List.mem_cons_of_mem _ hy)]
    rw [List.getD_eq_getElem?_getD,show its[x]? = some its[x] by simp [hx]]
    simp [hx]
theorem slicePick_rev (its:List Value):slicePick its.toArray none none (some (-1)) = its.reverse.toArray:=by
  unfold slicePick
  have e:sliceRange (sliceBounds none none (some (-1)) its.toArray.size).fst (sliceBounds none none (some (-1)) its.toArray.size).snd.fst (sliceBounds none none (some (-1)) its.toArray.size).snd.snd = (List.range its.length).map fun k=>its.length - 1 - k:=by
    simp only [sliceBounds,Option.getD_some,show ¬ ((-1:Int) > 0) by decide,if_false,List.size_toArray]
    unfold sliceRange
    simp only [show ¬ ((-1:Int) > 0) by decide,if_false]
    have c:(if (its.length:Int) - 1 > -1 then ((its.length:Int) - 1 - -1 - -1 - 1) / - -1 else 0).toNat = its.length:=by
      split
      · rw [show (- -1:Int) = 1 from rfl,Int.ediv_one]
        omega
      · omega
    rw [c]
    refine List.map_congr_left fun k hk=>?_
    omega
  rw [e,pick_all its _ fun x hx=>?_]
  · congr 1
    rw [List.map_map]
    refine List.ext_getElem (by simp) fun k h1 h2=>?_
    rw [List.getElem_map,List.getElem_range,List.getElem_reverse]
    have hk:its.length - 1 - k < its.length:=by simp at h2; omega
    show its.getD (its.length - 1 - k) .none = _
    rw [List.getD_eq_getElem?_getD,show its[its.length - 1 - k]? = some its[its.length - 1 - k] by simp [hk]]
    rfl
  · obtain ⟨k,hk,rfl⟩:=List.mem_map.mp hx
    have:=List.mem_range.mp hk
    omega
theorem Vals.rev {xs:List V} {us:List Value} (h:Vals xs us):Vals xs.reverse us.reverse:=by
  have hl:=h.length
  refine paired_of (by simp [hl]) fun i x u h1 h2=>?_
  have hi:i < xs.length:=by simpa using (List.getElem?_eq_some_iff.mp h1).1
  rw [List.getElem?_reverse hi] at h1
  rw [List.getElem?_reverse (by omega),← hl] at h2
  obtain ⟨u',e,r⟩:=h.get h1
  rw [h2] at e
  cases e
  exact r
section
variable {X:Cx} {e:Expr} {te:TE} {pos p2:Pos}
def tRev (K:PySem.W.Frag) (te ts:TE):TE:=fun σ H Q=>te σ H fun x H1=>ts σ H1 fun y H2=>y = .int (-1)∧∃ a xs,x = .ref a∧SqL K H2 a xs∧∀ p,H2 p = none→Q (.ref p) (upd H2 p (.lst xs.reverse))
theorem pe_rev {st:Expr} {ts:TE} (he:PE X e te) (hst:PE X st ts):PE X (.Subscript e (.Slice none none (some st) p2) pos) (tRev X.K te ts):=by
  intro pins s σ H Q I h
  refine Subscript_ (thn (he pins s σ H _ I h) fun v s1 ⟨x,H1,I1,r1,q1⟩=>?_)
  refine wpAny_Slice ?_
  rw [evalPart_none]
  refine wpAny_pure ?_
  refine wpAny_pure ?_
  rw [evalPart_some]
  refine thn (hst pins s1 σ H1 _ I1 q1) fun u s3 ⟨y,H3,I3,r3,q3⟩=>?_
  obtain ⟨rfl,a,xs,rfl,hx,q⟩:=q3
  obtain ⟨t,rfl⟩:=r3
  cases r1
  have I4:Inv X pins σ H3 { s3 with heap:=s3.heap.push { cls:=.type "slice",data:=.fields #[.none,.none,.int (-1) t] } }:=I3.kept (t':=s3.toks) fun b ob q=>Heap.get?_push_of_some _ q
  obtain ⟨its,r,ht,hz⟩:=I4.list hx
  have hlen:=r.length
  show wpAny (model X.prog X.w) X.A (subscriptTail e (.Slice none none (some st) p2) (.ref a) (.ref s3.heap.objs.size)) (EP X pins σ Q) X.xe { s3 with heap:=s3.heap.push { cls:=.type "slice",data:=.fields #[.none,.none,.int (-1) t] } }
  refine tail_any (ops:=[.ref a,.ref s3.heap.objs.size]) ht.isList.typeIs slot_list_getitem.lookup ?_ (by with_unfolding_all rfl)
  refine wpAny_getItem_list_slice ht.isList (Heap.IsSliceOf.new ..) .none .none (.int (-1) t) (by simp) ?_ (by rw [List.size_toArray] <;> omega)
  rw [slicePick_rev]
  refine ⟨.ref (s3.heap.push { cls:=.type "slice",data:=.fields #[.none,.none,.int (-1) t] }).objs.size,_,I4.laid (t':=s3.toks) (o:=.lst xs.reverse) (fun b ob q=>Heap.get?_push_of_some _ q) (Nat.le_refl _) ?_,rfl,q _ (I4.hok.fresh (Nat.le_refl _))⟩
  exact ⟨by rw [List.length_reverse]; exact hz,_,0,r.rev,Heap.get?_push_size _ rfl⟩
end
end L2
namespace My
open PySem L2
def ShBad (n:Nat):Prop:=n % 2 = 0 ∨ 80 ≤ n
def spShSize (N:Addr):Sp:=fun vs H Q E=>∃ (a:Addr) (xs:List V),vs = [.ref a]∧H a = some (.lst xs)∧xs.length ≤ 1000∧(ShBad xs.length→E (.ref N) none H)∧(¬ ShBad xs.length→Q (.int (((xs.length + 1) / 2:Nat):Int)) H)
end My
namespace My
open PySem L2
end My
namespace My
open PySem L2
end My
namespace My
open PySem L2
theorem RowG.farD {B:Nat} {H H':Hp} {q:Int} {a D:Addr} {ps:List (Int × Int)} {ys:List V} (h:RowG B H q a ps) (n:a ≠ D) (eD:H D = some (.lst ys)) (k:∀ b o,b ≠ D→H b = some o→H' b = some o):RowG B H' q a ps:=by
  obtain ⟨vs,e,l,f⟩:=h
  exact ⟨vs,k _ _ n e,l,fun i v p h1 h2=>(f i v p h1 h2).far eD k⟩
end My
namespace My
open PySem L2
def skipR (j:Nat) (v:Nat→Nat→Int):Nat→Nat→Int:=fun i=>if i < j then v i else v (i + 1)
def sgn (j:Nat):Int:=if j % 2 = 0 then 1 else -1
theorem sgn_succ (j:Nat):sgn (j + 1) = -sgn j:=by
  unfold sgn
  by_cases h:j % 2 = 0
  · rw [if_pos h,if_neg (by omega)]
  · rw [if_neg h,if_pos (by omega)]; rfl
def detD:List Nat→(Nat→Nat→Int)→Int
  | [],_=>1
  | c :: cs,v=>sumN (cs.length + 1) fun j=>sgn j * v j c * detD cs (skipR j v)
theorem detD_cons (c:Nat) (cs:List Nat) (v:Nat→Nat→Int):detD (c :: cs) v = sumN (cs.length + 1) fun j=>sgn j * v j c * detD cs (skipR j v):=rfl
theorem skip_skip {l j:Nat} (h:l ≤ j) (v:Nat→Nat→Int):skipR l (skipR (j + 1) v) = skipR j (skipR l v):=by
  funext i
  unfold skipR
  by_cases h1:i < l
  · rw [if_pos h1,if_pos (by omega),if_pos (by omega),if_pos h1]
  · rw [if_neg h1]
    by_cases h2:i < j
    · rw [if_pos h2,if_neg h1,if_pos (by omega)]
    · rw [if_neg h2,if_neg (by omega),if_neg (by omega)]
theorem sumN_neg (n:Nat) (f:Nat→Int):sumN n (fun i=>-f i) = -sumN n f:=by
  have:=sumN_mul (-1) n f
  rw [show (fun i=>-f i) = fun i=>-1 * f i from funext fun i=>by omega,← this]
  omega
theorem sumN_pairs (n:Nat) (F:Nat→Nat→Int):(sumN (n + 1) fun j=>sumN n fun l=>F j l) = (sumN n fun j=>sumN (j + 1) fun l=>F (j + 1) l) + sumN n fun l=>sumN (l + 1) fun j=>F j l:=by
  induction n with
  | zero=>rfl
  | succ n ih=>
    rw [sumN_last (n + 1) fun j=>sumN (n + 1) fun l=>F j l]
    have e1:(sumN (n + 1) fun j=>sumN (n + 1) fun l=>F j l) = (sumN (n + 1) fun j=>sumN n fun l=>F j l) + sumN (n + 1) fun j=>F j n:=by
      rw [← sumN_add]
      exact sumN_congr fun j _=>sumN_last n _
    rw [e1,ih,sumN_last n fun j=>sumN (j + 1) fun l=>F (j + 1) l,sumN_last n fun l=>sumN (l + 1) fun j=>F j l]
    omega
theorem det_swap (a b:Nat) (cs:List Nat) (v:Nat→Nat→Int):detD (a :: b :: cs) v = -detD (b :: a :: cs) v:=by
  have ex:∀ x y:Nat,detD (x :: y :: cs) v = (sumN (cs.length + 1) fun j=>sumN (j + 1) fun l=>sgn (j + 1) * sgn l * (v (j + 1) x * v l y) * detD cs (skipR j (skipR l v))) - sumN (cs.length + 1) fun j=>sumN (j + 1) fun l=>sgn (j + 1) * sgn l * (v l x * v (j + 1) y) * detD cs (skipR j (skipR l v)):=fun x y=>by
    have e0:detD (x :: y :: cs) v = sumN (cs.length + 2) fun j=>sumN (cs.length + 1) fun l=>sgn j * v j x * (sgn l * skipR j v l y * detD cs (skipR l (skipR j v))):=by
      rw [detD_cons,List.length_cons]
      refine sumN_congr fun j _=>?_
      rw [detD_cons,sumN_mul]
    rw [e0,sumN_pairs (cs.length + 1)]
    rw [Int.sub_eq_add_neg,← sumN_neg]
    congr 1
    · refine sumN_congr fun j _=>sumN_congr fun l hl=>?_
      rw [skip_skip (by omega),show skipR (j + 1) v l y = v l y by unfold skipR; rw [if_pos (by omega)]]
      grind
    · refine sumN_congr fun l _=>?_
      rw [← sumN_neg]
      refine sumN_congr fun j hj=>?_
      rw [show skipR j v l y = v (l + 1) y by unfold skipR; rw [if_neg (by omega)],sgn_succ]
      grind
  rw [ex a b,ex b a]
  have f:∀ x y:Nat,(sumN (cs.length + 1) fun j=>sumN (j + 1) fun l=>sgn (j + 1) * sgn l * (v l x * v (j + 1) y) * detD cs (skipR j (skipR l v))) = sumN (cs.length + 1) fun j=>sumN (j + 1) fun l=>sgn (j + 1) * sgn l * (v (j + 1) y * v l x) * detD cs (skipR j (skipR l v)):=fun x y=>sumN_congr fun j _=>sumN_congr fun l _=>by rw [Int.mul_comm (v l x)]
  rw [f a b,f b a]
  omega
theorem det_twice (c:Nat):∀ (cs:List Nat) (v:Nat→Nat→Int),c ∈ cs→detD (c :: cs) v = 0
  | b :: cs,v,h=>by
    by_cases e:c = b
    · subst e
      have:=det_swap c c cs v
      omega
    · have h':c ∈ cs:=by
        rcases List.mem_cons.mp h with z | z
        · exact absurd z e
        · exact z
      rw [det_swap,detD_cons]
      rw [show (fun j=>sgn j * v j b * detD (c :: cs) (skipR j v)) = fun _=>0 from funext fun j=>by rw [det_twice c cs _ h',Int.mul_zero],sumN_zero]
      rfl
end My
namespace My
open PySem L2
def consR (e:Nat→Int) (R:Nat→Nat→Int):Nat→Nat→Int
  | 0=>e
  | i + 1=>R i
end My
namespace My
open PySem L2
end My
namespace My
open PySem L2
def facN:Nat→Nat
  | 0=>1
  | n + 1=>(n + 1) * facN n
theorem sumN_bdD {M:Nat}:∀ (n:Nat) (f:Nat→Int),(∀ i,i < n→(f i).natAbs ≤ M)→(sumN n f).natAbs ≤ n * M
  | 0,_,_=>by show (0:Int).natAbs ≤ _; simp
  | n + 1,f,h=>by
    rw [sumN_last,Nat.succ_mul]
    exact Nat.le_trans (Int.natAbs_add_le ..) (Nat.add_le_add (sumN_bdD n f fun i hi=>h i (by omega)) (h n (by omega)))
theorem det_bd {B:Nat}:∀ (C:List Nat) (v:Nat→Nat→Int),(∀ i c,(v i c).natAbs ≤ B)→(detD C v).natAbs ≤ facN C.length * B ^ C.length
  | [],_,_=>by show (1:Int).natAbs ≤ 1 * B ^ 0; simp
  | c :: C,v,h=>by
    rw [detD_cons]
    refine Nat.le_trans (sumN_bdD (M:=B * (facN C.length * B ^ C.length)) _ _ fun j _=>?_) (Nat.le_of_eq ?_)
    · rw [Int.natAbs_mul,Int.natAbs_mul]
      have s1:(sgn j).natAbs = 1:=by unfold sgn; split <;> rfl
      rw [s1,Nat.one_mul]
      refine Nat.mul_le_mul (h j c) (det_bd C _ fun i c'=>?_)
      unfold skipR
      split
      · exact h _ _
      · exact h _ _
    · rw [List.length_cons,facN,Nat.pow_succ]
      rw [Nat.mul_assoc,Nat.mul_left_comm B,Nat.mul_comm B]
end My
namespace My
open PySem L2
def topM (r:Int→Int):Nat→Nat→Int:=fun j i=>r ((i:Int) - (j:Int))
def topD (k:Nat) (r:Int→Int):Int:=detD (List.range k) (topM r)
def topF (k:Nat) (r:Int→Int) (j:Nat):Int:=sgn j * detD ((List.range (k - 1)).map fun c=>c + 1) (skipR j (topM r))
def turnI (r:Int→Int):Int→Int:=fun d=>r (-d)
theorem range_cons (k:Nat):List.range (k + 1) = 0 :: (List.range k).map fun c=>c + 1:=by
  rw [List.range_succ_eq_map]
theorem topF_row (k:Nat) (r:Int→Int) (i:Nat) (hi:i < k + 1):(sumN (k + 1) fun j=>r ((i:Int) - (j:Int)) * topF (k + 1) r j) = if i = 0 then topD (k + 1) r else 0:=by
  have e:(sumN (k + 1) fun j=>r ((i:Int) - (j:Int)) * topF (k + 1) r j) = detD (i :: (List.range k).map fun c=>c + 1) (topM r):=by
    rw [detD_cons,List.length_map,List.length_range]
    refine sumN_congr fun j _=>?_
    unfold topF
    rw [Nat.add_sub_cancel]
    show r ((i:Int) - (j:Int)) * _ = sgn j * r ((i:Int) - (j:Int)) * _
    grind
  rw [e]
  by_cases h:i = 0
  · rw [if_pos h,h]
    unfold topD
    rw [range_cons]
  · rw [if_neg h]
    exact det_twice i _ _ (List.mem_map.mpr ⟨i - 1,List.mem_range.mpr (by omega),by omega⟩)
theorem detD_shift:∀ (cs:List Nat) (v w:Nat→Nat→Int),(∀ i c,v i (c + 1) = w i c)→detD (cs.map fun c=>c + 1) v = detD cs w
  | [],_,_,_=>rfl
  | c :: cs,v,w,h=>by
    rw [List.map_cons,detD_cons,detD_cons,List.length_map]
    refine sumN_congr fun j _=>?_
    rw [h j c,detD_shift cs (skipR j v) (skipR j w) fun i c'=>by
      unfold skipR
      split
      · exact h i c'
      · exact h (i + 1) c']
theorem topF_zero (k:Nat) (r:Int→Int):topF (k + 1) r 0 = topD k r:=by
  unfold topF topD
  rw [Nat.add_sub_cancel,detD_shift (List.range k) _ (topM r) fun i c=>by
    unfold skipR topM
    rw [if_neg (by omega)]
    congr 1
    omega]
  show (1:Int) * _ = _
  rw [Int.one_mul]
theorem det_front (c:Nat):∀ (xs ys:List Nat) (v:Nat→Nat→Int),detD (xs ++ c :: ys) v = sgn xs.length * detD (c :: (xs ++ ys)) v
  | [],ys,v=>by show detD (c :: ys) v = (1:Int) * _; rw [Int.one_mul]; rfl
  | x :: xs,ys,v=>by
    rw [List.cons_append,detD_cons]
    have e:(sumN ((xs ++ c :: ys).length + 1) fun j=>sgn j * v j x * detD (xs ++ c :: ys) (skipR j v)) = sgn xs.length * detD (x :: c :: (xs ++ ys)) v:=by
      rw [detD_cons,sumN_mul,List.length_cons,List.length_append,List.length_append,List.length_cons]
      refine sumN_congr fun j _=>?_
      rw [det_front c xs ys]
      grind
    rw [e,det_swap,List.length_cons,sgn_succ,List.cons_append]
    grind
theorem top_ker {k:Nat} {r:Int→Int} (hd:topD k (turnI r) ≠ 0) {x:Nat→Int} (hx:∀ i,i < k→(sumN k fun j=>r ((i:Int) - (j:Int)) * x j) = 0):∀ j,j < k→x j = 0:=fun j0 hj=>by
  obtain ⟨xs,ys,e⟩:∃ xs ys,List.range k = xs ++ j0 :: ys:=List.append_of_mem (List.mem_range.mpr hj)
  have lk:xs.length + ys.length + 1 = k:=by
    have:=congrArg List.length e
    rw [List.length_range,List.length_append,List.length_cons] at this
    omega
  have nd:detD (j0 :: (xs ++ ys)) (topM (turnI r)) ≠ 0:=fun z=>hd (by
    unfold topD
    rw [e,det_front,z,Int.mul_zero])
  have mem:∀ c,c < k→c ≠ j0→c ∈ xs ++ ys:=fun c hc ne=>by
    have:=List.mem_range.mpr hc
    rw [e] at this
    rcases List.mem_append.mp this with h | h
    · exact List.mem_append_left _ h
    · rcases List.mem_cons.mp h with h | h
      · exact absurd h ne
      · exact List.mem_append_right _ h
  obtain ⟨y,hy⟩:∃ y:Nat→Int,∀ c,c < k→(sumN k fun i=>y i * r ((i:Int) - (c:Int))) = if c = j0 then detD (j0 :: (xs ++ ys)) (topM (turnI r)) else 0:=by
    refine ⟨fun i=>sgn i * detD (xs ++ ys) (skipR i (topM (turnI r))),fun c hc=>?_⟩
    have e1:(sumN k fun i=>sgn i * detD (xs ++ ys) (skipR i (topM (turnI r))) * r ((i:Int) - (c:Int))) = detD (c :: (xs ++ ys)) (topM (turnI r)):=by
      rw [detD_cons,List.length_append,lk]
      refine sumN_congr fun i _=>?_
      have:topM (turnI r) i c = r ((i:Int) - (c:Int)):=by
        unfold topM turnI
        congr 1
        omega
      rw [this]
      grind
    rw [e1]
    by_cases z:c = j0
    · rw [if_pos z,z]
    · rw [if_neg z]
      exact det_twice c _ _ (mem c hc z)
  have s:(sumN k fun i=>y i * sumN k fun j=>r ((i:Int) - (j:Int)) * x j) = detD (j0 :: (xs ++ ys)) (topM (turnI r)) * x j0:=by
    have e2:(sumN k fun i=>y i * sumN k fun j=>r ((i:Int) - (j:Int)) * x j) = sumN k fun j=>(sumN k fun i=>y i * r ((i:Int) - (j:Int))) * x j:=by
      rw [sums_assoc k k y (fun i j=>r ((i:Int) - (j:Int))) x]
    rw [e2,sumN_congr (g:=fun j=>if j = j0 then detD (j0 :: (xs ++ ys)) (topM (turnI r)) * x j else 0) fun j hj'=>by
      rw [hy j hj']
      by_cases z:j = j0
      · rw [if_pos z,if_pos z]
      · rw [if_neg z,if_neg z,Int.zero_mul],sumN_one k j0 (fun j=>detD (j0 :: (xs ++ ys)) (topM (turnI r)) * x j) hj]
  rw [sumN_congr (g:=fun _=>0) fun i hi=>by rw [hx i hi,Int.mul_zero],sumN_zero] at s
  rcases Int.mul_eq_zero.mp s.symm with h | h
  · exact absurd h nd
  · exact h
theorem turn_turn (r:Int→Int):turnI (turnI r) = r:=by
  funext d
  unfold turnI
  rw [Int.neg_neg]
def topDown (k:Nat) (r:Int→Int):Int:=sumN k fun j=>r ((k:Int) - (j:Int)) * topF k r j
def topFx (k:Nat) (r:Int→Int) (j:Nat):Int:=if j < k then topF k r j else 0
def topBx (k:Nat) (r:Int→Int) (j:Nat):Int:=if j = 0 then 0 else topF k (turnI r) (k - j)
theorem sumN_rev:∀ (n:Nat) (f:Nat→Int),(sumN n fun i=>f (n - 1 - i)) = sumN n f
  | 0,_=>rfl
  | n + 1,f=>by
    rw [sumN_last]
    show _ = f 0 + sumN n fun i=>f (i + 1)
    have:=sumN_rev n fun i=>f (i + 1)
    rw [← this]
    rw [sumN_congr (g:=fun i=>f (n - 1 - i + 1)) fun i hi=>by
      show f (n + 1 - 1 - i) = _
      congr 1
      omega]
    rw [show n + 1 - 1 - n = 0 by omega]
    omega
end My
namespace My
open PySem L2
theorem sumN_dif (n:Nat) (f g:Nat→Int):sumN n (fun i=>f i - g i) = sumN n f - sumN n g:=by
  rw [sumN_congr (g:=fun i=>f i + -g i) fun i _=>Int.sub_eq_add_neg,sumN_add,sumN_neg,Int.sub_eq_add_neg]
theorem topD_zero (r:Int→Int):topD 0 r = 1:=rfl
theorem topD_one (r:Int→Int):topD 1 r = r 0:=by
  have h:=topF_row 0 r 0 (by decide)
  rw [if_pos rfl] at h
  rw [← h]
  show r ((0:Nat) - (0:Nat):Int) * topF 1 r 0 + 0 = r 0
  rw [topF_zero,topD_zero,Int.mul_one,Int.add_zero]
  rfl
theorem topF_row' {k:Nat} (hk:1 ≤ k) (r:Int→Int) (i:Nat) (hi:i < k):(sumN k fun j=>r ((i:Int) - (j:Int)) * topF k r j) = if i = 0 then topD k r else 0:=by
  obtain ⟨m,rfl⟩:∃ m,k = m + 1:=⟨k - 1,by omega⟩
  exact topF_row m r i hi
theorem topF_zero' {k:Nat} (hk:1 ≤ k) (r:Int→Int):topF k r 0 = topD (k - 1) r:=by
  obtain ⟨m,rfl⟩:∃ m,k = m + 1:=⟨k - 1,by omega⟩
  exact topF_zero m r
theorem topB_row {k:Nat} (hk:1 ≤ k) (r:Int→Int) (i:Nat) (hi:i < k):(sumN k fun j=>r ((i:Int) - (j:Int)) * topF k (turnI r) (k - 1 - j)) = if i = k - 1 then topD k (turnI r) else 0:=by
  rw [← sumN_rev]
  rw [sumN_congr (g:=fun j=>turnI r (((k - 1 - i:Nat):Int) - (j:Int)) * topF k (turnI r) j) fun j hj=>by
    show r ((i:Int) - ((k - 1 - j:Nat):Int)) * topF k (turnI r) (k - 1 - (k - 1 - j)) = _
    rw [show k - 1 - (k - 1 - j) = j by omega]
    unfold turnI
    congr 2
    omega]
  rw [topF_row' hk (turnI r) (k - 1 - i) (by omega)]
  by_cases h:i = k - 1
  · rw [if_pos (by omega),if_pos h]
  · rw [if_neg (by omega),if_neg h]
theorem topFx_row {k:Nat} (r:Int→Int) (i:Int):(sumN (k + 1) fun j=>r (i - (j:Int)) * topFx k r j) = sumN k fun j=>r (i - (j:Int)) * topF k r j:=by
  rw [sumN_last]
  rw [show topFx k r k = 0 from if_neg (by omega),Int.mul_zero,Int.add_zero]
  refine sumN_congr fun j hj=>?_
  rw [show topFx k r j = topF k r j from if_pos hj]
theorem topBx_row {k:Nat} (r:Int→Int) (i:Int):(sumN (k + 1) fun j=>r (i - (j:Int)) * topBx k r j) = sumN k fun j=>r (i - 1 - (j:Int)) * topF k (turnI r) (k - 1 - j):=by
  show r (i - ((0:Nat):Int)) * topBx k r 0 + (sumN k fun j=>r (i - ((j + 1:Nat):Int)) * topBx k r (j + 1)) = _
  rw [show topBx k r 0 = 0 from if_pos rfl,Int.mul_zero,Int.zero_add]
  refine sumN_congr fun j hj=>?_
  rw [show topBx k r (j + 1) = topF k (turnI r) (k - (j + 1)) from if_neg (by omega),show k - (j + 1) = k - 1 - j by omega]
  congr 2
  omega
theorem topUp {k:Nat} (r:Int→Int):(sumN k fun j=>r (-1 - (j:Int)) * topF k (turnI r) (k - 1 - j)) = topDown k (turnI r):=by
  rw [← sumN_rev]
  unfold topDown
  refine sumN_congr fun j hj=>?_
  show r (-1 - ((k - 1 - j:Nat):Int)) * topF k (turnI r) (k - 1 - (k - 1 - j)) = _
  rw [show k - 1 - (k - 1 - j) = j by omega]
  unfold turnI
  congr 2
  omega
theorem top_step {k:Nat} {r:Int→Int} (hk:1 ≤ k) (e:topD k (turnI r) = topD k r) (hd:topD k r ≠ 0):(∀ j,j < k + 1→topD k r * topFx k r j - topDown k r * topBx k r j = topD (k - 1) r * topF (k + 1) r j)∧topD k r * topD k r - topDown k r * topDown k (turnI r) = topD (k - 1) r * topD (k + 1) r:=by
  have lin:∀ i:Int,(sumN (k + 1) fun j=>r (i - (j:Int)) * (topD k r * topFx k r j - topDown k r * topBx k r j - topD (k - 1) r * topF (k + 1) r j)) = topD k r * (sumN (k + 1) fun j=>r (i - (j:Int)) * topFx k r j) - topDown k r * (sumN (k + 1) fun j=>r (i - (j:Int)) * topBx k r j) - topD (k - 1) r * (sumN (k + 1) fun j=>r (i - (j:Int)) * topF (k + 1) r j):=fun i=>by
    rw [sumN_mul,sumN_mul,sumN_mul,← sumN_dif,← sumN_dif]
    refine sumN_congr fun j _=>?_
    grind
  have w0:topD k r * topFx k r 0 - topDown k r * topBx k r 0 - topD (k - 1) r * topF (k + 1) r 0 = 0:=by
    rw [show topFx k r 0 = topF k r 0 from if_pos (by omega),show topBx k r 0 = 0 from if_pos rfl,topF_zero' hk,topF_zero]
    grind
  have w:∀ j,j < k→topD k r * topFx k r (j + 1) - topDown k r * topBx k r (j + 1) - topD (k - 1) r * topF (k + 1) r (j + 1) = 0:=by
    refine top_ker (r:=r) (by rw [e]; exact hd) fun i hi=>?_
    have h:=lin ((i + 1:Nat):Int)
    rw [topFx_row,topBx_row,topF_row k r (i + 1) (by omega),if_neg (by omega)] at h
    rw [show (((i + 1:Nat):Int) - 1) = (i:Int) by omega,topB_row hk r i hi,e] at h
    have l:(sumN (k + 1) fun j=>r (((i + 1:Nat):Int) - (j:Int)) * (topD k r * topFx k r j - topDown k r * topBx k r j - topD (k - 1) r * topF (k + 1) r j)) = sumN k fun j=>r ((i:Int) - (j:Int)) * (topD k r * topFx k r (j + 1) - topDown k r * topBx k r (j + 1) - topD (k - 1) r * topF (k + 1) r (j + 1)):=by
      show r (((i + 1:Nat):Int) - ((0:Nat):Int)) * _ + (sumN k fun j=>_) = _
      rw [w0,Int.mul_zero,Int.zero_add]
      refine sumN_congr fun j _=>?_
      show r (((i + 1:Nat):Int) - ((j + 1:Nat):Int)) * _ = _
      rw [show (((i + 1:Nat):Int) - ((j + 1:Nat):Int)) = (i:Int) - (j:Int) by omega]
    rw [← l,h]
    by_cases z:i = k - 1
    · rw [if_pos z]
      have:(sumN k fun j=>r (((i + 1:Nat):Int) - (j:Int)) * topF k r j) = topDown k r:=by
        unfold topDown
        rw [show i + 1 = k by omega]
      rw [this]
      grind
    · rw [if_neg z,topF_row' hk r (i + 1) (by omega),if_neg (by omega)]
      grind
  refine ⟨fun j hj=>?_,?_⟩
  · rcases Nat.eq_zero_or_pos j with h | h
    · rw [h]
      omega
    · have:=w (j - 1) (by omega)
      rw [show j - 1 + 1 = j by omega] at this
      omega
  · have h:=lin ((0:Nat):Int)
    rw [topFx_row,topBx_row,topF_row k r 0 (by omega),if_pos rfl,topF_row' hk r 0 (by omega),if_pos rfl] at h
    rw [show (((0:Nat):Int) - 1) = -1 by omega,topUp] at h
    have l:(sumN (k + 1) fun j=>r (((0:Nat):Int) - (j:Int)) * (topD k r * topFx k r j - topDown k r * topBx k r j - topD (k - 1) r * topF (k + 1) r j)) = 0:=by
      rw [sumN_congr (g:=fun _=>0) fun j hj=>by
        rcases Nat.eq_zero_or_pos j with h | h
        · rw [h,w0,Int.mul_zero]
        · have:=w (j - 1) (by omega)
          rw [show j - 1 + 1 = j by omega] at this
          rw [this,Int.mul_zero],sumN_zero]
    omega
theorem top_turn (r:Int→Int):∀ k,(∀ m,m < k→topD m r ≠ 0)→topD k (turnI r) = topD k r
  | 0,_=>rfl
  | 1,_=>by rw [topD_one,topD_one]; rfl
  | k + 2,h=>by
    have e1:=top_turn r (k + 1) fun m hm=>h m (by omega)
    have e0:=top_turn r k fun m hm=>h m (by omega)
    have s1:=(top_step (k:=k + 1) (r:=r) (by omega) e1 (h _ (by omega))).2
    have s2:=(top_step (k:=k + 1) (r:=turnI r) (by omega) (by rw [turn_turn,e1]) (by rw [e1]; exact h _ (by omega))).2
    rw [turn_turn,e1] at s2
    rw [Nat.add_sub_cancel] at s1 s2
    rw [e0] at s2
    have:topD k r * topD (k + 1 + 1) (turnI r) = topD k r * topD (k + 1 + 1) r:=by
      rw [← s1,← s2,Int.mul_comm (topDown (k + 1) (turnI r))]
    exact Int.eq_of_mul_eq_mul_left (h k (by omega)) this
theorem top_front {k:Nat} {r:Int→Int} (hk:1 ≤ k) (h:∀ m,m < k + 1→topD m r ≠ 0) {j:Nat} (hj:j < k + 1):topD k r * topFx k r j - topDown k r * topBx k r j = topD (k - 1) r * topF (k + 1) r j:=
  (top_step hk (top_turn r k fun m hm=>h m (by omega)) (h k (by omega))).1 j hj
theorem top_back {k:Nat} {r:Int→Int} (hk:1 ≤ k) (h:∀ m,m < k + 1→topD m r ≠ 0) {j:Nat} (hj:j < k + 1):topD k r * topBx k r j - topDown k (turnI r) * topFx k r j = topD (k - 1) r * topF (k + 1) (turnI r) (k - j):=by
  have e:=top_turn r k fun m hm=>h m (by omega)
  have e0:=top_turn r (k - 1) fun m hm=>h m (by omega)
  have s:=(top_step (r:=turnI r) hk (by rw [turn_turn,e]) (by rw [e]; exact h k (by omega))).1 (k - j) (by omega)
  rw [e,e0] at s
  rw [← s]
  have f:topFx k (turnI r) (k - j) = topBx k r j:=by
    unfold topFx topBx
    by_cases z:j = 0
    · rw [if_pos z,if_neg (by omega)]
    · rw [if_neg z,if_pos (by omega)]
  have b:topBx k (turnI r) (k - j) = topFx k r j:=by
    unfold topFx topBx
    rw [turn_turn]
    by_cases z:j < k
    · rw [if_pos z,if_neg (by omega),show k - (k - j) = j by omega]
    · rw [if_neg z,if_pos (by omega)]
  rw [f,b]
theorem top_much {k:Nat} {r:Int→Int} (hk:1 ≤ k) (h:∀ m,m < k + 1→topD m r ≠ 0):topD k r * topD k r - topDown k r * topDown k (turnI r) = topD (k - 1) r * topD (k + 1) r:=
  (top_step hk (top_turn r k fun m hm=>h m (by omega)) (h k (by omega))).2
end My
namespace My
open PySem L2
theorem Cg.mul {q a b c d:Int} (h1:Cg q a b) (h2:Cg q c d):Cg q (a * c) (b * d):=(h1.mulR c).trans (h2.mulL b)
theorem Cg.pow {q a b:Int} (h:Cg q a b):∀ k:Nat,Cg q (a ^ k) (b ^ k)
  | 0=>by rw [Int.pow_zero,Int.pow_zero]; exact Cg.refl 1
  | k + 1=>by
    rw [Int.pow_succ,Int.pow_succ]
    exact (Cg.pow h k).mul h
theorem detD_cg {q:Int}:∀ (cs:List Nat) (v w:Nat→Nat→Int),(∀ i,i < cs.length→∀ c ∈ cs,Cg q (v i c) (w i c))→Cg q (detD cs v) (detD cs w)
  | [],_,_,_=>Cg.refl _
  | c :: cs,v,w,h=>by
    rw [detD_cons,detD_cons]
    refine cg_sum fun j hj=>?_
    refine ((h j hj c List.mem_cons_self).mulL _).mul (detD_cg cs (skipR j v) (skipR j w) fun i hi c' hc=>?_)
    unfold skipR
    split
    · exact h i (by rw [List.length_cons]; omega) c' (List.mem_cons_of_mem _ hc)
    · exact h (i + 1) (by rw [List.length_cons]; omega) c' (List.mem_cons_of_mem _ hc)
theorem detD_times (a:Int):∀ (cs:List Nat) (v:Nat→Nat→Int),detD cs (fun i c=>a * v i c) = a ^ cs.length * detD cs v
  | [],v=>by show (1:Int) = a ^ 0 * 1; rw [Int.pow_zero]; rfl
  | c :: cs,v=>by
    rw [detD_cons,detD_cons,sumN_mul,List.length_cons,Int.pow_succ]
    refine sumN_congr fun j _=>?_
    have e:skipR j (fun i c=>a * v i c) = fun i c=>a * skipR j v i c:=by
      funext i c
      unfold skipR
      split <;> rfl
    rw [e,detD_times a cs]
    grind
def Alike (q:Int) (k:Nat) (a b:Int) (r s:Int→Int):Prop:=∀ d:Int,-(k:Int) < d→d < k→Cg q (a * r d) (b * s d)
theorem Alike.sub {q a b:Int} {k m:Nat} {r s:Int→Int} (h:Alike q k a b r s) (hm:m ≤ k):Alike q m a b r s:=fun d h1 h2=>h d (by omega) (by omega)
theorem Alike.turn {q a b:Int} {k:Nat} {r s:Int→Int} (h:Alike q k a b r s):Alike q k a b (turnI r) (turnI s):=fun d h1 h2=>h (-d) (by omega) (by omega)
theorem Alike.symm {q a b:Int} {k:Nat} {r s:Int→Int} (h:Alike q k a b r s):Alike q k b a s r:=fun d h1 h2=>(h d h1 h2).symm
theorem topD_alike {q a b:Int} {k:Nat} {r s:Int→Int} (h:Alike q k a b r s):Cg q (a ^ k * topD k r) (b ^ k * topD k s):=by
  have e:∀ (c:Int) (t:Int→Int),c ^ k * topD k t = detD (List.range k) fun j i=>c * topM t j i:=fun c t=>by
    rw [detD_times,List.length_range]
    rfl
  rw [e,e]
  refine detD_cg _ _ _ fun i hi c hc=>?_
  rw [List.length_range] at hi
  rw [List.mem_range] at hc
  exact h _ (by omega) (by omega)
theorem topF_alike {q a b:Int} {k:Nat} {r s:Int→Int} (h:Alike q k a b r s) {j:Nat} (hj:j < k):Cg q (a ^ (k - 1) * topF k r j) (b ^ (k - 1) * topF k s j):=by
  have e:∀ (c:Int) (t:Int→Int),c ^ (k - 1) * topF k t j = sgn j * detD ((List.range (k - 1)).map fun c=>c + 1) (fun i x=>c * skipR j (topM t) i x):=fun c t=>by
    rw [detD_times,List.length_map,List.length_range]
    unfold topF
    grind
  rw [e,e]
  refine Cg.mulL _ (detD_cg _ _ _ fun i hi c hc=>?_)
  rw [List.length_map,List.length_range] at hi
  obtain ⟨c',hc',rfl⟩:=List.mem_map.mp hc
  rw [List.mem_range] at hc'
  unfold skipR topM
  split
  · exact h _ (by omega) (by omega)
  · exact h _ (by omega) (by omega)
theorem nz_pow {q a:Int} (hq:WheelN q) (ha:¬ q ∣ a):∀ k:Nat,¬ q ∣ a ^ k
  | 0=>by
    rw [Int.pow_zero]
    exact BotOk.one.nz hq
  | k + 1=>by
    rw [Int.pow_succ]
    exact nz_mul hq (nz_pow hq ha k) ha
theorem Cg.nz' {q a b:Int} (h:Cg q a b) (n:¬ q ∣ a):¬ q ∣ b:=h.symm.nz n
theorem topD_nz {q a b:Int} {k:Nat} {r s:Int→Int} (hq:WheelN q) (h:Alike q k a b r s) (hb:¬ q ∣ b) (n:¬ q ∣ topD k s):¬ q ∣ topD k r:=fun z=>by
  have e:=topD_alike h
  have:¬ q ∣ a ^ k * topD k r:=e.nz (nz_mul hq (nz_pow hq hb k) n)
  exact this (Int.dvd_trans z (Int.dvd_mul_left _ _))
theorem topF_worth {q y n b b':Int} {k:Nat} {r r':Int→Int} (hq:WheelN q) (hk:1 ≤ k) (h:Alike q k (n * b) (y * b') r' r) (ha:¬ q ∣ n * b) {j:Nat} (hj:j < k):Weq q (topF k r' j * b' * y,topD k r' * n) (topF k r j * b,topD k r):=by
  have eD:=topD_alike h
  have eF:=topF_alike h hj
  have s:Cg q ((n * b) ^ k * (topF k r' j * b' * y * topD k r)) ((n * b) ^ k * (topF k r j * b * (topD k r' * n))):=by
    obtain ⟨m,rfl⟩:∃ m,k = m + 1:=⟨k - 1,by omega⟩
    rw [Nat.add_sub_cancel] at eF
    have l:(n * b) ^ (m + 1) * (topF (m + 1) r' j * b' * y * topD (m + 1) r) = (n * b) ^ m * topF (m + 1) r' j * (n * b * b' * y * topD (m + 1) r):=by
      rw [Int.pow_succ]
      grind
    have l2:(n * b) ^ (m + 1) * (topF (m + 1) r j * b * (topD (m + 1) r' * n)) = (n * b) ^ (m + 1) * topD (m + 1) r' * (topF (m + 1) r j * b * n):=by grind
    have l3:(y * b') ^ m * topF (m + 1) r j * (n * b * b' * y * topD (m + 1) r) = (y * b') ^ (m + 1) * topD (m + 1) r * (topF (m + 1) r j * b * n):=by
      rw [Int.pow_succ]
      grind
    rw [l,l2]
    refine (eF.mulR _).trans ?_
    rw [l3]
    exact (eD.mulR _).symm
  unfold Weq
  dsimp only
  unfold Cg at s
  rw [← Int.mul_sub] at s
  exact nz_cancel hq (nz_pow hq ha k) s
theorem facN_mono {a b:Nat} (h:a ≤ b):facN a ≤ facN b:=by
  induction h with
  | refl=>exact Nat.le_refl _
  | step _ ih=>exact Nat.le_trans ih (Nat.le_mul_of_pos_left _ (by omega))
theorem topD_bd {B:Nat} {r:Int→Int} (h:∀ d,(r d).natAbs ≤ B) (k:Nat):(topD k r).natAbs ≤ facN k * B ^ k:=by
  have:=det_bd (List.range k) (topM r) fun i c=>h _
  rwa [List.length_range] at this
theorem topF_bd {B:Nat} {r:Int→Int} (h:∀ d,(r d).natAbs ≤ B) (k j:Nat):(topF k r j).natAbs ≤ facN (k - 1) * B ^ (k - 1):=by
  have:=det_bd ((List.range (k - 1)).map fun c=>c + 1) (skipR j (topM r)) fun i c=>by
    unfold skipR
    split <;> exact h _
  rw [List.length_map,List.length_range] at this
  unfold topF
  rw [Int.natAbs_mul,show (sgn j).natAbs = 1 by unfold sgn; split <;> rfl,Nat.one_mul]
  exact this
end My
namespace L2
open PySem PySem.Spec PyProof.Rows
inductive Tr where
  | fl (v:V)
  | ls (xs:List Tr)
  | tp (xs:List Tr)
  | dc
inductive IsTr (H:Hp):Tr→V→Prop where
  | fl {v:V} (h:flatV v = true):IsTr H (.fl v) v
  | ls {a:Addr} {vs:List V} {ts:List Tr} (e:H a = some (.lst vs)) (l:vs.length = ts.length) (h:∀ (i:Nat) (v:V) (t:Tr),vs[i]? = some v→ts[i]? = some t→IsTr H t v):IsTr H (.ls ts) (.ref a)
  | tp {a:Addr} {vs:List V} {ts:List Tr} (e:H a = some (.tup vs)) (l:vs.length = ts.length) (h:∀ (i:Nat) (v:V) (t:Tr),vs[i]? = some v→ts[i]? = some t→IsTr H t v):IsTr H (.tp ts) (.ref a)
  | dc {a:Addr} (e:H a = some (DctO a)):IsTr H .dc (.ref a)
def Tr.In:Nat→Tr→Prop
  | _,.fl _=>True
  | _,.dc=>True
  | 0,.ls _=>False
  | 0,.tp _=>False
  | n + 1,.ls ts=>∀ t ∈ ts,t.In n
  | n + 1,.tp ts=>∀ t ∈ ts,t.In n
section
variable {X:Cx} {pins:List (Addr × Obj)} {σ:St} {H:Hp} {s:Shared}
theorem empty_rc {A:Around} {a b:Addr} (ha:EmptyD a s.heap) (hb:EmptyD b s.heap) (hu:A.units < cLine):SeqAt.RcAt A s (.ref a) (.ref b) true:=fun prog w E Q h=>by
  obtain ⟨o,ep,e,c,d,z⟩:=ha
  obtain ⟨o',ep',e',c',d',z'⟩:=hb
  exact PySem.W.keq_eq (knd:=mixKind prog w) (ka:=[]) (kb:=[]) z z' ⟨o,#[],ep,e,c,d,fun _ h=>by simp at h,.nil,List.nodup_nil⟩ ⟨o',#[],ep',e',c',d',fun _ h=>by simp at h,.nil,List.nodup_nil⟩ hu (fun _=>.nil) h
theorem empty_ne {A:Around} {a b:Addr} (ha:EmptyD a s.heap) (hb:EmptyD b s.heap) (hu:A.units < cLine):SeqAt.RcNeAt A s (.ref a) (.ref b) false:=fun prog w E Q h=>by
  obtain ⟨o,ep,e,c,d,z⟩:=ha
  obtain ⟨o',ep',e',c',d',z'⟩:=hb
  exact PySem.W.keq_ne (knd:=mixKind prog w) (ka:=[]) (kb:=[]) z z' ⟨o,#[],ep,e,c,d,fun _ h=>by simp at h,.nil,List.nodup_nil⟩ ⟨o',#[],ep',e',c',d',fun _ h=>by simp at h,.nil,List.nodup_nil⟩ hu (fun _=>.nil) h
theorem ent_at {xs ys:List V} {us vs:List Value} (r1:Vals xs us) (r2:Vals ys vs) {j:Nat} (h1:j < us.length) (h2:j < vs.length):∃ x y,xs[j]? = some x∧ys[j]? = some y∧RelV x us.toArray[j]∧RelV y vs.toArray[j]:=by
  have l1:=r1.length
  have l2:=r2.length
  obtain ⟨x,ex⟩:∃ x,xs[j]? = some x:=⟨xs[j],by simp [show j < xs.length by omega]⟩
  obtain ⟨y,ey⟩:∃ y,ys[j]? = some y:=⟨ys[j],by simp [show j < ys.length by omega]⟩
  obtain ⟨x',ex',rx⟩:=r1.get ex
  obtain ⟨y',ey',ry⟩:=r2.get ey
  have e1:us.toArray[j] = x':=by simpa using (List.getElem?_eq_some_iff.mp ex').2
  have e2:vs.toArray[j] = y':=by simpa using (List.getElem?_eq_some_iff.mp ey').2
  exact ⟨x,y,ex,ey,by rw [e1]; exact rx,by rw [e2]; exact ry⟩
theorem like_tr (I:Inv X pins σ H s):∀ (n:Nat) (A:Around) (t:Tr) (v u:V) (a b:Value),t.In n→IsTr H t v→IsTr H t u→RelV v a→RelV u b→A.units + n < cLine→SeqAt.EqAt A s a b true:=by
  intro n
  induction n with
  | zero=>
    intro A t v u a b hn h1 h2 ra rb hu
    cases h1 with
    | fl h=>
      cases h2 with
      | fl _=>
        have z:=eqAt_V (A:=A) (s:=s) ra rb h h
        rw [eqV_self h] at z
        exact z
    | ls e l h=>exact hn.elim
    | tp e l h=>exact hn.elim
    | @dc p e=>
      cases h2 with
      | @dc p' e'=>
        cases ra
        cases rb
        by_cases pq:p = p'
        · subst pq; exact SeqAt.EqAt.same _
        · exact SeqAt.EqAt.of_refs pq (empty_rc (show ObjOk X.prog X.w H s.heap p (.ext (EmptyD p)) from I.hok p _ e).1 (show ObjOk X.prog X.w H s.heap p' (.ext (EmptyD p')) from I.hok p' _ e').1 hu)
  | succ n ih=>
    intro A t v u a b hn h1 h2 ra rb hu
    cases h1 with
    | fl h=>
      cases h2 with
      | fl _=>
        have z:=eqAt_V (A:=A) (s:=s) ra rb h h
        rw [eqV_self h] at z
        exact z
    | @dc p e=>
      cases h2 with
      | @dc p' e'=>
        cases ra
        cases rb
        by_cases pq:p = p'
        · subst pq; exact SeqAt.EqAt.same _
        · exact SeqAt.EqAt.of_refs pq (empty_rc (show ObjOk X.prog X.w H s.heap p (.ext (EmptyD p)) from I.hok p _ e).1 (show ObjOk X.prog X.w H s.heap p' (.ext (EmptyD p')) from I.hok p' _ e').1 (by omega))
    | @ls p xs ts e l h=>
      cases h2 with
      | @ls p' ys _ e' l' h'=>
        cases ra
        cases rb
        by_cases pq:p = p'
        · subst pq; exact SeqAt.EqAt.same _
        obtain ⟨us,r1,t1,_⟩:=I.list (.of e)
        obtain ⟨vs,r2,t2,_⟩:=I.list (.of e')
        have l1:=r1.length
        have l2:=r2.length
        have z:=SeqAt.RcAt.lists (A:=A) (e:=fun _=>true) t1.isList t2.isList (by simp; omega) (by omega) (fun j z1 z2=>by
          obtain ⟨x,y,ex,ey,rx,ry⟩:=ent_at r1 r2 (by simpa using z1) (by simpa using z2)
          have jt:j < ts.length:=by have:=(List.getElem?_eq_some_iff.mp ex).1; omega
          exact ih A.in1 ts[j] x y _ _ (hn _ (List.getElem_mem jt)) (h j x _ ex (by simp [jt])) (h' j y _ ey (by simp [jt])) rx ry (by rw [Around.in1_units]; omega))
        rw [all_range] at z
        exact SeqAt.EqAt.of_refs pq z
    | @tp p xs ts e l h=>
      cases h2 with
      | @tp p' ys _ e' l' h'=>
        cases ra
        cases rb
        by_cases pq:p = p'
        · subst pq; exact SeqAt.EqAt.same _
        obtain ⟨us,r1,t1,_⟩:=I.tuple (.of e)
        obtain ⟨vs,r2,t2,_⟩:=I.tuple (.of e')
        have l1:=r1.length
        have l2:=r2.length
        have z:=SeqAt.RcAt.tuples (A:=A) (e:=fun _=>true) t1 t2 (by omega) (fun j z1 z2=>by
          obtain ⟨x,y,ex,ey,rx,ry⟩:=ent_at r1 r2 (by simpa using z1) (by simpa using z2)
          have jt:j < ts.length:=by have:=(List.getElem?_eq_some_iff.mp ex).1; omega
          exact ih A.in1 ts[j] x y _ _ (hn _ (List.getElem_mem jt)) (h j x _ ex (by simp [jt])) (h' j y _ ey (by simp [jt])) rx ry (by rw [Around.in1_units]; omega))
        have e3:(us.toArray.size == vs.toArray.size) = true:=by simp; omega
        rw [all_range,e3] at z
        exact SeqAt.EqAt.of_refs pq z
end
def rTree (n:Nat):R2:=fun x y H Q=>∃ t:Tr,t.In n∧IsTr H t x∧IsTr H t y∧Q (.bl false) H
theorem flat_scal {v:V} (h:flatV v = true):scal v v = true:=by cases v <;> first | rfl | cases h
theorem op_neTr {X:Cx} {n:Nat} (hu:X.A.units + 64 < cLine) (hn:n < 60:=by decide):OpR X (compareOp .NotEq) (rTree n):=by
  intro pins s σ H x y v u Q I rx ry h
  obtain ⟨t,hin,h1,h2,q⟩:=h
  cases h1 with
  | fl h=>
    cases h2 with
    | fl _=>
      refine op_ne pins s σ H x x v u Q I rx ry ⟨flat_scal h,?_⟩
      rw [decide_eq_true rfl]
      exact q
  | @dc p e=>
    cases h2 with
    | @dc p' e'=>
      cases rx
      cases ry
      exact (empty_ne (show ObjOk X.prog X.w H s.heap p (.ext (EmptyD p)) from I.hok p _ e).1 (show ObjOk X.prog X.w H s.heap p' (.ext (EmptyD p')) from I.hok p' _ e').1 (by omega)) _ _ _ _ ⟨.bl false,H,I,rfl,q⟩
  | @ls p xs ts e l h=>
    cases h2 with
    | @ls p' ys _ e' l' h'=>
      cases rx
      cases ry
      cases n with
      | zero=>exact hin.elim
      | succ n=>
        obtain ⟨us,r1,t1,_⟩:=I.list (.of e)
        obtain ⟨vs,r2,t2,_⟩:=I.list (.of e')
        have l1:=r1.length
        have l2:=r2.length
        refine SeqAt.RcNeAt.lists (e:=fun _=>true) t1.isList t2.isList (by simp; omega) (by omega) (fun j z1 z2=>?_) _ _ _ _ ?_
        · obtain ⟨x,y,ex,ey,rx,ry⟩:=ent_at r1 r2 (by simpa using z1) (by simpa using z2)
          have jt:j < ts.length:=by have:=(List.getElem?_eq_some_iff.mp ex).1; omega
          exact like_tr I n X.A.in1 ts[j] x y _ _ (hin _ (List.getElem_mem jt)) (h j x _ ex (by simp [jt])) (h' j y _ ey (by simp [jt])) rx ry (by rw [Around.in1_units]; omega)
        · rw [all_range]
          exact ⟨.bl false,H,I,rfl,q⟩
  | @tp p xs ts e l h=>
    cases h2 with
    | @tp p' ys _ e' l' h'=>
      cases rx
      cases ry
      cases n with
      | zero=>exact hin.elim
      | succ n=>
        obtain ⟨us,r1,t1,_⟩:=I.tuple (.of e)
        obtain ⟨vs,r2,t2,_⟩:=I.tuple (.of e')
        have l1:=r1.length
        have l2:=r2.length
        refine SeqAt.RcNeAt.tuples (e:=fun _=>true) t1 t2 (by omega) (fun j z1 z2=>?_) _ _ _ _ ?_
        · obtain ⟨x,y,ex,ey,rx,ry⟩:=ent_at r1 r2 (by simpa using z1) (by simpa using z2)
          have jt:j < ts.length:=by have:=(List.getElem?_eq_some_iff.mp ex).1; omega
          exact like_tr I n X.A.in1 ts[j] x y _ _ (hin _ (List.getElem_mem jt)) (h j x _ ex (by simp [jt])) (h' j y _ ey (by simp [jt])) rx ry (by rw [Around.in1_units]; omega)
        · have e3:(us.toArray.size == vs.toArray.size) = true:=by simp; omega
          rw [all_range,e3]
          exact ⟨.bl false,H,I,rfl,q⟩
end L2
namespace My
open PySem L2
end My
namespace My
open PySem L2
def midI (ts:List Int):Int→Int:=fun d=>if 0 ≤ ((ts.length / 2:Nat):Int) + d then ts.getD (((ts.length / 2:Nat):Int) + d).toNat 0 else 0
theorem midI_bd {M:Nat} {ts:List Int} (h:∀ x ∈ ts,x.natAbs ≤ M) (d:Int):(midI ts d).natAbs ≤ M:=by
  unfold midI
  split
  · exact getD_bd h _
  · exact Nat.zero_le _
structure GInv (q:Int) (r:Int→Int) (k:Nat) (fs bs:List Int) (much last:Int):Prop where
  k1:1 ≤ k
  lf:fs.length = k
  lb:bs.length = k
  f:∀ j,j < k→Cg q (fs.getD j 0) (topF k r j)
  b:∀ j,j < k→Cg q (bs.getD j 0) (topF k (turnI r) (k - 1 - j))
  m:Cg q much (topD k r)
  l:Cg q last (topD (k - 1) r)
  nz:∀ m,m < k→¬ q ∣ topD m r
  rf:q ≠ 0→∀ x ∈ fs,0 ≤ x∧x < q
  rb:q ≠ 0→∀ x ∈ bs,0 ≤ x∧x < q
  rm:q ≠ 0→0 ≤ much∧much < q
  rl:q ≠ 0→0 ≤ last∧last < q
theorem cg_zero {a b:Int} (h:Cg 0 a b):a = b:=by
  have:=Int.zero_dvd.mp h
  omega
theorem one_lt {q:Int} (hq:WheelN q) (z:q ≠ 0):2 ≤ q∧q ≤ 997:=by rcases hq with h | h <;> omega
theorem GInv.start {q:Int} {r:Int→Int} (hq:WheelN q) (hr:q ≠ 0→0 ≤ r 0∧r 0 < q):GInv q r 1 [1] [1] (r 0) 1 where
  k1:=Nat.le_refl 1
  lf:=rfl
  lb:=rfl
  f:=fun j hj=>by
    obtain rfl:j = 0:=by omega
    rw [topF_zero' (Nat.le_refl 1)]
    exact Cg.refl 1
  b:=fun j hj=>by
    obtain rfl:j = 0:=by omega
    show Cg q 1 (topF 1 (turnI r) 0)
    rw [topF_zero' (Nat.le_refl 1)]
    exact Cg.refl 1
  m:=by rw [topD_one]; exact Cg.refl _
  l:=Cg.refl 1
  nz:=fun m hm=>by
    obtain rfl:m = 0:=by omega
    exact BotOk.one.nz hq
  rf:=fun z x hx=>by
    have:=one_lt hq z
    rw [List.mem_singleton.mp hx]
    omega
  rb:=fun z x hx=>by
    have:=one_lt hq z
    rw [List.mem_singleton.mp hx]
    omega
  rm:=hr
  rl:=fun z=>by
    have:=one_lt hq z
    omega
theorem GInv.ne {q:Int} {r:Int→Int} {k:Nat} {fs bs:List Int} {much last:Int} (h:GInv q r k fs bs much last) (n:¬ q ∣ much):∀ m,m < k + 1→¬ q ∣ topD m r:=fun m hm=>by
  rcases Nat.lt_or_ge m k with z | z
  · exact h.nz m z
  · rw [show m = k by omega]
    exact h.m.nz' n
theorem ne_of_nd {q a:Int} (h:¬ q ∣ a):a ≠ 0:=fun e=>h (e ▸ Int.dvd_zero q)
def downI (r:Int→Int) (fs:List Int):Int:=sumN fs.length fun j=>r ((fs.length:Int) - (j:Int)) * fs.getD j 0
def upI (r:Int→Int) (bs:List Int):Int:=sumN bs.length fun j=>r (-1 - (j:Int)) * bs.getD j 0
theorem GInv.down {q:Int} {r:Int→Int} {k:Nat} {fs bs:List Int} {much last:Int} (h:GInv q r k fs bs much last):Cg q (downI r fs) (topDown k r):=by
  unfold downI topDown
  rw [h.lf]
  exact cg_sum fun j hj=>(h.f j hj).mulL _
theorem GInv.up {q:Int} {r:Int→Int} {k:Nat} {fs bs:List Int} {much last:Int} (h:GInv q r k fs bs much last):Cg q (upI r bs) (topDown k (turnI r)):=by
  unfold upI
  rw [← topUp,h.lb]
  exact cg_sum fun j hj=>(h.b j hj).mulL _
theorem GInv.fx {q:Int} {r:Int→Int} {k:Nat} {fs bs:List Int} {much last:Int} (h:GInv q r k fs bs much last) {j:Nat} (hj:j < k + 1):Cg q ((fs ++ [0]).getD j 0) (topFx k r j):=by
  unfold topFx
  by_cases z:j < k
  · rw [if_pos z,List.getD_eq_getElem?_getD,List.getElem?_append_left (by rw [h.lf]; exact z),← List.getD_eq_getElem?_getD]
    exact h.f j z
  · rw [if_neg z,List.getD_eq_getElem?_getD,List.getElem?_append_right (by rw [h.lf]; omega),h.lf,show j - k = 0 by omega]
    exact Cg.refl 0
theorem GInv.bx {q:Int} {r:Int→Int} {k:Nat} {fs bs:List Int} {much last:Int} (h:GInv q r k fs bs much last) {j:Nat} (hj:j < k + 1):Cg q (([0] ++ bs).getD j 0) (topBx k r j):=by
  unfold topBx
  cases j with
  | zero=>exact Cg.refl 0
  | succ j=>
    rw [if_neg (by omega),show k - (j + 1) = k - 1 - j by omega]
    exact h.b j (by omega)
theorem GInv.stepF {q:Int} {r:Int→Int} {k:Nat} {fs bs:List Int} {much last:Int} (h:GInv q r k fs bs much last) (n:¬ q ∣ much) {j:Nat} (hj:j < k + 1):Cg q (much * (fs ++ [0]).getD j 0 - downI r fs * ([0] ++ bs).getD j 0) (last * topF (k + 1) r j):=by
  refine ((h.m.mul (h.fx hj)).sub (h.down.mul (h.bx hj))).trans ?_
  rw [top_front h.k1 (fun m hm=>ne_of_nd (h.ne n m hm)) hj]
  exact (h.l.mulR _).symm
theorem GInv.stepB {q:Int} {r:Int→Int} {k:Nat} {fs bs:List Int} {much last:Int} (h:GInv q r k fs bs much last) (n:¬ q ∣ much) {j:Nat} (hj:j < k + 1):Cg q (much * ([0] ++ bs).getD j 0 - upI r bs * (fs ++ [0]).getD j 0) (last * topF (k + 1) (turnI r) (k - j)):=by
  refine ((h.m.mul (h.bx hj)).sub (h.up.mul (h.fx hj))).trans ?_
  rw [top_back h.k1 (fun m hm=>ne_of_nd (h.ne n m hm)) hj]
  exact (h.l.mulR _).symm
theorem GInv.stepM {q:Int} {r:Int→Int} {k:Nat} {fs bs:List Int} {much last:Int} (h:GInv q r k fs bs much last) (n:¬ q ∣ much):Cg q (much * much - downI r fs * upI r bs) (last * topD (k + 1) r):=by
  refine ((h.m.mul h.m).sub (h.down.mul h.up)).trans ?_
  rw [top_much h.k1 (fun m hm=>ne_of_nd (h.ne n m hm))]
  exact (h.l.mulR _).symm
theorem GInv.next {q:Int} {r:Int→Int} {k:Nat} {fs bs gs cs:List Int} {much last more:Int} (h:GInv q r k fs bs much last) (n:¬ q ∣ much) (lg:gs.length = k + 1) (lc:cs.length = k + 1) (hg:∀ j,j < k + 1→Cg q (gs.getD j 0) (topF (k + 1) r j)) (hc:∀ j,j < k + 1→Cg q (cs.getD j 0) (topF (k + 1) (turnI r) (k - j))) (hm:Cg q more (topD (k + 1) r))
    (rg:q ≠ 0→∀ x ∈ gs,0 ≤ x∧x < q) (rc:q ≠ 0→∀ x ∈ cs,0 ≤ x∧x < q) (rm:q ≠ 0→0 ≤ more∧more < q):GInv q r (k + 1) gs cs more much where
  k1:=by omega
  lf:=lg
  lb:=lc
  f:=hg
  b:=hc
  m:=hm
  l:=h.m
  nz:=h.ne n
  rf:=rg
  rb:=rc
  rm:=rm
  rl:=h.rm
structure GBd (q:Int) (r:Int→Int) (G M h:Nat):Prop where
  r:∀ d,(r d).natAbs ≤ M
  w:q ≠ 0→M ≤ 1000
  h40:h < 40
  mG:M ≤ G
  G1:10 ^ 8 ≤ G
  G2:G ≤ 10 ^ 300
  f:q = 0→facN h * M ^ h ≤ G
  M1:1 ≤ M
theorem facM_mono {M a b:Nat} (hM:1 ≤ M) (h:a ≤ b):facN a * M ^ a ≤ facN b * M ^ b:=Nat.mul_le_mul (facN_mono h) (Nat.pow_le_pow_right hM h)
theorem res_bd {q x:Int} (hq:WheelN q) (z:q ≠ 0) (h:0 ≤ x∧x < q):x.natAbs ≤ 1000:=by
  have:=one_lt hq z
  omega
theorem GBd.fs {q:Int} {r:Int→Int} {G M h k:Nat} {fs bs:List Int} {much last:Int} (B:GBd q r G M h) (I:GInv q r k fs bs much last) (hq:WheelN q) (hk:k ≤ h + 1):∀ x ∈ fs,x.natAbs ≤ G:=fun x hx=>by
  by_cases z:q = 0
  · subst z
    obtain ⟨j,hj,rfl⟩:=List.getElem_of_mem hx
    have e:=cg_zero (I.f j (by rw [← I.lf]; exact hj))
    rw [getD_at hj] at e
    rw [e]
    exact Nat.le_trans (topF_bd B.r k j) (Nat.le_trans (facM_mono B.M1 (by omega)) (B.f rfl))
  · exact Nat.le_trans (res_bd hq z (I.rf z x hx)) (Nat.le_trans (by decide) B.G1)
theorem GBd.bs {q:Int} {r:Int→Int} {G M h k:Nat} {fs bs:List Int} {much last:Int} (B:GBd q r G M h) (I:GInv q r k fs bs much last) (hq:WheelN q) (hk:k ≤ h + 1):∀ x ∈ bs,x.natAbs ≤ G:=fun x hx=>by
  by_cases z:q = 0
  · subst z
    obtain ⟨j,hj,rfl⟩:=List.getElem_of_mem hx
    have e:=cg_zero (I.b j (by rw [← I.lb]; exact hj))
    rw [getD_at hj] at e
    rw [e]
    exact Nat.le_trans (topF_bd (fun d=>B.r (-d)) k _) (Nat.le_trans (facM_mono B.M1 (by omega)) (B.f rfl))
  · exact Nat.le_trans (res_bd hq z (I.rb z x hx)) (Nat.le_trans (by decide) B.G1)
theorem GBd.mu {q:Int} {r:Int→Int} {G M h k:Nat} {fs bs:List Int} {much last:Int} (B:GBd q r G M h) (I:GInv q r k fs bs much last) (hq:WheelN q) (hk:k ≤ h):much.natAbs ≤ G:=by
  by_cases z:q = 0
  · subst z
    rw [cg_zero I.m]
    exact Nat.le_trans (topD_bd B.r k) (Nat.le_trans (facM_mono B.M1 hk) (B.f rfl))
  · exact Nat.le_trans (res_bd hq z (I.rm z)) (Nat.le_trans (by decide) B.G1)
theorem GBd.la {q:Int} {r:Int→Int} {G M h k:Nat} {fs bs:List Int} {much last:Int} (B:GBd q r G M h) (I:GInv q r k fs bs much last) (hq:WheelN q) (hk:k ≤ h + 1):last.natAbs ≤ G:=by
  by_cases z:q = 0
  · subst z
    rw [cg_zero I.l]
    exact Nat.le_trans (topD_bd B.r _) (Nat.le_trans (facM_mono B.M1 (by omega)) (B.f rfl))
  · exact Nat.le_trans (res_bd hq z (I.rl z)) (Nat.le_trans (by decide) B.G1)
theorem GBd.muE {q:Int} {r:Int→Int} {G M h k:Nat} {fs bs:List Int} {much last:Int} (B:GBd q r G M h) (I:GInv q r k fs bs much last) (hq:WheelN q) (hk:k ≤ h + 1):much.natAbs ≤ 40 * M * G:=by
  by_cases z:q = 0
  · subst z
    rw [cg_zero I.m]
    refine Nat.le_trans (topD_bd B.r k) (Nat.le_trans (facM_mono B.M1 hk) ?_)
    show (h + 1) * facN h * M ^ (h + 1) ≤ _
    rw [Nat.pow_succ]
    have e:(h + 1) * facN h * (M ^ h * M) = (h + 1) * M * (facN h * M ^ h):=by
      simp only [Nat.mul_assoc,Nat.mul_left_comm,Nat.mul_comm]
    rw [e]
    have:=B.h40
    exact Nat.mul_le_mul (Nat.mul_le_mul_right M (by omega)) (B.f rfl)
  · refine Nat.le_trans (res_bd hq z (I.rm z)) (Nat.le_trans (Nat.le_trans (by decide) B.G1) (Nat.le_mul_of_pos_left _ ?_))
    have:=B.M1
    omega
theorem sum_bd40 {M N k:Nat} (hk:k ≤ 40) {f g:Nat→Int} (hf:∀ j,j < k→(f j).natAbs ≤ M) (hg:∀ j,j < k→(g j).natAbs ≤ N):(sumN k fun j=>f j * g j).natAbs ≤ 40 * (M * N):=
  Nat.le_trans (sumN_bdD k _ fun j hj=>by rw [Int.natAbs_mul]; exact Nat.mul_le_mul (hf j hj) (hg j hj)) (Nat.mul_le_mul_right _ hk)
theorem GBd.dn {q:Int} {r:Int→Int} {G M h k:Nat} {fs bs:List Int} {much last:Int} (B:GBd q r G M h) (I:GInv q r k fs bs much last) (hq:WheelN q) (hk:k ≤ h):(downI r fs).natAbs ≤ G:=by
  have k40:=B.h40
  have k1:=I.k1
  by_cases z:q = 0
  · subst z
    rw [cg_zero I.down]
    unfold topDown
    refine Nat.le_trans (sumN_bdD k _ (M:=M * (facN (k - 1) * M ^ (k - 1))) fun j _=>by rw [Int.natAbs_mul]; exact Nat.mul_le_mul (B.r _) (topF_bd B.r k j)) (Nat.le_trans (Nat.le_of_eq ?_) (Nat.le_trans (facM_mono B.M1 hk) (B.f rfl)))
    obtain ⟨m,rfl⟩:∃ m,k = m + 1:=⟨k - 1,by omega⟩
    rw [Nat.add_sub_cancel]
    show _ = (m + 1) * facN m * M ^ (m + 1)
    rw [Nat.pow_succ]
    simp only [Nat.mul_assoc,Nat.mul_left_comm,Nat.mul_comm]
  · unfold downI
    have lf:=I.lf
    refine Nat.le_trans (sum_bd40 (M:=1000) (N:=1000) (by omega) (fun j _=>Nat.le_trans (B.r _) (B.w z)) fun j hj=>?_) (Nat.le_trans (by decide) B.G1)
    exact getD_bd (fun x hx=>res_bd hq z (I.rf z x hx)) j
theorem GBd.upB {q:Int} {r:Int→Int} {G M h k:Nat} {fs bs:List Int} {much last:Int} (B:GBd q r G M h) (I:GInv q r k fs bs much last) (hq:WheelN q) (hk:k ≤ h):(upI r bs).natAbs ≤ G:=by
  have k40:=B.h40
  have k1:=I.k1
  by_cases z:q = 0
  · subst z
    rw [cg_zero I.up]
    unfold topDown
    refine Nat.le_trans (sumN_bdD k _ (M:=M * (facN (k - 1) * M ^ (k - 1))) fun j _=>by rw [Int.natAbs_mul]; exact Nat.mul_le_mul (B.r _) (topF_bd (fun d=>B.r (-d)) k j)) (Nat.le_trans (Nat.le_of_eq ?_) (Nat.le_trans (facM_mono B.M1 hk) (B.f rfl)))
    obtain ⟨m,rfl⟩:∃ m,k = m + 1:=⟨k - 1,by omega⟩
    rw [Nat.add_sub_cancel]
    show _ = (m + 1) * facN m * M ^ (m + 1)
    rw [Nat.pow_succ]
    simp only [Nat.mul_assoc,Nat.mul_left_comm,Nat.mul_comm]
  · unfold upI
    have lb:=I.lb
    refine Nat.le_trans (sum_bd40 (M:=1000) (N:=1000) (by omega) (fun j _=>Nat.le_trans (B.r _) (B.w z)) fun j hj=>?_) (Nat.le_trans (by decide) B.G1)
    exact getD_bd (fun x hx=>res_bd hq z (I.rb z x hx)) j
end My
namespace My
open PySem L2
theorem dot_sum:∀ (n:Nat) (ts us:List Int),ts.length = n→us.length = n→dotI ts us = sumN n fun j=>ts.getD j 0 * us.getD j 0
  | 0,[],[],_,_=>rfl
  | n + 1,t :: ts,u :: us,h1,h2=>by
    have:=dot_sum n ts us (by simpa using h1) (by simpa using h2)
    unfold dotI at *
    show t * u + (List.zipWith (· * ·) ts us).sum = t * u + sumN n fun j=>ts.getD j 0 * us.getD j 0
    rw [this]
def spWSum:Sp:=fun vs H Q _=>∃ (a b:Addr) (ts us:List Int),vs = [.ref a,.ref b]∧H a = some (.lst (ts.map V.int))∧H b = some (.lst (us.map V.int))∧ts.length = us.length∧ts.length ≤ 100∧(∀ t ∈ ts,Mid t)∧(∀ t ∈ us,Mid t)∧∀ H':Hp,Same H H'→Q (.int (sumN us.length fun j=>ts.getD j 0 * us.getD j 0)) H'
def spShRowI:Sp:=fun vs H Q _=>∃ (a:Addr) (ts:List Int) (i:Int) (n:Nat),vs = [.ref a,.int i,.int (n:Int)]∧H a = some (.lst (ts.map V.int))∧ts.length ≤ 100∧n ≤ 100∧-100 ≤ i∧i ≤ 100∧(∀ j:Nat,j < n→0 ≤ ((ts.length / 2:Nat):Int) + i - j∧((ts.length / 2:Nat):Int) + i - j < ts.length)∧∀ (r:Addr) (H':Hp),Same H H'→H r = none→H' r = some (.lst (((List.range n).map fun (j:Nat)=>midI ts (i - j)).map V.int))→Q (.ref r) H'
def spEvenG (C:Addr):Sp:=fun vs H Q _=>∃ (z a:Addr) (q:Int) (ts:List Int) (b:Int) (u:Nat→Int),vs = [.ref z,.ref a,.int b]∧WorldAt C H z q∧WheelN q∧H a = some (.lst (ts.map V.int))∧ts.length ≤ 500∧(∀ t ∈ ts,Mid t)∧Mid b∧¬ q ∣ b∧(∀ i,i < ts.length→Cg q (ts.getD i 0) (b * u i))∧
  ∀ (c:Addr) (H':Hp) (rs:List Int),Same H H'→H c = none→H' c = some (.lst (rs.map V.int))→rs.length = ts.length→(∀ i,i < ts.length→Cg q (rs.getD i 0) (u i))→(q ≠ 0→∀ x ∈ rs,0 ≤ x∧x < q)→Q (.ref c) H'
def PrAt (l:Addr) (H:Hp) (v:V) (fs bs:List Int) (much:Int):Prop:=∃ p f b:Addr,v = .ref p∧H p = some (.tup [.ref f,.ref b,.int much])∧H f = some (.lst (fs.map V.int))∧H b = some (.lst (bs.map V.int))∧p ≠ l∧f ≠ l∧b ≠ l
theorem PrAt.mono {l:Addr} {H H':Hp} {v:V} {fs bs:List Int} {much:Int} (h:PrAt l H v fs bs much) (s:Same H H'):PrAt l H' v fs bs much:=by
  obtain ⟨p,f,b,e,e1,e2,e3,n⟩:=h
  exact ⟨p,f,b,e,s _ _ e1,s _ _ e2,s _ _ e3,n⟩
theorem PrAt.put {l:Addr} {H:Hp} {v:V} {fs bs:List Int} {much:Int} {o:HO} (h:PrAt l H v fs bs much):PrAt l (upd H l o) v fs bs much:=by
  obtain ⟨p,f,b,e,e1,e2,e3,n1,n2,n3⟩:=h
  exact ⟨p,f,b,e,by rw [upd_ne n1]; exact e1,by rw [upd_ne n2]; exact e2,by rw [upd_ne n3]; exact e3,n1,n2,n3⟩
def spNxP (C:Addr):Sp:=fun vs H Q _=>∃ (z a p f b:Addr) (q:Int) (ts fs bs:List Int) (much last:Int) (G M h k:Nat),vs = [.ref z,.ref a,.ref p,.int last]∧WorldAt C H z q∧WheelN q∧H a = some (.lst (ts.map V.int))∧ts.length = 2 * h + 1∧H p = some (.tup [.ref f,.ref b,.int much])∧H f = some (.lst (fs.map V.int))∧H b = some (.lst (bs.map V.int))∧GInv q (midI ts) k fs bs much last∧GBd q (midI ts) G M h∧k ≤ h∧¬ q ∣ much∧
  ∀ (p' f' b':Addr) (gs cs:List Int) (more:Int) (H':Hp),Same H H'→H p' = none→H f' = none→H b' = none→H' p' = some (.tup [.ref f',.ref b',.int more])→H' f' = some (.lst (gs.map V.int))→H' b' = some (.lst (cs.map V.int))→GInv q (midI ts) (k + 1) gs cs more much→Q (.ref p') H'
structure PairsL (l:Addr) (H:Hp) (q:Int) (r:Int→Int) (h:Nat) (vs:List V) (fF bF:Nat→List Int) (mF:Nat→Int):Prop where
  at':∀ (i:Nat) (v:V),vs[i]? = some v→PrAt l H v (fF i) (bF i) (mF i)∧∃ last,GInv q r (i + 1) (fF i) (bF i) (mF i) last
  len:1 ≤ vs.length∧vs.length ≤ h + 1
def spWPs (C:Addr):Sp:=fun vs H Q _=>∃ (z a:Addr) (q:Int) (ts:List Int) (G M h:Nat),vs = [.ref z,.ref a]∧WorldAt C H z q∧WheelN q∧H a = some (.lst (ts.map V.int))∧ts.length = 2 * h + 1∧GBd q (midI ts) G M h∧(q ≠ 0→∀ x ∈ ts,0 ≤ x∧x < q)∧
  ∀ (l:Addr) (vs:List V) (fF bF:Nat→List Int) (mF:Nat→Int) (H':Hp),Same H H'→H l = none→H' l = some (.lst vs)→PairsL l H' q (midI ts) h vs fF bF mF→(vs.length < h + 1→q ∣ topD vs.length (midI ts))→Q (.ref l) H'
end My
namespace My
open PySem L2
theorem GInv.much_nz {q:Int} {r:Int→Int} {k:Nat} {fs bs:List Int} {much last:Int} (h:GInv q r k fs bs much last) (n:much ≠ 0):¬ q ∣ much:=fun d=>by
  by_cases z:q = 0
  · subst z
    exact n (Int.zero_dvd.mp d)
  · have:=h.rm z
    have:=Int.le_of_dvd (by omega) d
    omega
theorem GInv.much_z {q:Int} {r:Int→Int} {k:Nat} {fs bs:List Int} {last:Int} (h:GInv q r k fs bs 0 last):q ∣ topD k r:=by
  have:=h.m
  unfold Cg at this
  rw [Int.zero_sub] at this
  exact Int.dvd_neg.mp this
theorem PairsL.push {l p f b:Addr} {H:Hp} {q:Int} {r:Int→Int} {h:Nat} {vs:List V} {fF bF:Nat→List Int} {mF:Nat→Int} {gs cs:List Int} {more last:Int} (P:PairsL l H q r h vs fF bF mF) (hl:vs.length ≤ h) (ep:H p = some (.tup [.ref f,.ref b,.int more])) (ef:H f = some (.lst (gs.map V.int))) (eb:H b = some (.lst (cs.map V.int))) (np:p ≠ l) (nf:f ≠ l) (nb:b ≠ l) (I:GInv q r (vs.length + 1) gs cs more last) :
    PairsL l (upd H l (.lst (vs ++ [.ref p]))) q r h (vs ++ [.ref p]) (fun i=>if i = vs.length then gs else fF i) (fun i=>if i = vs.length then cs else bF i) (fun i=>if i = vs.length then more else mF i) where
  at':=fun i v hv=>by
    rcases Nat.lt_or_ge i vs.length with z | z
    · rw [List.getElem?_append_left z] at hv
      rw [if_neg (by omega),if_neg (by omega),if_neg (by omega)]
      obtain ⟨h1,h2⟩:=P.at' i v hv
      exact ⟨h1.put,h2⟩
    · have hi:i = vs.length:=by
        have:=(List.getElem?_eq_some_iff.mp hv).1
        rw [List.length_append,List.length_singleton] at this
        omega
      subst hi
      rw [List.getElem?_append_right (Nat.le_refl _),Nat.sub_self] at hv
      cases hv
      rw [if_pos rfl,if_pos rfl,if_pos rfl]
      exact ⟨⟨p,f,b,rfl,by rw [upd_ne np]; exact ep,by rw [upd_ne nf]; exact ef,by rw [upd_ne nb]; exact eb,np,nf,nb⟩,last,I⟩
  len:=by
    rw [List.length_append,List.length_singleton]
    omega
theorem PairsL.mono {l:Addr} {H H':Hp} {q:Int} {r:Int→Int} {h:Nat} {vs:List V} {fF bF:Nat→List Int} {mF:Nat→Int} (P:PairsL l H q r h vs fF bF mF) (s:Same H H'):PairsL l H' q r h vs fF bF mF where
  at':=fun i v hv=>⟨(P.at' i v hv).1.mono s,(P.at' i v hv).2⟩
  len:=P.len
end My
namespace My
open PySem L2
def spTP (C:Addr):Sp:=fun vs H Q _=>∃ (z p f b:Addr) (q much bot:Int) (fs bs:List Int) (B:Nat),vs = [.ref z,.ref p,.int bot]∧WorldAt C H z q∧WheelN q∧H p = some (.tup [.ref f,.ref b,.int much])∧H f = some (.lst (fs.map V.int))∧H b = some (.lst (bs.map V.int))∧fs.length ≤ 500∧bs.length ≤ 500∧¬ q ∣ much∧Mid much∧Mid bot∧(∀ t ∈ fs,Mid t∧(t * bot).natAbs ≤ B)∧(∀ t ∈ bs,Mid t∧(t * bot).natAbs ≤ B)∧much.natAbs ≤ B∧
  ∀ (t f' b':Addr) (ps rs:List (Int × Int)) (H':Hp),Same H H'→H t = none→H f' = none→H b' = none→f' ≠ b'→H' t = some (.tup [.ref f',.ref b'])→RowG B H' q f' ps→RowG B H' q b' rs→ps.length = fs.length→rs.length = bs.length→(∀ i,i < fs.length→Weq q (ps.getD i o1) (fs.getD i 0 * bot,much))→(∀ i,i < bs.length→Weq q (rs.getD i o1) (bs.getD i 0 * bot,much))→Q (.ref t) H'
structure GrowIn (q:Int) (ps:List (Int × Int)) (D:Int) (f:Nat→Int) (T h:Nat):Prop where
  len:ps.length = 2 * h + 1
  h40:h < 40
  ok:BotOk q D
  dvd:∀ p ∈ ps,p.2 ∣ D
  bD:D.natAbs ≤ 10 ^ 60
  T1:1000 ≤ T
  T2:T ≤ 10 ^ 60
  w:∀ i,i < 2 * h + 1→Weq q (ps.getD i o1) (f i,D)∧(f i).natAbs ≤ T
  g:q = 0→facN h * T ^ h ≤ 10 ^ 160
def GrAt (B:Nat) (H0 H:Hp) (q:Int) (r:Addr) (N:Nat) (A Af Ab:Nat→Addr) (F G:Nat→List (Int × Int)):Prop:=H r = some (.lst ((List.range N).map fun i=>V.ref (A i)))∧∀ i,i < N→H (A i) = some (.tup [.ref (Af i),.ref (Ab i)])∧H0 (A i) = none∧H0 (Af i) = none∧H0 (Ab i) = none∧RowG B H q (Af i) (F i)∧RowG B H q (Ab i) (G i)
structure GrowN (q:Int) (ps:List (Int × Int)) (h N:Nat) (F G:Nat→List (Int × Int)) (r:Int→Int) (b:Int):Prop where
  ok:BotOk q b
  rep:∀ i,i < 2 * h + 1→r ((i:Int) - (h:Int)) * (ps.getD i o1).2 = (ps.getD i o1).1 * b
  N1:N ≤ h + 1
  nz:∀ m,m < N + 1→¬ q ∣ topD m r
  z:N < h + 1→q ∣ topD (N + 1) r
  lF:∀ i,i < N→(F i).length = i + 1
  lG:∀ i,i < N→(G i).length = i + 1
  wF:∀ i,i < N→∀ j,j < i + 1→Weq q ((F i).getD j o1) (topF (i + 1) r j * b,topD (i + 1) r)
  wG:∀ i,i < N→∀ j,j < i + 1→Weq q ((G i).getD j o1) (topF (i + 1) (turnI r) (i - j) * b,topD (i + 1) r)
end My
namespace My
open PySem L2
theorem PairsL.much_ne {l:Addr} {H:Hp} {q:Int} {r:Int→Int} {h:Nat} {vs:List V} {fF bF:Nat→List Int} {mF:Nat→Int} (P:PairsL l H q r h vs fF bF mF) {i:Nat} (hi:i + 1 < vs.length):mF i ≠ 0:=fun z=>by
  obtain ⟨_,_,I⟩:=P.at' i vs[i] (by simp [show i < vs.length by omega])
  obtain ⟨_,_,I'⟩:=P.at' (i + 1) vs[i + 1] (by simp [hi])
  rw [z] at I
  exact I'.nz (i + 1) (by omega) I.much_z
def growM (vs:List V) (mF:Nat→Int):Nat:=if mF (vs.length - 1) = 0 then vs.length - 1 else vs.length
theorem PairsL.told {l:Addr} {H:Hp} {q:Int} {r:Int→Int} {h:Nat} {vs:List V} {fF bF:Nat→List Int} {mF:Nat→Int} (P:PairsL l H q r h vs fF bF mF) {i:Nat} (hi:i < vs.length):mF i ≠ 0 ↔ i < growM vs mF:=by
  unfold growM
  by_cases z:i + 1 < vs.length
  · have:=P.much_ne z
    refine ⟨fun _=>?_,fun _=>this⟩
    split <;> omega
  · have e:i = vs.length - 1:=by omega
    rw [← e]
    by_cases m:mF i = 0
    · rw [if_pos m]
      exact ⟨fun h=>absurd m h,fun h=>by omega⟩
    · rw [if_neg m]
      exact ⟨fun _=>hi,fun _=>m⟩
theorem PairsL.nz {l:Addr} {H:Hp} {q:Int} {r:Int→Int} {h:Nat} {vs:List V} {fF bF:Nat→List Int} {mF:Nat→Int} (P:PairsL l H q r h vs fF bF mF):∀ m,m < growM vs mF + 1→¬ q ∣ topD m r:=fun m hm=>by
  have ln:=P.len
  obtain ⟨_,_,I⟩:=P.at' (vs.length - 1) vs[vs.length - 1] (by simp [show vs.length - 1 < vs.length by omega])
  rw [show vs.length - 1 + 1 = vs.length by omega] at I
  unfold growM at hm
  by_cases z:mF (vs.length - 1) = 0
  · rw [if_pos z] at hm
    exact I.nz m (by omega)
  · rw [if_neg z] at hm
    exact I.ne (I.much_nz z) m hm
theorem PairsL.ends {l:Addr} {H:Hp} {q:Int} {r:Int→Int} {h:Nat} {vs:List V} {fF bF:Nat→List Int} {mF:Nat→Int} (P:PairsL l H q r h vs fF bF mF) (e:vs.length < h + 1→q ∣ topD vs.length r):growM vs mF < h + 1→q ∣ topD (growM vs mF + 1) r:=fun hm=>by
  have ln:=P.len
  obtain ⟨_,_,I⟩:=P.at' (vs.length - 1) vs[vs.length - 1] (by simp [show vs.length - 1 < vs.length by omega])
  have nz:=P.nz
  unfold growM at hm nz ⊢
  by_cases z:mF (vs.length - 1) = 0
  · rw [if_pos z] at hm ⊢
    rw [z] at I
    exact I.much_z
  · rw [if_neg z] at hm nz ⊢
    exact absurd (e hm) (nz _ (by omega))
theorem growM_le (vs:List V) (mF:Nat→Int):growM vs mF ≤ vs.length:=by
  unfold growM
  split <;> omega
theorem GrowIn.bd {q:Int} {ps:List (Int × Int)} {D b:Int} {f:Nat→Int} {T h:Nat} {ts:List Int} {B:Nat} (g:GrowIn q ps D f T h) (hq:WheelN q) (hc:∀ p ∈ ps,Canon q p) (wd:WhD q ps ts b D B):GBd q (midI ts) (10 ^ 160) (if q = 0 then T else 1000) h∧(q ≠ 0→∀ x ∈ ts,0 ≤ x∧x < q):=by
  have each:∀ x ∈ ts,x.natAbs ≤ T∧(q ≠ 0→0 ≤ x∧x < q):=fun x hx=>by
    obtain ⟨i,hi,rfl⟩:=List.getElem_of_mem hx
    have hi':i < ps.length:=by rw [← wd.len]; exact hi
    have e:=(wd.each i hi').1
    have c:=hc _ (List.getElem_mem hi')
    rw [getD_at hi,getD_at hi'] at e
    have w:=g.w i (by rw [← g.len]; exact hi')
    rw [getD_at hi'] at w
    refine ⟨whole_bd hq g.T1 c e wd.ok g.ok wd.dvd w.1 w.2,fun z=>?_⟩
    have c2:=c.2 z
    rw [c2.1,wd.ok.2 z,Int.mul_one,Int.mul_one] at e
    rw [e]
    exact c2.2
  have T1:=g.T1
  refine ⟨⟨fun d=>?_,fun z=>by rw [if_neg z]; exact Nat.le_refl _,g.h40,?_,by decide +kernel,by decide +kernel,fun z=>by rw [if_pos z]; exact g.g z,by split <;> omega⟩,fun z x hx=>(each x hx).2 z⟩
  · refine midI_bd (fun x hx=>?_) d
    by_cases z:q = 0
    · rw [if_pos z]; exact (each x hx).1
    · rw [if_neg z]; exact res_bd hq z ((each x hx).2 z)
  · split
    · exact Nat.le_trans g.T2 (by decide +kernel)
    · decide +kernel
end My
namespace My
open PySem L2
theorem weq_cg {q x y M N b:Int} {p:Int × Int} (hq:WheelN q) (nM:¬ q ∣ M) (h:Weq q p (x * b,M)) (hx:Cg q x y) (hm:Cg q M N):Weq q p (y * b,N):=by
  obtain ⟨k,e⟩:=h
  obtain ⟨k1,e1⟩:=hx
  obtain ⟨k2,e2⟩:=hm
  dsimp only at e
  refine ⟨k - p.1 * k2 + k1 * b * p.2,?_⟩
  dsimp only
  have ey:y = x - q * k1:=by omega
  have en:N = M - q * k2:=by omega
  rw [ey,en]
  grind
end My
namespace My
open PySem L2
theorem ifs_to {c:TT} {t u:TS} {D:Ends} {σ:St} {H:Hp} (M:St→Hp→Prop) (hM:∀ σ H,M σ H→D.nx σ H) (k:∀ R:St→Hp→Prop,(∀ σ H,M σ H→R σ H)→tIfS c t u { D with nx:=R } σ H):tIfS c t u D σ H:=k D.nx hM
def farN (h:Nat):Nat:=[10 ^ 12,10 ^ 12,100,100,9,9].getD (min h 5) 9
theorem farN_ok (h:Nat):4 ≤ farN h∧farN h ≤ 10 ^ 20:=by
  unfold farN
  have:min h 5 ≤ 5:=by omega
  generalize min h 5 = m at this
  match m,this with
  | 0,_=>exact ⟨by decide,by decide⟩
  | 1,_=>exact ⟨by decide,by decide⟩
  | 2,_=>exact ⟨by decide,by decide⟩
  | 3,_=>exact ⟨by decide,by decide⟩
  | 4,_=>exact ⟨by decide,by decide⟩
  | 5,_=>exact ⟨by decide,by decide⟩
  | n + 6,h=>omega
theorem far_at (h:Nat):atI ([.int (10 ^ 12),.int (10 ^ 12),.int 100,.int 100,.int 9,.int 9]:List V) (min (h:Int) 5) = some (.int (farN h:Int)):=by
  unfold farN
  rw [show min (h:Int) 5 = ((min h 5:Nat):Int) by omega]
  have:min h 5 ≤ 5:=by omega
  generalize min h 5 = m at this
  match m,this with
  | 0,_=>rfl
  | 1,_=>rfl
  | 2,_=>rfl
  | 3,_=>rfl
  | 4,_=>rfl
  | 5,_=>rfl
  | n + 6,h=>omega
theorem of_tiny {B F:Nat} {H:Hp} {q i:Int} {v:V} (h:NumAt B H q v (ofP q i).1 (ofP q i).2) (hi:i.natAbs ≤ F) (hF:1 ≤ F):NumAt F H q v (ofP q i).1 (ofP q i).2:=by
  by_cases z:q = 0
  · subst z
    have e:ofP 0 i = (i,1):=rfl
    rw [e] at h ⊢
    cases h with
    | frac e l bx bm=>exact .frac e l hi (by show Int.natAbs 1 ≤ F; omega)
    | rem h0 h1 h2=>omega
  · generalize hp:(ofP q i).1 = x at h ⊢
    generalize hm:(ofP q i).2 = m at h ⊢
    cases h with
    | frac e l bx bm=>exact absurd rfl z
    | rem h0 h1 h2=>exact .rem h0 h1 h2
theorem comp_ofEw {wi:TI} {ρ:St→St} {te:TE} {σ:St} {H:Hp} {Q:VK} {P a:Addr} {n:Nat} (hn:n < sizeLine)
    (hwi:∀ R:It→Hp→Prop,(∀ (H1:Hp),SameE P H H1→PenC H1 P a→R (Itr 0 n) H1)→wi σ H R)
    (Pr:Addr→Nat→V→Hp→Prop) (mono:∀ D i y Hc H' ys,Pr D i y Hc→Hc D = some (.lst ys)→D ≠ P→(∀ b o,b ≠ D→b ≠ P→Hc b = some o→H' b = some o)→Pr D i y H')
    (step:∀ (D:Addr) (i:Nat),i < n→∀ (Hc:Hp) (R:VK),SameE P H Hc→PenC Hc P a→(∃ ys,Hc D = some (.lst ys))→D ≠ P→(∀ y H3,SameE P Hc H3→PenC H3 P a→Pr D i y H3→R y H3)→te (some (.int (0 + (i:Int))) :: ρ σ) Hc R)
    (fin:∀ (D:Addr) (ys:List V) (Hc:Hp),D ≠ P→er P H D = none→SameE P H Hc→PenC Hc P a→ys.length = n→(∀ (i:Nat) (y:V),ys[i]? = some y→Pr D i y Hc)→Hc D = some (.lst ys)→Q (.ref D) Hc):tComp wi ρ (fun _ H Q=>Q true H) te σ H Q:=by
  refine hwi _ fun H1 s1 p1=>?_
  intro D nD
  have nP:=p1.ne nD
  refine ⟨fun i m ys Hc=>m = n - i∧i ≤ n∧Hc D = some (.lst ys)∧SameE P H1 Hc∧PenC Hc P a∧ys.length = i∧∀ j y,ys[j]? = some y→Pr D j y Hc,⟨_,rfl,Nat.zero_le _,upd_same,(SameE.refl H1).but nD,p1.upd nP,rfl,fun j y e=>by simp at e⟩,?_⟩
  rintro i m ys Hc ⟨rfl,hi,eD,sH,pc,el,hP⟩
  refine ⟨eD,?_⟩
  by_cases hlt:i < n
  · refine .inr ⟨hlt,fun x H' hy=>?_⟩
    obtain ⟨rfl,rfl⟩:=hy
    rw [if_pos rfl]
    refine step D i (by omega) _ _ (s1.trans sH) pc ⟨ys,eD⟩ nP fun y H3 s3 p3 hp=>?_
    have e3:=s3.at nP eD
    refine ⟨e3,by omega,n - (i + 1),by omega,rfl,hlt,upd_same,(sH.trans s3).but nD,p3.upd nP,by simp [el],fun j y' e=>?_⟩
    have far:∀ b o,b ≠ D→b ≠ P→H3 b = some o→upd H3 D (.lst (ys ++ [y])) b = some o:=fun b o nb _ e=>by rw [upd_ne nb]; exact e
    by_cases hj:j < i
    · have e':ys[j]? = some y':=by rw [List.getElem?_append_left (by omega)] at e; exact e
      refine mono D j y' H' _ ys (hP j y' e') eD nP fun b o nb np e=>?_
      exact far b o nb np (s3.at np e)
    · have hj:j = i:=by
        have:=(List.getElem?_eq_some_iff.mp e).1
        simp at this
        omega
      subst hj
      have e':y' = y:=by rw [List.getElem?_append_right (by omega),el,Nat.sub_self] at e; simpa using e.symm
      subst e'
      exact mono D _ _ H3 _ ys hp e3 nP far
  · have e:i = n:=by omega
    subst e
    exact .inl ⟨Nat.le_refl _,fin D ys Hc nP (none_of s1 (by rw [er_ne nP]; exact nD)) (s1.trans sH) pc el hP eD⟩
def RowX (P:Addr) (H H':Hp) (q:Int) (r:Addr) (h F:Nat):Prop:=r ≠ P∧er P H r = none∧∃ vs:List V,H' r = some (.lst vs)∧vs.length = 2 * h + 1∧∀ (i:Nat) (v:V),vs[i]? = some v→∃ xm:Int × Int,NumAt F (er P H') q v xm.1 xm.2
theorem RowX.put {P a:Addr} {H Hx:Hp} {q:Int} {r:Addr} {h F i:Nat} {vs:List V} {v:V} {xm:Int × Int} (n:r ≠ P) (f:er P H r = none) (e:Hx r = some (.lst vs)) (l:vs.length = 2 * h + 1) (hP:∀ (i:Nat) (v:V),vs[i]? = some v→∃ xm:Int × Int,NumAt F (er P Hx) q v xm.1 xm.2) (s:SameE P H Hx) (p:PenC Hx P a) (g:NumAt F (er P Hx) q v xm.1 xm.2) :
    SameE P H (upd Hx r (.lst (vs.set i v)))∧PenC (upd Hx r (.lst (vs.set i v))) P a∧RowX P H (upd Hx r (.lst (vs.set i v))) q r h F:=by
  have far:∀ b o,b ≠ r→b ≠ P→Hx b = some o→upd Hx r (.lst (vs.set i v)) b = some o:=fun b o nb _ e=>by rw [upd_ne nb]; exact e
  refine ⟨s.but (by rw [er_ne n] at f; exact f),p.upd n,n,f,_,upd_same,by rw [List.length_set]; exact l,fun j w hw=>?_⟩
  by_cases z:j = i
  · subst z
    have hj:j < vs.length:=by
      have:=(List.getElem?_eq_some_iff.mp hw).1
      rw [List.length_set] at this
      exact this
    rw [List.getElem?_set_self hj] at hw
    cases hw
    exact ⟨_,g.farE e far⟩
  · rw [List.getElem?_set_ne (by omega)] at hw
    obtain ⟨xm',g'⟩:=hP j w hw
    exact ⟨_,g'.farE e far⟩
def spETold (K:PySem.W.Frag):Sp:=fun vs H Q _=>∃ (P a td:Addr) (ns:List Int) (q:Int) (first:Bool),vs = [.ref P,.ref td,.bl first]∧PenC H P a∧SqL K (er P H) a (ns.map V.int)∧ToldAt (er P H) td q∧WheelN q∧
  ∀ (r:Addr) (ps:List (Int × Int)) (h:Nat) (H':Hp),SameE P H H'→PenC H' P a→er P H r = none→r ≠ P→h < 40→(q = 0→h ≤ 5)→ps.length = 2 * h + 1→RowG (farN h) (er P H') q r ps→Q (.ref r) H'
end My
namespace My
open PySem L2
theorem GrAt.mono {B:Nat} {H0 H H':Hp} {q:Int} {r:Addr} {N:Nat} {A Af Ab:Nat→Addr} {F G:Nat→List (Int × Int)} (h:GrAt B H0 H q r N A Af Ab F G) (s:Same H H'):GrAt B H0 H' q r N A Af Ab F G:=⟨s _ _ h.1,fun i hi=>by
  obtain ⟨h1,h2,h3,h4,h5,h6⟩:=h.2 i hi
  exact ⟨s _ _ h1,h2,h3,h4,h5.mono s,h6.mono s⟩⟩
end My
namespace My
open PySem L2
theorem weq_tr {q:Int} {p s t:Int × Int} (hq:WheelN q) (ns:¬ q ∣ s.2) (h1:Weq q p s) (h2:Weq q s t):Weq q p t:=by
  obtain ⟨k1,e1⟩:=h1
  obtain ⟨k2,e2⟩:=h2
  unfold Weq
  refine nz_cancel hq ns ⟨k1 * t.2 + k2 * p.2,?_⟩
  grind
theorem alike_of {q y n b b':Int} {ps ps':List (Int × Int)} {r r':Int→Int} {h h':Nat} (hq:WheelN q) (hh:h' ≤ h) (cp:∀ i,¬ q ∣ (ps.getD i o1).2) (cp':∀ i,¬ q ∣ (ps'.getD i o1).2)
    (rep:∀ i,i < 2 * h + 1→r ((i:Int) - (h:Int)) * (ps.getD i o1).2 = (ps.getD i o1).1 * b) (rep':∀ i,i < 2 * h' + 1→r' ((i:Int) - (h':Int)) * (ps'.getD i o1).2 = (ps'.getD i o1).1 * b')
    (hw:∀ i,i < 2 * h' + 1→Weq q (ps'.getD i o1) (y * (ps.getD (i + (h - h')) o1).1,n * (ps.getD (i + (h - h')) o1).2)):Alike q (h' + 1) (n * b) (y * b') r' r:=fun d h1 h2=>by
  obtain ⟨i,hi⟩:∃ i:Nat,(i:Int) = d + h':=⟨(d + h').toNat,by omega⟩
  have e':=rep' i (by omega)
  have e:=rep (i + (h - h')) (by omega)
  have w:=hw i (by omega)
  rw [show (i:Int) - (h':Int) = d by omega] at e'
  rw [show ((i + (h - h'):Nat):Int) - (h:Int) = d by omega] at e
  have n1:=cp (i + (h - h'))
  have n2:=cp' i
  generalize ps.getD (i + (h - h')) o1 = p at e w n1
  generalize ps'.getD i o1 = p' at e' w n2
  obtain ⟨k,ek⟩:=w
  dsimp only at ek
  unfold Cg
  refine nz_cancel hq (nz_mul hq n1 n2) ⟨k * b * b',?_⟩
  have a1:p.2 * p'.2 * (n * b * r' d - y * b' * r d) = n * b * p.2 * (r' d * p'.2) - y * b' * p'.2 * (r d * p.2):=by grind
  rw [a1,e,e']
  have a2:n * b * p.2 * (p'.1 * b') - y * b' * p'.2 * (p.1 * b) = b * b' * (p'.1 * (n * p.2) - y * p.1 * p'.2):=by grind
  rw [a2,ek]
  grind
theorem GrowN.turnD {q:Int} {ps:List (Int × Int)} {h N:Nat} {F G:Nat→List (Int × Int)} {r:Int→Int} {b:Int} (g:GrowN q ps h N F G r b) {k:Nat} (hk:k ≤ N + 1):topD k (turnI r) = topD k r:=top_turn r k fun m hm=>ne_of_nd (g.nz m (by omega))
end My
namespace My
open PySem L2
def numT (q:Int) (p:Int × Int):Tr:=if q = 0 then .tp [.fl (.int p.1),.fl (.int p.2)] else .fl (.int p.1)
def rowT (q:Int) (ps:List (Int × Int)):Tr:=.ls (ps.map (numT q))
theorem numT_is {B:Nat} {H:Hp} {q:Int} {v:V} {p:Int × Int} (h:NumAt B H q v p.1 p.2):IsTr H (numT q p) v:=by
  obtain ⟨x,m⟩:=p
  cases h with
  | frac e l bx bm=>
    refine .tp e rfl fun i v t h1 h2=>?_
    match i,h1,h2 with
    | 0,h1,h2=>cases h1; cases h2; exact .fl rfl
    | 1,h1,h2=>cases h1; cases h2; exact .fl rfl
    | n + 2,h1,_=>cases h1
  | rem h0 h1 h2=>
    unfold numT
    rw [if_neg (by omega)]
    exact .fl rfl
theorem rowT_is {B:Nat} {H:Hp} {q:Int} {a:Addr} {ps:List (Int × Int)} (h:RowG B H q a ps):IsTr H (rowT q ps) (.ref a):=by
  obtain ⟨vs,e,l,f⟩:=h
  refine .ls e (by rw [List.length_map]; exact l) fun i v t h1 h2=>?_
  have hi:i < ps.length:=by
    have:=(List.getElem?_eq_some_iff.mp h1).1
    omega
  rw [List.getElem?_map,show ps[i]? = some ps[i] by simp [hi]] at h2
  cases h2
  exact numT_is (f i v ps[i] h1 (by simp [hi]))
theorem pairT_is {B:Nat} {H:Hp} {q:Int} {t f b:Addr} {ps rs:List (Int × Int)} (e:H t = some (.tup [.ref f,.ref b])) (h1:RowG B H q f ps) (h2:RowG B H q b rs):IsTr H (.tp [rowT q ps,rowT q rs]) (.ref t):=by
  refine .tp e rfl fun i v t e1 e2=>?_
  match i,e1,e2 with
  | 0,e1,e2=>cases e1; cases e2; exact rowT_is h1
  | 1,e1,e2=>cases e1; cases e2; exact rowT_is h2
  | n + 2,e1,_=>cases e1
theorem numT_in (q:Int) (p:Int × Int):(numT q p).In 1:=by
  unfold numT
  split
  · intro t ht
    rcases List.mem_cons.mp ht with rfl | ht
    · trivial
    · rw [List.mem_singleton.mp ht]; trivial
  · trivial
theorem rowT_in (q:Int) (ps:List (Int × Int)):(rowT q ps).In 2:=fun t ht=>by
  obtain ⟨p,_,rfl⟩:=List.mem_map.mp ht
  exact numT_in q p
theorem row_ext {xs ys:List (Int × Int)} {n:Nat} (h1:xs.length = n) (h2:ys.length = n) (h:∀ j,j < n→xs.getD j o1 = ys.getD j o1):xs = ys:=by
  refine List.ext_getElem (by omega) fun i a1 a2=>?_
  have:=h i (by omega)
  rw [getD_at a1,getD_at a2] at this
  exact this
theorem canon_bD {q:Int} (hq:WheelN q) {ps:List (Int × Int)} (h:∀ p ∈ ps,Canon q p) (i:Nat):¬ q ∣ (ps.getD i o1).2:=(canonD hq h i).bot.nz hq
theorem canon_11 {q:Int} (hq:WheelN q):Canon q ((1:Int),(1:Int)):=⟨fun _=>⟨by decide,by decide⟩,fun z=>⟨rfl,by decide,by have:=one_lt hq z; omega⟩⟩
end My
namespace My
open PySem L2
structure ToldIn (q:Int) (ps:List (Int × Int)) (D:Int) (f:Nat→Int) (T h:Nat):Prop where
  g:GrowIn q ps D f T h
  D36:D.natAbs ≤ 10 ^ 36
  T36:T ≤ 10 ^ 36
  s:q = 0→facN h * (10 ^ 20 * T) ^ h ≤ 10 ^ 160
theorem far_sz {h:Nat} (h5:h ≤ 5):1000 ≤ farN h ^ (2 * h + 1)∧farN h ^ (2 * h + 1) ≤ 10 ^ 36∧facN h * (10 ^ 20 * farN h ^ (2 * h + 1)) ^ h ≤ 10 ^ 160:=by
  match h,h5 with
  | 0,_=>exact ⟨by decide +kernel,by decide +kernel,by decide +kernel⟩
  | 1,_=>exact ⟨by decide +kernel,by decide +kernel,by decide +kernel⟩
  | 2,_=>exact ⟨by decide +kernel,by decide +kernel,by decide +kernel⟩
  | 3,_=>exact ⟨by decide +kernel,by decide +kernel,by decide +kernel⟩
  | 4,_=>exact ⟨by decide +kernel,by decide +kernel,by decide +kernel⟩
  | 5,_=>exact ⟨by decide +kernel,by decide +kernel,by decide +kernel⟩
  | n + 6,h=>omega
theorem told_in {q:Int} {ps:List (Int × Int)} {h:Nat} {H:Hp} {a:Addr} (hq:WheelN q) (h40:h < 40) (h5:q = 0→h ≤ 5) (l:ps.length = 2 * h + 1) (hR:RowG (farN h) H q a ps):∃ (D:Int) (f:Nat→Int) (T:Nat),ToldIn q ps D f T h:=by
  have fk:=farN_ok h
  have hc:=hR.canonP
  by_cases z:q = 0
  · subst z
    have sz:=far_sz (h5 rfl)
    obtain ⟨D,okD,dvD,bdD,bcD⟩:=one_botC (F:=farN h) (by omega) ps (hR.botF (by omega))
    rw [l] at bdD bcD
    rw [Nat.add_sub_cancel] at bcD
    have hD:=okD.1 rfl
    have tops:∀ p ∈ ps,p.1.natAbs ≤ farN h:=fun p hp=>by
      obtain ⟨vs,ea,lv,fv⟩:=hR
      obtain ⟨i,hi,rfl⟩:=List.getElem_of_mem hp
      have hv:=fv i vs[i] ps[i] (by simp [show i < vs.length by omega]) (by simp [hi])
      generalize ps[i] = p at hv
      obtain ⟨x,m⟩:=p
      generalize vs[i] = v at hv
      cases hv with
      | frac e l bx bm=>exact bx
      | rem h0 h1 h2=>omega
    refine ⟨D,fun i=>(ps.getD i o1).1 * (D / (ps.getD i o1).2),farN h ^ (2 * h + 1),⟨⟨l,h40,okD,dvD,Nat.le_trans bdD (Nat.le_trans sz.2.1 (by decide +kernel)),sz.1,Nat.le_trans sz.2.1 (by decide +kernel),fun i hi=>?_,fun _=>Nat.le_trans ?_ sz.2.2⟩,Nat.le_trans bdD sz.2.1,sz.2.1,fun _=>sz.2.2⟩⟩
    · have hi':i < ps.length:=by omega
      rw [getD_at hi']
      have pm:=List.getElem_mem hi'
      obtain ⟨m',em⟩:=dvD _ pm
      have m0:ps[i].2 ≠ 0:=fun e=>by rw [e,Int.zero_mul] at em; omega
      have ed:D / ps[i].2 = m':=by rw [em]; exact Int.mul_ediv_cancel_left _ m0
      rw [ed]
      refine ⟨⟨0,by dsimp only; rw [em]; grind⟩,?_⟩
      have b1:=tops _ pm
      have b2:=bcD _ pm
      rw [em,Int.natAbs_mul] at b2
      have b3:m'.natAbs ≤ farN h ^ (2 * h):=Nat.le_of_mul_le_mul_left b2 (Int.natAbs_pos.mpr m0)
      rw [Int.natAbs_mul,Nat.pow_succ,Nat.mul_comm]
      exact Nat.mul_le_mul b3 b1
    · exact Nat.mul_le_mul_left _ (Nat.pow_le_pow_left (Nat.le_mul_of_pos_left _ (by decide)) _)
  · refine ⟨1,fun i=>(ps.getD i o1).1,1000,⟨⟨l,h40,BotOk.one,fun p hp=>?_,by decide,Nat.le_refl _,by decide +kernel,fun i hi=>?_,fun e=>absurd e z⟩,by decide,by decide +kernel,fun e=>absurd e z⟩⟩
    · rw [((hc p hp).2 z).1]
      exact Int.dvd_refl 1
    · have c:=(canonD hq hc i).2 z
      refine ⟨⟨0,by dsimp only; rw [c.1]; omega⟩,?_⟩
      exact res_bd hq z c.2
end My
namespace My
open PySem L2
theorem tdOf_prime (q:Int):(tdOf q).prime = if q = 0 then .non else .int q:=by
  unfold tdOf
  split <;> rfl
theorem ifs_any6 {c:TT} {t u:TS} {D:Ends} {σ:St} {H:Hp} (hc:∀ Q:Bool→Hp→Prop,(∀ b,Q b H)→c σ H Q) (ht:t D σ H) (hu:u D σ H):tIfS c t u D σ H:=hc _ fun b=>by
  cases b with
  | true=>rw [if_pos rfl]; exact ht
  | false=>rw [if_neg Bool.false_ne_true]; exact hu
end My
namespace L2
open PySem
end L2
namespace My
open PySem L2
end My
namespace My
open PySem L2
end My
namespace My
open PySem L2
theorem canon_sized {B:Nat} {q S M:Int} {p:Int × Int} (hq:WheelN q) (hc:Canon q p) (nM:¬ q ∣ M) (w:Weq q p (S,M)) (bS:S.natAbs ≤ B) (bM:M.natAbs ≤ B) (hB:1000 ≤ B):p.1.natAbs ≤ B∧p.2.natAbs ≤ B:=by
  by_cases z:q = 0
  · subst z
    have l:=hc.1 rfl
    have e:p.1 * M = S * p.2:=by
      have:=Int.zero_dvd.mp w
      dsimp only at this
      omega
    have M0:M ≠ 0:=ne_of_nd nM
    have g:Nat.gcd p.1.natAbs p.2.natAbs = 1:=l.cop
    have e':p.1.natAbs * M.natAbs = S.natAbs * p.2.natAbs:=by rw [← Int.natAbs_mul,← Int.natAbs_mul,e]
    have d2:p.2.natAbs ∣ M.natAbs:=Nat.Coprime.dvd_of_dvd_mul_left (show Nat.Coprime p.2.natAbs p.1.natAbs from (Nat.gcd_comm _ _).trans g) (by rw [e']; exact Nat.dvd_mul_left _ _)
    have d1:p.1.natAbs ∣ S.natAbs:=Nat.Coprime.dvd_of_dvd_mul_right (show Nat.Coprime p.1.natAbs p.2.natAbs from g) (by rw [← e']; exact Nat.dvd_mul_right _ _)
    refine ⟨?_,Nat.le_trans (Nat.le_of_dvd (Int.natAbs_pos.mpr M0) d2) bM⟩
    by_cases s0:S = 0
    · rw [s0,Int.zero_mul] at e
      rcases Int.mul_eq_zero.mp e with h | h
      · rw [h]; exact Nat.zero_le _
      · exact absurd h M0
    · exact Nat.le_trans (Nat.le_of_dvd (Int.natAbs_pos.mpr s0) d1) bS
  · obtain ⟨a,b⟩:=hc.2 z
    have:=one_lt hq z
    rw [a]
    exact ⟨by omega,Nat.le_trans (show Int.natAbs 1 ≤ 1000 by decide) hB⟩
theorem NumAt.resize {B B':Nat} {H:Hp} {q S M:Int} {v:V} {p:Int × Int} (h:NumAt B H q v p.1 p.2) (hq:WheelN q) (nM:¬ q ∣ M) (w:Weq q p (S,M)) (bS:S.natAbs ≤ B') (bM:M.natAbs ≤ B') (hB:1000 ≤ B'):NumAt B' H q v p.1 p.2:=by
  obtain ⟨b1,b2⟩:=canon_sized hq h.canon nM w bS bM hB
  exact h.sized b1 b2
structure CarIn (q:Int) (ps xs:List (Int × Int)) (h k:Nat) (r:Int→Int) (b:Int) (x:Nat→Int) (M:Int) (R X:Nat):Prop where
  len:ps.length = 2 * h + 1
  h40:h < 40
  lx:xs.length = k
  kh:k ≤ h + 1
  nb:¬ q ∣ b
  nM:¬ q ∣ M
  w:∀ i,i < 2 * h + 1→Weq q (ps.getD i o1) (r ((i:Int) - (h:Int)),b)
  v:∀ j,j < k→Weq q (xs.getD j o1) (x j,M)
  bR:∀ d,(r d).natAbs ≤ R
  bX:∀ j,j < k→(x j).natAbs ≤ X
  s:40 * (R * X) ≤ 10 ^ 300
  t:(b * M).natAbs ≤ 10 ^ 300
def carS (r:Int→Int) (x:Nat→Int) (i k:Nat):Int:=sumN k fun j=>r ((i:Int) - (j:Int)) * x j
def spECar:Sp:=fun vs H Q _=>∃ (td a c:Addr) (q:Int) (ps xs:List (Int × Int)) (h k many:Nat) (r:Int→Int) (b:Int) (x:Nat→Int) (M:Int) (R X:Nat),vs = [.ref td,.ref a,.ref c,.int (many:Int)]∧ToldAt H td q∧WheelN q∧RowG (10 ^ 300) H q a ps∧RowG (10 ^ 300) H q c xs∧CarIn q ps xs h k r b x M R X∧many ≤ h + 1∧
  ∀ (f:Addr) (ys:List (Int × Int)) (H':Hp),Same H H'→H f = none→RowG (10 ^ 300) H' q f ys→ys.length = many→(∀ i,i < many→Weq q (ys.getD i o1) (carS r x i k,b * M))→Q (.ref f) H'
theorem weq_add {q S T M:Int} {p r:Int × Int} (hq:WheelN q) (hp:Canon q p) (hr:Canon q r) (nM:¬ q ∣ M) (h1:Weq q p (S,M)) (h2:Weq q r (T,M)):Weq q (addP q p r) (S + T,M):=by
  obtain ⟨_,w⟩:=addP_canon hq hp hr
  refine weq_tr hq (nz_mul hq (hp.bot.nz hq) (hr.bot.nz hq)) w ?_
  obtain ⟨k1,e1⟩:=h1
  obtain ⟨k2,e2⟩:=h2
  dsimp only at e1 e2
  exact ⟨k1 * r.2 + k2 * p.2,by dsimp only; grind⟩
theorem CarIn.at {q:Int} {ps xs:List (Int × Int)} {h k:Nat} {r:Int→Int} {b:Int} {x:Nat→Int} {M:Int} {R X:Nat} (C:CarIn q ps xs h k r b x M R X) (hq:WheelN q) (cp:∀ p ∈ ps,Canon q p) (cx:∀ p ∈ xs,Canon q p) {i j:Nat} (hi:i < h + 1) (hj:j < k):Weq q (mulQ q (ps.getD (h + i - j) o1) (xs.getD j o1)) (r ((i:Int) - (j:Int)) * x j,b * M)∧(r ((i:Int) - (j:Int)) * x j).natAbs ≤ R * X:=by
  have kh:=C.kh
  have w:=C.w (h + i - j) (by omega)
  rw [show ((h + i - j:Nat):Int) - (h:Int) = (i:Int) - (j:Int) by omega] at w
  have c1:=canonD hq cp (h + i - j)
  have c2:=canonD hq cx j
  refine ⟨weq_tr hq (nz_mul hq (c1.bot.nz hq) (c2.bot.nz hq)) (mulQ_canon hq c1 c2).2 (weq_mul2 w (C.v j hj)),?_⟩
  rw [Int.natAbs_mul]
  exact Nat.mul_le_mul (C.bR _) (C.bX j hj)
theorem CarIn.part {q:Int} {ps xs:List (Int × Int)} {h k:Nat} {r:Int→Int} {b:Int} {x:Nat→Int} {M:Int} {R X:Nat} (C:CarIn q ps xs h k r b x M R X) (i:Nat) {m:Nat} (hm:m ≤ k):(carS r x i m).natAbs ≤ 10 ^ 300:=by
  have kh:=C.kh
  have h40:=C.h40
  refine Nat.le_trans (sum_bd40 (M:=R) (N:=X) (by omega) (fun j _=>C.bR _) fun j hj=>C.bX j (by omega)) C.s
end My
namespace My
open PySem L2
theorem comp_prs {ρσ:St} {tt:TT} {te:TE} {H1:Hp} {Q:VK} {J:It} {xs:List V} {N:Nat} (js:JSeq J xs H1) (hN:N ≤ xs.length) (hn:xs.length < sizeLine)
    (P:Addr→Nat→Addr→Addr→Hp→Prop) (mono:∀ D i f b H H' ys,P D i f b H→f ≠ D→b ≠ D→H D = some (.lst ys)→(∀ b o,b ≠ D→H b = some o→H' b = some o)→P D i f b H')
    (test:∀ (i:Nat) (x:V),xs[i]? = some x→∀ (Hc:Hp) (R:Bool→Hp→Prop),Same H1 Hc→R (decide (i < N)) Hc→tt (some x :: ρσ) Hc R)
    (step:∀ D (i:Nat) (x:V),i < N→xs[i]? = some x→∀ (Hc:Hp) (R:VK),Same H1 Hc→(∃ ys,Hc D = some (.lst ys))→(∀ y f b H3,Same Hc H3→Hc y = none→Hc f = none→Hc b = none→f ≠ b→H3 y = some (.tup [.ref f,.ref b])→(∃ o,H3 f = some o)→(∃ o,H3 b = some o)→P D i f b H3→R (.ref y) H3)→te (some x :: ρσ) Hc R)
    (fin:∀ D (A Af Ab:Nat→Addr) Hc,H1 D = none→Same H1 Hc→(∀ i j,i < N→j < N→(Af i = Af j→i = j)∧(Ab i = Ab j→i = j)∧Af i ≠ Ab j)→(∀ i,i < N→Hc (A i) = some (.tup [.ref (Af i),.ref (Ab i)])∧P D i (Af i) (Ab i) Hc∧A i ≠ D∧Af i ≠ D∧Ab i ≠ D)→(∀ i,i < N→H1 (A i) = none)→Hc D = some (.lst ((List.range N).map fun i=>V.ref (A i)))→Q (.ref D) Hc) :
    ∀ D,H1 D = none→∃ W:Nat→Nat→List V→Hp→Prop,(∃ m,W 0 m [] (upd H1 D (.lst [])))∧
      ∀ i m ys Hc,W i m ys Hc→Hc D = some (.lst ys)∧((J.stop i Hc∧Q (.ref D) Hc) ∨ (J.go i Hc∧∀ x H',J.yld i Hc x H'→tt (some x :: ρσ) H' fun b H2=>
        if b = true then te (some x :: ρσ) H2 fun y H3=>H3 D = some (.lst ys)∧ys.length < sizeLine∧∃ m',m' < m∧W (i + 1) m' (ys ++ [y]) (upd H3 D (.lst (ys ++ [y]))) else ∃ m',m' < m∧W (i + 1) m' ys H2)):=by
  intro D nD
  refine ⟨fun i m ys Hc=>m = xs.length - i∧i ≤ xs.length∧Hc D = some (.lst ys)∧Same H1 Hc∧∃ A Af Ab:Nat→Addr,ys = (List.range (min i N)).map (fun j=>V.ref (A j))∧(∀ a b,a < min i N→b < min i N→(Af a = Af b→a = b)∧(Ab a = Ab b→a = b)∧Af a ≠ Ab b)∧∀ j,j < min i N→Hc (A j) = some (.tup [.ref (Af j),.ref (Ab j)])∧P D j (Af j) (Ab j) Hc∧A j ≠ D∧Af j ≠ D∧Ab j ≠ D∧(∃ o,Hc (Af j) = some o)∧(∃ o,Hc (Ab j) = some o)∧H1 (A j) = none,⟨_,rfl,Nat.zero_le _,upd_same,same_but (Same.refl H1) nD,fun _=>D,fun _=>D,fun _=>D,by rw [Nat.zero_min]; rfl,(fun a b h=>by omega),fun j h=>by omega⟩,?_⟩
  rintro i m ys Hc ⟨rfl,hi,eD,sH,A,Af,Ab,rfl,inj,hA⟩
  refine ⟨eD,?_⟩
  by_cases hlt:i < xs.length
  · refine .inr ⟨js.go i Hc sH hlt,fun x H' hy=>?_⟩
    obtain ⟨rfl,hx⟩:=js.yld i Hc x H' sH hy
    refine test i x (hx hlt) _ _ sH ?_
    by_cases hiN:i < N
    · rw [decide_eq_true hiN,if_pos rfl]
      have mi:min i N = i:=by omega
      have mi':min (i + 1) N = i + 1:=by omega
      rw [mi] at inj hA eD ⊢
      refine step D i x hiN (hx hlt) _ _ sH ⟨_,eD⟩ fun y f b H3 s3 ny nf nb nfb ey ⟨of,hof⟩ ⟨ob,hob⟩ hp=>?_
      have e3:=s3 _ _ eD
      have nD':∀ {x:Addr},H' x = none→x ≠ D:=fun e e'=>by rw [e',eD] at e; cases e
      have far:∀ b o,b ≠ D→H3 b = some o→upd H3 D (.lst ((List.range i).map (fun j=>V.ref (A j)) ++ [.ref y])) b = some o:=fun b o nb e=>by rw [upd_ne nb]; exact e
      have ne:∀ {x y:Addr} {o:HO},H' x = some o→H' y = none→x ≠ y:=fun e1 e2 e=>by rw [e,e2] at e1; cases e1
      refine ⟨e3,by simp; omega,xs.length - (i + 1),by omega,rfl,hlt,upd_same,same_but (sH.trans s3) nD,fun j=>if j = i then y else A j,fun j=>if j = i then f else Af j,fun j=>if j = i then b else Ab j,?_,fun u v hu hv=>?_,fun j hj=>?_⟩
      · rw [mi',List.range_succ,List.map_append]
        congr 1
        · refine List.map_congr_left fun j hj=>?_
          dsimp only
          rw [if_neg (by have:=List.mem_range.mp hj; omega)]
        · simp
      · dsimp only
        rw [mi'] at hu hv
        by_cases z1:u = i
        · by_cases z2:v = i
          · rw [if_pos z1,if_pos z2,if_pos z1,if_pos z2]
            exact ⟨fun _=>by omega,fun _=>by omega,nfb⟩
          · rw [if_pos z1,if_neg z2,if_pos z1,if_neg z2]
            obtain ⟨_,_,_,_,_,⟨_,o1'⟩,⟨_,o2'⟩,_⟩:=hA v (by omega)
            exact ⟨fun e=>absurd e.symm (ne o1' nf),fun e=>absurd e.symm (ne o2' nb),fun e=>absurd e.symm (ne o2' nf)⟩
        · by_cases z2:v = i
          · rw [if_neg z1,if_pos z2,if_neg z1,if_pos z2]
            obtain ⟨_,_,_,_,_,⟨_,o1'⟩,⟨_,o2'⟩,_⟩:=hA u (by omega)
            exact ⟨fun e=>absurd e (ne o1' nf),fun e=>absurd e (ne o2' nb),ne o1' nb⟩
          · rw [if_neg z1,if_neg z2,if_neg z1,if_neg z2]
            exact inj u v (by omega) (by omega)
      · dsimp only
        rw [mi'] at hj
        by_cases z:j = i
        · rw [if_pos z,if_pos z,if_pos z,z]
          exact ⟨far _ _ (nD' ny) ey,mono D i f b H3 _ _ hp (nD' nf) (nD' nb) e3 far,nD' ny,nD' nf,nD' nb,⟨of,far _ _ (nD' nf) hof⟩,⟨ob,far _ _ (nD' nb) hob⟩,none_of sH ny⟩
        · rw [if_neg z,if_neg z,if_neg z]
          obtain ⟨h1,h2,h3,h4,h5,⟨o1',h6⟩,⟨o2',h7⟩,h8⟩:=hA j (by omega)
          exact ⟨far _ _ h3 (s3 _ _ h1),mono D j (Af j) (Ab j) H' _ _ h2 h4 h5 eD (fun b o nb e=>far b o nb (s3 _ _ e)),h3,h4,h5,⟨o1',far _ _ h4 (s3 _ _ h6)⟩,⟨o2',far _ _ h5 (s3 _ _ h7)⟩,h8⟩
    · rw [decide_eq_false hiN]
      have mi:min i N = N:=by omega
      have mi':min (i + 1) N = N:=by omega
      rw [mi] at inj hA eD ⊢
      refine ⟨xs.length - (i + 1),by omega,rfl,hlt,eD,sH,A,Af,Ab,by rw [mi'],fun a b ha hb=>inj a b (by omega) (by omega),fun j hj=>hA j (by omega)⟩
  · have mi:min i N = N:=by omega
    rw [mi] at inj hA eD
    exact .inl ⟨js.stop _ Hc sH (by omega),fin D A Af Ab Hc nD sH inj (fun j hj=>⟨(hA j hj).1,(hA j hj).2.1,(hA j hj).2.2.1,(hA j hj).2.2.2.1,(hA j hj).2.2.2.2.1⟩) (fun j hj=>(hA j hj).2.2.2.2.2.2.2) eD⟩
structure GrowB (q:Int) (h:Nat) (r:Int→Int) (b:Int):Prop where
  bR:∀ d,(r d).natAbs ≤ 10 ^ 60
  bb:b.natAbs ≤ 10 ^ 60
  bF:q = 0→∀ k j,k ≤ h + 1→(topF k r j).natAbs ≤ 10 ^ 160∧(topF k (turnI r) j).natAbs ≤ 10 ^ 160
  bD:q = 0→∀ k,k ≤ h + 1→(topD k r).natAbs ≤ 10 ^ 222
theorem GBd.grow {q:Int} {r:Int→Int} {T h:Nat} {b:Int} (B:GBd q r (10 ^ 160) (if q = 0 then T else 1000) h) (hT:T ≤ 10 ^ 60) (hb:b.natAbs ≤ 10 ^ 60):GrowB q h r b:=by
  have M60:(if q = 0 then T else 1000) ≤ 10 ^ 60:=by
    split
    · exact hT
    · decide +kernel
  have M1:=B.M1
  refine ⟨fun d=>Nat.le_trans (B.r d) M60,hb,fun z k j hk=>⟨?_,?_⟩,fun z k hk=>?_⟩
  · exact Nat.le_trans (topF_bd B.r k j) (Nat.le_trans (facM_mono M1 (by omega)) (B.f z))
  · exact Nat.le_trans (topF_bd (fun d=>B.r (-d)) k j) (Nat.le_trans (facM_mono M1 (by omega)) (B.f z))
  · refine Nat.le_trans (topD_bd B.r k) (Nat.le_trans (facM_mono M1 hk) ?_)
    show (h + 1) * facN h * _ ^ (h + 1) ≤ _
    rw [Nat.pow_succ]
    have e:∀ M:Nat,(h + 1) * facN h * (M ^ h * M) = (h + 1) * M * (facN h * M ^ h):=fun M=>by
      simp only [Nat.mul_assoc,Nat.mul_left_comm,Nat.mul_comm]
    rw [e]
    have:=B.h40
    exact Nat.le_trans (Nat.mul_le_mul (Nat.mul_le_mul (show h + 1 ≤ 40 by omega) M60) (B.f z)) (by decide +kernel)
end My
namespace My
open PySem L2
structure PairIn (q:Int) (ps:List (Int × Int)) (h k:Nat) (F G:List (Int × Int)) (r:Int→Int) (b:Int):Prop where
  len:ps.length = 2 * h + 1
  h40:h < 40
  k1:1 ≤ k
  kh:k ≤ h + 1
  ok:BotOk q b
  rep:∀ i,i < 2 * h + 1→r ((i:Int) - (h:Int)) * (ps.getD i o1).2 = (ps.getD i o1).1 * b
  nz:¬ q ∣ topD k r
  tD:topD k (turnI r) = topD k r
  lF:F.length = k
  lG:G.length = k
  wF:∀ j,j < k→Weq q (F.getD j o1) (topF k r j * b,topD k r)
  wG:∀ j,j < k→Weq q (G.getD j o1) (topF k (turnI r) (k - 1 - j) * b,topD k r)
  B:GrowB q h r b
theorem GrowN.pair {q:Int} {ps:List (Int × Int)} {h N:Nat} {F G:Nat→List (Int × Int)} {r:Int→Int} {b:Int} (g:GrowN q ps h N F G r b) (B:GrowB q h r b) (l:ps.length = 2 * h + 1) (h40:h < 40) {i:Nat} (hi:i < N):PairIn q ps h (i + 1) (F i) (G i) r b where
  len:=l
  h40:=h40
  k1:=by omega
  kh:=by have:=g.N1; omega
  ok:=g.ok
  rep:=g.rep
  nz:=g.nz (i + 1) (by omega)
  tD:=g.turnD (by omega)
  lF:=g.lF i hi
  lG:=g.lG i hi
  wF:=g.wF i hi
  wG:=fun j hj=>by
    rw [Nat.add_sub_cancel]
    exact g.wG i hi j hj
  B:=B
theorem cg_same {q:Int} {p:Int × Int} {x M y N:Int} (hq:WheelN q) (np:¬ q ∣ p.2) (h1:Weq q p (x,M)) (h2:Weq q p (y,N)):Cg q (x * N) (y * M):=by
  obtain ⟨k1,e1⟩:=h1
  obtain ⟨k2,e2⟩:=h2
  dsimp only at e1 e2
  refine nz_cancel hq np ⟨k2 * M - k1 * N,?_⟩
  grind
theorem rep_weq {q:Int} {ps:List (Int × Int)} {h:Nat} {r:Int→Int} {b:Int} (rep:∀ i,i < 2 * h + 1→r ((i:Int) - (h:Int)) * (ps.getD i o1).2 = (ps.getD i o1).1 * b):∀ i,i < 2 * h + 1→Weq q (ps.getD i o1) (r ((i:Int) - (h:Int)),b):=fun i hi=>⟨0,by
  have:=rep i hi
  dsimp only
  omega⟩
theorem car_of {q:Int} {ps xs:List (Int × Int)} {h k e:Nat} {r:Int→Int} {b D:Int} {t:Nat→Int} (hq:WheelN q) (len:ps.length = 2 * h + 1) (h40:h < 40) (kh:k ≤ h + 1) (ok:BotOk q b) (rep:∀ i,i < 2 * h + 1→r ((i:Int) - (h:Int)) * (ps.getD i o1).2 = (ps.getD i o1).1 * b) (nD:¬ q ∣ D) (lx:xs.length = k) (cx:∀ p ∈ xs,Canon q p) (w:∀ j,j < k→Weq q (xs.getD j o1) (t j * b,D)) (bR:∀ d,(r d).natAbs ≤ 10 ^ 60) (bb:b.natAbs ≤ 10 ^ 60) (bt:q = 0→∀ j,(t j).natAbs ≤ 10 ^ 160) (bD:q = 0→D.natAbs ≤ 10 ^ 222)
    (hs:∀ i,i < k→(sumN k fun j=>r ((i:Int) - (j:Int)) * t j) = if i = e then D else 0):∃ (x:Nat→Int) (M:Int),CarIn q ps xs h k r b x M (10 ^ 60) (10 ^ 220)∧∀ i,i < k→Cg q (carS r x i k) (if i = e then b * M else 0):=by
  have key:∀ (x:Nat→Int) (M:Int),(∀ j,j < k→Weq q (xs.getD j o1) (x j,M))→∀ i,i < k→Cg q (carS r x i k) (if i = e then b * M else 0):=fun x M hx i hi=>by
    refine nz_cancel hq nD ?_
    have c1:Cg q (sumN k fun j=>r ((i:Int) - (j:Int)) * (x j * D)) (sumN k fun j=>r ((i:Int) - (j:Int)) * (t j * b * M)):=cg_sum fun j hj=>(cg_same hq ((canonD hq cx j).bot.nz hq) (hx j hj) (w j hj)).mulL _
    have c2:(sumN k fun j=>r ((i:Int) - (j:Int)) * (x j * D)) = D * carS r x i k:=by
      unfold carS
      rw [sumN_mul]
      exact sumN_congr fun j _=>by grind
    have c3:(sumN k fun j=>r ((i:Int) - (j:Int)) * (t j * b * M)) = b * M * if i = e then D else 0:=by
      rw [← hs i hi,sumN_mul]
      exact sumN_congr fun j _=>by grind
    rw [c2,c3] at c1
    unfold Cg at c1
    rw [Int.mul_sub]
    have c4:(D * if i = e then b * M else 0) = b * M * if i = e then D else 0:=by
      split
      · grind
      · rw [Int.mul_zero,Int.mul_zero]
    rw [c4]
    exact c1
  have mk:∀ (x:Nat→Int) (M:Int),(∀ j,j < k→Weq q (xs.getD j o1) (x j,M))→¬ q ∣ M→(∀ j,j < k→(x j).natAbs ≤ 10 ^ 220)→(b * M).natAbs ≤ 10 ^ 300→CarIn q ps xs h k r b x M (10 ^ 60) (10 ^ 220):=fun x M hx nM bx bM=>⟨len,h40,lx,kh,ok.nz hq,nM,rep_weq rep,hx,bR,bx,by decide +kernel,bM⟩
  by_cases z:q = 0
  · refine ⟨fun j=>t j * b,D,mk _ _ w nD (fun j _=>?_) ?_,key _ _ w⟩
    · rw [Int.natAbs_mul]
      exact Nat.le_trans (Nat.mul_le_mul (bt z j) bb) (by decide +kernel)
    · rw [Int.natAbs_mul]
      exact Nat.le_trans (Nat.mul_le_mul bb (bD z)) (by decide +kernel)
  · have hx:∀ j,j < k→Weq q (xs.getD j o1) ((xs.getD j o1).1,1):=fun j _=>⟨0,by
      dsimp only
      rw [((canonD hq cx j).2 z).1]
      omega⟩
    refine ⟨fun j=>(xs.getD j o1).1,1,mk _ _ hx (BotOk.one.nz hq) (fun j _=>Nat.le_trans (res_bd hq z ((canonD hq cx j).2 z).2) (by decide +kernel)) ?_,key _ _ hx⟩
    rw [Int.mul_one]
    exact Nat.le_trans bb (by decide +kernel)
def dueP (k e:Nat):List (Int × Int):=(List.range k).map fun i=>if i = e then ((1:Int),(1:Int)) else (0,1)
theorem car_due {q b M:Int} {ys:List (Int × Int)} {k e:Nat} {s:Nat→Int} (hq:WheelN q) (nbM:¬ q ∣ b * M) (hl:ys.length = k) (cy:∀ p ∈ ys,Canon q p) (w:∀ i,i < k→Weq q (ys.getD i o1) (s i,b * M)) (hs:∀ i,i < k→Cg q (s i) (if i = e then b * M else 0)):ys = dueP k e:=by
  refine row_ext hl (by unfold dueP; simp) fun i hi=>?_
  have c:=canonD hq cy i
  have ed:(dueP k e).getD i o1 = if i = e then ((1:Int),(1:Int)) else (0,1):=rng_getD hi
  rw [ed]
  refine canon_uniq hq c (by split; exact canon_11 hq; exact canon_o1 hq) ?_
  have w':=w i hi
  have h':=hs i hi
  generalize ys.getD i o1 = p at w'
  generalize s i = S at w' h'
  obtain ⟨k1,e1⟩:=w'
  obtain ⟨k2,e2⟩:=h'
  dsimp only at e1
  unfold Weq
  refine nz_cancel hq nbM ⟨k1 + k2 * p.2,?_⟩
  split
  · rename_i z
    rw [if_pos z] at e2
    dsimp only
    have:S = b * M + q * k2:=by omega
    rw [this] at e1
    grind
  · rename_i z
    rw [if_neg z] at e2
    dsimp only
    have:S = q * k2:=by omega
    rw [this] at e1
    grind
theorem PairIn.front {q:Int} {ps:List (Int × Int)} {h k:Nat} {F G:List (Int × Int)} {r:Int→Int} {b:Int} (P:PairIn q ps h k F G r b) (hq:WheelN q) (cF:∀ p ∈ F,Canon q p):∃ (x:Nat→Int) (M:Int),CarIn q ps F h k r b x M (10 ^ 60) (10 ^ 220)∧∀ i,i < k→Cg q (carS r x i k) (if i = 0 then b * M else 0):=
  car_of hq P.len P.h40 P.kh P.ok P.rep P.nz P.lF cF P.wF P.B.bR P.B.bb (fun z j=>(P.B.bF z k j P.kh).1) (fun z=>P.B.bD z k P.kh) fun i hi=>topF_row' P.k1 r i hi
theorem PairIn.back {q:Int} {ps:List (Int × Int)} {h k:Nat} {F G:List (Int × Int)} {r:Int→Int} {b:Int} (P:PairIn q ps h k F G r b) (hq:WheelN q) (cG:∀ p ∈ G,Canon q p):∃ (x:Nat→Int) (M:Int),CarIn q ps G h k r b x M (10 ^ 60) (10 ^ 220)∧∀ i,i < k→Cg q (carS r x i k) (if i = k - 1 then b * M else 0):=
  car_of hq P.len P.h40 P.kh P.ok P.rep P.nz P.lG cG P.wG P.B.bR P.B.bb (fun z j=>(P.B.bF z k _ P.kh).2) (fun z=>P.B.bD z k P.kh) fun i hi=>by
    rw [topB_row P.k1 r i hi,P.tD]
def spEPairR:Sp:=fun vs H Q _=>∃ (td a t f b':Addr) (q:Int) (ps F G:List (Int × Int)) (h k:Nat) (r:Int→Int) (b:Int),vs = [.ref td,.ref a,.ref t,.int (k:Int)]∧ToldAt H td q∧WheelN q∧RowG (10 ^ 300) H q a ps∧H t = some (.tup [.ref f,.ref b'])∧RowG (10 ^ 230) H q f F∧RowG (10 ^ 230) H q b' G∧PairIn q ps h k F G r b∧∀ H',Same H H'→Q (.bl true) H'
end My
namespace My
open PySem L2
end My
namespace My
open PySem L2
end My
namespace My
open PySem L2
theorem midI_rep {q:Int} {ps:List (Int × Int)} {ts:List Int} {b D:Int} {h B:Nat} (wd:WhD q ps ts b D B) (lp:ps.length = 2 * h + 1):∀ i,i < 2 * h + 1→midI ts ((i:Int) - (h:Int)) * (ps.getD i o1).2 = (ps.getD i o1).1 * b:=fun i hi=>by
  have e:=(wd.each i (by omega)).1
  have em:midI ts ((i:Int) - (h:Int)) = ts.getD i 0:=by
    unfold midI
    rw [wd.len,lp,show (2 * h + 1) / 2 = h by omega,if_pos (by omega),show ((h:Int) + ((i:Int) - (h:Int))).toNat = i by omega]
  rw [em]
  exact e
end My
namespace My
open PySem L2
theorem op_eqMK {X:Cx} {K:PySem.W.Frag} (hu:X.A.units < cLine) (hK:X.K = K:=by rfl):OpR X (compareOp .Eq) (rEqM K):=by
  subst hK
  exact op_eqM hu
end My
namespace My
open PySem L2
theorem cutV_drop9 (xs:List V) (k:Nat) (h:k ≤ xs.length):cutV xs (some (k:Int)) none = xs.drop k:=by
  have e1:HT.sIx xs.length 0 (some (k:Int)) = k:=by
    rw [HT.sIx_nat]
    omega
  have e2:HT.sIx xs.length xs.length none = xs.length:=rfl
  unfold cutV
  rw [e1,e2,List.take_of_length_le (by rw [List.length_drop]; omega)]
end My
namespace My
open PySem L2
end My
namespace My
open PySem L2
end My
namespace My
open PySem L2
end My
namespace My
open PySem L2
end My
namespace L2
open PySem PySem.Spec PyProof.Rows
end L2
namespace My
open PySem L2
end My
namespace My
open PySem L2
theorem alike_rep {q b b':Int} {ps:List (Int × Int)} {r r':Int→Int} {h:Nat} (hq:WheelN q) (cp:∀ p ∈ ps,Canon q p) (rep:∀ i,i < 2 * h + 1→r ((i:Int) - (h:Int)) * (ps.getD i o1).2 = (ps.getD i o1).1 * b) (rep':∀ i,i < 2 * h + 1→r' ((i:Int) - (h:Int)) * (ps.getD i o1).2 = (ps.getD i o1).1 * b'):Alike q (h + 1) (1 * b) (1 * b') r' r:=
  alike_of hq (Nat.le_refl h) (canon_bD hq cp) (canon_bD hq cp) rep rep' fun i hi=>by
    rw [Nat.sub_self,Nat.add_zero,Int.one_mul,Int.one_mul]
    exact Weq.refl _
end My
namespace My
open PySem L2
end My
namespace My
open PySem L2
structure GrowS (q:Int) (h:Nat) (r:Int→Int) (b:Int):Prop where
  bR:∀ d,(r d).natAbs ≤ 10 ^ 36
  bb:b.natAbs ≤ 10 ^ 36
  bF:q = 0→∀ k j,k ≤ h + 1→(topF k r j).natAbs ≤ 10 ^ 110∧(topF k (turnI r) j).natAbs ≤ 10 ^ 110
  bD:q = 0→∀ k,k ≤ h→(topD k r).natAbs ≤ 10 ^ 110
theorem sharp {h T:Nat} (T36:T ≤ 10 ^ 36) (s:facN h * (10 ^ 20 * T) ^ h ≤ 10 ^ 160):facN h * T ^ h ≤ 10 ^ 110:=by
  match h,s with
  | 0,_=>exact Nat.le_trans (Nat.mul_le_mul_left _ (Nat.pow_le_pow_left T36 0)) (by decide +kernel)
  | 1,_=>exact Nat.le_trans (Nat.mul_le_mul_left _ (Nat.pow_le_pow_left T36 1)) (by decide +kernel)
  | 2,_=>exact Nat.le_trans (Nat.mul_le_mul_left _ (Nat.pow_le_pow_left T36 2)) (by decide +kernel)
  | h + 3,s=>
    rw [Nat.mul_pow,Nat.mul_left_comm] at s
    have e:10 ^ 60 ≤ (10 ^ 20) ^ (h + 3):=Nat.le_trans (show 10 ^ 60 ≤ (10 ^ 20) ^ 3 by decide +kernel) (Nat.pow_le_pow_right (by decide) (by omega))
    have s2:10 ^ 60 * (facN (h + 3) * T ^ (h + 3)) ≤ 10 ^ 60 * 10 ^ 100:=Nat.le_trans (Nat.mul_le_mul_right _ e) (Nat.le_trans s (by decide +kernel))
    exact Nat.le_trans (Nat.le_of_mul_le_mul_left s2 (by decide +kernel)) (by decide +kernel)
theorem grow_s {q D b:Int} {r:Int→Int} {T h:Nat} (T36:T ≤ 10 ^ 36) (D36:D.natAbs ≤ 10 ^ 36) (s:q = 0→facN h * (10 ^ 20 * T) ^ h ≤ 10 ^ 160) (T1:1000 ≤ T) (bR:∀ d,(r d).natAbs ≤ if q = 0 then T else 1000) (bb:b.natAbs ≤ D.natAbs):GrowS q h r b where
  bR:=fun d=>Nat.le_trans (bR d) (by
    split
    · exact T36
    · decide +kernel)
  bb:=Nat.le_trans bb D36
  bF:=fun z k j hk=>by
    have g:=sharp T36 (s z)
    have hr:∀ d,(r d).natAbs ≤ T:=fun d=>by have:=bR d; rw [if_pos z] at this; exact this
    have m:=facM_mono (M:=T) (by omega) (show k - 1 ≤ h by omega)
    exact ⟨Nat.le_trans (topF_bd hr k j) (Nat.le_trans m g),Nat.le_trans (topF_bd (fun d=>hr (-d)) k j) (Nat.le_trans m g)⟩
  bD:=fun z k hk=>by
    have g:=sharp T36 (s z)
    have hr:∀ d,(r d).natAbs ≤ T:=fun d=>by have:=bR d; rw [if_pos z] at this; exact this
    exact Nat.le_trans (topD_bd hr k) (Nat.le_trans (facM_mono (M:=T) (by omega) hk) g)
structure Scl (q E:Int) (r:Int→Int) (k:Nat) (fs bs:List Int):Prop where
  k1:1 ≤ k
  lf:fs.length = k
  lb:bs.length = k
  nz:∀ m,m < k + 1→¬ q ∣ topD m r
  f:∀ j,j < k→Cg q (topD k r * fs.getD j 0) (E * topF k r j)
  b:∀ j,j < k→Cg q (topD k r * bs.getD j 0) (E * topF k (turnI r) (k - 1 - j))
section
variable {q E:Int} {r:Int→Int} {k:Nat} {fs bs:List Int}
theorem Scl.fx (h:Scl q E r k fs bs) {j:Nat} (hj:j < k + 1):Cg q (topD k r * (fs ++ [0]).getD j 0) (E * topFx k r j):=by
  have lf:=h.lf
  unfold topFx
  by_cases z:j < k
  · rw [if_pos z,List.getD_eq_getElem?_getD,List.getElem?_append_left (by omega),← List.getD_eq_getElem?_getD]
    exact h.f j z
  · rw [if_neg z,List.getD_eq_getElem?_getD,List.getElem?_append_right (by omega),show j - fs.length = 0 by omega]
    exact Cg.of_eq (by simp)
theorem Scl.bx (h:Scl q E r k fs bs) {j:Nat} (hj:j < k + 1):Cg q (topD k r * ([0] ++ bs).getD j 0) (E * topBx k r j):=by
  unfold topBx
  cases j with
  | zero=>exact Cg.of_eq (by simp)
  | succ j=>
    rw [if_neg (by omega),show k - (j + 1) = k - 1 - j by omega]
    exact h.b j (by omega)
theorem Scl.down (h:Scl q E r k fs bs):Cg q (topD k r * downI r fs) (E * topDown k r):=by
  unfold downI topDown
  rw [h.lf,sumN_mul,sumN_mul]
  refine cg_sum fun j hj=>?_
  have e1:topD k r * (r ((k:Int) - (j:Int)) * fs.getD j 0) = r ((k:Int) - (j:Int)) * (topD k r * fs.getD j 0):=by grind
  have e2:E * (r ((k:Int) - (j:Int)) * topF k r j) = r ((k:Int) - (j:Int)) * (E * topF k r j):=by grind
  rw [e1,e2]
  exact (h.f j hj).mulL _
theorem Scl.up (h:Scl q E r k fs bs):Cg q (topD k r * upI r bs) (E * topDown k (turnI r)):=by
  unfold upI
  rw [← topUp,h.lb,sumN_mul,sumN_mul]
  refine cg_sum fun j hj=>?_
  have e1:topD k r * (r (-1 - (j:Int)) * bs.getD j 0) = r (-1 - (j:Int)) * (topD k r * bs.getD j 0):=by grind
  have e2:E * (r (-1 - (j:Int)) * topF k (turnI r) (k - 1 - j)) = r (-1 - (j:Int)) * (E * topF k (turnI r) (k - 1 - j)):=by grind
  rw [e1,e2]
  exact (h.b j hj).mulL _
theorem scl_two {q D E x y u v X Y U V:Int} (h1:Cg q (D * x) (E * X)) (h2:Cg q (D * y) (E * Y)) (h3:Cg q (D * u) (E * U)) (h4:Cg q (D * v) (E * V)):Cg q (D * D * (x * y - u * v)) (E * E * (X * Y - U * V)):=by
  have e1:D * D * (x * y - u * v) = D * x * (D * y) - D * u * (D * v):=by grind
  have e2:E * E * (X * Y - U * V) = E * X * (E * Y) - E * U * (E * V):=by grind
  rw [e1,e2]
  exact (h1.mul h2).sub (h3.mul h4)
theorem Scl.much (_:Scl q E r k fs bs):Cg q (topD k r * E) (E * topD k r):=Cg.of_eq (Int.mul_comm _ _)
theorem Scl.stepF (h:Scl q E r k fs bs) {j:Nat} (hj:j < k + 1):Cg q (topD k r * topD k r * (E * (fs ++ [0]).getD j 0 - downI r fs * ([0] ++ bs).getD j 0)) (E * E * topD (k - 1) r * topF (k + 1) r j):=by
  have:=scl_two h.much (h.fx hj) h.down (h.bx hj)
  rw [top_front h.k1 (fun m hm=>ne_of_nd (h.nz m hm)) hj,← Int.mul_assoc] at this
  exact this
theorem Scl.stepB (h:Scl q E r k fs bs) {j:Nat} (hj:j < k + 1):Cg q (topD k r * topD k r * (E * ([0] ++ bs).getD j 0 - upI r bs * (fs ++ [0]).getD j 0)) (E * E * topD (k - 1) r * topF (k + 1) (turnI r) (k - j)):=by
  have:=scl_two h.much (h.bx hj) h.up (h.fx hj)
  rw [top_back h.k1 (fun m hm=>ne_of_nd (h.nz m hm)) hj,← Int.mul_assoc] at this
  exact this
theorem Scl.stepM (h:Scl q E r k fs bs):Cg q (topD k r * topD k r * (E * E - downI r fs * upI r bs)) (E * E * topD (k - 1) r * topD (k + 1) r):=by
  have:=scl_two h.much h.much h.down h.up
  rw [top_much h.k1 (fun m hm=>ne_of_nd (h.nz m hm)),← Int.mul_assoc] at this
  exact this
end
theorem scl_worth {q D K g m f d b:Int} {p:Int × Int} (hq:WheelN q) (nD:¬ q ∣ D) (nm:¬ q ∣ m) (h1:Cg q (D * g) (K * f)) (h2:Cg q (D * m) (K * d)) (w:Weq q p (g * b,m)):Weq q p (f * b,d):=by
  refine weq_tr hq nm w (nz_cancel hq nD ?_)
  obtain ⟨k1,e1⟩:=h1
  obtain ⟨k2,e2⟩:=h2
  refine ⟨b * d * k1 - f * b * k2,?_⟩
  dsimp only
  have a1:D * g = K * f + q * k1:=by omega
  have a2:D * m = K * d + q * k2:=by omega
  have a3:D * (g * b * d - f * b * m) = b * d * (D * g) - f * b * (D * m):=by grind
  rw [a3,a1,a2]
  grind
theorem scl_nz {q D K m d:Int} (hq:WheelN q) (nD:¬ q ∣ D) (nK:¬ q ∣ K) (h:Cg q (D * m) (K * d)):q ∣ m ↔ q ∣ d:=by
  constructor
  · intro z
    exact Classical.byContradiction fun n=>h.symm.nz' (nz_mul hq nK n) (Int.dvd_trans z (Int.dvd_mul_left _ _))
  · intro z
    exact Classical.byContradiction fun n=>h.nz' (nz_mul hq nD n) (Int.dvd_trans z (Int.dvd_mul_left _ _))
theorem res_zero {q m:Int} (rm:q ≠ 0→0 ≤ m∧m < q):q ∣ m ↔ m = 0:=by
  constructor
  · intro d
    by_cases z:q = 0
    · subst z
      exact Int.zero_dvd.mp d
    · have:=rm z
      rcases Int.lt_or_eq_of_le this.1 with y | y
      · have:=Int.le_of_dvd y d
        omega
      · exact y.symm
  · intro e
    rw [e]
    exact Int.dvd_zero q
theorem whole_worth {q t b c c0 D:Int} {p:Int × Int} (hq:WheelN q) (n2:¬ q ∣ p.2) (w:Weq q p (t * b,D)) (e:c0 * p.2 = p.1 * c):Cg q (D * c0) (c * b * t):=by
  refine nz_cancel hq n2 ?_
  obtain ⟨k,ek⟩:=w
  dsimp only at ek
  refine ⟨c * k,?_⟩
  have a1:p.2 * (D * c0 - c * b * t) = D * (c0 * p.2) - c * (t * b * p.2):=by grind
  rw [a1,e]
  have a2:D * (p.1 * c) - c * (t * b * p.2) = c * (p.1 * D - t * b * p.2):=by grind
  rw [a2,ek]
  grind
theorem one_over {q M:Int} {F:List (Int × Int)} {x:Nat→Int} {X Y:Nat} (hq:WheelN q) (hc:∀ p ∈ F,Canon q p) (nM:¬ q ∣ M) (w:∀ j,j < F.length→Weq q (F.getD j o1) (x j,M)) (bx:q = 0→∀ j,j < F.length→(x j).natAbs ≤ X) (bM:q = 0→M.natAbs ≤ Y) (hX:1000 ≤ X) (hY:1 ≤ Y) :
    ∃ (D:Int) (f:Nat→Int),BotOk q D∧(∀ p ∈ F,p.2 ∣ D)∧D.natAbs ≤ Y∧∀ j,j < F.length→Weq q (F.getD j o1) (f j,D)∧(f j).natAbs ≤ X:=by
  by_cases z:q = 0
  · subst z
    have M0:M ≠ 0:=ne_of_nd nM
    have dv:∀ p ∈ F,p.2 ∣ M:=fun p hp=>by
      obtain ⟨j,hj,rfl⟩:=List.getElem_of_mem hp
      have wj:=w j hj
      rw [getD_at hj] at wj
      have l:=(hc _ hp).1 rfl
      have g:Nat.gcd F[j].1.natAbs F[j].2.natAbs = 1:=l.cop
      have e:F[j].1 * M = x j * F[j].2:=by
        have:=Int.zero_dvd.mp wj
        dsimp only at this
        omega
      have d1:F[j].2.natAbs ∣ F[j].1.natAbs * M.natAbs:=by
        rw [← Int.natAbs_mul,e,Int.natAbs_mul]
        exact Nat.dvd_mul_left _ _
      exact Int.natAbs_dvd_natAbs.mp (Nat.Coprime.dvd_of_dvd_mul_left (Nat.Coprime.symm g) d1)
    rcases Int.lt_or_gt_of_ne M0 with n | p
    · refine ⟨-M,fun j=>-(x j),⟨fun _=>by omega,fun y=>absurd rfl y⟩,fun p hp=>Int.dvd_neg.mpr (dv p hp),by rw [Int.natAbs_neg]; exact bM rfl,fun j hj=>⟨?_,by rw [Int.natAbs_neg]; exact bx rfl j hj⟩⟩
      obtain ⟨k,e⟩:=w j hj
      dsimp only at e
      exact ⟨0,by dsimp only; grind⟩
    · exact ⟨M,x,⟨fun _=>p,fun y=>absurd rfl y⟩,dv,bM rfl,fun j hj=>⟨w j hj,bx rfl j hj⟩⟩
  · refine ⟨1,fun j=>(F.getD j o1).1,BotOk.one,fun p hp=>?_,hY,fun j hj=>?_⟩
    · rw [((hc p hp).2 z).1]
      exact Int.dvd_refl 1
    · have c:=(canonD hq hc j).2 z
      exact ⟨⟨0,by dsimp only; rw [c.1]; omega⟩,Nat.le_trans (res_bd hq z c.2) hX⟩
theorem canon_sizedW {B:Nat} {q S M:Int} {p:Int × Int} (hq:WheelN q) (hc:Canon q p) (nM:¬ q ∣ M) (w:Weq q p (S,M)) (bS:q = 0→S.natAbs ≤ B) (bM:q = 0→M.natAbs ≤ B) (hB:1000 ≤ B):p.1.natAbs ≤ B∧p.2.natAbs ≤ B:=by
  by_cases z:q = 0
  · exact canon_sized hq hc nM w (bS z) (bM z) hB
  · have c:=hc.2 z
    exact ⟨Nat.le_trans (res_bd hq z c.2) hB,by rw [c.1]; exact Nat.le_trans (show Int.natAbs 1 ≤ 1000 by decide) hB⟩
theorem NumAt.resizeW {B B':Nat} {H:Hp} {q S M:Int} {v:V} {p:Int × Int} (h:NumAt B H q v p.1 p.2) (hq:WheelN q) (nM:¬ q ∣ M) (w:Weq q p (S,M)) (bS:q = 0→S.natAbs ≤ B') (bM:q = 0→M.natAbs ≤ B') (hB:1000 ≤ B'):NumAt B' H q v p.1 p.2:=by
  obtain ⟨b1,b2⟩:=canon_sizedW hq h.canon nM w bS bM hB
  exact h.sized b1 b2
theorem RowG.resizeW {B B' n:Nat} {H:Hp} {q M:Int} {a:Addr} {F:List (Int × Int)} {x:Nat→Int} (h:RowG B H q a F) (hq:WheelN q) (lF:F.length = n) (nM:¬ q ∣ M) (w:∀ j,j < n→Weq q (F.getD j o1) (x j,M)) (bS:q = 0→∀ j,j < n→(x j).natAbs ≤ B') (bM:q = 0→M.natAbs ≤ B') (hB:1000 ≤ B'):RowG B' H q a F:=by
  obtain ⟨vs,e,l,f⟩:=h
  refine ⟨vs,e,l,fun i v p h1 h2=>?_⟩
  have hi:i < F.length:=(List.getElem?_eq_some_iff.mp h2).1
  have ep:F[i] = p:=(List.getElem?_eq_some_iff.mp h2).2
  have wi:=w i (by omega)
  rw [getD_at hi,ep] at wi
  exact (f i v p h1 h2).resizeW hq nM wi (fun z=>bS z i (by omega)) bM hB
theorem car_any {q:Int} {ps xs:List (Int × Int)} {h k:Nat} {r:Int→Int} {b M:Int} {x:Nat→Int} {R X:Nat} (hq:WheelN q) (len:ps.length = 2 * h + 1) (h40:h < 40) (lx:xs.length = k) (kh:k ≤ h + 1) (ok:BotOk q b) (rep:∀ i,i < 2 * h + 1→r ((i:Int) - (h:Int)) * (ps.getD i o1).2 = (ps.getD i o1).1 * b) (cx:∀ p ∈ xs,Canon q p) (nM:¬ q ∣ M) (w:∀ j,j < k→Weq q (xs.getD j o1) (x j,M)) (bR:∀ d,(r d).natAbs ≤ R) (bb:b.natAbs ≤ 10 ^ 36) (bX:q = 0→∀ j,j < k→(x j).natAbs ≤ X) (bM:q = 0→M.natAbs ≤ 10 ^ 260) (s:40 * (R * X) ≤ 10 ^ 300) (hX:1000 ≤ X) :
    ∃ (x':Nat→Int) (M':Int),CarIn q ps xs h k r b x' M' R X∧∀ i,Weq q (carS r x' i k,b * M') (carS r x i k,b * M):=by
  by_cases z:q = 0
  · exact ⟨x,M,⟨len,h40,lx,kh,ok.nz hq,nM,rep_weq rep,w,bR,bX z,s,by
      rw [Int.natAbs_mul]
      exact Nat.le_trans (Nat.mul_le_mul bb (bM z)) (by decide +kernel)⟩,fun i=>Weq.refl _⟩
  · have c:=fun j=>(canonD hq cx j).2 z
    have hx:∀ j,j < k→Weq q (xs.getD j o1) ((xs.getD j o1).1,1):=fun j _=>⟨0,by
      dsimp only
      rw [(c j).1]
      omega⟩
    refine ⟨fun j=>(xs.getD j o1).1,1,⟨len,h40,lx,kh,ok.nz hq,BotOk.one.nz hq,rep_weq rep,hx,bR,fun j _=>Nat.le_trans (res_bd hq z (c j).2) hX,s,?_⟩,fun i=>?_⟩
    · rw [Int.mul_one]
      exact Nat.le_trans bb (by decide +kernel)
    · have cg:Cg q (sumN k fun j=>r ((i:Int) - (j:Int)) * ((xs.getD j o1).1 * M)) (sumN k fun j=>r ((i:Int) - (j:Int)) * x j):=cg_sum fun j hj=>by
        refine Cg.mulL _ ?_
        have wj:=w j hj
        unfold Weq at wj
        dsimp only at wj
        rw [(c j).1,Int.mul_one] at wj
        exact wj
      have e:(sumN k fun j=>r ((i:Int) - (j:Int)) * ((xs.getD j o1).1 * M)) = carS r (fun j=>(xs.getD j o1).1) i k * M:=by
        unfold carS
        rw [Int.mul_comm,sumN_mul]
        exact sumN_congr fun j _=>by grind
      rw [e] at cg
      change Cg q _ (carS r x i k) at cg
      obtain ⟨k',ek⟩:=cg
      exact ⟨b * k',by dsimp only; grind⟩
end My
namespace My
open PySem L2
theorem cg_bds {q:Int} {gs:List Int} {u:Nat→Int} {n B:Nat} (hq:WheelN q) (lg:gs.length = n) (hg:∀ j,j < n→Cg q (gs.getD j 0) (u j)) (rg:q ≠ 0→∀ x ∈ gs,0 ≤ x∧x < q) (bu:∀ j,j < n→(u j).natAbs ≤ B) (hB:1000 ≤ B):∀ x ∈ gs,x.natAbs ≤ B:=fun x hx=>by
  by_cases z:q = 0
  · subst z
    obtain ⟨j,hj,rfl⟩:=List.getElem_of_mem hx
    have e:=cg_zero (hg j (by omega))
    rw [getD_at hj] at e
    rw [e]
    exact bu j (by omega)
  · exact Nat.le_trans (res_bd hq z (rg z x hx)) hB
def spNx58 (C:Addr):Sp:=fun vs H Q _=>∃ (z a p f b:Addr) (q:Int) (ts fs bs:List Int) (much:Int) (h k:Nat),vs = [.ref z,.ref a,.ref p,.int 1]∧WorldAt C H z q∧WheelN q∧H a = some (.lst (ts.map V.int))∧ts.length = 2 * h + 1∧h < 40∧H p = some (.tup [.ref f,.ref b,.int much])∧H f = some (.lst (fs.map V.int))∧H b = some (.lst (bs.map V.int))∧fs.length = k∧bs.length = k∧1 ≤ k∧k ≤ h∧(∀ d,(midI ts d).natAbs ≤ 10 ^ 36)∧(∀ x ∈ fs,x.natAbs ≤ 10 ^ 150)∧(∀ x ∈ bs,x.natAbs ≤ 10 ^ 150)∧much.natAbs ≤ 10 ^ 150∧
  ∀ (p' f' b':Addr) (gs cs:List Int) (more:Int) (H':Hp),Same H H'→H p' = none→H f' = none→H b' = none→H' p' = some (.tup [.ref f',.ref b',.int more])→H' f' = some (.lst (gs.map V.int))→H' b' = some (.lst (cs.map V.int))→gs.length = k + 1→cs.length = k + 1→
    (∀ j,j < k + 1→Cg q (gs.getD j 0) (much * (fs ++ [0]).getD j 0 - downI (midI ts) fs * ([0] ++ bs).getD j 0))→(∀ j,j < k + 1→Cg q (cs.getD j 0) (much * ([0] ++ bs).getD j 0 - upI (midI ts) bs * (fs ++ [0]).getD j 0))→Cg q more (much * much - downI (midI ts) fs * upI (midI ts) bs)→(q ≠ 0→0 ≤ more∧more < q)→(∀ x ∈ gs,x.natAbs ≤ 10 ^ 400)→(∀ x ∈ cs,x.natAbs ≤ 10 ^ 400)→more.natAbs ≤ 10 ^ 400→Q (.ref p') H'
def spGrow58 (C:Addr):Sp:=fun vs H Q _=>∃ (z a:Addr) (q:Int) (ps:List (Int × Int)) (D:Int) (f:Nat→Int) (T h:Nat),vs = [.ref z,.ref a]∧WorldAt C H z q∧WheelN q∧RowG (10 ^ 150) H q a ps∧GrowIn q ps D f T h∧
  ∀ (l:Addr) (N:Nat) (A Af Ab:Nat→Addr) (F G:Nat→List (Int × Int)) (r:Int→Int) (b:Int) (H':Hp),Same H H'→H l = none→GrAt (10 ^ 230) H H' q l N A Af Ab F G→GrowN q ps h N F G r b→GrowB q h r b→(∀ d,(r d).natAbs ≤ if q = 0 then T else 1000)→b.natAbs ≤ D.natAbs→Q (.ref l) H'
def spGrown (C:Addr):Sp:=fun vs H Q _=>∃ (z a f g:Addr) (q:Int) (ps F G:List (Int × Int)) (D:Int) (f0:Nat→Int) (T h k:Nat) (r:Int→Int) (b:Int),vs = [.ref z,.ref a,.ref f,.ref g]∧WorldAt C H z q∧WheelN q∧RowG (10 ^ 150) H q a ps∧GrowIn q ps D f0 T h∧T ≤ 10 ^ 36∧D.natAbs ≤ 10 ^ 36∧RowG (10 ^ 230) H q f F∧RowG (10 ^ 230) H q g G∧PairIn q ps h k F G r b∧k ≤ h∧GrowS q h r b∧(∀ m,m < k + 1→¬ q ∣ topD m r)∧
  (q ∣ topD (k + 1) r→∀ H',Same H H'→Q .non H')∧
  (¬ q ∣ topD (k + 1) r→∀ (t f' b':Addr) (F' G':List (Int × Int)) (H':Hp),Same H H'→H t = none→H f' = none→H b' = none→f' ≠ b'→H' t = some (.tup [.ref f',.ref b'])→RowG (10 ^ 230) H' q f' F'→RowG (10 ^ 230) H' q b' G'→PairIn q ps h (k + 1) F' G' r b→Q (.ref t) H')
def spETied:Sp:=fun vs H Q _=>∃ (td a t f g:Addr) (q:Int) (ps F G:List (Int × Int)) (h k:Nat) (r:Int→Int) (b:Int),vs = [.ref td,.ref a,.ref t]∧ToldAt H td q∧WheelN q∧RowG (10 ^ 300) H q a ps∧H t = some (.tup [.ref f,.ref g])∧RowG (10 ^ 230) H q f F∧RowG (10 ^ 230) H q g G∧PairIn q ps h k F G r b∧k ≤ h∧GrowS q h r b∧(∀ m,m < k + 1→¬ q ∣ topD m r)∧q ∣ topD (k + 1) r∧∀ H',Same H H'→Q (.bl true) H'
end My
namespace My
open PySem L2
theorem worth_re {q b b':Int} {k j:Nat} {r r':Int→Int} {p:Int × Int} (hq:WheelN q) (hk:1 ≤ k) (al:Alike q k (1 * b) (1 * b') r' r) (nb:¬ q ∣ b) (d:¬ q ∣ topD k r) (hj:j < k) (w:Weq q p (topF k r j * b,topD k r)):Weq q p (topF k r' j * b',topD k r'):=by
  have v:=topF_worth hq hk al (by rw [Int.one_mul]; exact nb) hj
  rw [Int.mul_one,Int.mul_one] at v
  exact weq_tr hq d w v.symm
theorem cat_getL {α:Type} {F G:List α} {d:α} {k j:Nat} (lF:F.length = k) (hj:j < k):(F ++ G).getD j d = F.getD j d:=by
  rw [List.getD_eq_getElem?_getD,List.getElem?_append_left (by omega),← List.getD_eq_getElem?_getD]
theorem cat_getR {α:Type} {F G:List α} {d:α} {k j:Nat} (lF:F.length = k):(F ++ G).getD (k + j) d = G.getD j d:=by
  rw [List.getD_eq_getElem?_getD,List.getElem?_append_right (by omega),show k + j - F.length = j by omega,← List.getD_eq_getElem?_getD]
theorem take_get {cs:List Int} {k j:Nat} (hj:j < k):(cs.take k).getD j 0 = cs.getD j 0:=by
  rw [List.getD_eq_getElem?_getD,List.getElem?_take_of_lt hj,← List.getD_eq_getElem?_getD]
theorem drop_get {cs:List Int} {k j:Nat}:(cs.drop k).getD j 0 = cs.getD (k + j) 0:=by
  rw [List.getD_eq_getElem?_getD,List.getElem?_drop,← List.getD_eq_getElem?_getD]
def pairX (k:Nat) (r:Int→Int) (b:Int) (j:Nat):Int:=if j < k then topF k r j * b else topF k (turnI r) (k - 1 - (j - k)) * b
section
variable {q:Int} {ps F G:List (Int × Int)} {h k:Nat} {r:Int→Int} {b:Int}
theorem PairIn.both (P:PairIn q ps h k F G r b):∀ j,j < (F ++ G).length→Weq q ((F ++ G).getD j o1) (pairX k r b j,topD k r):=fun j hj=>by
  have lF:=P.lF
  have lG:=P.lG
  rw [List.length_append] at hj
  unfold pairX
  by_cases z:j < k
  · rw [if_pos z,cat_getL lF z]
    exact P.wF j z
  · rw [if_neg z]
    obtain ⟨i,rfl⟩:∃ i,j = k + i:=⟨j - k,by omega⟩
    rw [cat_getR lF,Nat.add_sub_cancel_left]
    exact P.wG i (by omega)
theorem PairIn.bothX (P:PairIn q ps h k F G r b) (S:GrowS q h r b) (z:q = 0) (j:Nat):(pairX k r b j).natAbs ≤ 10 ^ 146:=by
  have kh:=P.kh
  unfold pairX
  split
  · rw [Int.natAbs_mul]
    exact Nat.le_trans (Nat.mul_le_mul (S.bF z k _ (by omega)).1 S.bb) (by decide +kernel)
  · rw [Int.natAbs_mul]
    exact Nat.le_trans (Nat.mul_le_mul (S.bF z k _ (by omega)).2 S.bb) (by decide +kernel)
theorem PairIn.scl {r':Int→Int} {b' c D:Int} {cs:List Int} {B:Nat} (P:PairIn q ps h k F G r b) (hq:WheelN q) (cF:∀ p ∈ F,Canon q p) (cG:∀ p ∈ G,Canon q p) (al:Alike q (h + 1) (1 * b) (1 * b') r' r) (nb':¬ q ∣ b') (nz:∀ m,m < k + 1→¬ q ∣ topD m r) (kh:k ≤ h) (wd:WhD q (F ++ G) cs c D B):Scl q (c * b') r' k (cs.take k) (cs.drop k):=by
  have lF:=P.lF
  have lG:=P.lG
  have nb:=P.ok.nz hq
  have lc:=wd.len
  rw [List.length_append] at lc
  have nz':∀ m,m < k + 1→¬ q ∣ topD m r':=fun m hm=>topD_nz hq (al.sub (by omega)) (by rw [Int.one_mul]; exact nb') (nz m hm)
  have tD:topD k (turnI r') = topD k r':=top_turn r' k fun m hm=>ne_of_nd (nz' m (by omega))
  refine ⟨P.k1,by rw [List.length_take]; omega,by rw [List.length_drop]; omega,nz',fun j hj=>?_,fun j hj=>?_⟩
  · rw [take_get hj]
    have e:=(wd.each j (by rw [List.length_append]; omega)).1
    rw [cat_getL lF hj] at e
    exact whole_worth hq ((canonD hq cF j).bot.nz hq) (worth_re hq P.k1 (al.sub (by omega)) nb P.nz hj (P.wF j hj)) e
  · rw [drop_get]
    have e:=(wd.each (k + j) (by rw [List.length_append]; omega)).1
    rw [cat_getR lF] at e
    have w:=worth_re (r:=turnI r) (r':=turnI r') (j:=k - 1 - j) hq P.k1 (al.sub (show k ≤ h + 1 by omega)).turn nb (by rw [P.tD]; exact P.nz) (by omega) (by rw [P.tD]; exact P.wG j hj)
    rw [tD] at w
    exact whole_worth hq ((canonD hq cG j).bot.nz hq) w e
theorem PairIn.next {r':Int→Int} {b' c more:Int} {fs bs gs cs:List Int} {F' G':List (Int × Int)} (P:PairIn q ps h k F G r b) (hq:WheelN q) (al:Alike q (h + 1) (1 * b) (1 * b') r' r) (nb':¬ q ∣ b') (nz:∀ m,m < k + 1→¬ q ∣ topD m r) (nz2:¬ q ∣ topD (k + 1) r) (kh:k ≤ h) (S:Scl q c r' k fs bs) (nm:¬ q ∣ more)
    (hg:∀ j,j < k + 1→Cg q (gs.getD j 0) (c * (fs ++ [0]).getD j 0 - downI r' fs * ([0] ++ bs).getD j 0)) (hc:∀ j,j < k + 1→Cg q (cs.getD j 0) (c * ([0] ++ bs).getD j 0 - upI r' bs * (fs ++ [0]).getD j 0)) (hm:Cg q more (c * c - downI r' fs * upI r' bs))
    (lF:F'.length = k + 1) (lG:G'.length = k + 1) (wF:∀ j,j < k + 1→Weq q (F'.getD j o1) (gs.getD j 0 * b',more)) (wG:∀ j,j < k + 1→Weq q (G'.getD j o1) (cs.getD j 0 * b',more)):PairIn q ps h (k + 1) F' G' r b:=by
  have nb:=P.ok.nz hq
  have nD:¬ q ∣ topD k r' * topD k r':=nz_mul hq (S.nz k (by omega)) (S.nz k (by omega))
  have tD:topD (k + 1) (turnI r) = topD (k + 1) r:=top_turn r (k + 1) fun m hm=>ne_of_nd (nz m hm)
  have tD':topD (k + 1) (turnI r') = topD (k + 1) r':=top_turn r' (k + 1) fun m hm=>ne_of_nd (S.nz m hm)
  have al':=(al.sub (show k + 1 ≤ h + 1 by omega)).symm
  have d':¬ q ∣ topD (k + 1) r':=topD_nz hq al'.symm (by rw [Int.one_mul]; exact nb') nz2
  have m2:=(hm.mulL (topD k r' * topD k r')).trans S.stepM
  refine ⟨P.len,P.h40,by omega,by omega,P.ok,P.rep,nz2,tD,lF,lG,fun j hj=>?_,fun j hj=>?_,P.B⟩
  · exact worth_re hq (by omega) al' nb' d' hj (scl_worth hq nD nm (((hg j hj).mulL _).trans (S.stepF hj)) m2 (wF j hj))
  · have w:=scl_worth hq nD nm (((hc j hj).mulL _).trans (S.stepB hj)) m2 (wG j hj)
    rw [← tD'] at w
    have v:=worth_re (r:=turnI r') (r':=turnI r) hq (by omega) al'.turn nb' (by rw [tD']; exact d') (show k - j < k + 1 by omega) w
    rw [tD] at v
    rw [Nat.add_sub_cancel]
    exact v
theorem Scl.zero {E more:Int} {r':Int→Int} {fs bs:List Int} (S:Scl q E r' k fs bs) (hq:WheelN q) (nE:¬ q ∣ E) (hm:Cg q more (E * E - downI r' fs * upI r' bs)):q ∣ more ↔ q ∣ topD (k + 1) r':=
  scl_nz hq (nz_mul hq (S.nz k (by omega)) (S.nz k (by omega))) (nz_mul hq (nz_mul hq nE nE) (S.nz (k - 1) (by omega))) ((hm.mulL _).trans S.stepM)
end
end My
namespace My
open PySem L2
theorem ofP_worth {q:Int} (hq:WheelN q) (i:Int):Weq q (ofP q i) (i,1)∧Canon q (ofP q i):=by
  unfold ofP
  by_cases z:q = 0
  · rw [if_pos z]
    exact ⟨Weq.refl _,⟨fun _=>⟨Int.le_refl 1,Nat.gcd_one_right _⟩,fun y=>absurd z y⟩⟩
  · rw [if_neg z]
    have:=one_lt hq z
    refine ⟨⟨-(i / q),?_⟩,⟨fun y=>absurd y z,fun _=>⟨rfl,Int.emod_nonneg _ z,Int.emod_lt_of_pos _ (by omega)⟩⟩⟩
    dsimp only
    have:=Int.emod_add_mul_ediv i q
    rw [Int.mul_neg]
    omega
theorem weq_less {q b x y:Int} {p:Int × Int} (hq:WheelN q) (nb:¬ q ∣ b) (w:Weq q p (b * x,b * y)):Weq q p (x,y):=by
  refine nz_cancel hq nb ?_
  obtain ⟨k,e⟩:=w
  exact ⟨k,by dsimp only at e ⊢; grind⟩
section
variable {q:Int} {ps F G:List (Int × Int)} {h k:Nat} {r:Int→Int} {b:Int}
theorem PairIn.bx (P:PairIn q ps h k F G r b):∀ j,j < k + 1→Weq q ((o1 :: G).getD j o1) (topBx k r j * b,topD k r):=fun j hj=>by
  unfold topBx
  cases j with
  | zero=>exact ⟨0,by show (0:Int) * topD k r - (if (0:Nat) = 0 then 0 else _) * b * 1 = _; simp⟩
  | succ j=>
    rw [if_neg (by omega),show k - (j + 1) = k - 1 - j by omega]
    exact P.wG j (by omega)
theorem PairIn.fx (P:PairIn q ps h k F G r b):∀ j,j < k + 1→Weq q ((F ++ [o1]).getD j o1) (topFx k r j * b,topD k r):=fun j hj=>by
  have lF:=P.lF
  unfold topFx
  by_cases z:j < k
  · rw [if_pos z,cat_getL lF z]
    exact P.wF j z
  · rw [if_neg z]
    have e:(F ++ [o1]).getD j o1 = o1:=by
      rw [show j = k + 0 by omega,cat_getR lF]
      rfl
    rw [e]
    exact ⟨0,by show (0:Int) * topD k r - 0 * b * 1 = _; simp⟩
theorem GrowS.bxB (S:GrowS q h r b) (z:q = 0) (kh:k ≤ h) (j:Nat):(topBx k r j * b).natAbs ≤ 10 ^ 146:=by
  rw [Int.natAbs_mul]
  refine Nat.le_trans (Nat.mul_le_mul (?_:_ ≤ 10 ^ 110) S.bb) (by decide +kernel)
  unfold topBx
  split
  · decide +kernel
  · exact (S.bF z k _ (by omega)).2
theorem GrowS.fxB (S:GrowS q h r b) (z:q = 0) (kh:k ≤ h) (j:Nat):(topFx k r j * b).natAbs ≤ 10 ^ 146:=by
  rw [Int.natAbs_mul]
  refine Nat.le_trans (Nat.mul_le_mul (?_:_ ≤ 10 ^ 110) S.bb) (by decide +kernel)
  unfold topFx
  split
  · exact (S.bF z k _ (by omega)).1
  · decide +kernel
theorem GrowS.upB (S:GrowS q h r b) (z:q = 0) (kh:k ≤ h) (h40:h < 40):(topDown k (turnI r)).natAbs ≤ 10 ^ 148:=by
  unfold topDown
  exact Nat.le_trans (sum_bd40 (M:=10 ^ 36) (N:=10 ^ 110) (by omega) (fun j _=>S.bR _) fun j _=>(S.bF z k j (by omega)).2) (by decide +kernel)
theorem car_up (k:Nat) (r:Int→Int) (b:Int):carS r (fun j=>topBx k r j * b) 0 (k + 1) = b * topDown k (turnI r):=by
  have e:carS r (fun j=>topBx k r j * b) 0 (k + 1) = b * sumN (k + 1) fun j=>r (((0:Nat):Int) - (j:Int)) * topBx k r j:=by
    unfold carS
    rw [sumN_mul]
    exact sumN_congr fun j _=>by grind
  rw [e,topBx_row,← topUp]
  refine congrArg _ (sumN_congr fun j _=>?_)
  congr 2
theorem tied_away {y0:Int × Int} {M:Int} (hq:WheelN q) (P:PairIn q ps h k F G r b) (nM:¬ q ∣ b * M) (cy:Canon q y0) {x':Int} (w0:Weq q y0 (x',b * M)) (w1:Weq q (x',b * M) (carS r (fun j=>topBx k r j * b) 0 (k + 1),b * topD k r)):Weq q (mulQ q y0 (ofP q (-1))) (-topDown k (turnI r),topD k r):=by
  obtain ⟨wm,cm⟩:=ofP_worth hq (-1)
  rw [car_up] at w1
  have w2:=weq_less hq (P.ok.nz hq) (weq_tr hq nM w0 w1)
  have w3:=(mulQ_canon hq cy cm).2
  have w4:=weq_tr hq (nz_mul hq (cy.bot.nz hq) (cm.bot.nz hq)) w3 (weq_mul2 w2 wm)
  rw [Int.mul_neg_one,Int.mul_one] at w4
  exact w4
theorem tied_at {am bj fj:Int × Int} {j:Nat} (hq:WheelN q) (P:PairIn q ps h k F G r b) (nz:∀ m,m < k + 1→¬ q ∣ topD m r) (hj:j < k + 1) (ca:Canon q am) (cb:Canon q bj) (cf:Canon q fj) (wa:Weq q am (-topDown k (turnI r),topD k r)) (wb:Weq q bj (topBx k r j * b,topD k r)) (wf:Weq q fj (topFx k r j * b,topD k r)) :
    Weq q (mulQ q am fj) (-topDown k (turnI r) * (topFx k r j * b),topD k r * topD k r)∧Weq q (addP q bj (mulQ q am fj)) (topD (k - 1) r * topF (k + 1) (turnI r) (k - j) * b,topD k r * topD k r):=by
  have nD:=P.nz
  obtain ⟨cm,wm⟩:=mulQ_canon hq ca cf
  have w1:=weq_tr hq (nz_mul hq (ca.bot.nz hq) (cf.bot.nz hq)) wm (weq_mul2 wa wf)
  refine ⟨w1,?_⟩
  have w2:=weq_add hq cb cm (nz_mul hq nD nD) (weq_scale (topD k r) wb) w1
  rw [← top_back P.k1 (fun m hm=>ne_of_nd (nz m hm)) hj]
  have e:topBx k r j * b * topD k r + -topDown k (turnI r) * (topFx k r j * b) = (topD k r * topBx k r j - topDown k (turnI r) * topFx k r j) * b:=by grind
  rw [e] at w2
  exact w2
theorem car_tied (P:PairIn q ps h k F G r b) (nz:∀ m,m < k + 1→¬ q ∣ topD m r) (d:q ∣ topD (k + 1) r) {i:Nat} (hi:i < k + 1):q ∣ carS r (fun j=>topD (k - 1) r * topF (k + 1) (turnI r) (k - j) * b) i (k + 1):=by
  have e:carS r (fun j=>topD (k - 1) r * topF (k + 1) (turnI r) (k - j) * b) i (k + 1) = topD (k - 1) r * b * sumN (k + 1) fun j=>r ((i:Int) - (j:Int)) * topF (k + 1) (turnI r) (k + 1 - 1 - j):=by
    unfold carS
    rw [sumN_mul]
    exact sumN_congr fun j _=>by
      rw [Nat.add_sub_cancel]
      grind
  rw [e,topB_row (by omega) r i hi,top_turn r (k + 1) fun m hm=>ne_of_nd (nz m hm)]
  refine Int.dvd_trans ?_ (Int.dvd_mul_left _ _)
  split
  · exact d
  · exact Int.dvd_zero q
theorem none_left {p:Int × Int} {S S' M M':Int} (hq:WheelN q) (cp:Canon q p) (nM:¬ q ∣ M) (nM':¬ q ∣ M') (w:Weq q p (S',M')) (w2:Weq q (S',M') (S,M)) (d:q ∣ S):p = o1:=by
  have w3:=weq_tr hq nM' w w2
  refine canon_uniq hq cp (canon_o1 hq) (nz_cancel hq nM ?_)
  obtain ⟨k1,e1⟩:=w3
  obtain ⟨k2,e2⟩:=d
  dsimp only at e1
  refine ⟨k1 + k2 * p.2,?_⟩
  show M * (p.1 * 1 - 0 * p.2) = _
  rw [e2] at e1
  grind
end
end My
namespace My
open PySem L2
def spENextR (C:Addr):Sp:=fun vs H Q _=>∃ (td z a l:Addr) (q:Int) (ps:List (Int × Int)) (D:Int) (f0:Nat→Int) (T h N m:Nat) (A Af Ab:Nat→Addr) (F G:Nat→List (Int × Int)) (r:Int→Int) (b:Int) (H0:Hp),vs = [.ref td,.ref z,.ref a,.ref l,.int (m:Int)]∧ToldAt H td q∧WorldAt C H z q∧WheelN q∧RowG (10 ^ 150) H q a ps∧GrowIn q ps D f0 T h∧T ≤ 10 ^ 36∧D.natAbs ≤ 10 ^ 36∧GrAt (10 ^ 230) H0 H q l N A Af Ab F G∧GrowN q ps h N F G r b∧GrowB q h r b∧GrowS q h r b∧m < N∧m < h∧∀ H',Same H H'→Q (.bl true) H'
theorem rows_like3 {K:PySem.W.Frag} {B B':Nat} {H:Hp} {q:Int} (hq:WheelN q) {a b c a' b' c' x y:Addr} {ps F G:List (Int × Int)} {R:VK} {t:Bool} (ex:H x = some (.lst [.ref a,.ref b,.ref c])) (ey:H y = some (.lst [.ref a',.ref b',.ref c'])) (h1:RowG B H q a ps) (h2:RowG B' H q b F) (h3:RowG B' H q c G) (k1:RowG B H q a' ps) (k2:RowG B' H q b' F) (k3:RowG B' H q c' G) (k:R (.bl t) H):rLike K 2 t (.ref x) (.ref y) H R:=by
  have row:∀ {B B':Nat} {a b:Addr} {ps:List (Int × Int)},RowG B H q a ps→RowG B' H q b ps→LikeN K H 2 (.ref a) (.ref b):=fun h1 h2=>by
    obtain ⟨a,b,xs,ys,e1,e2,e3,e4,e5,e6,_⟩:=rowG_rlike (K:=K) (R:=fun _ _=>True) (r:=true) hq h1 h2 trivial
    exact .inr ⟨a,b,xs,ys,e1,e2,.inl ⟨e3,e4⟩,e5,e6⟩
  refine ⟨x,y,_,_,rfl,rfl,.of ex,.of ey,rfl,fun j u v hu hv=>?_,k⟩
  match j with
  | 0=>
    cases hu
    cases hv
    exact row h1 k1
  | 1=>
    cases hu
    cases hv
    exact row h2 k2
  | 2=>
    cases hu
    cases hv
    exact row h3 k3
  | j + 3=>
    simp at hu
theorem pairT_in (q:Int) (F G:List (Int × Int)):(Tr.tp [rowT q F,rowT q G]).In 3:=fun u hu=>by
  rcases List.mem_cons.mp hu with rfl | hu
  · exact rowT_in q _
  · rw [List.mem_singleton.mp hu]; exact rowT_in q _
theorem pair_one {q:Int} {ps F G F' G':List (Int × Int)} {h k:Nat} {r:Int→Int} {b:Int} (hq:WheelN q) (P:PairIn q ps h k F G r b) (P':PairIn q ps h k F' G' r b) (cF:∀ p ∈ F,Canon q p) (cG:∀ p ∈ G,Canon q p) (cF':∀ p ∈ F',Canon q p) (cG':∀ p ∈ G',Canon q p):F' = F∧G' = G:=
  ⟨row_ext P'.lF P.lF fun j hj=>canon_uniq hq (canonD hq cF' j) (canonD hq cF j) (weq_tr hq P.nz (P'.wF j hj) (P.wF j hj).symm),row_ext P'.lG P.lG fun j hj=>canon_uniq hq (canonD hq cG' j) (canonD hq cG j) (weq_tr hq P.nz (P'.wG j hj) (P.wG j hj).symm)⟩
end My
set_option maxRecDepth 100000
set_option maxHeartbeats 4000000
namespace My
open PySem L2
def top (i:Nat):Stmt:=PySem.Challenge.pw_bandwright_k58_grown_pair_by_pair.main.body.getD i (.Pass ⟨0,0,0,0⟩)
abbrev s_is_whole:Stmt:=top 21
abbrev s_common_divisor:Stmt:=top 23
abbrev s_is_prime:Stmt:=top 24
abbrev s_ratio:Stmt:=top 26
abbrev s_one_bottom:Stmt:=top 29
abbrev s_remainder_back:Stmt:=top 31
abbrev s_remainder_over:Stmt:=top 32
abbrev s_is_fractions:Stmt:=top 35
abbrev s_is_wheel:Stmt:=top 36
abbrev s_numbers_of:Stmt:=top 7
abbrev s_shifted_size:Stmt:=top 10
abbrev s_shifted_row:Stmt:=top 11
abbrev s_whole_sum:Stmt:=top 12
abbrev s_next_pair:Stmt:=top 13
abbrev s_whole_pairs:Stmt:=top 14
abbrev s_told_pair:Stmt:=top 15
abbrev s_growth:Stmt:=top 16
abbrev s_grown:Stmt:=top 17
abbrev s_law_e_fill:Stmt:=top 39
abbrev s_law_e_next:Stmt:=top 40
abbrev s_law_e_low:Stmt:=top 41
abbrev s_law_e_of:Stmt:=top 42
abbrev s_law_e_plus:Stmt:=top 43
abbrev s_law_e_times:Stmt:=top 44
abbrev s_law_e_is_number:Stmt:=top 45
abbrev s_law_e_is_row:Stmt:=top 46
abbrev s_law_e_world:Stmt:=top 47
abbrev s_law_e_number:Stmt:=top 48
abbrev s_law_e_told_row:Stmt:=top 49
abbrev s_law_e_carried:Stmt:=top 50
abbrev s_law_e_pair_right:Stmt:=top 51
abbrev s_law_e_tied:Stmt:=top 52
abbrev s_law_e_next_right:Stmt:=top 53
abbrev s_law:Stmt:=top 54
abbrev s_World___init__:Stmt:=inClass (top 37) 0
abbrev s_World_of:Stmt:=inClass (top 37) 3
abbrev s_World_as_wholes:Stmt:=inClass (top 37) 8
abbrev s_World_evenly:Stmt:=inClass (top 37) 9
structure Adr where
  f_is_whole:Addr
  d_is_whole:FuncData
  f_common_divisor:Addr
  d_common_divisor:FuncData
  f_is_prime:Addr
  d_is_prime:FuncData
  f_ratio:Addr
  d_ratio:FuncData
  f_one_bottom:Addr
  d_one_bottom:FuncData
  f_remainder_back:Addr
  d_remainder_back:FuncData
  f_remainder_over:Addr
  d_remainder_over:FuncData
  f_is_fractions:Addr
  d_is_fractions:FuncData
  f_is_wheel:Addr
  d_is_wheel:FuncData
  f_numbers_of:Addr
  d_numbers_of:FuncData
  f_shifted_size:Addr
  d_shifted_size:FuncData
  f_shifted_row:Addr
  d_shifted_row:FuncData
  f_whole_sum:Addr
  d_whole_sum:FuncData
  f_next_pair:Addr
  d_next_pair:FuncData
  f_whole_pairs:Addr
  d_whole_pairs:FuncData
  f_told_pair:Addr
  d_told_pair:FuncData
  f_growth:Addr
  d_growth:FuncData
  f_grown:Addr
  d_grown:FuncData
  f_law_e_fill:Addr
  d_law_e_fill:FuncData
  f_law_e_next:Addr
  d_law_e_next:FuncData
  f_law_e_low:Addr
  d_law_e_low:FuncData
  f_law_e_of:Addr
  d_law_e_of:FuncData
  f_law_e_plus:Addr
  d_law_e_plus:FuncData
  f_law_e_times:Addr
  d_law_e_times:FuncData
  f_law_e_is_number:Addr
  d_law_e_is_number:FuncData
  f_law_e_is_row:Addr
  d_law_e_is_row:FuncData
  f_law_e_world:Addr
  d_law_e_world:FuncData
  f_law_e_number:Addr
  d_law_e_number:FuncData
  f_law_e_told_row:Addr
  d_law_e_told_row:FuncData
  f_law_e_carried:Addr
  d_law_e_carried:FuncData
  f_law_e_pair_right:Addr
  d_law_e_pair_right:FuncData
  f_law_e_tied:Addr
  d_law_e_tied:FuncData
  f_law_e_next_right:Addr
  d_law_e_next_right:FuncData
  f_law:Addr
  d_law:FuncData
  f_World___init__:Addr
  d_World___init__:FuncData
  f_World_of:Addr
  d_World_of:FuncData
  f_World_as_wholes:Addr
  d_World_as_wholes:FuncData
  f_World_evenly:Addr
  d_World_evenly:FuncData
  C_World:Addr
  C_NoWorld:Addr
  C_NoOver:Addr
  C_NoFit:Addr
structure Txt (K:PySem.W.Frag) (mg:Str→Option Value) (t:Adr):Prop where
  F_is_whole:Fun K "is_whole" "is_whole" s_is_whole t.f_is_whole t.d_is_whole
  b_is_whole:Binds K t.d_is_whole ["thing"] []
  mg_is_whole:mg "is_whole" = some (.ref t.f_is_whole)
  F_common_divisor:Fun K "common_divisor" "common_divisor" s_common_divisor t.f_common_divisor t.d_common_divisor
  b_common_divisor:Binds K t.d_common_divisor ["one","other"] []
  mg_common_divisor:mg "common_divisor" = some (.ref t.f_common_divisor)
  F_is_prime:Fun K "is_prime" "is_prime" s_is_prime t.f_is_prime t.d_is_prime
  b_is_prime:Binds K t.d_is_prime ["number"] []
  mg_is_prime:mg "is_prime" = some (.ref t.f_is_prime)
  F_ratio:Fun K "ratio" "ratio" s_ratio t.f_ratio t.d_ratio
  b_ratio:Binds K t.d_ratio ["top","bottom"] []
  mg_ratio:mg "ratio" = some (.ref t.f_ratio)
  F_one_bottom:Fun K "one_bottom" "one_bottom" s_one_bottom t.f_one_bottom t.d_one_bottom
  b_one_bottom:Binds K t.d_one_bottom ["row"] []
  mg_one_bottom:mg "one_bottom" = some (.ref t.f_one_bottom)
  F_remainder_back:Fun K "remainder_back" "remainder_back" s_remainder_back t.f_remainder_back t.d_remainder_back
  b_remainder_back:Binds K t.d_remainder_back ["prime","number"] []
  mg_remainder_back:mg "remainder_back" = some (.ref t.f_remainder_back)
  F_remainder_over:Fun K "remainder_over" "remainder_over" s_remainder_over t.f_remainder_over t.d_remainder_over
  b_remainder_over:Binds K t.d_remainder_over ["prime","a","b"] []
  mg_remainder_over:mg "remainder_over" = some (.ref t.f_remainder_over)
  F_is_fractions:Fun K "is_fractions" "is_fractions" s_is_fractions t.f_is_fractions t.d_is_fractions
  b_is_fractions:Binds K t.d_is_fractions ["told"] []
  mg_is_fractions:mg "is_fractions" = some (.ref t.f_is_fractions)
  F_is_wheel:Fun K "is_wheel" "is_wheel" s_is_wheel t.f_is_wheel t.d_is_wheel
  b_is_wheel:Binds K t.d_is_wheel ["told"] []
  mg_is_wheel:mg "is_wheel" = some (.ref t.f_is_wheel)
  F_numbers_of:Fun K "numbers_of" "numbers_of" s_numbers_of t.f_numbers_of t.d_numbers_of
  b_numbers_of:Binds K t.d_numbers_of ["world","wholes","times","bottom"] []
  mg_numbers_of:mg "numbers_of" = some (.ref t.f_numbers_of)
  F_shifted_size:Fun K "shifted_size" "shifted_size" s_shifted_size t.f_shifted_size t.d_shifted_size
  b_shifted_size:Binds K t.d_shifted_size ["row"] []
  mg_shifted_size:mg "shifted_size" = some (.ref t.f_shifted_size)
  F_shifted_row:Fun K "shifted_row" "shifted_row" s_shifted_row t.f_shifted_row t.d_shifted_row
  b_shifted_row:Binds K t.d_shifted_row ["row","i","many"] []
  mg_shifted_row:mg "shifted_row" = some (.ref t.f_shifted_row)
  F_whole_sum:Fun K "whole_sum" "whole_sum" s_whole_sum t.f_whole_sum t.d_whole_sum
  b_whole_sum:Binds K t.d_whole_sum ["one","other"] []
  mg_whole_sum:mg "whole_sum" = some (.ref t.f_whole_sum)
  F_next_pair:Fun K "next_pair" "next_pair" s_next_pair t.f_next_pair t.d_next_pair
  b_next_pair:Binds K t.d_next_pair ["world","row","pair","last"] []
  mg_next_pair:mg "next_pair" = some (.ref t.f_next_pair)
  F_whole_pairs:Fun K "whole_pairs" "whole_pairs" s_whole_pairs t.f_whole_pairs t.d_whole_pairs
  b_whole_pairs:Binds K t.d_whole_pairs ["world","row"] []
  mg_whole_pairs:mg "whole_pairs" = some (.ref t.f_whole_pairs)
  F_told_pair:Fun K "told_pair" "told_pair" s_told_pair t.f_told_pair t.d_told_pair
  b_told_pair:Binds K t.d_told_pair ["world","pair","bottom"] []
  mg_told_pair:mg "told_pair" = some (.ref t.f_told_pair)
  F_growth:Fun K "growth" "growth" s_growth t.f_growth t.d_growth
  b_growth:Binds K t.d_growth ["world","row"] []
  mg_growth:mg "growth" = some (.ref t.f_growth)
  F_grown:Fun K "grown" "grown" s_grown t.f_grown t.d_grown
  b_grown:Binds K t.d_grown ["world","row","front","back"] []
  mg_grown:mg "grown" = some (.ref t.f_grown)
  F_law_e_fill:Fun K "_law_e_fill" "_law_e_fill" s_law_e_fill t.f_law_e_fill t.d_law_e_fill
  b_law_e_fill:Binds K t.d_law_e_fill ["cell","at"] []
  mg_law_e_fill:mg "_law_e_fill" = some (.ref t.f_law_e_fill)
  F_law_e_next:Fun K "_law_e_next" "_law_e_next" s_law_e_next t.f_law_e_next t.d_law_e_next
  b_law_e_next:Binds K t.d_law_e_next ["pen","many"] []
  mg_law_e_next:mg "_law_e_next" = some (.ref t.f_law_e_next)
  F_law_e_low:Fun K "_law_e_low" "_law_e_low" s_law_e_low t.f_law_e_low t.d_law_e_low
  b_law_e_low:Binds K t.d_law_e_low ["top","bottom"] []
  mg_law_e_low:mg "_law_e_low" = some (.ref t.f_law_e_low)
  F_law_e_of:Fun K "_law_e_of" "_law_e_of" s_law_e_of t.f_law_e_of t.d_law_e_of
  b_law_e_of:Binds K t.d_law_e_of ["told","number"] []
  mg_law_e_of:mg "_law_e_of" = some (.ref t.f_law_e_of)
  F_law_e_plus:Fun K "_law_e_plus" "_law_e_plus" s_law_e_plus t.f_law_e_plus t.d_law_e_plus
  b_law_e_plus:Binds K t.d_law_e_plus ["told","a","b"] []
  mg_law_e_plus:mg "_law_e_plus" = some (.ref t.f_law_e_plus)
  F_law_e_times:Fun K "_law_e_times" "_law_e_times" s_law_e_times t.f_law_e_times t.d_law_e_times
  b_law_e_times:Binds K t.d_law_e_times ["told","a","b"] []
  mg_law_e_times:mg "_law_e_times" = some (.ref t.f_law_e_times)
  F_law_e_is_number:Fun K "_law_e_is_number" "_law_e_is_number" s_law_e_is_number t.f_law_e_is_number t.d_law_e_is_number
  b_law_e_is_number:Binds K t.d_law_e_is_number ["told","a"] []
  mg_law_e_is_number:mg "_law_e_is_number" = some (.ref t.f_law_e_is_number)
  F_law_e_is_row:Fun K "_law_e_is_row" "_law_e_is_row" s_law_e_is_row t.f_law_e_is_row t.d_law_e_is_row
  b_law_e_is_row:Binds K t.d_law_e_is_row ["told","found"] []
  mg_law_e_is_row:mg "_law_e_is_row" = some (.ref t.f_law_e_is_row)
  F_law_e_world:Fun K "_law_e_world" "_law_e_world" s_law_e_world t.f_law_e_world t.d_law_e_world
  b_law_e_world:Binds K t.d_law_e_world ["pen"] []
  mg_law_e_world:mg "_law_e_world" = some (.ref t.f_law_e_world)
  F_law_e_number:Fun K "_law_e_number" "_law_e_number" s_law_e_number t.f_law_e_number t.d_law_e_number
  b_law_e_number:Binds K t.d_law_e_number ["pen","told","far"] []
  mg_law_e_number:mg "_law_e_number" = some (.ref t.f_law_e_number)
  F_law_e_told_row:Fun K "_law_e_told_row" "_law_e_told_row" s_law_e_told_row t.f_law_e_told_row t.d_law_e_told_row
  b_law_e_told_row:Binds K t.d_law_e_told_row ["pen","told","first"] []
  mg_law_e_told_row:mg "_law_e_told_row" = some (.ref t.f_law_e_told_row)
  F_law_e_carried:Fun K "_law_e_carried" "_law_e_carried" s_law_e_carried t.f_law_e_carried t.d_law_e_carried
  b_law_e_carried:Binds K t.d_law_e_carried ["told","row","numbers","many"] []
  mg_law_e_carried:mg "_law_e_carried" = some (.ref t.f_law_e_carried)
  F_law_e_pair_right:Fun K "_law_e_pair_right" "_law_e_pair_right" s_law_e_pair_right t.f_law_e_pair_right t.d_law_e_pair_right
  b_law_e_pair_right:Binds K t.d_law_e_pair_right ["told","row","pair","many"] []
  mg_law_e_pair_right:mg "_law_e_pair_right" = some (.ref t.f_law_e_pair_right)
  F_law_e_tied:Fun K "_law_e_tied" "_law_e_tied" s_law_e_tied t.f_law_e_tied t.d_law_e_tied
  b_law_e_tied:Binds K t.d_law_e_tied ["told","row","pair"] []
  mg_law_e_tied:mg "_law_e_tied" = some (.ref t.f_law_e_tied)
  F_law_e_next_right:Fun K "_law_e_next_right" "_law_e_next_right" s_law_e_next_right t.f_law_e_next_right t.d_law_e_next_right
  b_law_e_next_right:Binds K t.d_law_e_next_right ["told","world","row","pairs","m"] []
  mg_law_e_next_right:mg "_law_e_next_right" = some (.ref t.f_law_e_next_right)
  F_law:Fun K "law" "law" s_law t.f_law t.d_law
  b_law:Binds K t.d_law ["script"] []
  mg_law:mg "law" = some (.ref t.f_law)
  F_World___init__:Fun K "__init__" "World.__init__" s_World___init__ t.f_World___init__ t.d_World___init__
  b_World___init__:Binds K t.d_World___init__ ["self","told"] []
  M_World:Mk K t.C_World t.f_World___init__
  F_World_of:FunD K "of" "World.of" s_World_of 1 t.f_World_of t.d_World_of
  b_World_of:Binds K t.d_World_of ["self","top","bottom"] []
  b1_World_of:∃ v,Vals [V.int 1] [v]∧Binds K t.d_World_of ["self","top","bottom"] [v]
  bk_World_of:∀ (s:Shared) (us ws:List Value),K.In s.heap→ws.length = 1→us.length + 1 = (["self","top","bottom"]:List Str).length→BindsTo s t.d_World_of ⟨us,[("bottom":Str)].zip ws⟩ ((["self","top","bottom"]:List Str).zip (us ++ ws))
  m_World_of:Meth K t.C_World "of" t.f_World_of
  F_World_as_wholes:Fun K "as_wholes" "World.as_wholes" s_World_as_wholes t.f_World_as_wholes t.d_World_as_wholes
  b_World_as_wholes:Binds K t.d_World_as_wholes ["self","row"] []
  m_World_as_wholes:Meth K t.C_World "as_wholes" t.f_World_as_wholes
  F_World_evenly:Fun K "evenly" "World.evenly" s_World_evenly t.f_World_evenly t.d_World_evenly
  b_World_evenly:Binds K t.d_World_evenly ["self","row","by"] []
  m_World_evenly:Meth K t.C_World "evenly" t.f_World_evenly
  cl_World:Cls K t.C_World
  mg_World:mg "World" = some (.ref t.C_World)
  na_World_prime:NoAttr K t.C_World "prime"
  mg_NoWorld:mg "NoWorld" = some (.ref t.C_NoWorld)
  mg_NoOver:mg "NoOver" = some (.ref t.C_NoOver)
  mg_NoFit:mg "NoFit" = some (.ref t.C_NoFit)
  n_len:mg "len" = none
  n_isinstance:mg "isinstance" = none
  n_int:mg "int" = none
  n_bool:mg "bool" = none
  n_tuple:mg "tuple" = none
  n_list:mg "list" = none
  n_range:mg "range" = none
  n_abs:mg "abs" = none
  n_all:mg "all" = none
  n_zip:mg "zip" = none
  n_sum:mg "sum" = none
  n_min:mg "min" = none
  n_enumerate:mg "enumerate" = none
  n_ValueError:mg "ValueError" = none
  mg_GREATEST_PRIME:∃ u,mg "GREATEST_PRIME" = some u∧RelV (.int 997) u
  mg_LONG:∃ u,mg "LONG" = some u∧RelV (.int 2048) u
  mg_MOST:∃ u,mg "MOST" = some u∧RelV (.int 40) u
  x_NoWorld:PySem.W.excIn K t.C_NoWorld [.type "ValueError",.type "Exception",.type "BaseException",.type "object"] "ValueError.__new__" = true
  x_NoOver:PySem.W.excIn K t.C_NoOver [.type "ValueError",.type "Exception",.type "BaseException",.type "object"] "ValueError.__new__" = true
  x_NoFit:PySem.W.excIn K t.C_NoFit [.type "ValueError",.type "Exception",.type "BaseException",.type "object"] "ValueError.__new__" = true
section
variable {P:Program} {w:World} {K:PySem.W.Frag} {mg:Str→Option Value} {base:Heap} {t:Adr}
theorem sc_is_whole:FnScope ["thing"] ["thing"] (defScope s_is_whole):=⟨rfl,rfl,rfl,by decide +kernel,rfl,by decide +kernel,by decide +kernel⟩
theorem ok_is_whole (T:Txt K mg t):FnOk P w K mg base CX0 1 t.f_is_whole t.d_is_whole ["thing"] spWhole:=by
  have S:=sc_is_whole
  refine T.F_is_whole.ok S (fun vs H Q E h=>?_) (fun cdv A outer s H vs Q E hr h=>?_)
  · obtain ⟨v,rfl,_⟩:=h
    rfl
  · obtain ⟨v,rfl,ha,k⟩:=h
    refine ⟨_,(@pss_one _ _ _ (@ps_ret _ _ _ _ (@pe_and _ _ _ _ _ _ _ (pe_callB (call_isi (K:=K)) rfl T.n_isinstance boot_isinstance (@pa_mor _ _ _ _ _ (by rfl) (pv 0) (@pa_mor _ _ _ _ _ (by rfl) (pe_bltn (v:=.ty "int") rfl T.n_int boot_int rfl) pa_nil))) (@pe_one _ _ _ _ _ (@pe_not _ _ _ _ (pe_callB (call_isi (K:=K)) rfl T.n_isinstance boot_isinstance (@pa_mor _ _ _ _ _ (by rfl) (pv 0) (@pa_mor _ _ _ _ _ (by rfl) (pe_bltn (v:=.ty "bool") rfl T.n_bool boot_bool rfl) pa_nil)))))))),?_⟩
    obtain ⟨Ty,ty,k1,k2,_⟩:=ha.kit (K:=K)
    refine ⟨_,rfl,_,_,_,_,rfl,rfl,ty,k1,_,rfl,ite2 (fun h1=>?_) (fun h1=>?_)⟩
    · refine ⟨_,rfl,_,_,_,_,rfl,rfl,ty,k2,_,rfl,?_⟩
      have e:(!isBlV v) = isIntV v:=by
        cases h2:isBlV v with
        | true=>rw [bl_int h2]; rfl
        | false=>rw [h2,Bool.or_false] at h1; rw [h1]; rfl
      show Q (.bl (!isBlV v)) H
      rw [e]
      exact k
    · have e:isIntV v = false:=by
        cases h2:isIntV v with
        | true=>rw [h2] at h1; exact absurd rfl h1
        | false=>rfl
      rw [e] at k
      exact k
theorem sc_common_divisor:FnScope ["one","other","left","shorter"] ["one","other"] (defScope s_common_divisor):=⟨rfl,rfl,rfl,by decide +kernel,rfl,by decide +kernel,by decide +kernel⟩
theorem ok_common_divisor (T:Txt K mg t):FnOk P w K mg base CX0 1 t.f_common_divisor t.d_common_divisor ["one","other"] spGcd:=by
  have S:=sc_common_divisor
  obtain ⟨uL,hL,rL⟩:=T.mg_LONG
  refine T.F_common_divisor.ok S (fun vs H Q E h=>?_) (fun cdv A outer s H vs Q E hr h=>?_)
  · obtain ⟨a,b,rfl,_⟩:=h
    rfl
  · obtain ⟨a,b,rfl,mb,k⟩:=h
    refine ⟨_,(@pss_cons _ _ _ _ _ (@ps_put _ _ 0 _ _ _ _ (by rfl) (by first | exact .inl rfl | exact .inr rfl | assumption) S.nd rfl (Or.inl rfl) (pe_callB call_abs rfl T.n_abs boot_abs (@pa_mor _ _ _ _ _ (by rfl) (pv 0) pa_nil)))
      (@pss_cons _ _ _ _ _ (@ps_put _ _ 1 _ _ _ _ (by rfl) (by first | exact .inl rfl | exact .inr rfl | assumption) S.nd rfl (Or.inl rfl) (pe_callB call_abs rfl T.n_abs boot_abs (@pa_mor _ _ _ _ _ (by rfl) (pv 1) pa_nil)))
      (@pss_cons _ _ _ _ _ (@ps_while _ _ _ _ _ _ PassesOwn.never (@pt_cmpR _ _ _ _ _ _ _ _ op_gt (pv 1) pe_int (nomark _)) (@pss_cons _ _ _ _ _ (@ps_put _ _ 2 _ _ _ _ (by rfl) (by first | exact .inl rfl | exact .inr rfl | assumption) S.nd rfl (Or.inl rfl) (@pe_op _ _ _ _ _ _ _ _ op_mod (pv 0) (pv 1)))
      (@pss_cons _ _ _ _ _ (@ps_put _ _ 0 _ _ _ _ (by rfl) (by first | exact .inl rfl | exact .inr rfl | assumption) S.nd rfl (Or.inl rfl) (pv 1))
      (@pss_cons _ _ _ _ _ (@ps_put _ _ 1 _ _ _ _ (by rfl) (by first | exact .inl rfl | exact .inr rfl | assumption) S.nd rfl (Or.inl rfl) (pv 2))
      (@pss_one _ _ _ (@ps_if _ _ _ _ _ _ _ _ (@pt_cmpR _ _ _ _ _ _ _ _ op_gt (pe_bm0 PySem.F.plainAttrs_int PySem.F.slot_int_bit_length PySem.F.type_int_bit_length mt_bits (pv 0)) (pe_glob (v:=.int 2048) rfl hL rL) (nomark _)) pss_never pss_nil))))))
      (@pss_one _ _ _ (@ps_ret _ _ _ _ (pv 0)))))),?_⟩
    refine ⟨_,rfl,a,rfl,_,rfl,b,rfl,fun m σ H'=>H' = H∧∃ (x y:Nat) (v u:Option V),σ = [some (.int (x:Int)),some (.int (y:Int)),v,u]∧m = y∧y ≤ b.natAbs∧Nat.gcd x y = Int.gcd a b,⟨b.natAbs,rfl,a.natAbs,b.natAbs,none,none,?_,rfl,Nat.le_refl _,rfl⟩,?_⟩
    · show [some (V.int (if a < 0 then -a else a)),some (V.int (if b < 0 then -b else b)),none,none] = _
      rw [abs_nat,abs_nat]
    · rintro m σ H' ⟨rfl,x,y,v,u,rfl,em,hb,hg⟩
      refine ⟨_,rfl,_,_,rfl,rfl,_,rfl,ite2 (fun hy=>?_) (fun hy=>?_)⟩
      · have hy:(0:Int) < y:=of_decide_eq_true hy
        refine ⟨fun σ' H2=>H2 = H'∧σ' = [some (.int (y:Int)),some (.int (((x % y:Nat)):Int)),some (.int (((x % y:Nat)):Int)),u],?_,?_⟩
        · rintro σ' H2 ⟨rfl,rfl⟩
          exact ⟨x % y,by rw [em]; exact Nat.mod_lt _ (by omega),rfl,y,x % y,_,_,rfl,rfl,Nat.le_trans (Nat.le_of_lt (Nat.mod_lt _ (by omega))) hb,by rw [gcd_step]; exact hg⟩
        · have hm:Mid (y:Int):=Nat.lt_of_le_of_lt (by rw [Int.natAbs_natCast]; exact hb) mb
          have hbt:=bits_mid hm
          refine ⟨_,rfl,_,rfl,_,_,rfl,rfl,hy,_,rfl,_,rfl,_,rfl,rfl,_,rfl,rfl,_,_,rfl,rfl,_,rfl,ite2 (fun hz=>?_) (fun _=>⟨rfl,rfl⟩)⟩
          have hz:=of_decide_eq_true hz
          exact absurd hz (by omega)
      · have hy:¬ (0:Int) < y:=fun z=>hy (decide_eq_true z)
        have y0:y = 0:=by omega
        subst y0
        rw [Nat.gcd_zero_right] at hg
        rw [← hg] at k
        exact ⟨_,rfl,k⟩
theorem sc_is_prime:FnScope ["number","divisor"] ["number"] (defScope s_is_prime):=⟨rfl,rfl,rfl,by decide +kernel,rfl,by decide +kernel,by decide +kernel⟩
theorem ok_is_prime (T:Txt K mg t):FnOk P w K mg base CX0 1 t.f_is_prime t.d_is_prime ["number"] spPrime:=by
  have S:=sc_is_prime
  refine T.F_is_prime.ok S (fun vs H Q E h=>?_) (fun cdv A outer s H vs Q E hr h=>?_)
  · obtain ⟨n,rfl,_⟩:=h
    rfl
  · obtain ⟨n,rfl,hn1,hn2,k⟩:=h
    refine ⟨_,(@pss_cons _ _ _ _ _ (@ps_put _ _ 1 _ _ _ _ (by rfl) (by first | exact .inl rfl | exact .inr rfl | assumption) S.nd rfl (Or.inl rfl) pe_int)
      (@pss_cons _ _ _ _ _ (@ps_while _ _ _ _ _ _ PassesOwn.never (@pt_cmpR _ _ _ _ _ _ _ _ op_le (@pe_op _ _ _ _ _ _ _ _ op_mul (pv 1) (pv 1)) (pv 0) (nomark _)) (@pss_cons _ _ _ _ _ (@ps_if _ _ _ _ _ _ _ _ (@pt_cmpR _ _ _ _ _ _ _ _ op_eq (@pe_op _ _ _ _ _ _ _ _ op_mod (pv 0) (pv 1)) pe_int (nomark _)) (@pss_one _ _ _ (@ps_ret _ _ _ _ pe_bl)) pss_nil)
      (@pss_one _ _ _ (ps_aug (i:=1) S.nd rfl (Or.inl rfl) pe_int ip_add))))
      (@pss_one _ _ _ (@ps_ret _ _ _ _ (@pe_cmpR _ _ _ _ _ _ _ _ op_ge (pv 0) pe_int (nomark _)))))),?_⟩
    refine ⟨fun m σ H'=>H' = H∧∃ d:Int,σ = [some (.int n),some (.int d)]∧2 ≤ d∧d ≤ 32∧m = (33 - d).toNat∧∀ e:Int,2 ≤ e→e < d→n % e ≠ 0,⟨_,rfl,2,rfl,by omega,by omega,rfl,fun e a b=>by omega⟩,?_⟩
    rintro m σ H' ⟨rfl,d,rfl,h1,h2,rfl,h3⟩
    refine ⟨_,rfl,_,rfl,_,_,rfl,rfl,.inl ⟨by omega,by omega⟩,_,rfl,_,_,rfl,rfl,_,rfl,ite2 (fun hq=>?_) (fun hq=>?_)⟩
    · have hq:=of_decide_eq_true hq
      have hd:d < 32:=by
        by_cases z:d < 32
        · exact z
        · have:d = 32:=by omega
          subst this
          omega
      refine ⟨fun σ' H2=>H2 = H'∧σ' = [some (.int n),some (.int (d + 1))]∧n % d ≠ 0,?_,?_⟩
      · rintro σ' H2 ⟨rfl,rfl,hm⟩
        refine ⟨(33 - (d + 1)).toNat,by omega,rfl,d + 1,rfl,by omega,by omega,rfl,fun e a b=>?_⟩
        by_cases z:e = d
        · subst z; exact hm
        · exact h3 e a (by omega)
      · refine ⟨_,rfl,_,rfl,_,_,rfl,rfl,(show (0:Int) < d by omega),rfl,_,rfl,ite2 (fun hm=>?_) (fun hm=>?_)⟩
        · have hm:=V.int.inj (of_decide_eq_true hm)
          rw [primeB_no hn2 h1 hq hm] at k
          exact k
        · exact ⟨_,rfl,_,_,rfl,rfl,rfl,rfl,fun z=>hm (decide_eq_true (congrArg V.int z))⟩
    · have hq:¬ d * d ≤ n:=fun z=>hq (decide_eq_true z)
      refine ⟨_,rfl,_,_,rfl,rfl,?_⟩
      rw [primeB_yes (n:=n) (d:=d) (by omega) h1 h3] at k
      have e:decide ((2:Int) ≤ n) = true:=decide_eq_true hn1
      show Q (.bl (decide ((2:Int) ≤ n))) H'
      rw [e]
      exact k
theorem sc_is_fractions:FnScope ["told"] ["told"] (defScope s_is_fractions):=⟨rfl,rfl,rfl,by decide +kernel,rfl,by decide +kernel,by decide +kernel⟩
theorem ok_is_fractions (T:Txt K mg t):FnOk P w K mg base CX0 1 t.f_is_fractions t.d_is_fractions ["told"] spIsF:=by
  have S:=sc_is_fractions
  refine T.F_is_fractions.ok S (fun vs H Q E h=>?_) (fun cdv A outer s H vs Q E hr h=>?_)
  · obtain ⟨p,d,rfl,_⟩:=h
    rfl
  · obtain ⟨p,d,rfl,hp,k⟩:=h
    refine ⟨_,(@pss_one _ _ _ (@ps_ret _ _ _ _ (@pe_and _ _ _ _ _ _ _ (pe_callB (call_isi (K:=K)) rfl T.n_isinstance boot_isinstance (@pa_mor _ _ _ _ _ (by rfl) (pv 0) (@pa_mor _ _ _ _ _ (by rfl) (pe_bltn (v:=.ty "tuple") rfl T.n_tuple boot_tuple rfl) pa_nil))) (@pe_and _ _ _ _ _ _ _ (@pe_cmpR _ _ _ _ _ _ _ _ op_eq (pe_callB call_len_seq rfl T.n_len boot_len (@pa_mor _ _ _ _ _ (by rfl) (pv 0) pa_nil)) pe_int (nomark _)) (@pe_one _ _ _ _ _ (@pe_cmpR _ _ _ _ _ _ _ _ op_eq (@pe_ix _ _ _ _ _ _ _ ix_tup (pv 0) pe_int (fun _ _=>rfl)) pe_str (nomark _))))))),?_⟩
    refine ⟨_,rfl,_,_,_,true,rfl,rfl,.of (.tup hp),kit_same,true,rfl,iteT ?_⟩
    cases d with
    | a x=>
      refine ⟨_,rfl,p,_,rfl,.inr (.of hp),rfl,true,rfl,iteT ?_⟩
      refine ⟨_,rfl,p,_,0,.str x,rfl,rfl,.of hp,rfl,rfl,?_⟩
      rw [dV_str]
      exact k
    | b x n=>
      exact ⟨_,rfl,p,_,rfl,.inr (.of hp),rfl,false,rfl,iteF k⟩
theorem sc_is_wheel:FnScope ["told"] ["told"] (defScope s_is_wheel):=⟨rfl,rfl,rfl,by decide +kernel,rfl,by decide +kernel,by decide +kernel⟩
theorem ok_is_wheel (T:Txt K mg t):FnOk P w K mg base CX0 2 t.f_is_wheel t.d_is_wheel ["told"] spIsW:=by
  have S:=sc_is_wheel
  have G_is_whole:=ok_is_whole (P:=P) (w:=w) (base:=base) T
  have G_is_prime:=ok_is_prime (P:=P) (w:=w) (base:=base) T
  obtain ⟨uG,hG,rG⟩:=T.mg_GREATEST_PRIME
  refine T.F_is_wheel.ok S (fun vs H Q E h=>?_) (fun cdv A outer s H vs Q E hr h=>?_)
  · obtain ⟨p,d,rfl,_⟩:=h
    rfl
  · obtain ⟨p,d,rfl,hp,k⟩:=h
    refine ⟨_,(@pss_cons _ _ _ _ _ (@ps_if _ _ _ _ _ _ _ _ (PW.pt (@pw_or _ _ _ _ _ _ _ (@pt_not _ _ _ _ (pt_val (pe_callB (call_isi (K:=K)) rfl T.n_isinstance boot_isinstance (@pa_mor _ _ _ _ _ (by rfl) (pv 0) (@pa_mor _ _ _ _ _ (by rfl) (pe_bltn (v:=.ty "tuple") rfl T.n_tuple boot_tuple rfl) pa_nil))))) (@pw_or _ _ _ _ _ _ _ (@pt_cmpR _ _ _ _ _ _ _ _ op_ne (pe_callB call_len_seq rfl T.n_len boot_len (@pa_mor _ _ _ _ _ (by rfl) (pv 0) pa_nil)) pe_int (nomark _)) (@pw_or1 _ _ _ _ (@pt_cmpR _ _ _ _ _ _ _ _ op_ne (@pe_ix _ _ _ _ _ _ _ ix_tup (pv 0) pe_int (fun _ _=>rfl)) pe_str (nomark _)))))) (@pss_one _ _ _ (@ps_ret _ _ _ _ pe_bl)) pss_nil)
      (@pss_one _ _ _ (@ps_ret _ _ _ _ (@pe_and _ _ _ _ _ _ _ (pe_call G_is_whole (hr.mono (by decide)) rfl T.mg_is_whole T.F_is_whole.kp T.b_is_whole .nil pass0 (@pa_mor _ _ _ _ _ (by rfl) (@pe_ix _ _ _ _ _ _ _ ix_tup (pv 0) pe_int (fun _ _=>rfl)) pa_nil)) (@pe_and _ _ _ _ _ _ _ (pe_chain op_le op_le pe_int (@pe_ix _ _ _ _ _ _ _ ix_tup (pv 0) pe_int (fun _ _=>rfl)) (pe_glob (v:=.int 997) rfl hG rG)) (@pe_one _ _ _ _ _ (pe_call G_is_prime (hr.mono (by decide)) rfl T.mg_is_prime T.F_is_prime.kp T.b_is_prime .nil pass0 (@pa_mor _ _ _ _ _ (by rfl) (@pe_ix _ _ _ _ _ _ _ ix_tup (pv 0) pe_int (fun _ _=>rfl)) pa_nil)))))))),?_⟩
    refine ⟨_,rfl,_,_,_,true,rfl,rfl,.of (.tup hp),kit_same,true,rfl,iteF ?_⟩
    cases d with
    | a x=>exact ⟨_,rfl,p,_,rfl,.inr (.of hp),rfl,true,rfl,iteT (iteT k)⟩
    | b x n=>
      refine ⟨_,rfl,p,_,rfl,.inr (.of hp),rfl,false,rfl,iteF ?_⟩
      refine ⟨_,rfl,p,_,0,.str x,rfl,rfl,.of hp,rfl,rfl,_,rfl,ite2 (fun hw=>?_) (fun hw=>?_)⟩
      · have hw:¬ x = "wheel":=by
          rw [dV_str] at hw
          simpa using hw
        have e:(Td.b x n).isW = false:=by simp [Td.isW,hw]
        rw [e] at k
        exact k
      · have hw:x = "wheel":=by
          rw [dV_str] at hw
          simpa using hw
        refine ⟨_,rfl,p,_,1,.int n,rfl,rfl,.of hp,rfl,.int n,rfl,.int n,true,rfl,iteT ?_⟩
        refine ⟨_,rfl,p,_,1,.int n,rfl,rfl,.of hp,rfl,_,_,rfl,rfl,_,rfl,?_⟩
        refine ite2 (fun h2=>?_) (fun h2=>?_)
        · have h2:=of_decide_eq_true h2
          refine ⟨_,_,rfl,rfl,_,rfl,ite2 (fun h3=>?_) (fun h3=>?_)⟩
          · have h3:=of_decide_eq_true h3
            refine ⟨_,rfl,p,_,1,.int n,rfl,rfl,.of hp,rfl,n,rfl,h2,h3,?_⟩
            have e:(Td.b x n).isW = primeB n:=by simp [Td.isW,hw,h2,h3]
            rw [e] at k
            exact k
          · have h3:¬ n ≤ 997:=fun z=>h3 (decide_eq_true z)
            have e:(Td.b x n).isW = false:=by simp [Td.isW,h3]
            rw [e] at k
            exact k
        · have h2:¬ 2 ≤ n:=fun z=>h2 (decide_eq_true z)
          have e:(Td.b x n).isW = false:=by simp [Td.isW,h2]
          rw [e] at k
          exact ⟨false,rfl,iteF k⟩
theorem sc_init:FnScope ["self","told"] ["self","told"] (defScope s_World___init__):=⟨rfl,rfl,rfl,by decide +kernel,rfl,by decide +kernel,by decide +kernel⟩
theorem ok_init (T:Txt K mg t):FnOk P w K mg base (CXF P w) 3 t.f_World___init__ t.d_World___init__ ["self","told"] (spInit t.C_World t.C_NoWorld):=by
  have S:=sc_init
  have G_is_fractions:=ok_is_fractions (P:=P) (w:=w) (base:=base) T
  have G_is_wheel:=ok_is_wheel (P:=P) (w:=w) (base:=base) T
  refine T.F_World___init__.okX S (fun vs H Q E h=>?_) (fun cdv A outer s H vs Q E hr h L=>?_)
  · obtain ⟨x,dx,p,d,rfl,_⟩:=h
    rfl
  · obtain ⟨x,dx,p,d,rfl,hx,hp,k1,k2⟩:=h
    refine ⟨_,(@pss_one _ _ _ (@ps_if _ _ _ _ _ _ _ _ (pt_val (pe_call G_is_fractions (hr.mono (by decide)) rfl T.mg_is_fractions T.F_is_fractions.kp T.b_is_fractions .nil pass0 (@pa_mor _ _ _ _ _ (by rfl) (pv 1) pa_nil))) (@pss_one _ _ _ (@ps_fld _ _ _ _ _ _ _ _ (pv 0) pe_non rfl)) (@pss_one _ _ _ (@ps_if _ _ _ _ _ _ _ _ (pt_val (pe_call G_is_wheel (hr.mono (by decide)) rfl T.mg_is_wheel T.F_is_wheel.kp T.b_is_wheel .nil pass0 (@pa_mor _ _ _ _ _ (by rfl) (pv 1) pa_nil))) (@pss_one _ _ _ (@ps_fld _ _ _ _ _ _ _ _ (pv 0) (@pe_ix _ _ _ _ _ _ _ ix_tup (pv 1) pe_int (fun _ _=>rfl)) rfl)) (@pss_one _ _ _ (ps_raise L rfl PySem.F.excBase_ValueError T.x_NoWorld rfl T.mg_NoWorld (@pa_mor _ _ _ _ _ (by rfl) pe_str pa_nil))))))),?_⟩
    refine ⟨_,rfl,p,d,rfl,hp,_,rfl,ite2 (fun hF=>?_) (fun hF=>?_)⟩
    · refine ⟨_,rfl,x,t.C_World,dx,[],rfl,hx,T.cl_World,T.na_World_prime,(by show 0 < 1000; decide),?_⟩
      have e:d.prime = .non:=by
        cases d with
        | a x=>rfl
        | b x n=>cases hF
      have k:=k1 (by unfold Td.good; rw [hF]; rfl)
      rw [e] at k
      exact k
    · have hF:d.isF = false:=by simpa using hF
      refine ⟨_,rfl,p,d,rfl,hp,_,rfl,ite2 (fun hW=>?_) (fun hW=>?_)⟩
      · have k:=k1 (by unfold Td.good; rw [hW,Bool.or_true])
        cases d with
        | a x=>cases hW
        | b y n=>
          exact ⟨_,rfl,p,_,1,.int n,rfl,rfl,.of hp,rfl,_,rfl,x,t.C_World,dx,[],rfl,hx,T.cl_World,T.na_World_prime,(by show 0 < 1000; decide),k⟩
      · have hW:d.isW = false:=by simpa using hW
        exact ⟨by show 1 ≤ sizeLine; decide,k2 (by unfold Td.good; rw [hF,hW]; rfl)⟩
theorem sc_ratio:FnScope ["top","bottom","shared"] ["top","bottom"] (defScope s_ratio):=⟨rfl,rfl,rfl,by decide +kernel,rfl,by decide +kernel,by decide +kernel⟩
theorem ok_ratio (T:Txt K mg t):FnOk P w K mg base (CXF P w) 2 t.f_ratio t.d_ratio ["top","bottom"] (spRatio t.C_NoOver):=by
  have S:=sc_ratio
  have G_common_divisor:=ok_common_divisor (P:=P) (w:=w) (base:=base) T
  refine T.F_ratio.okX S (fun vs H Q E h=>?_) (fun cdv A outer s H vs Q E hr h L=>?_)
  · obtain ⟨a,b,rfl,_⟩:=h
    rfl
  · obtain ⟨a,b,rfl,mb,kE,k⟩:=h
    refine ⟨_,(@pss_cons _ _ _ _ _ (@ps_if _ _ _ _ _ _ _ _ (@pt_cmpR _ _ _ _ _ _ _ _ op_eq (pv 1) pe_int (nomark _)) (@pss_one _ _ _ (ps_raise L rfl PySem.F.excBase_ValueError T.x_NoOver rfl T.mg_NoOver (@pa_mor _ _ _ _ _ (by rfl) pe_str pa_nil))) pss_nil)
      (PSs.nox (@pss_cons _ _ _ _ _ (@ps_put _ _ 2 _ _ _ _ (by rfl) (by first | exact .inl rfl | exact .inr rfl | assumption) S.nd rfl (Or.inl rfl) (pe_call G_common_divisor (hr.mono (by decide)) rfl T.mg_common_divisor T.F_common_divisor.kp T.b_common_divisor .nil pass0 (@pa_mor _ _ _ _ _ (by rfl) (pv 0) (@pa_mor _ _ _ _ _ (by rfl) (pv 1) pa_nil))))
      (@pss_cons _ _ _ _ _ (@ps_if _ _ _ _ _ _ _ _ (@pt_cmpR _ _ _ _ _ _ _ _ op_lt (pv 1) pe_int (nomark _)) (@pss_one _ _ _ (@ps_put _ _ 2 _ _ _ _ (by rfl) (by first | exact .inl rfl | exact .inr rfl | assumption) S.nd rfl (Or.inl rfl) (@pe_un _ _ _ _ _ _ un_neg (pv 2)))) pss_nil)
      (@pss_one _ _ _ (@ps_ret _ _ _ _ (@pe_tup _ _ _ _ _ (@pa_mor _ _ _ _ _ (by rfl) (@pe_op _ _ _ _ _ _ _ _ op_fdivM (pv 0) (pv 2)) (@pa_mor _ _ _ _ _ (by rfl) (@pe_op _ _ _ _ _ _ _ _ op_fdivM (pv 1) (pv 2)) pa_nil))))))))),?_⟩
    have n2:2 ≤ sizeLine:=by decide
    refine ⟨_,rfl,rfl,_,rfl,ite2 (fun hz=>?_) (fun hz=>?_)⟩
    · have hz:b = 0:=V.int.inj (of_decide_eq_true hz)
      exact ⟨by show 1 ≤ sizeLine; decide,kE hz⟩
    have hz:b ≠ 0:=fun z=>hz (decide_eq_true (by rw [z]))
    have ok:=lowG_ok (a:=a) hz mb
    have kk:=k hz
    unfold lowU lowD at kk
    refine ⟨_,rfl,_,rfl,a,b,rfl,mb,_,rfl,_,_,rfl,rfl,_,rfl,ite2 (fun hn=>?_) (fun hn=>?_)⟩
    · have hn:b < 0:=of_decide_eq_true hn
      have e:lowG a b = -(Int.gcd a b:Int):=by unfold lowG; rw [if_pos hn,Int.zero_sub]
      rw [e] at ok kk
      refine ⟨_,rfl,_,rfl,_,rfl,_,rfl,_,_,rfl,rfl,ok,_,rfl,_,rfl,_,_,rfl,rfl,ok,n2,fun r hr=>kk r _ (same_upd hr) upd_same⟩
    · have hn:¬ b < 0:=fun z=>hn (decide_eq_true z)
      have e:lowG a b = (Int.gcd a b:Int):=by unfold lowG; rw [if_neg hn]
      rw [e] at ok kk
      refine ⟨_,rfl,_,rfl,_,_,rfl,rfl,ok,_,rfl,_,rfl,_,_,rfl,rfl,ok,n2,fun r hr=>kk r _ (same_upd hr) upd_same⟩
theorem sc_remainder_back:FnScope ["prime","number","last","last_times","now","now_times","fits","left","left_times"] ["prime","number"] (defScope s_remainder_back):=⟨rfl,rfl,rfl,by decide +kernel,rfl,by decide +kernel,by decide +kernel⟩
theorem ok_remainder_back (T:Txt K mg t):FnOk P w K mg base (CXF P w) 1 t.f_remainder_back t.d_remainder_back ["prime","number"] (spBack t.C_NoOver):=by
  have S:=sc_remainder_back
  refine T.F_remainder_back.okX S (fun vs H Q E h=>?_) (fun cdv A outer s H vs Q E hr h L=>?_)
  · obtain ⟨q,b,rfl,_⟩:=h
    rfl
  · obtain ⟨q,b,rfl,q1,q2,q3,b0,b1,kE,k⟩:=h
    refine ⟨_,(@pss_cons _ _ _ _ _ (@ps_if _ _ _ _ _ _ _ _ (@pt_cmpR _ _ _ _ _ _ _ _ op_eq (pv 1) pe_int (nomark _)) (@pss_one _ _ _ (ps_raise L rfl PySem.F.excBase_ValueError T.x_NoOver rfl T.mg_NoOver (@pa_mor _ _ _ _ _ (by rfl) pe_str pa_nil))) pss_nil)
      (PSs.nox (@pss_cons _ _ _ _ _ (@ps_put _ _ 2 _ _ _ _ (by rfl) (by first | exact .inl rfl | exact .inr rfl | assumption) S.nd rfl (Or.inl rfl) (pv 0))
      (@pss_cons _ _ _ _ _ (@ps_put _ _ 3 _ _ _ _ (by rfl) (by first | exact .inl rfl | exact .inr rfl | assumption) S.nd rfl (Or.inl rfl) pe_int)
      (@pss_cons _ _ _ _ _ (@ps_put _ _ 4 _ _ _ _ (by rfl) (by first | exact .inl rfl | exact .inr rfl | assumption) S.nd rfl (Or.inl rfl) (pv 1))
      (@pss_cons _ _ _ _ _ (@ps_put _ _ 5 _ _ _ _ (by rfl) (by first | exact .inl rfl | exact .inr rfl | assumption) S.nd rfl (Or.inl rfl) pe_int)
      (@pss_cons _ _ _ _ _ (@ps_while _ _ _ _ _ _ PassesOwn.never (@pt_cmpR _ _ _ _ _ _ _ _ op_gt (pv 4) pe_int (nomark _)) (@pss_cons _ _ _ _ _ (@ps_put _ _ 6 _ _ _ _ (by rfl) (by first | exact .inl rfl | exact .inr rfl | assumption) S.nd rfl (Or.inl rfl) (@pe_op _ _ _ _ _ _ _ _ op_fdiv (pv 2) (pv 4)))
      (@pss_cons _ _ _ _ _ (@ps_put _ _ 7 _ _ _ _ (by rfl) (by first | exact .inl rfl | exact .inr rfl | assumption) S.nd rfl (Or.inl rfl) (@pe_op _ _ _ _ _ _ _ _ op_sub (pv 2) (@pe_op _ _ _ _ _ _ _ _ op_mul (pv 6) (pv 4))))
      (@pss_cons _ _ _ _ _ (@ps_put _ _ 8 _ _ _ _ (by rfl) (by first | exact .inl rfl | exact .inr rfl | assumption) S.nd rfl (Or.inl rfl) (@pe_op _ _ _ _ _ _ _ _ op_sub (pv 3) (@pe_op _ _ _ _ _ _ _ _ op_mul (pv 6) (pv 5))))
      (@pss_cons _ _ _ _ _ (@ps_put _ _ 2 _ _ _ _ (by rfl) (by first | exact .inl rfl | exact .inr rfl | assumption) S.nd rfl (Or.inl rfl) (pv 4))
      (@pss_cons _ _ _ _ _ (@ps_put _ _ 3 _ _ _ _ (by rfl) (by first | exact .inl rfl | exact .inr rfl | assumption) S.nd rfl (Or.inl rfl) (pv 5))
      (@pss_cons _ _ _ _ _ (@ps_put _ _ 4 _ _ _ _ (by rfl) (by first | exact .inl rfl | exact .inr rfl | assumption) S.nd rfl (Or.inl rfl) (pv 7))
      (@pss_one _ _ _ (@ps_put _ _ 5 _ _ _ _ (by rfl) (by first | exact .inl rfl | exact .inr rfl | assumption) S.nd rfl (Or.inl rfl) (pv 8))))))))))
      (@pss_one _ _ _ (@ps_ret _ _ _ _ (@pe_op _ _ _ _ _ _ _ _ op_mod (pv 5) (pv 0))))))))))),?_⟩
    refine ⟨_,rfl,rfl,_,rfl,ite2 (fun hz=>?_) (fun hz=>?_)⟩
    · have hz:b = 0:=V.int.inj (of_decide_eq_true hz)
      exact ⟨by show 1 ≤ sizeLine; decide,kE hz⟩
    have hz:b ≠ 0:=fun z=>hz (decide_eq_true (by rw [z]))
    refine ⟨_,rfl,_,rfl,fun m σ H'=>H' = H∧∃ (l lt n nt:Int) (v1 v2 v3:Option V),σ = [some (.int q),some (.int b),some (.int l),some (.int lt),some (.int n),some (.int nt),v1,v2,v3]∧m = n.toNat∧Bond q b l lt n nt∧l ≤ 997,
      ⟨b.toNat,rfl,q,0,b,1,none,none,none,rfl,rfl,Bond.start q1 q2 q3 (by omega) b1,q2⟩,?_⟩
    rintro m σ H' ⟨rfl,l,lt,n,nt,v1,v2,v3,rfl,em,hb,hl⟩
    have p1:=hb.pos
    have p2:=hb.less
    refine ⟨_,rfl,_,_,rfl,rfl,_,rfl,ite2 (fun hy=>?_) (fun hy=>?_)⟩
    · have hy:1 < n:=of_decide_eq_true hy
      have hs:=hb.step hy
      have f0:0 ≤ l / n:=Int.ediv_nonneg (by omega) (by omega)
      have f1:l / n ≤ l:=Int.ediv_le_self _ (by omega)
      refine ⟨fun σ' H2=>H2 = H'∧σ' = [some (.int q),some (.int b),some (.int n),some (.int nt),some (.int (l - l / n * n)),some (.int (lt - l / n * nt)),some (.int (l / n)),some (.int (l - l / n * n)),some (.int (lt - l / n * nt))],?_,?_⟩
      · rintro σ' H2 ⟨rfl,rfl⟩
        exact ⟨(l - l / n * n).toNat,by rw [em]; omega,rfl,_,_,_,_,_,_,_,rfl,rfl,hs.1,by omega⟩
      · exact ⟨_,rfl,_,rfl,_,_,rfl,rfl,⟨by omega,by omega⟩,_,rfl,_,rfl,_,rfl,_,_,rfl,rfl,.inr ⟨by omega,by omega⟩,_,_,rfl,rfl,
          _,rfl,_,rfl,_,rfl,_,_,rfl,rfl,.inl ⟨by omega,by omega⟩,_,_,rfl,rfl,_,rfl,_,rfl,_,rfl,_,rfl,rfl,rfl⟩
    · have hy:¬ 1 < n:=fun z=>hy (decide_eq_true z)
      have n1:n = 1:=by omega
      subst n1
      exact ⟨_,rfl,_,rfl,_,_,rfl,rfl,(show (0:Int) < q by omega),k hz _ (Int.emod_nonneg _ (by omega)) (Int.emod_lt_of_pos _ (by omega)) (hb.done q1)⟩
theorem sc_remainder_over:FnScope ["prime","a","b"] ["prime","a","b"] (defScope s_remainder_over):=⟨rfl,rfl,rfl,by decide +kernel,rfl,by decide +kernel,by decide +kernel⟩
theorem ok_remainder_over (T:Txt K mg t):FnOk P w K mg base (CXF P w) 2 t.f_remainder_over t.d_remainder_over ["prime","a","b"] (spRemOver t.C_NoOver):=by
  have S:=sc_remainder_over
  have G_remainder_back:=ok_remainder_back (P:=P) (w:=w) (base:=base) T
  refine T.F_remainder_over.okX S (fun vs H Q E h=>?_) (fun cdv A outer s H vs Q E hr h L=>?_)
  · obtain ⟨q,i,j,rfl,_⟩:=h
    rfl
  · obtain ⟨q,i,j,rfl,q1,q2,q3,i0,i1,j0,j1,kE,k⟩:=h
    refine ⟨_,(@pss_one _ _ _ (@ps_ret _ _ _ _ (@pe_op _ _ _ _ _ _ _ _ op_mod (@pe_op _ _ _ _ _ _ _ _ op_mul (pv 1) (pe_call G_remainder_back (hr.mono (by decide)) rfl T.mg_remainder_back T.F_remainder_back.kp T.b_remainder_back .nil (passF L) (@pa_mor _ _ _ _ _ (by rfl) (pv 0) (@pa_mor _ _ _ _ _ (by rfl) (pv 2) pa_nil)))) (pv 0)))),?_⟩
    exact ⟨_,rfl,_,rfl,_,rfl,q,j,rfl,q1,q2,q3,j0,j1,kE,fun hj r r0 r1 hr'=>⟨_,_,rfl,rfl,.inl ⟨by omega,by omega⟩,_,rfl,_,_,rfl,rfl,(show (0:Int) < q by omega),
      k hj _ (Int.emod_nonneg _ (by omega)) (Int.emod_lt_of_pos _ (by omega)) (rem_over q1 i0 i1 hr')⟩⟩
theorem sc_of:FnScope ["self","top","bottom"] ["self","top","bottom"] (defScope s_World_of):=⟨rfl,rfl,rfl,by decide +kernel,rfl,by decide +kernel,by decide +kernel⟩
theorem ok_of (T:Txt K mg t):FnOk P w K mg base (CXF P w) 3 t.f_World_of t.d_World_of ["self","top","bottom"] (spOf t.C_World t.C_NoOver):=by
  have S:=sc_of
  have G_ratio:=ok_ratio (P:=P) (w:=w) (base:=base) T
  have G_remainder_over:=ok_remainder_over (P:=P) (w:=w) (base:=base) T
  refine T.F_World_of.okX S (fun vs H Q E h=>?_) (fun cdv A outer s H vs Q E hr h L=>?_)
  · obtain ⟨z,q,a,b,rfl,_⟩:=h
    rfl
  · obtain ⟨z,q,a,b,rfl,⟨dx,hx⟩,hq,mb,kE,k⟩:=h
    refine ⟨_,(@pss_cons _ _ _ _ _ (@ps_if _ _ _ _ _ _ _ _ (@pt_cmpR _ _ _ _ _ _ _ _ op_isN (@pe_fld _ _ _ _ _ (pv 0) rfl) pe_non (nomark _)) (@pss_one _ _ _ (@ps_ret _ _ _ _ (pe_call G_ratio (hr.mono (by decide)) rfl T.mg_ratio T.F_ratio.kp T.b_ratio .nil (passF L) (@pa_mor _ _ _ _ _ (by rfl) (pv 1) (@pa_mor _ _ _ _ _ (by rfl) (pv 2) pa_nil))))) pss_nil)
      (@pss_one _ _ _ (@ps_ret _ _ _ _ (pe_call G_remainder_over (hr.mono (by decide)) rfl T.mg_remainder_over T.F_remainder_over.kp T.b_remainder_over .nil (passF L) (@pa_mor _ _ _ _ _ (by rfl) (@pe_fld _ _ _ _ _ (pv 0) rfl) (@pa_mor _ _ _ _ _ (by rfl) (@pe_op _ _ _ _ _ _ _ _ op_mod (pv 1) (@pe_fld _ _ _ _ _ (pv 0) rfl)) (@pa_mor _ _ _ _ _ (by rfl) (@pe_op _ _ _ _ _ _ _ _ op_mod (pv 2) (@pe_fld _ _ _ _ _ (pv 0) rfl)) pa_nil))))))),?_⟩
    refine ⟨_,rfl,z,t.C_World,dx,_,_,rfl,hx,T.cl_World,T.na_World_prime,lk_prime _,rfl,_,rfl,?_⟩
    rcases hq with rfl | ⟨q2,q3,q4⟩
    · rw [if_pos rfl]
      refine iteT ⟨_,rfl,_,rfl,a,b,rfl,mb,fun hb=>kE (by unfold NoOv; rw [if_pos rfl]; exact hb),fun hb r H' s' er=>k (fun hn=>hb (by unfold NoOv at hn; rw [if_pos rfl] at hn; exact hn)) _ H' s' (.inl ⟨rfl,r,rfl,er⟩)⟩
    · have hq:q ≠ 0:=by omega
      rw [if_neg hq] at hx ⊢
      have p0:(0:Int) < q:=by omega
      refine iteF ⟨_,rfl,z,t.C_World,dx,_,_,rfl,hx,T.cl_World,T.na_World_prime,lk_prime _,_,rfl,_,rfl,z,t.C_World,dx,_,_,rfl,hx,T.cl_World,T.na_World_prime,lk_prime _,_,_,rfl,rfl,p0,_,rfl,_,rfl,z,t.C_World,dx,_,_,rfl,hx,T.cl_World,T.na_World_prime,lk_prime _,_,_,rfl,rfl,p0,?_⟩
      have nv:NoOv q b ↔ b % q = 0:=by unfold NoOv; rw [if_neg hq]
      exact ⟨q,a % q,b % q,rfl,q2,q3,q4,Int.emod_nonneg _ hq,Int.emod_lt_of_pos _ p0,Int.emod_nonneg _ hq,Int.emod_lt_of_pos _ p0,fun hj=>kE (nv.mpr hj),fun hj r r0 r1 hr'=>k (fun z=>hj (nv.mp z)) _ H (Same.refl H) (.inr ⟨q2,r,rfl,r0,r1,hr'⟩)⟩
theorem sc_one_bottom:FnScope ["row","bottom","number"] ["row"] (defScope s_one_bottom):=⟨rfl,rfl,rfl,by decide +kernel,rfl,by decide +kernel,by decide +kernel⟩
theorem ok_one_bottom (T:Txt K mg t):FnOk P w K mg base CX0 2 t.f_one_bottom t.d_one_bottom ["row"] spWh2:=by
  have S:=sc_one_bottom
  have G_common_divisor:=ok_common_divisor (P:=P) (w:=w) (base:=base) T
  refine T.F_one_bottom.ok S (fun vs H Q E h=>?_) (fun cdv A outer s H vs Q E hr h=>?_)
  · obtain ⟨a,ps,B,D,rfl,_⟩:=h
    rfl
  · obtain ⟨a,ps,B,D,rfl,⟨vs,ea,hl,hn⟩,h100,okD,hD,hB,bD,k⟩:=h
    refine ⟨_,(@pss_cons _ _ _ _ _ (@ps_put _ _ 1 _ _ _ _ (by rfl) (by first | exact .inl rfl | exact .inr rfl | assumption) S.nd rfl (Or.inr rfl) pe_int)
      (@pss_cons _ _ _ _ _ (ps_for PassesOwn.never rfl (pi_list (pv 0)) (pg_name (i:=2) S.nd rfl (Or.inl rfl))
        (@pss_one _ _ _ (@ps_put _ _ 1 _ _ _ _ (by rfl) (by first | exact .inl rfl | exact .inr rfl | assumption) S.nd rfl (Or.inr rfl) (@pe_op _ _ _ _ _ _ _ _ op_mulM (@pe_op _ _ _ _ _ _ _ _ op_fdivP (pv 1) (pe_call G_common_divisor (hr.mono (by decide)) rfl T.mg_common_divisor T.F_common_divisor.kp T.b_common_divisor .nil pass0 (@pa_mor _ _ _ _ _ (by rfl) (pv 1) (@pa_mor _ _ _ _ _ (by rfl) (@pe_ix _ _ _ _ _ _ _ ix_tup (pv 2) pe_int (fun _ _=>rfl)) pa_nil)))) (@pe_ix _ _ _ _ _ _ _ ix_tup (pv 2) pe_int (fun _ _=>rfl))))))
      (@pss_one _ _ _ (@ps_ret _ _ _ _ (@pe_tup _ _ _ _ _ (@pa_mor _ _ _ _ _ (by rfl) (pe_comp (N:=["number","bottom"]) (ρ:=(fun σ=>[σ[1]?.join])) ⟨rfl,rfl,by decide +kernel,by decide +kernel,(List.forall_mem_cons.mpr ⟨rfl,(List.forall_mem_nil _)⟩),has_of (by rfl),rfl,by decide +kernel,rfl,(fun σ j v h=>match j,h with | 0,h=>⟨1,_,rfl,rfl,join_some h,Or.inr (Or.inl rfl),.inl rfl,.inl rfl⟩ | j + 1,h=>by cases h),(fun _ _=>rfl)⟩ rfl (pi_list (pv 0)) (fun s₃ H₃ fp=>.nil) (fun s₃ H₃ fp=>(@pe_op _ _ _ _ _ _ _ _ op_mulM (@pe_ix _ _ _ _ _ _ _ (ix_tupK (K:=K)) (pv 0) pe_int (fun _ _=>rfl)) (@pe_op _ _ _ _ _ _ _ _ op_fdivP (pv 1) (@pe_ix _ _ _ _ _ _ _ (ix_tupK (K:=K)) (pv 0) pe_int (fun _ _=>rfl)))))) (@pa_mor _ _ _ _ _ (by rfl) (pv 1) pa_nil))))))),?_⟩
    have D1:=okD.1 rfl
    have parts:∀ (i:Nat) (v:V),vs[i]? = some v→∃ (r:Addr) (x m:Int),v = .ref r∧H r = some (.tup [.int x,.int m])∧ps[i]? = some (x,m)∧Low x m∧x.natAbs ≤ B∧m ∣ D:=fun i v e=>by
      have hi:i < ps.length:=by rw [← hl]; exact (List.getElem?_eq_some_iff.mp e).1
      have ep:ps[i]? = some ps[i]:=by simp [hi]
      have h1:=hn i v ps[i] e ep
      have h2:=hD _ (List.getElem_mem hi)
      generalize ps[i] = p at h1 ep h2
      obtain ⟨x,m⟩:=p
      cases h1 with
      | frac er l bx bm=>exact ⟨_,x,m,rfl,er,ep,l,bx,h2⟩
      | rem h0 h1 h2=>omega
    have midV:∀ {y:Int},y ∣ D→Mid y:=fun h=>Mid.of150 (Nat.le_trans (dvd_bd h (by omega)) bD)
    refine ⟨_,rfl,a,rfl,⟨_,.of ea⟩,?_⟩
    refine for_list (K:=K) (a:=a) (xs:=vs) (fun i σ Hc=>Hc = H∧∃ (b:Int) (v2:Option V),σ = [some (.ref a),some (.int b),v2]∧1 ≤ b∧b ∣ D∧∀ (j:Nat) (p:Int × Int),j < i→ps[j]? = some p→p.2 ∣ b)
      ⟨rfl,1,none,rfl,by decide,Int.one_dvd D,fun j p hj=>by omega⟩ (fun i σ Hc _ ⟨z,_⟩=>by rw [z]; exact .of ea) ?_ ?_
    · rintro i v σ Hc hi ⟨rfl,b,v2,rfl,b1,bb,hd⟩
      obtain ⟨r,x,m,rfl,er,ep,l,bx,bm⟩:=parts i v hi
      have m1:=l.pos
      obtain ⟨s1,s2,s3,s4⟩:=lcm_step b1 m1
      have gp:=gcd_pos (a:=b) (b:=m) (by omega)
      have gm:Mid (Int.gcd b m:Int):=midV (Int.dvd_trans (Int.gcd_dvd_right ..) bm)
      refine ⟨_,rfl,_,rfl,_,rfl,r,_,_,_,rfl,rfl,.of er,rfl,b,m,rfl,midV bm,_,_,rfl,rfl,⟨by omega,gm⟩,_,rfl,r,_,_,_,rfl,rfl,.of er,rfl,_,_,rfl,rfl,⟨?_,midV bm⟩,?_⟩
      · exact Nat.lt_of_le_of_lt (Int.natAbs_ediv_le_natAbs ..) (midV bb)
      · refine ⟨rfl,_,_,rfl,s1,lcm_dvd b1 m1 bb bm,fun j p hj hp=>?_⟩
        by_cases z:j = i
        · subst z
          rw [ep] at hp
          cases hp
          exact s2
        · exact Int.dvd_trans (hd j p (by omega) hp) s3
    · rintro σ Hc ⟨rfl,b,v2,rfl,b1,bb,hd⟩
      rw [hl] at hd
      have mb:Mid b:=midV bb
      dsimp only
      refine ret_of (tup1_of (comp_ofN (xs:=vs) (fun R h=>⟨_,rfl,a,rfl,⟨_,.of ea⟩,h _ _ (Same.refl _) (jseq_list (.of ea))⟩) (by rw [hl]; exact small1000 (by omega)) (fun _ i y _=>∃ (p:Int × Int),ps[i]? = some p∧y = .int (p.1 * (b / p.2))) (fun _ _ _ _ _ _ h _ _=>h) ?_ ?_))
      · intro D' i v hi Hd R sd _ kd
        obtain ⟨r,x,m,rfl,er,ep,l,bx,bm⟩:=parts i v hi
        have m1:=l.pos
        have hbm:Mid (b / m):=Nat.lt_of_le_of_lt (Int.natAbs_ediv_le_natAbs ..) mb
        exact ⟨_,rfl,r,_,_,_,rfl,rfl,.of (sd _ _ er),rfl,_,rfl,_,rfl,r,_,_,_,rfl,rfl,.of (sd _ _ er),rfl,_,_,rfl,rfl,⟨by omega,midV bm⟩,_,_,rfl,rfl,⟨Mid.of150 (Nat.le_trans bx hB),hbm⟩,kd _ Hd (Same.refl _) ⟨(x,m),ep,rfl⟩⟩
      · intro D' ys Hd nD sd hys hP eD
        have ey:ys = (ps.map fun p=>p.1 * (b / p.2)).map V.int:=vals_of (by rw [hys,hl,List.length_map]) fun i v e=>by
          obtain ⟨p,e1,e2⟩:=hP i v e
          exact ⟨p.1 * (b / p.2),by rw [List.getElem?_map,e1]; rfl,e2⟩
        refine ⟨_,rfl,by show 2 ≤ sizeLine; decide,fun r hr'=>?_⟩
        refine k _ _ (ps.map fun p=>p.1 * (b / p.2)) b (sd.trans (same_upd hr')) ⟨r,D',rfl,upd_same,same_upd hr' _ _ (by rw [eD,ey]),nD⟩ ⟨by rw [List.length_map],⟨fun _=>b1,fun z=>absurd rfl z⟩,bb,fun i hi=>?_⟩
        have hi2:i < vs.length:=by omega
        have e1:(ps.map fun p=>p.1 * (b / p.2)).getD i 0 = ps[i].1 * (b / ps[i].2):=by rw [getD_at (by rw [List.length_map]; exact hi),List.getElem_map]
        rw [e1,getD_at hi]
        obtain ⟨r',x,m,_,_,ep,l,bx,bm⟩:=parts i vs[i] (by simp [hi2])
        have ep2:ps[i] = (x,m):=by
          rw [show ps[i]? = some ps[i] by simp [hi]] at ep
          exact Option.some.inj ep
        rw [ep2]
        dsimp only
        have m1:=l.pos
        obtain ⟨c,ec⟩:=hd i (x,m) hi (by rw [← ep2]; simp [hi])
        dsimp only at ec
        have eq:b / m = c:=by rw [ec]; exact Int.mul_ediv_cancel_left _ (by omega)
        refine ⟨by rw [eq,ec]; grind,?_⟩
        rw [Int.natAbs_mul]
        exact Nat.mul_le_mul bx (Nat.le_trans (Int.natAbs_ediv_le_natAbs ..) (dvd_bd bb (by omega)))
theorem sc_as_wholes:FnScope ["self","row"] ["self","row"] (defScope s_World_as_wholes):=⟨rfl,rfl,rfl,by decide +kernel,rfl,by decide +kernel,by decide +kernel⟩
theorem ok_as_wholes (T:Txt K mg t):FnOk P w K mg base CX0 3 t.f_World_as_wholes t.d_World_as_wholes ["self","row"] (spAsW2 t.C_World):=by
  have S:=sc_as_wholes
  have G_one_bottom:=ok_one_bottom (P:=P) (w:=w) (base:=base) T
  refine T.F_World_as_wholes.ok S (fun vs H Q E h=>?_) (fun cdv A outer s H vs Q E hr h=>?_)
  · obtain ⟨z,a,q,ps,B,D,rfl,_⟩:=h
    rfl
  · obtain ⟨z,a,q,ps,B,D,rfl,⟨dx,hx⟩,hq,hrow,h100,okD,hD,hB,b1,bD,k⟩:=h
    refine ⟨_,(@pss_cons _ _ _ _ _ (@ps_if _ _ _ _ _ _ _ _ (@pt_cmpR _ _ _ _ _ _ _ _ op_isN (@pe_fld _ _ _ _ _ (pv 0) rfl) pe_non (nomark _)) (@pss_one _ _ _ (@ps_ret _ _ _ _ (pe_call G_one_bottom (hr.mono (by decide)) rfl T.mg_one_bottom T.F_one_bottom.kp T.b_one_bottom .nil pass0 (@pa_mor _ _ _ _ _ (by rfl) (pv 1) pa_nil)))) pss_nil)
      (@pss_one _ _ _ (@ps_ret _ _ _ _ (@pe_tup _ _ _ _ _ (@pa_mor _ _ _ _ _ (by rfl) (pe_callTy call_list_of rfl T.n_list boot_list (@pa_mor _ _ _ _ _ (by rfl) (pv 1) pa_nil)) (@pa_mor _ _ _ _ _ (by rfl) pe_int pa_nil)))))),?_⟩
    refine ⟨_,rfl,z,t.C_World,dx,_,_,rfl,hx,T.cl_World,T.na_World_prime,lk_prime _,rfl,_,rfl,?_⟩
    rcases hq with rfl | ⟨q2,q3,q4⟩
    · rw [if_pos rfl]
      exact iteT ⟨_,rfl,a,ps,B,D,rfl,hrow,h100,okD,hD,hB,bD,k⟩
    · have hq:q ≠ 0:=by omega
      rw [if_neg hq] at hx ⊢
      obtain ⟨vs,ea,hl,hn⟩:=hrow
      have parts:∀ (i:Nat) (v:V),vs[i]? = some v→∃ x:Int,v = .int x∧ps[i]? = some (x,1)∧0 ≤ x∧x < q:=fun i v e=>by
        have hi:i < ps.length:=by rw [← hl]; exact (List.getElem?_eq_some_iff.mp e).1
        have ep:ps[i]? = some ps[i]:=by simp [hi]
        have h1:=hn i v ps[i] e ep
        generalize ps[i] = p at h1 ep
        obtain ⟨x,m⟩:=p
        cases h1 with
        | frac er l bx bm=>exact absurd rfl hq
        | rem h0 h1 h2=>exact ⟨x,rfl,ep,h0,h1⟩
      have ey:vs = (ps.map fun p=>p.1).map V.int:=vals_of (by rw [hl,List.length_map]) fun i v e=>by
        obtain ⟨x,e1,e2,_⟩:=parts i v e
        exact ⟨x,by rw [List.getElem?_map,e2]; rfl,e1⟩
      have eD:=okD.2 hq
      refine iteF ⟨_,rfl,a,vs,rfl,.inl (.of ea),fun l nl=>⟨by show 2 ≤ sizeLine; decide,fun r hr'=>?_⟩⟩
      refine k _ _ (ps.map fun p=>p.1) 1 ((same_upd nl).trans (same_upd hr')) ⟨r,l,rfl,upd_same,same_upd hr' _ _ (by rw [upd_same,ey]),nl⟩ ⟨by rw [List.length_map],BotOk.one,Int.one_dvd D,fun i hi=>?_⟩
      have hi2:i < vs.length:=by omega
      rw [getD_at (by rw [List.length_map]; exact hi),List.getElem_map,getD_at hi]
      obtain ⟨x,_,ep,x0,x1⟩:=parts i vs[i] (by simp [hi2])
      have ep2:ps[i] = (x,1):=by
        rw [show ps[i]? = some ps[i] by simp [hi]] at ep
        exact Option.some.inj ep
      rw [ep2]
      refine ⟨rfl,?_⟩
      rw [eD]
      show x.natAbs ≤ B * 1
      omega
def spNums53 (C:Addr):Sp:=fun vs H Q _=>∃ (z a:Addr) (q c b:Int) (ts:List Int) (B:Nat),vs = [.ref z,.ref a,.int c,.int b]∧WorldAt C H z q∧WheelN q∧H a = some (.lst (ts.map V.int))∧ts.length ≤ 500∧¬ q ∣ b∧Mid b∧Mid c∧(∀ t ∈ ts,Mid t)∧b.natAbs ≤ B∧(∀ t ∈ ts,(t * c).natAbs ≤ B)∧
  ∀ (r:Addr) (ps:List (Int × Int)) (H':Hp),Same H H'→H r = none→RowG B H' q r ps→ps.length = ts.length→(∀ i,i < ts.length→Weq q (ps.getD i o1) (ts.getD i 0 * c,b))→Q (.ref r) H'
theorem sc_numbers_of:FnScope ["world","wholes","times","bottom"] ["world","wholes","times","bottom"] (defScope s_numbers_of):=⟨rfl,rfl,rfl,by decide +kernel,rfl,by decide +kernel,by decide +kernel⟩
theorem ok_numbers_of (T:Txt K mg t):FnOk P w K mg base CX0 4 t.f_numbers_of t.d_numbers_of ["world","wholes","times","bottom"] (spNums53 t.C_World):=by
  have S:=sc_numbers_of
  have G_World_of:=ok_of (P:=P) (w:=w) (base:=base) T
  refine T.F_numbers_of.ok S (fun vs H Q E h=>?_) (fun cdv A outer s H vs Q E hr h=>?_)
  · obtain ⟨z,a,q,c,b,ts,B,rfl,_⟩:=h
    rfl
  · obtain ⟨z,a,q,c,b,ts,B,rfl,⟨dz,hd⟩,hq,ea,l500,nb,mb,mc,mt,bb,bt,k⟩:=h
    refine ⟨_,(@pss_one _ _ _ (@ps_ret _ _ _ _ (pe_comp (N:=["whole","bottom","world","times"]) (ρ:=(fun σ=>[σ[3]?.join,σ[0]?.join,σ[2]?.join])) ⟨rfl,rfl,by decide +kernel,by decide +kernel,(List.forall_mem_cons.mpr ⟨rfl,(List.forall_mem_cons.mpr ⟨rfl,(List.forall_mem_cons.mpr ⟨rfl,(List.forall_mem_nil _)⟩)⟩)⟩),has_of (by rfl),rfl,by decide +kernel,rfl,(fun σ j v h=>match j,h with | 0,h=>⟨3,_,rfl,rfl,join_some h,Or.inr (Or.inl rfl),.inl rfl,.inl rfl⟩ | 1,h=>⟨0,_,rfl,rfl,join_some h,Or.inr (Or.inl rfl),.inl rfl,.inl rfl⟩ | 2,h=>⟨2,_,rfl,rfl,join_some h,Or.inr (Or.inl rfl),.inl rfl,.inl rfl⟩ | j + 3,h=>by cases h),(fun _ _=>rfl)⟩ rfl (pi_list (pv 1)) (fun s₃ H₃ fp=>.nil) (fun s₃ H₃ fp=>(pe_meth (pv 2) T.cl_World T.m_World_of G_World_of (hr.mono (by decide)) T.b_World_of .nil passN (@pa_mor _ _ _ _ _ (by rfl) (@pe_op _ _ _ _ _ _ _ _ op_mulM (pv 0) (pv 3)) (@pa_mor _ _ _ _ _ (by rfl) (pv 1) pa_nil))))))),?_⟩
    refine ret_of (comp_ofN (xs:=ts.map V.int) (fun R h=>⟨_,rfl,a,rfl,⟨_,.of ea⟩,h _ _ (Same.refl _) (jseq_list (.of ea))⟩) (by rw [List.length_map]; exact small1000 (by omega)) (fun _ i y Hx=>∃ p:Int × Int,NumAt B Hx q y p.1 p.2∧Weq q p (ts.getD i 0 * c,b)) (fun _ _ _ _ _ _ ⟨p,h0,h1⟩ e f=>⟨p,h0.far e f,h1⟩) ?_ ?_)
    · intro D i v hi Hc R sc _ kc
      have hi':i < ts.length:=by
        have:=(List.getElem?_eq_some_iff.mp hi).1
        simpa using this
      have ev:v = .int ts[i]:=by
        rw [List.getElem?_map] at hi
        simp [hi'] at hi
        exact hi.symm
      subst ev
      have tm:=List.getElem_mem hi'
      refine ⟨_,rfl,z,dz,_,rfl,sc _ _ hd,lk_no (by decide +kernel),_,rfl,_,rfl,_,_,rfl,rfl,⟨mt _ tm,mc⟩,_,rfl,z,q,ts[i] * c,b,rfl,⟨dz,sc _ _ hd⟩,hq,mb,fun h=>absurd h (no_ov nb),fun _ v' H' s' ho=>kc v' H' s' ?_⟩
      rw [getD_at hi']
      exact of_any ho hq nb (bt _ tm) bb
    · intro D ys Hc nD sc hys hP eD
      obtain ⟨ps,lp,hp⟩:=pick (R:=fun i y p=>NumAt B Hc q y (Prod.fst p) (Prod.snd p)∧Weq q p (ts.getD i 0 * c,b)) hP
      rw [List.length_map] at hys
      refine k D ps Hc sc nD ⟨ys,eD,lp.symm,fun i v p h1 h2=>(hp i v p h1 h2).1⟩ (by omega) fun i hi=>?_
      have i1:i < ys.length:=by omega
      have i2:i < ps.length:=by omega
      rw [getD_at i2]
      exact (hp i ys[i] ps[i] (by simp [i1]) (by simp [i2])).2
theorem sc_evenly:FnScope ["self","row","by","back"] ["self","row","by"] (defScope s_World_evenly):=⟨rfl,rfl,rfl,by decide +kernel,rfl,by decide +kernel,by decide +kernel⟩
theorem ok_evenly (T:Txt K mg t):FnOk P w K mg base CX0 4 t.f_World_evenly t.d_World_evenly ["self","row","by"] (spEvenG t.C_World):=by
  have S:=sc_evenly
  have G_World_of:=ok_of (P:=P) (w:=w) (base:=base) T
  refine T.F_World_evenly.ok S (fun vs H Q E h=>?_) (fun cdv A outer s H vs Q E hr h=>?_)
  · obtain ⟨z,a,q,ts,b,u,rfl,_⟩:=h
    rfl
  · obtain ⟨z,a,q,ts,b,u,rfl,⟨dx,hx⟩,hq,ea,l500,hm,mb,nb,hu',k⟩:=h
    refine ⟨_,(@pss_cons _ _ _ _ _ (@ps_if _ _ _ _ _ _ _ _ (@pt_cmpR _ _ _ _ _ _ _ _ op_isN (@pe_fld _ _ _ _ _ (pv 0) rfl) pe_non (nomark _)) (@pss_one _ _ _ (@ps_ret _ _ _ _ (pe_comp (N:=["number","by"]) (ρ:=(fun σ=>[σ[2]?.join])) ⟨rfl,rfl,by decide +kernel,by decide +kernel,(List.forall_mem_cons.mpr ⟨rfl,(List.forall_mem_nil _)⟩),has_of (by rfl),rfl,by decide +kernel,rfl,(fun σ j v h=>match j,h with | 0,h=>⟨2,_,rfl,rfl,join_some h,Or.inr (Or.inl rfl),.inl rfl,.inl rfl⟩ | j + 1,h=>by cases h),(fun _ _=>rfl)⟩ rfl (pi_list (pv 1)) (fun s₃ H₃ fp=>.nil) (fun s₃ H₃ fp=>(@pe_op _ _ _ _ _ _ _ _ op_fdivM (pv 0) (pv 1)))))) pss_nil)
      (@pss_cons _ _ _ _ _ (@ps_put _ _ 3 _ _ _ _ (by rfl) (by first | exact .inl rfl | exact .inr rfl | assumption) S.nd rfl (Or.inr rfl) (pe_meth (pv 0) T.cl_World T.m_World_of G_World_of (hr.mono (by decide)) T.b_World_of .nil passN (@pa_mor _ _ _ _ _ (by rfl) pe_int (@pa_mor _ _ _ _ _ (by rfl) (pv 2) pa_nil))))
      (@pss_one _ _ _ (@ps_ret _ _ _ _ (pe_comp (N:=["number","back","self"]) (ρ:=(fun σ=>[σ[3]?.join,σ[0]?.join])) ⟨rfl,rfl,by decide +kernel,by decide +kernel,(List.forall_mem_cons.mpr ⟨rfl,(List.forall_mem_cons.mpr ⟨rfl,(List.forall_mem_nil _)⟩)⟩),has_of (by rfl),rfl,by decide +kernel,rfl,(fun σ j v h=>match j,h with | 0,h=>⟨3,_,rfl,rfl,join_some h,Or.inr (Or.inl rfl),.inl rfl,.inl rfl⟩ | 1,h=>⟨0,_,rfl,rfl,join_some h,Or.inr (Or.inl rfl),.inl rfl,.inl rfl⟩ | j + 2,h=>by cases h),(fun _ _=>rfl)⟩ rfl (pi_list (pv 1)) (fun s₃ H₃ fp=>.nil) (fun s₃ H₃ fp=>(@pe_op _ _ _ _ _ _ _ _ op_mod (@pe_op _ _ _ _ _ _ _ _ op_mulM (pv 0) (pv 1)) (pe_fldK (K:=K) (pv 2) rfl)))))))),?_⟩
    refine ⟨_,rfl,z,t.C_World,dx,_,_,rfl,hx,T.cl_World,T.na_World_prime,lk_prime _,rfl,_,rfl,?_⟩
    rcases id hq with rfl | ⟨q2,q3,q4⟩
    · rw [if_pos rfl]
      have b0:b ≠ 0:=ne_of_nd nb
      refine iteT (ret_of (comp_int (ts:=ts) (fun x=>x.fdiv b) l500 (fun R h=>⟨_,rfl,a,rfl,⟨_,.of ea⟩,h _ _ (Same.refl _) (jseq_list (.of ea))⟩) ?_ ?_))
      · intro x hxm Hc R sc kc
        exact ⟨_,rfl,_,rfl,_,_,rfl,rfl,⟨b0,mb⟩,kc Hc (Same.refl _)⟩
      · refine fun D Hc nD sc eD=>k D Hc _ sc nD eD (by rw [List.length_map]) (fun i hi=>?_) fun z=>absurd rfl z
        have e:=cg_zero (hu' i hi)
        rw [getD_at hi] at e
        rw [getD_at (by rw [List.length_map]; exact hi),List.getElem_map,e,Int.mul_fdiv_cancel_left _ b0]
        exact Cg.refl _
    · have hq0:q ≠ 0:=by omega
      rw [if_neg hq0] at hx ⊢
      have hz:WorldAt t.C_World H z q:=⟨dx,by rw [if_neg hq0]; exact hx⟩
      refine iteF ⟨_,rfl,z,dx,_,rfl,hx,lk_no (by decide +kernel),_,rfl,z,q,1,b,rfl,hz,hq,mb,fun h=>absurd h (no_ov nb),fun _ v H1 s1 ho=>?_⟩
      rcases ho with ⟨e,_⟩ | ⟨_,r,rfl,r0,r1,er⟩
      · exact absurd e hq0
      have mr:Mid r:=Mid.of_lt (by omega) (by omega)
      dsimp only [gName]
      refine ret_of (comp_int (ts:=ts) (fun x=>x * r % q) l500 (fun R h=>⟨_,rfl,a,rfl,⟨_,.of (s1 _ _ ea)⟩,h _ _ (Same.refl _) (jseq_list (.of (s1 _ _ ea)))⟩) ?_ ?_)
      · intro x hxm Hc R sc kc
        exact ⟨_,rfl,_,rfl,_,_,rfl,rfl,⟨hm x hxm,mr⟩,_,rfl,z,t.C_World,dx,_,_,rfl,sc _ _ (s1 _ _ hx),T.cl_World,T.na_World_prime,lk_prime _,_,_,rfl,rfl,(show (0:Int) < q by omega),kc Hc (Same.refl _)⟩
      · refine fun D Hc nD sc eD=>k D Hc _ (s1.trans sc) (none_of s1 nD) eD (by rw [List.length_map]) (fun i hi=>?_) fun _ x hxm=>?_
        · have e:=hu' i hi
          rw [getD_at hi] at e
          rw [getD_at (by rw [List.length_map]; exact hi),List.getElem_map]
          have e1:Cg q (r * b) 1:=by
            refine Cg.trans (((cg_mod q b).symm.mulL r).trans (cg_mod q _).symm) ?_
            rw [er]
            exact cg_mod q 1
          refine (cg_mod q _).trans ((e.mulR r).trans ?_)
          rw [show b * u i * r = r * b * u i by grind]
          refine (e1.mulR (u i)).trans ?_
          rw [Int.one_mul]
          exact Cg.refl _
        · obtain ⟨y,_,rfl⟩:=List.mem_map.mp hxm
          exact ⟨Int.emod_nonneg _ hq0,Int.emod_lt_of_pos _ (by omega)⟩
theorem sc_shifted_size:FnScope ["row"] ["row"] (defScope s_shifted_size):=⟨rfl,rfl,rfl,by decide +kernel,rfl,by decide +kernel,by decide +kernel⟩
theorem ok_shifted_size (T:Txt K mg t):FnOk P w K mg base (CXF P w) 1 t.f_shifted_size t.d_shifted_size ["row"] (spShSize t.C_NoFit):=by
  have S:=sc_shifted_size
  obtain ⟨uM,hM,rM⟩:=T.mg_MOST
  refine T.F_shifted_size.okX S (fun vs H Q E h=>?_) (fun cdv A outer s H vs Q E hr h L=>?_)
  · obtain ⟨a,xs,rfl,_⟩:=h
    rfl
  · obtain ⟨a,xs,rfl,ea,l1000,kE,k⟩:=h
    refine ⟨_,(@pss_cons _ _ _ _ _ (@ps_if _ _ _ _ _ _ _ _ (PW.pt (@pw_or _ _ _ _ _ _ _ (@pt_cmpR _ _ _ _ _ _ _ _ op_eq (@pe_op _ _ _ _ _ _ _ _ op_mod (pe_callB call_len_seq rfl T.n_len boot_len (@pa_mor _ _ _ _ _ (by rfl) (pv 0) pa_nil)) pe_int) pe_int (nomark _)) (@pw_or1 _ _ _ _ (@pt_cmpR _ _ _ _ _ _ _ _ op_ge (pe_callB call_len_seq rfl T.n_len boot_len (@pa_mor _ _ _ _ _ (by rfl) (pv 0) pa_nil)) (@pe_op _ _ _ _ _ _ _ _ op_mul pe_int (pe_glob (v:=.int 40) rfl hM rM)) (nomark _))))) (@pss_one _ _ _ (ps_raise L rfl PySem.F.excBase_ValueError T.x_NoFit rfl T.mg_NoFit (@pa_mor _ _ _ _ _ (by rfl) pe_str pa_nil))) pss_nil)
      (@pss_one _ _ _ (@ps_ret _ _ _ _ (@pe_op _ _ _ _ _ _ _ _ op_fdiv (@pe_op _ _ _ _ _ _ _ _ op_add (pe_callB call_len_seq rfl T.n_len boot_len (@pa_mor _ _ _ _ _ (by rfl) (pv 0) pa_nil)) pe_int) pe_int)))),?_⟩
    refine ⟨_,rfl,a,xs,rfl,.inl (.of ea),_,_,rfl,rfl,(show (0:Int) < 2 by decide),rfl,_,rfl,ite2 (fun h=>?_) (fun h=>?_)⟩
    · have e:((xs.length:Int) % 2) = 0:=by simpa using h
      exact iteT ⟨by show 1 ≤ sizeLine; decide,kE (.inl (by omega))⟩
    · have e:¬ ((xs.length:Int) % 2) = 0:=by simpa using h
      refine ⟨_,rfl,a,xs,rfl,.inl (.of ea),_,_,rfl,rfl,.inl ⟨by decide,by decide⟩,_,_,rfl,rfl,_,rfl,ite2 (fun h2=>?_) (fun h2=>?_)⟩
      · have e2:(2 * 40:Int) ≤ (xs.length:Int):=of_decide_eq_true h2
        exact ⟨by show 1 ≤ sizeLine; decide,kE (.inr (by omega))⟩
      · have e2:¬ (2 * 40:Int) ≤ (xs.length:Int):=fun z=>h2 (decide_eq_true z)
        dsimp only [tNext]
        refine ⟨_,rfl,a,xs,rfl,.inl (.of ea),_,_,rfl,rfl,_,_,rfl,rfl,⟨by decide,by decide⟩,?_⟩
        have z:=k (fun h=>by rcases h with h | h <;> omega)
        show Q (.int (((xs.length:Int) + 1) / 2)) H
        rw [show ((xs.length:Int) + 1) / 2 = (((xs.length + 1) / 2:Nat):Int) by omega]
        exact z
theorem sc_shifted_row:FnScope ["row","i","many","start"] ["row","i","many"] (defScope s_shifted_row):=⟨rfl,rfl,rfl,by decide +kernel,rfl,by decide +kernel,by decide +kernel⟩
theorem ok_shifted_row (T:Txt K mg t):FnOk P w K mg base CX0 1 t.f_shifted_row t.d_shifted_row ["row","i","many"] spShRowI:=by
  have S:=sc_shifted_row
  refine T.F_shifted_row.ok S (fun vs H Q E h=>?_) (fun cdv A outer s H vs Q E hr h=>?_)
  · obtain ⟨a,ts,i,n,rfl,_⟩:=h
    rfl
  · obtain ⟨a,ts,i,n,rfl,ea,l100,n100,i1,i2,hi,k⟩:=h
    refine ⟨_,(@pss_cons _ _ _ _ _ (@ps_put _ _ 3 _ _ _ _ (by rfl) (by first | exact .inl rfl | exact .inr rfl | assumption) S.nd rfl (Or.inr rfl) (@pe_op _ _ _ _ _ _ _ _ op_add (@pe_op _ _ _ _ _ _ _ _ op_fdiv (pe_callB call_len_seq rfl T.n_len boot_len (@pa_mor _ _ _ _ _ (by rfl) (pv 0) pa_nil)) pe_int) (pv 1)))
      (@pss_one _ _ _ (@ps_ret _ _ _ _ (pe_comp (N:=["j","row","start"]) (ρ:=(fun σ=>[σ[0]?.join,σ[3]?.join])) ⟨rfl,rfl,by decide +kernel,by decide +kernel,(List.forall_mem_cons.mpr ⟨rfl,(List.forall_mem_cons.mpr ⟨rfl,(List.forall_mem_nil _)⟩)⟩),has_of (by rfl),rfl,by decide +kernel,rfl,(fun σ j v h=>match j,h with | 0,h=>⟨0,_,rfl,rfl,join_some h,Or.inr (Or.inl rfl),.inl rfl,.inl rfl⟩ | 1,h=>⟨3,_,rfl,rfl,join_some h,Or.inr (Or.inl rfl),.inl rfl,.inl rfl⟩ | j + 2,h=>by cases h),(fun _ _=>rfl)⟩ rfl (pi_range1 rfl T.n_range (@pa_mor _ _ _ _ _ (by rfl) (pv 2) pa_nil)) (fun s₃ H₃ fp=>.nil) (fun s₃ H₃ fp=>(@pe_ix _ _ _ _ _ _ _ (ix_listK (K:=K)) (pv 1) (@pe_op _ _ _ _ _ _ _ _ op_sub (pv 2) (pv 0)) (fun _ _=>rfl))))))),?_⟩
    refine ⟨_,rfl,a,_,rfl,.inl (.of ea),_,_,rfl,rfl,⟨by decide,by decide⟩,_,rfl,_,_,rfl,rfl,?_⟩
    dsimp only [gName]
    refine ret_of (comp_ofN (xs:=(List.range n).map fun i:Nat=>V.int (0 + (i:Int))) (fun R h=>⟨_,rfl,(n:Int),rfl,by omega,by omega,h _ _ (Same.refl _) (by rw [Int.toNat_natCast]; exact jseq_rng)⟩) (by rw [List.length_map,List.length_range]; exact small1000 (by omega)) (fun _ j y Hx=>y = .int (midI ts (i - (j:Int)))) (fun _ _ _ _ _ _ h1 e f=>h1) ?_ ?_)
    · intro D j v hj Hc R sc _ kc
      obtain ⟨hj',rfl⟩:=rng_at hj
      have hx:=hi j hj'
      refine ⟨_,rfl,_,rfl,_,rfl,_,_,rfl,rfl,a,_,_,.int (midI ts (i - (j:Int))),rfl,rfl,.of (sc _ _ ea),?_,kc _ Hc (Same.refl _) rfl⟩
      show atI (ts.map V.int) (((ts.map V.int).length:Int) / 2 + i - (j:Int)) = _
      rw [List.length_map,show ((ts.length:Int) / 2 + i - (j:Int)) = ((((ts.length / 2:Nat):Int) + (i - (j:Int))).toNat:Int) by omega]
      refine atI_nat ?_
      have hx2:(((ts.length / 2:Nat):Int) + (i - (j:Int))).toNat < ts.length:=by omega
      unfold midI
      rw [if_pos (by omega),getD_at hx2,List.getElem?_map]
      simp [hx2]
    · intro D ys Hc nD sc lys hP eD
      rw [List.length_map,List.length_range] at lys
      have ev:ys = ((List.range n).map fun (j:Nat)=>midI ts (i - j)).map V.int:=vals_of (by simpa using lys) fun j v hv=>by
        have hj:j < n:=by rw [← lys]; exact (List.getElem?_eq_some_iff.mp hv).1
        exact ⟨midI ts (i - (j:Int)),by rw [List.getElem?_map]; simp [hj],hP j v hv⟩
      subst ev
      exact k D Hc sc nD eD
theorem sc_whole_sum:FnScope ["one","other"] ["one","other"] (defScope s_whole_sum):=⟨rfl,rfl,rfl,by decide +kernel,rfl,by decide +kernel,by decide +kernel⟩
theorem ok_whole_sum (T:Txt K mg t):FnOk P w K mg base CX0 1 t.f_whole_sum t.d_whole_sum ["one","other"] spWSum:=by
  have S:=sc_whole_sum
  refine T.F_whole_sum.ok S (fun vs H Q E h=>?_) (fun cdv A outer s H vs Q E hr h=>?_)
  · obtain ⟨a,b,ts,us,rfl,_⟩:=h
    rfl
  · obtain ⟨a,b,ts,us,rfl,ea,eb,hl,l100,mt,mu,k⟩:=h
    refine ⟨_,(@pss_one _ _ _ (@ps_ret _ _ _ _ (pe_callB (call_sum (K:=K) rfl) rfl T.n_sum boot_sum (@pa_mor _ _ _ _ _ (by rfl) (pe_comp2 (N:=["a","b"]) (ρ:=(fun σ=>[])) ⟨rfl,rfl,by decide +kernel,by decide +kernel,(List.forall_mem_nil _),has_of (by rfl),rfl,rfl,by decide +kernel,rfl,rfl,(fun σ j v h=>match j,h with | j,h=>by cases h),(fun _ _=>rfl)⟩ rfl (pi_zip rfl T.n_zip (@pa_mor _ _ _ _ _ (by rfl) (pv 0) (@pa_mor _ _ _ _ _ (by rfl) (pv 1) pa_nil))) (fun s₃ H₃ fp=>.nil) (fun s₃ H₃ fp=>(@pe_op _ _ _ _ _ _ _ _ op_mulM (pv 0) (pv 1)))) pa_nil)))),?_⟩
    have hlen:((ts.map V.int).zip (us.map V.int)).length = min ts.length us.length:=by simp
    refine ret_of (cb_of (comp2_of (zs:=(ts.map V.int).zip (us.map V.int)) (fun R h=>⟨_,rfl,_,rfl,a,b,rfl,⟨_,.of ea⟩,⟨_,.of eb⟩,h _ _ (Same.refl _) (jseq_zip (.of ea) (.of eb))⟩) (by rw [hlen]; exact small1000 (by omega)) (fun i v=>∃ w:Int,(List.zipWith (· * ·) ts us)[i]? = some w∧v = .int w) ?_ ?_))
    · intro i x y hxy Hc R sc kc
      obtain ⟨t0,u0,rfl,rfl,a1,a2⟩:=zip_ints hxy
      exact ⟨_,rfl,_,rfl,_,_,rfl,rfl,⟨mt t0 (List.mem_of_getElem? a1),mu u0 (List.mem_of_getElem? a2)⟩,kc _ Hc (Same.refl _) ⟨t0 * u0,by rw [List.getElem?_zipWith,a1,a2],rfl⟩⟩
    · intro D vs Hc sc hl' hP eD
      have ev:vs = (List.zipWith (· * ·) ts us).map V.int:=vals_of (by rw [hl',hlen,List.length_zipWith]) hP
      subst ev
      refine ⟨D,_,rfl,.of eD,?_⟩
      have z:=k Hc sc
      rw [← dot_sum us.length ts us hl rfl] at z
      exact z
theorem sc_next_pair:FnScope ["world","row","pair","last","many","much","down","up","front","back","mended_front","mended_back"] ["world","row","pair","last"] (defScope s_next_pair):=⟨rfl,rfl,rfl,by decide +kernel,rfl,by decide +kernel,by decide +kernel⟩
theorem ok_next_pair (T:Txt K mg t):FnOk P w K mg base CX0 5 t.f_next_pair t.d_next_pair ["world","row","pair","last"] (spNxP t.C_World):=by
  have S:=sc_next_pair
  have G_World_evenly:=ok_evenly (P:=P) (w:=w) (base:=base) T
  have G_whole_sum:=ok_whole_sum (P:=P) (w:=w) (base:=base) T
  have G_shifted_row:=ok_shifted_row (P:=P) (w:=w) (base:=base) T
  refine T.F_next_pair.ok S (fun vs H Q E h=>?_) (fun cdv A outer s H vs Q E hr h=>?_)
  · obtain ⟨z,a,p,f,b,q,ts,fs,bs,much,last,G,M,h,k,rfl,_⟩:=h
    rfl
  · obtain ⟨z,a,p,f,b,q,ts,fs,bs,much,last,G,M,h,k,rfl,⟨dz,hd⟩,hq,ea,lt,ep,ef,eb,I,B,kh,nm,kk⟩:=h
    refine ⟨_,(@pss_cons _ _ _ _ _ (@ps_put _ _ 4 _ _ _ _ (by rfl) (by first | exact .inl rfl | exact .inr rfl | assumption) S.nd rfl (Or.inl rfl) (pe_callB call_len_seq rfl T.n_len boot_len (@pa_mor _ _ _ _ _ (by rfl) (@pe_ix _ _ _ _ _ _ _ ix_tup (pv 2) pe_int (fun _ _=>rfl)) pa_nil)))
      (@pss_cons _ _ _ _ _ (@ps_put _ _ 5 _ _ _ _ (by rfl) (by first | exact .inl rfl | exact .inr rfl | assumption) S.nd rfl (Or.inr rfl) (@pe_ix _ _ _ _ _ _ _ ix_tup (pv 2) pe_int (fun _ _=>rfl)))
      (@pss_cons _ _ _ _ _ (@ps_put _ _ 6 _ _ _ _ (by rfl) (by first | exact .inl rfl | exact .inr rfl | assumption) S.nd rfl (Or.inr rfl) (pe_call G_whole_sum (hr.mono (by decide)) rfl T.mg_whole_sum T.F_whole_sum.kp T.b_whole_sum .nil pass0 (@pa_mor _ _ _ _ _ (by rfl) (pe_call G_shifted_row (hr.mono (by decide)) rfl T.mg_shifted_row T.F_shifted_row.kp T.b_shifted_row .nil pass0 (@pa_mor _ _ _ _ _ (by rfl) (pv 1) (@pa_mor _ _ _ _ _ (by rfl) (pv 4) (@pa_mor _ _ _ _ _ (by rfl) (pv 4) pa_nil)))) (@pa_mor _ _ _ _ _ (by rfl) (@pe_ix _ _ _ _ _ _ _ ix_tup (pv 2) pe_int (fun _ _=>rfl)) pa_nil))))
      (@pss_cons _ _ _ _ _ (@ps_put _ _ 7 _ _ _ _ (by rfl) (by first | exact .inl rfl | exact .inr rfl | assumption) S.nd rfl (Or.inr rfl) (pe_call G_whole_sum (hr.mono (by decide)) rfl T.mg_whole_sum T.F_whole_sum.kp T.b_whole_sum .nil pass0 (@pa_mor _ _ _ _ _ (by rfl) (pe_call G_shifted_row (hr.mono (by decide)) rfl T.mg_shifted_row T.F_shifted_row.kp T.b_shifted_row .nil pass0 (@pa_mor _ _ _ _ _ (by rfl) (pv 1) (@pa_mor _ _ _ _ _ (by rfl) (@pe_un _ _ _ _ _ _ un_neg pe_int) (@pa_mor _ _ _ _ _ (by rfl) (pv 4) pa_nil)))) (@pa_mor _ _ _ _ _ (by rfl) (@pe_ix _ _ _ _ _ _ _ ix_tup (pv 2) pe_int (fun _ _=>rfl)) pa_nil))))
      (@pss_cons _ _ _ _ _ (@ps_put _ _ 8 _ _ _ _ (by rfl) (by first | exact .inl rfl | exact .inr rfl | assumption) S.nd rfl (Or.inl rfl) (@pe_op _ _ _ _ _ _ _ _ op_cat (@pe_ix _ _ _ _ _ _ _ ix_tup (pv 2) pe_int (fun _ _=>rfl)) (@pe_lst _ _ _ _ (@pa_mor _ _ _ _ _ (by rfl) pe_int pa_nil))))
      (@pss_cons _ _ _ _ _ (@ps_put _ _ 9 _ _ _ _ (by rfl) (by first | exact .inl rfl | exact .inr rfl | assumption) S.nd rfl (Or.inl rfl) (@pe_op _ _ _ _ _ _ _ _ op_cat (@pe_lst _ _ _ _ (@pa_mor _ _ _ _ _ (by rfl) pe_int pa_nil)) (@pe_ix _ _ _ _ _ _ _ ix_tup (pv 2) pe_int (fun _ _=>rfl))))
      (@pss_cons _ _ _ _ _ (@ps_put _ _ 10 _ _ _ _ (by rfl) (by first | exact .inl rfl | exact .inr rfl | assumption) S.nd rfl (Or.inl rfl) (pe_meth (pv 0) T.cl_World T.m_World_evenly G_World_evenly (hr.mono (by decide)) T.b_World_evenly .nil pass0 (@pa_mor _ _ _ _ _ (by rfl) (pe_comp2 (N:=["a","b","much","down"]) (ρ:=(fun σ=>[σ[5]?.join,σ[6]?.join])) ⟨rfl,rfl,by decide +kernel,by decide +kernel,(List.forall_mem_cons.mpr ⟨rfl,(List.forall_mem_cons.mpr ⟨rfl,(List.forall_mem_nil _)⟩)⟩),has_of (by rfl),rfl,rfl,by decide +kernel,rfl,rfl,(fun σ j v h=>match j,h with | 0,h=>⟨5,_,rfl,rfl,join_some h,Or.inr (Or.inl rfl),.inl rfl,.inl rfl⟩ | 1,h=>⟨6,_,rfl,rfl,join_some h,Or.inr (Or.inl rfl),.inl rfl,.inl rfl⟩ | j + 2,h=>by cases h),(fun _ _=>rfl)⟩ rfl (pi_zip rfl T.n_zip (@pa_mor _ _ _ _ _ (by rfl) (pv 8) (@pa_mor _ _ _ _ _ (by rfl) (pv 9) pa_nil))) (fun s₃ H₃ fp=>.nil) (fun s₃ H₃ fp=>(@pe_op _ _ _ _ _ _ _ _ op_sub (@pe_op _ _ _ _ _ _ _ _ op_mulM (pv 2) (pv 0)) (@pe_op _ _ _ _ _ _ _ _ op_mulM (pv 3) (pv 1))))) (@pa_mor _ _ _ _ _ (by rfl) (pv 3) pa_nil))))
      (@pss_cons _ _ _ _ _ (@ps_put _ _ 11 _ _ _ _ (by rfl) (by first | exact .inl rfl | exact .inr rfl | assumption) S.nd rfl (Or.inl rfl) (pe_meth (pv 0) T.cl_World T.m_World_evenly G_World_evenly (hr.mono (by decide)) T.b_World_evenly .nil pass0 (@pa_mor _ _ _ _ _ (by rfl) (pe_comp2 (N:=["a","b","much","up"]) (ρ:=(fun σ=>[σ[5]?.join,σ[7]?.join])) ⟨rfl,rfl,by decide +kernel,by decide +kernel,(List.forall_mem_cons.mpr ⟨rfl,(List.forall_mem_cons.mpr ⟨rfl,(List.forall_mem_nil _)⟩)⟩),has_of (by rfl),rfl,rfl,by decide +kernel,rfl,rfl,(fun σ j v h=>match j,h with | 0,h=>⟨5,_,rfl,rfl,join_some h,Or.inr (Or.inl rfl),.inl rfl,.inl rfl⟩ | 1,h=>⟨7,_,rfl,rfl,join_some h,Or.inr (Or.inl rfl),.inl rfl,.inl rfl⟩ | j + 2,h=>by cases h),(fun _ _=>rfl)⟩ rfl (pi_zip rfl T.n_zip (@pa_mor _ _ _ _ _ (by rfl) (pv 8) (@pa_mor _ _ _ _ _ (by rfl) (pv 9) pa_nil))) (fun s₃ H₃ fp=>.nil) (fun s₃ H₃ fp=>(@pe_op _ _ _ _ _ _ _ _ op_sub (@pe_op _ _ _ _ _ _ _ _ op_mulM (pv 2) (pv 1)) (@pe_op _ _ _ _ _ _ _ _ op_mulM (pv 3) (pv 0))))) (@pa_mor _ _ _ _ _ (by rfl) (pv 3) pa_nil))))
      (@pss_one _ _ _ (@ps_ret _ _ _ _ (@pe_tup _ _ _ _ _ (@pa_mor _ _ _ _ _ (by rfl) (pv 10) (@pa_mor _ _ _ _ _ (by rfl) (pv 11) (@pa_mor _ _ _ _ _ (by rfl) (@pe_ix _ _ _ _ _ _ _ ix_list (pe_meth (pv 0) T.cl_World T.m_World_evenly G_World_evenly (hr.mono (by decide)) T.b_World_evenly .nil pass0 (@pa_mor _ _ _ _ _ (by rfl) (@pe_lst _ _ _ _ (@pa_mor _ _ _ _ _ (by rfl) (@pe_op _ _ _ _ _ _ _ _ op_sub (@pe_op _ _ _ _ _ _ _ _ op_mulM (pv 5) (pv 5)) (@pe_op _ _ _ _ _ _ _ _ op_mulM (pv 6) (pv 7))) pa_nil)) (@pa_mor _ _ _ _ _ (by rfl) (pv 3) pa_nil))) pe_int (fun _ _=>rfl)) pa_nil)))))))))))))),?_⟩
    have h40:=B.h40
    have k1:=I.k1
    have lf:=I.lf
    have lb:=I.lb
    have hh:ts.length / 2 = h:=by omega
    have gM:∀ {x:Int},x.natAbs ≤ G→Mid x:=fun h=>mid520 (Nat.le_trans h (Nat.le_trans B.G2 (by decide +kernel)))
    have bts:∀ d,Mid (midI ts d):=fun d=>gM (Nat.le_trans (B.r d) B.mG)
    have bf:=B.fs I hq (by omega)
    have bb:=B.bs I hq (by omega)
    have bm:=B.mu I hq kh
    have bl:=B.la I hq (by omega)
    have bd:=B.dn I hq kh
    have bu:=B.upB I hq kh
    have nl:¬ q ∣ last:=I.l.nz (I.nz (k - 1) (by omega))
    have two:∀ {x y u v:Int},x.natAbs ≤ G→y.natAbs ≤ G→u.natAbs ≤ G→v.natAbs ≤ G→Mid (x * y - u * v):=fun {x y u v} h1 h2 h3 h4=>by
      have e1:(x * y).natAbs ≤ G * G:=by rw [Int.natAbs_mul]; exact Nat.mul_le_mul h1 h2
      have e2:(u * v).natAbs ≤ G * G:=by rw [Int.natAbs_mul]; exact Nat.mul_le_mul h3 h4
      refine Mid.of300 B.G2 ?_
      rw [Nat.mul_assoc]
      omega
    refine ⟨_,rfl,p,_,_,_,rfl,rfl,.of ep,rfl,f,_,rfl,.inl (.of ef),?_⟩
    dsimp only [gName]
    rw [List.length_map,lf]
    refine ⟨_,rfl,p,_,_,_,rfl,rfl,.of ep,rfl,?_⟩
    dsimp only [gName]
    refine ⟨_,rfl,_,rfl,_,rfl,a,ts,(k:Int),k,rfl,ea,by omega,by omega,by omega,by omega,fun j hj=>by omega,fun c1 H1 s1 nc1 e1=>?_⟩
    refine ⟨_,rfl,p,_,_,_,rfl,rfl,.of (s1 _ _ ep),rfl,c1,f,_,fs,rfl,e1,s1 _ _ ef,by simp [lf],by simp; omega,fun x hx=>?_,fun x hx=>gM (bf x hx),fun H2 s2=>?_⟩
    · obtain ⟨j,_,rfl⟩:=List.mem_map.mp hx
      exact bts _
    have ed:(sumN fs.length fun j=>((List.range k).map fun (j:Nat)=>midI ts ((k:Int) - j)).getD j 0 * fs.getD j 0) = downI (midI ts) fs:=by
      unfold downI
      refine sumN_congr fun j hj=>?_
      rw [rng_getD (by omega),lf]
    rw [ed]
    have s12:=s1.trans s2
    dsimp only [gName]
    refine ⟨_,rfl,_,rfl,_,rfl,a,ts,-1,k,rfl,s12 _ _ ea,by omega,by omega,by omega,by omega,fun j hj=>by omega,fun c2 H3 s3 nc2 e3=>?_⟩
    have s13:=s12.trans s3
    refine ⟨_,rfl,p,_,_,_,rfl,rfl,.of (s13 _ _ ep),rfl,c2,b,_,bs,rfl,e3,s13 _ _ eb,by simp [lb],by simp; omega,fun x hx=>?_,fun x hx=>gM (bb x hx),fun H4 s4=>?_⟩
    · obtain ⟨j,_,rfl⟩:=List.mem_map.mp hx
      exact bts _
    have eu:(sumN bs.length fun j=>((List.range k).map fun (j:Nat)=>midI ts (-1 - (j:Int))).getD j 0 * bs.getD j 0) = upI (midI ts) bs:=by
      unfold upI
      refine sumN_congr fun j hj=>?_
      rw [rng_getD (by omega)]
    rw [eu]
    have s14:=s13.trans s4
    dsimp only [gName]
    refine ⟨_,rfl,p,_,_,_,rfl,rfl,.of (s14 _ _ ep),rfl,by show 1 ≤ sizeLine; decide,fun c3 n3=>?_⟩
    have s5:Same H4 (upd H4 c3 (.lst [.int 0])):=same_upd n3
    refine ⟨f,c3,_,_,rfl,rfl,s5 _ _ (s14 _ _ ef),upd_same,Nat.le_trans (show _ ≤ 100 by simp; omega) (by decide),fun c4 n4=>?_⟩
    have s6:=s5.trans (same_upd (o:=.lst (fs.map V.int ++ [.int 0])) n4)
    have e4:upd (upd H4 c3 (.lst [.int 0])) c4 (.lst (fs.map V.int ++ [.int 0])) c4 = some (.lst ((fs ++ [0]).map V.int)):=by rw [upd_same,List.map_append]; rfl
    dsimp only [gName]
    generalize upd (upd H4 c3 (.lst [.int 0])) c4 (.lst (fs.map V.int ++ [.int 0])) = H6 at s6 e4 ⊢
    have s16:=s14.trans s6
    refine ⟨by show 1 ≤ sizeLine; decide,fun c5 n5=>?_⟩
    have s7:Same H6 (upd H6 c5 (.lst [.int 0])):=same_upd n5
    refine ⟨_,rfl,p,_,_,_,rfl,rfl,.of (s7 _ _ (s16 _ _ ep)),rfl,c5,b,_,_,rfl,rfl,upd_same,s7 _ _ (s16 _ _ eb),Nat.le_trans (show _ ≤ 100 by simp; omega) (by decide),fun c6 n6=>?_⟩
    have s8:=s7.trans (same_upd (o:=.lst ([V.int 0] ++ bs.map V.int)) n6)
    have e6:upd (upd H6 c5 (.lst [.int 0])) c6 (.lst ([V.int 0] ++ bs.map V.int)) c6 = some (.lst (([0] ++ bs).map V.int)):=by rw [upd_same,List.map_append]; rfl
    dsimp only [gName]
    generalize upd (upd H6 c5 (.lst [.int 0])) c6 (.lst ([V.int 0] ++ bs.map V.int)) = H8 at s8 e6 ⊢
    have s18:=s16.trans s8
    have e4':=s8 _ _ e4
    have bx:∀ x ∈ fs ++ [0],x.natAbs ≤ G:=fun x hx=>by
      rcases List.mem_append.mp hx with z | z
      · exact bf x z
      · rw [List.mem_singleton.mp z]; exact Nat.zero_le _
    have by':∀ x ∈ [0] ++ bs,x.natAbs ≤ G:=fun x hx=>by
      rcases List.mem_append.mp hx with z | z
      · rw [List.mem_singleton.mp z]; exact Nat.zero_le _
      · exact bb x z
    have l1:(fs ++ [0]).length = k + 1:=by simp [lf]
    have l2:(([0]:List Int) ++ bs).length = k + 1:=by simp [lb]
    have zl:((fs ++ [0]).zip ([0] ++ bs)).length = k + 1:=by rw [List.length_zip,l1,l2,Nat.min_self]
    have zg:∀ (g:Int→Int→Int) (j:Nat),j < k + 1→(((fs ++ [0]).zip ([0] ++ bs)).map fun (ab:Int × Int)=>g ab.1 ab.2).getD j 0 = g ((fs ++ [0]).getD j 0) (([0] ++ bs).getD j 0):=fun g j hj=>by
      rw [getD_at (by rw [List.length_map,zl]; exact hj),List.getElem_map,List.getElem_zip,getD_at (by omega),getD_at (by omega)]
    have hd8:=s18 _ _ hd
    refine seq_of (asg_of ⟨_,rfl,z,dz,_,rfl,hd8,lk_no (by decide +kernel),comp2_int (xs:=fs ++ [0]) (ys:=[0] ++ bs) (fun x y=>much * x - downI (midI ts) fs * y) (by omega) (fun R h=>⟨_,rfl,_,rfl,c4,c6,rfl,⟨_,.of e4'⟩,⟨_,.of e6⟩,h _ _ (Same.refl _) (jseq_zip (.of e4') (.of e6))⟩) ?_ ?_⟩)
    · intro x y hxy Hx R sx kx
      exact ⟨_,rfl,_,rfl,_,_,rfl,rfl,⟨gM bm,gM (bx x (List.of_mem_zip hxy).1)⟩,_,rfl,_,rfl,_,_,rfl,rfl,⟨gM bd,gM (by' y (List.of_mem_zip hxy).2)⟩,_,_,rfl,rfl,kx Hx (Same.refl _)⟩
    intro D1 H9 s9 eD1
    refine ⟨_,rfl,z,D1,q,_,last,fun j=>topF (k + 1) (midI ts) j,rfl,⟨dz,s9 _ _ hd8⟩,hq,eD1,?_,?_,gM bl,nl,?_,fun c7 H10 gs s10 n7 e7 lg hg rg=>?_⟩
    · rw [List.length_map,zl]; omega
    · intro x hx
      obtain ⟨ab,hab,rfl⟩:=List.mem_map.mp hx
      have m:=List.of_mem_zip hab
      exact two bm (bx _ m.1) bd (by' _ m.2)
    · intro j hj
      rw [List.length_map,zl] at hj
      rw [zg (fun x y=>much * x - downI (midI ts) fs * y) j hj]
      exact I.stepF nm hj
    rw [List.length_map,zl] at lg hg
    have s110:=s18.trans (s9.trans s10)
    have hd10:=s110 _ _ hd
    have e4'':=(s9.trans s10) _ _ e4'
    have e6'':=(s9.trans s10) _ _ e6
    dsimp only [gName]
    refine seq_of (asg_of ⟨_,rfl,z,dz,_,rfl,hd10,lk_no (by decide +kernel),comp2_int (xs:=fs ++ [0]) (ys:=[0] ++ bs) (fun x y=>much * y - upI (midI ts) bs * x) (by omega) (fun R h=>⟨_,rfl,_,rfl,c4,c6,rfl,⟨_,.of e4''⟩,⟨_,.of e6''⟩,h _ _ (Same.refl _) (jseq_zip (.of e4'') (.of e6''))⟩) ?_ ?_⟩)
    · intro x y hxy Hx R sx kx
      exact ⟨_,rfl,_,rfl,_,_,rfl,rfl,⟨gM bm,gM (by' y (List.of_mem_zip hxy).2)⟩,_,rfl,_,rfl,_,_,rfl,rfl,⟨gM bu,gM (bx x (List.of_mem_zip hxy).1)⟩,_,_,rfl,rfl,kx Hx (Same.refl _)⟩
    intro D2 H11 s11 eD2
    refine ⟨_,rfl,z,D2,q,_,last,fun j=>topF (k + 1) (turnI (midI ts)) (k - j),rfl,⟨dz,s11 _ _ hd10⟩,hq,eD2,?_,?_,gM bl,nl,?_,fun c8 H12 cs s12' n8 e8 lc hc rc=>?_⟩
    · rw [List.length_map,zl]; omega
    · intro x hx
      obtain ⟨ab,hab,rfl⟩:=List.mem_map.mp hx
      have m:=List.of_mem_zip hab
      exact two bm (by' _ m.2) bu (bx _ m.1)
    · intro j hj
      rw [List.length_map,zl] at hj
      rw [zg (fun x y=>much * y - upI (midI ts) bs * x) j hj]
      exact I.stepB nm hj
    rw [List.length_map,zl] at lc hc
    have s1012:=s11.trans s12'
    have s112:=s110.trans s1012
    have hd12:=s112 _ _ hd
    dsimp only [gName]
    refine ⟨_,rfl,_,rfl,_,rfl,z,dz,_,rfl,hd12,lk_no (by decide +kernel),_,rfl,_,rfl,_,_,rfl,rfl,⟨gM bm,gM bm⟩,_,rfl,_,rfl,_,_,rfl,rfl,⟨gM bd,gM bu⟩,_,_,rfl,rfl,by show 1 ≤ sizeLine; decide,fun c9 n9=>?_⟩
    have sm:Same H12 (upd H12 c9 (.lst [.int (much * much - downI (midI ts) fs * upI (midI ts) bs)])):=same_upd n9
    refine ⟨_,rfl,z,c9,q,[much * much - downI (midI ts) fs * upI (midI ts) bs],last,fun _=>topD (k + 1) (midI ts),rfl,⟨dz,sm _ _ hd12⟩,hq,upd_same,by simp,fun x hx=>?_,gM bl,nl,fun i hi=>?_,fun c10 H14 ms s14' n10 e10 lm hm rm=>?_⟩
    · rw [List.mem_singleton.mp hx]
      exact two bm bm bd bu
    · rw [List.length_singleton] at hi
      obtain rfl:i = 0:=by omega
      exact I.stepM nm
    rw [List.length_singleton] at lm hm
    obtain ⟨more,rfl⟩:∃ more,ms = [more]:=by
      match ms,lm with
      | [x],_=>exact ⟨x,rfl⟩
    refine ⟨c10,_,_,_,rfl,rfl,.of e10,rfl,by show 3 ≤ sizeLine; decide,fun p' np'=>?_⟩
    have s1214:=sm.trans s14'
    have sp:Same H14 (upd H14 p' (.tup [.ref c7,.ref c8,.int more])):=same_upd np'
    have s1114:=s112.trans s1214
    exact kk p' c7 c8 gs cs more _ (s1114.trans sp) (none_of s1114 np') (none_of (s18.trans s9) n7) (none_of (s110.trans s11) n8) upd_same (sp _ _ (s1214 _ _ (s1012 _ _ e7))) (sp _ _ (s1214 _ _ e8)) (I.next nm lg lc hg hc (hm 0 (by decide)) rg rc fun z=>rm z more (List.mem_singleton.mpr rfl))
theorem ok_next_pair58 (T:Txt K mg t):FnOk P w K mg base CX0 5 t.f_next_pair t.d_next_pair ["world","row","pair","last"] (spNx58 t.C_World):=by
  have S:=sc_next_pair
  have G_World_evenly:=ok_evenly (P:=P) (w:=w) (base:=base) T
  have G_whole_sum:=ok_whole_sum (P:=P) (w:=w) (base:=base) T
  have G_shifted_row:=ok_shifted_row (P:=P) (w:=w) (base:=base) T
  refine T.F_next_pair.ok S (fun vs H Q E h=>?_) (fun cdv A outer s H vs Q E hr h=>?_)
  · obtain ⟨z,a,p,f,b,q,ts,fs,bs,much,h,k,rfl,_⟩:=h
    rfl
  · obtain ⟨z,a,p,f,b,q,ts,fs,bs,much,h,k,rfl,⟨dz,hd⟩,hq,ea,lt,h40,ep,ef,eb,lf,lb,k1,kh,bR,bf0,bb0,bm0,kk⟩:=h
    refine ⟨_,(@pss_cons _ _ _ _ _ (@ps_put _ _ 4 _ _ _ _ (by rfl) (by first | exact .inl rfl | exact .inr rfl | assumption) S.nd rfl (Or.inl rfl) (pe_callB call_len_seq rfl T.n_len boot_len (@pa_mor _ _ _ _ _ (by rfl) (@pe_ix _ _ _ _ _ _ _ ix_tup (pv 2) pe_int (fun _ _=>rfl)) pa_nil)))
      (@pss_cons _ _ _ _ _ (@ps_put _ _ 5 _ _ _ _ (by rfl) (by first | exact .inl rfl | exact .inr rfl | assumption) S.nd rfl (Or.inr rfl) (@pe_ix _ _ _ _ _ _ _ ix_tup (pv 2) pe_int (fun _ _=>rfl)))
      (@pss_cons _ _ _ _ _ (@ps_put _ _ 6 _ _ _ _ (by rfl) (by first | exact .inl rfl | exact .inr rfl | assumption) S.nd rfl (Or.inr rfl) (pe_call G_whole_sum (hr.mono (by decide)) rfl T.mg_whole_sum T.F_whole_sum.kp T.b_whole_sum .nil pass0 (@pa_mor _ _ _ _ _ (by rfl) (pe_call G_shifted_row (hr.mono (by decide)) rfl T.mg_shifted_row T.F_shifted_row.kp T.b_shifted_row .nil pass0 (@pa_mor _ _ _ _ _ (by rfl) (pv 1) (@pa_mor _ _ _ _ _ (by rfl) (pv 4) (@pa_mor _ _ _ _ _ (by rfl) (pv 4) pa_nil)))) (@pa_mor _ _ _ _ _ (by rfl) (@pe_ix _ _ _ _ _ _ _ ix_tup (pv 2) pe_int (fun _ _=>rfl)) pa_nil))))
      (@pss_cons _ _ _ _ _ (@ps_put _ _ 7 _ _ _ _ (by rfl) (by first | exact .inl rfl | exact .inr rfl | assumption) S.nd rfl (Or.inr rfl) (pe_call G_whole_sum (hr.mono (by decide)) rfl T.mg_whole_sum T.F_whole_sum.kp T.b_whole_sum .nil pass0 (@pa_mor _ _ _ _ _ (by rfl) (pe_call G_shifted_row (hr.mono (by decide)) rfl T.mg_shifted_row T.F_shifted_row.kp T.b_shifted_row .nil pass0 (@pa_mor _ _ _ _ _ (by rfl) (pv 1) (@pa_mor _ _ _ _ _ (by rfl) (@pe_un _ _ _ _ _ _ un_neg pe_int) (@pa_mor _ _ _ _ _ (by rfl) (pv 4) pa_nil)))) (@pa_mor _ _ _ _ _ (by rfl) (@pe_ix _ _ _ _ _ _ _ ix_tup (pv 2) pe_int (fun _ _=>rfl)) pa_nil))))
      (@pss_cons _ _ _ _ _ (@ps_put _ _ 8 _ _ _ _ (by rfl) (by first | exact .inl rfl | exact .inr rfl | assumption) S.nd rfl (Or.inl rfl) (@pe_op _ _ _ _ _ _ _ _ op_cat (@pe_ix _ _ _ _ _ _ _ ix_tup (pv 2) pe_int (fun _ _=>rfl)) (@pe_lst _ _ _ _ (@pa_mor _ _ _ _ _ (by rfl) pe_int pa_nil))))
      (@pss_cons _ _ _ _ _ (@ps_put _ _ 9 _ _ _ _ (by rfl) (by first | exact .inl rfl | exact .inr rfl | assumption) S.nd rfl (Or.inl rfl) (@pe_op _ _ _ _ _ _ _ _ op_cat (@pe_lst _ _ _ _ (@pa_mor _ _ _ _ _ (by rfl) pe_int pa_nil)) (@pe_ix _ _ _ _ _ _ _ ix_tup (pv 2) pe_int (fun _ _=>rfl))))
      (@pss_cons _ _ _ _ _ (@ps_put _ _ 10 _ _ _ _ (by rfl) (by first | exact .inl rfl | exact .inr rfl | assumption) S.nd rfl (Or.inl rfl) (pe_meth (pv 0) T.cl_World T.m_World_evenly G_World_evenly (hr.mono (by decide)) T.b_World_evenly .nil pass0 (@pa_mor _ _ _ _ _ (by rfl) (pe_comp2 (N:=["a","b","much","down"]) (ρ:=(fun σ=>[σ[5]?.join,σ[6]?.join])) ⟨rfl,rfl,by decide +kernel,by decide +kernel,(List.forall_mem_cons.mpr ⟨rfl,(List.forall_mem_cons.mpr ⟨rfl,(List.forall_mem_nil _)⟩)⟩),has_of (by rfl),rfl,rfl,by decide +kernel,rfl,rfl,(fun σ j v h=>match j,h with | 0,h=>⟨5,_,rfl,rfl,join_some h,Or.inr (Or.inl rfl),.inl rfl,.inl rfl⟩ | 1,h=>⟨6,_,rfl,rfl,join_some h,Or.inr (Or.inl rfl),.inl rfl,.inl rfl⟩ | j + 2,h=>by cases h),(fun _ _=>rfl)⟩ rfl (pi_zip rfl T.n_zip (@pa_mor _ _ _ _ _ (by rfl) (pv 8) (@pa_mor _ _ _ _ _ (by rfl) (pv 9) pa_nil))) (fun s₃ H₃ fp=>.nil) (fun s₃ H₃ fp=>(@pe_op _ _ _ _ _ _ _ _ op_sub (@pe_op _ _ _ _ _ _ _ _ op_mulM (pv 2) (pv 0)) (@pe_op _ _ _ _ _ _ _ _ op_mulM (pv 3) (pv 1))))) (@pa_mor _ _ _ _ _ (by rfl) (pv 3) pa_nil))))
      (@pss_cons _ _ _ _ _ (@ps_put _ _ 11 _ _ _ _ (by rfl) (by first | exact .inl rfl | exact .inr rfl | assumption) S.nd rfl (Or.inl rfl) (pe_meth (pv 0) T.cl_World T.m_World_evenly G_World_evenly (hr.mono (by decide)) T.b_World_evenly .nil pass0 (@pa_mor _ _ _ _ _ (by rfl) (pe_comp2 (N:=["a","b","much","up"]) (ρ:=(fun σ=>[σ[5]?.join,σ[7]?.join])) ⟨rfl,rfl,by decide +kernel,by decide +kernel,(List.forall_mem_cons.mpr ⟨rfl,(List.forall_mem_cons.mpr ⟨rfl,(List.forall_mem_nil _)⟩)⟩),has_of (by rfl),rfl,rfl,by decide +kernel,rfl,rfl,(fun σ j v h=>match j,h with | 0,h=>⟨5,_,rfl,rfl,join_some h,Or.inr (Or.inl rfl),.inl rfl,.inl rfl⟩ | 1,h=>⟨7,_,rfl,rfl,join_some h,Or.inr (Or.inl rfl),.inl rfl,.inl rfl⟩ | j + 2,h=>by cases h),(fun _ _=>rfl)⟩ rfl (pi_zip rfl T.n_zip (@pa_mor _ _ _ _ _ (by rfl) (pv 8) (@pa_mor _ _ _ _ _ (by rfl) (pv 9) pa_nil))) (fun s₃ H₃ fp=>.nil) (fun s₃ H₃ fp=>(@pe_op _ _ _ _ _ _ _ _ op_sub (@pe_op _ _ _ _ _ _ _ _ op_mulM (pv 2) (pv 1)) (@pe_op _ _ _ _ _ _ _ _ op_mulM (pv 3) (pv 0))))) (@pa_mor _ _ _ _ _ (by rfl) (pv 3) pa_nil))))
      (@pss_one _ _ _ (@ps_ret _ _ _ _ (@pe_tup _ _ _ _ _ (@pa_mor _ _ _ _ _ (by rfl) (pv 10) (@pa_mor _ _ _ _ _ (by rfl) (pv 11) (@pa_mor _ _ _ _ _ (by rfl) (@pe_ix _ _ _ _ _ _ _ ix_list (pe_meth (pv 0) T.cl_World T.m_World_evenly G_World_evenly (hr.mono (by decide)) T.b_World_evenly .nil pass0 (@pa_mor _ _ _ _ _ (by rfl) (@pe_lst _ _ _ _ (@pa_mor _ _ _ _ _ (by rfl) (@pe_op _ _ _ _ _ _ _ _ op_sub (@pe_op _ _ _ _ _ _ _ _ op_mulM (pv 5) (pv 5)) (@pe_op _ _ _ _ _ _ _ _ op_mulM (pv 6) (pv 7))) pa_nil)) (@pa_mor _ _ _ _ _ (by rfl) (pv 3) pa_nil))) pe_int (fun _ _=>rfl)) pa_nil)))))))))))))),?_⟩
    have hh:ts.length / 2 = h:=by omega
    have g190:∀ {x:Int},x.natAbs ≤ 10 ^ 150→x.natAbs ≤ 10 ^ 190:=fun h=>Nat.le_trans h (by decide +kernel)
    have gM:∀ {x:Int},x.natAbs ≤ 10 ^ 190→Mid x:=fun h=>mid520 (Nat.le_trans h (by decide +kernel))
    have bts:∀ d,Mid (midI ts d):=fun d=>mid520 (Nat.le_trans (bR d) (by decide +kernel))
    have bf:∀ x ∈ fs,x.natAbs ≤ 10 ^ 190:=fun x hx=>g190 (bf0 x hx)
    have bb:∀ x ∈ bs,x.natAbs ≤ 10 ^ 190:=fun x hx=>g190 (bb0 x hx)
    have bm:much.natAbs ≤ 10 ^ 190:=g190 bm0
    have bd:(downI (midI ts) fs).natAbs ≤ 10 ^ 190:=Nat.le_trans (sum_bd40 (by omega) (fun j _=>bR _) fun j _=>getD_bd bf0 j) (by decide +kernel)
    have bu:(upI (midI ts) bs).natAbs ≤ 10 ^ 190:=Nat.le_trans (sum_bd40 (by omega) (fun j _=>bR _) fun j _=>getD_bd bb0 j) (by decide +kernel)
    have nl:¬ q ∣ 1:=BotOk.one.nz hq
    have two4:∀ {x y u v:Int},x.natAbs ≤ 10 ^ 190→y.natAbs ≤ 10 ^ 190→u.natAbs ≤ 10 ^ 190→v.natAbs ≤ 10 ^ 190→(x * y - u * v).natAbs ≤ 10 ^ 400:=fun {x y u v} h1 h2 h3 h4=>by
      have e1:(x * y).natAbs ≤ 10 ^ 190 * 10 ^ 190:=by rw [Int.natAbs_mul]; exact Nat.mul_le_mul h1 h2
      have e2:(u * v).natAbs ≤ 10 ^ 190 * 10 ^ 190:=by rw [Int.natAbs_mul]; exact Nat.mul_le_mul h3 h4
      refine Nat.le_trans ?_ (show 2 * (10 ^ 190 * 10 ^ 190) ≤ 10 ^ 400 by decide +kernel)
      generalize 10 ^ 190 * 10 ^ 190 = W at e1 e2
      omega
    have two:∀ {x y u v:Int},x.natAbs ≤ 10 ^ 190→y.natAbs ≤ 10 ^ 190→u.natAbs ≤ 10 ^ 190→v.natAbs ≤ 10 ^ 190→Mid (x * y - u * v):=fun h1 h2 h3 h4=>mid520 (Nat.le_trans (two4 h1 h2 h3 h4) (by decide +kernel))
    refine ⟨_,rfl,p,_,_,_,rfl,rfl,.of ep,rfl,f,_,rfl,.inl (.of ef),?_⟩
    dsimp only [gName]
    rw [List.length_map,lf]
    refine ⟨_,rfl,p,_,_,_,rfl,rfl,.of ep,rfl,?_⟩
    dsimp only [gName]
    refine ⟨_,rfl,_,rfl,_,rfl,a,ts,(k:Int),k,rfl,ea,by omega,by omega,by omega,by omega,fun j hj=>by omega,fun c1 H1 s1 nc1 e1=>?_⟩
    refine ⟨_,rfl,p,_,_,_,rfl,rfl,.of (s1 _ _ ep),rfl,c1,f,_,fs,rfl,e1,s1 _ _ ef,by simp [lf],by simp; omega,fun x hx=>?_,fun x hx=>gM (bf x hx),fun H2 s2=>?_⟩
    · obtain ⟨j,_,rfl⟩:=List.mem_map.mp hx
      exact bts _
    have ed:(sumN fs.length fun j=>((List.range k).map fun (j:Nat)=>midI ts ((k:Int) - j)).getD j 0 * fs.getD j 0) = downI (midI ts) fs:=by
      unfold downI
      refine sumN_congr fun j hj=>?_
      rw [rng_getD (by omega),lf]
    rw [ed]
    have s12:=s1.trans s2
    dsimp only [gName]
    refine ⟨_,rfl,_,rfl,_,rfl,a,ts,-1,k,rfl,s12 _ _ ea,by omega,by omega,by omega,by omega,fun j hj=>by omega,fun c2 H3 s3 nc2 e3=>?_⟩
    have s13:=s12.trans s3
    refine ⟨_,rfl,p,_,_,_,rfl,rfl,.of (s13 _ _ ep),rfl,c2,b,_,bs,rfl,e3,s13 _ _ eb,by simp [lb],by simp; omega,fun x hx=>?_,fun x hx=>gM (bb x hx),fun H4 s4=>?_⟩
    · obtain ⟨j,_,rfl⟩:=List.mem_map.mp hx
      exact bts _
    have eu:(sumN bs.length fun j=>((List.range k).map fun (j:Nat)=>midI ts (-1 - (j:Int))).getD j 0 * bs.getD j 0) = upI (midI ts) bs:=by
      unfold upI
      refine sumN_congr fun j hj=>?_
      rw [rng_getD (by omega)]
    rw [eu]
    have s14:=s13.trans s4
    dsimp only [gName]
    refine ⟨_,rfl,p,_,_,_,rfl,rfl,.of (s14 _ _ ep),rfl,by show 1 ≤ sizeLine; decide,fun c3 n3=>?_⟩
    have s5:Same H4 (upd H4 c3 (.lst [.int 0])):=same_upd n3
    refine ⟨f,c3,_,_,rfl,rfl,s5 _ _ (s14 _ _ ef),upd_same,Nat.le_trans (show _ ≤ 100 by simp; omega) (by decide),fun c4 n4=>?_⟩
    have s6:=s5.trans (same_upd (o:=.lst (fs.map V.int ++ [.int 0])) n4)
    have e4:upd (upd H4 c3 (.lst [.int 0])) c4 (.lst (fs.map V.int ++ [.int 0])) c4 = some (.lst ((fs ++ [0]).map V.int)):=by rw [upd_same,List.map_append]; rfl
    dsimp only [gName]
    generalize upd (upd H4 c3 (.lst [.int 0])) c4 (.lst (fs.map V.int ++ [.int 0])) = H6 at s6 e4 ⊢
    have s16:=s14.trans s6
    refine ⟨by show 1 ≤ sizeLine; decide,fun c5 n5=>?_⟩
    have s7:Same H6 (upd H6 c5 (.lst [.int 0])):=same_upd n5
    refine ⟨_,rfl,p,_,_,_,rfl,rfl,.of (s7 _ _ (s16 _ _ ep)),rfl,c5,b,_,_,rfl,rfl,upd_same,s7 _ _ (s16 _ _ eb),Nat.le_trans (show _ ≤ 100 by simp; omega) (by decide),fun c6 n6=>?_⟩
    have s8:=s7.trans (same_upd (o:=.lst ([V.int 0] ++ bs.map V.int)) n6)
    have e6:upd (upd H6 c5 (.lst [.int 0])) c6 (.lst ([V.int 0] ++ bs.map V.int)) c6 = some (.lst (([0] ++ bs).map V.int)):=by rw [upd_same,List.map_append]; rfl
    dsimp only [gName]
    generalize upd (upd H6 c5 (.lst [.int 0])) c6 (.lst ([V.int 0] ++ bs.map V.int)) = H8 at s8 e6 ⊢
    have s18:=s16.trans s8
    have e4':=s8 _ _ e4
    have bx:∀ x ∈ fs ++ [0],x.natAbs ≤ 10 ^ 190:=fun x hx=>by
      rcases List.mem_append.mp hx with z | z
      · exact bf x z
      · rw [List.mem_singleton.mp z]; exact Nat.zero_le _
    have by':∀ x ∈ [0] ++ bs,x.natAbs ≤ 10 ^ 190:=fun x hx=>by
      rcases List.mem_append.mp hx with z | z
      · rw [List.mem_singleton.mp z]; exact Nat.zero_le _
      · exact bb x z
    have l1:(fs ++ [0]).length = k + 1:=by simp [lf]
    have l2:(([0]:List Int) ++ bs).length = k + 1:=by simp [lb]
    have zl:((fs ++ [0]).zip ([0] ++ bs)).length = k + 1:=by rw [List.length_zip,l1,l2,Nat.min_self]
    have zg:∀ (g:Int→Int→Int) (j:Nat),j < k + 1→(((fs ++ [0]).zip ([0] ++ bs)).map fun (ab:Int × Int)=>g ab.1 ab.2).getD j 0 = g ((fs ++ [0]).getD j 0) (([0] ++ bs).getD j 0):=fun g j hj=>by
      rw [getD_at (by rw [List.length_map,zl]; exact hj),List.getElem_map,List.getElem_zip,getD_at (by omega),getD_at (by omega)]
    have hd8:=s18 _ _ hd
    refine seq_of (asg_of ⟨_,rfl,z,dz,_,rfl,hd8,lk_no (by decide +kernel),comp2_int (xs:=fs ++ [0]) (ys:=[0] ++ bs) (fun x y=>much * x - downI (midI ts) fs * y) (by omega) (fun R h=>⟨_,rfl,_,rfl,c4,c6,rfl,⟨_,.of e4'⟩,⟨_,.of e6⟩,h _ _ (Same.refl _) (jseq_zip (.of e4') (.of e6))⟩) ?_ ?_⟩)
    · intro x y hxy Hx R sx kx
      exact ⟨_,rfl,_,rfl,_,_,rfl,rfl,⟨gM bm,gM (bx x (List.of_mem_zip hxy).1)⟩,_,rfl,_,rfl,_,_,rfl,rfl,⟨gM bd,gM (by' y (List.of_mem_zip hxy).2)⟩,_,_,rfl,rfl,kx Hx (Same.refl _)⟩
    intro D1 H9 s9 eD1
    refine ⟨_,rfl,z,D1,q,_,1,fun j=>much * (fs ++ [0]).getD j 0 - downI (midI ts) fs * ([0] ++ bs).getD j 0,rfl,⟨dz,s9 _ _ hd8⟩,hq,eD1,?_,?_,Mid.of_lt (by decide) (by decide),nl,?_,fun c7 H10 gs s10 n7 e7 lg hg rg=>?_⟩
    · rw [List.length_map,zl]; omega
    · intro x hx
      obtain ⟨ab,hab,rfl⟩:=List.mem_map.mp hx
      have m:=List.of_mem_zip hab
      exact two bm (bx _ m.1) bd (by' _ m.2)
    · intro j hj
      rw [List.length_map,zl] at hj
      rw [zg (fun x y=>much * x - downI (midI ts) fs * y) j hj]
      exact Cg.of_eq (Int.one_mul _).symm
    rw [List.length_map,zl] at lg hg
    have s110:=s18.trans (s9.trans s10)
    have hd10:=s110 _ _ hd
    have e4'':=(s9.trans s10) _ _ e4'
    have e6'':=(s9.trans s10) _ _ e6
    dsimp only [gName]
    refine seq_of (asg_of ⟨_,rfl,z,dz,_,rfl,hd10,lk_no (by decide +kernel),comp2_int (xs:=fs ++ [0]) (ys:=[0] ++ bs) (fun x y=>much * y - upI (midI ts) bs * x) (by omega) (fun R h=>⟨_,rfl,_,rfl,c4,c6,rfl,⟨_,.of e4''⟩,⟨_,.of e6''⟩,h _ _ (Same.refl _) (jseq_zip (.of e4'') (.of e6''))⟩) ?_ ?_⟩)
    · intro x y hxy Hx R sx kx
      exact ⟨_,rfl,_,rfl,_,_,rfl,rfl,⟨gM bm,gM (by' y (List.of_mem_zip hxy).2)⟩,_,rfl,_,rfl,_,_,rfl,rfl,⟨gM bu,gM (bx x (List.of_mem_zip hxy).1)⟩,_,_,rfl,rfl,kx Hx (Same.refl _)⟩
    intro D2 H11 s11 eD2
    refine ⟨_,rfl,z,D2,q,_,1,fun j=>much * ([0] ++ bs).getD j 0 - upI (midI ts) bs * (fs ++ [0]).getD j 0,rfl,⟨dz,s11 _ _ hd10⟩,hq,eD2,?_,?_,Mid.of_lt (by decide) (by decide),nl,?_,fun c8 H12 cs s12' n8 e8 lc hc rc=>?_⟩
    · rw [List.length_map,zl]; omega
    · intro x hx
      obtain ⟨ab,hab,rfl⟩:=List.mem_map.mp hx
      have m:=List.of_mem_zip hab
      exact two bm (by' _ m.2) bu (bx _ m.1)
    · intro j hj
      rw [List.length_map,zl] at hj
      rw [zg (fun x y=>much * y - upI (midI ts) bs * x) j hj]
      exact Cg.of_eq (Int.one_mul _).symm
    rw [List.length_map,zl] at lc hc
    have s1012:=s11.trans s12'
    have s112:=s110.trans s1012
    have hd12:=s112 _ _ hd
    dsimp only [gName]
    refine ⟨_,rfl,_,rfl,_,rfl,z,dz,_,rfl,hd12,lk_no (by decide +kernel),_,rfl,_,rfl,_,_,rfl,rfl,⟨gM bm,gM bm⟩,_,rfl,_,rfl,_,_,rfl,rfl,⟨gM bd,gM bu⟩,_,_,rfl,rfl,by show 1 ≤ sizeLine; decide,fun c9 n9=>?_⟩
    have sm:Same H12 (upd H12 c9 (.lst [.int (much * much - downI (midI ts) fs * upI (midI ts) bs)])):=same_upd n9
    refine ⟨_,rfl,z,c9,q,[much * much - downI (midI ts) fs * upI (midI ts) bs],1,fun _=>much * much - downI (midI ts) fs * upI (midI ts) bs,rfl,⟨dz,sm _ _ hd12⟩,hq,upd_same,by simp,fun x hx=>?_,Mid.of_lt (by decide) (by decide),nl,fun i hi=>?_,fun c10 H14 ms s14' n10 e10 lm hm rm=>?_⟩
    · rw [List.mem_singleton.mp hx]
      exact two bm bm bd bu
    · rw [List.length_singleton] at hi
      obtain rfl:i = 0:=by omega
      exact Cg.of_eq (Int.one_mul _).symm
    rw [List.length_singleton] at lm hm
    obtain ⟨more,rfl⟩:∃ more,ms = [more]:=by
      match ms,lm with
      | [x],_=>exact ⟨x,rfl⟩
    refine ⟨c10,_,_,_,rfl,rfl,.of e10,rfl,by show 3 ≤ sizeLine; decide,fun p' np'=>?_⟩
    have s1214:=sm.trans s14'
    have sp:Same H14 (upd H14 p' (.tup [.ref c7,.ref c8,.int more])):=same_upd np'
    have s1114:=s112.trans s1214
    have bx':∀ j,((fs ++ [0]).getD j 0).natAbs ≤ 10 ^ 190:=fun j=>getD_bd bx j
    have by'':∀ j,(([0] ++ bs).getD j 0).natAbs ≤ 10 ^ 190:=fun j=>getD_bd by' j
    have t1000:1000 ≤ 10 ^ 400:=by decide +kernel
    exact kk p' c7 c8 gs cs more _ (s1114.trans sp) (none_of s1114 np') (none_of (s18.trans s9) n7) (none_of (s110.trans s11) n8) upd_same (sp _ _ (s1214 _ _ (s1012 _ _ e7))) (sp _ _ (s1214 _ _ e8)) lg lc hg hc (hm 0 (by decide)) (fun z=>rm z more (List.mem_singleton.mpr rfl)) (cg_bds hq lg hg rg (fun j _=>two4 bm (bx' j) bd (by'' j)) t1000) (cg_bds hq lc hc rc (fun j _=>two4 bm (by'' j) bu (bx' j)) t1000) (cg_bds (u:=fun _=>much * much - downI (midI ts) fs * upI (midI ts) bs) hq lm hm rm (fun j _=>two4 bm bm bd bu) t1000 more (List.mem_singleton.mpr rfl))
theorem sc_whole_pairs:FnScope ["world","row","pair","told","last","following"] ["world","row"] (defScope s_whole_pairs):=⟨rfl,rfl,rfl,by decide +kernel,rfl,by decide +kernel,by decide +kernel⟩
theorem ok_whole_pairs (T:Txt K mg t):FnOk P w K mg base CX0 6 t.f_whole_pairs t.d_whole_pairs ["world","row"] (spWPs t.C_World):=by
  have S:=sc_whole_pairs
  have G_next_pair:=ok_next_pair (P:=P) (w:=w) (base:=base) T
  refine T.F_whole_pairs.ok S (fun vs H Q E h=>?_) (fun cdv A outer s H vs Q E hr h=>?_)
  · obtain ⟨z,a,q,ts,G,M,h,rfl,_⟩:=h
    rfl
  · obtain ⟨z,a,q,ts,G,M,h,rfl,hz,hq,ea,lt,B,rt,kk⟩:=h
    refine ⟨_,(@pss_cons _ _ _ _ _ (@ps_put _ _ 2 _ _ _ _ (by rfl) (by first | exact .inl rfl | exact .inr rfl | assumption) S.nd rfl (Or.inl rfl) (@pe_tup _ _ _ _ _ (@pa_mor _ _ _ _ _ (by rfl) (@pe_lst _ _ _ _ (@pa_mor _ _ _ _ _ (by rfl) pe_int pa_nil)) (@pa_mor _ _ _ _ _ (by rfl) (@pe_lst _ _ _ _ (@pa_mor _ _ _ _ _ (by rfl) pe_int pa_nil)) (@pa_mor _ _ _ _ _ (by rfl) (@pe_ix _ _ _ _ _ _ _ ix_list (pv 1) (@pe_op _ _ _ _ _ _ _ _ op_fdiv (pe_callB call_len_seq rfl T.n_len boot_len (@pa_mor _ _ _ _ _ (by rfl) (pv 1) pa_nil)) pe_int) (fun _ _=>rfl)) pa_nil)))))
      (@pss_cons _ _ _ _ _ (@ps_put _ _ 3 _ _ _ _ (by rfl) (by first | exact .inl rfl | exact .inr rfl | assumption) S.nd rfl (Or.inl rfl) (@pe_lst _ _ _ _ (@pa_mor _ _ _ _ _ (by rfl) (pv 2) pa_nil)))
      (@pss_cons _ _ _ _ _ (@ps_put _ _ 4 _ _ _ _ (by rfl) (by first | exact .inl rfl | exact .inr rfl | assumption) S.nd rfl (Or.inl rfl) pe_int)
      (@pss_cons _ _ _ _ _ (@ps_while _ _ _ _ _ _ PassesOwn.never (PW.pt (pw_and (@pt_cmpR _ _ _ _ _ _ _ _ op_ne (@pe_ix _ _ _ _ _ _ _ ix_tup (pv 2) pe_int (fun _ _=>rfl)) pe_int (nomark _)) (pw_and1 (@pt_cmpR _ _ _ _ _ _ _ _ op_lt (@pe_op _ _ _ _ _ _ _ _ op_mulM pe_int (pe_callB call_len_seq rfl T.n_len boot_len (@pa_mor _ _ _ _ _ (by rfl) (pv 3) pa_nil))) (pe_callB call_len_seq rfl T.n_len boot_len (@pa_mor _ _ _ _ _ (by rfl) (pv 1) pa_nil)) (nomark _))))) (@pss_cons _ _ _ _ _ (@ps_put _ _ 5 _ _ _ _ (by rfl) (by first | exact .inl rfl | exact .inr rfl | assumption) S.nd rfl (Or.inl rfl) (pe_call G_next_pair (hr.mono (by decide)) rfl T.mg_next_pair T.F_next_pair.kp T.b_next_pair .nil pass0 (@pa_mor _ _ _ _ _ (by rfl) (pv 0) (@pa_mor _ _ _ _ _ (by rfl) (pv 1) (@pa_mor _ _ _ _ _ (by rfl) (pv 2) (@pa_mor _ _ _ _ _ (by rfl) (pv 4) pa_nil))))))
      (@pss_cons _ _ _ _ _ (@ps_put _ _ 4 _ _ _ _ (by rfl) (by first | exact .inl rfl | exact .inr rfl | assumption) S.nd rfl (Or.inl rfl) (@pe_ix _ _ _ _ _ _ _ ix_tup (pv 2) pe_int (fun _ _=>rfl)))
      (@pss_cons _ _ _ _ _ (@ps_put _ _ 2 _ _ _ _ (by rfl) (by first | exact .inl rfl | exact .inr rfl | assumption) S.nd rfl (Or.inl rfl) (pv 5))
      (@pss_one _ _ _ (ps_expr (pe_bm PySem.F.plainAttrs_list PySem.F.slot_list_append PySem.F.type_list_append mt_append (pv 3) (@pa_mor _ _ _ _ _ (by rfl) (pv 2) pa_nil))))))))
      (@pss_one _ _ _ (@ps_ret _ _ _ _ (pv 3))))))),?_⟩
    have h40:=B.h40
    have hh:ts.length / 2 = h:=by omega
    have hmid:h < ts.length:=by omega
    have e0:midI ts 0 = ts[h]:=by
      unfold midI
      rw [if_pos (by omega),hh,show ((h:Int) + 0).toNat = h by omega,getD_at hmid]
    refine ⟨by show 1 ≤ sizeLine; decide,fun f0 nf0=>⟨by show 1 ≤ sizeLine; decide,fun b0 nb0=>?_⟩⟩
    have s1:Same H (upd H f0 (.lst [.int 1])):=same_upd nf0
    have s2:=s1.trans (same_upd (o:=.lst [.int 1]) nb0)
    have ef0:upd (upd H f0 (.lst [.int 1])) b0 (.lst [.int 1]) f0 = some (.lst (([1]:List Int).map V.int)):=same_upd (o:=.lst [.int 1]) nb0 _ _ upd_same
    have eb0:upd (upd H f0 (.lst [.int 1])) b0 (.lst [.int 1]) b0 = some (.lst (([1]:List Int).map V.int)):=upd_same
    generalize upd (upd H f0 (.lst [.int 1])) b0 (.lst [.int 1]) = H2 at s2 ef0 eb0 ⊢
    refine ⟨_,rfl,_,rfl,a,_,rfl,.inl (.of (s2 _ _ ea)),_,_,rfl,rfl,⟨by decide,by decide⟩,a,_,_,.int (midI ts 0),rfl,rfl,.of (s2 _ _ ea),?_,by show 3 ≤ sizeLine; decide,fun p0 np0=>?_⟩
    · show atI (ts.map V.int) (((ts.map V.int).length:Int) / 2) = _
      rw [List.length_map,show ((ts.length:Int) / 2) = (h:Int) by omega]
      refine atI_nat ?_
      rw [e0,List.getElem?_map]
      simp [hmid]
    have s3:Same H2 (upd H2 p0 (.tup [.ref f0,.ref b0,.int (midI ts 0)])):=same_upd np0
    have ep0:upd H2 p0 (.tup [.ref f0,.ref b0,.int (midI ts 0)]) p0 = some (.tup [.ref f0,.ref b0,.int (midI ts 0)]):=upd_same
    dsimp only [gName]
    generalize upd H2 p0 (.tup [.ref f0,.ref b0,.int (midI ts 0)]) = H3 at s3 ep0 ⊢
    have ef3:=s3 _ _ ef0
    have eb3:=s3 _ _ eb0
    refine ⟨_,rfl,by show 1 ≤ sizeLine; decide,fun l nl=>?_⟩
    have s4:Same H3 (upd H3 l (.lst [.ref p0])):=same_upd nl
    have el:upd H3 l (.lst [.ref p0]) l = some (.lst [.ref p0]):=upd_same
    dsimp only [gName]
    generalize upd H3 l (.lst [.ref p0]) = H4 at s4 el ⊢
    have s14:=s2.trans (s3.trans s4)
    have nlH:H l = none:=none_of (s2.trans s3) nl
    have ne_l:∀ {x:Addr} {o:HO},H3 x = some o→x ≠ l:=fun e e'=>by rw [e',nl] at e; cases e
    have I0:GInv q (midI ts) 1 [1] [1] (midI ts 0) 1:=GInv.start hq fun zq=>by
      rw [e0]
      exact rt zq _ (List.getElem_mem hmid)
    refine ⟨fun c σ Hc=>Same H Hc∧∃ (p:Addr) (vs:List V) (fF bF:Nat→List Int) (mF:Nat→Int) (last:Int) (v5:Option V),c + vs.length = h + 2∧σ = [some (.ref z),some (.ref a),some (.ref p),some (.ref l),some (.int last),v5]∧Hc l = some (.lst vs)∧PairsL l Hc q (midI ts) h vs fF bF mF∧vs[vs.length - 1]? = some (.ref p)∧GInv q (midI ts) vs.length (fF (vs.length - 1)) (bF (vs.length - 1)) (mF (vs.length - 1)) last,⟨h + 1,s14,p0,[.ref p0],fun _=>[1],fun _=>[1],fun _=>midI ts 0,1,none,rfl,rfl,el,⟨fun i v hv=>?_,by simp⟩,rfl,I0⟩,?_⟩
    · match i,hv with
      | 0,hv=>
        cases hv
        exact ⟨⟨p0,f0,b0,rfl,s4 _ _ ep0,s4 _ _ ef3,s4 _ _ eb3,ne_l ep0,ne_l ef3,ne_l eb3⟩,1,I0⟩
      | i + 1,hv=>cases hv
    rintro c σ Hc ⟨sc,p,vs,fF,bF,mF,last,v5,hc,rfl,el,PL,hv,I⟩
    obtain ⟨⟨p',f,b,e',ep,ef,eb,np,nf,nb⟩,_⟩:=PL.at' _ _ hv
    cases e'
    have ln:=PL.len
    refine ⟨_,rfl,p,_,_,_,rfl,rfl,.of ep,rfl,rfl,_,rfl,ite2 (fun h0=>?_) (fun h0=>?_)⟩
    · have hm:mF (vs.length - 1) ≠ 0:=by simpa using h0
      refine ⟨_,rfl,l,vs,rfl,.inl (.of el),_,_,rfl,rfl,⟨Mid.of_lt (by decide) (by decide),Mid.of_lt (by omega) (by omega)⟩,_,rfl,a,_,rfl,.inl (.of (sc _ _ ea)),_,_,rfl,rfl,_,rfl,ite2 (fun h1=>?_) (fun h1=>?_)⟩
      · have h1:(2 * (vs.length:Int)) < ((ts.map V.int).length:Int):=of_decide_eq_true h1
        rw [List.length_map] at h1
        have vh:vs.length ≤ h:=by omega
        refine ⟨fun σ' H'=>Same H H'∧∃ (p:Addr) (vs':List V) (fF bF:Nat→List Int) (mF:Nat→Int) (last:Int) (v5:Option V),vs'.length = vs.length + 1∧σ' = [some (.ref z),some (.ref a),some (.ref p),some (.ref l),some (.int last),v5]∧H' l = some (.lst vs')∧PairsL l H' q (midI ts) h vs' fF bF mF∧vs'[vs'.length - 1]? = some (.ref p)∧GInv q (midI ts) vs'.length (fF (vs'.length - 1)) (bF (vs'.length - 1)) (mF (vs'.length - 1)) last,?_,?_⟩
        · rintro σ' H' ⟨s',p,vs',fF,bF,mF,last,v5,lv,rest⟩
          exact ⟨c - 1,by omega,s',p,vs',fF,bF,mF,last,v5,by omega,rest⟩
        refine ⟨_,rfl,_,rfl,_,rfl,_,rfl,z,a,p,f,b,q,ts,_,_,_,last,G,M,h,vs.length,rfl,hz.mono sc,hq,sc _ _ ea,lt,ep,ef,eb,I,B,vh,I.much_nz hm,fun p1 f1 b1 gs cs more H5 s5 np1 nf1 nb1 ep1 ef1 eb1 I1=>?_⟩
        dsimp only [gName]
        refine ⟨_,rfl,p,_,_,_,rfl,rfl,.of (s5 _ _ ep),rfl,?_⟩
        dsimp only [gName]
        refine ⟨_,rfl,?_⟩
        dsimp only [gName]
        have el5:=s5 _ _ el
        have nel:∀ {x:Addr},Hc x = none→x ≠ l:=fun e e'=>by rw [e',el] at e; cases e
        refine ⟨_,rfl,.inl ⟨rfl,_,.of el5⟩,_,rfl,l,vs,_,rfl,rfl,el5,small1000 (by omega),same_but (sc.trans s5) nlH,p1,vs ++ [.ref p1],_,_,_,_,_,by simp,rfl,upd_same,(PL.mono s5).push vh ep1 ef1 eb1 (nel np1) (nel nf1) (nel nb1) I1,?_,?_⟩
        · rw [List.length_append,List.length_singleton,Nat.add_sub_cancel,List.getElem?_append_right (Nat.le_refl _),Nat.sub_self]
          rfl
        · rw [List.length_append,List.length_singleton,Nat.add_sub_cancel,if_pos rfl,if_pos rfl,if_pos rfl]
          exact I1
      · have h1:¬ (2 * (vs.length:Int)) < ((ts.map V.int).length:Int):=fun z=>h1 (decide_eq_true z)
        rw [List.length_map] at h1
        exact ⟨_,rfl,kk l vs fF bF mF Hc sc nlH el PL fun z=>by omega⟩
    · have hm:mF (vs.length - 1) = 0:=by simpa using h0
      rw [hm] at I
      exact ⟨_,rfl,kk l vs fF bF mF Hc sc nlH el PL fun _=>I.much_z⟩
theorem sc_told_pair:FnScope ["world","pair","bottom"] ["world","pair","bottom"] (defScope s_told_pair):=⟨rfl,rfl,rfl,by decide +kernel,rfl,by decide +kernel,by decide +kernel⟩
theorem ok_told_pair (T:Txt K mg t):FnOk P w K mg base CX0 5 t.f_told_pair t.d_told_pair ["world","pair","bottom"] (spTP t.C_World):=by
  have S:=sc_told_pair
  have G_numbers_of:=ok_numbers_of (P:=P) (w:=w) (base:=base) T
  refine T.F_told_pair.ok S (fun vs H Q E h=>?_) (fun cdv A outer s H vs Q E hr h=>?_)
  · obtain ⟨z,p,f,b,q,much,bot,fs,bs,B,rfl,_⟩:=h
    rfl
  · obtain ⟨z,p,f,b,q,much,bot,fs,bs,B,rfl,hz,hq,ep,ef,eb,lf,lb,nm,mm,mb,hf,hb,bm,kk⟩:=h
    refine ⟨_,(@pss_one _ _ _ (@ps_ret _ _ _ _ (@pe_tup _ _ _ _ _ (@pa_mor _ _ _ _ _ (by rfl) (pe_call G_numbers_of (hr.mono (by decide)) rfl T.mg_numbers_of T.F_numbers_of.kp T.b_numbers_of .nil pass0 (@pa_mor _ _ _ _ _ (by rfl) (pv 0) (@pa_mor _ _ _ _ _ (by rfl) (@pe_ix _ _ _ _ _ _ _ ix_tup (pv 1) pe_int (fun _ _=>rfl)) (@pa_mor _ _ _ _ _ (by rfl) (pv 2) (@pa_mor _ _ _ _ _ (by rfl) (@pe_ix _ _ _ _ _ _ _ ix_tup (pv 1) pe_int (fun _ _=>rfl)) pa_nil))))) (@pa_mor _ _ _ _ _ (by rfl) (pe_call G_numbers_of (hr.mono (by decide)) rfl T.mg_numbers_of T.F_numbers_of.kp T.b_numbers_of .nil pass0 (@pa_mor _ _ _ _ _ (by rfl) (pv 0) (@pa_mor _ _ _ _ _ (by rfl) (@pe_ix _ _ _ _ _ _ _ ix_tup (pv 1) pe_int (fun _ _=>rfl)) (@pa_mor _ _ _ _ _ (by rfl) (pv 2) (@pa_mor _ _ _ _ _ (by rfl) (@pe_ix _ _ _ _ _ _ _ ix_tup (pv 1) pe_int (fun _ _=>rfl)) pa_nil))))) pa_nil))))),?_⟩
    refine ⟨_,rfl,_,rfl,p,_,_,_,rfl,rfl,.of ep,rfl,_,rfl,_,rfl,p,_,_,_,rfl,rfl,.of ep,rfl,z,f,q,bot,much,fs,B,rfl,hz,hq,ef,lf,nm,mm,mb,fun t ht=>(hf t ht).1,bm,fun t ht=>(hf t ht).2,fun f' ps H1 s1 nf' rf lp wp=>?_⟩
    refine ⟨_,rfl,_,rfl,p,_,_,_,rfl,rfl,.of (s1 _ _ ep),rfl,_,rfl,_,rfl,p,_,_,_,rfl,rfl,.of (s1 _ _ ep),rfl,z,b,q,bot,much,bs,B,rfl,hz.mono s1,hq,s1 _ _ eb,lb,nm,mm,mb,fun t ht=>(hb t ht).1,bm,fun t ht=>(hb t ht).2,fun b' rs H2 s2 nb' rb lr wr=>⟨by show 2 ≤ sizeLine; decide,fun t nt=>?_⟩⟩
    have st:Same H2 (upd H2 t (.tup [.ref f',.ref b'])):=same_upd nt
    have s12:=s1.trans s2
    exact kk t f' b' ps rs _ (s12.trans st) (none_of s12 nt) nf' (none_of s1 nb') (fun e=>by obtain ⟨vs,ev,_⟩:=rf; rw [e,nb'] at ev; cases ev) upd_same ((rf.mono s2).mono st) (rb.mono st) lp lr wp wr
theorem sc_growth:FnScope ["world","row","wholes"] ["world","row"] (defScope s_growth):=⟨rfl,rfl,rfl,by decide +kernel,rfl,by decide +kernel,by decide +kernel⟩
theorem ok_growth (T:Txt K mg t):FnOk P w K mg base (CXF P w) 7 t.f_growth t.d_growth ["world","row"] (spGrow58 t.C_World):=by
  have S:=sc_growth
  have G_shifted_size:=ok_shifted_size (P:=P) (w:=w) (base:=base) T
  have G_World_as_wholes:=ok_as_wholes (P:=P) (w:=w) (base:=base) T
  have G_whole_pairs:=ok_whole_pairs (P:=P) (w:=w) (base:=base) T
  have G_told_pair:=ok_told_pair (P:=P) (w:=w) (base:=base) T
  refine T.F_growth.okX S (fun vs H Q E h=>?_) (fun cdv A outer s H vs Q E hr h L=>?_)
  · obtain ⟨z,a,q,ps,D,f,T',h,rfl,_⟩:=h
    rfl
  · obtain ⟨z,a,q,ps,D,f,T',h,rfl,⟨dz,hd⟩,hq,hA,GI,kk⟩:=h
    refine ⟨_,(@pss_cons _ _ _ _ _ (ps_expr (pe_call G_shifted_size (hr.mono (by decide)) rfl T.mg_shifted_size T.F_shifted_size.kp T.b_shifted_size .nil (passF L) (@pa_mor _ _ _ _ _ (by rfl) (pv 1) pa_nil)))
      (@pss_cons _ _ _ _ _ (@ps_put _ _ 2 _ _ _ _ (by rfl) (by first | exact .inl rfl | exact .inr rfl | assumption) S.nd rfl (Or.inr rfl) (pe_meth (pv 0) T.cl_World T.m_World_as_wholes G_World_as_wholes (hr.mono (by decide)) T.b_World_as_wholes .nil pass0 (@pa_mor _ _ _ _ _ (by rfl) (pv 1) pa_nil)))
      (@pss_one _ _ _ (@ps_ret _ _ _ _ (pe_comp (N:=["pair","world","wholes"]) (ρ:=(fun σ=>[σ[0]?.join,σ[2]?.join])) ⟨rfl,rfl,by decide +kernel,by decide +kernel,(List.forall_mem_cons.mpr ⟨rfl,(List.forall_mem_cons.mpr ⟨rfl,(List.forall_mem_nil _)⟩)⟩),has_of (by rfl),rfl,by decide +kernel,rfl,(fun σ j v h=>match j,h with | 0,h=>⟨0,_,rfl,rfl,join_some h,Or.inr (Or.inl rfl),.inl rfl,.inl rfl⟩ | 1,h=>⟨2,_,rfl,rfl,join_some h,Or.inr (Or.inl rfl),.inl rfl,.inl rfl⟩ | j + 2,h=>by cases h),(fun _ _=>rfl)⟩ rfl (pi_list (pe_call G_whole_pairs (hr.mono (by decide)) rfl T.mg_whole_pairs T.F_whole_pairs.kp T.b_whole_pairs .nil pass0 (@pa_mor _ _ _ _ _ (by rfl) (pv 0) (@pa_mor _ _ _ _ _ (by rfl) (@pe_ix _ _ _ _ _ _ _ ix_tup (pv 2) pe_int (fun _ _=>rfl)) pa_nil)))) (fun s₃ H₃ fp=>(.one (@pt_cmpR _ _ _ _ _ _ _ _ op_ne (@pe_ix _ _ _ _ _ _ _ (ix_tupK (K:=K)) (pv 0) pe_int (fun _ _=>rfl)) pe_int (nomark _)))) (fun s₃ H₃ fp=>(pe_call G_told_pair (hr.mono (by decide)) rfl T.mg_told_pair T.F_told_pair.kp T.b_told_pair .nil pass0 (@pa_mor _ _ _ _ _ (by rfl) (pv 1) (@pa_mor _ _ _ _ _ (by rfl) (pv 0) (@pa_mor _ _ _ _ _ (by rfl) (@pe_ix _ _ _ _ _ _ _ (ix_tupK (K:=K)) (pv 2) pe_int (fun _ _=>rfl)) pa_nil)))))))))),?_⟩
    obtain ⟨vs,ea,lv,fv⟩:=id hA
    have lp:=GI.len
    have h40:=GI.h40
    have nb:¬ ShBad vs.length:=fun e=>by
      rcases e with e | e <;> omega
    refine ⟨_,rfl,a,vs,rfl,ea,by omega,fun hb=>absurd hb nb,fun hg=>?_⟩
    refine ⟨_,rfl,z,dz,_,rfl,hd,lk_no (by decide +kernel),_,rfl,z,a,q,ps,10 ^ 150,D,rfl,⟨dz,hd⟩,hq,hA,by omega,GI.ok,GI.dvd,Nat.le_refl _,by decide +kernel,Nat.le_trans GI.bD (by decide +kernel),fun v H1 ts b s1 hw wd=>?_⟩
    obtain ⟨tp,l,rfl,etp,el,nl⟩:=hw
    obtain ⟨GB,rts⟩:=GI.bd hq hA.canonP wd
    have lt:ts.length = 2 * h + 1:=by rw [wd.len,lp]
    dsimp only [gName]
    refine ret_of ?_
    refine ⟨_,rfl,_,rfl,tp,_,_,_,rfl,rfl,.of etp,rfl,z,l,q,ts,_,_,h,rfl,⟨dz,s1 _ _ hd⟩,hq,el,lt,GB,rts,fun l' vs' fF bF mF H2 s2 nl' el' PL hend=>⟨l',rfl,⟨_,.of el'⟩,?_⟩⟩
    have s12:=s1.trans s2
    have ln:=PL.len
    have gl:=growM_le vs' mF
    have hN:∀ {i:Nat},i < vs'.length→(mF i ≠ 0 ↔ i < growM vs' mF):=fun h=>PL.told h
    generalize hNN:growM vs' mF = N at gl hN
    have etp2:=s2 _ _ etp
    have hd2:=s12 _ _ hd
    have okb:=wd.ok
    have bD0:b.natAbs ≤ 10 ^ 60:=Nat.le_trans (dvd_bd wd.dvd (ne_of_nd (GI.ok.nz hq))) GI.bD
    have g160:∀ {x:Int},x.natAbs ≤ 10 ^ 160→Mid x:=fun h=>mid520 (Nat.le_trans h (by decide +kernel))
    have pr:∀ {x:Int},x.natAbs ≤ 10 ^ 160→(x * b).natAbs ≤ 10 ^ 230:=fun {x} hx=>by
      rw [Int.natAbs_mul]
      exact Nat.le_trans (Nat.mul_le_mul hx bD0) (by decide +kernel)
    have mE:∀ {x:Int},x.natAbs ≤ 40 * (if q = 0 then T' else 1000) * 10 ^ 160→x.natAbs ≤ 10 ^ 230:=fun {x} hx=>by
      refine Nat.le_trans hx (Nat.le_trans (Nat.mul_le_mul_right _ (Nat.mul_le_mul_left 40 (show _ ≤ 10 ^ 60 from ?_))) (by decide +kernel))
      split
      · exact GI.T2
      · decide +kernel
    refine comp_prs (N:=N) (jseq_list (.of el')) gl (small1000 (by omega)) (fun D i f' b' Hx=>∃ (psF psG:List (Int × Int)),H f' = none∧H b' = none∧RowG (10 ^ 230) Hx q f' psF∧RowG (10 ^ 230) Hx q b' psG∧psF.length = i + 1∧psG.length = i + 1∧(∀ j,j < i + 1→Weq q (psF.getD j o1) (topF (i + 1) (midI ts) j * b,topD (i + 1) (midI ts)))∧(∀ j,j < i + 1→Weq q (psG.getD j o1) (topF (i + 1) (turnI (midI ts)) (i - j) * b,topD (i + 1) (midI ts)))) (fun D i f' b' Ha Hb ys ⟨psF,psG,h3,h4,h7,h8,h9⟩ fD bD eD k=>⟨psF,psG,h3,h4,h7.farD fD eD k,h8.farD bD eD k,h9⟩) ?_ ?_ ?_
    · intro i x hx Hc R sc kc
      obtain ⟨⟨p,f0,b0,rfl,ep,ef,eb,_⟩,last,I⟩:=PL.at' i x hx
      have hi:=(List.getElem?_eq_some_iff.mp hx).1
      refine ⟨_,rfl,p,_,_,_,rfl,rfl,.of (sc _ _ ep),rfl,rfl,_,rfl,?_⟩
      have e:decide (i < N) = (!(decide (mF i = 0))):=by
        have:=hN hi
        by_cases z:mF i = 0
        · rw [decide_eq_true z,decide_eq_false (fun h=>this.mpr h z)]; rfl
        · rw [decide_eq_false z,decide_eq_true (this.mp z)]; rfl
      rw [e] at kc
      show R (!decide (V.int (mF i) = V.int 0)) Hc
      rw [show decide (V.int (mF i) = V.int 0) = decide (mF i = 0) by simp]
      exact kc
    · intro D i x hi hx Hc R sc ⟨ys,eD⟩ kc
      obtain ⟨⟨p,f0,b0,rfl,ep,ef,eb,_⟩,last,I⟩:=PL.at' i x hx
      have hi':=(List.getElem?_eq_some_iff.mp hx).1
      have bf:=GB.fs I hq (by omega)
      have bb:=GB.bs I hq (by omega)
      have bm:=mE (GB.muE I hq (by omega))
      have nm:=I.much_nz ((hN hi').mpr hi)
      have s1c:=s12.trans sc
      refine ⟨_,rfl,_,rfl,_,rfl,tp,_,_,_,rfl,rfl,.of (sc _ _ etp2),rfl,z,p,f0,b0,q,_,b,_,_,10 ^ 230,rfl,⟨dz,sc _ _ hd2⟩,hq,sc _ _ ep,sc _ _ ef,sc _ _ eb,by rw [I.lf]; omega,by rw [I.lb]; omega,nm,mid520 (Nat.le_trans bm (by decide +kernel)),g160 (Nat.le_trans bD0 (by decide +kernel)),fun x hx=>⟨g160 (bf x hx),pr (bf x hx)⟩,fun x hx=>⟨g160 (bb x hx),pr (bb x hx)⟩,bm,fun t' f' b' psF psG H3 s3 nt nf nb' nfb et rF rG lF lG wF wG=>?_⟩
      have nD:∀ {x:Addr},Hc x = none→x ≠ D:=fun e e'=>by rw [e',eD] at e; cases e
      rw [I.lf] at lF wF
      rw [I.lb] at lG wG
      refine kc t' f' b' H3 s3 nt nf nb' nfb et (by obtain ⟨vs,e,_⟩:=rF; exact ⟨_,e⟩) (by obtain ⟨vs,e,_⟩:=rG; exact ⟨_,e⟩) ⟨psF,psG,none_of s1c nf,none_of s1c nb',rF,rG,lF,lG,fun j hj=>?_,fun j hj=>?_⟩
      · exact weq_cg hq nm (wF j hj) (I.f j hj) I.m
      · exact weq_cg hq nm (wG j hj) (I.b j hj) I.m
    · intro D A Af Ab Hc nD sc inj hA hA0 eD
      have ch:∀ i,∃ x:List (Int × Int) × List (Int × Int),i < N→Hc (A i) = some (.tup [.ref (Af i),.ref (Ab i)])∧H (Af i) = none∧H (Ab i) = none∧RowG (10 ^ 230) Hc q (Af i) x.1∧RowG (10 ^ 230) Hc q (Ab i) x.2∧x.1.length = i + 1∧x.2.length = i + 1∧(∀ j,j < i + 1→Weq q (x.1.getD j o1) (topF (i + 1) (midI ts) j * b,topD (i + 1) (midI ts)))∧(∀ j,j < i + 1→Weq q (x.2.getD j o1) (topF (i + 1) (turnI (midI ts)) (i - j) * b,topD (i + 1) (midI ts))):=fun i=>by
        by_cases hi:i < N
        · obtain ⟨h0,⟨psF,psG,h3,h4,h7,h8,h9⟩,_⟩:=hA i hi
          exact ⟨(psF,psG),fun _=>⟨h0,h3,h4,h7,h8,h9⟩⟩
        · exact ⟨([],[]),fun h=>absurd h hi⟩
      obtain ⟨X,hX⟩:=Classical.axiomOfChoice ch
      have nA:∀ i,i < N→H (A i) = none:=fun i hi=>none_of s12 (hA0 i hi)
      refine kk D N A Af Ab (fun i=>(X i).1) (fun i=>(X i).2) (midI ts) b Hc (s12.trans sc) (none_of s12 nD) ⟨eD,fun i hi=>?_⟩ ⟨okb,fun i hi=>?_,by omega,by rw [← hNN]; exact PL.nz,by rw [← hNN]; exact PL.ends hend,fun i hi=>(hX i hi).2.2.2.2.2.1,fun i hi=>(hX i hi).2.2.2.2.2.2.1,fun i hi=>(hX i hi).2.2.2.2.2.2.2.1,fun i hi=>(hX i hi).2.2.2.2.2.2.2.2⟩ (GB.grow GI.T2 bD0) GB.r (dvd_bd wd.dvd (ne_of_nd (GI.ok.nz hq)))
      · obtain ⟨h1,h3,h4,h5,h6,_⟩:=hX i hi
        exact ⟨h1,nA i hi,h3,h4,h5,h6⟩
      · have e:=(wd.each i (by omega)).1
        have em:midI ts ((i:Int) - (h:Int)) = ts.getD i 0:=by
          unfold midI
          rw [lt,show (2 * h + 1) / 2 = h by omega,if_pos (by omega),show ((h:Int) + ((i:Int) - (h:Int))).toNat = i by omega]
        rw [em]
        exact e
theorem sc_grown:FnScope ["world","row","front","back","n","many","wholes","both","pair"] ["world","row","front","back"] (defScope s_grown):=⟨rfl,rfl,rfl,by decide +kernel,rfl,by decide +kernel,by decide +kernel⟩
theorem ok_grown (T:Txt K mg t):FnOk P w K mg base (CXF P w) 7 t.f_grown t.d_grown ["world","row","front","back"] (spGrown t.C_World):=by
  have S:=sc_grown
  have G_shifted_size:=ok_shifted_size (P:=P) (w:=w) (base:=base) T
  have G_World_as_wholes:=ok_as_wholes (P:=P) (w:=w) (base:=base) T
  have G_next_pair:=ok_next_pair58 (P:=P) (w:=w) (base:=base) T
  have G_told_pair:=ok_told_pair (P:=P) (w:=w) (base:=base) T
  refine T.F_grown.okX S (fun vs H Q E h=>?_) (fun cdv A outer s H vs Q E hr h L=>?_)
  · obtain ⟨z,a,f,g,q,ps,F,G,D,f0,T',h,k,r,b,rfl,_⟩:=h
    rfl
  · obtain ⟨z,a,f,g,q,ps,F,G,D,f0,T',h,k,r,b,rfl,⟨dz,hd⟩,hq,hA,GI,T36,D36,hF,hG,PI,kh,GS,nz,kN,kY⟩:=h
    refine ⟨_,(@pss_cons _ _ _ _ _ (@ps_put _ _ 4 _ _ _ _ (by rfl) (by first | exact .inl rfl | exact .inr rfl | assumption) S.nd rfl (Or.inl rfl) (pe_call G_shifted_size (hr.mono (by decide)) rfl T.mg_shifted_size T.F_shifted_size.kp T.b_shifted_size .nil (passF L) (@pa_mor _ _ _ _ _ (by rfl) (pv 1) pa_nil)))
      (@pss_cons _ _ _ _ _ (@ps_put _ _ 5 _ _ _ _ (by rfl) (by first | exact .inl rfl | exact .inr rfl | assumption) S.nd rfl (Or.inl rfl) (pe_callB call_len_seq rfl T.n_len boot_len (@pa_mor _ _ _ _ _ (by rfl) (pv 2) pa_nil)))
      (@pss_cons _ _ _ _ _ (@ps_if _ _ _ _ _ _ _ _ (PW.pt (@pw_or _ _ _ _ _ _ _ (@pt_cmpR _ _ _ _ _ _ _ _ op_ne (pe_callB call_len_seq rfl T.n_len boot_len (@pa_mor _ _ _ _ _ (by rfl) (pv 3) pa_nil)) (pv 5) (nomark _)) (@pw_or1 _ _ _ _ (@pt_not _ _ _ _ (pt_chain op_le op_lt pe_int (pv 5) (pv 4)))))) (@pss_one _ _ _ (ps_raise L rfl PySem.F.excBase_ValueError T.x_NoFit rfl T.mg_NoFit (@pa_mor _ _ _ _ _ (by rfl) pe_str pa_nil))) pss_nil)
      (@pss_cons _ _ _ _ _ (@ps_put _ _ 6 _ _ _ _ (by rfl) (by first | exact .inl rfl | exact .inr rfl | assumption) S.nd rfl (Or.inl rfl) (pe_meth (pv 0) T.cl_World T.m_World_as_wholes G_World_as_wholes (hr.mono (by decide)) T.b_World_as_wholes .nil pass0 (@pa_mor _ _ _ _ _ (by rfl) (pv 1) pa_nil)))
      (@pss_cons _ _ _ _ _ (@ps_put _ _ 7 _ _ _ _ (by rfl) (by first | exact .inl rfl | exact .inr rfl | assumption) S.nd rfl (Or.inl rfl) (pe_meth (pv 0) T.cl_World T.m_World_as_wholes G_World_as_wholes (hr.mono (by decide)) T.b_World_as_wholes .nil pass0 (@pa_mor _ _ _ _ _ (by rfl) (@pe_op _ _ _ _ _ _ _ _ op_cat (pv 2) (pv 3)) pa_nil)))
      (@pss_cons _ _ _ _ _ (@ps_put _ _ 8 _ _ _ _ (by rfl) (by first | exact .inl rfl | exact .inr rfl | assumption) S.nd rfl (Or.inl rfl) (pe_call G_next_pair (hr.mono (by decide)) rfl T.mg_next_pair T.F_next_pair.kp T.b_next_pair .nil pass0 (@pa_mor _ _ _ _ _ (by rfl) (pv 0) (@pa_mor _ _ _ _ _ (by rfl) (@pe_ix _ _ _ _ _ _ _ ix_tup (pv 6) pe_int (fun _ _=>rfl)) (@pa_mor _ _ _ _ _ (by rfl) (@pe_tup _ _ _ _ _ (@pa_mor _ _ _ _ _ (by rfl) (@pe_slice _ _ _ _ _ _ _ _ _ _ sl_list (@pe_ix _ _ _ _ _ _ _ ix_tup (pv 7) pe_int (fun _ _=>rfl)) po_none (po_some (pv 5))) (@pa_mor _ _ _ _ _ (by rfl) (@pe_slice _ _ _ _ _ _ _ _ _ _ sl_list (@pe_ix _ _ _ _ _ _ _ ix_tup (pv 7) pe_int (fun _ _=>rfl)) (po_some (pv 5)) po_none) (@pa_mor _ _ _ _ _ (by rfl) (@pe_op _ _ _ _ _ _ _ _ op_mulM (@pe_ix _ _ _ _ _ _ _ ix_tup (pv 7) pe_int (fun _ _=>rfl)) (@pe_ix _ _ _ _ _ _ _ ix_tup (pv 6) pe_int (fun _ _=>rfl))) pa_nil)))) (@pa_mor _ _ _ _ _ (by rfl) pe_int pa_nil))))))
      (@pss_cons _ _ _ _ _ (@ps_if _ _ _ _ _ _ _ _ (@pt_cmpR _ _ _ _ _ _ _ _ op_eq (@pe_ix _ _ _ _ _ _ _ ix_tup (pv 8) pe_int (fun _ _=>rfl)) pe_int (nomark _)) (@pss_one _ _ _ (@ps_ret _ _ _ _ pe_non)) pss_nil)
      (@pss_one _ _ _ (@ps_ret _ _ _ _ (pe_call G_told_pair (hr.mono (by decide)) rfl T.mg_told_pair T.F_told_pair.kp T.b_told_pair .nil pass0 (@pa_mor _ _ _ _ _ (by rfl) (pv 0) (@pa_mor _ _ _ _ _ (by rfl) (pv 8) (@pa_mor _ _ _ _ _ (by rfl) (@pe_ix _ _ _ _ _ _ _ ix_tup (pv 6) pe_int (fun _ _=>rfl)) pa_nil))))))))))))),?_⟩
    obtain ⟨vs,ea,lv,fv⟩:=id hA
    obtain ⟨us,ef,lu,fu⟩:=id hF
    obtain ⟨ws,eg,lw,fw⟩:=id hG
    have lp:=GI.len
    have h40:=GI.h40
    have lF:=PI.lF
    have lG:=PI.lG
    have k1:=PI.k1
    have nb:¬ ShBad vs.length:=fun e=>by
      rcases e with e | e <;> omega
    refine ⟨_,rfl,a,vs,rfl,ea,by omega,fun hb=>absurd hb nb,fun hg=>?_⟩
    rw [show (vs.length + 1) / 2 = h + 1 by omega]
    dsimp only [gName]
    refine ⟨_,rfl,f,us,rfl,.inl (.of ef),?_⟩
    rw [show us.length = k by omega]
    dsimp only [gName]
    refine ⟨_,rfl,g,ws,rfl,.inl (.of eg),_,rfl,rfl,_,rfl,ite2 (fun hc=>?_) (fun _=>?_)⟩
    · exfalso
      simp [show ws.length = k by omega] at hc
    refine ⟨_,rfl,_,_,rfl,rfl,_,rfl,ite2 (fun _=>?_) (fun hc=>absurd (decide_eq_true (show (1:Int) ≤ (k:Int) by omega)) hc)⟩
    refine ⟨_,rfl,_,_,rfl,rfl,_,rfl,ite2 (fun hc=>?_) (fun _=>?_)⟩
    · exfalso
      rw [decide_eq_true (show (k:Int) < ((h + 1:Nat):Int) by omega)] at hc
      cases hc
    dsimp only [tNext]
    refine ⟨_,rfl,z,dz,_,rfl,hd,lk_no (by decide +kernel),_,rfl,z,a,q,ps,10 ^ 150,D,rfl,⟨dz,hd⟩,hq,hA,by omega,GI.ok,GI.dvd,Nat.le_refl _,by decide +kernel,Nat.le_trans GI.bD (by decide +kernel),fun v H1 ts b' s1 hw wd=>?_⟩
    obtain ⟨tp,l,rfl,etp,el,nl⟩:=hw
    obtain ⟨GB,rts⟩:=GI.bd hq hA.canonP wd
    have lt:ts.length = 2 * h + 1:=by rw [wd.len,lp]
    have b36:b'.natAbs ≤ 10 ^ 36:=Nat.le_trans (dvd_bd wd.dvd (ne_of_nd (GI.ok.nz hq))) D36
    have r36:∀ d,(midI ts d).natAbs ≤ 10 ^ 36:=fun d=>Nat.le_trans (GB.r d) (by
      split
      · exact T36
      · decide +kernel)
    have al:Alike q (h + 1) (1 * b) (1 * b') (midI ts) r:=alike_rep hq hA.canonP PI.rep (midI_rep wd lp)
    have nb':=wd.ok.nz hq
    dsimp only [gName]
    have k150:1000 ≤ 10 ^ 150:=by decide +kernel
    have nD:=PI.nz
    have kk:k ≤ h + 1:=by omega
    have rF:RowG (10 ^ 150) H q f F:=hF.resizeW hq lF nD PI.wF (fun z j _=>by
      rw [Int.natAbs_mul]
      exact Nat.le_trans (Nat.mul_le_mul (GS.bF z k _ kk).1 GS.bb) (by decide +kernel)) (fun z=>Nat.le_trans (GS.bD z k kh) (by decide +kernel)) k150
    have rG:RowG (10 ^ 150) H q g G:=hG.resizeW hq lG nD PI.wG (fun z j _=>by
      rw [Int.natAbs_mul]
      exact Nat.le_trans (Nat.mul_le_mul (GS.bF z k _ kk).2 GS.bb) (by decide +kernel)) (fun z=>Nat.le_trans (GS.bD z k kh) (by decide +kernel)) k150
    obtain ⟨_,ef',_,fu'⟩:=id rF
    obtain ⟨_,eg',_,fw'⟩:=id rG
    rw [ef] at ef'
    cases ef'
    rw [eg] at eg'
    cases eg'
    have cF:=hF.canonP
    have cG:=hG.canonP
    have cFG:∀ p ∈ F ++ G,Canon q p:=fun p hp=>by
      rcases List.mem_append.mp hp with y | y
      · exact cF p y
      · exact cG p y
    obtain ⟨D',f',okD,dvD,bD,wD⟩:=one_over (X:=10 ^ 146) (Y:=10 ^ 110) hq cFG nD PI.both (fun z j _=>PI.bothX GS z j) (fun z=>GS.bD z k kh) (by decide +kernel) (by decide +kernel)
    have hd1:=s1 _ _ hd
    refine ⟨_,rfl,z,dz,_,rfl,hd1,lk_no (by decide +kernel),_,rfl,_,rfl,f,g,us,ws,rfl,rfl,s1 _ _ ef,s1 _ _ eg,Nat.le_trans (show _ ≤ 100 by omega) (by decide),fun c0 n0=>?_⟩
    have s2:Same H1 (upd H1 c0 (.lst (us ++ ws))):=same_upd n0
    have s12:=s1.trans s2
    have rB:RowG (10 ^ 150) (upd H1 c0 (.lst (us ++ ws))) q c0 (F ++ G):=RowG.cat upd_same lu lw (fun i v p h1 h2=>(fu' i v p h1 h2).mono s12) (fun i v p h1 h2=>(fw' i v p h1 h2).mono s12)
    generalize upd H1 c0 (.lst (us ++ ws)) = H2 at s2 s12 rB ⊢
    refine ⟨z,c0,q,F ++ G,10 ^ 150,D',rfl,⟨dz,s12 _ _ hd⟩,hq,rB,by rw [List.length_append]; omega,okD,dvD,Nat.le_refl _,k150,Nat.le_trans bD (by decide +kernel),fun v H3 cs c s3 hw2 wd2=>?_⟩
    obtain ⟨tp2,l2,rfl,etp2,el2,nl2⟩:=hw2
    have s13:=s12.trans s3
    have s23:=s2.trans s3
    have SC:=PI.scl hq cF cG al nb' nz kh wd2
    have lc:cs.length = k + k:=by rw [wd2.len,List.length_append]; omega
    have bcs:∀ x ∈ cs,x.natAbs ≤ 10 ^ 146:=fun x hx=>by
      obtain ⟨i,hi,rfl⟩:=List.getElem_of_mem hx
      have hi':i < (F ++ G).length:=by rw [← wd2.len]; exact hi
      have e:=(wd2.each i hi').1
      rw [getD_at hi] at e
      exact whole_bd hq (by decide +kernel) (canonD hq cFG i) e wd2.ok okD wd2.dvd (wD i hi').1 (wD i hi').2
    have bc:c.natAbs ≤ 10 ^ 110:=Nat.le_trans (dvd_bd wd2.dvd (ne_of_nd (okD.nz hq))) bD
    have bE:(c * b').natAbs ≤ 10 ^ 146:=by
      rw [Int.natAbs_mul]
      exact Nat.le_trans (Nat.mul_le_mul bc b36) (by decide +kernel)
    have nE:¬ q ∣ c * b':=nz_mul hq (wd2.ok.nz hq) nb'
    dsimp only [gName]
    refine ⟨_,rfl,_,rfl,tp,_,_,_,rfl,rfl,.of (s23 _ _ etp),rfl,_,rfl,tp2,_,_,_,rfl,rfl,.of etp2,rfl,_,rfl,_,rfl,l2,cs.map V.int,rfl,.of el2,fun c1 n1=>?_⟩
    rw [cutV_take _ k (by rw [List.length_map]; omega),← List.map_take]
    have s4:Same H3 (upd H3 c1 (.lst ((cs.take k).map V.int))):=same_upd n1
    have ec1:upd H3 c1 (.lst ((cs.take k).map V.int)) c1 = some (.lst ((cs.take k).map V.int)):=upd_same
    generalize upd H3 c1 (.lst ((cs.take k).map V.int)) = H4 at s4 ec1 ⊢
    refine ⟨_,rfl,tp2,_,_,_,rfl,rfl,.of (s4 _ _ etp2),rfl,_,rfl,_,rfl,l2,cs.map V.int,rfl,.of (s4 _ _ el2),fun c2 n2=>?_⟩
    rw [cutV_drop9 _ k (by rw [List.length_map]; omega),← List.map_drop]
    have s5:Same H4 (upd H4 c2 (.lst ((cs.drop k).map V.int))):=same_upd n2
    have ec2:upd H4 c2 (.lst ((cs.drop k).map V.int)) c2 = some (.lst ((cs.drop k).map V.int)):=upd_same
    generalize upd H4 c2 (.lst ((cs.drop k).map V.int)) = H5 at s5 ec2 ⊢
    have s35:=s4.trans s5
    have m146:∀ {x:Int},x.natAbs ≤ 10 ^ 146→Mid x:=fun h=>mid520 (Nat.le_trans h (by decide +kernel))
    have mb':Mid b':=mid520 (Nat.le_trans b36 (by decide +kernel))
    refine ⟨_,rfl,tp2,_,_,_,rfl,rfl,.of (s35 _ _ etp2),rfl,_,rfl,tp,_,_,_,rfl,rfl,.of ((s23.trans s35) _ _ etp),rfl,_,_,rfl,rfl,⟨m146 (Nat.le_trans bc (by decide +kernel)),mb'⟩,by show 3 ≤ sizeLine; decide,fun p0 np0=>?_⟩
    have s6:Same H5 (upd H5 p0 (.tup [.ref c1,.ref c2,.int (c * b')])):=same_upd np0
    have ep0:upd H5 p0 (.tup [.ref c1,.ref c2,.int (c * b')]) p0 = some (.tup [.ref c1,.ref c2,.int (c * b')]):=upd_same
    generalize upd H5 p0 (.tup [.ref c1,.ref c2,.int (c * b')]) = H6 at s6 ep0 ⊢
    have s36:=s35.trans s6
    have s16:=s13.trans s36
    have g150:∀ {x:Int},x.natAbs ≤ 10 ^ 146→x.natAbs ≤ 10 ^ 150:=fun h=>Nat.le_trans h (by decide +kernel)
    refine ⟨z,l,p0,c1,c2,q,ts,cs.take k,cs.drop k,c * b',h,k,rfl,⟨dz,s16 _ _ hd⟩,hq,(s23.trans s36) _ _ el,lt,h40,ep0,s6 _ _ (s5 _ _ ec1),s6 _ _ ec2,SC.lf,SC.lb,k1,kh,r36,fun x hx=>g150 (bcs x (List.mem_of_mem_take hx)),fun x hx=>g150 (bcs x (List.mem_of_mem_drop hx)),g150 bE,fun p' fa ba gs ds more H7 s7 np' nfa nba ep' efa eba lg ld hg hd' hm rm bg bd bm=>?_⟩
    have s17:=s16.trans s7
    have z1:=SC.zero hq nE hm
    have z2:=res_zero rm
    have z3:q ∣ topD (k + 1) (midI ts) ↔ q ∣ topD (k + 1) r:=by
      have al':=al.sub (show k + 1 ≤ h + 1 by omega)
      have n1:¬ q ∣ 1 * b:=by rw [Int.one_mul]; exact PI.ok.nz hq
      have n2:¬ q ∣ 1 * b':=by rw [Int.one_mul]; exact nb'
      exact ⟨fun y=>Classical.byContradiction fun n=>topD_nz hq al' n2 n y,fun y=>Classical.byContradiction fun n=>topD_nz hq al'.symm n1 n y⟩
    dsimp only [gName]
    refine ⟨_,rfl,p',_,_,_,rfl,rfl,.of ep',rfl,rfl,_,rfl,ite2 (fun h0=>?_) (fun h0=>?_)⟩
    · have m0:more = 0:=by simpa using h0
      exact kN (z3.mp (z1.mp (z2.mpr m0))) H7 s17
    have m0:more ≠ 0:=fun e=>h0 (by rw [e]; rfl)
    have nm:¬ q ∣ more:=fun y=>m0 (z2.mp y)
    have n2:¬ q ∣ topD (k + 1) r:=fun y=>nm (z1.mpr (z3.mpr y))
    have m400:∀ {x:Int},x.natAbs ≤ 10 ^ 400→Mid x:=fun h=>mid520 (Nat.le_trans h (by decide +kernel))
    have t440:∀ {x:Int},x.natAbs ≤ 10 ^ 400→(x * b').natAbs ≤ 10 ^ 440:=fun h=>by
      rw [Int.natAbs_mul]
      exact Nat.le_trans (Nat.mul_le_mul h b36) (by decide +kernel)
    dsimp only [tNext]
    refine ⟨_,rfl,_,rfl,_,rfl,tp,_,_,_,rfl,rfl,.of ((s23.trans (s36.trans s7)) _ _ etp),rfl,z,p',fa,ba,q,more,b',gs,ds,10 ^ 440,rfl,⟨dz,s17 _ _ hd⟩,hq,ep',efa,eba,by omega,by omega,nm,m400 bm,mb',fun x hx=>⟨m400 (bg x hx),t440 (bg x hx)⟩,fun x hx=>⟨m400 (bd x hx),t440 (bd x hx)⟩,Nat.le_trans bm (by decide +kernel),fun t' fx bx F' G' H8 s8 nt nfx nbx nfb et rF' rG' lF' lG' wF' wG'=>?_⟩
    rw [lg] at lF' wF'
    rw [ld] at lG' wG'
    have PN:=PI.next hq al nb' nz n2 kh SC nm hg hd' hm lF' lG' wF' wG'
    have k230:1000 ≤ 10 ^ 230:=by decide +kernel
    have kk1:=PN.kh
    exact kY n2 t' fx bx F' G' H8 (s17.trans s8) (none_of s17 nt) (none_of s17 nfx) (none_of s17 nbx) nfb et (rF'.resizeW hq lF' n2 PN.wF (fun z j _=>by
      rw [Int.natAbs_mul]
      exact Nat.le_trans (Nat.mul_le_mul (PN.B.bF z _ _ kk1).1 PN.B.bb) (by decide +kernel)) (fun z=>Nat.le_trans (PN.B.bD z _ kk1) (by decide +kernel)) k230) (rG'.resizeW hq lG' n2 PN.wG (fun z j _=>by
      rw [Int.natAbs_mul]
      exact Nat.le_trans (Nat.mul_le_mul (PN.B.bF z _ _ kk1).2 PN.B.bb) (by decide +kernel)) (fun z=>Nat.le_trans (PN.B.bD z _ kk1) (by decide +kernel)) k230) PN
theorem sc_law_e_fill:FnScope ["cell","at","x"] ["cell","at"] (defScope s_law_e_fill):=⟨rfl,rfl,rfl,by decide +kernel,rfl,by decide +kernel,by decide +kernel⟩
theorem ok_law_e_fill (T:Txt K mg t):FnOk P w K mg base CX0 1 t.f_law_e_fill t.d_law_e_fill ["cell","at"] spFill:=by
  have S:=sc_law_e_fill
  refine T.F_law_e_fill.ok S (fun vs H Q E h=>?_) (fun cdv A outer s H vs Q E hr h=>?_)
  · obtain ⟨c,a,rfl,_⟩:=h
    rfl
  · obtain ⟨c,a,rfl,ha,k⟩:=h
    refine ⟨_,(@pss_cons _ _ _ _ _ (@ps_if _ _ _ _ _ _ _ _ (@pt_cmpR _ _ _ _ _ _ _ _ op_ge (pv 0) (@pe_op _ _ _ _ _ _ _ _ op_pow pe_int pe_int) (nomark _)) (@pss_one _ _ _ (@ps_ret _ _ _ _ (pv 0))) pss_nil)
      (@pss_cons _ _ _ _ _ (@ps_put _ _ 2 _ _ _ _ (by rfl) (by first | exact .inl rfl | exact .inr rfl | assumption) S.nd rfl (Or.inl rfl) (@pe_op _ _ _ _ _ _ _ _ op_mod (@pe_op _ _ _ _ _ _ _ _ op_add (@pe_op _ _ _ _ _ _ _ _ op_add (@pe_op _ _ _ _ _ _ _ _ op_mul (@pe_op _ _ _ _ _ _ _ _ op_mod (pv 0) pe_int) pe_int) (@pe_op _ _ _ _ _ _ _ _ op_mul (pv 1) pe_int)) pe_int) pe_int))
      (@pss_cons _ _ _ _ _ (@ps_put _ _ 2 _ _ _ _ (by rfl) (by first | exact .inl rfl | exact .inr rfl | assumption) S.nd rfl (Or.inl rfl) (@pe_op _ _ _ _ _ _ _ _ op_mod (@pe_op _ _ _ _ _ _ _ _ op_add (@pe_op _ _ _ _ _ _ _ _ op_add (@pe_op _ _ _ _ _ _ _ _ op_add (@pe_op _ _ _ _ _ _ _ _ op_mul (pv 2) (pv 2)) (@pe_op _ _ _ _ _ _ _ _ op_mul pe_int (pv 2))) (pv 1)) pe_int) pe_int))
      (@pss_one _ _ _ (@ps_ret _ _ _ _ (@pe_op _ _ _ _ _ _ _ _ op_add (@pe_op _ _ _ _ _ _ _ _ op_mul (pv 2) pe_int) (@pe_op _ _ _ _ _ _ _ _ op_mod (@pe_op _ _ _ _ _ _ _ _ op_add (@pe_op _ _ _ _ _ _ _ _ op_add (@pe_op _ _ _ _ _ _ _ _ op_mul (pv 2) (pv 2)) (@pe_op _ _ _ _ _ _ _ _ op_mul pe_int (pv 1))) pe_int) pe_int))))))),?_⟩
    refine ⟨_,rfl,_,_,rfl,rfl,⟨by decide,by decide,by decide⟩,_,_,rfl,rfl,_,rfl,ite2 (fun h=>?_) (fun h=>?_)⟩
    · have h:=of_decide_eq_true h
      exact ⟨_,rfl,k _ (Int.le_trans (by decide) h)⟩
    · refine ⟨_,rfl,_,_,rfl,rfl,(by show (0:Int) < 2147483647; decide),_,_,rfl,rfl,.inr ⟨by decide,by decide⟩,_,rfl,_,_,rfl,rfl,.inr ⟨by decide,by decide⟩,_,_,rfl,rfl,_,_,rfl,rfl,_,_,rfl,rfl,(by show (0:Int) < 2147483399; decide),?_⟩
      have b0:=Int.emod_nonneg (c % 2147483647 * 40692 + a * 65539 + 7) (show (2147483399:Int) ≠ 0 by decide)
      have b1:=Int.emod_lt_of_pos (c % 2147483647 * 40692 + a * 65539 + 7) (show (0:Int) < 2147483399 by decide)
      generalize (c % 2147483647 * 40692 + a * 65539 + 7) % 2147483399 = x at b0 b1 ⊢
      refine ⟨_,rfl,_,rfl,_,_,rfl,rfl,.inl ⟨by omega,by omega⟩,_,rfl,_,_,rfl,rfl,.inl ⟨by decide,by decide⟩,_,_,rfl,rfl,_,rfl,_,_,rfl,rfl,_,_,rfl,rfl,_,_,rfl,rfl,(by show (0:Int) < 2147483563; decide),?_⟩
      have c0:=Int.emod_nonneg (x * x + 40014 * x + a + 1) (show (2147483563:Int) ≠ 0 by decide)
      have c1:=Int.emod_lt_of_pos (x * x + 40014 * x + a + 1) (show (0:Int) < 2147483563 by decide)
      generalize (x * x + 40014 * x + a + 1) % 2147483563 = y at c0 c1 ⊢
      refine ⟨_,rfl,_,_,rfl,rfl,.inr ⟨by decide,by decide⟩,_,rfl,_,rfl,_,_,rfl,rfl,.inl ⟨by omega,by omega⟩,_,rfl,_,_,rfl,rfl,.inl ⟨by decide,by decide⟩,_,_,rfl,rfl,_,_,rfl,rfl,_,_,rfl,rfl,(by show (0:Int) < 2147483543; decide),_,_,rfl,rfl,k _ (Int.add_nonneg (Int.mul_nonneg (Int.emod_nonneg _ (by decide)) (by decide)) (Int.emod_nonneg _ (by decide)))⟩
theorem sc_law_e_next:FnScope ["pen","many","at","cell","found"] ["pen","many"] (defScope s_law_e_next):=⟨rfl,rfl,rfl,by decide +kernel,rfl,by decide +kernel,by decide +kernel⟩
theorem ok_law_e_next (T:Txt K mg t):FnOk P w K mg base CX0 2 t.f_law_e_next t.d_law_e_next ["pen","many"] (spNext K):=by
  have S:=sc_law_e_next
  have G_law_e_fill:=ok_law_e_fill (P:=P) (w:=w) (base:=base) T
  refine T.F_law_e_next.ok S (fun vs H Q E h=>?_) (fun cdv A outer s H vs Q E hr h=>?_)
  · obtain ⟨P0,a,ns,many,rfl,_⟩:=h
    rfl
  · obtain ⟨P0,a,ns,many,rfl,⟨x,y,eP,hx,hy⟩,hS,m1,mm,k⟩:=h
    have hu8:=hr.units
    refine ⟨_,(@pss_cons _ _ _ _ _ (@ps_if _ _ _ _ _ _ _ _ (@pt_cmpR _ _ _ _ _ _ _ _ op_lt (@pe_ix _ _ _ _ _ _ _ ix_list (pv 0) pe_int (fun _ _=>rfl)) (pv 1) (nomark _)) (@pss_cons _ _ _ _ _ (@ps_put _ _ 2 _ _ _ _ (by rfl) (by first | exact .inl rfl | exact .inr rfl | assumption) S.nd rfl (Or.inl rfl) (@pe_ix _ _ _ _ _ _ _ ix_list (pv 0) pe_int (fun _ _=>rfl)))
      (@pss_cons _ _ _ _ _ (@ps_put _ _ 3 _ _ _ _ (by rfl) (by first | exact .inl rfl | exact .inr rfl | assumption) S.nd rfl (Or.inl rfl) pe_int)
      (@pss_cons _ _ _ _ _ (@ps_if _ _ _ _ _ _ _ _ (@pt_cmpR _ _ _ _ _ _ _ _ op_lt (pv 2) (pe_callB call_len_seq rfl T.n_len boot_len (@pa_mor _ _ _ _ _ (by rfl) (@pe_ix _ _ _ _ _ _ _ ix_list (pv 0) pe_int (fun _ _=>rfl)) pa_nil)) (nomark _)) (@pss_one _ _ _ (@ps_put _ _ 3 _ _ _ _ (by rfl) (by first | exact .inl rfl | exact .inr rfl | assumption) S.nd rfl (Or.inl rfl) (@pe_ix _ _ _ _ _ _ _ ix_list (@pe_ix _ _ _ _ _ _ _ ix_list (pv 0) pe_int (fun _ _=>rfl)) (pv 2) (fun _ _=>rfl)))) (@pss_one _ _ _ (@ps_if _ _ _ _ _ _ _ _ (@pt_cmpR _ _ _ _ _ _ _ _ (op_neE hu8) (@pe_ix _ _ _ _ _ _ _ ix_list (pv 0) pe_int (fun _ _=>rfl)) (@pe_lst _ _ _ _ pa_nil) (nomark _)) (@pss_one _ _ _ (@ps_put _ _ 3 _ _ _ _ (by rfl) (by first | exact .inl rfl | exact .inr rfl | assumption) S.nd rfl (Or.inl rfl) (@pe_op _ _ _ _ _ _ _ _ op_add (@pe_op _ _ _ _ _ _ _ _ op_mod (@pe_ix _ _ _ _ _ _ _ ix_list (@pe_ix _ _ _ _ _ _ _ ix_list (pv 0) pe_int (fun _ _=>rfl)) (@pe_op _ _ _ _ _ _ _ _ op_mod (@pe_op _ _ _ _ _ _ _ _ op_mul (pv 2) pe_int) (pe_callB call_len_seq rfl T.n_len boot_len (@pa_mor _ _ _ _ _ (by rfl) (@pe_ix _ _ _ _ _ _ _ ix_list (pv 0) pe_int (fun _ _=>rfl)) pa_nil))) (fun _ _=>rfl)) pe_int) (@pe_op _ _ _ _ _ _ _ _ op_mul (pv 2) pe_int)))) pss_nil)))
      (@pss_cons _ _ _ _ _ (@ps_asg _ _ _ _ _ _ (@pe_op _ _ _ _ _ _ _ _ op_add (pv 2) pe_int) (pg_sub (pv 0) pe_int set_list) (by rfl) (by rfl) (by rfl))
      (@pss_one _ _ _ (@ps_asg _ _ _ _ _ _ (pe_call G_law_e_fill (hr.mono (by decide)) rfl T.mg_law_e_fill T.F_law_e_fill.kp T.b_law_e_fill .nil pass0 (@pa_mor _ _ _ _ _ (by rfl) (pv 3) (@pa_mor _ _ _ _ _ (by rfl) (pv 2) pa_nil))) (pg_sub (pv 0) pe_int set_list) (by rfl) (by rfl) (by rfl))))))) pss_nil)
      (@pss_cons _ _ _ _ _ (@ps_put _ _ 4 _ _ _ _ (by rfl) (by first | exact .inl rfl | exact .inr rfl | assumption) S.nd rfl (Or.inl rfl) (@pe_op _ _ _ _ _ _ _ _ op_mod (@pe_ix _ _ _ _ _ _ _ ix_list (pv 0) pe_int (fun _ _=>rfl)) (pv 1)))
      (@pss_cons _ _ _ _ _ (@ps_asg _ _ _ _ _ _ (@pe_op _ _ _ _ _ _ _ _ op_fdivP (@pe_ix _ _ _ _ _ _ _ ix_list (pv 0) pe_int (fun _ _=>rfl)) (pv 1)) (pg_sub (pv 0) pe_int set_list) (by rfl) (by rfl) (by rfl))
      (@pss_one _ _ _ (@ps_ret _ _ _ _ (pv 4)))))),?_⟩
    have hS':=er_le.seq hS
    refine ⟨_,rfl,P0,_,_,_,rfl,rfl,.of eP,rfl,_,rfl,_,_,rfl,rfl,_,rfl,ite2 (fun hlt=>?_) (fun hlt=>?_)⟩
    · refine ⟨_,rfl,P0,_,_,_,rfl,rfl,.of eP,rfl,?_⟩
      refine ⟨_,rfl,_,rfl,P0,_,_,_,rfl,rfl,.of eP,rfl,a,ns.map V.int,rfl,.inl hS',_,_,rfl,rfl,_,rfl,ite2 (fun h1=>?_) (fun h1=>?_)⟩
      · have h1:x < ((ns.map V.int).length:Int):=of_decide_eq_true h1
        obtain ⟨v,hv,mv⟩:=atI_some (xs:=ns.map V.int) hx h1
        obtain ⟨c,_,rfl⟩:=List.mem_map.mp mv
        refine ⟨_,rfl,P0,_,_,_,rfl,rfl,.of eP,rfl,_,rfl,a,ns.map V.int,_,_,rfl,rfl,hS',hv,?_⟩
        refine ⟨_,rfl,_,_,rfl,rfl,_,rfl,P0,_,1,1,rfl,rfl,eP,rfl,?_⟩
        refine ⟨_,rfl,_,rfl,c,x,rfl,hx,fun r hr'=>⟨_,rfl,P0,_,2,2,rfl,rfl,upd_same,rfl,?_⟩⟩
        have q0:=Int.emod_nonneg (r) (show many ≠ 0 by omega)
        have q1:=Int.emod_lt_of_pos (r) (show 0 < many by omega)
        have q2:=Int.ediv_nonneg (hr') (show 0 ≤ many by omega)
        refine ⟨_,rfl,P0,_,_,_,rfl,rfl,.of upd_same,rfl,_,rfl,_,_,rfl,rfl,(show 0 < many by omega),?_⟩
        refine ⟨_,rfl,P0,_,_,_,rfl,rfl,.of upd_same,rfl,_,rfl,_,_,rfl,rfl,⟨show 0 < many by omega,mm⟩,_,rfl,P0,_,2,2,rfl,rfl,upd_same,rfl,?_⟩
        exact ⟨_,rfl,k _ _ q0 q1 (((SameE.refl H).trans SameE.pen).trans (SameE.pen.trans SameE.pen)) ⟨x + 1,r / many,upd_same,by omega,q2⟩⟩
      · refine ⟨_,rfl,P0,_,_,_,rfl,rfl,.of eP,rfl,by show 0 ≤ sizeLine; decide,fun l nl=>?_⟩
        have sl:Same H (upd H l (.lst [])):=same_upd nl
        refine ⟨a,l,ns.map V.int,rfl,rfl,sl.seq hS',upd_same,fun v hv=>?_,_,rfl,?_⟩
        · obtain ⟨c,_,rfl⟩:=List.mem_map.mp hv
          exact ⟨c,rfl⟩
        have eP2:=sl _ _ eP
        have hS2:=sl.seq hS'
        generalize upd H l (.lst []) = H2 at sl eP2 hS2 ⊢
        refine ite2 (fun h2=>?_) (fun h2=>?_)
        · have hl:0 < (ns.map V.int).length:=by
            cases ns with
            | nil=>simp at h2
            | cons=>simp
          have hm0:=Int.emod_nonneg (x * 5) (show ((ns.map V.int).length:Int) ≠ 0 by omega)
          have hm1:=Int.emod_lt_of_pos (x * 5) (show (0:Int) < ((ns.map V.int).length:Int) by omega)
          obtain ⟨v,hv,mv⟩:=atI_some (xs:=ns.map V.int) hm0 hm1
          obtain ⟨c,_,rfl⟩:=List.mem_map.mp mv
          refine ⟨_,rfl,P0,_,_,_,rfl,rfl,.of eP2,rfl,_,rfl,_,_,rfl,rfl,.inr ⟨by decide,by decide⟩,_,rfl,P0,_,_,_,rfl,rfl,.of eP2,rfl,a,ns.map V.int,rfl,.inl hS2,_,_,rfl,rfl,(show (0:Int) < ((ns.map V.int).length:Int) by omega),a,ns.map V.int,_,_,rfl,rfl,hS2,hv,_,_,rfl,rfl,(show (0:Int) < 1000003 by decide),_,rfl,_,_,rfl,rfl,.inr ⟨by decide,by decide⟩,_,_,rfl,rfl,?_⟩
          refine ⟨_,rfl,_,_,rfl,rfl,_,rfl,P0,_,1,1,rfl,rfl,eP2,rfl,?_⟩
          refine ⟨_,rfl,_,rfl,_,x,rfl,hx,fun r hr'=>⟨_,rfl,P0,_,2,2,rfl,rfl,upd_same,rfl,?_⟩⟩
          have q0:=Int.emod_nonneg (r) (show many ≠ 0 by omega)
          have q1:=Int.emod_lt_of_pos (r) (show 0 < many by omega)
          have q2:=Int.ediv_nonneg (hr') (show 0 ≤ many by omega)
          refine ⟨_,rfl,P0,_,_,_,rfl,rfl,.of upd_same,rfl,_,rfl,_,_,rfl,rfl,(show 0 < many by omega),?_⟩
          refine ⟨_,rfl,P0,_,_,_,rfl,rfl,.of upd_same,rfl,_,rfl,_,_,rfl,rfl,⟨show 0 < many by omega,mm⟩,_,rfl,P0,_,2,2,rfl,rfl,upd_same,rfl,?_⟩
          exact ⟨_,rfl,k _ _ q0 q1 (((SameE.of sl).trans SameE.pen).trans (SameE.pen.trans SameE.pen)) ⟨x + 1,r / many,upd_same,by omega,q2⟩⟩
        ·
          refine ⟨_,rfl,_,_,rfl,rfl,_,rfl,P0,_,1,1,rfl,rfl,eP2,rfl,?_⟩
          refine ⟨_,rfl,_,rfl,0,x,rfl,hx,fun r hr'=>⟨_,rfl,P0,_,2,2,rfl,rfl,upd_same,rfl,?_⟩⟩
          have q0:=Int.emod_nonneg (r) (show many ≠ 0 by omega)
          have q1:=Int.emod_lt_of_pos (r) (show 0 < many by omega)
          have q2:=Int.ediv_nonneg (hr') (show 0 ≤ many by omega)
          refine ⟨_,rfl,P0,_,_,_,rfl,rfl,.of upd_same,rfl,_,rfl,_,_,rfl,rfl,(show 0 < many by omega),?_⟩
          refine ⟨_,rfl,P0,_,_,_,rfl,rfl,.of upd_same,rfl,_,rfl,_,_,rfl,rfl,⟨show 0 < many by omega,mm⟩,_,rfl,P0,_,2,2,rfl,rfl,upd_same,rfl,?_⟩
          exact ⟨_,rfl,k _ _ q0 q1 (((SameE.of sl).trans SameE.pen).trans (SameE.pen.trans SameE.pen)) ⟨x + 1,r / many,upd_same,by omega,q2⟩⟩
    · dsimp only [tNext]
      have q0:=Int.emod_nonneg (y) (show many ≠ 0 by omega)
      have q1:=Int.emod_lt_of_pos (y) (show 0 < many by omega)
      have q2:=Int.ediv_nonneg (hy) (show 0 ≤ many by omega)
      refine ⟨_,rfl,P0,_,_,_,rfl,rfl,.of eP,rfl,_,rfl,_,_,rfl,rfl,(show 0 < many by omega),?_⟩
      refine ⟨_,rfl,P0,_,_,_,rfl,rfl,.of eP,rfl,_,rfl,_,_,rfl,rfl,⟨show 0 < many by omega,mm⟩,_,rfl,P0,_,2,2,rfl,rfl,eP,rfl,?_⟩
      exact ⟨_,rfl,k _ _ q0 q1 (SameE.pen) ⟨x,y / many,upd_same,hx,q2⟩⟩
theorem sc_law_e_low:FnScope ["top","bottom","one","other"] ["top","bottom"] (defScope s_law_e_low):=⟨rfl,rfl,rfl,by decide +kernel,rfl,by decide +kernel,by decide +kernel⟩
theorem ok_law_e_low (T:Txt K mg t):FnOk P w K mg base CX0 1 t.f_law_e_low t.d_law_e_low ["top","bottom"] spLow:=by
  have S:=sc_law_e_low
  refine T.F_law_e_low.ok S (fun vs H Q E h=>?_) (fun cdv A outer s H vs Q E hr h=>?_)
  · obtain ⟨a,b,rfl,_⟩:=h
    rfl
  · obtain ⟨a,b,rfl,hb,mb,k⟩:=h
    refine ⟨_,(@pss_cons _ _ _ _ _ (@ps_put _ _ 2 _ _ _ _ (by rfl) (by first | exact .inl rfl | exact .inr rfl | assumption) S.nd rfl (Or.inl rfl) (pe_callB call_abs rfl T.n_abs boot_abs (@pa_mor _ _ _ _ _ (by rfl) (pv 0) pa_nil)))
      (@pss_cons _ _ _ _ _ (@ps_put _ _ 3 _ _ _ _ (by rfl) (by first | exact .inl rfl | exact .inr rfl | assumption) S.nd rfl (Or.inl rfl) (pe_callB call_abs rfl T.n_abs boot_abs (@pa_mor _ _ _ _ _ (by rfl) (pv 1) pa_nil)))
      (@pss_cons _ _ _ _ _ (@ps_while _ _ _ _ _ _ PassesOwn.never (@pt_cmpR _ _ _ _ _ _ _ _ op_ne (pv 3) pe_int (nomark _)) (@pss_one _ _ _ (ps_par (i:=2) (j:=3) rfl S.nd rfl rfl (by decide) rfl rfl (@pa_mor _ _ _ _ _ (by rfl) (pv 3) (@pa_mor _ _ _ _ _ (by rfl) (@pe_op _ _ _ _ _ _ _ _ op_mod (pv 2) (pv 3)) pa_nil)) rfl)))
      (@pss_cons _ _ _ _ _ (@ps_if _ _ _ _ _ _ _ _ (@pt_cmpR _ _ _ _ _ _ _ _ op_lt (pv 1) pe_int (nomark _)) (@pss_one _ _ _ (@ps_put _ _ 2 _ _ _ _ (by rfl) (by first | exact .inl rfl | exact .inr rfl | assumption) S.nd rfl (Or.inl rfl) (@pe_un _ _ _ _ _ _ un_neg (pv 2)))) pss_nil)
      (@pss_one _ _ _ (@ps_ret _ _ _ _ (@pe_tup _ _ _ _ _ (@pa_mor _ _ _ _ _ (by rfl) (@pe_op _ _ _ _ _ _ _ _ op_fdivM (pv 0) (pv 2)) (@pa_mor _ _ _ _ _ (by rfl) (@pe_op _ _ _ _ _ _ _ _ op_fdivM (pv 1) (pv 2)) pa_nil))))))))),?_⟩
    have ok:=lowG_ok (a:=a) hb mb
    refine ⟨_,rfl,a,rfl,_,rfl,b,rfl,fun m σ H'=>H' = H∧∃ (x y:Nat),σ = [some (.int a),some (.int b),some (.int (x:Int)),some (.int (y:Int))]∧m = y∧Nat.gcd x y = Int.gcd a b,⟨b.natAbs,rfl,a.natAbs,b.natAbs,?_,rfl,rfl⟩,?_⟩
    · show [some (V.int a),some (V.int b),some (V.int (if a < 0 then -a else a)),some (V.int (if b < 0 then -b else b))] = _
      rw [abs_nat,abs_nat]
    · rintro m σ H' ⟨rfl,x,y,rfl,em,hg⟩
      refine ⟨_,rfl,rfl,_,rfl,ite2 (fun hy=>?_) (fun hy=>?_)⟩
      · have hy:y ≠ 0:=fun z=>by subst z; revert hy; decide
        refine ⟨fun σ' H2=>H2 = H'∧σ' = [some (.int a),some (.int b),some (.int (y:Int)),some (.int (((x % y:Nat)):Int))],?_,?_⟩
        · rintro σ' H2 ⟨rfl,rfl⟩
          exact ⟨x % y,by rw [em]; exact Nat.mod_lt _ (by omega),rfl,y,x % y,rfl,rfl,by rw [gcd_step]; exact hg⟩
        · exact ⟨_,rfl,_,rfl,_,rfl,_,_,rfl,rfl,(show (0:Int) < y by omega),_,_,rfl,rfl,rfl⟩
      · have y0:y = 0:=by
          by_cases z:y = 0
          · exact z
          · refine absurd ?_ hy
            rw [dV_int,decide_eq_false (by omega)]
            rfl
        subst y0
        rw [Nat.gcd_zero_right] at hg
        have fin1:∀ (g:Int),g = lowG a b→∀ (p:Addr),H' p = none→Q (.ref p) (upd H' p (.tup [.int (a.fdiv g),.int (b.fdiv g)])):=fun g e p hp=>by
          rw [e]
          exact k p _ (same_upd hp) upd_same
        refine ⟨_,rfl,_,_,rfl,rfl,_,rfl,ite2 (fun hn=>?_) (fun hn=>?_)⟩
        · have hn:b < 0:=of_decide_eq_true hn
          have eg:-(x:Int) = lowG a b:=by unfold lowG; rw [if_pos hn,hg,Int.zero_sub]
          have ok2:CDivM 0 (-(x:Int)):=by rw [eg]; exact ok
          exact ⟨_,rfl,_,rfl,_,rfl,_,rfl,_,_,rfl,rfl,ok2,_,rfl,_,rfl,_,_,rfl,rfl,ok2,by show 2 ≤ sizeLine; decide,fin1 _ eg⟩
        · have hn:¬ b < 0:=fun z=>hn (decide_eq_true z)
          have eg:(x:Int) = lowG a b:=by unfold lowG; rw [if_neg hn,hg]
          have ok2:CDivM 0 (x:Int):=by rw [eg]; exact ok
          exact ⟨_,rfl,_,rfl,_,_,rfl,rfl,ok2,_,rfl,_,rfl,_,_,rfl,rfl,ok2,by show 2 ≤ sizeLine; decide,fin1 _ eg⟩
theorem sc_law_e_of:FnScope ["told","number"] ["told","number"] (defScope s_law_e_of):=⟨rfl,rfl,rfl,by decide +kernel,rfl,by decide +kernel,by decide +kernel⟩
theorem ok_law_e_of (T:Txt K mg t) {B:Nat}:FnOk P w K mg base CX0 1 t.f_law_e_of t.d_law_e_of ["told","number"] (spEOf B):=by
  have S:=sc_law_e_of
  refine T.F_law_e_of.ok S (fun vs H Q E h=>?_) (fun cdv A outer s H vs Q E hr h=>?_)
  · obtain ⟨td,q,i,rfl,_⟩:=h
    rfl
  · obtain ⟨td,q,i,rfl,ht,hq,bi,b1,k⟩:=h
    refine ⟨_,(@pss_cons _ _ _ _ _ (@ps_if _ _ _ _ _ _ _ _ (@pt_cmpR _ _ _ _ _ _ _ _ op_eq (@pe_ix _ _ _ _ _ _ _ ix_tup (pv 0) pe_int (fun _ _=>rfl)) pe_str (nomark _)) (@pss_one _ _ _ (@ps_ret _ _ _ _ (@pe_op _ _ _ _ _ _ _ _ op_mod (pv 1) (@pe_ix _ _ _ _ _ _ _ ix_tup (pv 0) pe_int (fun _ _=>rfl))))) pss_nil)
      (@pss_one _ _ _ (@ps_ret _ _ _ _ (@pe_tup _ _ _ _ _ (@pa_mor _ _ _ _ _ (by rfl) (pv 1) (@pa_mor _ _ _ _ _ (by rfl) pe_int pa_nil)))))),?_⟩
    unfold ToldAt at ht
    by_cases z:q = 0
    · subst z
      rw [tdOf_zero] at ht
      refine ⟨_,rfl,td,_,_,_,rfl,rfl,.of ht,rfl,rfl,false,by decide +kernel,iteF ?_⟩
      refine ⟨_,rfl,by show 2 ≤ sizeLine; decide,fun r nr=>k _ _ (same_upd nr) ?_⟩
      unfold ofP
      rw [if_pos rfl]
      exact .frac upd_same ⟨show (1:Int) ≤ 1 by decide,Int.gcd_one_right ..⟩ bi (by show Int.natAbs 1 ≤ B; omega)
    · rw [tdOf_pos z] at ht
      obtain ⟨q2,q3,q4⟩:=hq.resolve_left z
      refine ⟨_,rfl,td,_,_,_,rfl,rfl,.of ht,rfl,rfl,true,by decide +kernel,iteT ?_⟩
      refine ⟨_,rfl,_,rfl,td,_,_,_,rfl,rfl,.of ht,rfl,_,_,rfl,rfl,(show 0 < q by omega),k _ H (Same.refl H) ?_⟩
      unfold ofP
      rw [if_neg z]
      exact .rem (Int.emod_nonneg _ z) (Int.emod_lt_of_pos _ (by omega)) q3
theorem sc_law_e_plus:FnScope ["told","a","b"] ["told","a","b"] (defScope s_law_e_plus):=⟨rfl,rfl,rfl,by decide +kernel,rfl,by decide +kernel,by decide +kernel⟩
theorem ok_law_e_plus (T:Txt K mg t):FnOk P w K mg base CX0 2 t.f_law_e_plus t.d_law_e_plus ["told","a","b"] (spEArith3 addP):=by
  have S:=sc_law_e_plus
  have G_law_e_low:=ok_law_e_low (P:=P) (w:=w) (base:=base) T
  refine T.F_law_e_plus.ok S (fun vs H Q E h=>?_) (fun cdv A outer s H vs Q E hr h=>?_)
  · obtain ⟨td,q,v,u,p,r,B,rfl,_⟩:=h
    rfl
  · obtain ⟨td,q,v,u,⟨x,m⟩,⟨y,n⟩,B,rfl,ht,hq,hv,hu,b1,b60,k⟩:=h
    refine ⟨_,(@pss_cons _ _ _ _ _ (@ps_if _ _ _ _ _ _ _ _ (@pt_cmpR _ _ _ _ _ _ _ _ op_eq (@pe_ix _ _ _ _ _ _ _ ix_tup (pv 0) pe_int (fun _ _=>rfl)) pe_str (nomark _)) (@pss_one _ _ _ (@ps_ret _ _ _ _ (@pe_op _ _ _ _ _ _ _ _ op_mod (@pe_op _ _ _ _ _ _ _ _ op_add (pv 1) (pv 2)) (@pe_ix _ _ _ _ _ _ _ ix_tup (pv 0) pe_int (fun _ _=>rfl))))) pss_nil)
      (@pss_one _ _ _ (@ps_ret _ _ _ _ (pe_call G_law_e_low (hr.mono (by decide)) rfl T.mg_law_e_low T.F_law_e_low.kp T.b_law_e_low .nil pass0 (@pa_mor _ _ _ _ _ (by rfl) (@pe_op _ _ _ _ _ _ _ _ op_add (@pe_op _ _ _ _ _ _ _ _ op_mulM (@pe_ix _ _ _ _ _ _ _ ix_tup (pv 1) pe_int (fun _ _=>rfl)) (@pe_ix _ _ _ _ _ _ _ ix_tup (pv 2) pe_int (fun _ _=>rfl))) (@pe_op _ _ _ _ _ _ _ _ op_mulM (@pe_ix _ _ _ _ _ _ _ ix_tup (pv 2) pe_int (fun _ _=>rfl)) (@pe_ix _ _ _ _ _ _ _ ix_tup (pv 1) pe_int (fun _ _=>rfl)))) (@pa_mor _ _ _ _ _ (by rfl) (@pe_op _ _ _ _ _ _ _ _ op_mulM (@pe_ix _ _ _ _ _ _ _ ix_tup (pv 1) pe_int (fun _ _=>rfl)) (@pe_ix _ _ _ _ _ _ _ ix_tup (pv 2) pe_int (fun _ _=>rfl))) pa_nil)))))),?_⟩
    unfold ToldAt at ht
    have bB:B ≤ 2 * B * B:=Nat.le_trans (Nat.le_mul_of_pos_left B (by omega)) (Nat.le_mul_of_pos_right _ (by omega))
    have big:∀ {x:Int},x.natAbs ≤ B→Mid x:=fun h=>Mid.of300 b60 (Nat.le_trans h bB)
    by_cases z:q = 0
    · subst z
      rw [tdOf_zero] at ht
      refine ⟨_,rfl,td,_,_,_,rfl,rfl,.of ht,rfl,rfl,false,by decide +kernel,iteF ?_⟩
      dsimp only at hv hu
      cases hv with
      | frac e l bx bm=>
        rename_i p
        cases hu with
        | frac e' l' bx' bm'=>
          rename_i p'
          have m0:=l.pos
          have n0:=l'.pos
          have mn:0 < m * n:=Int.mul_pos (by omega) (by omega)
          have bmn:(m * n).natAbs ≤ 2 * B * B:=by
            rw [Int.natAbs_mul]
            exact Nat.le_trans (Nat.mul_le_mul bm bm') (Nat.mul_le_mul_right _ (by omega))
          have bt:(x * n + y * m).natAbs ≤ 2 * B * B:=by
            refine Nat.le_trans (Int.natAbs_add_le ..) ?_
            rw [Int.natAbs_mul,Int.natAbs_mul]
            refine Nat.le_trans (Nat.add_le_add (Nat.mul_le_mul bx bm') (Nat.mul_le_mul bx' bm)) (Nat.le_of_eq ?_)
            rw [Nat.mul_assoc,Nat.two_mul]
          refine ⟨_,rfl,p,_,_,_,rfl,rfl,.of e,rfl,_,rfl,p',_,_,_,rfl,rfl,.of e',rfl,_,_,rfl,rfl,⟨big bx,big bm'⟩,_,rfl,p',_,_,_,rfl,rfl,.of e',rfl,_,rfl,p,_,_,_,rfl,rfl,.of e,rfl,_,_,rfl,rfl,⟨big bx',big bm⟩,_,_,rfl,rfl,_,rfl,p,_,_,_,rfl,rfl,.of e,rfl,_,rfl,p',_,_,_,rfl,rfl,.of e',rfl,_,_,rfl,rfl,⟨big bm,big bm'⟩,_,_,rfl,Int.ne_of_gt mn,Mid.of300 b60 bmn,fun r H' s' er'=>k _ H' s' ?_⟩
          unfold addP
          rw [if_pos rfl]
          exact low_num er' (show 1 ≤ m * n by omega) bt bmn
        | rem h0 h1 h2=>omega
      | rem h0 h1 h2=>omega
    · rw [tdOf_pos z] at ht
      obtain ⟨q2,q3,q4⟩:=hq.resolve_left z
      refine ⟨_,rfl,td,_,_,_,rfl,rfl,.of ht,rfl,rfl,true,by decide +kernel,iteT ?_⟩
      dsimp only at hv hu
      cases hv with
      | frac=>omega
      | rem h0 h1 h2=>
        cases hu with
        | frac=>omega
        | rem h0' h1' h2'=>
          refine ⟨_,rfl,_,rfl,_,_,rfl,rfl,_,rfl,td,_,_,_,rfl,rfl,.of ht,rfl,_,_,rfl,rfl,(show 0 < q by omega),k _ H (Same.refl H) ?_⟩
          unfold addP
          rw [if_neg z]
          exact .rem (Int.emod_nonneg _ z) (Int.emod_lt_of_pos _ (by omega)) q3
theorem sc_law_e_times:FnScope ["told","a","b"] ["told","a","b"] (defScope s_law_e_times):=⟨rfl,rfl,rfl,by decide +kernel,rfl,by decide +kernel,by decide +kernel⟩
theorem ok_law_e_times (T:Txt K mg t):FnOk P w K mg base CX0 2 t.f_law_e_times t.d_law_e_times ["told","a","b"] (spEArith3 mulQ):=by
  have S:=sc_law_e_times
  have G_law_e_low:=ok_law_e_low (P:=P) (w:=w) (base:=base) T
  refine T.F_law_e_times.ok S (fun vs H Q E h=>?_) (fun cdv A outer s H vs Q E hr h=>?_)
  · obtain ⟨td,q,v,u,p,r,B,rfl,_⟩:=h
    rfl
  · obtain ⟨td,q,v,u,⟨x,m⟩,⟨y,n⟩,B,rfl,ht,hq,hv,hu,b1,b60,k⟩:=h
    refine ⟨_,(@pss_cons _ _ _ _ _ (@ps_if _ _ _ _ _ _ _ _ (@pt_cmpR _ _ _ _ _ _ _ _ op_eq (@pe_ix _ _ _ _ _ _ _ ix_tup (pv 0) pe_int (fun _ _=>rfl)) pe_str (nomark _)) (@pss_one _ _ _ (@ps_ret _ _ _ _ (@pe_op _ _ _ _ _ _ _ _ op_mod (@pe_op _ _ _ _ _ _ _ _ op_mul (pv 1) (pv 2)) (@pe_ix _ _ _ _ _ _ _ ix_tup (pv 0) pe_int (fun _ _=>rfl))))) pss_nil)
      (@pss_one _ _ _ (@ps_ret _ _ _ _ (pe_call G_law_e_low (hr.mono (by decide)) rfl T.mg_law_e_low T.F_law_e_low.kp T.b_law_e_low .nil pass0 (@pa_mor _ _ _ _ _ (by rfl) (@pe_op _ _ _ _ _ _ _ _ op_mulM (@pe_ix _ _ _ _ _ _ _ ix_tup (pv 1) pe_int (fun _ _=>rfl)) (@pe_ix _ _ _ _ _ _ _ ix_tup (pv 2) pe_int (fun _ _=>rfl))) (@pa_mor _ _ _ _ _ (by rfl) (@pe_op _ _ _ _ _ _ _ _ op_mulM (@pe_ix _ _ _ _ _ _ _ ix_tup (pv 1) pe_int (fun _ _=>rfl)) (@pe_ix _ _ _ _ _ _ _ ix_tup (pv 2) pe_int (fun _ _=>rfl))) pa_nil)))))),?_⟩
    unfold ToldAt at ht
    have bB:B ≤ 2 * B * B:=Nat.le_trans (Nat.le_mul_of_pos_left B (by omega)) (Nat.le_mul_of_pos_right _ (by omega))
    have big:∀ {x:Int},x.natAbs ≤ B→Mid x:=fun h=>Mid.of300 b60 (Nat.le_trans h bB)
    by_cases z:q = 0
    · subst z
      rw [tdOf_zero] at ht
      refine ⟨_,rfl,td,_,_,_,rfl,rfl,.of ht,rfl,rfl,false,by decide +kernel,iteF ?_⟩
      dsimp only at hv hu
      cases hv with
      | frac e l bx bm=>
        rename_i p
        cases hu with
        | frac e' l' bx' bm'=>
          rename_i p'
          have m0:=l.pos
          have n0:=l'.pos
          have mn:0 < m * n:=Int.mul_pos (by omega) (by omega)
          have bmn:(m * n).natAbs ≤ 2 * B * B:=by
            rw [Int.natAbs_mul]
            exact Nat.le_trans (Nat.mul_le_mul bm bm') (Nat.mul_le_mul_right _ (by omega))
          have bt:(x * y).natAbs ≤ 2 * B * B:=by
            rw [Int.natAbs_mul]
            exact Nat.le_trans (Nat.mul_le_mul bx bx') (Nat.mul_le_mul_right _ (by omega))
          refine ⟨_,rfl,p,_,_,_,rfl,rfl,.of e,rfl,_,rfl,p',_,_,_,rfl,rfl,.of e',rfl,_,_,rfl,rfl,⟨big bx,big bx'⟩,_,rfl,p,_,_,_,rfl,rfl,.of e,rfl,_,rfl,p',_,_,_,rfl,rfl,.of e',rfl,_,_,rfl,rfl,⟨big bm,big bm'⟩,_,_,rfl,Int.ne_of_gt mn,Mid.of300 b60 bmn,fun r H' s' er'=>k _ H' s' ?_⟩
          unfold mulQ
          rw [if_pos rfl]
          exact low_num er' (show 1 ≤ m * n by omega) bt bmn
        | rem h0 h1 h2=>omega
      | rem h0 h1 h2=>omega
    · rw [tdOf_pos z] at ht
      obtain ⟨q2,q3,q4⟩:=hq.resolve_left z
      refine ⟨_,rfl,td,_,_,_,rfl,rfl,.of ht,rfl,rfl,true,by decide +kernel,iteT ?_⟩
      dsimp only at hv hu
      cases hv with
      | frac=>omega
      | rem h0 h1 h2=>
        cases hu with
        | frac=>omega
        | rem h0' h1' h2'=>
          refine ⟨_,rfl,_,rfl,_,_,rfl,rfl,.inl ⟨by omega,by omega⟩,_,rfl,td,_,_,_,rfl,rfl,.of ht,rfl,_,_,rfl,rfl,(show 0 < q by omega),k _ H (Same.refl H) ?_⟩
          unfold mulQ
          rw [if_neg z]
          exact .rem (Int.emod_nonneg _ z) (Int.emod_lt_of_pos _ (by omega)) q3
theorem sc_law_e_is_number:FnScope ["told","a","part"] ["told","a"] (defScope s_law_e_is_number):=⟨rfl,rfl,rfl,by decide +kernel,rfl,by decide +kernel,by decide +kernel⟩
theorem ok_law_e_is_number (T:Txt K mg t):FnOk P w K mg base CX0 2 t.f_law_e_is_number t.d_law_e_is_number ["told","a"] spEIs:=by
  have S:=sc_law_e_is_number
  have G_law_e_low:=ok_law_e_low (P:=P) (w:=w) (base:=base) T
  refine T.F_law_e_is_number.ok S (fun vs H Q E h=>?_) (fun cdv A outer s H vs Q E hr h=>?_)
  · obtain ⟨td,q,v,x,m,B,rfl,_⟩:=h
    rfl
  · obtain ⟨td,q,v,x,m,B,rfl,ht,hq,hv,hB,k⟩:=h
    have hu:=hr.units0
    refine ⟨_,(@pss_cons _ _ _ _ _ (@ps_if _ _ _ _ _ _ _ _ (@pt_cmpR _ _ _ _ _ _ _ _ op_eq (@pe_ix _ _ _ _ _ _ _ ix_tup (pv 0) pe_int (fun _ _=>rfl)) pe_str (nomark _)) (@pss_one _ _ _ (@ps_ret _ _ _ _ (@pe_and _ _ _ _ _ _ _ (pe_callB (call_isi (K:=K)) rfl T.n_isinstance boot_isinstance (@pa_mor _ _ _ _ _ (by rfl) (pv 1) (@pa_mor _ _ _ _ _ (by rfl) (pe_bltn (v:=.ty "int") rfl T.n_int boot_int rfl) pa_nil))) (@pe_and _ _ _ _ _ _ _ (@pe_not _ _ _ _ (pe_callB (call_isi (K:=K)) rfl T.n_isinstance boot_isinstance (@pa_mor _ _ _ _ _ (by rfl) (pv 1) (@pa_mor _ _ _ _ _ (by rfl) (pe_bltn (v:=.ty "bool") rfl T.n_bool boot_bool rfl) pa_nil)))) (@pe_one _ _ _ _ _ (pe_chain op_le op_lt pe_int (pv 1) (@pe_ix _ _ _ _ _ _ _ ix_tup (pv 0) pe_int (fun _ _=>rfl)))))))) pss_nil)
      (@pss_cons _ _ _ _ _ (@ps_if _ _ _ _ _ _ _ _ (PW.pt (@pw_or _ _ _ _ _ _ _ (@pt_not _ _ _ _ (pt_val (pe_callB (call_isi (K:=K)) rfl T.n_isinstance boot_isinstance (@pa_mor _ _ _ _ _ (by rfl) (pv 1) (@pa_mor _ _ _ _ _ (by rfl) (pe_bltn (v:=.ty "tuple") rfl T.n_tuple boot_tuple rfl) pa_nil))))) (@pw_or1 _ _ _ _ (@pt_cmpR _ _ _ _ _ _ _ _ op_ne (pe_callB call_len_seq rfl T.n_len boot_len (@pa_mor _ _ _ _ _ (by rfl) (pv 1) pa_nil)) pe_int (nomark _))))) (@pss_one _ _ _ (@ps_ret _ _ _ _ pe_bl)) pss_nil)
      (@pss_cons _ _ _ _ _ (ps_for PassesOwn.never rfl (pi_tup (pv 1)) (pg_name (i:=2) S.nd rfl (Or.inl rfl))
        (@pss_one _ _ _ (@ps_if _ _ _ _ _ _ _ _ (PW.pt (@pw_or _ _ _ _ _ _ _ (@pt_not _ _ _ _ (pt_val (pe_callB (call_isi (K:=K)) rfl T.n_isinstance boot_isinstance (@pa_mor _ _ _ _ _ (by rfl) (pv 2) (@pa_mor _ _ _ _ _ (by rfl) (pe_bltn (v:=.ty "int") rfl T.n_int boot_int rfl) pa_nil))))) (@pw_or1 _ _ _ _ (pt_val (pe_callB (call_isi (K:=K)) rfl T.n_isinstance boot_isinstance (@pa_mor _ _ _ _ _ (by rfl) (pv 2) (@pa_mor _ _ _ _ _ (by rfl) (pe_bltn (v:=.ty "bool") rfl T.n_bool boot_bool rfl) pa_nil))))))) (@pss_one _ _ _ (@ps_ret _ _ _ _ pe_bl)) pss_nil)))
      (@pss_one _ _ _ (@ps_ret _ _ _ _ (@pe_and _ _ _ _ _ _ _ (@pe_cmpR _ _ _ _ _ _ _ _ op_gt (@pe_ix _ _ _ _ _ _ _ ix_tup (pv 1) pe_int (fun _ _=>rfl)) pe_int (nomark _)) (@pe_one _ _ _ _ _ (@pe_cmpR _ _ _ _ _ _ _ _ (op_eqT hu) (pv 1) (pe_call G_law_e_low (hr.mono (by decide)) rfl T.mg_law_e_low T.F_law_e_low.kp T.b_law_e_low .nil pass0 (@pa_mor _ _ _ _ _ (by rfl) (@pe_ix _ _ _ _ _ _ _ ix_tup (pv 1) pe_int (fun _ _=>rfl)) (@pa_mor _ _ _ _ _ (by rfl) (@pe_ix _ _ _ _ _ _ _ ix_tup (pv 1) pe_int (fun _ _=>rfl)) pa_nil))) (nomark _))))))))),?_⟩
    unfold ToldAt at ht
    cases hv with
    | frac e l bx bm=>
      rename_i p
      rw [tdOf_zero] at ht
      refine ⟨_,rfl,td,_,_,_,rfl,rfl,.of ht,rfl,rfl,false,by decide +kernel,iteF ?_⟩
      refine ⟨_,rfl,_,_,_,true,rfl,rfl,.of (.tup e),kit_same,true,rfl,iteF ?_⟩
      refine ⟨_,rfl,p,_,rfl,.inr (.of e),rfl,false,by rw [dV_int]; rfl,iteF ?_⟩
      refine ⟨_,rfl,p,rfl,⟨_,.of e⟩,?_⟩
      refine for_tup (K:=K) (a:=p) (xs:=[.int x,.int m]) (fun i σ Hc=>Hc = H∧∃ v2:Option V,σ = [some (.ref td),some (.ref p),v2]) ⟨rfl,_,rfl⟩ (fun i σ Hc _ ⟨z,_⟩=>by rw [z]; exact .of e) ?_ ?_
      · rintro i v σ Hc hi ⟨rfl,v2,rfl⟩
        obtain ⟨c,rfl⟩:∃ c:Int,v = .int c:=by
          match i,hi with
          | 0,h=>cases h; exact ⟨_,rfl⟩
          | 1,h=>cases h; exact ⟨_,rfl⟩
          | i + 2,h=>cases h
        refine ⟨_,rfl,_,_,_,true,rfl,rfl,.of (.int c),rfl,true,rfl,iteF ?_⟩
        refine ⟨_,rfl,_,_,_,false,rfl,rfl,.of (.int c),rfl,false,rfl,iteF ?_⟩
        exact ⟨rfl,_,rfl⟩
      · rintro σ Hc ⟨rfl,v2,rfl⟩
        have m0:=l.pos
        refine ⟨_,rfl,p,_,_,_,rfl,rfl,.of e,rfl,_,_,rfl,rfl,true,by show V.bl (decide ((0:Int) < m)) = _; rw [decide_eq_true (show (0:Int) < m by omega)],iteT ?_⟩
        refine ⟨_,rfl,_,rfl,p,_,_,_,rfl,rfl,.of e,rfl,_,rfl,p,_,_,_,rfl,rfl,.of e,rfl,x,m,rfl,by omega,Nat.lt_of_le_of_lt (Nat.le_trans bm hB) pow300,fun r H' s' er'=>?_⟩
        have e1:lowG x m = 1:=by unfold lowG; rw [if_neg (by omega),l.cop]; rfl
        rw [e1,Int.fdiv_one,Int.fdiv_one] at er'
        refine ⟨p,r,_,_,rfl,rfl,.of (s' _ _ e),.of er',rfl,rfl,?_⟩
        show Q (.bl (eqL [V.int x,V.int m] [V.int x,V.int m])) H'
        rw [eqL_self]
        exact k H' s'
    | rem h0 h1 h2=>
      have z:q ≠ 0:=by omega
      rw [tdOf_pos z] at ht
      refine ⟨_,rfl,td,_,_,_,rfl,rfl,.of ht,rfl,rfl,true,by decide +kernel,iteT ?_⟩
      refine ⟨_,rfl,_,_,_,true,rfl,rfl,.of (.int x),rfl,true,rfl,iteT ?_⟩
      refine ⟨_,rfl,_,_,_,false,rfl,rfl,.of (.int x),rfl,false,rfl,_,rfl,iteT ?_⟩
      refine ⟨_,rfl,_,_,rfl,rfl,true,by show V.bl (decide ((0:Int) ≤ x)) = _; rw [decide_eq_true h0],iteT ?_⟩
      refine ⟨_,rfl,td,_,_,_,rfl,rfl,.of ht,rfl,_,_,rfl,rfl,?_⟩
      show Q (.bl (decide (x < q))) H
      rw [decide_eq_true h1]
      exact k H (Same.refl H)
theorem sc_law_e_is_row:FnScope ["told","found"] ["told","found"] (defScope s_law_e_is_row):=⟨rfl,rfl,rfl,by decide +kernel,rfl,by decide +kernel,by decide +kernel⟩
theorem ok_law_e_is_row (T:Txt K mg t):FnOk P w K mg base CX0 3 t.f_law_e_is_row t.d_law_e_is_row ["told","found"] spERowIs:=by
  have S:=sc_law_e_is_row
  have G_law_e_is_number:=ok_law_e_is_number (P:=P) (w:=w) (base:=base) T
  refine T.F_law_e_is_row.ok S (fun vs H Q E h=>?_) (fun cdv A outer s H vs Q E hr h=>?_)
  · obtain ⟨td,a,q,ps,B,rfl,_⟩:=h
    rfl
  · obtain ⟨td,a,q,ps,B,rfl,ht,hq,⟨vs,ea,hl,hn⟩,h1000,hB,k⟩:=h
    refine ⟨_,(@pss_one _ _ _ (@ps_ret _ _ _ _ (@pe_and _ _ _ _ _ _ _ (pe_callB (call_isi (K:=K)) rfl T.n_isinstance boot_isinstance (@pa_mor _ _ _ _ _ (by rfl) (pv 1) (@pa_mor _ _ _ _ _ (by rfl) (pe_bltn (v:=.ty "list") rfl T.n_list boot_list rfl) pa_nil))) (@pe_one _ _ _ _ _ (pe_callB (call_all (K:=K) rfl) rfl T.n_all boot_all (@pa_mor _ _ _ _ _ (by rfl) (pe_comp (N:=["a","told"]) (ρ:=(fun σ=>[σ[0]?.join])) ⟨rfl,rfl,by decide +kernel,by decide +kernel,(List.forall_mem_cons.mpr ⟨rfl,(List.forall_mem_nil _)⟩),has_of (by rfl),rfl,by decide +kernel,rfl,(fun σ j v h=>match j,h with | 0,h=>⟨0,_,rfl,rfl,join_some h,Or.inr (Or.inl rfl),.inl rfl,.inl rfl⟩ | j + 1,h=>by cases h),(fun _ _=>rfl)⟩ rfl (pi_list (pv 1)) (fun s₃ H₃ fp=>.nil) (fun s₃ H₃ fp=>(pe_call G_law_e_is_number (hr.mono (by decide)) rfl T.mg_law_e_is_number T.F_law_e_is_number.kp T.b_law_e_is_number .nil pass0 (@pa_mor _ _ _ _ _ (by rfl) (pv 1) (@pa_mor _ _ _ _ _ (by rfl) (pv 0) pa_nil))))) pa_nil)))))),?_⟩
    refine ⟨_,rfl,_,_,_,true,rfl,rfl,.of (.lst ea),kit_same,true,rfl,iteT ?_⟩
    refine cb_of (comp_of (xs:=vs) (fun R h=>⟨_,rfl,a,rfl,⟨_,.of ea⟩,h _ _ (Same.refl _) (jseq_list (.of ea))⟩) (by rw [hl]; exact small1000 (by omega)) (fun _ i y _=>y = .bl true) (fun _ _ _ _ _ _ h _ _=>h) ?_ ?_)
    · intro D i v hi Hc R sc _ kc
      have hi':i < ps.length:=by rw [← hl]; exact (List.getElem?_eq_some_iff.mp hi).1
      exact ⟨_,rfl,_,rfl,td,q,v,_,_,B,rfl,ht.mono sc,hq,(hn i v ps[i] hi (by simp [hi'])).mono sc,hB,fun H' s'=>kc _ H' s' rfl⟩
    · intro D ys Hc sc hys hP eD
      refine ⟨D,List.replicate ys.length true,rfl,.of (by rw [eD]; exact congrArg _ (congrArg _ (bls_of hP))),?_⟩
      rw [all_yes]
      exact k Hc sc
theorem sc_law_e_world:FnScope ["pen","way"] ["pen"] (defScope s_law_e_world):=⟨rfl,rfl,rfl,by decide +kernel,rfl,by decide +kernel,by decide +kernel⟩
theorem ok_law_e_world (T:Txt K mg t):FnOk P w K mg base CX0 3 t.f_law_e_world t.d_law_e_world ["pen"] (spEWorld K):=by
  have S:=sc_law_e_world
  have G_law_e_next:=ok_law_e_next (P:=P) (w:=w) (base:=base) T
  refine T.F_law_e_world.ok S (fun vs H Q E h=>?_) (fun cdv A outer s H vs Q E hr h=>?_)
  · obtain ⟨P0,a,ns,rfl,_⟩:=h
    rfl
  · obtain ⟨P0,a,ns,rfl,pc,hS,k⟩:=h
    refine ⟨_,(@pss_cons _ _ _ _ _ (@ps_put _ _ 1 _ _ _ _ (by rfl) (by first | exact .inl rfl | exact .inr rfl | assumption) S.nd rfl (Or.inl rfl) (pe_call G_law_e_next (hr.mono (by decide)) rfl T.mg_law_e_next T.F_law_e_next.kp T.b_law_e_next .nil pass0 (@pa_mor _ _ _ _ _ (by rfl) (pv 0) (@pa_mor _ _ _ _ _ (by rfl) pe_int pa_nil))))
      (@pss_cons _ _ _ _ _ (@ps_if _ _ _ _ _ _ _ _ (@pt_cmpR _ _ _ _ _ _ _ _ op_lt (pv 1) pe_int (nomark _)) (@pss_one _ _ _ (@ps_ret _ _ _ _ (@pe_tup _ _ _ _ _ (@pa_mor _ _ _ _ _ (by rfl) pe_str pa_nil)))) pss_nil)
      (@pss_cons _ _ _ _ _ (@ps_if _ _ _ _ _ _ _ _ (@pt_cmpR _ _ _ _ _ _ _ _ op_lt (pv 1) pe_int (nomark _)) (@pss_one _ _ _ (@ps_ret _ _ _ _ (@pe_tup _ _ _ _ _ (@pa_mor _ _ _ _ _ (by rfl) pe_str (@pa_mor _ _ _ _ _ (by rfl) (@pe_ix _ _ _ _ _ _ _ ix_list (@pe_lst _ _ _ _ (@pa_mor _ _ _ _ _ (by rfl) pe_int (@pa_mor _ _ _ _ _ (by rfl) pe_int (@pa_mor _ _ _ _ _ (by rfl) pe_int (@pa_mor _ _ _ _ _ (by rfl) pe_int pa_nil))))) (pe_call G_law_e_next (hr.mono (by decide)) rfl T.mg_law_e_next T.F_law_e_next.kp T.b_law_e_next .nil pass0 (@pa_mor _ _ _ _ _ (by rfl) (pv 0) (@pa_mor _ _ _ _ _ (by rfl) pe_int pa_nil))) (fun _ _=>rfl)) pa_nil))))) pss_nil)
      (@pss_one _ _ _ (@ps_ret _ _ _ _ (@pe_tup _ _ _ _ _ (@pa_mor _ _ _ _ _ (by rfl) pe_str (@pa_mor _ _ _ _ _ (by rfl) (@pe_ix _ _ _ _ _ _ _ ix_list (@pe_lst _ _ _ _ (@pa_mor _ _ _ _ _ (by rfl) pe_int (@pa_mor _ _ _ _ _ (by rfl) pe_int (@pa_mor _ _ _ _ _ (by rfl) pe_int (@pa_mor _ _ _ _ _ (by rfl) pe_int (@pa_mor _ _ _ _ _ (by rfl) pe_int (@pa_mor _ _ _ _ _ (by rfl) pe_int (@pa_mor _ _ _ _ _ (by rfl) pe_int (@pa_mor _ _ _ _ _ (by rfl) pe_int (@pa_mor _ _ _ _ _ (by rfl) pe_int (@pa_mor _ _ _ _ _ (by rfl) pe_int pa_nil))))))))))) (pe_call G_law_e_next (hr.mono (by decide)) rfl T.mg_law_e_next T.F_law_e_next.kp T.b_law_e_next .nil pass0 (@pa_mor _ _ _ _ _ (by rfl) (pv 0) (@pa_mor _ _ _ _ _ (by rfl) pe_int pa_nil))) (fun _ _=>rfl)) pa_nil)))))))),?_⟩
    refine ⟨_,rfl,P0,a,ns,5,rfl,pc,hS,by decide,Mid.of_lt (by decide) (by decide),fun r H1 r0 r1 sA p1=>?_⟩
    have hS1:SqL K (er P0 H1) a (ns.map V.int):=Same.seq sA hS
    refine ⟨_,rfl,_,_,rfl,rfl,_,rfl,ite2 (fun _=>?_) (fun _=>?_)⟩
    · refine ⟨by show 1 ≤ sizeLine; decide,fun td ntd=>?_⟩
      have np:=p1.ne ntd
      refine k td 0 _ (.inl rfl) (sA.trans (SameE.of (same_upd ntd))) (p1.mono (same_upd ntd)) ?_
      unfold ToldAt
      rw [tdOf_zero,er_ne np]
      exact upd_same
    refine ⟨_,rfl,_,_,rfl,rfl,_,rfl,ite2 (fun _=>?_) (fun _=>?_)⟩
    · refine ⟨by show 4 ≤ sizeLine; decide,fun l nl=>?_⟩
      have nP:=p1.ne nl
      have sl:Same H1 (upd H1 l (.lst [.int 2,.int 3,.int 5,.int 7])):=same_upd nl
      have el:upd H1 l (.lst [.int 2,.int 3,.int 5,.int 7]) l = some (.lst [.int 2,.int 3,.int 5,.int 7]):=upd_same
      have pl:=p1.mono sl
      have hSl:SqL K (er P0 (upd H1 l (.lst [.int 2,.int 3,.int 5,.int 7]))) a (ns.map V.int):=Same.seq (er_same sl) hS1
      generalize upd H1 l (.lst [.int 2,.int 3,.int 5,.int 7]) = H2 at sl el pl hSl ⊢
      refine ⟨_,rfl,P0,a,ns,4,rfl,pl,hSl,by decide,Mid.of_lt (by decide) (by decide),fun r H3 r0 r1 s3 p3=>?_⟩
      obtain ⟨q,hat,hq,hq0⟩:∃ q:Int,atI ([.int 2,.int 3,.int 5,.int 7]:List V) r = some (.int q)∧WheelN q∧q ≠ 0:=by
        rcases (show r = 0 ∨ r = 1 ∨ r = 2 ∨ r = 3 by omega) with rfl | rfl | rfl | rfl
        · exact ⟨2,rfl,.inr ⟨by decide,by decide,by decide⟩,by decide⟩
        · exact ⟨3,rfl,.inr ⟨by decide,by decide,by decide⟩,by decide⟩
        · exact ⟨5,rfl,.inr ⟨by decide,by decide,by decide⟩,by decide⟩
        · exact ⟨7,rfl,.inr ⟨by decide,by decide,by decide⟩,by decide⟩
      refine ⟨l,_,_,_,rfl,rfl,.of (s3.at nP el),hat,by show 2 ≤ sizeLine; decide,fun td ntd=>?_⟩
      have np:=p3.ne ntd
      refine k td q _ hq ((sA.trans (SameE.of sl)).trans (s3.trans (SameE.of (same_upd ntd)))) (p3.mono (same_upd ntd)) ?_
      unfold ToldAt
      rw [tdOf_pos hq0,er_ne np]
      exact upd_same
    · refine ⟨by show 10 ≤ sizeLine; decide,fun l nl=>?_⟩
      have nP:=p1.ne nl
      have sl:Same H1 (upd H1 l (.lst [.int 11,.int 13,.int 29,.int 97,.int 101,.int 257,.int 499,.int 743,.int 991,.int 997])):=same_upd nl
      have el:upd H1 l (.lst [.int 11,.int 13,.int 29,.int 97,.int 101,.int 257,.int 499,.int 743,.int 991,.int 997]) l = some (.lst [.int 11,.int 13,.int 29,.int 97,.int 101,.int 257,.int 499,.int 743,.int 991,.int 997]):=upd_same
      have pl:=p1.mono sl
      have hSl:SqL K (er P0 (upd H1 l (.lst [.int 11,.int 13,.int 29,.int 97,.int 101,.int 257,.int 499,.int 743,.int 991,.int 997]))) a (ns.map V.int):=Same.seq (er_same sl) hS1
      generalize upd H1 l (.lst [.int 11,.int 13,.int 29,.int 97,.int 101,.int 257,.int 499,.int 743,.int 991,.int 997]) = H2 at sl el pl hSl ⊢
      refine ⟨_,rfl,P0,a,ns,10,rfl,pl,hSl,by decide,Mid.of_lt (by decide) (by decide),fun r H3 r0 r1 s3 p3=>?_⟩
      obtain ⟨q,hat,hq,hq0⟩:∃ q:Int,atI ([.int 11,.int 13,.int 29,.int 97,.int 101,.int 257,.int 499,.int 743,.int 991,.int 997]:List V) r = some (.int q)∧WheelN q∧q ≠ 0:=by
        rcases (show r = 0 ∨ r = 1 ∨ r = 2 ∨ r = 3 ∨ r = 4 ∨ r = 5 ∨ r = 6 ∨ r = 7 ∨ r = 8 ∨ r = 9 by omega) with rfl | rfl | rfl | rfl | rfl | rfl | rfl | rfl | rfl | rfl
        · exact ⟨11,rfl,.inr ⟨by decide,by decide,by decide⟩,by decide⟩
        · exact ⟨13,rfl,.inr ⟨by decide,by decide,by decide⟩,by decide⟩
        · exact ⟨29,rfl,.inr ⟨by decide,by decide,by decide⟩,by decide⟩
        · exact ⟨97,rfl,.inr ⟨by decide,by decide,by decide⟩,by decide⟩
        · exact ⟨101,rfl,.inr ⟨by decide,by decide,by decide⟩,by decide⟩
        · exact ⟨257,rfl,.inr ⟨by decide,by decide,by decide⟩,by decide⟩
        · exact ⟨499,rfl,.inr ⟨by decide,by decide,by decide⟩,by decide⟩
        · exact ⟨743,rfl,.inr ⟨by decide,by decide,by decide⟩,by decide⟩
        · exact ⟨991,rfl,.inr ⟨by decide,by decide,by decide⟩,by decide⟩
        · exact ⟨997,rfl,.inr ⟨by decide,by decide,by decide⟩,by decide⟩
      refine ⟨l,_,_,_,rfl,rfl,.of (s3.at nP el),hat,by show 2 ≤ sizeLine; decide,fun td ntd=>?_⟩
      have np:=p3.ne ntd
      refine k td q _ hq ((sA.trans (SameE.of sl)).trans (s3.trans (SameE.of (same_upd ntd)))) (p3.mono (same_upd ntd)) ?_
      unfold ToldAt
      rw [tdOf_pos hq0,er_ne np]
      exact upd_same
theorem sc_law_e_number:FnScope ["pen","told","far","kind","top"] ["pen","told","far"] (defScope s_law_e_number):=⟨rfl,rfl,rfl,by decide +kernel,rfl,by decide +kernel,by decide +kernel⟩
theorem ok_law_e_number (T:Txt K mg t):FnOk P w K mg base CX0 3 t.f_law_e_number t.d_law_e_number ["pen","told","far"] (spENumberF K):=by
  have S:=sc_law_e_number
  have G_law_e_next:=ok_law_e_next (P:=P) (w:=w) (base:=base) T
  have G_law_e_low:=ok_law_e_low (P:=P) (w:=w) (base:=base) T
  refine T.F_law_e_number.ok S (fun vs H Q E h=>?_) (fun cdv A outer s H vs Q E hr h=>?_)
  · obtain ⟨P0,a,td,ns,q,far,F,rfl,_⟩:=h
    rfl
  · obtain ⟨P0,a,td,ns,q,far,F,rfl,pc,hS,ht,hq,f1,f2,f3,f4,k⟩:=h
    refine ⟨_,(@pss_cons _ _ _ _ _ (@ps_put _ _ 3 _ _ _ _ (by rfl) (by first | exact .inl rfl | exact .inr rfl | assumption) S.nd rfl (Or.inl rfl) (pe_call G_law_e_next (hr.mono (by decide)) rfl T.mg_law_e_next T.F_law_e_next.kp T.b_law_e_next .nil pass0 (@pa_mor _ _ _ _ _ (by rfl) (pv 0) (@pa_mor _ _ _ _ _ (by rfl) pe_int pa_nil))))
      (@pss_cons _ _ _ _ _ (@ps_if _ _ _ _ _ _ _ _ (@pt_cmpR _ _ _ _ _ _ _ _ op_eq (@pe_ix _ _ _ _ _ _ _ ix_tup (pv 1) pe_int (fun _ _=>rfl)) pe_str (nomark _)) (@pss_cons _ _ _ _ _ (@ps_if _ _ _ _ _ _ _ _ (@pt_cmpR _ _ _ _ _ _ _ _ op_lt (pv 3) pe_int (nomark _)) (@pss_one _ _ _ (@ps_ret _ _ _ _ pe_int)) pss_nil)
      (@pss_one _ _ _ (@ps_ret _ _ _ _ (pe_call G_law_e_next (hr.mono (by decide)) rfl T.mg_law_e_next T.F_law_e_next.kp T.b_law_e_next .nil pass0 (@pa_mor _ _ _ _ _ (by rfl) (pv 0) (@pa_mor _ _ _ _ _ (by rfl) (@pe_ix _ _ _ _ _ _ _ ix_tup (pv 1) pe_int (fun _ _=>rfl)) pa_nil)))))) pss_nil)
      (@pss_cons _ _ _ _ _ (@ps_if _ _ _ _ _ _ _ _ (@pt_cmpR _ _ _ _ _ _ _ _ op_lt (pv 3) pe_int (nomark _)) (@pss_one _ _ _ (@ps_ret _ _ _ _ (@pe_tup _ _ _ _ _ (@pa_mor _ _ _ _ _ (by rfl) pe_int (@pa_mor _ _ _ _ _ (by rfl) pe_int pa_nil))))) pss_nil)
      (@pss_cons _ _ _ _ _ (@ps_if _ _ _ _ _ _ _ _ (@pt_cmpR _ _ _ _ _ _ _ _ op_eq (pv 3) pe_int (nomark _)) (@pss_cons _ _ _ _ _ (@ps_put _ _ 4 _ _ _ _ (by rfl) (by first | exact .inl rfl | exact .inr rfl | assumption) S.nd rfl (Or.inl rfl) (@pe_op _ _ _ _ _ _ _ _ op_mul (@pe_op _ _ _ _ _ _ _ _ op_sub pe_int (@pe_op _ _ _ _ _ _ _ _ op_mul pe_int (pe_call G_law_e_next (hr.mono (by decide)) rfl T.mg_law_e_next T.F_law_e_next.kp T.b_law_e_next .nil pass0 (@pa_mor _ _ _ _ _ (by rfl) (pv 0) (@pa_mor _ _ _ _ _ (by rfl) pe_int pa_nil))))) (pe_call G_law_e_next (hr.mono (by decide)) rfl T.mg_law_e_next T.F_law_e_next.kp T.b_law_e_next .nil pass0 (@pa_mor _ _ _ _ _ (by rfl) (pv 0) (@pa_mor _ _ _ _ _ (by rfl) (pv 2) pa_nil)))))
      (@pss_one _ _ _ (@ps_ret _ _ _ _ (pe_call G_law_e_low (hr.mono (by decide)) rfl T.mg_law_e_low T.F_law_e_low.kp T.b_law_e_low .nil pass0 (@pa_mor _ _ _ _ _ (by rfl) (pv 4) (@pa_mor _ _ _ _ _ (by rfl) (@pe_op _ _ _ _ _ _ _ _ op_add pe_int (pe_call G_law_e_next (hr.mono (by decide)) rfl T.mg_law_e_next T.F_law_e_next.kp T.b_law_e_next .nil pass0 (@pa_mor _ _ _ _ _ (by rfl) (pv 0) (@pa_mor _ _ _ _ _ (by rfl) (pv 2) pa_nil)))) pa_nil)))))) pss_nil)
      (@pss_one _ _ _ (@ps_ret _ _ _ _ (pe_call G_law_e_low (hr.mono (by decide)) rfl T.mg_law_e_low T.F_law_e_low.kp T.b_law_e_low .nil pass0 (@pa_mor _ _ _ _ _ (by rfl) (@pe_op _ _ _ _ _ _ _ _ op_sub (pe_call G_law_e_next (hr.mono (by decide)) rfl T.mg_law_e_next T.F_law_e_next.kp T.b_law_e_next .nil pass0 (@pa_mor _ _ _ _ _ (by rfl) (pv 0) (@pa_mor _ _ _ _ _ (by rfl) pe_int pa_nil))) pe_int) (@pa_mor _ _ _ _ _ (by rfl) (@pe_ix _ _ _ _ _ _ _ ix_list (@pe_lst _ _ _ _ (@pa_mor _ _ _ _ _ (by rfl) pe_int (@pa_mor _ _ _ _ _ (by rfl) pe_int (@pa_mor _ _ _ _ _ (by rfl) pe_int (@pa_mor _ _ _ _ _ (by rfl) pe_int pa_nil))))) (pe_call G_law_e_next (hr.mono (by decide)) rfl T.mg_law_e_next T.F_law_e_next.kp T.b_law_e_next .nil pass0 (@pa_mor _ _ _ _ _ (by rfl) (pv 0) (@pa_mor _ _ _ _ _ (by rfl) pe_int pa_nil))) (fun _ _=>rfl)) pa_nil))))))))),?_⟩
    have mf:Mid far:=Mid.of_lt (by omega) (by omega)
    refine ⟨_,rfl,P0,a,ns,16,rfl,pc,hS,by decide,Mid.of_lt (by decide) (by decide),fun kd H1 kd0 kd1 s1 p1=>?_⟩
    have hS1:SqL K (er P0 H1) a (ns.map V.int):=Same.seq s1 hS
    have ht1:=ht.mono s1
    unfold ToldAt at ht1
    by_cases z:q = 0
    · subst z
      rw [tdOf_zero] at ht1
      refine ⟨_,rfl,td,_,_,_,rfl,rfl,.of (er_le _ _ ht1),rfl,rfl,false,by decide +kernel,iteF ?_⟩
      refine ⟨_,rfl,_,_,rfl,rfl,_,rfl,ite2 (fun _=>?_) (fun _=>?_)⟩
      · refine ⟨by show 2 ≤ sizeLine; decide,fun r nr=>?_⟩
        have np:=p1.ne nr
        exact k _ 0 1 _ (s1.trans (SameE.of (same_upd nr))) (p1.mono (same_upd nr)) (.frac (er_some np upd_same) ⟨by decide,by decide⟩ (by show Int.natAbs 0 ≤ F; omega) (by show Int.natAbs 1 ≤ F; omega))
      refine ⟨_,rfl,rfl,_,rfl,ite2 (fun _=>?_) (fun _=>?_)⟩
      · refine ⟨_,rfl,P0,a,ns,2,rfl,p1,hS1,by decide,Mid.of_lt (by decide) (by decide),fun sg H2 sg0 sg1 s2 p2=>?_⟩
        refine ⟨_,_,rfl,rfl,.inl ⟨by decide,by decide⟩,_,_,rfl,rfl,_,rfl,_,rfl,P0,a,ns,far,rfl,p2,Same.seq s2 hS1,f1,mf,fun tp H3 tp0 tp1 s3 p3=>?_⟩
        refine ⟨_,_,rfl,rfl,.inl ⟨by omega,by omega⟩,?_⟩
        refine ⟨_,rfl,_,rfl,_,rfl,P0,a,ns,far,rfl,p3,Same.seq s3 (Same.seq s2 hS1),f1,mf,fun bt H4 bt0 bt1 s4 p4=>?_⟩
        refine ⟨_,_,rfl,rfl,_,_,rfl,(show 1 + bt ≠ 0 by omega),Mid.of_lt (by omega) (by omega),fun r H5 s5 er'=>?_⟩
        have b1:((1 - 2 * sg) * tp).natAbs ≤ F:=by
          rcases (show sg = 0 ∨ sg = 1 by omega) with rfl | rfl
          · rw [show (1 - 2 * (0:Int)) * tp = tp by omega]; omega
          · rw [show (1 - 2 * (1:Int)) * tp = -tp by omega]; omega
        refine k _ _ _ H5 (s1.trans (s2.trans (s3.trans (s4.trans (SameE.of s5))))) (p4.mono s5) ((low_num (B:=F) er' (show 1 ≤ 1 + bt by omega) b1 (by omega)).er (H':=H5) (p4.mono s5))
      · refine ⟨_,rfl,P0,a,ns,9,rfl,p1,hS1,by decide,Mid.of_lt (by decide) (by decide),fun tp H2 tp0 tp1 s2 p2=>?_⟩
        refine ⟨_,_,rfl,rfl,by show 4 ≤ sizeLine; decide,fun l nl=>?_⟩
        have nP:=p2.ne nl
        have sl:Same H2 (upd H2 l (.lst [.int 1,.int 1,.int 2,.int 3])):=same_upd nl
        have el:upd H2 l (.lst [.int 1,.int 1,.int 2,.int 3]) l = some (.lst [.int 1,.int 1,.int 2,.int 3]):=upd_same
        have pl:=p2.mono sl
        have hSl:SqL K (er P0 (upd H2 l (.lst [.int 1,.int 1,.int 2,.int 3]))) a (ns.map V.int):=Same.seq (er_same sl) (Same.seq s2 hS1)
        generalize upd H2 l (.lst [.int 1,.int 1,.int 2,.int 3]) = H3 at sl el pl hSl ⊢
        refine ⟨_,rfl,P0,a,ns,4,rfl,pl,hSl,by decide,Mid.of_lt (by decide) (by decide),fun r H4 r0 r1 s4 p4=>?_⟩
        obtain ⟨b,hat,b1,b3⟩:∃ b:Int,atI ([.int 1,.int 1,.int 2,.int 3]:List V) r = some (.int b)∧1 ≤ b∧b ≤ 3:=by
          rcases (show r = 0 ∨ r = 1 ∨ r = 2 ∨ r = 3 by omega) with rfl | rfl | rfl | rfl
          · exact ⟨1,rfl,by decide,by decide⟩
          · exact ⟨1,rfl,by decide,by decide⟩
          · exact ⟨2,rfl,by decide,by decide⟩
          · exact ⟨3,rfl,by decide,by decide⟩
        refine ⟨l,_,_,_,rfl,rfl,.of (s4.at nP el),hat,_,_,rfl,by omega,Mid.of_lt (by omega) (by omega),fun r' H5 s5 er'=>?_⟩
        exact k _ _ _ H5 (s1.trans (s2.trans ((SameE.of sl).trans (s4.trans (SameE.of s5))))) (p4.mono s5) ((low_num (B:=F) er' b1 (show (tp - 4).natAbs ≤ _ by omega) (by omega)).er (H':=H5) (p4.mono s5))
    · rw [tdOf_pos z] at ht1
      obtain ⟨q2,q3,q4⟩:=hq.resolve_left z
      refine ⟨_,rfl,td,_,_,_,rfl,rfl,.of (er_le _ _ ht1),rfl,rfl,true,by decide +kernel,iteT ?_⟩
      refine ⟨_,rfl,_,_,rfl,rfl,_,rfl,ite2 (fun _=>?_) (fun _=>?_)⟩
      · exact k _ 0 1 H1 s1 p1 (.rem (by decide) (by omega) q3)
      · refine ⟨_,rfl,_,rfl,td,_,_,_,rfl,rfl,.of (er_le _ _ ht1),rfl,P0,a,ns,q,rfl,p1,hS1,by omega,Mid.of_lt (by omega) (by omega),fun r H2 r0 r1 s2 p2=>?_⟩
        exact k _ r 1 H2 (s1.trans s2) p2 (.rem r0 r1 q3)
theorem sc_law_e_carried:FnScope ["told","row","numbers","many","found","i","total","j"] ["told","row","numbers","many"] (defScope s_law_e_carried):=⟨rfl,rfl,rfl,by decide +kernel,rfl,by decide +kernel,by decide +kernel⟩
theorem ok_law_e_carried (T:Txt K mg t):FnOk P w K mg base CX0 4 t.f_law_e_carried t.d_law_e_carried ["told","row","numbers","many"] spECar:=by
  have S:=sc_law_e_carried
  have G_law_e_of:=ok_law_e_of (P:=P) (w:=w) (base:=base) (B:=1000) T
  have G_law_e_plus:=ok_law_e_plus (P:=P) (w:=w) (base:=base) T
  have G_law_e_times:=ok_law_e_times (P:=P) (w:=w) (base:=base) T
  refine T.F_law_e_carried.ok S (fun vs H Q E h=>?_) (fun cdv A outer s H vs Q E hr h=>?_)
  · obtain ⟨td,a,c,q,ps,xs,h,k,many,r,b,x,M,R,X,rfl,_⟩:=h
    rfl
  · obtain ⟨td,a,c,q,ps,xs,h,k,many,r,b,x,M,R,X,rfl,ht,hq,hA,hX,C,hm,kk⟩:=h
    refine ⟨_,(@pss_cons _ _ _ _ _ (@ps_put _ _ 4 _ _ _ _ (by rfl) (by first | exact .inl rfl | exact .inr rfl | assumption) S.nd rfl (Or.inl rfl) (@pe_lst _ _ _ _ pa_nil))
      (@pss_cons _ _ _ _ _ (ps_for PassesOwn.never rfl (pi_range1 rfl T.n_range (@pa_mor _ _ _ _ _ (by rfl) (pv 3) pa_nil)) (pg_name (i:=5) S.nd rfl (Or.inl rfl))
        (@pss_cons _ _ _ _ _ (@ps_put _ _ 6 _ _ _ _ (by rfl) (by first | exact .inl rfl | exact .inr rfl | assumption) S.nd rfl (Or.inl rfl) (pe_call G_law_e_of (hr.mono (by decide)) rfl T.mg_law_e_of T.F_law_e_of.kp T.b_law_e_of .nil pass0 (@pa_mor _ _ _ _ _ (by rfl) (pv 0) (@pa_mor _ _ _ _ _ (by rfl) pe_int pa_nil))))
      (@pss_cons _ _ _ _ _ (ps_for PassesOwn.never rfl (pi_range1 rfl T.n_range (@pa_mor _ _ _ _ _ (by rfl) (pe_callB call_len_seq rfl T.n_len boot_len (@pa_mor _ _ _ _ _ (by rfl) (pv 2) pa_nil)) pa_nil)) (pg_name (i:=7) S.nd rfl (Or.inl rfl))
        (@pss_one _ _ _ (@ps_put _ _ 6 _ _ _ _ (by rfl) (by first | exact .inl rfl | exact .inr rfl | assumption) S.nd rfl (Or.inl rfl) (pe_call G_law_e_plus (hr.mono (by decide)) rfl T.mg_law_e_plus T.F_law_e_plus.kp T.b_law_e_plus .nil pass0 (@pa_mor _ _ _ _ _ (by rfl) (pv 0) (@pa_mor _ _ _ _ _ (by rfl) (pv 6) (@pa_mor _ _ _ _ _ (by rfl) (pe_call G_law_e_times (hr.mono (by decide)) rfl T.mg_law_e_times T.F_law_e_times.kp T.b_law_e_times .nil pass0 (@pa_mor _ _ _ _ _ (by rfl) (pv 0) (@pa_mor _ _ _ _ _ (by rfl) (@pe_ix _ _ _ _ _ _ _ ix_list (pv 1) (@pe_op _ _ _ _ _ _ _ _ op_sub (@pe_op _ _ _ _ _ _ _ _ op_add (@pe_op _ _ _ _ _ _ _ _ op_fdiv (pe_callB call_len_seq rfl T.n_len boot_len (@pa_mor _ _ _ _ _ (by rfl) (pv 1) pa_nil)) pe_int) (pv 5)) (pv 7)) (fun _ _=>rfl)) (@pa_mor _ _ _ _ _ (by rfl) (@pe_ix _ _ _ _ _ _ _ ix_list (pv 2) (pv 7) (fun _ _=>rfl)) pa_nil)))) pa_nil)))))))
      (@pss_one _ _ _ (ps_expr (pe_bm PySem.F.plainAttrs_list PySem.F.slot_list_append PySem.F.type_list_append mt_append (pv 4) (@pa_mor _ _ _ _ _ (by rfl) (pv 6) pa_nil)))))))
      (@pss_one _ _ _ (@ps_ret _ _ _ _ (pv 4))))),?_⟩
    have kh:=C.kh
    have h40:=C.h40
    have lp:=C.len
    have lx:=C.lx
    have cp:=hA.canonP
    have cx:=hX.canonP
    have nbM:=nz_mul hq C.nb C.nM
    have b1000:1000 ≤ 10 ^ 300:=by decide +kernel
    obtain ⟨vs,ea,lv,fv⟩:=id hA
    obtain ⟨us,ec,lu,fu⟩:=id hX
    refine ⟨by show 0 ≤ sizeLine; decide,fun fd nfd=>?_⟩
    have s0:Same H (upd H fd (.lst [])):=same_upd nfd
    have ef0:upd H fd (.lst []) fd = some (.lst []):=upd_same
    dsimp only [gName]
    generalize upd H fd (.lst []) = H1 at s0 ef0 ⊢
    refine ⟨_,rfl,(many:Int),rfl,by omega,by omega,?_⟩
    rw [Int.toNat_natCast]
    refine for_range (fun i σ Hc=>Same H Hc∧∃ (ys:List V) (v5 v6 v7:Option V),σ = [some (.ref td),some (.ref a),some (.ref c),some (.int (many:Int)),some (.ref fd),v5,v6,v7]∧Hc fd = some (.lst ys)∧ys.length = i∧∀ (j:Nat) (y:V),ys[j]? = some y→∃ p:Int × Int,NumAt (10 ^ 300) Hc q y p.1 p.2∧Weq q p (carS r x j k,b * M)) ⟨s0,[],_,_,_,rfl,ef0,rfl,fun j y e=>by simp at e⟩ ?_ ?_
    · rintro i σ Hc hi ⟨sc,ys,v5,v6,v7,rfl,ef,lys,hys⟩
      have hi':i < h + 1:=by omega
      refine ⟨_,rfl,td,q,0,rfl,ht.mono sc,hq,by decide,by decide,fun v0 H2 s2 hv0=>?_⟩
      have e0:ofP q 0 = (0,1):=by unfold ofP; split <;> simp
      rw [e0] at hv0
      have ef2:=s2 _ _ ef
      dsimp only [gName]
      refine ⟨_,rfl,c,us,rfl,.inl (.of ((sc.trans s2) _ _ ec)),(k:Int),by rw [show us.length = k by omega],by omega,by omega,?_⟩
      rw [Int.toNat_natCast]
      refine for_range (fun j σ Hd=>Same H2 Hd∧∃ (tv:V) (p:Int × Int) (v7:Option V),σ = [some (.ref td),some (.ref a),some (.ref c),some (.int (many:Int)),some (.ref fd),some (.int (0 + (i:Int))),some tv,v7]∧NumAt (10 ^ 300) Hd q tv p.1 p.2∧Weq q p (carS r x i j,b * M)) ⟨Same.refl _,v0,(0,1),_,rfl,hv0.weak b1000,⟨0,by show (0:Int) * (b * M) - 0 * 1 = _; simp⟩⟩ ?_ ?_
      · rintro j σ Hd hj ⟨sd,tv,p,v7,rfl,hp,wp⟩
        have sT:=(sc.trans s2).trans sd
        have jv:h + i - j < vs.length:=by omega
        have ju:j < us.length:=by omega
        have nv:=(fv (h + i - j) vs[h + i - j] ps[h + i - j] (by simp [jv]) (by simp [show h + i - j < ps.length by omega])).mono sT
        have nu:=(fu j us[j] xs[j] (by simp [ju]) (by simp [show j < xs.length by omega])).mono sT
        obtain ⟨wm,bm⟩:=C.at hq cp cx hi' hj
        rw [getD_at (show h + i - j < ps.length by omega),getD_at (show j < xs.length by omega)] at wm
        refine ⟨_,rfl,_,rfl,_,rfl,_,rfl,_,rfl,a,vs,rfl,.inl (.of (sT _ _ ea)),_,_,rfl,rfl,⟨by decide,by decide⟩,_,rfl,_,_,rfl,rfl,_,rfl,_,_,rfl,rfl,a,vs,_,vs[h + i - j],rfl,rfl,.of (sT _ _ ea),?_,?_⟩
        · show atI vs ((vs.length:Int) / 2 + (0 + (i:Int)) - (0 + (j:Int))) = _
          rw [show (vs.length:Int) / 2 + (0 + (i:Int)) - (0 + (j:Int)) = ((h + i - j:Nat):Int) by omega]
          exact atI_nat (by simp [jv])
        refine ⟨_,rfl,_,rfl,c,us,_,us[j],rfl,rfl,.of (sT _ _ ec),(by show atI us (0 + (j:Int)) = _; rw [Int.zero_add]; exact atI_nat (by simp [ju])),?_⟩
        refine ⟨td,q,_,_,ps[h + i - j],xs[j],10 ^ 300,rfl,ht.mono sT,hq,nv,nu,b1000,Nat.le_refl _,fun mv H3 s3 hmv=>?_⟩
        have mv':=hmv.resize (B':=10 ^ 300) hq nbM wm (Nat.le_trans bm (Nat.le_trans (Nat.le_mul_of_pos_left _ (by decide)) C.s)) C.t b1000
        refine ⟨td,q,_,_,p,_,10 ^ 300,rfl,(ht.mono sT).mono s3,hq,hp.mono s3,mv',b1000,Nat.le_refl _,fun sv H4 s4 hsv=>?_⟩
        have ws:Weq q (addP q p (mulQ q ps[h + i - j] xs[j])) (carS r x i (j + 1),b * M):=by
          have e:carS r x i (j + 1) = carS r x i j + r ((i:Int) - (j:Int)) * x j:=by unfold carS; rw [sumN_last]
          rw [e]
          exact weq_add hq hp.canon mv'.canon nbM wp wm
        exact ⟨sd.trans (s3.trans s4),sv,_,_,rfl,hsv.resize hq nbM ws (C.part i (by omega)) C.t b1000,ws⟩
      · rintro σ Hd ⟨sd,tv,p,v7,rfl,hp,wp⟩
        have efd:=sd _ _ ef2
        dsimp only
        refine ⟨_,rfl,.inl ⟨rfl,_,.of efd⟩,_,rfl,fd,ys,_,rfl,rfl,efd,small1000 (by omega),same_but ((sc.trans s2).trans sd) nfd,ys ++ [tv],_,_,_,rfl,upd_same,by simp [lys],fun j y hy=>?_⟩
        have far:∀ b o,b ≠ fd→Hd b = some o→upd Hd fd (.lst (ys ++ [tv])) b = some o:=fun b o nb e=>by rw [upd_ne nb]; exact e
        rcases Nat.lt_or_ge j ys.length with z | z
        · rw [List.getElem?_append_left z] at hy
          obtain ⟨p',h1,h2⟩:=hys j y hy
          exact ⟨p',((h1.mono s2).mono sd).far efd far,h2⟩
        · have hj:j = ys.length:=by
            have:=(List.getElem?_eq_some_iff.mp hy).1
            rw [List.length_append,List.length_singleton] at this
            omega
          subst hj
          rw [List.getElem?_append_right (Nat.le_refl _),Nat.sub_self] at hy
          cases hy
          rw [lys]
          exact ⟨p,hp.far efd far,wp⟩
    · rintro σ Hc ⟨sc,ys,v5,v6,v7,rfl,ef,lys,hys⟩
      obtain ⟨zs,lz,hz⟩:=pick (R:=fun i y p=>NumAt (10 ^ 300) Hc q y (Prod.fst p) (Prod.snd p)∧Weq q p (carS r x i k,b * M)) hys
      refine ⟨_,rfl,kk fd zs Hc sc nfd ⟨ys,ef,by omega,fun i v p h1 h2=>(hz i v p h1 h2).1⟩ (by omega) fun i hi=>?_⟩
      have i1:i < ys.length:=by omega
      have i2:i < zs.length:=by omega
      rw [getD_at i2]
      exact (hz i ys[i] zs[i] (by simp [i1]) (by simp [i2])).2
theorem sc_law_e_pair_right:FnScope ["told","row","pair","many","turn","due"] ["told","row","pair","many"] (defScope s_law_e_pair_right):=⟨rfl,rfl,rfl,by decide +kernel,rfl,by decide +kernel,by decide +kernel⟩
theorem ok_law_e_pair_right (T:Txt K mg t):FnOk P w K mg base CX0 5 t.f_law_e_pair_right t.d_law_e_pair_right ["told","row","pair","many"] spEPairR:=by
  have S:=sc_law_e_pair_right
  have G_law_e_of:=ok_law_e_of (P:=P) (w:=w) (base:=base) (B:=1000) T
  have G_law_e_is_row:=ok_law_e_is_row (P:=P) (w:=w) (base:=base) T
  have G_law_e_carried:=ok_law_e_carried (P:=P) (w:=w) (base:=base) T
  refine T.F_law_e_pair_right.ok S (fun vs H Q E h=>?_) (fun cdv A outer s H vs Q E hr h=>?_)
  · obtain ⟨td,a,t,f,b',q,ps,F,G,h,k,r,b,rfl,_⟩:=h
    rfl
  · obtain ⟨td,a,tp,f,b',q,ps,F,G,h,k,r,b,rfl,ht,hq,hA,et,rF,rG,PI,kk⟩:=h
    have hu8:=hr.units
    refine ⟨_,(@pss_cons _ _ _ _ _ (@ps_if _ _ _ _ _ _ _ _ (PW.pt (@pw_or _ _ _ _ _ _ _ (@pt_not _ _ _ _ (pt_val (pe_callB (call_isi (K:=K)) rfl T.n_isinstance boot_isinstance (@pa_mor _ _ _ _ _ (by rfl) (pv 2) (@pa_mor _ _ _ _ _ (by rfl) (pe_bltn (v:=.ty "tuple") rfl T.n_tuple boot_tuple rfl) pa_nil))))) (@pw_or1 _ _ _ _ (@pt_cmpR _ _ _ _ _ _ _ _ op_ne (pe_callB call_len_seq rfl T.n_len boot_len (@pa_mor _ _ _ _ _ (by rfl) (pv 2) pa_nil)) pe_int (nomark _))))) (@pss_one _ _ _ (@ps_ret _ _ _ _ pe_bl)) pss_nil)
      (@pss_cons _ _ _ _ _ (ps_for PassesOwn.never rfl (pi_range1 rfl T.n_range (@pa_mor _ _ _ _ _ (by rfl) pe_int pa_nil)) (pg_name (i:=4) S.nd rfl (Or.inl rfl))
        (@pss_cons _ _ _ _ _ (@ps_if _ _ _ _ _ _ _ _ (PW.pt (@pw_or _ _ _ _ _ _ _ (@pt_not _ _ _ _ (pt_val (pe_call G_law_e_is_row (hr.mono (by decide)) rfl T.mg_law_e_is_row T.F_law_e_is_row.kp T.b_law_e_is_row .nil pass0 (@pa_mor _ _ _ _ _ (by rfl) (pv 0) (@pa_mor _ _ _ _ _ (by rfl) (@pe_ix _ _ _ _ _ _ _ ix_tup (pv 2) (pv 4) (fun _ _=>rfl)) pa_nil))))) (@pw_or1 _ _ _ _ (@pt_cmpR _ _ _ _ _ _ _ _ op_ne (pe_callB call_len_seq rfl T.n_len boot_len (@pa_mor _ _ _ _ _ (by rfl) (@pe_ix _ _ _ _ _ _ _ ix_tup (pv 2) (pv 4) (fun _ _=>rfl)) pa_nil)) (pv 3) (nomark _))))) (@pss_one _ _ _ (@ps_ret _ _ _ _ pe_bl)) pss_nil)
      (@pss_cons _ _ _ _ _ (ps_comp (i0:=5) (N:=["k","told"]) (ρ:=(fun σ=>[σ[0]?.join])) ⟨rfl,rfl,by decide +kernel,by decide +kernel,(List.forall_mem_cons.mpr ⟨rfl,(List.forall_mem_nil _)⟩),has_of (by rfl),rfl,by decide +kernel,rfl,(fun σ j v h=>match j,h with | 0,h=>⟨0,_,rfl,rfl,join_some h,Or.inr (Or.inl rfl),.inl rfl,.inl rfl⟩ | j + 1,h=>by cases h),(fun _ _=>rfl)⟩ rfl S.nd rfl (Or.inl rfl) (pi_range1 rfl T.n_range (@pa_mor _ _ _ _ _ (by rfl) (pv 3) pa_nil)) (fun s₃ H₃ fp=>.nil) (fun s₃ H₃ fp=>(pe_call G_law_e_of (hr.mono (by decide)) rfl T.mg_law_e_of T.F_law_e_of.kp T.b_law_e_of .nil pass0 (@pa_mor _ _ _ _ _ (by rfl) (pv 1) (@pa_mor _ _ _ _ _ (by rfl) pe_int pa_nil)))))
      (@pss_cons _ _ _ _ _ (@ps_asg _ _ _ _ _ _ (pe_call G_law_e_of (hr.mono (by decide)) rfl T.mg_law_e_of T.F_law_e_of.kp T.b_law_e_of .nil pass0 (@pa_mor _ _ _ _ _ (by rfl) (pv 0) (@pa_mor _ _ _ _ _ (by rfl) pe_int pa_nil))) (pg_sub (pv 5) (@pe_op _ _ _ _ _ _ _ _ op_mul (pv 4) (@pe_op _ _ _ _ _ _ _ _ op_sub (pv 3) pe_int)) set_list) (by rfl) (by rfl) (by rfl))
      (@pss_one _ _ _ (@ps_if _ _ _ _ _ _ _ _ (@pt_cmpR _ _ _ _ _ _ _ _ (op_neL (n:=1) hu8) (pe_call G_law_e_carried (hr.mono (by decide)) rfl T.mg_law_e_carried T.F_law_e_carried.kp T.b_law_e_carried .nil pass0 (@pa_mor _ _ _ _ _ (by rfl) (pv 0) (@pa_mor _ _ _ _ _ (by rfl) (pv 1) (@pa_mor _ _ _ _ _ (by rfl) (@pe_ix _ _ _ _ _ _ _ ix_tup (pv 2) (pv 4) (fun _ _=>rfl)) (@pa_mor _ _ _ _ _ (by rfl) (pv 3) pa_nil))))) (pv 5) (nomark _)) (@pss_one _ _ _ (@ps_ret _ _ _ _ pe_bl)) pss_nil))))))
      (@pss_one _ _ _ (@ps_ret _ _ _ _ pe_bl)))),?_⟩
    have k1:=PI.k1
    have kh:=PI.kh
    have h40:=PI.h40
    have b300:10 ^ 230 ≤ 10 ^ 300:=by decide +kernel
    refine ⟨_,rfl,_,_,_,true,rfl,rfl,.of (.tup et),kit_same,true,rfl,iteF ⟨_,rfl,tp,_,rfl,.inr (.of et),rfl,_,rfl,ite2 (fun h=>?_) (fun _=>?_)⟩⟩
    · simp at h
    dsimp only [tNext]
    refine ⟨2,rfl,by decide,by decide,?_⟩
    refine for_range (fun i σ Hc=>Same H Hc∧∃ (v4 v5:Option V),σ = [some (.ref td),some (.ref a),some (.ref tp),some (.int (k:Int)),v4,v5]) ⟨Same.refl _,_,_,rfl⟩ ?_ ?_
    · rintro i σ Hc hi ⟨sc,v4,v5,rfl⟩
      obtain ⟨x0,xs,e,a2,hx,lx,he,cx,eE⟩:∃ (x0:Addr) (xs:List (Int × Int)) (e:Nat),atI ([.ref f,.ref b']:List V) (0 + (i:Int)) = some (.ref x0)∧RowG (10 ^ 230) H q x0 xs∧xs.length = k∧(0 + (i:Int)) * ((k:Int) - 1) = (e:Int)∧(∃ (x:Nat→Int) (M:Int),CarIn q ps xs h k r b x M (10 ^ 60) (10 ^ 220)∧∀ i,i < k→Cg q (carS r x i k) (if i = e then b * M else 0))∧e < k:=by
        rcases (show i = 0 ∨ i = 1 by omega) with rfl | rfl
        · exact ⟨f,F,0,rfl,rF,PI.lF,by simp,PI.front hq rF.canonP,by omega⟩
        · exact ⟨b',G,k - 1,rfl,rG,PI.lG,by show (0 + 1) * ((k:Int) - 1) = ((k - 1:Nat):Int); omega,PI.back hq rG.canonP,by omega⟩
      obtain ⟨x,M,C,hs⟩:=cx
      have lx':xs.length = k:=lx
      refine ⟨_,rfl,_,rfl,_,rfl,tp,_,_,.ref x0,rfl,rfl,.of (sc _ _ et),a2,td,x0,q,xs,10 ^ 230,rfl,ht.mono sc,hq,hx.mono sc,by omega,b300,fun H1 s1=>⟨true,rfl,iteF ?_⟩⟩
      have s01:=sc.trans s1
      obtain ⟨us,eu,lu,_⟩:=hx.mono s01
      refine ⟨_,rfl,_,rfl,tp,_,_,.ref x0,rfl,rfl,.of (s01 _ _ et),a2,x0,_,rfl,.inl (.of eu),_,rfl,rfl,_,rfl,ite2 (fun h=>?_) (fun _=>?_)⟩
      · exfalso
        have:(us.length:Int) = (k:Int):=by omega
        simp [this] at h
      dsimp only [tNext]
      have z0:ofP q 0 = (0,1):=by unfold ofP; split <;> simp
      have z1:ofP q 1 = (1,1):=by
        unfold ofP
        by_cases z:q = 0
        · rw [if_pos z]
        · rw [if_neg z,Int.emod_eq_of_lt (by decide) (by have:=one_lt hq z; omega)]
      refine seq_of (asg_of (comp_ofN (xs:=(List.range k).map fun i:Nat=>V.int (0 + (i:Int))) (fun R h=>⟨_,rfl,(k:Int),rfl,by omega,by omega,h _ _ (Same.refl _) (by rw [Int.toNat_natCast]; exact jseq_rng)⟩) (by rw [List.length_map,List.length_range]; exact small1000 (by omega)) (fun _ j y Hx=>NumAt 1000 Hx q y 0 1) (fun _ _ _ _ _ _ h1 e f=>h1.far e f) ?_ ?_))
      · intro D j v hj Hd R sd _ kd
        refine ⟨_,rfl,td,q,0,rfl,ht.mono (s01.trans sd),hq,by decide,by decide,fun v0 H' s' hv=>kd v0 H' s' ?_⟩
        rw [z0] at hv
        exact hv
      intro D ys H2 nD s2 lys hP eD
      rw [List.length_map,List.length_range] at lys
      have s02:=s01.trans s2
      dsimp only [gName]
      refine ⟨_,rfl,td,q,1,rfl,ht.mono s02,hq,by decide,by decide,fun v1 H3 s3 hv1=>?_⟩
      rw [z1] at hv1
      have s03:=s02.trans s3
      have eD3:=s3 _ _ eD
      refine ⟨_,rfl,_,rfl,_,rfl,_,_,rfl,rfl,_,_,rfl,rfl,.inl ⟨by omega,by omega⟩,D,ys,_,e,rfl,rfl,eD3,(by rw [he]; unfold ixN; rw [if_pos (by omega),if_pos (by omega),Int.toNat_natCast]),?_⟩
      have nDH:H D = none:=none_of s01 nD
      have s4:Same H (upd H3 D (.lst (ys.set e v1))):=same_but s03 nDH
      have far:∀ b o,b ≠ D→H3 b = some o→upd H3 D (.lst (ys.set e v1)) b = some o:=fun b o nb e=>by rw [upd_ne nb]; exact e
      have due:RowG 1000 (upd H3 D (.lst (ys.set e v1))) q D (dueP k e):=⟨_,upd_same,by rw [List.length_set]; unfold dueP; simp [lys],fun j v p h1 h2=>by
        have hj:j < k:=by
          have:=(List.getElem?_eq_some_iff.mp h1).1
          rw [List.length_set] at this
          omega
        unfold dueP at h2
        rw [List.getElem?_map,List.getElem?_range hj] at h2
        cases h2
        by_cases z:j = e
        · subst z
          rw [List.getElem?_set_self (by omega)] at h1
          cases h1
          dsimp only
          rw [if_pos rfl]
          exact hv1.far eD3 far
        · rw [List.getElem?_set_ne (by omega)] at h1
          dsimp only
          rw [if_neg z]
          exact ((hP j v h1).mono s3).far eD3 far⟩
      generalize upd H3 D (.lst (ys.set e v1)) = H4 at s4 due ⊢
      dsimp only [gName]
      refine ⟨_,rfl,_,rfl,_,rfl,_,rfl,tp,_,_,.ref x0,rfl,rfl,.of (s4 _ _ et),a2,_,rfl,td,a,x0,q,ps,xs,h,k,k,r,b,x,M,_,_,rfl,ht.mono s4,hq,hA.mono s4,(hx.mono s4).weak b300,C,kh,fun c5 zs H5 s5 nc5 rz lz wz=>?_⟩
      have ez:=car_due hq (nz_mul hq C.nb C.nM) lz rz.canonP wz hs
      rw [ez] at rz
      refine ⟨_,rfl,rowG_rlike hq rz (due.mono s5) ⟨false,rfl,iteF ?_⟩⟩
      exact ⟨s4.trans s5,_,_,rfl⟩
    · rintro σ Hc ⟨sc,v4,v5,rfl⟩
      exact kk Hc sc
theorem sc_law_e_told_row:FnScope ["pen","told","first","half","far","row","way","many","k"] ["pen","told","first"] (defScope s_law_e_told_row):=⟨rfl,rfl,rfl,by decide +kernel,rfl,by decide +kernel,by decide +kernel⟩
theorem ok_law_e_told_row (T:Txt K mg t):FnOk P w K mg base CX0 4 t.f_law_e_told_row t.d_law_e_told_row ["pen","told","first"] (spETold K):=by
  have S:=sc_law_e_told_row
  have G_law_e_next:=ok_law_e_next (P:=P) (w:=w) (base:=base) T
  have G_law_e_number:=ok_law_e_number (P:=P) (w:=w) (base:=base) T
  have G_law_e_of:=ok_law_e_of (P:=P) (w:=w) (base:=base) (B:=1000) T
  refine T.F_law_e_told_row.ok S (fun vs H Q E h=>?_) (fun cdv A outer s H vs Q E hr h=>?_)
  · obtain ⟨P0,a,td,ns,q,first,rfl,_⟩:=h
    rfl
  · obtain ⟨P0,a,td,ns,q,first,rfl,pc,hS,ht,hq,kk⟩:=h
    have hu:=hr.units0
    refine ⟨_,(@pss_cons _ _ _ _ _ (@ps_put _ _ 3 _ _ _ _ (by rfl) (by first | exact .inl rfl | exact .inr rfl | assumption) S.nd rfl (Or.inl rfl) (pe_call G_law_e_next (hr.mono (by decide)) rfl T.mg_law_e_next T.F_law_e_next.kp T.b_law_e_next .nil pass0 (@pa_mor _ _ _ _ _ (by rfl) (pv 0) (@pa_mor _ _ _ _ _ (by rfl) pe_int pa_nil))))
      (@pss_cons _ _ _ _ _ (@ps_if _ _ _ _ _ _ _ _ (@pt_cmpR _ _ _ _ _ _ _ _ op_eq (@pe_ix _ _ _ _ _ _ _ ix_tup (pv 1) pe_int (fun _ _=>rfl)) pe_str (nomark _)) (@pss_cons _ _ _ _ _ (@ps_put _ _ 3 _ _ _ _ (by rfl) (by first | exact .inl rfl | exact .inr rfl | assumption) S.nd rfl (Or.inl rfl) (pe_call G_law_e_next (hr.mono (by decide)) rfl T.mg_law_e_next T.F_law_e_next.kp T.b_law_e_next .nil pass0 (@pa_mor _ _ _ _ _ (by rfl) (pv 0) (@pa_mor _ _ _ _ _ (by rfl) pe_int pa_nil))))
      (@pss_one _ _ _ (@ps_if _ _ _ _ _ _ _ _ (PW.pt (pw_and (@pt_truth _ _ _ (pv 2) (fun _=>rfl)) (pw_and1 (@pt_cmpR _ _ _ _ _ _ _ _ op_eq (pe_call G_law_e_next (hr.mono (by decide)) rfl T.mg_law_e_next T.F_law_e_next.kp T.b_law_e_next .nil pass0 (@pa_mor _ _ _ _ _ (by rfl) (pv 0) (@pa_mor _ _ _ _ _ (by rfl) pe_int pa_nil))) pe_int (nomark _))))) (@pss_one _ _ _ (@ps_put _ _ 3 _ _ _ _ (by rfl) (by first | exact .inl rfl | exact .inr rfl | assumption) S.nd rfl (Or.inl rfl) (pe_call G_law_e_next (hr.mono (by decide)) rfl T.mg_law_e_next T.F_law_e_next.kp T.b_law_e_next .nil pass0 (@pa_mor _ _ _ _ _ (by rfl) (pv 0) (@pa_mor _ _ _ _ _ (by rfl) pe_int pa_nil))))) pss_nil))) pss_nil)
      (@pss_cons _ _ _ _ _ (@ps_put _ _ 4 _ _ _ _ (by rfl) (by first | exact .inl rfl | exact .inr rfl | assumption) S.nd rfl (Or.inr rfl) (@pe_ix _ _ _ _ _ _ _ ix_list (@pe_lst _ _ _ _ (@pa_mor _ _ _ _ _ (by rfl) (@pe_op _ _ _ _ _ _ _ _ op_pow pe_int pe_int) (@pa_mor _ _ _ _ _ (by rfl) (@pe_op _ _ _ _ _ _ _ _ op_pow pe_int pe_int) (@pa_mor _ _ _ _ _ (by rfl) pe_int (@pa_mor _ _ _ _ _ (by rfl) pe_int (@pa_mor _ _ _ _ _ (by rfl) pe_int (@pa_mor _ _ _ _ _ (by rfl) pe_int pa_nil))))))) (pe_callB (call_min2 rfl) rfl T.n_min boot_min (@pa_mor _ _ _ _ _ (by rfl) (pv 3) (@pa_mor _ _ _ _ _ (by rfl) pe_int pa_nil))) (fun _ _=>rfl)))
      (@pss_cons _ _ _ _ _ (@ps_put _ _ 5 _ _ _ _ (by rfl) (by first | exact .inl rfl | exact .inr rfl | assumption) S.nd rfl (Or.inr rfl) (pe_comp (N:=["k","pen","told","far"]) (ρ:=(fun σ=>[σ[0]?.join,σ[1]?.join,σ[4]?.join])) ⟨rfl,rfl,by decide +kernel,by decide +kernel,(List.forall_mem_cons.mpr ⟨rfl,(List.forall_mem_cons.mpr ⟨rfl,(List.forall_mem_cons.mpr ⟨rfl,(List.forall_mem_nil _)⟩)⟩)⟩),has_of (by rfl),rfl,by decide +kernel,rfl,(fun σ j v h=>match j,h with | 0,h=>⟨0,_,rfl,rfl,join_some h,Or.inr (Or.inl rfl),.inl rfl,.inl rfl⟩ | 1,h=>⟨1,_,rfl,rfl,join_some h,Or.inr (Or.inl rfl),.inl rfl,.inl rfl⟩ | 2,h=>⟨4,_,rfl,rfl,join_some h,Or.inr (Or.inl rfl),.inl rfl,.inl rfl⟩ | j + 3,h=>by cases h),(fun _ _=>rfl)⟩ rfl (pi_range1 rfl T.n_range (@pa_mor _ _ _ _ _ (by rfl) (@pe_op _ _ _ _ _ _ _ _ op_add (@pe_op _ _ _ _ _ _ _ _ op_mul pe_int (pv 3)) pe_int) pa_nil)) (fun s₃ H₃ fp=>.nil) (fun s₃ H₃ fp=>(pe_call G_law_e_number (hr.mono (by decide)) rfl T.mg_law_e_number T.F_law_e_number.kp T.b_law_e_number .nil pass0 (@pa_mor _ _ _ _ _ (by rfl) (pv 1) (@pa_mor _ _ _ _ _ (by rfl) (pv 2) (@pa_mor _ _ _ _ _ (by rfl) (pv 3) pa_nil)))))))
      (@pss_cons _ _ _ _ _ (@ps_put _ _ 6 _ _ _ _ (by rfl) (by first | exact .inl rfl | exact .inr rfl | assumption) S.nd rfl (Or.inl rfl) (pe_call G_law_e_next (hr.mono (by decide)) rfl T.mg_law_e_next T.F_law_e_next.kp T.b_law_e_next .nil pass0 (@pa_mor _ _ _ _ _ (by rfl) (pv 0) (@pa_mor _ _ _ _ _ (by rfl) pe_int pa_nil))))
      (@pss_cons _ _ _ _ _ (@ps_if _ _ _ _ _ _ _ _ (@pt_cmpR _ _ _ _ _ _ _ _ op_eq (pv 6) pe_int (nomark _)) (@pss_one _ _ _ (@ps_put _ _ 5 _ _ _ _ (by rfl) (by first | exact .inl rfl | exact .inr rfl | assumption) S.nd rfl (Or.inr rfl) (pe_comp (N:=["k","told","pen"]) (ρ:=(fun σ=>[σ[1]?.join,σ[0]?.join])) ⟨rfl,rfl,by decide +kernel,by decide +kernel,(List.forall_mem_cons.mpr ⟨rfl,(List.forall_mem_cons.mpr ⟨rfl,(List.forall_mem_nil _)⟩)⟩),has_of (by rfl),rfl,by decide +kernel,rfl,(fun σ j v h=>match j,h with | 0,h=>⟨1,_,rfl,rfl,join_some h,Or.inr (Or.inl rfl),.inl rfl,.inl rfl⟩ | 1,h=>⟨0,_,rfl,rfl,join_some h,Or.inr (Or.inl rfl),.inl rfl,.inl rfl⟩ | j + 2,h=>by cases h),(fun _ _=>rfl)⟩ rfl (pi_range1 rfl T.n_range (@pa_mor _ _ _ _ _ (by rfl) (@pe_op _ _ _ _ _ _ _ _ op_add (@pe_op _ _ _ _ _ _ _ _ op_mul pe_int (pv 3)) pe_int) pa_nil)) (fun s₃ H₃ fp=>.nil) (fun s₃ H₃ fp=>(pe_call G_law_e_of (hr.mono (by decide)) rfl T.mg_law_e_of T.F_law_e_of.kp T.b_law_e_of .nil pass0 (@pa_mor _ _ _ _ _ (by rfl) (pv 1) (@pa_mor _ _ _ _ _ (by rfl) (@pe_op _ _ _ _ _ _ _ _ op_sub (pe_call G_law_e_next (hr.mono (by decide)) rfl T.mg_law_e_next T.F_law_e_next.kp T.b_law_e_next .nil pass0 (@pa_mor _ _ _ _ _ (by rfl) (pv 2) (@pa_mor _ _ _ _ _ (by rfl) pe_int pa_nil))) pe_int) pa_nil))))))) pss_nil)
      (@pss_cons _ _ _ _ _ (@ps_if _ _ _ _ _ _ _ _ (@pt_cmpR _ _ _ _ _ _ _ _ op_eq (pv 6) pe_int (nomark _)) (@pss_cons _ _ _ _ _ (@ps_put _ _ 7 _ _ _ _ (by rfl) (by first | exact .inl rfl | exact .inr rfl | assumption) S.nd rfl (Or.inr rfl) (@pe_op _ _ _ _ _ _ _ _ op_add pe_int (pe_call G_law_e_next (hr.mono (by decide)) rfl T.mg_law_e_next T.F_law_e_next.kp T.b_law_e_next .nil pass0 (@pa_mor _ _ _ _ _ (by rfl) (pv 0) (@pa_mor _ _ _ _ _ (by rfl) (@pe_op _ _ _ _ _ _ _ _ op_add (pv 3) pe_int) pa_nil)))))
      (@pss_one _ _ _ (@ps_put _ _ 5 _ _ _ _ (by rfl) (by first | exact .inl rfl | exact .inr rfl | assumption) S.nd rfl (Or.inr rfl) (pe_comp (N:=["k","row","many"]) (ρ:=(fun σ=>[σ[5]?.join,σ[7]?.join])) ⟨rfl,rfl,by decide +kernel,by decide +kernel,(List.forall_mem_cons.mpr ⟨rfl,(List.forall_mem_cons.mpr ⟨rfl,(List.forall_mem_nil _)⟩)⟩),has_of (by rfl),rfl,by decide +kernel,rfl,(fun σ j v h=>match j,h with | 0,h=>⟨5,_,rfl,rfl,join_some h,Or.inr (Or.inl rfl),.inl rfl,.inl rfl⟩ | 1,h=>⟨7,_,rfl,rfl,join_some h,Or.inr (Or.inl rfl),.inl rfl,.inl rfl⟩ | j + 2,h=>by cases h),(fun _ _=>rfl)⟩ rfl (pi_range1 rfl T.n_range (@pa_mor _ _ _ _ _ (by rfl) (@pe_op _ _ _ _ _ _ _ _ op_add (@pe_op _ _ _ _ _ _ _ _ op_mul pe_int (pv 3)) pe_int) pa_nil)) (fun s₃ H₃ fp=>.nil) (fun s₃ H₃ fp=>(@pe_ix _ _ _ _ _ _ _ (ix_listK (K:=K)) (pv 1) (@pe_op _ _ _ _ _ _ _ _ op_mod (pv 0) (pv 2)) (fun _ _=>rfl))))))) pss_nil)
      (@pss_cons _ _ _ _ _ (@ps_if _ _ _ _ _ _ _ _ (@pt_cmpR _ _ _ _ _ _ _ _ op_eq (pv 6) pe_int (nomark _)) (@pss_cons _ _ _ _ _ (@ps_put _ _ 7 _ _ _ _ (by rfl) (by first | exact .inl rfl | exact .inr rfl | assumption) S.nd rfl (Or.inr rfl) (pe_call G_law_e_next (hr.mono (by decide)) rfl T.mg_law_e_next T.F_law_e_next.kp T.b_law_e_next .nil pass0 (@pa_mor _ _ _ _ _ (by rfl) (pv 0) (@pa_mor _ _ _ _ _ (by rfl) (@pe_op _ _ _ _ _ _ _ _ op_add (pv 3) pe_int) pa_nil))))
      (@pss_one _ _ _ (ps_for PassesOwn.never rfl (pi_range1 rfl T.n_range (@pa_mor _ _ _ _ _ (by rfl) (@pe_op _ _ _ _ _ _ _ _ op_sub (pv 3) (pv 7)) pa_nil)) (pg_name (i:=8) S.nd rfl (Or.inl rfl))
        (@pss_cons _ _ _ _ _ (@ps_asg _ _ _ _ _ _ (pe_call G_law_e_of (hr.mono (by decide)) rfl T.mg_law_e_of T.F_law_e_of.kp T.b_law_e_of .nil pass0 (@pa_mor _ _ _ _ _ (by rfl) (pv 1) (@pa_mor _ _ _ _ _ (by rfl) pe_int pa_nil))) (pg_sub (pv 5) (pv 8) set_list) (by rfl) (by rfl) (by rfl))
      (@pss_one _ _ _ (@ps_asg _ _ _ _ _ _ (pe_call G_law_e_of (hr.mono (by decide)) rfl T.mg_law_e_of T.F_law_e_of.kp T.b_law_e_of .nil pass0 (@pa_mor _ _ _ _ _ (by rfl) (pv 1) (@pa_mor _ _ _ _ _ (by rfl) pe_int pa_nil))) (pg_sub (pv 5) (@pe_op _ _ _ _ _ _ _ _ op_sub (@pe_op _ _ _ _ _ _ _ _ op_mul pe_int (pv 3)) (pv 8)) set_list) (by rfl) (by rfl) (by rfl))))))) pss_nil)
      (@pss_cons _ _ _ _ _ (@ps_if _ _ _ _ _ _ _ _ (PW.pt (pw_and (@pt_cmpR _ _ _ _ _ _ _ _ (op_eqM hu) (@pe_ix _ _ _ _ _ _ _ ix_list (pv 5) (pv 3) (fun _ _=>rfl)) (pe_call G_law_e_of (hr.mono (by decide)) rfl T.mg_law_e_of T.F_law_e_of.kp T.b_law_e_of .nil pass0 (@pa_mor _ _ _ _ _ (by rfl) (pv 1) (@pa_mor _ _ _ _ _ (by rfl) pe_int pa_nil))) (nomark _)) (pw_and1 (@pt_cmpR _ _ _ _ _ _ _ _ op_gt (pe_call G_law_e_next (hr.mono (by decide)) rfl T.mg_law_e_next T.F_law_e_next.kp T.b_law_e_next .nil pass0 (@pa_mor _ _ _ _ _ (by rfl) (pv 0) (@pa_mor _ _ _ _ _ (by rfl) pe_int pa_nil))) pe_int (nomark _))))) (@pss_one _ _ _ (@ps_asg _ _ _ _ _ _ (pe_call G_law_e_of (hr.mono (by decide)) rfl T.mg_law_e_of T.F_law_e_of.kp T.b_law_e_of .nil pass0 (@pa_mor _ _ _ _ _ (by rfl) (pv 1) (@pa_mor _ _ _ _ _ (by rfl) pe_int pa_nil))) (pg_sub (pv 5) (pv 3) set_list) (by rfl) (by rfl) (by rfl))) pss_nil)
      (@pss_one _ _ _ (@ps_ret _ _ _ _ (pv 5)))))))))))),?_⟩
    refine ⟨_,rfl,P0,a,ns,6,rfl,pc,hS,by decide,Mid.of_lt (by decide) (by decide),fun h0 H1 h00 h01 s1 p1=>?_⟩
    have hS1:SqL K (er P0 H1) a (ns.map V.int):=Same.seq s1 hS
    have ht1:=ht.mono s1
    dsimp only [gName]
    refine seq_of (ifs_to (fun σ Hx=>∃ h:Nat,σ = [some (.ref P0),some (.ref td),some (.bl first),some (.int (h:Int)),none,none,none,none,none]∧SameE P0 H Hx∧PenC Hx P0 a∧h < 40∧(q = 0→h ≤ 5)) ?_ ?_)
    · rintro σ H2 ⟨h,rfl,s2,p2,h40,hq5⟩
      have hS2:SqL K (er P0 H2) a (ns.map V.int):=Same.seq s2 hS
      have ht2:=ht.mono s2
      have fk:=farN_ok h
      dsimp only
      refine ⟨_,_,rfl,rfl,⟨by decide,by decide,by decide⟩,_,_,rfl,rfl,⟨by decide,by decide,by decide⟩,by show 6 ≤ sizeLine; decide,fun lf nlf=>?_⟩
      have nfP:=p2.ne nlf
      have sl:Same H2 (upd H2 lf (.lst [.int (10 ^ Int.toNat 12),.int (10 ^ Int.toNat 12),.int 100,.int 100,.int 9,.int 9])):=same_upd nlf
      have el:upd H2 lf (.lst [.int (10 ^ Int.toNat 12),.int (10 ^ Int.toNat 12),.int 100,.int 100,.int 9,.int 9]) lf = some (.lst [.int (10 ^ 12),.int (10 ^ 12),.int 100,.int 100,.int 9,.int 9]):=upd_same
      generalize upd H2 lf (.lst [.int (10 ^ Int.toNat 12),.int (10 ^ Int.toNat 12),.int 100,.int 100,.int 9,.int 9]) = H3 at sl el ⊢
      have s3:=s2.trans (SameE.of sl)
      have p3:=p2.mono sl
      have hS3:SqL K (er P0 H3) a (ns.map V.int):=Same.seq s3 hS
      have ht3:=ht.mono s3
      refine ⟨_,rfl,_,_,rfl,lf,_,_,.int (farN h:Int),rfl,rfl,.of el,?_,?_⟩
      · show atI _ (if (5:Int) < (h:Int) then 5 else (h:Int)) = _
        rw [show (if (5:Int) < (h:Int) then 5 else (h:Int)) = min (h:Int) 5 by split <;> omega]
        exact far_at h
      dsimp only [gName]
      simp only [List.set_cons_zero,List.set_cons_succ]
      have en:(2 * (h:Int) + 1) = ((2 * h + 1:Nat):Int):=by omega
      refine seq_of (asg_of (comp_ofEw (P:=P0) (a:=a) (n:=2 * h + 1) (Nat.lt_of_le_of_lt (show 2 * h + 1 ≤ 100 by omega) (by decide)) (fun R h=>⟨_,rfl,_,_,rfl,rfl,.inl ⟨by decide,by decide⟩,_,_,rfl,rfl,_,congrArg (fun x=>[V.int x]) en,by omega,by omega,by rw [Int.toNat_natCast]; exact h H3 (SameE.refl _) p3⟩) (fun _ i y Hy=>∃ xm:Int × Int,NumAt (farN h) (er P0 Hy) q y xm.1 xm.2) (fun _ _ _ _ _ _ ⟨xm,h1⟩ e _ f=>⟨xm,h1.farE e f⟩) ?_ ?_))
      · intro D j hj Hd R sd pd _ nD kd
        exact ⟨_,rfl,_,rfl,_,rfl,P0,a,td,ns,q,(farN h:Int),farN h,rfl,pd,Same.seq sd hS3,ht3.mono sd,hq,by omega,by omega,fk.1,fk.2,fun v x m H' s' p' hv=>kd v H' s' p' ⟨(x,m),hv⟩⟩
      intro r0 ys H4 nr0 fr0 s4 p4 lys hP er0
      have s34:=s3.trans s4
      have hS4:SqL K (er P0 H4) a (ns.map V.int):=Same.seq s4 hS3
      have ht4:=ht3.mono s4
      dsimp only [gName]
      simp only [List.set_cons_zero,List.set_cons_succ]
      refine ⟨_,rfl,P0,a,ns,5,rfl,p4,hS4,by decide,Mid.of_lt (by decide) (by decide),fun way H5 w0 w1 s5 p5=>?_⟩
      have s35:=s34.trans s5
      have hS5:SqL K (er P0 H5) a (ns.map V.int):=Same.seq s5 hS4
      have ht5:=ht4.mono s5
      have row0:RowX P0 H H5 q r0 h (farN h):=⟨nr0,none_of s3 fr0,ys,s5.at nr0 er0,by omega,fun i v hv=>by
        obtain ⟨xm,g⟩:=hP i v hv
        exact ⟨xm,g.mono s5⟩⟩
      dsimp only [gName]
      simp only [List.set_cons_zero,List.set_cons_succ]
      refine seq_of (ifs_to (fun σ Hx=>∃ r:Addr,σ = [some (.ref P0),some (.ref td),some (.bl first),some (.int (h:Int)),some (.int (farN h:Int)),some (.ref r),some (.int way),none,none]∧SameE P0 H Hx∧PenC Hx P0 a∧RowX P0 H Hx q r h (farN h)) ?_ ?_)
      · rintro σ H6 ⟨r1,rfl,s6,p6,n1,f1,ys1,e1,l1,hP1⟩
        have hS6:SqL K (er P0 H6) a (ns.map V.int):=Same.seq s6 hS
        have ht6:=ht.mono s6
        dsimp only
        refine seq_of (ifs_to (fun σ Hx=>∃ (r:Addr) (v7:Option V),σ = [some (.ref P0),some (.ref td),some (.bl first),some (.int (h:Int)),some (.int (farN h:Int)),some (.ref r),some (.int way),v7,none]∧SameE P0 H Hx∧PenC Hx P0 a∧RowX P0 H Hx q r h (farN h)) ?_ ?_)
        · rintro σ H7 ⟨r2,v7,rfl,s7,p7,n2,f2,ys2,e2,l2,hP2⟩
          have hS7:SqL K (er P0 H7) a (ns.map V.int):=Same.seq s7 hS
          have ht7:=ht.mono s7
          dsimp only
          refine seq_of (ifs_to (fun σ Hx=>∃ (r:Addr) (v7 v8:Option V),σ = [some (.ref P0),some (.ref td),some (.bl first),some (.int (h:Int)),some (.int (farN h:Int)),some (.ref r),some (.int way),v7,v8]∧SameE P0 H Hx∧PenC Hx P0 a∧RowX P0 H Hx q r h (farN h)) ?_ ?_)
          · rintro σ H8 ⟨r3,v7,v8,rfl,s8,p8,n3,f3,ys3,e3,l3,hP3⟩
            have hS8:SqL K (er P0 H8) a (ns.map V.int):=Same.seq s8 hS
            have ht8:=ht.mono s8
            have hh:h < ys3.length:=by omega
            obtain ⟨xm,g⟩:=hP3 h ys3[h] (by simp [hh])
            dsimp only
            refine seq_of (ifs_to (fun σ Hx=>σ = [some (.ref P0),some (.ref td),some (.bl first),some (.int (h:Int)),some (.int (farN h:Int)),some (.ref r3),some (.int way),v7,v8]∧SameE P0 H Hx∧PenC Hx P0 a∧RowX P0 H Hx q r3 h (farN h)) ?_ ?_)
            · rintro σ H9 ⟨rfl,s9,p9,n4,f4,ys4,e4,l4,hP4⟩
              obtain ⟨ps,hR,lps⟩:=rowG_pick (er_some n4 e4) hP4
              exact ⟨_,rfl,kk r3 ps h H9 s9 p9 f4 n4 h40 hq5 (by omega) hR⟩
            · intro R hR
              have stay:∀ Hx,SameE P0 H8 Hx→PenC Hx P0 a→R [some (.ref P0),some (.ref td),some (.bl first),some (.int (h:Int)),some (.int (farN h:Int)),some (.ref r3),some (.int way),v7,v8] Hx:=fun Hx sx px=>hR _ _ ⟨rfl,s8.trans sx,px,n3,f3,ys3,sx.at n3 e3,l3,fun i v hv=>by
                obtain ⟨xm,g⟩:=hP3 i v hv
                exact ⟨xm,g.mono sx⟩⟩
              refine ⟨_,rfl,_,rfl,r3,ys3,_,ys3[h],rfl,rfl,.of e3,atI_nat (by simp [hh]),?_⟩
              refine ⟨_,rfl,td,q,0,rfl,ht8.mono er_le,hq,by decide,by decide,fun v0 H9 s9 ho=>?_⟩
              have h0':NumAt 1000 H9 q v0 0 1:=by
                have e:ofP q 0 = (0,1):=by unfold ofP; split <;> simp
                rw [e] at ho
                exact ho
              refine eqM_zero ((g.mono er_le).mono s9) h0' ⟨_,rfl,ite2 (fun hz0=>?_) (fun hz0=>?_)⟩
              · refine ⟨_,rfl,P0,a,ns,3,rfl,p8.mono s9,Same.seq (er_same s9) hS8,by decide,Mid.of_lt (by decide) (by decide),fun c H10 c0 c1 s10 p10=>⟨_,_,rfl,rfl,_,rfl,ite2 (fun _=>?_) (fun _=>?_)⟩⟩
                · have e3':=((SameE.of s9).trans s10).at n3 e3
                  have s810:=s8.trans ((SameE.of s9).trans s10)
                  refine ⟨_,rfl,td,q,1,rfl,(ht.mono s810).mono er_le,hq,by decide,by decide,fun v1 H11 s11 hv=>?_⟩
                  refine ⟨_,rfl,_,rfl,r3,ys3,_,h,rfl,rfl,s11 _ _ e3',(by show ixN ys3.length (h:Int) = _; unfold ixN; rw [if_pos (by omega),if_pos (by omega),Int.toNat_natCast]),?_⟩
                  obtain ⟨a1,a2,a3⟩:=RowX.put (a:=a) (i:=h) n3 f3 (s11 _ _ e3') l3 (fun i v hv=>by
                    obtain ⟨xm,g⟩:=hP3 i v hv
                    exact ⟨xm,(g.mono ((SameE.of s9).trans s10)).mono (er_same s11)⟩) (s810.trans (SameE.of s11)) (p10.mono s11) (xm:=ofP q 1) ((of_tiny (F:=farN h) hv (by show Int.natAbs 1 ≤ _; omega) (by omega)).er (H':=H11) (p10.mono s11))
                  exact hR _ _ ⟨rfl,a1,a2,a3⟩
                · exact stay _ ((SameE.of s9).trans s10) p10
              · exact stay _ (SameE.of s9) (p8.mono s9)
          · intro R hR
            refine ⟨_,rfl,rfl,_,rfl,ite2 (fun _=>?_) (fun _=>?_)⟩
            · refine ⟨_,rfl,_,rfl,_,_,rfl,rfl,P0,a,ns,(h:Int) + 1,rfl,p7,hS7,by omega,Mid.of_lt (by omega) (by omega),fun m0 H8 m00 m01 s8 p8=>?_⟩
              have s78:=s7.trans s8
              dsimp only [gName]
              refine ⟨_,rfl,_,rfl,_,_,rfl,rfl,(h:Int) - m0,rfl,by omega,by omega,?_⟩
              refine for_range (fun i σ Hc=>∃ v8:Option V,σ = [some (.ref P0),some (.ref td),some (.bl first),some (.int (h:Int)),some (.int (farN h:Int)),some (.ref r2),some (.int way),some (.int m0),v8]∧SameE P0 H Hc∧PenC Hc P0 a∧RowX P0 H Hc q r2 h (farN h)) ⟨_,rfl,s78,p8,n2,f2,ys2,s8.at n2 e2,l2,fun i v hv=>by
                obtain ⟨xm,g⟩:=hP2 i v hv
                exact ⟨xm,g.mono s8⟩⟩ ?_ ?_
              · rintro i σ Hc hi ⟨v8,rfl,sc,pc',nX,fX,ys,eX,lX,hX⟩
                have hi':(i:Int) < (h:Int) - m0:=by omega
                refine ⟨_,rfl,td,q,0,rfl,(ht.mono sc).mono er_le,hq,by decide,by decide,fun v1 H9 s9 hv=>?_⟩
                refine ⟨_,rfl,_,rfl,r2,ys,_,i,rfl,rfl,s9 _ _ eX,(by show ixN ys.length (0 + (i:Int)) = _; rw [Int.zero_add]; unfold ixN; rw [if_pos (by omega),if_pos (by omega),Int.toNat_natCast]),?_⟩
                obtain ⟨a1,a2,_,_,zs,eZ,lZ,hZ⟩:=RowX.put (a:=a) (i:=i) nX fX (s9 _ _ eX) lX (fun i v hv=>by
                  obtain ⟨xm,g⟩:=hX i v hv
                  exact ⟨xm,g.mono (er_same s9)⟩) (sc.trans (SameE.of s9)) (pc'.mono s9) (xm:=ofP q 0) ((of_tiny (F:=farN h) hv (by show Int.natAbs 0 ≤ _; omega) (by omega)).er (H':=H9) (pc'.mono s9))
                generalize upd H9 r2 (.lst (ys.set i v1)) = H10 at a1 a2 eZ hZ ⊢
                refine ⟨_,rfl,td,q,0,rfl,(ht.mono a1).mono er_le,hq,by decide,by decide,fun v2 H11 s11 hv2=>?_⟩
                refine ⟨_,rfl,_,rfl,_,_,rfl,rfl,.inl ⟨by decide,by decide⟩,_,rfl,_,_,rfl,rfl,r2,zs,_,2 * h - i,rfl,rfl,s11 _ _ eZ,(by show ixN zs.length (2 * (h:Int) - (0 + (i:Int))) = _; rw [show 2 * (h:Int) - (0 + (i:Int)) = ((2 * h - i:Nat):Int) by omega]; unfold ixN; rw [if_pos (by omega),if_pos (by omega),Int.toNat_natCast]),?_⟩
                obtain ⟨b1,b2,b3⟩:=RowX.put (a:=a) (i:=2 * h - i) nX fX (s11 _ _ eZ) lZ (fun i v hv=>by
                  obtain ⟨xm,g⟩:=hZ i v hv
                  exact ⟨xm,g.mono (er_same s11)⟩) (a1.trans (SameE.of s11)) (a2.mono s11) (xm:=ofP q 0) ((of_tiny (F:=farN h) hv2 (by show Int.natAbs 0 ≤ _; omega) (by omega)).er (H':=H11) (a2.mono s11))
                exact ⟨_,rfl,b1,b2,b3⟩
              · rintro σ Hc ⟨v8,rfl,sc,pc',rX⟩
                exact hR _ _ ⟨r2,_,_,rfl,sc,pc',rX⟩
            · exact hR _ _ ⟨r2,_,_,rfl,s7,p7,n2,f2,ys2,e2,l2,hP2⟩
        · intro R hR
          refine ⟨_,rfl,rfl,_,rfl,ite2 (fun _=>?_) (fun _=>?_)⟩
          · refine ⟨_,rfl,_,rfl,_,_,rfl,rfl,P0,a,ns,(h:Int) + 1,rfl,p6,hS6,by omega,Mid.of_lt (by omega) (by omega),fun m0 H7 m00 m01 s7 p7=>?_⟩
            refine ⟨_,_,rfl,rfl,?_⟩
            have s67:=s6.trans s7
            have e17:=s7.at n1 e1
            dsimp only [gName]
            refine asg_of (comp_ofEw (P:=P0) (a:=a) (n:=2 * h + 1) (Nat.lt_of_le_of_lt (show 2 * h + 1 ≤ 100 by omega) (by decide)) (fun R h=>⟨_,rfl,_,_,rfl,rfl,.inl ⟨by decide,by decide⟩,_,_,rfl,rfl,_,congrArg (fun x=>[V.int x]) en,by omega,by omega,by rw [Int.toNat_natCast]; exact h H7 (SameE.refl _) p7⟩) (fun _ i y Hy=>∃ xm:Int × Int,NumAt (farN h) (er P0 Hy) q y xm.1 xm.2) (fun _ _ _ _ _ _ ⟨xm,h1⟩ e _ f=>⟨xm,h1.farE e f⟩) ?_ ?_)
            · intro D j hj Hd R sd pd _ nD kd
              have em:((0 + (j:Int)) % (1 + m0)) = ((j % (m0.toNat + 1):Nat):Int):=by
                rw [show (0 + (j:Int)) = (j:Int) by omega,show 1 + m0 = ((m0.toNat + 1:Nat):Int) by omega]
                exact (Int.natCast_emod _ _).symm
              have hx:j % (m0.toNat + 1) < ys1.length:=Nat.lt_of_le_of_lt (Nat.mod_le _ _) (by omega)
              obtain ⟨xm,g⟩:=hP1 (j % (m0.toNat + 1)) ys1[j % (m0.toNat + 1)] (by simp [hx])
              refine ⟨_,rfl,_,rfl,_,rfl,_,_,rfl,rfl,(show (0:Int) < 1 + m0 by omega),r1,ys1,_,ys1[j % (m0.toNat + 1)],rfl,rfl,.of (sd.at n1 e17),?_,kd _ Hd (SameE.refl _) pd ⟨xm,(g.mono s7).mono sd⟩⟩
              show atI ys1 ((0 + (j:Int)) % (1 + m0)) = _
              rw [em]
              exact atI_nat (by simp [hx])
            · intro D ys Hx nD fD sx px lys hP eD
              exact hR _ _ ⟨D,_,rfl,s67.trans sx,px,nD,none_of s67 fD,ys,eD,lys,hP⟩
          · exact hR _ _ ⟨r1,_,rfl,s6,p6,n1,f1,ys1,e1,l1,hP1⟩
      · intro R hR
        refine ⟨_,rfl,rfl,_,rfl,ite2 (fun _=>?_) (fun _=>?_)⟩
        · refine asg_of (comp_ofEw (P:=P0) (a:=a) (n:=2 * h + 1) (Nat.lt_of_le_of_lt (show 2 * h + 1 ≤ 100 by omega) (by decide)) (fun R h=>⟨_,rfl,_,_,rfl,rfl,.inl ⟨by decide,by decide⟩,_,_,rfl,rfl,_,congrArg (fun x=>[V.int x]) en,by omega,by omega,by rw [Int.toNat_natCast]; exact h H5 (SameE.refl _) p5⟩) (fun _ i y Hy=>∃ xm:Int × Int,NumAt (farN h) (er P0 Hy) q y xm.1 xm.2) (fun _ _ _ _ _ _ ⟨xm,h1⟩ e _ f=>⟨xm,h1.farE e f⟩) ?_ ?_)
          · intro D j hj Hd R sd pd _ nD kd
            refine ⟨_,rfl,_,rfl,P0,a,ns,3,rfl,pd,Same.seq sd hS5,by decide,Mid.of_lt (by decide) (by decide),fun c H6 c0 c1 s6 p6=>⟨_,_,rfl,rfl,td,q,c - 1,rfl,((ht5.mono sd).mono s6).mono er_le,hq,by omega,by decide,fun v H' s' hv=>kd v H' (s6.trans (SameE.of s')) (p6.mono s') ⟨_,(of_tiny (F:=farN h) hv (by omega) (by omega)).er (H':=H') (p6.mono s')⟩⟩⟩
          · intro D ys Hx nD fD sx px lys hP eD
            exact hR _ _ ⟨D,rfl,s35.trans sx,px,nD,none_of s35 fD,ys,eD,lys,hP⟩
        · exact hR _ _ ⟨r0,rfl,s35,p5,row0⟩
    · intro R hR
      unfold ToldAt at ht1
      by_cases z:q = 0
      · subst z
        rw [tdOf_zero] at ht1
        refine ⟨_,rfl,td,_,_,_,rfl,rfl,.of (er_le _ _ ht1),rfl,rfl,false,by decide +kernel,iteF ?_⟩
        obtain ⟨h,rfl⟩:=Int.eq_ofNat_of_zero_le h00
        exact hR _ _ ⟨h,rfl,s1,p1,by omega,fun _=>by omega⟩
      · rw [tdOf_pos z] at ht1
        refine ⟨_,rfl,td,_,_,_,rfl,rfl,.of (er_le _ _ ht1),rfl,rfl,true,by decide +kernel,iteT ?_⟩
        refine ⟨_,rfl,P0,a,ns,12,rfl,p1,hS1,by decide,Mid.of_lt (by decide) (by decide),fun h1 H2 h10 h11 s2 p2=>?_⟩
        have hS2:SqL K (er P0 H2) a (ns.map V.int):=Same.seq s2 hS1
        have s12:=s1.trans s2
        obtain ⟨h,rfl⟩:=Int.eq_ofNat_of_zero_le h10
        have stay:∀ Hx,SameE P0 H Hx→PenC Hx P0 a→R [some (.ref P0),some (.ref td),some (.bl first),some (.int (h:Int)),none,none,none,none,none] Hx:=fun Hx sx px=>hR _ _ ⟨h,rfl,sx,px,by omega,fun e=>absurd e z⟩
        dsimp only [gName]
        refine ⟨_,rfl,first,rfl,?_⟩
        cases first with
        | false=>exact iteF (stay _ s12 p2)
        | true=>
          refine iteT ⟨_,rfl,P0,a,ns,8,rfl,p2,hS2,by decide,Mid.of_lt (by decide) (by decide),fun h2 H3 h20 h21 s3 p3=>⟨rfl,_,rfl,ite2 (fun _=>?_) (fun _=>?_)⟩⟩
          · refine ⟨_,rfl,P0,a,ns,40,rfl,p3,Same.seq s3 hS2,by decide,Mid.of_lt (by decide) (by decide),fun h4 H4 h40 h41 s4 p4=>?_⟩
            obtain ⟨h',rfl⟩:=Int.eq_ofNat_of_zero_le h40
            exact hR _ _ ⟨h',rfl,s12.trans (s3.trans s4),p4,by omega,fun e=>absurd e z⟩
          · exact stay _ (s12.trans s3) p3
theorem sc_law_e_tied:FnScope ["told","row","pair","many","nought","back","away","move"] ["told","row","pair"] (defScope s_law_e_tied):=⟨rfl,rfl,rfl,by decide +kernel,rfl,by decide +kernel,by decide +kernel⟩
theorem ok_law_e_tied (T:Txt K mg t):FnOk P w K mg base CX0 5 t.f_law_e_tied t.d_law_e_tied ["told","row","pair"] spETied:=by
  have S:=sc_law_e_tied
  have G_law_e_of:=ok_law_e_of (P:=P) (w:=w) (base:=base) (B:=1000) T
  have G_law_e_plus:=ok_law_e_plus (P:=P) (w:=w) (base:=base) T
  have G_law_e_times:=ok_law_e_times (P:=P) (w:=w) (base:=base) T
  have G_law_e_carried:=ok_law_e_carried (P:=P) (w:=w) (base:=base) T
  refine T.F_law_e_tied.ok S (fun vs H Q E h=>?_) (fun cdv A outer s H vs Q E hr h=>?_)
  · obtain ⟨td,a,tp,f,g,q,ps,F,G,h,k,r,b,rfl,_⟩:=h
    rfl
  · obtain ⟨td,a,tp,f,g,q,ps,F,G,h,k,r,b,rfl,ht,hq,hA,et,hF,hG,PI,kh,GS,nz,dz,kk⟩:=h
    have hu:=hr.units0
    refine ⟨_,(@pss_cons _ _ _ _ _ (@ps_put _ _ 3 _ _ _ _ (by rfl) (by first | exact .inl rfl | exact .inr rfl | assumption) S.nd rfl (Or.inl rfl) (@pe_op _ _ _ _ _ _ _ _ op_add (pe_callB call_len_seq rfl T.n_len boot_len (@pa_mor _ _ _ _ _ (by rfl) (@pe_ix _ _ _ _ _ _ _ ix_tup (pv 2) pe_int (fun _ _=>rfl)) pa_nil)) pe_int))
      (@pss_cons _ _ _ _ _ (@ps_put _ _ 4 _ _ _ _ (by rfl) (by first | exact .inl rfl | exact .inr rfl | assumption) S.nd rfl (Or.inr rfl) (pe_call G_law_e_of (hr.mono (by decide)) rfl T.mg_law_e_of T.F_law_e_of.kp T.b_law_e_of .nil pass0 (@pa_mor _ _ _ _ _ (by rfl) (pv 0) (@pa_mor _ _ _ _ _ (by rfl) pe_int pa_nil))))
      (@pss_cons _ _ _ _ _ (@ps_put _ _ 5 _ _ _ _ (by rfl) (by first | exact .inl rfl | exact .inr rfl | assumption) S.nd rfl (Or.inr rfl) (@pe_op _ _ _ _ _ _ _ _ op_cat (@pe_lst _ _ _ _ (@pa_mor _ _ _ _ _ (by rfl) (pv 4) pa_nil)) (@pe_ix _ _ _ _ _ _ _ ix_tup (pv 2) pe_int (fun _ _=>rfl))))
      (@pss_cons _ _ _ _ _ (@ps_put _ _ 6 _ _ _ _ (by rfl) (by first | exact .inl rfl | exact .inr rfl | assumption) S.nd rfl (Or.inr rfl) (pe_call G_law_e_times (hr.mono (by decide)) rfl T.mg_law_e_times T.F_law_e_times.kp T.b_law_e_times .nil pass0 (@pa_mor _ _ _ _ _ (by rfl) (pv 0) (@pa_mor _ _ _ _ _ (by rfl) (@pe_ix _ _ _ _ _ _ _ ix_list (pe_call G_law_e_carried (hr.mono (by decide)) rfl T.mg_law_e_carried T.F_law_e_carried.kp T.b_law_e_carried .nil pass0 (@pa_mor _ _ _ _ _ (by rfl) (pv 0) (@pa_mor _ _ _ _ _ (by rfl) (pv 1) (@pa_mor _ _ _ _ _ (by rfl) (pv 5) (@pa_mor _ _ _ _ _ (by rfl) (pv 3) pa_nil))))) pe_int (fun _ _=>rfl)) (@pa_mor _ _ _ _ _ (by rfl) (pe_call G_law_e_of (hr.mono (by decide)) rfl T.mg_law_e_of T.F_law_e_of.kp T.b_law_e_of .nil pass0 (@pa_mor _ _ _ _ _ (by rfl) (pv 0) (@pa_mor _ _ _ _ _ (by rfl) (@pe_un _ _ _ _ _ _ un_neg pe_int) pa_nil))) pa_nil)))))
      (@pss_cons _ _ _ _ _ (ps_comp (i0:=7) (N:=["k","told","back","away","pair","nought"]) (ρ:=(fun σ=>[σ[0]?.join,σ[5]?.join,σ[6]?.join,σ[2]?.join,σ[4]?.join])) ⟨rfl,rfl,by decide +kernel,by decide +kernel,(List.forall_mem_cons.mpr ⟨rfl,(List.forall_mem_cons.mpr ⟨rfl,(List.forall_mem_cons.mpr ⟨rfl,(List.forall_mem_cons.mpr ⟨rfl,(List.forall_mem_cons.mpr ⟨rfl,(List.forall_mem_nil _)⟩)⟩)⟩)⟩)⟩),has_of (by rfl),rfl,by decide +kernel,rfl,(fun σ j v h=>match j,h with | 0,h=>⟨0,_,rfl,rfl,join_some h,Or.inr (Or.inl rfl),.inl rfl,.inl rfl⟩ | 1,h=>⟨5,_,rfl,rfl,join_some h,Or.inr (Or.inl rfl),.inl rfl,.inl rfl⟩ | 2,h=>⟨6,_,rfl,rfl,join_some h,Or.inr (Or.inl rfl),.inl rfl,.inl rfl⟩ | 3,h=>⟨2,_,rfl,rfl,join_some h,Or.inr (Or.inl rfl),.inl rfl,.inl rfl⟩ | 4,h=>⟨4,_,rfl,rfl,join_some h,Or.inr (Or.inl rfl),.inl rfl,.inl rfl⟩ | j + 5,h=>by cases h),(fun _ _=>rfl)⟩ rfl S.nd rfl (Or.inl rfl) (pi_range1 rfl T.n_range (@pa_mor _ _ _ _ _ (by rfl) (pv 3) pa_nil)) (fun s₃ H₃ fp=>.nil) (fun s₃ H₃ fp=>(pe_call G_law_e_plus (hr.mono (by decide)) rfl T.mg_law_e_plus T.F_law_e_plus.kp T.b_law_e_plus .nil pass0 (@pa_mor _ _ _ _ _ (by rfl) (pv 1) (@pa_mor _ _ _ _ _ (by rfl) (@pe_ix _ _ _ _ _ _ _ (ix_listK (K:=K)) (pv 2) (pv 0) (fun _ _=>rfl)) (@pa_mor _ _ _ _ _ (by rfl) (pe_call G_law_e_times (hr.mono (by decide)) rfl T.mg_law_e_times T.F_law_e_times.kp T.b_law_e_times .nil pass0 (@pa_mor _ _ _ _ _ (by rfl) (pv 1) (@pa_mor _ _ _ _ _ (by rfl) (pv 3) (@pa_mor _ _ _ _ _ (by rfl) (@pe_ix _ _ _ _ _ _ _ (ix_listK (K:=K)) (@pe_op _ _ _ _ _ _ _ _ op_cat (@pe_ix _ _ _ _ _ _ _ (ix_tupK (K:=K)) (pv 4) pe_int (fun _ _=>rfl)) (@pe_lst _ _ _ _ (@pa_mor _ _ _ _ _ (by rfl) (pv 5) pa_nil))) (pv 0) (fun _ _=>rfl)) pa_nil)))) pa_nil))))))
      (@pss_cons _ _ _ _ _ (@ps_if _ _ _ _ _ _ _ _ (@pt_cmpR _ _ _ _ _ _ _ _ (op_eqM hu) (@pe_ix _ _ _ _ _ _ _ ix_list (pv 7) (@pe_op _ _ _ _ _ _ _ _ op_sub (pv 3) pe_int) (fun _ _=>rfl)) (pv 4) (nomark _)) (@pss_one _ _ _ (@ps_ret _ _ _ _ pe_bl)) pss_nil)
      (@pss_one _ _ _ (@ps_ret _ _ _ _ (pe_callB (call_all (K:=K) rfl) rfl T.n_all boot_all (@pa_mor _ _ _ _ _ (by rfl) (pe_comp (N:=["number","nought"]) (ρ:=(fun σ=>[σ[4]?.join])) ⟨rfl,rfl,by decide +kernel,by decide +kernel,(List.forall_mem_cons.mpr ⟨rfl,(List.forall_mem_nil _)⟩),has_of (by rfl),rfl,by decide +kernel,rfl,(fun σ j v h=>match j,h with | 0,h=>⟨4,_,rfl,rfl,join_some h,Or.inr (Or.inl rfl),.inl rfl,.inl rfl⟩ | j + 1,h=>by cases h),(fun _ _=>rfl)⟩ rfl (pi_list (pe_call G_law_e_carried (hr.mono (by decide)) rfl T.mg_law_e_carried T.F_law_e_carried.kp T.b_law_e_carried .nil pass0 (@pa_mor _ _ _ _ _ (by rfl) (pv 0) (@pa_mor _ _ _ _ _ (by rfl) (pv 1) (@pa_mor _ _ _ _ _ (by rfl) (pv 7) (@pa_mor _ _ _ _ _ (by rfl) (pv 3) pa_nil)))))) (fun s₃ H₃ fp=>.nil) (fun s₃ H₃ fp=>(@pe_cmpR _ _ _ _ _ _ _ _ (op_eqMK (K:=K) hu) (pv 0) (pv 1) (nomark _)))) pa_nil)))))))))),?_⟩
    obtain ⟨us,ef,lu,fu⟩:=id hF
    obtain ⟨ws,eg,lw,fw⟩:=id hG
    have h40:=PI.h40
    have k1:=PI.k1
    have lF:=PI.lF
    have lG:=PI.lG
    have lp:=PI.len
    have nD:=PI.nz
    have ok:=PI.ok
    have b1000:1000 ≤ 10 ^ 300:=by decide +kernel
    have b230:10 ^ 230 ≤ 10 ^ 300:=by decide +kernel
    have t1000:1000 ≤ 10 ^ 146:=by decide +kernel
    have s36:40 * (10 ^ 36 * 10 ^ 146) ≤ 10 ^ 300:=by decide +kernel
    refine ⟨_,rfl,tp,_,_,_,rfl,rfl,.of et,rfl,f,us,rfl,.inl (.of ef),_,_,rfl,rfl,?_⟩
    dsimp only [gName]
    rw [show (us.length:Int) + 1 = ((k + 1:Nat):Int) by omega]
    refine ⟨_,rfl,td,q,0,rfl,ht,hq,by decide,by decide,fun v0 H1 s1 hv0=>?_⟩
    have z0:ofP q 0 = (0,1):=by unfold ofP; split <;> simp
    rw [z0] at hv0
    dsimp only [gName]
    refine ⟨_,rfl,by show 1 ≤ sizeLine; decide,fun c1 n1=>?_⟩
    have s2:Same H1 (upd H1 c1 (.lst [v0])):=same_upd n1
    have s12:=s1.trans s2
    refine ⟨_,rfl,tp,_,_,_,rfl,rfl,.of (s12 _ _ et),rfl,c1,g,_,_,rfl,rfl,upd_same,s12 _ _ eg,Nat.le_trans (show _ ≤ 100 by simp; omega) (by decide),fun c2 n2=>?_⟩
    have s3:=s2.trans (same_upd (o:=.lst ([v0] ++ ws)) n2)
    have ec2:upd (upd H1 c1 (.lst [v0])) c2 (.lst ([v0] ++ ws)) c2 = some (.lst ([v0] ++ ws)):=upd_same
    dsimp only [gName]
    generalize upd (upd H1 c1 (.lst [v0])) c2 (.lst ([v0] ++ ws)) = H3 at s3 ec2 ⊢
    have s13:=s1.trans s3
    have rB:RowG (10 ^ 300) H3 q c2 (o1 :: G):=by
      refine RowG.cat (ps:=[o1]) ec2 rfl lw (fun i v p h1 h2=>?_) fun i v p h1 h2=>((fw i v p h1 h2).mono s13).weak b230
      match i,h1,h2 with
      | 0,h1,h2=>
        cases h1
        cases h2
        exact (hv0.mono s3).weak b1000
    have cB:=rB.canonP
    have lB:(o1 :: G).length = k + 1:=by rw [List.length_cons,lG]
    obtain ⟨x1,M1,C1,wC1⟩:=car_any (x:=fun j=>topBx k r j * b) (M:=topD k r) (R:=10 ^ 36) (X:=10 ^ 146) hq lp h40 lB (by omega) ok PI.rep cB nD PI.bx GS.bR GS.bb (fun z j _=>GS.bxB z kh j) (fun z=>Nat.le_trans (GS.bD z k kh) (by decide +kernel)) s36 t1000
    refine ⟨_,rfl,_,rfl,_,rfl,_,rfl,_,rfl,td,a,c2,q,ps,o1 :: G,h,k + 1,k + 1,r,b,x1,M1,_,_,rfl,ht.mono s13,hq,hA.mono s13,rB,C1,by omega,fun fd zs H4 s4 nfd rz lz wz=>?_⟩
    obtain ⟨ys,ey,ly,fy⟩:=id rz
    have y0:0 < ys.length:=by omega
    have z0':0 < zs.length:=by omega
    have ny0:=fy 0 ys[0] zs[0] (by simp [y0]) (by simp [z0'])
    have w0:=wz 0 (by omega)
    rw [getD_at z0'] at w0
    have s14:=s13.trans s4
    refine ⟨fd,ys,_,ys[0],rfl,rfl,.of ey,(by show atI ys ((0:Nat):Int) = _; exact atI_nat (by simp [y0])),?_⟩
    refine ⟨_,rfl,_,rfl,td,q,-1,rfl,ht.mono s14,hq,by decide,by decide,fun vm H5 s5 hvm=>?_⟩
    have s15:=s14.trans s5
    have wa:=tied_away hq PI (nz_mul hq C1.nb C1.nM) ny0.canon w0 (wC1 0)
    refine ⟨td,q,_,_,zs[0],ofP q (-1),10 ^ 300,rfl,ht.mono s15,hq,ny0.mono s5,hvm.weak b1000,b1000,Nat.le_refl _,fun va H6 s6 hva0=>?_⟩
    have hva:NumAt (10 ^ 300) H6 q va (mulQ q zs[0] (ofP q (-1))).1 (mulQ q zs[0] (ofP q (-1))).2:=hva0.resizeW hq nD wa (fun z=>by
      rw [Int.natAbs_neg]
      exact Nat.le_trans (GS.upB z kh h40) (by decide +kernel)) (fun z=>Nat.le_trans (GS.bD z k kh) (by decide +kernel)) b1000
    generalize mulQ q zs[0] (ofP q (-1)) = am at wa hva
    have ca:=hva.canon
    have s16:=s15.trans s6
    have s36':=s4.trans (s5.trans s6)
    have ec26:=s36' _ _ ec2
    have hv06:=hv0.mono (s3.trans s36')
    dsimp only [gName]
    have nDD:=nz_mul hq nD nD
    have et6:=s16 _ _ et
    have ef6:=s16 _ _ ef
    have ht6:=ht.mono s16
    have bvs:∀ (j:Nat),j < k + 1→∃ v,([v0] ++ ws)[j]? = some v∧NumAt (10 ^ 300) H6 q v ((o1 :: G).getD j o1).1 ((o1 :: G).getD j o1).2:=fun j hj=>by
      obtain ⟨vs',e',l',f'⟩:=rB.mono s36'
      rw [ec26] at e'
      cases e'
      have j1:j < ([v0] ++ ws).length:=by simp; omega
      have j2:j < (o1 :: G).length:=by omega
      refine ⟨([v0] ++ ws)[j],by simp [j1],?_⟩
      rw [getD_at j2]
      exact f' j _ _ (List.getElem?_eq_getElem j1) (List.getElem?_eq_getElem j2)
    have fvs:∀ {Hx:Hp},Same H6 Hx→∀ (j:Nat),j < k + 1→∃ v,(us ++ [v0])[j]? = some v∧NumAt (10 ^ 300) Hx q v ((F ++ [o1]).getD j o1).1 ((F ++ [o1]).getD j o1).2:=fun {Hx} sx j hj=>by
      by_cases z:j < k
      · have j1:j < us.length:=by omega
        have j2:j < F.length:=by omega
        refine ⟨us[j],by rw [List.getElem?_append_left j1]; simp [j1],?_⟩
        rw [cat_getL lF z,getD_at j2]
        exact ((fu j us[j] F[j] (by simp [j1]) (by simp [j2])).mono (s16.trans sx)).weak b230
      · have ej:j = k:=by omega
        refine ⟨v0,by rw [List.getElem?_append_right (by omega),show j - us.length = 0 by omega]; rfl,?_⟩
        rw [ej,show k = k + 0 by omega,cat_getR lF]
        exact (hv06.mono sx).weak b1000
    have cFx:∀ j,j < k + 1→Canon q ((F ++ [o1]).getD j o1):=fun j hj=>by
      obtain ⟨v,_,n⟩:=fvs (Same.refl _) j hj
      exact n.canon
    refine seq_of (asg_of (comp_ofN (xs:=(List.range (k + 1)).map fun i:Nat=>V.int (0 + (i:Int))) (fun R h=>⟨_,rfl,((k + 1:Nat):Int),rfl,by omega,by omega,h _ _ (Same.refl _) (by rw [Int.toNat_natCast]; exact jseq_rng)⟩) (by rw [List.length_map,List.length_range]; exact small1000 (by omega)) (fun _ j y Hy=>∃ p:Int × Int,NumAt (10 ^ 300) Hy q y p.1 p.2∧Weq q p (topD (k - 1) r * topF (k + 1) (turnI r) (k - j) * b,topD k r * topD k r)) (fun _ _ _ _ _ _ ⟨p,h1,h2⟩ e f=>⟨p,h1.far e f,h2⟩) ?_ ?_))
    · intro D j x hx Hc R sc _ kc
      have hj:j < k + 1:=by
        have:=(List.getElem?_eq_some_iff.mp hx).1
        simpa using this
      rw [List.getElem?_map,List.getElem?_range hj] at hx
      cases hx
      obtain ⟨vb,eb,nb⟩:=bvs j hj
      refine ⟨_,rfl,_,rfl,_,rfl,c2,_,_,vb,rfl,rfl,.of (sc _ _ ec26),(by show atI ([v0] ++ ws) (0 + (j:Int)) = _; rw [Int.zero_add]; exact atI_nat eb),?_⟩
      refine ⟨_,rfl,_,rfl,_,rfl,tp,_,_,_,rfl,rfl,.of (sc _ _ et6),rfl,_,rfl,by show 1 ≤ sizeLine; decide,fun c3 n3=>?_⟩
      have s7:Same Hc (upd Hc c3 (.lst [v0])):=same_upd n3
      refine ⟨f,c3,_,_,rfl,rfl,s7 _ _ (sc _ _ ef6),upd_same,Nat.le_trans (show _ ≤ 100 by simp; omega) (by decide),fun c4 n4=>?_⟩
      have s8:=s7.trans (same_upd (o:=.lst (us ++ [v0])) n4)
      have ec4:upd (upd Hc c3 (.lst [v0])) c4 (.lst (us ++ [v0])) c4 = some (.lst (us ++ [v0])):=upd_same
      generalize upd (upd Hc c3 (.lst [v0])) c4 (.lst (us ++ [v0])) = Hd at s8 ec4 ⊢
      have sd:=sc.trans s8
      obtain ⟨vf,evf,nf⟩:=fvs sd j hj
      refine ⟨_,rfl,c4,_,_,vf,rfl,rfl,.of ec4,(by show atI (us ++ [v0]) (0 + (j:Int)) = _; rw [Int.zero_add]; exact atI_nat evf),?_⟩
      obtain ⟨w1,w2⟩:=tied_at hq PI nz hj ca nb.canon nf.canon wa (PI.bx j hj) (PI.fx j hj)
      refine ⟨td,q,_,_,am,_,10 ^ 300,rfl,ht6.mono sd,hq,hva.mono sd,nf,b1000,Nat.le_refl _,fun vt He se hvt0=>?_⟩
      have hvt:=hvt0.resizeW (B':=10 ^ 300) hq nDD w1 (fun z=>by
        rw [Int.natAbs_mul,Int.natAbs_neg]
        exact Nat.le_trans (Nat.mul_le_mul (GS.upB z kh h40) (GS.fxB z kh j)) (by decide +kernel)) (fun z=>by
        rw [Int.natAbs_mul]
        exact Nat.le_trans (Nat.mul_le_mul (GS.bD z k kh) (GS.bD z k kh)) (by decide +kernel)) b1000
      have sde:=sd.trans se
      refine ⟨td,q,_,_,_,_,10 ^ 300,rfl,ht6.mono sde,hq,nb.mono sde,hvt,b1000,Nat.le_refl _,fun vs' Hf sf hvs=>?_⟩
      exact kc vs' Hf ((s8.trans se).trans sf) ⟨_,hvs.resizeW hq nDD w2 (fun z=>by
        rw [Int.natAbs_mul,Int.natAbs_mul]
        exact Nat.le_trans (Nat.mul_le_mul (Nat.mul_le_mul (GS.bD z (k - 1) (by omega)) (GS.bF z (k + 1) _ (by omega)).2) GS.bb) (by decide +kernel)) (fun z=>by
        rw [Int.natAbs_mul]
        exact Nat.le_trans (Nat.mul_le_mul (GS.bD z k kh) (GS.bD z k kh)) (by decide +kernel)) b1000,w2⟩
    intro mv ms H7 nmv s7 lms hms emv
    rw [List.length_map,List.length_range] at lms
    obtain ⟨xs,lxs,hxs⟩:=pick (R:=fun i y p=>NumAt (10 ^ 300) H7 q y (Prod.fst p) (Prod.snd p)∧Weq q p (topD (k - 1) r * topF (k + 1) (turnI r) (k - i) * b,topD k r * topD k r)) hms
    have rM:RowG (10 ^ 300) H7 q mv xs:=⟨ms,emv,by omega,fun i v p h1 h2=>(hxs i v p h1 h2).1⟩
    have wM:∀ j,j < k + 1→Weq q (xs.getD j o1) (topD (k - 1) r * topF (k + 1) (turnI r) (k - j) * b,topD k r * topD k r):=fun j hj=>by
      have j1:j < ms.length:=by omega
      have j2:j < xs.length:=by omega
      rw [getD_at j2]
      exact (hxs j ms[j] xs[j] (by simp [j1]) (by simp [j2])).2
    have cM:=rM.canonP
    have s17:=s16.trans s7
    have hv07:=hv06.mono s7
    have km:k < ms.length:=by omega
    have kx:k < xs.length:=by omega
    have nk:=(hxs k ms[k] xs[k] (by simp [km]) (by simp [kx])).1
    have wk:=wM k (by omega)
    rw [getD_at kx,Nat.sub_self,topF_zero,PI.tD] at wk
    have xk:xs[k].1 ≠ 0:=top_nz hq nk.canon (nz_mul hq (nz_mul hq (nz (k - 1) (by omega)) nD) (ok.nz hq)) wk
    dsimp only [gName]
    refine ⟨_,rfl,_,rfl,_,_,rfl,rfl,mv,ms,_,ms[k],rfl,rfl,.of emv,(by show atI ms (((k + 1:Nat):Int) - 1) = _; rw [show ((k + 1:Nat):Int) - 1 = (k:Int) by omega]; exact atI_nat (by simp [km])),?_⟩
    refine ⟨_,rfl,eqM_zero nk hv07 ⟨_,rfl,ite2 (fun hc=>absurd (of_decide_eq_true hc) xk) (fun _=>?_)⟩⟩
    have b256:1000 ≤ 10 ^ 256:=by decide +kernel
    obtain ⟨x2,M2,C2,wC2⟩:=car_any (x:=fun j=>topD (k - 1) r * topF (k + 1) (turnI r) (k - j) * b) (M:=topD k r * topD k r) (R:=10 ^ 36) (X:=10 ^ 256) hq lp h40 (by omega) (by omega) ok PI.rep cM nDD wM GS.bR GS.bb (fun z j _=>by
      rw [Int.natAbs_mul,Int.natAbs_mul]
      exact Nat.le_trans (Nat.mul_le_mul (Nat.mul_le_mul (GS.bD z (k - 1) (by omega)) (GS.bF z (k + 1) _ (by omega)).2) GS.bb) (by decide +kernel)) (fun z=>by
      rw [Int.natAbs_mul]
      exact Nat.le_trans (Nat.mul_le_mul (GS.bD z k kh) (GS.bD z k kh)) (by decide +kernel)) (by decide +kernel) b256
    dsimp only [tNext]
    refine ret_of (cb_of ?_)
    refine ⟨_,rfl,_,rfl,_,rfl,_,rfl,td,a,mv,q,ps,xs,h,k + 1,k + 1,r,b,x2,M2,_,_,rfl,ht.mono s17,hq,hA.mono s17,rM,C2,by omega,fun c6 zs2 H8 s8 n6 rz2 lz2 wz2=>?_⟩
    obtain ⟨es,ee,le,fe⟩:=id rz2
    refine ⟨c6,rfl,⟨_,.of ee⟩,fun D2 nD2=>?_⟩
    refine comp_seq (Q:=fun x H1=>allR K [x] H1 Q) (te:=tOp (rEqM K) (tVar 0) (tVar 1)) (ρσ:=[some v0]) (jseq_list (K:=K) (.of ee)) nD2 (small1000 (by omega)) (fun i y Hx=>y = .bl true) (fun _ _ _ _ _ h _ _=>h) ?_ ?_
    · intro i y hy Hd R sd _ kd
      have hi:i < k + 1:=by
        have:=(List.getElem?_eq_some_iff.mp hy).1
        omega
      have hi2:i < zs2.length:=by omega
      have n1:=fe i y zs2[i] hy (by simp [hi2])
      have wi:=wz2 i hi
      rw [getD_at hi2] at wi
      have e0:zs2[i] = o1:=none_left hq n1.canon (nz_mul hq (ok.nz hq) nDD) (nz_mul hq C2.nb C2.nM) wi (wC2 i) (car_tied PI nz dz hi)
      rw [e0] at n1
      exact ⟨_,rfl,_,rfl,eqM_zero (n1.mono sd) ((hv07.mono s8).mono sd) (by rw [decide_eq_true (show o1.1 = 0 from rfl)]; exact kd _ Hd (Same.refl _) rfl)⟩
    · intro ys2 Hd sd lys2 hP2 eD2
      refine ⟨D2,List.replicate ys2.length true,rfl,.of (by rw [eD2]; exact congrArg _ (congrArg _ (bls_of hP2))),?_⟩
      rw [all_yes]
      exact kk Hd (s17.trans (s8.trans sd))
theorem sc_law_e_next_right:FnScope ["told","world","row","pairs","m","handed","turn","found"] ["told","world","row","pairs","m"] (defScope s_law_e_next_right):=⟨rfl,rfl,rfl,by decide +kernel,rfl,by decide +kernel,by decide +kernel⟩
theorem ok_law_e_next_right (T:Txt K mg t):FnOk P w K mg base CX0 8 t.f_law_e_next_right t.d_law_e_next_right ["told","world","row","pairs","m"] (spENextR t.C_World):=by
  have S:=sc_law_e_next_right
  have G_law_e_pair_right:=ok_law_e_pair_right (P:=P) (w:=w) (base:=base) T
  have G_law_e_tied:=ok_law_e_tied (P:=P) (w:=w) (base:=base) T
  have G_grown:=ok_grown (P:=P) (w:=w) (base:=base) T
  refine T.F_law_e_next_right.ok S (fun vs H Q E h=>?_) (fun cdv A outer s H vs Q E hr h=>?_)
  · obtain ⟨td,z,a,l,q,ps,D,f0,T',h,N,m,A,Af,Ab,F,G,r,b,H0,rfl,_⟩:=h
    rfl
  · obtain ⟨td,z,a,l,q,ps,D,f0,T',h,N,m,A,Af,Ab,F,G,r,b,H0,rfl,ht,hz,hq,hA,GI,T36,D36,gA,gN,gB,gS,mN,mh,kk⟩:=h
    have hu:=hr.units0
    have hu8:=hr.units
    refine ⟨_,(@pss_cons _ _ _ _ _ (@ps_put _ _ 5 _ _ _ _ (by rfl) (by first | exact .inl rfl | exact .inr rfl | assumption) S.nd rfl (Or.inl rfl) (@pe_lst _ _ _ _ (@pa_mor _ _ _ _ _ (by rfl) (pe_callTy call_list_of rfl T.n_list boot_list (@pa_mor _ _ _ _ _ (by rfl) (pv 2) pa_nil)) (@pa_mor _ _ _ _ _ (by rfl) (pe_callTy call_list_of rfl T.n_list boot_list (@pa_mor _ _ _ _ _ (by rfl) (@pe_ix _ _ _ _ _ _ _ ix_tup (@pe_ix _ _ _ _ _ _ _ ix_list (pv 3) (pv 4) (fun _ _=>rfl)) pe_int (fun _ _=>rfl)) pa_nil)) (@pa_mor _ _ _ _ _ (by rfl) (pe_callTy call_list_of rfl T.n_list boot_list (@pa_mor _ _ _ _ _ (by rfl) (@pe_ix _ _ _ _ _ _ _ ix_tup (@pe_ix _ _ _ _ _ _ _ ix_list (pv 3) (pv 4) (fun _ _=>rfl)) pe_int (fun _ _=>rfl)) pa_nil)) pa_nil)))))
      (@pss_cons _ _ _ _ _ (@ps_if _ _ _ _ _ _ _ _ (@pt_not _ _ _ _ (pt_val (pe_call G_law_e_pair_right (hr.mono (by decide)) rfl T.mg_law_e_pair_right T.F_law_e_pair_right.kp T.b_law_e_pair_right .nil pass0 (@pa_mor _ _ _ _ _ (by rfl) (pv 0) (@pa_mor _ _ _ _ _ (by rfl) (pv 2) (@pa_mor _ _ _ _ _ (by rfl) (@pe_ix _ _ _ _ _ _ _ ix_list (pv 3) (pv 4) (fun _ _=>rfl)) (@pa_mor _ _ _ _ _ (by rfl) (@pe_op _ _ _ _ _ _ _ _ op_add (pv 4) pe_int) pa_nil))))))) (@pss_one _ _ _ (@ps_ret _ _ _ _ pe_bl)) pss_nil)
      (@pss_cons _ _ _ _ _ (ps_for PassesOwn.never rfl (pi_range1 rfl T.n_range (@pa_mor _ _ _ _ _ (by rfl) pe_int pa_nil)) (pg_name (i:=6) S.nd rfl (Or.inl rfl))
        (@pss_cons _ _ _ _ _ (@ps_put _ _ 7 _ _ _ _ (by rfl) (by first | exact .inl rfl | exact .inr rfl | assumption) S.nd rfl (Or.inl rfl) (pe_call G_grown (hr.mono (by decide)) rfl T.mg_grown T.F_grown.kp T.b_grown .nil passN (@pa_mor _ _ _ _ _ (by rfl) (pv 1) (@pa_mor _ _ _ _ _ (by rfl) (@pe_ix _ _ _ _ _ _ _ ix_list (pv 5) pe_int (fun _ _=>rfl)) (@pa_mor _ _ _ _ _ (by rfl) (@pe_ix _ _ _ _ _ _ _ ix_list (pv 5) pe_int (fun _ _=>rfl)) (@pa_mor _ _ _ _ _ (by rfl) (@pe_ix _ _ _ _ _ _ _ ix_list (pv 5) pe_int (fun _ _=>rfl)) pa_nil))))))
      (@pss_cons _ _ _ _ _ (@ps_if _ _ _ _ _ _ _ _ (@pt_cmpR _ _ _ _ _ _ _ _ (op_neL (n:=2) hu8) (pv 5) (@pe_lst _ _ _ _ (@pa_mor _ _ _ _ _ (by rfl) (pv 2) (@pa_mor _ _ _ _ _ (by rfl) (@pe_ix _ _ _ _ _ _ _ ix_tup (@pe_ix _ _ _ _ _ _ _ ix_list (pv 3) (pv 4) (fun _ _=>rfl)) pe_int (fun _ _=>rfl)) (@pa_mor _ _ _ _ _ (by rfl) (@pe_ix _ _ _ _ _ _ _ ix_tup (@pe_ix _ _ _ _ _ _ _ ix_list (pv 3) (pv 4) (fun _ _=>rfl)) pe_int (fun _ _=>rfl)) pa_nil)))) (nomark _)) (@pss_one _ _ _ (@ps_ret _ _ _ _ pe_bl)) pss_nil)
      (@pss_one _ _ _ (@ps_if _ _ _ _ _ _ _ _ (@pt_cmpR _ _ _ _ _ _ _ _ op_eq (@pe_op _ _ _ _ _ _ _ _ op_add (pv 4) pe_int) (pe_callB call_len_seq rfl T.n_len boot_len (@pa_mor _ _ _ _ _ (by rfl) (pv 3) pa_nil)) (nomark _)) (@pss_one _ _ _ (@ps_if _ _ _ _ _ _ _ _ (PW.pt (@pw_or _ _ _ _ _ _ _ (@pt_cmpR _ _ _ _ _ _ _ _ op_notN (pv 7) pe_non (nomark _)) (@pw_or1 _ _ _ _ (@pt_not _ _ _ _ (pt_val (pe_call G_law_e_tied (hr.mono (by decide)) rfl T.mg_law_e_tied T.F_law_e_tied.kp T.b_law_e_tied .nil pass0 (@pa_mor _ _ _ _ _ (by rfl) (pv 0) (@pa_mor _ _ _ _ _ (by rfl) (pv 2) (@pa_mor _ _ _ _ _ (by rfl) (@pe_ix _ _ _ _ _ _ _ ix_list (pv 3) (pv 4) (fun _ _=>rfl)) pa_nil))))))))) (@pss_one _ _ _ (@ps_ret _ _ _ _ pe_bl)) pss_nil)) (@pss_one _ _ _ (@ps_if _ _ _ _ _ _ _ _ (PW.pt (@pw_or _ _ _ _ _ _ _ (@pt_not _ _ _ _ (pt_val (pe_call G_law_e_pair_right (hr.mono (by decide)) rfl T.mg_law_e_pair_right T.F_law_e_pair_right.kp T.b_law_e_pair_right .nil pass0 (@pa_mor _ _ _ _ _ (by rfl) (pv 0) (@pa_mor _ _ _ _ _ (by rfl) (pv 2) (@pa_mor _ _ _ _ _ (by rfl) (pv 7) (@pa_mor _ _ _ _ _ (by rfl) (@pe_op _ _ _ _ _ _ _ _ op_add (pv 4) pe_int) pa_nil))))))) (@pw_or1 _ _ _ _ (@pt_cmpR _ _ _ _ _ _ _ _ (op_neTr (n:=3) hu8) (pv 7) (@pe_ix _ _ _ _ _ _ _ ix_list (pv 3) (@pe_op _ _ _ _ _ _ _ _ op_add (pv 4) pe_int) (fun _ _=>rfl)) (nomark _))))) (@pss_one _ _ _ (@ps_ret _ _ _ _ pe_bl)) (@pss_one _ _ _ (ps_expr (pe_bm PySem.F.plainAttrs_list PySem.F.slot_list_append PySem.F.type_list_append mt_append (@pe_ix _ _ _ _ _ _ _ ix_tup (pv 7) (pv 6) (fun _ _=>rfl)) (@pa_mor _ _ _ _ _ (by rfl) pe_non pa_nil)))))))))))
      (@pss_one _ _ _ (@ps_ret _ _ _ _ pe_bl))))),?_⟩
    have lp:=GI.len
    have h40:=GI.h40
    have N1:=gN.N1
    have b300:10 ^ 150 ≤ 10 ^ 300:=by decide +kernel
    have PI:=gN.pair gB lp h40 mN
    have nz:∀ x,x < m + 1 + 1→¬ q ∣ topD x r:=fun x hx=>gN.nz x (by omega)
    obtain ⟨el,gE⟩:=id gA
    have ell:((List.range N).map fun i=>V.ref (A i)).length = N:=by simp
    obtain ⟨eT,_,_,_,rF,rG⟩:=gE m mN
    have at1:atI ((List.range N).map fun i=>V.ref (A i)) (m:Int) = some (.ref (A m)):=atI_nat (by simp [mN])
    obtain ⟨vs,ea,lv,fv⟩:=id hA
    obtain ⟨us,ef,lu,fu⟩:=id rF
    obtain ⟨ws,eg,lw,fw⟩:=id rG
    refine ⟨_,rfl,a,vs,rfl,.inl (.of ea),fun c1 n1=>?_⟩
    have s1:Same H (upd H c1 (.lst vs)):=same_upd n1
    have r1:RowG (10 ^ 150) (upd H c1 (.lst vs)) q c1 ps:=⟨vs,upd_same,lv,fun i v p h1 h2=>(fv i v p h1 h2).mono s1⟩
    generalize upd H c1 (.lst vs) = H1 at s1 r1 ⊢
    refine ⟨_,rfl,_,rfl,l,_,_,.ref (A m),rfl,rfl,.of (s1 _ _ el),at1,A m,_,_,_,rfl,rfl,.of (s1 _ _ eT),rfl,Af m,us,rfl,.inl (.of (s1 _ _ ef)),fun c2 n2=>?_⟩
    have s2:Same H1 (upd H1 c2 (.lst us)):=same_upd n2
    have s12:=s1.trans s2
    have r2:RowG (10 ^ 230) (upd H1 c2 (.lst us)) q c2 (F m):=⟨us,upd_same,lu,fun i v p h1 h2=>(fu i v p h1 h2).mono s12⟩
    generalize upd H1 c2 (.lst us) = H2 at s2 s12 r2 ⊢
    refine ⟨_,rfl,_,rfl,l,_,_,.ref (A m),rfl,rfl,.of (s12 _ _ el),at1,A m,_,_,_,rfl,rfl,.of (s12 _ _ eT),rfl,Ab m,ws,rfl,.inl (.of (s12 _ _ eg)),fun c3 n3=>?_⟩
    have s3:Same H2 (upd H2 c3 (.lst ws)):=same_upd n3
    have s13:=s12.trans s3
    have r3:RowG (10 ^ 230) (upd H2 c3 (.lst ws)) q c3 (G m):=⟨ws,upd_same,lw,fun i v p h1 h2=>(fw i v p h1 h2).mono s13⟩
    generalize upd H2 c3 (.lst ws) = H3 at s3 s13 r3 ⊢
    refine ⟨by show 3 ≤ sizeLine; decide,fun lh nlh=>?_⟩
    have s4:Same H3 (upd H3 lh (.lst [.ref c1,.ref c2,.ref c3])):=same_upd nlh
    have elh:upd H3 lh (.lst [.ref c1,.ref c2,.ref c3]) lh = some (.lst [.ref c1,.ref c2,.ref c3]):=upd_same
    dsimp only [gName]
    generalize upd H3 lh (.lst [.ref c1,.ref c2,.ref c3]) = H4 at s4 elh ⊢
    have s14:=s13.trans s4
    have q1:RowG (10 ^ 150) H4 q c1 ps:=((r1.mono s2).mono s3).mono s4
    have q2:RowG (10 ^ 230) H4 q c2 (F m):=(r2.mono s3).mono s4
    have q3:RowG (10 ^ 230) H4 q c3 (G m):=r3.mono s4
    have em1:((m:Int) + 1) = ((m + 1:Nat):Int):=by omega
    have em2:((m:Int) + 2) = ((m + 1 + 1:Nat):Int):=by omega
    refine ⟨_,rfl,_,rfl,_,rfl,_,rfl,l,_,_,.ref (A m),rfl,rfl,.of (s14 _ _ el),at1,_,rfl,_,_,rfl,rfl,td,a,A m,Af m,Ab m,q,ps,F m,G m,h,m + 1,r,b,congrArg (fun x=>[V.ref td,V.ref a,V.ref (A m),V.int x]) em1,ht.mono s14,hq,(hA.mono s14).weak b300,s14 _ _ eT,rF.mono s14,rG.mono s14,PI,fun H5 s5=>⟨true,rfl,iteF ?_⟩⟩
    have s15:=s14.trans s5
    dsimp only [tNext]
    refine ⟨2,rfl,by decide,by decide,?_⟩
    refine for_range (fun j σ Hx=>∃ (v6 v7:Option V),σ = [some (.ref td),some (.ref z),some (.ref a),some (.ref l),some (.int (m:Int)),some (.ref lh),v6,v7]∧Same H5 Hx) ⟨_,_,rfl,Same.refl _⟩ ?_ ?_
    · rintro j σ Hx hj ⟨v6,v7,rfl,sx⟩
      have sHx:=s15.trans sx
      have s4x:=s5.trans sx
      have elx:=s4x _ _ elh
      refine ⟨_,rfl,_,rfl,lh,_,_,.ref c1,rfl,rfl,.of elx,rfl,_,rfl,lh,_,_,.ref c2,rfl,rfl,.of elx,rfl,_,rfl,lh,_,_,.ref c3,rfl,rfl,.of elx,rfl,z,c1,c2,c3,q,ps,F m,G m,D,f0,T',h,m + 1,r,b,rfl,hz.mono sHx,hq,q1.mono s4x,GI,T36,D36,q2.mono s4x,q3.mono s4x,PI,by omega,gS,nz,?_,?_⟩
      · intro dv Hy sy
        have eN:N = m + 1:=by
          rcases Nat.lt_or_ge (m + 1) N with y | y
          · exact absurd dv (gN.nz (m + 1 + 1) (by omega))
          · omega
        have sHy:=sHx.trans sy
        have s4y:=s4x.trans sy
        dsimp only [gName]
        simp only [List.set_cons_zero,List.set_cons_succ]
        refine ⟨_,rfl,_,rfl,_,rfl,_,rfl,l,_,_,.ref (A m),rfl,rfl,.of (sHy _ _ el),at1,A m,_,_,_,rfl,rfl,.of (sHy _ _ eT),rfl,_,rfl,_,rfl,l,_,_,.ref (A m),rfl,rfl,.of (sHy _ _ el),at1,A m,_,_,_,rfl,rfl,.of (sHy _ _ eT),rfl,by show 3 ≤ sizeLine; decide,fun lx nlx=>?_⟩
        have slx:Same Hy (upd Hy lx (.lst [.ref a,.ref (Af m),.ref (Ab m)])):=same_upd nlx
        have elx2:upd Hy lx (.lst [.ref a,.ref (Af m),.ref (Ab m)]) lx = some (.lst [.ref a,.ref (Af m),.ref (Ab m)]):=upd_same
        generalize upd Hy lx (.lst [.ref a,.ref (Af m),.ref (Ab m)]) = Hz at slx elx2 ⊢
        have sHz:=sHy.trans slx
        have s4z:=s4y.trans slx
        refine rows_like3 hq (s4z _ _ elh) elx2 (q1.mono s4z) (q2.mono s4z) (q3.mono s4z) (hA.mono sHz) (rF.mono sHz) (rG.mono sHz) ⟨false,rfl,iteF ?_⟩
        dsimp only [tNext]
        refine ⟨_,rfl,_,_,rfl,rfl,_,rfl,l,_,rfl,.inl (.of (sHz _ _ el)),rfl,_,rfl,ite2 (fun _=>?_) (fun hc=>?_)⟩
        · refine ⟨_,rfl,rfl,_,rfl,iteF ?_⟩
          refine ⟨_,rfl,_,rfl,_,rfl,_,rfl,l,_,_,.ref (A m),rfl,rfl,.of (sHz _ _ el),at1,td,a,A m,Af m,Ab m,q,ps,F m,G m,h,m + 1,r,b,rfl,ht.mono sHz,hq,(hA.mono sHz).weak b300,sHz _ _ eT,rF.mono sHz,rG.mono sHz,PI,by omega,gS,nz,dv,fun Hw sw=>⟨true,rfl,iteF ?_⟩⟩
          exact ⟨_,_,rfl,sx.trans (sy.trans (slx.trans sw))⟩
        · exfalso
          rw [ell,eN] at hc
          exact hc (decide_eq_true (congrArg V.int em1))
      · intro nd tp f' b' F' G' Hy sy ntp nf' nb' nfb etp rF' rG' PN
        have m1N:m + 1 < N:=by
          rcases Nat.lt_or_ge (m + 1) N with y | y
          · exact y
          · have e:N = m + 1:=by omega
            have d:=gN.z (by omega)
            rw [e] at d
            exact absurd d nd
        have sHy:=sHx.trans sy
        have s4y:=s4x.trans sy
        obtain ⟨eT2,_,_,_,rF2,rG2⟩:=gE (m + 1) m1N
        obtain ⟨e1,e2⟩:=pair_one hq (gN.pair gB lp h40 m1N) PN rF2.canonP rG2.canonP rF'.canonP rG'.canonP
        subst e1
        subst e2
        dsimp only [gName]
        simp only [List.set_cons_zero,List.set_cons_succ]
        refine ⟨_,rfl,_,rfl,_,rfl,_,rfl,l,_,_,.ref (A m),rfl,rfl,.of (sHy _ _ el),at1,A m,_,_,_,rfl,rfl,.of (sHy _ _ eT),rfl,_,rfl,_,rfl,l,_,_,.ref (A m),rfl,rfl,.of (sHy _ _ el),at1,A m,_,_,_,rfl,rfl,.of (sHy _ _ eT),rfl,by show 3 ≤ sizeLine; decide,fun lx nlx=>?_⟩
        have slx:Same Hy (upd Hy lx (.lst [.ref a,.ref (Af m),.ref (Ab m)])):=same_upd nlx
        have elx2:upd Hy lx (.lst [.ref a,.ref (Af m),.ref (Ab m)]) lx = some (.lst [.ref a,.ref (Af m),.ref (Ab m)]):=upd_same
        generalize upd Hy lx (.lst [.ref a,.ref (Af m),.ref (Ab m)]) = Hz at slx elx2 ⊢
        have sHz:=sHy.trans slx
        have s4z:=s4y.trans slx
        refine rows_like3 hq (s4z _ _ elh) elx2 (q1.mono s4z) (q2.mono s4z) (q3.mono s4z) (hA.mono sHz) (rF.mono sHz) (rG.mono sHz) ⟨false,rfl,iteF ?_⟩
        dsimp only [tNext]
        refine ⟨_,rfl,_,_,rfl,rfl,_,rfl,l,_,rfl,.inl (.of (sHz _ _ el)),rfl,_,rfl,ite2 (fun hc=>?_) (fun _=>?_)⟩
        · exfalso
          rw [ell] at hc
          have e:=V.int.inj (of_decide_eq_true hc)
          omega
        have etz:=slx _ _ etp
        refine ⟨_,rfl,_,rfl,_,rfl,_,rfl,_,_,rfl,rfl,td,a,tp,f',b',q,ps,_,_,h,m + 1 + 1,r,b,congrArg (fun x=>[V.ref td,V.ref a,V.ref tp,V.int x]) em2,ht.mono sHz,hq,(hA.mono sHz).weak b300,etz,rF'.mono slx,rG'.mono slx,PN,fun Hw sw=>⟨true,rfl,iteF ?_⟩⟩
        have sHw:=sHz.trans sw
        have etw:=sw _ _ etz
        have at2:atI ((List.range N).map fun i=>V.ref (A i)) ((m:Int) + 1) = some (.ref (A (m + 1))):=by
          rw [em1]
          exact atI_nat (by simp [m1N])
        refine ⟨_,rfl,_,rfl,_,rfl,_,_,rfl,rfl,l,_,_,.ref (A (m + 1)),rfl,rfl,.of (sHw _ _ el),at2,_,pairT_in q _ _,pairT_is etw ((rF'.mono slx).mono sw) ((rG'.mono slx).mono sw),pairT_is (sHw _ _ eT2) (rF2.mono sHw) (rG2.mono sHw),false,rfl,iteF ?_⟩
        obtain ⟨us',ef',lu',_⟩:=(rF'.mono slx).mono sw
        obtain ⟨ws',eg',lw',_⟩:=(rG'.mono slx).mono sw
        have lF':=PN.lF
        have lG':=PN.lG
        have sxw:=sx.trans (sy.trans (slx.trans sw))
        match j,hj with
        | 0,_=>
          refine ⟨_,rfl,_,rfl,tp,_,_,.ref f',rfl,rfl,.of etw,rfl,.inl ⟨rfl,_,.of ef'⟩,f',us',_,rfl,rfl,ef',small1000 (by omega),?_⟩
          exact ⟨_,_,rfl,same_but sxw (none_of sx nf')⟩
        | 1,_=>
          refine ⟨_,rfl,_,rfl,tp,_,_,.ref b',rfl,rfl,.of etw,rfl,.inl ⟨rfl,_,.of eg'⟩,b',ws',_,rfl,rfl,eg',small1000 (by omega),?_⟩
          exact ⟨_,_,rfl,same_but sxw (none_of sx nb')⟩
    · rintro σ Hx ⟨v6,v7,rfl,sx⟩
      exact kk Hx (s15.trans sx)
theorem sc_law:FnScope ["script","pen","k","told","world","row","pairs","some","m"] ["script"] (defScope s_law):=⟨rfl,rfl,rfl,by decide +kernel,rfl,by decide +kernel,by decide +kernel⟩
theorem ok_law (T:Txt K mg t):FnOk P w K mg base CX0 9 t.f_law t.d_law ["script"] (spLaw K):=by
  have S:=sc_law
  have G_law_e_world:=ok_law_e_world (P:=P) (w:=w) (base:=base) T
  have G_law_e_next:=ok_law_e_next (P:=P) (w:=w) (base:=base) T
  have G_law_e_next_right:=ok_law_e_next_right (P:=P) (w:=w) (base:=base) T
  have G_law_e_told_row:=ok_law_e_told_row (P:=P) (w:=w) (base:=base) T
  have G_growth:=ok_growth (P:=P) (w:=w) (base:=base) T
  have G_World___init__:=ok_init (P:=P) (w:=w) (base:=base) T
  refine T.F_law.ok S (fun vs H Q E h=>?_) (fun cdv A outer s H vs Q E hr h=>?_)
  · obtain ⟨a,ns,rfl,_⟩:=h
    rfl
  · obtain ⟨a,ns,rfl,hS,hlen,kQ⟩:=h
    have hu8:=hr.units
    have hu:=hr.units0
    refine ⟨_,(@pss_cons _ _ _ _ _ (@ps_put _ _ 1 _ _ _ _ (by rfl) (by first | exact .inl rfl | exact .inr rfl | assumption) S.nd rfl (Or.inl rfl) (@pe_lst _ _ _ _ (@pa_mor _ _ _ _ _ (by rfl) (pv 0) (@pa_mor _ _ _ _ _ (by rfl) pe_int (@pa_mor _ _ _ _ _ (by rfl) pe_int pa_nil)))))
      (@pss_cons _ _ _ _ _ (ps_for PassesOwn.never rfl (pi_range1 rfl T.n_range (@pa_mor _ _ _ _ _ (by rfl) pe_int pa_nil)) (pg_name (i:=2) S.nd rfl (Or.inl rfl))
        (@pss_cons _ _ _ _ _ (@ps_if _ _ _ _ _ _ _ _ (PW.pt (pw_and (@pt_cmpR _ _ _ _ _ _ _ _ op_gt (pv 2) pe_int (nomark _)) (pw_and1 (@pt_cmpR _ _ _ _ _ _ _ _ op_ge (@pe_ix _ _ _ _ _ _ _ ix_list (pv 1) pe_int (fun _ _=>rfl)) (pe_callB call_len_seq rfl T.n_len boot_len (@pa_mor _ _ _ _ _ (by rfl) (pv 0) pa_nil)) (nomark _))))) (@pss_one _ _ _ ps_break) pss_nil)
      (@pss_cons _ _ _ _ _ (@ps_put _ _ 3 _ _ _ _ (by rfl) (by first | exact .inl rfl | exact .inr rfl | assumption) S.nd rfl (Or.inl rfl) (pe_call G_law_e_world (hr.mono (by decide)) rfl T.mg_law_e_world T.F_law_e_world.kp T.b_law_e_world .nil pass0 (@pa_mor _ _ _ _ _ (by rfl) (pv 1) pa_nil)))
      (@pss_cons _ _ _ _ _ (@ps_put _ _ 4 _ _ _ _ (by rfl) (by first | exact .inl rfl | exact .inr rfl | assumption) S.nd rfl (Or.inl rfl) (pe_make T.M_World G_World___init__ (hr.mono (by decide)) rfl T.mg_World T.b_World___init__ .nil passN (@pa_mor _ _ _ _ _ (by rfl) (pv 3) pa_nil)))
      (@pss_cons _ _ _ _ _ (@ps_put _ _ 5 _ _ _ _ (by rfl) (by first | exact .inl rfl | exact .inr rfl | assumption) S.nd rfl (Or.inl rfl) (pe_call G_law_e_told_row (hr.mono (by decide)) rfl T.mg_law_e_told_row T.F_law_e_told_row.kp T.b_law_e_told_row .nil pass0 (@pa_mor _ _ _ _ _ (by rfl) (pv 1) (@pa_mor _ _ _ _ _ (by rfl) (pv 3) (@pa_mor _ _ _ _ _ (by rfl) pe_bl pa_nil)))))
      (@pss_cons _ _ _ _ _ (@ps_put _ _ 6 _ _ _ _ (by rfl) (by first | exact .inl rfl | exact .inr rfl | assumption) S.nd rfl (Or.inl rfl) (pe_call G_growth (hr.mono (by decide)) rfl T.mg_growth T.F_growth.kp T.b_growth .nil passN (@pa_mor _ _ _ _ _ (by rfl) (pv 4) (@pa_mor _ _ _ _ _ (by rfl) (pe_callTy call_list_of rfl T.n_list boot_list (@pa_mor _ _ _ _ _ (by rfl) (pv 5) pa_nil)) pa_nil))))
      (@pss_cons _ _ _ _ _ (@ps_if _ _ _ _ _ _ _ _ (PW.pt (@pw_or _ _ _ _ _ _ _ (@pt_not _ _ _ _ (pt_val (pe_callB (call_isi (K:=K)) rfl T.n_isinstance boot_isinstance (@pa_mor _ _ _ _ _ (by rfl) (pv 6) (@pa_mor _ _ _ _ _ (by rfl) (pe_bltn (v:=.ty "list") rfl T.n_list boot_list rfl) pa_nil))))) (@pw_or1 _ _ _ _ (@pt_cmpR _ _ _ _ _ _ _ _ op_gt (pe_callB call_len_seq rfl T.n_len boot_len (@pa_mor _ _ _ _ _ (by rfl) (pv 6) pa_nil)) (@pe_op _ _ _ _ _ _ _ _ op_add (@pe_op _ _ _ _ _ _ _ _ op_fdiv (pe_callB call_len_seq rfl T.n_len boot_len (@pa_mor _ _ _ _ _ (by rfl) (pv 5) pa_nil)) pe_int) pe_int) (nomark _))))) (@pss_one _ _ _ (@ps_ret _ _ _ _ pe_bl)) pss_nil)
      (@pss_cons _ _ _ _ _ (@ps_put _ _ 7 _ _ _ _ (by rfl) (by first | exact .inl rfl | exact .inr rfl | assumption) S.nd rfl (Or.inl rfl) (pe_callTy (call_list_rng rfl) rfl T.n_list boot_list (@pa_mor _ _ _ _ _ (by rfl) (pe_callTy call_range rfl T.n_range boot_range' (@pa_mor _ _ _ _ _ (by rfl) (pe_callB (call_min2 rfl) rfl T.n_min boot_min (@pa_mor _ _ _ _ _ (by rfl) (pe_callB call_len_seq rfl T.n_len boot_len (@pa_mor _ _ _ _ _ (by rfl) (pv 6) pa_nil)) (@pa_mor _ _ _ _ _ (by rfl) (@pe_op _ _ _ _ _ _ _ _ op_fdiv (pe_callB call_len_seq rfl T.n_len boot_len (@pa_mor _ _ _ _ _ (by rfl) (pv 5) pa_nil)) pe_int) pa_nil))) pa_nil)) pa_nil)))
      (@pss_cons _ _ _ _ _ (@ps_if _ _ _ _ _ _ _ _ (@pt_cmpR _ _ _ _ _ _ _ _ op_eq (pe_call G_law_e_next (hr.mono (by decide)) rfl T.mg_law_e_next T.F_law_e_next.kp T.b_law_e_next .nil pass0 (@pa_mor _ _ _ _ _ (by rfl) (pv 1) (@pa_mor _ _ _ _ _ (by rfl) pe_int pa_nil))) pe_int (nomark _)) (@pss_one _ _ _ (@ps_put _ _ 7 _ _ _ _ (by rfl) (by first | exact .inl rfl | exact .inr rfl | assumption) S.nd rfl (Or.inl rfl) (pe_rev (pv 7) (@pe_un _ _ _ _ _ _ un_neg pe_int)))) pss_nil)
      (@pss_one _ _ _ (ps_for PassesOwn.never rfl (pi_list (pv 7)) (pg_name (i:=8) S.nd rfl (Or.inl rfl))
        (@pss_one _ _ _ (@ps_if _ _ _ _ _ _ _ _ (@pt_not _ _ _ _ (pt_val (pe_call G_law_e_next_right (hr.mono (by decide)) rfl T.mg_law_e_next_right T.F_law_e_next_right.kp T.b_law_e_next_right .nil pass0 (@pa_mor _ _ _ _ _ (by rfl) (pv 3) (@pa_mor _ _ _ _ _ (by rfl) (pv 4) (@pa_mor _ _ _ _ _ (by rfl) (pv 5) (@pa_mor _ _ _ _ _ (by rfl) (pv 6) (@pa_mor _ _ _ _ _ (by rfl) (pv 8) pa_nil)))))))) (@pss_one _ _ _ (@ps_ret _ _ _ _ pe_bl)) pss_nil)))))))))))))
      (@pss_one _ _ _ (@ps_ret _ _ _ _ pe_bl)))),?_⟩
    refine ⟨_,rfl,by show 3 ≤ sizeLine; decide,fun P0 nP=>?_⟩
    have p0:PenC (upd H P0 (.lst [.ref a,.int 0,.int 0])) P0 a:=⟨0,0,upd_same,by decide,by decide⟩
    have hS0:SqL K (er P0 (upd H P0 (.lst [.ref a,.int 0,.int 0]))) a (ns.map V.int):=by
      rw [er_upd]
      exact Same.seq (fun b o e=>er_some (ne_of_none e nP) e) hS
    generalize upd H P0 (.lst [.ref a,.int 0,.int 0]) = H0 at p0 hS0 ⊢
    refine ⟨4,rfl,by decide,by decide,?_⟩
    refine for_range (fun i σ Hc=>∃ (v2 v3 v4 v5 v6 v7 v8:Option V),σ = [some (.ref a),some (.ref P0),v2,v3,v4,v5,v6,v7,v8]∧SameE P0 H0 Hc∧PenC Hc P0 a) ⟨_,_,_,_,_,_,_,rfl,SameE.refl _,p0⟩ ?_ ?_
    · rintro i σ Hc hi ⟨v2,v3,v4,v5,v6,v7,v8,rfl,sT,pc⟩
      have hS1:SqL K (er P0 Hc) a (ns.map V.int):=Same.seq sT hS0
      refine seq_of (ifs_any6 (fun Q hQ=>?_) ?_ ?_)
      · obtain ⟨x,y,eP,_⟩:=id pc
        exact ⟨_,rfl,_,_,rfl,rfl,_,rfl,ite2 (fun _=>⟨_,rfl,P0,_,_,_,rfl,rfl,.of eP,rfl,_,rfl,a,ns.map V.int,rfl,.inl (er_le.seq hS1),_,_,rfl,rfl,_,rfl,hQ _⟩) (fun _=>hQ _)⟩
      · exact kQ _
      dsimp only [tNext]
      refine ⟨_,rfl,P0,a,ns,rfl,pc,hS1,fun td q H1 hq s1 p1 ht1=>?_⟩
      refine ⟨_,rfl,fun z dz nz ndz ne=>⟨z,dz,td,tdOf q,rfl,upd_same,?_,fun _=>⟨rfl,?_⟩,fun hg=>absurd ((tdOf_good hq).symm.trans hg) (by decide)⟩⟩
      · have e:=er_le _ _ ht1
        rw [upd_ne (ne_of_none e nz),upd_ne (ne_of_none e ndz)]
        exact e
      have sz:Same H1 (upd (upd (upd H1 dz (.own z)) z (.ins t.C_World dz [])) z (.ins t.C_World dz [("prime",(tdOf q).prime)])):=fun b o e=>by
        rw [upd_ne (ne_of_none e nz),upd_ne (ne_of_none e nz),upd_ne (ne_of_none e ndz)]
        exact e
      have hz2:WorldAt t.C_World (upd (upd (upd H1 dz (.own z)) z (.ins t.C_World dz [])) z (.ins t.C_World dz [("prime",(tdOf q).prime)])) z q:=⟨dz,by rw [upd_same,tdOf_prime]⟩
      generalize (upd (upd (upd H1 dz (.own z)) z (.ins t.C_World dz [])) z (.ins t.C_World dz [("prime",(tdOf q).prime)])) = H2 at sz hz2 ⊢
      have p2:=p1.mono sz
      have nzP:z ≠ P0:=fun e=>by
        obtain ⟨x,y,eP,_⟩:=p2
        obtain ⟨d',ez⟩:=hz2
        rw [e,eP] at ez
        cases ez
      have hzE:∀ {Hx:Hp},SameE P0 H2 Hx→WorldAt t.C_World Hx z q:=fun {Hx} s=>by
        obtain ⟨d',ez⟩:=hz2
        exact ⟨d',s.at nzP ez⟩
      have ht:ToldAt (er P0 H2) td q:=ht1.mono (er_same sz)
      have hS2:SqL K (er P0 H2) a (ns.map V.int):=Same.seq (s1.trans (SameE.of sz)) hS1
      have sT:SameE P0 H0 H2:=sT.trans (s1.trans (SameE.of sz))
      refine ⟨_,rfl,_,rfl,P0,a,td,ns,q,false,rfl,p2,hS2,ht,hq,fun r ps h H3 s3 p3 fr nr h40 h5 lp hR=>?_⟩
      have hS3:SqL K (er P0 H3) a (ns.map V.int):=Same.seq s3 hS2
      obtain ⟨vs,er',lv,fv⟩:=id hR
      have er3:H3 r = some (.lst vs):=er_le _ _ er'
      have hR3:RowG (farN h) H3 q r ps:=hR.mono er_le
      have f150:farN h ≤ 10 ^ 150:=Nat.le_trans (farN_ok h).2 (by decide +kernel)
      have ht3:ToldAt H3 td q:=(ht.mono s3).mono er_le
      have hz3:WorldAt t.C_World H3 z q:=hzE s3
      have cps:=hR.canonP
      obtain ⟨D,f,T0,TI⟩:=told_in hq h40 h5 lp hR
      have GI:=TI.g
      dsimp only [gName]
      simp only [List.set_cons_zero,List.set_cons_succ]
      refine ⟨_,rfl,_,rfl,r,vs,rfl,.inl (.of er3),fun hg nhg=>?_⟩
      have shg:Same H3 (upd H3 hg (.lst vs)):=same_upd nhg
      have rhg:RowG (farN h) (upd H3 hg (.lst vs)) q hg ps:=⟨vs,upd_same,lv,fun i v p h1 h2=>((fv i v p h1 h2).mono er_le).mono shg⟩
      generalize upd H3 hg (.lst vs) = H4 at shg rhg ⊢
      refine ⟨z,hg,q,ps,D,f,T0,h,rfl,hz3.mono shg,hq,rhg.weak f150,GI,fun lw N A Af Ab F G rr b H5 s5 nlw gA gN gB bR bb=>?_⟩
      have gS:=grow_s TI.T36 TI.D36 TI.s GI.T1 bR bb
      have s35:=shg.trans s5
      have N1:=gN.N1
      have ell:((List.range N).map fun i=>V.ref (A i)).length = N:=by simp
      have er5:=s35 _ _ er3
      have elw:=gA.1
      dsimp only [gName]
      simp only [List.set_cons_zero,List.set_cons_succ]
      refine ⟨_,rfl,_,_,_,true,rfl,rfl,.of (.lst elw),kit_same,true,rfl,iteF ?_⟩
      refine ⟨_,rfl,lw,_,rfl,.inl (.of elw),_,rfl,r,vs,rfl,.inl (.of er5),_,_,rfl,rfl,⟨by decide,by decide⟩,_,_,rfl,rfl,_,_,rfl,rfl,_,rfl,ite2 (fun hc=>?_) (fun _=>?_)⟩
      · exfalso
        rw [ell] at hc
        have:=of_decide_eq_true hc
        omega
      dsimp only [tNext]
      refine ⟨_,rfl,lw,_,rfl,.inl (.of elw),_,rfl,r,vs,rfl,.inl (.of er5),_,_,rfl,rfl,⟨by decide,by decide⟩,_,_,rfl,?_⟩
      have em:(if (vs.length:Int) / 2 < (((List.range N).map fun i=>V.ref (A i)).length:Int) then (vs.length:Int) / 2 else (((List.range N).map fun i=>V.ref (A i)).length:Int)) = ((min N h:Nat):Int):=by
        rw [ell]
        split <;> omega
      refine ⟨_,congrArg (fun x=>[V.int x]) em,fun pr npr=>?_⟩
      have s6:Same H5 (upd H5 pr (.rng 0 ((min N h:Nat):Int))):=same_upd npr
      refine ⟨pr,min N h,rfl,upd_same,by omega,fun l0 n0=>?_⟩
      have s7:=s6.trans (same_upd (o:=.lst (upto (min N h))) n0)
      have e0:upd (upd H5 pr (.rng 0 ((min N h:Nat):Int))) l0 (.lst (upto (min N h))) l0 = some (.lst (upto (min N h))):=upd_same
      dsimp only [gName]
      generalize upd (upd H5 pr (.rng 0 ((min N h:Nat):Int))) l0 (.lst (upto (min N h))) = H7 at s7 e0 ⊢
      simp only [List.set_cons_zero,List.set_cons_succ]
      have s37:=s35.trans s7
      have p7:=p3.mono s37
      have sE7:SameE P0 H3 H7:=SameE.of s37
      have all0:∀ v ∈ upto (min N h),∃ m:Nat,v = V.int (m:Int)∧m < min N h:=fun v hv=>by
        obtain ⟨m,hm,rfl⟩:=List.mem_map.mp hv
        exact ⟨m,rfl,List.mem_range.mp hm⟩
      have nP:∀ {x:Addr},H3 x = none→x ≠ P0:=fun e=>p3.ne e
      refine seq_of (ifs_to (fun σ Hx=>∃ (lm:Addr) (xs:List V),σ = [some (.ref a),some (.ref P0),some (.int (0 + (i:Int))),some (.ref td),some (.ref z),some (.ref r),some (.ref lw),some (.ref lm),v8]∧SameE P0 H7 Hx∧PenC Hx P0 a∧Hx lm = some (.lst xs)∧∀ v ∈ xs,∃ m:Nat,v = V.int (m:Int)∧m < min N h) ?_ ?_)
      · rintro σ H8 ⟨lm,xs,rfl,s8,p8,elm,hxs⟩
        have sE8:=sE7.trans s8
        dsimp only
        have rowE:∀ {x:Addr} {xs:List (Int × Int)},x ≠ P0→RowG (10 ^ 230) H7 q x xs→RowG (10 ^ 230) H8 q x xs:=fun nx ⟨vs,e,l,f⟩=>⟨vs,s8.at nx e,l,fun i v p h1 h2=>(((f i v p h1 h2).er (H':=H7) p7).mono s8).mono er_le⟩
        have gA8:GrAt (10 ^ 230) H4 H8 q lw N A Af Ab F G:=by
          have nq:∀ {x:Addr},H4 x = none→x ≠ P0:=fun e=>nP (none_of shg e)
          refine ⟨s8.at (nq nlw) (s7 _ _ elw),fun i hi=>?_⟩
          obtain ⟨g1,g2,g3,g4,g5,g6⟩:=gA.2 i hi
          exact ⟨s8.at (nq g2) (s7 _ _ g1),g2,g3,g4,rowE (nq g3) (g5.mono s7),rowE (nq g4) (g6.mono s7)⟩
        have hz8:WorldAt t.C_World H8 z q:=hzE (s3.trans sE8)
        have ht8:ToldAt H8 td q:=((ht.mono s3).mono sE8).mono er_le
        have hR8:RowG (10 ^ 150) H8 q r ps:=((hR.mono sE8).mono er_le).weak f150
        refine ⟨_,rfl,lm,rfl,⟨_,.of elm⟩,?_⟩
        refine for_list (K:=K) (a:=lm) (xs:=xs) (fun j σ Hx=>∃ v8:Option V,σ = [some (.ref a),some (.ref P0),some (.int (0 + (i:Int))),some (.ref td),some (.ref z),some (.ref r),some (.ref lw),some (.ref lm),v8]∧Same H8 Hx) ⟨_,rfl,Same.refl _⟩ (fun j σ Hx _ ⟨_,_,sx⟩=>.of (sx _ _ elm)) ?_ ?_
        · rintro j x σ Hx hx ⟨v8,rfl,sx⟩
          obtain ⟨m,rfl,hm⟩:=hxs x (List.mem_of_getElem? hx)
          refine ⟨_,rfl,_,rfl,_,rfl,_,rfl,_,rfl,td,z,r,lw,q,ps,D,f,T0,h,N,m,A,Af,Ab,F,G,rr,b,H4,rfl,ht8.mono sx,hz8.mono sx,hq,hR8.mono sx,GI,TI.T36,TI.D36,gA8.mono sx,gN,gB,gS,by omega,by omega,fun Hy sy=>⟨true,rfl,iteF ?_⟩⟩
          exact ⟨_,rfl,sx.trans sy⟩
        · rintro σ Hx ⟨v8,rfl,sx⟩
          exact ⟨_,_,_,_,_,_,_,rfl,sT.trans (s3.trans (sE8.trans (SameE.of sx))),p8.mono sx⟩
      · intro R hR'
        refine ⟨_,rfl,P0,a,ns,2,rfl,p7,Same.seq sE7 hS3,by decide,Mid.of_lt (by decide) (by decide),fun c H8 c0 c1 s8 p8=>?_⟩
        have nl0:l0 ≠ P0:=nP (none_of s35 (none_of s6 n0))
        have e8:=s8.at nl0 e0
        refine ⟨rfl,_,rfl,ite2 (fun _=>?_) (fun _=>?_)⟩
        · refine ⟨_,rfl,_,rfl,rfl,l0,_,rfl,.of e8,fun lv nlv=>?_⟩
          exact hR' _ _ ⟨lv,(upto (min N h)).reverse,rfl,s8.trans (SameE.of (same_upd nlv)),p8.mono (same_upd nlv),upd_same,fun v hv=>all0 v (List.mem_reverse.mp hv)⟩
        · exact hR' _ _ ⟨l0,_,rfl,s8,p8,e8,all0⟩
    · rintro σ Hc ⟨v2,v3,v4,v5,v6,v7,v8,rfl,sT,pc⟩
      exact kQ _
theorem law_all {l:PySem.W.OpenLaw} (T:Txt K mg t):∃ fd:FuncData,(∀ (s:Shared) (v:Value),BindsTo s fd ⟨[v],[]⟩ [("script",v)])∧∀ base:Heap,K.In base→base.Ns mainGlobals mg→FnOk l.prog w K mg base CX0 9 t.f_law fd ["script"] (spLaw K):=by
  obtain ⟨oc,od,kV,doc,pm,an,cdv,ct,osl,e,lk,hcd⟩:=T.F_law.ex
  refine ⟨t.d_law,fun s v=>?_,fun base _ _=>ok_law T⟩
  rw [e]
  exact .of_eq rfl
end
theorem walk {l:PySem.W.OpenLaw} {q:Program} {loose:List Str} {XP:(Str→Option Value)→Heap→Prop} {YP:World→Heap→Prop} {d:DefRec} {K:Params→PySem.W.Frag} (hn:l.most = some 63) (hdf:d.params.defaults = [])
    (hY:∀ (w:World) (h:Heap),YP w h→(K w.params).In h)
    (F:∀ (w:World) (mg:Str→Option Value) (fa:Addr) (h:Heap),(K w.params).In h→h.Ns mainGlobals mg→mg d.name = some (.ref fa)→
      ∃ fd:FuncData,(∀ (s:Shared) (u:Value),BindsTo s fd ⟨[u],[]⟩ [("script",u)])∧∀ base:Heap,(K w.params).In base→base.Ns mainGlobals mg→FnOk l.prog w (K w.params) mg base CX0 9 fa fd ["script"] (spLaw (K w.params))) :
    PySem.W.WalkO q loose XP YP l.row.toRowW d [] (fun f vs=>PySem.call f vs):=
  L2.walk_of (n:=63) (k:=9) (x:="script") (CX:=fun _=>CX0) (sp:=fun w=>spLaw (K w.params)) hn (by decide) hdf ⟨rfl,by decide,by decide⟩ hY F (fun _ _ a ns hl _ hS=>⟨a,ns,rfl,hS,hl,fun _=>rfl⟩) fun _ _ _ _ _ z=>z
theorem txt_mk {K:PySem.W.Frag} {h:Heap} {mg:Str→Option Value} (X:K.In h) (G:h.Ns mainGlobals mg)
    {C_World:Addr}
    {C_NoWorld:Addr}
    {C_NoOver:Addr}
    {C_NoFit:Addr}
    {f_is_whole:Addr} {od_is_whole an_is_whole:Option Addr} {sl_is_whole:Array (Option Value)} {oc_is_whole kV_is_whole dc_is_whole pm_is_whole cd_is_whole ct_is_whole:Value}
    {f_common_divisor:Addr} {od_common_divisor an_common_divisor:Option Addr} {sl_common_divisor:Array (Option Value)} {oc_common_divisor kV_common_divisor dc_common_divisor pm_common_divisor cd_common_divisor ct_common_divisor:Value}
    {f_is_prime:Addr} {od_is_prime an_is_prime:Option Addr} {sl_is_prime:Array (Option Value)} {oc_is_prime kV_is_prime dc_is_prime pm_is_prime cd_is_prime ct_is_prime:Value}
    {f_ratio:Addr} {od_ratio an_ratio:Option Addr} {sl_ratio:Array (Option Value)} {oc_ratio kV_ratio dc_ratio pm_ratio cd_ratio ct_ratio:Value}
    {f_one_bottom:Addr} {od_one_bottom an_one_bottom:Option Addr} {sl_one_bottom:Array (Option Value)} {oc_one_bottom kV_one_bottom dc_one_bottom pm_one_bottom cd_one_bottom ct_one_bottom:Value}
    {f_remainder_back:Addr} {od_remainder_back an_remainder_back:Option Addr} {sl_remainder_back:Array (Option Value)} {oc_remainder_back kV_remainder_back dc_remainder_back pm_remainder_back cd_remainder_back ct_remainder_back:Value}
    {f_remainder_over:Addr} {od_remainder_over an_remainder_over:Option Addr} {sl_remainder_over:Array (Option Value)} {oc_remainder_over kV_remainder_over dc_remainder_over pm_remainder_over cd_remainder_over ct_remainder_over:Value}
    {f_is_fractions:Addr} {od_is_fractions an_is_fractions:Option Addr} {sl_is_fractions:Array (Option Value)} {oc_is_fractions kV_is_fractions dc_is_fractions pm_is_fractions cd_is_fractions ct_is_fractions:Value}
    {f_is_wheel:Addr} {od_is_wheel an_is_wheel:Option Addr} {sl_is_wheel:Array (Option Value)} {oc_is_wheel kV_is_wheel dc_is_wheel pm_is_wheel cd_is_wheel ct_is_wheel:Value}
    {f_numbers_of:Addr} {od_numbers_of an_numbers_of:Option Addr} {sl_numbers_of:Array (Option Value)} {oc_numbers_of kV_numbers_of dc_numbers_of pm_numbers_of cd_numbers_of ct_numbers_of:Value}
    {f_shifted_size:Addr} {od_shifted_size an_shifted_size:Option Addr} {sl_shifted_size:Array (Option Value)} {oc_shifted_size kV_shifted_size dc_shifted_size pm_shifted_size cd_shifted_size ct_shifted_size:Value}
    {f_shifted_row:Addr} {od_shifted_row an_shifted_row:Option Addr} {sl_shifted_row:Array (Option Value)} {oc_shifted_row kV_shifted_row dc_shifted_row pm_shifted_row cd_shifted_row ct_shifted_row:Value}
    {f_whole_sum:Addr} {od_whole_sum an_whole_sum:Option Addr} {sl_whole_sum:Array (Option Value)} {oc_whole_sum kV_whole_sum dc_whole_sum pm_whole_sum cd_whole_sum ct_whole_sum:Value}
    {f_next_pair:Addr} {od_next_pair an_next_pair:Option Addr} {sl_next_pair:Array (Option Value)} {oc_next_pair kV_next_pair dc_next_pair pm_next_pair cd_next_pair ct_next_pair:Value}
    {f_whole_pairs:Addr} {od_whole_pairs an_whole_pairs:Option Addr} {sl_whole_pairs:Array (Option Value)} {oc_whole_pairs kV_whole_pairs dc_whole_pairs pm_whole_pairs cd_whole_pairs ct_whole_pairs:Value}
    {f_told_pair:Addr} {od_told_pair an_told_pair:Option Addr} {sl_told_pair:Array (Option Value)} {oc_told_pair kV_told_pair dc_told_pair pm_told_pair cd_told_pair ct_told_pair:Value}
    {f_growth:Addr} {od_growth an_growth:Option Addr} {sl_growth:Array (Option Value)} {oc_growth kV_growth dc_growth pm_growth cd_growth ct_growth:Value}
    {f_grown:Addr} {od_grown an_grown:Option Addr} {sl_grown:Array (Option Value)} {oc_grown kV_grown dc_grown pm_grown cd_grown ct_grown:Value}
    {f_law_e_fill:Addr} {od_law_e_fill an_law_e_fill:Option Addr} {sl_law_e_fill:Array (Option Value)} {oc_law_e_fill kV_law_e_fill dc_law_e_fill pm_law_e_fill cd_law_e_fill ct_law_e_fill:Value}
    {f_law_e_next:Addr} {od_law_e_next an_law_e_next:Option Addr} {sl_law_e_next:Array (Option Value)} {oc_law_e_next kV_law_e_next dc_law_e_next pm_law_e_next cd_law_e_next ct_law_e_next:Value}
    {f_law_e_low:Addr} {od_law_e_low an_law_e_low:Option Addr} {sl_law_e_low:Array (Option Value)} {oc_law_e_low kV_law_e_low dc_law_e_low pm_law_e_low cd_law_e_low ct_law_e_low:Value}
    {f_law_e_of:Addr} {od_law_e_of an_law_e_of:Option Addr} {sl_law_e_of:Array (Option Value)} {oc_law_e_of kV_law_e_of dc_law_e_of pm_law_e_of cd_law_e_of ct_law_e_of:Value}
    {f_law_e_plus:Addr} {od_law_e_plus an_law_e_plus:Option Addr} {sl_law_e_plus:Array (Option Value)} {oc_law_e_plus kV_law_e_plus dc_law_e_plus pm_law_e_plus cd_law_e_plus ct_law_e_plus:Value}
    {f_law_e_times:Addr} {od_law_e_times an_law_e_times:Option Addr} {sl_law_e_times:Array (Option Value)} {oc_law_e_times kV_law_e_times dc_law_e_times pm_law_e_times cd_law_e_times ct_law_e_times:Value}
    {f_law_e_is_number:Addr} {od_law_e_is_number an_law_e_is_number:Option Addr} {sl_law_e_is_number:Array (Option Value)} {oc_law_e_is_number kV_law_e_is_number dc_law_e_is_number pm_law_e_is_number cd_law_e_is_number ct_law_e_is_number:Value}
    {f_law_e_is_row:Addr} {od_law_e_is_row an_law_e_is_row:Option Addr} {sl_law_e_is_row:Array (Option Value)} {oc_law_e_is_row kV_law_e_is_row dc_law_e_is_row pm_law_e_is_row cd_law_e_is_row ct_law_e_is_row:Value}
    {f_law_e_world:Addr} {od_law_e_world an_law_e_world:Option Addr} {sl_law_e_world:Array (Option Value)} {oc_law_e_world kV_law_e_world dc_law_e_world pm_law_e_world cd_law_e_world ct_law_e_world:Value}
    {f_law_e_number:Addr} {od_law_e_number an_law_e_number:Option Addr} {sl_law_e_number:Array (Option Value)} {oc_law_e_number kV_law_e_number dc_law_e_number pm_law_e_number cd_law_e_number ct_law_e_number:Value}
    {f_law_e_told_row:Addr} {od_law_e_told_row an_law_e_told_row:Option Addr} {sl_law_e_told_row:Array (Option Value)} {oc_law_e_told_row kV_law_e_told_row dc_law_e_told_row pm_law_e_told_row cd_law_e_told_row ct_law_e_told_row:Value}
    {f_law_e_carried:Addr} {od_law_e_carried an_law_e_carried:Option Addr} {sl_law_e_carried:Array (Option Value)} {oc_law_e_carried kV_law_e_carried dc_law_e_carried pm_law_e_carried cd_law_e_carried ct_law_e_carried:Value}
    {f_law_e_pair_right:Addr} {od_law_e_pair_right an_law_e_pair_right:Option Addr} {sl_law_e_pair_right:Array (Option Value)} {oc_law_e_pair_right kV_law_e_pair_right dc_law_e_pair_right pm_law_e_pair_right cd_law_e_pair_right ct_law_e_pair_right:Value}
    {f_law_e_tied:Addr} {od_law_e_tied an_law_e_tied:Option Addr} {sl_law_e_tied:Array (Option Value)} {oc_law_e_tied kV_law_e_tied dc_law_e_tied pm_law_e_tied cd_law_e_tied ct_law_e_tied:Value}
    {f_law_e_next_right:Addr} {od_law_e_next_right an_law_e_next_right:Option Addr} {sl_law_e_next_right:Array (Option Value)} {oc_law_e_next_right kV_law_e_next_right dc_law_e_next_right pm_law_e_next_right cd_law_e_next_right ct_law_e_next_right:Value}
    {f_law:Addr} {od_law an_law:Option Addr} {sl_law:Array (Option Value)} {oc_law kV_law dc_law pm_law cd_law ct_law:Value}
    {f_World___init__:Addr} {od_World___init__ an_World___init__:Option Addr} {sl_World___init__:Array (Option Value)} {oc_World___init__ kV_World___init__ dc_World___init__ pm_World___init__ cd_World___init__ ct_World___init__:Value}
    {f_World_of:Addr} {od_World_of an_World_of:Option Addr} {sl_World_of:Array (Option Value)} {oc_World_of kV_World_of dc_World_of pm_World_of cd_World_of ct_World_of:Value}
    {dT_World_of:Addr} {tk_World_of:Tok} {oc2_World_of:Value} {od2_World_of:Option Addr} {n2_World_of:Nat} {sl2_World_of:Array (Option Value)}
    {f_World_as_wholes:Addr} {od_World_as_wholes an_World_as_wholes:Option Addr} {sl_World_as_wholes:Array (Option Value)} {oc_World_as_wholes kV_World_as_wholes dc_World_as_wholes pm_World_as_wholes cd_World_as_wholes ct_World_as_wholes:Value}
    {f_World_evenly:Addr} {od_World_evenly an_World_evenly:Option Addr} {sl_World_evenly:Array (Option Value)} {oc_World_evenly kV_World_evenly dc_World_evenly pm_World_evenly cd_World_evenly ct_World_evenly:Value}
    {tk_GREATEST_PRIME:Tok}
    {tk_LONG:Tok}
    {tk_MOST:Tok}
    (aC_World:PySem.W.nsIn K mainGlobals "World" = some (some (.ref C_World)))
    (aC_NoWorld:PySem.W.nsIn K mainGlobals "NoWorld" = some (some (.ref C_NoWorld)))
    (aC_NoOver:PySem.W.nsIn K mainGlobals "NoOver" = some (some (.ref C_NoOver)))
    (aC_NoFit:PySem.W.nsIn K mainGlobals "NoFit" = some (some (.ref C_NoFit)))
    (a_is_whole:PySem.W.nsIn K mainGlobals "is_whole" = some (some (.ref f_is_whole)))
    (l_is_whole:K.lookup f_is_whole = some ⟨oc_is_whole,od_is_whole,.func (PySem.W.fnOf "is_whole" "is_whole" (defArgs s_is_whole) (defBody s_is_whole) (defScope s_is_whole) .none kV_is_whole dc_is_whole pm_is_whole an_is_whole cd_is_whole ct_is_whole),sl_is_whole⟩)
    (c_is_whole:PySem.W.codeIn K cd_is_whole "is_whole" = true)
    (k_is_whole:PySem.W.keepIn K (.ref f_is_whole) = true)
    (a_common_divisor:PySem.W.nsIn K mainGlobals "common_divisor" = some (some (.ref f_common_divisor)))
    (l_common_divisor:K.lookup f_common_divisor = some ⟨oc_common_divisor,od_common_divisor,.func (PySem.W.fnOf "common_divisor" "common_divisor" (defArgs s_common_divisor) (defBody s_common_divisor) (defScope s_common_divisor) .none kV_common_divisor dc_common_divisor pm_common_divisor an_common_divisor cd_common_divisor ct_common_divisor),sl_common_divisor⟩)
    (c_common_divisor:PySem.W.codeIn K cd_common_divisor "common_divisor" = true)
    (k_common_divisor:PySem.W.keepIn K (.ref f_common_divisor) = true)
    (a_is_prime:PySem.W.nsIn K mainGlobals "is_prime" = some (some (.ref f_is_prime)))
    (l_is_prime:K.lookup f_is_prime = some ⟨oc_is_prime,od_is_prime,.func (PySem.W.fnOf "is_prime" "is_prime" (defArgs s_is_prime) (defBody s_is_prime) (defScope s_is_prime) .none kV_is_prime dc_is_prime pm_is_prime an_is_prime cd_is_prime ct_is_prime),sl_is_prime⟩)
    (c_is_prime:PySem.W.codeIn K cd_is_prime "is_prime" = true)
    (k_is_prime:PySem.W.keepIn K (.ref f_is_prime) = true)
    (a_ratio:PySem.W.nsIn K mainGlobals "ratio" = some (some (.ref f_ratio)))
    (l_ratio:K.lookup f_ratio = some ⟨oc_ratio,od_ratio,.func (PySem.W.fnOf "ratio" "ratio" (defArgs s_ratio) (defBody s_ratio) (defScope s_ratio) .none kV_ratio dc_ratio pm_ratio an_ratio cd_ratio ct_ratio),sl_ratio⟩)
    (c_ratio:PySem.W.codeIn K cd_ratio "ratio" = true)
    (k_ratio:PySem.W.keepIn K (.ref f_ratio) = true)
    (a_one_bottom:PySem.W.nsIn K mainGlobals "one_bottom" = some (some (.ref f_one_bottom)))
    (l_one_bottom:K.lookup f_one_bottom = some ⟨oc_one_bottom,od_one_bottom,.func (PySem.W.fnOf "one_bottom" "one_bottom" (defArgs s_one_bottom) (defBody s_one_bottom) (defScope s_one_bottom) .none kV_one_bottom dc_one_bottom pm_one_bottom an_one_bottom cd_one_bottom ct_one_bottom),sl_one_bottom⟩)
    (c_one_bottom:PySem.W.codeIn K cd_one_bottom "one_bottom" = true)
    (k_one_bottom:PySem.W.keepIn K (.ref f_one_bottom) = true)
    (a_remainder_back:PySem.W.nsIn K mainGlobals "remainder_back" = some (some (.ref f_remainder_back)))
    (l_remainder_back:K.lookup f_remainder_back = some ⟨oc_remainder_back,od_remainder_back,.func (PySem.W.fnOf "remainder_back" "remainder_back" (defArgs s_remainder_back) (defBody s_remainder_back) (defScope s_remainder_back) .none kV_remainder_back dc_remainder_back pm_remainder_back an_remainder_back cd_remainder_back ct_remainder_back),sl_remainder_back⟩)
    (c_remainder_back:PySem.W.codeIn K cd_remainder_back "remainder_back" = true)
    (k_remainder_back:PySem.W.keepIn K (.ref f_remainder_back) = true)
    (a_remainder_over:PySem.W.nsIn K mainGlobals "remainder_over" = some (some (.ref f_remainder_over)))
    (l_remainder_over:K.lookup f_remainder_over = some ⟨oc_remainder_over,od_remainder_over,.func (PySem.W.fnOf "remainder_over" "remainder_over" (defArgs s_remainder_over) (defBody s_remainder_over) (defScope s_remainder_over) .none kV_remainder_over dc_remainder_over pm_remainder_over an_remainder_over cd_remainder_over ct_remainder_over),sl_remainder_over⟩)
    (c_remainder_over:PySem.W.codeIn K cd_remainder_over "remainder_over" = true)
    (k_remainder_over:PySem.W.keepIn K (.ref f_remainder_over) = true)
    (a_is_fractions:PySem.W.nsIn K mainGlobals "is_fractions" = some (some (.ref f_is_fractions)))
    (l_is_fractions:K.lookup f_is_fractions = some ⟨oc_is_fractions,od_is_fractions,.func (PySem.W.fnOf "is_fractions" "is_fractions" (defArgs s_is_fractions) (defBody s_is_fractions) (defScope s_is_fractions) .none kV_is_fractions dc_is_fractions pm_is_fractions an_is_fractions cd_is_fractions ct_is_fractions),sl_is_fractions⟩)
    (c_is_fractions:PySem.W.codeIn K cd_is_fractions "is_fractions" = true)
    (k_is_fractions:PySem.W.keepIn K (.ref f_is_fractions) = true)
    (a_is_wheel:PySem.W.nsIn K mainGlobals "is_wheel" = some (some (.ref f_is_wheel)))
    (l_is_wheel:K.lookup f_is_wheel = some ⟨oc_is_wheel,od_is_wheel,.func (PySem.W.fnOf "is_wheel" "is_wheel" (defArgs s_is_wheel) (defBody s_is_wheel) (defScope s_is_wheel) .none kV_is_wheel dc_is_wheel pm_is_wheel an_is_wheel cd_is_wheel ct_is_wheel),sl_is_wheel⟩)
    (c_is_wheel:PySem.W.codeIn K cd_is_wheel "is_wheel" = true)
    (k_is_wheel:PySem.W.keepIn K (.ref f_is_wheel) = true)
    (a_numbers_of:PySem.W.nsIn K mainGlobals "numbers_of" = some (some (.ref f_numbers_of)))
    (l_numbers_of:K.lookup f_numbers_of = some ⟨oc_numbers_of,od_numbers_of,.func (PySem.W.fnOf "numbers_of" "numbers_of" (defArgs s_numbers_of) (defBody s_numbers_of) (defScope s_numbers_of) .none kV_numbers_of dc_numbers_of pm_numbers_of an_numbers_of cd_numbers_of ct_numbers_of),sl_numbers_of⟩)
    (c_numbers_of:PySem.W.codeIn K cd_numbers_of "numbers_of" = true)
    (k_numbers_of:PySem.W.keepIn K (.ref f_numbers_of) = true)
    (a_shifted_size:PySem.W.nsIn K mainGlobals "shifted_size" = some (some (.ref f_shifted_size)))
    (l_shifted_size:K.lookup f_shifted_size = some ⟨oc_shifted_size,od_shifted_size,.func (PySem.W.fnOf "shifted_size" "shifted_size" (defArgs s_shifted_size) (defBody s_shifted_size) (defScope s_shifted_size) .none kV_shifted_size dc_shifted_size pm_shifted_size an_shifted_size cd_shifted_size ct_shifted_size),sl_shifted_size⟩)
    (c_shifted_size:PySem.W.codeIn K cd_shifted_size "shifted_size" = true)
    (k_shifted_size:PySem.W.keepIn K (.ref f_shifted_size) = true)
    (a_shifted_row:PySem.W.nsIn K mainGlobals "shifted_row" = some (some (.ref f_shifted_row)))
    (l_shifted_row:K.lookup f_shifted_row = some ⟨oc_shifted_row,od_shifted_row,.func (PySem.W.fnOf "shifted_row" "shifted_row" (defArgs s_shifted_row) (defBody s_shifted_row) (defScope s_shifted_row) .none kV_shifted_row dc_shifted_row pm_shifted_row an_shifted_row cd_shifted_row ct_shifted_row),sl_shifted_row⟩)
    (c_shifted_row:PySem.W.codeIn K cd_shifted_row "shifted_row" = true)
    (k_shifted_row:PySem.W.keepIn K (.ref f_shifted_row) = true)
    (a_whole_sum:PySem.W.nsIn K mainGlobals "whole_sum" = some (some (.ref f_whole_sum)))
    (l_whole_sum:K.lookup f_whole_sum = some ⟨oc_whole_sum,od_whole_sum,.func (PySem.W.fnOf "whole_sum" "whole_sum" (defArgs s_whole_sum) (defBody s_whole_sum) (defScope s_whole_sum) .none kV_whole_sum dc_whole_sum pm_whole_sum an_whole_sum cd_whole_sum ct_whole_sum),sl_whole_sum⟩)
    (c_whole_sum:PySem.W.codeIn K cd_whole_sum "whole_sum" = true)
    (k_whole_sum:PySem.W.keepIn K (.ref f_whole_sum) = true)
    (a_next_pair:PySem.W.nsIn K mainGlobals "next_pair" = some (some (.ref f_next_pair)))
    (l_next_pair:K.lookup f_next_pair = some ⟨oc_next_pair,od_next_pair,.func (PySem.W.fnOf "next_pair" "next_pair" (defArgs s_next_pair) (defBody s_next_pair) (defScope s_next_pair) .none kV_next_pair dc_next_pair pm_next_pair an_next_pair cd_next_pair ct_next_pair),sl_next_pair⟩)
    (c_next_pair:PySem.W.codeIn K cd_next_pair "next_pair" = true)
    (k_next_pair:PySem.W.keepIn K (.ref f_next_pair) = true)
    (a_whole_pairs:PySem.W.nsIn K mainGlobals "whole_pairs" = some (some (.ref f_whole_pairs)))
    (l_whole_pairs:K.lookup f_whole_pairs = some ⟨oc_whole_pairs,od_whole_pairs,.func (PySem.W.fnOf "whole_pairs" "whole_pairs" (defArgs s_whole_pairs) (defBody s_whole_pairs) (defScope s_whole_pairs) .none kV_whole_pairs dc_whole_pairs pm_whole_pairs an_whole_pairs cd_whole_pairs ct_whole_pairs),sl_whole_pairs⟩)
    (c_whole_pairs:PySem.W.codeIn K cd_whole_pairs "whole_pairs" = true)
    (k_whole_pairs:PySem.W.keepIn K (.ref f_whole_pairs) = true)
    (a_told_pair:PySem.W.nsIn K mainGlobals "told_pair" = some (some (.ref f_told_pair)))
    (l_told_pair:K.lookup f_told_pair = some ⟨oc_told_pair,od_told_pair,.func (PySem.W.fnOf "told_pair" "told_pair" (defArgs s_told_pair) (defBody s_told_pair) (defScope s_told_pair) .none kV_told_pair dc_told_pair pm_told_pair an_told_pair cd_told_pair ct_told_pair),sl_told_pair⟩)
    (c_told_pair:PySem.W.codeIn K cd_told_pair "told_pair" = true)
    (k_told_pair:PySem.W.keepIn K (.ref f_told_pair) = true)
    (a_growth:PySem.W.nsIn K mainGlobals "growth" = some (some (.ref f_growth)))
    (l_growth:K.lookup f_growth = some ⟨oc_growth,od_growth,.func (PySem.W.fnOf "growth" "growth" (defArgs s_growth) (defBody s_growth) (defScope s_growth) .none kV_growth dc_growth pm_growth an_growth cd_growth ct_growth),sl_growth⟩)
    (c_growth:PySem.W.codeIn K cd_growth "growth" = true)
    (k_growth:PySem.W.keepIn K (.ref f_growth) = true)
    (a_grown:PySem.W.nsIn K mainGlobals "grown" = some (some (.ref f_grown)))
    (l_grown:K.lookup f_grown = some ⟨oc_grown,od_grown,.func (PySem.W.fnOf "grown" "grown" (defArgs s_grown) (defBody s_grown) (defScope s_grown) .none kV_grown dc_grown pm_grown an_grown cd_grown ct_grown),sl_grown⟩)
    (c_grown:PySem.W.codeIn K cd_grown "grown" = true)
    (k_grown:PySem.W.keepIn K (.ref f_grown) = true)
    (a_law_e_fill:PySem.W.nsIn K mainGlobals "_law_e_fill" = some (some (.ref f_law_e_fill)))
    (l_law_e_fill:K.lookup f_law_e_fill = some ⟨oc_law_e_fill,od_law_e_fill,.func (PySem.W.fnOf "_law_e_fill" "_law_e_fill" (defArgs s_law_e_fill) (defBody s_law_e_fill) (defScope s_law_e_fill) .none kV_law_e_fill dc_law_e_fill pm_law_e_fill an_law_e_fill cd_law_e_fill ct_law_e_fill),sl_law_e_fill⟩)
    (c_law_e_fill:PySem.W.codeIn K cd_law_e_fill "_law_e_fill" = true)
    (k_law_e_fill:PySem.W.keepIn K (.ref f_law_e_fill) = true)
    (a_law_e_next:PySem.W.nsIn K mainGlobals "_law_e_next" = some (some (.ref f_law_e_next)))
    (l_law_e_next:K.lookup f_law_e_next = some ⟨oc_law_e_next,od_law_e_next,.func (PySem.W.fnOf "_law_e_next" "_law_e_next" (defArgs s_law_e_next) (defBody s_law_e_next) (defScope s_law_e_next) .none kV_law_e_next dc_law_e_next pm_law_e_next an_law_e_next cd_law_e_next ct_law_e_next),sl_law_e_next⟩)
    (c_law_e_next:PySem.W.codeIn K cd_law_e_next "_law_e_next" = true)
    (k_law_e_next:PySem.W.keepIn K (.ref f_law_e_next) = true)
    (a_law_e_low:PySem.W.nsIn K mainGlobals "_law_e_low" = some (some (.ref f_law_e_low)))
    (l_law_e_low:K.lookup f_law_e_low = some ⟨oc_law_e_low,od_law_e_low,.func (PySem.W.fnOf "_law_e_low" "_law_e_low" (defArgs s_law_e_low) (defBody s_law_e_low) (defScope s_law_e_low) .none kV_law_e_low dc_law_e_low pm_law_e_low an_law_e_low cd_law_e_low ct_law_e_low),sl_law_e_low⟩)
    (c_law_e_low:PySem.W.codeIn K cd_law_e_low "_law_e_low" = true)
    (k_law_e_low:PySem.W.keepIn K (.ref f_law_e_low) = true)
    (a_law_e_of:PySem.W.nsIn K mainGlobals "_law_e_of" = some (some (.ref f_law_e_of)))
    (l_law_e_of:K.lookup f_law_e_of = some ⟨oc_law_e_of,od_law_e_of,.func (PySem.W.fnOf "_law_e_of" "_law_e_of" (defArgs s_law_e_of) (defBody s_law_e_of) (defScope s_law_e_of) .none kV_law_e_of dc_law_e_of pm_law_e_of an_law_e_of cd_law_e_of ct_law_e_of),sl_law_e_of⟩)
    (c_law_e_of:PySem.W.codeIn K cd_law_e_of "_law_e_of" = true)
    (k_law_e_of:PySem.W.keepIn K (.ref f_law_e_of) = true)
    (a_law_e_plus:PySem.W.nsIn K mainGlobals "_law_e_plus" = some (some (.ref f_law_e_plus)))
    (l_law_e_plus:K.lookup f_law_e_plus = some ⟨oc_law_e_plus,od_law_e_plus,.func (PySem.W.fnOf "_law_e_plus" "_law_e_plus" (defArgs s_law_e_plus) (defBody s_law_e_plus) (defScope s_law_e_plus) .none kV_law_e_plus dc_law_e_plus pm_law_e_plus an_law_e_plus cd_law_e_plus ct_law_e_plus),sl_law_e_plus⟩)
    (c_law_e_plus:PySem.W.codeIn K cd_law_e_plus "_law_e_plus" = true)
    (k_law_e_plus:PySem.W.keepIn K (.ref f_law_e_plus) = true)
    (a_law_e_times:PySem.W.nsIn K mainGlobals "_law_e_times" = some (some (.ref f_law_e_times)))
    (l_law_e_times:K.lookup f_law_e_times = some ⟨oc_law_e_times,od_law_e_times,.func (PySem.W.fnOf "_law_e_times" "_law_e_times" (defArgs s_law_e_times) (defBody s_law_e_times) (defScope s_law_e_times) .none kV_law_e_times dc_law_e_times pm_law_e_times an_law_e_times cd_law_e_times ct_law_e_times),sl_law_e_times⟩)
    (c_law_e_times:PySem.W.codeIn K cd_law_e_times "_law_e_times" = true)
    (k_law_e_times:PySem.W.keepIn K (.ref f_law_e_times) = true)
    (a_law_e_is_number:PySem.W.nsIn K mainGlobals "_law_e_is_number" = some (some (.ref f_law_e_is_number)))
    (l_law_e_is_number:K.lookup f_law_e_is_number = some ⟨oc_law_e_is_number,od_law_e_is_number,.func (PySem.W.fnOf "_law_e_is_number" "_law_e_is_number" (defArgs s_law_e_is_number) (defBody s_law_e_is_number) (defScope s_law_e_is_number) .none kV_law_e_is_number dc_law_e_is_number pm_law_e_is_number an_law_e_is_number cd_law_e_is_number ct_law_e_is_number),sl_law_e_is_number⟩)
    (c_law_e_is_number:PySem.W.codeIn K cd_law_e_is_number "_law_e_is_number" = true)
    (k_law_e_is_number:PySem.W.keepIn K (.ref f_law_e_is_number) = true)
    (a_law_e_is_row:PySem.W.nsIn K mainGlobals "_law_e_is_row" = some (some (.ref f_law_e_is_row)))
    (l_law_e_is_row:K.lookup f_law_e_is_row = some ⟨oc_law_e_is_row,od_law_e_is_row,.func (PySem.W.fnOf "_law_e_is_row" "_law_e_is_row" (defArgs s_law_e_is_row) (defBody s_law_e_is_row) (defScope s_law_e_is_row) .none kV_law_e_is_row dc_law_e_is_row pm_law_e_is_row an_law_e_is_row cd_law_e_is_row ct_law_e_is_row),sl_law_e_is_row⟩)
    (c_law_e_is_row:PySem.W.codeIn K cd_law_e_is_row "_law_e_is_row" = true)
    (k_law_e_is_row:PySem.W.keepIn K (.ref f_law_e_is_row) = true)
    (a_law_e_world:PySem.W.nsIn K mainGlobals "_law_e_world" = some (some (.ref f_law_e_world)))
    (l_law_e_world:K.lookup f_law_e_world = some ⟨oc_law_e_world,od_law_e_world,.func (PySem.W.fnOf "_law_e_world" "_law_e_world" (defArgs s_law_e_world) (defBody s_law_e_world) (defScope s_law_e_world) .none kV_law_e_world dc_law_e_world pm_law_e_world an_law_e_world cd_law_e_world ct_law_e_world),sl_law_e_world⟩)
    (c_law_e_world:PySem.W.codeIn K cd_law_e_world "_law_e_world" = true)
    (k_law_e_world:PySem.W.keepIn K (.ref f_law_e_world) = true)
    (a_law_e_number:PySem.W.nsIn K mainGlobals "_law_e_number" = some (some (.ref f_law_e_number)))
    (l_law_e_number:K.lookup f_law_e_number = some ⟨oc_law_e_number,od_law_e_number,.func (PySem.W.fnOf "_law_e_number" "_law_e_number" (defArgs s_law_e_number) (defBody s_law_e_number) (defScope s_law_e_number) .none kV_law_e_number dc_law_e_number pm_law_e_number an_law_e_number cd_law_e_number ct_law_e_number),sl_law_e_number⟩)
    (c_law_e_number:PySem.W.codeIn K cd_law_e_number "_law_e_number" = true)
    (k_law_e_number:PySem.W.keepIn K (.ref f_law_e_number) = true)
    (a_law_e_told_row:PySem.W.nsIn K mainGlobals "_law_e_told_row" = some (some (.ref f_law_e_told_row)))
    (l_law_e_told_row:K.lookup f_law_e_told_row = some ⟨oc_law_e_told_row,od_law_e_told_row,.func (PySem.W.fnOf "_law_e_told_row" "_law_e_told_row" (defArgs s_law_e_told_row) (defBody s_law_e_told_row) (defScope s_law_e_told_row) .none kV_law_e_told_row dc_law_e_told_row pm_law_e_told_row an_law_e_told_row cd_law_e_told_row ct_law_e_told_row),sl_law_e_told_row⟩)
    (c_law_e_told_row:PySem.W.codeIn K cd_law_e_told_row "_law_e_told_row" = true)
    (k_law_e_told_row:PySem.W.keepIn K (.ref f_law_e_told_row) = true)
    (a_law_e_carried:PySem.W.nsIn K mainGlobals "_law_e_carried" = some (some (.ref f_law_e_carried)))
    (l_law_e_carried:K.lookup f_law_e_carried = some ⟨oc_law_e_carried,od_law_e_carried,.func (PySem.W.fnOf "_law_e_carried" "_law_e_carried" (defArgs s_law_e_carried) (defBody s_law_e_carried) (defScope s_law_e_carried) .none kV_law_e_carried dc_law_e_carried pm_law_e_carried an_law_e_carried cd_law_e_carried ct_law_e_carried),sl_law_e_carried⟩)
    (c_law_e_carried:PySem.W.codeIn K cd_law_e_carried "_law_e_carried" = true)
    (k_law_e_carried:PySem.W.keepIn K (.ref f_law_e_carried) = true)
    (a_law_e_pair_right:PySem.W.nsIn K mainGlobals "_law_e_pair_right" = some (some (.ref f_law_e_pair_right)))
    (l_law_e_pair_right:K.lookup f_law_e_pair_right = some ⟨oc_law_e_pair_right,od_law_e_pair_right,.func (PySem.W.fnOf "_law_e_pair_right" "_law_e_pair_right" (defArgs s_law_e_pair_right) (defBody s_law_e_pair_right) (defScope s_law_e_pair_right) .none kV_law_e_pair_right dc_law_e_pair_right pm_law_e_pair_right an_law_e_pair_right cd_law_e_pair_right ct_law_e_pair_right),sl_law_e_pair_right⟩)
    (c_law_e_pair_right:PySem.W.codeIn K cd_law_e_pair_right "_law_e_pair_right" = true)
    (k_law_e_pair_right:PySem.W.keepIn K (.ref f_law_e_pair_right) = true)
    (a_law_e_tied:PySem.W.nsIn K mainGlobals "_law_e_tied" = some (some (.ref f_law_e_tied)))
    (l_law_e_tied:K.lookup f_law_e_tied = some ⟨oc_law_e_tied,od_law_e_tied,.func (PySem.W.fnOf "_law_e_tied" "_law_e_tied" (defArgs s_law_e_tied) (defBody s_law_e_tied) (defScope s_law_e_tied) .none kV_law_e_tied dc_law_e_tied pm_law_e_tied an_law_e_tied cd_law_e_tied ct_law_e_tied),sl_law_e_tied⟩)
    (c_law_e_tied:PySem.W.codeIn K cd_law_e_tied "_law_e_tied" = true)
    (k_law_e_tied:PySem.W.keepIn K (.ref f_law_e_tied) = true)
    (a_law_e_next_right:PySem.W.nsIn K mainGlobals "_law_e_next_right" = some (some (.ref f_law_e_next_right)))
    (l_law_e_next_right:K.lookup f_law_e_next_right = some ⟨oc_law_e_next_right,od_law_e_next_right,.func (PySem.W.fnOf "_law_e_next_right" "_law_e_next_right" (defArgs s_law_e_next_right) (defBody s_law_e_next_right) (defScope s_law_e_next_right) .none kV_law_e_next_right dc_law_e_next_right pm_law_e_next_right an_law_e_next_right cd_law_e_next_right ct_law_e_next_right),sl_law_e_next_right⟩)
    (c_law_e_next_right:PySem.W.codeIn K cd_law_e_next_right "_law_e_next_right" = true)
    (k_law_e_next_right:PySem.W.keepIn K (.ref f_law_e_next_right) = true)
    (a_law:PySem.W.nsIn K mainGlobals "law" = some (some (.ref f_law)))
    (l_law:K.lookup f_law = some ⟨oc_law,od_law,.func (PySem.W.fnOf "law" "law" (defArgs s_law) (defBody s_law) (defScope s_law) .none kV_law dc_law pm_law an_law cd_law ct_law),sl_law⟩)
    (c_law:PySem.W.codeIn K cd_law "law" = true)
    (k_law:PySem.W.keepIn K (.ref f_law) = true)
    (a_World___init__:PySem.W.findIn K (.ref C_World) "__init__" = some (some (.ref f_World___init__)))
    (i_World___init__:PySem.W.isFn K (.ref f_World___init__) = true)
    (l_World___init__:K.lookup f_World___init__ = some ⟨oc_World___init__,od_World___init__,.func (PySem.W.fnOf "__init__" "World.__init__" (defArgs s_World___init__) (defBody s_World___init__) (defScope s_World___init__) .none kV_World___init__ dc_World___init__ pm_World___init__ an_World___init__ cd_World___init__ ct_World___init__),sl_World___init__⟩)
    (c_World___init__:PySem.W.codeIn K cd_World___init__ "World.__init__" = true)
    (k_World___init__:PySem.W.keepIn K (.ref f_World___init__) = true)
    (a_World_of:PySem.W.findIn K (.ref C_World) "of" = some (some (.ref f_World_of)))
    (i_World_of:PySem.W.isFn K (.ref f_World_of) = true)
    (l_World_of:K.lookup f_World_of = some ⟨oc_World_of,od_World_of,.func (PySem.W.fnOf "of" "World.of" (defArgs s_World_of) (defBody s_World_of) (defScope s_World_of) (.ref dT_World_of) kV_World_of dc_World_of pm_World_of an_World_of cd_World_of ct_World_of),sl_World_of⟩)
    (c_World_of:PySem.W.codeIn K cd_World_of "World.of" = true)
    (k_World_of:PySem.W.keepIn K (.ref f_World_of) = true)
    (ld_World_of:K.lookup dT_World_of = some ⟨oc2_World_of,od2_World_of,.seq #[.int 1 tk_World_of] n2_World_of,sl2_World_of⟩)
    (a_World_as_wholes:PySem.W.findIn K (.ref C_World) "as_wholes" = some (some (.ref f_World_as_wholes)))
    (i_World_as_wholes:PySem.W.isFn K (.ref f_World_as_wholes) = true)
    (l_World_as_wholes:K.lookup f_World_as_wholes = some ⟨oc_World_as_wholes,od_World_as_wholes,.func (PySem.W.fnOf "as_wholes" "World.as_wholes" (defArgs s_World_as_wholes) (defBody s_World_as_wholes) (defScope s_World_as_wholes) .none kV_World_as_wholes dc_World_as_wholes pm_World_as_wholes an_World_as_wholes cd_World_as_wholes ct_World_as_wholes),sl_World_as_wholes⟩)
    (c_World_as_wholes:PySem.W.codeIn K cd_World_as_wholes "World.as_wholes" = true)
    (k_World_as_wholes:PySem.W.keepIn K (.ref f_World_as_wholes) = true)
    (a_World_evenly:PySem.W.findIn K (.ref C_World) "evenly" = some (some (.ref f_World_evenly)))
    (i_World_evenly:PySem.W.isFn K (.ref f_World_evenly) = true)
    (l_World_evenly:K.lookup f_World_evenly = some ⟨oc_World_evenly,od_World_evenly,.func (PySem.W.fnOf "evenly" "World.evenly" (defArgs s_World_evenly) (defBody s_World_evenly) (defScope s_World_evenly) .none kV_World_evenly dc_World_evenly pm_World_evenly an_World_evenly cd_World_evenly ct_World_evenly),sl_World_evenly⟩)
    (c_World_evenly:PySem.W.codeIn K cd_World_evenly "World.evenly" = true)
    (k_World_evenly:PySem.W.keepIn K (.ref f_World_evenly) = true)
    (pg_World:PySem.W.plainGet K C_World Str.empty = true)
    (hd_World:PySem.W.hasDictIn K C_World = true)
    (po_World:PySem.W.plainOver K C_World = true)
    (sa_World:PySem.W.findIn K (.ref C_World) "__setattr__" = some (some (.builtin "object.__setattr__")))
    (mk_World:PySem.W.makesIn K C_World = true)
    (kc_World:PySem.W.keepIn K (.ref C_World) = true)
    (n_World_prime:PySem.W.findIn K (.ref C_World) "prime" = some none)
    (z_len:PySem.W.nsIn K mainGlobals "len" = some none)
    (z_isinstance:PySem.W.nsIn K mainGlobals "isinstance" = some none)
    (z_int:PySem.W.nsIn K mainGlobals "int" = some none)
    (z_bool:PySem.W.nsIn K mainGlobals "bool" = some none)
    (z_tuple:PySem.W.nsIn K mainGlobals "tuple" = some none)
    (z_list:PySem.W.nsIn K mainGlobals "list" = some none)
    (z_range:PySem.W.nsIn K mainGlobals "range" = some none)
    (z_abs:PySem.W.nsIn K mainGlobals "abs" = some none)
    (z_all:PySem.W.nsIn K mainGlobals "all" = some none)
    (z_zip:PySem.W.nsIn K mainGlobals "zip" = some none)
    (z_sum:PySem.W.nsIn K mainGlobals "sum" = some none)
    (z_min:PySem.W.nsIn K mainGlobals "min" = some none)
    (z_enumerate:PySem.W.nsIn K mainGlobals "enumerate" = some none)
    (z_ValueError:PySem.W.nsIn K mainGlobals "ValueError" = some none)
    (a_GREATEST_PRIME:PySem.W.nsIn K mainGlobals "GREATEST_PRIME" = some (some (.int 997 tk_GREATEST_PRIME)))
    (a_LONG:PySem.W.nsIn K mainGlobals "LONG" = some (some (.int 2048 tk_LONG)))
    (a_MOST:PySem.W.nsIn K mainGlobals "MOST" = some (some (.int 40 tk_MOST)))
    (e_x_NoWorld:PySem.W.excIn K C_NoWorld [.type "ValueError",.type "Exception",.type "BaseException",.type "object"] "ValueError.__new__" = true)
    (e_x_NoOver:PySem.W.excIn K C_NoOver [.type "ValueError",.type "Exception",.type "BaseException",.type "object"] "ValueError.__new__" = true)
    (e_x_NoFit:PySem.W.excIn K C_NoFit [.type "ValueError",.type "Exception",.type "BaseException",.type "object"] "ValueError.__new__" = true)
    : ∃ t:Adr,Txt K mg t:=by
  refine ⟨⟨f_is_whole,PySem.W.fnOf "is_whole" "is_whole" (defArgs s_is_whole) (defBody s_is_whole) (defScope s_is_whole) .none kV_is_whole dc_is_whole pm_is_whole an_is_whole cd_is_whole ct_is_whole,f_common_divisor,PySem.W.fnOf "common_divisor" "common_divisor" (defArgs s_common_divisor) (defBody s_common_divisor) (defScope s_common_divisor) .none kV_common_divisor dc_common_divisor pm_common_divisor an_common_divisor cd_common_divisor ct_common_divisor,f_is_prime,PySem.W.fnOf "is_prime" "is_prime" (defArgs s_is_prime) (defBody s_is_prime) (defScope s_is_prime) .none kV_is_prime dc_is_prime pm_is_prime an_is_prime cd_is_prime ct_is_prime,f_ratio,PySem.W.fnOf "ratio" "ratio" (defArgs s_ratio) (defBody s_ratio) (defScope s_ratio) .none kV_ratio dc_ratio pm_ratio an_ratio cd_ratio ct_ratio,f_one_bottom,PySem.W.fnOf "one_bottom" "one_bottom" (defArgs s_one_bottom) (defBody s_one_bottom) (defScope s_one_bottom) .none kV_one_bottom dc_one_bottom pm_one_bottom an_one_bottom cd_one_bottom ct_one_bottom,f_remainder_back,PySem.W.fnOf "remainder_back" "remainder_back" (defArgs s_remainder_back) (defBody s_remainder_back) (defScope s_remainder_back) .none kV_remainder_back dc_remainder_back pm_remainder_back an_remainder_back cd_remainder_back ct_remainder_back,f_remainder_over,PySem.W.fnOf "remainder_over" "remainder_over" (defArgs s_remainder_over) (defBody s_remainder_over) (defScope s_remainder_over) .none kV_remainder_over dc_remainder_over pm_remainder_over an_remainder_over cd_remainder_over ct_remainder_over,f_is_fractions,PySem.W.fnOf "is_fractions" "is_fractions" (defArgs s_is_fractions) (defBody s_is_fractions) (defScope s_is_fractions) .none kV_is_fractions dc_is_fractions pm_is_fractions an_is_fractions cd_is_fractions ct_is_fractions,f_is_wheel,PySem.W.fnOf "is_wheel" "is_wheel" (defArgs s_is_wheel) (defBody s_is_wheel) (defScope s_is_wheel) .none kV_is_wheel dc_is_wheel pm_is_wheel an_is_wheel cd_is_wheel ct_is_wheel,f_numbers_of,PySem.W.fnOf "numbers_of" "numbers_of" (defArgs s_numbers_of) (defBody s_numbers_of) (defScope s_numbers_of) .none kV_numbers_of dc_numbers_of pm_numbers_of an_numbers_of cd_numbers_of ct_numbers_of,f_shifted_size,PySem.W.fnOf "shifted_size" "shifted_size" (defArgs s_shifted_size) (defBody s_shifted_size) (defScope s_shifted_size) .none kV_shifted_size dc_shifted_size pm_shifted_size an_shifted_size cd_shifted_size ct_shifted_size,f_shifted_row,PySem.W.fnOf "shifted_row" "shifted_row" (defArgs s_shifted_row) (defBody s_shifted_row) (defScope s_shifted_row) .none kV_shifted_row dc_shifted_row pm_shifted_row an_shifted_row cd_shifted_row ct_shifted_row,f_whole_sum,PySem.W.fnOf "whole_sum" "whole_sum" (defArgs s_whole_sum) (defBody s_whole_sum) (defScope s_whole_sum) .none kV_whole_sum dc_whole_sum pm_whole_sum an_whole_sum cd_whole_sum ct_whole_sum,f_next_pair,PySem.W.fnOf "next_pair" "next_pair" (defArgs s_next_pair) (defBody s_next_pair) (defScope s_next_pair) .none kV_next_pair dc_next_pair pm_next_pair an_next_pair cd_next_pair ct_next_pair,f_whole_pairs,PySem.W.fnOf "whole_pairs" "whole_pairs" (defArgs s_whole_pairs) (defBody s_whole_pairs) (defScope s_whole_pairs) .none kV_whole_pairs dc_whole_pairs pm_whole_pairs an_whole_pairs cd_whole_pairs ct_whole_pairs,f_told_pair,PySem.W.fnOf "told_pair" "told_pair" (defArgs s_told_pair) (defBody s_told_pair) (defScope s_told_pair) .none kV_told_pair dc_told_pair pm_told_pair an_told_pair cd_told_pair ct_told_pair,f_growth,PySem.W.fnOf "growth" "growth" (defArgs s_growth) (defBody s_growth) (defScope s_growth) .none kV_growth dc_growth pm_growth an_growth cd_growth ct_growth,f_grown,PySem.W.fnOf "grown" "grown" (defArgs s_grown) (defBody s_grown) (defScope s_grown) .none kV_grown dc_grown pm_grown an_grown cd_grown ct_grown,f_law_e_fill,PySem.W.fnOf "_law_e_fill" "_law_e_fill" (defArgs s_law_e_fill) (defBody s_law_e_fill) (defScope s_law_e_fill) .none kV_law_e_fill dc_law_e_fill pm_law_e_fill an_law_e_fill cd_law_e_fill ct_law_e_fill,f_law_e_next,PySem.W.fnOf "_law_e_next" "_law_e_next" (defArgs s_law_e_next) (defBody s_law_e_next) (defScope s_law_e_next) .none kV_law_e_next dc_law_e_next pm_law_e_next an_law_e_next cd_law_e_next ct_law_e_next,f_law_e_low,PySem.W.fnOf "_law_e_low" "_law_e_low" (defArgs s_law_e_low) (defBody s_law_e_low) (defScope s_law_e_low) .none kV_law_e_low dc_law_e_low pm_law_e_low an_law_e_low cd_law_e_low ct_law_e_low,f_law_e_of,PySem.W.fnOf "_law_e_of" "_law_e_of" (defArgs s_law_e_of) (defBody s_law_e_of) (defScope s_law_e_of) .none kV_law_e_of dc_law_e_of pm_law_e_of an_law_e_of cd_law_e_of ct_law_e_of,f_law_e_plus,PySem.W.fnOf "_law_e_plus" "_law_e_plus" (defArgs s_law_e_plus) (defBody s_law_e_plus) (defScope s_law_e_plus) .none kV_law_e_plus dc_law_e_plus pm_law_e_plus an_law_e_plus cd_law_e_plus ct_law_e_plus,f_law_e_times,PySem.W.fnOf "_law_e_times" "_law_e_times" (defArgs s_law_e_times) (defBody s_law_e_times) (defScope s_law_e_times) .none kV_law_e_times dc_law_e_times pm_law_e_times an_law_e_times cd_law_e_times ct_law_e_times,f_law_e_is_number,PySem.W.fnOf "_law_e_is_number" "_law_e_is_number" (defArgs s_law_e_is_number) (defBody s_law_e_is_number) (defScope s_law_e_is_number) .none kV_law_e_is_number dc_law_e_is_number pm_law_e_is_number an_law_e_is_number cd_law_e_is_number ct_law_e_is_number,f_law_e_is_row,PySem.W.fnOf "_law_e_is_row" "_law_e_is_row" (defArgs s_law_e_is_row) (defBody s_law_e_is_row) (defScope s_law_e_is_row) .none kV_law_e_is_row dc_law_e_is_row pm_law_e_is_row an_law_e_is_row cd_law_e_is_row ct_law_e_is_row,f_law_e_world,PySem.W.fnOf "_law_e_world" "_law_e_world" (defArgs s_law_e_world) (defBody s_law_e_world) (defScope s_law_e_world) .none kV_law_e_world dc_law_e_world pm_law_e_world an_law_e_world cd_law_e_world ct_law_e_world,f_law_e_number,PySem.W.fnOf "_law_e_number" "_law_e_number" (defArgs s_law_e_number) (defBody s_law_e_number) (defScope s_law_e_number) .none kV_law_e_number dc_law_e_number pm_law_e_number an_law_e_number cd_law_e_number ct_law_e_number,f_law_e_told_row,PySem.W.fnOf "_law_e_told_row" "_law_e_told_row" (defArgs s_law_e_told_row) (defBody s_law_e_told_row) (defScope s_law_e_told_row) .none kV_law_e_told_row dc_law_e_told_row pm_law_e_told_row an_law_e_told_row cd_law_e_told_row ct_law_e_told_row,f_law_e_carried,PySem.W.fnOf "_law_e_carried" "_law_e_carried" (defArgs s_law_e_carried) (defBody s_law_e_carried) (defScope s_law_e_carried) .none kV_law_e_carried dc_law_e_carried pm_law_e_carried an_law_e_carried cd_law_e_carried ct_law_e_carried,f_law_e_pair_right,PySem.W.fnOf "_law_e_pair_right" "_law_e_pair_right" (defArgs s_law_e_pair_right) (defBody s_law_e_pair_right) (defScope s_law_e_pair_right) .none kV_law_e_pair_right dc_law_e_pair_right pm_law_e_pair_right an_law_e_pair_right cd_law_e_pair_right ct_law_e_pair_right,f_law_e_tied,PySem.W.fnOf "_law_e_tied" "_law_e_tied" (defArgs s_law_e_tied) (defBody s_law_e_tied) (defScope s_law_e_tied) .none kV_law_e_tied dc_law_e_tied pm_law_e_tied an_law_e_tied cd_law_e_tied ct_law_e_tied,f_law_e_next_right,PySem.W.fnOf "_law_e_next_right" "_law_e_next_right" (defArgs s_law_e_next_right) (defBody s_law_e_next_right) (defScope s_law_e_next_right) .none kV_law_e_next_right dc_law_e_next_right pm_law_e_next_right an_law_e_next_right cd_law_e_next_right ct_law_e_next_right,f_law,PySem.W.fnOf "law" "law" (defArgs s_law) (defBody s_law) (defScope s_law) .none kV_law dc_law pm_law an_law cd_law ct_law,f_World___init__,PySem.W.fnOf "__init__" "World.__init__" (defArgs s_World___init__) (defBody s_World___init__) (defScope s_World___init__) .none kV_World___init__ dc_World___init__ pm_World___init__ an_World___init__ cd_World___init__ ct_World___init__,f_World_of,PySem.W.fnOf "of" "World.of" (defArgs s_World_of) (defBody s_World_of) (defScope s_World_of) (.ref dT_World_of) kV_World_of dc_World_of pm_World_of an_World_of cd_World_of ct_World_of,f_World_as_wholes,PySem.W.fnOf "as_wholes" "World.as_wholes" (defArgs s_World_as_wholes) (defBody s_World_as_wholes) (defScope s_World_as_wholes) .none kV_World_as_wholes dc_World_as_wholes pm_World_as_wholes an_World_as_wholes cd_World_as_wholes ct_World_as_wholes,f_World_evenly,PySem.W.fnOf "evenly" "World.evenly" (defArgs s_World_evenly) (defBody s_World_evenly) (defScope s_World_evenly) .none kV_World_evenly dc_World_evenly pm_World_evenly an_World_evenly cd_World_evenly ct_World_evenly,C_World,C_NoWorld,C_NoOver,C_NoFit⟩,?_⟩
  exact {
    F_is_whole:=fun_mk (st:=s_is_whole) l_is_whole c_is_whole k_is_whole
    b_is_whole:=(fun_mk (st:=s_is_whole) l_is_whole c_is_whole k_is_whole).binds (ps:=["thing"]) fun _ _ _ _ _ _ us hl=>match us,hl with | [_],_=>rfl
    mg_is_whole:=PySem.W.mg_of X G a_is_whole
    F_common_divisor:=fun_mk (st:=s_common_divisor) l_common_divisor c_common_divisor k_common_divisor
    b_common_divisor:=(fun_mk (st:=s_common_divisor) l_common_divisor c_common_divisor k_common_divisor).binds (ps:=["one","other"]) fun _ _ _ _ _ _ us hl=>match us,hl with | [_,_],_=>rfl
    mg_common_divisor:=PySem.W.mg_of X G a_common_divisor
    F_is_prime:=fun_mk (st:=s_is_prime) l_is_prime c_is_prime k_is_prime
    b_is_prime:=(fun_mk (st:=s_is_prime) l_is_prime c_is_prime k_is_prime).binds (ps:=["number"]) fun _ _ _ _ _ _ us hl=>match us,hl with | [_],_=>rfl
    mg_is_prime:=PySem.W.mg_of X G a_is_prime
    F_ratio:=fun_mk (st:=s_ratio) l_ratio c_ratio k_ratio
    b_ratio:=(fun_mk (st:=s_ratio) l_ratio c_ratio k_ratio).binds (ps:=["top","bottom"]) fun _ _ _ _ _ _ us hl=>match us,hl with | [_,_],_=>rfl
    mg_ratio:=PySem.W.mg_of X G a_ratio
    F_one_bottom:=fun_mk (st:=s_one_bottom) l_one_bottom c_one_bottom k_one_bottom
    b_one_bottom:=(fun_mk (st:=s_one_bottom) l_one_bottom c_one_bottom k_one_bottom).binds (ps:=["row"]) fun _ _ _ _ _ _ us hl=>match us,hl with | [_],_=>rfl
    mg_one_bottom:=PySem.W.mg_of X G a_one_bottom
    F_remainder_back:=fun_mk (st:=s_remainder_back) l_remainder_back c_remainder_back k_remainder_back
    b_remainder_back:=(fun_mk (st:=s_remainder_back) l_remainder_back c_remainder_back k_remainder_back).binds (ps:=["prime","number"]) fun _ _ _ _ _ _ us hl=>match us,hl with | [_,_],_=>rfl
    mg_remainder_back:=PySem.W.mg_of X G a_remainder_back
    F_remainder_over:=fun_mk (st:=s_remainder_over) l_remainder_over c_remainder_over k_remainder_over
    b_remainder_over:=(fun_mk (st:=s_remainder_over) l_remainder_over c_remainder_over k_remainder_over).binds (ps:=["prime","a","b"]) fun _ _ _ _ _ _ us hl=>match us,hl with | [_,_,_],_=>rfl
    mg_remainder_over:=PySem.W.mg_of X G a_remainder_over
    F_is_fractions:=fun_mk (st:=s_is_fractions) l_is_fractions c_is_fractions k_is_fractions
    b_is_fractions:=(fun_mk (st:=s_is_fractions) l_is_fractions c_is_fractions k_is_fractions).binds (ps:=["told"]) fun _ _ _ _ _ _ us hl=>match us,hl with | [_],_=>rfl
    mg_is_fractions:=PySem.W.mg_of X G a_is_fractions
    F_is_wheel:=fun_mk (st:=s_is_wheel) l_is_wheel c_is_wheel k_is_wheel
    b_is_wheel:=(fun_mk (st:=s_is_wheel) l_is_wheel c_is_wheel k_is_wheel).binds (ps:=["told"]) fun _ _ _ _ _ _ us hl=>match us,hl with | [_],_=>rfl
    mg_is_wheel:=PySem.W.mg_of X G a_is_wheel
    F_numbers_of:=fun_mk (st:=s_numbers_of) l_numbers_of c_numbers_of k_numbers_of
    b_numbers_of:=(fun_mk (st:=s_numbers_of) l_numbers_of c_numbers_of k_numbers_of).binds (ps:=["world","wholes","times","bottom"]) fun _ _ _ _ _ _ us hl=>match us,hl with | [_,_,_,_],_=>rfl
    mg_numbers_of:=PySem.W.mg_of X G a_numbers_of
    F_shifted_size:=fun_mk (st:=s_shifted_size) l_shifted_size c_shifted_size k_shifted_size
    b_shifted_size:=(fun_mk (st:=s_shifted_size) l_shifted_size c_shifted_size k_shifted_size).binds (ps:=["row"]) fun _ _ _ _ _ _ us hl=>match us,hl with | [_],_=>rfl
    mg_shifted_size:=PySem.W.mg_of X G a_shifted_size
    F_shifted_row:=fun_mk (st:=s_shifted_row) l_shifted_row c_shifted_row k_shifted_row
    b_shifted_row:=(fun_mk (st:=s_shifted_row) l_shifted_row c_shifted_row k_shifted_row).binds (ps:=["row","i","many"]) fun _ _ _ _ _ _ us hl=>match us,hl with | [_,_,_],_=>rfl
    mg_shifted_row:=PySem.W.mg_of X G a_shifted_row
    F_whole_sum:=fun_mk (st:=s_whole_sum) l_whole_sum c_whole_sum k_whole_sum
    b_whole_sum:=(fun_mk (st:=s_whole_sum) l_whole_sum c_whole_sum k_whole_sum).binds (ps:=["one","other"]) fun _ _ _ _ _ _ us hl=>match us,hl with | [_,_],_=>rfl
    mg_whole_sum:=PySem.W.mg_of X G a_whole_sum
    F_next_pair:=fun_mk (st:=s_next_pair) l_next_pair c_next_pair k_next_pair
    b_next_pair:=(fun_mk (st:=s_next_pair) l_next_pair c_next_pair k_next_pair).binds (ps:=["world","row","pair","last"]) fun _ _ _ _ _ _ us hl=>match us,hl with | [_,_,_,_],_=>rfl
    mg_next_pair:=PySem.W.mg_of X G a_next_pair
    F_whole_pairs:=fun_mk (st:=s_whole_pairs) l_whole_pairs c_whole_pairs k_whole_pairs
    b_whole_pairs:=(fun_mk (st:=s_whole_pairs) l_whole_pairs c_whole_pairs k_whole_pairs).binds (ps:=["world","row"]) fun _ _ _ _ _ _ us hl=>match us,hl with | [_,_],_=>rfl
    mg_whole_pairs:=PySem.W.mg_of X G a_whole_pairs
    F_told_pair:=fun_mk (st:=s_told_pair) l_told_pair c_told_pair k_told_pair
    b_told_pair:=(fun_mk (st:=s_told_pair) l_told_pair c_told_pair k_told_pair).binds (ps:=["world","pair","bottom"]) fun _ _ _ _ _ _ us hl=>match us,hl with | [_,_,_],_=>rfl
    mg_told_pair:=PySem.W.mg_of X G a_told_pair
    F_growth:=fun_mk (st:=s_growth) l_growth c_growth k_growth
    b_growth:=(fun_mk (st:=s_growth) l_growth c_growth k_growth).binds (ps:=["world","row"]) fun _ _ _ _ _ _ us hl=>match us,hl with | [_,_],_=>rfl
    mg_growth:=PySem.W.mg_of X G a_growth
    F_grown:=fun_mk (st:=s_grown) l_grown c_grown k_grown
    b_grown:=(fun_mk (st:=s_grown) l_grown c_grown k_grown).binds (ps:=["world","row","front","back"]) fun _ _ _ _ _ _ us hl=>match us,hl with | [_,_,_,_],_=>rfl
    mg_grown:=PySem.W.mg_of X G a_grown
    F_law_e_fill:=fun_mk (st:=s_law_e_fill) l_law_e_fill c_law_e_fill k_law_e_fill
    b_law_e_fill:=(fun_mk (st:=s_law_e_fill) l_law_e_fill c_law_e_fill k_law_e_fill).binds (ps:=["cell","at"]) fun _ _ _ _ _ _ us hl=>match us,hl with | [_,_],_=>rfl
    mg_law_e_fill:=PySem.W.mg_of X G a_law_e_fill
    F_law_e_next:=fun_mk (st:=s_law_e_next) l_law_e_next c_law_e_next k_law_e_next
    b_law_e_next:=(fun_mk (st:=s_law_e_next) l_law_e_next c_law_e_next k_law_e_next).binds (ps:=["pen","many"]) fun _ _ _ _ _ _ us hl=>match us,hl with | [_,_],_=>rfl
    mg_law_e_next:=PySem.W.mg_of X G a_law_e_next
    F_law_e_low:=fun_mk (st:=s_law_e_low) l_law_e_low c_law_e_low k_law_e_low
    b_law_e_low:=(fun_mk (st:=s_law_e_low) l_law_e_low c_law_e_low k_law_e_low).binds (ps:=["top","bottom"]) fun _ _ _ _ _ _ us hl=>match us,hl with | [_,_],_=>rfl
    mg_law_e_low:=PySem.W.mg_of X G a_law_e_low
    F_law_e_of:=fun_mk (st:=s_law_e_of) l_law_e_of c_law_e_of k_law_e_of
    b_law_e_of:=(fun_mk (st:=s_law_e_of) l_law_e_of c_law_e_of k_law_e_of).binds (ps:=["told","number"]) fun _ _ _ _ _ _ us hl=>match us,hl with | [_,_],_=>rfl
    mg_law_e_of:=PySem.W.mg_of X G a_law_e_of
    F_law_e_plus:=fun_mk (st:=s_law_e_plus) l_law_e_plus c_law_e_plus k_law_e_plus
    b_law_e_plus:=(fun_mk (st:=s_law_e_plus) l_law_e_plus c_law_e_plus k_law_e_plus).binds (ps:=["told","a","b"]) fun _ _ _ _ _ _ us hl=>match us,hl with | [_,_,_],_=>rfl
    mg_law_e_plus:=PySem.W.mg_of X G a_law_e_plus
    F_law_e_times:=fun_mk (st:=s_law_e_times) l_law_e_times c_law_e_times k_law_e_times
    b_law_e_times:=(fun_mk (st:=s_law_e_times) l_law_e_times c_law_e_times k_law_e_times).binds (ps:=["told","a","b"]) fun _ _ _ _ _ _ us hl=>match us,hl with | [_,_,_],_=>rfl
    mg_law_e_times:=PySem.W.mg_of X G a_law_e_times
    F_law_e_is_number:=fun_mk (st:=s_law_e_is_number) l_law_e_is_number c_law_e_is_number k_law_e_is_number
    b_law_e_is_number:=(fun_mk (st:=s_law_e_is_number) l_law_e_is_number c_law_e_is_number k_law_e_is_number).binds (ps:=["told","a"]) fun _ _ _ _ _ _ us hl=>match us,hl with | [_,_],_=>rfl
    mg_law_e_is_number:=PySem.W.mg_of X G a_law_e_is_number
    F_law_e_is_row:=fun_mk (st:=s_law_e_is_row) l_law_e_is_row c_law_e_is_row k_law_e_is_row
    b_law_e_is_row:=(fun_mk (st:=s_law_e_is_row) l_law_e_is_row c_law_e_is_row k_law_e_is_row).binds (ps:=["told","found"]) fun _ _ _ _ _ _ us hl=>match us,hl with | [_,_],_=>rfl
    mg_law_e_is_row:=PySem.W.mg_of X G a_law_e_is_row
    F_law_e_world:=fun_mk (st:=s_law_e_world) l_law_e_world c_law_e_world k_law_e_world
    b_law_e_world:=(fun_mk (st:=s_law_e_world) l_law_e_world c_law_e_world k_law_e_world).binds (ps:=["pen"]) fun _ _ _ _ _ _ us hl=>match us,hl with | [_],_=>rfl
    mg_law_e_world:=PySem.W.mg_of X G a_law_e_world
    F_law_e_number:=fun_mk (st:=s_law_e_number) l_law_e_number c_law_e_number k_law_e_number
    b_law_e_number:=(fun_mk (st:=s_law_e_number) l_law_e_number c_law_e_number k_law_e_number).binds (ps:=["pen","told","far"]) fun _ _ _ _ _ _ us hl=>match us,hl with | [_,_,_],_=>rfl
    mg_law_e_number:=PySem.W.mg_of X G a_law_e_number
    F_law_e_told_row:=fun_mk (st:=s_law_e_told_row) l_law_e_told_row c_law_e_told_row k_law_e_told_row
    b_law_e_told_row:=(fun_mk (st:=s_law_e_told_row) l_law_e_told_row c_law_e_told_row k_law_e_told_row).binds (ps:=["pen","told","first"]) fun _ _ _ _ _ _ us hl=>match us,hl with | [_,_,_],_=>rfl
    mg_law_e_told_row:=PySem.W.mg_of X G a_law_e_told_row
    F_law_e_carried:=fun_mk (st:=s_law_e_carried) l_law_e_carried c_law_e_carried k_law_e_carried
    b_law_e_carried:=(fun_mk (st:=s_law_e_carried) l_law_e_carried c_law_e_carried k_law_e_carried).binds (ps:=["told","row","numbers","many"]) fun _ _ _ _ _ _ us hl=>match us,hl with | [_,_,_,_],_=>rfl
    mg_law_e_carried:=PySem.W.mg_of X G a_law_e_carried
    F_law_e_pair_right:=fun_mk (st:=s_law_e_pair_right) l_law_e_pair_right c_law_e_pair_right k_law_e_pair_right
    b_law_e_pair_right:=(fun_mk (st:=s_law_e_pair_right) l_law_e_pair_right c_law_e_pair_right k_law_e_pair_right).binds (ps:=["told","row","pair","many"]) fun _ _ _ _ _ _ us hl=>match us,hl with | [_,_,_,_],_=>rfl
    mg_law_e_pair_right:=PySem.W.mg_of X G a_law_e_pair_right
    F_law_e_tied:=fun_mk (st:=s_law_e_tied) l_law_e_tied c_law_e_tied k_law_e_tied
    b_law_e_tied:=(fun_mk (st:=s_law_e_tied) l_law_e_tied c_law_e_tied k_law_e_tied).binds (ps:=["told","row","pair"]) fun _ _ _ _ _ _ us hl=>match us,hl with | [_,_,_],_=>rfl
    mg_law_e_tied:=PySem.W.mg_of X G a_law_e_tied
    F_law_e_next_right:=fun_mk (st:=s_law_e_next_right) l_law_e_next_right c_law_e_next_right k_law_e_next_right
    b_law_e_next_right:=(fun_mk (st:=s_law_e_next_right) l_law_e_next_right c_law_e_next_right k_law_e_next_right).binds (ps:=["told","world","row","pairs","m"]) fun _ _ _ _ _ _ us hl=>match us,hl with | [_,_,_,_,_],_=>rfl
    mg_law_e_next_right:=PySem.W.mg_of X G a_law_e_next_right
    F_law:=fun_mk (st:=s_law) l_law c_law k_law
    b_law:=(fun_mk (st:=s_law) l_law c_law k_law).binds (ps:=["script"]) fun _ _ _ _ _ _ us hl=>match us,hl with | [_],_=>rfl
    mg_law:=PySem.W.mg_of X G a_law
    F_World___init__:=fun_mk (st:=s_World___init__) l_World___init__ c_World___init__ k_World___init__
    b_World___init__:=(fun_mk (st:=s_World___init__) l_World___init__ c_World___init__ k_World___init__).binds (ps:=["self","told"]) fun _ _ _ _ _ _ us hl=>match us,hl with | [_,_],_=>rfl
    M_World:=⟨mk_World,a_World___init__,i_World___init__,kc_World⟩
    F_World_of:=(fund_mk (st:=s_World_of) (i:=1) l_World_of c_World_of k_World_of ld_World_of)
    b_World_of:=FunD.binds (ps:=["self","top","bottom"]) (fund_mk (st:=s_World_of) (i:=1) l_World_of c_World_of k_World_of ld_World_of) fun s dT kV doc pm an cdv ct tk o n us ho hd hl=>match us,hl with | [_,_,_],_=>.of_defaults rfl ho hd rfl rfl
    b1_World_of:=FunD.binds1 (ps:=["self","top","bottom"]) (fund_mk (st:=s_World_of) (i:=1) l_World_of c_World_of k_World_of ld_World_of) fun s dT kV doc pm an cdv ct tk o n us ho hd hl=>match us,hl with | [_,_],_=>.of_defaults rfl ho hd rfl rfl
    bk_World_of:=FunD.bindsK (ps:=["self","top","bottom"]) (y:="bottom") (fund_mk (st:=s_World_of) (i:=1) l_World_of c_World_of k_World_of ld_World_of) fun s dT kV doc pm an cdv ct tk o n us ws ho hd hw hl=>match ws,us,hw,hl with | [_],[_,_],_,_=>.of_defaults rfl ho hd rfl rfl
    m_World_of:=⟨a_World_of,i_World_of,k_World_of⟩
    F_World_as_wholes:=fun_mk (st:=s_World_as_wholes) l_World_as_wholes c_World_as_wholes k_World_as_wholes
    b_World_as_wholes:=(fun_mk (st:=s_World_as_wholes) l_World_as_wholes c_World_as_wholes k_World_as_wholes).binds (ps:=["self","row"]) fun _ _ _ _ _ _ us hl=>match us,hl with | [_,_],_=>rfl
    m_World_as_wholes:=⟨a_World_as_wholes,i_World_as_wholes,k_World_as_wholes⟩
    F_World_evenly:=fun_mk (st:=s_World_evenly) l_World_evenly c_World_evenly k_World_evenly
    b_World_evenly:=(fun_mk (st:=s_World_evenly) l_World_evenly c_World_evenly k_World_evenly).binds (ps:=["self","row","by"]) fun _ _ _ _ _ _ us hl=>match us,hl with | [_,_,_],_=>rfl
    m_World_evenly:=⟨a_World_evenly,i_World_evenly,k_World_evenly⟩
    cl_World:=⟨pg_World,hd_World,po_World,sa_World⟩
    mg_World:=PySem.W.mg_of X G aC_World
    na_World_prime:=n_World_prime
    mg_NoWorld:=PySem.W.mg_of X G aC_NoWorld
    mg_NoOver:=PySem.W.mg_of X G aC_NoOver
    mg_NoFit:=PySem.W.mg_of X G aC_NoFit
    n_len:=PySem.W.mg_none_of X G z_len
    n_isinstance:=PySem.W.mg_none_of X G z_isinstance
    n_int:=PySem.W.mg_none_of X G z_int
    n_bool:=PySem.W.mg_none_of X G z_bool
    n_tuple:=PySem.W.mg_none_of X G z_tuple
    n_list:=PySem.W.mg_none_of X G z_list
    n_range:=PySem.W.mg_none_of X G z_range
    n_abs:=PySem.W.mg_none_of X G z_abs
    n_all:=PySem.W.mg_none_of X G z_all
    n_zip:=PySem.W.mg_none_of X G z_zip
    n_sum:=PySem.W.mg_none_of X G z_sum
    n_min:=PySem.W.mg_none_of X G z_min
    n_enumerate:=PySem.W.mg_none_of X G z_enumerate
    n_ValueError:=PySem.W.mg_none_of X G z_ValueError
    mg_GREATEST_PRIME:=⟨_,PySem.W.mg_of X G a_GREATEST_PRIME,_,rfl⟩
    mg_LONG:=⟨_,PySem.W.mg_of X G a_LONG,_,rfl⟩
    mg_MOST:=⟨_,PySem.W.mg_of X G a_MOST,_,rfl⟩
    x_NoWorld:=e_x_NoWorld
    x_NoOver:=e_x_NoOver
    x_NoFit:=e_x_NoFit
  }
end My
def PySem.W.Fast.tw705711785864499153:Unit:=()
def PySem.W.Fast.tw3139725749379266766:Unit:=()
def PySem.W.Fast.tw6507794058839822747:Unit:=()
def PySem.W.Fast.tw6641662199558552221:Unit:=()
def PySem.W.Fast.tw18355829462724879553:Unit:=()
def PySem.W.Fast.tw1732450661056025047:Unit:=()
def PySem.W.Fast.tw17920625928624955897:Unit:=()
def PySem.W.Fast.tw7675095336000770364:Unit:=()
def PySem.W.Fast.tw11366276869678954950:Unit:=()
def PySem.W.Fast.tw4256503527195320239:Unit:=()
def PySem.W.Fast.tw12853393529036970801:Unit:=()
def PySem.W.Fast.tw1009855783867588287:Unit:=()
def PySem.W.Fast.tw8580724199984391473:Unit:=()
def PySem.W.Fast.tw12581341725585829218:Unit:=()
def PySem.W.Fast.tw13671642731634488112:Unit:=()
def PySem.W.Fast.tw4448566889747286772:Unit:=()
def PySem.W.Fast.tw4309046157465290790:Unit:=()
def PySem.W.Fast.tw8151202251792553995:Unit:=()
def PySem.W.Fast.tw2436233386101116030:Unit:=()
def PySem.W.Fast.tw14641600935869574942:Unit:=()
def PySem.W.Fast.tw8229119552512109946:Unit:=()
def PySem.W.Fast.tw12231219965849290449:Unit:=()
def PySem.W.Fast.tw10568621161859358574:Unit:=()
def PySem.W.Fast.tw9574812563828909014:Unit:=()
def PySem.W.Fast.tw7404380123065774379:Unit:=()
def PySem.W.Fast.tw8960851599832089467:Unit:=()
def PySem.W.Fast.tw4295356552248199418:Unit:=()
def PySem.W.Fast.tw4813800450014664897:Unit:=()
def PySem.W.Fast.tw6401454154147841026:Unit:=()
def PySem.W.Fast.tw1145073202420660518:Unit:=()
def PySem.W.Fast.tw13256882725307649123:Unit:=()
def PySem.W.Fast.tw5762560389523202228:Unit:=()
def PySem.W.Fast.tw10701074934806952914:Unit:=()
def PySem.W.Fast.tw12573549745326474439:Unit:=()
def PySem.W.Fast.tw12440832130726937633:Unit:=()
def PySem.W.Fast.tw821637873378910894:Unit:=()
def PySem.W.Fast.tw3413529819887111652:Unit:=()
open PySem PySem.W PyProof.Rows
set_option maxRecDepth 100000 in
set_option maxHeartbeats 0 in
theorem PySem.Challenge.cw_bandwright_k58_grown_pair_by_pair_holds : PySem.Challenge.rw_bandwright_k58_grown_pair_by_pair.Holds := by
  w_on; o_law; k_head; (case hw=>w_witness2)
  k_fill
  refine My.walk (l:=PySem.Challenge.rw_bandwright_k58_grown_pair_by_pair) rfl rfl (fun w h Y=>PySem.W.kIn_of Y) ?F
  case F=>
    intro w mg fa h KX G hmg
    have T:∃ t,My.Txt (L2.KOf KX) mg t:=by
      dsimp only [L2.KOf]
      refine' My.txt_mk KX G ?aC_World ?aC_NoWorld ?aC_NoOver ?aC_NoFit ?a_is_whole ?l_is_whole ?c_is_whole ?k_is_whole ?a_common_divisor ?l_common_divisor ?c_common_divisor ?k_common_divisor ?a_is_prime ?l_is_prime ?c_is_prime ?k_is_prime ?a_ratio ?l_ratio ?c_ratio ?k_ratio ?a_one_bottom ?l_one_bottom ?c_one_bottom ?k_one_bottom ?a_remainder_back ?l_remainder_back ?c_remainder_back ?k_remainder_back ?a_remainder_over ?l_remainder_over ?c_remainder_over ?k_remainder_over ?a_is_fractions ?l_is_fractions ?c_is_fractions ?k_is_fractions ?a_is_wheel ?l_is_wheel ?c_is_wheel ?k_is_wheel ?a_numbers_of ?l_numbers_of ?c_numbers_of ?k_numbers_of ?a_shifted_size ?l_shifted_size ?c_shifted_size ?k_shifted_size ?a_shifted_row ?l_shifted_row ?c_shifted_row ?k_shifted_row ?a_whole_sum ?l_whole_sum ?c_whole_sum ?k_whole_sum ?a_next_pair ?l_next_pair ?c_next_pair ?k_next_pair ?a_whole_pairs ?l_whole_pairs ?c_whole_pairs ?k_whole_pairs ?a_told_pair ?l_told_pair ?c_told_pair ?k_told_pair ?a_growth ?l_growth ?c_growth ?k_growth ?a_grown ?l_grown ?c_grown ?k_grown ?a_law_e_fill ?l_law_e_fill ?c_law_e_fill ?k_law_e_fill ?a_law_e_next ?l_law_e_next ?c_law_e_next ?k_law_e_next ?a_law_e_low ?l_law_e_low ?c_law_e_low ?k_law_e_low ?a_law_e_of ?l_law_e_of ?c_law_e_of ?k_law_e_of ?a_law_e_plus ?l_law_e_plus ?c_law_e_plus ?k_law_e_plus ?a_law_e_times ?l_law_e_times ?c_law_e_times ?k_law_e_times ?a_law_e_is_number ?l_law_e_is_number ?c_law_e_is_number ?k_law_e_is_number ?a_law_e_is_row ?l_law_e_is_row ?c_law_e_is_row ?k_law_e_is_row ?a_law_e_world ?l_law_e_world ?c_law_e_world ?k_law_e_world ?a_law_e_number ?l_law_e_number ?c_law_e_number ?k_law_e_number ?a_law_e_told_row ?l_law_e_told_row ?c_law_e_told_row ?k_law_e_told_row ?a_law_e_carried ?l_law_e_carried ?c_law_e_carried ?k_law_e_carried ?a_law_e_pair_right ?l_law_e_pair_right ?c_law_e_pair_right ?k_law_e_pair_right ?a_law_e_tied ?l_law_e_tied ?c_law_e_tied ?k_law_e_tied ?a_law_e_next_right ?l_law_e_next_right ?c_law_e_next_right ?k_law_e_next_right ?a_law ?l_law ?c_law ?k_law ?a_World___init__ ?i_World___init__ ?l_World___init__ ?c_World___init__ ?k_World___init__ ?a_World_of ?i_World_of ?l_World_of ?c_World_of ?k_World_of ?ld_World_of ?a_World_as_wholes ?i_World_as_wholes ?l_World_as_wholes ?c_World_as_wholes ?k_World_as_wholes ?a_World_evenly ?i_World_evenly ?l_World_evenly ?c_World_evenly ?k_World_evenly ?pg_World ?hd_World ?po_World ?sa_World ?mk_World ?kc_World ?n_World_prime ?z_len ?z_isinstance ?z_int ?z_bool ?z_tuple ?z_list ?z_range ?z_abs ?z_all ?z_zip ?z_sum ?z_min ?z_enumerate ?z_ValueError ?a_GREATEST_PRIME ?a_LONG ?a_MOST ?e_x_NoWorld ?e_x_NoOver ?e_x_NoFit
      (case aC_World=>k_is)
      (case aC_NoWorld=>k_is)
      (case aC_NoOver=>k_is)
      (case aC_NoFit=>k_is)
      (case a_is_whole=>k_is)
      (case l_is_whole=>k_is)
      (case c_is_whole=>k_is)
      (case k_is_whole=>k_is)
      (case a_common_divisor=>k_is)
      (case l_common_divisor=>k_is)
      (case c_common_divisor=>k_is)
      (case k_common_divisor=>k_is)
      (case a_is_prime=>k_is)
      (case l_is_prime=>k_is)
      (case c_is_prime=>k_is)
      (case k_is_prime=>k_is)
      (case a_ratio=>k_is)
      (case l_ratio=>k_is)
      (case c_ratio=>k_is)
      (case k_ratio=>k_is)
      (case a_one_bottom=>k_is)
      (case l_one_bottom=>k_is)
      (case c_one_bottom=>k_is)
      (case k_one_bottom=>k_is)
      (case a_remainder_back=>k_is)
      (case l_remainder_back=>k_is)
      (case c_remainder_back=>k_is)
      (case k_remainder_back=>k_is)
      (case a_remainder_over=>k_is)
      (case l_remainder_over=>k_is)
      (case c_remainder_over=>k_is)
      (case k_remainder_over=>k_is)
      (case a_is_fractions=>k_is)
      (case l_is_fractions=>k_is)
      (case c_is_fractions=>k_is)
      (case k_is_fractions=>k_is)
      (case a_is_wheel=>k_is)
      (case l_is_wheel=>k_is)
      (case c_is_wheel=>k_is)
      (case k_is_wheel=>k_is)
      (case a_numbers_of=>k_is)
      (case l_numbers_of=>k_is)
      (case c_numbers_of=>k_is)
      (case k_numbers_of=>k_is)
      (case a_shifted_size=>k_is)
      (case l_shifted_size=>k_is)
      (case c_shifted_size=>k_is)
      (case k_shifted_size=>k_is)
      (case a_shifted_row=>k_is)
      (case l_shifted_row=>k_is)
      (case c_shifted_row=>k_is)
      (case k_shifted_row=>k_is)
      (case a_whole_sum=>k_is)
      (case l_whole_sum=>k_is)
      (case c_whole_sum=>k_is)
      (case k_whole_sum=>k_is)
      (case a_next_pair=>k_is)
      (case l_next_pair=>k_is)
      (case c_next_pair=>k_is)
      (case k_next_pair=>k_is)
      (case a_whole_pairs=>k_is)
      (case l_whole_pairs=>k_is)
      (case c_whole_pairs=>k_is)
      (case k_whole_pairs=>k_is)
      (case a_told_pair=>k_is)
      (case l_told_pair=>k_is)
      (case c_told_pair=>k_is)
      (case k_told_pair=>k_is)
      (case a_growth=>k_is)
      (case l_growth=>k_is)
      (case c_growth=>k_is)
      (case k_growth=>k_is)
      (case a_grown=>k_is)
      (case l_grown=>k_is)
      (case c_grown=>k_is)
      (case k_grown=>k_is)
      (case a_law_e_fill=>k_is)
      (case l_law_e_fill=>k_is)
      (case c_law_e_fill=>k_is)
      (case k_law_e_fill=>k_is)
      (case a_law_e_next=>k_is)
      (case l_law_e_next=>k_is)
      (case c_law_e_next=>k_is)
      (case k_law_e_next=>k_is)
      (case a_law_e_low=>k_is)
      (case l_law_e_low=>k_is)
      (case c_law_e_low=>k_is)
      (case k_law_e_low=>k_is)
      (case a_law_e_of=>k_is)
      (case l_law_e_of=>k_is)
      (case c_law_e_of=>k_is)
      (case k_law_e_of=>k_is)
      (case a_law_e_plus=>k_is)
      (case l_law_e_plus=>k_is)
      (case c_law_e_plus=>k_is)
      (case k_law_e_plus=>k_is)
      (case a_law_e_times=>k_is)
      (case l_law_e_times=>k_is)
      (case c_law_e_times=>k_is)
      (case k_law_e_times=>k_is)
      (case a_law_e_is_number=>k_is)
      (case l_law_e_is_number=>k_is)
      (case c_law_e_is_number=>k_is)
      (case k_law_e_is_number=>k_is)
      (case a_law_e_is_row=>k_is)
      (case l_law_e_is_row=>k_is)
      (case c_law_e_is_row=>k_is)
      (case k_law_e_is_row=>k_is)
      (case a_law_e_world=>k_is)
      (case l_law_e_world=>k_is)
      (case c_law_e_world=>k_is)
      (case k_law_e_world=>k_is)
      (case a_law_e_number=>k_is)
      (case l_law_e_number=>k_is)
      (case c_law_e_number=>k_is)
      (case k_law_e_number=>k_is)
      (case a_law_e_told_row=>k_is)
      (case l_law_e_told_row=>k_is)
      (case c_law_e_told_row=>k_is)
      (case k_law_e_told_row=>k_is)
      (case a_law_e_carried=>k_is)
      (case l_law_e_carried=>k_is)
      (case c_law_e_carried=>k_is)
      (case k_law_e_carried=>k_is)
      (case a_law_e_pair_right=>k_is)
      (case l_law_e_pair_right=>k_is)
      (case c_law_e_pair_right=>k_is)
      (case k_law_e_pair_right=>k_is)
      (case a_law_e_tied=>k_is)
      (case l_law_e_tied=>k_is)
      (case c_law_e_tied=>k_is)
      (case k_law_e_tied=>k_is)
      (case a_law_e_next_right=>k_is)
      (case l_law_e_next_right=>k_is)
      (case c_law_e_next_right=>k_is)
      (case k_law_e_next_right=>k_is)
      (case a_law=>k_is)
      (case l_law=>k_is)
      (case c_law=>k_is)
      (case k_law=>k_is)
      (case a_World___init__=>k_is)
      (case i_World___init__=>k_is)
      (case l_World___init__=>k_is)
      (case c_World___init__=>k_is)
      (case k_World___init__=>k_is)
      (case a_World_of=>k_is)
      (case i_World_of=>k_is)
      (case l_World_of=>k_is)
      (case c_World_of=>k_is)
      (case k_World_of=>k_is)
      (case ld_World_of=>k_is)
      (case a_World_as_wholes=>k_is)
      (case i_World_as_wholes=>k_is)
      (case l_World_as_wholes=>k_is)
      (case c_World_as_wholes=>k_is)
      (case k_World_as_wholes=>k_is)
      (case a_World_evenly=>k_is)
      (case i_World_evenly=>k_is)
      (case l_World_evenly=>k_is)
      (case c_World_evenly=>k_is)
      (case k_World_evenly=>k_is)
      (case pg_World=>k_is)
      (case hd_World=>k_is)
      (case po_World=>k_is)
      (case sa_World=>k_is)
      (case mk_World=>k_is)
      (case kc_World=>k_is)
      (case n_World_prime=>k_is)
      (case z_len=>k_is)
      (case z_isinstance=>k_is)
      (case z_int=>k_is)
      (case z_bool=>k_is)
      (case z_tuple=>k_is)
      (case z_list=>k_is)
      (case z_range=>k_is)
      (case z_abs=>k_is)
      (case z_all=>k_is)
      (case z_zip=>k_is)
      (case z_sum=>k_is)
      (case z_min=>k_is)
      (case z_enumerate=>k_is)
      (case z_ValueError=>k_is)
      (case a_GREATEST_PRIME=>k_is)
      (case a_LONG=>k_is)
      (case a_MOST=>k_is)
      (case e_x_NoWorld=>k_exc)
      (case e_x_NoOver=>k_exc)
      (case e_x_NoFit=>k_exc)
    obtain ⟨t,T⟩:=T
    have e0:=hmg.symm.trans T.mg_law
    cases e0
    exact My.law_all T
#print axioms PySem.Challenge.cw_bandwright_k58_grown_pair_by_pair_holds
