import PyProof.Rows.All
import Wide.All
import OpenK.AllK
import Wide.FinOn
import Lean
import PyProof.EqAt
import PyProof.EqKinds
import PyProof.TupleCall
import PySem.Challenge.RW_bandwright_k07_tables_known
set_option Elab.async false
set_option linter.all false
set_option maxRecDepth 100000
namespace L2
open PySem PySem.Spec PyProof.Rows
abbrev Key:=Sum Int Str
def keyIs:Key→Value→Bool
  | .inl k,v=>Value.isInt k v
  | .inr x,v=>Value.isStrOf x v
def keyH (w:World):Key→Int
  | .inl k=>hashInt k
  | .inr x=>hashStr w x
theorem keyIs_shape:∀ {k:Key} {v:Value},keyIs k v = true→(∃ i t,k = Sum.inl i∧v = Value.int i t) ∨ (∃ x t,k = Sum.inr x∧v = Value.str x t)
  | .inl i,v,h=>by
    obtain ⟨t,e⟩:=Value.isInt_shape (k:=i) (v:=v) h
    exact .inl ⟨i,t,rfl,e⟩
  | .inr x,v,h=>by
    obtain ⟨t,e⟩:=Value.isStrOf_shape (x:=x) (v:=v) h
    exact .inr ⟨x,t,rfl,e⟩
theorem key_ll (a b:Int):decide ((Sum.inl a:Key) = Sum.inl b) = (a == b):=by
  by_cases e:a = b
  · subst e; simp
  · have h:¬ (Sum.inl a:Key) = Sum.inl b:=fun q=>e (Sum.inl.inj q)
    rw [decide_eq_false h]
    exact (beq_eq_false_iff_ne.mpr e).symm
theorem key_rr (a b:Str):decide ((Sum.inr a:Key) = Sum.inr b) = decide (a = b):=by
  by_cases e:a = b
  · subst e; simp
  · have h:¬ (Sum.inr a:Key) = Sum.inr b:=fun q=>e (Sum.inr.inj q)
    rw [decide_eq_false h,decide_eq_false e]
theorem key_lr (a:Int) (b:Str):decide ((Sum.inl a:Key) = Sum.inr b) = false:=decide_eq_false (fun q=>nomatch q)
theorem key_rl (a:Str) (b:Int):decide ((Sum.inr a:Key) = Sum.inl b) = false:=decide_eq_false (fun q=>nomatch q)
def mixKind (prog:Program) (w:World):PySem.KeyKind prog w Key where
  is:=keyIs
  hash:=keyH w
  inj:=fun v a b ha hb=>by
    rcases keyIs_shape ha with ⟨i,t,rfl,rfl⟩ | ⟨x,t,rfl,rfl⟩
    · rcases keyIs_shape hb with ⟨j,u,rfl,e⟩ | ⟨y,u,rfl,e⟩
      · injection e with e1 _; rw [e1]
      · exact nomatch e
    · rcases keyIs_shape hb with ⟨j,u,rfl,e⟩ | ⟨y,u,rfl,e⟩
      · exact nomatch e
      · injection e with e1 _; rw [e1]
  byValue:=fun k v h=>by
    rcases keyIs_shape h with ⟨i,t,rfl,rfl⟩ | ⟨x,t,rfl,rfl⟩ <;> rfl
  pyHash:=fun hv h=>by
    rcases keyIs_shape hv with ⟨i,t,rfl,rfl⟩ | ⟨x,t,rfl,rfl⟩
    · exact wpAny_pyHash_int h
    · exact wpAny_pyHash_str h
  eqBool:=fun hu hv h=>by
    rcases keyIs_shape hu with ⟨i,t,rfl,rfl⟩ | ⟨x,t,rfl,rfl⟩
    · rcases keyIs_shape hv with ⟨j,u,rfl,rfl⟩ | ⟨y,u,rfl,rfl⟩
      · rw [key_ll] at h; exact wpAny_eqBool_int h
      · rw [key_lr] at h; exact SeqAt.EqAt.int_str i t y u _ _ _ _ h
    · rcases keyIs_shape hv with ⟨j,u,rfl,rfl⟩ | ⟨y,u,rfl,rfl⟩
      · rw [key_rl] at h; exact SeqAt.EqAt.str_int x t j u _ _ _ _ h
      · rw [key_rr] at h; exact wpAny_eqBool_str h
  «strs»:=fun k x t v h=>by
    rcases keyIs_shape h with ⟨i,u,rfl,e⟩ | ⟨y,u,rfl,e⟩
    · exact nomatch e
    · injection e with e1 _
      subst e1
      cases v <;> rfl
end L2
namespace L2
open PySem PySem.Spec PyProof.Rows
inductive V where
  | non | bl (b:Bool) | int (i:Int) | str (x:Str) | byt (b:Array UInt8) | flt (b:UInt64) | ref (a:Addr) | ty (n:String)
  deriving DecidableEq
def RelV:V→Value→Prop
  | .non,u=>u = Value.none
  | .bl b,u=>u = Value.bool b
  | .int i,u=>∃ t,u = Value.int i t
  | .str x,u=>∃ t,u = Value.str x t
  | .byt b,u=>∃ t,u = Value.bytes b t
  | .flt b,u=>∃ t,u = Value.float b t
  | .ref a,u=>u = Value.ref a
  | .ty n,u=>u = Value.type n
abbrev Vals:List V→List Value→Prop:=Paired RelV
theorem Vals.length {xs:List V} {us:List Value} (r:Vals xs us):xs.length = us.length:=Paired.length r
theorem Vals.get:∀ {xs:List V} {us:List Value} {i:Nat} {x:V},Vals xs us→xs[i]? = some x→∃ u,us[i]? = some u∧RelV x u
  | _,_,_,_,.nil,e=>by simp at e
  | _,_,0,_,.cons r _,e=>by simp at e; subst e; exact ⟨_,rfl,r⟩
  | _,_,i + 1,x,.cons _ t,e=>by
    obtain ⟨u,h1,h2⟩:=Vals.get (i:=i) (x:=x) t (by simpa using e)
    exact ⟨u,by simpa using h1,h2⟩
theorem Vals.set {x:V} {u:Value} (r:RelV x u):∀ {xs:List V} {us:List Value} (i:Nat),Vals xs us→Vals (xs.set i x) (us.set i u)
  | _,_,_,.nil=>.nil
  | _,_,0,.cons _ t=>.cons r t
  | _,_,i + 1,.cons q t=>.cons q (Vals.set r i t)
theorem Vals.append:∀ {xs ys:List V} {us ws:List Value},Vals xs us→Vals ys ws→Vals (xs ++ ys) (us ++ ws)
  | _,_,_,_,.nil,s=>s
  | _,_,_,_,.cons r t,s=>.cons r (Vals.append t s)
theorem Vals.take:∀ {xs:List V} {us:List Value} (n:Nat),Vals xs us→Vals (xs.take n) (us.take n)
  | _,_,0,_=>.nil
  | _,_,_ + 1,.nil=>.nil
  | _,_,n + 1,.cons r t=>.cons r (Vals.take n t)
theorem Vals.drop:∀ {xs:List V} {us:List Value} (n:Nat),Vals xs us→Vals (xs.drop n) (us.drop n)
  | _,_,0,r=>r
  | _,_,_ + 1,.nil=>.nil
  | _,_,n + 1,.cons _ t=>Vals.drop n t
theorem Vals.none_of:∀ {xs:List V} {us:List Value} {i:Nat},Vals xs us→xs[i]? = none→us[i]? = none:=fun {xs us i} r e=>by
  have h1:=r.length
  have h2:xs.length ≤ i:=List.getElem?_eq_none_iff.mp e
  exact List.getElem?_eq_none_iff.mpr (by omega)
def RelO:Option V→Option Value→Prop
  | some v,some u=>RelV v u
  | none,none=>True
  | _,_=>False
def KV {κ:Type}:List (κ × V)→List (κ × Value)→Prop:=Paired fun (p:κ × V) (q:κ × Value)=>p.1 = q.1∧RelV p.2 q.2
def kV:Key→V
  | .inl i=>.int i
  | .inr x=>.str x
inductive HO where
  | lst (xs:List V)
  | tup (xs:List V)
  | dK (kvs:List (Key × V)) | dT (kvs:List (List Key × V))
  | set (S:Int→Bool) (n:Nat)
  | ins (C dx:Addr) (fs:List (Str × V))
  | own (x:Addr)
  | xd (fs:List (Str × V))
  | met (f x:Addr)
  | rng (lo hi:Int)
  | frz (o:Obj) (u:HO)
  | tbl (ps:Array Value)
  | ext (φ:Heap→Prop)
abbrev Hp:=Addr→Option HO
def upd (H:Hp) (a:Addr) (o:HO):Hp:=fun b=>if b = a then some o else H b
theorem upd_same {H:Hp} {a:Addr} {o:HO}:upd H a o a = some o:=by unfold upd; rw [if_pos rfl]
theorem upd_ne {H:Hp} {a b:Addr} {o:HO} (h:b ≠ a):upd H a o b = H b:=by unfold upd; rw [if_neg h]
theorem upd_upd {H:Hp} {a:Addr} {o u:HO}:upd (upd H a o) a u = upd H a u:=by
  funext b; unfold upd; split <;> rfl
theorem ne_of_none {H:Hp} {a b:Addr} {o:HO} (h:H a = some o) (h':H b = none):a ≠ b:=by
  intro e; subst e; rw [h] at h'; cases h'
section
variable (P:Program) (w:World)
def ObjOk (H:Hp) (h:Heap) (a:Addr):HO→Prop
  | .lst xs=>xs.length ≤ sizeLine∧∃ (its:List Value) (n:Nat),Vals xs its∧h.get? a = some { cls:=.type "list",data:=.seq its.toArray n }
  | .tup xs=>xs.length ≤ sizeLine∧∃ its:List Value,Vals xs its∧IsTup h a its.toArray
  | .dK kvs=>kvs.length ≤ sizeLine∧(a == sysModules) = false∧∃ vs,KV kvs vs∧h.DictOf (mixKind P w) a vs
  | .dT kvs=>kvs.length ≤ sizeLine∧(a == sysModules) = false∧∃ xs:List (List Key × Addr × Value),
      Paired (fun (p:List Key × V) (q:List Key × Addr × Value)=>p.1 = q.1∧H q.2.1 = some (.tup (p.1.map kV))∧RelV p.2 q.2.2) kvs xs∧
      ∃ o es ep,h.get? a = some o∧o.ExactDict∧o.data = .dict es ep∧es.toList = xs.map (entryOfKey (tupleKind (mixKind P w)))∧(xs.map (·.1)).Nodup
  | .set S n=>h.SetOf (intKind P w) a S n
  | .ins C dx fs=>H dx = some (.own a)∧fs.length ≤ 1000∧dx ≠ a∧h.get? a = some (PySem.W.instObj C dx)∧
      ∃ mA,h.Ns1 dx mA∧(∀ f,RelO (fs.lookup f) (mA f))∧PySem.Within mA (fs.map (·.1))
  | .own _=>∃ o,h.get? a = some o
  | .xd fs=>∃ mA,h.Ns1 a mA∧∀ f,RelO (fs.lookup f) (mA f)
  | .rng lo hi=>∃ t u v,h.get? a = some { cls:=.type "range",data:=.fields #[.int lo t,.int hi u,.int 1 v] }
  | .frz o u=>h.get? a = some o∧ObjOk H h a u
  | .tbl ps=>h.get? a = some { cls:=.none,data:=.fields ps }
  | .met f x=>h.get? a = some (PySem.W.methodObj (.ref f) (.ref x))
  | .ext φ=>φ h∧(∃ o,h.get? a = some o)∧∀ h1 h2:Heap,φ h1→(∀ o,h1.get? a = some o→h2.get? a = some o)→φ h2
def HOk (H:Hp) (h:Heap):Prop:=∀ a o,H a = some o→ObjOk P w H h a o
end
section
variable {P:Program} {w:World} {H H':Hp} {h h':Heap} {a:Addr} {o:HO}
theorem ObjOk.lt (x:ObjOk P w H h a o):a < h.objs.size:=by
  cases o with
  | lst xs=>obtain ⟨_,_,_,_,e⟩:=x; exact Heap.lt_size e
  | tup xs=>obtain ⟨_,_,_,p⟩:=x; exact p.lt
  | dK kvs=>obtain ⟨_,_,_,_,o,_,_,e,_⟩:=x; exact Heap.lt_size e
  | dT kvs=>obtain ⟨_,_,_,_,o,_,_,e,_⟩:=x; exact Heap.lt_size e
  | set S n=>obtain ⟨o,_,_,_,e,_⟩:=x; exact Heap.lt_size e
  | ins C dx fs=>obtain ⟨_,_,_,e,_⟩:=x; exact Heap.lt_size e
  | own y=>obtain ⟨_,e⟩:=x; exact Heap.lt_size e
  | xd fs=>obtain ⟨_,⟨_,_,_,e,_⟩,_⟩:=x; exact Heap.lt_size e
  | rng lo hi=>obtain ⟨_,_,_,e⟩:=x; exact Heap.lt_size e
  | frz ob u=>obtain ⟨e,_⟩:=x; exact Heap.lt_size e
  | tbl ps=>exact Heap.lt_size (show h.get? a = some _ from x)
  | met f y=>exact Heap.lt_size (show h.get? a = some _ from x)
  | ext φ=>obtain ⟨_,⟨_,e⟩,_⟩:=x; exact Heap.lt_size e
theorem Paired.mapP {α β:Type} {F G:α→β→Prop}:∀ {l₁:List α} {l₂:List β},Paired F l₁ l₂→(∀ a b,F a b→G a b)→Paired G l₁ l₂
  | _,_,.nil,_=>.nil
  | _,_,.cons r t,f=>.cons (f _ _ r) (Paired.mapP t f)
theorem ObjOk.stay (x:ObjOk P w H h a o) (k:∀ b u,(b = a ∨ H b = some (.own a))→h.get? b = some u→h'.get? b = some u)
    (ho:∀ b,H b = some (.own a)→H' b = some (.own a)) (ht:∀ b xs,H b = some (.tup xs)→H' b = some (.tup xs)):ObjOk P w H' h' a o:=by
  induction o with
  | lst xs=>obtain ⟨z,its,n,r,e⟩:=x; exact ⟨z,its,n,r,k _ _ (.inl rfl) e⟩
  | tup xs=>obtain ⟨z,its,r,ob,e,c⟩:=x; exact ⟨z,its,r,ob,k _ _ (.inl rfl) e,c⟩
  | dK kvs=>obtain ⟨z,y,vs,r,ob,es,ep,e,c⟩:=x; exact ⟨z,y,vs,r,ob,es,ep,k _ _ (.inl rfl) e,c⟩
  | dT kvs=>
    obtain ⟨z,y,xs,r,ob,es,ep,e,c⟩:=x
    exact ⟨z,y,xs,Paired.mapP r fun p q z=>⟨z.1,ht _ _ z.2.1,z.2.2⟩,ob,es,ep,k _ _ (.inl rfl) e,c⟩
  | set S n=>obtain ⟨ob,es,ep,t,e,c⟩:=x; exact ⟨ob,es,ep,t,k _ _ (.inl rfl) e,c⟩
  | ins C dx fs=>
    obtain ⟨d,z,ne,e,mA,⟨od,es,ep,e2,c⟩,r⟩:=x
    exact ⟨ho _ d,z,ne,k _ _ (.inl rfl) e,mA,⟨od,es,ep,k _ _ (.inr d) e2,c⟩,r⟩
  | own y=>obtain ⟨ob,e⟩:=x; exact ⟨ob,k _ _ (.inl rfl) e⟩
  | xd fs=>obtain ⟨mA,⟨od,es,ep,e,c⟩,r⟩:=x; exact ⟨mA,⟨od,es,ep,k _ _ (.inl rfl) e,c⟩,r⟩
  | rng lo hi=>obtain ⟨t,u,v,e⟩:=x; exact ⟨t,u,v,k _ _ (.inl rfl) e⟩
  | frz ob u ih=>obtain ⟨e,q⟩:=x; exact ⟨k _ _ (.inl rfl) e,ih q⟩
  | tbl ps=>
    have e:h.get? a = some { cls:=.none,data:=.fields ps }:=x
    show h'.get? a = some { cls:=.none,data:=.fields ps }
    exact k a _ (.inl rfl) e
  | met f y=>
    have e:h.get? a = some (PySem.W.methodObj (.ref f) (.ref y)):=x
    show h'.get? a = some (PySem.W.methodObj (.ref f) (.ref y))
    exact k a _ (.inl rfl) e
  | ext φ=>obtain ⟨p,⟨o,e⟩,st⟩:=x; exact ⟨st _ _ p fun o q=>k _ _ (.inl rfl) q,⟨o,k _ _ (.inl rfl) e⟩,st⟩
theorem HOk.lt (x:HOk P w H h) (e:H a = some o):a < h.objs.size:=(x a o e).lt
theorem HOk.fresh (x:HOk P w H h) (e:h.objs.size ≤ a):H a = none:=by
  cases q:H a with
  | none=>rfl
  | some u=>exact absurd (Nat.lt_of_lt_of_le (x.lt q) e) (Nat.lt_irrefl _)
theorem HOk.kept (x:HOk P w H h) (k:∀ b u,h.get? b = some u→h'.get? b = some u):HOk P w H h':=fun a o e=>
  (x a o e).stay (fun b u _ q=>k b u q) (fun _ q=>q) fun _ _ q=>q
theorem HOk.laid (x:HOk P w H h) (k:∀ b u,h.get? b = some u→h'.get? b = some u) (hp:h.objs.size ≤ a) (new:ObjOk P w (upd H a o) h' a o):HOk P w (upd H a o) h':=fun b u e=>by
  have hn:=x.fresh hp
  by_cases hb:b = a
  · subst hb; rw [upd_same] at e; cases e; exact new
  · rw [upd_ne hb] at e
    exact (x b u e).stay (fun c v _ q=>k c v q) (fun c q=>by rw [upd_ne (ne_of_none q hn)]; exact q) fun c xs q=>by rw [upd_ne (ne_of_none q hn)]; exact q
end
def Rd (H:Hp) (a:Addr) (u:HO):Prop:=H a = some u ∨ ∃ o,H a = some (.frz o u)
theorem Rd.ok {P:Program} {w:World} {H:Hp} {h:Heap} {a:Addr} {u:HO} (r:Rd H a u) (x:HOk P w H h):ObjOk P w H h a u:=by
  rcases r with r | ⟨o,r⟩
  · exact x a u r
  · obtain ⟨_,q⟩:=x a _ r
    exact q
def Mut:Option HO→Prop
  | some (.lst _)=>True
  | some (.dK _)=>True
  | some (.dT _)=>True
  | some (.set _ _)=>True
  | some (.ins _ _ _)=>True
  | some (.ext _)=>True
  | _=>False
section
variable {P:Program} {w:World} {H:Hp} {h h':Heap} {x e:Addr} {o':HO}
theorem HOk.write (ok:HOk P w H h) (mu:Mut (H x)) (he:e = x ∨ H e = some (.own x)) (k:∀ b u,b ≠ e→h.get? b = some u→h'.get? b = some u) (heo:∃ u,h'.get? e = some u)
    (new:ObjOk P w (upd H x o') h' x o'):HOk P w (upd H x o') h':=fun b u q=>by
  have nown:∀ c y,H c = some (.own y)→c ≠ x:=fun c y r z=>by subst z; rw [r] at mu; exact mu
  have ntup:∀ c xs,H c = some (.tup xs)→c ≠ x:=fun c xs r z=>by subst z; rw [r] at mu; exact mu
  by_cases hb:b = x
  · subst hb; rw [upd_same] at q; cases q; exact new
  · rw [upd_ne hb] at q
    by_cases hbe:b = e
    · have q':H b = some (.own x):=by
        rcases he with z | z
        · exact absurd (hbe.trans z) hb
        · rw [hbe]; exact z
      rw [q] at q'; cases q'
      obtain ⟨v,hv⟩:=heo
      exact ⟨v,by rw [hbe]; exact hv⟩
    · refine (ok b u q).stay (fun c v hc r=>k c v ?_ r) (fun c r=>by rw [upd_ne (nown c b r)]; exact r) fun c xs r=>by rw [upd_ne (ntup c xs r)]; exact r
      rcases hc with rfl | hc
      · exact hbe
      · rintro rfl
        rcases he with z | z
        · exact nown c b hc z
        · rw [hc] at z; cases z; exact hb rfl
end
structure Un (fs ex:List Addr) (H H':Hp) (h h':Heap):Prop where
  keep:∀ b o,h.get? b = some o→H b = none→b ∉ fs→b ∉ ex→h'.get? b = some o
  slot:∀ b o,h.get? b = some o→H b = none→b ∈ fs→b ∉ ex→∃ sl,h'.get? b = some { o with slots:=sl }
  free:∀ b o,h.get? b = some o→H b = none→b ∉ ex→H' b = none
  there:∀ b o,h.get? b = some o→b ∉ ex→∃ o',h'.get? b = some o'
  tups:∀ b xs,H b = some (.tup xs)→H' b = some (.tup xs)
  frzs:∀ b o u,H b = some (.frz o u)→H' b = some (.frz o u)
  tbls:∀ b ps,H b = some (.tbl ps)→∃ more,H' b = some (.tbl (ps ++ more))
section
variable {fs fs' ex ex':List Addr} {H H1 H2:Hp} {h h1 h2 h':Heap} {a x e:Addr} {o:HO}
theorem Un.any (u:Un fs ex H H1 h h1) {b:Addr} {ob:Obj} (q:h.get? b = some ob) (n:H b = none) (hx:b ∉ ex):∃ sl,h1.get? b = some { ob with slots:=sl }:=by
  by_cases hb:b ∈ fs
  · exact u.slot b ob q n hb hx
  · exact ⟨ob.slots,u.keep b ob q n hb hx⟩
theorem Un.kept (k:∀ b u,h.get? b = some u→h'.get? b = some u):Un fs ex H H h h':=
  ⟨fun b ob q _ _ _=>k b ob q,fun b ob q _ _ _=>⟨ob.slots,k b ob q⟩,fun _ _ _ n _=>n,fun b ob q _=>⟨ob,k b ob q⟩,fun _ _ q=>q,fun _ _ _ q=>q,fun _ ps q=>⟨#[],by rw [q]; simp⟩⟩
theorem Un.refl:Un fs ex H H h h:=Un.kept fun _ _ q=>q
theorem Un.laid (k:∀ b u,h.get? b = some u→h'.get? b = some u) (hp:h.objs.size ≤ a) (hn:H a = none):Un fs ex H (upd H a o) h h' where
  keep:=fun b u q _ _ _=>k b u q
  slot:=fun b u q _ _ _=>⟨u.slots,k b u q⟩
  free:=fun b u q n _=>by rw [upd_ne (Nat.ne_of_lt (Nat.lt_of_lt_of_le (Heap.lt_size q) hp))]; exact n
  there:=fun b u q _=>⟨u,k b u q⟩
  tups:=fun b xs q=>by rw [upd_ne (ne_of_none q hn)]; exact q
  frzs:=fun b u xs q=>by rw [upd_ne (ne_of_none q hn)]; exact q
  tbls:=fun b ps q=>⟨#[],by rw [upd_ne (ne_of_none q hn),q]; simp⟩
theorem Un.write (mu:Mut (H x)) (he:e = x ∨ H e = some (.own x)) (k:∀ b u,b ≠ e→h.get? b = some u→h'.get? b = some u) (heo:∃ u,h'.get? e = some u):Un fs ex H (upd H x o) h h':=by
  have hx:∀ b,H b = none→b ≠ x:=fun b n z=>by subst z; rw [n] at mu; exact mu
  have hb:∀ b,H b = none→b ≠ e:=fun b n z=>by
    subst z
    rcases he with r | r
    · exact hx b n r
    · rw [n] at r; cases r
  have hm:∀ b u,H b = some u→¬ Mut (some u)→b ≠ x:=fun b u q nm z=>by subst z; rw [q] at mu; exact nm mu
  refine ⟨fun b u q n _ _=>k b u (hb b n) q,fun b u q n _ _=>⟨u.slots,k b u (hb b n) q⟩,fun b u q n _=>by rw [upd_ne (hx b n)]; exact n,fun b u q _=>?_,
    fun b xs q=>by rw [upd_ne (hm b _ q fun z=>z)]; exact q,fun b u xs q=>by rw [upd_ne (hm b _ q fun z=>z)]; exact q,fun b ps q=>⟨#[],by rw [upd_ne (hm b _ q fun z=>z),q]; simp⟩⟩
  by_cases hbe:b = e
  · subst hbe; exact heo
  · exact ⟨u,k b u hbe q⟩
end
def trk (h:Heap) (H:Hp):List Addr:=(List.range h.objs.size).filter fun a=>(H a).isSome
def hidT (h:Heap) (H:Hp):Heap:=PySem.W.hideAll h (trk h H)
theorem hidT_size (h:Heap) (H:Hp):(hidT h H).objs.size = h.objs.size:=PySem.W.hideAll_size _ _
theorem hidT_get {h:Heap} {H:Hp} {b:Addr} {o:Obj} (e:h.get? b = some o) (n:H b = none):(hidT h H).get? b = some o:=
  PySem.W.hideAll_get _ e fun hm=>by
    have q:(H b).isSome = true:=(List.mem_filter.mp hm).2
    rw [n] at q; simp at q
theorem of_hidT {h:Heap} {H:Hp} {b:Addr} {o:Obj} (e:(hidT h H).get? b = some o):h.get? b = some o∧H b = none:=by
  have e':h.get? b = some o:=PySem.W.of_hideAll (trk h H) e
  refine ⟨e',?_⟩
  cases q:H b with
  | none=>rfl
  | some x=>
    have hm:b ∈ trk h H:=List.mem_filter.mpr ⟨List.mem_range.mpr (Heap.lt_size e'),by simp [q]⟩
    have z:(hidT h H).get? b = none:=PySem.W.hideAll_none (trk h H) hm
    rw [z] at e; cases e
end L2
namespace L2
open PySem PySem.Spec PyProof.Rows
structure Mod (K:PySem.W.Frag) (mg:Str→Option Value) (base:Heap):Prop where
  kin:K.In base
  glob:base.Ns mainGlobals mg
  blt:∃ mb,base.Ns builtinsNs mb∧∀ x:Str,x ≠ "__name__"→mb x = bootBuiltins x
  nolimit:base.NoLimit
structure Cx where
  prog:Program
  w:World
  K:PySem.W.Frag
  mg:Str→Option Value
  base:Heap
  A:Around
  N:List Str
  s₀:Shared
  H₀:Hp
  env:Env
  outer:List Env
  stack:List Env
  ex:List Addr
  fn:Str→Bool
  calm:Bool
  pn:List (Addr × Obj)
  xe:Value→Shared→Prop
def frs (l:List Env):List Addr:=l.filterMap (·.frame)
abbrev Cx.fs (X:Cx):List Addr:=frs X.outer
def Vis (sc:Scope) (x:Str):Prop:=sc.names.lookup x = some .local ∨ sc.names.lookup x = some .cell ∨ sc.names.lookup x = some .free
def Loc (sc:Scope) (x:Str):Prop:=sc.names.lookup x = some .local ∨ sc.names.lookup x = some .cell
def Look (env:Env) (h:Heap) (m:Str→Option Value) (x:Str) (u:Value):Prop:=
  (env.kindOf x = some .local∧m x = some u) ∨ ((env.kindOf x = some .cell ∨ env.kindOf x = some .free)∧∃ c,env.cells.lookup x = some c∧h.IsCell c (some u))
structure Cx.Ok (X:Cx):Prop where
  mod:Mod X.K X.mg X.base
  kind:X.env.scope.kind = .function
  glob:X.env.globals = mainGlobals
  blt:X.env.builtins = builtinsNs
  above:X.s₀.heap.objs.size ≤ X.env.locals
  inj:∀ x y c,X.env.cells.lookup x = some c→X.env.cells.lookup y = some c→x = y
  has:∀ x,(X.env.kindOf x = some .cell ∨ X.env.kindOf x = some .free)→∃ c,X.env.cells.lookup x = some c
  cab:∀ x c,X.fn x = true→X.env.cells.lookup x = some c→X.s₀.heap.objs.size ≤ c
  hd:X.calm = true→X.A.handled = none
  frames:X.A.frames = some X.stack
  stk:X.stack = X.outer ∨ (X.stack = X.env :: X.outer∧X.env.frame = some X.env.locals)
  exf:∀ b ∈ X.ex,b ≠ X.env.locals∧∀ x c,X.env.cells.lookup x = some c→c ≠ b
  bs:∀ b o,X.base.get? b = some o→X.s₀.heap.get? b = some o∧X.H₀ b = none
  bsz:X.base.objs.size ≤ X.s₀.heap.objs.size
  noex:∀ b o,X.base.get? b = some o→b ∉ X.ex
  exfs:∀ b ∈ X.ex,b ∉ X.fs
  funs:X.s₀.heap.FunFrames X.base X.outer
  frf:∀ b ∈ X.fs,X.H₀ b = none
structure Inv (X:Cx) (pins:List (Addr × Obj)) (σ:List (Option V)) (H:Hp) (s:Shared):Prop where
  ok:X.Ok
  os:s.os = X.s₀.os
  bare:AllBare s.gens
  base:Un X.fs X.ex X.H₀ H X.s₀.heap s.heap
  loc:∃ m,s.heap.Ns X.env.locals m∧∀ (i:Nat) (x:Str) (v:V),X.N[i]? = some x→σ[i]? = some (some v)→Vis X.env.scope x→∃ u,RelV v u∧Look X.env s.heap m x u
  cell:∀ x c,X.env.cells.lookup x = some c→∃ v,s.heap.IsCell c v
  free:H X.env.locals = none
  freeC:∀ x c,X.env.cells.lookup x = some c→H c = none
  pin:∀ p ∈ X.pn ++ pins,s.heap.get? p.1 = some p.2∧H p.1 = none∧p.1 ≠ X.env.locals∧p.1 ∉ X.fs∧∀ v,p.2.data ≠ .cell v
  hok:HOk X.prog X.w H s.heap
  len:σ.length = X.N.length
section
variable {X:Cx} {pins:List (Addr × Obj)} {σ:List (Option V)} {H H':Hp} {s:Shared} {h':Heap}
theorem Cx.Ok.nofr (ok:X.Ok) {b:Addr} {o:Obj} (e:X.base.get? b = some o):b ∉ X.fs:=fun hb=>by
  have:=(ok.funs.mem hb).1
  rw [e] at this; cases this
theorem Inv.bs (I:Inv X pins σ H s):∀ b o,X.base.get? b = some o→s.heap.get? b = some o∧H b = none:=fun b o e=>
  ⟨I.base.keep b o (I.ok.bs b o e).1 (I.ok.bs b o e).2 (I.ok.nofr e) (I.ok.noex b o e),I.base.free b o (I.ok.bs b o e).1 (I.ok.bs b o e).2 (I.ok.noex b o e)⟩
theorem Inv.bk (I:Inv X pins σ H s):∀ b o,X.base.get? b = some o→s.heap.get? b = some o:=fun b o e=>(I.bs b o e).1
theorem Inv.mod (I:Inv X pins σ H s):Mod X.K X.mg X.base:=I.ok.mod
theorem Inv.kIn (I:Inv X pins σ H s):X.K.In s.heap:=I.ok.mod.kin.keeps I.bk
theorem Inv.lt (I:Inv X pins σ H s):X.env.locals < s.heap.objs.size:=let ⟨_,hn,_⟩:=I.loc; hn.lt
theorem Inv.sz (I:Inv X pins σ H s):X.s₀.heap.objs.size ≤ s.heap.objs.size:=Nat.le_trans I.ok.above (Nat.le_of_lt I.lt)
theorem Inv.nofs (I:Inv X pins σ H s) {a:Addr} (h:s.heap.objs.size ≤ a):a ∉ X.fs:=fun hb=>by
  obtain ⟨_,o,ho,_⟩:=I.ok.funs.mem hb
  exact absurd (Nat.lt_of_lt_of_le (Heap.lt_size ho) (Nat.le_trans I.sz h)) (Nat.lt_irrefl _)
theorem Inv.cne (I:Inv X pins σ H s):∀ x c,X.env.cells.lookup x = some c→c ≠ X.env.locals:=fun x c e z=>by
  obtain ⟨v,o,ho,hd⟩:=I.cell x c e
  obtain ⟨m,⟨o',es,ep,ho',hd',_⟩,_⟩:=I.loc
  rw [z,ho'] at ho; cases ho; rw [hd'] at hd; cases hd
theorem Inv.funs (I:Inv X pins σ H s):s.heap.FunFrames X.base X.outer:=by
  have all:∀ (l:List Env),(∀ b ∈ frs l,b ∈ X.fs)→X.s₀.heap.FunFrames X.base l→s.heap.FunFrames X.base l:=by
    intro l
    induction l with
    | nil=>intro _ _; trivial
    | cons env r ih=>
      intro hs hl
      obtain ⟨hk,⟨L,o,hf,hn,ho,hd⟩,hr⟩:=hl
      have hL:L ∈ X.fs:=hs L (by unfold frs; rw [List.filterMap_cons,hf]; exact List.mem_cons_self)
      obtain ⟨sl,e⟩:=I.base.slot L o ho (I.ok.frf L hL) hL fun z=>I.ok.exfs L z hL
      exact ⟨hk,⟨L,_,hf,hn,e,hd⟩,ih (fun b hb=>hs b (by unfold frs; rw [List.filterMap_cons,hf]; exact List.mem_cons_of_mem _ hb)) hr⟩
  exact all X.outer (fun _ hb=>hb) I.ok.funs
theorem Inv.stack (I:Inv X pins σ H s):s.heap.FunFrames X.base X.stack:=by
  rcases I.ok.stk with e | ⟨e,hf⟩
  · rw [e]; exact I.funs
  · rw [e]
    obtain ⟨m,hn,_⟩:=I.loc
    refine .cons (by rw [I.ok.kind]; decide) hf hn ?_ I.funs
    exact Heap.get?_none_of_le (Nat.le_trans I.ok.bsz I.ok.above)
theorem Inv.stkSub (I:Inv X pins σ H s):∀ b ∈ frs X.stack,b ∈ X.env.locals :: X.fs:=fun b hb=>by
  rcases I.ok.stk with e | ⟨e,hf⟩
  · rw [e] at hb; exact List.mem_cons_of_mem _ hb
  · rw [e] at hb
    unfold frs at hb
    rw [List.filterMap_cons,hf] at hb
    exact hb
theorem Inv.stkFree (I:Inv X pins σ H s):∀ b ∈ frs X.stack,H b = none:=fun b hb=>by
  rcases List.mem_cons.mp (I.stkSub b hb) with e | hb
  · rw [e]; exact I.free
  · obtain ⟨_,o,ho,_⟩:=I.ok.funs.mem hb
    exact I.base.free b o ho (I.ok.frf b hb) fun z=>I.ok.exfs b z hb
theorem Inv.step {g':Array GenState} {t':Nat} {d':Drawn} {ch:List Addr} (I:Inv X pins σ H s)
    (hch:∀ b ∈ ch,(b ∈ X.ex ∨ X.s₀.heap.objs.size ≤ b)∧b ≠ X.env.locals∧(∀ x c,X.env.cells.lookup x = some c→c ≠ b)∧∀ p ∈ X.pn ++ pins,p.1 ≠ b)
    (keep:∀ b o,b ≠ X.env.locals→b ∉ X.fs→b ∉ ch→s.heap.get? b = some o→H b = none→h'.get? b = some o)
    (slot:∀ b o,b ≠ X.env.locals→b ∈ X.fs→b ∉ ch→s.heap.get? b = some o→H b = none→∃ sl,h'.get? b = some { o with slots:=sl }) (free:∀ b o,b ∉ ch→s.heap.get? b = some o→H b = none→H' b = none)
    (there:∀ b o,b ∉ ch→s.heap.get? b = some o→∃ o',h'.get? b = some o')
    (tups:∀ b xs,H b = some (.tup xs)→H' b = some (.tup xs)) (frzs:∀ b o u,H b = some (.frz o u)→H' b = some (.frz o u)) (tbls:∀ b ps,H b = some (.tbl ps)→∃ more,H' b = some (.tbl (ps ++ more)))
    (ns:∀ m,s.heap.Ns X.env.locals m→h'.Ns X.env.locals m) (hok:HOk X.prog X.w H' h') (hg:AllBare g') :
    Inv X pins σ H' { s with heap:=h',gens:=g',drawn:=d',toks:=t' }:=by
  have neL:∀ b o,X.s₀.heap.get? b = some o→b ≠ X.env.locals:=fun b o e=>Nat.ne_of_lt (Nat.lt_of_lt_of_le (Heap.lt_size e) I.ok.above)
  have neC:∀ b o,X.s₀.heap.get? b = some o→b ∉ X.ex→b ∉ ch:=fun b o e hx hb=>by
    rcases (hch b hb).1 with z | z
    · exact hx z
    · exact absurd (Nat.lt_of_lt_of_le (Heap.lt_size e) z) (Nat.lt_irrefl _)
  have cellK:∀ x c,X.env.cells.lookup x = some c→∀ v,s.heap.IsCell c v→h'.IsCell c v:=fun x c e v ⟨o,ho,hd⟩=>by
    have nch:c ∉ ch:=fun z=>(hch c z).2.2.1 x c e rfl
    by_cases hc:c ∈ X.fs
    · obtain ⟨sl,q⟩:=slot c o (I.cne x c e) hc nch ho (I.freeC x c e)
      exact ⟨_,q,hd⟩
    · exact ⟨o,keep c o (I.cne x c e) hc nch ho (I.freeC x c e),hd⟩
  refine ⟨I.ok,I.os,hg,⟨fun b o e n hb hx=>?_,fun b o e n hb hx=>?_,fun b o e n hx=>?_,fun b o e hx=>?_,fun b xs e=>tups b xs (I.base.tups b xs e),fun b o xs e=>frzs b o xs (I.base.frzs b o xs e),fun b ps e=>?_⟩,?_,fun x c e=>?_,?_,fun x c e=>?_,fun p hp=>?_,hok,I.len⟩
  · exact keep b o (neL b o e) hb (neC b o e hx) (I.base.keep b o e n hb hx) (I.base.free b o e n hx)
  · obtain ⟨sl,e1⟩:=I.base.slot b o e n hb hx
    obtain ⟨sl',e2⟩:=slot b _ (neL b o e) hb (neC b o e hx) e1 (I.base.free b o e n hx)
    exact ⟨sl',e2⟩
  · obtain ⟨o',e1⟩:=I.base.there b o e hx
    exact free b o' (neC b o e hx) e1 (I.base.free b o e n hx)
  · obtain ⟨o',e1⟩:=I.base.there b o e hx
    exact there b o' (neC b o e hx) e1
  · obtain ⟨m1,e1⟩:=I.base.tbls b ps e
    obtain ⟨m2,e2⟩:=tbls b _ e1
    exact ⟨m1 ++ m2,by rw [e2,Array.append_assoc]⟩
  · obtain ⟨m,hn,hl⟩:=I.loc
    refine ⟨m,ns m hn,fun i x v e1 e2 e3=>?_⟩
    obtain ⟨u,r,l⟩:=hl i x v e1 e2 e3
    refine ⟨u,r,?_⟩
    rcases l with l | ⟨k,c,e,z⟩
    · exact .inl l
    · exact .inr ⟨k,c,e,cellK x c e _ z⟩
  · obtain ⟨v,z⟩:=I.cell x c e
    exact ⟨v,cellK x c e v z⟩
  · obtain ⟨m,⟨o,_,_,ho,_⟩,_⟩:=I.loc
    exact free _ o (fun z=>(hch _ z).2.1 rfl) ho I.free
  · obtain ⟨v,o,ho,hd⟩:=I.cell x c e
    exact free c o (fun z=>(hch c z).2.2.1 x c e rfl) ho (I.freeC x c e)
  · obtain ⟨e,n,ne,nf,d⟩:=I.pin p hp
    have nch:p.1 ∉ ch:=fun z=>(hch p.1 z).2.2.2 p hp rfl
    exact ⟨keep p.1 p.2 ne nf nch e n,free p.1 p.2 nch e n,ne,nf,d⟩
theorem Inv.un {t':Nat} (I:Inv X pins σ H s) (u:Un X.fs [] H H' s.heap h') (hok:HOk X.prog X.w H' h'):Inv X pins σ H' { s with heap:=h',toks:=t' }:=by
  obtain ⟨m,⟨o,es,ep,ho,r⟩,_⟩:=id I.loc
  obtain ⟨sl,hL⟩:=u.any ho I.free (by simp)
  exact I.step (g':=s.gens) (d':=s.drawn) (ch:=[]) (fun _ z=>nomatch z) (fun b o _ hb _ e n=>u.keep b o e n hb (by simp)) (fun b o _ hb _ e n=>u.slot b o e n hb (by simp)) (fun b o _ e n=>u.free b o e n (by simp)) (fun b o _ e=>u.there b o e (by simp)) u.tups u.frzs u.tbls (fun m' hm=>by
    obtain ⟨o',es',ep',ho',r'⟩:=hm
    rw [ho] at ho'; cases ho'
    exact ⟨_,es',ep',hL,r'⟩) hok I.bare
theorem Inv.call {g':Array GenState} {t':Nat} {d':Drawn} {ch:List Addr} (I:Inv X pins σ H s) (u:Un (frs X.stack) ch H H' s.heap h') (hok:HOk X.prog X.w H' h') (hg:AllBare g')
    (hch:∀ b ∈ ch,(b ∈ X.ex ∨ X.s₀.heap.objs.size ≤ b)∧b ≠ X.env.locals∧(∀ x c,X.env.cells.lookup x = some c→c ≠ b)∧∀ p ∈ X.pn ++ pins,p.1 ≠ b) :
    Inv X pins σ H' { s with heap:=h',gens:=g',drawn:=d',toks:=t' }:=by
  obtain ⟨m,⟨o,es,ep,ho,r⟩,_⟩:=id I.loc
  obtain ⟨sl,hL⟩:=u.any ho I.free fun z=>(hch _ z).2.1 rfl
  exact I.step (ch:=ch) hch (fun b o hL hb hc e n=>u.keep b o e n (fun z=>(List.mem_cons.mp (I.stkSub b z)).elim hL hb) hc) (fun b o _ _ hc e n=>u.any e n hc) (fun b o hc e n=>u.free b o e n hc) (fun b o hc e=>u.there b o e hc) u.tups u.frzs u.tbls (fun m' hm=>by
    obtain ⟨o',es',ep',ho',r'⟩:=hm
    rw [ho] at ho'; cases ho'
    exact ⟨_,es',ep',hL,r'⟩) hok hg
theorem Inv.turned {t':Nat} {it:Addr} (I:Inv X pins σ H s) (k:∀ b o,b ≠ it→s.heap.get? b = some o→h'.get? b = some o) (hn:H it = none) (hL:it ≠ X.env.locals)
    (h1:it ∈ X.ex ∨ X.s₀.heap.objs.size ≤ it) (h2:∀ x c,X.env.cells.lookup x = some c→c ≠ it) (h3:∀ p ∈ X.pn ++ pins,p.1 ≠ it):Inv X pins σ H { s with heap:=h',toks:=t' }:=by
  have nit:∀ b u,H b = some u→b ≠ it:=fun b u e z=>by rw [z,hn] at e; cases e
  refine I.step (g':=s.gens) (d':=s.drawn) (ch:=[it]) (fun b hb=>?_) (fun b o _ _ hc e _=>k b o (fun z=>hc (by simp [z])) e) (fun b o _ _ hc e _=>⟨o.slots,k b o (fun z=>hc (by simp [z])) e⟩) (fun _ _ _ _ n=>n)
    (fun b o hc e=>⟨o,k b o (fun z=>hc (by simp [z])) e⟩) (fun _ _ e=>e) (fun _ _ _ e=>e) (fun b ps e=>⟨#[],by rw [e]; simp⟩) (fun m hm=>?_) (fun b u e=>?_) I.bare
  · have e:b = it:=by simpa using hb
    subst e
    exact ⟨h1,hL,h2,h3⟩
  · obtain ⟨o,es,ep,ho,r⟩:=hm
    exact ⟨o,es,ep,k _ o (Ne.symm hL) ho,r⟩
  · refine (I.hok b u e).stay (fun c v hc q=>k c v ?_ q) (fun _ q=>q) fun _ _ q=>q
    rcases hc with z | z
    · rw [z]; exact nit b u e
    · exact nit c _ z
theorem Inv.tok (I:Inv X pins σ H s) (t:Nat):Inv X pins σ H { s with toks:=t }:=I.un (h':=s.heap) (t':=t) Un.refl I.hok
theorem Inv.kept {t':Nat} (I:Inv X pins σ H s) (k:∀ b u,s.heap.get? b = some u→h'.get? b = some u):Inv X pins σ H { s with heap:=h',toks:=t' }:=I.un (Un.kept k) (I.hok.kept k)
theorem Inv.laid {a:Addr} {o:HO} {t':Nat} (I:Inv X pins σ H s) (k:∀ b u,s.heap.get? b = some u→h'.get? b = some u) (hp:s.heap.objs.size ≤ a) (new:ObjOk X.prog X.w (upd H a o) h' a o) :
    Inv X pins σ (upd H a o) { s with heap:=h',toks:=t' }:=I.un (Un.laid k hp (I.hok.fresh hp)) (I.hok.laid k hp new)
theorem Inv.write {x e:Addr} {o:HO} {t':Nat} (I:Inv X pins σ H s) (mu:Mut (H x)) (he:e = x ∨ H e = some (.own x)) (k:∀ b u,b ≠ e→s.heap.get? b = some u→h'.get? b = some u) (heo:∃ u,h'.get? e = some u)
    (new:ObjOk X.prog X.w (upd H x o) h' x o):Inv X pins σ (upd H x o) { s with heap:=h',toks:=t' }:=I.un (Un.write mu he k heo) (I.hok.write mu he k heo new)
theorem Inv.pins_of {pins':List (Addr × Obj)} (I:Inv X pins σ H s) (h:∀ p ∈ pins',s.heap.get? p.1 = some p.2∧H p.1 = none∧p.1 ≠ X.env.locals∧p.1 ∉ X.fs∧∀ v,p.2.data ≠ .cell v):Inv X pins' σ H s:=
  ⟨I.ok,I.os,I.bare,I.base,I.loc,I.cell,I.free,I.freeC,fun p hp=>(List.mem_append.mp hp).elim (fun z=>I.pin p (List.mem_append_left _ z)) (h p),I.hok,I.len⟩
theorem nodup_ix {N:List Str} (hN:N.Nodup) {i j:Nat} {x:Str} (a:N[i]? = some x) (b:N[j]? = some x):i = j:=by
  obtain ⟨h1,e1⟩:=List.getElem?_eq_some_iff.mp a
  obtain ⟨h2,e2⟩:=List.getElem?_eq_some_iff.mp b
  exact (List.getElem_inj hN).mp (e1.trans e2.symm)
theorem store_ok2 {M:Model} {A:Around} {E:Value→Shared→Prop} {i:Nat} {x:Str} {v:V} {u:Value} {Q:Unit→Shared→Prop} (I:Inv X pins σ H s) (hN:X.N.Nodup) (hi:X.N[i]? = some x) (hx:Loc X.env.scope x) (r:RelV v u)
    (h:∀ s',Inv X pins (σ.set i (some v)) H s'→(∃ a,Heap.SameBut a s.heap s'.heap∧(a = X.env.locals ∨ X.env.cells.lookup x = some a))→Q () s') (hf:X.fn x = true ∨ X.env.scope.names.lookup x = some .local:=by first | exact .inl rfl | exact .inr rfl | assumption):wpAny M A (storeName X.env x u) Q E s:=by
  obtain ⟨m,hn,hl⟩:=id I.loc
  have hcls:(X.env.scope.kind == .class || (X.env.scope.kind == .module && X.env.locals != X.env.globals)) = false:=by rw [I.ok.kind]; rfl
  have hiσ:i < σ.length:=by rw [I.len]; exact (List.getElem?_eq_some_iff.mp hi).1
  have cne:=I.cne
  have tracked:∀ {a:Addr} {h':Heap},(∃ o,s.heap.get? a = some o∧H a = none)→Heap.SameBut a s.heap h'→HOk X.prog X.w H h':=fun {a h'} ha hs b ob e=>by
    obtain ⟨_,_,hfree⟩:=ha
    refine (I.hok b ob e).stay (fun c w' hc q=>(hs.2 c ?_).trans q) (fun _ q=>q) fun _ _ q=>q
    rintro rfl
    rcases hc with rfl | hc
    · rw [hfree] at e; cases e
    · rw [hfree] at hc; cases hc
  rcases hx with hk | hk
  · refine wpAny_storeName_local hk hn (fun h' hn' hs=>?_) hcls
    obtain ⟨oL,_,_,hoL,_⟩:=id hn
    refine h _ ⟨I.ok,I.os,I.bare,⟨fun b o e n hb hx=>?_,fun b o e n hb hx=>?_,I.base.free,fun b o e hx=>?_,I.base.tups,I.base.frzs,I.base.tbls⟩,⟨_,hn',fun j y v' e1 e2 e3=>?_⟩,fun y c e=>?_,I.free,I.freeC,fun p hp=>?_,tracked ⟨oL,hoL,I.free⟩ hs,by simpa using I.len⟩ ⟨_,hs,.inl rfl⟩
    · exact (hs.2 b (Nat.ne_of_lt (Nat.lt_of_lt_of_le (Heap.lt_size e) I.ok.above))).trans (I.base.keep b o e n hb hx)
    · obtain ⟨sl,e1⟩:=I.base.slot b o e n hb hx
      exact ⟨sl,(hs.2 b (Nat.ne_of_lt (Nat.lt_of_lt_of_le (Heap.lt_size e) I.ok.above))).trans e1⟩
    · obtain ⟨o',e1⟩:=I.base.there b o e hx
      exact ⟨o',(hs.2 b (Nat.ne_of_lt (Nat.lt_of_lt_of_le (Heap.lt_size e) I.ok.above))).trans e1⟩
    · by_cases hj:j = i
      · subst hj
        rw [hi] at e1; cases e1
        rw [List.getElem?_set_self hiσ] at e2
        cases e2
        exact ⟨u,r,.inl ⟨hk,by simp⟩⟩
      · rw [List.getElem?_set_ne (Ne.symm hj)] at e2
        obtain ⟨u',r',q⟩:=hl j y v' e1 e2 e3
        refine ⟨u',r',?_⟩
        rcases q with ⟨k,e⟩ | ⟨k,c,e,z⟩
        · refine .inl ⟨k,?_⟩
          have:y ≠ x:=fun e=>hj (nodup_ix hN e1 (e ▸ hi))
          simp [this,e]
        · exact .inr ⟨k,c,e,z.sameBut hs (cne y c e)⟩
    · obtain ⟨w',z⟩:=I.cell y c e
      exact ⟨w',z.sameBut hs (cne y c e)⟩
    · obtain ⟨e,n,ne,nf,d⟩:=I.pin p hp
      exact ⟨(hs.2 p.1 ne).trans e,n,ne,nf,d⟩
  · have hfn:X.fn x = true:=by
      rcases hf with z | z
      · exact z
      · rw [z] at hk; cases hk
    obtain ⟨c,hc⟩:=I.ok.has x (.inl hk)
    obtain ⟨w',z⟩:=I.cell x c hc
    refine wpAny_storeName_cell I.ok.kind hk hc z (fun h' hc' hs=>?_)
    obtain ⟨oc,hoc,hocd⟩:=id z
    refine h { s with heap:=h' } ⟨I.ok,I.os,I.bare,⟨fun b o e n hb hx=>?_,fun b o e n hb hx=>?_,I.base.free,fun b o e hx=>?_,I.base.tups,I.base.frzs,I.base.tbls⟩,⟨m,hn.sameBut hs (Ne.symm (cne x c hc)),fun j y v' e1 e2 e3=>?_⟩,fun y c' e=>?_,I.free,I.freeC,fun p hp=>?_,tracked ⟨oc,hoc,I.freeC x c hc⟩ hs,by simpa using I.len⟩ ⟨c,hs,.inr hc⟩
    · exact (hs.2 b (Nat.ne_of_lt (Nat.lt_of_lt_of_le (Heap.lt_size e) (I.ok.cab x c hfn hc)))).trans (I.base.keep b o e n hb hx)
    · obtain ⟨sl,e1⟩:=I.base.slot b o e n hb hx
      exact ⟨sl,(hs.2 b (Nat.ne_of_lt (Nat.lt_of_lt_of_le (Heap.lt_size e) (I.ok.cab x c hfn hc)))).trans e1⟩
    · obtain ⟨o',e1⟩:=I.base.there b o e hx
      exact ⟨o',(hs.2 b (Nat.ne_of_lt (Nat.lt_of_lt_of_le (Heap.lt_size e) (I.ok.cab x c hfn hc)))).trans e1⟩
    · by_cases hj:j = i
      · subst hj
        rw [hi] at e1; cases e1
        rw [List.getElem?_set_self hiσ] at e2
        cases e2
        exact ⟨u,r,.inr ⟨.inl hk,c,hc,hc'⟩⟩
      · rw [List.getElem?_set_ne (Ne.symm hj)] at e2
        obtain ⟨u',r',q⟩:=hl j y v' e1 e2 e3
        refine ⟨u',r',?_⟩
        rcases q with q | ⟨k,c',e,z'⟩
        · exact .inl q
        · refine .inr ⟨k,c',e,z'.sameBut hs ?_⟩
          rintro rfl
          exact hj (nodup_ix hN e1 (I.ok.inj _ _ _ e hc ▸ hi))
    · by_cases hcc:c' = c
      · subst hcc; exact ⟨_,hc'⟩
      · obtain ⟨w2,z2⟩:=I.cell y c' e
        exact ⟨w2,z2.sameBut hs hcc⟩
    · obtain ⟨e,n,ne,nf,d⟩:=I.pin p hp
      refine ⟨(hs.2 p.1 ?_).trans e,n,ne,nf,d⟩
      intro q
      rw [q,hoc] at e
      have q':oc = p.2:=Option.some.inj e
      exact d w' (by rw [← q']; exact hocd)
theorem store_ok {M:Model} {A:Around} {E:Value→Shared→Prop} {i:Nat} {x:Str} {v:V} {u:Value} {Q:Unit→Shared→Prop} (I:Inv X pins σ H s) (hN:X.N.Nodup) (hi:X.N[i]? = some x) (hx:Loc X.env.scope x) (r:RelV v u)
    (h:∀ s',Inv X pins (σ.set i (some v)) H s'→Q () s') (hf:X.fn x = true ∨ X.env.scope.names.lookup x = some .local:=by first | exact .inl rfl | exact .inr rfl | assumption):wpAny M A (storeName X.env x u) Q E s:=
  store_ok2 I hN hi hx r (fun s' I' _=>h s' I') hf
theorem Inv.call' {s':Shared} {ch:List Addr} (I:Inv X pins σ H s) (ho:s'.os = s.os) (u:Un (frs X.stack) ch H H' s.heap s'.heap) (hok:HOk X.prog X.w H' s'.heap) (hg:AllBare s'.gens)
    (hch:∀ b ∈ ch,(b ∈ X.ex ∨ X.s₀.heap.objs.size ≤ b)∧b ≠ X.env.locals∧(∀ x c,X.env.cells.lookup x = some c→c ≠ b)∧∀ p ∈ X.pn ++ pins,p.1 ≠ b):Inv X pins σ H' s':=by
  obtain ⟨h',g',d',t',o'⟩:=s'
  have e:o' = s.os:=ho
  subst e
  exact I.call (g':=g') (t':=t') (d':=d') u hok hg hch
end
abbrev XK:=Value→Option Addr→Hp→Prop
abbrev St:=List (Option V)
abbrev VK:=V→Hp→Prop
abbrev TE:=St→Hp→VK→Prop
abbrev TT:=St→Hp→(Bool→Hp→Prop)→Prop
abbrev TA:=St→Hp→(List V→Hp→Prop)→Prop
structure Ends where
  nx:St→Hp→Prop
  rt:VK
  bk:St→Hp→Prop:=fun _ _=>False
  ct:St→Hp→Prop:=fun _ _=>False
abbrev TS:=Ends→St→Hp→Prop
def EP (X:Cx) (pins:List (Addr × Obj)) (σ:St) (Q:VK) (u:Value) (s':Shared):Prop:=∃ v H',Inv X pins σ H' s'∧RelV v u∧Q v H'
def TP (X:Cx) (pins:List (Addr × Obj)) (σ:St) (Q:Bool→Hp→Prop) (b:Bool) (s':Shared):Prop:=∃ H',Inv X pins σ H' s'∧Q b H'
def AP (X:Cx) (pins:List (Addr × Obj)) (σ:St) (Q:List V→Hp→Prop) (us:List Value) (s':Shared):Prop:=∃ vs H',Inv X pins σ H' s'∧Vals vs us∧Q vs H'
def SP (X:Cx) (pins:List (Addr × Obj)) (D:Ends) (f:Flow) (s':Shared):Prop:=
  match f with
  | .next=>∃ σ' H',Inv X pins σ' H' s'∧D.nx σ' H'
  | .brk=>∃ σ' H',Inv X pins σ' H' s'∧D.bk σ' H'
  | .cont=>∃ σ' H',Inv X pins σ' H' s'∧D.ct σ' H'
  | .ret u=>∃ v σ' H',Inv X pins σ' H' s'∧RelV v u∧D.rt v H'
def PE (X:Cx) (e:Expr) (t:TE):Prop:=
  ∀ (pins:List (Addr × Obj)) (s:Shared) (σ:St) (H:Hp) (Q:VK),Inv X pins σ H s→t σ H Q→wpAny (model X.prog X.w) X.A (eval e X.env) (EP X pins σ Q) X.xe s
def PT (X:Cx) (e:Expr) (t:TT):Prop:=
  ∀ (pins:List (Addr × Obj)) (s:Shared) (σ:St) (H:Hp) (Q:Bool→Hp→Prop),Inv X pins σ H s→t σ H Q→wpAny (model X.prog X.w) X.A (isTrue e X.env (eval e X.env)) (TP X pins σ Q) X.xe s
def PW (X:Cx) (e:Expr) (t:TT):Prop:=
  ∀ (whole:Sem Value) (pins:List (Addr × Obj)) (s:Shared) (σ:St) (H:Hp) (Q:Bool→Hp→Prop),Inv X pins σ H s→t σ H Q→wpAny (model X.prog X.w) X.A (isTrue e X.env whole) (TP X pins σ Q) X.xe s
theorem PW.pt {X:Cx} {e:Expr} {t:TT} (h:PW X e t):PT X e t:=h _
def PA (X:Cx) (es:List Expr) (t:TA):Prop:=
  ∀ (pos:Pos) (pins:List (Addr × Obj)) (s:Shared) (σ:St) (H:Hp) (Q:List V→Hp→Prop),Inv X pins σ H s→t σ H Q→wpAny (model X.prog X.w) X.A (spliced (backTo pos (starEach es X.env))) (AP X pins σ Q) X.xe s
def PS (X:Cx) (st:Stmt) (t:TS):Prop:=
  ∀ (pins:List (Addr × Obj)) (s:Shared) (σ:St) (H:Hp) (D:Ends),Inv X pins σ H s→t D σ H→wpAny (model X.prog X.w) X.A (exec st X.env) (SP X pins D) X.xe s
def PSs (X:Cx) (st:List Stmt) (t:TS):Prop:=
  ∀ (pins:List (Addr × Obj)) (s:Shared) (σ:St) (H:Hp) (D:Ends),Inv X pins σ H s→t D σ H→wpAny (model X.prog X.w) X.A (execs st X.env) (SP X pins D) X.xe s
theorem thn {α:Type} {t:Sem α} {Q Q':α→Shared→Prop} {M:Model} {A:Around} {E:Value→Shared→Prop} {s:Shared} (h:wpAny M A t Q E s) (hQ:∀ a s,Q a s→Q' a s):wpAny M A t Q' E s:=wpAny_mono h hQ fun _ _ x=>x
end L2
namespace L2
open PySem PySem.Spec PyProof.Rows
section
variable {X:Cx}
theorem bin {a b:Expr} {ta tb:TE} (ha:PE X a ta) (hb:PE X b tb) {pins:List (Addr × Obj)} {s:Shared} {σ:St} {H:Hp} {R:V→V→Hp→Prop} (I:Inv X pins σ H s) (h:ta σ H fun x H1=>tb σ H1 fun y H2=>R x y H2)
    {α:Type} {Q:α→Shared→Prop} {f:Value→Value→Sem α}
    (hf:∀ v u s2 x y H2,Inv X pins σ H2 s2→RelV x v→RelV y u→R x y H2→wpAny (model X.prog X.w) X.A (f v u) Q X.xe s2) :
    wpAny (model X.prog X.w) X.A (eval a X.env) (fun v s₁=>wpAny (model X.prog X.w) X.A (eval b X.env) (fun u s₂=>wpAny (model X.prog X.w) X.A (f v u) Q X.xe s₂) X.xe s₁) X.xe s:=by
  refine thn (ha pins s σ H _ I h) fun v s1 ⟨x,H1,I1,r1,q1⟩=>?_
  refine thn (hb pins s1 σ H1 _ I1 q1) fun u s2 ⟨y,H2,I2,r2,q2⟩=>?_
  exact hf v u s2 x y H2 I2 r1 r2 q2
def tVar (i:Nat):TE:=fun σ H Q=>∃ v,σ[i]? = some (some v)∧Q v H
def tC (v:V):TE:=fun _ H Q=>Q v H
theorem pe_var {i:Nat} {x:Str} {pos:Pos} (hN:X.N[i]? = some x) (hv:Vis X.env.scope x) (hd:(x == ("__debug__":Str)) = false:=by decide) (hcd:(x == ("__classdict__":Str)) = false:=by decide):PE X (.Name x pos) (tVar i):=by
  intro pins s σ H Q I h
  obtain ⟨v,e,h⟩:=h
  obtain ⟨m,hn,hl⟩:=I.loc
  obtain ⟨u,r,l⟩:=hl i x v hN e hv
  have fin:EP X pins σ Q u s:=⟨v,H,I,r,h⟩
  rcases l with ⟨hk,hm⟩ | ⟨hk,c,hc,hcell⟩
  · exact wpAny_Name (wpAny_loadName_local I.ok.kind hk hn hm fin) hd
  · rcases hk with hk | hk
    · exact wpAny_Name (wpAny_loadName_cell I.ok.kind hk hc hcell fin) hd
    · exact wpAny_Name (wpAny_loadName_free I.ok.kind hk hc hcell fin hcd) hd
theorem pe_int {i j pos}:PE X (.Constant (.int i) j pos) (tC (.int i)):=fun _ _ _ H _ I h=>wpAny_Constant_int ⟨.int i,H,I.tok _,⟨_,rfl⟩,h⟩
theorem pe_bl {b j pos}:PE X (.Constant (.bool b) j pos) (tC (.bl b)):=fun _ _ _ H _ I h=>Constant_bool ⟨.bl b,H,I,rfl,h⟩
theorem pe_non {j pos}:PE X (.Constant .none j pos) (tC .non):=fun _ _ _ H _ I h=>Constant_none ⟨.non,H,I,rfl,h⟩
theorem pe_str {x j pos}:PE X (.Constant (.str x) j pos) (tC (.str x)):=fun _ _ _ H _ I h=>Calls.Constant_str ⟨.str x,H,I.tok _,⟨_,rfl⟩,h⟩
def Gl (X:Cx) (x:Str):Prop:=X.env.kindOf x = some .globalImplicit
theorem ld_glob {E:Value→Shared→Prop} {pins:List (Addr × Obj)} {s:Shared} {σ:St} {H:Hp} {x:Str} {u:Value} {pos:Pos} {Q:Value→Shared→Prop} (I:Inv X pins σ H s) (hg:Gl X x) (hm:X.mg x = some u) (h:Q u s)
    (hd:(x == ("__debug__":Str)) = false:=by decide):wpAny (model X.prog X.w) X.A (eval (.Name x pos) X.env) Q E s:=
  Calls.Name_function_global I.ok.kind hg (Calls.loadGlobal_global (by rw [I.ok.glob]; exact I.mod.glob.keeps I.bk) hm h) hd
theorem ld_blt {E:Value→Shared→Prop} {pins:List (Addr × Obj)} {s:Shared} {σ:St} {H:Hp} {x:Str} {u:Value} {pos:Pos} {Q:Value→Shared→Prop} (I:Inv X pins σ H s) (hg:Gl X x) (hm:X.mg x = none) (hv:bootBuiltins x = some u) (h:Q u s)
    (hn:x ≠ "__name__":=by decide) (hd:(x == ("__debug__":Str)) = false:=by decide):wpAny (model X.prog X.w) X.A (eval (.Name x pos) X.env) Q E s:=by
  obtain ⟨mb,h1,h2⟩:=I.mod.blt
  exact Calls.Name_function_global I.ok.kind hg (Calls.loadGlobal_builtin (by rw [I.ok.glob]; exact I.mod.glob.keeps I.bk) hm (by rw [I.ok.blt]; exact h1.keeps I.bk) ((h2 x hn).trans hv) h) hd
theorem pe_glob {x:Str} {v:V} {u:Value} {pos:Pos} (hg:Gl X x) (hm:X.mg x = some u) (r:RelV v u) (hd:(x == ("__debug__":Str)) = false:=by decide):PE X (.Name x pos) (tC v):=
  fun _ _ _ H _ I h=>ld_glob I hg hm ⟨v,H,I,r,h⟩ hd
theorem pe_bltn {x:Str} {v:V} {u:Value} {pos:Pos} (hg:Gl X x) (hm:X.mg x = none) (hv:bootBuiltins x = some u) (r:RelV v u) (hn:x ≠ "__name__":=by decide) (hd:(x == ("__debug__":Str)) = false:=by decide):PE X (.Name x pos) (tC v):=
  fun _ _ _ H _ I h=>ld_blt I hg hm hv ⟨v,H,I,r,h⟩ hn hd
variable {a b:Expr} {ta tb:TE} {pos:Pos}
def PC (X:Cx) (op:CmpOp) (a b:Expr) (t:TE):Prop:=
  ∀ (pins:List (Addr × Obj)) (s:Shared) (σ:St) (H:Hp) (Q:VK),Inv X pins σ H s→t σ H Q→
    wpAny (model X.prog X.w) X.A (eval a X.env) (fun v s₁=>wpAny (model X.prog X.w) X.A (eval b X.env) (fun u s₂=>wpAny (model X.prog X.w) X.A (compareOp op v u) (EP X pins σ Q) X.xe s₂) X.xe s₁) X.xe s
def tB (t:TE):TT:=fun σ H Q=>t σ H fun x H1=>∃ c,x = .bl c∧Q c H1
theorem pt_cmp {op:CmpOp} {t:TE} (h:PC X op a b t) (h1:behindInMarks op b = false:=by first | exact nobehind _ (by decide) (by decide) | rfl):PT X (.Compare a [op] [b] pos) (tB t):=by
  intro pins s σ H Q I hw
  refine wpAny_isTrue_Compare1 (thn (h pins s σ H _ I hw) fun v s1 h1=>thn h1 fun u s2 h2=>thn h2 fun c s3 ⟨x,H1,I1,r1,q1⟩=>?_) h1
  obtain ⟨d,rfl,q⟩:=q1
  cases r1
  exact wpAny_truthy_bool ⟨H1,I1,q⟩
theorem pt_val {e:Expr} {t:TE} (h:PE X e t) (he:∀ whole,isTrue e X.env whole = (do let v ← whole; standAt e.pos; holding [v] (truthy v)):=by intro _; rfl):PT X e (tB t):=by
  intro pins s σ H Q I hw
  refine isTrue_plain (thn (h pins s σ H _ I hw) fun v s1 ⟨x,H1,I1,r1,q1⟩=>?_) (he _)
  obtain ⟨d,rfl,q⟩:=q1
  cases r1
  exact wpAny_truthy_bool ⟨H1,I1,q⟩
variable {tA tB':TT} {rest:List Expr}
def tAnd (t u:TT):TT:=fun σ H Q=>t σ H fun c H1=>if c = true then u σ H1 Q else Q false H1
def tOr (t u:TT):TT:=fun σ H Q=>t σ H fun c H1=>if c = true then Q true H1 else u σ H1 Q
def tNot (t:TT):TT:=fun σ H Q=>t σ H fun c H1=>Q (!c) H1
theorem pw_and1 (ha:PT X a tA):PW X (.BoolOp .And [a] pos) tA:=by
  intro wh pins s σ H Q I h
  refine isTrue_and (thn (ha pins s σ H Q I h) fun c s1 e=>?_)
  cases c with
  | true=>exact isTrue_and_nil e
  | false=>exact e
theorem pw_or1 (ha:PT X a tA):PW X (.BoolOp .Or [a] pos) tA:=by
  intro wh pins s σ H Q I h
  refine isTrue_or (thn (ha pins s σ H Q I h) fun c s1 e=>?_)
  cases c with
  | false=>exact isTrue_or_nil e
  | true=>exact e
theorem pw_and (ha:PT X a tA) (hb:PW X (.BoolOp .And (b :: rest) pos) tB'):PW X (.BoolOp .And (a :: b :: rest) pos) (tAnd tA tB'):=by
  intro wh pins s σ H Q I h
  refine isTrue_and (thn (ha pins s σ H _ I h) fun c s1 ⟨H1,I1,q1⟩=>?_)
  cases c with
  | true=>exact hb wh pins s1 σ H1 Q I1 q1
  | false=>exact ⟨H1,I1,q1⟩
theorem pw_or (ha:PT X a tA) (hb:PW X (.BoolOp .Or (b :: rest) pos) tB'):PW X (.BoolOp .Or (a :: b :: rest) pos) (tOr tA tB'):=by
  intro wh pins s σ H Q I h
  refine isTrue_or (thn (ha pins s σ H _ I h) fun c s1 ⟨H1,I1,q1⟩=>?_)
  cases c with
  | true=>exact ⟨H1,I1,q1⟩
  | false=>exact hb wh pins s1 σ H1 Q I1 q1
theorem pt_not (ha:PT X a tA):PT X (.UnaryOp .Not a pos) (tNot tA):=by
  intro pins s σ H Q I h
  exact isTrue_not (ha pins s σ H (fun c H1=>Q (!c) H1) I h)
def tAndV (ta tb:TE):TE:=fun σ H Q=>ta σ H fun x H1=>∃ c,x = .bl c∧if c = true then tb σ H1 Q else Q (.bl false) H1
def tNotV (ta:TE):TE:=fun σ H Q=>ta σ H fun x H1=>∃ c,x = .bl c∧Q (.bl (!c)) H1
theorem pe_one {op} {t:TE} (h:PE X a t):PE X (.BoolOp op [a] pos) t:=fun pins s σ H Q I hw=>BoolOp_one (h pins s σ H Q I hw)
theorem pe_and (ha:PE X a ta) (hb:PE X (.BoolOp .And (b :: rest) pos) tb):PE X (.BoolOp .And (a :: b :: rest) pos) (tAndV ta tb):=by
  intro pins s σ H Q I h
  refine BoolOp_and (thn (ha pins s σ H _ I h) fun v s1 ⟨x,H1,I1,r1,q1⟩=>?_)
  obtain ⟨c,rfl,q1⟩:=q1
  cases r1
  refine wpAny_truthy_bool ?_
  cases c with
  | true=>exact hb pins s1 σ H1 Q I1 q1
  | false=>exact ⟨.bl false,H1,I1,rfl,q1⟩
theorem pe_not (ha:PE X a ta):PE X (.UnaryOp .Not a pos) (tNotV ta):=by
  intro pins s σ H Q I h
  refine UnaryOp_ (thn (ha pins s σ H _ I h) fun v s1 ⟨x,H1,I1,r1,q1⟩=>?_)
  obtain ⟨c,rfl,q1⟩:=q1
  cases r1
  exact not_of (wpAny_truthy_bool ⟨.bl (!c),H1,I1,rfl,q1⟩)
end
end L2
namespace L2
open PySem PySem.Spec PyProof.Rows
def SqL (K:PySem.W.Frag) (H:Hp) (a:Addr) (xs:List V):Prop:=
  Rd H a (.lst xs) ∨
    ∃ (o:Obj) (its:Array Value) (n:Nat),K.lookup a = some o∧o.cls = .type "list"∧o.dict = none∧o.data = .seq its n∧its.size ≤ sizeLine∧Vals xs its.toList
def SqT (K:PySem.W.Frag) (H:Hp) (a:Addr) (xs:List V):Prop:=
  Rd H a (.tup xs) ∨
    ∃ (o:Obj) (its:Array Value) (n:Nat),K.lookup a = some o∧o.cls = .type "tuple"∧o.data = .seq its n∧its.size ≤ sizeLine∧Vals xs its.toList
def absV:Value→Option V
  | .none=>some .non
  | .bool b=>some (.bl b)
  | .int i _=>some (.int i)
  | .str x _=>some (.str x)
  | .bytes b _=>some (.byt b)
  | .float b _=>some (.flt b)
  | .ref a=>some (.ref a)
  | .type n=>some (.ty n)
  | _=>none
theorem RelV.abs {x:V} {u:Value} (r:RelV x u):absV u = some x:=by
  cases x with
  | non=>cases r; rfl
  | bl _=>cases r; rfl
  | int _=>obtain ⟨t,rfl⟩:=r; rfl
  | str _=>obtain ⟨t,rfl⟩:=r; rfl
  | byt _=>obtain ⟨t,rfl⟩:=r; rfl
  | flt _=>obtain ⟨t,rfl⟩:=r; rfl
  | ref _=>cases r; rfl
  | ty _=>cases r; rfl
theorem RelV.inj {x y:V} {u:Value} (r:RelV x u) (q:RelV y u):x = y:=Option.some.inj (r.abs.symm.trans q.abs)
theorem Vals.inj:∀ {xs ys:List V} {us:List Value},Vals xs us→Vals ys us→xs = ys
  | _,_,_,.nil,.nil=>rfl
  | _,_,_,.cons r t,.cons r' t'=>by rw [r.inj r',Vals.inj t t']
section
variable {X:Cx} {pins:List (Addr × Obj)} {σ:St} {H:Hp} {s:Shared} {a:Addr} {xs ys:List V}
theorem SqL.of {K:PySem.W.Frag} (h:H a = some (.lst xs)):SqL K H a xs:=.inl (.inl h)
theorem SqT.of {K:PySem.W.Frag} (h:H a = some (.tup xs)):SqT K H a xs:=.inl (.inl h)
theorem Inv.list (I:Inv X pins σ H s) (h:SqL X.K H a xs):∃ its:List Value,Vals xs its∧PlainL s.heap a its.toArray∧xs.length ≤ sizeLine:=by
  rcases h with h | ⟨o,its,n,hk,hc,hd,hs,hz,r⟩
  · obtain ⟨z,its,n,r,e⟩:=h.ok I.hok
    exact ⟨its,r,⟨_,n,e,rfl,rfl,rfl⟩,z⟩
  · refine ⟨its.toList,r,⟨o,n,I.kIn a o hk,hc,hd,by simpa using hs⟩,?_⟩
    have e:=r.length
    simp only [Array.length_toList] at e
    omega
theorem Inv.tuple (I:Inv X pins σ H s) (h:SqT X.K H a xs):∃ its:List Value,Vals xs its∧IsTup s.heap a its.toArray∧xs.length ≤ sizeLine:=by
  rcases h with h | ⟨o,its,n,hk,hc,hs,hz,r⟩
  · obtain ⟨z,its,r,p⟩:=h.ok I.hok
    exact ⟨its,r,p,z⟩
  · refine ⟨its.toList,r,⟨o,I.kIn a o hk,hc,n,by simpa using hs⟩,?_⟩
    have e:=r.length
    simp only [Array.length_toList] at e
    omega
theorem Inv.list_inj (I:Inv X pins σ H s) (h:SqL X.K H a xs) (h':SqL X.K H a ys):xs = ys:=by
  obtain ⟨its,r,⟨o,n,e,_,_,d⟩,_⟩:=I.list h
  obtain ⟨its',r',⟨o',n',e',_,_,d'⟩,_⟩:=I.list h'
  rw [e] at e'; cases e'
  rw [d] at d'
  injection d' with d1 _
  have:its = its':=by simpa using congrArg Array.toList d1
  subst this
  exact r.inj r'
end
abbrev Cx.wish (X:Cx) (E:Value→Shared→Prop):Cx:={ X with xe:=E }
abbrev Cx.nox (X:Cx):Cx:=X.wish fun _ _=>False
theorem Cx.Ok.wish {X:Cx} (ok:X.Ok) (E:Value→Shared→Prop):(X.wish E).Ok:=
  ⟨ok.mod,ok.kind,ok.glob,ok.blt,ok.above,ok.inj,ok.has,ok.cab,ok.hd,ok.frames,ok.stk,ok.exf,ok.bs,ok.bsz,ok.noex,ok.exfs,ok.funs,ok.frf⟩
theorem Cx.Ok.unwish {X:Cx} {E:Value→Shared→Prop} (ok:(X.wish E).Ok):X.Ok:=
  ⟨ok.mod,ok.kind,ok.glob,ok.blt,ok.above,ok.inj,ok.has,ok.cab,ok.hd,ok.frames,ok.stk,ok.exf,ok.bs,ok.bsz,ok.noex,ok.exfs,ok.funs,ok.frf⟩
section
variable {X:Cx} {pins:List (Addr × Obj)} {σ:St} {H:Hp} {s:Shared} {E:Value→Shared→Prop}
theorem Inv.wish (I:Inv X pins σ H s) (E:Value→Shared→Prop):Inv (X.wish E) pins σ H s:=⟨I.ok.wish E,I.os,I.bare,I.base,I.loc,I.cell,I.free,I.freeC,I.pin,I.hok,I.len⟩
theorem Inv.unwish (I:Inv (X.wish E) pins σ H s):Inv X pins σ H s:=⟨I.ok.unwish,I.os,I.bare,I.base,I.loc,I.cell,I.free,I.freeC,I.pin,I.hok,I.len⟩
theorem SP.unwish {D:Ends} {f:Flow} {s':Shared} (h:SP (X.wish E) pins D f s'):SP X pins D f s':=by
  cases f with
  | next=>obtain ⟨σ',H',I,q⟩:=h; exact ⟨σ',H',I.unwish,q⟩
  | brk=>obtain ⟨σ',H',I,q⟩:=h; exact ⟨σ',H',I.unwish,q⟩
  | cont=>obtain ⟨σ',H',I,q⟩:=h; exact ⟨σ',H',I.unwish,q⟩
  | ret u=>obtain ⟨v,σ',H',I,r,q⟩:=h; exact ⟨v,σ',H',I.unwish,r,q⟩
theorem PSs.nox {st:List Stmt} {t:TS} (h:PSs X.nox st t):PSs X st t:=fun pins s σ H D I hw=>
  wpAny_mono (h pins s σ H D (I.wish _) hw) (fun _ _ q=>q.unwish) fun _ _ z=>False.elim z
end
section
variable {X:Cx} {st:Stmt} {rest:List Stmt} {t u:TS} {e:Expr} {te:TE} {pos:Pos}
def tNext:TS:=fun D σ H=>D.nx σ H
def tSeq (t u:TS):TS:=fun D σ H=>t { D with nx:=u D } σ H
theorem pss_nil:PSs X [] tNext:=fun _ _ σ H _ I h=>wpAny_execs_nil ⟨σ,H,I,h⟩
theorem pss_cons (h1:PS X st t) (h2:PSs X rest u):PSs X (st :: rest) (tSeq t u):=by
  intro pins s σ H D I h
  refine wpAny_execs_cons (thn (h1 pins s σ H { D with nx:=u D } I h) fun f s1 q=>?_)
  cases f with
  | next=>
    obtain ⟨σ',H',I',q⟩:=q
    exact h2 pins s1 σ' H' D I' q
  | ret v=>exact q
  | brk=>exact q
  | cont=>exact q
theorem pss_one (h1:PS X st t):PSs X [st] t:=by
  intro pins s σ H D I h
  refine wpAny_execs_cons (thn (h1 pins s σ H D I h) fun f s1 q=>?_)
  cases f with
  | next=>exact wpAny_execs_nil q
  | ret v=>exact q
  | brk=>exact q
  | cont=>exact q
theorem Inv.quiet {pins:List (Addr × Obj)} {σ:St} {H:Hp} {s:Shared} (I:Inv X pins σ H s):interactive X.env = false:=by simp [interactive,I.ok.kind]
def tDrop (te:TE):TS:=fun D σ H=>te σ H fun _ H1=>D.nx σ H1
theorem ps_expr (he:PE X e te) (hs:swapsWith e none pos.line X.env = pure false:=by rfl):PS X (.Expr e pos) (tDrop te):=by
  intro pins s σ H D I h
  exact wpAny_Expr_any (thn (he pins s σ H _ I h) fun v s1 ⟨x,H1,I1,r1,q1⟩=>⟨σ,H1,I1,q1⟩) I.quiet hs
def tRet (te:TE):TS:=fun D σ H=>te σ H D.rt
theorem ps_ret (he:PE X e te):PS X (.Return (some e) pos) (tRet te):=by
  intro pins s σ H D I h
  exact wpAny_Return_some (thn (he pins s σ H _ I h) fun v s1 ⟨x,H1,I1,r1,q1⟩=>⟨x,σ,H1,I1,r1,q1⟩)
def tIfS (c:TT) (t u:TS):TS:=fun D σ H=>c σ H fun b H1=>if b = true then t D σ H1 else u D σ H1
theorem ps_if {c:Expr} {a b:List Stmt} {tc:TT} (hc:PT X c tc) (ha:PSs X a t) (hb:PSs X b u):PS X (.If c a b pos) (tIfS tc t u):=by
  intro pins s σ H D I h
  refine wpAny_If (thn (hc pins s σ H _ I h) fun d s1 ⟨H1,I1,q1⟩=>?_)
  cases d with
  | true=>exact ha pins s1 σ H1 D I1 q1
  | false=>exact hb pins s1 σ H1 D I1 q1
def tNever:TS:=fun _ _ _=>False
theorem pss_never {sts:List Stmt}:PSs X sts tNever:=fun _ _ _ _ _ _ h=>h.elim
end
abbrev TG:=V→St→Hp→(St→Hp→Prop)→Prop
abbrev TGs:=List V→St→Hp→(St→Hp→Prop)→Prop
def PG (X:Cx) (target:Expr) (t:TG):Prop:=
  ∀ (pins:List (Addr × Obj)) (s:Shared) (σ:St) (H:Hp) (v:V) (u:Value) (Q:St→Hp→Prop),Inv X pins σ H s→RelV v u→t v σ H Q→
    wpAny (model X.prog X.w) X.A (assign target X.env u) (fun _ s'=>∃ σ' H',Inv X pins σ' H' s'∧Q σ' H') X.xe s
def PGs (X:Cx) (ts:List Expr) (t:TGs):Prop:=
  ∀ (pins:List (Addr × Obj)) (s:Shared) (σ:St) (H:Hp) (vs:List V) (us:List Value) (Q:St→Hp→Prop),Inv X pins σ H s→Vals vs us→t vs σ H Q→
    wpAny (model X.prog X.w) X.A (assignInOrder ((assignEach ts X.env).map (·.2)) us) (fun _ s'=>∃ σ' H',Inv X pins σ' H' s'∧Q σ' H') X.xe s
abbrev TSet:=V→V→V→Hp→(Hp→Prop)→Prop
def PSet (X:Cx) (t:TSet):Prop:=
  ∀ (pins:List (Addr × Obj)) (s:Shared) (σ:St) (H:Hp) (o i v:V) (ov iv u:Value) (Q:Hp→Prop),Inv X pins σ H s→RelV o ov→RelV i iv→RelV v u→t o i v H Q→
    wpAny (model X.prog X.w) X.A (setItem ov iv u) (fun _ s'=>∃ H',Inv X pins σ H' s'∧Q H') X.xe s
abbrev TIp:=V→V→Hp→VK→Prop
def PIp (X:Cx) (op:Operator) (t:TIp):Prop:=
  ∀ (pins:List (Addr × Obj)) (s:Shared) (σ:St) (H:Hp) (x y:V) (v u:Value) (Q:VK),Inv X pins σ H s→RelV x v→RelV y u→t x y H Q→
    wpAny (model X.prog X.w) X.A (inplaceOp op v u) (EP X pins σ Q) X.xe s
section
variable {X:Cx} {pos:Pos}
def gName (i:Nat):TG:=fun v σ H Q=>Q (σ.set i (some v)) H
theorem pg_name {i:Nat} {x:Str} (hN:X.N.Nodup) (hi:X.N[i]? = some x) (hx:Loc X.env.scope x) (hf:X.fn x = true ∨ X.env.scope.names.lookup x = some .local:=by first | exact .inl rfl | exact .inr rfl | assumption):PG X (.Name x pos) (gName i):=by
  intro pins s σ H v u Q I r h
  exact wpAny_assign_Name (store_ok I hN hi hx r (fun s' I'=>⟨_,H,I',h⟩) hf)
def gNil:TGs:=fun vs σ H Q=>vs = []∧Q σ H
def gCons (t:TG) (u:TGs):TGs:=fun vs σ H Q=>∃ v r,vs = v :: r∧t v σ H fun σ' H'=>u r σ' H' Q
theorem pgs_nil:PGs X [] gNil:=by
  intro pins s σ H vs us Q I r h
  obtain ⟨e,h⟩:=h
  subst e
  cases r
  exact assignInOrder_nil ⟨σ,H,I,h⟩
theorem pgs_cons {e:Expr} {es:List Expr} {t:TG} {u:TGs} (h1:PG X e t) (h2:PGs X es u)
    (hs:(assignEach (e :: es) X.env).map (·.2) = assign e X.env :: (assignEach es X.env).map (·.2):=by rfl):PGs X (e :: es) (gCons t u):=by
  intro pins s σ H vs us Q I r h
  obtain ⟨v,vr,e1,h⟩:=h
  subst e1
  cases r with
  | cons r rr=>
    rw [hs]
    refine assignInOrder_cons (thn (h1 pins s σ H _ _ _ I r h) fun _ s1 ⟨σ1,H1,I1,q1⟩=>?_)
    exact h2 pins s1 σ1 H1 _ _ Q I1 rr q1
def gTup (K:PySem.W.Frag) (n:Nat) (t:TGs):TG:=fun v σ H Q=>∃ a xs,v = .ref a∧SqT K H a xs∧xs.length = n∧t xs σ H Q
theorem pg_tup {es:List Expr} {k:Nat} {t:TGs} {n:Nat} (hc:X.calm = true) (h:PGs X es t)
    (hn:(assignEach es X.env).length = n:=by rfl) (hst:(assignEach es X.env).findIdx? (·.1) = none:=by rfl):PG X (.Tuple es k pos) (gTup X.K n t):=by
  intro pins s σ H v u Q I r hw
  obtain ⟨a,xs,e1,hq,hl,hw⟩:=hw
  subst e1
  cases r
  obtain ⟨its,rv,ht,hz⟩:=I.tuple hq
  refine assign_Tuple_tuple (I.ok.hd hc) ht (by simp [hn,← hl,rv.length]) hst fun h' hx=>?_
  have I1:Inv X pins σ H { s with heap:=h' }:=I.kept (t':=s.toks) fun b o e=>hx b o (Nat.ne_of_lt (Heap.lt_size e)) e
  exact h pins _ σ H xs _ Q I1 (by simpa using rv) hw
def gSub (to ti:TE) (t:TSet):TG:=fun v σ H Q=>to σ H fun o H1=>ti σ H1 fun i H2=>t o i v H2 fun H3=>Q σ H3
theorem pg_sub {o i:Expr} {to ti:TE} {t:TSet} (ho:PE X o to) (hi:PE X i ti) (hs:PSet X t)
    (ha:∀ v,assign (.Subscript o i pos) X.env v = (do
      let ov ← holding [v] (eval o X.env)
      let iv ← holding [v,ov] (eval i X.env)
      standAt pos
      holding [v,ov,iv] (setItem ov iv v)
      release [v,ov,iv] []):=by intro _; rfl):PG X (.Subscript o i pos) (gSub to ti t):=by
  intro pins s σ H v u Q I r h
  rw [ha]
  refine wpAny_bind (wpAny_holding (thn (ho pins s σ H _ I h) fun ov s1 ⟨x,H1,I1,r1,q1⟩=>?_))
  refine wpAny_bind (wpAny_holding (thn (hi pins s1 σ H1 _ I1 q1) fun iv s2 ⟨y,H2,I2,r2,q2⟩=>?_))
  refine wpAny_bind (wpAny_standAt (wpAny_bind (wpAny_holding (thn (hs pins s2 σ H2 x y v ov iv u _ I2 r1 r2 r q2) fun _ s3 ⟨H3,I3,q3⟩=>?_))))
  exact wpAny_release ⟨σ,H3,I3,q3⟩
def tAsg (te:TE) (g:TG):TS:=fun D σ H=>te σ H fun x H1=>g x σ H1 D.nx
theorem ps_asg {tg e:Expr} {te:TE} {g:TG} (he:PE X e te) (hg:PG X tg g) (hs:swapsWithSole [tg] e pos.line X.env = pure false:=by rfl) (hw:swappedStores [tg] e X.env = pure none:=by rfl)
    (h1:(assignEach [tg] X.env).map (·.2) = [assign tg X.env]:=by rfl):PS X (.Assign [tg] e pos) (tAsg te g):=by
  intro pins s σ H D I h
  refine wpAny_Assign_stores (thn (he pins s σ H _ I h) fun v s1 ⟨x,H1,I1,r1,q1⟩=>?_) hs hw
  rw [h1]
  exact thn (hg pins s1 σ H1 x v _ I1 r1 q1) fun _ s2 q=>q
theorem ps_set {i:Nat} {x:Str} {e:Expr} {te:TE} {pos':Pos} (hN:X.N.Nodup) (hi:X.N[i]? = some x) (hx:Loc X.env.scope x) (he:PE X e te) (hs:swapsWith e (some (.Name x pos')) pos.line X.env = pure false:=by rfl) (hf:X.fn x = true ∨ X.env.scope.names.lookup x = some .local:=by first | exact .inl rfl | exact .inr rfl | assumption) :
    PS X (.Assign [.Name x pos'] e pos) (tAsg te (gName i)):=by
  intro pins s σ H D I h
  refine wpAny_Assign_Name (thn (he pins s σ H _ I h) fun v s1 ⟨y,H1,I1,r1,q1⟩=>?_) hs
  exact store_ok I1 hN hi hx r1 (fun s2 I2=>⟨_,H1,I2,q1⟩) hf
def tPar (i j:Nat) (ta:TA):TS:=fun D σ H=>ta σ H fun vs H1=>∃ v w,vs = [v,w]∧D.nx ((σ.set i (some v)).set j (some w)) H1
theorem ps_par {i j:Nat} {x y:Str} {a b:Expr} {ta:TA} {px py pt:Pos} {kt k2 pt2} (hc:X.calm = true) (hN:X.N.Nodup) (hi:X.N[i]? = some x) (hj:X.N[j]? = some y) (hij:i ≠ j)
    (hx:X.env.scope.names.lookup x = some .local) (hy:X.env.scope.names.lookup y = some .local) (ha:PA X [a,b] ta)
    (hw:swappedStores [.Tuple [.Name x px,.Name y py] kt pt] (.Tuple [a,b] k2 pt2) X.env = pure (some [x,y]))
    (hs:swapsWithSole [.Tuple [.Name x px,.Name y py] kt pt] (.Tuple [a,b] k2 pt2) pos.line X.env = pure false:=by rfl) :
    PS X (.Assign [.Tuple [.Name x px,.Name y py] kt pt] (.Tuple [a,b] k2 pt2) pos) (tPar i j ta):=by
  intro pins s σ H D I h
  rw [exec_Assign_arm]
  refine wpAny_bind (wpAny_standAt ?_)
  rw [hs]
  refine wpAny_bind (wpAny_pure ?_)
  rw [if_neg (by decide)]
  refine wpAny_bind (Tuple_ (thn (ha _ pins s σ H _ I h) fun us s1 ⟨vs,H1,I1,r1,q1⟩=>?_))
  obtain ⟨v,w,e1,q1⟩:=q1
  subst e1
  obtain ⟨u1,u2,rfl,rv,rw'⟩:∃ u1 u2,us = [u1,u2]∧RelV v u1∧RelV w u2:=by
    cases r1 with
    | cons p q=>
      cases q with
      | cons p' q'=>
        cases q'
        exact ⟨_,_,rfl,p,p'⟩
  refine wpAny_newObj_type ?_ (by show 2 ≤ sizeLine; decide)
  have I2:Inv X pins σ H1 { s1 with heap:=s1.heap.push { cls:=.type "tuple",data:=.seq [u1,u2].toArray } }:=I1.kept (t':=s1.toks) fun b o e=>Heap.get?_push_of_some _ e
  rw [hw]
  refine wpAny_bind (wpAny_pure ?_)
  show wpAny (model X.prog X.w) X.A (do rule "assign.swapped-stores"; let items ← unpackItems (.ref s1.heap.objs.size) 2 none; assignInOrder [fun v=>bindName X.env y v,fun v=>bindName X.env x v] items.reverse; pure Flow.next) _ _ _
  refine wpAny_bind (wpAny_rule (wpAny_bind (unpackItems_tuple (items:=#[u1,u2]) (I.ok.hd hc) (IsTup.new s1.heap _) fun h' hx'=>?_)))
  have I3:=I2.kept (h':=h') (t':=s1.toks) fun b o e=>hx' b o (Nat.ne_of_lt (Heap.lt_size e)) e
  show wpAny _ _ (assignInOrder [fun v=>bindName X.env y v,fun v=>bindName X.env x v] [u2,u1] >>= fun _=>pure Flow.next) _ _ _
  refine wpAny_bind (assignInOrder_cons (wpAny_bindName (store_ok I3 hN hj (.inl hy) rw' (fun s2 I4=>?_) (.inr hy))))
  refine assignInOrder_cons (wpAny_bindName (store_ok I4 hN hi (.inl hx) rv (fun s3 I5=>assignInOrder_nil (wpAny_pure ?_)) (.inr hx)))
  rw [List.set_comm _ _ (Ne.symm hij)] at I5
  exact ⟨_,H1,I5,q1⟩
def tAug (i:Nat) (te:TE) (ti:TIp):TS:=fun D σ H=>∃ x,σ[i]? = some (some x)∧te σ H fun y H1=>ti x y H1 fun z H2=>D.nx (σ.set i (some z)) H2
theorem ps_aug {i:Nat} {x:Str} {e:Expr} {te:TE} {op:Operator} {ti:TIp} {pos':Pos} (hN:X.N.Nodup) (hi:X.N[i]? = some x) (hx:Loc X.env.scope x) (he:PE X e te) (ho:PIp X op ti) (hf:X.fn x = true ∨ X.env.scope.names.lookup x = some .local:=by first | exact .inl rfl | exact .inr rfl | assumption) :
    PS X (.AugAssign (.Name x pos') op e pos) (tAug i te ti):=by
  intro pins s σ H D I h
  obtain ⟨v,e1,h⟩:=h
  obtain ⟨m,hn,hl⟩:=I.loc
  have vis:Vis X.env.scope x:=by rcases hx with k | k; exact .inl k; exact .inr (.inl k)
  obtain ⟨u,r,l⟩:=hl i x v hi e1 vis
  refine wpAny_AugAssign_Name ?_
  have go:wpAny (model X.prog X.w) X.A (eval e X.env) (fun w s₂=>wpAny (model X.prog X.w) X.A (inplaceOp op u w) (fun r s₃=>wpAny (model X.prog X.w) X.A (storeName X.env x r) (fun _=>SP X pins D .next) X.xe s₃) X.xe s₂) X.xe s:=by
    refine thn (he pins s σ H _ I h) fun w s1 ⟨y,H1,I1,r1,q1⟩=>?_
    refine thn (ho pins s1 σ H1 v y u w _ I1 r r1 q1) fun z s2 ⟨zv,H2,I2,r2,q2⟩=>?_
    exact store_ok I2 hN hi hx r2 (fun s3 I3=>⟨_,H2,I3,q2⟩) hf
  rcases l with ⟨hk,hm⟩ | ⟨hk,c,hc,hcell⟩
  · exact wpAny_loadName_local I.ok.kind hk hn hm go
  · rcases hk with hk | hk
    · exact wpAny_loadName_cell I.ok.kind hk hc hcell go
    · rcases hx with k | k
      · have:X.env.scope.names.lookup x = some .free:=hk
        rw [k] at this; cases this
      · have:X.env.scope.names.lookup x = some .free:=hk
        rw [k] at this; cases this
def ipI (f:Int→Int→Int):TIp:=fun x y H Q=>∃ i j,x = .int i∧y = .int j∧Q (.int (f i j)) H
theorem ip_add:PIp X .Add (ipI fun i j=>i + j):=by
  intro pins s σ H x y v u Q I r1 r2 h
  obtain ⟨i,j,e1,e2,q⟩:=h
  subst e1; subst e2
  obtain ⟨t,rfl⟩:=r1
  obtain ⟨t',rfl⟩:=r2
  exact iadd_int ⟨.int _,H,I.tok _,⟨_,rfl⟩,q⟩
end
section
variable {X:Cx} {pos:Pos}
def tWhile (c:TT) (tb:TS):TS:=fun D σ H=>∃ W:Nat→St→Hp→Prop,(∃ m,W m σ H)∧∀ m σ H,W m σ H→
  c σ H fun b H1=>if b = true then ∃ N:St→Hp→Prop,(∀ σ' H',N σ' H'→∃ m',m' < m∧W m' σ' H')∧tb { D with nx:=N,ct:=N,bk:=D.nx } σ H1 else D.nx σ H1
theorem ps_while {c:Expr} {body:List Stmt} {tc:TT} {tb:TS} (hp:PassesOwn (model X.prog X.w) X.A X.env X.xe) (hc:PT X c tc) (hb:PSs X body tb):PS X (.While c body [] pos) (tWhile tc tb):=by
  intro pins s σ H D I h
  obtain ⟨W,⟨m0,w0⟩,turn⟩:=h
  refine wpAny_While (codeAny_whileLoop (fun n s'=>∃ σ' H',Inv X pins σ' H' s'∧W n σ' H') ?_ m0 ⟨σ,H,I,w0⟩)
  rintro n s1 ⟨σ1,H1,I1,w1⟩
  refine wpAny_passesOwn hp (thn (hc pins s1 σ1 H1 _ I1 (turn n σ1 H1 w1)) fun b s2 ⟨H2,I2,q2⟩=>?_)
  cases b with
  | true=>
    obtain ⟨N,hN,q2⟩:=q2
    rw [if_pos rfl]
    refine wpAny_passesOwn hp (thn (hb pins s2 σ1 H2 _ I2 q2) fun f s3 q3=>?_)
    cases f with
    | next=>
      obtain ⟨σ3,H3,I3,n3⟩:=q3
      obtain ⟨m',hm,w3⟩:=hN σ3 H3 n3
      exact ⟨m',hm,σ3,H3,I3,w3⟩
    | cont=>
      obtain ⟨σ3,H3,I3,n3⟩:=q3
      obtain ⟨m',hm,w3⟩:=hN σ3 H3 n3
      exact ⟨m',hm,σ3,H3,I3,w3⟩
    | brk=>exact q3
    | ret v=>exact q3
  | false=>
    rw [if_neg Bool.false_ne_true]
    exact wpAny_execs_nil ⟨σ1,H2,I2,q2⟩
end
structure It where
  go:Nat→Hp→Prop
  yld:Nat→Hp→V→Hp→Prop
  stop:Nat→Hp→Prop
def FpOk (X:Cx) (pins:List (Addr × Obj)) (H:Hp) (b:Addr):Prop:=
  H b = none∧b ≠ X.env.locals∧b ∉ X.fs∧(b ∈ X.ex ∨ X.s₀.heap.objs.size ≤ b)∧(∀ x c,X.env.cells.lookup x = some c→c ≠ b)∧∀ p ∈ X.pn ++ pins,p.1 ≠ b
theorem Inv.fpOk {X:Cx} {pins:List (Addr × Obj)} {σ:St} {H H':Hp} {s:Shared} {b:Addr} (I:Inv X pins σ H s) (hb:s.heap.objs.size ≤ b) (hn:H' b = none):FpOk X pins H' b:=by
  refine ⟨hn,Nat.ne_of_gt (Nat.lt_of_lt_of_le I.lt hb),I.nofs hb,.inr (Nat.le_trans I.sz hb),fun x c e z=>?_,fun p hp z=>?_⟩
  · obtain ⟨v,q⟩:=I.cell x c e
    exact absurd (Nat.lt_of_lt_of_le q.lt (by rw [z]; exact hb)) (Nat.lt_irrefl _)
  · exact absurd (Nat.lt_of_lt_of_le (Heap.lt_size (I.pin p hp).1) (by rw [z]; exact hb)) (Nat.lt_irrefl _)
structure Turn (P:Program) (w:World) (K:PySem.W.Frag) (tg:Expr) (J:It) (fp:List Addr) (it:Addr) (tn:Nat→Heap→Prop):Prop where
  mem:it ∈ fp
  obj:∀ i h,tn i h→∀ b ∈ fp,∃ o,h.get? b = some o∧∀ v,o.data ≠ .cell v
  keep:∀ i h h',tn i h→(∀ b ∈ fp,∀ o,h.get? b = some o→h'.get? b = some o)→tn i h'
  item:∀ (X:Cx),X.prog = P→X.w = w→X.K = K→X.calm = true→∀ (i:Nat) (pins:List (Addr × Obj)) (s:Shared) (σ:St) (H:Hp) (E:Value→Shared→Prop),Inv X pins σ H s→(∀ b ∈ fp,FpOk X pins H b)→tn i s.heap→J.go i H→
    wpAny (model P w) X.A (pyNext (.ref it)) (fun r s1=>∃ u,r = some u∧
      wpAny (model P w) X.A (letOwnedTupleGo tg (.ref it) u) (fun _ s2=>∃ x H',Inv X pins σ H' s2∧RelV x u∧J.yld i H x H'∧tn (i + 1) s2.heap∧∀ b ∈ fp,H' b = none) E s1) E s
  done:∀ (X:Cx),X.prog = P→X.w = w→X.K = K→X.calm = true→∀ (i:Nat) (pins:List (Addr × Obj)) (s:Shared) (σ:St) (H:Hp) (E:Value→Shared→Prop),Inv X pins σ H s→(∀ b ∈ fp,FpOk X pins H b)→tn i s.heap→J.stop i H→
    wpAny (model P w) X.A (pyNext (.ref it)) (fun r s1=>r = none∧Inv X pins σ H s1) E s
  self:∀ (A:Around) (i:Nat) (s:Shared) (Q:Value→Shared→Prop) (E:Value→Shared→Prop),tn i s.heap→Q (.ref it) s→wpAny (model P w) A (pyIter (.ref it)) Q E s
abbrev TI:=St→Hp→(It→Hp→Prop)→Prop
def PIE (X:Cx) (pins:List (Addr × Obj)) (σ:St) (tg:Expr) (R:It→Hp→Prop) (itv:Value) (s2:Shared):Prop:=
  ∃ (it:Addr) (fp:List Addr) (tn:Nat→Heap→Prop) (J:It) (H':Hp),itv = .ref it∧Inv X pins σ H' s2∧Turn X.prog X.w X.K tg J fp it tn∧tn 0 s2.heap∧(∀ b ∈ fp,FpOk X pins H' b)∧R J H'
def PI (X:Cx) (tg iter:Expr) (wi:TI):Prop:=
  ∀ (pins:List (Addr × Obj)) (s:Shared) (σ:St) (H:Hp) (R:It→Hp→Prop),Inv X pins σ H s→wi σ H R→
    wpAny (model X.prog X.w) X.A (eval iter X.env) (fun v s1=>wpAny (model X.prog X.w) X.A (pyIter v) (PIE X pins σ tg R) X.xe s1) X.xe s
theorem go_of {M:Model} {A:Around} {E:Value→Shared→Prop} {s:Shared} {tg:Expr} {it:Addr} {u:Value} {o:Obj} {n:String} {vs:Array Value} {Q:Unit→Shared→Prop} (ho:s.heap.get? it = some o) (hc:o.cls = .type n) (hd:o.data = .fields vs)
    (hn:["enumerate","zip","dict_itemiterator","dict_reverseitemiterator","odict_iterator","itertools.zip_longest","itertools.pairwise"].contains n = false) (hQ:Q () s):wpAny M A (letOwnedTupleGo tg (.ref it) u) Q E s:=by
  unfold letOwnedTupleGo
  cases tg <;> first
    | exact wpAny_pure hQ
    | (cases u <;> first
        | exact wpAny_pure hQ
        | (refine wpAny_bind (wpAny_load ho ?_)
           rw [hc,hd]
           show wpAny M A (if (["enumerate","zip","dict_itemiterator","dict_reverseitemiterator","odict_iterator","itertools.zip_longest","itertools.pairwise"].contains n && vs[0]? == some (rawInt _)) = true then _ else _) Q E s
           rw [if_neg (by intro h; rw [hn,Bool.false_and] at h; cases h)]
           exact wpAny_pure hQ))
def Itl (K:PySem.W.Frag) (a:Addr):It:=
  ⟨fun i H=>∃ xs x,SqL K H a xs∧xs[i]? = some x,fun i H x H'=>H' = H∧∀ xs,SqL K H a xs→xs[i]? = some x,fun i H=>∃ xs,SqL K H a xs∧xs.length ≤ i⟩
def Itr (lo:Int) (n:Nat):It:=⟨fun i _=>i < n,fun i H x H'=>H' = H∧x = .int (lo + i),fun i _=>n ≤ i⟩
theorem turn_list {P:Program} {w:World} {K:PySem.W.Frag} {tg:Expr} (a it:Addr):Turn P w K tg (Itl K a) [it] it (fun i h=>h.IsListIter it a i) where
  mem:=by simp
  obj:=fun i h st b hb=>by
    have e:b = it:=by simpa using hb
    subst e
    obtain ⟨o,e,c,d⟩:=st
    exact ⟨o,e,fun v z=>by rw [d] at z; cases z⟩
  keep:=fun i h h' st k=>st.at fun o e=>k it (by simp) o e
  item:=by
    intro X hP hw hK hc i pins s σ H E I hf st hg
    subst hP hw hK
    obtain ⟨xs,x,hq,hx⟩:=hg
    obtain ⟨its,rv,p,hz⟩:=I.list hq
    obtain ⟨u,hu,ru⟩:=rv.get hx
    obtain ⟨f0,f1,f2,f3,f4,f5⟩:=hf it (by simp)
    refine wpAny_pyNext_list_item st p.isList (x:=u) (by simpa using hu) fun h' st' sb=>?_
    have I1:Inv X pins σ H { s with heap:=h' }:=I.turned (t':=s.toks) (fun b o hb e=>(sb.2 b hb).trans e) f0 f1 f3 f4 f5
    obtain ⟨o,e,c,d⟩:=id st'
    exact ⟨u,rfl,go_of (s:={ s with heap:=h' }) e c d (by decide) ⟨x,H,I1,ru,⟨rfl,fun ys hy=>by rw [I.list_inj hy hq]; exact hx⟩,st',fun b hb=>(hf b hb).1⟩⟩
  done:=by
    intro X hP hw hK hc i pins s σ H E I hf st hg
    subst hP hw hK
    obtain ⟨xs,hq,hx⟩:=hg
    obtain ⟨its,rv,p,hz⟩:=I.list hq
    obtain ⟨f0,f1,f2,f3,f4,f5⟩:=hf it (by simp)
    have hl:=rv.length
    exact wpAny_pyNext_list_end (I.ok.hd hc) st p.isList (by simp; omega) fun h' eb=>⟨rfl,I.turned (t':=s.toks) (fun b o hb e=>eb b o hb e) f0 f1 f3 f4 f5⟩
  self:=fun _ _ _ _ _ st h=>wpAny_pyIter_listiter st h
theorem turn_range {P:Program} {w:World} {K:PySem.W.Frag} {tg:Expr} (it:Addr) (lo:Int) (n:Nat):Turn P w K tg (Itr lo n) [it] it (fun i h=>IsRangeIter h it (lo + (i:Nat) * 1) ((n:Int) - (i:Nat)) 1) where
  mem:=by simp
  obj:=fun i h st b hb=>by
    have e:b = it:=by simpa using hb
    subst e
    exact ⟨_,st,fun v z=>by
      have z':Data.fields _ = Data.cell v:=z
      cases z'⟩
  keep:=fun i h h' st k=>k it (by simp) _ st
  item:=by
    intro X hP hw hK hc i pins s σ H E I hf st hg
    subst hP hw hK
    obtain ⟨f0,f1,f2,f3,f4,f5⟩:=hf it (by simp)
    have W:=Walks.range (prog:=X.prog) (w:=X.w) (I.ok.hd hc) it lo 1 n
    refine W.item i s _ _ hg st fun v h' tk hv st' kk=>?_
    obtain ⟨t,rfl⟩:=hv
    have I1:Inv X pins σ H { s with heap:=h',toks:=tk }:=I.turned (fun b o hb e=>kk b o (by simpa using hb) e) f0 f1 f3 f4 f5
    refine ⟨_,rfl,go_of (s:={ s with heap:=h',toks:=tk }) (n:="range_iterator") st' rfl rfl (by decide) ⟨.int (lo + i),H,I1,⟨t,?_⟩,⟨rfl,rfl⟩,st',fun b hb=>(hf b hb).1⟩⟩
    rw [Int.mul_one]
  done:=by
    intro X hP hw hK hc i pins s σ H E I hf st hg
    subst hP hw hK
    obtain ⟨f0,f1,f2,f3,f4,f5⟩:=hf it (by simp)
    exact wpAny_pyNext_range_end (I.ok.hd hc) st (by have:n ≤ i:=hg; omega) fun h' eb=>⟨rfl,I.turned (t':=s.toks) (fun b o hb e=>eb b o hb e) f0 f1 f3 f4 f5⟩
  self:=fun _ _ _ _ _ st h=>wpAny_pyIter_rangeiter st h
end L2
namespace L2
open PySem PySem.Spec PyProof.Rows
section
variable {X:Cx} {tg:Expr}
def iList (K:PySem.W.Frag) (tl:TE):TI:=fun σ H R=>tl σ H fun x H1=>∃ a,x = .ref a∧(∃ xs,SqL K H1 a xs)∧R (Itl K a) H1
theorem pi_list {l:Expr} {tl:TE} (hl:PE X l tl):PI X tg l (iList X.K tl):=by
  intro pins s σ H R I h
  refine thn (hl pins s σ H _ I h) fun v s1 ⟨x,H1,I1,r1,q1⟩=>?_
  obtain ⟨a,e,⟨xs,hq⟩,q⟩:=q1
  subst e
  cases r1
  obtain ⟨its,rv,p,hz⟩:=I1.list hq
  refine wpAny_pyIter_list p.isList ?_
  refine ⟨s1.heap.objs.size,[s1.heap.objs.size],_,_,H1,rfl,I1.kept (t':=s1.toks) fun b o e=>Heap.get?_push_of_some _ e,turn_list a _,⟨_,Heap.get?_push_size _ rfl,rfl,rfl⟩,fun b hb=>?_,q⟩
  have e:b = s1.heap.objs.size:=by simpa using hb
  subst e
  exact I1.fpOk (Nat.le_refl _) (I1.hok.fresh (Nat.le_refl _))
theorem range_it {pins:List (Addr × Obj)} {σ:St} {H:Hp} {s:Shared} {R:It→Hp→Prop} {E:Value→Shared→Prop} {lo hi:Int} {t u v:Tok} {tk:Nat} (I:Inv X pins σ H s) (h1:-(2 ^ 62) ≤ lo) (h2:lo < 2 ^ 62) (h3:-(2 ^ 62) ≤ hi) (h4:hi < 2 ^ 62)
    (q:R (Itr lo (hi - lo).toNat) H):wpAny (model X.prog X.w) X.A (pyIter (.ref s.heap.objs.size)) (PIE X pins σ tg R) E { s with heap:=s.heap.push { cls:=.type "range",data:=.fields #[.int lo t,.int hi u,.int 1 v] },toks:=tk }:=by
  refine wpAny_pyIter_range (IsRange.new ..) (small_one h1 h2 h3 h4) ?_
  have I1:Inv X pins σ H { s with heap:=s.heap.push { cls:=.type "range",data:=.fields #[.int lo t,.int hi u,.int 1 v] },toks:=tk }:=I.kept fun b o e=>Heap.get?_push_of_some _ e
  refine ⟨(s.heap.push { cls:=.type "range",data:=.fields #[.int lo t,.int hi u,.int 1 v] }).objs.size,[(s.heap.push { cls:=.type "range",data:=.fields #[.int lo t,.int hi u,.int 1 v] }).objs.size],_,_,H,rfl,
    I1.kept (t':=tk) fun b o e=>Heap.get?_push_of_some _ e,turn_range _ lo (hi - lo).toNat,?_,fun b hb=>?_,q⟩
  · have e1:lo + ((0:Nat):Int) * 1 = lo:=by simp
    have e2:(((hi - lo).toNat:Nat):Int) - ((0:Nat):Int) = Builtin.Range.rangeSize lo hi 1:=by rw [rangeSize_one]; split <;> omega
    show IsRangeIter _ _ (lo + ((0:Nat):Int) * 1) ((((hi - lo).toNat:Nat):Int) - ((0:Nat):Int)) 1
    rw [e1,e2]
    exact Heap.get?_push_size _ rfl
  · have e:b = (s.heap.push { cls:=.type "range",data:=.fields #[.int lo t,.int hi u,.int 1 v] }).objs.size:=by simpa using hb
    subst e
    exact I1.fpOk (Nat.le_refl _) (I1.hok.fresh (Nat.le_refl _))
def iRng1 (ta:TA):TI:=fun σ H R=>ta σ H fun vs H1=>∃ j:Int,vs = [.int j]∧-(2 ^ 62) ≤ j∧j < 2 ^ 62∧R (Itr 0 j.toNat) H1
def iRng2 (ta:TA):TI:=fun σ H R=>ta σ H fun vs H1=>∃ i j:Int,vs = [.int i,.int j]∧(-(2 ^ 62) ≤ i∧i < 2 ^ 62∧-(2 ^ 62) ≤ j∧j < 2 ^ 62)∧R (Itr i (j - i).toNat) H1
theorem pi_range1 {a:Expr} {ta:TA} {p pos:Pos} (hg:Gl X "range") (hm:X.mg "range" = none) (ha:PA X [a] ta) (hs:starEach [a] X.env = [(false,eval a X.env)]:=by rfl):PI X tg (.Call (.Name "range" p) [a] [] pos) (iRng1 ta):=by
  intro pins s σ H R I h
  refine Call_ (ld_blt I hg hm boot_range (PyProof.Rows.callWith_type1 (thn (ha pos pins s σ H _ I h) fun us s1 ⟨vs,H1,I1,r1,q1⟩=>?_) hs rfl))
  obtain ⟨j,e,q1,q2,q⟩:=q1
  subst e
  cases r1 with
  | cons r rr=>
    cases rr
    obtain ⟨t,rfl⟩:=r
    exact call_range_1 (range_it I1 (by omega) (by omega) q1 q2 (by simpa using q))
theorem pi_range2 {a b:Expr} {ta:TA} {p pos:Pos} (hg:Gl X "range") (hm:X.mg "range" = none) (ha:PA X [a,b] ta) (hs:starEach [a,b] X.env = [(false,eval a X.env),(false,eval b X.env)]:=by rfl) (hs2:starEach [b] X.env = [(false,eval b X.env)]:=by rfl) :
    PI X tg (.Call (.Name "range" p) [a,b] [] pos) (iRng2 ta):=by
  intro pins s σ H R I h
  refine Call_ (ld_blt I hg hm boot_range (PyProof.Rows.callWith_type1 (thn (ha pos pins s σ H _ I h) fun us s1 ⟨vs,H1,I1,r1,q1⟩=>?_) (by rw [hs,hs2]) (by rw [hs2]; rfl)))
  obtain ⟨i,j,e,⟨q1,q2,q3,q4⟩,q⟩:=q1
  subst e
  cases r1 with
  | cons r rr=>
    cases rr with
    | cons r' rr=>
      cases rr
      obtain ⟨t,rfl⟩:=r
      obtain ⟨t',rfl⟩:=r'
      exact call_range_2 (range_it I1 q1 q2 q3 q4 q)
def tFor (wi:TI) (g:TG) (tb:TS):TS:=fun D σ H=>wi σ H fun J H1=>∃ W:Nat→Nat→St→Hp→Prop,(∃ m,W 0 m σ H1)∧∀ i m σ H,W i m σ H→
  (J.stop i H∧D.nx σ H) ∨ (J.go i H∧∃ N:St→Hp→Prop,(∀ σ' H',N σ' H'→∃ m',m' < m∧W (i + 1) m' σ' H')∧∀ x H',J.yld i H x H'→g x σ H' fun σ2 H2=>tb { D with nx:=N,ct:=N,bk:=D.nx } σ2 H2)
def pinsAt (fp:List Addr) (h:Heap):List (Addr × Obj):=fp.filterMap fun b=>(h.get? b).map fun o=>(b,o)
theorem mem_pinsAt {fp:List Addr} {h:Heap} {b:Addr} {o:Obj} (hb:b ∈ fp) (e:h.get? b = some o):(b,o) ∈ pinsAt fp h:=List.mem_filterMap.mpr ⟨b,hb,by rw [e]; rfl⟩
theorem of_pinsAt {fp:List Addr} {h:Heap} {p:Addr × Obj} (hp:p ∈ pinsAt fp h):p.1 ∈ fp∧h.get? p.1 = some p.2:=by
  obtain ⟨b,hb,e⟩:=List.mem_filterMap.mp hp
  cases q:h.get? b with
  | none=>rw [q] at e; cases e
  | some o=>
    rw [q] at e
    have e':(b,o) = p:=Option.some.inj e
    subst e'
    exact ⟨hb,q⟩
theorem Inv.pinned {pins:List (Addr × Obj)} {σ:St} {H:Hp} {s:Shared} {fp:List Addr} (I:Inv X pins σ H s) (hf:∀ b ∈ fp,FpOk X pins H b) (ho:∀ b ∈ fp,∃ o,s.heap.get? b = some o∧∀ v,o.data ≠ .cell v):Inv X (pins ++ pinsAt fp s.heap) σ H s:=
  I.pins_of fun p hp=>(List.mem_append.mp hp).elim (fun z=>I.pin p (List.mem_append_right _ z)) fun z=>by
    obtain ⟨hb,e⟩:=of_pinsAt z
    obtain ⟨f0,f1,f2,_⟩:=hf p.1 hb
    obtain ⟨o,e',d⟩:=ho p.1 hb
    rw [e] at e'; cases e'
    exact ⟨e,f0,f1,f2,d⟩
theorem Inv.unpinned {pins pl:List (Addr × Obj)} {σ:St} {H:Hp} {s:Shared} (I:Inv X (pins ++ pl) σ H s):Inv X pins σ H s:=I.pins_of fun p hp=>I.pin p (List.mem_append_right _ (List.mem_append_left _ hp))
theorem ps_for {iter:Expr} {body:List Stmt} {wi:TI} {g:TG} {tb:TS} {pos:Pos} (hp:PassesOwn (model X.prog X.w) X.A X.env X.xe) (hc:X.calm = true) (hi:PI X tg iter wi) (hg:PG X tg g) (hb:PSs X body tb)
    (hs:∀ x,foldedSetIterable iter X.env x = pure x:=by intro _; rfl):PS X (.For tg iter body [] pos) (tFor wi g tb):=by
  intro pins s σ H D I h
  refine wpAny_For (thn (hi pins s σ H _ I h) fun v s1 h1=>thn h1 fun itv s2 h2=>?_) hs
  obtain ⟨it,fp,tn,J,H2,e,I2,T,st2,f2,W,⟨m0,w0⟩,turn⟩:=h2
  subst e
  have stat:∀ {H':Hp},(∀ b ∈ fp,H' b = none)→∀ b ∈ fp,FpOk X pins H' b:=fun hn b hb=>⟨hn b hb,(f2 b hb).2⟩
  refine codeAny_forLoop_any (fun n s'=>∃ i σ' H',Inv X pins σ' H' s'∧tn i s'.heap∧(∀ b ∈ fp,H' b = none)∧W i n σ' H') ?_ m0 ⟨0,σ,H2,I2,st2,fun b hb=>(f2 b hb).1,w0⟩
  rintro n s3 ⟨i,σ3,H3,I3,st3,fr3,w3⟩
  rcases turn i n σ3 H3 w3 with ⟨stop,qn⟩ | ⟨go,N,hN,step⟩
  · refine wpAny_passesOwn hp (thn (T.done X rfl rfl rfl hc i pins s3 σ3 H3 X.xe I3 (stat fr3) st3 stop) fun r s4 ⟨hr,I4⟩=>?_)
    subst hr
    exact wpAny_execs_nil ⟨σ3,H3,I4,qn⟩
  · refine wpAny_passesOwn hp (thn (T.item X rfl rfl rfl hc i pins s3 σ3 H3 X.xe I3 (stat fr3) st3 go) fun r s4 ⟨u,hr,h4⟩=>?_)
    subst hr
    refine wpAny_passesOwn hp (thn h4 fun _ s5 ⟨x,H5,I5,r5,y5,st5,fr5⟩=>?_)
    have I5':=I5.pinned (stat fr5) (T.obj _ _ st5)
    refine wpAny_passesOwn hp (thn (hg _ s5 σ3 H5 x u _ I5' r5 (step x H5 y5)) fun _ s6 ⟨σ6,H6,I6,q6⟩=>?_)
    refine wpAny_passesOwn hp (thn (hb _ s6 σ6 H6 _ I6 q6) fun f s7 q7=>?_)
    have again:∀ {σ7:St} {H7:Hp},Inv X (pins ++ pinsAt fp s5.heap) σ7 H7 s7→N σ7 H7→∃ m,m < n∧∃ i σ' H',Inv X pins σ' H' s7∧tn i s7.heap∧(∀ b ∈ fp,H' b = none)∧W i m σ' H':=fun {σ7 H7} I7 n7=>by
      obtain ⟨m',hm,w7⟩:=hN σ7 H7 n7
      refine ⟨m',hm,i + 1,σ7,H7,I7.unpinned,T.keep _ _ _ st5 fun b hb o e=>(I7.pin (b,o) (List.mem_append_right _ (List.mem_append_right _ (mem_pinsAt hb e)))).1,fun b hb=>?_,w7⟩
      obtain ⟨o,e,d⟩:=T.obj _ _ st5 b hb
      exact (I7.pin (b,o) (List.mem_append_right _ (List.mem_append_right _ (mem_pinsAt hb e)))).2.1
    cases f with
    | next=>obtain ⟨σ7,H7,I7,n7⟩:=q7; exact again I7 n7
    | cont=>obtain ⟨σ7,H7,I7,n7⟩:=q7; exact again I7 n7
    | brk=>obtain ⟨σ7,H7,I7,q7⟩:=q7; exact ⟨σ7,H7,I7.unpinned,q7⟩
    | ret v=>obtain ⟨x7,σ7,H7,I7,r7,q7⟩:=q7; exact ⟨x7,σ7,H7,I7.unpinned,r7,q7⟩
end
theorem for_list {K:PySem.W.Frag} {a:Addr} {xs:List V} {g:TG} {tb:TS} {D:Ends} {σ:St} {H:Hp} (Pv:Nat→St→Hp→Prop) (h0:Pv 0 σ H) (hl:∀ i σ H,i ≤ xs.length→Pv i σ H→SqL K H a xs)
    (hs:∀ i x σ H,xs[i]? = some x→Pv i σ H→g x σ H fun σ2 H2=>tb { D with nx:=Pv (i + 1),ct:=Pv (i + 1),bk:=D.nx } σ2 H2) (hd:∀ σ H,Pv xs.length σ H→D.nx σ H) :
    ∃ W:Nat→Nat→St→Hp→Prop,(∃ m,W 0 m σ H)∧∀ i m σ H,W i m σ H→
      ((Itl K a).stop i H∧D.nx σ H) ∨ ((Itl K a).go i H∧∃ N:St→Hp→Prop,(∀ σ' H',N σ' H'→∃ m',m' < m∧W (i + 1) m' σ' H')∧∀ x H',(Itl K a).yld i H x H'→g x σ H' fun σ2 H2=>tb { D with nx:=N,ct:=N,bk:=D.nx } σ2 H2):=by
  refine ⟨fun i m σ H=>m = xs.length - i∧i ≤ xs.length∧Pv i σ H,⟨xs.length,by simp,Nat.zero_le _,h0⟩,?_⟩
  rintro i m σ H ⟨rfl,hi,p⟩
  have q:=hl i σ H hi p
  by_cases hlt:i < xs.length
  · refine .inr ⟨⟨xs,xs[i],q,by simp [hlt]⟩,Pv (i + 1),fun σ' H' p'=>⟨xs.length - (i + 1),by omega,rfl,hlt,p'⟩,fun x H' y=>?_⟩
    obtain ⟨e,y⟩:=y
    subst e
    exact hs i x σ _ (y xs q) p
  · have e:i = xs.length:=by omega
    subst e
    exact .inl ⟨⟨xs,q,Nat.le_refl _⟩,hd σ H p⟩
end L2
namespace L2
open PySem PySem.Spec PyProof.Rows
abbrev R2:=V→V→Hp→VK→Prop
def OpR (X:Cx) (f:Value→Value→Sem Value) (r:R2):Prop:=
  ∀ (pins:List (Addr × Obj)) (s:Shared) (σ:St) (H:Hp) (x y:V) (v u:Value) (Q:VK),Inv X pins σ H s→RelV x v→RelV y u→r x y H Q→
    wpAny (model X.prog X.w) X.A (f v u) (EP X pins σ Q) X.xe s
def UnR (X:Cx) (f:Value→Sem Value) (r:V→Hp→VK→Prop):Prop:=
  ∀ (pins:List (Addr × Obj)) (s:Shared) (σ:St) (H:Hp) (x:V) (v:Value) (Q:VK),Inv X pins σ H s→RelV x v→r x H Q→
    wpAny (model X.prog X.w) X.A (f v) (EP X pins σ Q) X.xe s
def CallR (X:Cx) (f:Value) (r:List V→Hp→VK→Prop):Prop:=
  ∀ (pins:List (Addr × Obj)) (s:Shared) (σ:St) (H:Hp) (xs:List V) (us:List Value) (Q:VK),Inv X pins σ H s→Vals xs us→r xs H Q→
    wpAny (model X.prog X.w) X.A (call f us) (EP X pins σ Q) X.xe s
def TruR (X:Cx) (r:V→Hp→(Bool→Hp→Prop)→Prop):Prop:=
  ∀ (pins:List (Addr × Obj)) (s:Shared) (σ:St) (H:Hp) (x:V) (v:Value) (Q:Bool→Hp→Prop),Inv X pins σ H s→RelV x v→r x H Q→
    wpAny (model X.prog X.w) X.A (truthy v) (TP X pins σ Q) X.xe s
def tOp (r:R2) (ta tb:TE):TE:=fun σ H Q=>ta σ H fun x H1=>tb σ H1 fun y H2=>r x y H2 Q
def tUn (r:V→Hp→VK→Prop) (ta:TE):TE:=fun σ H Q=>ta σ H fun x H1=>r x H1 Q
def rI (C:Int→Int→Prop) (g:Int→Int→V):R2:=fun x y H Q=>∃ i j,x = .int i∧y = .int j∧C i j∧Q (g i j) H
def rI0 (g:Int→Int→V):R2:=fun x y H Q=>∃ i j,x = .int i∧y = .int j∧Q (g i j) H
def rU (g:Int→V):V→Hp→VK→Prop:=fun x H Q=>∃ i,x = .int i∧Q (g i) H
section
variable {X:Cx} {a b c:Expr} {ta tb tc:TE} {pos:Pos}
theorem binT (ha:PE X a ta) (hb:PE X b tb) {pins:List (Addr × Obj)} {s:Shared} {σ:St} {H:Hp} {R:V→V→Hp→Prop} (I:Inv X pins σ H s)
    (h:ta σ H fun x H1=>tb σ H1 fun y H2=>R x y H2) {Q:Value→Shared→Prop} {f:Value→Value→Sem Value}
    (hf:∀ v u s2 x y H2,Inv X pins σ H2 s2→RelV x v→RelV y u→R x y H2→wpAny (model X.prog X.w) X.A (f v u) Q X.xe s2) :
    wpAny (model X.prog X.w) X.A (eval a X.env) (fun v s₁=>wpAny (model X.prog X.w) X.A (eval b X.env) (fun u s₂=>wpAny (model X.prog X.w) X.A (f v u) Q X.xe s₂) X.xe s₁) X.xe s:=by
  refine thn (ha pins s σ H _ I h) fun v s1 ⟨x,H1,I1,r1,q1⟩=>?_
  refine thn (hb pins s1 σ H1 _ I1 q1) fun u s2 ⟨y,H2,I2,r2,q2⟩=>?_
  exact hf v u s2 x y H2 I2 r1 r2 q2
theorem pe_op {op:Operator} {r:R2} (ho:OpR X (binaryOp op) r) (ha:PE X a ta) (hb:PE X b tb):PE X (.BinOp a op b pos) (tOp r ta tb):=by
  intro pins s σ H Q I h
  exact wpAny_BinOp (binT ha hb I h fun v u s2 x y H2 I2 rx ry q=>ho pins s2 σ H2 x y v u Q I2 rx ry q)
theorem pe_un {op:UnaryOp} {r:V→Hp→VK→Prop} (ho:UnR X (unaryOp op) r) (ha:PE X a ta):PE X (.UnaryOp op a pos) (tUn r ta):=by
  intro pins s σ H Q I h
  exact UnaryOp_ (thn (ha pins s σ H _ I h) fun v s1 ⟨x,H1,I1,r1,q1⟩=>ho pins s1 σ H1 x v Q I1 r1 q1)
theorem opI {f:Value→Value→Sem Value} {C:Int→Int→Prop} {g:Int→Int→Int}
    (rule:∀ (i j:Int) (t u:Tok) (s:Shared) (Q:Value→Shared→Prop) (E:Value→Shared→Prop),C i j→Q (.int (g i j) s.toks) { s with toks:=s.toks + 1 }→wpAny (model X.prog X.w) X.A (f (.int i t) (.int j u)) Q E s) :
    OpR X f (rI C fun i j=>.int (g i j)):=by
  intro pins s σ H x y v u Q I rx ry h
  obtain ⟨i,j,rfl,rfl,hc,q⟩:=h
  obtain ⟨t,rfl⟩:=rx
  obtain ⟨t',rfl⟩:=ry
  exact rule i j t t' s _ _ hc ⟨.int (g i j),H,I.tok _,⟨_,rfl⟩,q⟩
theorem opI0 {f:Value→Value→Sem Value} {g:Int→Int→Int}
    (rule:∀ (i j:Int) (t u:Tok) (s:Shared) (Q:Value→Shared→Prop) (E:Value→Shared→Prop),Q (.int (g i j) s.toks) { s with toks:=s.toks + 1 }→wpAny (model X.prog X.w) X.A (f (.int i t) (.int j u)) Q E s) :
    OpR X f (rI0 fun i j=>.int (g i j)):=by
  intro pins s σ H x y v u Q I rx ry h
  obtain ⟨i,j,rfl,rfl,q⟩:=h
  obtain ⟨t,rfl⟩:=rx
  obtain ⟨t',rfl⟩:=ry
  exact rule i j t t' s _ _ ⟨.int (g i j),H,I.tok _,⟨_,rfl⟩,q⟩
theorem opB0 {f:Value→Value→Sem Value} {g:Int→Int→Bool}
    (rule:∀ (i j:Int) (t u:Tok) (s:Shared) (Q:Value→Shared→Prop) (E:Value→Shared→Prop),Q (.bool (g i j)) s→wpAny (model X.prog X.w) X.A (f (.int i t) (.int j u)) Q E s) :
    OpR X f (rI0 fun i j=>.bl (g i j)):=by
  intro pins s σ H x y v u Q I rx ry h
  obtain ⟨i,j,rfl,rfl,q⟩:=h
  obtain ⟨t,rfl⟩:=rx
  obtain ⟨t',rfl⟩:=ry
  exact rule i j t t' s _ _ ⟨.bl (g i j),H,I,rfl,q⟩
def CDiv (i j:Int):Prop:=0 < j∧j < 1073741824
def CPow (i j:Int):Prop:=0 ≤ j∧j ≤ 1000000∧i.natAbs < 2 ^ 64
def CMul (i j:Int):Prop:=(-(2 ^ 64) < i∧i < 2 ^ 64) ∨ (-(2 ^ 64) < j∧j < 2 ^ 64)
theorem CMul.ok {i j:Int} (h:CMul i j):IntMulOk i j:=by
  rcases h with ⟨h1,h2⟩ | ⟨h1,h2⟩
  · exact .of_left (intBits_le_64 h1 h2)
  · exact .of_right (intBits_le_64 h1 h2)
theorem op_add:OpR X (binaryOp .Add) (rI0 fun i j=>.int (i + j)):=opI0 fun _ _ _ _ _ _ _ q=>add_int q
theorem op_sub:OpR X (binaryOp .Sub) (rI0 fun i j=>.int (i - j)):=opI0 fun _ _ _ _ _ _ _ q=>sub_int q
theorem op_mul:OpR X (binaryOp .Mult) (rI CMul fun i j=>.int (i * j)):=opI fun _ _ _ _ _ _ _ hc q=>mul_int q hc.ok
theorem op_fdiv:OpR X (binaryOp .FloorDiv) (rI CDiv fun i j=>.int (i / j)):=opI fun i j _ _ _ _ _ hc q=>by
  have h1:(0:Int) < j:=hc.1
  have h2:j < 1073741824:=hc.2
  exact floordiv_int (by omega) (by rw [Int.fdiv_eq_ediv_of_nonneg i (by omega)]; exact q) (.inl (PyProof.noPylong_small (by omega)))
theorem op_mod:OpR X (binaryOp .Mod) (rI (fun _ j=>0 < j) fun i j=>.int (i % j)):=opI fun i j _ _ _ _ _ hc q=>by
  have h1:(0:Int) < j:=hc
  exact mod_int' (by omega) (by rw [Int.fmod_eq_emod_of_nonneg i (by omega)]; exact q)
theorem op_pow:OpR X (binaryOp .Pow) (rI CPow fun i j=>.int (i ^ j.toNat)):=opI fun _ _ _ _ _ _ _ hc q=>pow_int_small hc.1 hc.2.1 hc.2.2 q
theorem unI {f:Value→Sem Value} {g:Int→Int}
    (rule:∀ (i:Int) (t:Tok) (s:Shared) (Q:Value→Shared→Prop) (E:Value→Shared→Prop),Q (.int (g i) s.toks) { s with toks:=s.toks + 1 }→wpAny (model X.prog X.w) X.A (f (.int i t)) Q E s) :
    UnR X f (rU fun i=>.int (g i)):=by
  intro pins s σ H x v Q I rx h
  obtain ⟨i,rfl,q⟩:=h
  obtain ⟨t,rfl⟩:=rx
  exact rule i t s _ _ ⟨.int (g i),H,I.tok _,⟨_,rfl⟩,q⟩
theorem un_neg:UnR X (unaryOp .USub) (rU fun i=>.int (-i)):=unI fun _ _ _ _ _ q=>neg_int q
end
def scal:V→V→Bool
  | .non,.non=>true | .non,.int _=>true | .int _,.non=>true | .non,.bl _=>true | .bl _,.non=>true | .non,.str _=>true | .str _,.non=>true
  | .int _,.int _=>true | .bl _,.bl _=>true | .str _,.str _=>true | .byt _,.byt _=>true
  | .int _,.str _=>true | .str _,.int _=>true | .bl _,.str _=>true | .str _,.bl _=>true
  | _,_=>false
def rEq:R2:=fun x y H Q=>scal x y = true∧Q (.bl (decide (x = y))) H
def rNe:R2:=fun x y H Q=>scal x y = true∧Q (.bl (!decide (x = y))) H
theorem dec_int {i j:Int}:decide (V.int i = V.int j) = (i == j):=by
  rw [Bool.eq_iff_iff]
  simp
theorem dec_bl {i j:Bool}:decide (V.bl i = V.bl j) = (i == j):=by
  rw [Bool.eq_iff_iff]
  simp
theorem dec_str {i j:Str}:decide (V.str i = V.str j) = (i == j):=by
  rw [Bool.eq_iff_iff]
  simp
theorem dec_byt {i j:Array UInt8}:decide (V.byt i = V.byt j) = (i.toList == j.toList):=by
  rw [Bool.eq_iff_iff]
  cases i
  cases j
  simp
section
variable {X:Cx} {a b c:Expr} {ta tb tc:TE} {pos:Pos}
theorem fin_bl {pins:List (Addr × Obj)} {σ:St} {H:Hp} {s:Shared} {Q:VK} {k k':Bool} (I:Inv X pins σ H s) (q:Q (.bl k) H) (e:k = k'):EP X pins σ Q (.bool k') s:=by
  subst e
  exact ⟨.bl k,H,I,rfl,q⟩
theorem op_eq:OpR X (compareOp .Eq) rEq:=by
  intro pins s σ H x y v u Q I rx ry h
  obtain ⟨hs,q⟩:=h
  cases x with
  | non=>
    cases rx
    cases y with
    | non=>cases ry; exact PySem.EqNone.eq_none_none (fin_bl I q (by simp))
    | bl j=>cases ry; exact PySem.EqNone.eq_none_bool (fin_bl I q (by simp))
    | int j=>obtain ⟨t',rfl⟩:=ry; exact PySem.EqNone.eq_none_int (fin_bl I q (by simp))
    | str j=>obtain ⟨t',rfl⟩:=ry; exact PySem.EqNone.eq_none_str (fin_bl I q (by simp))
    | _=>exact absurd (show false = true from hs) Bool.false_ne_true
  | bl i=>
    cases rx
    cases y with
    | non=>cases ry; exact PySem.EqNone.eq_bool_none (fin_bl I q (by simp))
    | bl j=>cases ry; exact eq_bool (fin_bl I q dec_bl)
    | str j=>obtain ⟨t',rfl⟩:=ry; exact PySem.EqMixed.eq_bool_str (fin_bl I q (by simp))
    | _=>exact absurd (show false = true from hs) Bool.false_ne_true
  | int i=>
    obtain ⟨t,rfl⟩:=rx
    cases y with
    | non=>cases ry; exact PySem.EqNone.eq_int_none (fin_bl I q (by simp))
    | int j=>obtain ⟨t',rfl⟩:=ry; exact eq_int (fin_bl I q dec_int)
    | str j=>obtain ⟨t',rfl⟩:=ry; exact PySem.EqMixed.eq_int_str (fin_bl I q (by simp))
    | _=>exact absurd (show false = true from hs) Bool.false_ne_true
  | str i=>
    obtain ⟨t,rfl⟩:=rx
    cases y with
    | non=>cases ry; exact PySem.EqNone.eq_str_none (fin_bl I q (by simp))
    | bl j=>cases ry; exact PySem.EqMixed.eq_str_bool (fin_bl I q (by simp))
    | int j=>obtain ⟨t',rfl⟩:=ry; exact PySem.EqMixed.eq_str_int (fin_bl I q (by simp))
    | str j=>obtain ⟨t',rfl⟩:=ry; exact eq_str (fin_bl I q dec_str)
    | _=>exact absurd (show false = true from hs) Bool.false_ne_true
  | byt i=>
    obtain ⟨t,rfl⟩:=rx
    cases y with
    | byt j=>obtain ⟨t',rfl⟩:=ry; exact PySem.W.eq_bytes (fin_bl I q dec_byt)
    | _=>exact absurd (show false = true from hs) Bool.false_ne_true
  | _=>cases y <;> exact absurd (show false = true from hs) Bool.false_ne_true
theorem op_ne:OpR X (compareOp .NotEq) rNe:=by
  intro pins s σ H x y v u Q I rx ry h
  obtain ⟨hs,q⟩:=h
  cases x with
  | non=>
    cases rx
    cases y with
    | non=>cases ry; exact PySem.EqNone.ne_none_none (fin_bl I q (by simp))
    | bl j=>cases ry; exact PySem.EqNone.ne_none_bool (fin_bl I q (by simp))
    | int j=>obtain ⟨t',rfl⟩:=ry; exact PySem.EqNone.ne_none_int (fin_bl I q (by simp))
    | str j=>obtain ⟨t',rfl⟩:=ry; exact PySem.EqNone.ne_none_str (fin_bl I q (by simp))
    | _=>exact absurd (show false = true from hs) Bool.false_ne_true
  | bl i=>
    cases rx
    cases y with
    | non=>cases ry; exact PySem.EqNone.ne_bool_none (fin_bl I q (by simp))
    | bl j=>cases ry; exact ne_bool (fin_bl I q (congrArg not dec_bl))
    | str j=>obtain ⟨t',rfl⟩:=ry; exact PySem.EqMixed.ne_bool_str (fin_bl I q (by simp))
    | _=>exact absurd (show false = true from hs) Bool.false_ne_true
  | int i=>
    obtain ⟨t,rfl⟩:=rx
    cases y with
    | non=>cases ry; exact PySem.EqNone.ne_int_none (fin_bl I q (by simp))
    | int j=>obtain ⟨t',rfl⟩:=ry; exact ne_int (fin_bl I q (congrArg not dec_int))
    | str j=>obtain ⟨t',rfl⟩:=ry; exact PySem.EqMixed.ne_int_str (fin_bl I q (by simp))
    | _=>exact absurd (show false = true from hs) Bool.false_ne_true
  | str i=>
    obtain ⟨t,rfl⟩:=rx
    cases y with
    | non=>cases ry; exact PySem.EqNone.ne_str_none (fin_bl I q (by simp))
    | bl j=>cases ry; exact PySem.EqMixed.ne_str_bool (fin_bl I q (by simp))
    | int j=>obtain ⟨t',rfl⟩:=ry; exact PySem.EqMixed.ne_str_int (fin_bl I q (by simp))
    | str j=>obtain ⟨t',rfl⟩:=ry; exact ne_str (fin_bl I q (congrArg not dec_str))
    | _=>exact absurd (show false = true from hs) Bool.false_ne_true
  | byt i=>
    obtain ⟨t,rfl⟩:=rx
    cases y with
    | byt j=>obtain ⟨t',rfl⟩:=ry; exact PySem.W.ne_bytes (fin_bl I q (congrArg not dec_byt))
    | _=>exact absurd (show false = true from hs) Bool.false_ne_true
  | _=>cases y <;> exact absurd (show false = true from hs) Bool.false_ne_true
theorem op_lt:OpR X (compareOp .Lt) (rI0 fun i j=>.bl (decide (i < j))):=opB0 fun _ _ _ _ _ _ _ q=>lt_int q
theorem op_le:OpR X (compareOp .LtE) (rI0 fun i j=>.bl (decide (i ≤ j))):=opB0 fun _ _ _ _ _ _ _ q=>le_int q
theorem op_gt:OpR X (compareOp .Gt) (rI0 fun i j=>.bl (decide (j < i))):=opB0 fun _ _ _ _ _ _ _ q=>gt_int q
theorem op_ge:OpR X (compareOp .GtE) (rI0 fun i j=>.bl (decide (j ≤ i))):=opB0 fun _ _ _ _ _ _ _ q=>ge_int q
theorem op_isN:OpR X (compareOp .Is) (fun x y H Q=>y = .non∧Q (.bl (decide (x = .non))) H):=by
  intro pins s σ H x y v u Q I rx ry h
  obtain ⟨rfl,q⟩:=h
  cases ry
  refine is_none_gen (fin_bl I q ?_)
  cases x <;> first
    | (cases rx; rfl)
    | (obtain ⟨t,rfl⟩:=rx; rfl)
theorem nomark (b:Expr) {op:CmpOp} (h:op ≠ .In:=by decide) (h2:op ≠ .NotIn:=by decide):behindInMarks op b = false:=by
  have e1:(op == CmpOp.In) = false:=by cases op <;> first | rfl | exact absurd rfl h
  have e2:(op == CmpOp.NotIn) = false:=by cases op <;> first | rfl | exact absurd rfl h2
  cases b <;> simp [behindInMarks,e1,e2]
theorem pe_cmpR {op:CmpOp} {r:R2} (ho:OpR X (compareOp op) r) (ha:PE X a ta) (hb:PE X b tb) (hm:behindInMarks op b = false):PE X (.Compare a [op] [b] pos) (tOp r ta tb):=by
  intro pins s σ H Q I h
  exact wpAny_Compare1 (binT ha hb I h fun v u s2 x y H2 I2 rx ry q=>ho pins s2 σ H2 x y v u Q I2 rx ry q) hm
def tTest (t:TE):TT:=fun σ H Q=>t σ H fun x H'=>∃ k,x = .bl k∧Q k H'
theorem pt_cmpR {op:CmpOp} {r:R2} (ho:OpR X (compareOp op) r) (ha:PE X a ta) (hb:PE X b tb) (hm:behindInMarks op b = false):PT X (.Compare a [op] [b] pos) (tTest (tOp r ta tb)):=by
  intro pins s σ H Q I h
  refine wpAny_isTrue_Compare1 (thn (ha pins s σ H _ I h) fun v s1 ⟨x,H1,I1,r1,q1⟩=>thn (hb pins s1 σ H1 _ I1 q1) fun u s2 ⟨y,H2,I2,r2,q2⟩=>
    thn (ho pins s2 σ H2 x y v u _ I2 r1 r2 q2) fun c s3 ⟨z,H3,I3,r3,k,e,q3⟩=>?_) hm
  subst e
  cases r3
  exact wpAny_truthy_bool ⟨H3,I3,q3⟩
def tChain (r r':R2) (ta tb tc:TE):TE:=fun σ H Q=>ta σ H fun x H1=>tb σ H1 fun y H2=>r x y H2 fun z H3=>∃ k,z = .bl k∧
  (if k = true then tc σ H3 fun w' H4=>r' y w' H4 Q else Q (.bl false) H3)
theorem pe_chain {op op':CmpOp} {r r':R2} (ho:OpR X (compareOp op) r) (ho':OpR X (compareOp op') r') (ha:PE X a ta) (hb:PE X b tb) (hc:PE X c tc)
    (hm:lastMarks [op,op'] [b,c] = false:=by with_unfolding_all rfl):PE X (.Compare a [op,op'] [b,c] pos) (tChain r r' ta tb tc):=by
  intro pins s σ H Q I h
  refine Compare_chain (thn (ha pins s σ H _ I h) fun v s1 ⟨x,H1,I1,r1,q1⟩=>chain_link (thn (hb pins s1 σ H1 _ I1 q1) fun u s2 ⟨y,H2,I2,r2,q2⟩=>
    thn (ho pins s2 σ H2 x y v u _ I2 r1 r2 q2) fun d s3 ⟨z,H3,I3,r3,k,e,q3⟩=>?_)) hm
  subst e
  cases r3
  refine wpAny_truthy_bool ?_
  cases k with
  | false=>exact ite_ff ⟨.bl false,H3,I3,rfl,q3⟩
  | true=>exact ite_tt (chain_last (thn (hc pins s3 σ H3 _ I3 q3) fun w' s4 ⟨z',H4,I4,r4,q4⟩=>ho' pins s4 σ H4 y z' u w' Q I4 r2 r4 q4))
def TruV (K:PySem.W.Frag) (x:V) (H:Hp) (k:Bool):Prop:=
  match x with
  | .non=>k = false
  | .bl b=>k = b
  | .int i=>k = (i != 0)
  | .str y=>y.length ≤ sizeLine∧k = ((y.length:Int) != 0)
  | .byt y=>y.size ≤ sizeLine∧k = ((y.size:Int) != 0)
  | .ref p=>(∃ xs,SqL K H p xs∧k = !xs.isEmpty) ∨ (∃ xs,SqT K H p xs∧k = !xs.isEmpty) ∨ ∃ kvs,H p = some (.dK kvs)∧k = !kvs.isEmpty
  | _=>False
theorem isEmpty_kv {κ:Type} {kvs:List (κ × V)} {vs:List (κ × Value)} (r:KV kvs vs):(!vs.isEmpty) = !kvs.isEmpty:=by
  cases r <;> rfl
theorem isEmpty_of {xs:List V} {its:List Value} (r:Vals xs its):(!its.toArray.isEmpty) = !xs.isEmpty:=by
  cases r <;> simp
theorem line63:(sizeLine:Nat) < 2 ^ 63:=by rw [sizeLine_eq]; decide
theorem tru_ok:TruR X (fun x H Q=>∃ k,TruV X.K x H k∧Q k H):=by
  intro pins s σ H x v Q I rx h
  obtain ⟨k,e,q⟩:=h
  have hl:=line63
  have hs:sizeLine = 16777216:=sizeLine_eq
  cases x with
  | non=>
    cases rx
    have e':k = false:=e
    subst e'
    exact truthy_none ⟨H,I,q⟩
  | bl b=>
    cases rx
    have e':k = b:=e
    subst e'
    exact wpAny_truthy_bool ⟨H,I,q⟩
  | int i=>
    obtain ⟨t,rfl⟩:=rx
    have e':k = (i != 0):=e
    subst e'
    exact PySem.P.truthy_int ⟨H,I,q⟩
  | str y=>
    obtain ⟨t,rfl⟩:=rx
    obtain ⟨hy,e'⟩:y.length ≤ sizeLine∧k = ((y.length:Int) != 0):=e
    subst e'
    exact PySem.P.truthy_str (by omega) ⟨H,I.tok _,q⟩
  | byt y=>
    obtain ⟨t,rfl⟩:=rx
    obtain ⟨hy,e'⟩:y.size ≤ sizeLine∧k = ((y.size:Int) != 0):=e
    subst e'
    exact PySem.W.truthy_bytes (by omega) ⟨H,I.tok _,q⟩
  | ref p=>
    cases rx
    have e':(∃ xs,SqL X.K H p xs∧k = !xs.isEmpty) ∨ (∃ xs,SqT X.K H p xs∧k = !xs.isEmpty) ∨ ∃ kvs,H p = some (.dK kvs)∧k = !kvs.isEmpty:=e
    rcases e' with ⟨xs,hx,e'⟩ | ⟨xs,hx,e'⟩ | ⟨kvs,hx,e'⟩
    · subst e'
      obtain ⟨its,r,pl,hz⟩:=I.list hx
      have hlen:=r.length
      exact wpAny_truthy_list pl.isList (by simp only [List.size_toArray]; omega) ⟨H,I.tok _,by rw [isEmpty_of r]; exact q⟩
    · subst e'
      obtain ⟨its,r,pl,hz⟩:=I.tuple hx
      have hlen:=r.length
      exact truthy_tuple pl (by simp only [List.size_toArray]; omega) ⟨H,I.tok _,by rw [isEmpty_of r]; exact q⟩
    · subst e'
      obtain ⟨hz,hS,vs,r,m⟩:kvs.length ≤ sizeLine∧(p == sysModules) = false∧∃ vs,KV kvs vs∧s.heap.DictOf (mixKind X.prog X.w) p vs:=I.hok p _ hx
      have hlen:kvs.length = vs.length:=Paired.length r
      exact wpAny_truthy_dict hS m (by omega) ⟨H,I.tok _,by rw [isEmpty_kv r]; exact q⟩
  | _=>exact (show False from e).elim
theorem pt_truth (ha:PE X a ta) (he:∀ whole,isTrue a X.env whole = (do let v ← whole; standAt a.pos; holding [v] (truthy v))) :
    PT X a (fun σ H Q=>ta σ H fun x H'=>∃ k,TruV X.K x H' k∧Q k H'):=by
  intro pins s σ H Q I h
  exact isTrue_plain (thn (ha pins s σ H _ I h) fun v s1 ⟨x,H1,I1,r1,q1⟩=>tru_ok pins s1 σ H1 x v Q I1 r1 q1) (he _)
theorem vals1 {x:V} {us:List Value} (r:Vals [x] us):∃ u,us = [u]∧RelV x u:=by
  cases r with
  | cons r1 r2=>cases r2; exact ⟨_,rfl,r1⟩
theorem vals2 {x y:V} {us:List Value} (r:Vals [x,y] us):∃ u w',us = [u,w']∧RelV x u∧RelV y w':=by
  cases r with
  | cons r1 r2=>
    cases r2 with
    | cons r3 r4=>cases r4; exact ⟨_,_,rfl,r1,r3⟩
theorem call_abs:CallR X (.builtin "abs") (fun xs H Q=>∃ i,xs = [.int i]∧Q (.int (if i < 0 then -i else i)) H):=by
  intro pins s σ H xs us Q I r h
  obtain ⟨i,rfl,q⟩:=h
  obtain ⟨u,rfl,t,rfl⟩:=vals1 r
  exact call_abs_int fun u tk=>⟨.int (if i < 0 then -i else i),H,I.tok _,⟨_,rfl⟩,q⟩
theorem call_int1:CallR X (.type "int") (fun xs H Q=>(∃ i,xs = [.int i]∧Q (.int i) H) ∨ ∃ k,xs = [.bl k]∧Q (.int (if k then 1 else 0)) H):=by
  intro pins s σ H xs us Q I r h
  rcases h with ⟨i,rfl,q⟩ | ⟨k,rfl,q⟩
  · obtain ⟨u,rfl,t,rfl⟩:=vals1 r
    exact call_int_int ⟨.int i,H,I,⟨_,rfl⟩,q⟩
  · obtain ⟨u,rfl,r1⟩:=vals1 r
    cases r1
    exact call_int_bool ⟨.int (if k then 1 else 0),H,I.tok _,⟨_,rfl⟩,q⟩
end
end L2
namespace L2
open PySem PySem.Spec PyProof.Rows
structure ObjM (h:Heap) (x dx C:Addr) (mA:Str→Option Value):Prop where
  obj:h.get? x = some (PySem.W.instObj C dx)
  ns:h.Ns1 dx mA
  ne:dx ≠ x
theorem lookIn_ns {h:Heap} {dx:Addr} {mA:Str→Option Value} (n:h.Ns1 dx mA):∃ od,h.get? dx = some od∧∀ name,PySem.W.lookIn name od = some (mA name):=by
  obtain ⟨o,es,ep,ho,hd,hk,_,hm⟩:=n
  refine ⟨o,ho,fun name=>?_⟩
  have e:=hm name
  unfold nsFind findBy at e
  rw [← Array.find?_toList] at e
  unfold PySem.W.lookIn
  rw [hd]
  dsimp only
  split
  · rename_i y q
    rw [q] at e
    exact congrArg some e
  · rename_i q
    rw [q] at e
    have a:es.toList.any (·.refKey) = false:=by
      rw [List.any_eq_false]
      intro y hy
      obtain ⟨z,t,hkey⟩:=hk y (Array.mem_toList_iff.mp hy)
      simp [DictEntry.refKey,hkey]
    have a':¬ es.toList.any (·.refKey) = true:=by rw [a]; exact Bool.false_ne_true
    rw [if_neg a']
    exact congrArg some e
theorem ObjM.look {h:Heap} {x dx C:Addr} {mA:Str→Option Value} (I:ObjM h x dx C mA):∃ od,PySem.W.InstAt h x (PySem.W.instObj C dx) C (some od)∧∀ name,PySem.W.lookIn name od = some (mA name):=
  let ⟨od,ho,hl⟩:=lookIn_ns I.ns
  ⟨od,⟨I.obj,rfl,rfl,ho⟩,hl⟩
section
variable {prog:Program} {w:World} {A:Around} {E:Value→Shared→Prop} {s:Shared} {K:PySem.W.Frag} {x dx C f:Addr} {mA:Str→Option Value} {name:Str} {v:Value}
theorem get_map {expr:Bool} {Q:Value→Shared→Prop} (X:K.In s.heap) (I:ObjM s.heap x dx C mA) (hg:PySem.W.plainGet K C name = true) (hh:PySem.W.hasDictIn K C = true)
    (ha:PySem.W.findIn K (.ref C) name = some none) (hv:mA name = some v) (hv':PySem.W.handedIn v = true) (h:Q v { s with toks:=s.toks + 1 }) :
    wpAny (model prog w) A (getAttr (.ref x) name expr) Q E s:=by
  obtain ⟨od,J,hl⟩:=I.look
  exact PySem.W.get_value X J (PySem.W.plainGet_of hg).1 (PySem.W.findObj_own hh ha rfl (by rw [hl,hv])) hv' h
theorem get_meth {pl:Sem Bool} {Q:Value × List Value→Shared→Prop} (X:K.In s.heap) (I:ObjM s.heap x dx C mA) (hg:PySem.W.plainGet K C name = true)
    (hf:PySem.W.findIn K (.ref C) name = some (some (.ref f))) (ht:PySem.W.isFn K (.ref f) = true) (hv:mA name = none) (h:Q (.ref f,[.ref x]) s) :
    wpAny (model prog w) A (getMethod (.ref x) name pl) Q E s:=by
  obtain ⟨od,J,hl⟩:=I.look
  exact PySem.W.method_fn X J (PySem.W.plainGet_of hg).1 (PySem.W.plainGet_of hg).2 hf (beq_iff_eq.mp ht) (by show (PySem.W.lookIn name od).map (·.isSome) = some false; rw [hl,hv]; rfl) h
theorem set_map {ns:List Str} {Q:Unit→Shared→Prop} (X:K.In s.heap) (I:ObjM s.heap x dx C mA)
    (hs:PySem.W.findIn K (.ref C) "__setattr__" = some (some (.builtin "object.__setattr__"))) (hp:PySem.W.plainOver K C = true) (ht:PySem.W.takerIn K C name = some none) (hh:PySem.W.hasDictIn K C = true)
    (hw:PySem.Within mA ns) (hsz:ns.length ≤ sizeLine)
    (h:∀ h',ObjM h' x dx C (fun y=>if y = name then some v else mA y)→Heap.SameBut dx s.heap h'→Q () { s with heap:=h',toks:=s.toks + 2 }) :
    wpAny (model prog w) A (setAttr (.ref x) name v) Q E s:=by
  obtain ⟨od,J,hl⟩:=I.look
  refine PySem.W.set_plain X J hs (PySem.W.osa_open (s:={ s with toks:=s.toks + 1 }) (r:=none) X J hp ht fun b=>?_)
  obtain ⟨cd,hc,hd'⟩:=PySem.W.any_some hh
  have hx:s.heap.get? x = some ⟨.ref C,some dx,.plain,#[]⟩:=I.obj
  refine wpAny_bind (wpAny_pure (wpAny_bind (wpAny_bind (wpAny_loadPart hx (wpAny_bind (PySem.W.Looks.here (s:={ s with toks:=s.toks + 1 }) (PySem.W.looks_clsIn X hc) ?_))))))
  rw [hd']
  refine wpAny_pure (a:=some dx) (wpAny_bind (wpAny_pure (wpAny_bind ?_)))
  refine wpAny_nsSet1 (s:={ s with toks:=s.toks + 1 }) I.ns fun h' hn2 hs2=>?_
  obtain ⟨oD,esD,epD,hoD,hdD,hcD⟩:=hn2.count (PySem.Within.cons name v hw)
  refine wpAny_bind (wpAny_lookBehind hoD (by rw [hdD]; exact pastItsLine_dict (Nat.le_trans hcD (by rw [List.length_cons]; omega))) ?_)
  exact wpAny_pure (h _ ⟨(hs2.2 _ (Ne.symm I.ne)).trans I.obj,hn2,I.ne⟩ hs2)
theorem make_map {R:Result→Shared→Prop} {vs:List Value} {kw:List (Str × Value)} (X:K.In s.heap) (hm:PySem.W.makesIn K C = true)
    (hi:PySem.W.findIn K (.ref C) "__init__" = some (some (.ref f))) (hf:PySem.W.typeIn K (.ref f) = some (.type "function"))
    (h:codeAny (model prog w) (A.under (.builtin "type.__call__" ⟨.ref C :: vs,kw⟩)) (.call (.ref f) ⟨.ref (s.heap.objs.size + 1) :: vs,kw⟩) (PySem.W.InitBack (s.heap.objs.size + 1) R)
      { s with heap:=(s.heap.push PySem.W.emptyDict).push (PySem.W.instObj C s.heap.objs.size) }) :
    codeAny (model prog w) A (.call (.ref C) ⟨vs,kw⟩) R s:=by
  obtain ⟨hh,g,d,t,os⟩:=s
  exact PySem.W.make_core (PySem.W.makes_of X hm) (PySem.W.looks_findIn X hi) (fun self=>PySem.W.bind_fn X self hf) (.inl rfl) h
end
def putF (f:Str) (v:V):List (Str × V)→List (Str × V)
  | []=>[(f,v)]
  | (g,x) :: r=>if g = f then (g,v) :: r else (g,x) :: putF f v r
theorem lookup_putF (f g:Str) (v:V):∀ fs:List (Str × V),(putF f v fs).lookup g = if g = f then some v else fs.lookup g
  | []=>by
    show List.lookup g [(f,v)] = _
    by_cases h:g = f
    · have hb:(g == f) = true:=beq_iff_eq.mpr h
      simp only [List.lookup,hb,if_pos h]
    · have hb:(g == f) = false:=beq_eq_false_iff_ne.mpr h
      simp only [List.lookup,hb,if_neg h]
  | (k,x) :: r=>by
    have ih:=lookup_putF f g v r
    rw [show putF f v ((k,x) :: r) = (if k = f then (k,v) :: r else (k,x) :: putF f v r) from rfl]
    by_cases hk:k = f
    · rw [if_pos hk]
      by_cases h:g = k
      · have hb:(g == k) = true:=beq_iff_eq.mpr h
        simp only [List.lookup,hb,if_pos (h.trans hk)]
      · have hb:(g == k) = false:=beq_eq_false_iff_ne.mpr h
        simp only [List.lookup,hb,if_neg (fun e:g = f=>h (e.trans hk.symm))]
    · rw [if_neg hk]
      by_cases h:g = k
      · have hb:(g == k) = true:=beq_iff_eq.mpr h
        simp only [List.lookup,hb,if_neg (fun e:g = f=>hk (h.symm.trans e))]
      · have hb:(g == k) = false:=beq_eq_false_iff_ne.mpr h
        simp only [List.lookup,hb]
        exact ih
theorem keys_putF (f:Str) (v:V):∀ fs:List (Str × V),f ∈ (putF f v fs).map (·.1)∧∀ g,g ∈ fs.map (·.1)→g ∈ (putF f v fs).map (·.1)
  | []=>⟨by simp [putF],fun g h=>by simp at h⟩
  | (k,x) :: r=>by
    obtain ⟨i1,i2⟩:=keys_putF f v r
    rw [show putF f v ((k,x) :: r) = (if k = f then (k,v) :: r else (k,x) :: putF f v r) from rfl]
    by_cases hk:k = f
    · rw [if_pos hk]
      subst hk
      exact ⟨by simp,fun g h=>by simpa using h⟩
    · rw [if_neg hk]
      refine ⟨?_,fun g h=>?_⟩
      · rw [List.map_cons]
        exact List.mem_cons_of_mem _ i1
      · rw [List.map_cons] at h ⊢
        rcases List.mem_cons.mp h with e | e
        · exact List.mem_cons.mpr (.inl e)
        · exact List.mem_cons_of_mem _ (i2 g e)
theorem length_putF (f:Str) (v:V):∀ fs:List (Str × V),(putF f v fs).length ≤ fs.length + 1
  | []=>by simp [putF]
  | (k,x) :: r=>by
    have ih:=length_putF f v r
    rw [show putF f v ((k,x) :: r) = (if k = f then (k,v) :: r else (k,x) :: putF f v r) from rfl]
    by_cases hk:k = f
    · rw [if_pos hk,List.length_cons,List.length_cons]; omega
    · rw [if_neg hk,List.length_cons,List.length_cons]; omega
theorem RelO.some_of {v:V} {o:Option Value} (r:RelO (some v) o):∃ u,o = some u∧RelV v u:=by
  cases o with
  | none=>exact (show False from r).elim
  | some u=>exact ⟨u,rfl,r⟩
theorem RelO.none_of {o:Option Value} (r:RelO none o):o = none:=by
  cases o with
  | none=>rfl
  | some u=>exact (show False from r).elim
theorem handed_of {v:V} {u:Value} (r:RelV v u):PySem.W.handedIn u = true:=by
  cases v with
  | non=>cases (show u = Value.none from r); rfl
  | bl b=>cases (show u = Value.bool b from r); rfl
  | int i=>obtain ⟨t,e⟩:=(show ∃ t,u = Value.int i t from r); cases e; rfl
  | str x=>obtain ⟨t,e⟩:=(show ∃ t,u = Value.str x t from r); cases e; rfl
  | byt b=>obtain ⟨t,e⟩:=(show ∃ t,u = Value.bytes b t from r); cases e; rfl
  | flt b=>obtain ⟨t,e⟩:=(show ∃ t,u = Value.float b t from r); cases e; rfl
  | ref a=>cases (show u = Value.ref a from r); rfl
  | ty n=>cases (show u = Value.type n from r); rfl
section
variable {P:Program} {w:World} {H H':Hp} {h h':Heap} {a C dx:Addr} {fs fs':List (Str × V)}
theorem ins_get (hok:HOk P w H h) (e:H a = some (.ins C dx fs)):∃ mA,ObjM h a dx C mA∧(∀ f,RelO (fs.lookup f) (mA f))∧PySem.Within mA (fs.map (·.1))∧fs.length ≤ 1000∧H dx = some (.own a):=by
  obtain ⟨d,z,ne,ob,mA,n,r,q⟩:=(show ObjOk P w H h a (.ins C dx fs) from hok a _ e)
  exact ⟨mA,⟨ob,n,ne⟩,r,q,z,d⟩
end
structure Cls (K:PySem.W.Frag) (C:Addr):Prop where
  pg:PySem.W.plainGet K C Str.empty = true
  hd:PySem.W.hasDictIn K C = true
  po:PySem.W.plainOver K C = true
  sa:PySem.W.findIn K (.ref C) "__setattr__" = some (some (.builtin "object.__setattr__"))
theorem Cls.get {K:PySem.W.Frag} {C:Addr} (c:Cls K C) (f:Str):PySem.W.plainGet K C f = true:=c.pg
def NoAttr (K:PySem.W.Frag) (C:Addr) (f:Str):Prop:=PySem.W.findIn K (.ref C) f = some none
theorem NoAttr.taker {K:PySem.W.Frag} {C:Addr} {f:Str} (n:NoAttr K C f):PySem.W.takerIn K C f = some none:=by
  unfold PySem.W.takerIn
  rw [show PySem.W.findIn K (.ref C) f = some none from n]
  rfl
structure Meth (K:PySem.W.Frag) (C:Addr) (m:Str) (f:Addr):Prop where
  at_:PySem.W.findIn K (.ref C) m = some (some (.ref f))
  fn:PySem.W.isFn K (.ref f) = true
  kp:PySem.W.keepIn K (.ref f) = true
section
variable {X:Cx} {pins:List (Addr × Obj)} {σ:St} {H:Hp} {s:Shared} {a C dx:Addr} {fs:List (Str × V)} {f:Str} {v:V} {A:Around} {E:Value→Shared→Prop}
theorem getattr_ok {b:Bool} {Q:Value→Shared→Prop} (I:Inv X pins σ H s) (e:H a = some (.ins C dx fs)) (c:Cls X.K C) (n:NoAttr X.K C f) (l:fs.lookup f = some v)
    (h:∀ u s',Inv X pins σ H s'→RelV v u→Q u s'):wpAny (model X.prog X.w) A (getAttr (.ref a) f b) Q E s:=by
  obtain ⟨mA,O,r,_,_,_⟩:=ins_get I.hok e
  obtain ⟨u,hu,ru⟩:=RelO.some_of (v:=v) (o:=mA f) (by rw [← l]; exact r f)
  exact get_map I.kIn O (c.get f) c.hd n hu (handed_of ru) (h u _ (I.tok _) ru)
theorem getmeth_ok {m:Str} {g:Addr} {pl:Sem Bool} {Q:Value × List Value→Shared→Prop} (I:Inv X pins σ H s) (e:H a = some (.ins C dx fs)) (c:Cls X.K C) (k:Meth X.K C m g) (l:fs.lookup m = none)
    (h:Q (.ref g,[.ref a]) s):wpAny (model X.prog X.w) A (getMethod (.ref a) m pl) Q E s:=by
  obtain ⟨mA,O,r,_,_,_⟩:=ins_get I.hok e
  have hn:mA m = none:=RelO.none_of (by rw [← l]; exact r m)
  exact get_meth I.kIn O (c.get m) k.at_ k.fn hn h
theorem setattr_ok {y:V} {u:Value} {Q:Unit→Shared→Prop} (I:Inv X pins σ H s) (e:H a = some (.ins C dx fs)) (c:Cls X.K C) (n:NoAttr X.K C f) (hl:fs.length < 1000) (ry:RelV y u)
    (h:∀ s',Inv X pins σ (upd H a (.ins C dx (putF f y fs))) s'→Q () s'):wpAny (model X.prog X.w) A (setAttr (.ref a) f u) Q E s:=by
  obtain ⟨mA,O,r,wi,_,ho⟩:=ins_get I.hok e
  have hz:(fs.map (·.1)).length ≤ sizeLine:=by rw [List.length_map,sizeLine_eq]; omega
  refine set_map I.kIn O c.sa c.po n.taker c.hd wi hz fun h' O' sb=>h _ ?_
  have hd:∃ o,h'.get? dx = some o:=let ⟨o,_,_,e',_⟩:=O'.ns; ⟨o,e'⟩
  refine I.write (x:=a) (e:=dx) (by rw [e]; exact True.intro) (.inr ho) (fun b q hb z=>(sb.2 b hb).trans z) hd ?_
  refine ⟨by rw [upd_ne O.ne]; exact ho,?_,O.ne,O'.obj,_,O'.ns,fun g=>?_,fun g hg=>?_⟩
  · have:=length_putF f y fs; omega
  · show RelO ((putF f y fs).lookup g) (if g = f then some u else mA g)
    rw [lookup_putF]
    by_cases q:g = f
    · rw [if_pos q,if_pos q]; exact ry
    · rw [if_neg q,if_neg q]; exact r g
  · by_cases q:g = f
    · rw [q]; exact (keys_putF f y fs).1
    · refine (keys_putF f y fs).2 g (wi g fun z=>hg ?_)
      show (if g = f then some u else mA g) = none
      rw [if_neg q]; exact z
theorem Inv.made (I:Inv X pins σ H s):Inv X pins σ (upd (upd H s.heap.objs.size (.own (s.heap.objs.size + 1))) (s.heap.objs.size + 1) (.ins C s.heap.objs.size []))
    { s with heap:=(s.heap.push PySem.W.emptyDict).push (PySem.W.instObj C s.heap.objs.size) }:=by
  have e1:(s.heap.push PySem.W.emptyDict).get? s.heap.objs.size = some PySem.W.emptyDict:=Heap.get?_push_size s.heap rfl
  have e2:((s.heap.push PySem.W.emptyDict).push (PySem.W.instObj C s.heap.objs.size)).get? (s.heap.objs.size + 1) = some (PySem.W.instObj C s.heap.objs.size):=by
    have:=Heap.get?_push_size (s.heap.push PySem.W.emptyDict) (o:=PySem.W.instObj C s.heap.objs.size) rfl
    rwa [Heap.size_push] at this
  have e3:(s.heap.push PySem.W.emptyDict).Ns s.heap.objs.size (fun _=>none):=⟨PySem.W.emptyDict,#[],_,e1,rfl,(fun e he=>absurd he (by simp)),fun _=>rfl⟩
  have I1:=I.laid (a:=s.heap.objs.size) (o:=.own (s.heap.objs.size + 1)) (h':=s.heap.push PySem.W.emptyDict) (t':=s.toks) (fun b u q=>Heap.get?_push_of_some _ q) (Nat.le_refl _) ⟨_,e1⟩
  refine I1.laid (a:=s.heap.objs.size + 1) (o:=.ins C s.heap.objs.size []) (t':=s.toks) (fun b u q=>Heap.get?_push_of_some _ q) (Nat.le_of_eq (Heap.size_push _ _)) ?_
  have ne:s.heap.objs.size ≠ s.heap.objs.size + 1:=Nat.ne_of_lt (Nat.lt_succ_self _)
  refine ⟨by rw [upd_ne ne,upd_same],Nat.zero_le _,ne,e2,fun _=>none,(Heap.Ns1.of_empty e3).at fun o q=>Heap.get?_push_of_some _ q,fun _=>True.intro,fun y hy=>absurd rfl hy⟩
theorem attr_of {prog:Program} {w:World} {env:Env} {e:Expr} {f:Str} {pos:Pos} {s:Shared} {Q:Value→Shared→Prop} (hb:attributeBase e f env (eval e env) = eval e env)
    (h:wpAny (model prog w) A (eval e env) (fun o s₁=>wpAny (model prog w) A (getAttr o f true) Q E s₁) E s):wpAny (model prog w) A (eval (.Attribute e f pos) env) Q E s:=
  Attribute_any_ h (by rw [arm_eval_Attribute,hb])
end
def tFld (K:PySem.W.Frag) (ta:TE) (f:Str):TE:=fun σ H Q=>ta σ H fun x H1=>∃ a C dx fs v,x = .ref a∧H1 a = some (.ins C dx fs)∧Cls K C∧NoAttr K C f∧fs.lookup f = some v∧Q v H1
def sFld (K:PySem.W.Frag) (ta tv:TE) (f:Str):TS:=fun D σ H=>tv σ H fun y H1=>ta σ H1 fun x H2=>∃ a C dx fs,x = .ref a∧H2 a = some (.ins C dx fs)∧Cls K C∧NoAttr K C f∧fs.length < 1000∧
  D.nx σ (upd H2 a (.ins C dx (putF f y fs)))
section
variable {X:Cx} {o e value:Expr} {f:Str} {pos pos' tpos:Pos} {ta tv:TE}
theorem pe_fld (he:PE X e ta) (hb:attributeBase e f X.env (eval e X.env) = eval e X.env):PE X (.Attribute e f pos) (tFld X.K ta f):=by
  intro pins s σ H Q I h
  refine attr_of hb (thn (he pins s σ H _ I h) fun u s1 ⟨x,H1,I1,rx,a,C,dx,fs,v,ex,ea,c,n,l,q⟩=>?_)
  subst ex
  obtain rfl:u = Value.ref a:=rx
  exact getattr_ok I1 ea c n l fun u' s2 I2 ru=>⟨v,H1,I2,ru,q⟩
theorem ps_fld (ha:PE X o ta) (hv:PE X value tv) (hs:swapsWith value (some (.Attribute o f pos')) pos.line X.env = pure false):PS X (.Assign [.Attribute o f pos'] value pos) (sFld X.K ta tv f):=by
  intro pins s σ H D I h
  refine plainObj_wpAny_Assign_Attribute (thn (hv pins s σ H _ I h) fun u s1 ⟨y,H1,I1,ry,q⟩=>thn (ha pins s1 σ H1 _ I1 q) fun ov s2 ⟨x,H2,I2,rx,a,C,dx,fs,ex,ea,c,n,l,q2⟩=>?_) hs
  subst ex
  obtain rfl:ov = Value.ref a:=rx
  exact setattr_ok I2 ea c n l ry fun s3 I3=>⟨σ,_,I3,q2⟩
theorem methcall_of {pl:Sem Bool} {m:Str} {apos:Pos} {args:List Expr} {pins:List (Addr × Obj)} {s:Shared} {σ:St} {H:Hp} {Q:Value→Shared→Prop} {te:TE} (he:PE X e te) (I:Inv X pins σ H s)
    (h:te σ H fun x H1=>∃ a C dx fs g,x = .ref a∧H1 a = some (.ins C dx fs)∧Cls X.K C∧Meth X.K C m g∧fs.lookup m = none∧
      ∀ s1,Inv X pins σ H1 s1→wpAny (model X.prog X.w) X.A (callWith pos (.ref g) [.ref a] (backTo pos (starEach args X.env)) (backToKw pos (keywordEach [] X.env))) Q X.xe s1)
    (ht:eval (.Call (.Attribute e m apos) args [] pos) X.env = (do
      let ov ← eval e X.env
      standAt apos.atName
      let (f,first) ← holding [ov] (getMethod ov m pl)
      callWith pos f first (backTo pos (starEach args X.env)) (backToKw pos (keywordEach [] X.env)))) :
    wpAny (model X.prog X.w) X.A (eval (.Call (.Attribute e m apos) args [] pos) X.env) Q X.xe s:=by
  refine PySem.W.methodCall_KW (pl:=pl) (thn (he pins s σ H _ I h) fun u s1 ⟨x,H1,I1,rx,a,C,dx,fs,g,ex,ea,c,k,l,q⟩=>?_) ht
  subst ex
  obtain rfl:u = Value.ref a:=rx
  exact getmeth_ok I1 ea c k l (q s1 I1)
end
section
variable {X:Cx} {pins:List (Addr × Obj)} {σ:St} {H:Hp} {s:Shared} {A:Around} {E:Value→Shared→Prop} {Q:Value→Shared→Prop} {c:Value} {b:Bool}
inductive TyOf (K:PySem.W.Frag) (H:Hp):V→Value→Prop where
  | non:TyOf K H .non (.type "NoneType")
  | bl (x:Bool):TyOf K H (.bl x) (.type "bool")
  | int (i:Int):TyOf K H (.int i) (.type "int")
  | str (x:Str):TyOf K H (.str x) (.type "str")
  | flt (x:UInt64):TyOf K H (.flt x) (.type "float")
  | lst {a:Addr} {xs:List V} (e:H a = some (.lst xs)):TyOf K H (.ref a) (.type "list")
  | frz {a:Addr} {o:Obj} {xs:List V} (e:H a = some (.frz o (.lst xs))):TyOf K H (.ref a) (.type "list")
  | tup {a:Addr} {xs:List V} (e:H a = some (.tup xs)):TyOf K H (.ref a) (.type "tuple")
  | dK {a:Addr} {kvs:List (Key × V)} (e:H a = some (.dK kvs)):TyOf K H (.ref a) (.type "dict")
  | dT {a:Addr} {kvs:List (List Key × V)} (e:H a = some (.dT kvs)):TyOf K H (.ref a) (.type "dict")
  | ins {a C dx:Addr} {fs:List (Str × V)} (e:H a = some (.ins C dx fs)) (cl:Cls K C) (ha:PySem.W.findIn K (.ref C) "__class__" = some (some (.builtin "object.__class__")))
      (hn:PySem.W.specialIn K (.builtin "object.__class__") "__get__" = some (some (.builtin "getset_descriptor.__get__"))) (htk:PySem.W.takesIn K (.builtin "object.__class__") = some true)
      (hm:PySem.W.mroIn K C (.type "object") = some true):TyOf K H (.ref a) (.ref C)
theorem isinst_ok {x:V} {u t:Value} (I:Inv X pins σ H s) (rx:RelV x u) (ty:TyOf X.K H x t) (e:PySem.W.kitOne X.K t c = some b) (h:∀ tk,Q (.bool b) { s with toks:=tk }) :
    wpAny (model X.prog X.w) A (call (.builtin "isinstance") [u,c]) Q E s:=by
  cases ty with
  | non=>cases (show u = Value.none from rx); exact PySem.W.kia_one PySem.W.kitx_none I.kIn True.intro e (fun z=>nomatch z) h
  | bl y=>cases (show u = Value.bool y from rx); exact PySem.W.kia_one PySem.W.kitx_bool I.kIn True.intro e (fun z=>nomatch z) h
  | int i=>obtain ⟨t,q⟩:=(show ∃ t,u = Value.int i t from rx); cases q; exact PySem.W.kia_one PySem.W.kitx_int I.kIn True.intro e (fun z=>nomatch z) h
  | str y=>obtain ⟨t,q⟩:=(show ∃ t,u = Value.str y t from rx); cases q; exact PySem.W.kia_one PySem.W.kitx_str I.kIn True.intro e (fun z=>nomatch z) h
  | flt y=>obtain ⟨t,q⟩:=(show ∃ t,u = Value.float y t from rx); cases q; exact PySem.W.kia_one PySem.W.kitx_float I.kIn True.intro e (fun z=>nomatch z) h
  | @lst a xs ea=>
    cases (show u = Value.ref a from rx)
    obtain ⟨_,_,n,_,h1⟩:=(show ObjOk X.prog X.w H s.heap a (.lst xs) from I.hok a _ ea)
    exact PySem.W.kia_one PySem.W.kitx_list I.kIn ⟨_,h1,rfl⟩ e (fun z=>nomatch z) h
  | @frz a ob xs ea=>
    cases (show u = Value.ref a from rx)
    obtain ⟨_,_,_,n,_,h1⟩:=(show ObjOk X.prog X.w H s.heap a (.frz ob (.lst xs)) from I.hok a _ ea)
    exact PySem.W.kia_one PySem.W.kitx_list I.kIn ⟨_,h1,rfl⟩ e (fun z=>nomatch z) h
  | @tup a xs ea=>
    cases (show u = Value.ref a from rx)
    obtain ⟨_,_,_,p⟩:=(show ObjOk X.prog X.w H s.heap a (.tup xs) from I.hok a _ ea)
    obtain ⟨o,h1,h2,_⟩:=p
    exact PySem.W.kia_one PySem.W.kitx_tuple I.kIn ⟨o,h1,h2⟩ e (fun z=>nomatch z) h
  | @dK a kvs ea=>
    cases (show u = Value.ref a from rx)
    obtain ⟨_,_,vs,_,p⟩:=(show ObjOk X.prog X.w H s.heap a (.dK kvs) from I.hok a _ ea)
    obtain ⟨o,es,ep,h1,h2,_⟩:=p
    exact PySem.W.kia_one PySem.W.kitx_dict I.kIn ⟨o,h1,h2.1⟩ e (fun z=>nomatch z) h
  | @dT a kvs ea=>
    cases (show u = Value.ref a from rx)
    obtain ⟨_,_,xs,_,o,es,ep,h1,h2,_⟩:=(show ObjOk X.prog X.w H s.heap a (.dT kvs) from I.hok a _ ea)
    exact PySem.W.kia_one PySem.W.kitx_dict I.kIn ⟨o,h1,h2.1⟩ e (fun z=>nomatch z) h
  | @ins a C dx fs ea cl ha hn htk hm=>
    cases (show u = Value.ref a from rx)
    obtain ⟨mA,O,_⟩:=ins_get I.hok ea
    obtain ⟨od,J,_⟩:=O.look
    exact PySem.W.kia_one (PySem.W.kitx_own (cl.get _) cl.hd ha hn htk hm) I.kIn J e (fun z=>nomatch z) h
end
end L2
namespace L2
open PySem PySem.Spec PyProof.Rows
structure Room (k:Nat) (A:Around):Prop where
  hd:A.handled = none
  dp:A.depth + 3 * k + 5 < recursionLimit
  un:A.units + 16 * k + 200 < cLine
theorem Room.mono {j k:Nat} {A:Around} (r:Room k A) (h:j ≤ k):Room j A:=⟨r.hd,by have:=r.dp; omega,by have:=r.un; omega⟩
theorem Room.deeper {k:Nat} {A:Around} (r:Room (k + 1) A) (env:Env):Room k (A.deeper env):=
  ⟨r.hd,by have:=r.dp; show A.depth + 1 + 3 * k + 5 < _; omega,by have:=r.un; show A.units + 3 + 16 * k + 200 < _; omega⟩
theorem make_depth {A:Around} {C:Addr} {us:List Value} {kw:List (Str × Value)}:(A.under (.builtin "type.__call__" ⟨.ref C :: us,kw⟩)).depth = A.depth + 1:=by
  first | rfl | simp [Around.under,Code.weight,Code.isCreation,Code.isGuard,Code.isCaller,Code.frames,Code.isFrame,guardIds]
theorem make_units {A:Around} {C:Addr} {us:List Value} {kw:List (Str × Value)}:(A.under (.builtin "type.__call__" ⟨.ref C :: us,kw⟩)).units = A.units + 1:=by
  first | rfl | simp [Around.under,Code.cUnits,Code.frames,Code.isFrame]
theorem Room.make {k:Nat} {A:Around} (r:Room (k + 1) A) (C:Addr) (us:List Value) (kw:List (Str × Value)):Room k (A.under (.builtin "type.__call__" ⟨.ref C :: us,kw⟩)):=
  ⟨r.hd,by have:=r.dp; rw [make_depth]; omega,by have:=r.un; rw [make_units]; omega⟩
theorem Room.depth {k:Nat} {A:Around} (r:Room k A):A.depth < recursionLimit:=by have:=r.dp; omega
theorem Room.units {k:Nat} {A:Around} (r:Room k A):A.units + 64 < cLine:=by have:=r.un; omega
theorem Room.units0 {k:Nat} {A:Around} (r:Room k A):A.units < cLine:=by have:=r.un; omega
def tNil:TA:=fun _ H Q=>Q [] H
def tCons (ta:TE) (tr:TA):TA:=fun σ H Q=>ta σ H fun x H1=>tr σ H1 fun xs H2=>Q (x :: xs) H2
section
variable {X:Cx} {e:Expr} {es:List Expr} {te:TE} {t:TA} {pos:Pos}
theorem pa_nil:PA X [] tNil:=fun _ _ _ _ H Q I h=>Calls.spliced_nil ⟨[],H,I,.nil,h⟩
theorem pa_cons (ha:PE X e te) (hr:PA X es t) (hs:starEach (e :: es) X.env = (false,eval e X.env) :: starEach es X.env:=by rfl):PA X (e :: es) (tCons te t):=by
  intro pos pins s σ H Q I h
  rw [hs]
  show wpAny _ _ (spliced ((false,eval e X.env) :: backTo pos (starEach es X.env))) _ _ s
  refine Calls.spliced_cons (thn (ha pins s σ H _ I h) fun u s1 ⟨x,H1,I1,r1,q1⟩=>?_)
  exact thn (hr pos pins s1 σ H1 _ I1 q1) fun us s2 ⟨xs,H2,I2,r2,q2⟩=>⟨x :: xs,H2,I2,.cons r1 r2,q2⟩
def tTup (t:TA):TE:=fun σ H Q=>t σ H fun xs H1=>xs.length ≤ sizeLine∧∀ p,H1 p = none→Q (.ref p) (upd H1 p (.tup xs))
def tLst (t:TA):TE:=fun σ H Q=>t σ H fun xs H1=>xs.length ≤ sizeLine∧∀ p,H1 p = none→Q (.ref p) (upd H1 p (.lst xs))
theorem pe_tup {x1} (h:PA X es t):PE X (.Tuple es x1 pos) (tTup t):=by
  intro pins s σ H Q I hq
  refine wpAny_Tuple_spliced (thn (h pos pins s σ H _ I hq) fun us s1 ⟨xs,H1,I1,r,z,q⟩=>⟨by rw [← r.length]; exact z,?_⟩)
  have hf:H1 s1.heap.objs.size = none:=I1.hok.fresh (Nat.le_refl _)
  refine ⟨.ref s1.heap.objs.size,upd H1 s1.heap.objs.size (.tup xs),I1.laid (t':=s1.toks) (fun b u e=>Heap.get?_push_of_some _ e) (Nat.le_refl _) ?_,rfl,q _ hf⟩
  exact ⟨z,us,r,⟨_,Heap.get?_push_size _ rfl,rfl,_,rfl⟩⟩
theorem pe_lst (h:PA X es t):PE X (.List es pos) (tLst t):=by
  intro pins s σ H Q I hq
  refine wpAny_List_spliced (thn (h pos pins s σ H _ I hq) fun us s1 ⟨xs,H1,I1,r,z,q⟩=>⟨by rw [← r.length]; exact z,?_⟩)
  have hf:H1 s1.heap.objs.size = none:=I1.hok.fresh (Nat.le_refl _)
  refine ⟨.ref s1.heap.objs.size,upd H1 s1.heap.objs.size (.lst xs),I1.laid (t':=s1.toks) (fun b u e=>Heap.get?_push_of_some _ e) (Nat.le_refl _) ?_,rfl,q _ hf⟩
  exact ⟨z,us,0,r,Heap.get?_push_size _ rfl⟩
end
abbrev Sp:=List V→Hp→VK→XK→Prop
abbrev CXT:=List Env→Hp→Shared→XK→Value→Shared→Prop
structure Env0 (P:Program) (w:World) (K:PySem.W.Frag) (mg:Str→Option Value) (base:Heap) (A:Around) (outer:List Env) (s:Shared) (H:Hp):Prop where
  frames:A.frames = some outer
  mod:Mod K mg base
  bs:∀ b o,base.get? b = some o→s.heap.get? b = some o∧H b = none
  bsz:base.objs.size ≤ s.heap.objs.size
  funs:s.heap.FunFrames base outer
  frf:∀ b ∈ frs outer,H b = none
  hok:HOk P w H s.heap
  bare:AllBare s.gens
def CE (outer:List Env) (P:Program) (w:World) (H:Hp) (s:Shared) (Q:VK) (u:Value) (s':Shared):Prop:=
  ∃ v H',s'.os = s.os∧AllBare s'.gens∧Un (frs outer) [] H H' s.heap s'.heap∧HOk P w H' s'.heap∧RelV v u∧Q v H'
def CR (CX:CXT) (outer:List Env) (P:Program) (w:World) (H:Hp) (s:Shared) (Q:VK) (E:XK) (r:Result) (s':Shared):Prop:=
  match r with
  | .ok (.ret u)=>CE outer P w H s Q u s'
  | .ok _=>False
  | .error e=>CX outer H s E e s'
structure FnOk (P:Program) (w:World) (K:PySem.W.Frag) (mg:Str→Option Value) (base:Heap) (CX:CXT) (k:Nat) (f:Addr) (fd:FuncData) (ps:List Str) (sp:Sp):Prop where
  len:∀ vs H Q E,sp vs H Q E→vs.length = ps.length
  run:∀ (A:Around) (outer:List Env) (s:Shared) (H:Hp) (args:Args) (us:List Value) (vs:List V) (Q:VK) (E:XK),Room k A→Env0 P w K mg base A outer s H→BindsTo s fd args (ps.zip us)→Vals vs us→sp vs H Q E→
    codeAny (model P w) A (.call (.ref f) args) (CR CX outer P w H s Q E) s
theorem Env0.make {P:Program} {w:World} {K:PySem.W.Frag} {mg:Str→Option Value} {base:Heap} {A:Around} {outer:List Env} {s:Shared} {H:Hp} (e:Env0 P w K mg base A outer s H) (C:Addr) (us:List Value) (kw:List (Str × Value)) :
    Env0 P w K mg base (A.under (.builtin "type.__call__" ⟨.ref C :: us,kw⟩)) outer s H:=⟨by first | exact e.frames | (simpa [Around.under,Code.envs,Code.isFrame,pushEnvs] using e.frames),e.mod,e.bs,e.bsz,e.funs,e.frf,e.hok,e.bare⟩
section
variable {X:Cx} {pins:List (Addr × Obj)} {σ:St} {H:Hp} {s s':Shared}
theorem Inv.env0 (I:Inv X pins σ H s):Env0 X.prog X.w X.K X.mg X.base X.A X.stack s H:=
  ⟨I.ok.frames,I.ok.mod,I.bs,Nat.le_trans I.ok.bsz I.sz,I.stack,I.stkFree,I.hok,I.bare⟩
theorem Inv.after {Q:VK} {u:Value} (I:Inv X pins σ H s) (h:CE X.stack X.prog X.w H s Q u s'):EP X pins σ Q u s':=by
  obtain ⟨v,H',os,bare,un,hok,r,q⟩:=h
  obtain ⟨hh,g,d,t,os'⟩:=s'
  obtain rfl:os' = s.os:=os
  exact ⟨v,H',I.call (h':=hh) (g':=g) (d':=d) (t':=t) (ch:=[]) un hok bare (fun b z=>absurd z (by simp)),r,q⟩
end
def tCall (sp:Sp) (dvs:List V) (E:XK) (t:TA):TE:=fun σ H Q=>t σ H fun vs H1=>sp (vs ++ dvs) H1 Q E
def tMeth (C:Addr) (m:Str) (sp:Sp) (dvs:List V) (E:XK) (ta:TE) (t:TA):TE:=fun σ H Q=>ta σ H fun x H1=>∃ a dx fs,x = .ref a∧H1 a = some (.ins C dx fs)∧fs.lookup m = none∧
  t σ H1 fun vs H2=>sp (x :: (vs ++ dvs)) H2 Q E
def tMake (C:Addr) (sp:Sp) (dvs:List V) (E:XK) (t:TA):TE:=fun σ H Q=>t σ H fun vs H1=>∀ x dx,H1 x = none→H1 dx = none→dx ≠ x→
  sp (.ref x :: (vs ++ dvs)) (upd (upd H1 dx (.own x)) x (.ins C dx [])) (fun v H2=>v = .non∧Q (.ref x) H2) E
def Binds (K:PySem.W.Frag) (fd:FuncData) (ps:List Str) (ds:List Value):Prop:=
  ∀ (s:Shared) (us:List Value),K.In s.heap→(us ++ ds).length = ps.length→BindsTo s fd ⟨us,[]⟩ (ps.zip (us ++ ds))
theorem Binds.all {K:PySem.W.Frag} {fd:FuncData} {ps:List Str} (h:∀ us:List Value,us.length = ps.length→bindArgs fd ⟨us,[]⟩ = pure (ps.zip us)):Binds K fd ps []:=fun s us _ hl=>by
  rw [List.append_nil] at hl ⊢
  exact .of_eq (h us hl)
def Passes (CX:CXT) (X:Cx) (E:XK):Prop:=∀ (pins:List (Addr × Obj)) (σ:St) (H:Hp) (s:Shared) (e:Value) (s':Shared),Inv X pins σ H s→CX X.stack H s E e s'→X.xe e s'
section
variable {X:Cx} {CX:CXT} {k:Nat} {f C:Addr} {fd:FuncData} {ps:List Str} {sp:Sp} {dvs:List V} {ds:List Value} {E:XK} {x m:Str} {p pos apos:Pos} {e o:Expr} {es:List Expr} {ta:TE} {t:TA}
theorem run_fn {pins:List (Addr × Obj)} {σ:St} {H:Hp} {s:Shared} {Q:VK} {us:List Value} {vs:List V} (F:FnOk X.prog X.w X.K X.mg X.base CX k f fd ps sp) (hr:Room k X.A) (hb:Binds X.K fd ps ds) (hd:Vals dvs ds) (hx:Passes CX X E)
    (I:Inv X pins σ H s) (r:Vals vs us) (h:sp (vs ++ dvs) H Q E):wpAny (model X.prog X.w) X.A (call (.ref f) us) (EP X pins σ Q) X.xe s:=by
  have r2:Vals (vs ++ dvs) (us ++ ds):=r.append hd
  have hl:(us ++ ds).length = ps.length:=by rw [← r2.length]; exact F.len _ _ _ _ h
  refine wpAny_call (codeAny_mono (F.run X.A X.stack s H ⟨us,[]⟩ (us ++ ds) (vs ++ dvs) Q E hr I.env0 (hb s us I.kIn hl) r2 h) fun r s' hq=>?_)
  cases r with
  | error e=>exact hx pins σ H s e s' I hq
  | ok fl=>
    cases fl with
    | ret u=>exact I.after hq
    | next=>exact False.elim hq
    | brk=>exact False.elim hq
    | cont=>exact False.elim hq
theorem pe_call (F:FnOk X.prog X.w X.K X.mg X.base CX k f fd ps sp) (hr:Room k X.A) (hg:Gl X x) (hm:X.mg x = some (.ref f)) (hk:PySem.W.keepIn X.K (.ref f) = true) (hb:Binds X.K fd ps ds) (hd:Vals dvs ds) (hx:Passes CX X E)
    (ha:PA X (e :: es) t) (hdb:(x == ("__debug__":Str)) = false:=by decide) (he:starEach (e :: es) X.env = (false,eval e X.env) :: starEach es X.env:=by rfl) (hpl:(backTo pos (starEach es X.env)).any (·.1) = false:=by rfl) :
    PE X (.Call (.Name x p) (e :: es) [] pos) (tCall sp dvs E t):=by
  intro pins s σ H Q I h
  refine wpAny_Call_Name_kw (ld_glob I hg hm ?_ hdb)
  refine PySem.W.callWith_K (h₀:=X.base) I.ok.mod.kin hk (thn (ha pos pins s σ H _ I h) fun us s1 ⟨vs,H1,I1,r,q⟩=>⟨I1.kIn,?_⟩) he hpl
  exact run_fn F hr hb hd hx I1 r q
theorem pe_meth {pl:Sem Bool} (he:PE X o ta) (c:Cls X.K C) (hm:Meth X.K C m f) (F:FnOk X.prog X.w X.K X.mg X.base CX k f fd ps sp) (hr:Room k X.A) (hb:Binds X.K fd ps ds) (hd:Vals dvs ds) (hx:Passes CX X E) (ha:PA X (e :: es) t)
    (hst:starEach (e :: es) X.env = (false,eval e X.env) :: starEach es X.env:=by rfl) (hpl:(backTo pos (starEach es X.env)).any (·.1) = false:=by rfl)
    (ht:eval (.Call (.Attribute o m apos) (e :: es) [] pos) X.env = (do
      let ov ← eval o X.env
      standAt apos.atName
      let (f,first) ← holding [ov] (getMethod ov m pl)
      callWith pos f first (backTo pos (starEach (e :: es) X.env)) (backToKw pos (keywordEach [] X.env))):=by rfl) :
    PE X (.Call (.Attribute o m apos) (e :: es) [] pos) (tMeth C m sp dvs E ta t):=by
  intro pins s σ H Q I h
  refine PySem.W.methodCall_KW (pl:=pl) (thn (he pins s σ H _ I h) fun u s1 ⟨x,H1,I1,rx,a,dx,fs,ex,ea,l,q⟩=>?_) ht
  subst ex
  obtain rfl:u = Value.ref a:=rx
  refine getmeth_ok I1 ea c hm l ?_
  refine PySem.W.callWith_K (first:=[.ref a]) (h₀:=X.base) I.ok.mod.kin hm.kp (thn (ha pos pins s1 σ H1 _ I1 q) fun us s2 ⟨vs,H2,I2,r,q2⟩=>⟨I2.kIn,?_⟩) hst hpl
  exact run_fn (us:=.ref a :: us) (vs:=.ref a :: vs) F hr hb hd hx I2 (.cons rfl r) q2
structure Mk (K:PySem.W.Frag) (C f:Addr):Prop where
  makes:PySem.W.makesIn K C = true
  init:PySem.W.findIn K (.ref C) "__init__" = some (some (.ref f))
  fn:PySem.W.isFn K (.ref f) = true
  kp:PySem.W.keepIn K (.ref C) = true
theorem run_make {pins:List (Addr × Obj)} {σ:St} {H:Hp} {s:Shared} {Q:VK} {us:List Value} {vs:List V} (M:Mk X.K C f) (F:FnOk X.prog X.w X.K X.mg X.base CX k f fd ps sp) (hr:Room (k + 1) X.A) (hb:Binds X.K fd ps ds) (hd:Vals dvs ds)
    (hx:Passes CX X E) (I:Inv X pins σ H s) (r:Vals vs us)
    (h:∀ x dx,H x = none→H dx = none→dx ≠ x→sp (.ref x :: (vs ++ dvs)) (upd (upd H dx (.own x)) x (.ins C dx [])) (fun v H2=>v = .non∧Q (.ref x) H2) E) :
    wpAny (model X.prog X.w) X.A (call (.ref C) us) (EP X pins σ Q) X.xe s:=by
  have hq:=h (s.heap.objs.size + 1) s.heap.objs.size (I.hok.fresh (Nat.le_succ _)) (I.hok.fresh (Nat.le_refl _)) (Nat.ne_of_lt (Nat.lt_succ_self _))
  have I2:=Inv.made (C:=C) I
  have r2:Vals (V.ref (s.heap.objs.size + 1) :: (vs ++ dvs)) (Value.ref (s.heap.objs.size + 1) :: (us ++ ds)):=.cons rfl (r.append hd)
  have hl:(Value.ref (s.heap.objs.size + 1) :: us ++ ds).length = ps.length:=by
    have e:=r2.length
    rw [F.len _ _ _ _ hq] at e
    exact e.symm
  refine wpAny_call (make_map (f:=f) I.kIn M.makes M.init (beq_iff_eq.mp M.fn) (codeAny_mono (F.run _ X.stack _ _ ⟨Value.ref (s.heap.objs.size + 1) :: us,[]⟩ (Value.ref (s.heap.objs.size + 1) :: (us ++ ds)) _ _ E (hr.make C us [])
    (I2.env0.make C us []) (hb _ (Value.ref (s.heap.objs.size + 1) :: us) I2.kIn hl) r2 hq) fun r s' hq'=>?_))
  cases r with
  | error e=>exact hx pins σ _ _ e s' I2 hq'
  | ok fl=>
    cases fl with
    | ret u=>
      obtain ⟨v,H',I3,rv,ev,q3⟩:=I2.after hq'
      subst ev
      exact ⟨rv,⟨V.ref (s.heap.objs.size + 1),H',I3,rfl,q3⟩⟩
    | next=>exact False.elim hq'
    | brk=>exact False.elim hq'
    | cont=>exact False.elim hq'
theorem pe_make (M:Mk X.K C f) (F:FnOk X.prog X.w X.K X.mg X.base CX k f fd ps sp) (hr:Room (k + 1) X.A) (hg:Gl X x) (hm:X.mg x = some (.ref C)) (hb:Binds X.K fd ps ds) (hd:Vals dvs ds) (hx:Passes CX X E)
    (ha:PA X (e :: es) t) (hdb:(x == ("__debug__":Str)) = false:=by decide) (he:starEach (e :: es) X.env = (false,eval e X.env) :: starEach es X.env:=by rfl) (hpl:(backTo pos (starEach es X.env)).any (·.1) = false:=by rfl) :
    PE X (.Call (.Name x p) (e :: es) [] pos) (tMake C sp dvs E t):=by
  intro pins s σ H Q I h
  refine wpAny_Call_Name_kw (ld_glob I hg hm ?_ hdb)
  refine PySem.W.callWith_K (h₀:=X.base) I.ok.mod.kin M.kp (thn (ha pos pins s σ H _ I h) fun us s1 ⟨vs,H1,I1,r,q⟩=>⟨I1.kIn,?_⟩) he hpl
  exact run_make M F hr hb hd hx I1 r q
end
section
variable {X:Cx} {CX:CXT} {k:Nat} {f C:Addr} {fd:FuncData} {ps ks:List Str} {sp:Sp} {E:XK} {x m:Str} {p pos apos kpos:Pos} {e o:Expr} {es:List Expr} {kws:List Keyword} {te ta:TE} {t tk:TA} {nm:Option Str}
variable {g:List Value→List Value→List Value} {gV:List V→List V→List V}
end
structure FnScope (N P:List Str) (sc:Scope):Prop where
  kind:sc.kind = .function
  co:sc.isCoroutine = false
  gen:sc.isGenerator = false
  nd:N.Nodup
  pre:N.take P.length = P
  par:∀ x ∈ P,sc.names.lookup x = some .local ∨ sc.names.lookup x = some .cell
  nofree:∀ y ∈ sc.names,y.2 ≠ .free
theorem bindL_out {kindOf:Str→Option NameKind} {x:Str}:∀ {binds:List (Str × Value)} {m:Str→Option Value},(∀ v,(x,v) ∉ binds)→bindL kindOf binds m x = m x
  | [],_,_=>rfl
  | (n,v) :: r,m,h=>by
    unfold bindL
    rw [bindL_out fun w hw=>h w (List.mem_cons_of_mem _ hw)]
    split
    · have:x ≠ n:=by rintro rfl; exact h v List.mem_cons_self
      simp [this]
    · rfl
theorem bindC_out {kindOf:Str→Option NameKind} {x:Str}:∀ {binds:List (Str × Value)} {m:Str→Option Value},(∀ v,(x,v) ∉ binds)→bindC kindOf binds m x = m x
  | [],_,_=>rfl
  | (n,v) :: r,m,h=>by
    unfold bindC
    rw [bindC_out fun w hw=>h w (List.mem_cons_of_mem _ hw)]
    split
    · rfl
    · have:x ≠ n:=by rintro rfl; exact h v List.mem_cons_self
      simp [this]
theorem bindL_get {kindOf:Str→Option NameKind} {x:Str} {v:Value}:∀ {P:List Str} {vs:List Value} {i:Nat} {m:Str→Option Value},P.Nodup→P[i]? = some x→vs[i]? = some v→kindOf x = some .local→
    bindL kindOf (P.zip vs) m x = some v
  | [],_,_,_,_,h,_,_=>by simp at h
  | _ :: _,[],_,_,_,_,h,_=>by simp at h
  | p :: P,w :: vs,0,m,nd,h1,h2,hk=>by
    simp at h1 h2; subst h1; subst h2
    show bindL kindOf ((p,w) :: P.zip vs) m p = _
    unfold bindL
    rw [bindL_out fun v hv=>(List.nodup_cons.mp nd).1 (List.of_mem_zip hv).1,if_pos hk]
    simp
  | p :: P,w :: vs,i + 1,m,nd,h1,h2,hk=>by
    show bindL kindOf ((p,w) :: P.zip vs) m x = _
    unfold bindL
    exact bindL_get (i:=i) (List.nodup_cons.mp nd).2 (by simpa using h1) (by simpa using h2) hk
theorem bindC_get {kindOf:Str→Option NameKind} {x:Str} {v:Value}:∀ {P:List Str} {vs:List Value} {i:Nat} {m:Str→Option Value},P.Nodup→P[i]? = some x→vs[i]? = some v→kindOf x ≠ some .local→
    bindC kindOf (P.zip vs) m x = some v
  | [],_,_,_,_,h,_,_=>by simp at h
  | _ :: _,[],_,_,_,_,h,_=>by simp at h
  | p :: P,w :: vs,0,m,nd,h1,h2,hk=>by
    simp at h1 h2; subst h1; subst h2
    show bindC kindOf ((p,w) :: P.zip vs) m p = _
    unfold bindC
    rw [bindC_out fun v hv=>(List.nodup_cons.mp nd).1 (List.of_mem_zip hv).1,if_neg hk]
    simp
  | p :: P,w :: vs,i + 1,m,nd,h1,h2,hk=>by
    show bindC kindOf ((p,w) :: P.zip vs) m x = _
    unfold bindC
    exact bindC_get (i:=i) (List.nodup_cons.mp nd).2 (by simpa using h1) (by simpa using h2) hk
def start (N:List Str) (vs:List V):St:=vs.map some ++ List.replicate (N.length - vs.length) none
def cxOf (CX:CXT) (P:Program) (w:World) (K:PySem.W.Frag) (mg:Str→Option Value) (base:Heap) (N:List Str) (qual:Str) (scope:Scope) (f:Addr) (cd:Value) (A:Around) (outer:List Env) (s:Shared) (H:Hp) (E:XK):Cx where
  prog:=P
  w:=w
  K:=K
  mg:=mg
  base:=base
  A:=A.deeper (envOfC qual scope s.heap.objs.size f cd)
  N:=N
  s₀:=s
  H₀:=H
  env:=envOfC qual scope s.heap.objs.size f cd
  outer:=outer
  stack:=envOfC qual scope s.heap.objs.size f cd :: outer
  ex:=[]
  calm:=true
  fn:=fun _=>true
  pn:=[]
  xe:=fun e s'=>wpAny (model P w) (A.deeper (envOfC qual scope s.heap.objs.size f cd)) (leaving (envOfC qual scope s.heap.objs.size f cd) e) (fun _ s''=>CX outer H s E e s'') (fun e' s''=>CX outer H s E e' s'') s'
theorem cell_has {sc:Scope} {n:Nat} {x:Str} (h:sc.names.lookup x = some .cell):∃ c,(cellsFrom n sc.names []).lookup x = some c:=by
  have q:=PySem.W.cellsFrom_some sc.names n [] (.inl h)
  exact Option.isSome_iff_exists.mp q
theorem inv_start {CX:CXT} {P:Program} {w:World} {K:PySem.W.Frag} {mg:Str→Option Value} {base:Heap} {N ps:List Str} {qual:Str} {scope:Scope} {f:Addr} {cd:Value} {A:Around} {outer:List Env} {s s1:Shared} {H:Hp} {E:XK} {us:List Value} {vs:List V}
    (S:FnScope N ps scope) (hd:A.handled = none) (e0:Env0 P w K mg base A outer s H) (hl:vs.length = ps.length) (r:Vals vs us)
    (x:InCallC s s.heap.objs.size (bindL (envOfC qual scope s.heap.objs.size f cd).kindOf (ps.zip us) fun _=>none) (cellsFrom (s.heap.objs.size + 1) scope.names []) (bindC (envOfC qual scope s.heap.objs.size f cd).kindOf (ps.zip us) fun _=>none) s1) :
    Inv (cxOf CX P w K mg base N qual scope f cd A outer s H E) [] (start N vs) H s1:=by
  have hpl:ps.length ≤ N.length:=by have:=congrArg List.length S.pre; rw [List.length_take] at this; omega
  obtain ⟨h1,tk,rfl,hk⟩:=x.done
  have noA:∀ b:Addr,b ∉ (cxOf CX P w K mg base N qual scope f cd A outer s H E).ex:=fun b z=>absurd (show b ∈ ([]:List Addr) from z) (by simp)
  refine ⟨⟨e0.mod,S.kind,rfl,rfl,Nat.le_refl _,fun y z c h1 h2=>?_,fun y hy=>?_,fun y c _ h=>?_,fun _=>hd,Around.frames_deeper e0.frames,.inr ⟨rfl,rfl⟩,fun b z=>absurd z (noA b),e0.bs,e0.bsz,fun b _ _=>noA b,fun b z=>absurd z (noA b),e0.funs,e0.frf⟩,
    rfl,e0.bare,Un.kept hk,⟨_,x.toInCall.ns,fun i y v h1 h2 h3=>?_⟩,fun y c h=>⟨_,x.cell y c h⟩,e0.hok.fresh (Nat.le_refl _),fun y c h=>?_,fun p hp=>absurd (show p ∈ ([]:List (Addr × Obj)) from hp) (by simp),e0.hok.kept hk,?_⟩
  · exact name_of_addr x.apart (PySem.mem_of_lookup h1) (PySem.mem_of_lookup h2)
  · have hy:scope.names.lookup y = some .cell ∨ scope.names.lookup y = some .free:=hy
    rcases hy with hy | hy
    · exact cell_has hy
    · exact absurd rfl (S.nofree _ (PySem.mem_of_lookup hy))
  · exact Nat.le_of_lt (x.above y c (PySem.mem_of_lookup h))
  · have hi:i < vs.length:=by
      unfold start at h2
      by_cases hi:i < vs.length
      · exact hi
      · rw [List.getElem?_append_right (by simpa using hi)] at h2
        rw [List.getElem?_replicate] at h2
        split at h2 <;> cases h2
    have ha:vs[i]? = some v:=by
      unfold start at h2
      rw [List.getElem?_append_left (by simpa using hi),List.getElem?_map] at h2
      cases e:vs[i]? with
      | none=>rw [e] at h2; cases h2
      | some a=>rw [e] at h2; cases h2; rfl
    obtain ⟨u,hu,rv⟩:=r.get ha
    have hp:ps[i]? = some y:=by
      rw [← S.pre,List.getElem?_take_of_lt (by omega)]; exact h1
    have ndP:ps.Nodup:=by rw [← S.pre]; exact S.nd.sublist (List.take_sublist _ _)
    refine ⟨u,rv,?_⟩
    rcases S.par y (List.mem_of_getElem? hp) with k | k
    · exact .inl ⟨k,bindL_get ndP hp hu k⟩
    · obtain ⟨c,e⟩:=cell_has (n:=s.heap.objs.size + 1) k
      refine .inr ⟨.inl k,c,e,?_⟩
      have q:=x.cell y c e
      rw [bindC_get ndP hp hu (by show scope.names.lookup y ≠ _; rw [k]; decide)] at q
      exact q
  · exact e0.hok.fresh (Nat.le_of_lt (x.above y c (PySem.mem_of_lookup h)))
  · unfold start
    show _ = N.length
    rw [List.length_append,List.length_map,List.length_replicate]
    omega
theorem fn_of {CX:CXT} {P:Program} {w:World} {K:PySem.W.Frag} {mg:Str→Option Value} {base:Heap} {k:Nat} {f:Addr} {name qual:Str} {params:Arguments} {body:List Stmt} {scope:Scope} {dV kV doc pm cdv ct oc:Value} {an od:Option Addr}
    {osl:Array (Option Value)} {N ps:List Str} {sp:Sp} (lk:K.lookup f = some ⟨oc,od,.func (PySem.W.fnOf name qual params body scope dV kV doc pm an cdv ct),osl⟩) (hcd:PySem.W.codeIn K cdv qual = true) (S:FnScope N ps scope)
    (len:∀ vs H Q E,sp vs H Q E→vs.length = ps.length)
    (hbody:∀ (A:Around) (outer:List Env) (s:Shared) (H:Hp) (vs:List V) (Q:VK) (E:XK),Room k (A.deeper (envOfC qual scope s.heap.objs.size f cdv))→sp vs H Q E→
      ∃ t,PSs (cxOf CX P w K mg base N qual scope f cdv A outer s H E) body t∧t { nx:=fun _ H'=>Q .non H',rt:=Q } (start N vs) H) :
    FnOk P w K mg base CX (k + 1) f (PySem.W.fnOf name qual params body scope dV kV doc pm an cdv ct) ps sp:=by
  refine ⟨len,fun A outer s H args us vs Q E hr e0 hb r hsp=>?_⟩
  have hl:=len _ _ _ _ hsp
  have KX:K.In s.heap:=e0.mod.kin.keeps fun b o e=>(e0.bs b o e).1
  have lim:s.heap.NoLimit:=e0.mod.nolimit.keeps fun b o e=>(e0.bs b o e).1
  have hkind:∀ y ∈ ps.zip us,scope.names.lookup y.1 = some .local ∨ (scope.names.lookup y.1 = some .cell∧((cellsFrom (s.heap.objs.size + 1) scope.names []).lookup y.1).isSome = true):=fun ⟨n,v⟩ hy=>by
    rcases S.par n (List.of_mem_zip hy).1 with q | q
    · exact .inl q
    · exact .inr ⟨q,PySem.W.cellsFrom_some _ _ _ (.inl q)⟩
  refine codeAny_call_function hr.depth (KX _ _ lk) rfl S.co S.gen rfl (PySem.W.codeRec_of KX hcd) (hb _ _ _ _ ?_)
  refine wpAny_newFunctionEnv_cells S.kind hkind fun env he s1 x=>?_
  subst he
  refine ⟨lim.keeps x.toInCall.keep,codeAny_func ?_⟩
  obtain ⟨t,ht,hq⟩:=hbody A outer s H vs Q E (hr.deeper _) hsp
  have I:Inv (cxOf CX P w K mg base N qual scope f cdv A outer s H E) [] (start N vs) H s1:=inv_start S hr.hd e0 hl r x
  refine wpAny_mono (ht [] s1 (start N vs) H _ I hq) (fun fl s' hs=>?_) fun e s' hs=>hs
  have fin:∀ {σ':St} {H':Hp} {v:V} {u:Value},Inv (cxOf CX P w K mg base N qual scope f cdv A outer s H E) [] σ' H' s'→RelV v u→Q v H'→CE outer P w H s Q u s':=
    fun {σ' H' v u} J rv q=>⟨v,H',J.os,J.bare,J.base,J.hok,rv,q⟩
  cases fl with
  | ret u=>
    obtain ⟨v,σ',H',J,rv,q⟩:=hs
    exact fin J rv q
  | next=>
    obtain ⟨σ',H',J,q⟩:=hs
    exact fin (v:=V.non) (u:=Value.none) J rfl q
  | brk=>
    obtain ⟨_,_,_,q⟩:=hs
    exact False.elim q
  | cont=>
    obtain ⟨_,_,_,q⟩:=hs
    exact False.elim q
end L2
namespace L2
open PySem PySem.Spec PyProof.Rows
section
variable {X:Cx} {x:Str} {p pos:Pos} {e:Expr} {es:List Expr} {t:TA} {id T:String} {r:List V→Hp→VK→Prop}
def tCB (r:List V→Hp→VK→Prop) (t:TA):TE:=fun σ H Q=>t σ H fun vs H1=>r vs H1 Q
theorem pe_callB (hc:CallR X (.builtin id) r) (hg:Gl X x) (hm:X.mg x = none) (hv:bootBuiltins x = some (.builtin id)) (ha:PA X (e :: es) t) (hn:x ≠ "__name__":=by decide) (hdb:(x == ("__debug__":Str)) = false:=by decide)
    (he:starEach (e :: es) X.env = (false,eval e X.env) :: starEach es X.env:=by rfl) (hpl:(backTo pos (starEach es X.env)).any (·.1) = false:=by rfl):PE X (.Call (.Name x p) (e :: es) [] pos) (tCB r t):=by
  intro pins s σ H Q I h
  refine wpAny_Call_Name_kw (ld_blt I hg hm hv ?_ hn hdb)
  exact PyProof.Rows.callWith_builtin1 (thn (ha pos pins s σ H _ I h) fun us s1 ⟨vs,H1,I1,r1,q1⟩=>hc pins s1 σ H1 vs us Q I1 r1 q1) he hpl
theorem pe_callTy (hc:CallR X (.type T) r) (hg:Gl X x) (hm:X.mg x = none) (hv:bootBuiltins x = some (.type T)) (ha:PA X (e :: es) t) (hn:x ≠ "__name__":=by decide) (hdb:(x == ("__debug__":Str)) = false:=by decide)
    (he:starEach (e :: es) X.env = (false,eval e X.env) :: starEach es X.env:=by rfl) (hpl:(backTo pos (starEach es X.env)).any (·.1) = false:=by rfl):PE X (.Call (.Name x p) (e :: es) [] pos) (tCB r t):=by
  intro pins s σ H Q I h
  refine wpAny_Call_Name_kw (ld_blt I hg hm hv ?_ hn hdb)
  exact PyProof.Rows.callWith_type1 (thn (ha pos pins s σ H _ I h) fun us s1 ⟨vs,H1,I1,r1,q1⟩=>hc pins s1 σ H1 vs us Q I1 r1 q1) he hpl
end
end L2
namespace HT
open PySem PyProof.Rows
section
open PySem.SeqAt
open PySem.AutoSeq1 (wpAny_loadPart')
open PySem.MeetsSeq PySem.MeetsSeq2 PySem.MeetsSeq3
end
section
variable {prog:Program} {w:World} {A:Around} {E:Value→Shared→Prop} {s:Shared}
def sIx (n d:Nat):Option Int→Nat
  | none=>d
  | some v=>if v < 0 then (v + (n:Int)).toNat else min v.toNat n
theorem sIx_none (n d:Nat):sIx n d none = d:=rfl
theorem sIx_nat (n d k:Nat):sIx n d (some (k:Int)) = min k n:=by
  show (if (k:Int) < 0 then ((k:Int) + (n:Int)).toNat else min (k:Int).toNat n) = min k n
  rw [if_neg (by omega),Int.toNat_natCast]
end
end HT
namespace L2
open PySem PySem.Spec PyProof.Rows
abbrev TO:=St→Hp→(Option Int→Hp→Prop)→Prop
def PO (X:Cx) (e:Option Expr) (t:TO):Prop:=
  ∀ (pins:List (Addr × Obj)) (s:Shared) (σ:St) (H:Hp) (Q:Option Int→Hp→Prop),Inv X pins σ H s→t σ H Q→
    wpAny (model X.prog X.w) X.A (evalPart e X.env) (fun u s'=>∃ o H',Inv X pins σ H' s'∧IsPart u o∧Q o H') X.xe s
def tNoPart:TO:=fun _ H Q=>Q none H
def tPart (t:TE):TO:=fun σ H Q=>t σ H fun x H1=>∃ i,x = .int i∧Q (some i) H1
section
variable {X:Cx} {e:Expr} {te:TE} {lo hi:Option Expr} {tl th:TO} {pos p2:Pos}
theorem po_none:PO X none tNoPart:=by
  intro pins s σ H Q I h
  rw [evalPart_none]
  exact wpAny_pure ⟨none,H,I,.none,h⟩
theorem po_some (h:PE X e te):PO X (some e) (tPart te):=by
  intro pins s σ H Q I hw
  rw [evalPart_some]
  refine thn (h pins s σ H _ I hw) fun u s1 ⟨x,H1,I1,r1,q1⟩=>?_
  obtain ⟨i,rfl,q⟩:=q1
  obtain ⟨t,rfl⟩:=r1
  exact ⟨some i,H1,I1,.int i t,q⟩
def SlR (X:Cx) (r:V→Option Int→Option Int→Hp→VK→Prop):Prop:=
  ∀ (pins:List (Addr × Obj)) (s:Shared) (σ:St) (H:Hp) (x:V) (v vl vu:Value) (lo hi:Option Int) (sl:Addr) (Q:VK),Inv X pins σ H s→RelV x v→s.heap.IsSliceOf sl vl vu .none→IsPart vl lo→IsPart vu hi→r x lo hi H Q→
    ∃ T id,typeLookup (.type T) "__getitem__" = pure (some (.builtin id))∧s.TypeIs v T∧wpAny (model X.prog X.w) X.A (getItem v (.ref sl)) (EP X pins σ Q) X.xe s
def tSl (r:V→Option Int→Option Int→Hp→VK→Prop) (te:TE) (tl th:TO):TE:=fun σ H Q=>te σ H fun x H1=>tl σ H1 fun l H2=>th σ H2 fun u H3=>r x l u H3 Q
theorem pe_slice {r:V→Option Int→Option Int→Hp→VK→Prop} (hr:SlR X r) (he:PE X e te) (hl:PO X lo tl) (hu:PO X hi th):PE X (.Subscript e (.Slice lo hi none p2) pos) (tSl r te tl th):=by
  intro pins s σ H Q I h
  refine Subscript_ (thn (he pins s σ H _ I h) fun v s1 ⟨x,H1,I1,r1,q1⟩=>?_)
  refine wpAny_Slice (thn (hl pins s1 σ H1 _ I1 q1) fun vl s2 ⟨l,H2,I2,pl,q2⟩=>thn (hu pins s2 σ H2 _ I2 q2) fun vu s3 ⟨u,H3,I3,pu,q3⟩=>?_)
  rw [evalPart_none]
  refine wpAny_pure ?_
  have I4:Inv X pins σ H3 { s3 with heap:=s3.heap.push { cls:=.type "slice",data:=.fields #[vl,vu,.none] } }:=I3.kept (t':=s3.toks) fun b ob q=>Heap.get?_push_of_some _ q
  obtain ⟨T,id,hT,ht,hg⟩:=hr pins { s3 with heap:=s3.heap.push { cls:=.type "slice",data:=.fields #[vl,vu,.none] } } σ H3 x v vl vu l u s3.heap.objs.size Q I4 r1 (Heap.IsSliceOf.new ..) pl pu q3
  show wpAny (model X.prog X.w) X.A (subscriptTail e (.Slice lo hi none p2) v (.ref s3.heap.objs.size)) (EP X pins σ Q) X.xe { s3 with heap:=s3.heap.push { cls:=.type "slice",data:=.fields #[vl,vu,.none] } }
  exact tail_any (ops:=[.ref s3.heap.objs.size,v]) ht hT hg (by with_unfolding_all rfl)
def cutV (xs:List V) (lo hi:Option Int):List V:=(xs.drop (HT.sIx xs.length 0 lo)).take (HT.sIx xs.length xs.length hi - HT.sIx xs.length 0 lo)
theorem cutV_length (xs:List V) (lo hi:Option Int):(cutV xs lo hi).length ≤ xs.length:=by
  unfold cutV
  rw [List.length_take,List.length_drop]
  omega
end
end L2
namespace L2
open PySem PySem.Spec PyProof.Rows
def ixN (n:Nat) (i:Int):Option Nat:=if 0 ≤ i then (if i < n then some i.toNat else none) else if -(n:Int) ≤ i then some (i + n).toNat else none
def atI {α:Type} (xs:List α) (i:Int):Option α:=(ixN xs.length i).bind fun j=>xs[j]?
theorem ixN_seq {n:Nat} {i:Int} {j:Nat} (h:ixN n i = some j):seqIndex? i n = some j∧j < n∧-(n:Int) ≤ i∧i < n:=by
  unfold ixN at h
  by_cases h0:0 ≤ i
  · rw [if_pos h0] at h
    by_cases h1:i < n
    · rw [if_pos h1] at h
      have e:i.toNat = j:=Option.some.inj h
      exact ⟨by rw [seqIndex_of h0 h1,e],by omega,by omega,h1⟩
    · rw [if_neg h1] at h; cases h
  · rw [if_neg h0] at h
    by_cases h1:-(n:Int) ≤ i
    · rw [if_pos h1] at h
      have e:(i + n).toNat = j:=Option.some.inj h
      exact ⟨by rw [seqIndex_neg (by omega) h1,e],by omega,h1,by omega⟩
    · rw [if_neg h1] at h; cases h
theorem atI_get {α:Type} {xs:List α} {i:Int} {v:α} (h:atI xs i = some v):∃ j,seqIndex? i xs.length = some j∧xs[j]? = some v∧j < xs.length∧-(xs.length:Int) ≤ i∧i < xs.length:=by
  unfold atI at h
  cases e:ixN xs.length i with
  | none=>rw [e] at h; cases h
  | some j=>
    rw [e] at h
    obtain ⟨h1,h2,h3,h4⟩:=ixN_seq e
    exact ⟨j,h1,h,h2,h3,h4⟩
theorem atI_nat {α:Type} {xs:List α} {j:Nat} {v:α} (h:xs[j]? = some v):atI xs (j:Int) = some v:=by
  have hj:j < xs.length:=(List.getElem?_eq_some_iff.mp h).1
  have e:ixN xs.length (j:Int) = some j:=by
    unfold ixN
    rw [if_pos (by omega),if_pos (by omega)]; simp
  unfold atI; rw [e]; exact h
def PlainIx (b:Expr):Prop:=∀ o i,subscripted b false o i = operate [o,i] (getItem o i)
def IxR (X:Cx) (r:R2):Prop:=
  ∀ (value slice:Expr) (pins:List (Addr × Obj)) (s:Shared) (σ:St) (H:Hp) (x y:V) (v u:Value) (Q:VK),Inv X pins σ H s→RelV x v→RelV y u→r x y H Q→
    subscripted slice false v u = operate [v,u] (getItem v u)→wpAny (model X.prog X.w) X.A (subscriptTail value slice v u) (EP X pins σ Q) X.xe s
def MtR (X:Cx) (id:String) (r:V→List V→Hp→VK→Prop):Prop:=
  ∀ (pins:List (Addr × Obj)) (s:Shared) (σ:St) (H:Hp) (x:V) (xs:List V) (v:Value) (us:List Value) (Q:VK),Inv X pins σ H s→RelV x v→Vals xs us→r x xs H Q→
    wpAny (model X.prog X.w) X.A (call (.builtin id) (v :: us)) (EP X pins σ Q) X.xe s
section
variable {X:Cx} {a b:Expr} {ta tb:TE} {pos:Pos}
theorem pe_ix {r:R2} (hr:IxR X r) (ha:PE X a ta) (hb:PE X b tb) (hs:PlainIx b):PE X (.Subscript a b pos) (tOp r ta tb):=by
  intro pins s σ H Q I h
  exact Subscript_ (binT ha hb I h fun v u s2 x y H2 I2 rx ry q=>hr a b pins s2 σ H2 x y v u Q I2 rx ry q (hs _ _))
def rIxL (K:PySem.W.Frag):R2:=fun x y H Q=>∃ p xs i v,x = .ref p∧y = .int i∧SqL K H p xs∧atI xs i = some v∧Q v H
def rIxT (K:PySem.W.Frag):R2:=fun x y H Q=>∃ p xs i v,x = .ref p∧y = .int i∧SqT K H p xs∧atI xs i = some v∧Q v H
theorem ix_list:IxR X (rIxL X.K):=by
  intro value slice pins s σ H x y v u Q I rx ry h hs
  obtain ⟨p,xs,i,z,rfl,rfl,hq,he,q⟩:=h
  cases rx
  obtain ⟨t,rfl⟩:=ry
  obtain ⟨its,r,pl,hz⟩:=I.list hq
  obtain ⟨j,h1,h2,h3,h4,h5⟩:=atI_get he
  obtain ⟨w,ew,rw'⟩:=r.get h2
  have hl:=r.length
  have hn:=line63
  have fin:EP X pins σ Q w s:=⟨z,H,I,rw',q⟩
  by_cases h0:0 ≤ i
  · have hj:i.toNat = j:=by
      rw [seqIndex_of h0 h5] at h1
      exact Option.some.inj h1
    exact item_listR pl.isList h0 (by omega) (by rw [hj]; simpa using ew) fin hs
  · have hj:(i + (its.toArray.size:Int)).toNat = j:=by
      rw [seqIndex_neg (by omega) h4] at h1
      rw [List.size_toArray,← hl]
      exact Option.some.inj h1
    exact subscriptTail_builtinR (x:=w) pl.isList.typeIs slot_list_getitem.lookup
      (wpAny_getItem_list_neg (Q:=fun r s'=>r = w∧EP X pins σ Q r s') pl.isList (by omega) (by rw [List.size_toArray] <;> omega) (by omega) (by rw [hj]; simpa using ew) ⟨rfl,fin⟩) hs
theorem ix_tup:IxR X (rIxT X.K):=by
  intro value slice pins s σ H x y v u Q I rx ry h hs
  obtain ⟨p,xs,i,z,rfl,rfl,hq,he,q⟩:=h
  cases rx
  obtain ⟨t,rfl⟩:=ry
  obtain ⟨its,r,pl,hz⟩:=I.tuple hq
  obtain ⟨j,h1,h2,h3,h4,h5⟩:=atI_get he
  obtain ⟨w,ew,rw'⟩:=r.get h2
  have hl:=r.length
  have hn:=line63
  have fin:EP X pins σ Q w s:=⟨z,H,I,rw',q⟩
  exact subscriptTail_builtinR (x:=w) pl.typeIs slot_tuple_getitem.lookup
    (getItem_tuple (j:=j) (Q:=fun r s'=>r = w∧EP X pins σ Q r s') pl (by omega) (by omega) (by rw [List.size_toArray,← hl]; exact h1) (by simpa using ew) ⟨rfl,fin⟩) hs
theorem mapSeq_set (its:List Value) (n j:Nat) (u:Value):Obj.mapSeq (·.setIfInBounds j u) { cls:=.type "list",data:=.seq its.toArray n } = { cls:=.type "list",data:=.seq (its.set j u).toArray n }:=by
  simp [Obj.mapSeq]
theorem Inv.lst {pins:List (Addr × Obj)} {σ:St} {H:Hp} {s:Shared} {p:Addr} {xs:List V} (I:Inv X pins σ H s) (h:H p = some (.lst xs)) :
    ∃ (its:List Value) (n:Nat),Vals xs its∧s.heap.get? p = some { cls:=.type "list",data:=.seq its.toArray n }∧xs.length ≤ sizeLine:=by
  obtain ⟨z,its,n,r,e⟩:=I.hok p _ h
  exact ⟨its,n,r,e,z⟩
theorem Inv.lstUpd {pins:List (Addr × Obj)} {σ:St} {H:Hp} {s:Shared} {p:Addr} {xs ys:List V} {its its':List Value} {n n':Nat} {f:Obj→Obj} (I:Inv X pins σ H s) (h:H p = some (.lst xs))
    (ho:s.heap.get? p = some { cls:=.type "list",data:=.seq its.toArray n }) (hf:f { cls:=.type "list",data:=.seq its.toArray n } = { cls:=.type "list",data:=.seq its'.toArray n' }) (r:Vals ys its') (hz:ys.length ≤ sizeLine) (t:Nat) :
    Inv X pins σ (upd H p (.lst ys)) { s with heap:=s.heap.update p f,toks:=t }:=by
  have e:(s.heap.update p f).get? p = some { cls:=.type "list",data:=.seq its'.toArray n' }:=by
    rw [Heap.get?_update_self f ho (by rw [hf] <;> rfl),hf]
  refine I.write (x:=p) (e:=p) (by rw [h]; trivial) (.inl rfl) (fun b u hb q=>(Heap.get?_update_other _ _ (Ne.symm hb)).trans q) ⟨_,e⟩ ?_
  exact ⟨hz,its',n',r,e⟩
def rSetL:V→V→V→Hp→(Hp→Prop)→Prop:=fun o i v H Q=>∃ p xs k j,o = .ref p∧i = .int k∧H p = some (.lst xs)∧ixN xs.length k = some j∧Q (upd H p (.lst (xs.set j v)))
theorem set_list:PSet X rSetL:=by
  intro pins s σ H o i v ov iv u Q I ro ri rv h
  obtain ⟨p,xs,k,j,rfl,rfl,hp,hj,q⟩:=h
  cases ro
  obtain ⟨t,rfl⟩:=ri
  obtain ⟨its,n,r,ho,hz⟩:=I.lst hp
  obtain ⟨h1,h2,h3,h4⟩:=ixN_seq hj
  have hl:=r.length
  have hn:=line63
  have I':Inv X pins σ (upd H p (.lst (xs.set j v))) { s with heap:=s.heap.update p (Obj.mapSeq (·.setIfInBounds j u)) }:=
    I.lstUpd hp ho (mapSeq_set its n j u) (r.set rv j) (by rw [List.length_set]; exact hz) s.toks
  by_cases h0:0 ≤ k
  · have hk:k.toNat = j:=by
      rw [seqIndex_of h0 h4] at h1
      exact Option.some.inj h1
    exact PySem.W.ki_setAt ho h0 (by omega) (by rw [List.size_toArray,← hl]; exact h4) (by rw [hk]; exact ⟨_,I',q⟩)
  · have hk:(k + (its.toArray.size:Int)).toNat = j:=by
      rw [seqIndex_neg (by omega) h3] at h1
      rw [List.size_toArray,← hl]
      exact Option.some.inj h1
    exact PySem.W.ki_setBack ho (by omega) (by rw [List.size_toArray,← hl]; exact h3) (by omega) (by rw [hk]; exact ⟨_,I',q⟩)
theorem slice_bounds (lo hi:Option Int) (n:Nat):(sliceBounds lo hi none n).1 = ((HT.sIx n 0 lo:Nat):Int)∧(sliceBounds lo hi none n).2.1 = ((HT.sIx n n hi:Nat):Int)∧(sliceBounds lo hi none n).2.2 = 1:=by
  refine ⟨?_,?_,rfl⟩
  · cases lo with
    | none=>simp [sliceBounds,HT.sIx]
    | some i=>
      simp only [sliceBounds,HT.sIx,Option.getD_none,show (1:Int) > 0 by decide,if_true]
      by_cases h:i < 0
      · simp only [h,if_true] <;> omega
      · simp only [h,if_false] <;> omega
  · cases hi with
    | none=>simp [sliceBounds,HT.sIx]
    | some i=>
      simp only [sliceBounds,HT.sIx,Option.getD_none,show (1:Int) > 0 by decide,if_true]
      by_cases h:i < 0
      · simp only [h,if_true] <;> omega
      · simp only [h,if_false] <;> omega
theorem slicePick_cut (its:List Value) (lo hi:Option Int):slicePick its.toArray lo hi none = ((its.drop (HT.sIx its.length 0 lo)).take (HT.sIx its.length its.length hi - HT.sIx its.length 0 lo)).toArray:=by
  obtain ⟨h1,h2,h3⟩:=slice_bounds lo hi its.toArray.size
  unfold slicePick
  rw [h1,h2,h3]
  simp only [sliceRange_one,pick_run,List.size_toArray] <;> rfl
def rSlL (K:PySem.W.Frag):V→Option Int→Option Int→Hp→VK→Prop:=fun x lo hi H Q=>∃ a xs,x = .ref a∧SqL K H a xs∧∀ p,H p = none→Q (.ref p) (upd H p (.lst (cutV xs lo hi)))
theorem sl_list:SlR X (rSlL X.K):=by
  intro pins s σ H x v vl vu lo hi sl Q I rx hs pl pu h
  obtain ⟨a,xs,rfl,hx,q⟩:=h
  cases rx
  obtain ⟨its,r,ht,hz⟩:=I.list hx
  have hlen:=r.length
  refine ⟨"list",_,slot_list_getitem.lookup,ht.isList.typeIs,?_⟩
  refine wpAny_getItem_list_slice ht.isList hs pl pu .none (by simp) ?_ (by rw [List.size_toArray] <;> omega)
  rw [slicePick_cut,← hlen]
  refine ⟨.ref s.heap.objs.size,_,I.laid (t':=s.toks) (o:=.lst (cutV xs lo hi)) (fun b ob q=>Heap.get?_push_of_some _ q) (Nat.le_refl _) ?_,rfl,q _ (I.hok.fresh (Nat.le_refl _))⟩
  exact ⟨Nat.le_trans (cutV_length xs lo hi) hz,_,0,(r.drop (HT.sIx xs.length 0 lo)).take (HT.sIx xs.length xs.length hi - HT.sIx xs.length 0 lo),Heap.get?_push_size _ rfl⟩
def flatV:V→Bool
  | .non=>true
  | .bl _=>true
  | .int _=>true
  | .str _=>true
  | _=>false
def eqV:V→V→Bool
  | .non,.non=>true
  | .bl a,.bl b=>a == b
  | .bl a,.int b=>(if a then 1 else 0) == b
  | .int a,.bl b=>a == (if b then 1 else 0)
  | .int a,.int b=>a == b
  | .str a,.str b=>a == b
  | _,_=>false
theorem eqAt_V {A:Around} {s:Shared} {y x:V} {u v:Value} (ry:RelV y u) (rx:RelV x v) (fy:flatV y = true) (fx:flatV x = true):SeqAt.EqAt A s u v (eqV y x):=by
  cases y with
  | non=>
    cases ry
    cases x with
    | non=>cases rx; exact SeqAt.EqAt.same _
    | bl b=>cases rx; exact SeqAt.EqAt.none_bool b
    | int b=>obtain ⟨t,rfl⟩:=rx; exact SeqAt.EqAt.none_int b t
    | str b=>obtain ⟨t,rfl⟩:=rx; exact SeqAt.EqAt.none_str b t
    | _=>exact absurd (show false = true from fx) Bool.false_ne_true
  | bl a=>
    cases ry
    cases x with
    | non=>cases rx; exact SeqAt.EqAt.bool_none a
    | bl b=>cases rx; exact SeqAt.EqAt.bool_bool a b
    | int b=>obtain ⟨t,rfl⟩:=rx; exact SeqAt.EqAt.bool_int a b t
    | str b=>obtain ⟨t,rfl⟩:=rx; exact SeqAt.EqAt.bool_str a b t
    | _=>exact absurd (show false = true from fx) Bool.false_ne_true
  | int a=>
    obtain ⟨t',rfl⟩:=ry
    cases x with
    | non=>cases rx; exact SeqAt.EqAt.int_none a t'
    | bl b=>cases rx; exact SeqAt.EqAt.int_bool a t' b
    | int b=>obtain ⟨t,rfl⟩:=rx; exact SeqAt.EqAt.int_int a t' b t
    | str b=>obtain ⟨t,rfl⟩:=rx; exact SeqAt.EqAt.int_str a t' b t
    | _=>exact absurd (show false = true from fx) Bool.false_ne_true
  | str a=>
    obtain ⟨t',rfl⟩:=ry
    cases x with
    | non=>cases rx; exact SeqAt.EqAt.str_none a t'
    | bl b=>cases rx; exact SeqAt.EqAt.str_bool a t' b
    | int b=>obtain ⟨t,rfl⟩:=rx; exact SeqAt.EqAt.str_int a t' b t
    | str b=>obtain ⟨t,rfl⟩:=rx; exact SeqAt.EqAt.str_str a t' b t
    | _=>exact absurd (show false = true from fx) Bool.false_ne_true
  | _=>exact absurd (show false = true from fy) Bool.false_ne_true
theorem call_len_seq:CallR X (.builtin "len") (fun xs H Q=>∃ p ys,xs = [.ref p]∧(SqL X.K H p ys ∨ SqT X.K H p ys)∧Q (.int ys.length) H):=by
  intro pins s σ H xs us Q I r h
  obtain ⟨p,ys,rfl,hq,q⟩:=h
  obtain ⟨u,rfl,rx⟩:=vals1 r
  cases rx
  have hn:=line63
  rcases hq with hq | hq
  · obtain ⟨its,r',pl,hz⟩:=I.list hq
    have hlen:=r'.length
    exact Calls.call_len_list pl.isList (by simp only [List.size_toArray] <;> omega) ⟨.int ys.length,H,I.tok _,⟨s.toks + 1,by rw [List.size_toArray,hlen]⟩,q⟩
  · obtain ⟨its,r',pl,hz⟩:=I.tuple hq
    have hlen:=r'.length
    exact len_tuple pl (by simp only [List.size_toArray] <;> omega) ⟨.int ys.length,H,I.tok _,⟨s.toks + 1,by rw [List.size_toArray,hlen]⟩,q⟩
theorem call_tuple_of:CallR X (.type "tuple") (fun xs H Q=>∃ p ys,xs = [.ref p]∧((SqL X.K H p ys∧∀ l,H l = none→Q (.ref l) (upd H l (.tup ys))) ∨ (SqT X.K H p ys∧Q (.ref p) H))):=by
  intro pins s σ H xs us Q I r h
  obtain ⟨p,ys,rfl,h⟩:=h
  obtain ⟨u,rfl,rx⟩:=vals1 r
  cases rx
  rcases h with ⟨hq,q⟩ | ⟨hq,q⟩
  · obtain ⟨its,r',pl,hz⟩:=I.list hq
    have hlen:=r'.length
    refine call_tuple_list pl.isList (fun h' kp=>?_) (by simp only [List.size_toArray] <;> omega)
    have I1:Inv X pins σ H { s with heap:=h' }:=I.kept (t':=s.toks) kp
    have I2:Inv X pins σ (upd H h'.objs.size (.tup ys)) { s with heap:=h'.push { cls:=.type "tuple",data:=.seq its.toArray } }:=
      I1.laid (t':=s.toks) (fun b o e=>Heap.get?_push_of_some _ e) (Nat.le_refl _) (show ObjOk X.prog X.w _ _ _ (.tup ys) from ⟨hz,its,r',IsTup.new _ _⟩)
    exact ⟨.ref h'.objs.size,_,I2,rfl,q _ (I1.hok.fresh (Nat.le_refl _))⟩
  · obtain ⟨its,r',pl,hz⟩:=I.tuple hq
    exact call_tuple_same pl ⟨.ref p,H,I,rfl,q⟩
def tyV (K:PySem.W.Frag) (T:String) (x:V) (H:Hp):Prop:=match x with
  | .str _=>T = "str"
  | .int _=>T = "int"
  | .ref p=>(T = "list"∧∃ xs,SqL K H p xs) ∨ (T = "tuple"∧∃ o,K.lookup p = some o∧o.cls = .type "tuple"∧o.dict = none) ∨
      (T = "dict"∧((∃ kvs,H p = some (.dK kvs)) ∨ ∃ kvs,H p = some (.dT kvs))) ∨ (T = "set"∧∃ S n,H p = some (.set S n))
  | _=>False
theorem tyV_is {pins:List (Addr × Obj)} {σ:St} {H:Hp} {s:Shared} {T:String} {x:V} {v:Value} (I:Inv X pins σ H s) (r:RelV x v) (ty:tyV X.K T x H) :
    s.TypeIs v T∧∀ a,v = .ref a→∃ ob,s.heap.get? a = some ob∧ob.dict = none:=by
  cases x with
  | str z=>
    obtain ⟨t,rfl⟩:=r
    cases (show T = "str" from ty)
    exact ⟨typeIs_str s z t,fun _ e=>nomatch e⟩
  | int i=>
    obtain ⟨t,rfl⟩:=r
    cases (show T = "int" from ty)
    exact ⟨typeIs_int s i t,fun _ e=>nomatch e⟩
  | ref p=>
    cases r
    rcases ty with ⟨rfl,xs,hq⟩ | ⟨rfl,o,hk,hc,hd⟩ | ⟨rfl,hk⟩ | ⟨rfl,S,n,hk⟩
    · obtain ⟨its,_,pl,_⟩:=I.list hq
      refine ⟨pl.isList.typeIs,fun a e=>?_⟩
      cases e
      obtain ⟨o,n,e,c,hd,_⟩:=pl
      exact ⟨o,e,hd⟩
    · refine ⟨⟨o,I.kIn p o hk,hc⟩,fun a e=>?_⟩
      cases e
      exact ⟨o,I.kIn _ o hk,hd⟩
    · have z:∃ o,s.heap.get? p = some o∧o.ExactDict:=by
        rcases hk with ⟨kvs,hk⟩ | ⟨kvs,hk⟩
        · obtain ⟨_,_,_,_,o,_,_,e,ex,_⟩:=I.hok p _ hk
          exact ⟨o,e,ex⟩
        · obtain ⟨_,_,_,_,o,_,_,e,ex,_⟩:=I.hok p _ hk
          exact ⟨o,e,ex⟩
      obtain ⟨o,e,ex⟩:=z
      refine ⟨⟨o,e,ex.1⟩,fun a e2=>?_⟩
      cases e2
      exact ⟨o,e,ex.2.1⟩
    · obtain ⟨o,_,_,_,e,ex,_⟩:=I.hok p _ hk
      refine ⟨⟨o,e,ex.1⟩,fun a e2=>?_⟩
      cases e2
      exact ⟨o,e,ex.2.1⟩
  | _=>exact False.elim ty
def tBM0 (K:PySem.W.Frag) (T:String) (r:V→List V→Hp→VK→Prop) (to:TE):TE:=fun σ H Q=>to σ H fun x H1=>tyV K T x H1∧r x [] H1 Q
def tBM (K:PySem.W.Frag) (T:String) (r:V→List V→Hp→VK→Prop) (to:TE) (t:TA):TE:=fun σ H Q=>to σ H fun x H1=>tyV K T x H1∧t σ H1 fun xs H2=>r x xs H2 Q
variable {o e:Expr} {es:List Expr} {to:TE} {t:TA} {name:Str} {apos cpos:Pos} {T id:String} {r:V→List V→Hp→VK→Prop}
theorem pe_bm0 (pa:PlainAttrs T) (slot:Slot T name id) (hty:typeOf (.builtin id) = pure (.type "method_descriptor")) (hm:MtR X id r) (ho:PE X o to)
    (hbase:attributeBase o name X.env (eval o X.env) = eval o X.env:=by rfl) (hline:(apos.endLine == cpos.line) = true:=by rfl):PE X (.Call (.Attribute o name apos) [] [] cpos) (tBM0 X.K T r to):=by
  intro pins s σ H Q I h
  refine wpAny_Call_method0_late hbase hline (thn (ho pins s σ H _ I h) fun v s1 ⟨x,H1,I1,r1,ty,q1⟩=>?_)
  obtain ⟨h1,h2⟩:=tyV_is I1 r1 ty
  exact ⟨T,id,pa,slot,hty,h1,h2,Calls.callWith_builtin rfl (PySem.evalArgs_none (hm pins s1 σ H1 x [] v [] Q I1 r1 .nil q1))⟩
theorem pe_bm (pa:PlainAttrs T) (slot:Slot T name id) (hty:typeOf (.builtin id) = pure (.type "method_descriptor")) (hm:MtR X id r) (ho:PE X o to) (ha:PA X (e :: es) t)
    (hbase:attributeBase o name X.env (eval o X.env) = eval o X.env:=by rfl)
    (hfew:((backTo cpos (starEach (e :: es) X.env)).all (fun x=>!x.1) && (backToKw cpos (keywordEach [] X.env)).all (fun x=>x.1.isSome)
      && decide ((e :: es).length + ([]:List Keyword).length + (if ([]:List Keyword).isEmpty then 0 else 1) < 30)) = true:=by rfl)
    (hline:(apos.endLine == cpos.line) = true:=by rfl) (hs:starEach (e :: es) X.env = (false,eval e X.env) :: starEach es X.env:=by rfl) (hplain:(backTo cpos (starEach es X.env)).any (·.1) = false:=by rfl) :
    PE X (.Call (.Attribute o name apos) (e :: es) [] cpos) (tBM X.K T r to t):=by
  intro pins s σ H Q I h
  refine wpAny_Call_method_late hbase hfew hline rfl (thn (ho pins s σ H _ I h) fun v s1 ⟨x,H1,I1,r1,ty,q1⟩=>?_)
  obtain ⟨h1,h2⟩:=tyV_is I1 r1 ty
  refine ⟨T,id,pa,slot,hty,h1,h2,?_⟩
  have hA:=ha cpos pins s1 σ H1 _ I1 q1
  rw [hs] at hA ⊢
  refine Calls.callWith_builtin (by show (false || (backTo cpos (starEach es X.env)).any (·.1)) = false; rw [hplain] <;> rfl) (Calls.evalArgs_plain ?_)
  exact thn hA fun us s2 ⟨vs,H2,I2,r2,q2⟩=>hm pins s2 σ H2 x vs v us Q I2 r1 r2 q2
end
end L2
namespace L2
open PySem PySem.Spec PyProof.Rows
def MtM (X:Cx) (id:String) (r:V→List V→Hp→VK→Prop):Prop:=
  ∀ (pins:List (Addr × Obj)) (s:Shared) (σ:St) (H:Hp) (x:V) (xs:List V) (v:Value) (us:List Value) (Q:VK),Inv X pins σ H s→RelV x v→Vals xs us→r x xs H Q→
    wpAny (model X.prog X.w) X.A (call (.builtin id) (v :: us)) (EP X pins σ Q) X.xe s
theorem Vals.one:∀ {x:V} {us:List Value},Vals [x] us→∃ u,us = [u]∧RelV x u
  | _,_,.cons r .nil=>⟨_,rfl,r⟩
theorem Vals.zero:∀ {us:List Value},Vals [] us→us = []
  | _,.nil=>rfl
theorem Vals.dropLast {xs:List V} {us:List Value} (h:Vals xs us):Vals xs.dropLast us.dropLast:=by
  induction h with
  | nil=>exact .nil
  | cons r t ih=>
    cases t with
    | nil=>exact .nil
    | cons q t'=>exact .cons r ih
theorem Vals.eraseIdx:∀ {xs:List V} {us:List Value} (i:Nat),Vals xs us→Vals (xs.eraseIdx i) (us.eraseIdx i)
  | _,_,_,.nil=>.nil
  | _,_,0,.cons _ t=>t
  | _,_,i + 1,.cons r t=>.cons r (Vals.eraseIdx i t)
theorem Vals.rep {xs:List V} {us:List Value} (h:Vals xs us):∀ k:Nat,Vals (List.replicate k xs).flatten (List.replicate k us).flatten
  | 0=>.nil
  | k + 1=>by
    rw [List.replicate_succ,List.replicate_succ,List.flatten_cons,List.flatten_cons]
    exact Vals.append h (Vals.rep h k)
theorem erase_last {α:Type} (l:List α):l.eraseIdx (l.length - 1) = l.dropLast:=by
  induction l with
  | nil=>rfl
  | cons a r ih=>
    cases r with
    | nil=>rfl
    | cons b r=>
      have e:(a :: b :: r).length - 1 = ((b :: r).length - 1) + 1:=by
        have h1:(a :: b :: r).length = r.length + 2:=rfl
        have h2:(b :: r).length = r.length + 1:=rfl
        omega
      rw [e,List.eraseIdx_cons_succ,ih]
      all_goals rfl
theorem len_erase {α:Type}:∀ (l:List α) (i:Nat),(l.eraseIdx i).length ≤ l.length
  | [],_=>Nat.le_refl _
  | _ :: _,0=>Nat.le_succ _
  | _ :: r,i + 1=>Nat.succ_le_succ (len_erase r i)
theorem foldl_rep (its:List Value):∀ (k:Nat) (acc:List Value),
    List.foldl (fun x1 x2=>x1 ++ x2) acc.toArray (List.replicate k its.toArray) = (acc ++ (List.replicate k its).flatten).toArray
  | 0,acc=>by simp
  | k + 1,acc=>by
    have e:acc.toArray ++ its.toArray = (acc ++ its).toArray:=by simp
    have e2:(acc ++ its) ++ (List.replicate k its).flatten = acc ++ (List.replicate (k + 1) its).flatten:=by
      rw [List.replicate_succ,List.flatten_cons,List.append_assoc]
    rw [← e2,← foldl_rep its k (acc ++ its),← e,List.replicate_succ,List.foldl_cons]
section
variable {X:Cx} {pins:List (Addr × Obj)} {σ:St} {H:Hp} {s:Shared} {l b:Addr} {xs ys zs:List V}
theorem Inv.lset {its its':List Value} {n:Nat} {f:Array Value→Array Value} {t':Nat} (I:Inv X pins σ H s) (hH:H l = some (.lst xs))
    (e:s.heap.get? l = some { cls:=.type "list",data:=.seq its.toArray n }) (hf:f its.toArray = its'.toArray) (hv:Vals ys its') (hz:ys.length ≤ sizeLine) :
    Inv X pins σ (upd H l (.lst ys)) { s with heap:=s.heap.update l (Obj.mapSeq f),toks:=t' }:=by
  have q:=PySem.IsL.update e f
  rw [hf] at q
  refine I.write (x:=l) (e:=l) (by rw [hH]; exact trivial) (.inl rfl) (fun b' u hb hu=>(Heap.get?_update_other s.heap (Obj.mapSeq f) (Ne.symm hb)).trans hu) ⟨_,q⟩ ?_
  exact ⟨hz,its',_,hv,q⟩
theorem Inv.lnew {its:List Value} {t':Nat} (I:Inv X pins σ H s) (hv:Vals ys its) (hz:ys.length ≤ sizeLine) :
    Inv X pins σ (upd H s.heap.objs.size (.lst ys)) { s with heap:=s.heap.push { cls:=.type "list",data:=.seq its.toArray },toks:=t' }:=
  I.laid (fun _ _ q=>Heap.get?_push_of_some _ q) (Nat.le_refl _) ⟨hz,its,0,hv,Heap.get?_push_size _ rfl⟩
theorem Inv.fresh (I:Inv X pins σ H s):H s.heap.objs.size = none:=I.hok.fresh (Nat.le_refl _)
theorem Inv.lstM (I:Inv X pins σ H s) (hH:H l = some (.lst xs)):xs.length ≤ sizeLine∧∃ (its:List Value) (n:Nat),Vals xs its∧xs.length = its.length∧s.heap.get? l = some { cls:=.type "list",data:=.seq its.toArray n }:=by
  obtain ⟨z,its,n,r,e⟩:=I.hok l _ hH
  exact ⟨z,its,n,r,r.length,e⟩
theorem notLongL {n:Nat} (h:n ≤ sizeLine):Builtin.List.listTooLong n = false:=by
  unfold Builtin.List.listTooLong
  exact decide_eq_false (by omega)
end
section
variable {X:Cx}
def rAppend:V→List V→Hp→VK→Prop:=fun x vs H Q=>∃ l xs y,x = .ref l∧vs = [y]∧H l = some (.lst xs)∧xs.length < sizeLine∧Q .non (upd H l (.lst (xs ++ [y])))
theorem mt_append:MtM X "list.append" rAppend:=by
  intro pins s σ H x vs v us Q I rx rv h
  obtain ⟨l,xs,y,rfl,rfl,hH,hz,q⟩:=h
  cases rx
  obtain ⟨u,rfl,ru⟩:=rv.one
  obtain ⟨z,its,n,r,hl,e⟩:=I.lstM hH
  refine call_meets F.slot_list_append ⟨_,e,rfl⟩ F.entry_list_append (F.args_list_append_2 _ _) (PySem.list_append l its.toArray n u (by rw [List.size_toArray]; omega)) ⟨e,?_⟩
  refine ⟨.non,_,I.lset (its':=its ++ [u]) hH e (by simp) (r.append (.cons ru .nil)) ?_,rfl,q⟩
  rw [List.length_append,List.length_singleton]
  omega
def rPop:V→List V→Hp→VK→Prop:=fun x vs H Q=>∃ l xs y,x = .ref l∧vs = []∧H l = some (.lst xs)∧xs[xs.length - 1]? = some y∧Q y (upd H l (.lst xs.dropLast))
theorem mt_pop:MtM X "list.pop" rPop:=by
  intro pins s σ H x vs v us Q I rx rv h
  obtain ⟨l,xs,y,rfl,rfl,hH,hy,q⟩:=h
  cases rx
  have hus:=rv.zero
  subst hus
  obtain ⟨z,its,n,r,hl,e⟩:=I.lstM hH
  obtain ⟨u,hu,ru⟩:=r.get hy
  have hy':its.toArray[its.toArray.size - 1]? = some u:=by
    show its.toArray[its.length - 1]? = some u
    rw [← Array.getElem?_toList,← hl]
    exact hu
  refine call_meets F.slot_list_pop ⟨_,e,rfl⟩ F.entry_list_pop (F.args_list_pop_1 _) (MeetsSeq.list_pop_last l its.toArray n u hy' (by rw [List.size_toArray]; omega)) ⟨e,?_⟩
  refine ⟨y,_,I.lset (its':=its.dropLast) hH e ?_ r.dropLast ?_,ru,q⟩
  · show its.toArray.eraseIdxIfInBounds (its.toArray.size - 1) = its.dropLast.toArray
    rw [List.size_toArray,List.eraseIdxIfInBounds_toArray,erase_last]
  · rw [List.length_dropLast]
    omega
def rPopAt:V→List V→Hp→VK→Prop:=fun x vs H Q=>∃ l xs i k y,x = .ref l∧vs = [.int i]∧H l = some (.lst xs)∧-(2 ^ 63) ≤ i∧i < 2 ^ 63∧seqIndex? i xs.length = some k∧xs[k]? = some y∧Q y (upd H l (.lst (xs.eraseIdx k)))
theorem mt_popAt:MtM X "list.pop" rPopAt:=by
  intro pins s σ H x vs v us Q I rx rv h
  obtain ⟨l,xs,i,k,y,rfl,rfl,hH,h1,h2,hk,hy,q⟩:=h
  cases rx
  obtain ⟨u,rfl,ru⟩:=rv.one
  obtain ⟨t,rfl⟩:=ru
  obtain ⟨z,its,n,r,hl,e⟩:=I.lstM hH
  obtain ⟨w,hw,rw'⟩:=r.get hy
  refine call_meets F.slot_list_pop ⟨_,e,rfl⟩ F.entry_list_pop (F.args_list_pop_2 _ _)
    (MeetsSeq.list_pop_at l its.toArray n i t k w (fitsIndex_both h1 h2) (by rw [List.size_toArray,← hl]; exact hk) (by rw [← Array.getElem?_toList]; exact hw) (by rw [List.size_toArray]; omega)) ⟨e,?_⟩
  refine ⟨y,_,I.lset (its':=its.eraseIdx k) hH e ?_ (r.eraseIdx k) ?_,rw',q⟩
  · show its.toArray.eraseIdxIfInBounds k = (its.eraseIdx k).toArray
    rw [List.eraseIdxIfInBounds_toArray]
  · have:=len_erase xs k
    omega
def rRep:R2:=fun x y H Q=>∃ l k xs,x = .ref l∧y = .int k∧H l = some (.lst xs)∧-(2 ^ 63) ≤ k∧k < 2 ^ 63∧xs.length * k.toNat ≤ sizeLine∧
  ∀ p,H p = none→Q (.ref p) (upd H p (.lst (List.replicate k.toNat xs).flatten))
theorem len_rep {α:Type} (xs:List α) (k:Nat):(List.replicate k xs).flatten.length = k * xs.length:=by
  induction k with
  | zero=>simp
  | succ k ih=>rw [List.replicate_succ,List.flatten_cons,List.length_append,ih,Nat.succ_mul,Nat.add_comm]
theorem op_rep:OpR X (binaryOp .Mult) rRep:=by
  intro pins s σ H x y v u Q I rx ry h
  obtain ⟨l,k,xs,rfl,rfl,hH,h1,h2,hz,q⟩:=h
  cases rx
  obtain ⟨t,rfl⟩:=ry
  obtain ⟨z,its,n,r,hl,e⟩:=I.lstM hH
  have hlen:its.toArray.size * k.toNat ≤ sizeLine:=by rw [List.size_toArray,← hl]; exact hz
  have hcap:¬ its.toArray.size * k.toNat > (2 ^ 63 - 1) / 8:=by
    have:(sizeLine:Nat) ≤ (2 ^ 63 - 1) / 8:=by decide
    omega
  have hfit:¬ (!Builtin.List.listFitsIndex k) = true:=by
    rw [fitsIndex_both h1 h2]
    exact Bool.false_ne_true
  have hlong:¬ Builtin.List.listTooLong (its.toArray.size * k.toNat) = true:=by
    rw [notLongL hlen]
    exact Bool.false_ne_true
  have hnew:List.foldl (fun x1 x2=>x1 ++ x2) #[] (List.replicate (if its.toArray.isEmpty = true then 0 else k.toNat) its.toArray) = (List.replicate k.toNat its).flatten.toArray:=by
    have f0:∀ m:Nat,List.foldl (fun x1 x2=>x1 ++ x2) #[] (List.replicate m its.toArray) = (List.replicate m its).flatten.toArray:=fun m=>by
      have:=foldl_rep its m []
      rw [List.nil_append] at this
      exact this
    rw [f0]
    cases its with
    | nil=>simp
    | cons a r'=>rw [if_neg (by simp)]
  refine wpAny_binaryOp_repeat_ref (T:="list") (U:="int") (by decide) ⟨_,e,rfl⟩ (fun s'=>typeIs_int s' k t) noFill_list_mul F.fills_int_mul F.slot_int_rmul repeat_list F.slot_int_index.lookup
    (call_meets F.slot_int_rmul (typeIs_int s k t) F.entry_int_rmul (F.args_int_rmul_2 _ _) (int___rmul___int_list k t l its.toArray n)
      ⟨e,rfl,⟨_,e,rfl⟩,call_meets F.slot_list_mul ⟨_,e,rfl⟩ F.entry_list_mul (F.args_list_mul_2 _ _) (AutoListH.list___mul___list_int_3 l its.toArray n k t hfit hcap hlong) ⟨e,?_⟩⟩)
  rw [hnew]
  exact ⟨.ref _,_,I.lnew (t':=s.toks) (r.rep k.toNat) (by rw [len_rep,Nat.mul_comm]; exact hz),rfl,q _ I.fresh⟩
end
section
variable {prog:Program} {w:World} {A:Around} {E:Value→Shared→Prop} {s:Shared}
end
section
variable {X:Cx}
end
end L2
namespace Att
open PySem PySem.W PySem.Calls PyProof.Rows
theorem ints_of_wellAll {P:Params} {h:Heap}:∀ (ns:List Int) (vs:List Value),WellAll P h vs (ns.map WData.int)→IntsAre vs ns:=by
  intro ns
  induction ns with
  | nil=>
    intro vs w
    rw [List.map_nil] at w
    cases w
    exact .nil
  | cons n ns ih=>
    intro vs w
    rw [List.map_cons] at w
    cases w with
    | cons a b=>
      cases a
      exact .cons _ _ (ih _ b)
theorem script_of {l:OpenLaw} {n:Nat} (hn:l.most = some n) {P:Params} {h:Heap} {args:List WData} {vals:List Value}
    (hpre:l.row.toRowW.claim.pre args = true) (hwl:WellAll P h vals args) :
    ∃ a vs ns,vals = [Value.ref a]∧args = [WData.list (ns.map WData.int)]∧h.get? a = some { cls:=.type "list",data:=.seq vs.toArray }∧IntsAre vs ns∧ns.length ≤ n:=by
  have hsh:WShape.hasAll [] args [.list .int] = true:=(pre_splitW hpre).1
  have hc:l.pre.holds [] { args:=args } = true:=(pre_splitW hpre).2
  obtain ⟨d,r,rfl,h1,h2⟩:=hasAllW_cons hsh
  obtain rfl:=hasAllW_nil h2
  obtain ⟨xs,rfl,h3⟩:=hasW_list h1
  obtain ⟨ns,rfl⟩:=items_int h3
  have hlen:ns.length ≤ n:=by
    unfold OpenLaw.pre at hc
    have h4:(WTm.not (.lt (.lit (.int (n:Int))) (.len (.arg 0)))).holds [] { args:=[.list (ns.map .int)] } = true:=by
      have h4:=(holds_andW hc).1
      rw [hn] at h4
      exact h4
    have h5:=condW_of h4 (w_not (w_lt w_lit (w_len_list (w_arg rfl))))
    rw [List.length_map] at h5
    refine Nat.le_of_not_lt fun q=>?_
    have q':(n:Int) < ((ns.length:Nat):Int):=by omega
    first
      | (rw [decide_eq_true q'] at h5; exact absurd h5 (by decide))
      | (simp at h5; omega)
  cases hwl with
  | cons w1 w2=>
    cases w2
    cases w1 with
    | list ho hall=>exact ⟨_,_,ns,rfl,rfl,ho,ints_of_wellAll ns _ hall,hlen⟩
theorem post_true (l:OpenLaw) (args:List WData):l.row.toRowW.claim.post args (.bool true) args = true:=
  postW_of (r:=l.row.toRowW) (X:=(true == true))
    (show WShape.has [] (.bool true) .bool = true by first | rfl | decide | simp [WShape.has,WShape.arms,WShape.armsAll])
    (show (WTm.eq .res (.lit (.bool true))).value [] { args:=args,res:=some (.bool true),after:=args } = some (.bool (true == true)) from w_eq_bool (w_res rfl) w_lit) rfl
theorem attach_call {l:OpenLaw} {n:Nat} {q:Program} {loose:List Str} {XP:(Str→Option Value)→Heap→Prop} {YP:World→Heap→Prop} {d:DefRec}
    (hn:l.most = some n) (hdf:d.params.defaults = [])
    (call:∀ (w:World) (s₀ s₁:Shared) (mg mb:Str→Option Value) (fa:Addr) (o:Obj) (pm cd doc:Value) (a:Addr) (vs:List Value) (ns:List Int),
      Ground q loose [] XP w s₀ mg mb s₁.heap→YP w s₁.heap→
      s₁.heap.get? fa = some o→o.data = .func (docDef d.name d.params d.body d.scope pm cd doc)→s₁.heap.CodeRec cd d.name→mg d.name = some (.ref fa)→
      s₁.heap.get? a = some { cls:=.type "list",data:=.seq vs.toArray }→IntsAre vs ns→ns.length ≤ n→s₁.gens = #[]→
      codeAny (model l.prog w) callerA (.call (.ref fa) ⟨[.ref a],[]⟩) (fun r s'=>r = .ok (.ret (.bool true))∧OldK s₁.heap s'.heap∧s'.os = s₁.os∧AllBare s'.gens) s₁) :
    WalkO q loose XP YP l.row.toRowW d [] (fun f vs=>PySem.call f vs):=by
  intro w s₀ s₁ mg mb G Y fa o pm cd doc dV kV ho hd hcd hD hmg hg args vals as hpre hlay hrd hwl hlo
  obtain rfl:dV = .none:=Dflts.none hD hdf
  obtain rfl:kV = .none:=Dflts.noKw hD
  obtain ⟨a,vs,ns,rfl,rfl,hobj,hints,hlen⟩:=script_of hn hpre hwl
  refine enter_call (codeAny_mono (call w s₀ s₁ mg mb fa o pm cd doc a vs ns G Y ho (fd_plain hd) hcd hmg hobj hints hlen hg) fun r s' hq=>?_)
  obtain ⟨rfl,h2,h3,h4⟩:=hq
  exact ⟨.inl ⟨.bool true,.bool true,[],rfl,fun _=>rfl,.bool true,post_true l _,fun _=>⟨List.Pairwise.nil,fun _ hm=>(nomatch hm)⟩⟩,h2,h3,h4⟩
section
variable {prog:Program} {w:World} {A:Around} {E:Value→Shared→Prop} {s:Shared} {K:Frag}
end
end Att
namespace L2
open PySem PySem.Spec PyProof.Rows
theorem vals_ints:∀ {vs:List Value} {ns:List Int},IntsAre vs ns→Vals (ns.map V.int) vs
  | _,_,.nil=>.nil
  | _,_,.cons n t h=>.cons ⟨t,rfl⟩ (vals_ints h)
def Only (H:Hp):Prop:=∀ b,H b = none ∨ ∃ o xs,H b = some (.frz o (.lst xs))
theorem law_call {P:Program} {w:World} {K:PySem.W.Frag} {mg mb:Str→Option Value} {CX:CXT} {k:Nat} {fa a:Addr} {fd:FuncData} {x:Str} {sp:Sp} {s₁:Shared} {vs:List Value} {ns:List Int}
    (KX:K.In s₁.heap) (hns:s₁.heap.Ns mainGlobals mg) (hb:s₁.heap.Ns builtinsNs mb) (hbb:∀ x:Str,x ≠ "__name__"→mb x = bootBuiltins x) (hlim:s₁.heap.NoLimit) (hg:s₁.gens = #[])
    (ha:s₁.heap.get? a = some { cls:=.type "list",data:=.seq vs.toArray }) (hi:IntsAre vs ns) (hl:ns.length ≤ sizeLine) (hr:Room k callerA)
    (F:∀ base:Heap,K.In base→base.Ns mainGlobals mg→FnOk P w K mg base CX k fa fd [x] sp) (hbind:∀ (s:Shared) (u:Value),BindsTo s fd ⟨[u],[]⟩ [(x,u)])
    (hsp:∀ H:Hp,Only H→SqL K H a (ns.map V.int)→sp [.ref a] H (fun v _=>v = .bl true) fun _ _ _=>False)
    (hCX:∀ H e s',CX [] H s₁ (fun _ _ _=>False) e s'→False) :
    codeAny (model P w) callerA (.call (.ref fa) ⟨[.ref a],[]⟩) (fun r s'=>r = .ok (.ret (.bool true))∧OldK s₁.heap s'.heap∧s'.os = s₁.os∧AllBare s'.gens) s₁:=by
  have rv:=vals_ints hi
  have lenV:=hi.length
  have core:∀ H:Hp,Only H→SqL K H a (ns.map V.int)→HOk P w H s₁.heap→(∀ b,H b ≠ none→b = a)→(H a ≠ none→K.lookup a = none)→
      codeAny (model P w) callerA (.call (.ref fa) ⟨[.ref a],[]⟩) (fun r s'=>r = .ok (.ret (.bool true))∧OldK s₁.heap s'.heap∧s'.os = s₁.os∧AllBare s'.gens) s₁:=by
    intro H hO hS hok hA hK
    have base_of:∀ {b:Addr} {o:Obj},s₁.heap.get? b = some o→H b = none→(hidT s₁.heap H).get? b = some o:=fun e n=>hidT_get e n
    have noA:∀ {b:Addr} {o:Obj} {es:Array DictEntry} {ep:Nat},s₁.heap.get? b = some o→o.data = .dict es ep→H b = none:=fun {b o es ep} e d=>by
      cases q:H b with
      | none=>rfl
      | some u=>
        have e':b = a:=hA b (by rw [q]; simp)
        subst e'
        rw [ha] at e; cases e
        have d':Data.seq vs.toArray _ = Data.dict es ep:=d
        cases d'
    have nsK:∀ {b:Addr} {m:Str→Option Value},s₁.heap.Ns b m→(hidT s₁.heap H).Ns b m:=fun {b m} ⟨o,es,ep,e,d,r⟩=>⟨o,es,ep,base_of e (noA e d),d,r⟩
    have hKb:K.In (hidT s₁.heap H):=fun b o e=>base_of (KX b o e) (by
      cases q:H b with
      | none=>rfl
      | some u=>
        have e':b = a:=hA b (by rw [q]; simp)
        subst e'
        rw [hK (by rw [q]; simp)] at e; cases e)
    have hM:Mod K mg (hidT s₁.heap H):=⟨hKb,nsK hns,⟨mb,nsK hb,hbb⟩,let ⟨mc,h1,h2⟩:=hlim; ⟨mc,nsK h1,h2⟩⟩
    have e0:Env0 P w K mg (hidT s₁.heap H) callerA [] s₁ H:=⟨rfl,hM,fun b o e=>of_hidT e,Nat.le_of_eq (hidT_size _ _),trivial,fun b hb=>absurd (show b ∈ ([]:List Addr) from hb) (by simp),hok,.of_eq hg⟩
    refine codeAny_mono ((F _ hKb (nsK hns)).run callerA [] s₁ H ⟨[.ref a],[]⟩ [.ref a] [.ref a] _ _ hr e0 (hbind s₁ (.ref a)) (.cons rfl .nil) (hsp H hO hS)) fun r s' h=>?_
    cases r with
    | error e=>exact (hCX H e s' h).elim
    | ok fl=>
      cases fl with
      | next=>exact False.elim h
      | brk=>exact False.elim h
      | cont=>exact False.elim h
      | ret u=>
        obtain ⟨v,H',os,bare,un,hok',r',q⟩:=h
        have q':v = .bl true:=q
        subst q'
        obtain rfl:u = Value.bool true:=r'
        refine ⟨rfl,OldK.of_keep fun b o e=>?_,os,bare⟩
        cases q:H b with
        | none=>exact un.keep b o e q (by intro z; exact absurd (show b ∈ ([]:List Addr) from z) (by simp)) (by simp)
        | some u=>
          rcases hO b with z | ⟨ob,xs,z⟩
          · rw [q] at z; cases z
          · have z2:=un.frzs b ob _ z
            obtain ⟨e1,_⟩:=hok b _ z
            obtain ⟨e2,_⟩:=hok' b _ z2
            rw [e] at e1; cases e1
            exact e2
  cases hk:K.lookup a with
  | some o=>
    have e:=KX a o hk
    rw [ha] at e
    cases e
    refine core (fun _=>none) (fun _=>.inl rfl) (.inr ⟨_,vs.toArray,_,hk,rfl,rfl,rfl,by rw [List.size_toArray,lenV]; exact hl,by simpa using rv⟩) (fun b u z=>by have z':(none:Option HO) = some u:=z; cases z') (fun b z=>absurd rfl z) fun z=>absurd rfl z
  | none=>
    refine core (fun b=>if b = a then some (.frz { cls:=.type "list",data:=.seq vs.toArray } (.lst (ns.map V.int))) else none) (fun b=>?_) (.inl (.inr ⟨{ cls:=.type "list",data:=.seq vs.toArray },if_pos rfl⟩)) (fun b u z=>?_) (fun b z=>?_) fun _=>hk
    · by_cases hb:b = a
      · exact .inr ⟨_,_,if_pos hb⟩
      · exact .inl (if_neg hb)
    · by_cases hb:b = a
      · have z':=(if_pos hb).symm.trans z
        cases z'
        subst hb
        exact ⟨ha,by rw [List.length_map]; exact hl,vs,_,rv,ha⟩
      · have z':=(if_neg hb).symm.trans z
        cases z'
    · by_cases hb:b = a
      · exact hb
      · exact absurd (if_neg hb) z
end L2
namespace L2
open PySem PySem.Spec PyProof.Rows
abbrev KOf {K:PySem.W.Frag} {h:Heap} (_:K.In h):PySem.W.Frag:=K
theorem walk_of {l:PySem.W.OpenLaw} {n k:Nat} {q:Program} {loose:List Str} {XP:(Str→Option Value)→Heap→Prop} {YP:World→Heap→Prop} {d:DefRec} {K:Params→PySem.W.Frag} {CX:World→CXT} {sp:World→Sp} {x:Str}
    (hn:l.most = some n) (hn2:n ≤ sizeLine) (hdf:d.params.defaults = []) (hr:Room k callerA)
    (hY:∀ (w:World) (h:Heap),YP w h→(K w.params).In h)
    (F:∀ (w:World) (mg:Str→Option Value) (fa:Addr) (h:Heap),(K w.params).In h→h.Ns mainGlobals mg→mg d.name = some (.ref fa)→
      ∃ fd:FuncData,(∀ (s:Shared) (u:Value),BindsTo s fd ⟨[u],[]⟩ [(x,u)])∧
        ∀ base:Heap,(K w.params).In base→base.Ns mainGlobals mg→FnOk l.prog w (K w.params) mg base (CX w) k fa fd [x] (sp w))
    (hsp:∀ (w:World) (H:Hp) (a:Addr) (ns:List Int),ns.length ≤ n→Only H→SqL (K w.params) H a (ns.map V.int)→sp w [.ref a] H (fun v _=>v = .bl true) fun _ _ _=>False)
    (hCX:∀ (w:World) (H:Hp) (s:Shared) (e:Value) (s':Shared),CX w [] H s (fun _ _ _=>False) e s'→False) :
    PySem.W.WalkO q loose XP YP l.row.toRowW d [] (fun f vs=>PySem.call f vs):=by
  refine Att.attach_call hn hdf fun w s₀ s₁ mg mb fa o pm cd doc a vs ns G Y ho hd hcd hmg hobj hints hlen hg=>?_
  have KX:=hY w _ Y
  obtain ⟨fd,hb,hF⟩:=F w mg fa _ KX G.T.g hmg
  exact law_call KX G.T.g G.T.b G.T.builtins G.T.nolimit hg hobj hints (Nat.le_trans hlen hn2) hr hF hb (fun H hO hS=>hsp w H a ns hlen hO hS) fun H e s'=>hCX w H s₁ e s'
end L2
namespace L2
open PySem PySem.Spec PyProof.Rows
def inClass (s:Stmt) (j:Nat):Stmt:=match s with
  | .ClassDef _ _ _ body _ _ _ _ _ _ _=>body.getD j (.Pass ⟨0,0,0,0⟩)
  | _=>.Pass ⟨0,0,0,0⟩
def defArgs (s:Stmt):Arguments:=match s with
  | .FunctionDef _ a _ _ _ _ _ _ _ _=>a
  | _=>{ posonlyargs:=[],args:=[],vararg:=none,kwonlyargs:=[],kw_defaults:=[],kwarg:=none,defaults:=[] }
def defBody (s:Stmt):List Stmt:=match s with
  | .FunctionDef _ _ b _ _ _ _ _ _ _=>b
  | _=>[]
def defScope (s:Stmt):Scope:=match s with
  | .FunctionDef _ _ _ _ _ _ sc _ _ _=>sc
  | _=>{ kind:=.function,names:=[],isGenerator:=false,isCoroutine:=false }
abbrev CX0:CXT:=fun _ _ _ _ _ _=>False
abbrev E0:XK:=fun _ _ _=>False
theorem pass0 {X:Cx}:Passes CX0 X E0:=fun _ _ _ _ _ _ _ h=>h.elim
structure Fun (K:PySem.W.Frag) (x qual:Str) (st:Stmt) (f:Addr) (fd:FuncData):Prop where
  ex:∃ (oc:Value) (od:Option Addr) (kV doc pm:Value) (an:Option Addr) (cdv ct:Value) (osl:Array (Option Value)),
    fd = PySem.W.fnOf x qual (defArgs st) (defBody st) (defScope st) .none kV doc pm an cdv ct∧K.lookup f = some ⟨oc,od,.func fd,osl⟩∧PySem.W.codeIn K cdv qual = true
  kp:PySem.W.keepIn K (.ref f) = true
section
variable {P:Program} {w:World} {K:PySem.W.Frag} {mg:Str→Option Value} {base:Heap}
theorem Fun.ok {x qual:Str} {st:Stmt} {f:Addr} {fd:FuncData} {N ps:List Str} {k:Nat} {sp:Sp} (F:Fun K x qual st f fd) (S:FnScope N ps (defScope st)) (len:∀ vs H Q E,sp vs H Q E→vs.length = ps.length)
    (hbody:∀ (cdv:Value) (A:Around) (outer:List Env) (s:Shared) (H:Hp) (vs:List V) (Q:VK) (E:XK),Room k (A.deeper (envOfC qual (defScope st) s.heap.objs.size f cdv))→sp vs H Q E→
      ∃ t,PSs (cxOf CX0 P w K mg base N qual (defScope st) f cdv A outer s H E).nox (defBody st) t∧t { nx:=fun _ H'=>Q .non H',rt:=Q } (start N vs) H):FnOk P w K mg base CX0 (k + 1) f fd ps sp:=by
  obtain ⟨oc,od,kV,doc,pm,an,cdv,ct,osl,rfl,lk,hcd⟩:=F.ex
  refine fn_of lk hcd S len fun A outer s H vs Q E hr hsp=>?_
  obtain ⟨t,h,q⟩:=hbody cdv A outer s H vs Q E hr hsp
  exact ⟨t,h.nox,q⟩
theorem Fun.binds {x qual:Str} {st:Stmt} {f:Addr} {fd:FuncData} {ps:List Str} (F:Fun K x qual st f fd)
    (h:∀ (kV doc pm:Value) (an:Option Addr) (cdv ct:Value) (us:List Value),us.length = ps.length→bindArgs (PySem.W.fnOf x qual (defArgs st) (defBody st) (defScope st) .none kV doc pm an cdv ct) ⟨us,[]⟩ = pure (ps.zip us)):Binds K fd ps []:=by
  obtain ⟨oc,od,kV,doc,pm,an,cdv,ct,osl,rfl,lk,hcd⟩:=F.ex
  exact .all (h kV doc pm an cdv ct)
theorem fun_mk {x qual:Str} {st:Stmt} {f:Addr} {oc:Value} {od an:Option Addr} {osl:Array (Option Value)} {kV doc pm cdv ct:Value} (l:K.lookup f = some ⟨oc,od,.func (PySem.W.fnOf x qual (defArgs st) (defBody st) (defScope st) .none kV doc pm an cdv ct),osl⟩)
    (c:PySem.W.codeIn K cdv qual = true) (k:PySem.W.keepIn K (.ref f) = true):Fun K x qual st f (PySem.W.fnOf x qual (defArgs st) (defBody st) (defScope st) .none kV doc pm an cdv ct):=⟨⟨oc,od,kV,doc,pm,an,cdv,ct,osl,rfl,l,c⟩,k⟩
end
theorem small1000 {n:Nat} (h:n ≤ 1000):n < sizeLine:=Nat.lt_of_le_of_lt h (by decide)
section
variable {X:Cx}
theorem pv (i:Nat) {x:Str} {pos:Pos} (hN:X.N[i]? = some x:=by rfl) (hv:Vis X.env.scope x:=by first | exact Or.inl rfl | exact Or.inr (Or.inl rfl) | exact Or.inr (Or.inr rfl)) (hd:(x == ("__debug__":Str)) = false:=by decide)
    (hcd:(x == ("__classdict__":Str)) = false:=by decide):PE X (.Name x pos) (tVar i):=pe_var hN hv hd hcd
end
theorem iteF {A B:Prop} (h:B):if false = true then A else B:=by
  rw [if_neg Bool.false_ne_true]
  exact h
theorem iteT {A B:Prop} (h:A):if true = true then A else B:=by
  rw [if_pos rfl]
  exact h
theorem ite2 {c A B:Prop} [Decidable c] (h1:c→A) (h2:¬ c→B):if c then A else B:=by
  by_cases h:c
  · rw [if_pos h]
    exact h1 h
  · rw [if_neg h]
    exact h2 h
def Same (H H':Hp):Prop:=∀ b o,H b = some o→H' b = some o
theorem Same.refl (H:Hp):Same H H:=fun _ _ h=>h
theorem Same.trans {H H1 H2:Hp} (a:Same H H1) (b:Same H1 H2):Same H H2:=fun c o h=>b c o (a c o h)
theorem Same.seq {K:PySem.W.Frag} {H H':Hp} {a:Addr} {xs:List V} (e:Same H H') (h:SqL K H a xs):SqL K H' a xs:=by
  rcases h with (h | ⟨o,h⟩) | h
  · exact .inl (.inl (e _ _ h))
  · exact .inl (.inr ⟨o,e _ _ h⟩)
  · exact .inr h
end L2
set_option maxHeartbeats 4000000
namespace L2
open PySem PySem.Spec PyProof.Rows
structure Fly (P:Program) (w:World) (outer:List Env) (H:Hp) (s:Shared) (H':Hp) (ea C:Addr) (B:Heap) (t:Addr) (s':Shared):Prop where
  os:s'.os = s.os
  bare:AllBare s'.gens
  fl:Heap.FlyingW B outer ea (.ref C) (.ref t) s'.heap
  hok:HOk P w H' B
  kb:∀ b o,s.heap.get? b = some o→H b = none→b ∉ frs outer→B.get? b = some o
  tb:∀ b o,s.heap.get? b = some o→b ∉ frs outer→∃ o',B.get? b = some o'
  sl:∀ b o,s.heap.get? b = some o→H b = none→b ∈ frs outer→∃ l,s'.heap.get? b = some { o with slots:=l }
  frh:∀ b ∈ frs outer,H b = none
  fre:∀ b o,s.heap.get? b = some o→H b = none→H' b = none
  tups:∀ b xs,H b = some (.tup xs)→H' b = some (.tup xs)
  frzs:∀ b o u,H b = some (.frz o u)→H' b = some (.frz o u)
  tbls:∀ b ps,H b = some (.tbl ps)→∃ more,H' b = some (.tbl (ps ++ more))
def CXF (P:Program) (w:World):CXT:=fun outer H s E e s'=>∃ ea C H' B t,e = .ref ea∧Fly P w outer H s H' ea C B t s'∧E (.ref C) none H'
section
variable {P:Program} {w:World} {outer:List Env} {H H':Hp} {s s':Shared} {ea C t:Addr} {B:Heap}
def ExcAt (ea C:Addr) (h:Heap):Prop:=∃ oe,h.get? ea = some oe∧oe.cls = .ref C∧PySem.W.notCls oe = true
def ExcO (ea C:Addr):HO:=.ext (ExcAt ea C)
end
section
variable {X:Cx} {pins:List (Addr × Obj)} {σ:St} {H H':Hp} {s s':Shared} {ea C t:Addr} {B:Heap}
structure Leaves (X:Cx) (E:XK):Prop where
  stk:X.stack = X.env :: X.outer
  fr:X.env.frame = some X.env.locals
  ex:X.ex = []
  xe:X.xe = fun e s'=>wpAny (model X.prog X.w) X.A (leaving X.env e) (fun _ s''=>CXF X.prog X.w X.outer X.H₀ X.s₀ E e s'') (fun e' s''=>CXF X.prog X.w X.outer X.H₀ X.s₀ E e' s'') s'
theorem frs_cons {env:Env} {outer:List Env} {L:Addr} (h:env.frame = some L):frs (env :: outer) = L :: frs outer:=by
  unfold frs
  rw [List.filterMap_cons,h]
theorem Fly.leave {E:XK} (L:Leaves X E) (I:Inv X pins σ H s) (f:Fly X.prog X.w X.stack H s H' ea C B t s') {h:Heap} (x:Heap.FlyingW B X.outer ea (.ref C) (.ref t) h) (up:s'.heap.UpToSlots h):Fly X.prog X.w X.outer X.H₀ X.s₀ H' ea C B t { s' with heap:=h }:=by
  have nL:∀ b o,X.s₀.heap.get? b = some o→b ≠ X.env.locals:=fun b o e=>Nat.ne_of_lt (Nat.lt_of_lt_of_le (Heap.lt_size e) I.ok.above)
  have ns:∀ b o,X.s₀.heap.get? b = some o→b ∉ frs X.outer→b ∉ frs X.stack:=fun b o e nb z=>by
    rw [L.stk,frs_cons L.fr] at z
    rcases List.mem_cons.mp z with z | z
    · exact nL b o e z
    · exact nb z
  have nx:∀ b:Addr,b ∉ X.ex:=fun b z=>by rw [L.ex] at z; cases z
  refine ⟨f.os.trans I.os,f.bare,x,f.hok,fun b o e n nb=>?_,fun b o e nb=>?_,fun b o e n hb=>?_,I.ok.frf,fun b o e n=>?_,fun b xs e=>f.tups b xs (I.base.tups b xs e),fun b o u e=>f.frzs b o u (I.base.frzs b o u e),fun b ps e=>?_⟩
  · exact f.kb b o (I.base.keep b o e n nb (nx b)) (I.base.free b o e n (nx b)) (ns b o e nb)
  · obtain ⟨o',e'⟩:=I.base.there b o e (nx b)
    exact f.tb b o' e' (ns b o e nb)
  · obtain ⟨l,q⟩:=I.base.slot b o e n hb (nx b)
    have hs:b ∈ frs X.stack:=by rw [L.stk,frs_cons L.fr]; exact List.mem_cons_of_mem _ hb
    obtain ⟨l2,q2⟩:=f.sl b _ q (I.base.free b o e n (nx b)) hs
    obtain ⟨_,o2,q3,nf⟩:=f.fl.2.2.1.mem hs
    rw [q2] at q3
    cases q3
    obtain ⟨l3,q4⟩:=up b _ q2 nf
    exact ⟨l3,q4⟩
  · obtain ⟨o',e'⟩:=I.base.there b o e (nx b)
    exact f.fre b o' e' (I.base.free b o e n (nx b))
  · obtain ⟨m1,e1⟩:=I.base.tbls b ps e
    obtain ⟨m2,e2⟩:=f.tbls b _ e1
    exact ⟨m1 ++ m2,by rw [e2,Array.append_assoc]⟩
theorem passN:Passes (CXF X.prog X.w) X (fun _ _ _=>False):=fun pins σ H s e s' I h=>by
  obtain ⟨_,_,_,_,_,_,_,q⟩:=h
  exact q.elim
theorem passF {E:XK} (L:Leaves X E):Passes (CXF X.prog X.w) X E:=fun pins σ H s e s' I h=>by
  obtain ⟨ea,C,H',B,t,rfl,f,q⟩:=h
  rw [L.xe]
  refine wpAny_leaves_onW (by rw [I.ok.frames,L.stk]) L.fr (by have z:=f.fl; rw [L.stk] at z; exact z) fun h' x up=>?_
  exact ⟨ea,C,H',B,t,rfl,f.leave L I x up,q⟩
end
end L2
namespace L2
open PySem PySem.Spec PyProof.Rows
theorem own_obj {K:PySem.W.Frag} {h:Heap} {C:Addr} {bmB:List Value} {newId:String} (kin:K.In h) (hq:PySem.W.excIn K C bmB newId = true) :
    ∃ bm N nm qn bs hdct sn sub ab col dd k0 k1 k2 k3 k5 mN,h.get? C = some (excClassObj nm qn C N bs bm hdct sn sub ab col dd k0 k1 k2 k3 k5 newId)∧h.Ns N mN∧mN "__init__" = none∧OwnTail h bmB bm∧PySem.W.mroIn K C = fun b=>some ((Value.ref C :: bm).contains b):=by
  unfold PySem.W.excIn at hq
  split at hq
  · rename_i dct cls slt look
    split at hq
    · rename_i CC rest a0 a1 a2 a3 nn a5 em es
      simp only [Bool.and_eq_true,beq_iff_eq,Bool.not_eq_true'] at hq
      obtain ⟨⟨⟨⟨⟨e1,e2⟩,e3⟩,e4⟩,e5⟩,e6⟩:=hq
      subst e1 e2
      have hmro:PySem.W.mroIn K CC = fun b=>some ((Value.ref CC :: rest).contains b):=by
        funext b
        unfold PySem.W.mroIn PySem.W.clsIn
        rw [look]
        simp [em]
      obtain ⟨c1,c2,c3,c4,c5,c6,c7,c8,c9,c10,c11⟩:=cls
      dsimp only at em e3 e5 e6
      subst em e3
      have hsl:slt = #[a0,a1,a2,a3,some (.builtin nn),a5]:=by
        obtain ⟨ll⟩:=slt
        simp only at es
        rw [es]
      subst hsl
      exact ⟨rest,c4,c1,c5,c2,c6,c7,c8,c9,c10,dct,a0,a1,a2,a3,a5,_,kin _ _ look,.of_isNs (PySem.W.isNs_of_in kin e5),PySem.W.nsMap_none_of_in kin e5 e6,PySem.W.tail_of_in kin e4,hmro⟩
    · cases hq
  · cases hq
section
variable {X:Cx} {E:XK} {x:Str} {C:Addr} {np cpos pos:Pos} {e:Expr} {es:List Expr} {ta:TA} {B newId initId:String} {bmB:List Value}
def tRaise (C:Addr) (E:XK) (ta:TA):TS:=fun _ σ H=>ta σ H fun vs H1=>vs.length ≤ sizeLine∧E (.ref C) none H1
theorem ps_raise (L:Leaves X E) (hc:X.calm = true) (FB:ExcBaseFacts B newId initId bmB) (hq:PySem.W.excIn X.K C bmB newId = true) (hg:Gl X x) (hm:X.mg x = some (.ref C)) (ha:PA X (e :: es) ta)
    (hs:starEach (e :: es) X.env = (false,eval e X.env) :: starEach es X.env:=by rfl) (hp:(backTo cpos (starEach es X.env)).any (·.1) = false:=by rfl) (hd:(x == ("__debug__":Str)) = false:=by decide) :
    PS X (.Raise (some (.Call (.Name x np) (e :: es) [] cpos)) none pos) (tRaise C E ta):=by
  intro pins s σ H D I h
  obtain ⟨bm,N,nm,qn,bs,hdct,sn,sub,ab,col,dd,k0,k1,k2,k3,k5,mN,hC,hN,hni,T,_⟩:=own_obj I.ok.mod.kin hq
  refine wpAny_Raise_call_subT (C:=C) (nm:=nm) (q:=qn) (N:=N) (bs:=bs) (bm:=bm) (hdct:=hdct) (sn:=sn) (sub:=sub) (ab:=ab) (col:=col) (dd:=dd) (k0:=k0) (k1:=k1) (k2:=k2) (k3:=k3) (k5:=k5) FB (mN:=mN) (T.hasType FB.hasBase) (I.ok.hd hc)
    (by rw [hs]; show (false || (backTo cpos (starEach es X.env)).any (·.1)) = false; rw [hp]; rfl) hni (ld_glob I hg hm ⟨rfl,?_⟩ hd)
  have h1:=ha cpos pins s σ H _ I h
  rw [hs] at h1 ⊢
  refine Calls.evalArgs_plain (thn h1 fun us s2 ⟨vs,H1,I1,r,hl,q⟩=>⟨rfl,by rw [← r.length]; exact hl,I1.bk _ _ hC,hN.keeps I1.bk,T.keeps I1.bk,fun h' ea mk=>?_⟩)
  rw [L.xe]
  have nL:∀ b o,X.s₀.heap.get? b = some o→b ≠ X.env.locals:=fun b o q=>Nat.ne_of_lt (Nat.lt_of_lt_of_le (Heap.lt_size q) I1.ok.above)
  have ns:∀ b o,X.s₀.heap.get? b = some o→b ∉ frs X.outer→b ∉ frs X.stack:=fun b o q nb z=>by
    rw [L.stk,frs_cons L.fr] at z
    rcases List.mem_cons.mp z with z | z
    · exact nL b o q z
    · exact nb z
  have nx:∀ b:Addr,b ∉ X.ex:=fun b z=>by rw [L.ex] at z; cases z
  have ff:s2.heap.FunFrames (PySem.W.hideAll s2.heap (frs X.stack)) (X.env :: X.outer):=by
    have z:=I1.stack
    rw [← L.stk]
    exact PySem.W.funFrames_hide z fun env he a hf=>List.mem_filterMap.mpr ⟨env,he,hf⟩
  refine wpAny_leaves_madeW (base:=PySem.W.hideAll s2.heap (frs X.stack)) (h:=s2.heap) (by rw [I1.ok.frames,L.stk]) L.fr (fun b o q=>PySem.W.of_hideAll _ q) ff mk fun h2 t fl _ _ up=>?_
  refine ⟨ea,C,H1,_,t,rfl,⟨I1.os,I1.bare,fl,fun a o e1=>?_,fun b o e1 n nb=>?_,fun b o e1 nb=>?_,fun b o e1 n hb=>?_,I1.ok.frf,fun b o e1 n=>?_,I1.base.tups,I1.base.frzs,I1.base.tbls⟩,q⟩
  · refine (I1.hok a o e1).stay (fun b u hb e2=>PySem.W.hideAll_get _ e2 fun z=>?_) (fun _ z=>z) fun _ _ z=>z
    have n0:=I1.stkFree b z
    rcases hb with hb | hb
    · subst hb
      rw [e1] at n0
      cases n0
    · rw [hb] at n0
      cases n0
  · exact PySem.W.hideAll_get _ (I1.base.keep b o e1 n nb (nx b)) (ns b o e1 nb)
  · obtain ⟨o',e2⟩:=I1.base.there b o e1 (nx b)
    exact ⟨o',PySem.W.hideAll_get _ e2 (ns b o e1 nb)⟩
  · obtain ⟨l,e2⟩:=I1.base.slot b o e1 n hb (nx b)
    have hs2:b ∈ frs X.stack:=by rw [L.stk,frs_cons L.fr]; exact List.mem_cons_of_mem _ hb
    obtain ⟨_,o2,e3,nf⟩:=I1.stack.mem hs2
    rw [e2] at e3
    cases e3
    obtain ⟨l2,e4⟩:=up b _ (mk.keeps _ _ e2) nf
    exact ⟨l2,e4⟩
  · obtain ⟨o',e2⟩:=I1.base.there b o e1 (nx b)
    exact I1.base.free b o e1 n (nx b)
end
section
variable {X:Cx} {k:Nat} {f C:Addr} {fd:FuncData} {ps:List Str} {sp:Sp} {dvs:List V} {ds:List Value} {x m:Str} {p pos apos:Pos} {e o:Expr} {es:List Expr} {ta:TE} {t:TA}
variable {te:TX} {i:Nat} {pos':Pos}
end
section
variable {X:Cx} {pins:List (Addr × Obj)} {σ:St} {H:Hp} {s:Shared} {ea:Addr}
end
section
variable {M:Model} {A:Around} {E:Value→Shared→Prop} {h:Heap} {g:Array GenState} {d:Drawn} {t:Nat} {os:OsState} {e:Addr} {oe:Obj} {Q:Bool→Shared→Prop}
variable {nm q nm' q':Str} {C N D N':Addr} {bs bm bs' bm':List Value} {hdct hdct':Bool} {sn sn':List Str} {sub sub':List Value} {ab ab':Bool} {col col':Option Bool} {dd dd':Option Addr} {k0 k1 k2 k3 k5 j0 j1 j2 j3 j5:Option Value} {newId newId':String}
end
section
variable {X:Cx} {body:List Stmt} {b₀:Stmt} {suite:List Stmt} {np hpos pos:Pos} {x n:Str} {D:Addr} {tb:TSX} {ts:TS} {bmB:List Value} {newId:String} {i:Nat}
end
section
variable {P:Program} {w:World} {K:PySem.W.Frag} {mg:Str→Option Value} {base:Heap}
theorem Fun.okX {x qual:Str} {st:Stmt} {f:Addr} {fd:FuncData} {N ps:List Str} {k:Nat} {sp:Sp} (F:Fun K x qual st f fd) (S:FnScope N ps (defScope st)) (len:∀ vs H Q E,sp vs H Q E→vs.length = ps.length)
    (hbody:∀ (cdv:Value) (A:Around) (outer:List Env) (s:Shared) (H:Hp) (vs:List V) (Q:VK) (E:XK),Room k (A.deeper (envOfC qual (defScope st) s.heap.objs.size f cdv))→sp vs H Q E→
      Leaves (cxOf (CXF P w) P w K mg base N qual (defScope st) f cdv A outer s H E) E→
      ∃ t,PSs (cxOf (CXF P w) P w K mg base N qual (defScope st) f cdv A outer s H E) (defBody st) t∧t { nx:=fun _ H'=>Q .non H',rt:=Q } (start N vs) H):FnOk P w K mg base (CXF P w) (k + 1) f fd ps sp:=by
  obtain ⟨oc,od,kV,doc,pm,an,cdv,ct,osl,rfl,lk,hcd⟩:=F.ex
  exact fn_of lk hcd S len fun A outer s H vs Q E hr hsp=>hbody cdv A outer s H vs Q E hr hsp ⟨rfl,rfl,rfl,rfl⟩
end
end L2
namespace L2
open PySem PySem.Spec PyProof.Rows
structure ClsX (K:PySem.W.Frag) (C:Addr):Prop where
  ci:PySem.W.hasDictIn K C = true
  ga:PySem.W.findIn K (.ref C) "__getattribute__" = some (some (.builtin "BaseException.__getattribute__"))
  gn:PySem.W.findIn K (.ref C) "__getattr__" = some none
  ca:PySem.W.findIn K (.ref C) "__class__" = some (some (.builtin "object.__class__"))
  mo:PySem.W.mroIn K C (.type "object") = some true
  mb:PySem.W.mroIn K C (.type "BaseException") = some true
section
variable {prog:Program} {w:World} {A:Around} {E:Value→Shared→Prop} {h:Heap} {g:Array GenState} {d:Drawn} {t:Nat} {os:OsState} {K:PySem.W.Frag} {a C:Addr} {o:Obj}
theorem xcls_get {R:Result→Shared→Prop} (kin:K.In h) (c:ClsX K C) (hx:h.get? a = some o) (hc:o.cls = .ref C) (hq:R (.ok (.ret (.ref C))) ⟨h,g,d,t,os⟩) :
    codeAny (model prog w) A (.call (.builtin "getset_descriptor.__get__") ⟨[.builtin "object.__class__",.ref a,.ref C],[]⟩) R ⟨h,g,d,t,os⟩:=by
  have hT5:(⟨h,g,d,t,os⟩:Shared).TypeIs (.builtin "object.__class__") "getset_descriptor":=F.typeOf_object_class
  have L1:=PySem.W.looks_mroIn (M:=model prog w) kin c.mo
  have ow:=F.owner_object_class
  refine codeAny_call_builtin F.slot_gs_get.plain F.entry_gs_get (F.slot_gs_get.check _ _ _ _ _ _ _ _ hT5 (F.args_gs_get _ _ _) ?_)
  repeat (any_goals (first | assumption | (with_reducible refine wpAny_loadPart_at hx ?_; rw [hc]) | (rw [ow]; with_reducible refine L1.at ?_) | wp_step))
  refine ⟨Code.quiet_builtin _ (by decide +kernel),codeAny_builtin F.entry_object_class ?_⟩
  repeat (any_goals (first | assumption | (with_reducible refine wpAny_loadPart_at hx ?_; rw [hc]) | wp_step))
theorem xcls_entry {tk:Tok} {Q:Fin→Shared→Prop} (kin:K.In h) (c:ClsX K C) (hx:h.get? a = some o) (hc:o.cls = .ref C) (hq:Q (.done (.ret (.ref C))) ⟨h,g,d,t,os⟩) :
    wpAny (model prog w) A (Builtin.«object.__getattribute__» ⟨[.ref a,.str "__class__" tk],[]⟩) Q E ⟨h,g,d,t,os⟩:=by
  have hT5:(⟨h,g,d,t,os⟩:Shared).TypeIs (.builtin "object.__class__") "getset_descriptor":=F.typeOf_object_class
  have L1:=PySem.W.looks_findIn (M:=model prog w) kin c.ca
  have f5:=F.typeOf_object_class
  have f6:=F.slot_gs_get.lookup
  have f7:=F.slot_gs_set.lookup
  repeat (any_goals (first | assumption | (with_reducible refine wpAny_loadPart_at hx ?_; rw [hc]) | with_reducible refine L1.at ?_ | wp_step))
  refine xcls_get kin c hx hc ?_
  repeat (any_goals (first | assumption | wp_step))
theorem xcls_check {M:Model} {nv:Value} {Q:Unit→Shared→Prop} (kin:K.In h) (c:ClsX K C) (hx:h.get? a = some o) (hc:o.cls = .ref C) (hq:Q () ⟨h,g,d,t,os⟩) :
    wpAny M A (checkBuiltinCall "BaseException.__getattribute__" ⟨[.ref a,nv],[]⟩) Q E ⟨h,g,d,t,os⟩:=by
  have hk:builtinKind "BaseException.__getattribute__" = some .slot:=by decide +kernel
  have hs:splitId "BaseException.__getattribute__" = some ("BaseException","__getattribute__"):=by decide +kernel
  have L1:=PySem.W.looks_mroIn (M:=M) kin c.mb
  have ha:=F.args_bexc_ga (.ref a) nv
  simp only [checkBuiltinCall,hk,hs]
  refine wpAny_bind ?_
  unfold isInstance
  repeat (first | (with_reducible refine wpAny_loadPart_at hx ?_; rw [hc]) | with_reducible refine L1.at ?_ | wp_step)
  exact hq
theorem xcls_by {tk:Tok} {fill expr:Bool} {Q:Value→Shared→Prop} (kin:K.In h) (c:ClsX K C) (hx:h.get? a = some o) (hc:o.cls = .ref C) (hq:Q (.ref C) ⟨h,g,d,t,os⟩) :
    wpAny (model prog w) A (getAttrBy (.ref a) (.str "__class__" tk) fill expr) Q E ⟨h,g,d,t,os⟩:=by
  have f3:=F.attrBase_ValueError.ga.bind (.ref a)
  have z0:(expr && onTheHeap (Value.builtin "BaseException.__getattribute__")) = false:=by cases expr <;> rfl
  have z2:(Value.builtin "BaseException.__getattribute__" == Value.builtin "object.__getattribute__") = false:=by decide +kernel
  have z1:(onTheHeap (Value.ref C) && Value.builtin "BaseException.__getattribute__" == Value.builtin "object.__getattribute__") = false:=by rw [z2]; rfl
  have L1:=PySem.W.looks_findIn (M:=model prog w) kin c.ga
  have L2:=PySem.W.looks_findIn (M:=model prog w) kin c.gn
  repeat (any_goals (first | assumption | (with_reducible refine wpAny_loadPart_at hx ?_; rw [hc]) | with_reducible refine L1.at ?_ | with_reducible refine L2.at ?_ | wp_step))
  refine codeAny_call_builtin F.attrBase_ValueError.ga.plain F.entry_bexc_ga (xcls_check kin c hx hc (xcls_entry kin c hx hc ?_))
  repeat (any_goals (first | assumption | wp_step))
theorem xcls_attr {Q:Option Value→Shared→Prop} (kin:K.In h) (c:ClsX K C) (hx:h.get? a = some o) (hc:o.cls = .ref C) (hq:Q (some (.ref C)) ⟨h,g,d,t + 1,os⟩) :
    wpAny (model prog w) A (getAttr? (.ref a) "__class__") Q E ⟨h,g,d,t,os⟩:=by
  unfold getAttr? getAttrBy?
  repeat (any_goals (first | assumption | with_reducible apply xcls_by kin c hx hc | wp_step))
theorem kitx_exc (c:ClsX K C):PySem.W.KitX K (.ref a) (.ref C) (ExcAt a C) where
  ty:=fun M h _ k=>by
    obtain ⟨oe,e1,e2,_⟩:=k
    exact e2 ▸ (PySem.W.Looks.ld e1).andThen .now
  it:=fun M h kin _=>by
    obtain ⟨cd,hc,_⟩:=PySem.W.any_some c.ci
    unfold PySem.W.clsIn at hc
    split at hc
    · rename_i look
      intro A' Q' E' s' k q
      unfold isType loadHead
      exact wpAny_bind (wpAny_loadPart (k _ _ (kin _ _ look)) (wpAny_pure q))
    · cases hc
  ne:=fun h tp dd its n sl kin htp=>by
    obtain ⟨cd,hc,_⟩:=PySem.W.any_some c.ci
    refine Bool.eq_false_iff.mpr fun q=>?_
    have e:C = tp:=Value.ref.inj (beq_iff_eq.mp q)
    subst e
    unfold PySem.W.clsIn at hc
    split at hc
    · rename_i look
      have z:=(kin _ _ look).symm.trans htp
      cases z
    · cases hc
  ca:=fun {prog w A E Q s} kin k z=>by
    obtain ⟨oe,e1,e2,_⟩:=k
    obtain ⟨h,g,d,t,os⟩:=s
    exact xcls_attr kin c e1 e2 z
end
def EmptyD (a:Addr) (h:Heap):Prop:=∃ o ep,h.get? a = some o∧o.ExactDict∧o.data = .dict #[] ep∧(a == sysModules) = false
theorem EmptyD.kit {a:Addr} {h:Heap} (e:EmptyD a h):PySem.W.KitAt a "dict" h:=by
  obtain ⟨o,_,e,c,_⟩:=e
  exact ⟨o,e,c.1⟩
def DctO (a:Addr):HO:=.ext (EmptyD a)
def tDct:TE:=fun _ H Q=>∀ p,H p = none→Q (.ref p) (upd H p (DctO p))
theorem pe_dct {X:Cx} {pos:Pos}:PE X (.Dict [] [] pos) tDct:=fun pins s σ H Q I h=>
  wpAny_Dict_empty ⟨.ref s.heap.objs.size,_,I.laid (a:=s.heap.objs.size) (o:=DctO s.heap.objs.size) (t':=s.toks) (fun _ _ q=>Heap.get?_push_of_some _ q) (Nat.le_refl _)
    ⟨⟨_,_,Heap.get?_push_size _ rfl,⟨rfl,rfl,rfl⟩,rfl,beq_eq_false_iff_ne.mpr (Ne.symm (Nat.ne_of_lt (Nat.lt_trans (show sysModules < mainGlobals by decide) (I.mod.glob.keeps I.bk).lt)))⟩,⟨_,Heap.get?_push_size _ rfl⟩,fun h1 h2 ⟨o,ep,e,c⟩ k=>⟨o,ep,k o e,c⟩⟩,rfl,h _ (I.hok.fresh (Nat.le_refl _))⟩
inductive TyX (K:PySem.W.Frag) (H:Hp):V→Value→Prop where
  | of {x:V} {t:Value} (h:TyOf K H x t):TyX K H x t
  | exc {a C:Addr} (e:H a = some (ExcO a C)) (c:ClsX K C):TyX K H (.ref a) (.ref C)
  | dct {a:Addr} (e:H a = some (DctO a)):TyX K H (.ref a) (.type "dict")
def clsV:V→Value
  | .ty n=>.type n
  | .ref a=>.ref a
  | _=>.none
def isCls:V→Bool
  | .ty _=>true
  | .ref _=>true
  | _=>false
def isiR (K:PySem.W.Frag):List V→Hp→VK→Prop:=fun xs H Q=>∃ x c t b,xs = [x,c]∧isCls c = true∧TyX K H x t∧PySem.W.kitOne K t (clsV c) = some b∧Q (.bl b) H
theorem call_isi {X:Cx} {K:PySem.W.Frag} (hK:X.K = K:=by rfl):CallR X (.builtin "isinstance") (isiR K):=by
  intro pins s σ H xs us Q I r h
  subst hK
  obtain ⟨x,c,t,b,rfl,hc,ty,e,q⟩:=h
  obtain ⟨u,cv,rfl,rx,rc⟩:=vals2 r
  have ec:cv = clsV c:=by
    cases c with
    | ty n=>exact rc
    | ref a=>exact rc
    | _=>cases hc
  subst ec
  cases ty with
  | of ty=>exact isinst_ok I rx ty e fun tk=>⟨.bl b,H,I.tok tk,rfl,q⟩
  | @dct a ea=>
    cases rx
    obtain ⟨k,_,_⟩:=(show ObjOk X.prog X.w H s.heap a (.ext (EmptyD a)) from I.hok a _ ea)
    exact PySem.W.kia_one PySem.W.kitx_dict I.kIn k.kit e (fun z=>nomatch z) fun tk=>⟨.bl b,H,I.tok tk,rfl,q⟩
  | @exc a C ea cc=>
    cases rx
    obtain ⟨k,_,_⟩:=(show ObjOk X.prog X.w H s.heap a (.ext (ExcAt a C)) from I.hok a _ ea)
    exact PySem.W.kia_one (kitx_exc cc) I.kIn k e (fun z=>nomatch z) fun tk=>⟨.bl b,H,I.tok tk,rfl,q⟩
def eqL:List V→List V→Bool
  | [],[]=>true
  | x :: xs,y :: ys=>eqV x y && eqL xs ys
  | _,_=>false
def rEqT (K:PySem.W.Frag) (neg:Bool):R2:=fun x y H Q=>∃ a b xs ys,x = .ref a∧y = .ref b∧SqT K H a xs∧SqT K H b ys∧xs.all flatV = true∧ys.all flatV = true∧Q (.bl (if neg then !eqL xs ys else eqL xs ys)) H
theorem eqL_range {A:Around} {s:Shared}:∀ {xs ys:List V} {us vs:List Value},Vals xs us→Vals ys vs→xs.all flatV = true→ys.all flatV = true→
    ∃ e:Nat→Bool,(∀ j (h1:j < us.length) (h2:j < vs.length),SeqAt.EqAt A s us[j] vs[j] (e j))∧((List.range (min us.length vs.length)).all e && us.length == vs.length) = eqL xs ys
  | [],[],_,_,.nil,.nil,_,_=>⟨fun _=>true,fun j h1=>absurd h1 (Nat.not_lt_zero _),by simp [eqL]⟩
  | [],_ :: _,_,_,.nil,.cons _ _,_,_=>⟨fun _=>true,fun j h1=>absurd h1 (Nat.not_lt_zero _),by simp [eqL]⟩
  | _ :: _,[],_,_,.cons _ _,.nil,_,_=>⟨fun _=>true,fun j _ h2=>absurd h2 (Nat.not_lt_zero _),by simp [eqL]⟩
  | x :: xs,y :: ys,u :: us,v :: vs,.cons r1 t1,.cons r2 t2,f1,f2=>by
    rw [List.all_cons,Bool.and_eq_true] at f1 f2
    obtain ⟨e,h,q⟩:=eqL_range (A:=A) (s:=s) t1 t2 f1.2 f2.2
    refine ⟨fun j=>match j with | 0=>eqV x y | k + 1=>e k,fun j h1 h2=>?_,?_⟩
    · cases j with
      | zero=>exact eqAt_V r1 r2 f1.1 f2.1
      | succ k=>exact h k (by simpa using h1) (by simpa using h2)
    · have em:min (u :: us).length (v :: vs).length = min us.length vs.length + 1:=by simp only [List.length_cons]; omega
      rw [em,List.range_succ_eq_map,List.all_cons,List.all_map]
      show (eqV x y && (List.range (min us.length vs.length)).all e && ((us.length + 1) == (vs.length + 1))) = (eqV x y && eqL xs ys)
      rw [← q]
      have eb:((us.length + 1) == (vs.length + 1)) = (us.length == vs.length):=by
        rw [Bool.eq_iff_iff,beq_iff_eq,beq_iff_eq]; omega
      rw [eb,Bool.and_assoc]
theorem op_eqT {X:Cx} (hu:X.A.units < cLine):OpR X (compareOp .Eq) (rEqT X.K false):=by
  intro pins s σ H x y v u Q I rx ry h
  obtain ⟨a,b,xs,ys,rfl,rfl,h1,h2,f1,f2,q⟩:=h
  cases rx
  cases ry
  obtain ⟨us,r1,t1,_⟩:=I.tuple h1
  obtain ⟨vs,r2,t2,_⟩:=I.tuple h2
  obtain ⟨e,he,eq⟩:=eqL_range (A:=X.A.in1) (s:=s) r1 r2 f1 f2
  refine SeqAt.eq_tupleAt (e:=e) t1 t2 hu (fun j z1 z2=>by simpa using he j (by simpa using z1) (by simpa using z2)) ⟨.bl (eqL xs ys),H,I,?_,q⟩
  show _ = Value.bool (eqL xs ys)
  rw [← eq]
  simp
theorem boot_isinstance:bootBuiltins "isinstance" = some (.builtin "isinstance"):=by decide +kernel
theorem boot_abs:bootBuiltins "abs" = some (.builtin "abs"):=by decide +kernel
theorem boot_int:bootBuiltins "int" = some (.type "int"):=by decide +kernel
theorem boot_bool:bootBuiltins "bool" = some (.type "bool"):=by decide +kernel
theorem boot_tuple:bootBuiltins "tuple" = some (.type "tuple"):=by decide +kernel
theorem boot_list:bootBuiltins "list" = some (.type "list"):=by decide +kernel
end L2
namespace My
open PySem L2
def primeB (n:Int):Bool:=(List.range 32).all fun e=>decide (e < 2) || decide (n < (e:Int) * (e:Int)) || decide (n % (e:Int) ≠ 0)
def lawB (n:Int):Bool:=(List.range 32).all fun e=>decide (e < 2) || decide (n ≤ (e:Int)) || decide (n % (e:Int) ≠ 0)
set_option maxRecDepth 100000 in
theorem prime_law_nat:∀ k:Nat,k < 998→(k < 2 ∨ primeB (k:Int) = lawB (k:Int)):=by decide +kernel
theorem prime_law {n:Int} (h1:2 ≤ n) (h2:n ≤ 997):primeB n = lawB n:=by
  obtain ⟨k,rfl⟩:∃ k:Nat,n = (k:Int):=⟨n.toNat,by omega⟩
  rcases prime_law_nat k (by omega) with h | h
  · omega
  · exact h
theorem primeB_no {n d:Int} (h2:n ≤ 997) (hd:2 ≤ d) (hq:d * d ≤ n) (hm:n % d = 0):primeB n = false:=by
  have hd2:d < 32:=by
    by_cases h:d < 32
    · exact h
    · have:32 * 32 ≤ d * d:=Int.mul_le_mul (by omega) (by omega) (by omega) (by omega)
      omega
  obtain ⟨k,rfl⟩:∃ k:Nat,d = (k:Int):=⟨d.toNat,by omega⟩
  cases e:primeB n with
  | false=>rfl
  | true=>
    have z:=List.all_eq_true.mp e k (List.mem_range.mpr (by omega))
    simp only [Bool.or_eq_true,decide_eq_true_eq] at z
    rcases z with (z | z) | z
    · omega
    · omega
    · exact absurd hm z
theorem primeB_yes {n d:Int} (hq:n < d * d) (hd:2 ≤ d) (hm:∀ e:Int,2 ≤ e→e < d→n % e ≠ 0):primeB n = true:=by
  refine List.all_eq_true.mpr fun k _=>?_
  simp only [Bool.or_eq_true,decide_eq_true_eq]
  by_cases h1:k < 2
  · exact .inl (.inl h1)
  · by_cases h2:n < (k:Int) * (k:Int)
    · exact .inl (.inr h2)
    · refine .inr (hm k (by omega) ?_)
      by_cases h3:(k:Int) < d
      · exact h3
      · have:d * d ≤ (k:Int) * (k:Int):=Int.mul_le_mul (by omega) (by omega) (by omega) (by omega)
        omega
theorem lawB_no {n d:Int} (hd:2 ≤ d) (h32:d < 32) (hn:d < n) (hm:n % d = 0):lawB n = false:=by
  obtain ⟨k,rfl⟩:∃ k:Nat,d = (k:Int):=⟨d.toNat,by omega⟩
  cases e:lawB n with
  | false=>rfl
  | true=>
    have z:=List.all_eq_true.mp e k (List.mem_range.mpr (by omega))
    simp only [Bool.or_eq_true,decide_eq_true_eq] at z
    rcases z with (z | z) | z
    · omega
    · omega
    · exact absurd hm z
theorem lawB_yes {n:Int} (hm:∀ e:Int,2 ≤ e→e < 32→e < n→n % e ≠ 0):lawB n = true:=by
  refine List.all_eq_true.mpr fun k hk=>?_
  have:=List.mem_range.mp hk
  simp only [Bool.or_eq_true,decide_eq_true_eq]
  by_cases h1:k < 2
  · exact .inl (.inl h1)
  · by_cases h2:n ≤ (k:Int)
    · exact .inl (.inr h2)
    · exact .inr (hm k (by omega) (by omega) (by omega))
inductive Td where
  | a (w:Str)
  | b (w:Str) (n:Int)
def Td.vs:Td→List V
  | .a w=>[.str w]
  | .b w n=>[.str w,.int n]
def Td.isF:Td→Bool
  | .a w=>decide (w = "fractions")
  | .b _ _=>false
def Td.isW:Td→Bool
  | .a _=>false
  | .b w n=>decide (w = "wheel") && (decide (2 ≤ n) && decide (n ≤ 997) && primeB n)
def Td.good (d:Td):Bool:=d.isF || d.isW
def Td.prime:Td→V
  | .a _=>.non
  | .b _ n=>.int n
end My
namespace L2
open PySem PySem.Spec PyProof.Rows
abbrev Cx.blk (X:Cx) (N:List Str) (scope:Scope) (cl:List (Str × Addr)) (s₃:Shared) (H₃:Hp) (fp:List Addr):Cx:=
  { X with N:=N,s₀:=s₃,H₀:=H₃,env:=compEnvC scope cl s₃.heap.objs.size X.env,outer:=X.stack,stack:=X.stack,ex:=fp,fn:=fun _=>false,pn:=[],xe:=fun _ _=>False }
inductive PTs (X:Cx):List Expr→TT→Prop where
  | nil:PTs X [] (fun _ H Q=>Q true H)
  | one {c:Expr} {t:TT} (h:PT X c t):PTs X [c] t
def tComp (wi:TI) (ρ:St→St) (tt:TT) (te:TE):TE:=fun σ H Q=>wi σ H fun J H1=>∀ D,H1 D = none→∃ W:Nat→Nat→List V→Hp→Prop,(∃ m,W 0 m [] (upd H1 D (.lst [])))∧
  ∀ i m ys Hc,W i m ys Hc→Hc D = some (.lst ys)∧((J.stop i Hc∧Q (.ref D) Hc) ∨ (J.go i Hc∧∀ x H',J.yld i Hc x H'→tt (some x :: ρ σ) H' fun b H2=>
    if b = true then te (some x :: ρ σ) H2 fun y H3=>H3 D = some (.lst ys)∧ys.length < sizeLine∧∃ m',m' < m∧W (i + 1) m' (ys ++ [y]) (upd H3 D (.lst (ys ++ [y]))) else ∃ m',m' < m∧W (i + 1) m' ys H2))
section
variable {X:Cx} {N:List Str} {scope:Scope} {cl:List (Str × Addr)} {x:Str} {px pos:Pos} {iter elt:Expr} {ifs:List Expr} {wi:TI} {ρ:St→St} {tt:TT} {te:TE}
structure Blk (X:Cx) (N:List Str) (scope:Scope) (cl:List (Str × Addr)) (x:Str) (ρ:St→St):Prop where
  clos:closureFor scope X.env = pure cl
  kind:scope.kind = .function
  nocell:∀ y ∈ scope.names,y.2 ≠ .cell
  names:∀ y ∈ scope.names,y.2 = .local→scope.names.lookup y.1 = some .local
  sub:∀ p ∈ cl,X.env.cells.lookup p.1 = some p.2
  has:∀ y,((relabel scope X.env).names.lookup y = some .cell ∨ (relabel scope X.env).names.lookup y = some .free)→∃ c,cl.lookup y = some c
  n0:N[0]? = some x
  nd:N.Nodup
  hx:scope.names.lookup x = some .local
  rho:∀ (σ:St) (j:Nat) (v:V),(ρ σ)[j]? = some (some v)→∃ (i:Nat) (y:Str),N[j + 1]? = some y∧X.N[i]? = some y∧σ[i]? = some (some v)∧Vis X.env.scope y∧(X.env.kindOf y = some .cell ∨ X.env.kindOf y = some .free)∧((relabel scope X.env).names.lookup y = some .cell ∨ (relabel scope X.env).names.lookup y = some .free)
  len:∀ σ:St,σ.length = X.N.length→(ρ σ).length + 1 = N.length
theorem has_of {names:List (Str × NameKind)} {cl:List (Str × Addr)} (h:(names.all fun q=>(q.2 != .cell && q.2 != .free) || (cl.lookup q.1).isSome) = true) :
    ∀ y,(names.lookup y = some .cell ∨ names.lookup y = some .free)→∃ c,cl.lookup y = some c:=fun y hy=>by
  have key:∀ k:NameKind,(k != .cell && k != .free) = false→names.lookup y = some k→∃ c,cl.lookup y = some c:=fun k hk e=>by
    have z:=List.all_eq_true.mp h (y,k) (PySem.mem_of_lookup e)
    rw [hk,Bool.false_or] at z
    exact Option.isSome_iff_exists.mp z
  rcases hy with e | e
  · exact key .cell rfl e
  · exact key .free rfl e
theorem join_some {o:Option (Option V)} {v:V} (h:some o.join = some (some v)):o = some (some v):=by
  cases o with
  | none=>cases h
  | some o=>cases h; rfl
theorem pe_comp (B:Blk X N scope cl x ρ) (hc:X.calm = true) (hi:PI X (.Name x px) iter wi) (ht:∀ s₃ H₃ fp,PTs (X.blk N scope cl s₃ H₃ fp) ifs tt) (he:∀ s₃ H₃ fp,PE (X.blk N scope cl s₃ H₃ fp) elt te)
    (hs:∀ x,foldedSetIterable iter X.env x = pure x:=by intro _; rfl):PE X (.ListComp elt [⟨.Name x px,iter,ifs,0⟩] scope pos) (tComp wi ρ tt te):=by
  intro pins s σ H Q I h
  rw [eval_ListComp]
  refine wpAny_comprehension_free (use:=none) rfl hs B.clos B.kind B.names (thn (hi pins s σ H _ I h) fun v s1 h1=>thn h1 fun itv s2 h2=>?_)
  obtain ⟨it,fp,tn,J,H2,rfl,I2,T,st2,f2,q2⟩:=h2
  have nD:H2 s2.heap.objs.size = none:=I2.hok.fresh (Nat.le_refl _)
  obtain ⟨W,⟨m0,w0⟩,turn⟩:=q2 _ nD
  refine wpAny_newObj_type (wpAny_newFunctionEnv B.nocell (by intro y hy; simp at hy) (fun h₁ hns₁ hsb₁=>?_) B.kind)
  dsimp only at hns₁ hsb₁ ⊢
  generalize hD:s2.heap.objs.size = D at nD w0 turn hns₁ hsb₁ ⊢
  generalize hS3:({ s2 with heap:=s2.heap.push { cls:=.type "list",dict:=none,data:=.seq ([]:List Value).toArray } }:Shared) = s3
  have I3:Inv X pins σ (upd H2 D (.lst [])) s3:=by
    subst hD hS3
    exact I2.laid (t':=s2.toks) (fun b u e=>Heap.get?_push_of_some _ e) (Nat.le_refl _) ⟨Nat.zero_le _,[],_,.nil,Heap.get?_push_size _ rfl⟩
  have e3:s3.heap = s2.heap.push { cls:=.type "list",dict:=none,data:=.seq ([]:List Value).toArray }:=by rw [← hS3]
  have k23:∀ b o,s2.heap.get? b = some o→s3.heap.get? b = some o:=fun b o e=>by rw [e3]; exact Heap.get?_push_of_some _ e
  rw [← e3] at hns₁ hsb₁ ⊢
  have below:∀ b o,s3.heap.get? b = some o→b ≠ s3.heap.objs.size:=fun b o e=>Nat.ne_of_lt (Heap.lt_size e)
  have k34:∀ b o,s3.heap.get? b = some o→h₁.get? b = some o:=fun b o e=>hsb₁.extBut b o (below b o e) (Heap.get?_push_of_some _ e)
  have fpl:∀ b ∈ fp,∃ o,s2.heap.get? b = some o∧∀ v,o.data ≠ .cell v:=T.obj _ _ st2
  have nfD:∀ b ∈ fp,b ≠ D:=fun b hb z=>by
    obtain ⟨o,e,_⟩:=fpl b hb
    rw [z,← hD] at e
    exact absurd (Heap.lt_size e) (Nat.lt_irrefl _)
  have cl_of:∀ y c,cl.lookup y = some c→X.env.cells.lookup y = some c:=fun y c e=>B.sub (y,c) (PySem.mem_of_lookup e)
  have stkf:=I3.stkFree
  have okB:(X.blk N scope cl s3 (upd H2 D (.lst [])) fp).Ok:=by
    refine ⟨I.ok.mod,B.kind,I.ok.glob,I.ok.blt,Nat.le_refl _,fun a b c e1 e2=>I.ok.inj a b c (cl_of a c e1) (cl_of b c e2),fun y hy=>B.has y hy,(fun _ _ z _=>absurd z Bool.false_ne_true),(fun _=>I.ok.hd hc),I.ok.frames,.inl rfl,fun b hb=>⟨?_,fun y c e z=>?_⟩,fun b o e=>?_,Nat.le_trans I.ok.bsz I3.sz,fun b o e hb=>?_,fun b hb z=>?_,I3.stack,stkf⟩
    · obtain ⟨o,e,_⟩:=fpl b hb
      exact below b o (k23 b o e)
    · exact (f2 b hb).2.2.2.2.1 y c (cl_of y c e) z
    · exact I3.bs b o e
    · rcases (f2 b hb).2.2.2.1 with z | z
      · exact I.ok.noex b o e z
      · exact absurd (Nat.lt_of_lt_of_le (Heap.lt_size e) (Nat.le_trans I.ok.bsz z)) (Nat.lt_irrefl _)
    · rcases List.mem_cons.mp (I3.stkSub b z) with z | z
      · exact (f2 b hb).2.1 z
      · exact (f2 b hb).2.2.1 z
  have IB:∀ tk:Nat,Inv (X.blk N scope cl s3 (upd H2 D (.lst [])) fp) [] (none :: ρ σ) (upd H2 D (.lst [])) { s3 with heap:=h₁,toks:=tk }:=fun tk=>by
    refine ⟨okB,rfl,I3.bare,Un.kept k34,⟨_,hns₁,fun j y v e1 e2 e3=>?_⟩,fun y c e=>?_,?_,fun y c e=>I3.freeC y c (cl_of y c e),(fun p hp=>nomatch hp),I3.hok.kept k34,?_⟩
    · cases j with
      | zero=>cases e2
      | succ j=>
        obtain ⟨i,y',a1,a2,a3,a4,a5,a6⟩:=B.rho σ j v e2
        have e1':N[j + 1]? = some y:=e1
        rw [e1'] at a1
        cases a1
        obtain ⟨m,hn,hl⟩:=I3.loc
        obtain ⟨u,r,l⟩:=hl i y v a2 a3 a4
        refine ⟨u,r,.inr ⟨a6,?_⟩⟩
        obtain ⟨c,ec⟩:=B.has y a6
        rcases l with ⟨k,_⟩ | ⟨_,c',ec',z⟩
        · rcases a5 with q | q <;> (rw [k] at q; cases q)
        · have:=cl_of y c ec
          rw [this] at ec'
          cases ec'
          obtain ⟨o,ho,hd⟩:=z
          exact ⟨c,ec,o,k34 _ _ ho,hd⟩
    · obtain ⟨v,o,ho,hd⟩:=I3.cell y c (cl_of y c e)
      exact ⟨v,o,k34 _ _ ho,hd⟩
    · exact I3.hok.fresh (Nat.le_refl _)
    · show (none :: ρ σ).length = N.length
      rw [List.length_cons]
      exact B.len σ I.len
  have fin:∀ {σ':St} {H':Hp} {s':Shared},Inv (X.blk N scope cl s3 (upd H2 D (.lst [])) fp) [] σ' H' s'→Q (.ref D) H'→compPost (model X.prog X.w) X.A X.xe none (EP X pins σ Q) (.ref D) s3.heap.objs.size (.ok .next) s':=fun {σ' H' s'} J q=>by
    obtain ⟨m,hn,_⟩:=J.loc
    refine ⟨m,hn,fun h' hs'=>⟨.ref D,H',?_,rfl,q⟩⟩
    have old:∀ b o,s3.heap.get? b = some o→b ≠ s3.heap.objs.size:=below
    have u1:Un (frs X.stack) fp (upd H2 D (.lst [])) H' s3.heap h':=by
      refine ⟨fun b o e n hb hx=>?_,fun b o e n hb hx=>?_,J.base.free,fun b o e hx=>?_,J.base.tups,J.base.frzs,J.base.tbls⟩
      · exact (hs'.2 b (old b o e)).trans (J.base.keep b o e n hb hx)
      · obtain ⟨sl,z⟩:=J.base.slot b o e n hb hx
        exact ⟨sl,(hs'.2 b (old b o e)).trans z⟩
      · obtain ⟨o',z⟩:=J.base.there b o e hx
        exact ⟨o',(hs'.2 b (old b o e)).trans z⟩
    have hokE:HOk X.prog X.w H' h':=fun b u e=>by
      refine (J.hok b u e).stay (fun c v hc z=>(hs'.2 c fun y=>?_).trans z) (fun _ z=>z) fun _ _ z=>z
      have fr:=J.free
      have y':c = s3.heap.objs.size:=y
      rcases hc with hc | hc
      · rw [← hc,y'] at e
        exact absurd (fr.symm.trans e) (by simp)
      · rw [y'] at hc
        exact absurd (fr.symm.trans hc) (by simp)
    refine I3.call' (s':={ s' with heap:=h' }) (ch:=fp) (J.os) u1 hokE J.bare fun b hb=>?_
    obtain ⟨g0,g1,g2,g3,g4,g5⟩:=f2 b hb
    exact ⟨g3,g1,g4,g5⟩
  have stat:∀ {H':Hp},(∀ b ∈ fp,H' b = none)→∀ b ∈ fp,FpOk (X.blk N scope cl s3 (upd H2 D (.lst [])) fp) [] H' b:=fun hn b hb=>by
    refine ⟨hn b hb,?_,?_,.inl hb,fun y c e z=>(f2 b hb).2.2.2.2.1 y c (cl_of y c e) z,fun p hp=>nomatch hp⟩
    · obtain ⟨o,e,_⟩:=fpl b hb
      exact below b o (k23 b o e)
    · exact okB.exfs b hb
  have loop:∀ tk:Nat,codeAny (model X.prog X.w) X.A (.compLoop (.ListComp elt [⟨.Name x px,iter,ifs,0⟩] scope pos) 0 (.ref it) (.ref D) (compEnvC scope cl s3.heap.objs.size X.env))
      (compPost (model X.prog X.w) X.A X.xe none (EP X pins σ Q) (.ref D) s3.heap.objs.size) { s3 with heap:=h₁,toks:=tk }:=fun tk=>by
    refine codeAny_compLoop_tests (fun n s'=>∃ i ys o H',Inv (X.blk N scope cl s3 (upd H2 D (.lst [])) fp) [] (o :: ρ σ) H' s'∧tn i s'.heap∧(∀ b ∈ fp,H' b = none)∧W i n ys H') ?_ m0
      ⟨0,[],none,_,IB tk,T.keep _ _ _ st2 fun b hb o e=>k34 _ _ (k23 _ _ e),fun b hb=>by rw [upd_ne (nfD b hb)]; exact (f2 b hb).1,w0⟩
    rintro n s4 ⟨i,ys,o,H4,I4,st4,fr4,w4⟩
    obtain ⟨hD4,hturn⟩:=turn i n ys H4 w4
    rcases hturn with ⟨stop,qn⟩ | ⟨go,step⟩
    · refine wpAny_mono (T.done (X.blk N scope cl s3 (upd H2 D (.lst [])) fp) rfl rfl rfl hc i [] s4 _ H4 (fun _ _=>False) I4 (stat fr4) st4 stop) (fun r s5 ⟨hr,I5⟩=>?_) fun _ _ z=>z.elim
      subst hr
      exact fin I5 qn
    · refine wpAny_mono (T.item (X.blk N scope cl s3 (upd H2 D (.lst [])) fp) rfl rfl rfl hc i [] s4 _ H4 (fun _ _=>False) I4 (stat fr4) st4 go) (fun r s5 ⟨u,hr,h5⟩=>?_) fun _ _ z=>z.elim
      subst hr
      have z:letOwnedTupleGo (.Name x px) (.ref it) u = pure ():=rfl
      rw [z] at h5
      show wpAny _ _ ((pure ():Sem Unit) >>= fun _=>assign (.Name x px) (compEnvC scope cl s3.heap.objs.size X.env) u) _ _ s5
      refine wpAny_bind (wpAny_mono h5 (fun _ s5 ⟨y,H5,I5,r5,y5,st5,fr5⟩=>?_) fun _ _ z=>z.elim)
      have I5':=I5.pinned (stat fr5) (T.obj _ _ st5)
      have pg:PG (X.blk N scope cl s3 (upd H2 D (.lst [])) fp) (.Name x px) (gName 0):=pg_name (i:=0) B.nd B.n0 (.inl (lookup_relabel_local B.hx)) (.inr (lookup_relabel_local B.hx))
      have again:∀ {σ7:St} {H7:Hp} {s7:Shared},Inv (X.blk N scope cl s3 (upd H2 D (.lst [])) fp) ([] ++ pinsAt fp s5.heap) σ7 H7 s7→Inv (X.blk N scope cl s3 (upd H2 D (.lst [])) fp) [] σ7 H7 s7∧tn (i + 1) s7.heap∧∀ b ∈ fp,H7 b = none:=fun {σ7 H7 s7} I7=>by
        refine ⟨I7.unpinned,T.keep _ _ _ st5 fun b hb o e=>(I7.pin (b,o) (List.mem_append_right _ (List.mem_append_right _ (mem_pinsAt hb e)))).1,fun b hb=>?_⟩
        obtain ⟨o,e,d⟩:=T.obj _ _ st5 b hb
        exact (I7.pin (b,o) (List.mem_append_right _ (List.mem_append_right _ (mem_pinsAt hb e)))).2.1
      refine wpAny_mono (pg _ s5 _ H5 y u (fun σ2 H6=>σ2 = some y :: ρ σ∧H6 = H5) I5' r5 ⟨rfl,rfl⟩) (fun _ s6 ⟨σ6,H6,I6,q6⟩=>?_) fun _ _ z=>z.elim
      obtain ⟨rfl,rfl⟩:=q6
      have hstep:=step y _ y5
      have tests:∀ {tt':TT},PTs (X.blk N scope cl s3 (upd H2 D (.lst [])) fp) ifs tt'→∀ {R:Bool→Hp→Prop},tt' (some y :: ρ σ) H6 R→wpAny (model X.prog X.w) X.A
          (forIn ifs true fun c r=>if r = true then do let ok ← isTrue c (compEnvC scope cl s3.heap.objs.size X.env) (eval c (compEnvC scope cl s3.heap.objs.size X.env)); pure (ForInStep.yield ok) else pure (ForInStep.yield r))
          (fun ok s7=>∃ H7,Inv (X.blk N scope cl s3 (upd H2 D (.lst [])) fp) ([] ++ pinsAt fp s5.heap) (some y :: ρ σ) H7 s7∧R ok H7) (fun _ _=>False) s6:=fun {tt'} p {R} hR=>by
        cases p with
        | nil=>exact wpAny_tests_nil ⟨_,I6,hR⟩
        | one p=>exact wpAny_tests_one (p _ s6 _ _ _ I6 hR)
      refine wpAny_mono (tests (ht s3 _ fp) hstep) (fun ok s7 ⟨H7,I7,q7⟩=>?_) fun _ _ z=>z.elim
      cases ok with
      | false=>
        obtain ⟨m',hm',w7⟩:=q7
        obtain ⟨a1,a2,a3⟩:=again I7
        exact ⟨m',hm',i + 1,ys,_,H7,a1,a2,a3,w7⟩
      | true=>
        refine wpAny_mono (he s3 _ fp _ s7 _ H7 _ I7 q7) (fun ev s8 ⟨z,H8,I8,r8,hD8,hz,m',hm',w8⟩=>?_) fun _ _ z=>z.elim
        refine wpAny_mono (mt_append (X:=X.blk N scope cl s3 (upd H2 D (.lst [])) fp) _ s8 _ H8 (.ref D) [z] (.ref D) [ev] (fun _ H9=>H9 = upd H8 D (.lst (ys ++ [z]))) I8 rfl (.cons r8 .nil) ⟨D,ys,z,rfl,rfl,hD8,hz,rfl⟩) (fun _ s9 ⟨_,H9,I9,_,q9⟩=>?_) fun _ _ z=>z.elim
        subst q9
        obtain ⟨a1,a2,a3⟩:=again I9
        exact ⟨m',hm',i + 1,ys ++ [z],_,_,a1,a2,a3,w8⟩
  have start:=loop (s3.toks + ([]:List (Str × Value)).length)
  have es:({ s3 with heap:=h₁,toks:=s3.toks + ([]:List (Str × Value)).length }:Shared) = { s2 with heap:=h₁,toks:=s2.toks + ([]:List (Str × Value)).length }:=by rw [← hS3]
  rw [es] at start
  exact codeAny_compStart_list start (T.self _ 0 _ _ _ (T.keep _ _ _ st2 fun b hb o e=>k34 _ _ (k23 _ _ e)) start)
end
end L2
namespace L2
open PySem PySem.Spec PyProof.Rows
def Mid (i:Int):Prop:=i.natAbs < 2 ^ 2048
theorem Mid.log {i:Int} (h:Mid i):i.natAbs.log2 < 2048:=by
  by_cases z:i.natAbs = 0
  · rw [z]; decide
  · exact (Nat.log2_lt z).mpr h
def CDivM (i j:Int):Prop:=j ≠ 0∧Mid j
def CMulM (i j:Int):Prop:=Mid i∧Mid j
theorem CMulM.ok {i j:Int} (h:CMulM i j):IntMulOk i j:=by
  have b:∀ {k:Int},Mid k→Builtin.Int.intBits k ≤ 2048:=fun {k} hk=>by
    have z:=hk.log
    unfold Builtin.Int.intBits
    split <;> omega
  unfold IntMulOk
  have e:Builtin.Int.intTooBig ((Builtin.Int.intBits i:Int) + (Builtin.Int.intBits j:Int)) = false:=by
    unfold Builtin.Int.intTooBig
    have h1:=b h.1
    have h2:=b h.2
    have h3:(4096:Int) ≤ bitsLine:=by decide +kernel
    exact decide_eq_false (by omega)
  intro z
  rw [Bool.and_eq_true] at z
  have z2:=z.2
  rw [show Builtin.Int.intTooBig ((Builtin.Int.intBits i:Int) + (Builtin.Int.intBits j:Int)) = false from e] at z2
  cases z2
section
variable {X:Cx}
theorem op_fdivM:OpR X (binaryOp .FloorDiv) (rI CDivM fun i j=>.int (i.fdiv j)):=opI fun _ _ _ _ _ _ _ hc q=>floordiv_int hc.1 q (.inl (PyProof.noPylong_of_log2 (Nat.lt_of_lt_of_le hc.2.log (by decide))))
def allR (K:PySem.W.Frag):List V→Hp→VK→Prop:=fun xs H Q=>∃ (p:Addr) (bs:List Bool),xs = [.ref p]∧SqL K H p (bs.map V.bl)∧Q (.bl (bs.all id)) H
theorem call_all {K:PySem.W.Frag} (hc:X.calm = true) (hK:X.K = K:=by rfl):CallR X (.builtin "all") (allR K):=by
  intro pins s σ H xs us Q I r h
  subst hK
  obtain ⟨p,bs,rfl,hq,q⟩:=h
  obtain ⟨u,rfl,ru⟩:=vals1 r
  cases ru
  obtain ⟨its,rv,pl,hz⟩:=I.list hq
  have hne:p ≠ s.heap.objs.size:=by
    obtain ⟨o,e,_⟩:=pl.isList
    exact Nat.ne_of_lt (Heap.lt_size e)
  have hl:its.length = bs.length:=by rw [← rv.length,List.length_map]
  refine call_all_walk (wpAny_pyIter_list pl.isList ?_)
  refine ⟨s.heap.objs.size,_,_,_,_,_,fun i=>bs.getD i true,rfl,Walks.list (A:=X.A.in1) (show X.A.in1.handled = none from I.ok.hd hc) s.heap.objs.size p hne its.toArray,⟨⟨_,Heap.get?_push_size _ rfl,rfl,rfl⟩,pl.isList.push _⟩,fun i v s' Q' E' hv hq'=>?_,fun h' tk hk=>?_⟩
  · have hv':its[i]? = some v:=by simpa using hv
    cases eb:bs[i]? with
    | none=>
      have:=rv.none_of (i:=i) (by rw [List.getElem?_map,eb]; rfl)
      rw [this] at hv'
      cases hv'
    | some b=>
      obtain ⟨u,hu,ru⟩:=rv.get (i:=i) (x:=V.bl b) (by rw [List.getElem?_map,eb]; rfl)
      rw [hu] at hv'
      cases hv'
      cases ru
      have e:bs.getD i true = b:=by rw [List.getD_eq_getElem?_getD,eb]; rfl
      have hq2:Q' (bs.getD i true) s':=hq'
      rw [e] at hq2
      exact wpAny_truthy_bool hq2
  · refine ⟨.bl (bs.all id),H,I.kept fun b o e=>hk b o (fun z=>?_) (Heap.get?_push_of_some _ e),?_,q⟩
    · exact absurd (Heap.lt_size e) (by rw [List.mem_singleton.mp z]; exact Nat.lt_irrefl _)
    · show Value.bool _ = Value.bool _
      congr 1
      rw [List.size_toArray,hl]
      clear hk q rv pl hz hl hq
      induction bs with
      | nil=>rfl
      | cons b bs ih=>
        rw [List.length_cons,List.range_succ_eq_map,List.all_cons,List.all_map,List.all_cons]
        show (b && (List.range bs.length).all fun i=>bs.getD i true) = (b && bs.all id)
        rw [ih]
end
theorem boot_all:bootBuiltins "all" = some (.builtin "all"):=by decide +kernel
def unstarred:Expr→Bool
  | .Starred _ _=>false
  | _=>true
theorem star_cons {e:Expr} {es:List Expr} {env:Env} (h:unstarred e = true):starEach (e :: es) env = (false,eval e env) :: starEach es env:=by
  cases e <;> first | rfl | cases h
theorem pa_mor {X:Cx} {e:Expr} {es:List Expr} {te:TE} {t:TA} (hs:unstarred e = true) (ha:PE X e te) (hr:PA X es t):PA X (e :: es) (tCons te t):=
  pa_cons ha hr (star_cons hs)
theorem ps_put {X:Cx} {pos:Pos} {i:Nat} {x:Str} {e:Expr} {te:TE} {pos':Pos} (hs:swapsWith e (some (.Name x pos')) pos.line X.env = pure false) (hf:X.fn x = true ∨ X.env.scope.names.lookup x = some .local) (hN:X.N.Nodup) (hi:X.N[i]? = some x) (hx:Loc X.env.scope x) (he:PE X e te) :
    PS X (.Assign [.Name x pos'] e pos) (tAsg te (gName i)):=ps_set hN hi hx he hs hf
def bitsR:V→List V→Hp→VK→Prop:=fun x xs H Q=>∃ i:Int,x = .int i∧xs = []∧Q (.int ((Builtin.Int.intBits i:Nat):Int)) H
theorem mt_bits {X:Cx}:MtR X "int.bit_length" bitsR:=by
  intro pins s σ H x xs v us Q I rx rv h
  obtain ⟨i,rfl,rfl,q⟩:=h
  have hus:=rv.zero
  subst hus
  obtain ⟨t,rfl⟩:=rx
  exact call_int_bit_length ⟨.int ((Builtin.Int.intBits i:Nat):Int),H,I.tok _,⟨_,rfl⟩,q⟩
theorem bits_mid {i:Int} (h:Mid i):Builtin.Int.intBits i ≤ 2048:=by
  have z:=h.log
  unfold Builtin.Int.intBits
  split <;> omega
end L2
namespace My
open PySem L2
theorem dV_str (a b:Str):decide (V.str a = V.str b) = decide (a = b):=by
  by_cases h:a = b
  · subst h; simp
  · rw [decide_eq_false h]; exact decide_eq_false fun e=>h (V.str.inj e)
theorem dV_int (a b:Int):decide (V.int a = V.int b) = decide (a = b):=by
  by_cases h:a = b
  · subst h; simp
  · rw [decide_eq_false h]; exact decide_eq_false fun e=>h (V.int.inj e)
theorem kit_same {K:PySem.W.Frag} {T:String}:PySem.W.kitOne K (.type T) (.type T) = some true:=by
  unfold PySem.W.kitOne
  rw [if_pos (beq_self_eq_true _)]
theorem same_upd {H:Hp} {p:Addr} {o:HO} (h:H p = none):Same H (upd H p o):=fun b u e=>by
  rw [upd_ne (ne_of_none e h)]
  exact e
theorem atI_some {α:Type} {xs:List α} {i:Int} (h0:0 ≤ i) (h1:i < xs.length):∃ v,atI xs i = some v∧v ∈ xs:=by
  obtain ⟨k,rfl⟩:∃ k:Nat,i = (k:Int):=⟨i.toNat,by omega⟩
  have hk:k < xs.length:=by omega
  exact ⟨xs[k],atI_nat (by simp [hk]),List.getElem_mem _⟩
theorem lk_prime (v:V):([(("prime":Str),v)]:List (Str × V)).lookup ("prime":Str) = some v:=by simp [List.lookup]
inductive Any (H:Hp):V→Prop where
  | non:Any H .non
  | bl (b:Bool):Any H (.bl b)
  | int (i:Int):Any H (.int i)
  | str (x:Str):Any H (.str x)
  | lst {a:Addr} {xs:List V} (e:H a = some (.lst xs)):Any H (.ref a)
  | tup {a:Addr} {xs:List V} (e:H a = some (.tup xs)):Any H (.ref a)
  | dct {a:Addr} (e:H a = some (DctO a)):Any H (.ref a)
theorem Any.mono {H H':Hp} {v:V} (h:Any H v) (s:Same H H'):Any H' v:=by
  cases h with
  | non=>exact .non
  | bl b=>exact .bl b
  | int i=>exact .int i
  | str x=>exact .str x
  | lst e=>exact .lst (s _ _ e)
  | tup e=>exact .tup (s _ _ e)
  | dct e=>exact .dct (s _ _ e)
def isIntV:V→Bool
  | .int _=>true
  | _=>false
def isBlV:V→Bool
  | .bl _=>true
  | _=>false
def isTupV (H:Hp):V→Bool
  | .ref a=>(match H a with | some (.tup _)=>true | _=>false)
  | _=>false
theorem Any.kit {K:PySem.W.Frag} {H:Hp} {v:V} (h:Any H v):∃ T:String,TyX K H v (.type T)∧PySem.W.kitOne K (.type T) (.type "int") = some (isIntV v || isBlV v)∧PySem.W.kitOne K (.type T) (.type "bool") = some (isBlV v)∧
    PySem.W.kitOne K (.type T) (.type "tuple") = some (isTupV H v):=by
  cases h with
  | non=>exact ⟨"NoneType",.of .non,rfl,rfl,rfl⟩
  | bl b=>exact ⟨"bool",.of (.bl b),rfl,rfl,rfl⟩
  | int i=>exact ⟨"int",.of (.int i),rfl,rfl,rfl⟩
  | str x=>exact ⟨"str",.of (.str x),rfl,rfl,rfl⟩
  | lst e=>exact ⟨"list",.of (.lst e),rfl,rfl,by unfold isTupV; dsimp only; rw [e]; rfl⟩
  | tup e=>exact ⟨"tuple",.of (.tup e),rfl,rfl,by unfold isTupV; dsimp only; rw [e]; rfl⟩
  | dct e=>exact ⟨"dict",.dct e,rfl,rfl,by unfold isTupV; dsimp only; rw [e]; rfl⟩
theorem bl_int {v:V} (h:isBlV v = true):isIntV v = false:=by cases v <;> first | rfl | cases h
def ratioB (H:Hp):V→Bool
  | .ref a=>(match H a with | some (.tup [.int x,.int y])=>decide (1 ≤ y) && decide (Int.gcd x y = 1) | _=>false)
  | _=>false
def remB (p:Int):V→Bool
  | .int i=>decide (0 ≤ i) && decide (i < p)
  | _=>false
def pairB:V→V→Bool
  | .int x,.int y=>decide (1 ≤ y) && decide (Int.gcd x y = 1)
  | _,_=>false
theorem ratioB_pair {H:Hp} {a:Addr} {x y:V} (e:H a = some (.tup [x,y])):ratioB H (.ref a) = pairB x y:=by
  unfold ratioB
  dsimp only
  rw [e]
  cases x <;> cases y <;> rfl
theorem ratioB_len {H:Hp} {a:Addr} {xs:List V} (e:H a = some (.tup xs)) (h:xs.length ≠ 2):ratioB H (.ref a) = false:=by
  unfold ratioB
  dsimp only
  rw [e]
  match xs,h with
  | [],_=>rfl
  | [x],_=>cases x <;> rfl
  | x :: y :: z :: r,_=>cases x <;> (try rfl) <;> cases y <;> rfl
  | [x,y],h=>exact absurd rfl h
theorem ratioB_no {H:Hp} {v:V} (h:isTupV H v = false):ratioB H v = false:=by
  unfold ratioB
  unfold isTupV at h
  cases v with
  | ref a=>
    dsimp only at h ⊢
    cases e:H a with
    | none=>rfl
    | some o=>
      rw [e] at h
      cases o <;> first | rfl | cases h
  | _=>rfl
structure Thing (H:Hp) (v:V):Prop where
  any:Any H v
  two:∀ (a:Addr) (x y:V),v = .ref a→H a = some (.tup [x,y])→Any H x∧Any H y∧∀ i:Int,y = .int i→Mid i
theorem thing_int {H:Hp} {i:Int}:Thing H (.int i):=⟨.int i,fun a x y e=>by cases e⟩
theorem thing_bl {H:Hp} {b:Bool}:Thing H (.bl b):=⟨.bl b,fun a x y e=>by cases e⟩
theorem thing_str {H:Hp} {x:Str}:Thing H (.str x):=⟨.str x,fun a x y e=>by cases e⟩
theorem thing_non {H:Hp}:Thing H .non:=⟨.non,fun a x y e=>by cases e⟩
theorem thing_tup2 {H:Hp} {p:Addr} {x y:V} (e:H p = some (.tup [x,y])) (ax:Any H x) (ay:Any H y) (m:∀ i:Int,y = .int i→Mid i):Thing H (.ref p):=⟨.tup e,fun a x' y' z h=>by
  cases z
  rw [e] at h
  cases h
  exact ⟨ax,ay,m⟩⟩
theorem thing_tupN {H:Hp} {p:Addr} {xs:List V} (e:H p = some (.tup xs)) (h:xs.length ≠ 2):Thing H (.ref p):=⟨.tup e,fun a x' y' z h'=>by
  cases z
  rw [e] at h'
  cases h'
  exact absurd rfl h⟩
theorem thing_lst {H:Hp} {p:Addr} {xs:List V} (e:H p = some (.lst xs)):Thing H (.ref p):=⟨.lst e,fun a x' y' z h'=>by
  cases z
  rw [e] at h'
  cases h'⟩
theorem thing_dct {H:Hp} {p:Addr} (e:H p = some (DctO p)):Thing H (.ref p):=⟨.dct e,fun a x' y' z h'=>by
  cases z
  rw [e] at h'
  cases h'⟩
theorem Thing.mono {H H':Hp} {v:V} (h:Thing H v) (s:Same H H'):Thing H' v:=⟨h.any.mono s,fun a x y z e=>by
  subst z
  have e0:H a = some (.tup [x,y]):=by
    cases h.any with
    | lst q=>rw [s _ _ q] at e; cases e
    | dct q=>rw [s _ _ q] at e; cases e
    | tup q=>rw [s _ _ q] at e; cases e; exact q
  obtain ⟨a1,a2,a3⟩:=h.two a x y rfl e0
  exact ⟨a1.mono s,a2.mono s,a3⟩⟩
theorem lk_no {v:V} {m:Str} (e:(m == ("prime":Str)) = false):([(("prime":Str),v)]:List (Str × V)).lookup m = none:=by simp [List.lookup,e]
theorem gcd_step (m n:Nat):Nat.gcd n (m % n) = Nat.gcd m n:=by rw [Nat.gcd_comm n,← Nat.gcd_rec,Nat.gcd_comm]
theorem abs_nat (a:Int):(if a < 0 then -a else a) = (a.natAbs:Int):=by split <;> omega
def lowG (a b:Int):Int:=if b < 0 then 0 - (Int.gcd a b:Int) else (Int.gcd a b:Int)
theorem gcd_pos {a b:Int} (h:b ≠ 0):0 < Int.gcd a b:=Nat.gcd_pos_of_pos_right _ (Int.natAbs_pos.mpr h)
theorem gcd_mid {a b:Int} (h:b ≠ 0) (m:Mid b):Int.gcd a b < 2 ^ 2048:=Nat.lt_of_le_of_lt (Nat.gcd_le_right _ (Int.natAbs_pos.mpr h)) m
theorem lowG_ok {a b:Int} (h:b ≠ 0) (m:Mid b):CDivM 0 (lowG a b):=by
  have h1:=gcd_pos (a:=a) h
  have h2:=gcd_mid (a:=a) h m
  unfold lowG
  refine ⟨by split <;> omega,?_⟩
  unfold Mid
  split
  · rw [show (0 - (Int.gcd a b:Int)).natAbs = Int.gcd a b by omega]; exact h2
  · rw [Int.natAbs_natCast]; exact h2
theorem Mid.of_lt {i:Int} (h1:-(10 ^ 70) < i) (h2:i < 10 ^ 70):Mid i:=by
  have h3:i.natAbs < 2 ^ 240:=by omega
  exact Nat.lt_of_lt_of_le h3 (Nat.pow_le_pow_right (by decide) (by decide))
def spWhole:Sp:=fun vs H Q _=>∃ v:V,vs = [v]∧Any H v∧Q (.bl (isIntV v)) H
def spGcd:Sp:=fun vs H Q _=>∃ a b:Int,vs = [.int a,.int b]∧Mid b∧Q (.int (Int.gcd a b:Int)) H
def spPrime:Sp:=fun vs H Q _=>∃ n:Int,vs = [.int n]∧2 ≤ n∧n ≤ 997∧Q (.bl (primeB n)) H
def spIsF:Sp:=fun vs H Q _=>∃ (p:Addr) (d:Td),vs = [.ref p]∧H p = some (.tup d.vs)∧Q (.bl d.isF) H
def spIsW:Sp:=fun vs H Q _=>∃ (p:Addr) (d:Td),vs = [.ref p]∧H p = some (.tup d.vs)∧Q (.bl d.isW) H
def spInit (C N:Addr):Sp:=fun vs H Q E=>∃ (x dx p:Addr) (d:Td),vs = [.ref x,.ref p]∧H x = some (.ins C dx [])∧H p = some (.tup d.vs)∧
  (d.good = true→Q .non (upd H x (.ins C dx [("prime",d.prime)])))∧(d.good = false→E (.ref N) none H)
def spIsRatio:Sp:=fun vs H Q _=>∃ v:V,vs = [v]∧Thing H v∧Q (.bl (ratioB H v)) H
def spIsRem:Sp:=fun vs H Q _=>∃ (p:Int) (v:V),vs = [.int p,v]∧Any H v∧Q (.bl (remB p v)) H
def WorldAt (C:Addr) (H:Hp) (x:Addr) (q:Int):Prop:=∃ dx,H x = some (.ins C dx [("prime",if q = 0 then .non else .int q)])
theorem WorldAt.mono {C:Addr} {H H':Hp} {x:Addr} {q:Int} (h:WorldAt C H x q) (s:Same H H'):WorldAt C H' x q:=by
  obtain ⟨dx,e⟩:=h
  exact ⟨dx,s _ _ e⟩
def isB (H:Hp) (q:Int) (v:V):Bool:=if q = 0 then ratioB H v else remB q v
def spIsNum (C:Addr):Sp:=fun vs H Q _=>∃ (x:Addr) (q:Int) (v:V),vs = [.ref x,v]∧WorldAt C H x q∧Thing H v∧Q (.bl (isB H q v)) H
def spLow:Sp:=fun vs H Q _=>∃ a b:Int,vs = [.int a,.int b]∧b ≠ 0∧Mid b∧∀ (q:Addr) (H':Hp),Same H H'→H' q = some (.tup [.int (a.fdiv (lowG a b)),.int (b.fdiv (lowG a b))])→Q (.ref q) H'
def spLawIs:Sp:=fun vs H Q _=>∃ (q:Int) (v:V),vs = [.int q,v]∧Thing H v∧∀ H',Same H H'→Q (.bl (isB H q v)) H'
def spPrimeN:Sp:=fun vs H Q _=>∃ c:Int,vs = [.int c]∧∀ (p:Int) (H':Hp),Same H H'→2 ≤ p→p ≤ 997→primeB p = true→Q (.int p) H'
def mixStep (m c:Int):Int:=(m * 69621 + c % 998244353 + 1) % 1000000007
def mixV (ns:List Int) (k:Int):Int:=
  let m:=(ns.take 7).foldl mixStep (1000003 * (k + 1))
  let m2:=m * m % 1000000007
  let m3:=(m2 + 7919 * k * k) * 48271 % 2147483647
  m3 * m3 % 2147483647 / 8
def drawV (ns:List Int) (k:Int):Int:=if k < ns.length then ns.getD k.toNat 0 % 10 ^ 40 else mixV ns k
theorem drawV_nonneg (ns:List Int) (k:Int):0 ≤ drawV ns k:=by
  unfold drawV
  split
  · exact Int.emod_nonneg _ (by decide)
  · unfold mixV
    exact Int.ediv_nonneg (Int.emod_nonneg _ (by decide)) (by decide)
def spDraw (K:PySem.W.Frag):Sp:=fun vs H Q _=>∃ (a:Addr) (ns:List Int) (k:Int),vs = [.ref a,.int k]∧SqL K H a (ns.map V.int)∧0 ≤ k∧k ≤ 1000000∧∀ H',Same H H'→Q (.int (drawV ns k)) H'
def spLaw (K:PySem.W.Frag):Sp:=fun vs H Q _=>∃ (a:Addr) (ns:List Int),vs = [.ref a]∧SqL K H a (ns.map V.int)∧ns.length ≤ 63∧∀ H',Q (.bl true) H'
def cmpL (v:Int) (i:Nat):List Bool:=((List.range i).filter fun e:Nat=>decide ((2 + (e:Int)) < v)).map fun e:Nat=>!decide (v % (2 + (e:Int)) = 0)
theorem cmpL_yes {v:Int} {i:Nat} (h:2 + (i:Int) < v):cmpL v (i + 1) = cmpL v i ++ [!decide (v % (2 + (i:Int)) = 0)]:=by
  unfold cmpL
  rw [List.range_succ,List.filter_append,List.map_append,List.filter_cons,if_pos (decide_eq_true h)]
  rfl
theorem cmpL_no {v:Int} {i:Nat} (h:¬ 2 + (i:Int) < v):cmpL v (i + 1) = cmpL v i:=by
  unfold cmpL
  rw [List.range_succ,List.filter_append,List.filter_cons,if_neg (by simpa using h)]
  simp
theorem cmpL_len (v:Int) (i:Nat):(cmpL v i).length ≤ i:=by
  unfold cmpL
  rw [List.length_map]
  exact Nat.le_trans (List.length_filter_le _ _) (by simp)
theorem cmpL_law (v:Int):(cmpL v 30).all id = lawB v:=by
  rw [Bool.eq_iff_iff]
  unfold cmpL
  rw [List.all_map,List.all_eq_true]
  constructor
  · intro h
    refine lawB_yes fun e h1 h2 h3=>?_
    have z:=h (e - 2).toNat (List.mem_filter.mpr ⟨List.mem_range.mpr (by omega),decide_eq_true (by omega)⟩)
    have e1:(2:Int) + ((e - 2).toNat:Int) = e:=by omega
    simp only [Function.comp_apply,id,e1,Bool.not_eq_true',decide_eq_false_iff_not] at z
    exact z
  · intro h k hk
    obtain ⟨k1,k2⟩:=List.mem_filter.mp hk
    have k1:=List.mem_range.mp k1
    have k2:=of_decide_eq_true k2
    simp only [Function.comp_apply,id,Bool.not_eq_true',decide_eq_false_iff_not]
    intro hm
    rw [lawB_no (d:=2 + (k:Int)) (by omega) (by omega) (by omega) hm] at h
    cases h
set_option maxRecDepth 100000 in
theorem prime_997:lawB 997 = true:=by decide +kernel
theorem cut_take (xs:List V) (k:Nat):cutV xs none (some (k:Int)) = xs.take k:=by
  unfold cutV
  rw [HT.sIx_none,HT.sIx_nat,List.drop_zero,Nat.sub_zero]
  rw [List.take_eq_take_iff]
  omega
theorem low_one {a b:Int} (h:1 ≤ b):((a.fdiv (lowG a b) == a) && (b.fdiv (lowG a b) == b)) = decide (Int.gcd a b = 1):=by
  have hp:=gcd_pos (a:=a) (b:=b) (by omega)
  have e:lowG a b = (Int.gcd a b:Int):=by unfold lowG; rw [if_neg (by omega)]
  rw [e]
  by_cases g:Int.gcd a b = 1
  · rw [g]
    simp [Int.fdiv_one]
  · rw [decide_eq_false g]
    have hb:¬ b.fdiv (Int.gcd a b:Int) = b:=fun z=>by
      rw [Int.fdiv_eq_ediv_of_nonneg _ (by omega)] at z
      have z2:=Int.ediv_mul_le b (b:=(Int.gcd a b:Int)) (by omega)
      rw [z] at z2
      have z3:b * 2 ≤ b * (Int.gcd a b:Int):=Int.mul_le_mul_of_nonneg_left (by omega) (by omega)
      omega
    rw [beq_eq_false_iff_ne.mpr hb,Bool.and_false]
end My
namespace My
theorem pos_part {u v:Int} (hu:0 < u) (h:0 < u * v):0 < v:=by
  by_cases z:0 < v
  · exact z
  · have y:=Int.mul_le_mul_of_nonneg_left (show v ≤ 0 by omega) (show 0 ≤ u by omega)
    rw [Int.mul_zero] at y
    omega
theorem cop_of {a b:Int} (h:∀ d:Nat,(d:Int) ∣ a→(d:Int) ∣ b→d = 1):Int.gcd a b = 1:=h _ (Int.gcd_dvd_left ..) (Int.gcd_dvd_right ..)
theorem cop_dvd {a b:Int} (h:Int.gcd a b = 1) {d:Nat} (h1:(d:Int) ∣ a) (h2:(d:Int) ∣ b):d = 1:=by
  have z:(d:Int) ∣ ((Int.gcd a b:Nat):Int):=Int.dvd_coe_gcd h1 h2
  rw [h] at z
  exact Nat.dvd_one.mp (Int.natCast_dvd_natCast.mp z)
theorem cut_dvd {a b c:Int} {d:Nat} (h:Int.gcd b c = 1) (h1:(d:Int) ∣ b) (h2:(d:Int) ∣ a * c):(d:Int) ∣ a:=by
  have hc:Nat.Coprime d c.natAbs:=by
    have z:Nat.Coprime b.natAbs c.natAbs:=h
    exact Nat.Coprime.coprime_dvd_left (Int.ofNat_dvd_left.mp h1) z
  have z:d ∣ a.natAbs * c.natAbs:=by
    rw [← Int.natAbs_mul]
    exact Int.ofNat_dvd_left.mp h2
  exact Int.ofNat_dvd_left.mpr (hc.dvd_of_dvd_mul_right z)
theorem cop_mul {a b c:Int} (h1:Int.gcd a b = 1) (h2:Int.gcd a c = 1):Int.gcd a (b * c) = 1:=by
  refine cop_of fun d x y=>?_
  exact cop_dvd h1 x (cut_dvd (a:=b) (b:=a) (c:=c) h2 x y)
theorem cop_comm {a b:Int} (h:Int.gcd a b = 1):Int.gcd b a = 1:=by rw [Int.gcd_comm]; exact h
theorem cop_over {a b:Int} (h:b ≠ 0):Int.gcd (a / (Int.gcd a b:Int)) (b / (Int.gcd a b:Int)) = 1:=by
  have z:0 < Int.gcd a b:=Nat.gcd_pos_of_pos_right _ (Int.natAbs_pos.mpr h)
  exact Int.gcd_ediv_gcd_ediv_gcd z
structure Low (x m:Int):Prop where
  pos:1 ≤ m
  cop:Int.gcd x m = 1
end My
namespace My
open PySem L2
def Big (x:Int):Prop:=x.natAbs ≤ 10 ^ 300
def spArith (C:Addr) (fr:Int→Int→Int→Int→Int) (rm:Int→Int→Int):Sp:=fun vs H Q _=>∃ (z:Addr) (q:Int) (v u:V),vs = [.ref z,v,u]∧WorldAt C H z q∧
  ((q = 0∧∃ (p r:Addr) (x m y n:Int),v = .ref p∧u = .ref r∧H p = some (.tup [.int x,.int m])∧H r = some (.tup [.int y,.int n])∧Low x m∧Low y n∧Big x∧Big m∧Big y∧Big n∧
    ∀ (r':Addr) (H':Hp) (a d:Int),Same H H'→H' r' = some (.tup [.int a,.int d])→Low a d→a * (m * n) = fr x m y n * d→Q (.ref r') H') ∨
   (2 ≤ q∧∃ i j:Int,v = .int i∧u = .int j∧0 ≤ i∧i < 1000∧Q (.int (rm i j % q)) H))
def WheelN (p:Int):Prop:=p = 0 ∨ (2 ≤ p∧p ≤ 997∧primeB p = true)
def spWheel:Sp:=fun vs H Q _=>∃ c:Int,vs = [.int c]∧∀ (p:Int) (H':Hp),Same H H'→WheelN p→Q (.int p) H'
def spWorld (C:Addr):Sp:=fun vs H Q _=>∃ p:Int,vs = [.int p]∧WheelN p∧∀ (z:Addr) (H':Hp),Same H H'→WorldAt C H' z p→Q (.ref z) H'
inductive NumAt (B:Nat) (H:Hp):Int→V→Int→Int→Prop where
  | frac {p:Addr} {x m:Int} (e:H p = some (.tup [.int x,.int m])) (l:Low x m) (bx:x.natAbs ≤ B) (bm:m.natAbs ≤ B):NumAt B H 0 (.ref p) x m
  | rem {q i:Int} (h0:0 ≤ i) (h1:i < q) (h2:q ≤ 997):NumAt B H q (.int i) i 1
theorem NumAt.mono {B:Nat} {H H':Hp} {q:Int} {v:V} {x m:Int} (h:NumAt B H q v x m) (s:Same H H'):NumAt B H' q v x m:=by
  cases h with
  | frac e l bx bm=>exact .frac (s _ _ e) l bx bm
  | rem h0 h1 h2=>exact .rem h0 h1 h2
theorem low_of {a b:Int} (h:1 ≤ b):∃ u d:Int,a.fdiv (lowG a b) = u∧b.fdiv (lowG a b) = d∧Low u d∧u.natAbs ≤ a.natAbs∧d.natAbs ≤ b.natAbs:=by
  have hp:=gcd_pos (a:=a) (b:=b) (by omega)
  have e:lowG a b = (Int.gcd a b:Int):=by unfold lowG; rw [if_neg (by omega)]
  rw [e]
  refine ⟨a / (Int.gcd a b:Int),b / (Int.gcd a b:Int),Int.fdiv_eq_ediv_of_nonneg _ (by omega),Int.fdiv_eq_ediv_of_nonneg _ (by omega),⟨?_,cop_over (by omega)⟩,Int.natAbs_ediv_le_natAbs ..,Int.natAbs_ediv_le_natAbs ..⟩
  obtain ⟨b',eb⟩:=Int.gcd_dvd_right (a:=a) (b:=b)
  have z : b / (Int.gcd a b : Int) = b' := by conv => lhs; lhs; rw [eb]
                                              exact Int.mul_ediv_cancel_left _ (by omega)
  rw [z]
  exact pos_part (u:=(Int.gcd a b:Int)) (by omega) (by rw [← eb]; omega)
theorem low_le {u d T B:Int} (l:Low u d) (hB:0 < B) (e:u * B = T * d):d ≤ B∧u.natAbs ≤ T.natAbs:=by
  have h0:=l.pos
  have hd:d ∣ B:=by
    have z:((d.natAbs:Nat):Int) ∣ B:=cut_dvd (a:=B) (b:=d) (c:=u) (cop_comm l.cop) (Int.natAbs_dvd.mpr (Int.dvd_refl d)) ⟨T * (d / (d.natAbs:Int)),by
      have q:(d.natAbs:Int) = d:=by omega
      rw [q,Int.ediv_self (by omega),Int.mul_one,Int.mul_comm B u,e,Int.mul_comm]⟩
    exact Int.natAbs_dvd.mp z
  have hle:=Int.le_of_dvd hB hd
  refine ⟨hle,?_⟩
  have z:u.natAbs * B.natAbs = T.natAbs * d.natAbs:=by rw [← Int.natAbs_mul,e,Int.natAbs_mul]
  have z2:T.natAbs * d.natAbs ≤ T.natAbs * B.natAbs:=Nat.mul_le_mul_left _ (by omega)
  rw [← z] at z2
  exact Nat.le_of_mul_le_mul_right z2 (by omega)
end My
namespace My
theorem prime_cop {q b:Int} (h1:2 ≤ q) (h2:q ≤ 997) (hp:primeB q = true) (b1:1 ≤ b) (b2:b < q):Int.gcd q b = 1:=by
  have gp:0 < Int.gcd q b:=Nat.gcd_pos_of_pos_right _ (Int.natAbs_pos.mpr (by omega))
  by_cases g1:Int.gcd q b = 1
  · exact g1
  exfalso
  obtain ⟨k,ek⟩:=Int.gcd_dvd_left (a:=q) (b:=b)
  have hb:=Int.le_of_dvd (by omega) (Int.gcd_dvd_right (a:=q) (b:=b))
  generalize Int.gcd q b = g at *
  have kp:0 < k:=pos_part (u:=(g:Int)) (by omega) (by rw [← ek]; omega)
  have k2:k ≠ 1:=fun z=>by
    rw [z,Int.mul_one] at ek
    omega
  have no:∀ d:Int,2 ≤ d→d * d ≤ q→q % d = 0→False:=fun d x y z=>by
    rw [primeB_no h2 x y z] at hp
    cases hp
  by_cases c:(g:Int) ≤ k
  · exact no g (by omega) (by rw [ek]; exact Int.mul_le_mul_of_nonneg_left c (by omega)) (by rw [ek]; exact Int.mul_emod_right ..)
  · exact no k (by omega) (by rw [ek]; exact Int.mul_le_mul_of_nonneg_right (by omega) (by omega)) (by rw [ek]; exact Int.mul_emod_left ..)
structure Bond (q b last lt now nt:Int):Prop where
  l:∃ s,last = lt * b + s * q
  n:∃ s,now = nt * b + s * q
  cop:Int.gcd last now = 1
  pos:1 ≤ now
  less:now ≤ last
theorem Bond.step {q b last lt now nt:Int} (h:Bond q b last lt now nt) (h1:1 < now):Bond q b now nt (last - last / now * now) (lt - last / now * nt)∧last - last / now * now < now:=by
  obtain ⟨⟨s,es⟩,⟨r,er⟩,c,p,le⟩:=h
  have e:last - last / now * now = last % now:=by
    have z:=Int.emod_add_mul_ediv last now
    rw [Int.mul_comm] at z
    omega
  have lt1:=Int.emod_lt_of_pos last (show 0 < now by omega)
  have ge:=Int.emod_nonneg last (show now ≠ 0 by omega)
  have c':Int.gcd now (last % now) = 1:=cop_of fun d x y=>cop_dvd c (by
    have z:=Int.emod_add_mul_ediv last now
    rw [← z]
    exact Int.dvd_add y (Int.dvd_trans x (Int.dvd_mul_right ..))) x
  have nz:last % now ≠ 0:=fun z=>by
    rw [z,Int.gcd_zero_right] at c'
    omega
  refine ⟨⟨⟨r,er⟩,⟨s - last / now * r,?_⟩,by rw [e]; exact c',by omega,by omega⟩,by omega⟩
  generalize last / now = f
  rw [es,er,Int.sub_mul,Int.sub_mul,Int.mul_add,Int.mul_assoc,Int.mul_assoc]
  omega
theorem Bond.done {q b last lt nt:Int} (h:Bond q b last lt 1 nt) (hq:2 ≤ q):(nt % q * b) % q = 1:=by
  obtain ⟨s,e⟩:=h.n
  have z:nt * b = 1 + (-s) * q:=by rw [Int.neg_mul]; omega
  have y:nt % q * b % q = nt * b % q:=by rw [Int.mul_emod (nt % q) b,Int.emod_emod,← Int.mul_emod]
  rw [y,z,Int.add_mul_emod_self_right]
  exact Int.emod_eq_of_lt (by omega) (by omega)
theorem Bond.start {q b:Int} (h1:2 ≤ q) (h2:q ≤ 997) (hp:primeB q = true) (b1:1 ≤ b) (b2:b < q):Bond q b q 0 b 1:=
  ⟨⟨1,by omega⟩,⟨0,by omega⟩,prime_cop h1 h2 hp b1 b2,b1,by omega⟩
end My
namespace L2
open PySem PySem.Spec PyProof.Rows
end L2
namespace My
open PySem L2
def spBack (N:Addr):Sp:=fun vs H Q E=>∃ q b:Int,vs = [.int q,.int b]∧2 ≤ q∧q ≤ 997∧primeB q = true∧0 ≤ b∧b < q∧(b = 0→E (.ref N) none H)∧(b ≠ 0→∀ r:Int,0 ≤ r→r < q→(r * b) % q = 1→Q (.int r) H)
def spRemOver (N:Addr):Sp:=fun vs H Q E=>∃ q i j:Int,vs = [.int q,.int i,.int j]∧2 ≤ q∧q ≤ 997∧primeB q = true∧0 ≤ i∧i < q∧0 ≤ j∧j < q∧(j = 0→E (.ref N) none H)∧(j ≠ 0→∀ r:Int,0 ≤ r→r < q→(r * j) % q = i→Q (.int r) H)
theorem rem_over {q i j r:Int} (hq:2 ≤ q) (i0:0 ≤ i) (i1:i < q) (h:(r * j) % q = 1):(i * r % q * j) % q = i:=by
  have y:i * r % q * j % q = i * (r * j) % q:=by rw [Int.mul_emod (i * r % q) j,Int.emod_emod,← Int.mul_emod,Int.mul_assoc]
  rw [y,Int.mul_emod,h,Int.emod_eq_of_lt i0 i1,Int.mul_one,Int.emod_eq_of_lt i0 i1]
end My
namespace L2
open PySem PySem.Spec PyProof.Rows
structure FunD (K:PySem.W.Frag) (x qual:Str) (st:Stmt) (i:Int) (f:Addr) (fd:FuncData):Prop where
  ex:∃ (oc:Value) (od:Option Addr) (kV doc pm:Value) (an:Option Addr) (cdv ct:Value) (osl:Array (Option Value)) (dT:Addr) (tk:Tok) (oc':Value) (od':Option Addr) (n:Nat) (osl':Array (Option Value)),
    fd = PySem.W.fnOf x qual (defArgs st) (defBody st) (defScope st) (.ref dT) kV doc pm an cdv ct∧K.lookup f = some ⟨oc,od,.func fd,osl⟩∧PySem.W.codeIn K cdv qual = true∧K.lookup dT = some ⟨oc',od',.seq #[.int i tk] n,osl'⟩
  kp:PySem.W.keepIn K (.ref f) = true
section
variable {P:Program} {w:World} {K:PySem.W.Frag} {mg:Str→Option Value} {base:Heap}
theorem FunD.okX {x qual:Str} {st:Stmt} {i:Int} {f:Addr} {fd:FuncData} {N ps:List Str} {k:Nat} {sp:Sp} (F:FunD K x qual st i f fd) (S:FnScope N ps (defScope st)) (len:∀ vs H Q E,sp vs H Q E→vs.length = ps.length)
    (hbody:∀ (cdv:Value) (A:Around) (outer:List Env) (s:Shared) (H:Hp) (vs:List V) (Q:VK) (E:XK),Room k (A.deeper (envOfC qual (defScope st) s.heap.objs.size f cdv))→sp vs H Q E→
      Leaves (cxOf (CXF P w) P w K mg base N qual (defScope st) f cdv A outer s H E) E→
      ∃ t,PSs (cxOf (CXF P w) P w K mg base N qual (defScope st) f cdv A outer s H E) (defBody st) t∧t { nx:=fun _ H'=>Q .non H',rt:=Q } (start N vs) H):FnOk P w K mg base (CXF P w) (k + 1) f fd ps sp:=by
  obtain ⟨oc,od,kV,doc,pm,an,cdv,ct,osl,dT,tk,oc',od',n,osl',rfl,lk,hcd,ld⟩:=F.ex
  exact fn_of lk hcd S len fun A outer s H vs Q E hr hsp=>hbody cdv A outer s H vs Q E hr hsp ⟨rfl,rfl,rfl,rfl⟩
theorem fund_mk {x qual:Str} {st:Stmt} {i:Int} {f dT:Addr} {oc:Value} {od an:Option Addr} {osl:Array (Option Value)} {kV doc pm cdv ct:Value} {tk:Tok} {oc':Value} {od':Option Addr} {n:Nat} {osl':Array (Option Value)}
    (l:K.lookup f = some ⟨oc,od,.func (PySem.W.fnOf x qual (defArgs st) (defBody st) (defScope st) (.ref dT) kV doc pm an cdv ct),osl⟩)
    (c:PySem.W.codeIn K cdv qual = true) (k:PySem.W.keepIn K (.ref f) = true) (ld:K.lookup dT = some ⟨oc',od',.seq #[.int i tk] n,osl'⟩):FunD K x qual st i f (PySem.W.fnOf x qual (defArgs st) (defBody st) (defScope st) (.ref dT) kV doc pm an cdv ct):=
  ⟨⟨oc,od,kV,doc,pm,an,cdv,ct,osl,dT,tk,oc',od',n,osl',rfl,l,c,ld⟩,k⟩
theorem FunD.binds {x qual:Str} {st:Stmt} {i:Int} {f:Addr} {fd:FuncData} {ps:List Str} (F:FunD K x qual st i f fd)
    (h:∀ (s:Shared) (dT:Addr) (kV doc pm:Value) (an:Option Addr) (cdv ct:Value) (tk:Tok) (o:Obj) (n:Nat) (us:List Value),s.heap.get? dT = some o→o.data = .seq #[.int i tk] n→us.length = ps.length→
      BindsTo s (PySem.W.fnOf x qual (defArgs st) (defBody st) (defScope st) (.ref dT) kV doc pm an cdv ct) ⟨us,[]⟩ (ps.zip us)):Binds K fd ps []:=by
  obtain ⟨oc,od,kV,doc,pm,an,cdv,ct,osl,dT,tk,oc',od',n,osl',rfl,lk,hcd,ld⟩:=F.ex
  intro s us X hl
  rw [List.append_nil] at hl ⊢
  exact h s dT kV doc pm an cdv ct tk _ n us (X _ _ ld) rfl hl
theorem FunD.binds1 {x qual:Str} {st:Stmt} {i:Int} {f:Addr} {fd:FuncData} {ps:List Str} (F:FunD K x qual st i f fd)
    (h:∀ (s:Shared) (dT:Addr) (kV doc pm:Value) (an:Option Addr) (cdv ct:Value) (tk:Tok) (o:Obj) (n:Nat) (us:List Value),s.heap.get? dT = some o→o.data = .seq #[.int i tk] n→us.length + 1 = ps.length→
      BindsTo s (PySem.W.fnOf x qual (defArgs st) (defBody st) (defScope st) (.ref dT) kV doc pm an cdv ct) ⟨us,[]⟩ (ps.zip (us ++ [.int i tk]))):∃ v,Vals [V.int i] [v]∧Binds K fd ps [v]:=by
  obtain ⟨oc,od,kV,doc,pm,an,cdv,ct,osl,dT,tk,oc',od',n,osl',rfl,lk,hcd,ld⟩:=F.ex
  refine ⟨.int i tk,.cons ⟨tk,rfl⟩ .nil,fun s us X hl=>?_⟩
  exact h s dT kV doc pm an cdv ct tk _ n us (X _ _ ld) rfl (by simpa using hl)
theorem FunD.bindsK {x qual:Str} {st:Stmt} {i:Int} {f:Addr} {fd:FuncData} {ps:List Str} {y:Str} (F:FunD K x qual st i f fd)
    (h:∀ (s:Shared) (dT:Addr) (kV doc pm:Value) (an:Option Addr) (cdv ct:Value) (tk:Tok) (o:Obj) (n:Nat) (us ws:List Value),s.heap.get? dT = some o→o.data = .seq #[.int i tk] n→ws.length = 1→us.length + 1 = ps.length→
      BindsTo s (PySem.W.fnOf x qual (defArgs st) (defBody st) (defScope st) (.ref dT) kV doc pm an cdv ct) ⟨us,[y].zip ws⟩ (ps.zip (us ++ ws))) :
    ∀ (s:Shared) (us ws:List Value),K.In s.heap→ws.length = 1→us.length + 1 = ps.length→BindsTo s fd ⟨us,[y].zip ws⟩ (ps.zip (us ++ ws)):=by
  obtain ⟨oc,od,kV,doc,pm,an,cdv,ct,osl,dT,tk,oc',od',n,osl',rfl,lk,hcd,ld⟩:=F.ex
  intro s us ws X hw hl
  exact h s dT kV doc pm an cdv ct tk _ n us ws (X _ _ ld) rfl hw hl
end
section
variable {X:Cx} {CX:CXT} {k:Nat} {f C:Addr} {fd:FuncData} {ps:List Str} {y:Str} {sp:Sp} {E:XK} {m:Str} {pos apos kpos:Pos} {e e' o:Expr} {ta:TE} {t tk:TA}
end
end L2
namespace My
open PySem L2
def lowU (a b:Int):Int:=a.fdiv (lowG a b)
def lowD (a b:Int):Int:=b.fdiv (lowG a b)
theorem low_fd1 (a:Int):lowU a 1 = a∧lowD a 1 = 1:=by
  unfold lowU lowD lowG
  rw [Int.gcd_one_right,if_neg (by decide)]
  exact ⟨Int.fdiv_one a,Int.fdiv_one 1⟩
def spRatio (N:Addr):Sp:=fun vs H Q E=>∃ a b:Int,vs = [.int a,.int b]∧Mid b∧(b = 0→E (.ref N) none H)∧(b ≠ 0→∀ (r:Addr) (H':Hp),Same H H'→H' r = some (.tup [.int (lowU a b),.int (lowD a b)])→Q (.ref r) H')
def NoOv (q b:Int):Prop:=if q = 0 then b = 0 else b % q = 0
def OfAt (H:Hp) (q:Int) (v:V) (a b:Int):Prop:=
  (q = 0∧∃ r:Addr,v = .ref r∧H r = some (.tup [.int (lowU a b),.int (lowD a b)])) ∨ (2 ≤ q∧∃ r:Int,v = .int r∧0 ≤ r∧r < q∧(r * (b % q)) % q = a % q)
theorem OfAt.mono {H H':Hp} {q:Int} {v:V} {a b:Int} (h:OfAt H q v a b) (s:Same H H'):OfAt H' q v a b:=by
  rcases h with ⟨h,r,e,h2⟩ | h
  · exact .inl ⟨h,r,e,s _ _ h2⟩
  · exact .inr h
def spOf (C N:Addr):Sp:=fun vs H Q E=>∃ (z:Addr) (q a b:Int),vs = [.ref z,.int a,.int b]∧WorldAt C H z q∧WheelN q∧Mid b∧
  (NoOv q b→E (.ref N) none H)∧(¬ NoOv q b→∀ (v:V) (H':Hp),Same H H'→OfAt H' q v a b→Q v H')
end My
namespace L2
open PySem PySem.Spec PyProof.Rows
section
variable {X:Cx}
end
end L2
namespace My
open PySem L2
inductive IsN (H:Hp):Int→V→Int→Int→Prop where
  | frac {p:Addr} {u d t b:Int} (e:H p = some (.tup [.int u,.int d])) (l:Low u d) (hb:b ≠ 0) (h:u * b = t * d):IsN H 0 (.ref p) t b
  | rem {q r t b:Int} (q2:2 ≤ q) (h0:0 ≤ r) (h1:r < q) (g:Int.gcd q b = 1) (h:q ∣ r * b - t):IsN H q (.int r) t b
theorem IsN.mono {H H':Hp} {q:Int} {v:V} {t b:Int} (h:IsN H q v t b) (s:Same H H'):IsN H' q v t b:=by
  cases h with
  | frac e l hb h=>exact .frac (s _ _ e) l hb h
  | rem q2 h0 h1 g h=>exact .rem q2 h0 h1 g h
theorem NumAt.isN {B:Nat} {H:Hp} {q:Int} {v:V} {x m:Int} (h:NumAt B H q v x m) (hq:WheelN q):IsN H q v x m:=by
  cases h with
  | frac e l bx bm=>exact .frac e l (by have:=l.pos; omega) rfl
  | rem h0 h1 h2=>
    have q2:2 ≤ q:=(hq.resolve_left (by omega)).1
    exact .rem q2 h0 h1 (by rw [Int.gcd_one_right]) ⟨0,by omega⟩
theorem can_bd {u d t b:Int} (l:Low u d) (hb:b ≠ 0) (e:u * b = t * d):u.natAbs ≤ t.natAbs∧d.natAbs ≤ b.natAbs:=by
  have h3:=l.pos
  by_cases c:0 < b
  · obtain ⟨z1,z2⟩:=low_le l c e
    omega
  · have e':u * (-b) = (-t) * d:=by rw [Int.mul_neg,e,Int.neg_mul]
    obtain ⟨z1,z2⟩:=low_le l (show 0 < -b by omega) e'
    omega
theorem mul_cancel {a b c:Int} (h:c ≠ 0) (e:a * c = b * c):a = b:=Int.eq_of_mul_eq_mul_right h e
theorem dvd_cop {q a c:Int} (q2:2 ≤ q) (g:Int.gcd q c = 1) (d:q ∣ a * c):q ∣ a:=by
  have qq:((q.natAbs:Nat):Int) = q:=by omega
  have z:=cut_dvd (a:=a) (b:=q) (c:=c) (d:=q.natAbs) g (by rw [qq]; exact Int.dvd_refl q) (by rw [qq]; exact d)
  rw [qq] at z
  exact z
theorem mod_wit (a q:Int):∃ w,a % q + q * w = a:=⟨a / q,Int.emod_add_mul_ediv a q⟩
section
variable {C N z:Addr} {q:Int} {v u:V} {t b t' b':Int} {H:Hp} {Q:VK} {E:XK}
theorem plus_is (hw:WorldAt C H z q) (hq:WheelN q) (hv:IsN H q v t b) (hu:IsN H q u t' b') (b1:Big t) (b2:Big b) (b3:Big t') (b4:Big b')
    (k:∀ (v':V) (H':Hp),Same H H'→IsN H' q v' (t * b' + t' * b) (b * b')→Q v' H'):spArith C (fun x m y n=>x * n + y * m) (fun i j=>i + j) [.ref z,v,u] H Q E:=by
  refine ⟨z,q,v,u,rfl,hw,?_⟩
  cases hv with
  | frac e l hb h=>
    cases hu with
    | frac e' l' hb' h'=>
      rename_i p x m p' y n
      obtain ⟨c1,c2⟩:=can_bd l hb h
      obtain ⟨c3,c4⟩:=can_bd l' hb' h'
      refine .inl ⟨rfl,_,_,x,m,y,n,rfl,rfl,e,e',l,l',Nat.le_trans c1 b1,Nat.le_trans c2 b2,Nat.le_trans c3 b3,Nat.le_trans c4 b4,fun r' H' a d s' er la ea=>k _ H' s' (.frac er la (Int.mul_ne_zero hb hb') ?_)⟩
      have m0:=l.pos
      have n0:=l'.pos
      refine mul_cancel (c:=m * n) (Int.mul_ne_zero (by omega) (by omega)) ?_
      grind
    | rem q2 h0 h1 g h=>omega
  | rem q2 h0 h1 g h=>
    cases hu with
    | frac e' l' hb' h'=>omega
    | rem q2' h0' h1' g' h'=>
      rename_i i j
      have q3:q ≤ 997:=(hq.resolve_left (by omega)).2.1
      refine .inr ⟨q2,i,j,rfl,rfl,h0,by omega,k _ H (Same.refl H) (.rem q2 (Int.emod_nonneg _ (by omega)) (Int.emod_lt_of_pos _ (by omega)) (cop_mul g g') ?_)⟩
      obtain ⟨k1,e1⟩:=h
      obtain ⟨k2,e2⟩:=h'
      obtain ⟨w,ew⟩:=mod_wit (i + j) q
      exact ⟨k1 * b' + k2 * b - w * (b * b'),by grind⟩
theorem isN_isB (h:IsN H q v t b):isB H q v = true:=by
  unfold isB
  cases h with
  | frac e l hb h=>
    rw [if_pos rfl,ratioB_pair e]
    rename_i u d
    show (decide (1 ≤ d) && decide (Int.gcd u d = 1)) = true
    rw [decide_eq_true l.pos,decide_eq_true l.cop]
    rfl
  | rem q2 h0 h1 g h=>
    rw [if_neg (by omega)]
    rename_i r
    show (decide (0 ≤ r) && decide (r < q)) = true
    rw [decide_eq_true h0,decide_eq_true h1]
    rfl
theorem low_same {u d u' d':Int} (l:Low u d) (l':Low u' d') (e:u * d' = u' * d):u = u'∧d = d':=by
  have h1:=l.pos
  have h2:=l'.pos
  have a:=(low_le l (show 0 < d' by omega) e).1
  have c:=(low_le l' (show 0 < d by omega) e.symm).1
  have dd:d = d':=by omega
  subst dd
  exact ⟨mul_cancel (show d ≠ 0 by omega) e,rfl⟩
theorem isN_alike (hv:IsN H q v t b) (hu:IsN H q u t' b') (e:t * b' = t' * b) :
    (∃ p p' x m,v = .ref p∧u = .ref p'∧H p = some (.tup [.int x,.int m])∧H p' = some (.tup [.int x,.int m])) ∨ (∃ i:Int,v = .int i∧u = .int i):=by
  cases hv with
  | frac e1 l hb h=>
    cases hu with
    | frac e2 l' hb' h'=>
      rename_i p x m p' y n
      have z:x * n = y * m:=by
        refine mul_cancel (c:=b * b') (Int.mul_ne_zero hb hb') ?_
        grind
      obtain ⟨rfl,rfl⟩:=low_same l l' z
      exact .inl ⟨_,_,_,_,rfl,rfl,e1,e2⟩
    | rem q2 h0 h1 g h=>omega
  | rem q2 h0 h1 g h=>
    cases hu with
    | frac e' l' hb' h'=>omega
    | rem q2' h0' h1' g' h'=>
      rename_i i j
      have d:q ∣ (i - j) * (b * b'):=by
        obtain ⟨k1,e1⟩:=h
        obtain ⟨k2,e2⟩:=h'
        exact ⟨k1 * b' - k2 * b,by grind⟩
      have d2:=dvd_cop q2 (cop_mul g g') d
      have ij:i = j:=by
        obtain ⟨k,ek⟩:=d2
        by_cases z:k = 0
        · rw [z,Int.mul_zero] at ek; omega
        · exfalso
          rcases Int.lt_or_gt_of_ne z with z | z
          · have:=Int.mul_le_mul_of_nonneg_left (show k ≤ -1 by omega) (show 0 ≤ q by omega)
            omega
          · have:=Int.mul_le_mul_of_nonneg_left (show 1 ≤ k by omega) (show 0 ≤ q by omega)
            omega
      subst ij
      exact .inr ⟨_,rfl,rfl⟩
end
theorem NumAt.far {B:Nat} {H H':Hp} {q:Int} {v:V} {x m:Int} {D:Addr} {ys:List V} (h:NumAt B H q v x m) (eD:H D = some (.lst ys)) (k:∀ b o,b ≠ D→H b = some o→H' b = some o):NumAt B H' q v x m:=by
  cases h with
  | frac e l bx bm=>
    refine .frac (k _ _ (fun z=>?_) e) l bx bm
    rw [z,eD] at e
    cases e
  | rem h0 h1 h2=>exact .rem h0 h1 h2
end My
namespace L2
open PySem PySem.Spec PyProof.Rows
structure JSeq (J:It) (xs:List V) (H1:Hp):Prop where
  go:∀ i Hc,Same H1 Hc→i < xs.length→J.go i Hc
  yld:∀ i Hc x H',Same H1 Hc→J.yld i Hc x H'→H' = Hc∧(i < xs.length→xs[i]? = some x)
  stop:∀ i Hc,Same H1 Hc→xs.length ≤ i→J.stop i Hc
theorem jseq_list {K:PySem.W.Frag} {a:Addr} {xs:List V} {H1:Hp} (h:SqL K H1 a xs):JSeq (Itl K a) xs H1 where
  go:=fun i Hc s hi=>⟨xs,xs[i],s.seq h,by simp [hi]⟩
  yld:=fun i Hc x H' s y=>⟨y.1,fun _=>y.2 xs (s.seq h)⟩
  stop:=fun i Hc s hi=>⟨xs,s.seq h,hi⟩
theorem jseq_rng {lo:Int} {n:Nat} {H1:Hp}:JSeq (Itr lo n) ((List.range n).map fun i:Nat=>V.int (lo + (i:Int))) H1 where
  go:=fun i Hc s hi=>by
    have hi:i < n:=by simpa using hi
    exact hi
  yld:=fun i Hc x H' s y=>⟨y.1,fun hi=>by
    have hi:i < n:=by simpa using hi
    rw [y.2]
    simp [hi]⟩
  stop:=fun i Hc s hi=>by
    have hi:n ≤ i:=by simpa using hi
    exact hi
theorem same_but {H H':Hp} {D:Addr} {o:HO} (s:Same H H') (n:H D = none):Same H (upd H' D o):=fun b u e=>by
  rw [upd_ne (ne_of_none e n)]
  exact s b u e
theorem comp_seq {J:It} {xs:List V} {H1:Hp} {ρσ:St} {te:TE} {D:Addr} {Q:VK} (js:JSeq J xs H1) (nD:H1 D = none) (hn:xs.length < sizeLine)
    (P:Nat→V→Hp→Prop) (mono:∀ i y H H' ys,P i y H→H D = some (.lst ys)→(∀ b o,b ≠ D→H b = some o→H' b = some o)→P i y H')
    (step:∀ i x,xs[i]? = some x→∀ (Hc:Hp) (R:VK),Same H1 Hc→(∃ ys,Hc D = some (.lst ys))→(∀ y H3,Same Hc H3→P i y H3→R y H3)→te (some x :: ρσ) Hc R)
    (fin:∀ ys Hc,Same H1 Hc→ys.length = xs.length→(∀ i y,ys[i]? = some y→P i y Hc)→Hc D = some (.lst ys)→Q (.ref D) Hc) :
    ∃ W:Nat→Nat→List V→Hp→Prop,(∃ m,W 0 m [] (upd H1 D (.lst [])))∧
      ∀ i m ys Hc,W i m ys Hc→Hc D = some (.lst ys)∧((J.stop i Hc∧Q (.ref D) Hc) ∨ (J.go i Hc∧∀ x H',J.yld i Hc x H'→
        if true = true then te (some x :: ρσ) H' fun y H3=>H3 D = some (.lst ys)∧ys.length < sizeLine∧∃ m',m' < m∧W (i + 1) m' (ys ++ [y]) (upd H3 D (.lst (ys ++ [y]))) else ∃ m',m' < m∧W (i + 1) m' ys H')):=by
  refine ⟨fun i m ys Hc=>m = xs.length - i∧i ≤ xs.length∧Hc D = some (.lst ys)∧Same H1 Hc∧ys.length = i∧∀ j y,ys[j]? = some y→P j y Hc,⟨_,rfl,Nat.zero_le _,upd_same,same_but (Same.refl H1) nD,rfl,fun j y e=>by simp at e⟩,?_⟩
  rintro i m ys Hc ⟨rfl,hi,eD,sH,el,hP⟩
  refine ⟨eD,?_⟩
  by_cases hlt:i < xs.length
  · refine .inr ⟨js.go i Hc sH hlt,fun x H' hy=>?_⟩
    obtain ⟨rfl,hx⟩:=js.yld i Hc x H' sH hy
    rw [if_pos rfl]
    refine step i x (hx hlt) _ _ sH ⟨ys,eD⟩ fun y H3 s3 hp=>?_
    have e3:=s3 _ _ eD
    refine ⟨e3,by omega,xs.length - (i + 1),by omega,rfl,hlt,upd_same,same_but (sH.trans s3) nD,by simp [el],fun j y' e=>?_⟩
    have far:∀ b o,b ≠ D→H3 b = some o→upd H3 D (.lst (ys ++ [y])) b = some o:=fun b o nb e=>by rw [upd_ne nb]; exact e
    by_cases hj:j < i
    · have e':ys[j]? = some y':=by rw [List.getElem?_append_left (by omega)] at e; exact e
      refine mono j y' H' _ ys (hP j y' e') eD fun b o nb e=>?_
      exact far b o nb (s3 _ _ e)
    · have hj:j = i:=by
        have:=(List.getElem?_eq_some_iff.mp e).1
        simp at this
        omega
      subst hj
      have e':y' = y:=by rw [List.getElem?_append_right (by omega),el,Nat.sub_self] at e; simpa using e.symm
      subst e'
      exact mono _ _ H3 _ ys hp e3 far
  · have e:i = xs.length:=by omega
    subst e
    exact .inl ⟨js.stop _ Hc sH (Nat.le_refl _),fin ys Hc sH el hP eD⟩
theorem comp_of {wi:TI} {ρ:St→St} {te:TE} {σ:St} {H:Hp} {Q:VK} {xs:List V} (hwi:∀ R:It→Hp→Prop,(∀ J H1,Same H H1→JSeq J xs H1→R J H1)→wi σ H R) (hn:xs.length < sizeLine)
    (P:Addr→Nat→V→Hp→Prop) (mono:∀ D i y H H' ys,P D i y H→H D = some (.lst ys)→(∀ b o,b ≠ D→H b = some o→H' b = some o)→P D i y H')
    (step:∀ D i x,xs[i]? = some x→∀ (Hc:Hp) (R:VK),Same H Hc→(∃ ys,Hc D = some (.lst ys))→(∀ y H3,Same Hc H3→P D i y H3→R y H3)→te (some x :: ρ σ) Hc R)
    (fin:∀ D ys Hc,Same H Hc→ys.length = xs.length→(∀ i y,ys[i]? = some y→P D i y Hc)→Hc D = some (.lst ys)→Q (.ref D) Hc):tComp wi ρ (fun _ H Q=>Q true H) te σ H Q:=by
  refine hwi _ fun J H1 s1 js=>?_
  intro D nD
  exact comp_seq (ρσ:=ρ σ) (te:=te) (Q:=Q) js nD hn (P D) (mono D) (fun i x hx Hc R sc=>step D i x hx Hc R (s1.trans sc)) (fun ys Hc sc=>fin D ys Hc (s1.trans sc))
theorem asg_of {te:TE} {g:TG} {D:Ends} {σ:St} {H:Hp} (h:te σ H fun x H1=>g x σ H1 D.nx):tAsg te g D σ H:=h
theorem seq_of {a b:TS} {D:Ends} {σ:St} {H:Hp} (h:a { D with nx:=fun σ H=>b D σ H } σ H):tSeq a b D σ H:=h
end L2
namespace L2
open PySem PySem.Spec PyProof.Rows
section
variable {X:Cx} {N:List Str} {scope:Scope} {cl:List (Str × Addr)} {x:Str} {px pos:Pos} {iter elt:Expr} {ifs:List Expr} {wi:TI} {ρ:St→St} {tt:TT} {te:TE}
end
end L2
namespace L2
open PySem PySem.Spec PyProof.Rows
section
variable {X:Cx}
end
end L2
namespace L2
open PySem PySem.Spec PyProof.Rows
section
variable {prog:Program} {w:World} {A:Around} {R:Result→Shared→Prop} {s:Shared}
end
section
variable {X:Cx} {N:List Str} {scope:Scope} {cl:List (Str × Addr)} {x y:Str} {px py pos tp:Pos} {tk0:Nat} {iter elt:Expr} {ifs:List Expr} {wi:TI} {ρ:St→St} {tt:TT} {te:TE}
end
end L2
namespace L2
open PySem PySem.Spec PyProof.Rows
section
variable {X:Cx}
end
end L2
namespace L2
open PySem PySem.Spec PyProof.Rows
abbrev Cx.blkC (X:Cx) (N:List Str) (scope:Scope) (cl:List (Str × Addr)) (x:Str) (s₃:Shared) (H₃:Hp) (fp:List Addr):Cx:=
  { X with N:=N,s₀:=s₃,H₀:=H₃,env:=compEnvC scope ((x,s₃.heap.objs.size + 1) :: cl) s₃.heap.objs.size X.env,outer:=X.stack,stack:=X.stack,ex:=fp,fn:=fun y=>y == x,pn:=[],xe:=fun _ _=>False }
section
variable {M:Model} {A:Around} {E:Value→Shared→Prop} {s:Shared}
theorem newEnv_cell {scope:Scope} {globals:Addr} {cl:List (Str × Addr)} {qual x:Str} {env:Env} {Q:Env→Shared→Prop}
    (c1:∀ n,cellsFrom n scope.names cl = (x,n) :: cl) (p1:∀ h:Heap,pushCells h scope.names = h.push { cls:=.type "cell",data:=.cell none })
    (hQ:Q (newEnv scope s.heap.objs.size globals ((x,s.heap.objs.size + 1) :: cl) qual none .none (some env) builtinsNs) { s with heap:=(s.heap.push { cls:=.type "dict",data:=.dict #[] }).push { cls:=.type "cell",data:=.cell none } }) :
    wpAny M A (newFunctionEnv scope globals cl [] qual none .none (some env)) Q E s:=by
  simp only [newFunctionEnv,Option.isSome_some,if_true]
  refine wpAny_bind (wpAny_alloc ?_)
  refine wpAny_bind (wpAny_layCells _ (fun name kind cells=>by cases hkc:kind == NameKind.cell <;> simp [hkc]) _ _ _ _ ?_)
  rw [show ({ s with heap:=s.heap.push { cls:=.type "dict",data:=.dict #[] } }:Shared).heap.objs.size = s.heap.objs.size + 1 from Heap.size_push ..,c1,p1]
  exact wpAny_bind (wpAny_pure (wpAny_pure hQ))
end
section
variable {X:Cx} {N:List Str} {scope:Scope} {cl:List (Str × Addr)} {x:Str} {px pos:Pos} {iter elt:Expr} {ifs:List Expr} {wi:TI} {ρ:St→St} {tt:TT} {te:TE}
theorem hasC_of {names:List (Str × NameKind)} {cl:List (Str × Addr)} {x:Str} (h:(names.all fun q=>(q.2 != .cell && q.2 != .free) || ((cl.lookup q.1).isSome || q.1 == x)) = true) :
    ∀ y,y ≠ x→(names.lookup y = some .cell ∨ names.lookup y = some .free)→∃ c,cl.lookup y = some c:=fun y hx hy=>by
  have key:∀ k:NameKind,(k != .cell && k != .free) = false→names.lookup y = some k→∃ c,cl.lookup y = some c:=fun k hk e=>by
    have z:=List.all_eq_true.mp h (y,k) (PySem.mem_of_lookup e)
    rw [hk,Bool.false_or,show ((y,k).1 == x) = false from beq_eq_false_iff_ne.mpr hx,Bool.or_false] at z
    exact Option.isSome_iff_exists.mp z
  rcases hy with e | e
  · exact key .cell rfl e
  · exact key .free rfl e
structure BlkC (X:Cx) (N:List Str) (scope:Scope) (cl:List (Str × Addr)) (x:Str) (ρ:St→St):Prop where
  clos:closureFor scope X.env = pure cl
  kind:scope.kind = .function
  cells1:∀ n,cellsFrom n scope.names cl = (x,n) :: cl
  push1:∀ h:Heap,pushCells h scope.names = h.push { cls:=.type "cell",data:=.cell none }
  names:∀ y ∈ scope.names,y.2 = .local→scope.names.lookup y.1 = some .local
  sub:∀ p ∈ cl,X.env.cells.lookup p.1 = some p.2
  has:∀ y,y ≠ x→((relabel scope X.env).names.lookup y = some .cell ∨ (relabel scope X.env).names.lookup y = some .free)→∃ c,cl.lookup y = some c
  n0:N[0]? = some x
  nd:N.Nodup
  relx:(relabel scope X.env).names.lookup x = some .cell
  rho:∀ (σ:St) (j:Nat) (v:V),(ρ σ)[j]? = some (some v)→∃ (i:Nat) (y:Str),N[j + 1]? = some y∧X.N[i]? = some y∧σ[i]? = some (some v)∧Vis X.env.scope y∧(X.env.kindOf y = some .cell ∨ X.env.kindOf y = some .free)∧((relabel scope X.env).names.lookup y = some .cell ∨ (relabel scope X.env).names.lookup y = some .free)
  len:∀ σ:St,σ.length = X.N.length→(ρ σ).length + 1 = N.length
theorem pe_compC (B:BlkC X N scope cl x ρ) (hc:X.calm = true) (hi:PI X (.Name x px) iter wi) (ht:∀ s₃ H₃ fp,PTs (X.blkC N scope cl x s₃ H₃ fp) ifs tt) (he:∀ s₃ H₃ fp,PE (X.blkC N scope cl x s₃ H₃ fp) elt te)
    (hs:∀ x,foldedSetIterable iter X.env x = pure x:=by intro _; rfl):PE X (.ListComp elt [⟨.Name x px,iter,ifs,0⟩] scope pos) (tComp wi ρ tt te):=by
  intro pins s σ H Q I h
  rw [eval_ListComp]
  refine wpAny_comprehension_free (use:=none) rfl hs B.clos B.kind B.names (thn (hi pins s σ H _ I h) fun v s1 h1=>thn h1 fun itv s2 h2=>?_)
  obtain ⟨it,fp,tn,J,H2,rfl,I2,T,st2,f2,q2⟩:=h2
  have nD:H2 s2.heap.objs.size = none:=I2.hok.fresh (Nat.le_refl _)
  obtain ⟨W,⟨m0,w0⟩,turn⟩:=q2 _ nD
  refine wpAny_newObj_type (newEnv_cell B.cells1 B.push1 ?_)
  dsimp only
  generalize hD:s2.heap.objs.size = D at nD w0 turn ⊢
  generalize hS3:({ s2 with heap:=s2.heap.push { cls:=.type "list",dict:=none,data:=.seq ([]:List Value).toArray } }:Shared) = s3
  have I3:Inv X pins σ (upd H2 D (.lst [])) s3:=by
    subst hD hS3
    exact I2.laid (t':=s2.toks) (fun b u e=>Heap.get?_push_of_some _ e) (Nat.le_refl _) ⟨Nat.zero_le _,[],_,.nil,Heap.get?_push_size _ rfl⟩
  have e3:s3.heap = s2.heap.push { cls:=.type "list",dict:=none,data:=.seq ([]:List Value).toArray }:=by rw [← hS3]
  have k23:∀ b o,s2.heap.get? b = some o→s3.heap.get? b = some o:=fun b o e=>by rw [e3]; exact Heap.get?_push_of_some _ e
  rw [← e3]
  obtain ⟨h₁,eh⟩:∃ h₁,h₁ = (s3.heap.push { cls:=.type "dict",data:=.dict #[] }).push { cls:=.type "cell",data:=.cell none }:=⟨_,rfl⟩
  rw [← eh]
  have hns₁:h₁.Ns s3.heap.objs.size (fun _=>none):=by
    rw [eh]
    exact (Heap.Ns.new s3.heap (.type "dict")).keeps fun b o e=>Heap.get?_push_of_some _ e
  have sz1:(s3.heap.push { cls:=.type "dict",data:=.dict #[] }).objs.size = s3.heap.objs.size + 1:=Heap.size_push ..
  have hc₁:h₁.IsCell (s3.heap.objs.size + 1) none:=by
    rw [eh,← sz1]
    exact ⟨_,Heap.get?_push_size _ rfl,rfl⟩
  have below:∀ b o,s3.heap.get? b = some o→b ≠ s3.heap.objs.size:=fun b o e=>Nat.ne_of_lt (Heap.lt_size e)
  have k34:∀ b o,s3.heap.get? b = some o→h₁.get? b = some o:=fun b o e=>by rw [eh]; exact Heap.get?_push_of_some _ (Heap.get?_push_of_some _ e)
  have fpl:∀ b ∈ fp,∃ o,s2.heap.get? b = some o∧∀ v,o.data ≠ .cell v:=T.obj _ _ st2
  have nfD:∀ b ∈ fp,b ≠ D:=fun b hb z=>by
    obtain ⟨o,e,_⟩:=fpl b hb
    rw [z,← hD] at e
    exact absurd (Heap.lt_size e) (Nat.lt_irrefl _)
  have cl_of:∀ y c,cl.lookup y = some c→X.env.cells.lookup y = some c:=fun y c e=>B.sub (y,c) (PySem.mem_of_lookup e)
  have old_c:∀ y c,cl.lookup y = some c→c < s3.heap.objs.size:=fun y c e=>by
    obtain ⟨v,o,eo,_⟩:=I3.cell y c (cl_of y c e)
    exact Heap.lt_size eo
  have lk:∀ y c,((x,s3.heap.objs.size + 1) :: cl).lookup y = some c→(y = x∧c = s3.heap.objs.size + 1) ∨ (y ≠ x∧cl.lookup y = some c):=fun y c e=>by
    by_cases z:y = x
    · subst z
      rw [List.lookup_cons,beq_self_eq_true] at e
      exact .inl ⟨rfl,(Option.some.inj e).symm⟩
    · rw [List.lookup_cons,beq_eq_false_iff_ne.mpr z] at e
      exact .inr ⟨z,e⟩
  have lk':∀ y c,y ≠ x→cl.lookup y = some c→((x,s3.heap.objs.size + 1) :: cl).lookup y = some c:=fun y c z e=>by
    rw [List.lookup_cons,beq_eq_false_iff_ne.mpr z]
    exact e
  have fpn:∀ b ∈ fp,b < s3.heap.objs.size:=fun b hb=>by
    obtain ⟨o,e,_⟩:=fpl b hb
    exact Heap.lt_size (k23 b o e)
  have stkf:=I3.stkFree
  have okB:(X.blkC N scope cl x s3 (upd H2 D (.lst [])) fp).Ok:=by
    refine ⟨I.ok.mod,B.kind,I.ok.glob,I.ok.blt,Nat.le_refl _,fun a b c e1 e2=>?inj,fun y hy=>?has,(fun y c z e=>?cab),(fun _=>I.ok.hd hc),I.ok.frames,.inl rfl,fun b hb=>⟨?_,fun y c e z=>?_⟩,fun b o e=>?_,Nat.le_trans I.ok.bsz I3.sz,fun b o e hb=>?_,fun b hb z=>?_,I3.stack,stkf⟩
    case inj=>
      rcases lk a c e1 with ⟨z1,ec1⟩ | ⟨_,f1⟩ <;> rcases lk b _ e2 with ⟨z2,ec⟩ | ⟨_,f2'⟩
      · rw [z1,z2]
      · have:=old_c _ _ f2'
        rw [ec1] at this
        exact absurd this (Nat.not_lt.mpr (Nat.le_succ _))
      · have:=old_c _ _ f1
        rw [ec] at this
        exact absurd this (Nat.not_lt.mpr (Nat.le_succ _))
      · exact I.ok.inj a b c (cl_of a c f1) (cl_of b c f2')
    case has=>
      by_cases z:y = x
      · subst z
        exact ⟨_,by rw [show (compEnvC scope ((y,s3.heap.objs.size + 1) :: cl) s3.heap.objs.size X.env).cells = (y,s3.heap.objs.size + 1) :: cl from rfl,List.lookup_cons,beq_self_eq_true]⟩
      · obtain ⟨c,ec⟩:=B.has y z hy
        exact ⟨c,lk' y c z ec⟩
    case cab=>
      have z:y = x:=by simpa using z
      rcases lk y c e with ⟨_,rfl⟩ | ⟨z',_⟩
      · exact Nat.le_succ _
      · exact absurd z z'
    · obtain ⟨o,e,_⟩:=fpl b hb
      exact below b o (k23 b o e)
    · rcases lk y c e with ⟨rfl,rfl⟩ | ⟨_,e⟩
      · rw [← z] at hb
        exact absurd (fpn _ hb) (Nat.not_lt.mpr (Nat.le_succ _))
      · exact (f2 b hb).2.2.2.2.1 y c (cl_of y c e) z
    · exact I3.bs b o e
    · rcases (f2 b hb).2.2.2.1 with z | z
      · exact I.ok.noex b o e z
      · exact absurd (Nat.lt_of_lt_of_le (Heap.lt_size e) (Nat.le_trans I.ok.bsz z)) (Nat.lt_irrefl _)
    · rcases List.mem_cons.mp (I3.stkSub b z) with z | z
      · exact (f2 b hb).2.1 z
      · exact (f2 b hb).2.2.1 z
  have IB:∀ tk:Nat,Inv (X.blkC N scope cl x s3 (upd H2 D (.lst [])) fp) [] (none :: ρ σ) (upd H2 D (.lst [])) { s3 with heap:=h₁,toks:=tk }:=fun tk=>by
    refine ⟨okB,rfl,I3.bare,Un.kept k34,⟨_,hns₁,fun j y v e1 e2 e3=>?_⟩,fun y c e=>?_,?_,fun y c e=>?fC,(fun p hp=>nomatch hp),I3.hok.kept k34,?_⟩
    · cases j with
      | zero=>cases e2
      | succ j=>
        obtain ⟨i,y',a1,a2,a3,a4,a5,a6⟩:=B.rho σ j v e2
        have e1':N[j + 1]? = some y:=e1
        rw [e1'] at a1
        cases a1
        obtain ⟨m,hn,hl⟩:=I3.loc
        obtain ⟨u,r,l⟩:=hl i y v a2 a3 a4
        refine ⟨u,r,.inr ⟨a6,?_⟩⟩
        have yx:y ≠ x:=fun z=>by
          have n0:=B.n0
          rw [← z] at n0
          have:=(List.getElem?_inj (List.getElem?_eq_some_iff.mp n0).1 B.nd).mp (n0.trans e1'.symm)
          omega
        obtain ⟨c,ec⟩:=B.has y yx a6
        rcases l with ⟨k,_⟩ | ⟨_,c',ec',z⟩
        · rcases a5 with q | q <;> (rw [k] at q; cases q)
        · have:=cl_of y c ec
          rw [this] at ec'
          cases ec'
          obtain ⟨o,ho,hd⟩:=z
          exact ⟨c,lk' y c yx ec,o,k34 _ _ ho,hd⟩
    case fC=>
      rcases lk y c e with ⟨rfl,rfl⟩ | ⟨_,e⟩
      · exact I3.hok.fresh (Nat.le_succ _)
      · exact I3.freeC y c (cl_of y c e)
    · rcases lk y c e with ⟨rfl,rfl⟩ | ⟨_,e⟩
      · exact ⟨none,hc₁⟩
      · obtain ⟨v,o,ho,hd⟩:=I3.cell y c (cl_of y c e)
        exact ⟨v,o,k34 _ _ ho,hd⟩
    · exact I3.hok.fresh (Nat.le_refl _)
    · show (none :: ρ σ).length = N.length
      rw [List.length_cons]
      exact B.len σ I.len
  have fin:∀ {σ':St} {H':Hp} {s':Shared},Inv (X.blkC N scope cl x s3 (upd H2 D (.lst [])) fp) [] σ' H' s'→Q (.ref D) H'→compPost (model X.prog X.w) X.A X.xe none (EP X pins σ Q) (.ref D) s3.heap.objs.size (.ok .next) s':=fun {σ' H' s'} J q=>by
    obtain ⟨m,hn,_⟩:=J.loc
    refine ⟨m,hn,fun h' hs'=>⟨.ref D,H',?_,rfl,q⟩⟩
    have old:∀ b o,s3.heap.get? b = some o→b ≠ s3.heap.objs.size:=below
    have u1:Un (frs X.stack) fp (upd H2 D (.lst [])) H' s3.heap h':=by
      refine ⟨fun b o e n hb hx=>?_,fun b o e n hb hx=>?_,J.base.free,fun b o e hx=>?_,J.base.tups,J.base.frzs,J.base.tbls⟩
      · exact (hs'.2 b (old b o e)).trans (J.base.keep b o e n hb hx)
      · obtain ⟨sl,z⟩:=J.base.slot b o e n hb hx
        exact ⟨sl,(hs'.2 b (old b o e)).trans z⟩
      · obtain ⟨o',z⟩:=J.base.there b o e hx
        exact ⟨o',(hs'.2 b (old b o e)).trans z⟩
    have hokE:HOk X.prog X.w H' h':=fun b u e=>by
      refine (J.hok b u e).stay (fun c v hc z=>(hs'.2 c fun y=>?_).trans z) (fun _ z=>z) fun _ _ z=>z
      have fr:=J.free
      have y':c = s3.heap.objs.size:=y
      rcases hc with hc | hc
      · rw [← hc,y'] at e
        exact absurd (fr.symm.trans e) (by simp)
      · rw [y'] at hc
        exact absurd (fr.symm.trans hc) (by simp)
    refine I3.call' (s':={ s' with heap:=h' }) (ch:=fp) (J.os) u1 hokE J.bare fun b hb=>?_
    obtain ⟨g0,g1,g2,g3,g4,g5⟩:=f2 b hb
    exact ⟨g3,g1,g4,g5⟩
  have stat:∀ {H':Hp},(∀ b ∈ fp,H' b = none)→∀ b ∈ fp,FpOk (X.blkC N scope cl x s3 (upd H2 D (.lst [])) fp) [] H' b:=fun hn b hb=>by
    refine ⟨hn b hb,?_,?_,.inl hb,fun y c e z=>?sc,fun p hp=>nomatch hp⟩
    case sc=>
      rcases lk y c e with ⟨rfl,rfl⟩ | ⟨_,e⟩
      · rw [← z] at hb
        exact absurd (fpn _ hb) (Nat.not_lt.mpr (Nat.le_succ _))
      · exact (f2 b hb).2.2.2.2.1 y c (cl_of y c e) z
    · obtain ⟨o,e,_⟩:=fpl b hb
      exact below b o (k23 b o e)
    · exact okB.exfs b hb
  have loop:∀ tk:Nat,codeAny (model X.prog X.w) X.A (.compLoop (.ListComp elt [⟨.Name x px,iter,ifs,0⟩] scope pos) 0 (.ref it) (.ref D) (compEnvC scope ((x,s3.heap.objs.size + 1) :: cl) s3.heap.objs.size X.env))
      (compPost (model X.prog X.w) X.A X.xe none (EP X pins σ Q) (.ref D) s3.heap.objs.size) { s3 with heap:=h₁,toks:=tk }:=fun tk=>by
    refine codeAny_compLoop_tests (fun n s'=>∃ i ys o H',Inv (X.blkC N scope cl x s3 (upd H2 D (.lst [])) fp) [] (o :: ρ σ) H' s'∧tn i s'.heap∧(∀ b ∈ fp,H' b = none)∧W i n ys H') ?_ m0
      ⟨0,[],none,_,IB tk,T.keep _ _ _ st2 fun b hb o e=>k34 _ _ (k23 _ _ e),fun b hb=>by rw [upd_ne (nfD b hb)]; exact (f2 b hb).1,w0⟩
    rintro n s4 ⟨i,ys,o,H4,I4,st4,fr4,w4⟩
    obtain ⟨hD4,hturn⟩:=turn i n ys H4 w4
    rcases hturn with ⟨stop,qn⟩ | ⟨go,step⟩
    · refine wpAny_mono (T.done (X.blkC N scope cl x s3 (upd H2 D (.lst [])) fp) rfl rfl rfl hc i [] s4 _ H4 (fun _ _=>False) I4 (stat fr4) st4 stop) (fun r s5 ⟨hr,I5⟩=>?_) fun _ _ z=>z.elim
      subst hr
      exact fin I5 qn
    · refine wpAny_mono (T.item (X.blkC N scope cl x s3 (upd H2 D (.lst [])) fp) rfl rfl rfl hc i [] s4 _ H4 (fun _ _=>False) I4 (stat fr4) st4 go) (fun r s5 ⟨u,hr,h5⟩=>?_) fun _ _ z=>z.elim
      subst hr
      have z:letOwnedTupleGo (.Name x px) (.ref it) u = pure ():=rfl
      rw [z] at h5
      show wpAny _ _ ((pure ():Sem Unit) >>= fun _=>assign (.Name x px) (compEnvC scope ((x,s3.heap.objs.size + 1) :: cl) s3.heap.objs.size X.env) u) _ _ s5
      refine wpAny_bind (wpAny_mono h5 (fun _ s5 ⟨y,H5,I5,r5,y5,st5,fr5⟩=>?_) fun _ _ z=>z.elim)
      have I5':=I5.pinned (stat fr5) (T.obj _ _ st5)
      have pg:PG (X.blkC N scope cl x s3 (upd H2 D (.lst [])) fp) (.Name x px) (gName 0):=pg_name (i:=0) B.nd B.n0 (.inr B.relx) (.inl (by show (x == x) = true; simp))
      have again:∀ {σ7:St} {H7:Hp} {s7:Shared},Inv (X.blkC N scope cl x s3 (upd H2 D (.lst [])) fp) ([] ++ pinsAt fp s5.heap) σ7 H7 s7→Inv (X.blkC N scope cl x s3 (upd H2 D (.lst [])) fp) [] σ7 H7 s7∧tn (i + 1) s7.heap∧∀ b ∈ fp,H7 b = none:=fun {σ7 H7 s7} I7=>by
        refine ⟨I7.unpinned,T.keep _ _ _ st5 fun b hb o e=>(I7.pin (b,o) (List.mem_append_right _ (List.mem_append_right _ (mem_pinsAt hb e)))).1,fun b hb=>?_⟩
        obtain ⟨o,e,d⟩:=T.obj _ _ st5 b hb
        exact (I7.pin (b,o) (List.mem_append_right _ (List.mem_append_right _ (mem_pinsAt hb e)))).2.1
      refine wpAny_mono (pg _ s5 _ H5 y u (fun σ2 H6=>σ2 = some y :: ρ σ∧H6 = H5) I5' r5 ⟨rfl,rfl⟩) (fun _ s6 ⟨σ6,H6,I6,q6⟩=>?_) fun _ _ z=>z.elim
      obtain ⟨rfl,rfl⟩:=q6
      have hstep:=step y _ y5
      have tests:∀ {tt':TT},PTs (X.blkC N scope cl x s3 (upd H2 D (.lst [])) fp) ifs tt'→∀ {R:Bool→Hp→Prop},tt' (some y :: ρ σ) H6 R→wpAny (model X.prog X.w) X.A
          (forIn ifs true fun c r=>if r = true then do let ok ← isTrue c (compEnvC scope ((x,s3.heap.objs.size + 1) :: cl) s3.heap.objs.size X.env) (eval c (compEnvC scope ((x,s3.heap.objs.size + 1) :: cl) s3.heap.objs.size X.env)); pure (ForInStep.yield ok) else pure (ForInStep.yield r))
          (fun ok s7=>∃ H7,Inv (X.blkC N scope cl x s3 (upd H2 D (.lst [])) fp) ([] ++ pinsAt fp s5.heap) (some y :: ρ σ) H7 s7∧R ok H7) (fun _ _=>False) s6:=fun {tt'} p {R} hR=>by
        cases p with
        | nil=>exact wpAny_tests_nil ⟨_,I6,hR⟩
        | one p=>exact wpAny_tests_one (p _ s6 _ _ _ I6 hR)
      refine wpAny_mono (tests (ht s3 _ fp) hstep) (fun ok s7 ⟨H7,I7,q7⟩=>?_) fun _ _ z=>z.elim
      cases ok with
      | false=>
        obtain ⟨m',hm',w7⟩:=q7
        obtain ⟨a1,a2,a3⟩:=again I7
        exact ⟨m',hm',i + 1,ys,_,H7,a1,a2,a3,w7⟩
      | true=>
        refine wpAny_mono (he s3 _ fp _ s7 _ H7 _ I7 q7) (fun ev s8 ⟨z,H8,I8,r8,hD8,hz,m',hm',w8⟩=>?_) fun _ _ z=>z.elim
        refine wpAny_mono (mt_append (X:=X.blkC N scope cl x s3 (upd H2 D (.lst [])) fp) _ s8 _ H8 (.ref D) [z] (.ref D) [ev] (fun _ H9=>H9 = upd H8 D (.lst (ys ++ [z]))) I8 rfl (.cons r8 .nil) ⟨D,ys,z,rfl,rfl,hD8,hz,rfl⟩) (fun _ s9 ⟨_,H9,I9,_,q9⟩=>?_) fun _ _ z=>z.elim
        subst q9
        obtain ⟨a1,a2,a3⟩:=again I9
        exact ⟨m',hm',i + 1,ys ++ [z],_,_,a1,a2,a3,w8⟩
  have start:=loop s3.toks
  have es:({ s3 with heap:=h₁,toks:=s3.toks }:Shared) = { s2 with heap:=h₁ }:=by rw [← hS3]
  rw [es] at start
  exact codeAny_compStart_list start (T.self _ 0 _ _ _ (T.keep _ _ _ st2 fun b hb o e=>k34 _ _ (k23 _ _ e)) start)
end
end L2
namespace L2
open PySem PySem.Spec PyProof.Rows
def LikeN (K:PySem.W.Frag) (H:Hp):Nat→V→V→Prop
  | 0,v,u=>v = u∧flatV v = true
  | n + 1,v,u=>(v = u∧flatV v = true) ∨ ∃ a b xs ys,v = .ref a∧u = .ref b∧((SqL K H a xs∧SqL K H b ys) ∨ (SqT K H a xs∧SqT K H b ys))∧xs.length = ys.length∧∀ (j:Nat) (x y:V),xs[j]? = some x→ys[j]? = some y→LikeN K H n x y
theorem eqV_self {v:V} (h:flatV v = true):eqV v v = true:=by
  cases v with
  | non=>rfl
  | bl b=>show (b == b) = true; simp
  | int i=>show (i == i) = true; simp
  | str x=>show (x == x) = true; simp
  | _=>cases h
theorem all_range (n:Nat):(List.range n).all (fun _=>true) = true:=by simp
section
variable {X:Cx} {pins:List (Addr × Obj)} {σ:St} {H:Hp} {s:Shared}
theorem like_items (I:Inv X pins σ H s):∀ (n:Nat) (A:Around) (v u:V) (a b:Value),LikeN X.K H n v u→RelV v a→RelV u b→A.units + n < cLine→SeqAt.EqAt A s a b true
  | 0,A,v,u,a,b,h,ra,rb,hu=>by
    obtain ⟨rfl,hf⟩:=h
    have z:=eqAt_V (A:=A) (s:=s) ra rb hf hf
    rw [eqV_self hf] at z
    exact z
  | n + 1,A,v,u,a,b,h,ra,rb,hu=>by
    rcases h with ⟨rfl,hf⟩ | ⟨p,q,xs,ys,rfl,rfl,hs,hl,hi⟩
    · have z:=eqAt_V (A:=A) (s:=s) ra rb hf hf
      rw [eqV_self hf] at z
      exact z
    · cases ra
      cases rb
      by_cases pq:p = q
      · subst pq
        exact SeqAt.EqAt.same _
      rcases hs with ⟨h1,h2⟩ | ⟨h1,h2⟩
      · obtain ⟨us,r1,t1,_⟩:=I.list h1
        obtain ⟨vs,r2,t2,_⟩:=I.list h2
        have l1:=r1.length
        have l2:=r2.length
        have z:=SeqAt.RcAt.lists (A:=A) (e:=fun _=>true) t1.isList t2.isList (by simp; omega) (by omega) (fun j z1 z2=>by
          have z1':j < us.length:=by simpa using z1
          have z2':j < vs.length:=by simpa using z2
          obtain ⟨x,ex⟩:∃ x,xs[j]? = some x:=⟨xs[j],by simp [show j < xs.length by omega]⟩
          obtain ⟨y,ey⟩:∃ y,ys[j]? = some y:=⟨ys[j],by simp [show j < ys.length by omega]⟩
          obtain ⟨x',ex',rx⟩:=r1.get ex
          obtain ⟨y',ey',ry⟩:=r2.get ey
          have e1:us.toArray[j] = x':=by simpa using (List.getElem?_eq_some_iff.mp ex').2
          have e2:vs.toArray[j] = y':=by simpa using (List.getElem?_eq_some_iff.mp ey').2
          rw [e1,e2]
          exact like_items I n A.in1 x y x' y' (hi j x y ex ey) rx ry (by rw [Around.in1_units]; omega))
        rw [all_range] at z
        exact SeqAt.EqAt.of_refs pq z
      · obtain ⟨us,r1,t1,_⟩:=I.tuple h1
        obtain ⟨vs,r2,t2,_⟩:=I.tuple h2
        have l1:=r1.length
        have l2:=r2.length
        have z:=SeqAt.RcAt.tuples (A:=A) (e:=fun _=>true) t1 t2 (by omega) (fun j z1 z2=>by
          have z1':j < us.length:=by simpa using z1
          have z2':j < vs.length:=by simpa using z2
          obtain ⟨x,ex⟩:∃ x,xs[j]? = some x:=⟨xs[j],by simp [show j < xs.length by omega]⟩
          obtain ⟨y,ey⟩:∃ y,ys[j]? = some y:=⟨ys[j],by simp [show j < ys.length by omega]⟩
          obtain ⟨x',ex',rx⟩:=r1.get ex
          obtain ⟨y',ey',ry⟩:=r2.get ey
          have e1:us.toArray[j] = x':=by simpa using (List.getElem?_eq_some_iff.mp ex').2
          have e2:vs.toArray[j] = y':=by simpa using (List.getElem?_eq_some_iff.mp ey').2
          rw [e1,e2]
          exact like_items I n A.in1 x y x' y' (hi j x y ex ey) rx ry (by rw [Around.in1_units]; omega))
        have e3:(us.toArray.size == vs.toArray.size) = true:=by simp; omega
        rw [all_range,e3] at z
        exact SeqAt.EqAt.of_refs pq z
end
section
variable {X:Cx}
def rLike (K:PySem.W.Frag) (n:Nat) (r:Bool):R2:=fun x y H Q=>∃ a b xs ys,x = .ref a∧y = .ref b∧SqL K H a xs∧SqL K H b ys∧xs.length = ys.length∧(∀ (j:Nat) (x y:V),xs[j]? = some x→ys[j]? = some y→LikeN K H n x y)∧Q (.bl r) H
theorem op_eqL {n:Nat} (hu:X.A.units + 64 < cLine) (hn:n < 60:=by decide):OpR X (compareOp .Eq) (rLike X.K n true):=by
  intro pins s σ H x y v u Q I rx ry h
  obtain ⟨a,b,xs,ys,rfl,rfl,h1,h2,hl,hi,q⟩:=h
  cases rx
  cases ry
  obtain ⟨us,r1,t1,_⟩:=I.list h1
  obtain ⟨vs,r2,t2,_⟩:=I.list h2
  have l1:=r1.length
  have l2:=r2.length
  refine SeqAt.eq_listAt (e:=fun _=>true) t1.isList t2.isList (by simp; omega) (by omega) (fun j z1 z2=>?_) ?_
  · have z1':j < us.length:=by simpa using z1
    have z2':j < vs.length:=by simpa using z2
    obtain ⟨x,ex⟩:∃ x,xs[j]? = some x:=⟨xs[j],by simp [show j < xs.length by omega]⟩
    obtain ⟨y,ey⟩:∃ y,ys[j]? = some y:=⟨ys[j],by simp [show j < ys.length by omega]⟩
    obtain ⟨x',ex',rx⟩:=r1.get ex
    obtain ⟨y',ey',ry⟩:=r2.get ey
    have e1:us.toArray[j] = x':=by simpa using (List.getElem?_eq_some_iff.mp ex').2
    have e2:vs.toArray[j] = y':=by simpa using (List.getElem?_eq_some_iff.mp ey').2
    rw [e1,e2]
    exact like_items I n X.A.in1 x y x' y' (hi j x y ex ey) rx ry (by rw [Around.in1_units]; omega)
  · rw [all_range]
    exact ⟨.bl true,H,I,rfl,q⟩
theorem op_neL {n:Nat} (hu:X.A.units + 64 < cLine) (hn:n < 60:=by decide):OpR X (compareOp .NotEq) (rLike X.K n false):=by
  intro pins s σ H x y v u Q I rx ry h
  obtain ⟨a,b,xs,ys,rfl,rfl,h1,h2,hl,hi,q⟩:=h
  cases rx
  cases ry
  obtain ⟨us,r1,t1,_⟩:=I.list h1
  obtain ⟨vs,r2,t2,_⟩:=I.list h2
  have l1:=r1.length
  have l2:=r2.length
  refine SeqAt.RcNeAt.lists (e:=fun _=>true) t1.isList t2.isList (by simp; omega) (by omega) (fun j z1 z2=>?_) _ _ _ _ ?_
  · have z1':j < us.length:=by simpa using z1
    have z2':j < vs.length:=by simpa using z2
    obtain ⟨x,ex⟩:∃ x,xs[j]? = some x:=⟨xs[j],by simp [show j < xs.length by omega]⟩
    obtain ⟨y,ey⟩:∃ y,ys[j]? = some y:=⟨ys[j],by simp [show j < ys.length by omega]⟩
    obtain ⟨x',ex',rx⟩:=r1.get ex
    obtain ⟨y',ey',ry⟩:=r2.get ey
    have e1:us.toArray[j] = x':=by simpa using (List.getElem?_eq_some_iff.mp ex').2
    have e2:vs.toArray[j] = y':=by simpa using (List.getElem?_eq_some_iff.mp ey').2
    rw [e1,e2]
    exact like_items I n X.A.in1 x y x' y' (hi j x y ex ey) rx ry (by rw [Around.in1_units]; omega)
  · rw [all_range]
    exact ⟨.bl false,H,I,rfl,q⟩
end
end L2
namespace L2
open PySem PySem.Spec PyProof.Rows
section
variable {X:Cx} {N:List Str} {scope:Scope} {cl:List (Str × Addr)} {x:Str} {px pos:Pos} {iter elt:Expr} {ifs:List Expr} {wi:TI} {ρ:St→St} {tt:TT} {te:TE}
theorem ps_compC {y:Str} {py spos:Pos} {i0:Nat} (B:BlkC X N scope cl x ρ) (hc:X.calm = true) (hN:X.N.Nodup) (hi0:X.N[i0]? = some y) (hy:Loc X.env.scope y) (hi:PI X (.Name x px) iter wi) (ht:∀ s₃ H₃ fp,PTs (X.blkC N scope cl x s₃ H₃ fp) ifs tt) (he:∀ s₃ H₃ fp,PE (X.blkC N scope cl x s₃ H₃ fp) elt te)
    (hsw:swapsWith (.ListComp elt [⟨.Name x px,iter,ifs,0⟩] scope pos) (some (.Name y py)) spos.line X.env = pure true:=by rfl) (hf:X.fn y = true ∨ X.env.scope.names.lookup y = some .local:=by first | exact .inl rfl | exact .inr rfl | assumption)
    (hs:∀ x,foldedSetIterable iter X.env x = pure x:=by intro _; rfl):PS X (.Assign [.Name y py] (.ListComp elt [⟨.Name x px,iter,ifs,0⟩] scope pos) spos) (tAsg (tComp wi ρ tt te) (gName i0)):=by
  intro pins s σ H D0 I h
  have h:tComp wi ρ tt te σ H (fun v H1=>D0.nx (σ.set i0 (some v)) H1):=h
  rw [exec_Assign_Name_used _ _ _ _ hsw]
  refine wpAny_bind (wpAny_standAt (wpAny_bind ?_))
  show wpAny _ X.A (do let _ ← comprehension (.ListComp elt [⟨.Name x px,iter,ifs,0⟩] scope pos) scope X.env _ (newList []) false (eval iter X.env) (some (assign (.Name y py) X.env))) _ _ s
  refine wpAny_bind (wpAny_mono (Q:=fun _ s'=>SP X pins D0 .next s') ?_ (fun _ s' hq=>wpAny_pure (wpAny_pure hq)) fun _ _ e=>e)
  refine wpAny_comprehension_free (use:=some (assign (.Name y py) X.env)) rfl hs B.clos B.kind B.names (thn (hi pins s σ H _ I h) fun v s1 h1=>thn h1 fun itv s2 h2=>?_)
  obtain ⟨it,fp,tn,J,H2,rfl,I2,T,st2,f2,q2⟩:=h2
  have nD:H2 s2.heap.objs.size = none:=I2.hok.fresh (Nat.le_refl _)
  obtain ⟨W,⟨m0,w0⟩,turn⟩:=q2 _ nD
  refine wpAny_newObj_type (newEnv_cell B.cells1 B.push1 ?_)
  dsimp only
  generalize hD:s2.heap.objs.size = D at nD w0 turn ⊢
  generalize hS3:({ s2 with heap:=s2.heap.push { cls:=.type "list",dict:=none,data:=.seq ([]:List Value).toArray } }:Shared) = s3
  have I3:Inv X pins σ (upd H2 D (.lst [])) s3:=by
    subst hD hS3
    exact I2.laid (t':=s2.toks) (fun b u e=>Heap.get?_push_of_some _ e) (Nat.le_refl _) ⟨Nat.zero_le _,[],_,.nil,Heap.get?_push_size _ rfl⟩
  have e3:s3.heap = s2.heap.push { cls:=.type "list",dict:=none,data:=.seq ([]:List Value).toArray }:=by rw [← hS3]
  have k23:∀ b o,s2.heap.get? b = some o→s3.heap.get? b = some o:=fun b o e=>by rw [e3]; exact Heap.get?_push_of_some _ e
  rw [← e3]
  obtain ⟨h₁,eh⟩:∃ h₁,h₁ = (s3.heap.push { cls:=.type "dict",data:=.dict #[] }).push { cls:=.type "cell",data:=.cell none }:=⟨_,rfl⟩
  rw [← eh]
  have hns₁:h₁.Ns s3.heap.objs.size (fun _=>none):=by
    rw [eh]
    exact (Heap.Ns.new s3.heap (.type "dict")).keeps fun b o e=>Heap.get?_push_of_some _ e
  have sz1:(s3.heap.push { cls:=.type "dict",data:=.dict #[] }).objs.size = s3.heap.objs.size + 1:=Heap.size_push ..
  have hc₁:h₁.IsCell (s3.heap.objs.size + 1) none:=by
    rw [eh,← sz1]
    exact ⟨_,Heap.get?_push_size _ rfl,rfl⟩
  have below:∀ b o,s3.heap.get? b = some o→b ≠ s3.heap.objs.size:=fun b o e=>Nat.ne_of_lt (Heap.lt_size e)
  have k34:∀ b o,s3.heap.get? b = some o→h₁.get? b = some o:=fun b o e=>by rw [eh]; exact Heap.get?_push_of_some _ (Heap.get?_push_of_some _ e)
  have fpl:∀ b ∈ fp,∃ o,s2.heap.get? b = some o∧∀ v,o.data ≠ .cell v:=T.obj _ _ st2
  have nfD:∀ b ∈ fp,b ≠ D:=fun b hb z=>by
    obtain ⟨o,e,_⟩:=fpl b hb
    rw [z,← hD] at e
    exact absurd (Heap.lt_size e) (Nat.lt_irrefl _)
  have cl_of:∀ y c,cl.lookup y = some c→X.env.cells.lookup y = some c:=fun y c e=>B.sub (y,c) (PySem.mem_of_lookup e)
  have old_c:∀ y c,cl.lookup y = some c→c < s3.heap.objs.size:=fun y c e=>by
    obtain ⟨v,o,eo,_⟩:=I3.cell y c (cl_of y c e)
    exact Heap.lt_size eo
  have lk:∀ y c,((x,s3.heap.objs.size + 1) :: cl).lookup y = some c→(y = x∧c = s3.heap.objs.size + 1) ∨ (y ≠ x∧cl.lookup y = some c):=fun y c e=>by
    by_cases z:y = x
    · subst z
      rw [List.lookup_cons,beq_self_eq_true] at e
      exact .inl ⟨rfl,(Option.some.inj e).symm⟩
    · rw [List.lookup_cons,beq_eq_false_iff_ne.mpr z] at e
      exact .inr ⟨z,e⟩
  have lk':∀ y c,y ≠ x→cl.lookup y = some c→((x,s3.heap.objs.size + 1) :: cl).lookup y = some c:=fun y c z e=>by
    rw [List.lookup_cons,beq_eq_false_iff_ne.mpr z]
    exact e
  have fpn:∀ b ∈ fp,b < s3.heap.objs.size:=fun b hb=>by
    obtain ⟨o,e,_⟩:=fpl b hb
    exact Heap.lt_size (k23 b o e)
  have stkf:=I3.stkFree
  have okB:(X.blkC N scope cl x s3 (upd H2 D (.lst [])) fp).Ok:=by
    refine ⟨I.ok.mod,B.kind,I.ok.glob,I.ok.blt,Nat.le_refl _,fun a b c e1 e2=>?inj,fun y hy=>?has,(fun y c z e=>?cab),(fun _=>I.ok.hd hc),I.ok.frames,.inl rfl,fun b hb=>⟨?_,fun y c e z=>?_⟩,fun b o e=>?_,Nat.le_trans I.ok.bsz I3.sz,fun b o e hb=>?_,fun b hb z=>?_,I3.stack,stkf⟩
    case inj=>
      rcases lk a c e1 with ⟨z1,ec1⟩ | ⟨_,f1⟩ <;> rcases lk b _ e2 with ⟨z2,ec⟩ | ⟨_,f2'⟩
      · rw [z1,z2]
      · have:=old_c _ _ f2'
        rw [ec1] at this
        exact absurd this (Nat.not_lt.mpr (Nat.le_succ _))
      · have:=old_c _ _ f1
        rw [ec] at this
        exact absurd this (Nat.not_lt.mpr (Nat.le_succ _))
      · exact I.ok.inj a b c (cl_of a c f1) (cl_of b c f2')
    case has=>
      by_cases z:y = x
      · subst z
        exact ⟨_,by rw [show (compEnvC scope ((y,s3.heap.objs.size + 1) :: cl) s3.heap.objs.size X.env).cells = (y,s3.heap.objs.size + 1) :: cl from rfl,List.lookup_cons,beq_self_eq_true]⟩
      · obtain ⟨c,ec⟩:=B.has y z hy
        exact ⟨c,lk' y c z ec⟩
    case cab=>
      have z:y = x:=by simpa using z
      rcases lk y c e with ⟨_,rfl⟩ | ⟨z',_⟩
      · exact Nat.le_succ _
      · exact absurd z z'
    · obtain ⟨o,e,_⟩:=fpl b hb
      exact below b o (k23 b o e)
    · rcases lk y c e with ⟨rfl,rfl⟩ | ⟨_,e⟩
      · rw [← z] at hb
        exact absurd (fpn _ hb) (Nat.not_lt.mpr (Nat.le_succ _))
      · exact (f2 b hb).2.2.2.2.1 y c (cl_of y c e) z
    · exact I3.bs b o e
    · rcases (f2 b hb).2.2.2.1 with z | z
      · exact I.ok.noex b o e z
      · exact absurd (Nat.lt_of_lt_of_le (Heap.lt_size e) (Nat.le_trans I.ok.bsz z)) (Nat.lt_irrefl _)
    · rcases List.mem_cons.mp (I3.stkSub b z) with z | z
      · exact (f2 b hb).2.1 z
      · exact (f2 b hb).2.2.1 z
  have IB:∀ tk:Nat,Inv (X.blkC N scope cl x s3 (upd H2 D (.lst [])) fp) [] (none :: ρ σ) (upd H2 D (.lst [])) { s3 with heap:=h₁,toks:=tk }:=fun tk=>by
    refine ⟨okB,rfl,I3.bare,Un.kept k34,⟨_,hns₁,fun j y v e1 e2 e3=>?_⟩,fun y c e=>?_,?_,fun y c e=>?fC,(fun p hp=>nomatch hp),I3.hok.kept k34,?_⟩
    · cases j with
      | zero=>cases e2
      | succ j=>
        obtain ⟨i,y',a1,a2,a3,a4,a5,a6⟩:=B.rho σ j v e2
        have e1':N[j + 1]? = some y:=e1
        rw [e1'] at a1
        cases a1
        obtain ⟨m,hn,hl⟩:=I3.loc
        obtain ⟨u,r,l⟩:=hl i y v a2 a3 a4
        refine ⟨u,r,.inr ⟨a6,?_⟩⟩
        have yx:y ≠ x:=fun z=>by
          have n0:=B.n0
          rw [← z] at n0
          have:=(List.getElem?_inj (List.getElem?_eq_some_iff.mp n0).1 B.nd).mp (n0.trans e1'.symm)
          omega
        obtain ⟨c,ec⟩:=B.has y yx a6
        rcases l with ⟨k,_⟩ | ⟨_,c',ec',z⟩
        · rcases a5 with q | q <;> (rw [k] at q; cases q)
        · have:=cl_of y c ec
          rw [this] at ec'
          cases ec'
          obtain ⟨o,ho,hd⟩:=z
          exact ⟨c,lk' y c yx ec,o,k34 _ _ ho,hd⟩
    case fC=>
      rcases lk y c e with ⟨rfl,rfl⟩ | ⟨_,e⟩
      · exact I3.hok.fresh (Nat.le_succ _)
      · exact I3.freeC y c (cl_of y c e)
    · rcases lk y c e with ⟨rfl,rfl⟩ | ⟨_,e⟩
      · exact ⟨none,hc₁⟩
      · obtain ⟨v,o,ho,hd⟩:=I3.cell y c (cl_of y c e)
        exact ⟨v,o,k34 _ _ ho,hd⟩
    · exact I3.hok.fresh (Nat.le_refl _)
    · show (none :: ρ σ).length = N.length
      rw [List.length_cons]
      exact B.len σ I.len
  have below3:∀ b o,s3.heap.get? b = some o→b ≠ s3.heap.objs.size:=below
  have fin:∀ {σ':St} {H':Hp} {s':Shared},Inv (X.blkC N scope cl x s3 (upd H2 D (.lst [])) fp) [] σ' H' s'→D0.nx (σ.set i0 (some (.ref D))) H'→compPost (model X.prog X.w) X.A X.xe (some (assign (.Name y py) X.env)) (fun _ s'=>SP X pins D0 .next s') (.ref D) s3.heap.objs.size (.ok .next) s':=fun {σ' H' s'} J q=>by
    obtain ⟨m,hn,_⟩:=J.loc
    have hn:s'.heap.Ns s3.heap.objs.size m:=hn
    have JC:H' s3.heap.objs.size = none:=J.free
    have u1:Un (frs X.stack) fp (upd H2 D (.lst [])) H' s3.heap s'.heap:=by
      refine ⟨fun b o e n hb hx=>J.base.keep b o e n hb hx,fun b o e n hb hx=>J.base.slot b o e n hb hx,J.base.free,fun b o e hx=>J.base.there b o e hx,J.base.tups,J.base.frzs,J.base.tbls⟩
    have IX:Inv X pins σ H' s':=I3.call' (ch:=fp) (J.os) u1 J.hok J.bare fun b hb=>by
      obtain ⟨g0,g1,g2,g3,g4,g5⟩:=f2 b hb
      exact ⟨g3,g1,g4,g5⟩
    have nl:X.env.locals ≠ s3.heap.objs.size:=by
      obtain ⟨m3,⟨o3,_,_,e3,_⟩,_⟩:=I3.loc
      exact below3 _ _ e3
    have nc:∀ z c,X.env.cells.lookup z = some c→c ≠ s3.heap.objs.size:=fun z c e=>by
      obtain ⟨v3,o3,e3,_⟩:=I3.cell z c e
      exact below3 _ _ e3
    refine wpAny_assign_Name (store_ok2 (v:=.ref D) IX hN hi0 hy rfl (fun s'' I'' hsb=>?_) hf)
    obtain ⟨a,hsb,ha⟩:=hsb
    have na:s3.heap.objs.size ≠ a:=by
      rcases ha with rfl | e
      · exact fun z=>nl z.symm
      · exact fun z=>nc _ _ e z.symm
    refine ⟨m,hn.sameBut hsb na,fun h' hs'=>⟨σ.set i0 (some (.ref D)),H',?_,q⟩⟩
    have u2:Un (frs X.stack) [s3.heap.objs.size] H' H' s''.heap h':=by
      refine ⟨fun b o e n hb hx=>(hs'.2 b (by simpa using hx)).trans e,fun b o e n hb hx=>⟨o.slots,(hs'.2 b (by simpa using hx)).trans e⟩,fun b o e n hx=>n,fun b o e hx=>⟨o,(hs'.2 b (by simpa using hx)).trans e⟩,fun b xs z=>z,fun b o u z=>z,fun b ps z=>⟨#[],by simpa using z⟩⟩
    have hokE:HOk X.prog X.w H' h':=fun b u e=>by
      refine (I''.hok b u e).stay (fun c v hc z=>(hs'.2 c fun y=>?_).trans z) (fun _ z=>z) fun _ _ z=>z
      have y':c = s3.heap.objs.size:=y
      rcases hc with hc | hc
      · rw [← hc,y',JC] at e
        cases e
      · rw [y',JC] at hc
        cases hc
    refine I''.call' (s':={ s'' with heap:=h' }) (ch:=[s3.heap.objs.size]) rfl u2 hokE I''.bare fun b hb=>?_
    have eb:b = s3.heap.objs.size:=by simpa using hb
    subst eb
    refine ⟨.inr I3.sz,fun z=>nl z.symm,fun z c e=>nc z c e,fun p hp=>?_⟩
    exact below3 _ _ (I3.pin p hp).1
  have stat:∀ {H':Hp},(∀ b ∈ fp,H' b = none)→∀ b ∈ fp,FpOk (X.blkC N scope cl x s3 (upd H2 D (.lst [])) fp) [] H' b:=fun hn b hb=>by
    refine ⟨hn b hb,?_,?_,.inl hb,fun y c e z=>?sc,fun p hp=>nomatch hp⟩
    case sc=>
      rcases lk y c e with ⟨rfl,rfl⟩ | ⟨_,e⟩
      · rw [← z] at hb
        exact absurd (fpn _ hb) (Nat.not_lt.mpr (Nat.le_succ _))
      · exact (f2 b hb).2.2.2.2.1 y c (cl_of y c e) z
    · obtain ⟨o,e,_⟩:=fpl b hb
      exact below b o (k23 b o e)
    · exact okB.exfs b hb
  have loop:∀ tk:Nat,codeAny (model X.prog X.w) X.A (.compLoop (.ListComp elt [⟨.Name x px,iter,ifs,0⟩] scope pos) 0 (.ref it) (.ref D) (compEnvC scope ((x,s3.heap.objs.size + 1) :: cl) s3.heap.objs.size X.env))
      (compPost (model X.prog X.w) X.A X.xe (some (assign (.Name y py) X.env)) (fun _ s'=>SP X pins D0 .next s') (.ref D) s3.heap.objs.size) { s3 with heap:=h₁,toks:=tk }:=fun tk=>by
    refine codeAny_compLoop_tests (fun n s'=>∃ i ys o H',Inv (X.blkC N scope cl x s3 (upd H2 D (.lst [])) fp) [] (o :: ρ σ) H' s'∧tn i s'.heap∧(∀ b ∈ fp,H' b = none)∧W i n ys H') ?_ m0
      ⟨0,[],none,_,IB tk,T.keep _ _ _ st2 fun b hb o e=>k34 _ _ (k23 _ _ e),fun b hb=>by rw [upd_ne (nfD b hb)]; exact (f2 b hb).1,w0⟩
    rintro n s4 ⟨i,ys,o,H4,I4,st4,fr4,w4⟩
    obtain ⟨hD4,hturn⟩:=turn i n ys H4 w4
    rcases hturn with ⟨stop,qn⟩ | ⟨go,step⟩
    · refine wpAny_mono (T.done (X.blkC N scope cl x s3 (upd H2 D (.lst [])) fp) rfl rfl rfl hc i [] s4 _ H4 (fun _ _=>False) I4 (stat fr4) st4 stop) (fun r s5 ⟨hr,I5⟩=>?_) fun _ _ z=>z.elim
      subst hr
      exact fin I5 qn
    · refine wpAny_mono (T.item (X.blkC N scope cl x s3 (upd H2 D (.lst [])) fp) rfl rfl rfl hc i [] s4 _ H4 (fun _ _=>False) I4 (stat fr4) st4 go) (fun r s5 ⟨u,hr,h5⟩=>?_) fun _ _ z=>z.elim
      subst hr
      have z:letOwnedTupleGo (.Name x px) (.ref it) u = pure ():=rfl
      rw [z] at h5
      show wpAny _ _ ((pure ():Sem Unit) >>= fun _=>assign (.Name x px) (compEnvC scope ((x,s3.heap.objs.size + 1) :: cl) s3.heap.objs.size X.env) u) _ _ s5
      refine wpAny_bind (wpAny_mono h5 (fun _ s5 ⟨y,H5,I5,r5,y5,st5,fr5⟩=>?_) fun _ _ z=>z.elim)
      have I5':=I5.pinned (stat fr5) (T.obj _ _ st5)
      have pg:PG (X.blkC N scope cl x s3 (upd H2 D (.lst [])) fp) (.Name x px) (gName 0):=pg_name (i:=0) B.nd B.n0 (.inr B.relx) (.inl (by show (x == x) = true; simp))
      have again:∀ {σ7:St} {H7:Hp} {s7:Shared},Inv (X.blkC N scope cl x s3 (upd H2 D (.lst [])) fp) ([] ++ pinsAt fp s5.heap) σ7 H7 s7→Inv (X.blkC N scope cl x s3 (upd H2 D (.lst [])) fp) [] σ7 H7 s7∧tn (i + 1) s7.heap∧∀ b ∈ fp,H7 b = none:=fun {σ7 H7 s7} I7=>by
        refine ⟨I7.unpinned,T.keep _ _ _ st5 fun b hb o e=>(I7.pin (b,o) (List.mem_append_right _ (List.mem_append_right _ (mem_pinsAt hb e)))).1,fun b hb=>?_⟩
        obtain ⟨o,e,d⟩:=T.obj _ _ st5 b hb
        exact (I7.pin (b,o) (List.mem_append_right _ (List.mem_append_right _ (mem_pinsAt hb e)))).2.1
      refine wpAny_mono (pg _ s5 _ H5 y u (fun σ2 H6=>σ2 = some y :: ρ σ∧H6 = H5) I5' r5 ⟨rfl,rfl⟩) (fun _ s6 ⟨σ6,H6,I6,q6⟩=>?_) fun _ _ z=>z.elim
      obtain ⟨rfl,rfl⟩:=q6
      have hstep:=step y _ y5
      have tests:∀ {tt':TT},PTs (X.blkC N scope cl x s3 (upd H2 D (.lst [])) fp) ifs tt'→∀ {R:Bool→Hp→Prop},tt' (some y :: ρ σ) H6 R→wpAny (model X.prog X.w) X.A
          (forIn ifs true fun c r=>if r = true then do let ok ← isTrue c (compEnvC scope ((x,s3.heap.objs.size + 1) :: cl) s3.heap.objs.size X.env) (eval c (compEnvC scope ((x,s3.heap.objs.size + 1) :: cl) s3.heap.objs.size X.env)); pure (ForInStep.yield ok) else pure (ForInStep.yield r))
          (fun ok s7=>∃ H7,Inv (X.blkC N scope cl x s3 (upd H2 D (.lst [])) fp) ([] ++ pinsAt fp s5.heap) (some y :: ρ σ) H7 s7∧R ok H7) (fun _ _=>False) s6:=fun {tt'} p {R} hR=>by
        cases p with
        | nil=>exact wpAny_tests_nil ⟨_,I6,hR⟩
        | one p=>exact wpAny_tests_one (p _ s6 _ _ _ I6 hR)
      refine wpAny_mono (tests (ht s3 _ fp) hstep) (fun ok s7 ⟨H7,I7,q7⟩=>?_) fun _ _ z=>z.elim
      cases ok with
      | false=>
        obtain ⟨m',hm',w7⟩:=q7
        obtain ⟨a1,a2,a3⟩:=again I7
        exact ⟨m',hm',i + 1,ys,_,H7,a1,a2,a3,w7⟩
      | true=>
        refine wpAny_mono (he s3 _ fp _ s7 _ H7 _ I7 q7) (fun ev s8 ⟨z,H8,I8,r8,hD8,hz,m',hm',w8⟩=>?_) fun _ _ z=>z.elim
        refine wpAny_mono (mt_append (X:=X.blkC N scope cl x s3 (upd H2 D (.lst [])) fp) _ s8 _ H8 (.ref D) [z] (.ref D) [ev] (fun _ H9=>H9 = upd H8 D (.lst (ys ++ [z]))) I8 rfl (.cons r8 .nil) ⟨D,ys,z,rfl,rfl,hD8,hz,rfl⟩) (fun _ s9 ⟨_,H9,I9,_,q9⟩=>?_) fun _ _ z=>z.elim
        subst q9
        obtain ⟨a1,a2,a3⟩:=again I9
        exact ⟨m',hm',i + 1,ys ++ [z],_,_,a1,a2,a3,w8⟩
  have start:=loop s3.toks
  have es:({ s3 with heap:=h₁,toks:=s3.toks }:Shared) = { s2 with heap:=h₁ }:=by rw [← hS3]
  rw [es] at start
  exact codeAny_compStart_list start (T.self _ 0 _ _ _ (T.keep _ _ _ st2 fun b hb o e=>k34 _ _ (k23 _ _ e)) start)
end
end L2
namespace L2
open PySem PySem.Spec PyProof.Rows
theorem comp_ofN {wi:TI} {ρ:St→St} {te:TE} {σ:St} {H:Hp} {Q:VK} {xs:List V} (hwi:∀ R:It→Hp→Prop,(∀ J H1,Same H H1→JSeq J xs H1→R J H1)→wi σ H R) (hn:xs.length < sizeLine)
    (P:Addr→Nat→V→Hp→Prop) (mono:∀ D i y H H' ys,P D i y H→H D = some (.lst ys)→(∀ b o,b ≠ D→H b = some o→H' b = some o)→P D i y H')
    (step:∀ D i x,xs[i]? = some x→∀ (Hc:Hp) (R:VK),Same H Hc→(∃ ys,Hc D = some (.lst ys))→(∀ y H3,Same Hc H3→P D i y H3→R y H3)→te (some x :: ρ σ) Hc R)
    (fin:∀ D ys Hc,H D = none→Same H Hc→ys.length = xs.length→(∀ (i:Nat) (y:V),ys[i]? = some y→P D i y Hc)→Hc D = some (.lst ys)→Q (.ref D) Hc):tComp wi ρ (fun _ H Q=>Q true H) te σ H Q:=by
  refine hwi _ fun J H1 s1 js=>?_
  intro D nD
  have hD:H D = none:=by
    cases e:H D with
    | none=>rfl
    | some o=>rw [s1 _ _ e] at nD; cases nD
  exact comp_seq (ρσ:=ρ σ) (te:=te) (Q:=Q) js nD hn (P D) (mono D) (fun i x hx Hc R sc=>step D i x hx Hc R (s1.trans sc)) (fun ys Hc sc=>fin D ys Hc hD (s1.trans sc))
end L2
namespace L2
open PySem PySem.Spec PyProof.Rows
section
variable {X:Cx} {K:PySem.W.Frag}
theorem ix_listK (hK:X.K = K:=by rfl):IxR X (rIxL K):=by
  subst hK
  exact ix_list
def lenR (K:PySem.W.Frag):List V→Hp→VK→Prop:=fun xs H Q=>∃ p ys,xs = [.ref p]∧(SqL K H p ys ∨ SqT K H p ys)∧Q (.int (ys.length:Int)) H
theorem call_len_seqK (hK:X.K = K:=by rfl):CallR X (.builtin "len") (lenR K):=by
  subst hK
  exact call_len_seq
theorem pi_listK {tg l:Expr} {tl:TE} (hl:PE X l tl) (hK:X.K = K:=by rfl):PI X tg l (iList K tl):=by
  subst hK
  exact pi_list hl
end
end L2
namespace My
open PySem L2
theorem cb_of {r:List V→Hp→VK→Prop} {te:TE} {σ:St} {H:Hp} {Q:VK} (h:te σ H fun x H1=>r [x] H1 Q):tCB r (tCons te tNil) σ H Q:=h
theorem ret_of {te:TE} {D:Ends} {σ:St} {H:Hp} (h:te σ H D.rt):tRet te D σ H:=h
theorem IsN.far {H H':Hp} {q:Int} {v:V} {t b:Int} {D:Addr} {ys:List V} (h:IsN H q v t b) (eD:H D = some (.lst ys)) (k:∀ b o,b ≠ D→H b = some o→H' b = some o):IsN H' q v t b:=by
  cases h with
  | frac e l hb h=>
    refine .frac (k _ _ (fun z=>?_) e) l hb h
    rw [z,eD] at e
    cases e
  | rem q2 h0 h1 g h=>exact .rem q2 h0 h1 g h
theorem ifs_of {c:TT} {t u:TS} {D:Ends} {σ:St} {H:Hp} (h:c σ H fun b H1=>if b = true then t D σ H1 else u D σ H1):tIfS c t u D σ H:=h
theorem bls_of {vs:List V} {b:Bool} (h:∀ (i:Nat) (v:V),vs[i]? = some v→v = .bl b):vs = (List.replicate vs.length b).map V.bl:=by
  refine List.ext_getElem? fun i=>?_
  rw [List.getElem?_map]
  by_cases hi:i < vs.length
  · rw [show vs[i]? = some vs[i] by simp [hi],h i vs[i] (by simp [hi])]
    simp [hi]
  · rw [List.getElem?_eq_none (by omega),List.getElem?_eq_none (by simp; omega)]
    rfl
theorem all_yes (n:Nat):(List.replicate n true).all id = true:=by simp
theorem op_of {r:R2} {ta tb:TE} {σ:St} {H:Hp} {Q:VK} (h:ta σ H fun x H1=>tb σ H1 fun y H2=>r x y H2 Q):tOp r ta tb σ H Q:=h
theorem isN_thingM {H:Hp} {q:Int} {v:V} {t b:Int} (h:IsN H q v t b) (bb:Mid b):Thing H v:=by
  cases h with
  | frac e l hb h=>exact thing_tup2 e (.int _) (.int _) (fun i e=>by have e:=V.int.inj e; rw [← e]; exact Nat.lt_of_le_of_lt (can_bd l hb h).2 bb)
  | rem q2 h0 h1 g h=>exact thing_int
theorem rng_at {n i:Nat} {v:V} (h:((List.range n).map fun i:Nat=>V.int (0 + (i:Int)))[i]? = some v):i < n∧v = .int (i:Int):=by
  have hi':i < n:=by
    have:=(List.getElem?_eq_some_iff.mp h).1
    simpa using this
  refine ⟨hi',?_⟩
  rw [List.getElem?_map] at h
  simp [hi'] at h
  exact h.symm
theorem none_of {H H':Hp} {b:Addr} (s:Same H H') (h:H' b = none):H b = none:=by
  cases e:H b with
  | none=>rfl
  | some o=>rw [s _ _ e] at h; cases h
theorem isN_like {K:PySem.W.Frag} {H:Hp} {q:Int} {v u:V} {t b t' b':Int} (hv:IsN H q v t b) (hu:IsN H q u t' b') (e:t * b' = t' * b) (n:Nat):LikeN K H (n + 1) v u:=by
  rcases isN_alike hv hu e with ⟨p,p',x,m,rfl,rfl,e1,e2⟩ | ⟨i,rfl,rfl⟩
  · refine .inr ⟨p,p',_,_,rfl,rfl,.inr ⟨.of e1,.of e2⟩,rfl,fun j x y h1 h2=>?_⟩
    rw [h1] at h2
    cases h2
    have hf:flatV x = true:=by
      match j,h1 with
      | 0,h1=>cases h1; rfl
      | 1,h1=>cases h1; rfl
      | j + 2,h1=>cases h1
    cases n with
    | zero=>exact ⟨rfl,hf⟩
    | succ n=>exact .inl ⟨rfl,hf⟩
  · exact .inl ⟨rfl,rfl⟩
end My
namespace My
open PySem L2
def FRow (H:Hp) (q:Int) (r:Addr) (M:Nat) (g:Nat→Int × Int):Prop:=∃ ws:List V,H r = some (.lst ws)∧ws.length = M∧∀ (j:Nat) (w:V),ws[j]? = some w→IsN H q w (g j).1 (g j).2
theorem FRow.mono {H H':Hp} {q:Int} {r:Addr} {M:Nat} {g:Nat→Int × Int} (h:FRow H q r M g) (s:Same H H'):FRow H' q r M g:=by
  obtain ⟨ws,e,l,k⟩:=h
  exact ⟨ws,s _ _ e,l,fun j w hw=>(k j w hw).mono s⟩
theorem FRow.far {H H':Hp} {q:Int} {r D:Addr} {M:Nat} {g:Nat→Int × Int} {zs:List V} (h:FRow H q r M g) (n:r ≠ D) (eD:H D = some (.lst zs)) (k:∀ b o,b ≠ D→H b = some o→H' b = some o):FRow H' q r M g:=by
  obtain ⟨ws,e,l,f⟩:=h
  exact ⟨ws,k _ _ n e,l,fun j w hw=>(f j w hw).far eD k⟩
def FTab (H0 H:Hp) (q:Int) (a:Addr) (N M:Nat) (f:Nat→Nat→Int × Int):Prop:=∃ vs:List V,H a = some (.lst vs)∧vs.length = N∧∀ (i:Nat) (v:V),vs[i]? = some v→∃ r:Addr,v = .ref r∧r ≠ a∧H0 r = none∧FRow H q r M (f i)
theorem FTab.mono {H0 H H':Hp} {q:Int} {a:Addr} {N M:Nat} {f:Nat→Nat→Int × Int} (h:FTab H0 H q a N M f) (s:Same H H'):FTab H0 H' q a N M f:=by
  obtain ⟨vs,e,l,k⟩:=h
  exact ⟨vs,s _ _ e,l,fun i v hv=>by
    obtain ⟨r,e1,e2,e3,e4⟩:=k i v hv
    exact ⟨r,e1,e2,e3,e4.mono s⟩⟩
theorem frow_like {K:PySem.W.Frag} {H:Hp} {q:Int} {a b:Addr} {M:Nat} {f:Nat→Int × Int} (h1:FRow H q a M f) (h2:FRow H q b M f) (n:Nat):LikeN K H (n + 2) (.ref a) (.ref b):=by
  obtain ⟨vs,e1,l1,f1⟩:=h1
  obtain ⟨us,e2,l2,f2⟩:=h2
  exact .inr ⟨a,b,vs,us,rfl,rfl,.inl ⟨.of e1,.of e2⟩,by omega,fun j x y hx hy=>isN_like (f1 j x hx) (f2 j y hy) rfl n⟩
theorem ftab_like {K:PySem.W.Frag} {H0 H1 H:Hp} {q:Int} {a b:Addr} {N M:Nat} {f:Nat→Nat→Int × Int} {R:VK} {r:Bool} (h1:FTab H0 H q a N M f) (h2:FTab H1 H q b N M f) (k:R (.bl r) H):rLike K 2 r (.ref a) (.ref b) H R:=by
  obtain ⟨vs,e1,l1,f1⟩:=h1
  obtain ⟨us,e2,l2,f2⟩:=h2
  refine ⟨a,b,vs,us,rfl,rfl,.of e1,.of e2,by omega,fun j x y hx hy=>?_,k⟩
  obtain ⟨r1,rfl,_,_,g1⟩:=f1 j x hx
  obtain ⟨r2,rfl,_,_,g2⟩:=f2 j y hy
  exact frow_like g1 g2 0
theorem getD_at {α:Type} {xs:List α} {d:α} {i:Nat} (hi:i < xs.length):xs.getD i d = xs[i]:=by
  rw [List.getD_eq_getElem?_getD,show xs[i]? = some xs[i] by simp [hi]]
  rfl
end My
namespace My
open PySem L2
def RowN (H:Hp) (q:Int) (a:Addr) (ps:List (Int × Int)):Prop:=∃ vs:List V,H a = some (.lst vs)∧vs.length = ps.length∧∀ (i:Nat) (v:V) (p:Int × Int),vs[i]? = some v→ps[i]? = some p→NumAt (10 ^ 60) H q v p.1 p.2
end My
namespace My
open PySem L2
end My
namespace My
open PySem L2
def unitRow (n i:Nat):List (Int × Int):=(List.range n).map fun j=>if j = i then ((1:Int),(1:Int)) else ((0:Int),(1:Int))
theorem of_small {B:Nat} (hB:1 ≤ B) {H:Hp} {q:Int} {v:V} {a:Int} (h:OfAt H q v a 1) (hq:WheelN q) (ha:a = 0 ∨ a = 1):NumAt B H q v a 1:=by
  rcases h with ⟨rfl,r,rfl,e⟩ | ⟨q2,r,rfl,r0,r1,er⟩
  · rw [(low_fd1 a).1,(low_fd1 a).2] at e
    exact .frac e ⟨by decide,Int.gcd_one_right ..⟩ (by rcases ha with rfl | rfl <;> simp [hB]) (by simpa using hB)
  · have q3:q ≤ 997:=by rcases hq with z | ⟨_,z,_⟩ <;> omega
    rw [Int.emod_eq_of_lt (show (0:Int) ≤ 1 by decide) (show (1:Int) < q by omega),Int.mul_one,Int.emod_eq_of_lt r0 r1] at er
    have ea:a % q = a:=Int.emod_eq_of_lt (by omega) (by omega)
    rw [ea] at er
    subst er
    exact .rem r0 r1 q3
theorem one_noOv {q:Int} (hq:WheelN q):¬ NoOv q 1:=fun h=>by
  unfold NoOv at h
  rcases hq with rfl | ⟨q2,q3,q4⟩
  · rw [if_pos rfl] at h; omega
  · rw [if_neg (by omega),Int.emod_eq_of_lt (by omega) (by omega)] at h; omega
end My
namespace My
open PySem L2
end My
namespace My
open PySem L2
def spOTRow6 (C:Addr):Sp:=fun vs H Q _=>∃ (z:Addr) (q:Int) (n i:Nat),vs = [.ref z,.int (n:Int),.int (i:Int)]∧WorldAt C H z q∧WheelN q∧n ≤ 40∧i < n∧∀ (r:Addr) (H':Hp),Same H H'→H r = none→RowN H' q r (unitRow n i)→Q (.ref r) H'
end My
namespace L2
open PySem PySem.Spec PyProof.Rows
inductive Tr where
  | fl (v:V)
  | ls (xs:List Tr)
  | tp (xs:List Tr)
  | dc
inductive IsTr (H:Hp):Tr→V→Prop where
  | fl {v:V} (h:flatV v = true):IsTr H (.fl v) v
  | ls {a:Addr} {vs:List V} {ts:List Tr} (e:H a = some (.lst vs)) (l:vs.length = ts.length) (h:∀ (i:Nat) (v:V) (t:Tr),vs[i]? = some v→ts[i]? = some t→IsTr H t v):IsTr H (.ls ts) (.ref a)
  | tp {a:Addr} {vs:List V} {ts:List Tr} (e:H a = some (.tup vs)) (l:vs.length = ts.length) (h:∀ (i:Nat) (v:V) (t:Tr),vs[i]? = some v→ts[i]? = some t→IsTr H t v):IsTr H (.tp ts) (.ref a)
  | dc {a:Addr} (e:H a = some (DctO a)):IsTr H .dc (.ref a)
theorem IsTr.keep {H H':Hp} {t:Tr} {v:V} (h:IsTr H t v) (s:∀ b o,H b = some o→H' b = some o):IsTr H' t v:=by
  induction h with
  | fl h=>exact .fl h
  | ls e l _ ih=>exact .ls (s _ _ e) l ih
  | tp e l _ ih=>exact .tp (s _ _ e) l ih
  | dc e=>exact .dc (s _ _ e)
def Tr.In:Nat→Tr→Prop
  | _,.fl _=>True
  | _,.dc=>True
  | 0,.ls _=>False
  | 0,.tp _=>False
  | n + 1,.ls ts=>∀ t ∈ ts,t.In n
  | n + 1,.tp ts=>∀ t ∈ ts,t.In n
section
variable {X:Cx} {pins:List (Addr × Obj)} {σ:St} {H:Hp} {s:Shared}
theorem empty_rc {A:Around} {a b:Addr} (ha:EmptyD a s.heap) (hb:EmptyD b s.heap) (hu:A.units < cLine):SeqAt.RcAt A s (.ref a) (.ref b) true:=fun prog w E Q h=>by
  obtain ⟨o,ep,e,c,d,z⟩:=ha
  obtain ⟨o',ep',e',c',d',z'⟩:=hb
  exact PySem.W.keq_eq (knd:=mixKind prog w) (ka:=[]) (kb:=[]) z z' ⟨o,#[],ep,e,c,d,fun _ h=>by simp at h,.nil,List.nodup_nil⟩ ⟨o',#[],ep',e',c',d',fun _ h=>by simp at h,.nil,List.nodup_nil⟩ hu (fun _=>.nil) h
theorem empty_ne {A:Around} {a b:Addr} (ha:EmptyD a s.heap) (hb:EmptyD b s.heap) (hu:A.units < cLine):SeqAt.RcNeAt A s (.ref a) (.ref b) false:=fun prog w E Q h=>by
  obtain ⟨o,ep,e,c,d,z⟩:=ha
  obtain ⟨o',ep',e',c',d',z'⟩:=hb
  exact PySem.W.keq_ne (knd:=mixKind prog w) (ka:=[]) (kb:=[]) z z' ⟨o,#[],ep,e,c,d,fun _ h=>by simp at h,.nil,List.nodup_nil⟩ ⟨o',#[],ep',e',c',d',fun _ h=>by simp at h,.nil,List.nodup_nil⟩ hu (fun _=>.nil) h
theorem ent_at {xs ys:List V} {us vs:List Value} (r1:Vals xs us) (r2:Vals ys vs) {j:Nat} (h1:j < us.length) (h2:j < vs.length):∃ x y,xs[j]? = some x∧ys[j]? = some y∧RelV x us.toArray[j]∧RelV y vs.toArray[j]:=by
  have l1:=r1.length
  have l2:=r2.length
  obtain ⟨x,ex⟩:∃ x,xs[j]? = some x:=⟨xs[j],by simp [show j < xs.length by omega]⟩
  obtain ⟨y,ey⟩:∃ y,ys[j]? = some y:=⟨ys[j],by simp [show j < ys.length by omega]⟩
  obtain ⟨x',ex',rx⟩:=r1.get ex
  obtain ⟨y',ey',ry⟩:=r2.get ey
  have e1:us.toArray[j] = x':=by simpa using (List.getElem?_eq_some_iff.mp ex').2
  have e2:vs.toArray[j] = y':=by simpa using (List.getElem?_eq_some_iff.mp ey').2
  exact ⟨x,y,ex,ey,by rw [e1]; exact rx,by rw [e2]; exact ry⟩
theorem like_tr (I:Inv X pins σ H s):∀ (n:Nat) (A:Around) (t:Tr) (v u:V) (a b:Value),t.In n→IsTr H t v→IsTr H t u→RelV v a→RelV u b→A.units + n < cLine→SeqAt.EqAt A s a b true:=by
  intro n
  induction n with
  | zero=>
    intro A t v u a b hn h1 h2 ra rb hu
    cases h1 with
    | fl h=>
      cases h2 with
      | fl _=>
        have z:=eqAt_V (A:=A) (s:=s) ra rb h h
        rw [eqV_self h] at z
        exact z
    | ls e l h=>exact hn.elim
    | tp e l h=>exact hn.elim
    | @dc p e=>
      cases h2 with
      | @dc p' e'=>
        cases ra
        cases rb
        by_cases pq:p = p'
        · subst pq; exact SeqAt.EqAt.same _
        · exact SeqAt.EqAt.of_refs pq (empty_rc (show ObjOk X.prog X.w H s.heap p (.ext (EmptyD p)) from I.hok p _ e).1 (show ObjOk X.prog X.w H s.heap p' (.ext (EmptyD p')) from I.hok p' _ e').1 hu)
  | succ n ih=>
    intro A t v u a b hn h1 h2 ra rb hu
    cases h1 with
    | fl h=>
      cases h2 with
      | fl _=>
        have z:=eqAt_V (A:=A) (s:=s) ra rb h h
        rw [eqV_self h] at z
        exact z
    | @dc p e=>
      cases h2 with
      | @dc p' e'=>
        cases ra
        cases rb
        by_cases pq:p = p'
        · subst pq; exact SeqAt.EqAt.same _
        · exact SeqAt.EqAt.of_refs pq (empty_rc (show ObjOk X.prog X.w H s.heap p (.ext (EmptyD p)) from I.hok p _ e).1 (show ObjOk X.prog X.w H s.heap p' (.ext (EmptyD p')) from I.hok p' _ e').1 (by omega))
    | @ls p xs ts e l h=>
      cases h2 with
      | @ls p' ys _ e' l' h'=>
        cases ra
        cases rb
        by_cases pq:p = p'
        · subst pq; exact SeqAt.EqAt.same _
        obtain ⟨us,r1,t1,_⟩:=I.list (.of e)
        obtain ⟨vs,r2,t2,_⟩:=I.list (.of e')
        have l1:=r1.length
        have l2:=r2.length
        have z:=SeqAt.RcAt.lists (A:=A) (e:=fun _=>true) t1.isList t2.isList (by simp; omega) (by omega) (fun j z1 z2=>by
          obtain ⟨x,y,ex,ey,rx,ry⟩:=ent_at r1 r2 (by simpa using z1) (by simpa using z2)
          have jt:j < ts.length:=by have:=(List.getElem?_eq_some_iff.mp ex).1; omega
          exact ih A.in1 ts[j] x y _ _ (hn _ (List.getElem_mem jt)) (h j x _ ex (by simp [jt])) (h' j y _ ey (by simp [jt])) rx ry (by rw [Around.in1_units]; omega))
        rw [all_range] at z
        exact SeqAt.EqAt.of_refs pq z
    | @tp p xs ts e l h=>
      cases h2 with
      | @tp p' ys _ e' l' h'=>
        cases ra
        cases rb
        by_cases pq:p = p'
        · subst pq; exact SeqAt.EqAt.same _
        obtain ⟨us,r1,t1,_⟩:=I.tuple (.of e)
        obtain ⟨vs,r2,t2,_⟩:=I.tuple (.of e')
        have l1:=r1.length
        have l2:=r2.length
        have z:=SeqAt.RcAt.tuples (A:=A) (e:=fun _=>true) t1 t2 (by omega) (fun j z1 z2=>by
          obtain ⟨x,y,ex,ey,rx,ry⟩:=ent_at r1 r2 (by simpa using z1) (by simpa using z2)
          have jt:j < ts.length:=by have:=(List.getElem?_eq_some_iff.mp ex).1; omega
          exact ih A.in1 ts[j] x y _ _ (hn _ (List.getElem_mem jt)) (h j x _ ex (by simp [jt])) (h' j y _ ey (by simp [jt])) rx ry (by rw [Around.in1_units]; omega))
        have e3:(us.toArray.size == vs.toArray.size) = true:=by simp; omega
        rw [all_range,e3] at z
        exact SeqAt.EqAt.of_refs pq z
end
def rTree (n:Nat):R2:=fun x y H Q=>∃ t:Tr,t.In n∧IsTr H t x∧IsTr H t y∧Q (.bl false) H
theorem flat_scal {v:V} (h:flatV v = true):scal v v = true:=by cases v <;> first | rfl | cases h
theorem op_neTr {X:Cx} {n:Nat} (hu:X.A.units + 64 < cLine) (hn:n < 60:=by decide):OpR X (compareOp .NotEq) (rTree n):=by
  intro pins s σ H x y v u Q I rx ry h
  obtain ⟨t,hin,h1,h2,q⟩:=h
  cases h1 with
  | fl h=>
    cases h2 with
    | fl _=>
      refine op_ne pins s σ H x x v u Q I rx ry ⟨flat_scal h,?_⟩
      rw [decide_eq_true rfl]
      exact q
  | @dc p e=>
    cases h2 with
    | @dc p' e'=>
      cases rx
      cases ry
      exact (empty_ne (show ObjOk X.prog X.w H s.heap p (.ext (EmptyD p)) from I.hok p _ e).1 (show ObjOk X.prog X.w H s.heap p' (.ext (EmptyD p')) from I.hok p' _ e').1 (by omega)) _ _ _ _ ⟨.bl false,H,I,rfl,q⟩
  | @ls p xs ts e l h=>
    cases h2 with
    | @ls p' ys _ e' l' h'=>
      cases rx
      cases ry
      cases n with
      | zero=>exact hin.elim
      | succ n=>
        obtain ⟨us,r1,t1,_⟩:=I.list (.of e)
        obtain ⟨vs,r2,t2,_⟩:=I.list (.of e')
        have l1:=r1.length
        have l2:=r2.length
        refine SeqAt.RcNeAt.lists (e:=fun _=>true) t1.isList t2.isList (by simp; omega) (by omega) (fun j z1 z2=>?_) _ _ _ _ ?_
        · obtain ⟨x,y,ex,ey,rx,ry⟩:=ent_at r1 r2 (by simpa using z1) (by simpa using z2)
          have jt:j < ts.length:=by have:=(List.getElem?_eq_some_iff.mp ex).1; omega
          exact like_tr I n X.A.in1 ts[j] x y _ _ (hin _ (List.getElem_mem jt)) (h j x _ ex (by simp [jt])) (h' j y _ ey (by simp [jt])) rx ry (by rw [Around.in1_units]; omega)
        · rw [all_range]
          exact ⟨.bl false,H,I,rfl,q⟩
  | @tp p xs ts e l h=>
    cases h2 with
    | @tp p' ys _ e' l' h'=>
      cases rx
      cases ry
      cases n with
      | zero=>exact hin.elim
      | succ n=>
        obtain ⟨us,r1,t1,_⟩:=I.tuple (.of e)
        obtain ⟨vs,r2,t2,_⟩:=I.tuple (.of e')
        have l1:=r1.length
        have l2:=r2.length
        refine SeqAt.RcNeAt.tuples (e:=fun _=>true) t1 t2 (by omega) (fun j z1 z2=>?_) _ _ _ _ ?_
        · obtain ⟨x,y,ex,ey,rx,ry⟩:=ent_at r1 r2 (by simpa using z1) (by simpa using z2)
          have jt:j < ts.length:=by have:=(List.getElem?_eq_some_iff.mp ex).1; omega
          exact like_tr I n X.A.in1 ts[j] x y _ _ (hin _ (List.getElem_mem jt)) (h j x _ ex (by simp [jt])) (h' j y _ ey (by simp [jt])) rx ry (by rw [Around.in1_units]; omega)
        · have e3:(us.toArray.size == vs.toArray.size) = true:=by simp; omega
          rw [all_range,e3]
          exact ⟨.bl false,H,I,rfl,q⟩
end L2
namespace My
open PySem L2
def flI (i:Int):Tr:=.fl (.int i)
def lowT (a b:Int):Tr:=.tp [flI (a.fdiv (lowG a b)),flI (b.fdiv (lowG a b))]
def numTr (q c:Int):Tr:=
  if q ≠ 0 then flI (c % q) else if c % 8 < 2 then .tp [flI 0,flI 1] else if c % 8 < 5 then .tp [flI (c / 8 % 7 - 3),flI 1] else if c % 8 < 7 then lowT (c / 8 % 23 - 11) (c / 8 / 23 % 6 + 1) else lowT (c / 8 % 2000001 - 1000000) (c / 8 / 2000001 % 1000 + 1)
theorem IsTr.any {H:Hp} {t:Tr} {v:V} (h:IsTr H t v):Any H v:=by
  cases h with
  | fl h=>cases v <;> first | exact .non | exact .bl _ | exact .int _ | exact .str _ | cases h
  | ls e _ _=>exact .lst e
  | tp e _ _=>exact .tup e
  | dc e=>exact .dct e
def isLs:Tr→Bool
  | .ls _=>true
  | _=>false
theorem IsTr.kitL {K:PySem.W.Frag} {H:Hp} {t:Tr} {v:V} (h:IsTr H t v):∃ T:String,TyX K H v (.type T)∧PySem.W.kitOne K (.type T) (.type "list") = some (isLs t):=by
  cases h with
  | fl h=>cases v <;> first | exact ⟨"NoneType",.of .non,rfl⟩ | exact ⟨"bool",.of (.bl _),rfl⟩ | exact ⟨"int",.of (.int _),rfl⟩ | exact ⟨"str",.of (.str _),rfl⟩ | cases h
  | ls e _ _=>exact ⟨"list",.of (.lst e),rfl⟩
  | tp e _ _=>exact ⟨"tuple",.of (.tup e),rfl⟩
  | dc e=>exact ⟨"dict",.dct e,rfl⟩
def CellOk (t:Tr):Prop:=∀ (H:Hp) (v:V),IsTr H t v→Thing H v
def CalmT (t:Tr):Prop:=∀ (H H':Hp) (D:Addr) (ys:List V) (v:V),IsTr H t v→H D = some (.lst ys)→(∀ b o,b ≠ D→H b = some o→H' b = some o)→IsTr H' t v
theorem calm_fl (v:V):CalmT (.fl v):=fun H H' D ys u h _ _=>by
  cases h with
  | fl h=>exact .fl h
theorem calm_dc:CalmT .dc:=fun H H' D ys u h e k=>by
  cases h with
  | dc e'=>exact .dc (k _ _ (fun z=>by rw [z,e] at e'; cases e') e')
theorem calm_tp {ts:List Tr} (h:∀ t ∈ ts,CalmT t):CalmT (.tp ts):=fun H H' D ys u hu e k=>by
  cases hu with
  | tp e' l h'=>exact .tp (k _ _ (fun z=>by rw [z,e] at e'; cases e') e') l fun i v t h1 h2=>h t (List.mem_of_getElem? h2) H H' D ys v (h' i v t h1 h2) e k
theorem cell_fl (v:V):CellOk (.fl v):=fun H u h=>by
  cases h with
  | fl h=>cases v <;> first | exact thing_non | exact thing_bl | exact thing_int | exact thing_str | cases h
theorem cell_ls (ts:List Tr):CellOk (.ls ts):=fun H u h=>by
  cases h with
  | ls e _ _=>exact thing_lst e
theorem cell_tpN {ts:List Tr} (hn:ts.length ≠ 2):CellOk (.tp ts):=fun H u h=>by
  cases h with
  | tp e l _=>exact thing_tupN e (by omega)
theorem cell_tp2 {x y:V} (m:∀ i:Int,y = .int i→Mid i):CellOk (.tp [.fl x,.fl y]):=fun H u h=>by
  cases h with
  | @tp a vs _ e l h=>
    match vs,l,e,h with
    | [v0,v1],_,e,h=>
      have h0:=h 0 v0 _ rfl rfl
      have h1:=h 1 v1 _ rfl rfl
      have a0:=IsTr.any h0
      have a1:=IsTr.any h1
      cases h0 with
      | fl _=>
        cases h1 with
        | fl _=>exact thing_tup2 e a0 a1 m
theorem num_cell (q c:Int):CellOk (numTr q c)∧CalmT (numTr q c):=by
  have cal:∀ x y:Int,CalmT (.tp [flI x,flI y]):=fun x y=>calm_tp fun t ht=>by
    simp only [List.mem_cons,List.not_mem_nil,or_false] at ht
    rcases ht with rfl | rfl <;> exact calm_fl _
  have low:∀ a b:Int,1 ≤ b→b ≤ 1000→CellOk (lowT a b):=fun a b h1 h2=>by
    unfold lowT flI
    refine cell_tp2 fun i e=>?_
    have e:=V.int.inj e
    obtain ⟨u,d,e1,e2,l,l1,l2⟩:=low_of (a:=a) h1
    rw [e2] at e
    rw [← e]
    exact Nat.lt_of_le_of_lt (Nat.le_trans l2 (show b.natAbs ≤ 1000 by omega)) (by decide +kernel)
  unfold numTr
  by_cases h1:q ≠ 0
  · rw [if_pos h1]; exact ⟨cell_fl _,calm_fl _⟩
  rw [if_neg h1]
  by_cases h2:c % 8 < 2
  · rw [if_pos h2]; exact ⟨cell_tp2 fun i e=>by have e:=V.int.inj e; rw [← e]; exact Mid.of_lt (by decide) (by decide),cal _ _⟩
  rw [if_neg h2]
  by_cases h3:c % 8 < 5
  · rw [if_pos h3]; exact ⟨cell_tp2 fun i e=>by have e:=V.int.inj e; rw [← e]; exact Mid.of_lt (by decide) (by decide),cal _ _⟩
  rw [if_neg h3]
  by_cases h4:c % 8 < 7
  · rw [if_pos h4]
    have b2:=Int.emod_nonneg (c / 8 / 23) (show (6:Int) ≠ 0 by decide)
    have b3:=Int.emod_lt_of_pos (c / 8 / 23) (show (0:Int) < 6 by decide)
    exact ⟨low _ _ (by omega) (by omega),cal _ _⟩
  · rw [if_neg h4]
    have b2:=Int.emod_nonneg (c / 8 / 2000001) (show (1000:Int) ≠ 0 by decide)
    have b3:=Int.emod_lt_of_pos (c / 8 / 2000001) (show (0:Int) < 1000 by decide)
    exact ⟨low _ _ (by omega) (by omega),cal _ _⟩
def cellB (q:Int):Tr→Bool
  | .fl v=>if q = 0 then false else remB q v
  | .tp [.fl x,.fl y]=>if q = 0 then pairB x y else false
  | _=>false
theorem isB_cell {H:Hp} {q:Int} {t:Tr} {v:V} (h:IsTr H t v):isB H q v = cellB q t:=by
  unfold isB
  cases h with
  | fl h=>
    show _ = if q = 0 then false else remB q v
    by_cases z:q = 0
    · rw [if_pos z,if_pos z]
      cases v <;> first | rfl | cases h
    · rw [if_neg z,if_neg z]
  | @ls a vs ts e l h=>
    show _ = false
    by_cases z:q = 0
    · rw [if_pos z]
      exact ratioB_no (by unfold isTupV; dsimp only; rw [e])
    · rw [if_neg z]; rfl
  | dc e=>
    show _ = false
    by_cases z:q = 0
    · rw [if_pos z]
      exact ratioB_no (by unfold isTupV; dsimp only; rw [e]; rfl)
    · rw [if_neg z]; rfl
  | @tp a vs ts e l h=>
    by_cases z:q = 0
    · rw [if_pos z]
      by_cases n2:vs.length = 2
      · match vs,n2,e,h,l with
        | [x,y],_,e,h,l=>
          rw [ratioB_pair e]
          match ts,l,h with
          | [t0,t1],_,h=>
            have h0:=h 0 x t0 rfl rfl
            have h1:=h 1 y t1 rfl rfl
            cases h0 with
            | fl f0=>
              cases h1 with
              | fl f1=>show _ = if q = 0 then pairB x y else false; rw [if_pos z]
              | ls _ _ _=>cases x <;> rfl
              | tp _ _ _=>cases x <;> rfl
              | dc _=>cases x <;> rfl
            | ls _ _ _=>rfl
            | tp _ _ _=>rfl
            | dc _=>rfl
      · rw [ratioB_len e n2]
        unfold cellB
        split
        · rename_i heq
          cases heq
        · rename_i heq
          cases heq
          exact absurd (by simpa using l) n2
        · rfl
    · rw [if_neg z]
      unfold cellB
      split
      · rename_i heq
        cases heq
      · rw [if_neg z]; rfl
      · rfl
def lenTr:Tr→Nat
  | .ls ts=>ts.length
  | _=>0
def bndB:Tr→Bool
  | .ls ts=>decide (1 ≤ ts.length) && decide (ts.length ≤ 40)
  | _=>false
def rowB (q:Int):Tr→Bool
  | .ls ts=>bndB (.ls ts) && ts.all (cellB q)
  | _=>false
def tabB (q:Int):Tr→Bool
  | .ls rs=>(bndB (.ls rs) && rs.all (rowB q)) && rs.all fun r=>decide (lenTr r = lenTr (rs.headD .dc))
  | _=>false
def RowOk:Tr→Prop
  | .ls ts=>ts.length ≤ 100∧∀ t ∈ ts,CellOk t
  | _=>True
def TabOk:Tr→Prop
  | .ls rs=>rs.length ≤ 100∧∀ r ∈ rs,RowOk r
  | _=>True
def spBnd:Sp:=fun vs H Q _=>∃ (v:V) (t:Tr),vs = [v]∧IsTr H t v∧Q (.bl (bndB t)) H
def spRowT (C:Addr):Sp:=fun vs H Q _=>∃ (z:Addr) (q:Int) (v:V) (t:Tr),vs = [.ref z,v]∧WorldAt C H z q∧IsTr H t v∧RowOk t∧∀ H',Same H H'→Q (.bl (rowB q t)) H'
def spTabT (C:Addr):Sp:=fun vs H Q _=>∃ (z:Addr) (q:Int) (v:V) (t:Tr),vs = [.ref z,v]∧WorldAt C H z q∧IsTr H t v∧TabOk t∧∀ H',Same H H'→Q (.bl (tabB q t)) H'
def spDue:Sp:=fun vs H Q _=>∃ (q:Int) (v:V) (t:Tr),vs = [.int q,v]∧IsTr H t v∧TabOk t∧∀ H',Same H H'→Q (.bl (tabB q t)) H'
def spNumT:Sp:=fun vs H Q _=>∃ q c:Int,vs = [.int q,.int c]∧WheelN q∧0 ≤ c∧∀ (v:V) (H':Hp),Same H H'→IsTr H' (numTr q c) v→Q v H'
def szP (c:Int):Int × Int:=if c % 6 = 4 then (38 + c / 6 % 5,1 + c / 6 / 5 % 3) else if c % 6 = 5 then (1 + c / 6 % 3,38 + c / 6 / 3 % 5) else (1 + c / 6 % 6,1 + c / 6 / 6 % 6)
theorem szP_bd (c:Int):1 ≤ (szP c).1∧(szP c).1 ≤ 42∧1 ≤ (szP c).2∧(szP c).2 ≤ 42:=by
  unfold szP
  split
  · dsimp only; omega
  · split <;> (dsimp only; omega)
def spSize07:Sp:=fun vs H Q _=>∃ c:Int,vs = [.int c]∧∀ (p:Addr) (H':Hp),Same H H'→H' p = some (.tup [.int (szP c).1,.int (szP c).2])→Q (.ref p) H'
def noTr (q:Int):List Tr:=[.fl .non,.fl (.str (Str.ofString "1")),.fl (.bl true),.ls [flI 1],.tp [flI 1],.tp [flI 1,flI 0],.tp [flI 2,flI 4],.tp [flI 1,flI (-1)],.tp [flI 0,flI 1],flI (-1),flI q,flI 0,.tp [flI 1,flI 2,flI 3],.tp [.fl (.bl true),flI 1],flI 1000,.fl (.bl false)]
def spNo07:Sp:=fun vs H Q _=>∃ q c:Int,vs = [.int q,.int c]∧∀ (v:V) (H':Hp),Same H H'→IsTr H' ((noTr q).getD (c % 16).toNat .dc) v→(∀ a,v = .ref a→H a = none)→Q v H'
end My
namespace My
open PySem L2
def Item (σ:St) (te:TE) (tr:Tr):Prop:=∀ (H:Hp) (Q:VK),(∀ v H',Same H H'→IsTr H' tr v→(∀ a,v = .ref a→H a = none)→Q v H')→te σ H Q
def Items (σ:St) (t:TA) (trs:List Tr):Prop:=∀ (H:Hp) (Q:List V→Hp→Prop),(∀ vs H',Same H H'→vs.length = trs.length→(∀ (i:Nat) (v:V) (tr:Tr),vs[i]? = some v→trs[i]? = some tr→IsTr H' tr v∧∀ a,v = .ref a→H a = none)→Q vs H')→t σ H Q
theorem items_nil {σ:St}:Items σ tNil []:=fun H Q k=>k [] H (Same.refl H) rfl fun i v tr h=>by simp at h
theorem items_cons {σ:St} {te:TE} {t:TA} {tr:Tr} {trs:List Tr} (h1:Item σ te tr) (h2:Items σ t trs):Items σ (tCons te t) (tr :: trs):=fun H Q k=>h1 H _ fun v H1 s1 i1 n1=>h2 H1 _ fun vs H2 s2 l2 i2=>k (v :: vs) H2 (s1.trans s2) (by simp [l2]) fun i u tr' e1 e2=>by
  cases i with
  | zero=>cases e1; cases e2; exact ⟨i1.keep s2,n1⟩
  | succ i=>exact ⟨(i2 i u tr' e1 e2).1,fun a ea=>none_of s1 ((i2 i u tr' e1 e2).2 a ea)⟩
theorem item_c {σ:St} {v:V} (h:flatV v = true):Item σ (tC v) (.fl v):=fun H Q k=>k v H (Same.refl H) (.fl h) fun a e=>by rw [e] at h; cases h
theorem item_neg {σ:St} {i:Int}:Item σ (tUn (rU fun i=>V.int (-i)) (tC (V.int i))) (flI (-i)):=fun H Q k=>⟨i,rfl,k _ H (Same.refl H) (.fl rfl) fun a e=>by cases e⟩
theorem item_var {σ:St} {n:Nat} {v:V} (e:σ[n]? = some (some v)) (h:flatV v = true):Item σ (tVar n) (.fl v):=fun H Q k=>⟨v,e,k v H (Same.refl H) (.fl h) fun a e=>by rw [e] at h; cases h⟩
theorem item_lst {σ:St} {t:TA} {trs:List Tr} (h:Items σ t trs) (n:trs.length ≤ 100):Item σ (tLst t) (.ls trs):=fun H Q k=>h H _ fun vs H1 s1 l1 i1=>⟨by rw [l1]; exact Nat.le_trans n (by decide),fun p np=>k (.ref p) _ (s1.trans (same_upd np)) (.ls upd_same l1 fun i v tr e1 e2=>(i1 i v tr e1 e2).1.keep (same_upd np)) fun a e=>by cases e; exact none_of s1 np⟩
theorem item_tup {σ:St} {t:TA} {trs:List Tr} (h:Items σ t trs) (n:trs.length ≤ 100):Item σ (tTup t) (.tp trs):=fun H Q k=>h H _ fun vs H1 s1 l1 i1=>⟨by rw [l1]; exact Nat.le_trans n (by decide),fun p np=>k (.ref p) _ (s1.trans (same_upd np)) (.tp upd_same l1 fun i v tr e1 e2=>(i1 i v tr e1 e2).1.keep (same_upd np)) fun a e=>by cases e; exact none_of s1 np⟩
theorem item_dct {σ:St}:Item σ tDct .dc:=fun H Q k p np=>k (.ref p) _ (same_upd np) (.dc upd_same) fun a e=>by cases e; exact np
theorem pick_at {vs:List V} {trs:List Tr} (l:vs.length = trs.length) {i:Int} (h0:0 ≤ i) (h1:i < trs.length):∃ v,atI vs i = some v∧vs[i.toNat]? = some v∧trs[i.toNat]? = some (trs.getD i.toNat .dc):=by
  obtain ⟨k,rfl⟩:∃ k:Nat,i = (k:Int):=⟨i.toNat,by omega⟩
  have hk:k < vs.length:=by omega
  have hk':k < trs.length:=by omega
  refine ⟨vs[k],atI_nat (by simp [hk]),by simp [hk],?_⟩
  rw [Int.toNat_natCast,getD_at hk']
  simp [hk']
def oddTr:List Tr:=[.ls [],.fl .non,.fl (.str (Str.ofString "")),flI 7,.dc,.fl (.bl true)]
def lastTr:List Tr:=[.ls [],.ls [.ls []],.fl (.str (Str.ofString "")),.fl .non,flI 7,.fl (.bl true),.dc,.tp [],.ls [.ls [],.ls []],.fl (.str (Str.ofString "table"))]
def tabT (R:List (List Tr)):Tr:=.ls (R.map .ls)
def numR (ns:List Int) (q:Int) (n m:Nat):List (List Tr):=(List.range n).map fun i:Nat=>(List.range m).map fun j:Nat=>numTr q (drawV ns (3 + (i:Int) * (m:Int) + (j:Int)))
def thing2 (q:Int) (R:List (List Tr)) (m:Nat) (w:Int) (at':Nat) (r:Int):Tr:=
  if w = 3 then tabT (R.set at' ((R.getD at' []).set (r / 16 % (m:Int)).toNat ((noTr q).getD (r % 16).toNat .dc)))
  else if w = 4 then (if r % 2 = 0 then tabT (R.set at' ((R.getD at' []).eraseIdx (r / 2 % (m:Int)).toNat)) else tabT (R.set at' (R.getD at' [] ++ [(R.getD 0 []).getD 0 .dc])))
  else if w = 5 then (if r % 2 = 0 then .ls ((R.map .ls).set at' (.tp (R.getD at' []))) else .ls ((R.map .ls).set at' (oddTr.getD (r / 2 % 6).toNat .dc)))
  else if w = 6 then .tp (R.map .ls)
  else if w = 7 then lastTr.getD (r % 10).toNat .dc
  else tabT R
def thingT (ns:List Int) (q:Int):Tr:=
  thing2 q (numR ns q (szP (drawV ns 1)).1.toNat (szP (drawV ns 1)).2.toNat) (szP (drawV ns 1)).2.toNat (drawV ns 2 % 8) (drawV ns 2 / 8 % (szP (drawV ns 1)).1).toNat (drawV ns 2 / 8 / (szP (drawV ns 1)).1)
def spThing07 (K:PySem.W.Frag):Sp:=fun vs H Q _=>∃ (a:Addr) (ns:List Int) (q:Int),vs = [.ref a,.int q]∧SqL K H a (ns.map V.int)∧WheelN q∧∀ (v:V) (H':Hp),Same H H'→IsTr H' (thingT ns q) v→Q v H'
structure TbT (H0 H:Hp) (tb:Addr) (A:Nat→Addr) (R:List (List Tr)):Prop where
  tab:H tb = some (.lst ((List.range R.length).map fun i=>V.ref (A i)))
  row:∀ i,i < R.length→∃ vs,H (A i) = some (.lst vs)∧vs.length = (R.getD i []).length∧∀ (j:Nat) (v:V) (t:Tr),vs[j]? = some v→(R.getD i [])[j]? = some t→IsTr H t v
  inj:∀ i j,i < R.length→j < R.length→A i = A j→i = j
  ne:∀ i,i < R.length→A i ≠ tb
  n0:H0 tb = none
  n1:∀ i,i < R.length→H0 (A i) = none
theorem TbT.mono {H0 H H':Hp} {tb:Addr} {A:Nat→Addr} {R:List (List Tr)} (h:TbT H0 H tb A R) (s:Same H H'):TbT H0 H' tb A R:=
  ⟨s _ _ h.tab,fun i hi=>by
    obtain ⟨vs,e,l,k⟩:=h.row i hi
    exact ⟨vs,s _ _ e,l,fun j v t h1 h2=>(k j v t h1 h2).keep s⟩,h.inj,h.ne,h.n0,h.n1⟩
theorem TbT.tr {H0 H:Hp} {tb:Addr} {A:Nat→Addr} {R:List (List Tr)} (h:TbT H0 H tb A R):∀ (i:Nat) (v:V) (t:Tr),((List.range R.length).map fun i=>V.ref (A i))[i]? = some v→(R.map Tr.ls)[i]? = some t→IsTr H t v:=fun i v t h1 h2=>by
  have hi:i < R.length:=by
    have:=(List.getElem?_eq_some_iff.mp h2).1
    simpa using this
  rw [List.getElem?_map] at h1 h2
  simp [hi] at h1 h2
  obtain ⟨vs,e,l,k⟩:=h.row i hi
  rw [getD_at hi] at l k
  rw [← h1,← h2]
  exact .ls e l k
theorem getD_setL {α:Type} (R:List α) (i j:Nat) (x d:α) (hi:i < R.length):(R.set i x).getD j d = if j = i then x else R.getD j d:=by
  by_cases e:j = i
  · rw [if_pos e,e,getD_at (by rw [List.length_set]; exact hi),List.getElem_set_self]
  · rw [if_neg e,List.getD_eq_getElem?_getD,List.getElem?_set_ne (fun z=>e z.symm),← List.getD_eq_getElem?_getD]
theorem TbT.put {H0 H:Hp} {tb:Addr} {A:Nat→Addr} {R:List (List Tr)} {i:Nat} {ts:List Tr} {vs ws:List V} (h:TbT H0 H tb A R) (hi:i < R.length) (ev:H (A i) = some (.lst vs)) (calm:∀ r ∈ R,∀ t ∈ r,CalmT t) (lw:ws.length = ts.length) (hw:∀ (j:Nat) (v:V) (t:Tr),ws[j]? = some v→ts[j]? = some t→IsTr (upd H (A i) (.lst ws)) t v):TbT H0 (upd H (A i) (.lst ws)) tb A (R.set i ts):=by
  have far:∀ b o,b ≠ A i→H b = some o→upd H (A i) (.lst ws) b = some o:=fun b o nb e=>by rw [upd_ne nb]; exact e
  refine ⟨?_,fun k hk=>?_,?_,?_,h.n0,?_⟩
  · rw [List.length_set]
    exact far _ _ (fun z=>h.ne i hi z.symm) h.tab
  · rw [List.length_set] at hk
    rw [getD_setL R i k ts [] hi]
    by_cases e:k = i
    · rw [if_pos e,e]
      exact ⟨ws,upd_same,lw,hw⟩
    · rw [if_neg e]
      obtain ⟨us,eu,lu,fu⟩:=h.row k hk
      refine ⟨us,far _ _ (fun z=>e (h.inj k i hk hi z)) eu,lu,fun j v t h1 h2=>?_⟩
      refine calm (R.getD k []) (by rw [getD_at hk]; exact List.getElem_mem _) t (List.mem_of_getElem? h2) H _ (A i) vs v (fu j v t h1 h2) ev far
  · rw [List.length_set]; exact h.inj
  · rw [List.length_set]; exact h.ne
  · rw [List.length_set]; exact h.n1
def CalmX (D:Addr) (t:Tr):Prop:=∀ (H H':Hp) (ys:List V) (v:V),IsTr H t v→H D = some (.lst ys)→(∀ b o,b ≠ D→H b = some o→H' b = some o)→(∀ a,v = .ref a→a ≠ D)→IsTr H' t v
theorem calmX_of {D:Addr} {t:Tr} (h:CalmT t):CalmX D t:=fun H H' ys v i e k _=>h H H' D ys v i e k
theorem calmX_nil {D:Addr}:CalmX D (.ls []):=fun H H' ys v i e k n=>by
  cases i with
  | ls e' l h=>exact .ls (k _ _ (n _ rfl) e') l fun i v t h1 h2=>by simp at h2
theorem oddTr_calm {D:Addr} (i:Nat):CalmX D (oddTr.getD i .dc):=by
  match i with
  | 0=>exact calmX_nil
  | 1=>exact calmX_of (calm_fl _)
  | 2=>exact calmX_of (calm_fl _)
  | 3=>exact calmX_of (calm_fl _)
  | 4=>exact calmX_of calm_dc
  | 5=>exact calmX_of (calm_fl _)
  | n + 6=>exact calmX_of calm_dc
theorem sqIx {x:Int} {l:Nat} (h0:0 ≤ x) (h1:x < (l:Int)):seqIndex? x l = some x.toNat:=by
  unfold seqIndex?
  dsimp only
  rw [if_neg (show ¬ x < 0 by omega),if_pos (by rw [Bool.and_eq_true]; exact ⟨decide_eq_true h0,decide_eq_true h1⟩)]
end My
namespace My
open PySem L2
theorem comp_new {wi:TI} {ρ:St→St} {te:TE} {σ:St} {H:Hp} {Q:VK} {xs:List V} {n:Nat} (hl:xs.length = n) (hwi:∀ R:It→Hp→Prop,(∀ J H1,Same H H1→JSeq J xs H1→R J H1)→wi σ H R) (hn:n < sizeLine)
    (P:Addr→Nat→Addr→Hp→Prop) (mono:∀ D i y H H' ys,P D i y H→y ≠ D→H D = some (.lst ys)→(∀ b o,b ≠ D→H b = some o→H' b = some o)→P D i y H')
    (step:∀ D (i:Nat) (x:V),xs[i]? = some x→∀ (Hc:Hp) (R:VK),Same H Hc→(∃ ys,Hc D = some (.lst ys))→(∀ y H3,Same Hc H3→Hc y = none→(∃ o,H3 y = some o)→P D i y H3→R (.ref y) H3)→te (some x :: ρ σ) Hc R)
    (fin:∀ D (A:Nat→Addr) Hc,H D = none→Same H Hc→(∀ i j,i < n→j < n→A i = A j→i = j)→(∀ i,i < n→P D i (A i) Hc∧A i ≠ D)→Hc D = some (.lst ((List.range n).map fun i=>V.ref (A i)))→Q (.ref D) Hc):tComp wi ρ (fun _ H Q=>Q true H) te σ H Q:=by
  refine hwi _ fun J H1 s1 js=>?_
  intro D nD
  have hD:H D = none:=by
    cases e:H D with
    | none=>rfl
    | some o=>rw [s1 _ _ e] at nD; cases nD
  refine ⟨fun i m ys Hc=>m = n - i∧i ≤ n∧Hc D = some (.lst ys)∧Same H1 Hc∧∃ A:Nat→Addr,ys = (List.range i).map (fun j=>V.ref (A j))∧(∀ a b,a < i→b < i→A a = A b→a = b)∧∀ j,j < i→P D j (A j) Hc∧A j ≠ D∧∃ o,Hc (A j) = some o,⟨_,rfl,Nat.zero_le _,upd_same,same_but (Same.refl H1) nD,fun _=>D,rfl,(fun a b h=>by omega),fun j h=>by omega⟩,?_⟩
  rintro i m ys Hc ⟨rfl,hi,eD,sH,A,rfl,inj,hA⟩
  refine ⟨eD,?_⟩
  by_cases hlt:i < n
  · refine .inr ⟨js.go i Hc sH (by omega),fun x H' hy=>?_⟩
    obtain ⟨rfl,hx⟩:=js.yld i Hc x H' sH hy
    rw [if_pos rfl]
    refine step D i x (hx (by omega)) _ _ (s1.trans sH) ⟨_,eD⟩ fun y H3 s3 ny ⟨o,ho⟩ hp=>?_
    have e3:=s3 _ _ eD
    have yD:y ≠ D:=fun e=>by rw [e,eD] at ny; cases ny
    have far:∀ b o,b ≠ D→H3 b = some o→upd H3 D (.lst ((List.range i).map (fun j=>V.ref (A j)) ++ [.ref y])) b = some o:=fun b o nb e=>by rw [upd_ne nb]; exact e
    have nA:∀ j,j < i→A j ≠ y:=fun j hj e=>by
      obtain ⟨_,_,o',h'⟩:=hA j hj
      rw [e,ny] at h'
      cases h'
    refine ⟨e3,by simp; omega,n - (i + 1),by omega,rfl,hlt,upd_same,same_but (sH.trans s3) nD,fun j=>if j = i then y else A j,?_,fun a b ha hb e=>?_,fun j hj=>?_⟩
    · rw [List.range_succ,List.map_append]
      congr 1
      · refine List.map_congr_left fun j hj=>?_
        dsimp only
        rw [if_neg (by have:=List.mem_range.mp hj; omega)]
      · simp
    · dsimp only at e
      by_cases z1:a = i
      · by_cases z2:b = i
        · omega
        · rw [if_pos z1,if_neg z2] at e
          exact absurd e.symm (nA b (by omega))
      · by_cases z2:b = i
        · rw [if_neg z1,if_pos z2] at e
          exact absurd e (nA a (by omega))
        · rw [if_neg z1,if_neg z2] at e
          exact inj a b (by omega) (by omega) e
    · dsimp only
      by_cases z:j = i
      · rw [if_pos z,z]
        exact ⟨mono D i y H3 _ _ hp yD e3 far,yD,o,far _ _ yD ho⟩
      · rw [if_neg z]
        obtain ⟨h1,h2,o',h3⟩:=hA j (by omega)
        exact ⟨mono D j (A j) H' _ _ h1 h2 eD (fun b o nb e=>far b o nb (s3 _ _ e)),h2,o',far _ _ h2 (s3 _ _ h3)⟩
  · have e:i = n:=by omega
    subst e
    exact .inl ⟨js.stop _ Hc sH (by omega),fin D A Hc hD (s1.trans sH) inj (fun j hj=>⟨(hA j hj).1,(hA j hj).2.1⟩) eD⟩
end My
namespace My
open PySem L2
def TabU (H0 H:Hp) (q:Int) (r:Addr) (n:Nat):Prop:=∃ vs:List V,H r = some (.lst vs)∧vs.length = n∧∀ (i:Nat) (v:V),vs[i]? = some v→∃ x:Addr,v = .ref x∧x ≠ r∧H0 x = none∧RowN H q x (unitRow n i)
def onesF (i j:Nat):Int × Int:=(if i = j then 1 else 0,1)
theorem TabU.f {H0 H:Hp} {q:Int} (hq:WheelN q) {r:Addr} {n:Nat} (h:TabU H0 H q r n):FTab H0 H q r n n onesF:=by
  obtain ⟨vs,e,l,f⟩:=h
  refine ⟨vs,e,l,fun i v hv=>?_⟩
  obtain ⟨x,e1,e2,e3,ws,ew,lw,fw⟩:=f i v hv
  have lu:(unitRow n i).length = n:=by unfold unitRow; simp
  refine ⟨x,e1,e2,e3,ws,ew,by omega,fun j w hw=>?_⟩
  have hj:j < n:=by have:=(List.getElem?_eq_some_iff.mp hw).1; omega
  have hu:(unitRow n i)[j]? = some (onesF i j):=by
    unfold unitRow onesF
    rw [List.getElem?_map]
    simp [hj]
    by_cases z:j = i
    · rw [if_pos z,if_pos z.symm]
    · rw [if_neg z,if_neg (fun y=>z y.symm)]
  exact (fw j w _ hw hu).isN hq
theorem unit_isN7 {H:Hp} {q:Int} (hq:WheelN q) (hn:q ≠ 0) {d:Int} (hd:d = 0 ∨ d = 1):IsN H q (.int d) d 1:=by
  have q2:2 ≤ q:=by rcases hq with h | h <;> omega
  exact .rem q2 (by omega) (by omega) (Int.gcd_one_right ..) ⟨0,by omega⟩
def spOT07 (C:Addr):Sp:=fun vs H Q _=>∃ (z:Addr) (q:Int) (n:Nat),vs = [.ref z,.int (n:Int)]∧WorldAt C H z q∧WheelN q∧n ≤ 40∧∀ (r:Addr) (H':Hp),Same H H'→H r = none→TabU H H' q r n→Q (.ref r) H'
def spOnes:Sp:=fun vs H Q _=>∃ (q:Int) (n:Nat),vs = [.int q,.int (n:Int)]∧WheelN q∧n ≤ 40∧∀ (r:Addr) (H':Hp),Same H H'→FTab H H' q r n n onesF→Q (.ref r) H'
def spAreOnes:Sp:=fun vs H Q _=>∃ (H0:Hp) (q:Int) (r:Addr) (n:Nat),vs = [.int q,.ref r,.int (n:Int)]∧WheelN q∧n ≤ 40∧FTab H0 H q r n n onesF∧∀ H',Same H H'→Q (.bl true) H'
end My
namespace My
open PySem L2
def Cel (t:Tr):Prop:=CellOk t∧t.In 1
theorem in1_tp {ts:List Tr} (h:∀ t ∈ ts,∃ v,t = .fl v):(Tr.tp ts).In 1:=fun t ht=>by
  obtain ⟨v,rfl⟩:=h t ht
  exact trivial
theorem cel_num (q c:Int):Cel (numTr q c):=by
  refine ⟨(num_cell q c).1,?_⟩
  have two:∀ x y:Int,(Tr.tp [flI x,flI y]).In 1:=fun x y=>in1_tp fun t ht=>by
    simp only [List.mem_cons,List.not_mem_nil,or_false] at ht
    rcases ht with rfl | rfl <;> exact ⟨_,rfl⟩
  unfold numTr
  split
  · exact trivial
  · split
    · exact two _ _
    · split
      · exact two _ _
      · split <;> exact two _ _
theorem cel_no (q:Int) (k:Nat):Cel ((noTr q).getD k .dc):=by
  have fl:∀ v,Cel (.fl v):=fun v=>⟨cell_fl v,trivial⟩
  have two:∀ (v:V) (y:Int),-10 < y→y < 10→Cel (.tp [.fl v,flI y]):=fun v y h1 h2=>⟨cell_tp2 fun i e=>by have e:=V.int.inj e; rw [← e]; exact Mid.of_lt (by omega) (by omega),in1_tp fun t ht=>by
    simp only [List.mem_cons,List.not_mem_nil,or_false] at ht
    rcases ht with rfl | rfl <;> exact ⟨_,rfl⟩⟩
  match k with
  | 0=>exact fl _
  | 1=>exact fl _
  | 2=>exact fl _
  | 3=>exact ⟨cell_ls _,fun t ht=>by rw [List.mem_singleton.mp ht]; exact trivial⟩
  | 4=>exact ⟨cell_tpN (by decide),fun t ht=>by rw [List.mem_singleton.mp ht]; exact trivial⟩
  | 5=>exact two _ _ (by decide) (by decide)
  | 6=>exact two _ _ (by decide) (by decide)
  | 7=>exact two _ _ (by decide) (by decide)
  | 8=>exact two _ _ (by decide) (by decide)
  | 9=>exact fl _
  | 10=>exact fl _
  | 11=>exact fl _
  | 12=>exact ⟨cell_tpN (by decide),in1_tp fun t ht=>by
    simp only [List.mem_cons,List.not_mem_nil,or_false] at ht
    rcases ht with rfl | rfl | rfl <;> exact ⟨_,rfl⟩⟩
  | 13=>exact two _ _ (by decide) (by decide)
  | 14=>exact fl _
  | 15=>exact fl _
  | n + 16=>exact ⟨fun H v h=>by cases h with | dc e=>exact thing_dct e,trivial⟩
def RowG7 (r:Tr):Prop:=RowOk r∧r.In 2
theorem row7 {ts:List Tr} (l:ts.length ≤ 100) (h:∀ t ∈ ts,Cel t):RowG7 (.ls ts):=⟨⟨l,fun t ht=>(h t ht).1⟩,fun t ht=>(h t ht).2⟩
theorem tab7 {rs:List Tr} (l:rs.length ≤ 100) (h:∀ r ∈ rs,RowG7 r):TabOk (.ls rs)∧(Tr.ls rs).In 3:=⟨⟨l,fun r hr=>(h r hr).1⟩,fun r hr=>(h r hr).2⟩
theorem mem_setL {α:Type} {l:List α} {i:Nat} {x y:α} (h:y ∈ l.set i x):y = x ∨ y ∈ l:=by
  rcases List.mem_or_eq_of_mem_set h with h | h
  · exact .inr h
  · exact .inl h
theorem thing2_ok {q:Int} {R:List (List Tr)} {m:Nat} {w:Int} {i:Nat} {r:Int} (lR:R.length ≤ 42) (h1:1 ≤ R.length) (m1:1 ≤ m) (wR:∀ row ∈ R,row.length = m∧∀ t ∈ row,Cel t) (m42:m ≤ 42):TabOk (thing2 q R m w i r)∧(thing2 q R m w i r).In 3:=by
  have rows:∀ t ∈ R.map Tr.ls,RowG7 t:=fun t ht=>by
    obtain ⟨row,hr,rfl⟩:=List.mem_map.mp ht
    exact row7 (by have:=(wR row hr).1; omega) (wR row hr).2
  have tabR:∀ ts:List Tr,ts.length ≤ 100→(∀ t ∈ ts,Cel t)→TabOk (tabT (R.set i ts))∧(tabT (R.set i ts)).In 3:=fun ts l h=>by
    unfold tabT
    refine tab7 (by simp; omega) fun t ht=>?_
    obtain ⟨row,hr,rfl⟩:=List.mem_map.mp ht
    rcases mem_setL hr with rfl | hr
    · exact row7 l h
    · exact rows _ (List.mem_map.mpr ⟨row,hr,rfl⟩)
  have ri:(R.getD i []).length ≤ 42∧∀ t ∈ R.getD i [],Cel t:=by
    by_cases z:i < R.length
    · rw [getD_at z]
      have:=wR _ (List.getElem_mem z)
      exact ⟨by omega,this.2⟩
    · rw [List.getD_eq_getElem?_getD,List.getElem?_eq_none (by omega)]
      exact ⟨Nat.zero_le _,fun t ht=>by simp at ht⟩
  have r0:Cel ((R.getD 0 []).getD 0 .dc):=by
    have z:0 < R.length:=by omega
    have:=wR _ (List.getElem_mem z)
    rw [getD_at z,getD_at (show 0 < R[0].length by omega)]
    exact this.2 _ (List.getElem_mem _)
  unfold thing2
  split
  · refine tabR _ (by rw [List.length_set]; omega) fun t ht=>?_
    rcases mem_setL ht with rfl | ht
    · exact cel_no q _
    · exact ri.2 t ht
  split
  · split
    · exact tabR _ (Nat.le_trans (List.length_eraseIdx_le _ _) (by omega)) fun t ht=>ri.2 t (List.mem_of_mem_eraseIdx ht)
    · refine tabR _ (by rw [List.length_append]; have:=ri.1; show _ + 1 ≤ 100; omega) fun t ht=>?_
      rcases List.mem_append.mp ht with ht | ht
      · exact ri.2 t ht
      · rw [List.mem_singleton.mp ht]; exact r0
  split
  · split
    · refine tab7 (by simp; omega) fun t ht=>?_
      rcases mem_setL ht with rfl | ht
      · exact ⟨trivial,fun t ht=>(ri.2 t ht).2⟩
      · exact rows t ht
    · refine tab7 (by simp; omega) fun t ht=>?_
      rcases mem_setL ht with rfl | ht
      · match (r / 2 % 6).toNat with
        | 0=>exact ⟨⟨Nat.zero_le _,fun t ht=>by simp at ht⟩,fun t ht=>by simp at ht⟩
        | 1=>exact ⟨trivial,trivial⟩
        | 2=>exact ⟨trivial,trivial⟩
        | 3=>exact ⟨trivial,trivial⟩
        | 4=>exact ⟨trivial,trivial⟩
        | 5=>exact ⟨trivial,trivial⟩
        | n + 6=>exact ⟨trivial,trivial⟩
      · exact rows t ht
  split
  · exact ⟨trivial,fun t ht=>(rows t ht).2⟩
  split
  · have emp:RowG7 (.ls []):=⟨⟨Nat.zero_le _,fun t ht=>by simp at ht⟩,fun t ht=>by simp at ht⟩
    match (r % 10).toNat with
    | 0=>exact tab7 (by decide) fun t ht=>by simp at ht
    | 1=>exact tab7 (by decide) fun t ht=>by rw [List.mem_singleton.mp ht]; exact emp
    | 2=>exact ⟨trivial,trivial⟩
    | 3=>exact ⟨trivial,trivial⟩
    | 4=>exact ⟨trivial,trivial⟩
    | 5=>exact ⟨trivial,trivial⟩
    | 6=>exact ⟨trivial,trivial⟩
    | 7=>exact ⟨trivial,fun t ht=>by simp at ht⟩
    | 8=>
      exact tab7 (by decide) fun t ht=>by
        simp only [List.mem_cons,List.not_mem_nil,or_false] at ht
        rcases ht with rfl | rfl <;> exact emp
    | 9=>exact ⟨trivial,trivial⟩
    | n + 10=>exact ⟨trivial,trivial⟩
  · exact tab7 (by simp; omega) rows
theorem thing_ok (ns:List Int) (q:Int):TabOk (thingT ns q)∧(thingT ns q).In 3:=by
  obtain ⟨s1,s2,s3,s4⟩:=szP_bd (drawV ns 1)
  unfold thingT
  refine thing2_ok (by unfold numR; simp; omega) (by unfold numR; simp; omega) (by omega) (fun row hr=>?_) (by omega)
  unfold numR at hr
  obtain ⟨i,_,rfl⟩:=List.mem_map.mp hr
  refine ⟨by simp,fun t ht=>?_⟩
  obtain ⟨j,_,rfl⟩:=List.mem_map.mp ht
  exact cel_num q _
end My
namespace L2
open PySem PySem.Spec PyProof.Rows
section
variable {X:Cx} {N:List Str} {scope:Scope} {cl:List (Str × Addr)} {x y:Str} {px py pos tp:Pos} {tk0:Nat} {iter elt:Expr} {ifs:List Expr} {wi:TI} {ρ:St→St} {tt:TT} {te:TE}
end
end L2
set_option maxRecDepth 100000
set_option maxHeartbeats 4000000
namespace My
open PySem L2
def top (i:Nat):Stmt:=PySem.Challenge.pw_bandwright_k07_tables_known.main.body.getD i (.Pass ⟨0,0,0,0⟩)
abbrev s_is_bounded_list:Stmt:=top 7
abbrev s_is_table_row:Stmt:=top 8
abbrev s_is_table:Stmt:=top 9
abbrev s_one_table_row:Stmt:=top 10
abbrev s_one_table:Stmt:=top 11
abbrev s_is_whole:Stmt:=top 15
abbrev s_common_divisor:Stmt:=top 17
abbrev s_is_prime:Stmt:=top 18
abbrev s_is_ratio:Stmt:=top 20
abbrev s_ratio:Stmt:=top 21
abbrev s_is_remainder:Stmt:=top 25
abbrev s_remainder_back:Stmt:=top 26
abbrev s_remainder_over:Stmt:=top 27
abbrev s_is_fractions:Stmt:=top 30
abbrev s_is_wheel:Stmt:=top 31
abbrev s_b_draw:Stmt:=top 34
abbrev s_b_low:Stmt:=top 35
abbrev s_b_prime:Stmt:=top 36
abbrev s_b_wheel:Stmt:=top 37
abbrev s_b_world:Stmt:=top 38
abbrev s_b_whole:Stmt:=top 39
abbrev s_b_is:Stmt:=top 40
abbrev s_b_number:Stmt:=top 41
abbrev s_b_due:Stmt:=top 42
abbrev s_b_size:Stmt:=top 43
abbrev s_b_no_number:Stmt:=top 44
abbrev s_b_thing:Stmt:=top 45
abbrev s_b_ones:Stmt:=top 46
abbrev s_b_are_ones:Stmt:=top 47
abbrev s_law:Stmt:=top 48
abbrev s_World___init__:Stmt:=inClass (top 32) 0
abbrev s_World_is_number:Stmt:=inClass (top 32) 2
abbrev s_World_of:Stmt:=inClass (top 32) 3
structure Adr where
  f_is_bounded_list:Addr
  d_is_bounded_list:FuncData
  f_is_table_row:Addr
  d_is_table_row:FuncData
  f_is_table:Addr
  d_is_table:FuncData
  f_one_table_row:Addr
  d_one_table_row:FuncData
  f_one_table:Addr
  d_one_table:FuncData
  f_is_whole:Addr
  d_is_whole:FuncData
  f_common_divisor:Addr
  d_common_divisor:FuncData
  f_is_prime:Addr
  d_is_prime:FuncData
  f_is_ratio:Addr
  d_is_ratio:FuncData
  f_ratio:Addr
  d_ratio:FuncData
  f_is_remainder:Addr
  d_is_remainder:FuncData
  f_remainder_back:Addr
  d_remainder_back:FuncData
  f_remainder_over:Addr
  d_remainder_over:FuncData
  f_is_fractions:Addr
  d_is_fractions:FuncData
  f_is_wheel:Addr
  d_is_wheel:FuncData
  f_b_draw:Addr
  d_b_draw:FuncData
  f_b_low:Addr
  d_b_low:FuncData
  f_b_prime:Addr
  d_b_prime:FuncData
  f_b_wheel:Addr
  d_b_wheel:FuncData
  f_b_world:Addr
  d_b_world:FuncData
  f_b_whole:Addr
  d_b_whole:FuncData
  f_b_is:Addr
  d_b_is:FuncData
  f_b_number:Addr
  d_b_number:FuncData
  f_b_due:Addr
  d_b_due:FuncData
  f_b_size:Addr
  d_b_size:FuncData
  f_b_no_number:Addr
  d_b_no_number:FuncData
  f_b_thing:Addr
  d_b_thing:FuncData
  f_b_ones:Addr
  d_b_ones:FuncData
  f_b_are_ones:Addr
  d_b_are_ones:FuncData
  f_law:Addr
  d_law:FuncData
  f_World___init__:Addr
  d_World___init__:FuncData
  f_World_is_number:Addr
  d_World_is_number:FuncData
  f_World_of:Addr
  d_World_of:FuncData
  C_World:Addr
  C_NoWorld:Addr
  C_NoOver:Addr
  C_WrightError:Addr
structure Txt (K:PySem.W.Frag) (mg:Str→Option Value) (t:Adr):Prop where
  F_is_bounded_list:Fun K "is_bounded_list" "is_bounded_list" s_is_bounded_list t.f_is_bounded_list t.d_is_bounded_list
  b_is_bounded_list:Binds K t.d_is_bounded_list ["thing"] []
  mg_is_bounded_list:mg "is_bounded_list" = some (.ref t.f_is_bounded_list)
  F_is_table_row:Fun K "is_table_row" "is_table_row" s_is_table_row t.f_is_table_row t.d_is_table_row
  b_is_table_row:Binds K t.d_is_table_row ["world","thing"] []
  mg_is_table_row:mg "is_table_row" = some (.ref t.f_is_table_row)
  F_is_table:Fun K "is_table" "is_table" s_is_table t.f_is_table t.d_is_table
  b_is_table:Binds K t.d_is_table ["world","thing"] []
  mg_is_table:mg "is_table" = some (.ref t.f_is_table)
  F_one_table_row:Fun K "one_table_row" "one_table_row" s_one_table_row t.f_one_table_row t.d_one_table_row
  b_one_table_row:Binds K t.d_one_table_row ["world","n","place"] []
  mg_one_table_row:mg "one_table_row" = some (.ref t.f_one_table_row)
  F_one_table:Fun K "one_table" "one_table" s_one_table t.f_one_table t.d_one_table
  b_one_table:Binds K t.d_one_table ["world","n"] []
  mg_one_table:mg "one_table" = some (.ref t.f_one_table)
  F_is_whole:Fun K "is_whole" "is_whole" s_is_whole t.f_is_whole t.d_is_whole
  b_is_whole:Binds K t.d_is_whole ["thing"] []
  mg_is_whole:mg "is_whole" = some (.ref t.f_is_whole)
  F_common_divisor:Fun K "common_divisor" "common_divisor" s_common_divisor t.f_common_divisor t.d_common_divisor
  b_common_divisor:Binds K t.d_common_divisor ["one","other"] []
  mg_common_divisor:mg "common_divisor" = some (.ref t.f_common_divisor)
  F_is_prime:Fun K "is_prime" "is_prime" s_is_prime t.f_is_prime t.d_is_prime
  b_is_prime:Binds K t.d_is_prime ["number"] []
  mg_is_prime:mg "is_prime" = some (.ref t.f_is_prime)
  F_is_ratio:Fun K "is_ratio" "is_ratio" s_is_ratio t.f_is_ratio t.d_is_ratio
  b_is_ratio:Binds K t.d_is_ratio ["thing"] []
  mg_is_ratio:mg "is_ratio" = some (.ref t.f_is_ratio)
  F_ratio:Fun K "ratio" "ratio" s_ratio t.f_ratio t.d_ratio
  b_ratio:Binds K t.d_ratio ["top","bottom"] []
  mg_ratio:mg "ratio" = some (.ref t.f_ratio)
  F_is_remainder:Fun K "is_remainder" "is_remainder" s_is_remainder t.f_is_remainder t.d_is_remainder
  b_is_remainder:Binds K t.d_is_remainder ["prime","thing"] []
  mg_is_remainder:mg "is_remainder" = some (.ref t.f_is_remainder)
  F_remainder_back:Fun K "remainder_back" "remainder_back" s_remainder_back t.f_remainder_back t.d_remainder_back
  b_remainder_back:Binds K t.d_remainder_back ["prime","number"] []
  mg_remainder_back:mg "remainder_back" = some (.ref t.f_remainder_back)
  F_remainder_over:Fun K "remainder_over" "remainder_over" s_remainder_over t.f_remainder_over t.d_remainder_over
  b_remainder_over:Binds K t.d_remainder_over ["prime","a","b"] []
  mg_remainder_over:mg "remainder_over" = some (.ref t.f_remainder_over)
  F_is_fractions:Fun K "is_fractions" "is_fractions" s_is_fractions t.f_is_fractions t.d_is_fractions
  b_is_fractions:Binds K t.d_is_fractions ["told"] []
  mg_is_fractions:mg "is_fractions" = some (.ref t.f_is_fractions)
  F_is_wheel:Fun K "is_wheel" "is_wheel" s_is_wheel t.f_is_wheel t.d_is_wheel
  b_is_wheel:Binds K t.d_is_wheel ["told"] []
  mg_is_wheel:mg "is_wheel" = some (.ref t.f_is_wheel)
  F_b_draw:Fun K "_law_b_draw" "_law_b_draw" s_b_draw t.f_b_draw t.d_b_draw
  b_b_draw:Binds K t.d_b_draw ["script","k"] []
  mg_b_draw:mg "_law_b_draw" = some (.ref t.f_b_draw)
  F_b_low:Fun K "_law_b_low" "_law_b_low" s_b_low t.f_b_low t.d_b_low
  b_b_low:Binds K t.d_b_low ["top","bottom"] []
  mg_b_low:mg "_law_b_low" = some (.ref t.f_b_low)
  F_b_prime:Fun K "_law_b_prime" "_law_b_prime" s_b_prime t.f_b_prime t.d_b_prime
  b_b_prime:Binds K t.d_b_prime ["cell"] []
  mg_b_prime:mg "_law_b_prime" = some (.ref t.f_b_prime)
  F_b_wheel:Fun K "_law_b_wheel" "_law_b_wheel" s_b_wheel t.f_b_wheel t.d_b_wheel
  b_b_wheel:Binds K t.d_b_wheel ["draw"] []
  mg_b_wheel:mg "_law_b_wheel" = some (.ref t.f_b_wheel)
  F_b_world:Fun K "_law_b_world" "_law_b_world" s_b_world t.f_b_world t.d_b_world
  b_b_world:Binds K t.d_b_world ["p"] []
  mg_b_world:mg "_law_b_world" = some (.ref t.f_b_world)
  F_b_whole:Fun K "_law_b_whole" "_law_b_whole" s_b_whole t.f_b_whole t.d_b_whole
  b_b_whole:Binds K t.d_b_whole ["thing"] []
  mg_b_whole:mg "_law_b_whole" = some (.ref t.f_b_whole)
  F_b_is:Fun K "_law_b_is" "_law_b_is" s_b_is t.f_b_is t.d_b_is
  b_b_is:Binds K t.d_b_is ["p","thing"] []
  mg_b_is:mg "_law_b_is" = some (.ref t.f_b_is)
  F_b_number:Fun K "_law_b_number" "_law_b_number" s_b_number t.f_b_number t.d_b_number
  b_b_number:Binds K t.d_b_number ["p","draw"] []
  mg_b_number:mg "_law_b_number" = some (.ref t.f_b_number)
  F_b_due:Fun K "_law_b_due" "_law_b_due" s_b_due t.f_b_due t.d_b_due
  b_b_due:Binds K t.d_b_due ["p","thing"] []
  mg_b_due:mg "_law_b_due" = some (.ref t.f_b_due)
  F_b_size:Fun K "_law_b_size" "_law_b_size" s_b_size t.f_b_size t.d_b_size
  b_b_size:Binds K t.d_b_size ["draw"] []
  mg_b_size:mg "_law_b_size" = some (.ref t.f_b_size)
  F_b_no_number:Fun K "_law_b_no_number" "_law_b_no_number" s_b_no_number t.f_b_no_number t.d_b_no_number
  b_b_no_number:Binds K t.d_b_no_number ["p","rest"] []
  mg_b_no_number:mg "_law_b_no_number" = some (.ref t.f_b_no_number)
  F_b_thing:Fun K "_law_b_thing" "_law_b_thing" s_b_thing t.f_b_thing t.d_b_thing
  b_b_thing:Binds K t.d_b_thing ["script","p"] []
  mg_b_thing:mg "_law_b_thing" = some (.ref t.f_b_thing)
  F_b_ones:Fun K "_law_b_ones" "_law_b_ones" s_b_ones t.f_b_ones t.d_b_ones
  b_b_ones:Binds K t.d_b_ones ["p","n"] []
  mg_b_ones:mg "_law_b_ones" = some (.ref t.f_b_ones)
  F_b_are_ones:Fun K "_law_b_are_ones" "_law_b_are_ones" s_b_are_ones t.f_b_are_ones t.d_b_are_ones
  b_b_are_ones:Binds K t.d_b_are_ones ["p","found","n"] []
  mg_b_are_ones:mg "_law_b_are_ones" = some (.ref t.f_b_are_ones)
  F_law:Fun K "law" "law" s_law t.f_law t.d_law
  b_law:Binds K t.d_law ["script"] []
  mg_law:mg "law" = some (.ref t.f_law)
  F_World___init__:Fun K "__init__" "World.__init__" s_World___init__ t.f_World___init__ t.d_World___init__
  b_World___init__:Binds K t.d_World___init__ ["self","told"] []
  M_World:Mk K t.C_World t.f_World___init__
  F_World_is_number:Fun K "is_number" "World.is_number" s_World_is_number t.f_World_is_number t.d_World_is_number
  b_World_is_number:Binds K t.d_World_is_number ["self","thing"] []
  m_World_is_number:Meth K t.C_World "is_number" t.f_World_is_number
  F_World_of:FunD K "of" "World.of" s_World_of 1 t.f_World_of t.d_World_of
  b_World_of:Binds K t.d_World_of ["self","top","bottom"] []
  b1_World_of:∃ v,Vals [V.int 1] [v]∧Binds K t.d_World_of ["self","top","bottom"] [v]
  bk_World_of:∀ (s:Shared) (us ws:List Value),K.In s.heap→ws.length = 1→us.length + 1 = (["self","top","bottom"]:List Str).length→BindsTo s t.d_World_of ⟨us,[("bottom":Str)].zip ws⟩ ((["self","top","bottom"]:List Str).zip (us ++ ws))
  m_World_of:Meth K t.C_World "of" t.f_World_of
  cl_World:Cls K t.C_World
  mg_World:mg "World" = some (.ref t.C_World)
  na_World_prime:NoAttr K t.C_World "prime"
  mg_NoWorld:mg "NoWorld" = some (.ref t.C_NoWorld)
  mg_NoOver:mg "NoOver" = some (.ref t.C_NoOver)
  mg_WrightError:mg "WrightError" = some (.ref t.C_WrightError)
  n_len:mg "len" = none
  n_isinstance:mg "isinstance" = none
  n_int:mg "int" = none
  n_bool:mg "bool" = none
  n_tuple:mg "tuple" = none
  n_list:mg "list" = none
  n_range:mg "range" = none
  n_abs:mg "abs" = none
  n_all:mg "all" = none
  mg_GREATEST_PRIME:∃ u,mg "GREATEST_PRIME" = some u∧RelV (.int 997) u
  mg_LONG:∃ u,mg "LONG" = some u∧RelV (.int 2048) u
  mg_MOST:∃ u,mg "MOST" = some u∧RelV (.int 40) u
  x_NoWorld:PySem.W.excIn K t.C_NoWorld [.type "ValueError",.type "Exception",.type "BaseException",.type "object"] "ValueError.__new__" = true
  x_NoOver:PySem.W.excIn K t.C_NoOver [.type "ValueError",.type "Exception",.type "BaseException",.type "object"] "ValueError.__new__" = true
  x_WrightError:PySem.W.excIn K t.C_WrightError [.type "ValueError",.type "Exception",.type "BaseException",.type "object"] "ValueError.__new__" = true
section
variable {P:Program} {w:World} {K:PySem.W.Frag} {mg:Str→Option Value} {base:Heap} {t:Adr}
theorem sc_is_whole:FnScope ["thing"] ["thing"] (defScope s_is_whole):=⟨rfl,rfl,rfl,by decide +kernel,rfl,by decide +kernel,by decide +kernel⟩
theorem ok_is_whole (T:Txt K mg t):FnOk P w K mg base CX0 1 t.f_is_whole t.d_is_whole ["thing"] spWhole:=by
  have S:=sc_is_whole
  refine T.F_is_whole.ok S (fun vs H Q E h=>?_) (fun cdv A outer s H vs Q E hr h=>?_)
  · obtain ⟨v,rfl,_⟩:=h
    rfl
  · obtain ⟨v,rfl,ha,k⟩:=h
    refine ⟨_,(@pss_one _ _ _ (@ps_ret _ _ _ _ (@pe_and _ _ _ _ _ _ _ (pe_callB (call_isi (K:=K)) rfl T.n_isinstance boot_isinstance (@pa_mor _ _ _ _ _ (by rfl) (pv 0) (@pa_mor _ _ _ _ _ (by rfl) (pe_bltn (v:=.ty "int") rfl T.n_int boot_int rfl) pa_nil))) (@pe_one _ _ _ _ _ (@pe_not _ _ _ _ (pe_callB (call_isi (K:=K)) rfl T.n_isinstance boot_isinstance (@pa_mor _ _ _ _ _ (by rfl) (pv 0) (@pa_mor _ _ _ _ _ (by rfl) (pe_bltn (v:=.ty "bool") rfl T.n_bool boot_bool rfl) pa_nil)))))))),?_⟩
    obtain ⟨Ty,ty,k1,k2,_⟩:=ha.kit (K:=K)
    refine ⟨_,rfl,_,_,_,_,rfl,rfl,ty,k1,_,rfl,ite2 (fun h1=>?_) (fun h1=>?_)⟩
    · refine ⟨_,rfl,_,_,_,_,rfl,rfl,ty,k2,_,rfl,?_⟩
      have e:(!isBlV v) = isIntV v:=by
        cases h2:isBlV v with
        | true=>rw [bl_int h2]; rfl
        | false=>rw [h2,Bool.or_false] at h1; rw [h1]; rfl
      show Q (.bl (!isBlV v)) H
      rw [e]
      exact k
    · have e:isIntV v = false:=by
        cases h2:isIntV v with
        | true=>rw [h2] at h1; exact absurd rfl h1
        | false=>rfl
      rw [e] at k
      exact k
theorem sc_common_divisor:FnScope ["one","other","left","shorter"] ["one","other"] (defScope s_common_divisor):=⟨rfl,rfl,rfl,by decide +kernel,rfl,by decide +kernel,by decide +kernel⟩
theorem ok_common_divisor (T:Txt K mg t):FnOk P w K mg base CX0 1 t.f_common_divisor t.d_common_divisor ["one","other"] spGcd:=by
  have S:=sc_common_divisor
  obtain ⟨uL,hL,rL⟩:=T.mg_LONG
  refine T.F_common_divisor.ok S (fun vs H Q E h=>?_) (fun cdv A outer s H vs Q E hr h=>?_)
  · obtain ⟨a,b,rfl,_⟩:=h
    rfl
  · obtain ⟨a,b,rfl,mb,k⟩:=h
    refine ⟨_,(@pss_cons _ _ _ _ _ (@ps_put _ _ 0 _ _ _ _ (by rfl) (by first | exact .inl rfl | exact .inr rfl | assumption) S.nd rfl (Or.inl rfl) (pe_callB call_abs rfl T.n_abs boot_abs (@pa_mor _ _ _ _ _ (by rfl) (pv 0) pa_nil)))
      (@pss_cons _ _ _ _ _ (@ps_put _ _ 1 _ _ _ _ (by rfl) (by first | exact .inl rfl | exact .inr rfl | assumption) S.nd rfl (Or.inl rfl) (pe_callB call_abs rfl T.n_abs boot_abs (@pa_mor _ _ _ _ _ (by rfl) (pv 1) pa_nil)))
      (@pss_cons _ _ _ _ _ (@ps_while _ _ _ _ _ _ PassesOwn.never (@pt_cmpR _ _ _ _ _ _ _ _ op_gt (pv 1) pe_int (nomark _)) (@pss_cons _ _ _ _ _ (@ps_put _ _ 2 _ _ _ _ (by rfl) (by first | exact .inl rfl | exact .inr rfl | assumption) S.nd rfl (Or.inl rfl) (@pe_op _ _ _ _ _ _ _ _ op_mod (pv 0) (pv 1)))
      (@pss_cons _ _ _ _ _ (@ps_put _ _ 0 _ _ _ _ (by rfl) (by first | exact .inl rfl | exact .inr rfl | assumption) S.nd rfl (Or.inl rfl) (pv 1))
      (@pss_cons _ _ _ _ _ (@ps_put _ _ 1 _ _ _ _ (by rfl) (by first | exact .inl rfl | exact .inr rfl | assumption) S.nd rfl (Or.inl rfl) (pv 2))
      (@pss_one _ _ _ (@ps_if _ _ _ _ _ _ _ _ (@pt_cmpR _ _ _ _ _ _ _ _ op_gt (pe_bm0 PySem.F.plainAttrs_int PySem.F.slot_int_bit_length PySem.F.type_int_bit_length mt_bits (pv 0)) (pe_glob (v:=.int 2048) rfl hL rL) (nomark _)) pss_never pss_nil))))))
      (@pss_one _ _ _ (@ps_ret _ _ _ _ (pv 0)))))),?_⟩
    refine ⟨_,rfl,a,rfl,_,rfl,b,rfl,fun m σ H'=>H' = H∧∃ (x y:Nat) (v u:Option V),σ = [some (.int (x:Int)),some (.int (y:Int)),v,u]∧m = y∧y ≤ b.natAbs∧Nat.gcd x y = Int.gcd a b,⟨b.natAbs,rfl,a.natAbs,b.natAbs,none,none,?_,rfl,Nat.le_refl _,rfl⟩,?_⟩
    · show [some (V.int (if a < 0 then -a else a)),some (V.int (if b < 0 then -b else b)),none,none] = _
      rw [abs_nat,abs_nat]
    · rintro m σ H' ⟨rfl,x,y,v,u,rfl,em,hb,hg⟩
      refine ⟨_,rfl,_,_,rfl,rfl,_,rfl,ite2 (fun hy=>?_) (fun hy=>?_)⟩
      · have hy:(0:Int) < y:=of_decide_eq_true hy
        refine ⟨fun σ' H2=>H2 = H'∧σ' = [some (.int (y:Int)),some (.int (((x % y:Nat)):Int)),some (.int (((x % y:Nat)):Int)),u],?_,?_⟩
        · rintro σ' H2 ⟨rfl,rfl⟩
          exact ⟨x % y,by rw [em]; exact Nat.mod_lt _ (by omega),rfl,y,x % y,_,_,rfl,rfl,Nat.le_trans (Nat.le_of_lt (Nat.mod_lt _ (by omega))) hb,by rw [gcd_step]; exact hg⟩
        · have hm:Mid (y:Int):=Nat.lt_of_le_of_lt (by rw [Int.natAbs_natCast]; exact hb) mb
          have hbt:=bits_mid hm
          refine ⟨_,rfl,_,rfl,_,_,rfl,rfl,hy,_,rfl,_,rfl,_,rfl,rfl,_,rfl,rfl,_,_,rfl,rfl,_,rfl,ite2 (fun hz=>?_) (fun _=>⟨rfl,rfl⟩)⟩
          have hz:=of_decide_eq_true hz
          exact absurd hz (by omega)
      · have hy:¬ (0:Int) < y:=fun z=>hy (decide_eq_true z)
        have y0:y = 0:=by omega
        subst y0
        rw [Nat.gcd_zero_right] at hg
        rw [← hg] at k
        exact ⟨_,rfl,k⟩
theorem sc_is_prime:FnScope ["number","divisor"] ["number"] (defScope s_is_prime):=⟨rfl,rfl,rfl,by decide +kernel,rfl,by decide +kernel,by decide +kernel⟩
theorem ok_is_prime (T:Txt K mg t):FnOk P w K mg base CX0 1 t.f_is_prime t.d_is_prime ["number"] spPrime:=by
  have S:=sc_is_prime
  refine T.F_is_prime.ok S (fun vs H Q E h=>?_) (fun cdv A outer s H vs Q E hr h=>?_)
  · obtain ⟨n,rfl,_⟩:=h
    rfl
  · obtain ⟨n,rfl,hn1,hn2,k⟩:=h
    refine ⟨_,(@pss_cons _ _ _ _ _ (@ps_put _ _ 1 _ _ _ _ (by rfl) (by first | exact .inl rfl | exact .inr rfl | assumption) S.nd rfl (Or.inl rfl) pe_int)
      (@pss_cons _ _ _ _ _ (@ps_while _ _ _ _ _ _ PassesOwn.never (@pt_cmpR _ _ _ _ _ _ _ _ op_le (@pe_op _ _ _ _ _ _ _ _ op_mul (pv 1) (pv 1)) (pv 0) (nomark _)) (@pss_cons _ _ _ _ _ (@ps_if _ _ _ _ _ _ _ _ (@pt_cmpR _ _ _ _ _ _ _ _ op_eq (@pe_op _ _ _ _ _ _ _ _ op_mod (pv 0) (pv 1)) pe_int (nomark _)) (@pss_one _ _ _ (@ps_ret _ _ _ _ pe_bl)) pss_nil)
      (@pss_one _ _ _ (ps_aug (i:=1) S.nd rfl (Or.inl rfl) pe_int ip_add))))
      (@pss_one _ _ _ (@ps_ret _ _ _ _ (@pe_cmpR _ _ _ _ _ _ _ _ op_ge (pv 0) pe_int (nomark _)))))),?_⟩
    refine ⟨fun m σ H'=>H' = H∧∃ d:Int,σ = [some (.int n),some (.int d)]∧2 ≤ d∧d ≤ 32∧m = (33 - d).toNat∧∀ e:Int,2 ≤ e→e < d→n % e ≠ 0,⟨_,rfl,2,rfl,by omega,by omega,rfl,fun e a b=>by omega⟩,?_⟩
    rintro m σ H' ⟨rfl,d,rfl,h1,h2,rfl,h3⟩
    refine ⟨_,rfl,_,rfl,_,_,rfl,rfl,.inl ⟨by omega,by omega⟩,_,rfl,_,_,rfl,rfl,_,rfl,ite2 (fun hq=>?_) (fun hq=>?_)⟩
    · have hq:=of_decide_eq_true hq
      have hd:d < 32:=by
        by_cases z:d < 32
        · exact z
        · have:d = 32:=by omega
          subst this
          omega
      refine ⟨fun σ' H2=>H2 = H'∧σ' = [some (.int n),some (.int (d + 1))]∧n % d ≠ 0,?_,?_⟩
      · rintro σ' H2 ⟨rfl,rfl,hm⟩
        refine ⟨(33 - (d + 1)).toNat,by omega,rfl,d + 1,rfl,by omega,by omega,rfl,fun e a b=>?_⟩
        by_cases z:e = d
        · subst z; exact hm
        · exact h3 e a (by omega)
      · refine ⟨_,rfl,_,rfl,_,_,rfl,rfl,(show (0:Int) < d by omega),rfl,_,rfl,ite2 (fun hm=>?_) (fun hm=>?_)⟩
        · have hm:=V.int.inj (of_decide_eq_true hm)
          rw [primeB_no hn2 h1 hq hm] at k
          exact k
        · exact ⟨_,rfl,_,_,rfl,rfl,rfl,rfl,fun z=>hm (decide_eq_true (congrArg V.int z))⟩
    · have hq:¬ d * d ≤ n:=fun z=>hq (decide_eq_true z)
      refine ⟨_,rfl,_,_,rfl,rfl,?_⟩
      rw [primeB_yes (n:=n) (d:=d) (by omega) h1 h3] at k
      have e:decide ((2:Int) ≤ n) = true:=decide_eq_true hn1
      show Q (.bl (decide ((2:Int) ≤ n))) H'
      rw [e]
      exact k
theorem sc_is_ratio:FnScope ["thing"] ["thing"] (defScope s_is_ratio):=⟨rfl,rfl,rfl,by decide +kernel,rfl,by decide +kernel,by decide +kernel⟩
theorem ok_is_ratio (T:Txt K mg t):FnOk P w K mg base CX0 2 t.f_is_ratio t.d_is_ratio ["thing"] spIsRatio:=by
  have S:=sc_is_ratio
  have G_is_whole:=ok_is_whole (P:=P) (w:=w) (base:=base) T
  have G_common_divisor:=ok_common_divisor (P:=P) (w:=w) (base:=base) T
  refine T.F_is_ratio.ok S (fun vs H Q E h=>?_) (fun cdv A outer s H vs Q E hr h=>?_)
  · obtain ⟨v,rfl,_⟩:=h
    rfl
  · obtain ⟨v,rfl,hv,k⟩:=h
    refine ⟨_,(@pss_cons _ _ _ _ _ (@ps_if _ _ _ _ _ _ _ _ (PW.pt (@pw_or _ _ _ _ _ _ _ (@pt_not _ _ _ _ (pt_val (pe_callB (call_isi (K:=K)) rfl T.n_isinstance boot_isinstance (@pa_mor _ _ _ _ _ (by rfl) (pv 0) (@pa_mor _ _ _ _ _ (by rfl) (pe_bltn (v:=.ty "tuple") rfl T.n_tuple boot_tuple rfl) pa_nil))))) (@pw_or1 _ _ _ _ (@pt_cmpR _ _ _ _ _ _ _ _ op_ne (pe_callB call_len_seq rfl T.n_len boot_len (@pa_mor _ _ _ _ _ (by rfl) (pv 0) pa_nil)) pe_int (nomark _))))) (@pss_one _ _ _ (@ps_ret _ _ _ _ pe_bl)) pss_nil)
      (@pss_cons _ _ _ _ _ (@ps_if _ _ _ _ _ _ _ _ (PW.pt (@pw_or _ _ _ _ _ _ _ (@pt_not _ _ _ _ (pt_val (pe_call G_is_whole (hr.mono (by decide)) rfl T.mg_is_whole T.F_is_whole.kp T.b_is_whole .nil pass0 (@pa_mor _ _ _ _ _ (by rfl) (@pe_ix _ _ _ _ _ _ _ ix_tup (pv 0) pe_int (fun _ _=>rfl)) pa_nil)))) (@pw_or1 _ _ _ _ (@pt_not _ _ _ _ (pt_val (pe_call G_is_whole (hr.mono (by decide)) rfl T.mg_is_whole T.F_is_whole.kp T.b_is_whole .nil pass0 (@pa_mor _ _ _ _ _ (by rfl) (@pe_ix _ _ _ _ _ _ _ ix_tup (pv 0) pe_int (fun _ _=>rfl)) pa_nil))))))) (@pss_one _ _ _ (@ps_ret _ _ _ _ pe_bl)) pss_nil)
      (@pss_one _ _ _ (@ps_ret _ _ _ _ (@pe_and _ _ _ _ _ _ _ (@pe_cmpR _ _ _ _ _ _ _ _ op_ge (@pe_ix _ _ _ _ _ _ _ ix_tup (pv 0) pe_int (fun _ _=>rfl)) pe_int (nomark _)) (@pe_one _ _ _ _ _ (@pe_cmpR _ _ _ _ _ _ _ _ op_eq (pe_call G_common_divisor (hr.mono (by decide)) rfl T.mg_common_divisor T.F_common_divisor.kp T.b_common_divisor .nil pass0 (@pa_mor _ _ _ _ _ (by rfl) (@pe_ix _ _ _ _ _ _ _ ix_tup (pv 0) pe_int (fun _ _=>rfl)) (@pa_mor _ _ _ _ _ (by rfl) (@pe_ix _ _ _ _ _ _ _ ix_tup (pv 0) pe_int (fun _ _=>rfl)) pa_nil))) pe_int (nomark _)))))))),?_⟩
    obtain ⟨Ty,ty,_,_,k3⟩:=hv.any.kit (K:=K)
    refine ⟨_,rfl,_,_,_,_,rfl,rfl,ty,k3,_,rfl,ite2 (fun h1=>?_) (fun h1=>?_)⟩
    · have h1:isTupV H v = false:=by simpa using h1
      rw [ratioB_no h1] at k
      exact iteT k
    · have h1:isTupV H v = true:=by simpa using h1
      obtain ⟨a,xs,rfl,e⟩:∃ a xs,v = .ref a∧H a = some (.tup xs):=by
        cases hv.any with
        | @tup a xs e=>exact ⟨a,xs,rfl,e⟩
        | @lst a xs e=>unfold isTupV at h1; dsimp only at h1; rw [e] at h1; cases h1
        | @dct a e=>unfold isTupV at h1; dsimp only at h1; rw [e] at h1; cases h1
        | _=>cases h1
      refine ⟨_,rfl,a,xs,rfl,.inr (.of e),rfl,_,rfl,ite2 (fun h2=>?_) (fun h2=>?_)⟩
      · have h2:xs.length ≠ 2:=fun z=>by rw [z] at h2; cases h2
        rw [ratioB_len e h2] at k
        exact k
      · have h2:xs.length = 2:=by
          by_cases z:xs.length = 2
          · exact z
          · refine absurd ?_ h2
            have z':¬ V.int (xs.length:Int) = V.int 2:=fun y=>z (by have:=V.int.inj y; omega)
            rw [decide_eq_false z']
            rfl
        match xs,h2,e,k with
        | [x,y],_,e,k=>
          obtain ⟨ax,ay,a3⟩:=hv.two a x y rfl e
          rw [ratioB_pair e] at k
          refine ⟨_,rfl,a,_,0,x,rfl,rfl,.of e,rfl,x,rfl,ax,_,rfl,ite2 (fun h3=>?_) (fun h3=>?_)⟩
          · have h3:isIntV x = false:=by simpa using h3
            have e1:pairB x y = false:=by cases x <;> first | rfl | cases h3
            rw [e1] at k
            exact iteT k
          · have h3:isIntV x = true:=by simpa using h3
            refine ⟨_,rfl,a,_,1,y,rfl,rfl,.of e,rfl,y,rfl,ay,_,rfl,ite2 (fun h4=>?_) (fun h4=>?_)⟩
            · have h4:isIntV y = false:=by simpa using h4
              have e1:pairB x y = false:=by cases y <;> first | (cases x <;> rfl) | cases h4
              rw [e1] at k
              exact k
            · have h4:isIntV y = true:=by simpa using h4
              cases x with
              | int i=>
                cases y with
                | int j=>
                  refine ⟨_,rfl,a,_,1,.int j,rfl,rfl,.of e,rfl,_,_,rfl,rfl,_,rfl,ite2 (fun h5=>?_) (fun h5=>?_)⟩
                  · have h5:=of_decide_eq_true h5
                    refine ⟨_,rfl,a,_,0,.int i,rfl,rfl,.of e,rfl,_,rfl,a,_,1,.int j,rfl,rfl,.of e,rfl,i,j,rfl,a3 j rfl,rfl,?_⟩
                    have e1:pairB (.int i) (.int j) = decide (V.int (Int.gcd i j:Int) = V.int 1):=by
                      rw [dV_int]
                      show (decide (1 ≤ j) && decide (Int.gcd i j = 1)) = _
                      rw [decide_eq_true h5,Bool.true_and]
                      exact decide_eq_decide.mpr (by omega)
                    rw [e1] at k
                    exact k
                  · have h5:¬ 1 ≤ j:=fun z=>h5 (decide_eq_true z)
                    have e1:pairB (.int i) (.int j) = false:=by
                      show (decide (1 ≤ j) && decide (Int.gcd i j = 1)) = _
                      rw [decide_eq_false h5]; rfl
                    rw [e1] at k
                    exact k
                | _=>cases h4
              | _=>cases h3
theorem sc_is_remainder:FnScope ["prime","thing"] ["prime","thing"] (defScope s_is_remainder):=⟨rfl,rfl,rfl,by decide +kernel,rfl,by decide +kernel,by decide +kernel⟩
theorem ok_is_remainder (T:Txt K mg t):FnOk P w K mg base CX0 2 t.f_is_remainder t.d_is_remainder ["prime","thing"] spIsRem:=by
  have S:=sc_is_remainder
  have G_is_whole:=ok_is_whole (P:=P) (w:=w) (base:=base) T
  refine T.F_is_remainder.ok S (fun vs H Q E h=>?_) (fun cdv A outer s H vs Q E hr h=>?_)
  · obtain ⟨p,v,rfl,_⟩:=h
    rfl
  · obtain ⟨p,v,rfl,hv,k⟩:=h
    refine ⟨_,(@pss_one _ _ _ (@ps_ret _ _ _ _ (@pe_and _ _ _ _ _ _ _ (pe_call G_is_whole (hr.mono (by decide)) rfl T.mg_is_whole T.F_is_whole.kp T.b_is_whole .nil pass0 (@pa_mor _ _ _ _ _ (by rfl) (pv 1) pa_nil)) (@pe_one _ _ _ _ _ (pe_chain op_le op_lt pe_int (pv 1) (pv 0)))))),?_⟩
    refine ⟨_,rfl,v,rfl,hv,_,rfl,ite2 (fun h1=>?_) (fun h1=>?_)⟩
    · cases v with
      | int i=>
        refine ⟨_,rfl,_,_,rfl,rfl,_,rfl,ite2 (fun h2=>?_) (fun h2=>?_)⟩
        · have e:remB p (.int i) = decide (i < p):=by
            show (decide (0 ≤ i) && decide (i < p)) = _
            rw [h2,Bool.true_and]
          rw [e] at k
          exact ⟨_,rfl,_,_,rfl,rfl,k⟩
        · have e:remB p (.int i) = false:=by
            show (decide (0 ≤ i) && decide (i < p)) = _
            have h2:decide (0 ≤ i) = false:=by simpa using h2
            rw [h2,Bool.false_and]
          rw [e] at k
          exact k
      | _=>cases h1
    · have e:remB p v = false:=by cases v <;> first | rfl | exact absurd rfl h1
      rw [e] at k
      exact k
theorem sc_is_fractions:FnScope ["told"] ["told"] (defScope s_is_fractions):=⟨rfl,rfl,rfl,by decide +kernel,rfl,by decide +kernel,by decide +kernel⟩
theorem ok_is_fractions (T:Txt K mg t):FnOk P w K mg base CX0 1 t.f_is_fractions t.d_is_fractions ["told"] spIsF:=by
  have S:=sc_is_fractions
  refine T.F_is_fractions.ok S (fun vs H Q E h=>?_) (fun cdv A outer s H vs Q E hr h=>?_)
  · obtain ⟨p,d,rfl,_⟩:=h
    rfl
  · obtain ⟨p,d,rfl,hp,k⟩:=h
    refine ⟨_,(@pss_one _ _ _ (@ps_ret _ _ _ _ (@pe_and _ _ _ _ _ _ _ (pe_callB (call_isi (K:=K)) rfl T.n_isinstance boot_isinstance (@pa_mor _ _ _ _ _ (by rfl) (pv 0) (@pa_mor _ _ _ _ _ (by rfl) (pe_bltn (v:=.ty "tuple") rfl T.n_tuple boot_tuple rfl) pa_nil))) (@pe_and _ _ _ _ _ _ _ (@pe_cmpR _ _ _ _ _ _ _ _ op_eq (pe_callB call_len_seq rfl T.n_len boot_len (@pa_mor _ _ _ _ _ (by rfl) (pv 0) pa_nil)) pe_int (nomark _)) (@pe_one _ _ _ _ _ (@pe_cmpR _ _ _ _ _ _ _ _ op_eq (@pe_ix _ _ _ _ _ _ _ ix_tup (pv 0) pe_int (fun _ _=>rfl)) pe_str (nomark _))))))),?_⟩
    refine ⟨_,rfl,_,_,_,true,rfl,rfl,.of (.tup hp),kit_same,true,rfl,iteT ?_⟩
    cases d with
    | a x=>
      refine ⟨_,rfl,p,_,rfl,.inr (.of hp),rfl,true,rfl,iteT ?_⟩
      refine ⟨_,rfl,p,_,0,.str x,rfl,rfl,.of hp,rfl,rfl,?_⟩
      rw [dV_str]
      exact k
    | b x n=>
      exact ⟨_,rfl,p,_,rfl,.inr (.of hp),rfl,false,rfl,iteF k⟩
theorem sc_is_wheel:FnScope ["told"] ["told"] (defScope s_is_wheel):=⟨rfl,rfl,rfl,by decide +kernel,rfl,by decide +kernel,by decide +kernel⟩
theorem ok_is_wheel (T:Txt K mg t):FnOk P w K mg base CX0 2 t.f_is_wheel t.d_is_wheel ["told"] spIsW:=by
  have S:=sc_is_wheel
  have G_is_whole:=ok_is_whole (P:=P) (w:=w) (base:=base) T
  have G_is_prime:=ok_is_prime (P:=P) (w:=w) (base:=base) T
  obtain ⟨uG,hG,rG⟩:=T.mg_GREATEST_PRIME
  refine T.F_is_wheel.ok S (fun vs H Q E h=>?_) (fun cdv A outer s H vs Q E hr h=>?_)
  · obtain ⟨p,d,rfl,_⟩:=h
    rfl
  · obtain ⟨p,d,rfl,hp,k⟩:=h
    refine ⟨_,(@pss_cons _ _ _ _ _ (@ps_if _ _ _ _ _ _ _ _ (PW.pt (@pw_or _ _ _ _ _ _ _ (@pt_not _ _ _ _ (pt_val (pe_callB (call_isi (K:=K)) rfl T.n_isinstance boot_isinstance (@pa_mor _ _ _ _ _ (by rfl) (pv 0) (@pa_mor _ _ _ _ _ (by rfl) (pe_bltn (v:=.ty "tuple") rfl T.n_tuple boot_tuple rfl) pa_nil))))) (@pw_or _ _ _ _ _ _ _ (@pt_cmpR _ _ _ _ _ _ _ _ op_ne (pe_callB call_len_seq rfl T.n_len boot_len (@pa_mor _ _ _ _ _ (by rfl) (pv 0) pa_nil)) pe_int (nomark _)) (@pw_or1 _ _ _ _ (@pt_cmpR _ _ _ _ _ _ _ _ op_ne (@pe_ix _ _ _ _ _ _ _ ix_tup (pv 0) pe_int (fun _ _=>rfl)) pe_str (nomark _)))))) (@pss_one _ _ _ (@ps_ret _ _ _ _ pe_bl)) pss_nil)
      (@pss_one _ _ _ (@ps_ret _ _ _ _ (@pe_and _ _ _ _ _ _ _ (pe_call G_is_whole (hr.mono (by decide)) rfl T.mg_is_whole T.F_is_whole.kp T.b_is_whole .nil pass0 (@pa_mor _ _ _ _ _ (by rfl) (@pe_ix _ _ _ _ _ _ _ ix_tup (pv 0) pe_int (fun _ _=>rfl)) pa_nil)) (@pe_and _ _ _ _ _ _ _ (pe_chain op_le op_le pe_int (@pe_ix _ _ _ _ _ _ _ ix_tup (pv 0) pe_int (fun _ _=>rfl)) (pe_glob (v:=.int 997) rfl hG rG)) (@pe_one _ _ _ _ _ (pe_call G_is_prime (hr.mono (by decide)) rfl T.mg_is_prime T.F_is_prime.kp T.b_is_prime .nil pass0 (@pa_mor _ _ _ _ _ (by rfl) (@pe_ix _ _ _ _ _ _ _ ix_tup (pv 0) pe_int (fun _ _=>rfl)) pa_nil)))))))),?_⟩
    refine ⟨_,rfl,_,_,_,true,rfl,rfl,.of (.tup hp),kit_same,true,rfl,iteF ?_⟩
    cases d with
    | a x=>exact ⟨_,rfl,p,_,rfl,.inr (.of hp),rfl,true,rfl,iteT (iteT k)⟩
    | b x n=>
      refine ⟨_,rfl,p,_,rfl,.inr (.of hp),rfl,false,rfl,iteF ?_⟩
      refine ⟨_,rfl,p,_,0,.str x,rfl,rfl,.of hp,rfl,rfl,_,rfl,ite2 (fun hw=>?_) (fun hw=>?_)⟩
      · have hw:¬ x = "wheel":=by
          rw [dV_str] at hw
          simpa using hw
        have e:(Td.b x n).isW = false:=by simp [Td.isW,hw]
        rw [e] at k
        exact k
      · have hw:x = "wheel":=by
          rw [dV_str] at hw
          simpa using hw
        refine ⟨_,rfl,p,_,1,.int n,rfl,rfl,.of hp,rfl,.int n,rfl,.int n,true,rfl,iteT ?_⟩
        refine ⟨_,rfl,p,_,1,.int n,rfl,rfl,.of hp,rfl,_,_,rfl,rfl,_,rfl,?_⟩
        refine ite2 (fun h2=>?_) (fun h2=>?_)
        · have h2:=of_decide_eq_true h2
          refine ⟨_,_,rfl,rfl,_,rfl,ite2 (fun h3=>?_) (fun h3=>?_)⟩
          · have h3:=of_decide_eq_true h3
            refine ⟨_,rfl,p,_,1,.int n,rfl,rfl,.of hp,rfl,n,rfl,h2,h3,?_⟩
            have e:(Td.b x n).isW = primeB n:=by simp [Td.isW,hw,h2,h3]
            rw [e] at k
            exact k
          · have h3:¬ n ≤ 997:=fun z=>h3 (decide_eq_true z)
            have e:(Td.b x n).isW = false:=by simp [Td.isW,h3]
            rw [e] at k
            exact k
        · have h2:¬ 2 ≤ n:=fun z=>h2 (decide_eq_true z)
          have e:(Td.b x n).isW = false:=by simp [Td.isW,h2]
          rw [e] at k
          exact ⟨false,rfl,iteF k⟩
theorem sc_init:FnScope ["self","told"] ["self","told"] (defScope s_World___init__):=⟨rfl,rfl,rfl,by decide +kernel,rfl,by decide +kernel,by decide +kernel⟩
theorem ok_init (T:Txt K mg t):FnOk P w K mg base (CXF P w) 3 t.f_World___init__ t.d_World___init__ ["self","told"] (spInit t.C_World t.C_NoWorld):=by
  have S:=sc_init
  have G_is_fractions:=ok_is_fractions (P:=P) (w:=w) (base:=base) T
  have G_is_wheel:=ok_is_wheel (P:=P) (w:=w) (base:=base) T
  refine T.F_World___init__.okX S (fun vs H Q E h=>?_) (fun cdv A outer s H vs Q E hr h L=>?_)
  · obtain ⟨x,dx,p,d,rfl,_⟩:=h
    rfl
  · obtain ⟨x,dx,p,d,rfl,hx,hp,k1,k2⟩:=h
    refine ⟨_,(@pss_one _ _ _ (@ps_if _ _ _ _ _ _ _ _ (pt_val (pe_call G_is_fractions (hr.mono (by decide)) rfl T.mg_is_fractions T.F_is_fractions.kp T.b_is_fractions .nil pass0 (@pa_mor _ _ _ _ _ (by rfl) (pv 1) pa_nil))) (@pss_one _ _ _ (@ps_fld _ _ _ _ _ _ _ _ (pv 0) pe_non rfl)) (@pss_one _ _ _ (@ps_if _ _ _ _ _ _ _ _ (pt_val (pe_call G_is_wheel (hr.mono (by decide)) rfl T.mg_is_wheel T.F_is_wheel.kp T.b_is_wheel .nil pass0 (@pa_mor _ _ _ _ _ (by rfl) (pv 1) pa_nil))) (@pss_one _ _ _ (@ps_fld _ _ _ _ _ _ _ _ (pv 0) (@pe_ix _ _ _ _ _ _ _ ix_tup (pv 1) pe_int (fun _ _=>rfl)) rfl)) (@pss_one _ _ _ (ps_raise L rfl PySem.F.excBase_ValueError T.x_NoWorld rfl T.mg_NoWorld (@pa_mor _ _ _ _ _ (by rfl) pe_str pa_nil))))))),?_⟩
    refine ⟨_,rfl,p,d,rfl,hp,_,rfl,ite2 (fun hF=>?_) (fun hF=>?_)⟩
    · refine ⟨_,rfl,x,t.C_World,dx,[],rfl,hx,T.cl_World,T.na_World_prime,(by show 0 < 1000; decide),?_⟩
      have e:d.prime = .non:=by
        cases d with
        | a x=>rfl
        | b x n=>cases hF
      have k:=k1 (by unfold Td.good; rw [hF]; rfl)
      rw [e] at k
      exact k
    · have hF:d.isF = false:=by simpa using hF
      refine ⟨_,rfl,p,d,rfl,hp,_,rfl,ite2 (fun hW=>?_) (fun hW=>?_)⟩
      · have k:=k1 (by unfold Td.good; rw [hW,Bool.or_true])
        cases d with
        | a x=>cases hW
        | b y n=>
          exact ⟨_,rfl,p,_,1,.int n,rfl,rfl,.of hp,rfl,_,rfl,x,t.C_World,dx,[],rfl,hx,T.cl_World,T.na_World_prime,(by show 0 < 1000; decide),k⟩
      · have hW:d.isW = false:=by simpa using hW
        exact ⟨by show 1 ≤ sizeLine; decide,k2 (by unfold Td.good; rw [hF,hW]; rfl)⟩
theorem sc_is_number:FnScope ["self","thing"] ["self","thing"] (defScope s_World_is_number):=⟨rfl,rfl,rfl,by decide +kernel,rfl,by decide +kernel,by decide +kernel⟩
theorem ok_is_number (T:Txt K mg t):FnOk P w K mg base CX0 3 t.f_World_is_number t.d_World_is_number ["self","thing"] (spIsNum t.C_World):=by
  have S:=sc_is_number
  have G_is_ratio:=ok_is_ratio (P:=P) (w:=w) (base:=base) T
  have G_is_remainder:=ok_is_remainder (P:=P) (w:=w) (base:=base) T
  refine T.F_World_is_number.ok S (fun vs H Q E h=>?_) (fun cdv A outer s H vs Q E hr h=>?_)
  · obtain ⟨x,q,v,rfl,_⟩:=h
    rfl
  · obtain ⟨x,q,v,rfl,⟨dx,hx⟩,hv,k⟩:=h
    refine ⟨_,(@pss_cons _ _ _ _ _ (@ps_if _ _ _ _ _ _ _ _ (@pt_cmpR _ _ _ _ _ _ _ _ op_isN (@pe_fld _ _ _ _ _ (pv 0) rfl) pe_non (nomark _)) (@pss_one _ _ _ (@ps_ret _ _ _ _ (pe_call G_is_ratio (hr.mono (by decide)) rfl T.mg_is_ratio T.F_is_ratio.kp T.b_is_ratio .nil pass0 (@pa_mor _ _ _ _ _ (by rfl) (pv 1) pa_nil)))) pss_nil)
      (@pss_one _ _ _ (@ps_ret _ _ _ _ (pe_call G_is_remainder (hr.mono (by decide)) rfl T.mg_is_remainder T.F_is_remainder.kp T.b_is_remainder .nil pass0 (@pa_mor _ _ _ _ _ (by rfl) (@pe_fld _ _ _ _ _ (pv 0) rfl) (@pa_mor _ _ _ _ _ (by rfl) (pv 1) pa_nil)))))),?_⟩
    refine ⟨_,rfl,x,t.C_World,dx,_,_,rfl,hx,T.cl_World,T.na_World_prime,lk_prime _,rfl,_,rfl,?_⟩
    unfold isB at k
    by_cases hq:q = 0
    · rw [if_pos hq] at k
      rw [if_pos hq]
      exact iteT ⟨_,rfl,v,rfl,hv,k⟩
    · rw [if_neg hq] at k
      rw [if_neg hq] at hx ⊢
      exact iteF ⟨_,rfl,x,t.C_World,dx,_,_,rfl,hx,T.cl_World,T.na_World_prime,lk_prime _,_,rfl,q,v,rfl,hv.any,k⟩
theorem sc_ratio:FnScope ["top","bottom","shared"] ["top","bottom"] (defScope s_ratio):=⟨rfl,rfl,rfl,by decide +kernel,rfl,by decide +kernel,by decide +kernel⟩
theorem ok_ratio (T:Txt K mg t):FnOk P w K mg base (CXF P w) 2 t.f_ratio t.d_ratio ["top","bottom"] (spRatio t.C_NoOver):=by
  have S:=sc_ratio
  have G_common_divisor:=ok_common_divisor (P:=P) (w:=w) (base:=base) T
  refine T.F_ratio.okX S (fun vs H Q E h=>?_) (fun cdv A outer s H vs Q E hr h L=>?_)
  · obtain ⟨a,b,rfl,_⟩:=h
    rfl
  · obtain ⟨a,b,rfl,mb,kE,k⟩:=h
    refine ⟨_,(@pss_cons _ _ _ _ _ (@ps_if _ _ _ _ _ _ _ _ (@pt_cmpR _ _ _ _ _ _ _ _ op_eq (pv 1) pe_int (nomark _)) (@pss_one _ _ _ (ps_raise L rfl PySem.F.excBase_ValueError T.x_NoOver rfl T.mg_NoOver (@pa_mor _ _ _ _ _ (by rfl) pe_str pa_nil))) pss_nil)
      (PSs.nox (@pss_cons _ _ _ _ _ (@ps_put _ _ 2 _ _ _ _ (by rfl) (by first | exact .inl rfl | exact .inr rfl | assumption) S.nd rfl (Or.inl rfl) (pe_call G_common_divisor (hr.mono (by decide)) rfl T.mg_common_divisor T.F_common_divisor.kp T.b_common_divisor .nil pass0 (@pa_mor _ _ _ _ _ (by rfl) (pv 0) (@pa_mor _ _ _ _ _ (by rfl) (pv 1) pa_nil))))
      (@pss_cons _ _ _ _ _ (@ps_if _ _ _ _ _ _ _ _ (@pt_cmpR _ _ _ _ _ _ _ _ op_lt (pv 1) pe_int (nomark _)) (@pss_one _ _ _ (@ps_put _ _ 2 _ _ _ _ (by rfl) (by first | exact .inl rfl | exact .inr rfl | assumption) S.nd rfl (Or.inl rfl) (@pe_un _ _ _ _ _ _ un_neg (pv 2)))) pss_nil)
      (@pss_one _ _ _ (@ps_ret _ _ _ _ (@pe_tup _ _ _ _ _ (@pa_mor _ _ _ _ _ (by rfl) (@pe_op _ _ _ _ _ _ _ _ op_fdivM (pv 0) (pv 2)) (@pa_mor _ _ _ _ _ (by rfl) (@pe_op _ _ _ _ _ _ _ _ op_fdivM (pv 1) (pv 2)) pa_nil))))))))),?_⟩
    have n2:2 ≤ sizeLine:=by decide
    refine ⟨_,rfl,rfl,_,rfl,ite2 (fun hz=>?_) (fun hz=>?_)⟩
    · have hz:b = 0:=V.int.inj (of_decide_eq_true hz)
      exact ⟨by show 1 ≤ sizeLine; decide,kE hz⟩
    have hz:b ≠ 0:=fun z=>hz (decide_eq_true (by rw [z]))
    have ok:=lowG_ok (a:=a) hz mb
    have kk:=k hz
    unfold lowU lowD at kk
    refine ⟨_,rfl,_,rfl,a,b,rfl,mb,_,rfl,_,_,rfl,rfl,_,rfl,ite2 (fun hn=>?_) (fun hn=>?_)⟩
    · have hn:b < 0:=of_decide_eq_true hn
      have e:lowG a b = -(Int.gcd a b:Int):=by unfold lowG; rw [if_pos hn,Int.zero_sub]
      rw [e] at ok kk
      refine ⟨_,rfl,_,rfl,_,rfl,_,rfl,_,_,rfl,rfl,ok,_,rfl,_,rfl,_,_,rfl,rfl,ok,n2,fun r hr=>kk r _ (same_upd hr) upd_same⟩
    · have hn:¬ b < 0:=fun z=>hn (decide_eq_true z)
      have e:lowG a b = (Int.gcd a b:Int):=by unfold lowG; rw [if_neg hn]
      rw [e] at ok kk
      refine ⟨_,rfl,_,rfl,_,_,rfl,rfl,ok,_,rfl,_,rfl,_,_,rfl,rfl,ok,n2,fun r hr=>kk r _ (same_upd hr) upd_same⟩
theorem sc_remainder_back:FnScope ["prime","number","last","last_times","now","now_times","fits","left","left_times"] ["prime","number"] (defScope s_remainder_back):=⟨rfl,rfl,rfl,by decide +kernel,rfl,by decide +kernel,by decide +kernel⟩
theorem ok_remainder_back (T:Txt K mg t):FnOk P w K mg base (CXF P w) 1 t.f_remainder_back t.d_remainder_back ["prime","number"] (spBack t.C_NoOver):=by
  have S:=sc_remainder_back
  refine T.F_remainder_back.okX S (fun vs H Q E h=>?_) (fun cdv A outer s H vs Q E hr h L=>?_)
  · obtain ⟨q,b,rfl,_⟩:=h
    rfl
  · obtain ⟨q,b,rfl,q1,q2,q3,b0,b1,kE,k⟩:=h
    refine ⟨_,(@pss_cons _ _ _ _ _ (@ps_if _ _ _ _ _ _ _ _ (@pt_cmpR _ _ _ _ _ _ _ _ op_eq (pv 1) pe_int (nomark _)) (@pss_one _ _ _ (ps_raise L rfl PySem.F.excBase_ValueError T.x_NoOver rfl T.mg_NoOver (@pa_mor _ _ _ _ _ (by rfl) pe_str pa_nil))) pss_nil)
      (PSs.nox (@pss_cons _ _ _ _ _ (@ps_put _ _ 2 _ _ _ _ (by rfl) (by first | exact .inl rfl | exact .inr rfl | assumption) S.nd rfl (Or.inl rfl) (pv 0))
      (@pss_cons _ _ _ _ _ (@ps_put _ _ 3 _ _ _ _ (by rfl) (by first | exact .inl rfl | exact .inr rfl | assumption) S.nd rfl (Or.inl rfl) pe_int)
      (@pss_cons _ _ _ _ _ (@ps_put _ _ 4 _ _ _ _ (by rfl) (by first | exact .inl rfl | exact .inr rfl | assumption) S.nd rfl (Or.inl rfl) (pv 1))
      (@pss_cons _ _ _ _ _ (@ps_put _ _ 5 _ _ _ _ (by rfl) (by first | exact .inl rfl | exact .inr rfl | assumption) S.nd rfl (Or.inl rfl) pe_int)
      (@pss_cons _ _ _ _ _ (@ps_while _ _ _ _ _ _ PassesOwn.never (@pt_cmpR _ _ _ _ _ _ _ _ op_gt (pv 4) pe_int (nomark _)) (@pss_cons _ _ _ _ _ (@ps_put _ _ 6 _ _ _ _ (by rfl) (by first | exact .inl rfl | exact .inr rfl | assumption) S.nd rfl (Or.inl rfl) (@pe_op _ _ _ _ _ _ _ _ op_fdiv (pv 2) (pv 4)))
      (@pss_cons _ _ _ _ _ (@ps_put _ _ 7 _ _ _ _ (by rfl) (by first | exact .inl rfl | exact .inr rfl | assumption) S.nd rfl (Or.inl rfl) (@pe_op _ _ _ _ _ _ _ _ op_sub (pv 2) (@pe_op _ _ _ _ _ _ _ _ op_mul (pv 6) (pv 4))))
      (@pss_cons _ _ _ _ _ (@ps_put _ _ 8 _ _ _ _ (by rfl) (by first | exact .inl rfl | exact .inr rfl | assumption) S.nd rfl (Or.inl rfl) (@pe_op _ _ _ _ _ _ _ _ op_sub (pv 3) (@pe_op _ _ _ _ _ _ _ _ op_mul (pv 6) (pv 5))))
      (@pss_cons _ _ _ _ _ (@ps_put _ _ 2 _ _ _ _ (by rfl) (by first | exact .inl rfl | exact .inr rfl | assumption) S.nd rfl (Or.inl rfl) (pv 4))
      (@pss_cons _ _ _ _ _ (@ps_put _ _ 3 _ _ _ _ (by rfl) (by first | exact .inl rfl | exact .inr rfl | assumption) S.nd rfl (Or.inl rfl) (pv 5))
      (@pss_cons _ _ _ _ _ (@ps_put _ _ 4 _ _ _ _ (by rfl) (by first | exact .inl rfl | exact .inr rfl | assumption) S.nd rfl (Or.inl rfl) (pv 7))
      (@pss_one _ _ _ (@ps_put _ _ 5 _ _ _ _ (by rfl) (by first | exact .inl rfl | exact .inr rfl | assumption) S.nd rfl (Or.inl rfl) (pv 8))))))))))
      (@pss_one _ _ _ (@ps_ret _ _ _ _ (@pe_op _ _ _ _ _ _ _ _ op_mod (pv 5) (pv 0))))))))))),?_⟩
    refine ⟨_,rfl,rfl,_,rfl,ite2 (fun hz=>?_) (fun hz=>?_)⟩
    · have hz:b = 0:=V.int.inj (of_decide_eq_true hz)
      exact ⟨by show 1 ≤ sizeLine; decide,kE hz⟩
    have hz:b ≠ 0:=fun z=>hz (decide_eq_true (by rw [z]))
    refine ⟨_,rfl,_,rfl,fun m σ H'=>H' = H∧∃ (l lt n nt:Int) (v1 v2 v3:Option V),σ = [some (.int q),some (.int b),some (.int l),some (.int lt),some (.int n),some (.int nt),v1,v2,v3]∧m = n.toNat∧Bond q b l lt n nt∧l ≤ 997,
      ⟨b.toNat,rfl,q,0,b,1,none,none,none,rfl,rfl,Bond.start q1 q2 q3 (by omega) b1,q2⟩,?_⟩
    rintro m σ H' ⟨rfl,l,lt,n,nt,v1,v2,v3,rfl,em,hb,hl⟩
    have p1:=hb.pos
    have p2:=hb.less
    refine ⟨_,rfl,_,_,rfl,rfl,_,rfl,ite2 (fun hy=>?_) (fun hy=>?_)⟩
    · have hy:1 < n:=of_decide_eq_true hy
      have hs:=hb.step hy
      have f0:0 ≤ l / n:=Int.ediv_nonneg (by omega) (by omega)
      have f1:l / n ≤ l:=Int.ediv_le_self _ (by omega)
      refine ⟨fun σ' H2=>H2 = H'∧σ' = [some (.int q),some (.int b),some (.int n),some (.int nt),some (.int (l - l / n * n)),some (.int (lt - l / n * nt)),some (.int (l / n)),some (.int (l - l / n * n)),some (.int (lt - l / n * nt))],?_,?_⟩
      · rintro σ' H2 ⟨rfl,rfl⟩
        exact ⟨(l - l / n * n).toNat,by rw [em]; omega,rfl,_,_,_,_,_,_,_,rfl,rfl,hs.1,by omega⟩
      · exact ⟨_,rfl,_,rfl,_,_,rfl,rfl,⟨by omega,by omega⟩,_,rfl,_,rfl,_,rfl,_,_,rfl,rfl,.inr ⟨by omega,by omega⟩,_,_,rfl,rfl,
          _,rfl,_,rfl,_,rfl,_,_,rfl,rfl,.inl ⟨by omega,by omega⟩,_,_,rfl,rfl,_,rfl,_,rfl,_,rfl,_,rfl,rfl,rfl⟩
    · have hy:¬ 1 < n:=fun z=>hy (decide_eq_true z)
      have n1:n = 1:=by omega
      subst n1
      exact ⟨_,rfl,_,rfl,_,_,rfl,rfl,(show (0:Int) < q by omega),k hz _ (Int.emod_nonneg _ (by omega)) (Int.emod_lt_of_pos _ (by omega)) (hb.done q1)⟩
theorem sc_remainder_over:FnScope ["prime","a","b"] ["prime","a","b"] (defScope s_remainder_over):=⟨rfl,rfl,rfl,by decide +kernel,rfl,by decide +kernel,by decide +kernel⟩
theorem ok_remainder_over (T:Txt K mg t):FnOk P w K mg base (CXF P w) 2 t.f_remainder_over t.d_remainder_over ["prime","a","b"] (spRemOver t.C_NoOver):=by
  have S:=sc_remainder_over
  have G_remainder_back:=ok_remainder_back (P:=P) (w:=w) (base:=base) T
  refine T.F_remainder_over.okX S (fun vs H Q E h=>?_) (fun cdv A outer s H vs Q E hr h L=>?_)
  · obtain ⟨q,i,j,rfl,_⟩:=h
    rfl
  · obtain ⟨q,i,j,rfl,q1,q2,q3,i0,i1,j0,j1,kE,k⟩:=h
    refine ⟨_,(@pss_one _ _ _ (@ps_ret _ _ _ _ (@pe_op _ _ _ _ _ _ _ _ op_mod (@pe_op _ _ _ _ _ _ _ _ op_mul (pv 1) (pe_call G_remainder_back (hr.mono (by decide)) rfl T.mg_remainder_back T.F_remainder_back.kp T.b_remainder_back .nil (passF L) (@pa_mor _ _ _ _ _ (by rfl) (pv 0) (@pa_mor _ _ _ _ _ (by rfl) (pv 2) pa_nil)))) (pv 0)))),?_⟩
    exact ⟨_,rfl,_,rfl,_,rfl,q,j,rfl,q1,q2,q3,j0,j1,kE,fun hj r r0 r1 hr'=>⟨_,_,rfl,rfl,.inl ⟨by omega,by omega⟩,_,rfl,_,_,rfl,rfl,(show (0:Int) < q by omega),
      k hj _ (Int.emod_nonneg _ (by omega)) (Int.emod_lt_of_pos _ (by omega)) (rem_over q1 i0 i1 hr')⟩⟩
theorem sc_of:FnScope ["self","top","bottom"] ["self","top","bottom"] (defScope s_World_of):=⟨rfl,rfl,rfl,by decide +kernel,rfl,by decide +kernel,by decide +kernel⟩
theorem ok_of (T:Txt K mg t):FnOk P w K mg base (CXF P w) 3 t.f_World_of t.d_World_of ["self","top","bottom"] (spOf t.C_World t.C_NoOver):=by
  have S:=sc_of
  have G_ratio:=ok_ratio (P:=P) (w:=w) (base:=base) T
  have G_remainder_over:=ok_remainder_over (P:=P) (w:=w) (base:=base) T
  refine T.F_World_of.okX S (fun vs H Q E h=>?_) (fun cdv A outer s H vs Q E hr h L=>?_)
  · obtain ⟨z,q,a,b,rfl,_⟩:=h
    rfl
  · obtain ⟨z,q,a,b,rfl,⟨dx,hx⟩,hq,mb,kE,k⟩:=h
    refine ⟨_,(@pss_cons _ _ _ _ _ (@ps_if _ _ _ _ _ _ _ _ (@pt_cmpR _ _ _ _ _ _ _ _ op_isN (@pe_fld _ _ _ _ _ (pv 0) rfl) pe_non (nomark _)) (@pss_one _ _ _ (@ps_ret _ _ _ _ (pe_call G_ratio (hr.mono (by decide)) rfl T.mg_ratio T.F_ratio.kp T.b_ratio .nil (passF L) (@pa_mor _ _ _ _ _ (by rfl) (pv 1) (@pa_mor _ _ _ _ _ (by rfl) (pv 2) pa_nil))))) pss_nil)
      (@pss_one _ _ _ (@ps_ret _ _ _ _ (pe_call G_remainder_over (hr.mono (by decide)) rfl T.mg_remainder_over T.F_remainder_over.kp T.b_remainder_over .nil (passF L) (@pa_mor _ _ _ _ _ (by rfl) (@pe_fld _ _ _ _ _ (pv 0) rfl) (@pa_mor _ _ _ _ _ (by rfl) (@pe_op _ _ _ _ _ _ _ _ op_mod (pv 1) (@pe_fld _ _ _ _ _ (pv 0) rfl)) (@pa_mor _ _ _ _ _ (by rfl) (@pe_op _ _ _ _ _ _ _ _ op_mod (pv 2) (@pe_fld _ _ _ _ _ (pv 0) rfl)) pa_nil))))))),?_⟩
    refine ⟨_,rfl,z,t.C_World,dx,_,_,rfl,hx,T.cl_World,T.na_World_prime,lk_prime _,rfl,_,rfl,?_⟩
    rcases hq with rfl | ⟨q2,q3,q4⟩
    · rw [if_pos rfl]
      refine iteT ⟨_,rfl,_,rfl,a,b,rfl,mb,fun hb=>kE (by unfold NoOv; rw [if_pos rfl]; exact hb),fun hb r H' s' er=>k (fun hn=>hb (by unfold NoOv at hn; rw [if_pos rfl] at hn; exact hn)) _ H' s' (.inl ⟨rfl,r,rfl,er⟩)⟩
    · have hq:q ≠ 0:=by omega
      rw [if_neg hq] at hx ⊢
      have p0:(0:Int) < q:=by omega
      refine iteF ⟨_,rfl,z,t.C_World,dx,_,_,rfl,hx,T.cl_World,T.na_World_prime,lk_prime _,_,rfl,_,rfl,z,t.C_World,dx,_,_,rfl,hx,T.cl_World,T.na_World_prime,lk_prime _,_,_,rfl,rfl,p0,_,rfl,_,rfl,z,t.C_World,dx,_,_,rfl,hx,T.cl_World,T.na_World_prime,lk_prime _,_,_,rfl,rfl,p0,?_⟩
      have nv:NoOv q b ↔ b % q = 0:=by unfold NoOv; rw [if_neg hq]
      exact ⟨q,a % q,b % q,rfl,q2,q3,q4,Int.emod_nonneg _ hq,Int.emod_lt_of_pos _ p0,Int.emod_nonneg _ hq,Int.emod_lt_of_pos _ p0,fun hj=>kE (nv.mpr hj),fun hj r r0 r1 hr'=>k (fun z=>hj (nv.mp z)) _ H (Same.refl H) (.inr ⟨q2,r,rfl,r0,r1,hr'⟩)⟩
theorem sc_one_table_row:FnScope ["world","n","place","row"] ["world","n","place"] (defScope s_one_table_row):=⟨rfl,rfl,rfl,by decide +kernel,rfl,by decide +kernel,by decide +kernel⟩
theorem ok_one_table_row (T:Txt K mg t):FnOk P w K mg base CX0 4 t.f_one_table_row t.d_one_table_row ["world","n","place"] (spOTRow6 t.C_World):=by
  have S:=sc_one_table_row
  have G_World_of:=ok_of (P:=P) (w:=w) (base:=base) T
  obtain ⟨dv,hd1,hb1⟩:=T.b1_World_of
  refine T.F_one_table_row.ok S (fun vs H Q E h=>?_) (fun cdv A outer s H vs Q E hr h=>?_)
  · obtain ⟨z,q,n,i,rfl,_⟩:=h
    rfl
  · obtain ⟨z,q,n,i,rfl,⟨dz,hd⟩,hq,n4,hi,k⟩:=h
    refine ⟨_,(@pss_cons _ _ _ _ _ (@ps_put _ _ 3 _ _ _ _ (by rfl) (by first | exact .inl rfl | exact .inr rfl | assumption) S.nd rfl (Or.inl rfl) (@pe_op _ _ _ _ _ _ _ _ op_rep (@pe_lst _ _ _ _ (@pa_mor _ _ _ _ _ (by rfl) (pe_meth (pv 0) T.cl_World T.m_World_of G_World_of (hr.mono (by decide)) hb1 hd1 passN (@pa_mor _ _ _ _ _ (by rfl) pe_int pa_nil)) pa_nil)) (pv 1)))
      (@pss_cons _ _ _ _ _ (@ps_asg _ _ _ _ _ _ (pe_meth (pv 0) T.cl_World T.m_World_of G_World_of (hr.mono (by decide)) hb1 hd1 passN (@pa_mor _ _ _ _ _ (by rfl) pe_int pa_nil)) (pg_sub (pv 3) (pv 2) set_list) (by rfl) (by rfl) (by rfl))
      (@pss_one _ _ _ (@ps_ret _ _ _ _ (pv 3))))),?_⟩
    have nv:=one_noOv hq
    refine ⟨_,rfl,z,dz,_,rfl,hd,lk_no (by decide +kernel),z,q,0,1,rfl,⟨dz,hd⟩,hq,Mid.of_lt (by decide) (by decide),fun h=>absurd h nv,fun _ v0 H1 s1 ho=>?_⟩
    refine ⟨by show 1 ≤ sizeLine; decide,fun l nl=>?_⟩
    have sl:Same H1 (upd H1 l (.lst [v0])):=same_upd nl
    have el:upd H1 l (.lst [v0]) l = some (.lst [v0]):=upd_same
    have h0:=of_small (B:=10 ^ 60) (by decide) (ho.mono sl) hq (.inl rfl)
    generalize upd H1 l (.lst [v0]) = H2 at sl el h0 ⊢
    refine ⟨_,rfl,l,(n:Int),[v0],rfl,rfl,el,by omega,by omega,?_,fun r nr=>?_⟩
    · rw [Int.toNat_natCast]
      exact Nat.le_trans (show [v0].length * n ≤ 40 by simp; exact n4) (by decide)
    rw [Int.toNat_natCast,show (List.replicate n [v0]).flatten = List.replicate n v0 by induction n with
      | zero=>rfl
      | succ n ih=>simp [List.replicate_succ]]
    have sr:Same H2 (upd H2 r (.lst (List.replicate n v0))):=same_upd nr
    have er:upd H2 r (.lst (List.replicate n v0)) r = some (.lst (List.replicate n v0)):=upd_same
    have h0:=h0.mono sr
    generalize upd H2 r (.lst (List.replicate n v0)) = H3 at sr er h0 ⊢
    have s3:=s1.trans (sl.trans sr)
    refine ⟨_,rfl,z,dz,_,rfl,s3 _ _ hd,lk_no (by decide +kernel),z,q,1,1,rfl,⟨dz,s3 _ _ hd⟩,hq,Mid.of_lt (by decide) (by decide),fun h=>absurd h nv,fun _ v1 H4 s4 ho1=>?_⟩
    have h1:=of_small (B:=10 ^ 60) (by decide) ho1 hq (.inr rfl)
    refine ⟨_,rfl,_,rfl,r,_,_,i,rfl,rfl,s4 _ _ er,?_,?_⟩
    · unfold ixN
      rw [if_pos (by omega),if_pos (by simp; exact hi),Int.toNat_natCast]
    have nr1:H1 r = none:=none_of sl nr
    refine ⟨_,rfl,k r _ (same_but (s3.trans s4) (none_of s1 nr1)) (none_of s1 nr1) ⟨_,upd_same,by simp [unitRow],fun j v p hv hp=>?_⟩⟩
    have far:∀ b o,b ≠ r→H4 b = some o→upd H4 r (.lst ((List.replicate n v0).set i v1)) b = some o:=fun b o nb e=>by rw [upd_ne nb]; exact e
    have hj:j < n:=by
      have:=(List.getElem?_eq_some_iff.mp hv).1
      simpa using this
    unfold unitRow at hp
    rw [List.getElem?_map] at hp
    simp [hj] at hp
    by_cases z:j = i
    · subst z
      rw [if_pos rfl] at hp
      have ev:v1 = v:=by
        rw [List.getElem?_set_self (by simpa using hj)] at hv
        exact Option.some.inj hv
      subst ev hp
      exact h1.far (s4 _ _ er) far
    · rw [if_neg z] at hp
      have ev:v0 = v:=by
        rw [List.getElem?_set_ne (by omega)] at hv
        simpa [hj] using hv
      subst ev hp
      exact (h0.mono s4).far (s4 _ _ er) far
theorem sc_b_draw:FnScope ["script","k","mixed","cell"] ["script","k"] (defScope s_b_draw):=⟨rfl,rfl,rfl,by decide +kernel,rfl,by decide +kernel,by decide +kernel⟩
theorem ok_b_draw (T:Txt K mg t):FnOk P w K mg base CX0 1 t.f_b_draw t.d_b_draw ["script","k"] (spDraw K):=by
  have S:=sc_b_draw
  refine T.F_b_draw.ok S (fun vs H Q E h=>?_) (fun cdv A outer s H vs Q E hr h=>?_)
  · obtain ⟨a,ns,k,rfl,_⟩:=h
    rfl
  · obtain ⟨a,ns,j,rfl,hS,h0,h1,k⟩:=h
    refine ⟨_,(@pss_cons _ _ _ _ _ (@ps_if _ _ _ _ _ _ _ _ (@pt_cmpR _ _ _ _ _ _ _ _ op_lt (pv 1) (pe_callB call_len_seq rfl T.n_len boot_len (@pa_mor _ _ _ _ _ (by rfl) (pv 0) pa_nil)) (nomark _)) (@pss_one _ _ _ (@ps_ret _ _ _ _ (@pe_op _ _ _ _ _ _ _ _ op_mod (@pe_ix _ _ _ _ _ _ _ ix_list (pv 0) (pv 1) (fun _ _=>rfl)) (@pe_op _ _ _ _ _ _ _ _ op_pow pe_int pe_int)))) pss_nil)
      (@pss_cons _ _ _ _ _ (@ps_put _ _ 2 _ _ _ _ (by rfl) (by first | exact .inl rfl | exact .inr rfl | assumption) S.nd rfl (Or.inl rfl) (@pe_op _ _ _ _ _ _ _ _ op_mul pe_int (@pe_op _ _ _ _ _ _ _ _ op_add (pv 1) pe_int)))
      (@pss_cons _ _ _ _ _ (ps_for PassesOwn.never rfl (pi_list (@pe_slice _ _ _ _ _ _ _ _ _ _ sl_list (pv 0) po_none (po_some pe_int))) (pg_name (i:=3) S.nd rfl (Or.inl rfl))
        (@pss_one _ _ _ (@ps_put _ _ 2 _ _ _ _ (by rfl) (by first | exact .inl rfl | exact .inr rfl | assumption) S.nd rfl (Or.inl rfl) (@pe_op _ _ _ _ _ _ _ _ op_mod (@pe_op _ _ _ _ _ _ _ _ op_add (@pe_op _ _ _ _ _ _ _ _ op_add (@pe_op _ _ _ _ _ _ _ _ op_mul (pv 2) pe_int) (@pe_op _ _ _ _ _ _ _ _ op_mod (pv 3) pe_int)) pe_int) pe_int))))
      (@pss_cons _ _ _ _ _ (@ps_put _ _ 2 _ _ _ _ (by rfl) (by first | exact .inl rfl | exact .inr rfl | assumption) S.nd rfl (Or.inl rfl) (@pe_op _ _ _ _ _ _ _ _ op_mod (@pe_op _ _ _ _ _ _ _ _ op_mul (pv 2) (pv 2)) pe_int))
      (@pss_cons _ _ _ _ _ (@ps_put _ _ 2 _ _ _ _ (by rfl) (by first | exact .inl rfl | exact .inr rfl | assumption) S.nd rfl (Or.inl rfl) (@pe_op _ _ _ _ _ _ _ _ op_mod (@pe_op _ _ _ _ _ _ _ _ op_mul (@pe_op _ _ _ _ _ _ _ _ op_add (pv 2) (@pe_op _ _ _ _ _ _ _ _ op_mul (@pe_op _ _ _ _ _ _ _ _ op_mul pe_int (pv 1)) (pv 1))) pe_int) pe_int))
      (@pss_one _ _ _ (@ps_ret _ _ _ _ (@pe_op _ _ _ _ _ _ _ _ op_fdiv (@pe_op _ _ _ _ _ _ _ _ op_mod (@pe_op _ _ _ _ _ _ _ _ op_mul (pv 2) (pv 2)) pe_int) pe_int)))))))),?_⟩
    refine ⟨_,rfl,_,rfl,a,_,rfl,.inl hS,_,_,rfl,rfl,_,rfl,ite2 (fun hj=>?_) (fun hj=>?_)⟩
    · have hj:j < (ns.map V.int).length:=of_decide_eq_true hj
      rw [List.length_map] at hj
      have hz:atI (ns.map V.int) j = some (.int (ns.getD j.toNat 0)):=by
        have e:j = (j.toNat:Int):=by omega
        rw [e]
        refine atI_nat ?_
        rw [List.getElem?_map,List.getElem?_eq_getElem (by omega),Int.toNat_natCast,List.getD_eq_getElem?_getD,List.getElem?_eq_getElem (by omega)]
        rfl
      refine ⟨_,rfl,_,rfl,a,_,j,_,rfl,rfl,hS,hz,_,_,rfl,rfl,⟨by decide,by decide,by decide⟩,_,_,rfl,rfl,(by show (0:Int) < 10 ^ 40; decide),?_⟩
      have z:=k H (Same.refl H)
      unfold drawV at z
      rw [if_pos hj] at z
      exact z
    · have hj:¬ j < ns.length:=fun z=>hj (decide_eq_true (by rw [List.length_map]; exact z))
      refine ⟨_,rfl,_,_,rfl,rfl,_,_,rfl,rfl,.inl ⟨by decide,by decide⟩,?_⟩
      refine ⟨_,rfl,_,rfl,a,_,rfl,hS,fun c nc=>⟨c,rfl,⟨_,.of upd_same⟩,?_⟩⟩
      refine for_list (K:=K) (a:=c) (xs:=(ns.take 7).map V.int) (fun i σ H'=>H' = upd H c (.lst (cutV (ns.map V.int) none (some 7)))∧∃ (m:Int) (v:Option V),σ = [some (.ref a),some (.int j),some (.int m),v]∧m = ((ns.take 7).take i).foldl mixStep (1000003 * (j + 1))∧-(2 ^ 64) < m∧m < 2 ^ 64)
        ⟨rfl,_,_,rfl,rfl,by omega,by omega⟩ ?_ ?_ ?_
      · rintro i σ H' _ ⟨rfl,_⟩
        have e:cutV (ns.map V.int) none (some 7) = (ns.take 7).map V.int:=by
          have:=cut_take (ns.map V.int) 7
          rw [← List.map_take] at this
          exact this
        rw [e]
        exact .of upd_same
      · rintro i y σ H' hi ⟨rfl,m,v,rfl,hm,_,_⟩
        rw [List.getElem?_map] at hi
        cases ez:(ns.take 7)[i]? with
        | none=>rw [ez] at hi; cases hi
        | some z=>
          rw [ez] at hi
          cases hi
          refine ⟨_,rfl,_,_,rfl,rfl,.inr ⟨by decide,by decide⟩,_,rfl,_,_,rfl,rfl,(by show (0:Int) < 998244353; decide),_,_,rfl,rfl,_,_,rfl,rfl,_,_,rfl,rfl,(by show (0:Int) < 1000000007; decide),rfl,_,_,rfl,?_,?_,?_⟩
          · rw [List.take_succ,ez,Option.toList_some,List.foldl_append,← hm]
            rfl
          · have:=Int.emod_nonneg (m * 69621 + z % 998244353 + 1) (show (1000000007:Int) ≠ 0 by decide)
            show -(2 ^ 64) < (m * 69621 + z % 998244353 + 1) % 1000000007
            omega
          · have:=Int.emod_lt_of_pos (m * 69621 + z % 998244353 + 1) (show (0:Int) < 1000000007 by decide)
            show (m * 69621 + z % 998244353 + 1) % 1000000007 < 2 ^ 64
            omega
      · rintro σ H' ⟨rfl,m,v,rfl,hm,hm1,hm2⟩
        rw [List.length_map,List.take_length] at hm
        refine ⟨_,rfl,_,rfl,_,_,rfl,rfl,.inl ⟨hm1,hm2⟩,_,_,rfl,rfl,(by show (0:Int) < 1000000007; decide),?_⟩
        refine ⟨_,rfl,_,rfl,_,_,rfl,rfl,.inl ⟨by decide,by decide⟩,_,rfl,_,_,rfl,rfl,.inr ⟨by omega,by omega⟩,_,_,rfl,rfl,_,_,rfl,rfl,.inr ⟨by decide,by decide⟩,_,_,rfl,rfl,(by show (0:Int) < 2147483647; decide),?_⟩
        have b0:=Int.emod_nonneg ((m * m % 1000000007 + 7919 * j * j) * 48271) (show (2147483647:Int) ≠ 0 by decide)
        have b1:=Int.emod_lt_of_pos ((m * m % 1000000007 + 7919 * j * j) * 48271) (show (0:Int) < 2147483647 by decide)
        refine ⟨_,rfl,_,rfl,_,_,rfl,rfl,.inl ⟨?_,?_⟩,_,_,rfl,rfl,(by show (0:Int) < 2147483647; decide),_,_,rfl,rfl,⟨by decide,by decide⟩,?_⟩
        · show -(2 ^ 64) < (m * m % 1000000007 + 7919 * j * j) * 48271 % 2147483647
          omega
        · show (m * m % 1000000007 + 7919 * j * j) * 48271 % 2147483647 < 2 ^ 64
          omega
        · have z:=k (upd H c (.lst (cutV (ns.map V.int) none (some 7)))) (same_upd nc)
          unfold drawV mixV at z
          rw [if_neg hj,← hm] at z
          exact z
theorem sc_b_low:FnScope ["top","bottom","one","other"] ["top","bottom"] (defScope s_b_low):=⟨rfl,rfl,rfl,by decide +kernel,rfl,by decide +kernel,by decide +kernel⟩
theorem ok_b_low (T:Txt K mg t):FnOk P w K mg base CX0 1 t.f_b_low t.d_b_low ["top","bottom"] spLow:=by
  have S:=sc_b_low
  refine T.F_b_low.ok S (fun vs H Q E h=>?_) (fun cdv A outer s H vs Q E hr h=>?_)
  · obtain ⟨a,b,rfl,_⟩:=h
    rfl
  · obtain ⟨a,b,rfl,hb,mb,k⟩:=h
    refine ⟨_,(@pss_cons _ _ _ _ _ (@ps_put _ _ 2 _ _ _ _ (by rfl) (by first | exact .inl rfl | exact .inr rfl | assumption) S.nd rfl (Or.inl rfl) (pe_callB call_abs rfl T.n_abs boot_abs (@pa_mor _ _ _ _ _ (by rfl) (pv 0) pa_nil)))
      (@pss_cons _ _ _ _ _ (@ps_put _ _ 3 _ _ _ _ (by rfl) (by first | exact .inl rfl | exact .inr rfl | assumption) S.nd rfl (Or.inl rfl) (pe_callB call_abs rfl T.n_abs boot_abs (@pa_mor _ _ _ _ _ (by rfl) (pv 1) pa_nil)))
      (@pss_cons _ _ _ _ _ (@ps_while _ _ _ _ _ _ PassesOwn.never (@pt_truth _ _ _ (pv 3) (fun _=>rfl)) (@pss_one _ _ _ (ps_par (i:=2) (j:=3) rfl S.nd rfl rfl (by decide) rfl rfl (@pa_mor _ _ _ _ _ (by rfl) (pv 3) (@pa_mor _ _ _ _ _ (by rfl) (@pe_op _ _ _ _ _ _ _ _ op_mod (pv 2) (pv 3)) pa_nil)) rfl)))
      (@pss_cons _ _ _ _ _ (@ps_if _ _ _ _ _ _ _ _ (@pt_cmpR _ _ _ _ _ _ _ _ op_lt (pv 1) pe_int (nomark _)) (@pss_one _ _ _ (@ps_put _ _ 2 _ _ _ _ (by rfl) (by first | exact .inl rfl | exact .inr rfl | assumption) S.nd rfl (Or.inl rfl) (@pe_op _ _ _ _ _ _ _ _ op_sub pe_int (pv 2)))) pss_nil)
      (@pss_one _ _ _ (@ps_ret _ _ _ _ (@pe_tup _ _ _ _ _ (@pa_mor _ _ _ _ _ (by rfl) (@pe_op _ _ _ _ _ _ _ _ op_fdivM (pv 0) (pv 2)) (@pa_mor _ _ _ _ _ (by rfl) (@pe_op _ _ _ _ _ _ _ _ op_fdivM (pv 1) (pv 2)) pa_nil))))))))),?_⟩
    have ok:=lowG_ok (a:=a) hb mb
    refine ⟨_,rfl,a,rfl,_,rfl,b,rfl,fun m σ H'=>H' = H∧∃ (x y:Nat),σ = [some (.int a),some (.int b),some (.int (x:Int)),some (.int (y:Int))]∧m = y∧Nat.gcd x y = Int.gcd a b,⟨b.natAbs,rfl,a.natAbs,b.natAbs,?_,rfl,rfl⟩,?_⟩
    · show [some (V.int a),some (V.int b),some (V.int (if a < 0 then -a else a)),some (V.int (if b < 0 then -b else b))] = _
      rw [abs_nat,abs_nat]
    · rintro m σ H' ⟨rfl,x,y,rfl,em,hg⟩
      refine ⟨_,rfl,_,rfl,ite2 (fun hy=>?_) (fun hy=>?_)⟩
      · have hy:y ≠ 0:=fun z=>by subst z; cases hy
        refine ⟨fun σ' H2=>H2 = H'∧σ' = [some (.int a),some (.int b),some (.int (y:Int)),some (.int (((x % y:Nat)):Int))],?_,?_⟩
        · rintro σ' H2 ⟨rfl,rfl⟩
          exact ⟨x % y,by rw [em]; exact Nat.mod_lt _ (by omega),rfl,y,x % y,rfl,rfl,by rw [gcd_step]; exact hg⟩
        · exact ⟨_,rfl,_,rfl,_,rfl,_,_,rfl,rfl,(show (0:Int) < y by omega),_,_,rfl,rfl,rfl⟩
      · have y0:y = 0:=by
          by_cases z:y = 0
          · exact z
          · exact absurd (by simpa using z) hy
        subst y0
        rw [Nat.gcd_zero_right] at hg
        have fin1:∀ (g:Int),g = lowG a b→∀ (p:Addr),H' p = none→Q (.ref p) (upd H' p (.tup [.int (a.fdiv g),.int (b.fdiv g)])):=fun g e p hp=>by
          rw [e]
          exact k p _ (same_upd hp) upd_same
        refine ⟨_,rfl,_,_,rfl,rfl,_,rfl,ite2 (fun hn=>?_) (fun hn=>?_)⟩
        · have hn:b < 0:=of_decide_eq_true hn
          have eg:0 - (x:Int) = lowG a b:=by unfold lowG; rw [if_pos hn,hg]
          have ok2:CDivM 0 (0 - (x:Int)):=by rw [eg]; exact ok
          exact ⟨_,rfl,_,_,rfl,rfl,_,rfl,_,rfl,_,_,rfl,rfl,ok2,_,rfl,_,rfl,_,_,rfl,rfl,ok2,by show 2 ≤ sizeLine; decide,fin1 _ eg⟩
        · have hn:¬ b < 0:=fun z=>hn (decide_eq_true z)
          have eg:(x:Int) = lowG a b:=by unfold lowG; rw [if_neg hn,hg]
          have ok2:CDivM 0 (x:Int):=by rw [eg]; exact ok
          exact ⟨_,rfl,_,rfl,_,_,rfl,rfl,ok2,_,rfl,_,rfl,_,_,rfl,rfl,ok2,by show 2 ≤ sizeLine; decide,fin1 _ eg⟩
theorem sc_b_prime:FnScope ["cell","at"] ["cell"] (defScope s_b_prime):=⟨rfl,rfl,rfl,by decide +kernel,rfl,by decide +kernel,by decide +kernel⟩
theorem ok_b_prime (T:Txt K mg t):FnOk P w K mg base CX0 1 t.f_b_prime t.d_b_prime ["cell"] spPrimeN:=by
  have S:=sc_b_prime
  refine T.F_b_prime.ok S (fun vs H Q E h=>?_) (fun cdv A outer s H vs Q E hr h=>?_)
  · obtain ⟨c,rfl,_⟩:=h
    rfl
  · obtain ⟨c,rfl,k⟩:=h
    refine ⟨_,(@pss_cons _ _ _ _ _ (@ps_put _ _ 1 _ _ _ _ (by rfl) (by first | exact .inl rfl | exact .inr rfl | assumption) S.nd rfl (Or.inr rfl) (@pe_op _ _ _ _ _ _ _ _ op_add pe_int (@pe_op _ _ _ _ _ _ _ _ op_mod (pv 0) pe_int)))
      (@pss_cons _ _ _ _ _ (@ps_while _ _ _ _ _ _ PassesOwn.never (@pt_not _ _ _ _ (pt_val (pe_callB (call_all (K:=K) rfl) rfl T.n_all boot_all (@pa_mor _ _ _ _ _ (by rfl) (pe_comp (N:=["by","at"]) (ρ:=(fun σ=>[σ[1]?.join])) ⟨rfl,rfl,by decide +kernel,by decide +kernel,(List.forall_mem_cons.mpr ⟨rfl,(List.forall_mem_nil _)⟩),has_of (by rfl),rfl,by decide +kernel,rfl,(fun σ j v h=>match j,h with | 0,h=>⟨1,_,rfl,rfl,join_some h,Or.inr (Or.inl rfl),.inl rfl,.inl rfl⟩ | j + 1,h=>by cases h),(fun _ _=>rfl)⟩ rfl (pi_range2 rfl T.n_range (@pa_mor _ _ _ _ _ (by rfl) pe_int (@pa_mor _ _ _ _ _ (by rfl) pe_int pa_nil))) (fun s₃ H₃ fp=>(.one (@pt_cmpR _ _ _ _ _ _ _ _ op_lt (pv 0) (pv 1) (nomark _)))) (fun s₃ H₃ fp=>(@pe_cmpR _ _ _ _ _ _ _ _ op_ne (@pe_op _ _ _ _ _ _ _ _ op_mod (pv 1) (pv 0)) pe_int (nomark _)))) pa_nil)))) (@pss_one _ _ _ (@ps_put _ _ 1 _ _ _ _ (by rfl) (by first | exact .inl rfl | exact .inr rfl | assumption) S.nd rfl (Or.inr rfl) (@pe_op _ _ _ _ _ _ _ _ op_add (pv 1) pe_int))))
      (@pss_one _ _ _ (@ps_ret _ _ _ _ (pv 1))))),?_⟩
    have c0:=Int.emod_nonneg c (show (996:Int) ≠ 0 by decide)
    have c1:=Int.emod_lt_of_pos c (show (0:Int) < 996 by decide)
    refine ⟨_,rfl,_,_,rfl,rfl,(by show (0:Int) < 996; decide),_,_,rfl,rfl,fun m σ H'=>Same H H'∧∃ v:Int,σ = [some (.int c),some (.int v)]∧2 ≤ v∧v ≤ 997∧m = (997 - v).toNat,
      ⟨_,Same.refl H,2 + c % 996,rfl,by omega,by omega,rfl⟩,?_⟩
    rintro m σ H' ⟨sH,v,rfl,h1,h2,rfl⟩
    refine ⟨2,32,rfl,⟨by decide,by decide,by decide,by decide⟩,fun D nD=>⟨fun i m ys Hc=>Hc = upd H' D (.lst ys)∧i + m = 30∧ys = (cmpL v i).map V.bl,⟨30,rfl,rfl,rfl⟩,?_⟩⟩
    rintro i m ys Hc ⟨rfl,hm,rfl⟩
    refine ⟨upd_same,?_⟩
    have hl:((cmpL v i).map V.bl).length < sizeLine:=by
      rw [List.length_map]
      have:=cmpL_len v i
      exact small1000 (by omega)
    by_cases hi:i < 30
    · refine .inr ⟨hi,fun x H2 y=>?_⟩
      obtain ⟨rfl,rfl⟩:=y
      refine ⟨_,rfl,_,rfl,_,_,rfl,rfl,_,rfl,ite2 (fun hx=>?_) (fun hx=>?_)⟩
      · have hx:2 + (i:Int) < v:=of_decide_eq_true hx
        refine ⟨_,rfl,_,rfl,_,_,rfl,rfl,(show (0:Int) < 2 + (i:Int) by omega),rfl,upd_same,hl,m - 1,by omega,upd_upd,by omega,?_⟩
        rw [cmpL_yes hx,List.map_append]
        show _ ++ [V.bl (!decide (V.int (v % (2 + (i:Int))) = V.int 0))] = _
        rw [dV_int]
        rfl
      · have hx:¬ 2 + (i:Int) < v:=fun z=>hx (decide_eq_true z)
        exact ⟨m - 1,by omega,rfl,by omega,by rw [cmpL_no hx]⟩
    · have i30:i = 30:=by omega
      subst i30
      refine .inl ⟨Nat.le_refl _,D,cmpL v 30,rfl,.of upd_same,_,rfl,?_⟩
      rw [cmpL_law]
      have s2:Same H (upd H' D (.lst ((cmpL v 30).map V.bl))):=sH.trans (same_upd nD)
      refine ite2 (fun hb=>?_) (fun hb=>?_)
      · have hb:lawB v = false:=by simpa using hb
        have hv:v ≠ 997:=fun z=>by rw [z,prime_997] at hb; cases hb
        refine ⟨fun σ' H2=>Same H H2∧σ' = [some (.int c),some (.int (v + 1))],?_,?_⟩
        · rintro σ' H2 ⟨s3,rfl⟩
          exact ⟨(997 - (v + 1)).toNat,by omega,s3,v + 1,rfl,by omega,by omega,rfl⟩
        · exact ⟨_,rfl,_,_,rfl,rfl,s2,rfl⟩
      · have hb:lawB v = true:=by simpa using hb
        exact ⟨_,rfl,k v _ s2 h1 h2 (by rw [prime_law h1 h2]; exact hb)⟩
theorem sc_b_wheel:FnScope ["draw","way"] ["draw"] (defScope s_b_wheel):=⟨rfl,rfl,rfl,by decide +kernel,rfl,by decide +kernel,by decide +kernel⟩
theorem ok_b_wheel (T:Txt K mg t):FnOk P w K mg base CX0 2 t.f_b_wheel t.d_b_wheel ["draw"] spWheel:=by
  have S:=sc_b_wheel
  have G_b_prime:=ok_b_prime (P:=P) (w:=w) (base:=base) T
  refine T.F_b_wheel.ok S (fun vs H Q E h=>?_) (fun cdv A outer s H vs Q E hr h=>?_)
  · obtain ⟨c,rfl,_⟩:=h
    rfl
  · obtain ⟨c,rfl,k⟩:=h
    refine ⟨_,(@pss_cons _ _ _ _ _ (@ps_put _ _ 1 _ _ _ _ (by rfl) (by first | exact .inl rfl | exact .inr rfl | assumption) S.nd rfl (Or.inl rfl) (@pe_op _ _ _ _ _ _ _ _ op_mod (pv 0) pe_int))
      (@pss_cons _ _ _ _ _ (@ps_if _ _ _ _ _ _ _ _ (@pt_cmpR _ _ _ _ _ _ _ _ op_lt (pv 1) pe_int (nomark _)) (@pss_one _ _ _ (@ps_ret _ _ _ _ pe_int)) pss_nil)
      (@pss_cons _ _ _ _ _ (@ps_if _ _ _ _ _ _ _ _ (@pt_cmpR _ _ _ _ _ _ _ _ op_lt (pv 1) pe_int (nomark _)) (@pss_one _ _ _ (@ps_ret _ _ _ _ (@pe_ix _ _ _ _ _ _ _ ix_list (@pe_lst _ _ _ _ (@pa_mor _ _ _ _ _ (by rfl) pe_int (@pa_mor _ _ _ _ _ (by rfl) pe_int (@pa_mor _ _ _ _ _ (by rfl) pe_int pa_nil)))) (@pe_op _ _ _ _ _ _ _ _ op_sub (pv 1) pe_int) (fun _ _=>rfl)))) pss_nil)
      (@pss_one _ _ _ (@ps_ret _ _ _ _ (pe_call G_b_prime (hr.mono (by decide)) rfl T.mg_b_prime T.F_b_prime.kp T.b_b_prime .nil pass0 (@pa_mor _ _ _ _ _ (by rfl) (@pe_op _ _ _ _ _ _ _ _ op_fdiv (pv 0) pe_int) pa_nil))))))),?_⟩
    refine ⟨_,rfl,_,_,rfl,rfl,(by show (0:Int) < 8; decide),?_⟩
    refine ⟨_,rfl,_,_,rfl,rfl,_,rfl,ite2 (fun _=>k 0 H (Same.refl H) (.inl rfl)) (fun h3=>?_)⟩
    refine ⟨_,rfl,_,_,rfl,rfl,_,rfl,ite2 (fun h6=>⟨by show 3 ≤ sizeLine; decide,fun l hl=>?_⟩) (fun _=>?_)⟩
    · have h3:¬ c % 8 < 3:=fun z=>h3 (decide_eq_true z)
      have h6:c % 8 < 6:=of_decide_eq_true h6
      obtain ⟨v,hv,mv⟩:=atI_some (xs:=([.int 2,.int 3,.int 5]:List V)) (i:=c % 8 - 3) (by omega) (by show c % 8 - 3 < 3; omega)
      refine ⟨_,rfl,_,_,rfl,rfl,l,_,_,v,rfl,rfl,.of upd_same,hv,?_⟩
      simp only [List.mem_cons,List.not_mem_nil,or_false] at mv
      rcases mv with e | e | e
      · rw [e]; exact k 2 _ (same_upd hl) (.inr ⟨by decide,by decide,by decide +kernel⟩)
      · rw [e]; exact k 3 _ (same_upd hl) (.inr ⟨by decide,by decide,by decide +kernel⟩)
      · rw [e]; exact k 5 _ (same_upd hl) (.inr ⟨by decide,by decide,by decide +kernel⟩)
    · exact ⟨_,rfl,_,_,rfl,rfl,⟨by decide,by decide⟩,_,rfl,fun p H' s' h1 h2 h3=>k p H' s' (.inr ⟨h1,h2,h3⟩)⟩
theorem td_wheel {p:Int} (h1:2 ≤ p) (h2:p ≤ 997) (h3:primeB p = true):(Td.b "wheel" p).good = true:=by simp [Td.good,Td.isF,Td.isW,h1,h2,h3]
theorem td_frac:(Td.a "fractions").good = true:=by simp [Td.good,Td.isF]
theorem sc_b_world:FnScope ["p"] ["p"] (defScope s_b_world):=⟨rfl,rfl,rfl,by decide +kernel,rfl,by decide +kernel,by decide +kernel⟩
theorem ok_b_world (T:Txt K mg t):FnOk P w K mg base CX0 5 t.f_b_world t.d_b_world ["p"] (spWorld t.C_World):=by
  have S:=sc_b_world
  have G_World___init__:=ok_init (P:=P) (w:=w) (base:=base) T
  refine T.F_b_world.ok S (fun vs H Q E h=>?_) (fun cdv A outer s H vs Q E hr h=>?_)
  · obtain ⟨p,rfl,_⟩:=h
    rfl
  · obtain ⟨p,rfl,hp,k⟩:=h
    refine ⟨_,(@pss_cons _ _ _ _ _ (@ps_if _ _ _ _ _ _ _ _ (@pt_truth _ _ _ (pv 0) (fun _=>rfl)) (@pss_one _ _ _ (@ps_ret _ _ _ _ (pe_make T.M_World G_World___init__ (hr.mono (by decide)) rfl T.mg_World T.b_World___init__ .nil passN (@pa_mor _ _ _ _ _ (by rfl) (@pe_tup _ _ _ _ _ (@pa_mor _ _ _ _ _ (by rfl) pe_str (@pa_mor _ _ _ _ _ (by rfl) (pv 0) pa_nil))) pa_nil)))) pss_nil)
      (@pss_one _ _ _ (@ps_ret _ _ _ _ (pe_make T.M_World G_World___init__ (hr.mono (by decide)) rfl T.mg_World T.b_World___init__ .nil passN (@pa_mor _ _ _ _ _ (by rfl) (@pe_tup _ _ _ _ _ (@pa_mor _ _ _ _ _ (by rfl) pe_str pa_nil)) pa_nil))))),?_⟩
    refine ⟨_,rfl,_,rfl,ite2 (fun hq=>?_) (fun hq=>?_)⟩
    · have hq:p ≠ 0:=by simpa using hq
      obtain ⟨hp1,hp2,hp3⟩:2 ≤ p∧p ≤ 997∧primeB p = true:=hp.resolve_left hq
      refine ⟨_,rfl,by show 2 ≤ sizeLine; decide,fun q nq xw dw nx ndx nex=>⟨xw,dw,q,.b "wheel" p,rfl,upd_same,?_,fun _=>⟨rfl,k xw _ ?_ ⟨dw,by rw [upd_same,if_neg hq]; rfl⟩⟩,fun hg=>absurd ((td_wheel hp1 hp2 hp3).symm.trans hg) (by decide)⟩⟩
      · rw [upd_ne (ne_of_none upd_same nx),upd_ne (ne_of_none upd_same ndx)]
        exact upd_same
      · intro b o e
        have e1:=same_upd (o:=.tup [.str "wheel",.int p]) nq _ _ e
        rw [upd_ne (ne_of_none e1 nx),upd_ne (ne_of_none e1 nx),upd_ne (ne_of_none e1 ndx)]
        exact e1
    · have hq:p = 0:=by simpa using hq
      subst hq
      refine ⟨by show 1 ≤ sizeLine; decide,fun q nq xw dw nx ndx nex=>⟨xw,dw,q,.a "fractions",rfl,upd_same,?_,fun _=>⟨rfl,k xw _ ?_ ⟨dw,by rw [upd_same,if_pos rfl]; rfl⟩⟩,fun hg=>absurd (td_frac.symm.trans hg) (by decide)⟩⟩
      · rw [upd_ne (ne_of_none upd_same nx),upd_ne (ne_of_none upd_same ndx)]
        exact upd_same
      · intro b o e
        have e1:=same_upd (o:=.tup [.str "fractions"]) nq _ _ e
        rw [upd_ne (ne_of_none e1 nx),upd_ne (ne_of_none e1 nx),upd_ne (ne_of_none e1 ndx)]
        exact e1
theorem sc_b_whole:FnScope ["thing"] ["thing"] (defScope s_b_whole):=⟨rfl,rfl,rfl,by decide +kernel,rfl,by decide +kernel,by decide +kernel⟩
theorem ok_b_whole (T:Txt K mg t):FnOk P w K mg base CX0 1 t.f_b_whole t.d_b_whole ["thing"] spWhole:=by
  have S:=sc_b_whole
  refine T.F_b_whole.ok S (fun vs H Q E h=>?_) (fun cdv A outer s H vs Q E hr h=>?_)
  · obtain ⟨v,rfl,_⟩:=h
    rfl
  · obtain ⟨v,rfl,ha,k⟩:=h
    refine ⟨_,(@pss_one _ _ _ (@ps_ret _ _ _ _ (@pe_and _ _ _ _ _ _ _ (pe_callB (call_isi (K:=K)) rfl T.n_isinstance boot_isinstance (@pa_mor _ _ _ _ _ (by rfl) (pv 0) (@pa_mor _ _ _ _ _ (by rfl) (pe_bltn (v:=.ty "int") rfl T.n_int boot_int rfl) pa_nil))) (@pe_one _ _ _ _ _ (@pe_not _ _ _ _ (pe_callB (call_isi (K:=K)) rfl T.n_isinstance boot_isinstance (@pa_mor _ _ _ _ _ (by rfl) (pv 0) (@pa_mor _ _ _ _ _ (by rfl) (pe_bltn (v:=.ty "bool") rfl T.n_bool boot_bool rfl) pa_nil)))))))),?_⟩
    obtain ⟨Ty,ty,k1,k2,_⟩:=ha.kit (K:=K)
    refine ⟨_,rfl,_,_,_,_,rfl,rfl,ty,k1,_,rfl,ite2 (fun h1=>?_) (fun h1=>?_)⟩
    · refine ⟨_,rfl,_,_,_,_,rfl,rfl,ty,k2,_,rfl,?_⟩
      have e:(!isBlV v) = isIntV v:=by
        cases h2:isBlV v with
        | true=>rw [bl_int h2]; rfl
        | false=>rw [h2,Bool.or_false] at h1; rw [h1]; rfl
      show Q (.bl (!isBlV v)) H
      rw [e]
      exact k
    · have e:isIntV v = false:=by
        cases h2:isIntV v with
        | true=>rw [h2] at h1; exact absurd rfl h1
        | false=>rfl
      rw [e] at k
      exact k
theorem sc_b_is:FnScope ["p","thing"] ["p","thing"] (defScope s_b_is):=⟨rfl,rfl,rfl,by decide +kernel,rfl,by decide +kernel,by decide +kernel⟩
theorem ok_b_is (T:Txt K mg t):FnOk P w K mg base CX0 2 t.f_b_is t.d_b_is ["p","thing"] spLawIs:=by
  have S:=sc_b_is
  have G_b_whole:=ok_b_whole (P:=P) (w:=w) (base:=base) T
  have G_b_low:=ok_b_low (P:=P) (w:=w) (base:=base) T
  refine T.F_b_is.ok S (fun vs H Q E h=>?_) (fun cdv A outer s H vs Q E hr h=>?_)
  · obtain ⟨q,v,rfl,_⟩:=h
    rfl
  · obtain ⟨q,v,rfl,hv,k⟩:=h
    have hu:=hr.units0
    refine ⟨_,(@pss_cons _ _ _ _ _ (@ps_if _ _ _ _ _ _ _ _ (@pt_truth _ _ _ (pv 0) (fun _=>rfl)) (@pss_one _ _ _ (@ps_ret _ _ _ _ (@pe_and _ _ _ _ _ _ _ (pe_call G_b_whole (hr.mono (by decide)) rfl T.mg_b_whole T.F_b_whole.kp T.b_b_whole .nil pass0 (@pa_mor _ _ _ _ _ (by rfl) (pv 1) pa_nil)) (@pe_one _ _ _ _ _ (pe_chain op_le op_lt pe_int (pv 1) (pv 0)))))) pss_nil)
      (@pss_cons _ _ _ _ _ (@ps_if _ _ _ _ _ _ _ _ (PW.pt (@pw_or _ _ _ _ _ _ _ (@pt_not _ _ _ _ (pt_val (pe_callB (call_isi (K:=K)) rfl T.n_isinstance boot_isinstance (@pa_mor _ _ _ _ _ (by rfl) (pv 1) (@pa_mor _ _ _ _ _ (by rfl) (pe_bltn (v:=.ty "tuple") rfl T.n_tuple boot_tuple rfl) pa_nil))))) (@pw_or1 _ _ _ _ (@pt_cmpR _ _ _ _ _ _ _ _ op_ne (pe_callB call_len_seq rfl T.n_len boot_len (@pa_mor _ _ _ _ _ (by rfl) (pv 1) pa_nil)) pe_int (nomark _))))) (@pss_one _ _ _ (@ps_ret _ _ _ _ pe_bl)) pss_nil)
      (@pss_cons _ _ _ _ _ (@ps_if _ _ _ _ _ _ _ _ (PW.pt (@pw_or _ _ _ _ _ _ _ (@pt_not _ _ _ _ (pt_val (pe_call G_b_whole (hr.mono (by decide)) rfl T.mg_b_whole T.F_b_whole.kp T.b_b_whole .nil pass0 (@pa_mor _ _ _ _ _ (by rfl) (@pe_ix _ _ _ _ _ _ _ ix_tup (pv 1) pe_int (fun _ _=>rfl)) pa_nil)))) (@pw_or _ _ _ _ _ _ _ (@pt_not _ _ _ _ (pt_val (pe_call G_b_whole (hr.mono (by decide)) rfl T.mg_b_whole T.F_b_whole.kp T.b_b_whole .nil pass0 (@pa_mor _ _ _ _ _ (by rfl) (@pe_ix _ _ _ _ _ _ _ ix_tup (pv 1) pe_int (fun _ _=>rfl)) pa_nil)))) (@pw_or1 _ _ _ _ (@pt_cmpR _ _ _ _ _ _ _ _ op_lt (@pe_ix _ _ _ _ _ _ _ ix_tup (pv 1) pe_int (fun _ _=>rfl)) pe_int (nomark _)))))) (@pss_one _ _ _ (@ps_ret _ _ _ _ pe_bl)) pss_nil)
      (@pss_one _ _ _ (@ps_ret _ _ _ _ (@pe_cmpR _ _ _ _ _ _ _ _ (op_eqT hu) (pe_call G_b_low (hr.mono (by decide)) rfl T.mg_b_low T.F_b_low.kp T.b_b_low .nil pass0 (@pa_mor _ _ _ _ _ (by rfl) (@pe_ix _ _ _ _ _ _ _ ix_tup (pv 1) pe_int (fun _ _=>rfl)) (@pa_mor _ _ _ _ _ (by rfl) (@pe_ix _ _ _ _ _ _ _ ix_tup (pv 1) pe_int (fun _ _=>rfl)) pa_nil))) (pv 1) (nomark _))))))),?_⟩
    have k0:=k H (Same.refl H)
    refine ⟨_,rfl,_,rfl,ite2 (fun hq=>?_) (fun hq=>?_)⟩
    · have hq:q ≠ 0:=by simpa using hq
      unfold isB at k0
      rw [if_neg hq] at k0
      refine ⟨_,rfl,v,rfl,hv.any,_,rfl,ite2 (fun h1=>?_) (fun h1=>?_)⟩
      · cases v with
        | int i=>
          refine ⟨_,rfl,_,_,rfl,rfl,_,rfl,ite2 (fun h2=>?_) (fun h2=>?_)⟩
          · have e:remB q (.int i) = decide (i < q):=by
              show (decide (0 ≤ i) && decide (i < q)) = _
              rw [h2,Bool.true_and]
            rw [e] at k0
            exact ⟨_,rfl,_,_,rfl,rfl,k0⟩
          · have e:remB q (.int i) = false:=by
              show (decide (0 ≤ i) && decide (i < q)) = _
              have h2:decide (0 ≤ i) = false:=by simpa using h2
              rw [h2,Bool.false_and]
            rw [e] at k0
            exact k0
        | _=>cases h1
      · have e:remB q v = false:=by cases v <;> first | rfl | exact absurd rfl h1
        rw [e] at k0
        exact k0
    · have hq:q = 0:=by simpa using hq
      unfold isB at k0 k
      rw [if_pos hq] at k0
      obtain ⟨Ty,ty,_,_,k3⟩:=hv.any.kit (K:=K)
      refine ⟨_,rfl,_,_,_,_,rfl,rfl,ty,k3,_,rfl,ite2 (fun h1=>?_) (fun h1=>?_)⟩
      · have h1:isTupV H v = false:=by simpa using h1
        rw [ratioB_no h1] at k0
        exact iteT k0
      · have h1:isTupV H v = true:=by simpa using h1
        obtain ⟨a,xs,rfl,e⟩:∃ a xs,v = .ref a∧H a = some (.tup xs):=by
          cases hv.any with
          | @tup a xs e=>exact ⟨a,xs,rfl,e⟩
          | @lst a xs e=>unfold isTupV at h1; dsimp only at h1; rw [e] at h1; cases h1
          | @dct a e=>unfold isTupV at h1; dsimp only at h1; rw [e] at h1; cases h1
          | _=>cases h1
        refine ⟨_,rfl,a,xs,rfl,.inr (.of e),rfl,_,rfl,ite2 (fun h2=>?_) (fun h2=>?_)⟩
        · have h2:xs.length ≠ 2:=fun z=>by rw [z] at h2; cases h2
          rw [ratioB_len e h2] at k0
          exact k0
        · have h2:xs.length = 2:=by
            by_cases z:xs.length = 2
            · exact z
            · refine absurd ?_ h2
              have z':¬ V.int (xs.length:Int) = V.int 2:=fun y=>z (by have:=V.int.inj y; omega)
              rw [decide_eq_false z']
              rfl
          match xs,h2,e,k0 with
          | [x,y],_,e,k0=>
            obtain ⟨ax,ay,my⟩:=hv.two a x y rfl e
            rw [ratioB_pair e] at k0
            refine ⟨_,rfl,a,_,0,x,rfl,rfl,.of e,rfl,x,rfl,ax,_,rfl,ite2 (fun h3=>?_) (fun h3=>?_)⟩
            · have h3:isIntV x = false:=by simpa using h3
              have e1:pairB x y = false:=by cases x <;> first | rfl | cases h3
              rw [e1] at k0
              exact iteT k0
            · have h3:isIntV x = true:=by simpa using h3
              refine ⟨_,rfl,a,_,1,y,rfl,rfl,.of e,rfl,y,rfl,ay,_,rfl,ite2 (fun h4=>?_) (fun h4=>?_)⟩
              · have h4:isIntV y = false:=by simpa using h4
                have e1:pairB x y = false:=by cases y <;> first | (cases x <;> rfl) | cases h4
                rw [e1] at k0
                exact iteT k0
              · have h4:isIntV y = true:=by simpa using h4
                cases x with
                | int i=>
                  cases y with
                  | int j=>
                    refine ⟨_,rfl,a,_,1,.int j,rfl,rfl,.of e,rfl,_,_,rfl,rfl,_,rfl,ite2 (fun h5=>?_) (fun h5=>?_)⟩
                    · have h5:j < 1:=of_decide_eq_true h5
                      have e1:pairB (.int i) (.int j) = false:=by
                        show (decide (1 ≤ j) && decide (Int.gcd i j = 1)) = _
                        rw [decide_eq_false (by omega)]; rfl
                      rw [e1] at k0
                      exact k0
                    · have h5:¬ j < 1:=fun z=>h5 (decide_eq_true z)
                      refine ⟨_,rfl,a,_,0,.int i,rfl,rfl,.of e,rfl,_,rfl,a,_,1,.int j,rfl,rfl,.of e,rfl,i,j,rfl,by omega,my j rfl,fun p H2 s2 hp=>?_⟩
                      refine ⟨_,rfl,p,a,_,_,rfl,rfl,.of hp,.of (s2 _ _ e),rfl,rfl,?_⟩
                      have z:=k H2 s2
                      rw [if_pos hq,ratioB_pair e] at z
                      have e1:pairB (.int i) (.int j) = eqL [.int (i.fdiv (lowG i j)),.int (j.fdiv (lowG i j))] [.int i,.int j]:=by
                        show (decide (1 ≤ j) && decide (Int.gcd i j = 1)) = ((i.fdiv (lowG i j) == i) && ((j.fdiv (lowG i j) == j) && true))
                        rw [decide_eq_true (show 1 ≤ j by omega),Bool.true_and,Bool.and_true,low_one (by omega)]
                      rw [e1] at z
                      exact z
                  | _=>cases h4
                | _=>cases h3
theorem sc_is_bounded_list:FnScope ["thing"] ["thing"] (defScope s_is_bounded_list):=⟨rfl,rfl,rfl,by decide +kernel,rfl,by decide +kernel,by decide +kernel⟩
theorem ok_is_bounded_list (T:Txt K mg t):FnOk P w K mg base CX0 1 t.f_is_bounded_list t.d_is_bounded_list ["thing"] spBnd:=by
  have S:=sc_is_bounded_list
  obtain ⟨uM,hM,rM⟩:=T.mg_MOST
  refine T.F_is_bounded_list.ok S (fun vs H Q E h=>?_) (fun cdv A outer s H vs Q E hr h=>?_)
  · obtain ⟨v,t,rfl,_⟩:=h
    rfl
  · obtain ⟨v,t,rfl,hv,k⟩:=h
    refine ⟨_,(@pss_one _ _ _ (@ps_ret _ _ _ _ (@pe_and _ _ _ _ _ _ _ (pe_callB (call_isi (K:=K)) rfl T.n_isinstance boot_isinstance (@pa_mor _ _ _ _ _ (by rfl) (pv 0) (@pa_mor _ _ _ _ _ (by rfl) (pe_bltn (v:=.ty "list") rfl T.n_list boot_list rfl) pa_nil))) (@pe_one _ _ _ _ _ (pe_chain op_le op_le pe_int (pe_callB call_len_seq rfl T.n_len boot_len (@pa_mor _ _ _ _ _ (by rfl) (pv 0) pa_nil)) (pe_glob (v:=.int 40) rfl hM rM)))))),?_⟩
    obtain ⟨Ty,ty,k3⟩:=IsTr.kitL (K:=K) hv
    refine ⟨_,rfl,_,_,_,_,rfl,rfl,ty,k3,_,rfl,?_⟩
    cases hv with
    | @ls a vs ts e l h=>
      refine iteT ?_
      refine ⟨_,rfl,a,vs,rfl,.inl (.of e),_,_,rfl,rfl,_,rfl,ite2 (fun h1=>?_) (fun h1=>?_)⟩
      · have h1:=of_decide_eq_true h1
        refine ⟨_,_,rfl,rfl,?_⟩
        have eb:bndB (.ls ts) = decide ((vs.length:Int) ≤ 40):=by
          show (decide (1 ≤ ts.length) && decide (ts.length ≤ 40)) = _
          rw [decide_eq_true (show 1 ≤ ts.length by omega),Bool.true_and]
          exact decide_eq_decide.mpr (by omega)
        rw [eb] at k
        exact k
      · have h1:¬ (1:Int) ≤ vs.length:=fun z=>h1 (decide_eq_true z)
        have eb:bndB (.ls ts) = false:=by
          show (decide (1 ≤ ts.length) && decide (ts.length ≤ 40)) = _
          rw [decide_eq_false (show ¬ 1 ≤ ts.length by omega),Bool.false_and]
        rw [eb] at k
        exact k
    | fl h=>exact iteF k
    | tp e l h=>exact iteF k
    | dc e=>exact iteF k
theorem sc_is_table_row:FnScope ["world","thing"] ["world","thing"] (defScope s_is_table_row):=⟨rfl,rfl,rfl,by decide +kernel,rfl,by decide +kernel,by decide +kernel⟩
theorem bls_map {ys:List V} {n:Nat} {f:Nat→Bool} (l:ys.length = n) (h:∀ (i:Nat) (y:V),ys[i]? = some y→y = .bl (f i)):ys = ((List.range n).map f).map V.bl:=by
  refine List.ext_getElem? fun i=>?_
  by_cases hi:i < ys.length
  · have:=h i ys[i] (by simp [hi])
    rw [List.getElem?_eq_getElem hi,this]
    simp [show i < n by omega]
  · rw [List.getElem?_eq_none (by omega),List.getElem?_eq_none (by simp; omega)]
theorem all_rng {α:Type} (ts:List α) (d:α) (f:α→Bool):((List.range ts.length).map fun i=>f (ts.getD i d)).all id = ts.all f:=by
  rw [List.all_map]
  rw [Bool.eq_iff_iff,List.all_eq_true,List.all_eq_true]
  constructor
  · intro h t ht
    obtain ⟨i,hi,e⟩:=List.mem_iff_getElem.mp ht
    have:=h i (List.mem_range.mpr hi)
    simp only [Function.comp_apply,id_eq,getD_at hi] at this
    rw [← e]
    exact this
  · intro h i hi
    have hi:=List.mem_range.mp hi
    simp only [Function.comp_apply,id_eq,getD_at hi]
    exact h _ (List.getElem_mem hi)
theorem ok_is_table_row (T:Txt K mg t):FnOk P w K mg base CX0 4 t.f_is_table_row t.d_is_table_row ["world","thing"] (spRowT t.C_World):=by
  have S:=sc_is_table_row
  have G_is_bounded_list:=ok_is_bounded_list (P:=P) (w:=w) (base:=base) T
  have G_World_is_number:=ok_is_number (P:=P) (w:=w) (base:=base) T
  refine T.F_is_table_row.ok S (fun vs H Q E h=>?_) (fun cdv A outer s H vs Q E hr h=>?_)
  · obtain ⟨z,q,v,t,rfl,_⟩:=h
    rfl
  · obtain ⟨z,q,v,t,rfl,⟨dz,hd⟩,hv,ok,k⟩:=h
    refine ⟨_,(@pss_one _ _ _ (@ps_ret _ _ _ _ (@pe_and _ _ _ _ _ _ _ (pe_call G_is_bounded_list (hr.mono (by decide)) rfl T.mg_is_bounded_list T.F_is_bounded_list.kp T.b_is_bounded_list .nil pass0 (@pa_mor _ _ _ _ _ (by rfl) (pv 1) pa_nil)) (@pe_one _ _ _ _ _ (pe_callB (call_all (K:=K) rfl) rfl T.n_all boot_all (@pa_mor _ _ _ _ _ (by rfl) (pe_comp (N:=["number","world"]) (ρ:=(fun σ=>[σ[0]?.join])) ⟨rfl,rfl,by decide +kernel,by decide +kernel,(List.forall_mem_cons.mpr ⟨rfl,(List.forall_mem_nil _)⟩),has_of (by rfl),rfl,by decide +kernel,rfl,(fun σ j v h=>match j,h with | 0,h=>⟨0,_,rfl,rfl,join_some h,Or.inr (Or.inl rfl),.inl rfl,.inl rfl⟩ | j + 1,h=>by cases h),(fun _ _=>rfl)⟩ rfl (pi_list (pv 1)) (fun s₃ H₃ fp=>.nil) (fun s₃ H₃ fp=>(pe_meth (pv 1) T.cl_World T.m_World_is_number G_World_is_number (hr.mono (by decide)) T.b_World_is_number .nil pass0 (@pa_mor _ _ _ _ _ (by rfl) (pv 0) pa_nil)))) pa_nil)))))),?_⟩
    refine ⟨_,rfl,v,t,rfl,hv,_,rfl,ite2 (fun h1=>?_) (fun h1=>?_)⟩
    · cases hv with
      | @ls a vs ts e l h=>
        obtain ⟨o1,o2⟩:=ok
        refine cb_of (comp_of (xs:=vs) (fun R h=>⟨_,rfl,a,rfl,⟨_,.of e⟩,h _ _ (Same.refl _) (jseq_list (.of e))⟩) (small1000 (by omega)) (fun _ i y _=>y = .bl (cellB q (ts.getD i .dc))) (fun _ _ _ _ _ _ h _ _=>h) ?_ ?_)
        · intro D i v hi Hc R sc _ kc
          have i1:i < vs.length:=(List.getElem?_eq_some_iff.mp hi).1
          have i2:i < ts.length:=by omega
          have hc:=h i v ts[i] hi (by simp [i2])
          have th:=(o2 _ (List.getElem_mem i2)) _ _ hc
          refine ⟨_,rfl,z,dz,_,rfl,sc _ _ hd,lk_no (by decide +kernel),_,rfl,z,q,v,rfl,⟨dz,sc _ _ hd⟩,th.mono sc,?_⟩
          rw [isB_cell (hc.keep sc)]
          exact kc _ Hc (Same.refl _) (by rw [getD_at i2])
        · intro D ys Hc sc hys hP eD
          refine ⟨D,_,rfl,.of (by rw [eD,bls_map (n:=ts.length) (by omega) hP]),?_⟩
          rw [all_rng ts .dc]
          have er:rowB q (.ls ts) = ts.all (cellB q):=by
            show (bndB (.ls ts) && ts.all (cellB q)) = _
            rw [h1,Bool.true_and]
          have:=k Hc sc
          rw [er] at this
          exact this
      | fl h=>cases h1
      | tp e l h=>cases h1
      | dc e=>cases h1
    · have h1:bndB t = false:=by simpa using h1
      have er:rowB q t = false:=by
        cases t with
        | ls ts=>show (bndB (.ls ts) && ts.all (cellB q)) = _; rw [h1]; rfl
        | _=>rfl
      have:=k H (Same.refl H)
      rw [er] at this
      exact this
theorem sc_is_table:FnScope ["world","thing"] ["world","thing"] (defScope s_is_table):=⟨rfl,rfl,rfl,by decide +kernel,rfl,by decide +kernel,by decide +kernel⟩
theorem rowB_ls {q:Int} {t:Tr} (h:rowB q t = true):∃ ts,t = .ls ts∧1 ≤ ts.length∧ts.length ≤ 40:=by
  cases t with
  | ls ts=>
    have:(bndB (.ls ts) && ts.all (cellB q)) = true:=h
    rw [Bool.and_eq_true] at this
    have:(decide (1 ≤ ts.length) && decide (ts.length ≤ 40)) = true:=this.1
    rw [Bool.and_eq_true] at this
    exact ⟨ts,rfl,of_decide_eq_true this.1,of_decide_eq_true this.2⟩
  | _=>cases h
theorem ok_is_table (T:Txt K mg t):FnOk P w K mg base CX0 5 t.f_is_table t.d_is_table ["world","thing"] (spTabT t.C_World):=by
  have S:=sc_is_table
  have G_is_bounded_list:=ok_is_bounded_list (P:=P) (w:=w) (base:=base) T
  have G_is_table_row:=ok_is_table_row (P:=P) (w:=w) (base:=base) T
  refine T.F_is_table.ok S (fun vs H Q E h=>?_) (fun cdv A outer s H vs Q E hr h=>?_)
  · obtain ⟨z,q,v,t,rfl,_⟩:=h
    rfl
  · obtain ⟨z,q,v,t,rfl,hz,hv,ok,k⟩:=h
    refine ⟨_,(@pss_cons _ _ _ _ _ (@ps_if _ _ _ _ _ _ _ _ (PW.pt (@pw_or _ _ _ _ _ _ _ (@pt_not _ _ _ _ (pt_val (pe_call G_is_bounded_list (hr.mono (by decide)) rfl T.mg_is_bounded_list T.F_is_bounded_list.kp T.b_is_bounded_list .nil pass0 (@pa_mor _ _ _ _ _ (by rfl) (pv 1) pa_nil)))) (@pw_or1 _ _ _ _ (@pt_not _ _ _ _ (pt_val (pe_callB (call_all (K:=K) rfl) rfl T.n_all boot_all (@pa_mor _ _ _ _ _ (by rfl) (pe_comp (N:=["row","world"]) (ρ:=(fun σ=>[σ[0]?.join])) ⟨rfl,rfl,by decide +kernel,by decide +kernel,(List.forall_mem_cons.mpr ⟨rfl,(List.forall_mem_nil _)⟩),has_of (by rfl),rfl,by decide +kernel,rfl,(fun σ j v h=>match j,h with | 0,h=>⟨0,_,rfl,rfl,join_some h,Or.inr (Or.inl rfl),.inl rfl,.inl rfl⟩ | j + 1,h=>by cases h),(fun _ _=>rfl)⟩ rfl (pi_list (pv 1)) (fun s₃ H₃ fp=>.nil) (fun s₃ H₃ fp=>(pe_call G_is_table_row (hr.mono (by decide)) rfl T.mg_is_table_row T.F_is_table_row.kp T.b_is_table_row .nil pass0 (@pa_mor _ _ _ _ _ (by rfl) (pv 1) (@pa_mor _ _ _ _ _ (by rfl) (pv 0) pa_nil))))) pa_nil))))))) (@pss_one _ _ _ (@ps_ret _ _ _ _ pe_bl)) pss_nil)
      (@pss_one _ _ _ (@ps_ret _ _ _ _ (pe_callB (call_all (K:=K) rfl) rfl T.n_all boot_all (@pa_mor _ _ _ _ _ (by rfl) (pe_comp (N:=["row","thing"]) (ρ:=(fun σ=>[σ[1]?.join])) ⟨rfl,rfl,by decide +kernel,by decide +kernel,(List.forall_mem_cons.mpr ⟨rfl,(List.forall_mem_nil _)⟩),has_of (by rfl),rfl,by decide +kernel,rfl,(fun σ j v h=>match j,h with | 0,h=>⟨1,_,rfl,rfl,join_some h,Or.inr (Or.inl rfl),.inl rfl,.inl rfl⟩ | j + 1,h=>by cases h),(fun _ _=>rfl)⟩ rfl (pi_list (pv 1)) (fun s₃ H₃ fp=>.nil) (fun s₃ H₃ fp=>(@pe_cmpR _ _ _ _ _ _ _ _ op_eq (pe_callB (call_len_seqK (K:=K)) rfl T.n_len boot_len (@pa_mor _ _ _ _ _ (by rfl) (pv 0) pa_nil)) (pe_callB (call_len_seqK (K:=K)) rfl T.n_len boot_len (@pa_mor _ _ _ _ _ (by rfl) (@pe_ix _ _ _ _ _ _ _ (ix_listK (K:=K)) (pv 1) pe_int (fun _ _=>rfl)) pa_nil)) (nomark _)))) pa_nil))))),?_⟩
    refine ⟨_,rfl,v,t,rfl,hv,_,rfl,ite2 (fun h1=>?_) (fun h1=>?_)⟩
    · have h1:bndB t = false:=by simpa using h1
      have er:tabB q t = false:=by
        cases t with
        | ls ts=>show ((bndB (.ls ts) && ts.all (rowB q)) && _) = _; rw [h1]; rfl
        | _=>rfl
      have:=k H (Same.refl H)
      rw [er] at this
      exact iteT this
    · have h1:bndB t = true:=by simpa using h1
      cases hv with
      | @ls a vs ts e l h=>
        obtain ⟨o1,o2⟩:=ok
        refine cb_of (comp_of (xs:=vs) (fun R h=>⟨_,rfl,a,rfl,⟨_,.of e⟩,h _ _ (Same.refl _) (jseq_list (.of e))⟩) (small1000 (by omega)) (fun _ i y _=>y = .bl (rowB q (ts.getD i .dc))) (fun _ _ _ _ _ _ h _ _=>h) ?_ ?_)
        · intro D i v hi Hc R sc _ kc
          have i1:i < vs.length:=(List.getElem?_eq_some_iff.mp hi).1
          have i2:i < ts.length:=by omega
          have hc:=h i v ts[i] hi (by simp [i2])
          exact ⟨_,rfl,_,rfl,z,q,v,ts[i],rfl,hz.mono sc,hc.keep sc,o2 _ (List.getElem_mem i2),fun H' s'=>kc _ H' s' (by rw [getD_at i2])⟩
        · intro D ys H1 s1 hys hP eD
          refine ⟨D,_,rfl,.of (by rw [eD,bls_map (n:=ts.length) (by omega) hP]),?_⟩
          rw [all_rng ts .dc]
          refine ⟨_,rfl,ite2 (fun h2=>?_) (fun h2=>?_)⟩
          · have h2:ts.all (rowB q) = false:=by simpa using h2
            have er:tabB q (.ls ts) = false:=by
              show ((bndB (.ls ts) && ts.all (rowB q)) && _) = _
              rw [h1,h2]; rfl
            have:=k H1 s1
            rw [er] at this
            exact this
          · have h2:ts.all (rowB q) = true:=by simpa using h2
            have lsAt:∀ i,i < ts.length→∃ us:List Tr,ts.getD i .dc = .ls us:=fun i hi=>by
              obtain ⟨us,e1,_⟩:=rowB_ls (List.all_eq_true.mp h2 _ (List.getElem_mem hi))
              exact ⟨us,by rw [getD_at hi]; exact e1⟩
            have n1:1 ≤ ts.length:=by
              have:(decide (1 ≤ ts.length) && decide (ts.length ≤ 40)) = true:=h1
              rw [Bool.and_eq_true] at this
              exact of_decide_eq_true this.1
            have rowAt:∀ i (hi:i < vs.length),∃ (r:Addr) (ws:List V),vs[i] = .ref r∧H r = some (.lst ws)∧ws.length = lenTr (ts.getD i .dc):=fun i hi=>by
              have i2:i < ts.length:=by omega
              obtain ⟨us,eu⟩:=lsAt i i2
              have hc:=h i vs[i] ts[i] (by simp [hi]) (by simp [i2])
              rw [← getD_at (d:=.dc) i2,eu] at hc
              generalize vs[i] = v at hc
              cases hc with
              | @ls r ws _ er lw _=>exact ⟨r,ws,rfl,er,by rw [eu]; exact lw⟩
            have v0:0 < vs.length:=by omega
            obtain ⟨r0,ws0,e0,er0,lw0⟩:=rowAt 0 v0
            have at0:atI vs 0 = some (.ref r0):=by exact atI_nat (j:=0) (by rw [← e0]; simp [v0])
            have hd:ts.headD .dc = ts.getD 0 .dc:=by
              cases ts with
              | nil=>rfl
              | cons x xs=>rfl
            dsimp only [tNext]
            have e1:=s1 _ _ e
            refine ret_of (cb_of (comp_of (xs:=vs) (fun R h=>⟨_,rfl,a,rfl,⟨_,.of e1⟩,h _ _ (Same.refl _) (jseq_list (.of e1))⟩) (small1000 (by omega)) (fun _ i y _=>y = .bl (decide (lenTr (ts.getD i .dc) = lenTr (ts.headD .dc)))) (fun _ _ _ _ _ _ h _ _=>h) ?_ ?_))
            · intro D' i v hi Hc R sc _ kc
              have i1:i < vs.length:=(List.getElem?_eq_some_iff.mp hi).1
              obtain ⟨r,ws,ev,er,lw⟩:=rowAt i i1
              have:v = .ref r:=by rw [← ev]; simpa [i1] using hi.symm
              subst this
              have s1c:=s1.trans sc
              refine ⟨_,rfl,r,ws,rfl,.inl (.of (s1c _ _ er)),_,rfl,a,vs,_,.ref r0,rfl,rfl,.of (s1c _ _ e),at0,r0,ws0,rfl,.inl (.of (s1c _ _ er0)),rfl,kc _ Hc (Same.refl _) ?_⟩
              rw [dV_int,hd]
              exact congrArg V.bl (decide_eq_decide.mpr (by omega))
            · intro D' ys' H2 s2 hys' hP' eD'
              refine ⟨D',_,rfl,.of (by rw [eD',bls_map (n:=ts.length) (by omega) hP']),?_⟩
              rw [all_rng ts .dc fun r=>decide (lenTr r = lenTr (ts.headD .dc))]
              have er:tabB q (.ls ts) = ts.all fun r=>decide (lenTr r = lenTr (ts.headD .dc)):=by
                show ((bndB (.ls ts) && ts.all (rowB q)) && _) = _
                rw [h1,h2]; rfl
              have:=k H2 (s1.trans s2)
              rw [er] at this
              exact this
      | fl h=>cases h1
      | tp e l h=>cases h1
      | dc e=>cases h1
theorem sc_b_number:FnScope ["p","draw","way","rest"] ["p","draw"] (defScope s_b_number):=⟨rfl,rfl,rfl,by decide +kernel,rfl,by decide +kernel,by decide +kernel⟩
theorem ok_b_number (T:Txt K mg t):FnOk P w K mg base CX0 2 t.f_b_number t.d_b_number ["p","draw"] spNumT:=by
  have S:=sc_b_number
  have G_b_low:=ok_b_low (P:=P) (w:=w) (base:=base) T
  refine T.F_b_number.ok S (fun vs H Q E h=>?_) (fun cdv A outer s H vs Q E hr h=>?_)
  · obtain ⟨q,c,rfl,_⟩:=h
    rfl
  · obtain ⟨q,c,rfl,hp,hc,k⟩:=h
    refine ⟨_,(@pss_cons _ _ _ _ _ (@ps_if _ _ _ _ _ _ _ _ (@pt_truth _ _ _ (pv 0) (fun _=>rfl)) (@pss_one _ _ _ (@ps_ret _ _ _ _ (@pe_op _ _ _ _ _ _ _ _ op_mod (pv 1) (pv 0)))) pss_nil)
      (@pss_cons _ _ _ _ _ (@ps_put _ _ 2 _ _ _ _ (by rfl) (by first | exact .inl rfl | exact .inr rfl | assumption) S.nd rfl (Or.inl rfl) (@pe_op _ _ _ _ _ _ _ _ op_mod (pv 1) pe_int))
      (@pss_cons _ _ _ _ _ (@ps_put _ _ 3 _ _ _ _ (by rfl) (by first | exact .inl rfl | exact .inr rfl | assumption) S.nd rfl (Or.inl rfl) (@pe_op _ _ _ _ _ _ _ _ op_fdiv (pv 1) pe_int))
      (@pss_cons _ _ _ _ _ (@ps_if _ _ _ _ _ _ _ _ (@pt_cmpR _ _ _ _ _ _ _ _ op_lt (pv 2) pe_int (nomark _)) (@pss_one _ _ _ (@ps_ret _ _ _ _ (@pe_tup _ _ _ _ _ (@pa_mor _ _ _ _ _ (by rfl) pe_int (@pa_mor _ _ _ _ _ (by rfl) pe_int pa_nil))))) pss_nil)
      (@pss_cons _ _ _ _ _ (@ps_if _ _ _ _ _ _ _ _ (@pt_cmpR _ _ _ _ _ _ _ _ op_lt (pv 2) pe_int (nomark _)) (@pss_one _ _ _ (@ps_ret _ _ _ _ (@pe_tup _ _ _ _ _ (@pa_mor _ _ _ _ _ (by rfl) (@pe_op _ _ _ _ _ _ _ _ op_sub (@pe_op _ _ _ _ _ _ _ _ op_mod (pv 3) pe_int) pe_int) (@pa_mor _ _ _ _ _ (by rfl) pe_int pa_nil))))) pss_nil)
      (@pss_cons _ _ _ _ _ (@ps_if _ _ _ _ _ _ _ _ (@pt_cmpR _ _ _ _ _ _ _ _ op_lt (pv 2) pe_int (nomark _)) (@pss_one _ _ _ (@ps_ret _ _ _ _ (pe_call G_b_low (hr.mono (by decide)) rfl T.mg_b_low T.F_b_low.kp T.b_b_low .nil pass0 (@pa_mor _ _ _ _ _ (by rfl) (@pe_op _ _ _ _ _ _ _ _ op_sub (@pe_op _ _ _ _ _ _ _ _ op_mod (pv 3) pe_int) pe_int) (@pa_mor _ _ _ _ _ (by rfl) (@pe_op _ _ _ _ _ _ _ _ op_add (@pe_op _ _ _ _ _ _ _ _ op_mod (@pe_op _ _ _ _ _ _ _ _ op_fdiv (pv 3) pe_int) pe_int) pe_int) pa_nil))))) pss_nil)
      (@pss_one _ _ _ (@ps_ret _ _ _ _ (pe_call G_b_low (hr.mono (by decide)) rfl T.mg_b_low T.F_b_low.kp T.b_b_low .nil pass0 (@pa_mor _ _ _ _ _ (by rfl) (@pe_op _ _ _ _ _ _ _ _ op_sub (@pe_op _ _ _ _ _ _ _ _ op_mod (pv 3) pe_int) pe_int) (@pa_mor _ _ _ _ _ (by rfl) (@pe_op _ _ _ _ _ _ _ _ op_add (@pe_op _ _ _ _ _ _ _ _ op_mod (@pe_op _ _ _ _ _ _ _ _ op_fdiv (pv 3) pe_int) pe_int) pe_int) pa_nil))))))))))),?_⟩
    have lowk:∀ (a b:Int),1 ≤ b→b ≤ 1000→numTr q c = lowT a b→spLow [.int a,.int b] H Q E:=fun a b hb bb e=>by
      refine ⟨a,b,rfl,by omega,Mid.of_lt (by omega) (by omega),fun r H' s' er=>k (.ref r) H' s' ?_⟩
      rw [e]
      exact .tp er rfl fun i v t h1 h2=>by
        match i,h1,h2 with
        | 0,h1,h2=>cases h1; cases h2; exact .fl rfl
        | 1,h1,h2=>cases h1; cases h2; exact .fl rfl
    have two:∀ (x:Int),numTr q c = .tp [flI x,flI 1]→∀ r,H r = none→Q (.ref r) (upd H r (.tup [.int x,.int 1])):=fun x e r hr'=>by
      refine k (.ref r) _ (same_upd hr') ?_
      rw [e]
      exact .tp upd_same rfl fun i v t h1 h2=>by
        match i,h1,h2 with
        | 0,h1,h2=>cases h1; cases h2; exact .fl rfl
        | 1,h1,h2=>cases h1; cases h2; exact .fl rfl
    refine ⟨_,rfl,_,rfl,ite2 (fun hq=>?_) (fun hq=>?_)⟩
    · have hq:q ≠ 0:=by simpa using hq
      obtain ⟨hp1,hp2,hp3⟩:2 ≤ q∧q ≤ 997∧primeB q = true:=hp.resolve_left hq
      refine ⟨_,rfl,_,rfl,_,_,rfl,rfl,(show (0:Int) < q by omega),k _ H (Same.refl H) ?_⟩
      unfold numTr
      rw [if_pos hq]
      exact .fl rfl
    · have hq:q = 0:=by simpa using hq
      have nq:¬ q ≠ 0:=fun z=>z hq
      refine ⟨_,rfl,_,_,rfl,rfl,(by show (0:Int) < 8; decide),?_⟩
      refine ⟨_,rfl,_,_,rfl,rfl,⟨by decide,by decide⟩,?_⟩
      refine ⟨_,rfl,_,_,rfl,rfl,_,rfl,ite2 (fun h1=>⟨by show 2 ≤ sizeLine; decide,fun r hr'=>two 0 ?_ r hr'⟩) (fun h1=>?_)⟩
      · have h1:=of_decide_eq_true h1
        unfold numTr
        rw [if_neg nq,if_pos h1]
      have h1:¬ c % 8 < 2:=fun z=>h1 (decide_eq_true z)
      refine ⟨_,rfl,_,_,rfl,rfl,_,rfl,ite2 (fun h2=>⟨_,rfl,_,_,rfl,rfl,(by show (0:Int) < 7; decide),_,_,rfl,rfl,by show 2 ≤ sizeLine; decide,fun r hr'=>two _ ?_ r hr'⟩) (fun h2=>?_)⟩
      · have h2:=of_decide_eq_true h2
        unfold numTr
        rw [if_neg nq,if_neg h1,if_pos h2]
      have h2:¬ c % 8 < 5:=fun z=>h2 (decide_eq_true z)
      refine ⟨_,rfl,_,_,rfl,rfl,_,rfl,ite2 (fun h3=>⟨_,rfl,_,_,rfl,rfl,(by show (0:Int) < 23; decide),_,_,rfl,rfl,_,rfl,_,_,rfl,rfl,⟨by decide,by decide⟩,_,_,rfl,rfl,(by show (0:Int) < 6; decide),_,_,rfl,rfl,?_⟩) (fun h3=>?_)⟩
      · have h3:=of_decide_eq_true h3
        have b2:=Int.emod_nonneg (c / 8 / 23) (show (6:Int) ≠ 0 by decide)
        have b3:=Int.emod_lt_of_pos (c / 8 / 23) (show (0:Int) < 6 by decide)
        exact lowk _ _ (by omega) (by omega) (by unfold numTr; rw [if_neg nq,if_neg h1,if_neg h2,if_pos h3])
      · have h3:¬ c % 8 < 7:=fun z=>h3 (decide_eq_true z)
        refine ⟨_,rfl,_,_,rfl,rfl,(by show (0:Int) < 2000001; decide),_,_,rfl,rfl,_,rfl,_,_,rfl,rfl,⟨by decide,by decide⟩,_,_,rfl,rfl,(by show (0:Int) < 1000; decide),_,_,rfl,rfl,?_⟩
        have b2:=Int.emod_nonneg (c / 8 / 2000001) (show (1000:Int) ≠ 0 by decide)
        have b3:=Int.emod_lt_of_pos (c / 8 / 2000001) (show (0:Int) < 1000 by decide)
        exact lowk _ _ (by omega) (by omega) (by unfold numTr; rw [if_neg nq,if_neg h1,if_neg h2,if_neg h3])
theorem sc_b_due:FnScope ["p","thing","row","number"] ["p","thing"] (defScope s_b_due):=⟨rfl,rfl,rfl,by decide +kernel,rfl,by decide +kernel,by decide +kernel⟩
theorem ok_b_due (T:Txt K mg t):FnOk P w K mg base CX0 3 t.f_b_due t.d_b_due ["p","thing"] spDue:=by
  have S:=sc_b_due
  have G_b_is:=ok_b_is (P:=P) (w:=w) (base:=base) T
  refine T.F_b_due.ok S (fun vs H Q E h=>?_) (fun cdv A outer s H vs Q E hr h=>?_)
  · obtain ⟨q,v,t,rfl,_⟩:=h
    rfl
  · obtain ⟨q,v,t,rfl,hv,ok,k⟩:=h
    refine ⟨_,(@pss_cons _ _ _ _ _ (@ps_if _ _ _ _ _ _ _ _ (PW.pt (@pw_or _ _ _ _ _ _ _ (@pt_not _ _ _ _ (pt_val (pe_callB (call_isi (K:=K)) rfl T.n_isinstance boot_isinstance (@pa_mor _ _ _ _ _ (by rfl) (pv 1) (@pa_mor _ _ _ _ _ (by rfl) (pe_bltn (v:=.ty "list") rfl T.n_list boot_list rfl) pa_nil))))) (@pw_or _ _ _ _ _ _ _ (@pt_cmpR _ _ _ _ _ _ _ _ op_lt (pe_callB call_len_seq rfl T.n_len boot_len (@pa_mor _ _ _ _ _ (by rfl) (pv 1) pa_nil)) pe_int (nomark _)) (@pw_or1 _ _ _ _ (@pt_cmpR _ _ _ _ _ _ _ _ op_gt (pe_callB call_len_seq rfl T.n_len boot_len (@pa_mor _ _ _ _ _ (by rfl) (pv 1) pa_nil)) pe_int (nomark _)))))) (@pss_one _ _ _ (@ps_ret _ _ _ _ pe_bl)) pss_nil)
      (@pss_cons _ _ _ _ _ (ps_for PassesOwn.never rfl (pi_list (pv 1)) (pg_name (i:=2) S.nd rfl (Or.inl rfl))
        (@pss_cons _ _ _ _ _ (@ps_if _ _ _ _ _ _ _ _ (PW.pt (@pw_or _ _ _ _ _ _ _ (@pt_not _ _ _ _ (pt_val (pe_callB (call_isi (K:=K)) rfl T.n_isinstance boot_isinstance (@pa_mor _ _ _ _ _ (by rfl) (pv 2) (@pa_mor _ _ _ _ _ (by rfl) (pe_bltn (v:=.ty "list") rfl T.n_list boot_list rfl) pa_nil))))) (@pw_or _ _ _ _ _ _ _ (@pt_cmpR _ _ _ _ _ _ _ _ op_lt (pe_callB call_len_seq rfl T.n_len boot_len (@pa_mor _ _ _ _ _ (by rfl) (pv 2) pa_nil)) pe_int (nomark _)) (@pw_or _ _ _ _ _ _ _ (@pt_cmpR _ _ _ _ _ _ _ _ op_gt (pe_callB call_len_seq rfl T.n_len boot_len (@pa_mor _ _ _ _ _ (by rfl) (pv 2) pa_nil)) pe_int (nomark _)) (@pw_or1 _ _ _ _ (@pt_cmpR _ _ _ _ _ _ _ _ op_ne (pe_callB call_len_seq rfl T.n_len boot_len (@pa_mor _ _ _ _ _ (by rfl) (pv 2) pa_nil)) (pe_callB call_len_seq rfl T.n_len boot_len (@pa_mor _ _ _ _ _ (by rfl) (@pe_ix _ _ _ _ _ _ _ ix_list (pv 1) pe_int (fun _ _=>rfl)) pa_nil)) (nomark _))))))) (@pss_one _ _ _ (@ps_ret _ _ _ _ pe_bl)) pss_nil)
      (@pss_one _ _ _ (ps_for PassesOwn.never rfl (pi_list (pv 2)) (pg_name (i:=3) S.nd rfl (Or.inl rfl))
        (@pss_one _ _ _ (@ps_if _ _ _ _ _ _ _ _ (@pt_not _ _ _ _ (pt_val (pe_call G_b_is (hr.mono (by decide)) rfl T.mg_b_is T.F_b_is.kp T.b_b_is .nil pass0 (@pa_mor _ _ _ _ _ (by rfl) (pv 0) (@pa_mor _ _ _ _ _ (by rfl) (pv 3) pa_nil))))) (@pss_one _ _ _ (@ps_ret _ _ _ _ pe_bl)) pss_nil))))))
      (@pss_one _ _ _ (@ps_ret _ _ _ _ pe_bl)))),?_⟩
    obtain ⟨Ty,ty,k3⟩:=IsTr.kitL (K:=K) hv
    have no:bndB t = false→tabB q t = false:=fun h=>by
      cases t with
      | ls ts=>show ((bndB (.ls ts) && ts.all (rowB q)) && _) = _; rw [h]; rfl
      | _=>rfl
    refine ⟨_,rfl,_,_,_,_,rfl,rfl,ty,k3,_,rfl,?_⟩
    cases hv with
    | fl h=>exact iteT (by have:=k H (Same.refl H); rw [no rfl] at this; exact this)
    | tp e l h=>exact iteT (by have:=k H (Same.refl H); rw [no rfl] at this; exact this)
    | dc e=>exact iteT (by have:=k H (Same.refl H); rw [no rfl] at this; exact this)
    | @ls a vs ts e l h=>
      obtain ⟨o1,o2⟩:=ok
      refine iteF ?_
      refine ⟨_,rfl,a,vs,rfl,.inl (.of e),_,_,rfl,rfl,_,rfl,ite2 (fun h1=>?_) (fun h1=>?_)⟩
      · have h1:=of_decide_eq_true h1
        have eb:bndB (.ls ts) = false:=by
          show (decide (1 ≤ ts.length) && decide (ts.length ≤ 40)) = _
          rw [decide_eq_false (show ¬ 1 ≤ ts.length by omega),Bool.false_and]
        exact iteT (by have:=k H (Same.refl H); rw [no eb] at this; exact this)
      have h1:¬ (vs.length:Int) < 1:=fun z=>h1 (decide_eq_true z)
      refine ⟨_,rfl,a,vs,rfl,.inl (.of e),_,_,rfl,rfl,_,rfl,ite2 (fun h2=>?_) (fun h2=>?_)⟩
      · have h2:=of_decide_eq_true h2
        have eb:bndB (.ls ts) = false:=by
          show (decide (1 ≤ ts.length) && decide (ts.length ≤ 40)) = _
          rw [decide_eq_false (show ¬ ts.length ≤ 40 by omega),Bool.and_false]
        have:=k H (Same.refl H)
        rw [no eb] at this
        exact this
      have h2:¬ (40:Int) < vs.length:=fun z=>h2 (decide_eq_true z)
      have eb:bndB (.ls ts) = true:=by
        show (decide (1 ≤ ts.length) && decide (ts.length ≤ 40)) = _
        rw [decide_eq_true (show 1 ≤ ts.length by omega),decide_eq_true (show ts.length ≤ 40 by omega)]
        rfl
      have hd:ts.headD .dc = ts.getD 0 .dc:=by
        cases ts with
        | nil=>rfl
        | cons x xs=>rfl
      have bad:∀ i,i < ts.length→(rowB q (ts.getD i .dc) && decide (lenTr (ts.getD i .dc) = lenTr (ts.getD 0 .dc))) = false→tabB q (.ls ts) = false:=fun i hi hb=>by
        show ((bndB (.ls ts) && ts.all (rowB q)) && ts.all fun r=>decide (lenTr r = lenTr (ts.headD .dc))) = _
        rw [Bool.and_eq_false_iff] at hb
        rw [getD_at hi] at hb
        rcases hb with hb | hb
        · have:ts.all (rowB q) = false:=by
            rw [List.all_eq_false]
            exact ⟨ts[i],List.getElem_mem hi,by rw [hb]; simp⟩
          rw [this,Bool.and_false,Bool.false_and]
        · have:(ts.all fun r=>decide (lenTr r = lenTr (ts.headD .dc))) = false:=by
            rw [List.all_eq_false]
            exact ⟨ts[i],List.getElem_mem hi,by rw [hd,hb]; simp⟩
          rw [this,Bool.and_false]
      dsimp only [tNext]
      refine ⟨_,rfl,a,rfl,⟨_,.of e⟩,?_⟩
      refine for_list (K:=K) (a:=a) (xs:=vs) (fun i σ Hc=>Same H Hc∧(∃ v2 v3:Option V,σ = [some (.int q),some (.ref a),v2,v3])∧∀ i',i' < i→(rowB q (ts.getD i' .dc) && decide (lenTr (ts.getD i' .dc) = lenTr (ts.getD 0 .dc))) = true) ⟨Same.refl _,⟨none,none,rfl⟩,fun i' h=>absurd h (Nat.not_lt_zero _)⟩ (fun i σ Hc _ ⟨sc,_⟩=>.of (sc _ _ e)) ?_ ?_
      · rintro i v σ Hc hv ⟨sc,⟨v2,v3,rfl⟩,done⟩
        have i1:i < vs.length:=(List.getElem?_eq_some_iff.mp hv).1
        have i2:i < ts.length:=by omega
        have hc:=(h i v ts[i] hv (by simp [i2])).keep sc
        have okr:=o2 _ (List.getElem_mem i2)
        have bad:=bad i i2
        have gi:ts.getD i .dc = ts[i]:=getD_at i2
        rw [gi] at bad
        have kc:=k Hc sc
        dsimp only [gName]
        simp only [L2.start,List.length_cons,List.length_nil,List.map_cons,List.map_nil,List.replicate,List.cons_append,List.nil_append,List.set_cons_zero,List.set_cons_succ]
        obtain ⟨Ty,ty,k3⟩:=IsTr.kitL (K:=K) hc
        refine seq_of (ifs_of ⟨_,rfl,_,_,_,_,rfl,rfl,ty,k3,_,rfl,?_⟩)
        have lenB:∀ x:Tr,bndB x = false→rowB q x = false:=fun x hx=>by
          cases x with
          | ls us=>show (bndB (.ls us) && us.all (cellB q)) = _; rw [hx]; rfl
          | _=>rfl
        generalize ts[i] = tr at hc okr bad gi k3
        cases hc with
        | fl h=>exact iteT (by rw [bad rfl] at kc; exact kc)
        | tp e l h=>exact iteT (by rw [bad rfl] at kc; exact kc)
        | dc e=>exact iteT (by rw [bad rfl] at kc; exact kc)
        | @ls r ws us er lw hw=>
          obtain ⟨p1,p2⟩:=okr
          refine iteF ?_
          refine ⟨_,rfl,r,ws,rfl,.inl (.of er),_,_,rfl,rfl,_,rfl,ite2 (fun h3=>?_) (fun h3=>?_)⟩
          · have h3:=of_decide_eq_true h3
            have eb':bndB (.ls us) = false:=by
              show (decide (1 ≤ us.length) && decide (us.length ≤ 40)) = _
              rw [decide_eq_false (show ¬ 1 ≤ us.length by omega),Bool.false_and]
            exact iteT (by rw [bad (by rw [lenB _ eb']; rfl)] at kc; exact kc)
          have h3:¬ (ws.length:Int) < 1:=fun z=>h3 (decide_eq_true z)
          refine ⟨_,rfl,r,ws,rfl,.inl (.of er),_,_,rfl,rfl,_,rfl,ite2 (fun h4=>?_) (fun h4=>?_)⟩
          · have h4:=of_decide_eq_true h4
            have eb':bndB (.ls us) = false:=by
              show (decide (1 ≤ us.length) && decide (us.length ≤ 40)) = _
              rw [decide_eq_false (show ¬ us.length ≤ 40 by omega),Bool.and_false]
            exact iteT (by rw [bad (by rw [lenB _ eb']; rfl)] at kc; exact kc)
          have h4:¬ (40:Int) < ws.length:=fun z=>h4 (decide_eq_true z)
          have eb':bndB (.ls us) = true:=by
            show (decide (1 ≤ us.length) && decide (us.length ≤ 40)) = _
            rw [decide_eq_true (show 1 ≤ us.length by omega),decide_eq_true (show us.length ≤ 40 by omega)]
            rfl
          obtain ⟨r0,ws0,e0,er0,lw0⟩:∃ (r0:Addr) (ws0:List V),vs[0]? = some (.ref r0)∧Hc r0 = some (.lst ws0)∧ws0.length = lenTr (ts.getD 0 .dc):=by
            have v0:0 < vs.length:=by omega
            have t0:0 < ts.length:=by omega
            by_cases i0:i = 0
            · subst i0
              exact ⟨r,ws,hv,er,by rw [gi]; exact lw⟩
            · have:=done 0 (by omega)
              rw [Bool.and_eq_true] at this
              obtain ⟨us0,e1,_⟩:=rowB_ls this.1
              have hc:=(h 0 vs[0] ts[0] (by simp [v0]) (by simp [t0])).keep sc
              rw [← getD_at (d:=.dc) t0,e1] at hc
              have ev:vs[0]? = some vs[0]:=by simp [v0]
              generalize vs[0] = v at hc ev
              cases hc with
              | @ls r ws _ er lw _=>exact ⟨r,ws,ev,er,by rw [e1]; exact lw⟩
          have at0:atI vs 0 = some (.ref r0):=by exact atI_nat (j:=0) e0
          refine ⟨_,rfl,r,ws,rfl,.inl (.of er),_,rfl,a,vs,_,.ref r0,rfl,rfl,.of (sc _ _ e),at0,r0,ws0,rfl,.inl (.of er0),rfl,_,rfl,ite2 (fun h5=>?_) (fun h5=>?_)⟩
          · have h5:¬ us.length = lenTr (ts.getD 0 .dc):=fun z=>by
              rw [dV_int,decide_eq_true (by omega)] at h5
              cases h5
            rw [bad (by rw [show decide (lenTr (.ls us) = lenTr (ts.getD 0 .dc)) = false from decide_eq_false h5,Bool.and_false])] at kc
            exact kc
          have h5:us.length = lenTr (ts.getD 0 .dc):=by
            by_cases z:us.length = lenTr (ts.getD 0 .dc)
            · exact z
            · refine absurd ?_ h5
              rw [dV_int,decide_eq_false (by omega)]
              rfl
          dsimp only [tNext]
          refine ⟨_,rfl,r,rfl,⟨_,.of er⟩,?_⟩
          refine for_list (K:=K) (a:=r) (xs:=ws) (fun j σ Hd=>Same Hc Hd∧(∃ v3:Option V,σ = [some (.int q),some (.ref a),some (.ref r),v3])∧∀ j',j' < j→cellB q (us.getD j' .dc) = true) ⟨Same.refl _,⟨_,rfl⟩,fun j' h=>absurd h (Nat.not_lt_zero _)⟩ (fun j σ Hd _ ⟨sd,_⟩=>.of (sd _ _ er)) ?_ ?_
          · rintro j x σ Hd hx ⟨sd,⟨v3,rfl⟩,all⟩
            have j1:j < ws.length:=(List.getElem?_eq_some_iff.mp hx).1
            have j2:j < us.length:=by omega
            have hcell:=(hw j x us[j] hx (by simp [j2])).keep sd
            dsimp only [gName]
            simp only [List.set_cons_zero,List.set_cons_succ]
            refine ⟨_,rfl,_,rfl,q,x,rfl,p2 _ (List.getElem_mem j2) _ _ hcell,fun He se=>⟨_,rfl,ite2 (fun h6=>?_) (fun h6=>?_)⟩⟩
            · rw [isB_cell hcell] at h6
              have h6:cellB q us[j] = false:=by simpa using h6
              have rb:rowB q (.ls us) = false:=by
                show (bndB (.ls us) && us.all (cellB q)) = _
                have:us.all (cellB q) = false:=by
                  rw [List.all_eq_false]
                  exact ⟨us[j],List.getElem_mem j2,by rw [h6]; simp⟩
                rw [this,Bool.and_false]
              have ke:=k He (sc.trans (sd.trans se))
              rw [bad (by rw [rb]; rfl)] at ke
              exact ke
            · rw [isB_cell hcell] at h6
              have h6:cellB q us[j] = true:=by simpa using h6
              refine ⟨sd.trans se,⟨_,rfl⟩,fun j' hj'=>?_⟩
              by_cases z:j' = j
              · rw [z,getD_at j2]; exact h6
              · exact all j' (by omega)
          · rintro σ Hd ⟨sd,⟨v3,rfl⟩,all⟩
            refine ⟨sc.trans sd,⟨_,_,rfl⟩,fun i' hi'=>?_⟩
            by_cases z:i' = i
            · rw [z,gi]
              have rb:rowB q (.ls us) = true:=by
                show (bndB (.ls us) && us.all (cellB q)) = _
                rw [eb',Bool.true_and,List.all_eq_true]
                intro x hx
                obtain ⟨j,hj,ej⟩:=List.mem_iff_getElem.mp hx
                have:=all j (by omega)
                rw [getD_at hj,ej] at this
                exact this
              rw [rb,Bool.true_and]
              exact decide_eq_true h5
            · exact done i' (by omega)
      · rintro σ Hc ⟨sc,⟨v2,v3,rfl⟩,done⟩
        have tb:tabB q (.ls ts) = true:=by
          show ((bndB (.ls ts) && ts.all (rowB q)) && ts.all fun r=>decide (lenTr r = lenTr (ts.headD .dc))) = _
          have both:∀ x ∈ ts,rowB q x = true∧decide (lenTr x = lenTr (ts.headD .dc)) = true:=fun x hx=>by
            obtain ⟨i,hi,ei⟩:=List.mem_iff_getElem.mp hx
            have:=done i (by omega)
            rw [Bool.and_eq_true,getD_at hi,ei,← hd] at this
            exact this
          rw [eb,List.all_eq_true.mpr fun x hx=>(both x hx).1,List.all_eq_true.mpr fun x hx=>(both x hx).2]
          rfl
        have:=k Hc sc
        rw [tb] at this
        exact this
theorem sc_b_size:FnScope ["draw","way","rest"] ["draw"] (defScope s_b_size):=⟨rfl,rfl,rfl,by decide +kernel,rfl,by decide +kernel,by decide +kernel⟩
theorem ok_b_size (T:Txt K mg t):FnOk P w K mg base CX0 1 t.f_b_size t.d_b_size ["draw"] spSize07:=by
  have S:=sc_b_size
  refine T.F_b_size.ok S (fun vs H Q E h=>?_) (fun cdv A outer s H vs Q E hr h=>?_)
  · obtain ⟨c,rfl,_⟩:=h
    rfl
  · obtain ⟨c,rfl,k⟩:=h
    refine ⟨_,(@pss_cons _ _ _ _ _ (@ps_put _ _ 1 _ _ _ _ (by rfl) (by first | exact .inl rfl | exact .inr rfl | assumption) S.nd rfl (Or.inl rfl) (@pe_op _ _ _ _ _ _ _ _ op_mod (pv 0) pe_int))
      (@pss_cons _ _ _ _ _ (@ps_put _ _ 2 _ _ _ _ (by rfl) (by first | exact .inl rfl | exact .inr rfl | assumption) S.nd rfl (Or.inl rfl) (@pe_op _ _ _ _ _ _ _ _ op_fdiv (pv 0) pe_int))
      (@pss_cons _ _ _ _ _ (@ps_if _ _ _ _ _ _ _ _ (@pt_cmpR _ _ _ _ _ _ _ _ op_eq (pv 1) pe_int (nomark _)) (@pss_one _ _ _ (@ps_ret _ _ _ _ (@pe_tup _ _ _ _ _ (@pa_mor _ _ _ _ _ (by rfl) (@pe_op _ _ _ _ _ _ _ _ op_add pe_int (@pe_op _ _ _ _ _ _ _ _ op_mod (pv 2) pe_int)) (@pa_mor _ _ _ _ _ (by rfl) (@pe_op _ _ _ _ _ _ _ _ op_add pe_int (@pe_op _ _ _ _ _ _ _ _ op_mod (@pe_op _ _ _ _ _ _ _ _ op_fdiv (pv 2) pe_int) pe_int)) pa_nil))))) pss_nil)
      (@pss_cons _ _ _ _ _ (@ps_if _ _ _ _ _ _ _ _ (@pt_cmpR _ _ _ _ _ _ _ _ op_eq (pv 1) pe_int (nomark _)) (@pss_one _ _ _ (@ps_ret _ _ _ _ (@pe_tup _ _ _ _ _ (@pa_mor _ _ _ _ _ (by rfl) (@pe_op _ _ _ _ _ _ _ _ op_add pe_int (@pe_op _ _ _ _ _ _ _ _ op_mod (pv 2) pe_int)) (@pa_mor _ _ _ _ _ (by rfl) (@pe_op _ _ _ _ _ _ _ _ op_add pe_int (@pe_op _ _ _ _ _ _ _ _ op_mod (@pe_op _ _ _ _ _ _ _ _ op_fdiv (pv 2) pe_int) pe_int)) pa_nil))))) pss_nil)
      (@pss_one _ _ _ (@ps_ret _ _ _ _ (@pe_tup _ _ _ _ _ (@pa_mor _ _ _ _ _ (by rfl) (@pe_op _ _ _ _ _ _ _ _ op_add pe_int (@pe_op _ _ _ _ _ _ _ _ op_mod (pv 2) pe_int)) (@pa_mor _ _ _ _ _ (by rfl) (@pe_op _ _ _ _ _ _ _ _ op_add pe_int (@pe_op _ _ _ _ _ _ _ _ op_mod (@pe_op _ _ _ _ _ _ _ _ op_fdiv (pv 2) pe_int) pe_int)) pa_nil))))))))),?_⟩
    have fin:∀ x y:Int,szP c = (x,y)→∀ r,H r = none→Q (.ref r) (upd H r (.tup [.int x,.int y])):=fun x y e r hr'=>k r _ (same_upd hr') (by rw [e]; exact upd_same)
    refine ⟨_,rfl,_,_,rfl,rfl,(by show (0:Int) < 6; decide),?_⟩
    refine ⟨_,rfl,_,_,rfl,rfl,⟨by decide,by decide⟩,?_⟩
    refine ⟨_,rfl,rfl,_,rfl,ite2 (fun h1=>?_) (fun h1=>?_)⟩
    · have h1:c % 6 = 4:=by simpa using h1
      exact ⟨_,rfl,_,_,rfl,rfl,(by show (0:Int) < 5; decide),_,_,rfl,rfl,_,rfl,_,_,rfl,rfl,⟨by decide,by decide⟩,_,_,rfl,rfl,(by show (0:Int) < 3; decide),_,_,rfl,rfl,by show 2 ≤ sizeLine; decide,fun r hr'=>fin _ _ (by unfold szP; rw [if_pos h1]) r hr'⟩
    have h1:¬ c % 6 = 4:=by simpa using h1
    refine ⟨_,rfl,rfl,_,rfl,ite2 (fun h2=>?_) (fun h2=>?_)⟩
    · have h2:c % 6 = 5:=by simpa using h2
      exact ⟨_,rfl,_,_,rfl,rfl,(by show (0:Int) < 3; decide),_,_,rfl,rfl,_,rfl,_,_,rfl,rfl,⟨by decide,by decide⟩,_,_,rfl,rfl,(by show (0:Int) < 5; decide),_,_,rfl,rfl,by show 2 ≤ sizeLine; decide,fun r hr'=>fin _ _ (by unfold szP; rw [if_neg h1,if_pos h2]) r hr'⟩
    · have h2:¬ c % 6 = 5:=by simpa using h2
      exact ⟨_,rfl,_,_,rfl,rfl,(by show (0:Int) < 6; decide),_,_,rfl,rfl,_,rfl,_,_,rfl,rfl,⟨by decide,by decide⟩,_,_,rfl,rfl,(by show (0:Int) < 6; decide),_,_,rfl,rfl,by show 2 ≤ sizeLine; decide,fun r hr'=>fin _ _ (by unfold szP; rw [if_neg h1,if_neg h2]) r hr'⟩
theorem sc_b_no_number:FnScope ["p","rest","some"] ["p","rest"] (defScope s_b_no_number):=⟨rfl,rfl,rfl,by decide +kernel,rfl,by decide +kernel,by decide +kernel⟩
theorem ok_b_no_number (T:Txt K mg t):FnOk P w K mg base CX0 1 t.f_b_no_number t.d_b_no_number ["p","rest"] spNo07:=by
  have S:=sc_b_no_number
  refine T.F_b_no_number.ok S (fun vs H Q E h=>?_) (fun cdv A outer s H vs Q E hr h=>?_)
  · obtain ⟨q,c,rfl,_⟩:=h
    rfl
  · obtain ⟨q,c,rfl,k⟩:=h
    refine ⟨_,(@pss_cons _ _ _ _ _ (@ps_put _ _ 2 _ _ _ _ (by rfl) (by first | exact .inl rfl | exact .inr rfl | assumption) S.nd rfl (Or.inl rfl) (@pe_lst _ _ _ _ (@pa_mor _ _ _ _ _ (by rfl) pe_non (@pa_mor _ _ _ _ _ (by rfl) pe_str (@pa_mor _ _ _ _ _ (by rfl) pe_bl (@pa_mor _ _ _ _ _ (by rfl) (@pe_lst _ _ _ _ (@pa_mor _ _ _ _ _ (by rfl) pe_int pa_nil)) (@pa_mor _ _ _ _ _ (by rfl) (@pe_tup _ _ _ _ _ (@pa_mor _ _ _ _ _ (by rfl) pe_int pa_nil)) (@pa_mor _ _ _ _ _ (by rfl) (@pe_tup _ _ _ _ _ (@pa_mor _ _ _ _ _ (by rfl) pe_int (@pa_mor _ _ _ _ _ (by rfl) pe_int pa_nil))) (@pa_mor _ _ _ _ _ (by rfl) (@pe_tup _ _ _ _ _ (@pa_mor _ _ _ _ _ (by rfl) pe_int (@pa_mor _ _ _ _ _ (by rfl) pe_int pa_nil))) (@pa_mor _ _ _ _ _ (by rfl) (@pe_tup _ _ _ _ _ (@pa_mor _ _ _ _ _ (by rfl) pe_int (@pa_mor _ _ _ _ _ (by rfl) (@pe_un _ _ _ _ _ _ un_neg pe_int) pa_nil))) (@pa_mor _ _ _ _ _ (by rfl) (@pe_tup _ _ _ _ _ (@pa_mor _ _ _ _ _ (by rfl) pe_int (@pa_mor _ _ _ _ _ (by rfl) pe_int pa_nil))) (@pa_mor _ _ _ _ _ (by rfl) (@pe_un _ _ _ _ _ _ un_neg pe_int) (@pa_mor _ _ _ _ _ (by rfl) (pv 0) (@pa_mor _ _ _ _ _ (by rfl) pe_int (@pa_mor _ _ _ _ _ (by rfl) (@pe_tup _ _ _ _ _ (@pa_mor _ _ _ _ _ (by rfl) pe_int (@pa_mor _ _ _ _ _ (by rfl) pe_int (@pa_mor _ _ _ _ _ (by rfl) pe_int pa_nil)))) (@pa_mor _ _ _ _ _ (by rfl) (@pe_tup _ _ _ _ _ (@pa_mor _ _ _ _ _ (by rfl) pe_bl (@pa_mor _ _ _ _ _ (by rfl) pe_int pa_nil))) (@pa_mor _ _ _ _ _ (by rfl) pe_int (@pa_mor _ _ _ _ _ (by rfl) pe_bl pa_nil))))))))))))))))))
      (@pss_one _ _ _ (@ps_ret _ _ _ _ (@pe_ix _ _ _ _ _ _ _ ix_list (pv 2) (@pe_op _ _ _ _ _ _ _ _ op_mod (pv 1) pe_int) (fun _ _=>rfl))))),?_⟩
    have n1:∀ {σ:St} (i:Int),Item σ (tC (V.int i)) (flI i):=fun i=>item_c rfl
    have it:∀ σ:St,σ[0]? = some (some (V.int q))→Items σ _ (noTr q):=fun σ e=>(items_cons (item_c (v:=.non) rfl) (items_cons (item_c (v:=.str (Str.ofString "1")) rfl) (items_cons (item_c (v:=.bl true) rfl) (items_cons (item_lst (items_cons (n1 1) items_nil) (by decide)) (items_cons (item_tup (items_cons (n1 1) items_nil) (by decide)) (items_cons (item_tup (items_cons (n1 1) (items_cons (n1 0) items_nil)) (by decide)) (items_cons (item_tup (items_cons (n1 2) (items_cons (n1 4) items_nil)) (by decide)) (items_cons (item_tup (items_cons (n1 1) (items_cons (item_neg (i:=1)) items_nil)) (by decide)) (items_cons (item_tup (items_cons (n1 0) (items_cons (n1 1) items_nil)) (by decide)) (items_cons (item_neg (i:=1)) (items_cons (item_var e rfl) (items_cons (n1 0) (items_cons (item_tup (items_cons (n1 1) (items_cons (n1 2) (items_cons (n1 3) items_nil))) (by decide)) (items_cons (item_tup (items_cons (item_c (v:=.bl true) rfl) (items_cons (n1 1) items_nil)) (by decide)) (items_cons (n1 1000) (items_cons (item_c (v:=.bl false) rfl) items_nil))))))))))))))))
    refine seq_of (asg_of (it _ rfl H _ fun vs H1 s1 l1 i1=>⟨by rw [l1]; show 16 ≤ sizeLine; decide,fun p np=>?_⟩))
    have h0:=Int.emod_nonneg c (show (16:Int) ≠ 0 by decide)
    have h1:=Int.emod_lt_of_pos c (show (0:Int) < 16 by decide)
    obtain ⟨v,e1,e2,e3⟩:=pick_at l1 h0 (show c % 16 < _ by exact h1)
    have sp:Same H1 (upd H1 p (.lst vs)):=same_upd np
    obtain ⟨j1,j2⟩:=i1 _ v _ e2 e3
    exact ⟨_,rfl,_,rfl,_,_,rfl,rfl,(by show (0:Int) < 16; decide),p,vs,_,v,rfl,rfl,.of upd_same,e1,k v _ (s1.trans sp) (j1.keep sp) j2⟩
theorem sc_b_thing:FnScope ["script","p","n","m","table","way","rest","at"] ["script","p"] (defScope s_b_thing):=⟨rfl,rfl,rfl,by decide +kernel,rfl,by decide +kernel,by decide +kernel⟩
theorem ok_b_thing (T:Txt K mg t):FnOk P w K mg base CX0 3 t.f_b_thing t.d_b_thing ["script","p"] (spThing07 K):=by
  have S:=sc_b_thing
  have G_b_size:=ok_b_size (P:=P) (w:=w) (base:=base) T
  have G_b_draw:=ok_b_draw (P:=P) (w:=w) (base:=base) T
  have G_b_number:=ok_b_number (P:=P) (w:=w) (base:=base) T
  have G_b_no_number:=ok_b_no_number (P:=P) (w:=w) (base:=base) T
  refine T.F_b_thing.ok S (fun vs H Q E h=>?_) (fun cdv A outer s H vs Q E hr h=>?_)
  · obtain ⟨a,ns,q,rfl,_⟩:=h
    rfl
  · obtain ⟨a,ns,q,rfl,hS,hq,k⟩:=h
    refine ⟨_,(@pss_cons _ _ _ _ _ (@ps_asg _ _ _ _ _ _ (pe_call G_b_size (hr.mono (by decide)) rfl T.mg_b_size T.F_b_size.kp T.b_b_size .nil pass0 (@pa_mor _ _ _ _ _ (by rfl) (pe_call G_b_draw (hr.mono (by decide)) rfl T.mg_b_draw T.F_b_draw.kp T.b_b_draw .nil pass0 (@pa_mor _ _ _ _ _ (by rfl) (pv 0) (@pa_mor _ _ _ _ _ (by rfl) pe_int pa_nil))) pa_nil)) (pg_tup rfl (pgs_cons (pg_name (i:=2) S.nd rfl (Or.inl rfl)) (pgs_cons (pg_name (i:=3) S.nd rfl (Or.inr rfl)) pgs_nil))) (by rfl) (by rfl) (by rfl))
      (@pss_cons _ _ _ _ _ (ps_compC (i0:=4) (N:=["i","p","script","m"]) (ρ:=(fun σ=>[σ[1]?.join,σ[0]?.join,σ[3]?.join])) ⟨rfl,rfl,(fun _=>rfl),(fun _=>rfl),by decide +kernel,(List.forall_mem_cons.mpr ⟨rfl,(List.forall_mem_cons.mpr ⟨rfl,(List.forall_mem_cons.mpr ⟨rfl,(List.forall_mem_nil _)⟩)⟩)⟩),hasC_of (by rfl),rfl,by decide +kernel,rfl,(fun σ j v h=>match j,h with | 0,h=>⟨1,_,rfl,rfl,join_some h,Or.inr (Or.inl rfl),.inl rfl,.inl rfl⟩ | 1,h=>⟨0,_,rfl,rfl,join_some h,Or.inr (Or.inl rfl),.inl rfl,.inl rfl⟩ | 2,h=>⟨3,_,rfl,rfl,join_some h,Or.inr (Or.inl rfl),.inl rfl,.inl rfl⟩ | j + 3,h=>by cases h),(fun _ _=>rfl)⟩ rfl S.nd rfl (Or.inl rfl) (pi_range1 rfl T.n_range (@pa_mor _ _ _ _ _ (by rfl) (pv 2) pa_nil)) (fun s₃ H₃ fp=>.nil) (fun s₃ H₃ fp=>(pe_comp (N:=["j","p","script","i","m"]) (ρ:=(fun σ=>[σ[1]?.join,σ[2]?.join,σ[0]?.join,σ[3]?.join])) ⟨rfl,rfl,by decide +kernel,by decide +kernel,(List.forall_mem_cons.mpr ⟨rfl,(List.forall_mem_cons.mpr ⟨rfl,(List.forall_mem_cons.mpr ⟨rfl,(List.forall_mem_cons.mpr ⟨rfl,(List.forall_mem_nil _)⟩)⟩)⟩)⟩),has_of (by rfl),rfl,by decide +kernel,rfl,(fun σ j v h=>match j,h with | 0,h=>⟨1,_,rfl,rfl,join_some h,Or.inr (Or.inl rfl),.inl rfl,.inl rfl⟩ | 1,h=>⟨2,_,rfl,rfl,join_some h,Or.inr (Or.inl rfl),.inl rfl,.inl rfl⟩ | 2,h=>⟨0,_,rfl,rfl,join_some h,Or.inr (Or.inl rfl),.inl rfl,.inl rfl⟩ | 3,h=>⟨3,_,rfl,rfl,join_some h,Or.inr (Or.inl rfl),.inl rfl,.inl rfl⟩ | j + 4,h=>by cases h),(fun _ _=>rfl)⟩ rfl (pi_range1 rfl T.n_range (@pa_mor _ _ _ _ _ (by rfl) (pv 3) pa_nil)) (fun s₃ H₃ fp=>.nil) (fun s₃ H₃ fp=>(pe_call G_b_number (hr.mono (by decide)) rfl T.mg_b_number T.F_b_number.kp T.b_b_number .nil pass0 (@pa_mor _ _ _ _ _ (by rfl) (pv 1) (@pa_mor _ _ _ _ _ (by rfl) (pe_call G_b_draw (hr.mono (by decide)) rfl T.mg_b_draw T.F_b_draw.kp T.b_b_draw .nil pass0 (@pa_mor _ _ _ _ _ (by rfl) (pv 2) (@pa_mor _ _ _ _ _ (by rfl) (@pe_op _ _ _ _ _ _ _ _ op_add (@pe_op _ _ _ _ _ _ _ _ op_add pe_int (@pe_op _ _ _ _ _ _ _ _ op_mul (pv 3) (pv 4))) (pv 0)) pa_nil))) pa_nil)))))))
      (@pss_cons _ _ _ _ _ (@ps_put _ _ 5 _ _ _ _ (by rfl) (by first | exact .inl rfl | exact .inr rfl | assumption) S.nd rfl (Or.inl rfl) (@pe_op _ _ _ _ _ _ _ _ op_mod (pe_call G_b_draw (hr.mono (by decide)) rfl T.mg_b_draw T.F_b_draw.kp T.b_b_draw .nil pass0 (@pa_mor _ _ _ _ _ (by rfl) (pv 0) (@pa_mor _ _ _ _ _ (by rfl) pe_int pa_nil))) pe_int))
      (@pss_cons _ _ _ _ _ (@ps_put _ _ 6 _ _ _ _ (by rfl) (by first | exact .inl rfl | exact .inr rfl | assumption) S.nd rfl (Or.inl rfl) (@pe_op _ _ _ _ _ _ _ _ op_fdiv (pe_call G_b_draw (hr.mono (by decide)) rfl T.mg_b_draw T.F_b_draw.kp T.b_b_draw .nil pass0 (@pa_mor _ _ _ _ _ (by rfl) (pv 0) (@pa_mor _ _ _ _ _ (by rfl) pe_int pa_nil))) pe_int))
      (@pss_cons _ _ _ _ _ (@ps_put _ _ 7 _ _ _ _ (by rfl) (by first | exact .inl rfl | exact .inr rfl | assumption) S.nd rfl (Or.inl rfl) (@pe_op _ _ _ _ _ _ _ _ op_mod (pv 6) (pv 2)))
      (@pss_cons _ _ _ _ _ (@ps_put _ _ 6 _ _ _ _ (by rfl) (by first | exact .inl rfl | exact .inr rfl | assumption) S.nd rfl (Or.inl rfl) (@pe_op _ _ _ _ _ _ _ _ op_fdiv (pv 6) (pv 2)))
      (@pss_cons _ _ _ _ _ (@ps_if _ _ _ _ _ _ _ _ (@pt_cmpR _ _ _ _ _ _ _ _ op_eq (pv 5) pe_int (nomark _)) (@pss_one _ _ _ (@ps_asg _ _ _ _ _ _ (pe_call G_b_no_number (hr.mono (by decide)) rfl T.mg_b_no_number T.F_b_no_number.kp T.b_b_no_number .nil pass0 (@pa_mor _ _ _ _ _ (by rfl) (pv 1) (@pa_mor _ _ _ _ _ (by rfl) (pv 6) pa_nil))) (pg_sub (@pe_ix _ _ _ _ _ _ _ ix_list (pv 4) (pv 7) (fun _ _=>rfl)) (@pe_op _ _ _ _ _ _ _ _ op_mod (@pe_op _ _ _ _ _ _ _ _ op_fdiv (pv 6) pe_int) (pv 3)) set_list) (by rfl) (by rfl) (by rfl))) pss_nil)
      (@pss_cons _ _ _ _ _ (@ps_if _ _ _ _ _ _ _ _ (PW.pt (pw_and (@pt_cmpR _ _ _ _ _ _ _ _ op_eq (pv 5) pe_int (nomark _)) (pw_and1 (@pt_cmpR _ _ _ _ _ _ _ _ op_eq (@pe_op _ _ _ _ _ _ _ _ op_mod (pv 6) pe_int) pe_int (nomark _))))) (@pss_one _ _ _ (ps_expr (pe_bm PySem.F.plainAttrs_list PySem.F.slot_list_pop PySem.F.type_list_pop mt_popAt (@pe_ix _ _ _ _ _ _ _ ix_list (pv 4) (pv 7) (fun _ _=>rfl)) (@pa_mor _ _ _ _ _ (by rfl) (@pe_op _ _ _ _ _ _ _ _ op_mod (@pe_op _ _ _ _ _ _ _ _ op_fdiv (pv 6) pe_int) (pv 3)) pa_nil)))) pss_nil)
      (@pss_cons _ _ _ _ _ (@ps_if _ _ _ _ _ _ _ _ (PW.pt (pw_and (@pt_cmpR _ _ _ _ _ _ _ _ op_eq (pv 5) pe_int (nomark _)) (pw_and1 (@pt_cmpR _ _ _ _ _ _ _ _ op_eq (@pe_op _ _ _ _ _ _ _ _ op_mod (pv 6) pe_int) pe_int (nomark _))))) (@pss_one _ _ _ (ps_expr (pe_bm PySem.F.plainAttrs_list PySem.F.slot_list_append PySem.F.type_list_append mt_append (@pe_ix _ _ _ _ _ _ _ ix_list (pv 4) (pv 7) (fun _ _=>rfl)) (@pa_mor _ _ _ _ _ (by rfl) (@pe_ix _ _ _ _ _ _ _ ix_list (@pe_ix _ _ _ _ _ _ _ ix_list (pv 4) pe_int (fun _ _=>rfl)) pe_int (fun _ _=>rfl)) pa_nil)))) pss_nil)
      (@pss_cons _ _ _ _ _ (@ps_if _ _ _ _ _ _ _ _ (PW.pt (pw_and (@pt_cmpR _ _ _ _ _ _ _ _ op_eq (pv 5) pe_int (nomark _)) (pw_and1 (@pt_cmpR _ _ _ _ _ _ _ _ op_eq (@pe_op _ _ _ _ _ _ _ _ op_mod (pv 6) pe_int) pe_int (nomark _))))) (@pss_one _ _ _ (@ps_asg _ _ _ _ _ _ (pe_callTy call_tuple_of rfl T.n_tuple boot_tuple (@pa_mor _ _ _ _ _ (by rfl) (@pe_ix _ _ _ _ _ _ _ ix_list (pv 4) (pv 7) (fun _ _=>rfl)) pa_nil)) (pg_sub (pv 4) (pv 7) set_list) (by rfl) (by rfl) (by rfl))) pss_nil)
      (@pss_cons _ _ _ _ _ (@ps_if _ _ _ _ _ _ _ _ (PW.pt (pw_and (@pt_cmpR _ _ _ _ _ _ _ _ op_eq (pv 5) pe_int (nomark _)) (pw_and1 (@pt_cmpR _ _ _ _ _ _ _ _ op_eq (@pe_op _ _ _ _ _ _ _ _ op_mod (pv 6) pe_int) pe_int (nomark _))))) (@pss_one _ _ _ (@ps_asg _ _ _ _ _ _ (@pe_ix _ _ _ _ _ _ _ ix_list (@pe_lst _ _ _ _ (@pa_mor _ _ _ _ _ (by rfl) (@pe_lst _ _ _ _ pa_nil) (@pa_mor _ _ _ _ _ (by rfl) pe_non (@pa_mor _ _ _ _ _ (by rfl) pe_str (@pa_mor _ _ _ _ _ (by rfl) pe_int (@pa_mor _ _ _ _ _ (by rfl) pe_dct (@pa_mor _ _ _ _ _ (by rfl) pe_bl pa_nil))))))) (@pe_op _ _ _ _ _ _ _ _ op_mod (@pe_op _ _ _ _ _ _ _ _ op_fdiv (pv 6) pe_int) pe_int) (fun _ _=>rfl)) (pg_sub (pv 4) (pv 7) set_list) (by rfl) (by rfl) (by rfl))) pss_nil)
      (@pss_cons _ _ _ _ _ (@ps_if _ _ _ _ _ _ _ _ (@pt_cmpR _ _ _ _ _ _ _ _ op_eq (pv 5) pe_int (nomark _)) (@pss_one _ _ _ (@ps_ret _ _ _ _ (pe_callTy call_tuple_of rfl T.n_tuple boot_tuple (@pa_mor _ _ _ _ _ (by rfl) (pv 4) pa_nil)))) pss_nil)
      (@pss_cons _ _ _ _ _ (@ps_if _ _ _ _ _ _ _ _ (@pt_cmpR _ _ _ _ _ _ _ _ op_eq (pv 5) pe_int (nomark _)) (@pss_one _ _ _ (@ps_ret _ _ _ _ (@pe_ix _ _ _ _ _ _ _ ix_list (@pe_lst _ _ _ _ (@pa_mor _ _ _ _ _ (by rfl) (@pe_lst _ _ _ _ pa_nil) (@pa_mor _ _ _ _ _ (by rfl) (@pe_lst _ _ _ _ (@pa_mor _ _ _ _ _ (by rfl) (@pe_lst _ _ _ _ pa_nil) pa_nil)) (@pa_mor _ _ _ _ _ (by rfl) pe_str (@pa_mor _ _ _ _ _ (by rfl) pe_non (@pa_mor _ _ _ _ _ (by rfl) pe_int (@pa_mor _ _ _ _ _ (by rfl) pe_bl (@pa_mor _ _ _ _ _ (by rfl) pe_dct (@pa_mor _ _ _ _ _ (by rfl) (@pe_tup _ _ _ _ _ pa_nil) (@pa_mor _ _ _ _ _ (by rfl) (@pe_lst _ _ _ _ (@pa_mor _ _ _ _ _ (by rfl) (@pe_lst _ _ _ _ pa_nil) (@pa_mor _ _ _ _ _ (by rfl) (@pe_lst _ _ _ _ pa_nil) pa_nil))) (@pa_mor _ _ _ _ _ (by rfl) pe_str pa_nil))))))))))) (@pe_op _ _ _ _ _ _ _ _ op_mod (pv 6) pe_int) (fun _ _=>rfl)))) pss_nil)
      (@pss_one _ _ _ (@ps_ret _ _ _ _ (pv 4)))))))))))))))),?_⟩
    unfold thingT at k
    obtain ⟨sz1,sz2,sz3,sz4⟩:=szP_bd (drawV ns 1)
    refine ⟨_,rfl,a,ns,1,rfl,hS,by decide,by decide,fun H1 s1=>⟨_,rfl,fun p H2 s2 ep=>?_⟩⟩
    refine ⟨p,_,rfl,.of ep,rfl,_,_,rfl,_,_,rfl,rfl,?_⟩
    have s12:=s1.trans s2
    generalize szP (drawV ns 1) = sz at k sz1 sz2 sz3 sz4 ep
    obtain ⟨n',m'⟩:=sz
    dsimp only at k sz1 sz2 sz3 sz4
    obtain ⟨n,rfl⟩:∃ n:Nat,n' = (n:Int):=⟨n'.toNat,by omega⟩
    obtain ⟨m,rfl⟩:∃ m:Nat,m' = (m:Int):=⟨m'.toNat,by omega⟩
    rw [Int.toNat_natCast,Int.toNat_natCast] at k
    dsimp only [gName]
    simp only [L2.start,List.length_cons,List.length_nil,List.map_cons,List.map_nil,List.replicate,List.cons_append,List.nil_append,List.set_cons_zero,List.set_cons_succ]
    have im:∀ i:Nat,i < n→(i:Int) * (m:Int) ≤ 1764∧0 ≤ (i:Int) * (m:Int):=fun i hi=>by
      have:=Nat.mul_le_mul (show i ≤ 42 by omega) (show m ≤ 42 by omega)
      have e:(i:Int) * (m:Int) = ((i * m:Nat):Int):=by simp
      omega
    refine seq_of (asg_of (comp_new (n:=n) (xs:=(List.range n).map fun i:Nat=>V.int (0 + (i:Int))) (by simp) (fun R h=>⟨_,rfl,(n:Int),rfl,by omega,by omega,h _ _ (Same.refl _) (by rw [Int.toNat_natCast]; exact jseq_rng)⟩) (small1000 (by omega)) (fun D i y Hx=>H y = none∧∃ vs,Hx y = some (.lst vs)∧vs.length = m∧∀ (j:Nat) (v:V),vs[j]? = some v→IsTr Hx (numTr q (drawV ns (3 + (i:Int) * (m:Int) + (j:Int)))) v) (fun D i y Ha Hb ys ⟨h0,vs,h1,h2,h3⟩ nD e f=>⟨h0,vs,f _ _ nD h1,h2,fun j v hj=>(num_cell q _).2 Ha Hb D ys v (h3 j v hj) e f⟩) ?_ ?_))
    · intro D i v hi Hc R sc ⟨zs,eD⟩ kc
      obtain ⟨hi',rfl⟩:=rng_at hi
      obtain ⟨im1,im2⟩:=im i hi'
      refine comp_ofN (xs:=(List.range m).map fun i:Nat=>V.int (0 + (i:Int))) (fun R h=>⟨_,rfl,(m:Int),rfl,by omega,by omega,h _ _ (Same.refl _) (by rw [Int.toNat_natCast]; exact jseq_rng)⟩) (by rw [List.length_map,List.length_range]; exact small1000 (by omega)) (fun D j y Hx=>IsTr Hx (numTr q (drawV ns (3 + (i:Int) * (m:Int) + (j:Int)))) y) (fun D j y Ha Hb ys h e f=>(num_cell q _).2 Ha Hb D ys y h e f) ?_ ?_
      · intro D' j v hj Hd R' sd _ kd
        obtain ⟨hj',rfl⟩:=rng_at hj
        refine ⟨_,rfl,_,rfl,_,rfl,_,rfl,_,_,rfl,rfl,.inl ⟨by omega,by omega⟩,_,_,rfl,rfl,_,rfl,_,_,rfl,rfl,a,ns,_,rfl,(s12.trans (sc.trans sd)).seq hS,by omega,by omega,fun H3 s3=>⟨q,_,rfl,hq,drawV_nonneg ..,fun v H4 s4 hN=>kd v H4 (s3.trans s4) hN⟩⟩
      · intro D' ys Hd nD' sd lys hP eD'
        rw [List.length_map,List.length_range] at lys
        exact kc D' Hd sd nD' ⟨_,eD'⟩ ⟨none_of s12 (none_of sc nD'),ys,eD',lys,hP⟩
    intro tb A1 H3 ntb s3 inj hA etb
    have s13:=s12.trans s3
    have lR:(numR ns q n m).length = n:=by unfold numR; simp
    have rowR:∀ i,i < n→(numR ns q n m).getD i [] = (List.range m).map fun j:Nat=>numTr q (drawV ns (3 + (i:Int) * (m:Int) + (j:Int))):=fun i hi=>by
      rw [getD_at (by rw [lR]; exact hi)]
      unfold numR
      rw [List.getElem_map,List.getElem_range]
    have hTT:TbT H H3 tb A1 (numR ns q n m):=by
      refine ⟨by rw [lR]; exact etb,fun i hi=>?_,by rw [lR]; exact inj,fun i hi=>(hA i (by omega)).2,none_of s12 ntb,fun i hi=>(hA i (by omega)).1.1⟩
      rw [lR] at hi
      obtain ⟨⟨_,vs,e,l,f⟩,_⟩:=hA i hi
      rw [rowR i hi]
      refine ⟨vs,e,by simpa using l,fun j v t h1 h2=>?_⟩
      have hj:j < m:=by have:=(List.getElem?_eq_some_iff.mp h1).1; omega
      rw [List.getElem?_map] at h2
      simp [hj] at h2
      rw [← h2]
      exact f j v h1
    have calm:∀ r ∈ numR ns q n m,r.length = m∧∀ t ∈ r,CalmT t:=fun r hr'=>by
      unfold numR at hr'
      obtain ⟨i,_,rfl⟩:=List.mem_map.mp hr'
      refine ⟨by simp,fun t ht=>?_⟩
      obtain ⟨j,_,rfl⟩:=List.mem_map.mp ht
      exact (num_cell q _).2
    generalize numR ns q n m = R at k lR hTT calm
    clear rowR hA etb inj im
    dsimp only [gName]
    simp only [List.set_cons_zero,List.set_cons_succ]
    have hS3:=s13.seq hS
    refine ⟨_,rfl,a,ns,2,rfl,hS3,by decide,by decide,fun H4 s4=>⟨_,_,rfl,rfl,(by show (0:Int) < 8; decide),?_⟩⟩
    dsimp only [gName]
    simp only [List.set_cons_zero,List.set_cons_succ]
    refine ⟨_,rfl,a,ns,2,rfl,s4.seq hS3,by decide,by decide,fun H5 s5=>⟨_,_,rfl,rfl,⟨by decide,by decide⟩,?_⟩⟩
    dsimp only [gName]
    simp only [List.set_cons_zero,List.set_cons_succ]
    have hTT:=(hTT.mono s4).mono s5
    have s15:=s13.trans (s4.trans s5)
    generalize drawV ns 2 = d at k
    obtain ⟨i,hi,ei⟩:∃ i:Nat,i < n∧d / 8 % (n:Int) = (i:Int):=by
      have h1:=Int.emod_nonneg (d / 8) (show (n:Int) ≠ 0 by omega)
      have h2:=Int.emod_lt_of_pos (d / 8) (show (0:Int) < (n:Int) by omega)
      exact ⟨(d / 8 % (n:Int)).toNat,by omega,by omega⟩
    refine ⟨_,rfl,_,rfl,_,_,rfl,rfl,(show (0:Int) < (n:Int) by omega),?_⟩
    dsimp only [gName]
    rw [ei] at k ⊢
    rw [Int.toNat_natCast] at k
    simp only [List.set_cons_zero,List.set_cons_succ]
    refine ⟨_,rfl,_,rfl,_,_,rfl,rfl,⟨(show (0:Int) < (n:Int) by omega),(show (n:Int) < 1073741824 by omega)⟩,?_⟩
    dsimp only [gName]
    simp only [List.set_cons_zero,List.set_cons_succ]
    have w0:=Int.emod_nonneg d (show (8:Int) ≠ 0 by decide)
    have w1:=Int.emod_lt_of_pos d (show (0:Int) < 8 by decide)
    generalize d / 8 / (n:Int) = r at k
    generalize d % 8 = w at k w0 w1
    clear hS hS3 s1 s2 s3 s4 s5 s12 s13 ep ntb ei sz1
    have nm:∀ {x:Int} {l:Nat},0 ≤ x→x < (l:Int)→ixN l x = some x.toNat:=fun {x l} h0 h1=>by
      unfold ixN
      rw [if_pos h0,if_pos h1]
    obtain ⟨vs,ev,lv,fv⟩:=hTT.row i (by omega)
    have etab:=hTT.tab
    have li:(R.getD i []).length = m:=(calm _ (by rw [getD_at (by omega)]; exact List.getElem_mem _)).1
    have atab:atI ((List.range R.length).map fun i=>V.ref (A1 i)) (i:Int) = some (.ref (A1 i)):=atI_nat (by simp [show i < R.length by omega])
    have mp:(0:Int) < (m:Int):=by omega
    have cases':(w = 0 ∨ w = 1 ∨ w = 2) ∨ w = 3 ∨ w = 4 ∨ w = 5 ∨ w = 6 ∨ w = 7:=by omega
    rcases cases' with hw | rfl | rfl | rfl | rfl | rfl
    · have e:thing2 q R m w i r = tabT R:=by
        unfold thing2
        rw [if_neg (by omega),if_neg (by omega),if_neg (by omega),if_neg (by omega),if_neg (by omega)]
      rw [e] at k
      have fin:=k (.ref tb) H5 s15 (.ls etab (by simp) hTT.tr)
      rcases hw with rfl | rfl | rfl
      · refine ⟨_,rfl,rfl,false,rfl,iteF ?_⟩
        dsimp only [tNext]
        refine ⟨_,rfl,rfl,false,rfl,iteF (iteF ?_)⟩
        dsimp only [tNext]
        refine ⟨_,rfl,rfl,false,rfl,iteF (iteF ?_)⟩
        dsimp only [tNext]
        refine ⟨_,rfl,rfl,false,rfl,iteF (iteF ?_)⟩
        dsimp only [tNext]
        refine ⟨_,rfl,rfl,false,rfl,iteF (iteF ?_)⟩
        dsimp only [tNext]
        refine ⟨_,rfl,rfl,false,rfl,iteF ?_⟩
        dsimp only [tNext]
        refine ⟨_,rfl,rfl,false,rfl,iteF ?_⟩
        dsimp only [tNext]
        exact ⟨_,rfl,fin⟩
      · refine ⟨_,rfl,rfl,false,rfl,iteF ?_⟩
        dsimp only [tNext]
        refine ⟨_,rfl,rfl,false,rfl,iteF (iteF ?_)⟩
        dsimp only [tNext]
        refine ⟨_,rfl,rfl,false,rfl,iteF (iteF ?_)⟩
        dsimp only [tNext]
        refine ⟨_,rfl,rfl,false,rfl,iteF (iteF ?_)⟩
        dsimp only [tNext]
        refine ⟨_,rfl,rfl,false,rfl,iteF (iteF ?_)⟩
        dsimp only [tNext]
        refine ⟨_,rfl,rfl,false,rfl,iteF ?_⟩
        dsimp only [tNext]
        refine ⟨_,rfl,rfl,false,rfl,iteF ?_⟩
        dsimp only [tNext]
        exact ⟨_,rfl,fin⟩
      · refine ⟨_,rfl,rfl,false,rfl,iteF ?_⟩
        dsimp only [tNext]
        refine ⟨_,rfl,rfl,false,rfl,iteF (iteF ?_)⟩
        dsimp only [tNext]
        refine ⟨_,rfl,rfl,false,rfl,iteF (iteF ?_)⟩
        dsimp only [tNext]
        refine ⟨_,rfl,rfl,false,rfl,iteF (iteF ?_)⟩
        dsimp only [tNext]
        refine ⟨_,rfl,rfl,false,rfl,iteF (iteF ?_)⟩
        dsimp only [tNext]
        refine ⟨_,rfl,rfl,false,rfl,iteF ?_⟩
        dsimp only [tNext]
        refine ⟨_,rfl,rfl,false,rfl,iteF ?_⟩
        dsimp only [tNext]
        exact ⟨_,rfl,fin⟩
    · have e:thing2 q R m 3 i r = tabT (R.set i ((R.getD i []).set (r / 16 % (m:Int)).toNat ((noTr q).getD (r % 16).toNat .dc))):=by
        unfold thing2
        rw [if_pos rfl]
      rw [e] at k
      refine ⟨_,rfl,rfl,true,rfl,iteT ?_⟩
      refine ⟨_,rfl,_,rfl,q,r,rfl,fun v H6 s6 iv nv=>?_⟩
      have j0:=Int.emod_nonneg (r / 16) (show (m:Int) ≠ 0 by omega)
      have j1:=Int.emod_lt_of_pos (r / 16) mp
      have hT6:=hTT.mono s6
      have ev6:=s6 _ _ ev
      refine ⟨_,rfl,_,rfl,tb,_,_,.ref (A1 i),rfl,rfl,.of (s6 _ _ etab),atab,_,rfl,_,_,rfl,rfl,⟨by decide,by decide⟩,_,rfl,_,_,rfl,rfl,mp,A1 i,vs,_,_,rfl,rfl,ev6,nm j0 (by omega),?_⟩
      have far:∀ b o,b ≠ A1 i→H6 b = some o→upd H6 (A1 i) (.lst (vs.set (r / 16 % (m:Int)).toNat v)) b = some o:=fun b o nb e=>by rw [upd_ne nb]; exact e
      have ivn:IsTr (upd H6 (A1 i) (.lst (vs.set (r / 16 % (m:Int)).toNat v))) ((noTr q).getD (r % 16).toNat .dc) v:=by
        have mem:(noTr q).getD (r % 16).toNat .dc ∈ noTr q ∨ (noTr q).getD (r % 16).toNat .dc = .dc:=by
          by_cases z:(r % 16).toNat < (noTr q).length
          · rw [getD_at z]; exact .inl (List.getElem_mem _)
          · rw [List.getD_eq_getElem?_getD,List.getElem?_eq_none (by omega)]; exact .inr rfl
        generalize (noTr q).getD (r % 16).toNat .dc = tr at iv mem
        cases iv with
        | fl h=>exact .fl h
        | @ls b us ts e l h=>
          have nb:b ≠ A1 i:=fun z=>by
            have:=nv b rfl
            rw [z,ev] at this
            cases this
          refine .ls (far _ _ nb e) l fun x y t h1 h2=>?_
          have ht:t = flI 1:=by
            rcases mem with mem | mem
            · unfold noTr at mem
              simp only [List.mem_cons,List.not_mem_nil,or_false] at mem
              rcases mem with z | z | z | z | z | z | z | z | z | z | z | z | z | z | z | z <;> first | (cases z; done) | skip
              cases z
              match x,h2 with
              | 0,h2=>cases h2; rfl
            · cases mem
          have hy:=h x y t h1 h2
          rw [ht] at hy ⊢
          exact calm_fl _ _ _ _ _ _ hy ev6 far
        | @tp b us ts e l h=>
          refine calm_tp (fun t ht=>?_) _ _ _ _ _ (.tp e l h) ev6 far
          rcases mem with mem | mem
          · unfold noTr at mem
            simp only [List.mem_cons,List.not_mem_nil,or_false] at mem
            rcases mem with z | z | z | z | z | z | z | z | z | z | z | z | z | z | z | z <;> first | (cases z; done) | skip
            all_goals
              cases z
              simp only [List.mem_cons,List.not_mem_nil,or_false] at ht
              first
                | (rcases ht with rfl; exact calm_fl _)
                | (rcases ht with rfl | rfl <;> exact calm_fl _)
                | (rcases ht with rfl | rfl | rfl <;> exact calm_fl _)
          · cases mem
        | dc e=>exact calm_dc _ _ _ _ _ (.dc e) ev6 far
      have hT7:=hT6.put (i:=i) (ts:=(R.getD i []).set (r / 16 % (m:Int)).toNat ((noTr q).getD (r % 16).toNat .dc)) (ws:=vs.set (r / 16 % (m:Int)).toNat v) (by omega) ev6 (fun r hr'=>(calm r hr').2) (by rw [List.length_set,List.length_set]; exact lv) (fun j u t h1 h2=>by
        by_cases z:j = (r / 16 % (m:Int)).toNat
        · subst z
          rw [List.getElem?_set_self (by omega)] at h1 h2
          cases h1
          cases h2
          exact ivn
        · rw [List.getElem?_set_ne (fun y=>z y.symm)] at h1 h2
          have ht:CalmT t:=(calm _ (by rw [getD_at (show i < R.length by omega)]; exact List.getElem_mem _)).2 t (List.mem_of_getElem? h2)
          exact ht _ _ _ _ _ ((fv j u t h1 h2).keep s6) ev6 far)
      have s7:Same H (upd H6 (A1 i) (.lst (vs.set (r / 16 % (m:Int)).toNat v))):=same_but (s15.trans s6) (hTT.n1 i (by omega))
      have fin:=k (.ref tb) _ s7 (.ls hT7.tab (by simp) hT7.tr)
      dsimp only
      refine ⟨_,rfl,rfl,false,rfl,iteF (iteF ?_)⟩
      dsimp only [tNext]
      refine ⟨_,rfl,rfl,false,rfl,iteF (iteF ?_)⟩
      dsimp only [tNext]
      refine ⟨_,rfl,rfl,false,rfl,iteF (iteF ?_)⟩
      dsimp only [tNext]
      refine ⟨_,rfl,rfl,false,rfl,iteF (iteF ?_)⟩
      dsimp only [tNext]
      refine ⟨_,rfl,rfl,false,rfl,iteF ?_⟩
      dsimp only [tNext]
      refine ⟨_,rfl,rfl,false,rfl,iteF ?_⟩
      dsimp only [tNext]
      exact ⟨_,rfl,fin⟩
    · refine ⟨_,rfl,rfl,false,rfl,iteF ?_⟩
      dsimp only [tNext]
      refine ⟨_,rfl,rfl,true,rfl,iteT ?_⟩
      refine ⟨_,rfl,_,_,rfl,rfl,(by show (0:Int) < 2; decide),rfl,_,rfl,ite2 (fun h1=>?_) (fun h1=>?_)⟩
      · have h1:r % 2 = 0:=by simpa using h1
        have e:thing2 q R m 4 i r = tabT (R.set i ((R.getD i []).eraseIdx (r / 2 % (m:Int)).toNat)):=by
          unfold thing2
          rw [if_neg (by decide),if_pos rfl,if_pos h1]
        rw [e] at k
        have j0:=Int.emod_nonneg (r / 2) (show (m:Int) ≠ 0 by omega)
        have j1:=Int.emod_lt_of_pos (r / 2) mp
        have jl:(r / 2 % (m:Int)).toNat < vs.length:=by omega
        refine ⟨_,rfl,_,rfl,tb,_,_,.ref (A1 i),rfl,rfl,.of etab,atab,.inl ⟨rfl,_,.of ev⟩,_,rfl,_,_,rfl,rfl,⟨by decide,by decide⟩,_,rfl,_,_,rfl,rfl,mp,A1 i,vs,_,(r / 2 % (m:Int)).toNat,vs[(r / 2 % (m:Int)).toNat],rfl,rfl,ev,by omega,by omega,?_,by simp [jl],?_⟩
        · exact sqIx j0 (by omega)
        have far:∀ b o,b ≠ A1 i→H5 b = some o→upd H5 (A1 i) (.lst (vs.eraseIdx (r / 2 % (m:Int)).toNat)) b = some o:=fun b o nb e=>by rw [upd_ne nb]; exact e
        have hT7:=hTT.put (i:=i) (ts:=(R.getD i []).eraseIdx (r / 2 % (m:Int)).toNat) (ws:=vs.eraseIdx (r / 2 % (m:Int)).toNat) (by omega) ev (fun r hr'=>(calm r hr').2) (by simp [List.length_eraseIdx,lv]) (fun j u t h1 h2=>by
          rw [List.getElem?_eraseIdx] at h1 h2
          have g:∃ j':Nat,vs[j']? = some u∧(R.getD i [])[j']? = some t:=by
            by_cases z:j < (r / 2 % (m:Int)).toNat
            · rw [if_pos z] at h1 h2; exact ⟨j,h1,h2⟩
            · rw [if_neg z] at h1 h2; exact ⟨j + 1,h1,h2⟩
          obtain ⟨j',g1,g2⟩:=g
          have ht:CalmT t:=(calm _ (by rw [getD_at (show i < R.length by omega)]; exact List.getElem_mem _)).2 t (List.mem_of_getElem? g2)
          exact ht _ _ _ _ _ (fv j' u t g1 g2) ev far)
        have s7:Same H (upd H5 (A1 i) (.lst (vs.eraseIdx (r / 2 % (m:Int)).toNat))):=same_but s15 (hTT.n1 i (by omega))
        have fin:=k (.ref tb) _ s7 (.ls hT7.tab (by simp) hT7.tr)
        dsimp only
        refine ⟨_,rfl,rfl,true,rfl,iteT ?_⟩
        refine ⟨_,rfl,_,_,rfl,rfl,(by show (0:Int) < 2; decide),rfl,false,by rw [dV_int,decide_eq_false (by omega)],iteF ?_⟩
        dsimp only [tNext]
        refine ⟨_,rfl,rfl,false,rfl,iteF (iteF ?_)⟩
        dsimp only [tNext]
        refine ⟨_,rfl,rfl,false,rfl,iteF (iteF ?_)⟩
        dsimp only [tNext]
        refine ⟨_,rfl,rfl,false,rfl,iteF ?_⟩
        dsimp only [tNext]
        refine ⟨_,rfl,rfl,false,rfl,iteF ?_⟩
        dsimp only [tNext]
        exact ⟨_,rfl,fin⟩
      · have h1:¬ r % 2 = 0:=by simpa using h1
        have e:thing2 q R m 4 i r = tabT (R.set i (R.getD i [] ++ [(R.getD 0 []).getD 0 .dc])):=by
          unfold thing2
          rw [if_neg (by decide),if_pos rfl,if_neg h1]
        rw [e] at k
        dsimp only [tNext]
        refine ⟨_,rfl,rfl,true,rfl,iteT ?_⟩
        refine ⟨_,rfl,_,_,rfl,rfl,(by show (0:Int) < 2; decide),rfl,true,by rw [dV_int,decide_eq_true (by omega)],iteT ?_⟩
        obtain ⟨vs0,ev0,lv0,fv0⟩:=hTT.row 0 (by omega)
        have l0:(R.getD 0 []).length = m:=(calm _ (by rw [getD_at (by omega)]; exact List.getElem_mem _)).1
        have z0:0 < vs0.length:=by omega
        have z1:0 < (R.getD 0 []).length:=by omega
        have at0:atI ((List.range R.length).map fun i=>V.ref (A1 i)) 0 = some (.ref (A1 0)):=by exact atI_nat (j:=0) (by simp [show 0 < R.length by omega])
        have at00:atI vs0 0 = some vs0[0]:=by exact atI_nat (j:=0) (by simp [z0])
        refine ⟨_,rfl,_,rfl,tb,_,_,.ref (A1 i),rfl,rfl,.of etab,atab,.inl ⟨rfl,_,.of ev⟩,_,rfl,tb,_,_,.ref (A1 0),rfl,rfl,.of etab,at0,A1 0,vs0,_,vs0[0],rfl,rfl,.of ev0,at00,A1 i,vs,_,rfl,rfl,ev,Nat.lt_of_le_of_lt (show vs.length ≤ 100 by omega) (by decide),?_⟩
        have far:∀ b o,b ≠ A1 i→H5 b = some o→upd H5 (A1 i) (.lst (vs ++ [vs0[0]])) b = some o:=fun b o nb e=>by rw [upd_ne nb]; exact e
        have hT7:=hTT.put (i:=i) (ts:=R.getD i [] ++ [(R.getD 0 []).getD 0 .dc]) (ws:=vs ++ [vs0[0]]) (by omega) ev (fun r hr'=>(calm r hr').2) (by rw [List.length_append,List.length_append,lv]; rfl) (fun j u t h1 h2=>by
          by_cases z:j < vs.length
          · rw [List.getElem?_append_left z] at h1
            rw [List.getElem?_append_left (by omega)] at h2
            have ht:CalmT t:=(calm _ (by rw [getD_at (show i < R.length by omega)]; exact List.getElem_mem _)).2 t (List.mem_of_getElem? h2)
            exact ht _ _ _ _ _ (fv j u t h1 h2) ev far
          · rw [List.getElem?_append_right (by omega)] at h1
            rw [List.getElem?_append_right (by omega)] at h2
            have ej:j - vs.length = 0:=by
              have:=(List.getElem?_eq_some_iff.mp h1).1
              simpa using this
            rw [ej] at h1
            rw [show j - (R.getD i []).length = 0 by omega] at h2
            cases h1
            cases h2
            rw [getD_at z1]
            have ht:CalmT (R.getD 0 [])[0]:=(calm _ (by rw [getD_at (show 0 < R.length by omega)]; exact List.getElem_mem _)).2 _ (List.getElem_mem _)
            exact ht _ _ _ _ _ (fv0 0 vs0[0] (R.getD 0 [])[0] (by simp [z0]) (by simp [z1])) ev far)
        have s7:Same H (upd H5 (A1 i) (.lst (vs ++ [vs0[0]]))):=same_but s15 (hTT.n1 i (by omega))
        have fin:=k (.ref tb) _ s7 (.ls hT7.tab (by simp) hT7.tr)
        dsimp only
        refine ⟨_,rfl,rfl,false,rfl,iteF (iteF ?_)⟩
        dsimp only [tNext]
        refine ⟨_,rfl,rfl,false,rfl,iteF (iteF ?_)⟩
        dsimp only [tNext]
        refine ⟨_,rfl,rfl,false,rfl,iteF ?_⟩
        dsimp only [tNext]
        refine ⟨_,rfl,rfl,false,rfl,iteF ?_⟩
        dsimp only [tNext]
        exact ⟨_,rfl,fin⟩
    · have n1:∀ {σ:St} (i:Int),Item σ (tC (V.int i)) (flI i):=fun i=>item_c rfl
      have put:∀ (v:V) (tr:Tr) (Hx:Hp),Same H5 Hx→IsTr Hx tr v→(∀ a,v = .ref a→H5 a = none)→CalmX tb tr→∀ Hy,Hy = upd Hx tb (.lst (((List.range R.length).map fun i=>V.ref (A1 i)).set i v))→Same H Hy∧IsTr Hy (.ls ((R.map .ls).set i tr)) (.ref tb):=fun v tr Hx sx ix nx cx Hy ey=>by
        subst ey
        have far:∀ b o,b ≠ tb→Hx b = some o→upd Hx tb (.lst (((List.range R.length).map fun i=>V.ref (A1 i)).set i v)) b = some o:=fun b o nb e=>by rw [upd_ne nb]; exact e
        have etx:=sx _ _ etab
        refine ⟨same_but (s15.trans sx) hTT.n0,.ls upd_same (by simp) fun j u t h1 h2=>?_⟩
        by_cases z:j = i
        · subst z
          rw [List.getElem?_set_self (by simp; omega)] at h1 h2
          cases h1
          cases h2
          refine cx _ _ _ v ix etx far fun a ea=>?_
          intro y
          have:=nx a ea
          rw [y,etab] at this
          cases this
        · rw [List.getElem?_set_ne (fun y=>z y.symm)] at h1 h2
          have hj:j < R.length:=by
            have:=(List.getElem?_eq_some_iff.mp h2).1
            simpa using this
          rw [List.getElem?_map] at h1 h2
          simp [hj] at h1 h2
          obtain ⟨us,eu,lu,fu⟩:=(hTT.mono sx).row j hj
          rw [getD_at hj] at lu fu
          rw [← h1,← h2]
          refine .ls (far _ _ (hTT.ne j hj) eu) lu fun x y t h3 h4=>?_
          exact (calm _ (List.getElem_mem hj)).2 t (List.mem_of_getElem? h4) _ _ _ _ _ (fu x y t h3 h4) etx far
      refine ⟨_,rfl,rfl,false,rfl,iteF ?_⟩
      dsimp only [tNext]
      refine ⟨_,rfl,rfl,false,rfl,iteF (iteF ?_)⟩
      dsimp only [tNext]
      refine ⟨_,rfl,rfl,false,rfl,iteF (iteF ?_)⟩
      dsimp only [tNext]
      refine ⟨_,rfl,rfl,true,rfl,iteT ?_⟩
      refine ⟨_,rfl,_,_,rfl,rfl,(by show (0:Int) < 2; decide),rfl,_,rfl,ite2 (fun h1=>?_) (fun h1=>?_)⟩
      · have h1:r % 2 = 0:=by simpa using h1
        have e:thing2 q R m 5 i r = .ls ((R.map .ls).set i (.tp (R.getD i []))):=by
          unfold thing2
          rw [if_neg (by decide),if_neg (by decide),if_pos rfl,if_pos h1]
        rw [e] at k
        refine ⟨_,rfl,_,rfl,tb,_,_,.ref (A1 i),rfl,rfl,.of etab,atab,A1 i,vs,rfl,.inl ⟨.of ev,fun tp ntp=>?_⟩⟩
        have st:Same H5 (upd H5 tp (.tup vs)):=same_upd ntp
        have etp:upd H5 tp (.tup vs) tp = some (.tup vs):=upd_same
        generalize upd H5 tp (.tup vs) = H6 at st etp ⊢
        obtain ⟨p1,p2⟩:=put (.ref tp) (.tp (R.getD i [])) H6 st (.tp etp lv fun j u t h1 h2=>(fv j u t h1 h2).keep st) (fun a e=>by cases e; exact ntp) (calmX_of (calm_tp (calm _ (by rw [getD_at (show i < R.length by omega)]; exact List.getElem_mem _)).2)) _ rfl
        refine ⟨_,rfl,_,rfl,tb,_,_,i,rfl,rfl,st _ _ etab,nm (by omega) (by simp; omega),?_⟩
        have fin:=k (.ref tb) _ p1 p2
        dsimp only
        refine ⟨_,rfl,rfl,true,rfl,iteT ?_⟩
        refine ⟨_,rfl,_,_,rfl,rfl,(by show (0:Int) < 2; decide),rfl,false,by rw [dV_int,decide_eq_false (by omega)],iteF ?_⟩
        dsimp only [tNext]
        refine ⟨_,rfl,rfl,false,rfl,iteF ?_⟩
        dsimp only [tNext]
        refine ⟨_,rfl,rfl,false,rfl,iteF ?_⟩
        dsimp only [tNext]
        exact ⟨_,rfl,fin⟩
      · have h1:¬ r % 2 = 0:=by simpa using h1
        have e:thing2 q R m 5 i r = .ls ((R.map .ls).set i (oddTr.getD (r / 2 % 6).toNat .dc)):=by
          unfold thing2
          rw [if_neg (by decide),if_neg (by decide),if_pos rfl,if_neg h1]
        rw [e] at k
        dsimp only [tNext]
        refine ⟨_,rfl,rfl,true,rfl,iteT ?_⟩
        refine ⟨_,rfl,_,_,rfl,rfl,(by show (0:Int) < 2; decide),rfl,true,by rw [dV_int,decide_eq_true (by omega)],iteT ?_⟩
        have it:∀ σ:St,Items σ _ oddTr:=fun σ=>(items_cons (item_lst items_nil (by decide)) (items_cons (item_c (v:=.non) rfl) (items_cons (item_c (v:=.str (Str.ofString "")) rfl) (items_cons (n1 7) (items_cons item_dct (items_cons (item_c (v:=.bl true) rfl) items_nil))))))
        refine asg_of (op_of (it _ H5 _ fun xs H6 s6 l6 i6=>⟨by rw [l6]; show 6 ≤ sizeLine; decide,fun lp nlp=>?_⟩))
        have j0:=Int.emod_nonneg (r / 2) (show (6:Int) ≠ 0 by decide)
        have j1:=Int.emod_lt_of_pos (r / 2) (show (0:Int) < 6 by decide)
        obtain ⟨v,e1,e2,e3⟩:=pick_at l6 j0 (show r / 2 % 6 < _ by exact j1)
        obtain ⟨i1,i2⟩:=i6 _ v _ e2 e3
        have sl:Same H6 (upd H6 lp (.lst xs)):=same_upd nlp
        have el:upd H6 lp (.lst xs) lp = some (.lst xs):=upd_same
        generalize upd H6 lp (.lst xs) = H7 at sl el ⊢
        have s57:=s6.trans sl
        obtain ⟨p1,p2⟩:=put v _ H7 s57 (i1.keep sl) i2 (oddTr_calm _) _ rfl
        refine ⟨_,rfl,_,_,rfl,rfl,⟨by decide,by decide⟩,_,_,rfl,rfl,(by show (0:Int) < 6; decide),lp,xs,_,v,rfl,rfl,.of el,e1,_,rfl,_,rfl,tb,_,_,i,rfl,rfl,s57 _ _ etab,nm (by omega) (by simp; omega),?_⟩
        have fin:=k (.ref tb) _ p1 p2
        dsimp only
        refine ⟨_,rfl,rfl,false,rfl,iteF ?_⟩
        dsimp only [tNext]
        refine ⟨_,rfl,rfl,false,rfl,iteF ?_⟩
        dsimp only [tNext]
        exact ⟨_,rfl,fin⟩
    · have e:thing2 q R m 6 i r = .tp (R.map .ls):=by
        unfold thing2
        rw [if_neg (by decide),if_neg (by decide),if_neg (by decide),if_pos rfl]
      rw [e] at k
      refine ⟨_,rfl,rfl,false,rfl,iteF ?_⟩
      dsimp only [tNext]
      refine ⟨_,rfl,rfl,false,rfl,iteF (iteF ?_)⟩
      dsimp only [tNext]
      refine ⟨_,rfl,rfl,false,rfl,iteF (iteF ?_)⟩
      dsimp only [tNext]
      refine ⟨_,rfl,rfl,false,rfl,iteF (iteF ?_)⟩
      dsimp only [tNext]
      refine ⟨_,rfl,rfl,false,rfl,iteF (iteF ?_)⟩
      dsimp only [tNext]
      refine ⟨_,rfl,rfl,true,rfl,iteT ?_⟩
      refine ⟨_,rfl,tb,_,rfl,.inl ⟨.of etab,fun tp ntp=>?_⟩⟩
      have st:Same H5 (upd H5 tp (.tup ((List.range R.length).map fun i=>V.ref (A1 i)))):=same_upd ntp
      exact k (.ref tp) _ (s15.trans st) (.tp upd_same (by simp) fun j u t h1 h2=>(hTT.tr j u t h1 h2).keep st)
    · have n1:∀ {σ:St} (i:Int),Item σ (tC (V.int i)) (flI i):=fun i=>item_c rfl
      have e:thing2 q R m 7 i r = lastTr.getD (r % 10).toNat .dc:=by
        unfold thing2
        rw [if_neg (by decide),if_neg (by decide),if_neg (by decide),if_neg (by decide),if_pos rfl]
      rw [e] at k
      refine ⟨_,rfl,rfl,false,rfl,iteF ?_⟩
      dsimp only [tNext]
      refine ⟨_,rfl,rfl,false,rfl,iteF (iteF ?_)⟩
      dsimp only [tNext]
      refine ⟨_,rfl,rfl,false,rfl,iteF (iteF ?_)⟩
      dsimp only [tNext]
      refine ⟨_,rfl,rfl,false,rfl,iteF (iteF ?_)⟩
      dsimp only [tNext]
      refine ⟨_,rfl,rfl,false,rfl,iteF (iteF ?_)⟩
      dsimp only [tNext]
      refine ⟨_,rfl,rfl,false,rfl,iteF ?_⟩
      dsimp only [tNext]
      refine ⟨_,rfl,rfl,true,rfl,iteT ?_⟩
      have it:∀ σ:St,Items σ _ lastTr:=fun σ=>(items_cons (item_lst items_nil (by decide)) (items_cons (item_lst (items_cons (item_lst items_nil (by decide)) items_nil) (by decide)) (items_cons (item_c (v:=.str (Str.ofString "")) rfl) (items_cons (item_c (v:=.non) rfl) (items_cons (n1 7) (items_cons (item_c (v:=.bl true) rfl) (items_cons item_dct (items_cons (item_tup items_nil (by decide)) (items_cons (item_lst (items_cons (item_lst items_nil (by decide)) (items_cons (item_lst items_nil (by decide)) items_nil)) (by decide)) (items_cons (item_c (v:=.str (Str.ofString "table")) rfl) items_nil))))))))))
      refine ret_of (op_of (it _ H5 _ fun xs H6 s6 l6 i6=>⟨by rw [l6]; show 10 ≤ sizeLine; decide,fun lp nlp=>?_⟩))
      have j0:=Int.emod_nonneg r (show (10:Int) ≠ 0 by decide)
      have j1:=Int.emod_lt_of_pos r (show (0:Int) < 10 by decide)
      obtain ⟨v,e1,e2,e3⟩:=pick_at l6 j0 (show r % 10 < _ by exact j1)
      obtain ⟨i1,i2⟩:=i6 _ v _ e2 e3
      have sl:Same H6 (upd H6 lp (.lst xs)):=same_upd nlp
      exact ⟨_,rfl,_,_,rfl,rfl,(by show (0:Int) < 10; decide),lp,xs,_,v,rfl,rfl,.of upd_same,e1,k v _ (s15.trans (s6.trans sl)) (i1.keep sl)⟩
theorem sc_one_table:FnScope ["world","n"] ["world","n"] (defScope s_one_table):=⟨rfl,rfl,rfl,by decide +kernel,rfl,by decide +kernel,by decide +kernel⟩
theorem ok_one_table (T:Txt K mg t):FnOk P w K mg base CX0 5 t.f_one_table t.d_one_table ["world","n"] (spOT07 t.C_World):=by
  have S:=sc_one_table
  have G_one_table_row:=ok_one_table_row (P:=P) (w:=w) (base:=base) T
  refine T.F_one_table.ok S (fun vs H Q E h=>?_) (fun cdv A outer s H vs Q E hr h=>?_)
  · obtain ⟨z,q,n,rfl,_⟩:=h
    rfl
  · obtain ⟨z,q,n,rfl,hz,hq,n4,k⟩:=h
    refine ⟨_,(@pss_one _ _ _ (@ps_ret _ _ _ _ (pe_comp (N:=["place","world","n"]) (ρ:=(fun σ=>[σ[0]?.join,σ[1]?.join])) ⟨rfl,rfl,by decide +kernel,by decide +kernel,(List.forall_mem_cons.mpr ⟨rfl,(List.forall_mem_cons.mpr ⟨rfl,(List.forall_mem_nil _)⟩)⟩),has_of (by rfl),rfl,by decide +kernel,rfl,(fun σ j v h=>match j,h with | 0,h=>⟨0,_,rfl,rfl,join_some h,Or.inr (Or.inl rfl),.inl rfl,.inl rfl⟩ | 1,h=>⟨1,_,rfl,rfl,join_some h,Or.inr (Or.inl rfl),.inl rfl,.inl rfl⟩ | j + 2,h=>by cases h),(fun _ _=>rfl)⟩ rfl (pi_range1 rfl T.n_range (@pa_mor _ _ _ _ _ (by rfl) (pv 1) pa_nil)) (fun s₃ H₃ fp=>.nil) (fun s₃ H₃ fp=>(pe_call G_one_table_row (hr.mono (by decide)) rfl T.mg_one_table_row T.F_one_table_row.kp T.b_one_table_row .nil pass0 (@pa_mor _ _ _ _ _ (by rfl) (pv 1) (@pa_mor _ _ _ _ _ (by rfl) (pv 2) (@pa_mor _ _ _ _ _ (by rfl) (pv 0) pa_nil)))))))),?_⟩
    refine ret_of (comp_ofN (xs:=(List.range n).map fun i:Nat=>V.int (0 + (i:Int))) (fun R h=>⟨_,rfl,(n:Int),rfl,by omega,by omega,h _ _ (Same.refl _) (by rw [Int.toNat_natCast]; exact jseq_rng)⟩) (by rw [List.length_map,List.length_range]; exact small1000 (by omega)) (fun D i y Hx=>∃ r,y = .ref r∧r ≠ D∧H r = none∧RowN Hx q r (unitRow n i)) (fun D i y Ha Hb ys ⟨r,h1,h2,h0,vs,e1,e2,e3⟩ e f=>⟨r,h1,h2,h0,vs,f _ _ h2 e1,e2,fun j v p x y=>(e3 j v p x y).far e f⟩) ?_ ?_)
    · intro D i v hi Hc R sc ⟨zs,eD⟩ kc
      obtain ⟨hi',rfl⟩:=rng_at hi
      exact ⟨_,rfl,_,rfl,_,rfl,z,q,n,i,rfl,hz.mono sc,hq,n4,hi',fun r H' s' nr hr'=>kc _ H' s' ⟨r,rfl,fun z=>by (rw [z,eD] at nr; cases nr),none_of sc nr,hr'⟩⟩
    · intro D ys Hc nD sc hys hP eD
      exact k D Hc sc nD ⟨ys,eD,by rw [hys,List.length_map,List.length_range],fun i v h1=>hP i v h1⟩
theorem sc_b_ones:FnScope ["p","n"] ["p","n"] (defScope s_b_ones):=⟨rfl,rfl,rfl,by decide +kernel,rfl,by decide +kernel,by decide +kernel⟩
theorem ok_b_ones (T:Txt K mg t):FnOk P w K mg base CX0 1 t.f_b_ones t.d_b_ones ["p","n"] spOnes:=by
  have S:=sc_b_ones
  refine T.F_b_ones.ok S (fun vs H Q E h=>?_) (fun cdv A outer s H vs Q E hr h=>?_)
  · obtain ⟨q,n,rfl,_⟩:=h
    rfl
  · obtain ⟨q,n,rfl,hq,n4,k⟩:=h
    refine ⟨_,(@pss_cons _ _ _ _ _ (@ps_if _ _ _ _ _ _ _ _ (@pt_truth _ _ _ (pv 0) (fun _=>rfl)) (@pss_one _ _ _ (@ps_ret _ _ _ _ (pe_compC (N:=["i","n"]) (ρ:=(fun σ=>[σ[1]?.join])) ⟨rfl,rfl,(fun _=>rfl),(fun _=>rfl),by decide +kernel,(List.forall_mem_cons.mpr ⟨rfl,(List.forall_mem_nil _)⟩),hasC_of (by rfl),rfl,by decide +kernel,rfl,(fun σ j v h=>match j,h with | 0,h=>⟨1,_,rfl,rfl,join_some h,Or.inr (Or.inl rfl),.inl rfl,.inl rfl⟩ | j + 1,h=>by cases h),(fun _ _=>rfl)⟩ rfl (pi_range1 rfl T.n_range (@pa_mor _ _ _ _ _ (by rfl) (pv 1) pa_nil)) (fun s₃ H₃ fp=>.nil) (fun s₃ H₃ fp=>(pe_comp (N:=["j","i"]) (ρ:=(fun σ=>[σ[0]?.join])) ⟨rfl,rfl,by decide +kernel,by decide +kernel,(List.forall_mem_cons.mpr ⟨rfl,(List.forall_mem_nil _)⟩),has_of (by rfl),rfl,by decide +kernel,rfl,(fun σ j v h=>match j,h with | 0,h=>⟨0,_,rfl,rfl,join_some h,Or.inr (Or.inl rfl),.inl rfl,.inl rfl⟩ | j + 1,h=>by cases h),(fun _ _=>rfl)⟩ rfl (pi_range1 rfl T.n_range (@pa_mor _ _ _ _ _ (by rfl) (pv 1) pa_nil)) (fun s₃ H₃ fp=>.nil) (fun s₃ H₃ fp=>(pe_callTy call_int1 rfl T.n_int boot_int (@pa_mor _ _ _ _ _ (by rfl) (@pe_cmpR _ _ _ _ _ _ _ _ op_eq (pv 1) (pv 0) (nomark _)) pa_nil)))))))) pss_nil)
      (@pss_one _ _ _ (@ps_ret _ _ _ _ (pe_compC (N:=["i","n"]) (ρ:=(fun σ=>[σ[1]?.join])) ⟨rfl,rfl,(fun _=>rfl),(fun _=>rfl),by decide +kernel,(List.forall_mem_cons.mpr ⟨rfl,(List.forall_mem_nil _)⟩),hasC_of (by rfl),rfl,by decide +kernel,rfl,(fun σ j v h=>match j,h with | 0,h=>⟨1,_,rfl,rfl,join_some h,Or.inr (Or.inl rfl),.inl rfl,.inl rfl⟩ | j + 1,h=>by cases h),(fun _ _=>rfl)⟩ rfl (pi_range1 rfl T.n_range (@pa_mor _ _ _ _ _ (by rfl) (pv 1) pa_nil)) (fun s₃ H₃ fp=>.nil) (fun s₃ H₃ fp=>(pe_comp (N:=["j","i"]) (ρ:=(fun σ=>[σ[0]?.join])) ⟨rfl,rfl,by decide +kernel,by decide +kernel,(List.forall_mem_cons.mpr ⟨rfl,(List.forall_mem_nil _)⟩),has_of (by rfl),rfl,by decide +kernel,rfl,(fun σ j v h=>match j,h with | 0,h=>⟨0,_,rfl,rfl,join_some h,Or.inr (Or.inl rfl),.inl rfl,.inl rfl⟩ | j + 1,h=>by cases h),(fun _ _=>rfl)⟩ rfl (pi_range1 rfl T.n_range (@pa_mor _ _ _ _ _ (by rfl) (pv 1) pa_nil)) (fun s₃ H₃ fp=>.nil) (fun s₃ H₃ fp=>(@pe_tup _ _ _ _ _ (@pa_mor _ _ _ _ _ (by rfl) (pe_callTy call_int1 rfl T.n_int boot_int (@pa_mor _ _ _ _ _ (by rfl) (@pe_cmpR _ _ _ _ _ _ _ _ op_eq (pv 1) (pv 0) (nomark _)) pa_nil)) (@pa_mor _ _ _ _ _ (by rfl) pe_int pa_nil)))))))))),?_⟩
    have eqU:∀ i j:Nat,(if decide (V.int (i:Int) = V.int (j:Int)) = true then (1:Int) else 0) = (onesF i j).1:=fun i j=>by
      unfold onesF
      by_cases e:i = j
      · rw [if_pos e,e,decide_eq_true rfl,if_pos rfl]
      · rw [if_neg e,decide_eq_false (fun z=>e (by have:=V.int.inj z; omega)),if_neg Bool.false_ne_true]
    have two:∀ (wi:TI) (ρ:St→St) (te:TE) (σ:St) (Hc:Hp) (D:Addr) (i:Nat) (R:VK),(∀ R:It→Hp→Prop,(∀ J H1,Same Hc H1→JSeq J ((List.range n).map fun i:Nat=>V.int (0 + (i:Int))) H1→R J H1)→wi σ Hc R)→(∃ zs,Hc D = some (.lst zs))→(∀ (j:Nat) (Hd:Hp) (R':VK),(∀ v He,Same Hd He→IsN He q v (onesF i j).1 1→R' v He)→te (some (.int (j:Int)) :: ρ σ) Hd R')→(∀ y H3,Same Hc H3→Hc y = none→(∃ o,H3 y = some o)→FRow H3 q y n (onesF i)→R (.ref y) H3)→tComp wi ρ (fun _ H Q=>Q true H) te σ Hc R:=fun wi ρ te σ Hc D i R hwi ⟨zs,eD⟩ hte kc=>by
      refine comp_ofN (xs:=(List.range n).map fun i:Nat=>V.int (0 + (i:Int))) hwi (by rw [List.length_map,List.length_range]; exact small1000 (by omega)) (fun _ j y Hx=>IsN Hx q y (onesF i j).1 1) (fun D j y Ha Hb ys h e f=>h.far e f) ?_ ?_
      · intro D' j v hj Hd R' sd _ kd
        obtain ⟨hj',rfl⟩:=rng_at hj
        exact hte j Hd R' fun v He se hN=>kd v He se hN
      · intro D' ys Hd nD' sd lys hP eD'
        rw [List.length_map,List.length_range] at lys
        exact kc D' Hd sd nD' ⟨_,eD'⟩ ⟨ys,eD',lys,hP⟩
    have one:∀ (wi:TI) (ρ:St→St) (te:TE) (σ:St),(∀ R:It→Hp→Prop,(∀ J H1,Same H H1→JSeq J ((List.range n).map fun i:Nat=>V.int (0 + (i:Int))) H1→R J H1)→wi σ H R)→(∀ (i:Nat) (D:Addr) (Hc:Hp) (R:VK),(∃ zs,Hc D = some (.lst zs))→(∀ y H3,Same Hc H3→Hc y = none→(∃ o,H3 y = some o)→FRow H3 q y n (onesF i)→R (.ref y) H3)→te (some (.int (i:Int)) :: ρ σ) Hc R)→tComp wi ρ (fun _ H Q=>Q true H) te σ H Q:=fun wi ρ te σ hwi hte=>by
      refine comp_new (n:=n) (xs:=(List.range n).map fun i:Nat=>V.int (0 + (i:Int))) (by simp) hwi (small1000 (by omega)) (fun D i y Hx=>H y = none∧FRow Hx q y n (onesF i)) (fun D i y Ha Hb ys ⟨h0,h1⟩ nD e f=>⟨h0,h1.far nD e f⟩) ?_ ?_
      · intro D i v hi Hc R sc zs kc
        obtain ⟨hi',rfl⟩:=rng_at hi
        exact hte i D Hc R zs fun y H3 s3 ny ex hF=>kc y H3 s3 ny ex ⟨none_of sc ny,hF⟩
      · intro D A1 Hc nD sc inj hA eD
        refine k D Hc sc ⟨_,eD,by simp,fun i v hv=>?_⟩
        have hi:i < n:=by have:=(List.getElem?_eq_some_iff.mp hv).1; simpa using this
        rw [List.getElem?_map] at hv
        simp [hi] at hv
        exact ⟨A1 i,hv.symm,(hA i hi).2,(hA i hi).1.1,(hA i hi).1.2⟩
    have rng:∀ (Hx:Hp) (R:It→Hp→Prop),(∀ J H1,Same Hx H1→JSeq J ((List.range n).map fun i:Nat=>V.int (0 + (i:Int))) H1→R J H1)→R (Itr 0 (n:Int).toNat) Hx:=fun Hx R h=>h _ _ (Same.refl _) (by rw [Int.toNat_natCast]; exact jseq_rng)
    refine ⟨_,rfl,_,rfl,ite2 (fun hp=>?_) (fun hp=>?_)⟩
    · have hp:q ≠ 0:=by simpa using hp
      refine ret_of (one _ _ _ _ (fun R h=>⟨_,rfl,(n:Int),rfl,by omega,by omega,rng _ _ h⟩) fun i D Hc R zs kc=>two _ _ _ _ _ D i _ (fun R h=>⟨_,rfl,(n:Int),rfl,by omega,by omega,rng _ _ h⟩) zs (fun j Hd R' kd=>?_) kc)
      refine ⟨_,rfl,_,rfl,rfl,.inr ⟨_,rfl,?_⟩⟩
      rw [eqU]
      exact kd _ _ (Same.refl _) (unit_isN7 hq hp (by unfold onesF; dsimp only; split <;> simp))
    · have hp:q = 0:=by simpa using hp
      subst hp
      dsimp only [tNext]
      refine ret_of (one _ _ _ _ (fun R h=>⟨_,rfl,(n:Int),rfl,by omega,by omega,rng _ _ h⟩) fun i D Hc R zs kc=>two _ _ _ _ _ D i _ (fun R h=>⟨_,rfl,(n:Int),rfl,by omega,by omega,rng _ _ h⟩) zs (fun j Hd R' kd=>?_) kc)
      refine ⟨_,rfl,_,rfl,rfl,.inr ⟨_,rfl,by show 2 ≤ sizeLine; decide,fun r nr=>?_⟩⟩
      rw [eqU]
      exact kd _ _ (same_upd nr) (.frac upd_same ⟨by decide,Int.gcd_one_right ..⟩ (by decide) rfl)
theorem sc_b_are_ones:FnScope ["p","found","n"] ["p","found","n"] (defScope s_b_are_ones):=⟨rfl,rfl,rfl,by decide +kernel,rfl,by decide +kernel,by decide +kernel⟩
theorem ok_b_are_ones (T:Txt K mg t):FnOk P w K mg base CX0 3 t.f_b_are_ones t.d_b_are_ones ["p","found","n"] spAreOnes:=by
  have S:=sc_b_are_ones
  have G_b_is:=ok_b_is (P:=P) (w:=w) (base:=base) T
  have G_b_ones:=ok_b_ones (P:=P) (w:=w) (base:=base) T
  refine T.F_b_are_ones.ok S (fun vs H Q E h=>?_) (fun cdv A outer s H vs Q E hr h=>?_)
  · obtain ⟨H0,q,r,n,rfl,_⟩:=h
    rfl
  · obtain ⟨H0,q,r,n,rfl,hq,n4,hF,k⟩:=h
    have hu8:=hr.units
    refine ⟨_,(@pss_cons _ _ _ _ _ (@ps_if _ _ _ _ _ _ _ _ (PW.pt (@pw_or _ _ _ _ _ _ _ (@pt_not _ _ _ _ (pt_val (pe_callB (call_isi (K:=K)) rfl T.n_isinstance boot_isinstance (@pa_mor _ _ _ _ _ (by rfl) (pv 1) (@pa_mor _ _ _ _ _ (by rfl) (pe_bltn (v:=.ty "list") rfl T.n_list boot_list rfl) pa_nil))))) (@pw_or1 _ _ _ _ (@pt_cmpR _ _ _ _ _ _ _ _ (op_neL (n:=2) hu8) (pv 1) (pe_call G_b_ones (hr.mono (by decide)) rfl T.mg_b_ones T.F_b_ones.kp T.b_b_ones .nil pass0 (@pa_mor _ _ _ _ _ (by rfl) (pv 0) (@pa_mor _ _ _ _ _ (by rfl) (pv 2) pa_nil))) (nomark _))))) (@pss_one _ _ _ (@ps_ret _ _ _ _ pe_bl)) pss_nil)
      (@pss_one _ _ _ (@ps_ret _ _ _ _ (pe_callB (call_all (K:=K) rfl) rfl T.n_all boot_all (@pa_mor _ _ _ _ _ (by rfl) (pe_comp (N:=["row","p"]) (ρ:=(fun σ=>[σ[0]?.join])) ⟨rfl,rfl,by decide +kernel,by decide +kernel,(List.forall_mem_cons.mpr ⟨rfl,(List.forall_mem_nil _)⟩),has_of (by rfl),rfl,by decide +kernel,rfl,(fun σ j v h=>match j,h with | 0,h=>⟨0,_,rfl,rfl,join_some h,Or.inr (Or.inl rfl),.inl rfl,.inl rfl⟩ | j + 1,h=>by cases h),(fun _ _=>rfl)⟩ rfl (pi_list (pv 1)) (fun s₃ H₃ fp=>.nil) (fun s₃ H₃ fp=>(@pe_and _ _ _ _ _ _ _ (pe_callB (call_isi (K:=K)) rfl T.n_isinstance boot_isinstance (@pa_mor _ _ _ _ _ (by rfl) (pv 0) (@pa_mor _ _ _ _ _ (by rfl) (pe_bltn (v:=.ty "list") rfl T.n_list boot_list rfl) pa_nil))) (@pe_one _ _ _ _ _ (pe_callB (call_all (K:=K) rfl) rfl T.n_all boot_all (@pa_mor _ _ _ _ _ (by rfl) (pe_comp (N:=["number","p"]) (ρ:=(fun σ=>[σ[1]?.join])) ⟨rfl,rfl,by decide +kernel,by decide +kernel,(List.forall_mem_cons.mpr ⟨rfl,(List.forall_mem_nil _)⟩),has_of (by rfl),rfl,by decide +kernel,rfl,(fun σ j v h=>match j,h with | 0,h=>⟨1,_,rfl,rfl,join_some h,Or.inr (Or.inl rfl),.inl rfl,.inl rfl⟩ | j + 1,h=>by cases h),(fun _ _=>rfl)⟩ rfl (pi_listK (K:=K) (pv 0)) (fun s₃ H₃ fp=>.nil) (fun s₃ H₃ fp=>(pe_call G_b_is (hr.mono (by decide)) rfl T.mg_b_is T.F_b_is.kp T.b_b_is .nil pass0 (@pa_mor _ _ _ _ _ (by rfl) (pv 1) (@pa_mor _ _ _ _ _ (by rfl) (pv 0) pa_nil))))) pa_nil)))))) pa_nil))))),?_⟩
    obtain ⟨vs,e,l,f⟩:=id hF
    refine ⟨_,rfl,_,_,_,true,rfl,rfl,.of (.lst e),kit_same,true,rfl,iteF ?_⟩
    refine ⟨_,rfl,_,rfl,_,rfl,q,n,rfl,hq,n4,fun r1 H1 s1 hO=>ftab_like (hF.mono s1) hO ⟨_,rfl,iteF ?_⟩⟩
    dsimp only [tNext]
    have e1:=s1 _ _ e
    refine ret_of (cb_of (comp_of (xs:=vs) (fun R h=>⟨_,rfl,r,rfl,⟨_,.of e1⟩,h _ _ (Same.refl _) (jseq_list (.of e1))⟩) (small1000 (by omega)) (fun _ i y _=>y = .bl true) (fun _ _ _ _ _ _ h _ _=>h) ?_ ?_))
    · intro D i v hi Hc R sc _ kc
      obtain ⟨x,rfl,_,_,ws,ew,lw,fw⟩:=f i v hi
      have s1c:=s1.trans sc
      have ewc:=s1c _ _ ew
      refine ⟨_,rfl,_,_,_,true,rfl,rfl,.of (.lst ewc),kit_same,true,rfl,iteT ?_⟩
      refine cb_of (comp_of (xs:=ws) (fun R h=>⟨_,rfl,x,rfl,⟨_,.of ewc⟩,h _ _ (Same.refl _) (jseq_list (.of ewc))⟩) (small1000 (by omega)) (fun _ i y _=>y = .bl true) (fun _ _ _ _ _ _ h _ _=>h) ?_ ?_)
      · intro D' j w' hj Hd R' sd _ kd
        have hN:=((fw j w' hj).mono s1c).mono sd
        refine ⟨_,rfl,_,rfl,q,w',rfl,isN_thingM hN (show Mid 1 from Mid.of_lt (by decide) (by decide)),fun He se=>?_⟩
        rw [isN_isB hN]
        exact kd _ He se rfl
      · intro D' ys Hd sd lys hP eD
        refine ⟨D',List.replicate ys.length true,rfl,.of (by rw [eD]; exact congrArg _ (congrArg _ (bls_of hP))),?_⟩
        rw [all_yes]
        exact kc _ Hd sd rfl
    · intro D ys Hc sc hys hP eD
      refine ⟨D,List.replicate ys.length true,rfl,.of (by rw [eD]; exact congrArg _ (congrArg _ (bls_of hP))),?_⟩
      rw [all_yes]
      exact k Hc (s1.trans sc)
theorem ifs_gen7 {c:TT} {t u:TS} {D:Ends} {σ:St} {H:Hp} (k:∀ R:St→Hp→Prop,(∀ σ H,D.nx σ H→R σ H)→tIfS c t u { D with nx:=R } σ H):tIfS c t u D σ H:=k D.nx fun _ _ h=>h
theorem sc_law:FnScope ["script","p","q","thing","twin","wheel","found","n","world"] ["script"] (defScope s_law):=⟨rfl,rfl,rfl,by decide +kernel,rfl,by decide +kernel,by decide +kernel⟩
theorem ok_law (T:Txt K mg t):FnOk P w K mg base CX0 9 t.f_law t.d_law ["script"] (spLaw K):=by
  have S:=sc_law
  have G_b_draw:=ok_b_draw (P:=P) (w:=w) (base:=base) T
  have G_b_wheel:=ok_b_wheel (P:=P) (w:=w) (base:=base) T
  have G_b_prime:=ok_b_prime (P:=P) (w:=w) (base:=base) T
  have G_b_world:=ok_b_world (P:=P) (w:=w) (base:=base) T
  have G_b_thing:=ok_b_thing (P:=P) (w:=w) (base:=base) T
  have G_b_due:=ok_b_due (P:=P) (w:=w) (base:=base) T
  have G_b_are_ones:=ok_b_are_ones (P:=P) (w:=w) (base:=base) T
  have G_is_table:=ok_is_table (P:=P) (w:=w) (base:=base) T
  have G_one_table:=ok_one_table (P:=P) (w:=w) (base:=base) T
  refine T.F_law.ok S (fun vs H Q E h=>?_) (fun cdv A outer s H vs Q E hr h=>?_)
  · obtain ⟨a,ns,rfl,_⟩:=h
    rfl
  · obtain ⟨a,ns,rfl,hS,hlen,kQ⟩:=h
    have hu8:=hr.units
    refine ⟨_,(@pss_cons _ _ _ _ _ (@ps_put _ _ 1 _ _ _ _ (by rfl) (by first | exact .inl rfl | exact .inr rfl | assumption) S.nd rfl (Or.inl rfl) (pe_call G_b_wheel (hr.mono (by decide)) rfl T.mg_b_wheel T.F_b_wheel.kp T.b_b_wheel .nil pass0 (@pa_mor _ _ _ _ _ (by rfl) (pe_call G_b_draw (hr.mono (by decide)) rfl T.mg_b_draw T.F_b_draw.kp T.b_b_draw .nil pass0 (@pa_mor _ _ _ _ _ (by rfl) (pv 0) (@pa_mor _ _ _ _ _ (by rfl) pe_int pa_nil))) pa_nil)))
      (@pss_cons _ _ _ _ _ (@ps_put _ _ 2 _ _ _ _ (by rfl) (by first | exact .inl rfl | exact .inr rfl | assumption) S.nd rfl (Or.inl rfl) (pe_call G_b_prime (hr.mono (by decide)) rfl T.mg_b_prime T.F_b_prime.kp T.b_b_prime .nil pass0 (@pa_mor _ _ _ _ _ (by rfl) (@pe_op _ _ _ _ _ _ _ _ op_fdiv (pe_call G_b_draw (hr.mono (by decide)) rfl T.mg_b_draw T.F_b_draw.kp T.b_b_draw .nil pass0 (@pa_mor _ _ _ _ _ (by rfl) (pv 0) (@pa_mor _ _ _ _ _ (by rfl) pe_int pa_nil))) pe_int) pa_nil)))
      (@pss_cons _ _ _ _ _ (@ps_put _ _ 3 _ _ _ _ (by rfl) (by first | exact .inl rfl | exact .inr rfl | assumption) S.nd rfl (Or.inl rfl) (pe_call G_b_thing (hr.mono (by decide)) rfl T.mg_b_thing T.F_b_thing.kp T.b_b_thing .nil pass0 (@pa_mor _ _ _ _ _ (by rfl) (pv 0) (@pa_mor _ _ _ _ _ (by rfl) (pv 1) pa_nil))))
      (@pss_cons _ _ _ _ _ (@ps_put _ _ 4 _ _ _ _ (by rfl) (by first | exact .inl rfl | exact .inr rfl | assumption) S.nd rfl (Or.inl rfl) (pe_call G_b_thing (hr.mono (by decide)) rfl T.mg_b_thing T.F_b_thing.kp T.b_b_thing .nil pass0 (@pa_mor _ _ _ _ _ (by rfl) (pv 0) (@pa_mor _ _ _ _ _ (by rfl) (pv 1) pa_nil))))
      (@pss_cons _ _ _ _ _ (ps_for PassesOwn.never rfl (pi_list (@pe_lst _ _ _ _ (@pa_mor _ _ _ _ _ (by rfl) (pv 1) (@pa_mor _ _ _ _ _ (by rfl) (pv 2) (@pa_mor _ _ _ _ _ (by rfl) (pv 1) pa_nil))))) (pg_name (i:=5) S.nd rfl (Or.inl rfl))
        (@pss_cons _ _ _ _ _ (@ps_put _ _ 6 _ _ _ _ (by rfl) (by first | exact .inl rfl | exact .inr rfl | assumption) S.nd rfl (Or.inl rfl) (pe_call G_is_table (hr.mono (by decide)) rfl T.mg_is_table T.F_is_table.kp T.b_is_table .nil pass0 (@pa_mor _ _ _ _ _ (by rfl) (pe_call G_b_world (hr.mono (by decide)) rfl T.mg_b_world T.F_b_world.kp T.b_b_world .nil pass0 (@pa_mor _ _ _ _ _ (by rfl) (pv 5) pa_nil)) (@pa_mor _ _ _ _ _ (by rfl) (pv 3) pa_nil))))
      (@pss_one _ _ _ (@ps_if _ _ _ _ _ _ _ _ (PW.pt (@pw_or _ _ _ _ _ _ _ (@pt_not _ _ _ _ (pt_val (pe_callB (call_isi (K:=K)) rfl T.n_isinstance boot_isinstance (@pa_mor _ _ _ _ _ (by rfl) (pv 6) (@pa_mor _ _ _ _ _ (by rfl) (pe_bltn (v:=.ty "bool") rfl T.n_bool boot_bool rfl) pa_nil))))) (@pw_or _ _ _ _ _ _ _ (@pt_cmpR _ _ _ _ _ _ _ _ op_ne (pv 6) (pe_call G_b_due (hr.mono (by decide)) rfl T.mg_b_due T.F_b_due.kp T.b_b_due .nil pass0 (@pa_mor _ _ _ _ _ (by rfl) (pv 5) (@pa_mor _ _ _ _ _ (by rfl) (pv 3) pa_nil))) (nomark _)) (@pw_or1 _ _ _ _ (@pt_cmpR _ _ _ _ _ _ _ _ (op_neTr (n:=3) hu8) (pv 3) (pv 4) (nomark _)))))) (@pss_one _ _ _ (@ps_ret _ _ _ _ pe_bl)) pss_nil))))
      (@pss_cons _ _ _ _ _ (@ps_put _ _ 7 _ _ _ _ (by rfl) (by first | exact .inl rfl | exact .inr rfl | assumption) S.nd rfl (Or.inl rfl) (@pe_op _ _ _ _ _ _ _ _ op_add pe_int (@pe_op _ _ _ _ _ _ _ _ op_mod (@pe_op _ _ _ _ _ _ _ _ op_fdiv (pe_call G_b_draw (hr.mono (by decide)) rfl T.mg_b_draw T.F_b_draw.kp T.b_b_draw .nil pass0 (@pa_mor _ _ _ _ _ (by rfl) (pv 0) (@pa_mor _ _ _ _ _ (by rfl) pe_int pa_nil))) pe_int) pe_int)))
      (@pss_cons _ _ _ _ _ (@ps_if _ _ _ _ _ _ _ _ (@pt_cmpR _ _ _ _ _ _ _ _ op_eq (@pe_op _ _ _ _ _ _ _ _ op_mod (@pe_op _ _ _ _ _ _ _ _ op_fdiv (pe_call G_b_draw (hr.mono (by decide)) rfl T.mg_b_draw T.F_b_draw.kp T.b_b_draw .nil pass0 (@pa_mor _ _ _ _ _ (by rfl) (pv 0) (@pa_mor _ _ _ _ _ (by rfl) pe_int pa_nil))) pe_int) pe_int) pe_int (nomark _)) (@pss_one _ _ _ (@ps_put _ _ 7 _ _ _ _ (by rfl) (by first | exact .inl rfl | exact .inr rfl | assumption) S.nd rfl (Or.inl rfl) pe_int)) pss_nil)
      (@pss_cons _ _ _ _ _ (@ps_put _ _ 8 _ _ _ _ (by rfl) (by first | exact .inl rfl | exact .inr rfl | assumption) S.nd rfl (Or.inl rfl) (pe_call G_b_world (hr.mono (by decide)) rfl T.mg_b_world T.F_b_world.kp T.b_b_world .nil pass0 (@pa_mor _ _ _ _ _ (by rfl) (pv 1) pa_nil)))
      (@pss_cons _ _ _ _ _ (@ps_put _ _ 6 _ _ _ _ (by rfl) (by first | exact .inl rfl | exact .inr rfl | assumption) S.nd rfl (Or.inl rfl) (pe_call G_one_table (hr.mono (by decide)) rfl T.mg_one_table T.F_one_table.kp T.b_one_table .nil pass0 (@pa_mor _ _ _ _ _ (by rfl) (pv 8) (@pa_mor _ _ _ _ _ (by rfl) (pv 7) pa_nil))))
      (@pss_cons _ _ _ _ _ (@ps_if _ _ _ _ _ _ _ _ (@pt_not _ _ _ _ (pt_val (pe_call G_b_are_ones (hr.mono (by decide)) rfl T.mg_b_are_ones T.F_b_are_ones.kp T.b_b_are_ones .nil pass0 (@pa_mor _ _ _ _ _ (by rfl) (pv 1) (@pa_mor _ _ _ _ _ (by rfl) (pv 6) (@pa_mor _ _ _ _ _ (by rfl) (pv 7) pa_nil)))))) (@pss_one _ _ _ (@ps_ret _ _ _ _ pe_bl)) pss_nil)
      (@pss_cons _ _ _ _ _ (@ps_asg _ _ _ _ _ _ (@pe_ix _ _ _ _ _ _ _ ix_list (@pe_ix _ _ _ _ _ _ _ ix_list (pv 6) (@pe_op _ _ _ _ _ _ _ _ op_sub (pv 7) pe_int) (fun _ _=>rfl)) pe_int (fun _ _=>rfl)) (pg_sub (@pe_ix _ _ _ _ _ _ _ ix_list (pv 6) pe_int (fun _ _=>rfl)) pe_int set_list) (by rfl) (by rfl) (by rfl))
      (@pss_cons _ _ _ _ _ (ps_expr (pe_bm0 PySem.F.plainAttrs_list PySem.F.slot_list_pop PySem.F.type_list_pop mt_pop (pv 6)))
      (@pss_one _ _ _ (@ps_ret _ _ _ _ (pe_call G_b_are_ones (hr.mono (by decide)) rfl T.mg_b_are_ones T.F_b_are_ones.kp T.b_b_are_ones .nil pass0 (@pa_mor _ _ _ _ _ (by rfl) (pv 1) (@pa_mor _ _ _ _ _ (by rfl) (pe_call G_one_table (hr.mono (by decide)) rfl T.mg_one_table T.F_one_table.kp T.b_one_table .nil pass0 (@pa_mor _ _ _ _ _ (by rfl) (pv 8) (@pa_mor _ _ _ _ _ (by rfl) (pv 7) pa_nil))) (@pa_mor _ _ _ _ _ (by rfl) (pv 7) pa_nil)))))))))))))))))),?_⟩
    refine ⟨_,rfl,a,ns,0,rfl,hS,by decide,by decide,fun H1 s1=>⟨_,rfl,fun p H2 s2 hp=>?_⟩⟩
    dsimp only [gName]
    simp only [L2.start,List.length_cons,List.length_nil,List.map_cons,List.map_nil,List.replicate,List.cons_append,List.nil_append,List.set_cons_zero,List.set_cons_succ]
    have s12:=s1.trans s2
    refine ⟨_,rfl,a,ns,1,rfl,s12.seq hS,by decide,by decide,fun H3 s3=>⟨_,_,rfl,rfl,⟨by decide,by decide⟩,?_⟩⟩
    refine ⟨_,rfl,fun q H4 s4 q2 q3 q4=>?_⟩
    have hqq:WheelN q:=.inr ⟨q2,q3,q4⟩
    have s14:=s12.trans (s3.trans s4)
    dsimp only [gName]
    simp only [List.set_cons_zero,List.set_cons_succ]
    refine ⟨_,rfl,_,rfl,a,ns,p,rfl,s14.seq hS,hp,fun v1 H5 s5 i1=>?_⟩
    dsimp only [gName]
    simp only [List.set_cons_zero,List.set_cons_succ]
    have s15:=s14.trans s5
    refine ⟨_,rfl,_,rfl,a,ns,p,rfl,s15.seq hS,hp,fun v2 H6 s6 i2=>?_⟩
    dsimp only [gName]
    simp only [List.set_cons_zero,List.set_cons_succ]
    have s16:=s15.trans s6
    have i1:=i1.keep s6
    obtain ⟨ok1,ok2⟩:=thing_ok ns p
    generalize thingT ns p = tr at i1 i2 ok1 ok2
    refine ⟨_,rfl,_,rfl,_,rfl,by show 3 ≤ sizeLine; decide,fun wl nwl=>⟨wl,rfl,⟨_,.of upd_same⟩,?_⟩⟩
    have s7:Same H6 (upd H6 wl (.lst [.int p,.int q,.int p])):=same_upd nwl
    have ewl:upd H6 wl (.lst [.int p,.int q,.int p]) wl = some (.lst [.int p,.int q,.int p]):=upd_same
    generalize upd H6 wl (.lst [.int p,.int q,.int p]) = H7 at s7 ewl ⊢
    refine for_list (K:=K) (a:=wl) (xs:=[.int p,.int q,.int p]) (fun i σ Hc=>Same H7 Hc∧∃ v5 v6:Option V,σ = [some (.ref a),some (.int p),some (.int q),some v1,some v2,v5,v6,none,none]) ⟨Same.refl _,none,none,rfl⟩ (fun i σ Hc _ ⟨sc,_⟩=>.of (sc _ _ ewl)) ?_ ?_
    · rintro i v σ Hc hv ⟨sc,v5,v6,rfl⟩
      obtain ⟨x,rfl,hx⟩:∃ x,v = .int x∧WheelN x:=by
        match i,hv with
        | 0,hv=>cases hv; exact ⟨p,rfl,hp⟩
        | 1,hv=>cases hv; exact ⟨q,rfl,hqq⟩
        | 2,hv=>cases hv; exact ⟨p,rfl,hp⟩
      have s7c:=s7.trans sc
      dsimp only [gName]
      simp only [List.set_cons_zero,List.set_cons_succ]
      refine ⟨_,rfl,x,rfl,hx,fun z Hd sd hz=>⟨_,rfl,z,x,v1,tr,rfl,hz,(i1.keep s7c).keep sd,ok1,fun He se=>?_⟩⟩
      have s7e:=s7c.trans (sd.trans se)
      dsimp only [gName]
      simp only [List.set_cons_zero,List.set_cons_succ]
      refine ⟨_,rfl,_,_,_,true,rfl,rfl,.of (.bl _),rfl,true,rfl,iteF ?_⟩
      refine ⟨_,rfl,_,rfl,_,rfl,x,v1,tr,rfl,i1.keep s7e,ok1,fun Hf sf=>⟨rfl,false,by rw [decide_eq_true rfl]; rfl,iteF ?_⟩⟩
      have s7f:=s7e.trans sf
      refine ⟨_,rfl,_,rfl,tr,ok2,i1.keep s7f,i2.keep s7f,false,rfl,iteF ?_⟩
      exact ⟨sc.trans (sd.trans (se.trans sf)),_,_,rfl⟩
    rintro σ H8 ⟨s8,v5,v6,rfl⟩
    have s18:=s16.trans (s7.trans s8)
    dsimp only
    refine ⟨_,rfl,a,ns,2,rfl,s18.seq hS,by decide,by decide,fun H9 s9=>⟨_,_,rfl,rfl,⟨by decide,by decide⟩,_,_,rfl,rfl,(by show (0:Int) < 6; decide),_,_,rfl,rfl,?_⟩⟩
    dsimp only [gName]
    simp only [List.set_cons_zero,List.set_cons_succ]
    have s19:=s18.trans s9
    have d0:=Int.emod_nonneg (drawV ns 2 / 8) (show (6:Int) ≠ 0 by decide)
    have d1:=Int.emod_lt_of_pos (drawV ns 2 / 8) (show (0:Int) < 6 by decide)
    obtain ⟨n0,en,n1,n6⟩:∃ n0:Nat,1 + drawV ns 2 / 8 % 6 = (n0:Int)∧1 ≤ n0∧n0 ≤ 40:=⟨(1 + drawV ns 2 / 8 % 6).toNat,by omega,by omega,by omega⟩
    rw [en]
    refine seq_of (ifs_gen7 fun R hR=>?_)
    dsimp only
    have fin:∀ (n:Nat) (Hc:Hp),1 ≤ n→n ≤ 40→Same H9 Hc→R [some (.ref a),some (.int p),some (.int q),some v1,some v2,v5,v6,some (.int (n:Int)),none] Hc:=fun n Hc n1 n40 sc=>hR _ _ (by
      dsimp only
      refine ⟨_,rfl,p,rfl,hp,fun z Hd sd hz=>?_⟩
      dsimp only [gName]
      simp only [List.set_cons_zero,List.set_cons_succ]
      refine ⟨_,rfl,_,rfl,z,p,n,rfl,hz,hp,n40,fun r He se nr hU=>?_⟩
      dsimp only [gName]
      simp only [List.set_cons_zero,List.set_cons_succ]
      refine ⟨_,rfl,_,rfl,_,rfl,_,p,r,n,rfl,hp,n40,hU.f hp,fun Hf sf=>⟨true,rfl,iteF ?_⟩⟩
      dsimp only [tNext]
      obtain ⟨vs,ev,lv,fv⟩:=hU
      have v0:0 < vs.length:=by omega
      have vl:n - 1 < vs.length:=by omega
      obtain ⟨x0,ex0,x0r,nx0,ws0,ew0,lw0,_⟩:=fv 0 vs[0] (by simp [v0])
      obtain ⟨xl,exl,xlr,nxl,wsl,ewl',lwl,_⟩:=fv (n - 1) vs[n - 1] (by simp [vl])
      have lu:∀ i,(unitRow n i).length = n:=fun i=>by unfold unitRow; simp
      have w0:0 < ws0.length:=by rw [lw0,lu]; omega
      have wl':0 < wsl.length:=by rw [lwl,lu]; omega
      have at0:atI vs 0 = some (.ref x0):=by exact atI_nat (j:=0) (by rw [← ex0]; simp [v0])
      have atn:atI vs ((n:Int) - 1) = some (.ref xl):=by
        rw [show (n:Int) - 1 = ((n - 1:Nat):Int) by omega]
        exact atI_nat (by rw [← exl]; simp [vl])
      have atw:atI wsl 0 = some wsl[0]:=by exact atI_nat (j:=0) (by simp [wl'])
      have evf:=sf _ _ ev
      refine ⟨_,rfl,_,rfl,_,_,rfl,rfl,r,vs,_,.ref xl,rfl,rfl,.of evf,atn,xl,wsl,_,wsl[0],rfl,rfl,.of (sf _ _ ewl'),atw,?_⟩
      refine ⟨_,rfl,r,vs,_,.ref x0,rfl,rfl,.of evf,at0,x0,ws0,_,0,rfl,rfl,sf _ _ ew0,(by unfold ixN; simp [w0]),?_⟩
      have s13:Same Hd (upd Hf x0 (.lst (ws0.set 0 wsl[0]))):=same_but (se.trans sf) nx0
      have er13:upd Hf x0 (.lst (ws0.set 0 wsl[0])) r = some (.lst vs):=by rw [upd_ne (Ne.symm x0r)]; exact evf
      dsimp only
      generalize upd Hf x0 (.lst (ws0.set 0 wsl[0])) = Hg at s13 er13 ⊢
      refine ⟨_,rfl,.inl ⟨rfl,_,.of er13⟩,r,vs,vs[vs.length - 1],rfl,rfl,er13,(by simp),?_⟩
      have s14:Same Hd (upd Hg r (.lst vs.dropLast)):=same_but s13 nr
      generalize upd Hg r (.lst vs.dropLast) = Hh at s14 ⊢
      dsimp only
      refine ⟨_,rfl,_,rfl,_,rfl,z,p,n,rfl,hz.mono s14,hp,n40,fun r2 Hi si nr2 hU2=>⟨_,rfl,_,p,r2,n,rfl,hp,n40,hU2.f hp,fun Hj _=>kQ Hj⟩⟩)
    refine ⟨_,rfl,a,ns,2,rfl,s19.seq hS,by decide,by decide,fun H10 s10=>⟨_,_,rfl,rfl,⟨by decide,by decide⟩,_,_,rfl,rfl,(by show (0:Int) < 16; decide),rfl,_,rfl,ite2 (fun _=>?_) (fun _=>?_)⟩⟩
    · exact fin 40 H10 (by decide) (by decide) s10
    · exact fin n0 H10 n1 n6 s10
theorem law_all {l:PySem.W.OpenLaw} (T:Txt K mg t):∃ fd:FuncData,(∀ (s:Shared) (v:Value),BindsTo s fd ⟨[v],[]⟩ [("script",v)])∧∀ base:Heap,K.In base→base.Ns mainGlobals mg→FnOk l.prog w K mg base CX0 9 t.f_law fd ["script"] (spLaw K):=by
  obtain ⟨oc,od,kV,doc,pm,an,cdv,ct,osl,e,lk,hcd⟩:=T.F_law.ex
  refine ⟨t.d_law,fun s v=>?_,fun base _ _=>ok_law T⟩
  rw [e]
  exact .of_eq rfl
end
theorem walk {l:PySem.W.OpenLaw} {q:Program} {loose:List Str} {XP:(Str→Option Value)→Heap→Prop} {YP:World→Heap→Prop} {d:DefRec} {K:Params→PySem.W.Frag} (hn:l.most = some 63) (hdf:d.params.defaults = [])
    (hY:∀ (w:World) (h:Heap),YP w h→(K w.params).In h)
    (F:∀ (w:World) (mg:Str→Option Value) (fa:Addr) (h:Heap),(K w.params).In h→h.Ns mainGlobals mg→mg d.name = some (.ref fa)→
      ∃ fd:FuncData,(∀ (s:Shared) (u:Value),BindsTo s fd ⟨[u],[]⟩ [("script",u)])∧∀ base:Heap,(K w.params).In base→base.Ns mainGlobals mg→FnOk l.prog w (K w.params) mg base CX0 9 fa fd ["script"] (spLaw (K w.params))) :
    PySem.W.WalkO q loose XP YP l.row.toRowW d [] (fun f vs=>PySem.call f vs):=
  L2.walk_of (n:=63) (k:=9) (x:="script") (CX:=fun _=>CX0) (sp:=fun w=>spLaw (K w.params)) hn (by decide) hdf ⟨rfl,by decide,by decide⟩ hY F (fun _ _ a ns hl _ hS=>⟨a,ns,rfl,hS,hl,fun _=>rfl⟩) fun _ _ _ _ _ z=>z
theorem txt_mk {K:PySem.W.Frag} {h:Heap} {mg:Str→Option Value} (X:K.In h) (G:h.Ns mainGlobals mg)
    {C_World:Addr}
    {C_NoWorld:Addr}
    {C_NoOver:Addr}
    {C_WrightError:Addr}
    {f_is_bounded_list:Addr} {od_is_bounded_list an_is_bounded_list:Option Addr} {sl_is_bounded_list:Array (Option Value)} {oc_is_bounded_list kV_is_bounded_list dc_is_bounded_list pm_is_bounded_list cd_is_bounded_list ct_is_bounded_list:Value}
    {f_is_table_row:Addr} {od_is_table_row an_is_table_row:Option Addr} {sl_is_table_row:Array (Option Value)} {oc_is_table_row kV_is_table_row dc_is_table_row pm_is_table_row cd_is_table_row ct_is_table_row:Value}
    {f_is_table:Addr} {od_is_table an_is_table:Option Addr} {sl_is_table:Array (Option Value)} {oc_is_table kV_is_table dc_is_table pm_is_table cd_is_table ct_is_table:Value}
    {f_one_table_row:Addr} {od_one_table_row an_one_table_row:Option Addr} {sl_one_table_row:Array (Option Value)} {oc_one_table_row kV_one_table_row dc_one_table_row pm_one_table_row cd_one_table_row ct_one_table_row:Value}
    {f_one_table:Addr} {od_one_table an_one_table:Option Addr} {sl_one_table:Array (Option Value)} {oc_one_table kV_one_table dc_one_table pm_one_table cd_one_table ct_one_table:Value}
    {f_is_whole:Addr} {od_is_whole an_is_whole:Option Addr} {sl_is_whole:Array (Option Value)} {oc_is_whole kV_is_whole dc_is_whole pm_is_whole cd_is_whole ct_is_whole:Value}
    {f_common_divisor:Addr} {od_common_divisor an_common_divisor:Option Addr} {sl_common_divisor:Array (Option Value)} {oc_common_divisor kV_common_divisor dc_common_divisor pm_common_divisor cd_common_divisor ct_common_divisor:Value}
    {f_is_prime:Addr} {od_is_prime an_is_prime:Option Addr} {sl_is_prime:Array (Option Value)} {oc_is_prime kV_is_prime dc_is_prime pm_is_prime cd_is_prime ct_is_prime:Value}
    {f_is_ratio:Addr} {od_is_ratio an_is_ratio:Option Addr} {sl_is_ratio:Array (Option Value)} {oc_is_ratio kV_is_ratio dc_is_ratio pm_is_ratio cd_is_ratio ct_is_ratio:Value}
    {f_ratio:Addr} {od_ratio an_ratio:Option Addr} {sl_ratio:Array (Option Value)} {oc_ratio kV_ratio dc_ratio pm_ratio cd_ratio ct_ratio:Value}
    {f_is_remainder:Addr} {od_is_remainder an_is_remainder:Option Addr} {sl_is_remainder:Array (Option Value)} {oc_is_remainder kV_is_remainder dc_is_remainder pm_is_remainder cd_is_remainder ct_is_remainder:Value}
    {f_remainder_back:Addr} {od_remainder_back an_remainder_back:Option Addr} {sl_remainder_back:Array (Option Value)} {oc_remainder_back kV_remainder_back dc_remainder_back pm_remainder_back cd_remainder_back ct_remainder_back:Value}
    {f_remainder_over:Addr} {od_remainder_over an_remainder_over:Option Addr} {sl_remainder_over:Array (Option Value)} {oc_remainder_over kV_remainder_over dc_remainder_over pm_remainder_over cd_remainder_over ct_remainder_over:Value}
    {f_is_fractions:Addr} {od_is_fractions an_is_fractions:Option Addr} {sl_is_fractions:Array (Option Value)} {oc_is_fractions kV_is_fractions dc_is_fractions pm_is_fractions cd_is_fractions ct_is_fractions:Value}
    {f_is_wheel:Addr} {od_is_wheel an_is_wheel:Option Addr} {sl_is_wheel:Array (Option Value)} {oc_is_wheel kV_is_wheel dc_is_wheel pm_is_wheel cd_is_wheel ct_is_wheel:Value}
    {f_b_draw:Addr} {od_b_draw an_b_draw:Option Addr} {sl_b_draw:Array (Option Value)} {oc_b_draw kV_b_draw dc_b_draw pm_b_draw cd_b_draw ct_b_draw:Value}
    {f_b_low:Addr} {od_b_low an_b_low:Option Addr} {sl_b_low:Array (Option Value)} {oc_b_low kV_b_low dc_b_low pm_b_low cd_b_low ct_b_low:Value}
    {f_b_prime:Addr} {od_b_prime an_b_prime:Option Addr} {sl_b_prime:Array (Option Value)} {oc_b_prime kV_b_prime dc_b_prime pm_b_prime cd_b_prime ct_b_prime:Value}
    {f_b_wheel:Addr} {od_b_wheel an_b_wheel:Option Addr} {sl_b_wheel:Array (Option Value)} {oc_b_wheel kV_b_wheel dc_b_wheel pm_b_wheel cd_b_wheel ct_b_wheel:Value}
    {f_b_world:Addr} {od_b_world an_b_world:Option Addr} {sl_b_world:Array (Option Value)} {oc_b_world kV_b_world dc_b_world pm_b_world cd_b_world ct_b_world:Value}
    {f_b_whole:Addr} {od_b_whole an_b_whole:Option Addr} {sl_b_whole:Array (Option Value)} {oc_b_whole kV_b_whole dc_b_whole pm_b_whole cd_b_whole ct_b_whole:Value}
    {f_b_is:Addr} {od_b_is an_b_is:Option Addr} {sl_b_is:Array (Option Value)} {oc_b_is kV_b_is dc_b_is pm_b_is cd_b_is ct_b_is:Value}
    {f_b_number:Addr} {od_b_number an_b_number:Option Addr} {sl_b_number:Array (Option Value)} {oc_b_number kV_b_number dc_b_number pm_b_number cd_b_number ct_b_number:Value}
    {f_b_due:Addr} {od_b_due an_b_due:Option Addr} {sl_b_due:Array (Option Value)} {oc_b_due kV_b_due dc_b_due pm_b_due cd_b_due ct_b_due:Value}
    {f_b_size:Addr} {od_b_size an_b_size:Option Addr} {sl_b_size:Array (Option Value)} {oc_b_size kV_b_size dc_b_size pm_b_size cd_b_size ct_b_size:Value}
    {f_b_no_number:Addr} {od_b_no_number an_b_no_number:Option Addr} {sl_b_no_number:Array (Option Value)} {oc_b_no_number kV_b_no_number dc_b_no_number pm_b_no_number cd_b_no_number ct_b_no_number:Value}
    {f_b_thing:Addr} {od_b_thing an_b_thing:Option Addr} {sl_b_thing:Array (Option Value)} {oc_b_thing kV_b_thing dc_b_thing pm_b_thing cd_b_thing ct_b_thing:Value}
    {f_b_ones:Addr} {od_b_ones an_b_ones:Option Addr} {sl_b_ones:Array (Option Value)} {oc_b_ones kV_b_ones dc_b_ones pm_b_ones cd_b_ones ct_b_ones:Value}
    {f_b_are_ones:Addr} {od_b_are_ones an_b_are_ones:Option Addr} {sl_b_are_ones:Array (Option Value)} {oc_b_are_ones kV_b_are_ones dc_b_are_ones pm_b_are_ones cd_b_are_ones ct_b_are_ones:Value}
    {f_law:Addr} {od_law an_law:Option Addr} {sl_law:Array (Option Value)} {oc_law kV_law dc_law pm_law cd_law ct_law:Value}
    {f_World___init__:Addr} {od_World___init__ an_World___init__:Option Addr} {sl_World___init__:Array (Option Value)} {oc_World___init__ kV_World___init__ dc_World___init__ pm_World___init__ cd_World___init__ ct_World___init__:Value}
    {f_World_is_number:Addr} {od_World_is_number an_World_is_number:Option Addr} {sl_World_is_number:Array (Option Value)} {oc_World_is_number kV_World_is_number dc_World_is_number pm_World_is_number cd_World_is_number ct_World_is_number:Value}
    {f_World_of:Addr} {od_World_of an_World_of:Option Addr} {sl_World_of:Array (Option Value)} {oc_World_of kV_World_of dc_World_of pm_World_of cd_World_of ct_World_of:Value}
    {dT_World_of:Addr} {tk_World_of:Tok} {oc2_World_of:Value} {od2_World_of:Option Addr} {n2_World_of:Nat} {sl2_World_of:Array (Option Value)}
    {tk_GREATEST_PRIME:Tok}
    {tk_LONG:Tok}
    {tk_MOST:Tok}
    (aC_World:PySem.W.nsIn K mainGlobals "World" = some (some (.ref C_World)))
    (aC_NoWorld:PySem.W.nsIn K mainGlobals "NoWorld" = some (some (.ref C_NoWorld)))
    (aC_NoOver:PySem.W.nsIn K mainGlobals "NoOver" = some (some (.ref C_NoOver)))
    (aC_WrightError:PySem.W.nsIn K mainGlobals "WrightError" = some (some (.ref C_WrightError)))
    (a_is_bounded_list:PySem.W.nsIn K mainGlobals "is_bounded_list" = some (some (.ref f_is_bounded_list)))
    (l_is_bounded_list:K.lookup f_is_bounded_list = some ⟨oc_is_bounded_list,od_is_bounded_list,.func (PySem.W.fnOf "is_bounded_list" "is_bounded_list" (defArgs s_is_bounded_list) (defBody s_is_bounded_list) (defScope s_is_bounded_list) .none kV_is_bounded_list dc_is_bounded_list pm_is_bounded_list an_is_bounded_list cd_is_bounded_list ct_is_bounded_list),sl_is_bounded_list⟩)
    (c_is_bounded_list:PySem.W.codeIn K cd_is_bounded_list "is_bounded_list" = true)
    (k_is_bounded_list:PySem.W.keepIn K (.ref f_is_bounded_list) = true)
    (a_is_table_row:PySem.W.nsIn K mainGlobals "is_table_row" = some (some (.ref f_is_table_row)))
    (l_is_table_row:K.lookup f_is_table_row = some ⟨oc_is_table_row,od_is_table_row,.func (PySem.W.fnOf "is_table_row" "is_table_row" (defArgs s_is_table_row) (defBody s_is_table_row) (defScope s_is_table_row) .none kV_is_table_row dc_is_table_row pm_is_table_row an_is_table_row cd_is_table_row ct_is_table_row),sl_is_table_row⟩)
    (c_is_table_row:PySem.W.codeIn K cd_is_table_row "is_table_row" = true)
    (k_is_table_row:PySem.W.keepIn K (.ref f_is_table_row) = true)
    (a_is_table:PySem.W.nsIn K mainGlobals "is_table" = some (some (.ref f_is_table)))
    (l_is_table:K.lookup f_is_table = some ⟨oc_is_table,od_is_table,.func (PySem.W.fnOf "is_table" "is_table" (defArgs s_is_table) (defBody s_is_table) (defScope s_is_table) .none kV_is_table dc_is_table pm_is_table an_is_table cd_is_table ct_is_table),sl_is_table⟩)
    (c_is_table:PySem.W.codeIn K cd_is_table "is_table" = true)
    (k_is_table:PySem.W.keepIn K (.ref f_is_table) = true)
    (a_one_table_row:PySem.W.nsIn K mainGlobals "one_table_row" = some (some (.ref f_one_table_row)))
    (l_one_table_row:K.lookup f_one_table_row = some ⟨oc_one_table_row,od_one_table_row,.func (PySem.W.fnOf "one_table_row" "one_table_row" (defArgs s_one_table_row) (defBody s_one_table_row) (defScope s_one_table_row) .none kV_one_table_row dc_one_table_row pm_one_table_row an_one_table_row cd_one_table_row ct_one_table_row),sl_one_table_row⟩)
    (c_one_table_row:PySem.W.codeIn K cd_one_table_row "one_table_row" = true)
    (k_one_table_row:PySem.W.keepIn K (.ref f_one_table_row) = true)
    (a_one_table:PySem.W.nsIn K mainGlobals "one_table" = some (some (.ref f_one_table)))
    (l_one_table:K.lookup f_one_table = some ⟨oc_one_table,od_one_table,.func (PySem.W.fnOf "one_table" "one_table" (defArgs s_one_table) (defBody s_one_table) (defScope s_one_table) .none kV_one_table dc_one_table pm_one_table an_one_table cd_one_table ct_one_table),sl_one_table⟩)
    (c_one_table:PySem.W.codeIn K cd_one_table "one_table" = true)
    (k_one_table:PySem.W.keepIn K (.ref f_one_table) = true)
    (a_is_whole:PySem.W.nsIn K mainGlobals "is_whole" = some (some (.ref f_is_whole)))
    (l_is_whole:K.lookup f_is_whole = some ⟨oc_is_whole,od_is_whole,.func (PySem.W.fnOf "is_whole" "is_whole" (defArgs s_is_whole) (defBody s_is_whole) (defScope s_is_whole) .none kV_is_whole dc_is_whole pm_is_whole an_is_whole cd_is_whole ct_is_whole),sl_is_whole⟩)
    (c_is_whole:PySem.W.codeIn K cd_is_whole "is_whole" = true)
    (k_is_whole:PySem.W.keepIn K (.ref f_is_whole) = true)
    (a_common_divisor:PySem.W.nsIn K mainGlobals "common_divisor" = some (some (.ref f_common_divisor)))
    (l_common_divisor:K.lookup f_common_divisor = some ⟨oc_common_divisor,od_common_divisor,.func (PySem.W.fnOf "common_divisor" "common_divisor" (defArgs s_common_divisor) (defBody s_common_divisor) (defScope s_common_divisor) .none kV_common_divisor dc_common_divisor pm_common_divisor an_common_divisor cd_common_divisor ct_common_divisor),sl_common_divisor⟩)
    (c_common_divisor:PySem.W.codeIn K cd_common_divisor "common_divisor" = true)
    (k_common_divisor:PySem.W.keepIn K (.ref f_common_divisor) = true)
    (a_is_prime:PySem.W.nsIn K mainGlobals "is_prime" = some (some (.ref f_is_prime)))
    (l_is_prime:K.lookup f_is_prime = some ⟨oc_is_prime,od_is_prime,.func (PySem.W.fnOf "is_prime" "is_prime" (defArgs s_is_prime) (defBody s_is_prime) (defScope s_is_prime) .none kV_is_prime dc_is_prime pm_is_prime an_is_prime cd_is_prime ct_is_prime),sl_is_prime⟩)
    (c_is_prime:PySem.W.codeIn K cd_is_prime "is_prime" = true)
    (k_is_prime:PySem.W.keepIn K (.ref f_is_prime) = true)
    (a_is_ratio:PySem.W.nsIn K mainGlobals "is_ratio" = some (some (.ref f_is_ratio)))
    (l_is_ratio:K.lookup f_is_ratio = some ⟨oc_is_ratio,od_is_ratio,.func (PySem.W.fnOf "is_ratio" "is_ratio" (defArgs s_is_ratio) (defBody s_is_ratio) (defScope s_is_ratio) .none kV_is_ratio dc_is_ratio pm_is_ratio an_is_ratio cd_is_ratio ct_is_ratio),sl_is_ratio⟩)
    (c_is_ratio:PySem.W.codeIn K cd_is_ratio "is_ratio" = true)
    (k_is_ratio:PySem.W.keepIn K (.ref f_is_ratio) = true)
    (a_ratio:PySem.W.nsIn K mainGlobals "ratio" = some (some (.ref f_ratio)))
    (l_ratio:K.lookup f_ratio = some ⟨oc_ratio,od_ratio,.func (PySem.W.fnOf "ratio" "ratio" (defArgs s_ratio) (defBody s_ratio) (defScope s_ratio) .none kV_ratio dc_ratio pm_ratio an_ratio cd_ratio ct_ratio),sl_ratio⟩)
    (c_ratio:PySem.W.codeIn K cd_ratio "ratio" = true)
    (k_ratio:PySem.W.keepIn K (.ref f_ratio) = true)
    (a_is_remainder:PySem.W.nsIn K mainGlobals "is_remainder" = some (some (.ref f_is_remainder)))
    (l_is_remainder:K.lookup f_is_remainder = some ⟨oc_is_remainder,od_is_remainder,.func (PySem.W.fnOf "is_remainder" "is_remainder" (defArgs s_is_remainder) (defBody s_is_remainder) (defScope s_is_remainder) .none kV_is_remainder dc_is_remainder pm_is_remainder an_is_remainder cd_is_remainder ct_is_remainder),sl_is_remainder⟩)
    (c_is_remainder:PySem.W.codeIn K cd_is_remainder "is_remainder" = true)
    (k_is_remainder:PySem.W.keepIn K (.ref f_is_remainder) = true)
    (a_remainder_back:PySem.W.nsIn K mainGlobals "remainder_back" = some (some (.ref f_remainder_back)))
    (l_remainder_back:K.lookup f_remainder_back = some ⟨oc_remainder_back,od_remainder_back,.func (PySem.W.fnOf "remainder_back" "remainder_back" (defArgs s_remainder_back) (defBody s_remainder_back) (defScope s_remainder_back) .none kV_remainder_back dc_remainder_back pm_remainder_back an_remainder_back cd_remainder_back ct_remainder_back),sl_remainder_back⟩)
    (c_remainder_back:PySem.W.codeIn K cd_remainder_back "remainder_back" = true)
    (k_remainder_back:PySem.W.keepIn K (.ref f_remainder_back) = true)
    (a_remainder_over:PySem.W.nsIn K mainGlobals "remainder_over" = some (some (.ref f_remainder_over)))
    (l_remainder_over:K.lookup f_remainder_over = some ⟨oc_remainder_over,od_remainder_over,.func (PySem.W.fnOf "remainder_over" "remainder_over" (defArgs s_remainder_over) (defBody s_remainder_over) (defScope s_remainder_over) .none kV_remainder_over dc_remainder_over pm_remainder_over an_remainder_over cd_remainder_over ct_remainder_over),sl_remainder_over⟩)
    (c_remainder_over:PySem.W.codeIn K cd_remainder_over "remainder_over" = true)
    (k_remainder_over:PySem.W.keepIn K (.ref f_remainder_over) = true)
    (a_is_fractions:PySem.W.nsIn K mainGlobals "is_fractions" = some (some (.ref f_is_fractions)))
    (l_is_fractions:K.lookup f_is_fractions = some ⟨oc_is_fractions,od_is_fractions,.func (PySem.W.fnOf "is_fractions" "is_fractions" (defArgs s_is_fractions) (defBody s_is_fractions) (defScope s_is_fractions) .none kV_is_fractions dc_is_fractions pm_is_fractions an_is_fractions cd_is_fractions ct_is_fractions),sl_is_fractions⟩)
    (c_is_fractions:PySem.W.codeIn K cd_is_fractions "is_fractions" = true)
    (k_is_fractions:PySem.W.keepIn K (.ref f_is_fractions) = true)
    (a_is_wheel:PySem.W.nsIn K mainGlobals "is_wheel" = some (some (.ref f_is_wheel)))
    (l_is_wheel:K.lookup f_is_wheel = some ⟨oc_is_wheel,od_is_wheel,.func (PySem.W.fnOf "is_wheel" "is_wheel" (defArgs s_is_wheel) (defBody s_is_wheel) (defScope s_is_wheel) .none kV_is_wheel dc_is_wheel pm_is_wheel an_is_wheel cd_is_wheel ct_is_wheel),sl_is_wheel⟩)
    (c_is_wheel:PySem.W.codeIn K cd_is_wheel "is_wheel" = true)
    (k_is_wheel:PySem.W.keepIn K (.ref f_is_wheel) = true)
    (a_b_draw:PySem.W.nsIn K mainGlobals "_law_b_draw" = some (some (.ref f_b_draw)))
    (l_b_draw:K.lookup f_b_draw = some ⟨oc_b_draw,od_b_draw,.func (PySem.W.fnOf "_law_b_draw" "_law_b_draw" (defArgs s_b_draw) (defBody s_b_draw) (defScope s_b_draw) .none kV_b_draw dc_b_draw pm_b_draw an_b_draw cd_b_draw ct_b_draw),sl_b_draw⟩)
    (c_b_draw:PySem.W.codeIn K cd_b_draw "_law_b_draw" = true)
    (k_b_draw:PySem.W.keepIn K (.ref f_b_draw) = true)
    (a_b_low:PySem.W.nsIn K mainGlobals "_law_b_low" = some (some (.ref f_b_low)))
    (l_b_low:K.lookup f_b_low = some ⟨oc_b_low,od_b_low,.func (PySem.W.fnOf "_law_b_low" "_law_b_low" (defArgs s_b_low) (defBody s_b_low) (defScope s_b_low) .none kV_b_low dc_b_low pm_b_low an_b_low cd_b_low ct_b_low),sl_b_low⟩)
    (c_b_low:PySem.W.codeIn K cd_b_low "_law_b_low" = true)
    (k_b_low:PySem.W.keepIn K (.ref f_b_low) = true)
    (a_b_prime:PySem.W.nsIn K mainGlobals "_law_b_prime" = some (some (.ref f_b_prime)))
    (l_b_prime:K.lookup f_b_prime = some ⟨oc_b_prime,od_b_prime,.func (PySem.W.fnOf "_law_b_prime" "_law_b_prime" (defArgs s_b_prime) (defBody s_b_prime) (defScope s_b_prime) .none kV_b_prime dc_b_prime pm_b_prime an_b_prime cd_b_prime ct_b_prime),sl_b_prime⟩)
    (c_b_prime:PySem.W.codeIn K cd_b_prime "_law_b_prime" = true)
    (k_b_prime:PySem.W.keepIn K (.ref f_b_prime) = true)
    (a_b_wheel:PySem.W.nsIn K mainGlobals "_law_b_wheel" = some (some (.ref f_b_wheel)))
    (l_b_wheel:K.lookup f_b_wheel = some ⟨oc_b_wheel,od_b_wheel,.func (PySem.W.fnOf "_law_b_wheel" "_law_b_wheel" (defArgs s_b_wheel) (defBody s_b_wheel) (defScope s_b_wheel) .none kV_b_wheel dc_b_wheel pm_b_wheel an_b_wheel cd_b_wheel ct_b_wheel),sl_b_wheel⟩)
    (c_b_wheel:PySem.W.codeIn K cd_b_wheel "_law_b_wheel" = true)
    (k_b_wheel:PySem.W.keepIn K (.ref f_b_wheel) = true)
    (a_b_world:PySem.W.nsIn K mainGlobals "_law_b_world" = some (some (.ref f_b_world)))
    (l_b_world:K.lookup f_b_world = some ⟨oc_b_world,od_b_world,.func (PySem.W.fnOf "_law_b_world" "_law_b_world" (defArgs s_b_world) (defBody s_b_world) (defScope s_b_world) .none kV_b_world dc_b_world pm_b_world an_b_world cd_b_world ct_b_world),sl_b_world⟩)
    (c_b_world:PySem.W.codeIn K cd_b_world "_law_b_world" = true)
    (k_b_world:PySem.W.keepIn K (.ref f_b_world) = true)
    (a_b_whole:PySem.W.nsIn K mainGlobals "_law_b_whole" = some (some (.ref f_b_whole)))
    (l_b_whole:K.lookup f_b_whole = some ⟨oc_b_whole,od_b_whole,.func (PySem.W.fnOf "_law_b_whole" "_law_b_whole" (defArgs s_b_whole) (defBody s_b_whole) (defScope s_b_whole) .none kV_b_whole dc_b_whole pm_b_whole an_b_whole cd_b_whole ct_b_whole),sl_b_whole⟩)
    (c_b_whole:PySem.W.codeIn K cd_b_whole "_law_b_whole" = true)
    (k_b_whole:PySem.W.keepIn K (.ref f_b_whole) = true)
    (a_b_is:PySem.W.nsIn K mainGlobals "_law_b_is" = some (some (.ref f_b_is)))
    (l_b_is:K.lookup f_b_is = some ⟨oc_b_is,od_b_is,.func (PySem.W.fnOf "_law_b_is" "_law_b_is" (defArgs s_b_is) (defBody s_b_is) (defScope s_b_is) .none kV_b_is dc_b_is pm_b_is an_b_is cd_b_is ct_b_is),sl_b_is⟩)
    (c_b_is:PySem.W.codeIn K cd_b_is "_law_b_is" = true)
    (k_b_is:PySem.W.keepIn K (.ref f_b_is) = true)
    (a_b_number:PySem.W.nsIn K mainGlobals "_law_b_number" = some (some (.ref f_b_number)))
    (l_b_number:K.lookup f_b_number = some ⟨oc_b_number,od_b_number,.func (PySem.W.fnOf "_law_b_number" "_law_b_number" (defArgs s_b_number) (defBody s_b_number) (defScope s_b_number) .none kV_b_number dc_b_number pm_b_number an_b_number cd_b_number ct_b_number),sl_b_number⟩)
    (c_b_number:PySem.W.codeIn K cd_b_number "_law_b_number" = true)
    (k_b_number:PySem.W.keepIn K (.ref f_b_number) = true)
    (a_b_due:PySem.W.nsIn K mainGlobals "_law_b_due" = some (some (.ref f_b_due)))
    (l_b_due:K.lookup f_b_due = some ⟨oc_b_due,od_b_due,.func (PySem.W.fnOf "_law_b_due" "_law_b_due" (defArgs s_b_due) (defBody s_b_due) (defScope s_b_due) .none kV_b_due dc_b_due pm_b_due an_b_due cd_b_due ct_b_due),sl_b_due⟩)
    (c_b_due:PySem.W.codeIn K cd_b_due "_law_b_due" = true)
    (k_b_due:PySem.W.keepIn K (.ref f_b_due) = true)
    (a_b_size:PySem.W.nsIn K mainGlobals "_law_b_size" = some (some (.ref f_b_size)))
    (l_b_size:K.lookup f_b_size = some ⟨oc_b_size,od_b_size,.func (PySem.W.fnOf "_law_b_size" "_law_b_size" (defArgs s_b_size) (defBody s_b_size) (defScope s_b_size) .none kV_b_size dc_b_size pm_b_size an_b_size cd_b_size ct_b_size),sl_b_size⟩)
    (c_b_size:PySem.W.codeIn K cd_b_size "_law_b_size" = true)
    (k_b_size:PySem.W.keepIn K (.ref f_b_size) = true)
    (a_b_no_number:PySem.W.nsIn K mainGlobals "_law_b_no_number" = some (some (.ref f_b_no_number)))
    (l_b_no_number:K.lookup f_b_no_number = some ⟨oc_b_no_number,od_b_no_number,.func (PySem.W.fnOf "_law_b_no_number" "_law_b_no_number" (defArgs s_b_no_number) (defBody s_b_no_number) (defScope s_b_no_number) .none kV_b_no_number dc_b_no_number pm_b_no_number an_b_no_number cd_b_no_number ct_b_no_number),sl_b_no_number⟩)
    (c_b_no_number:PySem.W.codeIn K cd_b_no_number "_law_b_no_number" = true)
    (k_b_no_number:PySem.W.keepIn K (.ref f_b_no_number) = true)
    (a_b_thing:PySem.W.nsIn K mainGlobals "_law_b_thing" = some (some (.ref f_b_thing)))
    (l_b_thing:K.lookup f_b_thing = some ⟨oc_b_thing,od_b_thing,.func (PySem.W.fnOf "_law_b_thing" "_law_b_thing" (defArgs s_b_thing) (defBody s_b_thing) (defScope s_b_thing) .none kV_b_thing dc_b_thing pm_b_thing an_b_thing cd_b_thing ct_b_thing),sl_b_thing⟩)
    (c_b_thing:PySem.W.codeIn K cd_b_thing "_law_b_thing" = true)
    (k_b_thing:PySem.W.keepIn K (.ref f_b_thing) = true)
    (a_b_ones:PySem.W.nsIn K mainGlobals "_law_b_ones" = some (some (.ref f_b_ones)))
    (l_b_ones:K.lookup f_b_ones = some ⟨oc_b_ones,od_b_ones,.func (PySem.W.fnOf "_law_b_ones" "_law_b_ones" (defArgs s_b_ones) (defBody s_b_ones) (defScope s_b_ones) .none kV_b_ones dc_b_ones pm_b_ones an_b_ones cd_b_ones ct_b_ones),sl_b_ones⟩)
    (c_b_ones:PySem.W.codeIn K cd_b_ones "_law_b_ones" = true)
    (k_b_ones:PySem.W.keepIn K (.ref f_b_ones) = true)
    (a_b_are_ones:PySem.W.nsIn K mainGlobals "_law_b_are_ones" = some (some (.ref f_b_are_ones)))
    (l_b_are_ones:K.lookup f_b_are_ones = some ⟨oc_b_are_ones,od_b_are_ones,.func (PySem.W.fnOf "_law_b_are_ones" "_law_b_are_ones" (defArgs s_b_are_ones) (defBody s_b_are_ones) (defScope s_b_are_ones) .none kV_b_are_ones dc_b_are_ones pm_b_are_ones an_b_are_ones cd_b_are_ones ct_b_are_ones),sl_b_are_ones⟩)
    (c_b_are_ones:PySem.W.codeIn K cd_b_are_ones "_law_b_are_ones" = true)
    (k_b_are_ones:PySem.W.keepIn K (.ref f_b_are_ones) = true)
    (a_law:PySem.W.nsIn K mainGlobals "law" = some (some (.ref f_law)))
    (l_law:K.lookup f_law = some ⟨oc_law,od_law,.func (PySem.W.fnOf "law" "law" (defArgs s_law) (defBody s_law) (defScope s_law) .none kV_law dc_law pm_law an_law cd_law ct_law),sl_law⟩)
    (c_law:PySem.W.codeIn K cd_law "law" = true)
    (k_law:PySem.W.keepIn K (.ref f_law) = true)
    (a_World___init__:PySem.W.findIn K (.ref C_World) "__init__" = some (some (.ref f_World___init__)))
    (i_World___init__:PySem.W.isFn K (.ref f_World___init__) = true)
    (l_World___init__:K.lookup f_World___init__ = some ⟨oc_World___init__,od_World___init__,.func (PySem.W.fnOf "__init__" "World.__init__" (defArgs s_World___init__) (defBody s_World___init__) (defScope s_World___init__) .none kV_World___init__ dc_World___init__ pm_World___init__ an_World___init__ cd_World___init__ ct_World___init__),sl_World___init__⟩)
    (c_World___init__:PySem.W.codeIn K cd_World___init__ "World.__init__" = true)
    (k_World___init__:PySem.W.keepIn K (.ref f_World___init__) = true)
    (a_World_is_number:PySem.W.findIn K (.ref C_World) "is_number" = some (some (.ref f_World_is_number)))
    (i_World_is_number:PySem.W.isFn K (.ref f_World_is_number) = true)
    (l_World_is_number:K.lookup f_World_is_number = some ⟨oc_World_is_number,od_World_is_number,.func (PySem.W.fnOf "is_number" "World.is_number" (defArgs s_World_is_number) (defBody s_World_is_number) (defScope s_World_is_number) .none kV_World_is_number dc_World_is_number pm_World_is_number an_World_is_number cd_World_is_number ct_World_is_number),sl_World_is_number⟩)
    (c_World_is_number:PySem.W.codeIn K cd_World_is_number "World.is_number" = true)
    (k_World_is_number:PySem.W.keepIn K (.ref f_World_is_number) = true)
    (a_World_of:PySem.W.findIn K (.ref C_World) "of" = some (some (.ref f_World_of)))
    (i_World_of:PySem.W.isFn K (.ref f_World_of) = true)
    (l_World_of:K.lookup f_World_of = some ⟨oc_World_of,od_World_of,.func (PySem.W.fnOf "of" "World.of" (defArgs s_World_of) (defBody s_World_of) (defScope s_World_of) (.ref dT_World_of) kV_World_of dc_World_of pm_World_of an_World_of cd_World_of ct_World_of),sl_World_of⟩)
    (c_World_of:PySem.W.codeIn K cd_World_of "World.of" = true)
    (k_World_of:PySem.W.keepIn K (.ref f_World_of) = true)
    (ld_World_of:K.lookup dT_World_of = some ⟨oc2_World_of,od2_World_of,.seq #[.int 1 tk_World_of] n2_World_of,sl2_World_of⟩)
    (pg_World:PySem.W.plainGet K C_World Str.empty = true)
    (hd_World:PySem.W.hasDictIn K C_World = true)
    (po_World:PySem.W.plainOver K C_World = true)
    (sa_World:PySem.W.findIn K (.ref C_World) "__setattr__" = some (some (.builtin "object.__setattr__")))
    (mk_World:PySem.W.makesIn K C_World = true)
    (kc_World:PySem.W.keepIn K (.ref C_World) = true)
    (n_World_prime:PySem.W.findIn K (.ref C_World) "prime" = some none)
    (z_len:PySem.W.nsIn K mainGlobals "len" = some none)
    (z_isinstance:PySem.W.nsIn K mainGlobals "isinstance" = some none)
    (z_int:PySem.W.nsIn K mainGlobals "int" = some none)
    (z_bool:PySem.W.nsIn K mainGlobals "bool" = some none)
    (z_tuple:PySem.W.nsIn K mainGlobals "tuple" = some none)
    (z_list:PySem.W.nsIn K mainGlobals "list" = some none)
    (z_range:PySem.W.nsIn K mainGlobals "range" = some none)
    (z_abs:PySem.W.nsIn K mainGlobals "abs" = some none)
    (z_all:PySem.W.nsIn K mainGlobals "all" = some none)
    (a_GREATEST_PRIME:PySem.W.nsIn K mainGlobals "GREATEST_PRIME" = some (some (.int 997 tk_GREATEST_PRIME)))
    (a_LONG:PySem.W.nsIn K mainGlobals "LONG" = some (some (.int 2048 tk_LONG)))
    (a_MOST:PySem.W.nsIn K mainGlobals "MOST" = some (some (.int 40 tk_MOST)))
    (e_x_NoWorld:PySem.W.excIn K C_NoWorld [.type "ValueError",.type "Exception",.type "BaseException",.type "object"] "ValueError.__new__" = true)
    (e_x_NoOver:PySem.W.excIn K C_NoOver [.type "ValueError",.type "Exception",.type "BaseException",.type "object"] "ValueError.__new__" = true)
    (e_x_WrightError:PySem.W.excIn K C_WrightError [.type "ValueError",.type "Exception",.type "BaseException",.type "object"] "ValueError.__new__" = true)
    : ∃ t:Adr,Txt K mg t:=by
  refine ⟨⟨f_is_bounded_list,PySem.W.fnOf "is_bounded_list" "is_bounded_list" (defArgs s_is_bounded_list) (defBody s_is_bounded_list) (defScope s_is_bounded_list) .none kV_is_bounded_list dc_is_bounded_list pm_is_bounded_list an_is_bounded_list cd_is_bounded_list ct_is_bounded_list,f_is_table_row,PySem.W.fnOf "is_table_row" "is_table_row" (defArgs s_is_table_row) (defBody s_is_table_row) (defScope s_is_table_row) .none kV_is_table_row dc_is_table_row pm_is_table_row an_is_table_row cd_is_table_row ct_is_table_row,f_is_table,PySem.W.fnOf "is_table" "is_table" (defArgs s_is_table) (defBody s_is_table) (defScope s_is_table) .none kV_is_table dc_is_table pm_is_table an_is_table cd_is_table ct_is_table,f_one_table_row,PySem.W.fnOf "one_table_row" "one_table_row" (defArgs s_one_table_row) (defBody s_one_table_row) (defScope s_one_table_row) .none kV_one_table_row dc_one_table_row pm_one_table_row an_one_table_row cd_one_table_row ct_one_table_row,f_one_table,PySem.W.fnOf "one_table" "one_table" (defArgs s_one_table) (defBody s_one_table) (defScope s_one_table) .none kV_one_table dc_one_table pm_one_table an_one_table cd_one_table ct_one_table,f_is_whole,PySem.W.fnOf "is_whole" "is_whole" (defArgs s_is_whole) (defBody s_is_whole) (defScope s_is_whole) .none kV_is_whole dc_is_whole pm_is_whole an_is_whole cd_is_whole ct_is_whole,f_common_divisor,PySem.W.fnOf "common_divisor" "common_divisor" (defArgs s_common_divisor) (defBody s_common_divisor) (defScope s_common_divisor) .none kV_common_divisor dc_common_divisor pm_common_divisor an_common_divisor cd_common_divisor ct_common_divisor,f_is_prime,PySem.W.fnOf "is_prime" "is_prime" (defArgs s_is_prime) (defBody s_is_prime) (defScope s_is_prime) .none kV_is_prime dc_is_prime pm_is_prime an_is_prime cd_is_prime ct_is_prime,f_is_ratio,PySem.W.fnOf "is_ratio" "is_ratio" (defArgs s_is_ratio) (defBody s_is_ratio) (defScope s_is_ratio) .none kV_is_ratio dc_is_ratio pm_is_ratio an_is_ratio cd_is_ratio ct_is_ratio,f_ratio,PySem.W.fnOf "ratio" "ratio" (defArgs s_ratio) (defBody s_ratio) (defScope s_ratio) .none kV_ratio dc_ratio pm_ratio an_ratio cd_ratio ct_ratio,f_is_remainder,PySem.W.fnOf "is_remainder" "is_remainder" (defArgs s_is_remainder) (defBody s_is_remainder) (defScope s_is_remainder) .none kV_is_remainder dc_is_remainder pm_is_remainder an_is_remainder cd_is_remainder ct_is_remainder,f_remainder_back,PySem.W.fnOf "remainder_back" "remainder_back" (defArgs s_remainder_back) (defBody s_remainder_back) (defScope s_remainder_back) .none kV_remainder_back dc_remainder_back pm_remainder_back an_remainder_back cd_remainder_back ct_remainder_back,f_remainder_over,PySem.W.fnOf "remainder_over" "remainder_over" (defArgs s_remainder_over) (defBody s_remainder_over) (defScope s_remainder_over) .none kV_remainder_over dc_remainder_over pm_remainder_over an_remainder_over cd_remainder_over ct_remainder_over,f_is_fractions,PySem.W.fnOf "is_fractions" "is_fractions" (defArgs s_is_fractions) (defBody s_is_fractions) (defScope s_is_fractions) .none kV_is_fractions dc_is_fractions pm_is_fractions an_is_fractions cd_is_fractions ct_is_fractions,f_is_wheel,PySem.W.fnOf "is_wheel" "is_wheel" (defArgs s_is_wheel) (defBody s_is_wheel) (defScope s_is_wheel) .none kV_is_wheel dc_is_wheel pm_is_wheel an_is_wheel cd_is_wheel ct_is_wheel,f_b_draw,PySem.W.fnOf "_law_b_draw" "_law_b_draw" (defArgs s_b_draw) (defBody s_b_draw) (defScope s_b_draw) .none kV_b_draw dc_b_draw pm_b_draw an_b_draw cd_b_draw ct_b_draw,f_b_low,PySem.W.fnOf "_law_b_low" "_law_b_low" (defArgs s_b_low) (defBody s_b_low) (defScope s_b_low) .none kV_b_low dc_b_low pm_b_low an_b_low cd_b_low ct_b_low,f_b_prime,PySem.W.fnOf "_law_b_prime" "_law_b_prime" (defArgs s_b_prime) (defBody s_b_prime) (defScope s_b_prime) .none kV_b_prime dc_b_prime pm_b_prime an_b_prime cd_b_prime ct_b_prime,f_b_wheel,PySem.W.fnOf "_law_b_wheel" "_law_b_wheel" (defArgs s_b_wheel) (defBody s_b_wheel) (defScope s_b_wheel) .none kV_b_wheel dc_b_wheel pm_b_wheel an_b_wheel cd_b_wheel ct_b_wheel,f_b_world,PySem.W.fnOf "_law_b_world" "_law_b_world" (defArgs s_b_world) (defBody s_b_world) (defScope s_b_world) .none kV_b_world dc_b_world pm_b_world an_b_world cd_b_world ct_b_world,f_b_whole,PySem.W.fnOf "_law_b_whole" "_law_b_whole" (defArgs s_b_whole) (defBody s_b_whole) (defScope s_b_whole) .none kV_b_whole dc_b_whole pm_b_whole an_b_whole cd_b_whole ct_b_whole,f_b_is,PySem.W.fnOf "_law_b_is" "_law_b_is" (defArgs s_b_is) (defBody s_b_is) (defScope s_b_is) .none kV_b_is dc_b_is pm_b_is an_b_is cd_b_is ct_b_is,f_b_number,PySem.W.fnOf "_law_b_number" "_law_b_number" (defArgs s_b_number) (defBody s_b_number) (defScope s_b_number) .none kV_b_number dc_b_number pm_b_number an_b_number cd_b_number ct_b_number,f_b_due,PySem.W.fnOf "_law_b_due" "_law_b_due" (defArgs s_b_due) (defBody s_b_due) (defScope s_b_due) .none kV_b_due dc_b_due pm_b_due an_b_due cd_b_due ct_b_due,f_b_size,PySem.W.fnOf "_law_b_size" "_law_b_size" (defArgs s_b_size) (defBody s_b_size) (defScope s_b_size) .none kV_b_size dc_b_size pm_b_size an_b_size cd_b_size ct_b_size,f_b_no_number,PySem.W.fnOf "_law_b_no_number" "_law_b_no_number" (defArgs s_b_no_number) (defBody s_b_no_number) (defScope s_b_no_number) .none kV_b_no_number dc_b_no_number pm_b_no_number an_b_no_number cd_b_no_number ct_b_no_number,f_b_thing,PySem.W.fnOf "_law_b_thing" "_law_b_thing" (defArgs s_b_thing) (defBody s_b_thing) (defScope s_b_thing) .none kV_b_thing dc_b_thing pm_b_thing an_b_thing cd_b_thing ct_b_thing,f_b_ones,PySem.W.fnOf "_law_b_ones" "_law_b_ones" (defArgs s_b_ones) (defBody s_b_ones) (defScope s_b_ones) .none kV_b_ones dc_b_ones pm_b_ones an_b_ones cd_b_ones ct_b_ones,f_b_are_ones,PySem.W.fnOf "_law_b_are_ones" "_law_b_are_ones" (defArgs s_b_are_ones) (defBody s_b_are_ones) (defScope s_b_are_ones) .none kV_b_are_ones dc_b_are_ones pm_b_are_ones an_b_are_ones cd_b_are_ones ct_b_are_ones,f_law,PySem.W.fnOf "law" "law" (defArgs s_law) (defBody s_law) (defScope s_law) .none kV_law dc_law pm_law an_law cd_law ct_law,f_World___init__,PySem.W.fnOf "__init__" "World.__init__" (defArgs s_World___init__) (defBody s_World___init__) (defScope s_World___init__) .none kV_World___init__ dc_World___init__ pm_World___init__ an_World___init__ cd_World___init__ ct_World___init__,f_World_is_number,PySem.W.fnOf "is_number" "World.is_number" (defArgs s_World_is_number) (defBody s_World_is_number) (defScope s_World_is_number) .none kV_World_is_number dc_World_is_number pm_World_is_number an_World_is_number cd_World_is_number ct_World_is_number,f_World_of,PySem.W.fnOf "of" "World.of" (defArgs s_World_of) (defBody s_World_of) (defScope s_World_of) (.ref dT_World_of) kV_World_of dc_World_of pm_World_of an_World_of cd_World_of ct_World_of,C_World,C_NoWorld,C_NoOver,C_WrightError⟩,?_⟩
  exact {
    F_is_bounded_list:=fun_mk (st:=s_is_bounded_list) l_is_bounded_list c_is_bounded_list k_is_bounded_list
    b_is_bounded_list:=(fun_mk (st:=s_is_bounded_list) l_is_bounded_list c_is_bounded_list k_is_bounded_list).binds (ps:=["thing"]) fun _ _ _ _ _ _ us hl=>match us,hl with | [_],_=>rfl
    mg_is_bounded_list:=PySem.W.mg_of X G a_is_bounded_list
    F_is_table_row:=fun_mk (st:=s_is_table_row) l_is_table_row c_is_table_row k_is_table_row
    b_is_table_row:=(fun_mk (st:=s_is_table_row) l_is_table_row c_is_table_row k_is_table_row).binds (ps:=["world","thing"]) fun _ _ _ _ _ _ us hl=>match us,hl with | [_,_],_=>rfl
    mg_is_table_row:=PySem.W.mg_of X G a_is_table_row
    F_is_table:=fun_mk (st:=s_is_table) l_is_table c_is_table k_is_table
    b_is_table:=(fun_mk (st:=s_is_table) l_is_table c_is_table k_is_table).binds (ps:=["world","thing"]) fun _ _ _ _ _ _ us hl=>match us,hl with | [_,_],_=>rfl
    mg_is_table:=PySem.W.mg_of X G a_is_table
    F_one_table_row:=fun_mk (st:=s_one_table_row) l_one_table_row c_one_table_row k_one_table_row
    b_one_table_row:=(fun_mk (st:=s_one_table_row) l_one_table_row c_one_table_row k_one_table_row).binds (ps:=["world","n","place"]) fun _ _ _ _ _ _ us hl=>match us,hl with | [_,_,_],_=>rfl
    mg_one_table_row:=PySem.W.mg_of X G a_one_table_row
    F_one_table:=fun_mk (st:=s_one_table) l_one_table c_one_table k_one_table
    b_one_table:=(fun_mk (st:=s_one_table) l_one_table c_one_table k_one_table).binds (ps:=["world","n"]) fun _ _ _ _ _ _ us hl=>match us,hl with | [_,_],_=>rfl
    mg_one_table:=PySem.W.mg_of X G a_one_table
    F_is_whole:=fun_mk (st:=s_is_whole) l_is_whole c_is_whole k_is_whole
    b_is_whole:=(fun_mk (st:=s_is_whole) l_is_whole c_is_whole k_is_whole).binds (ps:=["thing"]) fun _ _ _ _ _ _ us hl=>match us,hl with | [_],_=>rfl
    mg_is_whole:=PySem.W.mg_of X G a_is_whole
    F_common_divisor:=fun_mk (st:=s_common_divisor) l_common_divisor c_common_divisor k_common_divisor
    b_common_divisor:=(fun_mk (st:=s_common_divisor) l_common_divisor c_common_divisor k_common_divisor).binds (ps:=["one","other"]) fun _ _ _ _ _ _ us hl=>match us,hl with | [_,_],_=>rfl
    mg_common_divisor:=PySem.W.mg_of X G a_common_divisor
    F_is_prime:=fun_mk (st:=s_is_prime) l_is_prime c_is_prime k_is_prime
    b_is_prime:=(fun_mk (st:=s_is_prime) l_is_prime c_is_prime k_is_prime).binds (ps:=["number"]) fun _ _ _ _ _ _ us hl=>match us,hl with | [_],_=>rfl
    mg_is_prime:=PySem.W.mg_of X G a_is_prime
    F_is_ratio:=fun_mk (st:=s_is_ratio) l_is_ratio c_is_ratio k_is_ratio
    b_is_ratio:=(fun_mk (st:=s_is_ratio) l_is_ratio c_is_ratio k_is_ratio).binds (ps:=["thing"]) fun _ _ _ _ _ _ us hl=>match us,hl with | [_],_=>rfl
    mg_is_ratio:=PySem.W.mg_of X G a_is_ratio
    F_ratio:=fun_mk (st:=s_ratio) l_ratio c_ratio k_ratio
    b_ratio:=(fun_mk (st:=s_ratio) l_ratio c_ratio k_ratio).binds (ps:=["top","bottom"]) fun _ _ _ _ _ _ us hl=>match us,hl with | [_,_],_=>rfl
    mg_ratio:=PySem.W.mg_of X G a_ratio
    F_is_remainder:=fun_mk (st:=s_is_remainder) l_is_remainder c_is_remainder k_is_remainder
    b_is_remainder:=(fun_mk (st:=s_is_remainder) l_is_remainder c_is_remainder k_is_remainder).binds (ps:=["prime","thing"]) fun _ _ _ _ _ _ us hl=>match us,hl with | [_,_],_=>rfl
    mg_is_remainder:=PySem.W.mg_of X G a_is_remainder
    F_remainder_back:=fun_mk (st:=s_remainder_back) l_remainder_back c_remainder_back k_remainder_back
    b_remainder_back:=(fun_mk (st:=s_remainder_back) l_remainder_back c_remainder_back k_remainder_back).binds (ps:=["prime","number"]) fun _ _ _ _ _ _ us hl=>match us,hl with | [_,_],_=>rfl
    mg_remainder_back:=PySem.W.mg_of X G a_remainder_back
    F_remainder_over:=fun_mk (st:=s_remainder_over) l_remainder_over c_remainder_over k_remainder_over
    b_remainder_over:=(fun_mk (st:=s_remainder_over) l_remainder_over c_remainder_over k_remainder_over).binds (ps:=["prime","a","b"]) fun _ _ _ _ _ _ us hl=>match us,hl with | [_,_,_],_=>rfl
    mg_remainder_over:=PySem.W.mg_of X G a_remainder_over
    F_is_fractions:=fun_mk (st:=s_is_fractions) l_is_fractions c_is_fractions k_is_fractions
    b_is_fractions:=(fun_mk (st:=s_is_fractions) l_is_fractions c_is_fractions k_is_fractions).binds (ps:=["told"]) fun _ _ _ _ _ _ us hl=>match us,hl with | [_],_=>rfl
    mg_is_fractions:=PySem.W.mg_of X G a_is_fractions
    F_is_wheel:=fun_mk (st:=s_is_wheel) l_is_wheel c_is_wheel k_is_wheel
    b_is_wheel:=(fun_mk (st:=s_is_wheel) l_is_wheel c_is_wheel k_is_wheel).binds (ps:=["told"]) fun _ _ _ _ _ _ us hl=>match us,hl with | [_],_=>rfl
    mg_is_wheel:=PySem.W.mg_of X G a_is_wheel
    F_b_draw:=fun_mk (st:=s_b_draw) l_b_draw c_b_draw k_b_draw
    b_b_draw:=(fun_mk (st:=s_b_draw) l_b_draw c_b_draw k_b_draw).binds (ps:=["script","k"]) fun _ _ _ _ _ _ us hl=>match us,hl with | [_,_],_=>rfl
    mg_b_draw:=PySem.W.mg_of X G a_b_draw
    F_b_low:=fun_mk (st:=s_b_low) l_b_low c_b_low k_b_low
    b_b_low:=(fun_mk (st:=s_b_low) l_b_low c_b_low k_b_low).binds (ps:=["top","bottom"]) fun _ _ _ _ _ _ us hl=>match us,hl with | [_,_],_=>rfl
    mg_b_low:=PySem.W.mg_of X G a_b_low
    F_b_prime:=fun_mk (st:=s_b_prime) l_b_prime c_b_prime k_b_prime
    b_b_prime:=(fun_mk (st:=s_b_prime) l_b_prime c_b_prime k_b_prime).binds (ps:=["cell"]) fun _ _ _ _ _ _ us hl=>match us,hl with | [_],_=>rfl
    mg_b_prime:=PySem.W.mg_of X G a_b_prime
    F_b_wheel:=fun_mk (st:=s_b_wheel) l_b_wheel c_b_wheel k_b_wheel
    b_b_wheel:=(fun_mk (st:=s_b_wheel) l_b_wheel c_b_wheel k_b_wheel).binds (ps:=["draw"]) fun _ _ _ _ _ _ us hl=>match us,hl with | [_],_=>rfl
    mg_b_wheel:=PySem.W.mg_of X G a_b_wheel
    F_b_world:=fun_mk (st:=s_b_world) l_b_world c_b_world k_b_world
    b_b_world:=(fun_mk (st:=s_b_world) l_b_world c_b_world k_b_world).binds (ps:=["p"]) fun _ _ _ _ _ _ us hl=>match us,hl with | [_],_=>rfl
    mg_b_world:=PySem.W.mg_of X G a_b_world
    F_b_whole:=fun_mk (st:=s_b_whole) l_b_whole c_b_whole k_b_whole
    b_b_whole:=(fun_mk (st:=s_b_whole) l_b_whole c_b_whole k_b_whole).binds (ps:=["thing"]) fun _ _ _ _ _ _ us hl=>match us,hl with | [_],_=>rfl
    mg_b_whole:=PySem.W.mg_of X G a_b_whole
    F_b_is:=fun_mk (st:=s_b_is) l_b_is c_b_is k_b_is
    b_b_is:=(fun_mk (st:=s_b_is) l_b_is c_b_is k_b_is).binds (ps:=["p","thing"]) fun _ _ _ _ _ _ us hl=>match us,hl with | [_,_],_=>rfl
    mg_b_is:=PySem.W.mg_of X G a_b_is
    F_b_number:=fun_mk (st:=s_b_number) l_b_number c_b_number k_b_number
    b_b_number:=(fun_mk (st:=s_b_number) l_b_number c_b_number k_b_number).binds (ps:=["p","draw"]) fun _ _ _ _ _ _ us hl=>match us,hl with | [_,_],_=>rfl
    mg_b_number:=PySem.W.mg_of X G a_b_number
    F_b_due:=fun_mk (st:=s_b_due) l_b_due c_b_due k_b_due
    b_b_due:=(fun_mk (st:=s_b_due) l_b_due c_b_due k_b_due).binds (ps:=["p","thing"]) fun _ _ _ _ _ _ us hl=>match us,hl with | [_,_],_=>rfl
    mg_b_due:=PySem.W.mg_of X G a_b_due
    F_b_size:=fun_mk (st:=s_b_size) l_b_size c_b_size k_b_size
    b_b_size:=(fun_mk (st:=s_b_size) l_b_size c_b_size k_b_size).binds (ps:=["draw"]) fun _ _ _ _ _ _ us hl=>match us,hl with | [_],_=>rfl
    mg_b_size:=PySem.W.mg_of X G a_b_size
    F_b_no_number:=fun_mk (st:=s_b_no_number) l_b_no_number c_b_no_number k_b_no_number
    b_b_no_number:=(fun_mk (st:=s_b_no_number) l_b_no_number c_b_no_number k_b_no_number).binds (ps:=["p","rest"]) fun _ _ _ _ _ _ us hl=>match us,hl with | [_,_],_=>rfl
    mg_b_no_number:=PySem.W.mg_of X G a_b_no_number
    F_b_thing:=fun_mk (st:=s_b_thing) l_b_thing c_b_thing k_b_thing
    b_b_thing:=(fun_mk (st:=s_b_thing) l_b_thing c_b_thing k_b_thing).binds (ps:=["script","p"]) fun _ _ _ _ _ _ us hl=>match us,hl with | [_,_],_=>rfl
    mg_b_thing:=PySem.W.mg_of X G a_b_thing
    F_b_ones:=fun_mk (st:=s_b_ones) l_b_ones c_b_ones k_b_ones
    b_b_ones:=(fun_mk (st:=s_b_ones) l_b_ones c_b_ones k_b_ones).binds (ps:=["p","n"]) fun _ _ _ _ _ _ us hl=>match us,hl with | [_,_],_=>rfl
    mg_b_ones:=PySem.W.mg_of X G a_b_ones
    F_b_are_ones:=fun_mk (st:=s_b_are_ones) l_b_are_ones c_b_are_ones k_b_are_ones
    b_b_are_ones:=(fun_mk (st:=s_b_are_ones) l_b_are_ones c_b_are_ones k_b_are_ones).binds (ps:=["p","found","n"]) fun _ _ _ _ _ _ us hl=>match us,hl with | [_,_,_],_=>rfl
    mg_b_are_ones:=PySem.W.mg_of X G a_b_are_ones
    F_law:=fun_mk (st:=s_law) l_law c_law k_law
    b_law:=(fun_mk (st:=s_law) l_law c_law k_law).binds (ps:=["script"]) fun _ _ _ _ _ _ us hl=>match us,hl with | [_],_=>rfl
    mg_law:=PySem.W.mg_of X G a_law
    F_World___init__:=fun_mk (st:=s_World___init__) l_World___init__ c_World___init__ k_World___init__
    b_World___init__:=(fun_mk (st:=s_World___init__) l_World___init__ c_World___init__ k_World___init__).binds (ps:=["self","told"]) fun _ _ _ _ _ _ us hl=>match us,hl with | [_,_],_=>rfl
    M_World:=⟨mk_World,a_World___init__,i_World___init__,kc_World⟩
    F_World_is_number:=fun_mk (st:=s_World_is_number) l_World_is_number c_World_is_number k_World_is_number
    b_World_is_number:=(fun_mk (st:=s_World_is_number) l_World_is_number c_World_is_number k_World_is_number).binds (ps:=["self","thing"]) fun _ _ _ _ _ _ us hl=>match us,hl with | [_,_],_=>rfl
    m_World_is_number:=⟨a_World_is_number,i_World_is_number,k_World_is_number⟩
    F_World_of:=(fund_mk (st:=s_World_of) (i:=1) l_World_of c_World_of k_World_of ld_World_of)
    b_World_of:=FunD.binds (ps:=["self","top","bottom"]) (fund_mk (st:=s_World_of) (i:=1) l_World_of c_World_of k_World_of ld_World_of) fun s dT kV doc pm an cdv ct tk o n us ho hd hl=>match us,hl with | [_,_,_],_=>.of_defaults rfl ho hd rfl rfl
    b1_World_of:=FunD.binds1 (ps:=["self","top","bottom"]) (fund_mk (st:=s_World_of) (i:=1) l_World_of c_World_of k_World_of ld_World_of) fun s dT kV doc pm an cdv ct tk o n us ho hd hl=>match us,hl with | [_,_],_=>.of_defaults rfl ho hd rfl rfl
    bk_World_of:=FunD.bindsK (ps:=["self","top","bottom"]) (y:="bottom") (fund_mk (st:=s_World_of) (i:=1) l_World_of c_World_of k_World_of ld_World_of) fun s dT kV doc pm an cdv ct tk o n us ws ho hd hw hl=>match ws,us,hw,hl with | [_],[_,_],_,_=>.of_defaults rfl ho hd rfl rfl
    m_World_of:=⟨a_World_of,i_World_of,k_World_of⟩
    cl_World:=⟨pg_World,hd_World,po_World,sa_World⟩
    mg_World:=PySem.W.mg_of X G aC_World
    na_World_prime:=n_World_prime
    mg_NoWorld:=PySem.W.mg_of X G aC_NoWorld
    mg_NoOver:=PySem.W.mg_of X G aC_NoOver
    mg_WrightError:=PySem.W.mg_of X G aC_WrightError
    n_len:=PySem.W.mg_none_of X G z_len
    n_isinstance:=PySem.W.mg_none_of X G z_isinstance
    n_int:=PySem.W.mg_none_of X G z_int
    n_bool:=PySem.W.mg_none_of X G z_bool
    n_tuple:=PySem.W.mg_none_of X G z_tuple
    n_list:=PySem.W.mg_none_of X G z_list
    n_range:=PySem.W.mg_none_of X G z_range
    n_abs:=PySem.W.mg_none_of X G z_abs
    n_all:=PySem.W.mg_none_of X G z_all
    mg_GREATEST_PRIME:=⟨_,PySem.W.mg_of X G a_GREATEST_PRIME,_,rfl⟩
    mg_LONG:=⟨_,PySem.W.mg_of X G a_LONG,_,rfl⟩
    mg_MOST:=⟨_,PySem.W.mg_of X G a_MOST,_,rfl⟩
    x_NoWorld:=e_x_NoWorld
    x_NoOver:=e_x_NoOver
    x_WrightError:=e_x_WrightError
  }
end My
def PySem.W.Fast.tw15944269770256951194:Unit:=()
def PySem.W.Fast.tw9646162324123864910:Unit:=()
def PySem.W.Fast.tw18316012103085695805:Unit:=()
def PySem.W.Fast.tw14817364280283818054:Unit:=()
def PySem.W.Fast.tw13700880423904902587:Unit:=()
def PySem.W.Fast.tw9177677771331722502:Unit:=()
def PySem.W.Fast.tw15874530323917835502:Unit:=()
def PySem.W.Fast.tw1514251245492212256:Unit:=()
def PySem.W.Fast.tw13013778966574462619:Unit:=()
def PySem.W.Fast.tw18052383353911883564:Unit:=()
def PySem.W.Fast.tw17287045668591052650:Unit:=()
def PySem.W.Fast.tw4754251379795170690:Unit:=()
def PySem.W.Fast.tw6608577950023104541:Unit:=()
def PySem.W.Fast.tw5051467611561247517:Unit:=()
def PySem.W.Fast.tw17244670237698259620:Unit:=()
def PySem.W.Fast.tw15370001954877713545:Unit:=()
def PySem.W.Fast.tw16704405608957407210:Unit:=()
def PySem.W.Fast.tw6917891927307948447:Unit:=()
def PySem.W.Fast.tw1222946887658735457:Unit:=()
def PySem.W.Fast.tw6534591207632367275:Unit:=()
def PySem.W.Fast.tw15708307949232172060:Unit:=()
def PySem.W.Fast.tw994656083154843041:Unit:=()
def PySem.W.Fast.tw8697952796715096625:Unit:=()
def PySem.W.Fast.tw1921136284373495262:Unit:=()
def PySem.W.Fast.tw9718154226927203147:Unit:=()
def PySem.W.Fast.tw2387475371180675030:Unit:=()
open PySem PySem.W PyProof.Rows
set_option maxRecDepth 100000 in
set_option maxHeartbeats 0 in
theorem PySem.Challenge.cw_bandwright_k07_tables_known_holds : PySem.Challenge.rw_bandwright_k07_tables_known.Holds := by
  w_on; o_law; k_head; (case hw=>w_witness2)
  k_fill
  refine My.walk (l:=PySem.Challenge.rw_bandwright_k07_tables_known) rfl rfl (fun w h Y=>PySem.W.kIn_of Y) ?F
  case F=>
    intro w mg fa h KX G hmg
    have T:∃ t,My.Txt (L2.KOf KX) mg t:=by
      dsimp only [L2.KOf]
      refine' My.txt_mk KX G ?aC_World ?aC_NoWorld ?aC_NoOver ?aC_WrightError ?a_is_bounded_list ?l_is_bounded_list ?c_is_bounded_list ?k_is_bounded_list ?a_is_table_row ?l_is_table_row ?c_is_table_row ?k_is_table_row ?a_is_table ?l_is_table ?c_is_table ?k_is_table ?a_one_table_row ?l_one_table_row ?c_one_table_row ?k_one_table_row ?a_one_table ?l_one_table ?c_one_table ?k_one_table ?a_is_whole ?l_is_whole ?c_is_whole ?k_is_whole ?a_common_divisor ?l_common_divisor ?c_common_divisor ?k_common_divisor ?a_is_prime ?l_is_prime ?c_is_prime ?k_is_prime ?a_is_ratio ?l_is_ratio ?c_is_ratio ?k_is_ratio ?a_ratio ?l_ratio ?c_ratio ?k_ratio ?a_is_remainder ?l_is_remainder ?c_is_remainder ?k_is_remainder ?a_remainder_back ?l_remainder_back ?c_remainder_back ?k_remainder_back ?a_remainder_over ?l_remainder_over ?c_remainder_over ?k_remainder_over ?a_is_fractions ?l_is_fractions ?c_is_fractions ?k_is_fractions ?a_is_wheel ?l_is_wheel ?c_is_wheel ?k_is_wheel ?a_b_draw ?l_b_draw ?c_b_draw ?k_b_draw ?a_b_low ?l_b_low ?c_b_low ?k_b_low ?a_b_prime ?l_b_prime ?c_b_prime ?k_b_prime ?a_b_wheel ?l_b_wheel ?c_b_wheel ?k_b_wheel ?a_b_world ?l_b_world ?c_b_world ?k_b_world ?a_b_whole ?l_b_whole ?c_b_whole ?k_b_whole ?a_b_is ?l_b_is ?c_b_is ?k_b_is ?a_b_number ?l_b_number ?c_b_number ?k_b_number ?a_b_due ?l_b_due ?c_b_due ?k_b_due ?a_b_size ?l_b_size ?c_b_size ?k_b_size ?a_b_no_number ?l_b_no_number ?c_b_no_number ?k_b_no_number ?a_b_thing ?l_b_thing ?c_b_thing ?k_b_thing ?a_b_ones ?l_b_ones ?c_b_ones ?k_b_ones ?a_b_are_ones ?l_b_are_ones ?c_b_are_ones ?k_b_are_ones ?a_law ?l_law ?c_law ?k_law ?a_World___init__ ?i_World___init__ ?l_World___init__ ?c_World___init__ ?k_World___init__ ?a_World_is_number ?i_World_is_number ?l_World_is_number ?c_World_is_number ?k_World_is_number ?a_World_of ?i_World_of ?l_World_of ?c_World_of ?k_World_of ?ld_World_of ?pg_World ?hd_World ?po_World ?sa_World ?mk_World ?kc_World ?n_World_prime ?z_len ?z_isinstance ?z_int ?z_bool ?z_tuple ?z_list ?z_range ?z_abs ?z_all ?a_GREATEST_PRIME ?a_LONG ?a_MOST ?e_x_NoWorld ?e_x_NoOver ?e_x_WrightError
      (case aC_World=>k_is)
      (case aC_NoWorld=>k_is)
      (case aC_NoOver=>k_is)
      (case aC_WrightError=>k_is)
      (case a_is_bounded_list=>k_is)
      (case l_is_bounded_list=>k_is)
      (case c_is_bounded_list=>k_is)
      (case k_is_bounded_list=>k_is)
      (case a_is_table_row=>k_is)
      (case l_is_table_row=>k_is)
      (case c_is_table_row=>k_is)
      (case k_is_table_row=>k_is)
      (case a_is_table=>k_is)
      (case l_is_table=>k_is)
      (case c_is_table=>k_is)
      (case k_is_table=>k_is)
      (case a_one_table_row=>k_is)
      (case l_one_table_row=>k_is)
      (case c_one_table_row=>k_is)
      (case k_one_table_row=>k_is)
      (case a_one_table=>k_is)
      (case l_one_table=>k_is)
      (case c_one_table=>k_is)
      (case k_one_table=>k_is)
      (case a_is_whole=>k_is)
      (case l_is_whole=>k_is)
      (case c_is_whole=>k_is)
      (case k_is_whole=>k_is)
      (case a_common_divisor=>k_is)
      (case l_common_divisor=>k_is)
      (case c_common_divisor=>k_is)
      (case k_common_divisor=>k_is)
      (case a_is_prime=>k_is)
      (case l_is_prime=>k_is)
      (case c_is_prime=>k_is)
      (case k_is_prime=>k_is)
      (case a_is_ratio=>k_is)
      (case l_is_ratio=>k_is)
      (case c_is_ratio=>k_is)
      (case k_is_ratio=>k_is)
      (case a_ratio=>k_is)
      (case l_ratio=>k_is)
      (case c_ratio=>k_is)
      (case k_ratio=>k_is)
      (case a_is_remainder=>k_is)
      (case l_is_remainder=>k_is)
      (case c_is_remainder=>k_is)
      (case k_is_remainder=>k_is)
      (case a_remainder_back=>k_is)
      (case l_remainder_back=>k_is)
      (case c_remainder_back=>k_is)
      (case k_remainder_back=>k_is)
      (case a_remainder_over=>k_is)
      (case l_remainder_over=>k_is)
      (case c_remainder_over=>k_is)
      (case k_remainder_over=>k_is)
      (case a_is_fractions=>k_is)
      (case l_is_fractions=>k_is)
      (case c_is_fractions=>k_is)
      (case k_is_fractions=>k_is)
      (case a_is_wheel=>k_is)
      (case l_is_wheel=>k_is)
      (case c_is_wheel=>k_is)
      (case k_is_wheel=>k_is)
      (case a_b_draw=>k_is)
      (case l_b_draw=>k_is)
      (case c_b_draw=>k_is)
      (case k_b_draw=>k_is)
      (case a_b_low=>k_is)
      (case l_b_low=>k_is)
      (case c_b_low=>k_is)
      (case k_b_low=>k_is)
      (case a_b_prime=>k_is)
      (case l_b_prime=>k_is)
      (case c_b_prime=>k_is)
      (case k_b_prime=>k_is)
      (case a_b_wheel=>k_is)
      (case l_b_wheel=>k_is)
      (case c_b_wheel=>k_is)
      (case k_b_wheel=>k_is)
      (case a_b_world=>k_is)
      (case l_b_world=>k_is)
      (case c_b_world=>k_is)
      (case k_b_world=>k_is)
      (case a_b_whole=>k_is)
      (case l_b_whole=>k_is)
      (case c_b_whole=>k_is)
      (case k_b_whole=>k_is)
      (case a_b_is=>k_is)
      (case l_b_is=>k_is)
      (case c_b_is=>k_is)
      (case k_b_is=>k_is)
      (case a_b_number=>k_is)
      (case l_b_number=>k_is)
      (case c_b_number=>k_is)
      (case k_b_number=>k_is)
      (case a_b_due=>k_is)
      (case l_b_due=>k_is)
      (case c_b_due=>k_is)
      (case k_b_due=>k_is)
      (case a_b_size=>k_is)
      (case l_b_size=>k_is)
      (case c_b_size=>k_is)
      (case k_b_size=>k_is)
      (case a_b_no_number=>k_is)
      (case l_b_no_number=>k_is)
      (case c_b_no_number=>k_is)
      (case k_b_no_number=>k_is)
      (case a_b_thing=>k_is)
      (case l_b_thing=>k_is)
      (case c_b_thing=>k_is)
      (case k_b_thing=>k_is)
      (case a_b_ones=>k_is)
      (case l_b_ones=>k_is)
      (case c_b_ones=>k_is)
      (case k_b_ones=>k_is)
      (case a_b_are_ones=>k_is)
      (case l_b_are_ones=>k_is)
      (case c_b_are_ones=>k_is)
      (case k_b_are_ones=>k_is)
      (case a_law=>k_is)
      (case l_law=>k_is)
      (case c_law=>k_is)
      (case k_law=>k_is)
      (case a_World___init__=>k_is)
      (case i_World___init__=>k_is)
      (case l_World___init__=>k_is)
      (case c_World___init__=>k_is)
      (case k_World___init__=>k_is)
      (case a_World_is_number=>k_is)
      (case i_World_is_number=>k_is)
      (case l_World_is_number=>k_is)
      (case c_World_is_number=>k_is)
      (case k_World_is_number=>k_is)
      (case a_World_of=>k_is)
      (case i_World_of=>k_is)
      (case l_World_of=>k_is)
      (case c_World_of=>k_is)
      (case k_World_of=>k_is)
      (case ld_World_of=>k_is)
      (case pg_World=>k_is)
      (case hd_World=>k_is)
      (case po_World=>k_is)
      (case sa_World=>k_is)
      (case mk_World=>k_is)
      (case kc_World=>k_is)
      (case n_World_prime=>k_is)
      (case z_len=>k_is)
      (case z_isinstance=>k_is)
      (case z_int=>k_is)
      (case z_bool=>k_is)
      (case z_tuple=>k_is)
      (case z_list=>k_is)
      (case z_range=>k_is)
      (case z_abs=>k_is)
      (case z_all=>k_is)
      (case a_GREATEST_PRIME=>k_is)
      (case a_LONG=>k_is)
      (case a_MOST=>k_is)
      (case e_x_NoWorld=>k_exc)
      (case e_x_NoOver=>k_exc)
      (case e_x_WrightError=>k_exc)
    obtain ⟨t,T⟩:=T
    have e0:=hmg.symm.trans T.mg_law
    cases e0
    exact My.law_all T
#print axioms PySem.Challenge.cw_bandwright_k07_tables_known_holds
