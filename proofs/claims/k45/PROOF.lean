import PyProof.Rows.All
import Wide.All
import OpenK.AllK
import Wide.FinOn
import Lean
import PyProof.EqAt
import PyProof.EqKinds
import PyProof.TupleCall
import PySem.Challenge.RW_bandwright_k45_no_named_shape
set_option Elab.async false
set_option linter.all false
set_option maxRecDepth 100000
abbrev bt:=@decide_eq_false
abbrev aj:=@if_pos
abbrev ai:=@if_neg
abbrev ba:=@PySem.Heap.lt_size
abbrev cW:=@Nat.lt_of_lt_of_le
abbrev fj:=@Nat.lt_irrefl
abbrev cB:=@Nat.ne_of_lt
abbrev o_:=@PySem.W.hideAll_get
abbrev pb:=@List.mem_filter
abbrev cX:=@List.mem_range
abbrev cE:=@Nat.le_trans
abbrev iW:=@Nat.le_of_lt
abbrev pd:=@List.filterMap_cons
abbrev ig:=@List.mem_cons_self
abbrev gQ:=@List.mem_cons_of_mem
abbrev cN:=@List.mem_cons
abbrev eP:=@Ne.symm
abbrev eQ:=@List.mem_append
abbrev bZ:=@List.getElem?_eq_some_iff
abbrev rY:=@List.getElem?_set_self
abbrev bj:=@PySem.wpAny_mono
abbrev iX:=@PySem.wpAny_truthy_bool
abbrev fN:=@Array.length_toList
abbrev cw:=@congrArg
abbrev k4:=@PySem.wpAny_execs_nil
abbrev pe:=@PySem.wpAny_execs_cons
abbrev aA:=@PySem.wpAny_bind
abbrev ik:=@PySem.wpAny_holding
abbrev m9:=@PySem.wpAny_standAt
abbrev a_:=@PySem.wpAny_pure
abbrev b_:=@PySem.Heap.get?_push_of_some
abbrev dP:=@PySem.Heap.get?_push_size
abbrev aG:=@Nat.le_refl
abbrev rZ:=@PyProof.Rows.callWith_type1
abbrev da:=@List.mem_append_right
abbrev m_:=@PySem.wpAny_passesOwn
abbrev dj:=@Nat.zero_le
abbrev pf:=@Bool.eq_iff_iff
abbrev cj:=@Bool.false_ne_true
abbrev fk:=@PySem.W.kia_one
abbrev jz:=@List.append_nil
abbrev k6:=@PySem.codeAny_mono
abbrev ng:=@PySem.wpAny_Call_Name_kw
abbrev ph:=@List.nodup_cons
abbrev nh:=@List.length_take
abbrev il:=@PySem.mem_of_lookup
abbrev gh:=@List.getElem?_append_right
abbrev gR:=@List.getElem?_append_left
abbrev dQ:=@List.getElem?_map
abbrev dk:=@List.length_append
abbrev bz:=@List.length_map
abbrev k7:=@List.length_replicate
abbrev r0:=@PySem.F.slot_tuple_add
abbrev r6:=@PySem.F.entry_tuple_add
abbrev r9:=@PySem.F.args_tuple_add_2
abbrev bS:=@List.size_toArray
abbrev iY:=@Int.toNat_natCast
abbrev fm:=@PySem.wpAny_field
abbrev k8:=@PySem.wpAny_callSpecial?_slot
abbrev k9:=@PyProof.Rows.slot_tuple_getitem
abbrev jA:=@PySem.wpAny_call_entry
abbrev jB:=@Bool.and_eq_true
abbrev gS:=@PySem.wpAny_newObj_type
abbrev jC:=@PySem.SeqAt.EqAt.same
abbrev aW:=@decide_eq_true
abbrev ck:=@PySem.W.mg_of
abbrev pj:=@Nat.lt_of_le_of_lt
abbrev jD:=@PySem.wpAny_loadPart_at
abbrev r_:=@PySem.F.typeOf_object_class
abbrev pk:=@PySem.codeAny_call_builtin
abbrev ni:=@Bool.false_or
abbrev se:=@PySem.wpAny_comprehension_free
abbrev gk:=@List.length_cons
abbrev iZ:=@PySem.lookup_relabel_local
abbrev sf:=@PySem.codeAny_compStart_list
abbrev d6:=@List.getD_eq_getElem?_getD
abbrev gm:=@List.mem_singleton
abbrev i3:=@List.length_range
abbrev k_:=@List.getElem?_range
abbrev lg:=@Nat.sub_self
abbrev lh:=@List.nodup_nil
abbrev lp:=@PySem.SeqAt.EqAt.of_refs
abbrev fq:=@List.getElem_mem
abbrev jE:=@PySem.Around.in1_units
abbrev ao:=@PyProof.Rows.wpS_bind
abbrev fu:=@PyProof.Rows.wpS_get
abbrev ak:=@PyProof.Rows.wpS_pure
abbrev dm:=@PyProof.Rows.wpS_forRange
abbrev dD:=@PyProof.Rows.wpS_mono
abbrev pA:=@List.perm_append_comm
abbrev lq:=@List.take_append_drop
abbrev d7:=@List.append_assoc
abbrev sh:=@List.Perm.append_left
abbrev ip:=@Int.le_refl
abbrev pC:=@List.pairwise_iff_getElem
abbrev gp:=@PyProof.Rows.wpS_modify
abbrev dE:=@of_decide_eq_true
abbrev cx:=@Int.le_trans
abbrev i4:=@Array.toList_push
abbrev gT:=@Array.toList_append
abbrev gU:=@PySem.wpAny_rule
abbrev cf:=@Int.le_of_lt
abbrev pD:=@Array.toList_reverse
abbrev i5:=@List.mem_reverse
abbrev lr:=@List.reverse_perm
abbrev dn:=@Nat.zero_add
abbrev nj:=@Array.perm_iff_toList_perm
abbrev eR:=@List.getElem?_eq_getElem
abbrev jF:=@decide_eq_decide
abbrev lu:=@List.ext_getElem
abbrev lA:=@List.map_map
abbrev lB:=@PySem.Heap.get?_push_ne
abbrev pE:=@Nat.lt_succ_of_lt
abbrev pF:=@PySem.Heap.get?_update_ne
abbrev pG:=@List.range_succ
abbrev eS:=@List.mem_map
abbrev gq:=@Prod.mk.injEq
abbrev pH:=@PySem.F.slot_tuple_iterator_next
abbrev nk:=@PySem.wpAny_setField_rec
abbrev pI:=@PySem.F.slot_enumerate_next
abbrev jG:=@PySem.wpAny_loadPart'
abbrev nr:=@List.not_mem_nil
abbrev jH:=@List.map_append
abbrev pJ:=@List.nodup_append
abbrev nt:=@decide_eq_true_iff
abbrev pK:=@List.map_eq_nil_iff
abbrev dR:=@PySem.boot_len
abbrev si:=@Int.eq_ofNat_of_zero_le
abbrev sj:=@PySem.F.excBase_ValueError
abbrev lC:=@PySem.F.plainAttrs_list
abbrev fv:=@Int.zero_add
abbrev jI:=@PySem.PassesOwn.never
abbrev d8:=@PySem.W.mg_none_of
abbrev Iy:=List (List (Int×Int))
abbrev dF:=List (Int×Int)
abbrev IH:=Nat→Nat→Int
abbrev bW:=PySem.Str→Option PySem.Value
abbrev aE:=PySem.Value→PySem.Shared→Prop
abbrev aJ:=PySem.W.Frag
abbrev aI:=List (PySem.Addr×PySem.Obj)
namespace L2
open PySem PySem.Spec PyProof.Rows
abbrev Key:=Sum Int Str
def vy:Key→Value→Bool
 | .inl k,v=>Value.isInt k v
 | .inr x,v=>Value.isStrOf x v
def AZ(w:World):Key→Int
 | .inl k=>hashInt k
 | .inr x=>hashStr w x
theorem iq:∀{k:Key} {v:Value},vy k v=true→(∃i t,k=Sum.inl i∧v=Value.int i t)∨(∃x t,k=Sum.inr x∧v=Value.str x t)
 | .inl i,v,h=>by obtain ⟨t,e⟩:=Value.isInt_shape (k:=i) (v:=v) h;exact .inl ⟨i,t,rfl,e⟩
 | .inr x,v,h=>by obtain ⟨t,e⟩:=Value.isStrOf_shape (x:=x) (v:=v) h;exact .inr ⟨x,t,rfl,e⟩
theorem A0(a b:Int):decide ((Sum.inl a:Key)=Sum.inl b)=(a == b):=by
 by_cases e:a=b;·subst e;simp
 ·have h:¬(Sum.inl a:Key)=Sum.inl b:=fun q=>e (Sum.inl.inj q)
  rw [bt h];exact (beq_eq_false_iff_ne.mpr e).symm
theorem A1(a b:Str):decide ((Sum.inr a:Key)=Sum.inr b)=decide (a=b):=by
 by_cases e:a=b;·subst e;simp
 ·have h:¬(Sum.inr a:Key)=Sum.inr b:=fun q=>e (Sum.inr.inj q)
  rw [bt h,bt e]
theorem A2(a:Int)(b:Str):decide ((Sum.inl a:Key)=Sum.inr b)=false:=bt (fun q=>nomatch q)
theorem A3(a:Str)(b:Int):decide ((Sum.inr a:Key)=Sum.inl b)=false:=bt (fun q=>nomatch q)
def pL(prog:Program)(w:World):PySem.KeyKind prog w Key where
 is:=vy
 hash:=AZ w
 inj:=fun v a b ha hb=>by
  rcases iq ha with ⟨i,t,rfl,rfl⟩ | ⟨x,t,rfl,rfl⟩
  ·rcases iq hb with ⟨j,u,rfl,e⟩ | ⟨y,u,rfl,e⟩
   ·injection e with e1 _;rw [e1]
   ·exact nomatch e
  ·rcases iq hb with ⟨j,u,rfl,e⟩ | ⟨y,u,rfl,e⟩
   ·exact nomatch e
   ·injection e with e1 _;rw [e1]
 byValue:=fun k v h=>by
  rcases iq h with ⟨i,t,rfl,rfl⟩ | ⟨x,t,rfl,rfl⟩ <;> rfl
 pyHash:=fun hv h=>by
  rcases iq hv with ⟨i,t,rfl,rfl⟩ | ⟨x,t,rfl,rfl⟩
  ·exact wpAny_pyHash_int h
  ·exact wpAny_pyHash_str h
 eqBool:=fun hu hv h=>by
  rcases iq hu with ⟨i,t,rfl,rfl⟩ | ⟨x,t,rfl,rfl⟩
  ·rcases iq hv with ⟨j,u,rfl,rfl⟩ | ⟨y,u,rfl,rfl⟩
   ·rw [A0] at h;exact wpAny_eqBool_int h
   ·rw [A2] at h;exact SeqAt.EqAt.int_str i t y u _ _ _ _ h
  ·rcases iq hv with ⟨j,u,rfl,rfl⟩ | ⟨y,u,rfl,rfl⟩
   ·rw [A3] at h;exact SeqAt.EqAt.str_int x t j u _ _ _ _ h
   ·rw [A1] at h;exact wpAny_eqBool_str h
 «strs»:=fun k x t v h=>by
  rcases iq h with ⟨i,u,rfl,e⟩ | ⟨y,u,rfl,e⟩
  ·exact nomatch e
  ·injection e with e1 _
   subst e1
   cases v <;> rfl
inductive V where
 | aR | bl (b:Bool) | int (i:Int) | str (x:Str) | gr (b:Array UInt8) | lD (b:UInt64) | ref (a:Addr) | ty (n:String)
 deriving DecidableEq
def RelV:V→Value→Prop
 | .aR,u=>u=Value.none
 | .bl b,u=>u=Value.bool b
 | .int i,u=>∃t,u=Value.int i t
 | .str x,u=>∃t,u=Value.str x t
 | .gr b,u=>∃t,u=Value.bytes b t
 | .lD b,u=>∃t,u=Value.float b t
 | .ref a,u=>u=Value.ref a
 | .ty n,u=>u=Value.type n
abbrev Vals:List V→List Value→Prop:=Paired RelV
variable {xs:List V} {us:List Value}
theorem Vals.length(r:Vals xs us):xs.length=us.length:=Paired.length r
theorem Vals.get:∀{xs:List V} {us:List Value} {i:Nat} {x:V},Vals xs us→xs[i]?=some x→∃u,us[i]?=some u∧RelV x u
 | _,_,_,_,.nil,e=>by simp at e
 | _,_,0,_,.cons r _,e=>by simp at e;subst e;exact ⟨_,rfl,r⟩
 | _,_,i+1,x,.cons _ t,e=>by
  obtain ⟨u,h1,h2⟩:=Vals.get (i:=i) (x:=x) t (by simpa using e)
  exact ⟨u,by simpa using h1,h2⟩
theorem Vals.set{x:V}{u:Value}(r:RelV x u):∀{xs:List V} {us:List Value} (i:Nat),Vals xs us→Vals (xs.set i x) (us.set i u)
 | _,_,_,.nil=>.nil
 | _,_,0,.cons _ t=>.cons r t
 | _,_,i+1,.cons q t=>.cons q (Vals.set r i t)
theorem Vals.append:∀{xs ys:List V} {us ws:List Value},Vals xs us→Vals ys ws→Vals (xs++ys) (us++ws)
 | _,_,_,_,.nil,s=>s
 | _,_,_,_,.cons r t,s=>.cons r (Vals.append t s)
theorem Vals.take:∀{xs:List V} {us:List Value} (n:Nat),Vals xs us→Vals (xs.take n) (us.take n)
 | _,_,0,_=>.nil
 | _,_,_+1,.nil=>.nil
 | _,_,n+1,.cons r t=>.cons r (Vals.take n t)
theorem Vals.drop:∀{xs:List V} {us:List Value} (n:Nat),Vals xs us→Vals (xs.drop n) (us.drop n)
 | _,_,0,r=>r
 | _,_,_+1,.nil=>.nil
 | _,_,n+1,.cons _ t=>Vals.drop n t
theorem Vals.none_of:∀{xs:List V} {us:List Value} {i:Nat},Vals xs us→xs[i]?=none→us[i]?=none:=fun{xs us i} r e=>by have h1:=r.length;have h2:xs.length≤i:=List.getElem?_eq_none_iff.mp e;exact List.getElem?_eq_none_iff.mpr (by omega)
def sk:Option V→Option Value→Prop
 | some v,some u=>RelV v u
 | none,none=>True
 | _,_=>False
def KV{κ:Type}:List (κ×V)→List (κ×Value)→Prop:=Paired fun(p:κ×V) (q:κ×Value)=>p.1=q.1∧RelV p.2 q.2
def kV:Key→V
 | .inl i=>.int i
 | .inr x=>.str x
inductive HO where
 | lst (xs:List V)
 | tup (xs:List V)
 | dK (bT:List (Key×V)) | dT (bT:List (List Key×V))
 | set (S:Int→Bool) (n:Nat)
 | ins (C dx:Addr) (fs:List (Str×V))
 | own (x:Addr)
 | xd (fs:List (Str×V))
 | met (f x:Addr)
 | i6 (lo hi:Int)
 | dG (o:Obj) (u:HO)
 | gW (ps:Array Value)
 | ext (φ:Heap→Prop)
abbrev Hp:=Addr→Option HO
def upd(H:Hp)(a:Addr)(o:HO):Hp:=fun b=>if b=a then some o else H b
variable {H:Hp} {a:Addr} {o:HO}
theorem aw:upd H a o a=some o:=by unfold upd;rw [aj rfl]
variable {b:Addr}
theorem bu(h:b≠a):upd H a o b=H b:=by unfold upd;rw [ai h]
theorem eT(h:H a=some o)(h':H b=none):a≠b:=by intro e;subst e;rw [h] at h';cases h'
section
variable (P:Program) (w:World)
def bO(H:Hp)(h:Heap)(a:Addr):HO→Prop
 | .lst xs=>xs.length≤sizeLine∧∃(au:List Value) (n:Nat),Vals xs au∧h.get? a=some {cls:=.type "list",data:=.seq au.toArray n}
 | .tup xs=>xs.length≤sizeLine∧∃au:List Value,Vals xs au∧IsTup h a au.toArray
 | .dK bT=>bT.length≤sizeLine∧(a == sysModules)=false∧∃vs,KV bT vs∧h.DictOf (pL P w) a vs
 | .dT bT=>bT.length≤sizeLine∧(a == sysModules)=false∧∃xs:List (List Key×Addr×Value),
   Paired (fun(p:List Key×V) (q:List Key×Addr×Value)=>p.1=q.1∧H q.2.1=some (.tup (p.1.map kV))∧RelV p.2 q.2.2) bT xs ∧
   ∃o es ep,h.get? a=some o∧o.ExactDict∧o.data=.dict es ep∧es.toList=xs.map (entryOfKey (tupleKind (pL P w)))∧(xs.map (·.1)).Nodup
 | .set S n=>h.SetOf (intKind P w) a S n
 | .ins C dx fs=>H dx=some (.own a)∧fs.length≤1000∧dx≠a∧h.get? a=some (PySem.W.instObj C dx) ∧
   ∃mA,h.Ns1 dx mA∧(∀f,sk (fs.lookup f) (mA f))∧PySem.Within mA (fs.map (·.1))
 | .own _=>∃o,h.get? a=some o
 | .xd fs=>∃mA,h.Ns1 a mA∧∀f,sk (fs.lookup f) (mA f)
 | .i6 lo hi=>∃t u v,h.get? a=some {cls:=.type "range",data:=.fields #[.int lo t,.int hi u,.int 1 v]}
 | .dG o u=>h.get? a=some o∧bO H h a u
 | .gW ps=>h.get? a=some {cls:=.none,data:=.fields ps}
 | .met f x=>h.get? a=some (PySem.W.methodObj (.ref f) (.ref x))
 | .ext φ=>φ h∧(∃o,h.get? a=some o)∧∀h1 h2:Heap,φ h1→(∀o,h1.get? a=some o→h2.get? a=some o)→φ h2
def bM(H:Hp)(h:Heap):Prop:=∀a o,H a=some o→bO P w H h a o
end
section
variable {P:Program} {w:World} {H H':Hp} {h h':Heap} {a:Addr} {o:HO}
theorem bO.lt(x:bO P w H h a o):a<h.objs.size:=by
 cases o with
 | lst xs=>obtain ⟨_,_,_,_,e⟩:=x;exact ba e
 | tup xs=>obtain ⟨_,_,_,p⟩:=x;exact p.lt
 | dK bT=>obtain ⟨_,_,_,_,o,_,_,e,_⟩:=x;exact ba e
 | dT bT=>obtain ⟨_,_,_,_,o,_,_,e,_⟩:=x;exact ba e
 | set S n=>obtain ⟨o,_,_,_,e,_⟩:=x;exact ba e
 | ins C dx fs=>obtain ⟨_,_,_,e,_⟩:=x;exact ba e
 | own y=>obtain ⟨_,e⟩:=x;exact ba e
 | xd fs=>obtain ⟨_,⟨_,_,_,e,_⟩,_⟩:=x;exact ba e
 | i6 lo hi=>obtain ⟨_,_,_,e⟩:=x;exact ba e
 | dG ob u=>obtain ⟨e,_⟩:=x;exact ba e
 | gW ps=>exact ba (show h.get? a=some _ from x)
 | met f y=>exact ba (show h.get? a=some _ from x)
 | ext φ=>obtain ⟨_,⟨_,e⟩,_⟩:=x;exact ba e
theorem Paired.vT{α β:Type}{F G:α→β→Prop}:∀{l₁:List α} {l₂:List β},Paired F l₁ l₂→(∀a b,F a b→G a b)→Paired G l₁ l₂
 | _,_,.nil,_=>.nil
 | _,_,.cons r t,f=>.cons (f _ _ r) (Paired.vT t f)
theorem bO.fw(x:bO P w H h a o)(k:∀b u,(b=a∨H b=some (.own a))→h.get? b=some u→h'.get? b=some u)
  (ho:∀b,H b=some (.own a)→H' b=some (.own a)) (ht:∀b xs,H b=some (.tup xs)→H' b=some (.tup xs)):bO P w H' h' a o:=by
 induction o with
 | lst xs=>obtain ⟨z,au,n,r,e⟩:=x;exact ⟨z,au,n,r,k _ _ (.inl rfl) e⟩
 | tup xs=>obtain ⟨z,au,r,ob,e,c⟩:=x;exact ⟨z,au,r,ob,k _ _ (.inl rfl) e,c⟩
 | dK bT=>obtain ⟨z,y,vs,r,ob,es,ep,e,c⟩:=x;exact ⟨z,y,vs,r,ob,es,ep,k _ _ (.inl rfl) e,c⟩
 | dT bT=>obtain ⟨z,y,xs,r,ob,es,ep,e,c⟩:=x;exact ⟨z,y,xs,Paired.vT r fun p q z=>⟨z.1,ht _ _ z.2.1,z.2.2⟩,ob,es,ep,k _ _ (.inl rfl) e,c⟩
 | set S n=>obtain ⟨ob,es,ep,t,e,c⟩:=x;exact ⟨ob,es,ep,t,k _ _ (.inl rfl) e,c⟩
 | ins C dx fs=>obtain ⟨d,z,ne,e,mA,⟨od,es,ep,e2,c⟩,r⟩:=x;exact ⟨ho _ d,z,ne,k _ _ (.inl rfl) e,mA,⟨od,es,ep,k _ _ (.inr d) e2,c⟩,r⟩
 | own y=>obtain ⟨ob,e⟩:=x;exact ⟨ob,k _ _ (.inl rfl) e⟩
 | xd fs=>obtain ⟨mA,⟨od,es,ep,e,c⟩,r⟩:=x;exact ⟨mA,⟨od,es,ep,k _ _ (.inl rfl) e,c⟩,r⟩
 | i6 lo hi=>obtain ⟨t,u,v,e⟩:=x;exact ⟨t,u,v,k _ _ (.inl rfl) e⟩
 | dG ob u ih=>obtain ⟨e,q⟩:=x;exact ⟨k _ _ (.inl rfl) e,ih q⟩
 | gW ps=>have e:h.get? a=some {cls:=.none,data:=.fields ps}:=x;show h'.get? a=some {cls:=.none,data:=.fields ps};exact k a _ (.inl rfl) e
 | met f y=>have e:h.get? a=some (PySem.W.methodObj (.ref f) (.ref y)):=x;show h'.get? a=some (PySem.W.methodObj (.ref f) (.ref y));exact k a _ (.inl rfl) e
 | ext φ=>obtain ⟨p,⟨o,e⟩,st⟩:=x;exact ⟨st _ _ p fun o q=>k _ _ (.inl rfl) q,⟨o,k _ _ (.inl rfl) e⟩,st⟩
theorem bM.lt(x:bM P w H h)(e:H a=some o):a<h.objs.size:=(x a o e).lt
theorem bM.fresh(x:bM P w H h)(e:h.objs.size≤a):H a=none:=by
 cases q:H a with
 | none=>rfl
 | some u=>exact absurd (cW (x.lt q) e) (fj _)
theorem bM.kept(x:bM P w H h)(k:∀b u,h.get? b=some u→h'.get? b=some u):bM P w H h':=fun a o e=>(x a o e).fw (fun b u _ q=>k b u q) (fun _ q=>q) fun _ _ q=>q
theorem bM.laid(x:bM P w H h)(k:∀b u,h.get? b=some u→h'.get? b=some u)(hp:h.objs.size≤a)(new:bO P w (upd H a o) h' a o):bM P w (upd H a o) h':=fun b u e=>by
 have hn:=x.fresh hp;by_cases hb:b=a;·subst hb;rw [aw] at e;cases e;exact new
 ·rw [bu hb] at e
  exact (x b u e).fw (fun c v _ q=>k c v q) (fun c q=>by rw [bu (eT q hn)];exact q) fun c xs q=>by rw [bu (eT q hn)];exact q
end
def Rd(H:Hp)(a:Addr)(u:HO):Prop:=H a=some u∨∃o,H a=some (.dG o u)
variable {P:Program} {w:World} {h:Heap}
theorem Rd.ok{u:HO}(r:Rd H a u)(x:bM P w H h):bO P w H h a u:=by
 rcases r with r | ⟨o,r⟩;·exact x a u r
 ·obtain ⟨_,q⟩:=x a _ r
  exact q
def pM:Option HO→Prop
 | some (.lst _)=>True
 | some (.dK _)=>True
 | some (.dT _)=>True
 | some (.set _ _)=>True
 | some (.ins _ _ _)=>True
 | some (.ext _)=>True
 | _=>False
section
variable {P:Program} {w:World} {H:Hp} {h h':Heap} {x e:Addr} {o':HO}
theorem bM.write(ok:bM P w H h)(mu:pM (H x))(he:e=x∨H e=some (.own x))(k:∀b u,b≠e→h.get? b=some u→h'.get? b=some u)(lE:∃u,h'.get? e=some u)
  (new:bO P w (upd H x o') h' x o'):bM P w (upd H x o') h':=fun b u q=>by
 have wa:∀c y,H c=some (.own y)→c≠x:=fun c y r z=>by subst z;rw [r] at mu;exact mu
 have A4:∀c xs,H c=some (.tup xs)→c≠x:=fun c xs r z=>by subst z;rw [r] at mu;exact mu
 by_cases hb:b=x;·subst hb;rw [aw] at q;cases q;exact new
 ·rw [bu hb] at q
  by_cases d9:b=e
  ·have q':H b=some (.own x):=by
    rcases he with z | z;·exact absurd (d9.trans z) hb
    ·rw [d9];exact z
   rw [q] at q';cases q';obtain ⟨v,hv⟩:=lE;exact ⟨v,by rw [d9];exact hv⟩
  ·refine (ok b u q).fw (fun c v hc r=>k c v ?_ r) (fun c r=>by rw [bu (wa c b r)];exact r) fun c xs r=>by rw [bu (A4 c xs r)];exact r
   rcases hc with rfl | hc;·exact d9
   ·rintro rfl
    rcases he with z | z;·exact wa c b hc z
    ·rw [hc] at z;cases z;exact hb rfl
end
structure Un (fs ex:List Addr) (H H':Hp) (h h':Heap):Prop where
 keep:∀b o,h.get? b=some o→H b=none→b∉fs→b∉ex→h'.get? b=some o
 slot:∀b o,h.get? b=some o→H b=none→b∈fs→b∉ex→∃sl,h'.get? b=some {o with slots:=sl}
 free:∀b o,h.get? b=some o→H b=none→b∉ex→H' b=none
 there:∀b o,h.get? b=some o→b∉ex→∃o',h'.get? b=some o'
 cm:∀b xs,H b=some (.tup xs)→H' b=some (.tup xs)
 cT:∀b o u,H b=some (.dG o u)→H' b=some (.dG o u)
 cY:∀b ps,H b=some (.gW ps)→∃more,H' b=some (.gW (ps++more))
section
variable {fs sq ex ny:List Addr} {H H1 H2:Hp} {h h1 h2 h':Heap} {a x e:Addr} {o:HO}
theorem Un.any(u:Un fs ex H H1 h h1){ob:Obj}(q:h.get? b=some ob)(n:H b=none)(hx:b∉ex):∃sl,h1.get? b=some {ob with slots:=sl}:=by
 by_cases hb:b∈fs;·exact u.slot b ob q n hb hx
 ·exact ⟨ob.slots,u.keep b ob q n hb hx⟩
theorem Un.kept(k:∀b u,h.get? b=some u→h'.get? b=some u):Un fs ex H H h h':=
 ⟨fun b ob q _ _ _=>k b ob q,fun b ob q _ _ _=>⟨ob.slots,k b ob q⟩,fun _ _ _ n _=>n,fun b ob q _=>⟨ob,k b ob q⟩,fun _ _ q=>q,fun _ _ _ q=>q,fun _ ps q=>⟨#[],by rw [q];simp⟩⟩
theorem Un.refl:Un fs ex H H h h:=Un.kept fun _ _ q=>q
theorem Un.laid(k:∀b u,h.get? b=some u→h'.get? b=some u)(hp:h.objs.size≤a)(hn:H a=none):Un fs ex H (upd H a o) h h' where
 keep:=fun b u q _ _ _=>k b u q
 slot:=fun b u q _ _ _=>⟨u.slots,k b u q⟩
 free:=fun b u q n _=>by rw [bu (cB (cW (ba q) hp))];exact n
 there:=fun b u q _=>⟨u,k b u q⟩
 cm:=fun b xs q=>by rw [bu (eT q hn)];exact q
 cT:=fun b u xs q=>by rw [bu (eT q hn)];exact q
 cY:=fun b ps q=>⟨#[],by rw [bu (eT q hn),q];simp⟩
theorem Un.write(mu:pM (H x))(he:e=x∨H e=some (.own x))(k:∀b u,b≠e→h.get? b=some u→h'.get? b=some u)(lE:∃u,h'.get? e=some u):Un fs ex H (upd H x o) h h':=by
 have hx:∀b,H b=none→b≠x:=fun b n z=>by subst z;rw [n] at mu;exact mu
 have hb:∀b,H b=none→b≠e:=fun b n z=>by
  subst z;rcases he with r | r;·exact hx b n r
  ·rw [n] at r;cases r
 have hm:∀b u,H b=some u→¬pM (some u)→b≠x:=fun b u q nm z=>by subst z;rw [q] at mu;exact nm mu
 refine ⟨fun b u q n _ _=>k b u (hb b n) q,fun b u q n _ _=>⟨u.slots,k b u (hb b n) q⟩,fun b u q n _=>by rw [bu (hx b n)];exact n,fun b u q _=>?_,
  fun b xs q=>by rw [bu (hm b _ q fun z=>z)];exact q,fun b u xs q=>by rw [bu (hm b _ q fun z=>z)];exact q,fun b ps q=>⟨#[],by rw [bu (hm b _ q fun z=>z),q];simp⟩⟩
 by_cases d9:b=e;·subst d9;exact lE
 ·exact ⟨u,k b u d9 q⟩
end
def pN(h:Heap)(H:Hp):List Addr:=(List.range h.objs.size).filter fun a=>(H a).isSome
def ir(h:Heap)(H:Hp):Heap:=PySem.W.hideAll h (pN h H)
theorem A5(h:Heap)(H:Hp):(ir h H).objs.size=h.objs.size:=PySem.W.hideAll_size _ _
theorem A6{o:Obj}(e:h.get? b=some o)(n:H b=none):(ir h H).get? b=some o:=
 o_ _ e fun hm=>by have q:(H b).isSome=true:=(pb.mp hm).2;rw [n] at q;simp at q
theorem A7{o:Obj}(e:(ir h H).get? b=some o):h.get? b=some o∧H b=none:=by
 have e':h.get? b=some o:=PySem.W.of_hideAll (pN h H) e;refine ⟨e',?_⟩;cases q:H b with
 | none=>rfl
 | some x=>
  have hm:b∈pN h H:=pb.mpr ⟨cX.mpr (ba e'),by simp [q]⟩
  have z:(ir h H).get? b=none:=PySem.W.hideAll_none (pN h H) hm;rw [z] at e;cases e
structure Mod (K:aJ) (mg:bW) (base:Heap):Prop where
 bX:K.In base
 glob:base.Ns mainGlobals mg
 blt:∃mb,base.Ns builtinsNs mb∧∀x:Str,x ≠ "__name__"→mb x=bootBuiltins x
 nolimit:base.NoLimit
structure Cx where
 prog:Program
 w:World
 K:PySem.W.Frag
 mg:Str→Option Value
 base:Heap
 A:Around
 N:List Str
 s₀:Shared
 H₀:Hp
 env:Env
 outer:List Env
 stack:List Env
 ex:List Addr
 fn:Str→Bool
 calm:Bool
 pn:List (Addr×Obj)
 xe:Value→Shared→Prop
def bH(l:List Env):List Addr:=l.filterMap (·.frame)
abbrev Cx.fs (X:Cx):List Addr:=bH X.outer
def jJ(sc:Scope)(x:Str):Prop:=sc.names.lookup x=some .local∨sc.names.lookup x=some .cell∨sc.names.lookup x=some .free
def Loc(sc:Scope)(x:Str):Prop:=sc.names.lookup x=some .local∨sc.names.lookup x=some .cell
def Look(env:Env)(h:Heap)(m:bW)(x:Str)(u:Value):Prop:=
 (env.kindOf x=some .local∧m x=some u)∨((env.kindOf x=some .cell∨env.kindOf x=some .free)∧∃c,env.cells.lookup x=some c∧h.IsCell c (some u))
structure Cx.Ok (X:Cx):Prop where
 mod:Mod X.K X.mg X.base
 kind:X.env.scope.kind=.function
 glob:X.env.globals=mainGlobals
 blt:X.env.builtins=builtinsNs
 above:X.s₀.heap.objs.size≤X.env.locals
 inj:∀x y c,X.env.cells.lookup x=some c→X.env.cells.lookup y=some c→x=y
 has:∀x,(X.env.kindOf x=some .cell∨X.env.kindOf x=some .free)→∃c,X.env.cells.lookup x=some c
 lF:∀x c,X.fn x=true→X.env.cells.lookup x=some c→X.s₀.heap.objs.size≤c
 hd:X.calm=true→X.A.handled=none
 frames:X.A.frames=some X.stack
 eU:X.stack=X.outer∨(X.stack=X.env::X.outer∧X.env.frame=some X.env.locals)
 sr:∀b∈X.ex,b≠X.env.locals∧∀x c,X.env.cells.lookup x=some c→c≠b
 bs:∀b o,X.base.get? b=some o→X.s₀.heap.get? b=some o∧X.H₀ b=none
 fz:X.base.objs.size≤X.s₀.heap.objs.size
 i7:∀b o,X.base.get? b=some o→b∉X.ex
 i8:∀b∈X.ex,b∉X.fs
 fO:X.s₀.heap.FunFrames X.base X.outer
 iu:∀b∈X.fs,X.H₀ b=none
structure Inv (X:Cx) (pins:aI) (σ:List (Option V)) (H:Hp) (s:Shared):Prop where
 ok:X.Ok
 os:s.os=X.s₀.os
 bare:AllBare s.gens
 base:Un X.fs X.ex X.H₀ H X.s₀.heap s.heap
 loc:∃m,s.heap.Ns X.env.locals m∧∀(i:Nat) (x:Str) (v:V),X.N[i]?=some x→σ[i]?=some (some v)→jJ X.env.scope x→∃u,RelV v u∧Look X.env s.heap m x u
 cell:∀x c,X.env.cells.lookup x=some c→∃v,s.heap.IsCell c v
 free:H X.env.locals=none
 d_:∀x c,X.env.cells.lookup x=some c→H c=none
 pin:∀p∈X.pn++pins,s.heap.get? p.1=some p.2∧H p.1=none∧p.1≠X.env.locals∧p.1∉X.fs∧∀v,p.2.data≠.cell v
 aB:bM X.prog X.w H s.heap
 len:σ.length=X.N.length
section
variable {X:Cx} {pins:aI} {σ:List (Option V)} {H H':Hp} {s:Shared} {h':Heap}
theorem Cx.Ok.A8(ok:X.Ok){o:Obj}(e:X.base.get? b=some o):b∉X.fs:=fun hb=>by have:=(ok.fO.mem hb).1;rw [e] at this;cases this
theorem Inv.bs(I:Inv X pins σ H s):∀b o,X.base.get? b=some o→s.heap.get? b=some o∧H b=none:=fun b o e=>⟨I.base.keep b o (I.ok.bs b o e).1 (I.ok.bs b o e).2 (I.ok.A8 e) (I.ok.i7 b o e),I.base.free b o (I.ok.bs b o e).1 (I.ok.bs b o e).2 (I.ok.i7 b o e)⟩
theorem Inv.bk(I:Inv X pins σ H s):∀b o,X.base.get? b=some o→s.heap.get? b=some o:=fun b o e=>(I.bs b o e).1
theorem Inv.mod(I:Inv X pins σ H s):Mod X.K X.mg X.base:=I.ok.mod
theorem Inv.cJ(I:Inv X pins σ H s):X.K.In s.heap:=I.ok.mod.bX.keeps I.bk
theorem Inv.lt(I:Inv X pins σ H s):X.env.locals<s.heap.objs.size:=let ⟨_,hn,_⟩:=I.loc;hn.lt
theorem Inv.sz(I:Inv X pins σ H s):X.s₀.heap.objs.size≤s.heap.objs.size:=cE I.ok.above (iW I.lt)
theorem Inv.A9(I:Inv X pins σ H s)(h:s.heap.objs.size≤a):a∉X.fs:=fun hb=>by obtain ⟨_,o,ho,_⟩:=I.ok.fO.mem hb;exact absurd (cW (ba ho) (cE I.sz h)) (fj _)
theorem Inv.gs(I:Inv X pins σ H s):∀x c,X.env.cells.lookup x=some c→c≠X.env.locals:=fun x c e z=>by obtain ⟨v,o,ho,hd⟩:=I.cell x c e;obtain ⟨m,⟨o',es,ep,iw,A_,_⟩,_⟩:=I.loc;rw [z,iw] at ho;cases ho;rw [A_] at hd;cases hd
theorem Inv.fO(I:Inv X pins σ H s):s.heap.FunFrames X.base X.outer:=by
 have all:∀(l:List Env),(∀b∈bH l,b∈X.fs)→X.s₀.heap.FunFrames X.base l→s.heap.FunFrames X.base l:=by
  intro l
  induction l with
  | nil=>intro _ _;trivial
  | cons env r ih=>
   intro hs hl;obtain ⟨hk,⟨L,o,hf,hn,ho,hd⟩,hr⟩:=hl;have hL:L∈X.fs:=hs L (by unfold bH;rw [pd,hf];exact ig)
   obtain ⟨sl,e⟩:=I.base.slot L o ho (I.ok.iu L hL) hL fun z=>I.ok.i8 L z hL;exact ⟨hk,⟨L,_,hf,hn,e,hd⟩,ih (fun b hb=>hs b (by unfold bH;rw [pd,hf];exact gQ _ hb)) hr⟩
 exact all X.outer (fun _ hb=>hb) I.ok.fO
theorem Inv.stack(I:Inv X pins σ H s):s.heap.FunFrames X.base X.stack:=by
 rcases I.ok.eU with e | ⟨e,hf⟩;·rw [e];exact I.fO
 ·rw [e]
  obtain ⟨m,hn,_⟩:=I.loc;refine .cons (by rw [I.ok.kind];decide) hf hn ?_ I.fO
  exact Heap.get?_none_of_le (cE I.ok.fz I.ok.above)
theorem Inv.nz(I:Inv X pins σ H s):∀b∈bH X.stack,b∈X.env.locals::X.fs:=fun b hb=>by
 rcases I.ok.eU with e | ⟨e,hf⟩;·rw [e] at hb;exact gQ _ hb
 ·rw [e] at hb
  unfold bH at hb;rw [pd,hf] at hb;exact hb
theorem Inv.nA(I:Inv X pins σ H s):∀b∈bH X.stack,H b=none:=fun b hb=>by
 rcases cN.mp (I.nz b hb) with e | hb;·rw [e];exact I.free
 ·obtain ⟨_,o,ho,_⟩:=I.ok.fO.mem hb
  exact I.base.free b o ho (I.ok.iu b hb) fun z=>I.ok.i8 b z hb
variable {g':Array GenState} {t':Nat} {d':Drawn} {ch:List Addr}
theorem Inv.step(I:Inv X pins σ H s)
  (gX:∀b∈ch,(b∈X.ex∨X.s₀.heap.objs.size≤b)∧b≠X.env.locals∧(∀x c,X.env.cells.lookup x=some c→c≠b)∧∀p∈X.pn++pins,p.1≠b)
  (keep:∀b o,b≠X.env.locals→b∉X.fs→b∉ch→s.heap.get? b=some o→H b=none→h'.get? b=some o)
  (slot:∀b o,b≠X.env.locals→b∈X.fs→b∉ch→s.heap.get? b=some o→H b=none→∃sl,h'.get? b=some {o with slots:=sl}) (free:∀b o,b∉ch→s.heap.get? b=some o→H b=none→H' b=none)
  (there:∀b o,b∉ch→s.heap.get? b=some o→∃o',h'.get? b=some o')
  (cm:∀b xs,H b=some (.tup xs)→H' b=some (.tup xs)) (cT:∀b o u,H b=some (.dG o u)→H' b=some (.dG o u)) (cY:∀b ps,H b=some (.gW ps)→∃more,H' b=some (.gW (ps++more)))
  (ns:∀m,s.heap.Ns X.env.locals m→h'.Ns X.env.locals m) (aB:bM X.prog X.w H' h') (hg:AllBare g') :
  Inv X pins σ H' {s with heap:=h',gens:=g',drawn:=d',toks:=t'}:=by
 have wb:∀b o,X.s₀.heap.get? b=some o→b≠X.env.locals:=fun b o e=>cB (cW (ba e) I.ok.above);have pO:∀b o,X.s₀.heap.get? b=some o→b∉X.ex→b∉ch:=fun b o e hx hb=>by
  rcases (gX b hb).1 with z | z;·exact hx z
  ·exact absurd (cW (ba e) z) (fj _)
 have cellK:∀x c,X.env.cells.lookup x=some c→∀v,s.heap.IsCell c v→h'.IsCell c v:=fun x c e v ⟨o,ho,hd⟩=>by
  have nB:c∉ch:=fun z=>(gX c z).2.2.1 x c e rfl;by_cases hc:c∈X.fs
  ·obtain ⟨sl,q⟩:=slot c o (I.gs x c e) hc nB ho (I.d_ x c e)
   exact ⟨_,q,hd⟩
  ·exact ⟨o,keep c o (I.gs x c e) hc nB ho (I.d_ x c e),hd⟩
 refine ⟨I.ok,I.os,hg,⟨fun b o e n hb hx=>?_,fun b o e n hb hx=>?_,fun b o e n hx=>?_,fun b o e hx=>?_,fun b xs e=>cm b xs (I.base.cm b xs e),fun b o xs e=>cT b o xs (I.base.cT b o xs e),fun b ps e=>?_⟩,?_,fun x c e=>?_,?_,fun x c e=>?_,fun p hp=>?_,aB,I.len⟩;·exact keep b o (wb b o e) hb (pO b o e hx) (I.base.keep b o e n hb hx) (I.base.free b o e n hx)
 ·obtain ⟨sl,e1⟩:=I.base.slot b o e n hb hx
  obtain ⟨Ba,e2⟩:=slot b _ (wb b o e) hb (pO b o e hx) e1 (I.base.free b o e n hx);exact ⟨Ba,e2⟩
 ·obtain ⟨o',e1⟩:=I.base.there b o e hx
  exact free b o' (pO b o e hx) e1 (I.base.free b o e n hx)
 ·obtain ⟨o',e1⟩:=I.base.there b o e hx
  exact there b o' (pO b o e hx) e1
 ·obtain ⟨m1,e1⟩:=I.base.cY b ps e
  obtain ⟨m2,e2⟩:=cY b _ e1;exact ⟨m1++m2,by rw [e2,Array.append_assoc]⟩
 ·obtain ⟨m,hn,hl⟩:=I.loc
  refine ⟨m,ns m hn,fun i x v e1 e2 e3=>?_⟩;obtain ⟨u,r,l⟩:=hl i x v e1 e2 e3;refine ⟨u,r,?_⟩;rcases l with l | ⟨k,c,e,z⟩;·exact .inl l
  ·exact .inr ⟨k,c,e,cellK x c e _ z⟩
 ·obtain ⟨v,z⟩:=I.cell x c e
  exact ⟨v,cellK x c e v z⟩
 ·obtain ⟨m,⟨o,_,_,ho,_⟩,_⟩:=I.loc
  exact free _ o (fun z=>(gX _ z).2.1 rfl) ho I.free
 ·obtain ⟨v,o,ho,hd⟩:=I.cell x c e
  exact free c o (fun z=>(gX c z).2.2.1 x c e rfl) ho (I.d_ x c e)
 ·obtain ⟨e,n,ne,nf,d⟩:=I.pin p hp
  have nB:p.1∉ch:=fun z=>(gX p.1 z).2.2.2 p hp rfl;exact ⟨keep p.1 p.2 ne nf nB e n,free p.1 p.2 nB e n,ne,nf,d⟩
theorem Inv.un(I:Inv X pins σ H s)(u:Un X.fs [] H H' s.heap h')(aB:bM X.prog X.w H' h'):Inv X pins σ H' {s with heap:=h',toks:=t'}:=by
 obtain ⟨m,⟨o,es,ep,ho,r⟩,_⟩:=id I.loc;obtain ⟨sl,hL⟩:=u.any ho I.free (by simp)
 exact I.step (g':=s.gens) (d':=s.drawn) (ch:=[]) (fun _ z=>nomatch z) (fun b o _ hb _ e n=>u.keep b o e n hb (by simp)) (fun b o _ hb _ e n=>u.slot b o e n hb (by simp)) (fun b o _ e n=>u.free b o e n (by simp)) (fun b o _ e=>u.there b o e (by simp)) u.cm u.cT u.cY (fun m' hm=>by obtain ⟨o',su,fP,iw,r'⟩:=hm;rw [ho] at iw;cases iw;exact ⟨_,su,fP,hL,r'⟩) aB I.bare
theorem Inv.call(I:Inv X pins σ H s)(u:Un (bH X.stack) ch H H' s.heap h')(aB:bM X.prog X.w H' h')(hg:AllBare g')
  (gX:∀b∈ch,(b∈X.ex∨X.s₀.heap.objs.size≤b)∧b≠X.env.locals∧(∀x c,X.env.cells.lookup x=some c→c≠b)∧∀p∈X.pn++pins,p.1≠b) :
  Inv X pins σ H' {s with heap:=h',gens:=g',drawn:=d',toks:=t'}:=by
 obtain ⟨m,⟨o,es,ep,ho,r⟩,_⟩:=id I.loc;obtain ⟨sl,hL⟩:=u.any ho I.free fun z=>(gX _ z).2.1 rfl;exact I.step (ch:=ch) gX (fun b o hL hb hc e n=>u.keep b o e n (fun z=>(cN.mp (I.nz b z)).elim hL hb) hc) (fun b o _ _ hc e n=>u.any e n hc) (fun b o hc e n=>u.free b o e n hc) (fun b o hc e=>u.there b o e hc) u.cm u.cT u.cY (fun m' hm=>by obtain ⟨o',su,fP,iw,r'⟩:=hm;rw [ho] at iw;cases iw;exact ⟨_,su,fP,hL,r'⟩) aB hg
theorem Inv.turned{it:Addr}(I:Inv X pins σ H s)(k:∀b o,b≠it→s.heap.get? b=some o→h'.get? b=some o)(hn:H it=none)(hL:it≠X.env.locals)
  (h1:it∈X.ex∨X.s₀.heap.objs.size≤it) (h2:∀x c,X.env.cells.lookup x=some c→c≠it) (h3:∀p∈X.pn++pins,p.1≠it):Inv X pins σ H {s with heap:=h',toks:=t'}:=by
 have wd:∀b u,H b=some u→b≠it:=fun b u e z=>by rw [z,hn] at e;cases e
 refine I.step (g':=s.gens) (d':=s.drawn) (ch:=[it]) (fun b hb=>?_) (fun b o _ _ hc e _=>k b o (fun z=>hc (by simp [z])) e) (fun b o _ _ hc e _=>⟨o.slots,k b o (fun z=>hc (by simp [z])) e⟩) (fun _ _ _ _ n=>n)
  (fun b o hc e=>⟨o,k b o (fun z=>hc (by simp [z])) e⟩) (fun _ _ e=>e) (fun _ _ _ e=>e) (fun b ps e=>⟨#[],by rw [e];simp⟩) (fun m hm=>?_) (fun b u e=>?_) I.bare
 ·have e:b=it:=by simpa using hb
  subst e;exact ⟨h1,hL,h2,h3⟩
 ·obtain ⟨o,es,ep,ho,r⟩:=hm
  exact ⟨o,es,ep,k _ o (eP hL) ho,r⟩
 ·refine (I.aB b u e).fw (fun c v hc q=>k c v ?_ q) (fun _ q=>q) fun _ _ q=>q
  rcases hc with z | z;·rw [z];exact wd b u e
  ·exact wd c _ z
theorem Inv.tok(I:Inv X pins σ H s)(t:Nat):Inv X pins σ H {s with toks:=t}:=I.un (h':=s.heap) (t':=t) Un.refl I.aB
theorem Inv.kept(I:Inv X pins σ H s)(k:∀b u,s.heap.get? b=some u→h'.get? b=some u):Inv X pins σ H {s with heap:=h',toks:=t'}:=I.un (Un.kept k) (I.aB.kept k)
theorem Inv.laid(I:Inv X pins σ H s)(k:∀b u,s.heap.get? b=some u→h'.get? b=some u)(hp:s.heap.objs.size≤a)(new:bO X.prog X.w (upd H a o) h' a o) :
  Inv X pins σ (upd H a o) {s with heap:=h',toks:=t'}:=I.un (Un.laid k hp (I.aB.fresh hp)) (I.aB.laid k hp new)
theorem Inv.write{x e:Addr}(I:Inv X pins σ H s)(mu:pM (H x))(he:e=x∨H e=some (.own x))(k:∀b u,b≠e→s.heap.get? b=some u→h'.get? b=some u)(lE:∃u,h'.get? e=some u)
  (new:bO X.prog X.w (upd H x o) h' x o):Inv X pins σ (upd H x o) {s with heap:=h',toks:=t'}:=I.un (Un.write mu he k lE) (I.aB.write mu he k lE new)
theorem Inv.wq{wt:aI}(I:Inv X pins σ H s)(h:∀p∈wt,s.heap.get? p.1=some p.2∧H p.1=none∧p.1≠X.env.locals∧p.1∉X.fs∧∀v,p.2.data≠.cell v):Inv X wt σ H s:=
 ⟨I.ok,I.os,I.bare,I.base,I.loc,I.cell,I.free,I.d_,fun p hp=>(eQ.mp hp).elim (fun z=>I.pin p (List.mem_append_left _ z)) (h p),I.aB,I.len⟩
variable {i:Nat} {x:Str}
theorem sv{N:List Str}(hN:N.Nodup){j:Nat}(a:N[i]?=some x)(b:N[j]?=some x):i=j:=by obtain ⟨h1,e1⟩:=bZ.mp a;obtain ⟨h2,e2⟩:=bZ.mp b;exact (List.getElem_inj hN).mp (e1.trans e2.symm)
variable {M:Model} {A:Around} {E:aE} {u:Value} {Q:Unit→Shared→Prop}
theorem wx{v:V}(I:Inv X pins σ H s)(hN:X.N.Nodup)(hi:X.N[i]?=some x)(hx:Loc X.env.scope x)(r:RelV v u)
  (h:∀s',Inv X pins (σ.set i (some v)) H s'→(∃a,Heap.SameBut a s.heap s'.heap∧(a=X.env.locals∨X.env.cells.lookup x=some a))→Q () s') (hf:X.fn x=true∨X.env.scope.names.lookup x=some .local:=by first | exact .inl rfl | exact .inr rfl | assumption):wpAny M A (storeName X.env x u) Q E s:=by
 obtain ⟨m,hn,hl⟩:=id I.loc;have sC:(X.env.scope.kind == .class || (X.env.scope.kind == .module && X.env.locals != X.env.globals))=false:=by rw [I.ok.kind];rfl
 have pP:i<σ.length:=by rw [I.len];exact (bZ.mp hi).1
 have gs:=I.gs;have tracked:∀{a:Addr} {h':Heap},(∃o,s.heap.get? a=some o∧H a=none)→Heap.SameBut a s.heap h'→bM X.prog X.w H h':=fun{a h'} ha hs b ob e=>by
  obtain ⟨_,_,wy⟩:=ha;refine (I.aB b ob e).fw (fun c w' hc q=>(hs.2 c ?_).trans q) (fun _ q=>q) fun _ _ q=>q;rintro rfl;rcases hc with rfl | hc;·rw [wy] at e;cases e
  ·rw [wy] at hc;cases hc
 rcases hx with hk | hk
 ·refine wpAny_storeName_local hk hn (fun h' sD hs=>?_) sC
  obtain ⟨oL,_,_,Bb,_⟩:=id hn;refine h _ ⟨I.ok,I.os,I.bare,⟨fun b o e n hb hx=>?_,fun b o e n hb hx=>?_,I.base.free,fun b o e hx=>?_,I.base.cm,I.base.cT,I.base.cY⟩,⟨_,sD,fun j y v' e1 e2 e3=>?_⟩,fun y c e=>?_,I.free,I.d_,fun p hp=>?_,tracked ⟨oL,Bb,I.free⟩ hs,by simpa using I.len⟩ ⟨_,hs,.inl rfl⟩
  ·exact (hs.2 b (cB (cW (ba e) I.ok.above))).trans (I.base.keep b o e n hb hx)
  ·obtain ⟨sl,e1⟩:=I.base.slot b o e n hb hx
   exact ⟨sl,(hs.2 b (cB (cW (ba e) I.ok.above))).trans e1⟩
  ·obtain ⟨o',e1⟩:=I.base.there b o e hx
   exact ⟨o',(hs.2 b (cB (cW (ba e) I.ok.above))).trans e1⟩
  ·by_cases hj:j=i
   ·subst hj
    rw [hi] at e1;cases e1;rw [rY pP] at e2;cases e2;exact ⟨u,r,.inl ⟨hk,by simp⟩⟩
   ·rw [List.getElem?_set_ne (eP hj)] at e2
    obtain ⟨u',r',q⟩:=hl j y v' e1 e2 e3;refine ⟨u',r',?_⟩;rcases q with ⟨k,e⟩ | ⟨k,c,e,z⟩
    ·refine .inl ⟨k,?_⟩
     have:y≠x:=fun e=>hj (sv hN e1 (e▸hi));simp [this,e]
    ·exact .inr ⟨k,c,e,z.sameBut hs (gs y c e)⟩
  ·obtain ⟨w',z⟩:=I.cell y c e
   exact ⟨w',z.sameBut hs (gs y c e)⟩
  ·obtain ⟨e,n,ne,nf,d⟩:=I.pin p hp
   exact ⟨(hs.2 p.1 ne).trans e,n,ne,nf,d⟩
 ·have sE:X.fn x=true:=by
   rcases hf with z | z;·exact z
   ·rw [z] at hk;cases hk
  obtain ⟨c,hc⟩:=I.ok.has x (.inl hk);obtain ⟨w',z⟩:=I.cell x c hc;refine wpAny_storeName_cell I.ok.kind hk hc z (fun h' fQ hs=>?_);obtain ⟨oc,wH,Bc⟩:=id z;refine h {s with heap:=h'} ⟨I.ok,I.os,I.bare,⟨fun b o e n hb hx=>?_,fun b o e n hb hx=>?_,I.base.free,fun b o e hx=>?_,I.base.cm,I.base.cT,I.base.cY⟩,⟨m,hn.sameBut hs (eP (gs x c hc)),fun j y v' e1 e2 e3=>?_⟩,fun y c' e=>?_,I.free,I.d_,fun p hp=>?_,tracked ⟨oc,wH,I.d_ x c hc⟩ hs,by simpa using I.len⟩ ⟨c,hs,.inr hc⟩
  ·exact (hs.2 b (cB (cW (ba e) (I.ok.lF x c sE hc)))).trans (I.base.keep b o e n hb hx)
  ·obtain ⟨sl,e1⟩:=I.base.slot b o e n hb hx
   exact ⟨sl,(hs.2 b (cB (cW (ba e) (I.ok.lF x c sE hc)))).trans e1⟩
  ·obtain ⟨o',e1⟩:=I.base.there b o e hx
   exact ⟨o',(hs.2 b (cB (cW (ba e) (I.ok.lF x c sE hc)))).trans e1⟩
  ·by_cases hj:j=i
   ·subst hj
    rw [hi] at e1;cases e1;rw [rY pP] at e2;cases e2;exact ⟨u,r,.inr ⟨.inl hk,c,hc,fQ⟩⟩
   ·rw [List.getElem?_set_ne (eP hj)] at e2
    obtain ⟨u',r',q⟩:=hl j y v' e1 e2 e3;refine ⟨u',r',?_⟩;rcases q with q | ⟨k,c',e,z'⟩;·exact .inl q
    ·refine .inr ⟨k,c',e,z'.sameBut hs ?_⟩
     rintro rfl;exact hj (sv hN e1 (I.ok.inj _ _ _ e hc▸hi))
  ·by_cases wI:c'=c
   ·subst wI;exact ⟨_,fQ⟩
   ·obtain ⟨w2,z2⟩:=I.cell y c' e
    exact ⟨w2,z2.sameBut hs wI⟩
  ·obtain ⟨e,n,ne,nf,d⟩:=I.pin p hp
   refine ⟨(hs.2 p.1 ?_).trans e,n,ne,nf,d⟩;intro q;rw [q,wH] at e;have q':oc=p.2:=Option.some.inj e;exact d w' (by rw [←q'];exact Bc)
theorem sF{v:V}(I:Inv X pins σ H s)(hN:X.N.Nodup)(hi:X.N[i]?=some x)(hx:Loc X.env.scope x)(r:RelV v u)
  (h:∀s',Inv X pins (σ.set i (some v)) H s'→Q () s') (hf:X.fn x=true∨X.env.scope.names.lookup x=some .local:=by first | exact .inl rfl | exact .inr rfl | assumption):wpAny M A (storeName X.env x u) Q E s:=
 wx I hN hi hx r (fun s' I' _=>h s' I') hf
theorem Inv.i9{s':Shared}(I:Inv X pins σ H s)(ho:s'.os=s.os)(u:Un (bH X.stack) ch H H' s.heap s'.heap)(aB:bM X.prog X.w H' s'.heap)(hg:AllBare s'.gens)
  (gX:∀b∈ch,(b∈X.ex∨X.s₀.heap.objs.size≤b)∧b≠X.env.locals∧(∀x c,X.env.cells.lookup x=some c→c≠b)∧∀p∈X.pn++pins,p.1≠b):Inv X pins σ H' s':=by
 obtain ⟨h',g',d',t',o'⟩:=s';have e:o'=s.os:=ho;subst e;exact I.call (g':=g') (t':=t') (d':=d') u aB hg gX
end
abbrev XK:=Value→Option Addr→Hp→Prop
abbrev St:=List (Option V)
abbrev VK:=V→Hp→Prop
abbrev TE:=St→Hp→VK→Prop
abbrev TT:=St→Hp→(Bool→Hp→Prop)→Prop
abbrev TA:=St→Hp→(List V→Hp→Prop)→Prop
structure Ends where
 nx:St→Hp→Prop
 rt:VK
 bk:St→Hp→Prop:=fun _ _=>False
 ct:St→Hp→Prop:=fun _ _=>False
abbrev TS:=Ends→St→Hp→Prop
def EP(X:Cx)(pins:aI)(σ:St)(Q:VK)(u:Value)(s':Shared):Prop:=∃v H',Inv X pins σ H' s'∧RelV v u∧Q v H'
def TP(X:Cx)(pins:aI)(σ:St)(Q:Bool→Hp→Prop)(b:Bool)(s':Shared):Prop:=∃H',Inv X pins σ H' s'∧Q b H'
def AP(X:Cx)(pins:aI)(σ:St)(Q:List V→Hp→Prop)(us:List Value)(s':Shared):Prop:=∃vs H',Inv X pins σ H' s'∧Vals vs us∧Q vs H'
def SP(X:Cx)(pins:aI)(D:Ends)(f:Flow)(s':Shared):Prop:=
 match f with
 | .next=>∃σ' H',Inv X pins σ' H' s'∧D.nx σ' H'
 | .brk=>∃σ' H',Inv X pins σ' H' s'∧D.bk σ' H'
 | .cont=>∃σ' H',Inv X pins σ' H' s'∧D.ct σ' H'
 | .ret u=>∃v σ' H',Inv X pins σ' H' s'∧RelV v u∧D.rt v H'
def PE(X:Cx)(e:Expr)(t:TE):Prop:=
 ∀(pins:aI) (s:Shared) (σ:St) (H:Hp) (Q:VK),Inv X pins σ H s→t σ H Q→wpAny (model X.prog X.w) X.A (eval e X.env) (EP X pins σ Q) X.xe s
def PT(X:Cx)(e:Expr)(t:TT):Prop:=
 ∀(pins:aI) (s:Shared) (σ:St) (H:Hp) (Q:Bool→Hp→Prop),Inv X pins σ H s→t σ H Q→wpAny (model X.prog X.w) X.A (isTrue e X.env (eval e X.env)) (TP X pins σ Q) X.xe s
def PW(X:Cx)(e:Expr)(t:TT):Prop:=
 ∀(whole:Sem Value) (pins:aI) (s:Shared) (σ:St) (H:Hp) (Q:Bool→Hp→Prop),Inv X pins σ H s→t σ H Q→wpAny (model X.prog X.w) X.A (isTrue e X.env whole) (TP X pins σ Q) X.xe s
variable {X:Cx}
theorem PW.pt{e:Expr}{t:TT}(h:PW X e t):PT X e t:=h _
def PA(X:Cx)(es:List Expr)(t:TA):Prop:=
 ∀(pos:Pos) (pins:aI) (s:Shared) (σ:St) (H:Hp) (Q:List V→Hp→Prop),Inv X pins σ H s→t σ H Q→wpAny (model X.prog X.w) X.A (spliced (backTo pos (starEach es X.env))) (AP X pins σ Q) X.xe s
def PS(X:Cx)(st:Stmt)(t:TS):Prop:=
 ∀(pins:aI) (s:Shared) (σ:St) (H:Hp) (D:Ends),Inv X pins σ H s→t D σ H→wpAny (model X.prog X.w) X.A (exec st X.env) (SP X pins D) X.xe s
def dS(X:Cx)(st:List Stmt)(t:TS):Prop:=
 ∀(pins:aI) (s:Shared) (σ:St) (H:Hp) (D:Ends),Inv X pins σ H s→t D σ H→wpAny (model X.prog X.w) X.A (execs st X.env) (SP X pins D) X.xe s
variable {M:Model} {A:Around} {E:aE} {s:Shared}
theorem aM{α:Type}{t:Sem α}{Q Q':α→Shared→Prop}(h:wpAny M A t Q E s)(hQ:∀a s,Q a s→Q' a s):wpAny M A t Q' E s:=bj h hQ fun _ _ x=>x
section
variable {X:Cx}
variable {pins:aI} {σ:St}
theorem bin{a b:Expr}{ta tb:TE}(ha:PE X a ta)(hb:PE X b tb){R:V→V→Hp→Prop}(I:Inv X pins σ H s)(h:ta σ H fun x H1=>tb σ H1 fun y H2=>R x y H2)
  {α:Type} {Q:α→Shared→Prop} {f:Value→Value→Sem α}
  (hf:∀v u s2 x y H2,Inv X pins σ H2 s2→RelV x v→RelV y u→R x y H2→wpAny (model X.prog X.w) X.A (f v u) Q X.xe s2) :
  wpAny (model X.prog X.w) X.A (eval a X.env) (fun v s₁=>wpAny (model X.prog X.w) X.A (eval b X.env) (fun u s₂=>wpAny (model X.prog X.w) X.A (f v u) Q X.xe s₂) X.xe s₁) X.xe s:=by
 refine aM (ha pins s σ H _ I h) fun v s1 ⟨x,H1,I1,r1,q1⟩=>?_;refine aM (hb pins s1 σ H1 _ I1 q1) fun u s2 ⟨y,H2,I2,r2,q2⟩=>?_;exact hf v u s2 x y H2 I2 r1 r2 q2
def nC(i:Nat):TE:=fun σ H Q=>∃v,σ[i]?=some (some v)∧Q v H
def tC(v:V):TE:=fun _ H Q=>Q v H
variable {x:Str} {pos:Pos}
theorem Bd{i:Nat}(hN:X.N[i]?=some x)(hv:jJ X.env.scope x)(hd:(x == ("__debug__":Str))=false:=by decide)(eV:(x == ("__classdict__":Str))=false:=by decide):PE X (.Name x pos) (nC i):=by
 intro pins s σ H Q I h;obtain ⟨v,e,h⟩:=h;obtain ⟨m,hn,hl⟩:=I.loc;obtain ⟨u,r,l⟩:=hl i x v hN e hv;have fin:EP X pins σ Q u s:=⟨v,H,I,r,h⟩;rcases l with ⟨hk,hm⟩ | ⟨hk,c,hc,wJ⟩;·exact wpAny_Name (wpAny_loadName_local I.ok.kind hk hn hm fin) hd
 ·rcases hk with hk | hk
  ·exact wpAny_Name (wpAny_loadName_cell I.ok.kind hk hc wJ fin) hd
  ·exact wpAny_Name (wpAny_loadName_free I.ok.kind hk hc wJ fin eV) hd
theorem af{i j pos}:PE X (.Constant (.int i) j pos) (tC (.int i)):=fun _ _ _ H _ I h=>wpAny_Constant_int ⟨.int i,H,I.tok _,⟨_,rfl⟩,h⟩
theorem fR{b j pos}:PE X (.Constant (.bool b) j pos) (tC (.bl b)):=fun _ _ _ H _ I h=>Constant_bool ⟨.bl b,H,I,rfl,h⟩
theorem Be{j pos}:PE X (.Constant .none j pos) (tC .aR):=fun _ _ _ H _ I h=>Constant_none ⟨.aR,H,I,rfl,h⟩
theorem aF{x j pos}:PE X (.Constant (.str x) j pos) (tC (.str x)):=fun _ _ _ H _ I h=>Calls.Constant_str ⟨.str x,H,I.tok _,⟨_,rfl⟩,h⟩
def Gl(X:Cx)(x:Str):Prop:=X.env.kindOf x=some .globalImplicit
variable {u:Value} {Q:aE}
theorem nE(I:Inv X pins σ H s)(hg:Gl X x)(hm:X.mg x=some u)(h:Q u s)
  (hd:(x == ("__debug__":Str))=false:=by decide):wpAny (model X.prog X.w) X.A (eval (.Name x pos) X.env) Q E s:=
 Calls.Name_function_global I.ok.kind hg (Calls.loadGlobal_global (by rw [I.ok.glob];exact I.mod.glob.keeps I.bk) hm h) hd
theorem lG(I:Inv X pins σ H s)(hg:Gl X x)(hm:X.mg x=none)(hv:bootBuiltins x=some u)(h:Q u s)
  (hn:x ≠ "__name__":=by decide) (hd:(x == ("__debug__":Str))=false:=by decide):wpAny (model X.prog X.w) X.A (eval (.Name x pos) X.env) Q E s:=by
 obtain ⟨mb,h1,h2⟩:=I.mod.blt;exact Calls.Name_function_global I.ok.kind hg (Calls.loadGlobal_builtin (by rw [I.ok.glob];exact I.mod.glob.keeps I.bk) hm (by rw [I.ok.blt];exact h1.keeps I.bk) ((h2 x hn).trans hv) h) hd
theorem ix{v:V}(hg:Gl X x)(hm:X.mg x=some u)(r:RelV v u)(hd:(x == ("__debug__":Str))=false:=by decide):PE X (.Name x pos) (tC v):=
 fun _ _ _ H _ I h=>nE I hg hm ⟨v,H,I,r,h⟩ hd
theorem jK{v:V}(hg:Gl X x)(hm:X.mg x=none)(hv:bootBuiltins x=some u)(r:RelV v u)(hn:x ≠ "__name__":=by decide)(hd:(x == ("__debug__":Str))=false:=by decide):PE X (.Name x pos) (tC v):=
 fun _ _ _ H _ I h=>lG I hg hm hv ⟨v,H,I,r,h⟩ hn hd
variable {a b:Expr} {ta tb:TE} {pos:Pos}
def PC(X:Cx)(op:CmpOp)(a b:Expr)(t:TE):Prop:=
 ∀(pins:aI) (s:Shared) (σ:St) (H:Hp) (Q:VK),Inv X pins σ H s→t σ H Q→
  wpAny (model X.prog X.w) X.A (eval a X.env) (fun v s₁=>wpAny (model X.prog X.w) X.A (eval b X.env) (fun u s₂=>wpAny (model X.prog X.w) X.A (compareOp op v u) (EP X pins σ Q) X.xe s₂) X.xe s₁) X.xe s
def tB(t:TE):TT:=fun σ H Q=>t σ H fun x H1=>∃c,x=.bl c∧Q c H1
variable {t:TE}
theorem Jn{op:CmpOp}(h:PC X op a b t)(h1:behindInMarks op b=false:=by first | exact JH _ (by decide) (by decide) | rfl):PT X (.Compare a [op] [b] pos) (tB t):=by intro pins s σ H Q I hw;refine wpAny_isTrue_Compare1 (aM (h pins s σ H _ I hw) fun v s1 h1=>aM h1 fun u s2 h2=>aM h2 fun c s3 ⟨x,H1,I1,r1,q1⟩=>?_) h1;obtain ⟨d,rfl,q⟩:=q1;cases r1;exact iX ⟨H1,I1,q⟩
theorem fS{e:Expr}(h:PE X e t)(he:∀whole,isTrue e X.env whole=(do let v ←whole;standAt e.pos;holding [v] (truthy v)):=by intro _;rfl):PT X e (tB t):=by
 intro pins s σ H Q I hw
 refine isTrue_plain (aM (h pins s σ H _ I hw) fun v s1 ⟨x,H1,I1,r1,q1⟩=>?_) (he _)
 obtain ⟨d,rfl,q⟩:=q1
 cases r1
 exact iX ⟨H1,I1,q⟩
variable {tA nF:TT} {rest:List Expr}
def Bf(t u:TT):TT:=fun σ H Q=>t σ H fun c H1=>if c=true then u σ H1 Q else Q false H1
def Bg(t u:TT):TT:=fun σ H Q=>t σ H fun c H1=>if c=true then Q true H1 else u σ H1 Q
def Bh(t:TT):TT:=fun σ H Q=>t σ H fun c H1=>Q (!c) H1
theorem pw_and1(ha:PT X a tA):PW X (.BoolOp .And [a] pos) tA:=by
 intro wh pins s σ H Q I h;refine isTrue_and (aM (ha pins s σ H Q I h) fun c s1 e=>?_);cases c with
 | true=>exact isTrue_and_nil e
 | false=>exact e
theorem pw_or1(ha:PT X a tA):PW X (.BoolOp .Or [a] pos) tA:=by
 intro wh pins s σ H Q I h;refine isTrue_or (aM (ha pins s σ H Q I h) fun c s1 e=>?_);cases c with
 | false=>exact isTrue_or_nil e
 | true=>exact e
theorem pw_and(ha:PT X a tA)(hb:PW X (.BoolOp .And (b::rest) pos) nF):PW X (.BoolOp .And (a::b::rest) pos) (Bf tA nF):=by
 intro wh pins s σ H Q I h;refine isTrue_and (aM (ha pins s σ H _ I h) fun c s1 ⟨H1,I1,q1⟩=>?_);cases c with
 | true=>exact hb wh pins s1 σ H1 Q I1 q1
 | false=>exact ⟨H1,I1,q1⟩
theorem pw_or(ha:PT X a tA)(hb:PW X (.BoolOp .Or (b::rest) pos) nF):PW X (.BoolOp .Or (a::b::rest) pos) (Bg tA nF):=by
 intro wh pins s σ H Q I h;refine isTrue_or (aM (ha pins s σ H _ I h) fun c s1 ⟨H1,I1,q1⟩=>?_);cases c with
 | true=>exact ⟨H1,I1,q1⟩
 | false=>exact hb wh pins s1 σ H1 Q I1 q1
theorem gY(ha:PT X a tA):PT X (.UnaryOp .Not a pos) (Bh tA):=by intro pins s σ H Q I h;exact isTrue_not (ha pins s σ H (fun c H1=>Q (!c) H1) I h)
def Bj(ta tb:TE):TE:=fun σ H Q=>ta σ H fun x H1=>∃c,x=.bl c∧if c=true then tb σ H1 Q else Q (.bl false) H1
def Bk(ta tb:TE):TE:=fun σ H Q=>ta σ H fun x H1=>∃c,x=.bl c∧if c=true then Q (.bl true) H1 else tb σ H1 Q
def Bl(ta:TE):TE:=fun σ H Q=>ta σ H fun x H1=>∃c,x=.bl c∧Q (.bl (!c)) H1
theorem ee{op}{t:TE}(h:PE X a t):PE X (.BoolOp op [a] pos) t:=fun pins s σ H Q I hw=>BoolOp_one (h pins s σ H Q I hw)
theorem dU(ha:PE X a ta)(hb:PE X (.BoolOp .And (b::rest) pos) tb):PE X (.BoolOp .And (a::b::rest) pos) (Bj ta tb):=by
 intro pins s σ H Q I h;refine BoolOp_and (aM (ha pins s σ H _ I h) fun v s1 ⟨x,H1,I1,r1,q1⟩=>?_);obtain ⟨c,rfl,q1⟩:=q1;cases r1;refine iX ?_;cases c with
 | true=>exact hb pins s1 σ H1 Q I1 q1
 | false=>exact ⟨.bl false,H1,I1,rfl,q1⟩
theorem sG(ha:PE X a ta)(hb:PE X (.BoolOp .Or (b::rest) pos) tb):PE X (.BoolOp .Or (a::b::rest) pos) (Bk ta tb):=by
 intro pins s σ H Q I h;refine BoolOp_or (aM (ha pins s σ H _ I h) fun v s1 ⟨x,H1,I1,r1,q1⟩=>?_);obtain ⟨c,rfl,q1⟩:=q1;cases r1;refine iX ?_;cases c with
 | false=>exact hb pins s1 σ H1 Q I1 q1
 | true=>exact ⟨.bl true,H1,I1,rfl,q1⟩
theorem Bm(ha:PE X a ta):PE X (.UnaryOp .Not a pos) (Bl ta):=by intro pins s σ H Q I h;refine UnaryOp_ (aM (ha pins s σ H _ I h) fun v s1 ⟨x,H1,I1,r1,q1⟩=>?_);obtain ⟨c,rfl,q1⟩:=q1;cases r1;exact not_of (iX ⟨.bl (!c),H1,I1,rfl,q1⟩)
end
def cn(K:aJ)(H:Hp)(a:Addr)(xs:List V):Prop:=
 Rd H a (.lst xs) ∨
  ∃(o:Obj) (au:Array Value) (n:Nat),K.lookup a=some o∧o.cls=.type "list"∧o.dict=none∧o.data=.seq au n∧au.size≤sizeLine∧Vals xs au.toList
def cF(K:aJ)(H:Hp)(a:Addr)(xs:List V):Prop:=
 Rd H a (.tup xs) ∨
  ∃(o:Obj) (au:Array Value) (n:Nat),K.lookup a=some o∧o.cls=.type "tuple"∧o.data=.seq au n∧au.size≤sizeLine∧Vals xs au.toList
def Bo:Value→Option V
 | .none=>some .aR
 | .bool b=>some (.bl b)
 | .int i _=>some (.int i)
 | .str x _=>some (.str x)
 | .bytes b _=>some (.gr b)
 | .float b _=>some (.lD b)
 | .ref a=>some (.ref a)
 | .type n=>some (.ty n)
 | _=>none
variable {x:V} {u:Value}
theorem RelV.abs(r:RelV x u):Bo u=some x:=by
 cases x with
 | aR=>cases r;rfl
 | bl _=>cases r;rfl
 | int _=>obtain ⟨t,rfl⟩:=r;rfl
 | str _=>obtain ⟨t,rfl⟩:=r;rfl
 | gr _=>obtain ⟨t,rfl⟩:=r;rfl
 | lD _=>obtain ⟨t,rfl⟩:=r;rfl
 | ref _=>cases r;rfl
 | ty _=>cases r;rfl
theorem RelV.inj{y:V}(r:RelV x u)(q:RelV y u):x=y:=Option.some.inj (r.abs.symm.trans q.abs)
theorem Vals.inj:∀{xs ys:List V} {us:List Value},Vals xs us→Vals ys us→xs=ys
 | _,_,_,.nil,.nil=>rfl
 | _,_,_,.cons r t,.cons r' t'=>by rw [r.inj r',Vals.inj t t']
section
variable {X:Cx} {pins:aI} {σ:St} {H:Hp} {s:Shared} {a:Addr} {xs ys:List V}
variable {K:aJ}
theorem cn.of(h:H a=some (.lst xs)):cn K H a xs:=.inl (.inl h)
theorem cF.of(h:H a=some (.tup xs)):cF K H a xs:=.inl (.inl h)
theorem Inv.list(I:Inv X pins σ H s)(h:cn X.K H a xs):∃au:List Value,Vals xs au∧PlainL s.heap a au.toArray∧xs.length≤sizeLine:=by
 rcases h with h | ⟨o,au,n,hk,hc,hd,hs,hz,r⟩
 ·obtain ⟨z,au,n,r,e⟩:=h.ok I.aB
  exact ⟨au,r,⟨_,n,e,rfl,rfl,rfl⟩,z⟩
 ·refine ⟨au.toList,r,⟨o,n,I.cJ a o hk,hc,hd,by simpa using hs⟩,?_⟩
  have e:=r.length;simp only [fN] at e;omega
theorem Inv.tuple(I:Inv X pins σ H s)(h:cF X.K H a xs):∃au:List Value,Vals xs au∧IsTup s.heap a au.toArray∧xs.length≤sizeLine:=by
 rcases h with h | ⟨o,au,n,hk,hc,hs,hz,r⟩
 ·obtain ⟨z,au,r,p⟩:=h.ok I.aB
  exact ⟨au,r,p,z⟩
 ·refine ⟨au.toList,r,⟨o,I.cJ a o hk,hc,n,by simpa using hs⟩,?_⟩
  have e:=r.length;simp only [fN] at e;omega
theorem Inv.Bp(I:Inv X pins σ H s)(h:cn X.K H a xs)(h':cn X.K H a ys):xs=ys:=by
 obtain ⟨au,r,⟨o,n,e,_,_,d⟩,_⟩:=I.list h;obtain ⟨its',r',⟨o',n',e',_,_,d'⟩,_⟩:=I.list h';rw [e] at e';cases e';rw [d] at d';injection d' with d1 _;have:au=its':=by simpa using cw Array.toList d1
 subst this;exact r.inj r'
theorem Inv.Bq(I:Inv X pins σ H s)(h:cF X.K H a xs)(h':cF X.K H a ys):xs=ys:=by
 obtain ⟨au,r,⟨o,e,_,n,d⟩,_⟩:=I.tuple h;obtain ⟨its',r',⟨o',e',_,n',d'⟩,_⟩:=I.tuple h';rw [e] at e';cases e';rw [d] at d';injection d' with d1 _;have:au=its':=by simpa using cw Array.toList d1
 subst this;exact r.inj r'
end
abbrev Cx.fT (X:Cx) (E:aE):Cx:={X with xe:=E}
abbrev Cx.jL (X:Cx):Cx:=X.fT fun _ _=>False
theorem Cx.Ok.fT(ok:X.Ok)(E:aE):(X.fT E).Ok:=
 ⟨ok.mod,ok.kind,ok.glob,ok.blt,ok.above,ok.inj,ok.has,ok.lF,ok.hd,ok.frames,ok.eU,ok.sr,ok.bs,ok.fz,ok.i7,ok.i8,ok.fO,ok.iu⟩
theorem Cx.Ok.gZ(ok:(X.fT E).Ok):X.Ok:=
 ⟨ok.mod,ok.kind,ok.glob,ok.blt,ok.above,ok.inj,ok.has,ok.lF,ok.hd,ok.frames,ok.eU,ok.sr,ok.bs,ok.fz,ok.i7,ok.i8,ok.fO,ok.iu⟩
section
variable {X:Cx} {pins:aI} {σ:St} {H:Hp} {s:Shared} {E:aE}
theorem Inv.fT(I:Inv X pins σ H s)(E:aE):Inv (X.fT E) pins σ H s:=⟨I.ok.fT E,I.os,I.bare,I.base,I.loc,I.cell,I.free,I.d_,I.pin,I.aB,I.len⟩
theorem Inv.gZ(I:Inv (X.fT E) pins σ H s):Inv X pins σ H s:=⟨I.ok.gZ,I.os,I.bare,I.base,I.loc,I.cell,I.free,I.d_,I.pin,I.aB,I.len⟩
theorem SP.gZ{D:Ends}{f:Flow}{s':Shared}(h:SP (X.fT E) pins D f s'):SP X pins D f s':=by
 cases f with
 | next=>obtain ⟨σ',H',I,q⟩:=h;exact ⟨σ',H',I.gZ,q⟩
 | brk=>obtain ⟨σ',H',I,q⟩:=h;exact ⟨σ',H',I.gZ,q⟩
 | cont=>obtain ⟨σ',H',I,q⟩:=h;exact ⟨σ',H',I.gZ,q⟩
 | ret u=>obtain ⟨v,σ',H',I,r,q⟩:=h;exact ⟨v,σ',H',I.gZ,r,q⟩
theorem dS.jL{st:List Stmt}{t:TS}(h:dS X.jL st t):dS X st t:=fun pins s σ H D I hw=>bj (h pins s σ H D (I.fT _) hw) (fun _ _ q=>q.gZ) fun _ _ z=>False.elim z
end
section
variable {X:Cx} {st:Stmt} {rest:List Stmt} {t u:TS} {e:Expr} {te:TE} {pos:Pos}
def wK:TS:=fun D σ H=>D.nx σ H
def wL(t u:TS):TS:=fun D σ H=>t {D with nx:=u D} σ H
theorem bU:dS X [] wK:=fun _ _ σ H _ I h=>k4 ⟨σ,H,I,h⟩
theorem aL(h1:PS X st t)(h2:dS X rest u):dS X (st::rest) (wL t u):=by
 intro pins s σ H D I h;refine pe (aM (h1 pins s σ H {D with nx:=u D} I h) fun f s1 q=>?_);cases f with
 | next=>obtain ⟨σ',H',I',q⟩:=q;exact h2 pins s1 σ' H' D I' q
 | ret v=>exact q
 | brk=>exact q
 | cont=>exact q
theorem aS(h1:PS X st t):dS X [st] t:=by
 intro pins s σ H D I h;refine pe (aM (h1 pins s σ H D I h) fun f s1 q=>?_);cases f with
 | next=>exact k4 q
 | ret v=>exact q
 | brk=>exact q
 | cont=>exact q
theorem Inv.quiet{pins:aI}{σ:St}(I:Inv X pins σ H s):interactive X.env=false:=by simp [interactive,I.ok.kind]
def Br(te:TE):TS:=fun D σ H=>te σ H fun _ H1=>D.nx σ H1
theorem pQ(he:PE X e te)(hs:swapsWith e none pos.line X.env=pure false:=by rfl):PS X (.Expr e pos) (Br te):=by intro pins s σ H D I h;exact wpAny_Expr_any (aM (he pins s σ H _ I h) fun v s1 ⟨x,H1,I1,r1,q1⟩=>⟨σ,H1,I1,q1⟩) I.quiet hs
def wM(te:TE):TS:=fun D σ H=>te σ H D.rt
theorem bo(he:PE X e te):PS X (.Return (some e) pos) (wM te):=by intro pins s σ H D I h;exact wpAny_Return_some (aM (he pins s σ H _ I h) fun v s1 ⟨x,H1,I1,r1,q1⟩=>⟨x,σ,H1,I1,r1,q1⟩)
def Bs(c:TT)(t u:TS):TS:=fun D σ H=>c σ H fun b H1=>if b=true then t D σ H1 else u D σ H1
theorem bV{c:Expr}{a b:List Stmt}{tc:TT}(hc:PT X c tc)(ha:dS X a t)(hb:dS X b u):PS X (.If c a b pos) (Bs tc t u):=by
 intro pins s σ H D I h;refine wpAny_If (aM (hc pins s σ H _ I h) fun d s1 ⟨H1,I1,q1⟩=>?_);cases d with
 | true=>exact ha pins s1 σ H1 D I1 q1
 | false=>exact hb pins s1 σ H1 D I1 q1
end
abbrev TG:=V→St→Hp→(St→Hp→Prop)→Prop
abbrev jM:=List V→St→Hp→(St→Hp→Prop)→Prop
def PG(X:Cx)(target:Expr)(t:TG):Prop:=
 ∀(pins:aI) (s:Shared) (σ:St) (H:Hp) (v:V) (u:Value) (Q:St→Hp→Prop),Inv X pins σ H s→RelV v u→t v σ H Q→
  wpAny (model X.prog X.w) X.A (assign target X.env u) (fun _ s'=>∃σ' H',Inv X pins σ' H' s'∧Q σ' H') X.xe s
def pR(X:Cx)(ts:List Expr)(t:jM):Prop:=
 ∀(pins:aI) (s:Shared) (σ:St) (H:Hp) (vs:List V) (us:List Value) (Q:St→Hp→Prop),Inv X pins σ H s→Vals vs us→t vs σ H Q→
  wpAny (model X.prog X.w) X.A (assignInOrder ((assignEach ts X.env).map (·.2)) us) (fun _ s'=>∃σ' H',Inv X pins σ' H' s'∧Q σ' H') X.xe s
abbrev sI:=V→V→V→Hp→(Hp→Prop)→Prop
def wN(X:Cx)(t:sI):Prop:=
 ∀(pins:aI) (s:Shared) (σ:St) (H:Hp) (o i v:V) (ov iv u:Value) (Q:Hp→Prop),Inv X pins σ H s→RelV o ov→RelV i iv→RelV v u→t o i v H Q→
  wpAny (model X.prog X.w) X.A (setItem ov iv u) (fun _ s'=>∃H',Inv X pins σ H' s'∧Q H') X.xe s
section
variable {X:Cx} {pos:Pos}
def cZ(i:Nat):TG:=fun v σ H Q=>Q (σ.set i (some v)) H
variable {i:Nat}
theorem fA{x:Str}(hN:X.N.Nodup)(hi:X.N[i]?=some x)(hx:Loc X.env.scope x)(hf:X.fn x=true∨X.env.scope.names.lookup x=some .local:=by first | exact .inl rfl | exact .inr rfl | assumption):PG X (.Name x pos) (cZ i):=by intro pins s σ H v u Q I r h;exact wpAny_assign_Name (sF I hN hi hx r (fun s' I'=>⟨_,H,I',h⟩) hf)
def wO:jM:=fun vs σ H Q=>vs=[]∧Q σ H
def sJ(t:TG)(u:jM):jM:=fun vs σ H Q=>∃v r,vs=v::r∧t v σ H fun σ' H'=>u r σ' H' Q
theorem Bt:pR X [] wO:=by intro pins s σ H vs us Q I r h;obtain ⟨e,h⟩:=h;subst e;cases r;exact assignInOrder_nil ⟨σ,H,I,h⟩
variable {e:Expr} {es:List Expr}
theorem wQ{t:TG}{u:jM}(h1:PG X e t)(h2:pR X es u)
  (hs:(assignEach (e::es) X.env).map (·.2)=assign e X.env::(assignEach es X.env).map (·.2):=by rfl):pR X (e::es) (sJ t u):=by
 intro pins s σ H vs us Q I r h;obtain ⟨v,vr,e1,h⟩:=h;subst e1;cases r with
 | cons r rr=>rw [hs];refine assignInOrder_cons (aM (h1 pins s σ H _ _ _ I r h) fun _ s1 ⟨σ1,H1,I1,q1⟩=>?_);exact h2 pins s1 σ1 H1 _ _ Q I1 rr q1
def wR(K:aJ)(n:Nat)(t:jM):TG:=fun v σ H Q=>∃a xs,v=.ref a∧cF K H a xs∧xs.length=n∧t xs σ H Q
theorem Bu{k:Nat}{t:jM}{n:Nat}(hc:X.calm=true)(h:pR X es t)
  (hn:(assignEach es X.env).length=n:=by rfl) (Bv:(assignEach es X.env).findIdx? (·.1)=none:=by rfl):PG X (.Tuple es k pos) (wR X.K n t):=by
 intro pins s σ H v u Q I r hw;obtain ⟨a,xs,e1,hq,hl,hw⟩:=hw;subst e1;cases r;obtain ⟨au,rv,ht,hz⟩:=I.tuple hq;refine assign_Tuple_tuple (I.ok.hd hc) ht (by simp [hn,←hl,rv.length]) Bv fun h' hx=>?_
 have I1:Inv X pins σ H {s with heap:=h'}:=I.kept (t':=s.toks) fun b o e=>hx b o (cB (ba e)) e;exact h pins _ σ H xs _ Q I1 (by simpa using rv) hw
def Bw(to ti:TE)(t:sI):TG:=fun v σ H Q=>to σ H fun o H1=>ti σ H1 fun i H2=>t o i v H2 fun H3=>Q σ H3
theorem Bx{o i:Expr}{to ti:TE}{t:sI}(ho:PE X o to)(hi:PE X i ti)(hs:wN X t)
  (ha:∀v,assign (.Subscript o i pos) X.env v=(do
   let ov ←holding [v] (eval o X.env)
   let iv ←holding [v,ov] (eval i X.env)
   standAt pos
   holding [v,ov,iv] (setItem ov iv v)
   release [v,ov,iv] []):=by intro _;rfl):PG X (.Subscript o i pos) (Bw to ti t):=by
 intro pins s σ H v u Q I r h
 rw [ha]
 refine aA (ik (aM (ho pins s σ H _ I h) fun ov s1 ⟨x,H1,I1,r1,q1⟩=>?_))
 refine aA (ik (aM (hi pins s1 σ H1 _ I1 q1) fun iv s2 ⟨y,H2,I2,r2,q2⟩=>?_))
 refine aA (m9 (aA (ik (aM (hs pins s2 σ H2 x y v ov iv u _ I2 r1 r2 r q2) fun _ s3 ⟨H3,I3,q3⟩=>?_))))
 exact wpAny_release ⟨σ,H3,I3,q3⟩
def jN(te:TE)(g:TG):TS:=fun D σ H=>te σ H fun x H1=>g x σ H1 D.nx
theorem By{tg e:Expr}{te:TE}{g:TG}(he:PE X e te)(hg:PG X tg g)(hs:swapsWithSole [tg] e pos.line X.env=pure false:=by rfl)(hw:swappedStores [tg] e X.env=pure none:=by rfl)
  (h1:(assignEach [tg] X.env).map (·.2)=[assign tg X.env]:=by rfl):PS X (.Assign [tg] e pos) (jN te g):=by
 intro pins s σ H D I h;refine wpAny_Assign_stores (aM (he pins s σ H _ I h) fun v s1 ⟨x,H1,I1,r1,q1⟩=>?_) hs hw;rw [h1];exact aM (hg pins s1 σ H1 x v _ I1 r1 q1) fun _ s2 q=>q
theorem Bz{x:Str}{te:TE}{pos':Pos}(hN:X.N.Nodup)(hi:X.N[i]?=some x)(hx:Loc X.env.scope x)(he:PE X e te)(hs:swapsWith e (some (.Name x pos')) pos.line X.env=pure false:=by rfl)(hf:X.fn x=true∨X.env.scope.names.lookup x=some .local:=by first | exact .inl rfl | exact .inr rfl | assumption) :
  PS X (.Assign [.Name x pos'] e pos) (jN te (cZ i)):=by
 intro pins s σ H D I h;refine wpAny_Assign_Name (aM (he pins s σ H _ I h) fun v s1 ⟨y,H1,I1,r1,q1⟩=>?_) hs;exact sF I1 hN hi hx r1 (fun s2 I2=>⟨_,H1,I2,q1⟩) hf
end
section
variable {X:Cx} {pos:Pos}
end
structure It where
 go:Nat→Hp→Prop
 dH:Nat→Hp→V→Hp→Prop
 stop:Nat→Hp→Prop
def iy(X:Cx)(pins:aI)(H:Hp)(b:Addr):Prop:=
 H b=none∧b≠X.env.locals∧b∉X.fs∧(b∈X.ex∨X.s₀.heap.objs.size≤b)∧(∀x c,X.env.cells.lookup x=some c→c≠b)∧∀p∈X.pn++pins,p.1≠b
variable {σ:St}
theorem Inv.sL{pins:aI}{H':Hp}(I:Inv X pins σ H s)(hb:s.heap.objs.size≤b)(hn:H' b=none):iy X pins H' b:=by
 refine ⟨hn,Nat.ne_of_gt (cW I.lt hb),I.A9 hb,.inr (cE I.sz hb),fun x c e z=>?_,fun p hp z=>?_⟩
 ·obtain ⟨v,q⟩:=I.cell x c e
  exact absurd (cW q.lt (by rw [z];exact hb)) (fj _)
 ·exact absurd (cW (ba (I.pin p hp).1) (by rw [z];exact hb)) (fj _)
structure Turn (P:Program) (w:World) (K:aJ) (tg:Expr) (J:It) (fp:List Addr) (it:Addr) (tn:Nat→Heap→Prop):Prop where
 mem:it∈fp
 obj:∀i h,tn i h→∀b∈fp,∃o,h.get? b=some o∧∀v,o.data≠.cell v
 keep:∀i h h',tn i h→(∀b∈fp,∀o,h.get? b=some o→h'.get? b=some o)→tn i h'
 item:∀(X:Cx),X.prog=P→X.w=w→X.K=K→X.calm=true→∀(i:Nat) (pins:aI) (s:Shared) (σ:St) (H:Hp) (E:aE),Inv X pins σ H s→(∀b∈fp,iy X pins H b)→tn i s.heap→J.go i H→
  wpAny (model P w) X.A (pyNext (.ref it)) (fun r s1=>∃u,r=some u ∧
   wpAny (model P w) X.A (letOwnedTupleGo tg (.ref it) u) (fun _ s2=>∃x H',Inv X pins σ H' s2∧RelV x u∧J.dH i H x H'∧tn (i+1) s2.heap∧∀b∈fp,H' b=none) E s1) E s
 done:∀(X:Cx),X.prog=P→X.w=w→X.K=K→X.calm=true→∀(i:Nat) (pins:aI) (s:Shared) (σ:St) (H:Hp) (E:aE),Inv X pins σ H s→(∀b∈fp,iy X pins H b)→tn i s.heap→J.stop i H→
  wpAny (model P w) X.A (pyNext (.ref it)) (fun r s1=>r=none∧Inv X pins σ H s1) E s
 self:∀(A:Around) (i:Nat) (s:Shared) (Q:aE) (E:aE),tn i s.heap→Q (.ref it) s→wpAny (model P w) A (pyIter (.ref it)) Q E s
abbrev TI:=St→Hp→(It→Hp→Prop)→Prop
def wU(X:Cx)(pins:aI)(σ:St)(tg:Expr)(R:It→Hp→Prop)(nG:Value)(s2:Shared):Prop:=
 ∃(it:Addr) (fp:List Addr) (tn:Nat→Heap→Prop) (J:It) (H':Hp),nG=.ref it∧Inv X pins σ H' s2∧Turn X.prog X.w X.K tg J fp it tn∧tn 0 s2.heap∧(∀b∈fp,iy X pins H' b)∧R J H'
def PI(X:Cx)(tg iter:Expr)(wi:TI):Prop:=
 ∀(pins:aI) (s:Shared) (σ:St) (H:Hp) (R:It→Hp→Prop),Inv X pins σ H s→wi σ H R→
  wpAny (model X.prog X.w) X.A (eval iter X.env) (fun v s1=>wpAny (model X.prog X.w) X.A (pyIter v) (wU X pins σ tg R) X.xe s1) X.xe s
variable {tg:Expr}
theorem wV{it:Addr}{o:Obj}{n:String}{vs:Array Value}{Q:Unit→Shared→Prop}(ho:s.heap.get? it=some o)(hc:o.cls=.type n)(hd:o.data=.fields vs)
    (hn:["enumerate","zip","dict_itemiterator","dict_reverseitemiterator","odict_iterator","itertools.zip_longest","itertools.pairwise"].contains n=false) (hQ:Q () s):wpAny M A (letOwnedTupleGo tg (.ref it) u) Q E s:=by
  unfold letOwnedTupleGo
  cases tg <;> first
    | exact a_ hQ
    | (cases u <;> first
        | exact a_ hQ
        | (refine aA (wpAny_load ho ?_)
           rw [hc,hd];show wpAny M A (if (["enumerate","zip","dict_itemiterator","dict_reverseitemiterator","odict_iterator","itertools.zip_longest","itertools.pairwise"].contains n && vs[0]? == some (rawInt _))=true then _ else _) Q E s
           rw [ai (by intro h;rw [hn,Bool.false_and] at h;cases h)]
           exact a_ hQ))
def i_(K:aJ)(a:Addr):It:=
 ⟨fun i H=>∃xs x,cn K H a xs∧xs[i]?=some x,fun i H x H'=>H'=H∧∀xs,cn K H a xs→xs[i]?=some x,fun i H=>∃xs,cn K H a xs∧xs.length≤i⟩
def g6(lo:Int)(n:Nat):It:=⟨fun i _=>i<n,fun i H x H'=>H'=H∧x=.int (lo+i),fun i _=>n≤i⟩
variable {K:aJ}
theorem BA(a it:Addr):Turn P w K tg (i_ K a) [it] it (fun i h=>h.IsListIter it a i) where
 mem:=by simp
 obj:=fun i h st b hb=>by
  have e:b=it:=by simpa using hb
  subst e;obtain ⟨o,e,c,d⟩:=st;exact ⟨o,e,fun v z=>by rw [d] at z;cases z⟩
 keep:=fun i h h' st k=>st.at fun o e=>k it (by simp) o e
 item:=by
  intro X hP hw hK hc i pins s σ H E I hf st hg;subst hP hw hK;obtain ⟨xs,x,hq,hx⟩:=hg;obtain ⟨au,rv,p,hz⟩:=I.list hq;obtain ⟨u,hu,ru⟩:=rv.get hx;obtain ⟨f0,f1,f2,f3,f4,f5⟩:=hf it (by simp)
  refine wpAny_pyNext_list_item st p.isList (x:=u) (by simpa using hu) fun h' av sb=>?_
  have I1:Inv X pins σ H {s with heap:=h'}:=I.turned (t':=s.toks) (fun b o hb e=>(sb.2 b hb).trans e) f0 f1 f3 f4 f5;obtain ⟨o,e,c,d⟩:=id av;exact ⟨u,rfl,wV (s:={s with heap:=h'}) e c d (by decide) ⟨x,H,I1,ru,⟨rfl,fun ys hy=>by rw [I.Bp hy hq];exact hx⟩,av,fun b hb=>(hf b hb).1⟩⟩
 done:=by
  intro X hP hw hK hc i pins s σ H E I hf st hg;subst hP hw hK;obtain ⟨xs,hq,hx⟩:=hg;obtain ⟨au,rv,p,hz⟩:=I.list hq;obtain ⟨f0,f1,f2,f3,f4,f5⟩:=hf it (by simp)
  have hl:=rv.length;exact wpAny_pyNext_list_end (I.ok.hd hc) st p.isList (by simp;omega) fun h' eb=>⟨rfl,I.turned (t':=s.toks) (fun b o hb e=>eb b o hb e) f0 f1 f3 f4 f5⟩
 self:=fun _ _ _ _ _ st h=>wpAny_pyIter_listiter st h
theorem BB(it:Addr)(lo:Int)(n:Nat):Turn P w K tg (g6 lo n) [it] it (fun i h=>IsRangeIter h it (lo+(i:Nat)*1) ((n:Int)-(i:Nat)) 1) where
 mem:=by simp
 obj:=fun i h st b hb=>by
  have e:b=it:=by simpa using hb
  subst e;exact ⟨_,st,fun v z=>by have z':Data.fields _=Data.cell v:=z;cases z'⟩
 keep:=fun i h h' st k=>k it (by simp) _ st
 item:=by
  intro X hP hw hK hc i pins s σ H E I hf st hg;subst hP hw hK;obtain ⟨f0,f1,f2,f3,f4,f5⟩:=hf it (by simp)
  have W:=Walks.range (prog:=X.prog) (w:=X.w) (I.ok.hd hc) it lo 1 n;refine W.item i s _ _ hg st fun v h' tk hv av kk=>?_;obtain ⟨t,rfl⟩:=hv;have I1:Inv X pins σ H {s with heap:=h',toks:=tk}:=I.turned (fun b o hb e=>kk b o (by simpa using hb) e) f0 f1 f3 f4 f5
  refine ⟨_,rfl,wV (s:={s with heap:=h',toks:=tk}) (n:="range_iterator") av rfl rfl (by decide) ⟨.int (lo+i),H,I1,⟨t,?_⟩,⟨rfl,rfl⟩,av,fun b hb=>(hf b hb).1⟩⟩
  rw [Int.mul_one]
 done:=by
  intro X hP hw hK hc i pins s σ H E I hf st hg;subst hP hw hK;obtain ⟨f0,f1,f2,f3,f4,f5⟩:=hf it (by simp)
  exact wpAny_pyNext_range_end (I.ok.hd hc) st (by have:n≤i:=hg;omega) fun h' eb=>⟨rfl,I.turned (t':=s.toks) (fun b o hb e=>eb b o hb e) f0 f1 f3 f4 f5⟩
 self:=fun _ _ _ _ _ st h=>wpAny_pyIter_rangeiter st h
section
variable {X:Cx} {tg:Expr}
def wW(K:aJ)(tl:TE):TI:=fun σ H R=>tl σ H fun x H1=>∃a,x=.ref a∧(∃xs,cn K H1 a xs)∧R (i_ K a) H1
theorem wX{l:Expr}{tl:TE}(hl:PE X l tl):PI X tg l (wW X.K tl):=by
 intro pins s σ H R I h;refine aM (hl pins s σ H _ I h) fun v s1 ⟨x,H1,I1,r1,q1⟩=>?_;obtain ⟨a,e,⟨xs,hq⟩,q⟩:=q1;subst e;cases r1;obtain ⟨au,rv,p,hz⟩:=I1.list hq;refine wpAny_pyIter_list p.isList ?_;refine ⟨s1.heap.objs.size,[s1.heap.objs.size],_,_,H1,rfl,I1.kept (t':=s1.toks) fun b o e=>b_ _ e,BA a _,⟨_,dP _ rfl,rfl,rfl⟩,fun b hb=>?_,q⟩;have e:b=s1.heap.objs.size:=by simpa using hb
 subst e;exact I1.sL (aG _) (I1.aB.fresh (aG _))
variable {pins:aI}
theorem wY{R:It→Hp→Prop}{lo hi:Int}{t u v:Tok}{tk:Nat}(I:Inv X pins σ H s)(h1:-(2 ^ 62)≤lo)(h2:lo<2 ^ 62)(h3:-(2 ^ 62)≤hi)(h4:hi<2 ^ 62)
  (q:R (g6 lo (hi-lo).toNat) H):wpAny (model X.prog X.w) X.A (pyIter (.ref s.heap.objs.size)) (wU X pins σ tg R) E {s with heap:=s.heap.push {cls:=.type "range",data:=.fields #[.int lo t,.int hi u,.int 1 v]},toks:=tk}:=by
 refine wpAny_pyIter_range (IsRange.new ..) (small_one h1 h2 h3 h4) ?_;have I1:Inv X pins σ H {s with heap:=s.heap.push {cls:=.type "range",data:=.fields #[.int lo t,.int hi u,.int 1 v]},toks:=tk}:=I.kept fun b o e=>b_ _ e
 refine ⟨(s.heap.push {cls:=.type "range",data:=.fields #[.int lo t,.int hi u,.int 1 v]}).objs.size,[(s.heap.push {cls:=.type "range",data:=.fields #[.int lo t,.int hi u,.int 1 v]}).objs.size],_,_,H,rfl,
  I1.kept (t':=tk) fun b o e=>b_ _ e,BB _ lo (hi-lo).toNat,?_,fun b hb=>?_,q⟩
 ·have e1:lo+((0:Nat):Int)*1=lo:=by simp
  have e2:(((hi-lo).toNat:Nat):Int)-((0:Nat):Int)=Builtin.Range.rangeSize lo hi 1:=by rw [rangeSize_one];split <;> omega
  show IsRangeIter _ _ (lo+((0:Nat):Int)*1) ((((hi-lo).toNat:Nat):Int)-((0:Nat):Int)) 1;rw [e1,e2];exact dP _ rfl
 ·have e:b=(s.heap.push {cls:=.type "range",data:=.fields #[.int lo t,.int hi u,.int 1 v]}).objs.size:=by simpa using hb
  subst e;exact I1.sL (aG _) (I1.aB.fresh (aG _))
def BC(ta:TA):TI:=fun σ H R=>ta σ H fun vs H1=>∃j:Int,vs=[.int j]∧-(2 ^ 62)≤j∧j<2 ^ 62∧R (g6 0 j.toNat) H1
def BD(ta:TA):TI:=fun σ H R=>ta σ H fun vs H1=>∃i j:Int,vs=[.int i,.int j]∧(-(2 ^ 62)≤i∧i<2 ^ 62∧-(2 ^ 62)≤j∧j<2 ^ 62)∧R (g6 i (j-i).toNat) H1
variable {ta:TA} {p pos:Pos}
theorem gu{a:Expr}(hg:Gl X "range")(hm:X.mg "range"=none)(ha:PA X [a] ta)(hs:starEach [a] X.env=[(false,eval a X.env)]:=by rfl):PI X tg (.Call (.Name "range" p) [a] [] pos) (BC ta):=by
 intro pins s σ H R I h;refine Call_ (lG I hg hm boot_range (rZ (aM (ha pos pins s σ H _ I h) fun us s1 ⟨vs,H1,I1,r1,q1⟩=>?_) hs rfl));obtain ⟨j,e,q1,q2,q⟩:=q1;subst e;cases r1 with
 | cons r rr=>cases rr;obtain ⟨t,rfl⟩:=r;exact call_range_1 (wY I1 (by omega) (by omega) q1 q2 (by simpa using q))
theorem sM{a b:Expr}(hg:Gl X "range")(hm:X.mg "range"=none)(ha:PA X [a,b] ta)(hs:starEach [a,b] X.env=[(false,eval a X.env),(false,eval b X.env)]:=by rfl)(pS:starEach [b] X.env=[(false,eval b X.env)]:=by rfl) :
  PI X tg (.Call (.Name "range" p) [a,b] [] pos) (BD ta):=by
 intro pins s σ H R I h;refine Call_ (lG I hg hm boot_range (rZ (aM (ha pos pins s σ H _ I h) fun us s1 ⟨vs,H1,I1,r1,q1⟩=>?_) (by rw [hs,pS]) (by rw [pS];rfl)))
 obtain ⟨i,j,e,⟨q1,q2,q3,q4⟩,q⟩:=q1;subst e;cases r1 with
 | cons r rr=>
  cases rr with
  | cons r' rr=>cases rr;obtain ⟨t,rfl⟩:=r;obtain ⟨t',rfl⟩:=r';exact call_range_2 (wY I1 q1 q2 q3 q4 q)
def wZ(wi:TI)(g:TG)(tb:TS):TS:=fun D σ H=>wi σ H fun J H1=>∃W:Nat→Nat→St→Hp→Prop,(∃m,W 0 m σ H1)∧∀i m σ H,W i m σ H→
 (J.stop i H∧D.nx σ H)∨(J.go i H∧∃N:St→Hp→Prop,(∀σ' H',N σ' H'→∃m',m'<m∧W (i+1) m' σ' H')∧∀x H',J.dH i H x H'→g x σ H' fun σ2 H2=>tb {D with nx:=N,ct:=N,bk:=D.nx} σ2 H2)
def g7(fp:List Addr)(h:Heap):List (Addr×Obj):=fp.filterMap fun b=>(h.get? b).map fun o=>(b,o)
variable {fp:List Addr}
theorem ja{o:Obj}(hb:b∈fp)(e:h.get? b=some o):(b,o)∈g7 fp h:=List.mem_filterMap.mpr ⟨b,hb,by rw [e];rfl⟩
theorem BE{p:Addr×Obj}(hp:p∈g7 fp h):p.1∈fp∧h.get? p.1=some p.2:=by
 obtain ⟨b,hb,e⟩:=List.mem_filterMap.mp hp;cases q:h.get? b with
 | none=>rw [q] at e;cases e
 | some o=>rw [q] at e;have e':(b,o)=p:=Option.some.inj e;subst e';exact ⟨hb,q⟩
theorem Inv.pinned(I:Inv X pins σ H s)(hf:∀b∈fp,iy X pins H b)(ho:∀b∈fp,∃o,s.heap.get? b=some o∧∀v,o.data≠.cell v):Inv X (pins++g7 fp s.heap) σ H s:=
 I.wq fun p hp=>(eQ.mp hp).elim (fun z=>I.pin p (da _ z)) fun z=>by obtain ⟨hb,e⟩:=BE z;obtain ⟨f0,f1,f2,_⟩:=hf p.1 hb;obtain ⟨o,e',d⟩:=ho p.1 hb;rw [e] at e';cases e';exact ⟨e,f0,f1,f2,d⟩
theorem Inv.lH{pl:aI}(I:Inv X (pins++pl) σ H s):Inv X pins σ H s:=I.wq fun p hp=>I.pin p (da _ (List.mem_append_left _ hp))
theorem iz{iter:Expr}{body:List Stmt}{wi:TI}{g:TG}{tb:TS}(hp:PassesOwn (model X.prog X.w) X.A X.env X.xe)(hc:X.calm=true)(hi:PI X tg iter wi)(hg:PG X tg g)(hb:dS X body tb)
  (hs:∀x,foldedSetIterable iter X.env x=pure x:=by intro _;rfl):PS X (.For tg iter body [] pos) (wZ wi g tb):=by
 intro pins s σ H D I h;refine wpAny_For (aM (hi pins s σ H _ I h) fun v s1 h1=>aM h1 fun nG s2 h2=>?_) hs;obtain ⟨it,fp,tn,J,H2,e,I2,T,fB,f2,W,⟨m0,w0⟩,turn⟩:=h2;subst e;have eg:∀{H':Hp},(∀b∈fp,H' b=none)→∀b∈fp,iy X pins H' b:=fun hn b hb=>⟨hn b hb,(f2 b hb).2⟩;refine codeAny_forLoop_any (fun n s'=>∃i σ' H',Inv X pins σ' H' s'∧tn i s'.heap∧(∀b∈fp,H' b=none)∧W i n σ' H') ?_ m0 ⟨0,σ,H2,I2,fB,fun b hb=>(f2 b hb).1,w0⟩;rintro n s3 ⟨i,σ3,H3,I3,w5,w6,w3⟩;rcases turn i n σ3 H3 w3 with ⟨stop,qn⟩ | ⟨go,N,hN,step⟩
 ·refine m_ hp (aM (T.done X rfl rfl rfl hc i pins s3 σ3 H3 X.xe I3 (eg w6) w5 stop) fun r s4 ⟨hr,I4⟩=>?_)
  subst hr;exact k4 ⟨σ3,H3,I4,qn⟩
 ·refine m_ hp (aM (T.item X rfl rfl rfl hc i pins s3 σ3 H3 X.xe I3 (eg w6) w5 go) fun r s4 ⟨u,hr,h4⟩=>?_)
  subst hr;refine m_ hp (aM h4 fun _ s5 ⟨x,H5,I5,r5,y5,eh,jO⟩=>?_);have jP:=I5.pinned (eg jO) (T.obj _ _ eh);refine m_ hp (aM (hg _ s5 σ3 H5 x u _ jP r5 (step x H5 y5)) fun _ s6 ⟨σ6,H6,I6,q6⟩=>?_);refine m_ hp (aM (hb _ s6 σ6 H6 _ I6 q6) fun f s7 q7=>?_);have again:∀{σ7:St} {H7:Hp},Inv X (pins++g7 fp s5.heap) σ7 H7 s7→N σ7 H7→∃m,m<n∧∃i σ' H',Inv X pins σ' H' s7∧tn i s7.heap∧(∀b∈fp,H' b=none)∧W i m σ' H':=fun{σ7 H7} I7 n7=>by obtain ⟨m',hm,w7⟩:=hN σ7 H7 n7;refine ⟨m',hm,i+1,σ7,H7,I7.lH,T.keep _ _ _ eh fun b hb o e=>(I7.pin (b,o) (da _ (da _ (ja hb e)))).1,fun b hb=>?_,w7⟩;obtain ⟨o,e,d⟩:=T.obj _ _ eh b hb;exact (I7.pin (b,o) (da _ (da _ (ja hb e)))).2.1
  cases f with
  | next=>obtain ⟨σ7,H7,I7,n7⟩:=q7;exact again I7 n7
  | cont=>obtain ⟨σ7,H7,I7,n7⟩:=q7;exact again I7 n7
  | brk=>obtain ⟨σ7,H7,I7,q7⟩:=q7;exact ⟨σ7,H7,I7.lH,q7⟩
  | ret v=>obtain ⟨x7,σ7,H7,I7,r7,q7⟩:=q7;exact ⟨x7,σ7,H7,I7.lH,r7,q7⟩
end
variable {g:TG} {tb:TS} {D:Ends}
theorem w9(Pv:Nat→St→Hp→Prop)(h0:Pv 0 σ H)(hl:∀i σ H,i≤xs.length→Pv i σ H→cn K H a xs)
  (hs:∀i x σ H,xs[i]?=some x→Pv i σ H→g x σ H fun σ2 H2=>tb {D with nx:=Pv (i+1),ct:=Pv (i+1),bk:=D.nx} σ2 H2) (hd:∀σ H,Pv xs.length σ H→D.nx σ H) :
  ∃W:Nat→Nat→St→Hp→Prop,(∃m,W 0 m σ H)∧∀i m σ H,W i m σ H→
   ((i_ K a).stop i H∧D.nx σ H)∨((i_ K a).go i H∧∃N:St→Hp→Prop,(∀σ' H',N σ' H'→∃m',m'<m∧W (i+1) m' σ' H')∧∀x H',(i_ K a).dH i H x H'→g x σ H' fun σ2 H2=>tb {D with nx:=N,ct:=N,bk:=D.nx} σ2 H2):=by
 refine ⟨fun i m σ H=>m=xs.length-i∧i≤xs.length∧Pv i σ H,⟨xs.length,by simp,dj _,h0⟩,?_⟩
 rintro i m σ H ⟨rfl,hi,p⟩;have q:=hl i σ H hi p;by_cases cA:i<xs.length
 ·refine .inr ⟨⟨xs,xs[i],q,by simp [cA]⟩,Pv (i+1),fun σ' H' p'=>⟨xs.length-(i+1),by omega,rfl,cA,p'⟩,fun x H' y=>?_⟩
  obtain ⟨e,y⟩:=y;subst e;exact hs i x σ _ (y xs q) p
 ·have e:i=xs.length:=by omega
  subst e;exact .inl ⟨⟨xs,q,aG _⟩,hd σ H p⟩
variable {n:Nat}
theorem jb{lo:Int}(Pv:Nat→St→Hp→Prop)(h0:Pv 0 σ H)
  (hs:∀i σ H,i<n→Pv i σ H→g (.int (lo+i)) σ H fun σ2 H2=>tb {D with nx:=Pv (i+1),ct:=Pv (i+1),bk:=D.nx} σ2 H2) (hd:∀σ H,Pv n σ H→D.nx σ H) :
  ∃W:Nat→Nat→St→Hp→Prop,(∃m,W 0 m σ H)∧∀i m σ H,W i m σ H→
   ((g6 lo n).stop i H∧D.nx σ H)∨((g6 lo n).go i H∧∃N:St→Hp→Prop,(∀σ' H',N σ' H'→∃m',m'<m∧W (i+1) m' σ' H')∧∀x H',(g6 lo n).dH i H x H'→g x σ H' fun σ2 H2=>tb {D with nx:=N,ct:=N,bk:=D.nx} σ2 H2):=by
 refine ⟨fun i m σ H=>m=n-i∧i≤n∧Pv i σ H,⟨n,by simp,dj _,h0⟩,?_⟩
 rintro i m σ H ⟨rfl,hi,p⟩;by_cases cA:i<n
 ·refine .inr ⟨cA,Pv (i+1),fun σ' H' p'=>⟨n-(i+1),by omega,rfl,cA,p'⟩,fun x H' y=>?_⟩
  obtain ⟨e,y⟩:=y;subst e y;exact hs i σ _ cA p
 ·have e:i=n:=by omega
  subst e;exact .inl ⟨aG _,hd σ H p⟩
abbrev R2:=V→V→Hp→VK→Prop
def cp(X:Cx)(f:Value→Value→Sem Value)(r:R2):Prop:=
 ∀(pins:aI) (s:Shared) (σ:St) (H:Hp) (x y:V) (v u:Value) (Q:VK),Inv X pins σ H s→RelV x v→RelV y u→r x y H Q→
  wpAny (model X.prog X.w) X.A (f v u) (EP X pins σ Q) X.xe s
def sN(X:Cx)(f:Value→Sem Value)(r:V→Hp→VK→Prop):Prop:=
 ∀(pins:aI) (s:Shared) (σ:St) (H:Hp) (x:V) (v:Value) (Q:VK),Inv X pins σ H s→RelV x v→r x H Q→
  wpAny (model X.prog X.w) X.A (f v) (EP X pins σ Q) X.xe s
def gv(X:Cx)(f:Value)(r:List V→Hp→VK→Prop):Prop:=
 ∀(pins:aI) (s:Shared) (σ:St) (H:Hp) (xs:List V) (us:List Value) (Q:VK),Inv X pins σ H s→Vals xs us→r xs H Q→
  wpAny (model X.prog X.w) X.A (call f us) (EP X pins σ Q) X.xe s
def fU(r:R2)(ta tb:TE):TE:=fun σ H Q=>ta σ H fun x H1=>tb σ H1 fun y H2=>r x y H2 Q
def BF(r:V→Hp→VK→Prop)(ta:TE):TE:=fun σ H Q=>ta σ H fun x H1=>r x H1 Q
def rI(C:Int→Int→Prop)(g:Int→Int→V):R2:=fun x y H Q=>∃i j,x=.int i∧y=.int j∧C i j∧Q (g i j) H
def jQ(g:Int→Int→V):R2:=fun x y H Q=>∃i j,x=.int i∧y=.int j∧Q (g i j) H
def rU(g:Int→V):V→Hp→VK→Prop:=fun x H Q=>∃i,x=.int i∧Q (g i) H
section
variable {X:Cx} {a b c:Expr} {ta tb tc:TE} {pos:Pos}
variable {f:Value→Value→Sem Value}
theorem sO(ha:PE X a ta)(hb:PE X b tb){pins:aI}{R:V→V→Hp→Prop}(I:Inv X pins σ H s)
  (h:ta σ H fun x H1=>tb σ H1 fun y H2=>R x y H2) {Q:aE}
  (hf:∀v u s2 x y H2,Inv X pins σ H2 s2→RelV x v→RelV y u→R x y H2→wpAny (model X.prog X.w) X.A (f v u) Q X.xe s2) :
  wpAny (model X.prog X.w) X.A (eval a X.env) (fun v s₁=>wpAny (model X.prog X.w) X.A (eval b X.env) (fun u s₂=>wpAny (model X.prog X.w) X.A (f v u) Q X.xe s₂) X.xe s₁) X.xe s:=by
 refine aM (ha pins s σ H _ I h) fun v s1 ⟨x,H1,I1,r1,q1⟩=>?_;refine aM (hb pins s1 σ H1 _ I1 q1) fun u s2 ⟨y,H2,I2,r2,q2⟩=>?_;exact hf v u s2 x y H2 I2 r1 r2 q2
theorem aH{op:Operator}{r:R2}(ho:cp X (binaryOp op) r)(ha:PE X a ta)(hb:PE X b tb):PE X (.BinOp a op b pos) (fU r ta tb):=by intro pins s σ H Q I h;exact wpAny_BinOp (sO ha hb I h fun v u s2 x y H2 I2 rx ry q=>ho pins s2 σ H2 x y v u Q I2 rx ry q)
theorem nI{op:UnaryOp}{r:V→Hp→VK→Prop}(ho:sN X (unaryOp op) r)(ha:PE X a ta):PE X (.UnaryOp op a pos) (BF r ta):=by intro pins s σ H Q I h;exact UnaryOp_ (aM (ha pins s σ H _ I h) fun v s1 ⟨x,H1,I1,r1,q1⟩=>ho pins s1 σ H1 x v Q I1 r1 q1)
theorem pU{C:Int→Int→Prop}{g:Int→Int→Int}
  (rule:∀(i j:Int) (t u:Tok) (s:Shared) (Q:aE) (E:aE),C i j→Q (.int (g i j) s.toks) {s with toks:=s.toks+1}→wpAny (model X.prog X.w) X.A (f (.int i t) (.int j u)) Q E s) :
  cp X f (rI C fun i j=>.int (g i j)):=by
 intro pins s σ H x y v u Q I rx ry h;obtain ⟨i,j,rfl,rfl,hc,q⟩:=h;obtain ⟨t,rfl⟩:=rx;obtain ⟨t',rfl⟩:=ry;exact rule i j t t' s _ _ hc ⟨.int (g i j),H,I.tok _,⟨_,rfl⟩,q⟩
theorem w_{g:Int→Int→Int}
  (rule:∀(i j:Int) (t u:Tok) (s:Shared) (Q:aE) (E:aE),Q (.int (g i j) s.toks) {s with toks:=s.toks+1}→wpAny (model X.prog X.w) X.A (f (.int i t) (.int j u)) Q E s) :
  cp X f (jQ fun i j=>.int (g i j)):=by
 intro pins s σ H x y v u Q I rx ry h;obtain ⟨i,j,rfl,rfl,q⟩:=h;obtain ⟨t,rfl⟩:=rx;obtain ⟨t',rfl⟩:=ry;exact rule i j t t' s _ _ ⟨.int (g i j),H,I.tok _,⟨_,rfl⟩,q⟩
theorem sP{g:Int→Int→Bool}
  (rule:∀(i j:Int) (t u:Tok) (s:Shared) (Q:aE) (E:aE),Q (.bool (g i j)) s→wpAny (model X.prog X.w) X.A (f (.int i t) (.int j u)) Q E s) :
  cp X f (jQ fun i j=>.bl (g i j)):=by
 intro pins s σ H x y v u Q I rx ry h;obtain ⟨i,j,rfl,rfl,q⟩:=h;obtain ⟨t,rfl⟩:=rx;obtain ⟨t',rfl⟩:=ry;exact rule i j t t' s _ _ ⟨.bl (g i j),H,I,rfl,q⟩
def BG(i j:Int):Prop:=0<j∧j<1073741824
def BH(i j:Int):Prop:=0≤j∧j≤1000000∧i.natAbs<2 ^ 64
def sQ(i j:Int):Prop:=(-(2 ^ 64)<i∧i<2 ^ 64)∨(-(2 ^ 64)<j∧j<2 ^ 64)
theorem sQ.ok{i j:Int}(h:sQ i j):IntMulOk i j:=by
 rcases h with ⟨h1,h2⟩ | ⟨h1,h2⟩;·exact .of_left (intBits_le_64 h1 h2)
 ·exact .of_right (intBits_le_64 h1 h2)
theorem cO:cp X (binaryOp .Add) (jQ fun i j=>.int (i+j)):=w_ fun _ _ _ _ _ _ _ q=>add_int q
theorem fC:cp X (binaryOp .Sub) (jQ fun i j=>.int (i-j)):=w_ fun _ _ _ _ _ _ _ q=>sub_int q
theorem gw:cp X (binaryOp .Mult) (rI sQ fun i j=>.int (i*j)):=pU fun _ _ _ _ _ _ _ hc q=>mul_int q hc.ok
theorem xa:cp X (binaryOp .FloorDiv) (rI BG fun i j=>.int (i / j)):=pU fun i j _ _ _ _ _ hc q=>by have h1:(0:Int)<j:=hc.1;have h2:j<1073741824:=hc.2;exact floordiv_int (by omega) (by rw [Int.fdiv_eq_ediv_of_nonneg i (by omega)];exact q) (.inl (PyProof.noPylong_small (by omega)))
theorem lI:cp X (binaryOp .Mod) (rI (fun _ j=>0<j) fun i j=>.int (i % j)):=pU fun i j _ _ _ _ _ hc q=>by have h1:(0:Int)<j:=hc;exact mod_int' (by omega) (by rw [Int.fmod_eq_emod_of_nonneg i (by omega)];exact q)
theorem sR:cp X (binaryOp .Pow) (rI BH fun i j=>.int (i ^ j.toNat)):=pU fun _ _ _ _ _ _ _ hc q=>pow_int_small hc.1 hc.2.1 hc.2.2 q
theorem BI{f:Value→Sem Value}{g:Int→Int}
  (rule:∀(i:Int) (t:Tok) (s:Shared) (Q:aE) (E:aE),Q (.int (g i) s.toks) {s with toks:=s.toks+1}→wpAny (model X.prog X.w) X.A (f (.int i t)) Q E s) :
  sN X f (rU fun i=>.int (g i)):=by
 intro pins s σ H x v Q I rx h;obtain ⟨i,rfl,q⟩:=h;obtain ⟨t,rfl⟩:=rx;exact rule i t s _ _ ⟨.int (g i),H,I.tok _,⟨_,rfl⟩,q⟩
theorem nJ:sN X (unaryOp .USub) (rU fun i=>.int (-i)):=BI fun _ _ _ _ _ q=>neg_int q
end
def sS:V→V→Bool
 | .aR,.aR=>true | .aR,.int _=>true | .int _,.aR=>true | .aR,.bl _=>true | .bl _,.aR=>true | .aR,.str _=>true | .str _,.aR=>true
 | .int _,.int _=>true | .bl _,.bl _=>true | .str _,.str _=>true | .gr _,.gr _=>true
 | .int _,.str _=>true | .str _,.int _=>true | .bl _,.str _=>true | .str _,.bl _=>true
 | _,_=>false
def BJ:R2:=fun x y H Q=>sS x y=true∧Q (.bl (decide (x=y))) H
def BK:R2:=fun x y H Q=>sS x y=true∧Q (.bl (!decide (x=y))) H
theorem xb{i j:Int}:decide (V.int i=V.int j)=(i == j):=by rw [pf];simp
theorem xc{i j:Bool}:decide (V.bl i=V.bl j)=(i == j):=by rw [pf];simp
theorem xf{i j:Str}:decide (V.str i=V.str j)=(i == j):=by rw [pf];simp
theorem xg{i j:Array UInt8}:decide (V.gr i=V.gr j)=(i.toList == j.toList):=by rw [pf];cases i;cases j;simp
section
variable {X:Cx} {a b c:Expr} {ta tb tc:TE} {pos:Pos}
theorem bY{pins:aI}{Q:VK}{k k':Bool}(I:Inv X pins σ H s)(q:Q (.bl k) H)(e:k=k'):EP X pins σ Q (.bool k') s:=by subst e;exact ⟨.bl k,H,I,rfl,q⟩
theorem bI:cp X (compareOp .Eq) BJ:=by
 intro pins s σ H x y v u Q I rx ry h;obtain ⟨hs,q⟩:=h;cases x with
 | aR=>
  cases rx;cases y with
  | aR=>cases ry;exact PySem.EqNone.eq_none_none (bY I q (by simp))
  | bl j=>cases ry;exact PySem.EqNone.eq_none_bool (bY I q (by simp))
  | int j=>obtain ⟨t',rfl⟩:=ry;exact PySem.EqNone.eq_none_int (bY I q (by simp))
  | str j=>obtain ⟨t',rfl⟩:=ry;exact PySem.EqNone.eq_none_str (bY I q (by simp))
  | _=>exact absurd (show false=true from hs) cj
 | bl i=>
  cases rx;cases y with
  | aR=>cases ry;exact PySem.EqNone.eq_bool_none (bY I q (by simp))
  | bl j=>cases ry;exact eq_bool (bY I q xc)
  | str j=>obtain ⟨t',rfl⟩:=ry;exact PySem.EqMixed.eq_bool_str (bY I q (by simp))
  | _=>exact absurd (show false=true from hs) cj
 | int i=>
  obtain ⟨t,rfl⟩:=rx;cases y with
  | aR=>cases ry;exact PySem.EqNone.eq_int_none (bY I q (by simp))
  | int j=>obtain ⟨t',rfl⟩:=ry;exact eq_int (bY I q xb)
  | str j=>obtain ⟨t',rfl⟩:=ry;exact PySem.EqMixed.eq_int_str (bY I q (by simp))
  | _=>exact absurd (show false=true from hs) cj
 | str i=>
  obtain ⟨t,rfl⟩:=rx;cases y with
  | aR=>cases ry;exact PySem.EqNone.eq_str_none (bY I q (by simp))
  | bl j=>cases ry;exact PySem.EqMixed.eq_str_bool (bY I q (by simp))
  | int j=>obtain ⟨t',rfl⟩:=ry;exact PySem.EqMixed.eq_str_int (bY I q (by simp))
  | str j=>obtain ⟨t',rfl⟩:=ry;exact eq_str (bY I q xf)
  | _=>exact absurd (show false=true from hs) cj
 | gr i=>
  obtain ⟨t,rfl⟩:=rx;cases y with
  | gr j=>obtain ⟨t',rfl⟩:=ry;exact PySem.W.eq_bytes (bY I q xg)
  | _=>exact absurd (show false=true from hs) cj
 | _=>cases y <;> exact absurd (show false=true from hs) cj
theorem nK:cp X (compareOp .NotEq) BK:=by
 intro pins s σ H x y v u Q I rx ry h;obtain ⟨hs,q⟩:=h;cases x with
 | aR=>
  cases rx;cases y with
  | aR=>cases ry;exact PySem.EqNone.ne_none_none (bY I q (by simp))
  | bl j=>cases ry;exact PySem.EqNone.ne_none_bool (bY I q (by simp))
  | int j=>obtain ⟨t',rfl⟩:=ry;exact PySem.EqNone.ne_none_int (bY I q (by simp))
  | str j=>obtain ⟨t',rfl⟩:=ry;exact PySem.EqNone.ne_none_str (bY I q (by simp))
  | _=>exact absurd (show false=true from hs) cj
 | bl i=>
  cases rx;cases y with
  | aR=>cases ry;exact PySem.EqNone.ne_bool_none (bY I q (by simp))
  | bl j=>cases ry;exact ne_bool (bY I q (cw not xc))
  | str j=>obtain ⟨t',rfl⟩:=ry;exact PySem.EqMixed.ne_bool_str (bY I q (by simp))
  | _=>exact absurd (show false=true from hs) cj
 | int i=>
  obtain ⟨t,rfl⟩:=rx;cases y with
  | aR=>cases ry;exact PySem.EqNone.ne_int_none (bY I q (by simp))
  | int j=>obtain ⟨t',rfl⟩:=ry;exact ne_int (bY I q (cw not xb))
  | str j=>obtain ⟨t',rfl⟩:=ry;exact PySem.EqMixed.ne_int_str (bY I q (by simp))
  | _=>exact absurd (show false=true from hs) cj
 | str i=>
  obtain ⟨t,rfl⟩:=rx;cases y with
  | aR=>cases ry;exact PySem.EqNone.ne_str_none (bY I q (by simp))
  | bl j=>cases ry;exact PySem.EqMixed.ne_str_bool (bY I q (by simp))
  | int j=>obtain ⟨t',rfl⟩:=ry;exact PySem.EqMixed.ne_str_int (bY I q (by simp))
  | str j=>obtain ⟨t',rfl⟩:=ry;exact ne_str (bY I q (cw not xf))
  | _=>exact absurd (show false=true from hs) cj
 | gr i=>
  obtain ⟨t,rfl⟩:=rx;cases y with
  | gr j=>obtain ⟨t',rfl⟩:=ry;exact PySem.W.ne_bytes (bY I q (cw not xg))
  | _=>exact absurd (show false=true from hs) cj
 | _=>cases y <;> exact absurd (show false=true from hs) cj
theorem xh:cp X (compareOp .Lt) (jQ fun i j=>.bl (decide (i<j))):=sP fun _ _ _ _ _ _ _ q=>lt_int q
theorem nM:cp X (compareOp .LtE) (jQ fun i j=>.bl (decide (i≤j))):=sP fun _ _ _ _ _ _ _ q=>le_int q
theorem xi:cp X (compareOp .GtE) (jQ fun i j=>.bl (decide (j≤i))):=sP fun _ _ _ _ _ _ _ q=>ge_int q
variable {op:CmpOp}
theorem lJ(b:Expr)(h:op≠.In:=by decide)(h2:op≠.NotIn:=by decide):behindInMarks op b=false:=by
 have e1:(op == CmpOp.In)=false:=by cases op <;> first | rfl | exact absurd rfl h
 have e2:(op == CmpOp.NotIn)=false:=by cases op <;> first | rfl | exact absurd rfl h2
 cases b <;> simp [behindInMarks,e1,e2]
theorem sU{op:CmpOp}{r:R2}(ho:cp X (compareOp op) r)(ha:PE X a ta)(hb:PE X b tb)(hm:behindInMarks op b=false):PE X (.Compare a [op] [b] pos) (fU r ta tb):=by intro pins s σ H Q I h;exact wpAny_Compare1 (sO ha hb I h fun v u s2 x y H2 I2 rx ry q=>ho pins s2 σ H2 x y v u Q I2 rx ry q) hm
variable {r:R2}
theorem ek(ho:cp X (compareOp op) r)(ha:PE X a ta)(hb:PE X b tb)(hm:behindInMarks op b=false:=by exact lJ _):PE X (.Compare a [op] [b] pos) (fU r ta tb):=sU ho ha hb hm
def xj(t:TE):TT:=fun σ H Q=>t σ H fun x H'=>∃k,x=.bl k∧Q k H'
theorem pV{op:CmpOp}{r:R2}(ho:cp X (compareOp op) r)(ha:PE X a ta)(hb:PE X b tb)(hm:behindInMarks op b=false):PT X (.Compare a [op] [b] pos) (xj (fU r ta tb)):=by intro pins s σ H Q I h;refine wpAny_isTrue_Compare1 (aM (ha pins s σ H _ I h) fun v s1 ⟨x,H1,I1,r1,q1⟩=>aM (hb pins s1 σ H1 _ I1 q1) fun u s2 ⟨y,H2,I2,r2,q2⟩=>aM (ho pins s2 σ H2 x y v u _ I2 r1 r2 q2) fun c s3 ⟨z,H3,I3,r3,k,e,q3⟩=>?_) hm;subst e;cases r3;exact iX ⟨H3,I3,q3⟩
theorem cq(ho:cp X (compareOp op) r)(ha:PE X a ta)(hb:PE X b tb)(hm:behindInMarks op b=false:=by exact lJ _):PT X (.Compare a [op] [b] pos) (xj (fU r ta tb)):=pV ho ha hb hm
def BL(r r':R2)(ta tb tc:TE):TE:=fun σ H Q=>ta σ H fun x H1=>tb σ H1 fun y H2=>r x y H2 fun z H3=>∃k,z=.bl k ∧
 (if k=true then tc σ H3 fun w' H4=>r' y w' H4 Q else Q (.bl false) H3)
theorem xk{sW:CmpOp}{r':R2}(ho:cp X (compareOp op) r)(iw:cp X (compareOp sW) r')(ha:PE X a ta)(hb:PE X b tb)(hc:PE X c tc)
  (hm:lastMarks [op,sW] [b,c]=false:=by with_unfolding_all rfl):PE X (.Compare a [op,sW] [b,c] pos) (BL r r' ta tb tc):=by
 intro pins s σ H Q I h;refine Compare_chain (aM (ha pins s σ H _ I h) fun v s1 ⟨x,H1,I1,r1,q1⟩=>chain_link (aM (hb pins s1 σ H1 _ I1 q1) fun u s2 ⟨y,H2,I2,r2,q2⟩=>aM (ho pins s2 σ H2 x y v u _ I2 r1 r2 q2) fun d s3 ⟨z,H3,I3,r3,k,e,q3⟩=>?_)) hm;subst e;cases r3;refine iX ?_;cases k with
 | false=>exact ite_ff ⟨.bl false,H3,I3,rfl,q3⟩
 | true=>exact ite_tt (chain_last (aM (hc pins s3 σ H3 _ I3 q3) fun w' s4 ⟨z',H4,I4,r4,q4⟩=>iw pins s4 σ H4 y z' u w' Q I4 r2 r4 q4))
theorem pW:(sizeLine:Nat)<2 ^ 63:=by rw [sizeLine_eq];decide
theorem vals1(r:Vals [x] us):∃u,us=[u]∧RelV x u:=by
 cases r with
 | cons r1 r2=>cases r2;exact ⟨_,rfl,r1⟩
theorem vals2{y:V}(r:Vals [x,y] us):∃u w',us=[u,w']∧RelV x u∧RelV y w':=by
 cases r with
 | cons r1 r2=>
  cases r2 with
  | cons r3 r4=>cases r4;exact ⟨_,_,rfl,r1,r3⟩
theorem BM(hc:X.calm=true):gv X (.builtin "max") (fun xs H Q=>∃i j,xs=[.int i,.int j]∧Q (.int (if j>i then j else i)) H):=by
 intro pins s σ H xs us Q I r h;obtain ⟨i,j,rfl,q⟩:=h;obtain ⟨u,w',rfl,⟨t,rfl⟩,⟨t',rfl⟩⟩:=vals2 r;refine max_two_ints (I.ok.hd hc) fun h' tk k=>⟨_,H,I.kept k,?_,q⟩;by_cases hj:j>i;·rw [aj hj,aj hj];exact ⟨_,rfl⟩
 ·rw [ai hj,ai hj];exact ⟨_,rfl⟩
theorem BN(hc:X.calm=true):gv X (.builtin "min") (fun xs H Q=>∃i j,xs=[.int i,.int j]∧Q (.int (if j<i then j else i)) H):=by
 intro pins s σ H xs us Q I r h;obtain ⟨i,j,rfl,q⟩:=h;obtain ⟨u,w',rfl,⟨t,rfl⟩,⟨t',rfl⟩⟩:=vals2 r;refine min_two_ints (I.ok.hd hc) fun h' tk k=>⟨_,H,I.kept k,?_,q⟩;by_cases hj:j<i;·rw [aj hj,aj hj];exact ⟨_,rfl⟩
 ·rw [ai hj,ai hj];exact ⟨_,rfl⟩
end
structure sX (h:Heap) (x dx C:Addr) (mA:bW):Prop where
 obj:h.get? x=some (PySem.W.instObj C dx)
 ns:h.Ns1 dx mA
 ne:dx≠x
variable {dx:Addr} {mA:bW}
theorem BO(n:h.Ns1 dx mA):∃od,h.get? dx=some od∧∀name,PySem.W.lookIn name od=some (mA name):=by
 obtain ⟨o,es,ep,ho,hd,hk,_,hm⟩:=n;refine ⟨o,ho,fun name=>?_⟩;have e:=hm name;unfold nsFind findBy at e;rw [←Array.find?_toList] at e;unfold PySem.W.lookIn;rw [hd];dsimp only
 split
 ·rename_i y q
  rw [q] at e;exact cw some e
 ·rename_i q
  rw [q] at e;have a:es.toList.any (·.refKey)=false:=by rw [List.any_eq_false];intro y hy;obtain ⟨z,t,BP⟩:=hk y (Array.mem_toList_iff.mp hy);simp [DictEntry.refKey,BP]
  have a':¬es.toList.any (·.refKey)=true:=by rw [a];exact cj
  rw [ai a'];exact cw some e
theorem sX.look{x C:Addr}(I:sX h x dx C mA):∃od,PySem.W.InstAt h x (PySem.W.instObj C dx) C (some od)∧∀name,PySem.W.lookIn name od=some (mA name):=
 let ⟨od,ho,hl⟩:=BO I.ns
 ⟨od,⟨I.obj,rfl,rfl,ho⟩,hl⟩
section
variable {prog:Program} {w:World} {A:Around} {E:aE} {s:Shared} {K:aJ} {x dx C f:Addr} {mA:bW} {name:Str} {v:Value}
end
section
variable {P:Program} {w:World} {H H':Hp} {h h':Heap} {a C dx:Addr} {fs sq:List (Str×V)}
theorem BQ(aB:bM P w H h)(e:H a=some (.ins C dx fs)):∃mA,sX h a dx C mA∧(∀f,sk (fs.lookup f) (mA f))∧PySem.Within mA (fs.map (·.1))∧fs.length≤1000∧H dx=some (.own a):=by obtain ⟨d,z,ne,ob,mA,n,r,q⟩:=(show bO P w H h a (.ins C dx fs) from aB a _ e);exact ⟨mA,⟨ob,n,ne⟩,r,q,z,d⟩
end
structure sY (K:aJ) (C:Addr):Prop where
 pg:PySem.W.plainGet K C Str.empty=true
 hd:PySem.W.hasDictIn K C=true
 po:PySem.W.plainOver K C=true
 sa:PySem.W.findIn K (.ref C) "__setattr__"=some (some (.builtin "object.__setattr__"))
theorem sY.get{K:aJ}{C:Addr}(c:sY K C)(f:Str):PySem.W.plainGet K C f=true:=c.pg
section
variable {X:Cx} {pins:aI} {σ:St} {H:Hp} {s:Shared} {a C dx:Addr} {fs:List (Str×V)} {f:Str} {v:V} {A:Around} {E:aE}
end
section
variable {X:Cx} {o e value:Expr} {f:Str} {pos pos' pX:Pos} {ta tv:TE}
end
section
variable {X:Cx} {pins:aI} {σ:St} {H:Hp} {s:Shared} {A:Around} {E:aE} {Q:aE} {c:Value} {b:Bool}
inductive fD (K:aJ) (H:Hp):V→Value→Prop where
 | aR:fD K H .aR (.type "NoneType")
 | bl (x:Bool):fD K H (.bl x) (.type "bool")
 | int (i:Int):fD K H (.int i) (.type "int")
 | str (x:Str):fD K H (.str x) (.type "str")
 | lD (x:UInt64):fD K H (.lD x) (.type "float")
 | lst {a:Addr} {xs:List V} (e:H a=some (.lst xs)):fD K H (.ref a) (.type "list")
 | dG {a:Addr} {o:Obj} {xs:List V} (e:H a=some (.dG o (.lst xs))):fD K H (.ref a) (.type "list")
 | tup {a:Addr} {xs:List V} (e:H a=some (.tup xs)):fD K H (.ref a) (.type "tuple")
 | dK {a:Addr} {bT:List (Key×V)} (e:H a=some (.dK bT)):fD K H (.ref a) (.type "dict")
 | dT {a:Addr} {bT:List (List Key×V)} (e:H a=some (.dT bT)):fD K H (.ref a) (.type "dict")
 | ins {a C dx:Addr} {fs:List (Str×V)} (e:H a=some (.ins C dx fs)) (cl:sY K C) (ha:PySem.W.findIn K (.ref C) "__class__"=some (some (.builtin "object.__class__")))
   (hn:PySem.W.specialIn K (.builtin "object.__class__") "__get__"=some (some (.builtin "getset_descriptor.__get__"))) (xl:PySem.W.takesIn K (.builtin "object.__class__")=some true)
   (hm:PySem.W.mroIn K C (.type "object")=some true):fD K H (.ref a) (.ref C)
theorem BR{t:Value}(I:Inv X pins σ H s)(rx:RelV x u)(ty:fD X.K H x t)(e:PySem.W.kitOne X.K t c=some b)(h:∀tk,Q (.bool b) {s with toks:=tk}) :
  wpAny (model X.prog X.w) A (call (.builtin "isinstance") [u,c]) Q E s:=by
 cases ty with
 | aR=>cases (show u=Value.none from rx);exact fk PySem.W.kitx_none I.cJ True.intro e (fun z=>nomatch z) h
 | bl y=>cases (show u=Value.bool y from rx);exact fk PySem.W.kitx_bool I.cJ True.intro e (fun z=>nomatch z) h
 | int i=>obtain ⟨t,q⟩:=(show ∃t,u=Value.int i t from rx);cases q;exact fk PySem.W.kitx_int I.cJ True.intro e (fun z=>nomatch z) h
 | str y=>obtain ⟨t,q⟩:=(show ∃t,u=Value.str y t from rx);cases q;exact fk PySem.W.kitx_str I.cJ True.intro e (fun z=>nomatch z) h
 | lD y=>obtain ⟨t,q⟩:=(show ∃t,u=Value.float y t from rx);cases q;exact fk PySem.W.kitx_float I.cJ True.intro e (fun z=>nomatch z) h
 | @lst a xs ea=>cases (show u=Value.ref a from rx);obtain ⟨_,_,n,_,h1⟩:=(show bO X.prog X.w H s.heap a (.lst xs) from I.aB a _ ea);exact fk PySem.W.kitx_list I.cJ ⟨_,h1,rfl⟩ e (fun z=>nomatch z) h
 | @dG a ob xs ea=>cases (show u=Value.ref a from rx);obtain ⟨_,_,_,n,_,h1⟩:=(show bO X.prog X.w H s.heap a (.dG ob (.lst xs)) from I.aB a _ ea);exact fk PySem.W.kitx_list I.cJ ⟨_,h1,rfl⟩ e (fun z=>nomatch z) h
 | @tup a xs ea=>cases (show u=Value.ref a from rx);obtain ⟨_,_,_,p⟩:=(show bO X.prog X.w H s.heap a (.tup xs) from I.aB a _ ea);obtain ⟨o,h1,h2,_⟩:=p;exact fk PySem.W.kitx_tuple I.cJ ⟨o,h1,h2⟩ e (fun z=>nomatch z) h
 | @dK a bT ea=>cases (show u=Value.ref a from rx);obtain ⟨_,_,vs,_,p⟩:=(show bO X.prog X.w H s.heap a (.dK bT) from I.aB a _ ea);obtain ⟨o,es,ep,h1,h2,_⟩:=p;exact fk PySem.W.kitx_dict I.cJ ⟨o,h1,h2.1⟩ e (fun z=>nomatch z) h
 | @dT a bT ea=>cases (show u=Value.ref a from rx);obtain ⟨_,_,xs,_,o,es,ep,h1,h2,_⟩:=(show bO X.prog X.w H s.heap a (.dT bT) from I.aB a _ ea);exact fk PySem.W.kitx_dict I.cJ ⟨o,h1,h2.1⟩ e (fun z=>nomatch z) h
 | @ins a C dx fs ea cl ha hn xl hm=>cases (show u=Value.ref a from rx);obtain ⟨mA,O,_⟩:=BQ I.aB ea;obtain ⟨od,J,_⟩:=O.look;exact fk (PySem.W.kitx_own (cl.get _) cl.hd ha hn xl hm) I.cJ J e (fun z=>nomatch z) h
end
structure cK (k:Nat) (A:Around):Prop where
 hd:A.handled=none
 dp:A.depth+3*k+5<recursionLimit
 un:A.units+16*k+200<cLine
variable {k:Nat}
theorem cK.mono{j:Nat}(r:cK k A)(h:j≤k):cK j A:=⟨r.hd,by have:=r.dp;omega,by have:=r.un;omega⟩
theorem cK.deeper(r:cK (k+1) A)(env:Env):cK k (A.deeper env):=
 ⟨r.hd,by have:=r.dp;show A.depth+1+3*k+5<_;omega,by have:=r.un;show A.units+3+16*k+200<_;omega⟩
theorem cK.depth(r:cK k A):A.depth<recursionLimit:=by have:=r.dp;omega
theorem cK.units(r:cK k A):A.units+64<cLine:=by have:=r.un;omega
def nN:TA:=fun _ H Q=>Q [] H
def jR(ta:TE)(tr:TA):TA:=fun σ H Q=>ta σ H fun x H1=>tr σ H1 fun xs H2=>Q (x::xs) H2
section
variable {X:Cx} {e:Expr} {es:List Expr} {te:TE} {t:TA} {pos:Pos}
theorem ae:PA X [] nN:=fun _ _ _ _ H Q I h=>Calls.spliced_nil ⟨[],H,I,.nil,h⟩
theorem BS(ha:PE X e te)(hr:PA X es t)(hs:starEach (e::es) X.env=(false,eval e X.env)::starEach es X.env:=by rfl):PA X (e::es) (jR te t):=by intro pos pins s σ H Q I h;rw [hs];show wpAny _ _ (spliced ((false,eval e X.env)::backTo pos (starEach es X.env))) _ _ s;refine Calls.spliced_cons (aM (ha pins s σ H _ I h) fun u s1 ⟨x,H1,I1,r1,q1⟩=>?_);exact aM (hr pos pins s1 σ H1 _ I1 q1) fun us s2 ⟨xs,H2,I2,r2,q2⟩=>⟨x::xs,H2,I2,.cons r1 r2,q2⟩
def sZ(t:TA):TE:=fun σ H Q=>t σ H fun xs H1=>xs.length≤sizeLine∧∀p,H1 p=none→Q (.ref p) (upd H1 p (.tup xs))
def pY(t:TA):TE:=fun σ H Q=>t σ H fun xs H1=>xs.length≤sizeLine∧∀p,H1 p=none→Q (.ref p) (upd H1 p (.lst xs))
theorem aK{x1}(h:PA X es t):PE X (.Tuple es x1 pos) (sZ t):=by
 intro pins s σ H Q I hq;refine wpAny_Tuple_spliced (aM (h pos pins s σ H _ I hq) fun us s1 ⟨xs,H1,I1,r,z,q⟩=>⟨by rw [←r.length];exact z,?_⟩)
 have hf:H1 s1.heap.objs.size=none:=I1.aB.fresh (aG _);refine ⟨.ref s1.heap.objs.size,upd H1 s1.heap.objs.size (.tup xs),I1.laid (t':=s1.toks) (fun b u e=>b_ _ e) (aG _) ?_,rfl,q _ hf⟩;exact ⟨z,us,r,⟨_,dP _ rfl,rfl,_,rfl⟩⟩
theorem cU(h:PA X es t):PE X (.List es pos) (pY t):=by
 intro pins s σ H Q I hq;refine wpAny_List_spliced (aM (h pos pins s σ H _ I hq) fun us s1 ⟨xs,H1,I1,r,z,q⟩=>⟨by rw [←r.length];exact z,?_⟩)
 have hf:H1 s1.heap.objs.size=none:=I1.aB.fresh (aG _);refine ⟨.ref s1.heap.objs.size,upd H1 s1.heap.objs.size (.lst xs),I1.laid (t':=s1.toks) (fun b u e=>b_ _ e) (aG _) ?_,rfl,q _ hf⟩;exact ⟨z,us,0,r,dP _ rfl⟩
end
abbrev Sp:=List V→Hp→VK→XK→Prop
abbrev en:=List Env→Hp→Shared→XK→Value→Shared→Prop
structure pZ (P:Program) (w:World) (K:aJ) (mg:bW) (base:Heap) (A:Around) (outer:List Env) (s:Shared) (H:Hp):Prop where
 frames:A.frames=some outer
 mod:Mod K mg base
 bs:∀b o,base.get? b=some o→s.heap.get? b=some o∧H b=none
 fz:base.objs.size≤s.heap.objs.size
 fO:s.heap.FunFrames base outer
 iu:∀b∈bH outer,H b=none
 aB:bM P w H s.heap
 bare:AllBare s.gens
def CE(outer:List Env)(P:Program)(w:World)(H:Hp)(s:Shared)(Q:VK)(u:Value)(s':Shared):Prop:=
 ∃v H',s'.os=s.os∧AllBare s'.gens∧Un (bH outer) [] H H' s.heap s'.heap∧bM P w H' s'.heap∧RelV v u∧Q v H'
def CR(CX:en)(outer:List Env)(P:Program)(w:World)(H:Hp)(s:Shared)(Q:VK)(E:XK)(r:Result)(s':Shared):Prop:=
 match r with
 | .ok (.ret u)=>CE outer P w H s Q u s'
 | .ok _=>False
 | .error e=>CX outer H s E e s'
structure bP (P:Program) (w:World) (K:aJ) (mg:bW) (base:Heap) (CX:en) (k:Nat) (f:Addr) (fd:FuncData) (ps:List Str) (sp:Sp):Prop where
 len:∀vs H Q E,sp vs H Q E→vs.length=ps.length
 run:∀(A:Around) (outer:List Env) (s:Shared) (H:Hp) (args:Args) (us:List Value) (vs:List V) (Q:VK) (E:XK),cK k A→pZ P w K mg base A outer s H→BindsTo s fd args (ps.zip us)→Vals vs us→sp vs H Q E→
  codeAny (model P w) A (.call (.ref f) args) (CR CX outer P w H s Q E) s
section
variable {X:Cx} {pins:aI} {σ:St} {H:Hp} {s s':Shared}
theorem Inv.xm(I:Inv X pins σ H s):pZ X.prog X.w X.K X.mg X.base X.A X.stack s H:=
 ⟨I.ok.frames,I.ok.mod,I.bs,cE I.ok.fz I.sz,I.stack,I.nA,I.aB,I.bare⟩
theorem Inv.after{Q:VK}(I:Inv X pins σ H s)(h:CE X.stack X.prog X.w H s Q u s'):EP X pins σ Q u s':=by obtain ⟨v,H',os,bare,un,aB,r,q⟩:=h;obtain ⟨hh,g,d,t,BU⟩:=s';obtain rfl:BU=s.os:=os;exact ⟨v,H',I.call (h':=hh) (g':=g) (d':=d) (t':=t) (ch:=[]) un aB bare (fun b z=>absurd z (by simp)),r,q⟩
end
def xn(sp:Sp)(dq:List V)(E:XK)(t:TA):TE:=fun σ H Q=>t σ H fun vs H1=>sp (vs++dq) H1 Q E
def Binds(K:aJ)(fd:FuncData)(ps:List Str)(ds:List Value):Prop:=
 ∀(s:Shared) (us:List Value),K.In s.heap→(us++ds).length=ps.length→BindsTo s fd ⟨us,[]⟩ (ps.zip (us++ds))
variable {ps:List Str}
theorem Binds.all{fd:FuncData}(h:∀us:List Value,us.length=ps.length→bindArgs fd ⟨us,[]⟩=pure (ps.zip us)):Binds K fd ps []:=fun s us _ hl=>by rw [jz] at hl ⊢;exact .of_eq (h us hl)
def Passes(CX:en)(X:Cx)(E:XK):Prop:=∀(pins:aI) (σ:St) (H:Hp) (s:Shared) (e:Value) (s':Shared),Inv X pins σ H s→CX X.stack H s E e s'→X.xe e s'
section
variable {X:Cx} {CX:en} {k:Nat} {f C:Addr} {fd:FuncData} {ps:List Str} {sp:Sp} {dq:List V} {ds:List Value} {E:XK} {x m:Str} {p pos apos:Pos} {e o:Expr} {es:List Expr} {ta:TE} {t:TA}
theorem BV{pins:aI}{Q:VK}{vs:List V}(F:bP X.prog X.w X.K X.mg X.base CX k f fd ps sp)(hr:cK k X.A)(hb:Binds X.K fd ps ds)(hd:Vals dq ds)(hx:Passes CX X E)
  (I:Inv X pins σ H s) (r:Vals vs us) (h:sp (vs++dq) H Q E):wpAny (model X.prog X.w) X.A (call (.ref f) us) (EP X pins σ Q) X.xe s:=by
 have r2:Vals (vs++dq) (us++ds):=r.append hd;have hl:(us++ds).length=ps.length:=by rw [←r2.length];exact F.len _ _ _ _ h
 refine wpAny_call (k6 (F.run X.A X.stack s H ⟨us,[]⟩ (us++ds) (vs++dq) Q E hr I.xm (hb s us I.cJ hl) r2 h) fun r s' hq=>?_);cases r with
 | error e=>exact hx pins σ H s e s' I hq
 | ok fl=>
  cases fl with
  | ret u=>exact I.after hq
  | next=>exact False.elim hq
  | brk=>exact False.elim hq
  | cont=>exact False.elim hq
theorem et(F:bP X.prog X.w X.K X.mg X.base CX k f fd ps sp)(hr:cK k X.A)(hg:Gl X x)(hm:X.mg x=some (.ref f))(hk:PySem.W.keepIn X.K (.ref f)=true)(hb:Binds X.K fd ps ds)(hd:Vals dq ds)(hx:Passes CX X E)
  (ha:PA X (e::es) t) (iA:(x == ("__debug__":Str))=false:=by decide) (he:starEach (e::es) X.env=(false,eval e X.env)::starEach es X.env:=by rfl) (g8:(backTo pos (starEach es X.env)).any (·.1)=false:=by rfl) :
  PE X (.Call (.Name x p) (e::es) [] pos) (xn sp dq E t):=by
 intro pins s σ H Q I h;refine ng (nE I hg hm ?_ iA);refine PySem.W.callWith_K (h₀:=X.base) I.ok.mod.bX hk (aM (ha pos pins s σ H _ I h) fun us s1 ⟨vs,H1,I1,r,q⟩=>⟨I1.cJ,?_⟩) he g8;exact BV F hr hb hd hx I1 r q
theorem cu{j:Nat}(F:bP X.prog X.w X.K X.mg X.base CX k f fd ps sp)(hr:cK j X.A)(hm:X.mg x=some (.ref f))(hk:PySem.W.keepIn X.K (.ref f)=true)(hb:Binds X.K fd ps [])(hx:Passes CX X E)
  (ha:PA X (e::es) t) (hj:k≤j:=by decide) (hg:Gl X x:=by exact rfl) (iA:(x == ("__debug__":Str))=false:=by decide) (he:starEach (e::es) X.env=(false,eval e X.env)::starEach es X.env:=by rfl) (g8:(backTo pos (starEach es X.env)).any (·.1)=false:=by rfl) :
  PE X (.Call (.Name x p) (e::es) [] pos) (xn sp [] E t):=et F (hr.mono hj) hg hm hk hb .nil hx ha iA he g8
end
section
variable {X:Cx} {CX:en} {k:Nat} {f C:Addr} {fd:FuncData} {ps ks:List Str} {sp:Sp} {E:XK} {x m:Str} {p pos apos xo:Pos} {e o:Expr} {es:List Expr} {jc:List Keyword} {te ta:TE} {t tk:TA} {nm:Option Str}
variable {g:List Value→List Value→List Value} {gV:List V→List V→List V}
end
structure cC (N P:List Str) (sc:Scope):Prop where
 kind:sc.kind=.function
 co:sc.isCoroutine=false
 gen:sc.isGenerator=false
 nd:N.Nodup
 pre:N.take P.length=P
 par:∀x∈P,sc.names.lookup x=some .local∨sc.names.lookup x=some .cell
 BW:∀y∈sc.names,y.2≠.free
variable {N:List Str} {sc:Scope}
theorem dr{P:List Str}(h1:sc.kind=.function:=by rfl)(h2:sc.isCoroutine=false:=by rfl)(h3:sc.isGenerator=false:=by rfl)(h4:N.Nodup:=by decide +kernel)(h5:N.take P.length=P:=by rfl)(h6:∀x∈P,sc.names.lookup x=some .local∨sc.names.lookup x=some .cell:=by decide +kernel)(h7:∀y∈sc.names,y.2≠.free:=by decide +kernel):cC N P sc:=⟨h1,h2,h3,h4,h5,h6,h7⟩
theorem xp{kindOf:Str→Option NameKind}{x:Str}:∀{binds:List (Str×Value)} {m:bW},(∀v,(x,v)∉binds)→bindL kindOf binds m x=m x
 | [],_,_=>rfl
 | (n,v)::r,m,h=>by
  unfold bindL;rw [xp fun w hw=>h w (gQ _ hw)]
  split
  ·have:x≠n:=by rintro rfl;exact h v ig
   simp [this]
  ·rfl
theorem xq{kindOf:Str→Option NameKind}{x:Str}:∀{binds:List (Str×Value)} {m:bW},(∀v,(x,v)∉binds)→bindC kindOf binds m x=m x
 | [],_,_=>rfl
 | (n,v)::r,m,h=>by
  unfold bindC;rw [xq fun w hw=>h w (gQ _ hw)]
  split
  ·rfl
  ·have:x≠n:=by rintro rfl;exact h v ig
   simp [this]
theorem xr{kindOf:Str→Option NameKind}{x:Str}{v:Value}:∀{P:List Str} {vs:List Value} {i:Nat} {m:bW},P.Nodup→P[i]?=some x→vs[i]?=some v→kindOf x=some .local→
  bindL kindOf (P.zip vs) m x=some v
 | [],_,_,_,_,h,_,_=>by simp at h
 | _::_,[],_,_,_,_,h,_=>by simp at h
 | p::P,w::vs,0,m,nd,h1,h2,hk=>by simp at h1 h2;subst h1;subst h2;show bindL kindOf ((p,w)::P.zip vs) m p=_;unfold bindL;rw [xp fun v hv=>(ph.mp nd).1 (List.of_mem_zip hv).1,aj hk];simp
 | p::P,w::vs,i+1,m,nd,h1,h2,hk=>by show bindL kindOf ((p,w)::P.zip vs) m x=_;unfold bindL;exact xr (i:=i) (ph.mp nd).2 (by simpa using h1) (by simpa using h2) hk
theorem xt{kindOf:Str→Option NameKind}{x:Str}{v:Value}:∀{P:List Str} {vs:List Value} {i:Nat} {m:bW},P.Nodup→P[i]?=some x→vs[i]?=some v→kindOf x≠some .local→
  bindC kindOf (P.zip vs) m x=some v
 | [],_,_,_,_,h,_,_=>by simp at h
 | _::_,[],_,_,_,_,h,_=>by simp at h
 | p::P,w::vs,0,m,nd,h1,h2,hk=>by simp at h1 h2;subst h1;subst h2;show bindC kindOf ((p,w)::P.zip vs) m p=_;unfold bindC;rw [xq fun v hv=>(ph.mp nd).1 (List.of_mem_zip hv).1,ai hk];simp
 | p::P,w::vs,i+1,m,nd,h1,h2,hk=>by show bindC kindOf ((p,w)::P.zip vs) m x=_;unfold bindC;exact xt (i:=i) (ph.mp nd).2 (by simpa using h1) (by simpa using h2) hk
def start(N:List Str)(vs:List V):St:=vs.map some++List.replicate (N.length-vs.length) none
def gx(CX:en)(P:Program)(w:World)(K:aJ)(mg:bW)(base:Heap)(N:List Str)(qual:Str)(scope:Scope)(f:Addr)(cd:Value)(A:Around)(outer:List Env)(s:Shared)(H:Hp)(E:XK):Cx where
 prog:=P
 w:=w
 K:=K
 mg:=mg
 base:=base
 A:=A.deeper (envOfC qual scope s.heap.objs.size f cd)
 N:=N
 s₀:=s
 H₀:=H
 env:=envOfC qual scope s.heap.objs.size f cd
 outer:=outer
 stack:=envOfC qual scope s.heap.objs.size f cd::outer
 ex:=[]
 calm:=true
 fn:=fun _=>true
 pn:=[]
 xe:=fun e s'=>wpAny (model P w) (A.deeper (envOfC qual scope s.heap.objs.size f cd)) (leaving (envOfC qual scope s.heap.objs.size f cd) e) (fun _ g9=>CX outer H s E e g9) (fun e' g9=>CX outer H s E e' g9) s'
theorem xu{x:Str}(h:sc.names.lookup x=some .cell):∃c,(cellsFrom n sc.names []).lookup x=some c:=by have q:=PySem.W.cellsFrom_some sc.names n [] (.inl h);exact Option.isSome_iff_exists.mp q
variable {CX:en} {mg:bW} {base:Heap} {qual:Str} {scope:Scope} {f:Addr}
theorem BX{cd:Value}{outer:List Env}{s1:Shared}{E:XK}{vs:List V}
  (S:cC N ps scope) (hd:A.handled=none) (e0:pZ P w K mg base A outer s H) (hl:vs.length=ps.length) (r:Vals vs us)
  (x:InCallC s s.heap.objs.size (bindL (envOfC qual scope s.heap.objs.size f cd).kindOf (ps.zip us) fun _=>none) (cellsFrom (s.heap.objs.size+1) scope.names []) (bindC (envOfC qual scope s.heap.objs.size f cd).kindOf (ps.zip us) fun _=>none) s1) :
  Inv (gx CX P w K mg base N qual scope f cd A outer s H E) [] (start N vs) H s1:=by
 have g8:ps.length≤N.length:=by have:=cw List.length S.pre;rw [nh] at this;omega
 obtain ⟨h1,tk,rfl,hk⟩:=x.done;have nO:∀b:Addr,b∉(gx CX P w K mg base N qual scope f cd A outer s H E).ex:=fun b z=>absurd (show b∈([]:List Addr) from z) (by simp)
 refine ⟨⟨e0.mod,S.kind,rfl,rfl,aG _,fun y z c h1 h2=>?_,fun y hy=>?_,fun y c _ h=>?_,fun _=>hd,Around.frames_deeper e0.frames,.inr ⟨rfl,rfl⟩,fun b z=>absurd z (nO b),e0.bs,e0.fz,fun b _ _=>nO b,fun b z=>absurd z (nO b),e0.fO,e0.iu⟩,
  rfl,e0.bare,Un.kept hk,⟨_,x.toInCall.ns,fun i y v h1 h2 h3=>?_⟩,fun y c h=>⟨_,x.cell y c h⟩,e0.aB.fresh (aG _),fun y c h=>?_,fun p hp=>absurd (show p∈([]:aI) from hp) (by simp),e0.aB.kept hk,?_⟩
 ·exact name_of_addr x.apart (il h1) (il h2)
 ·have hy:scope.names.lookup y=some .cell∨scope.names.lookup y=some .free:=hy
  rcases hy with hy | hy;·exact xu hy
  ·exact absurd rfl (S.BW _ (il hy))
 ·exact iW (x.above y c (il h))
 ·have hi:i<vs.length:=by
   unfold start at h2;by_cases hi:i<vs.length;·exact hi
   ·rw [gh (by simpa using hi)] at h2
    rw [List.getElem?_replicate] at h2
    split at h2 <;> cases h2
  have ha:vs[i]?=some v:=by
   unfold start at h2;rw [gR (by simpa using hi),dQ] at h2
   cases e:vs[i]? with
   | none=>rw [e] at h2;cases h2
   | some a=>rw [e] at h2;cases h2;rfl
  obtain ⟨u,hu,rv⟩:=r.get ha;have hp:ps[i]?=some y:=by rw [←S.pre,List.getElem?_take_of_lt (by omega)];exact h1
  have xv:ps.Nodup:=by rw [←S.pre];exact S.nd.sublist (List.take_sublist _ _)
  refine ⟨u,rv,?_⟩;rcases S.par y (List.mem_of_getElem? hp) with k | k;·exact .inl ⟨k,xr xv hp hu k⟩
  ·obtain ⟨c,e⟩:=xu (n:=s.heap.objs.size+1) k
   refine .inr ⟨.inl k,c,e,?_⟩;have q:=x.cell y c e;rw [xt xv hp hu (by show scope.names.lookup y≠_;rw [k];decide)] at q
   exact q
 ·exact e0.aB.fresh (iW (x.above y c (il h)))
 ·unfold start
  show _=N.length;rw [dk,bz,k7];omega
theorem xw{name:Str}{params:Arguments}{body:List Stmt}{dV kV doc pm bp ct oc:Value}{an od:Option Addr}
  {g_:Array (Option Value)} {sp:Sp} (lk:K.lookup f=some ⟨oc,od,.func (PySem.W.fnOf name qual params body scope dV kV doc pm an bp ct),g_⟩) (eV:PySem.W.codeIn K bp qual=true) (S:cC N ps scope)
  (len:∀vs H Q E,sp vs H Q E→vs.length=ps.length)
  (iB:∀(A:Around) (outer:List Env) (s:Shared) (H:Hp) (vs:List V) (Q:VK) (E:XK),cK k (A.deeper (envOfC qual scope s.heap.objs.size f bp))→sp vs H Q E→
   ∃t,dS (gx CX P w K mg base N qual scope f bp A outer s H E) body t∧t {nx:=fun _ H'=>Q .aR H',rt:=Q} (start N vs) H) :
  bP P w K mg base CX (k+1) f (PySem.W.fnOf name qual params body scope dV kV doc pm an bp ct) ps sp:=by
 refine ⟨len,fun A outer s H args us vs Q E hr e0 hb r hG=>?_⟩;have hl:=len _ _ _ _ hG;have KX:K.In s.heap:=e0.mod.bX.keeps fun b o e=>(e0.bs b o e).1;have lim:s.heap.NoLimit:=e0.mod.nolimit.keeps fun b o e=>(e0.bs b o e).1;have BY:∀y∈ps.zip us,scope.names.lookup y.1=some .local∨(scope.names.lookup y.1=some .cell∧((cellsFrom (s.heap.objs.size+1) scope.names []).lookup y.1).isSome=true):=fun⟨n,v⟩ hy=>by
  rcases S.par n (List.of_mem_zip hy).1 with q | q;·exact .inl q
  ·exact .inr ⟨q,PySem.W.cellsFrom_some _ _ _ (.inl q)⟩
 refine codeAny_call_function hr.depth (KX _ _ lk) rfl S.co S.gen rfl (PySem.W.codeRec_of KX eV) (hb _ _ _ _ ?_);refine wpAny_newFunctionEnv_cells S.kind BY fun env he s1 x=>?_;subst he;refine ⟨lim.keeps x.toInCall.keep,codeAny_func ?_⟩;obtain ⟨t,ht,hq⟩:=iB A outer s H vs Q E (hr.deeper _) hG;have I:Inv (gx CX P w K mg base N qual scope f bp A outer s H E) [] (start N vs) H s1:=BX S hr.hd e0 hl r x;refine bj (ht [] s1 (start N vs) H _ I hq) (fun fl s' hs=>?_) fun e s' hs=>hs;have fin:∀{σ':St} {H':Hp} {v:V} {u:Value},Inv (gx CX P w K mg base N qual scope f bp A outer s H E) [] σ' H' s'→RelV v u→Q v H'→CE outer P w H s Q u s':=
  fun{σ' H' v u} J rv q=>⟨v,H',J.os,J.bare,J.base,J.aB,rv,q⟩
 cases fl with
 | ret u=>obtain ⟨v,σ',H',J,rv,q⟩:=hs;exact fin J rv q
 | next=>obtain ⟨σ',H',J,q⟩:=hs;exact fin (v:=V.aR) (u:=Value.none) J rfl q
 | brk=>obtain ⟨_,_,_,q⟩:=hs;exact False.elim q
 | cont=>obtain ⟨_,_,_,q⟩:=hs;exact False.elim q
section
variable {X:Cx} {x:Str} {p pos:Pos} {e:Expr} {es:List Expr} {t:TA} {id T:String} {r:List V→Hp→VK→Prop}
def s_(r:List V→Hp→VK→Prop)(t:TA):TE:=fun σ H Q=>t σ H fun vs H1=>r vs H1 Q
theorem bE(hc:gv X (.builtin id) r)(hg:Gl X x)(hm:X.mg x=none)(hv:bootBuiltins x=some (.builtin id))(ha:PA X (e::es) t)(hn:x ≠ "__name__":=by decide)(iA:(x == ("__debug__":Str))=false:=by decide)
  (he:starEach (e::es) X.env=(false,eval e X.env)::starEach es X.env:=by rfl) (g8:(backTo pos (starEach es X.env)).any (·.1)=false:=by rfl):PE X (.Call (.Name x p) (e::es) [] pos) (s_ r t):=by
 intro pins s σ H Q I h;refine ng (lG I hg hm hv ?_ hn iA);exact PyProof.Rows.callWith_builtin1 (aM (ha pos pins s σ H _ I h) fun us s1 ⟨vs,H1,I1,r1,q1⟩=>hc pins s1 σ H1 vs us Q I1 r1 q1) he g8
theorem lK(hc:gv X (.type T) r)(hg:Gl X x)(hm:X.mg x=none)(hv:bootBuiltins x=some (.type T))(ha:PA X (e::es) t)(hn:x ≠ "__name__":=by decide)(iA:(x == ("__debug__":Str))=false:=by decide)
  (he:starEach (e::es) X.env=(false,eval e X.env)::starEach es X.env:=by rfl) (g8:(backTo pos (starEach es X.env)).any (·.1)=false:=by rfl):PE X (.Call (.Name x p) (e::es) [] pos) (s_ r t):=by
 intro pins s σ H Q I h;refine ng (lG I hg hm hv ?_ hn iA);exact rZ (aM (ha pos pins s σ H _ I h) fun us s1 ⟨vs,H1,I1,r1,q1⟩=>hc pins s1 σ H1 vs us Q I1 r1 q1) he g8
end
end L2
namespace HT
open PySem PyProof.Rows
section
open PySem.SeqAt
open PySem.AutoSeq1 (wpAny_loadPart')
open PySem.MeetsSeq PySem.MeetsSeq2 PySem.MeetsSeq3
end
section
variable {prog:Program} {w:World} {A:Around} {E:aE} {s:Shared}
variable {t:Addr} {Q:aE}
theorem BZ{b:Addr}{vs ws:List Value}(ht:IsTup s.heap t vs.toArray)(hb:IsTup s.heap b ws.toArray)(hv:vs≠[])
  (h1:ws=[]→Q (.ref t) s) (h2:ws≠[]→Q (.ref s.heap.objs.size) {s with heap:=s.heap.push {cls:=.type "tuple",data:=.seq (vs++ws).toArray}})
  (fV:vs.length+ws.length≤sizeLine):wpAny (model prog w) A (binaryOp .Add (.ref t) (.ref b)) Q E s:=by
 obtain ⟨⟨cls,dd,data,sl⟩,ho,hc,n,hd⟩:=id ht;obtain ⟨⟨B0,p8,data2,jS⟩,jT,nQ,n2,hd2⟩:=id hb;simp only at hc hd nQ hd2;subst hc hd nQ hd2;have e:vs.toArray++ws.toArray=(vs++ws).toArray:=by simp
 by_cases hw:ws=[]
 ·exact concat_meets ⟨_,ho,rfl⟩ ⟨_,jT,rfl⟩ noFill_tuple_add seq_tuple_add r0 r6 (r9 _ _)
   (tuple_addW1 t b vs.toArray ws.toArray n n2 dd p8 sl jS (by simpa using hv) (by simp [hw])) ⟨ho,jT,h1 hw⟩
 ·refine concat_meets ⟨_,ho,rfl⟩ ⟨_,jT,rfl⟩ noFill_tuple_add seq_tuple_add r0 r6 (r9 _ _)
   (tuple_addW2 t b vs.toArray ws.toArray n n2 dd p8 sl jS (by simpa using hv) (by simpa using hw) (by rw [bS,bS];exact fV)) ⟨ho,jT,?_⟩
  rw [e];exact h2 hw
def aO(n d:Nat):Option Int→Nat
 | none=>d
 | some v=>if v<0 then (v+(n:Int)).toNat else min v.toNat n
theorem xy(n d:Nat):aO n d none=d:=rfl
theorem xA(n d k:Nat):aO n d (some (k:Int))=min k n:=by
 show (if (k:Int)<0 then ((k:Int)+(n:Int)).toNat else min (k:Int).toNat n)=min k n
 rw [ai (by omega),iY]
theorem B1(n d:Nat)(hd:d≤n)(o:Option Int):aO n d o≤n:=by
 cases o with
 | none=>exact hd
 | some v=>
  show (if v<0 then (v+(n:Int)).toNat else min v.toNat n)≤n
  by_cases hv:v<0;·rw [aj hv];omega
  ·rw [ai hv];exact Nat.min_le_right _ _
theorem xB(v:Int)(n d:Nat):(if v<0 then max (v+(n:Int)) 0 else min v (n:Int))=((aO n d (some v):Nat):Int):=by
 show (if v<0 then max (v+(n:Int)) 0 else min v (n:Int))=(((if v<0 then (v+(n:Int)).toNat else min v.toNat n):Nat):Int)
 by_cases hv:v<0;·simp only [aj hv];omega
 ·simp only [ai hv];omega
theorem B2(lo hi:Option Int)(n:Nat):Builtin.Slice.sliceAdjust lo hi 1 (n:Int)=(((aO n 0 lo:Nat):Int),((aO n n hi:Nat):Int)):=by
 have h1:¬((1:Int)<0):=by omega
 unfold Builtin.Slice.sliceAdjust;simp only [h1,if_false];refine Prod.ext ?_ ?_
 ·cases lo with
  | none=>rfl
  | some v=>exact xB v n 0
 ·cases hi with
  | none=>rfl
  | some v=>exact xB v n n
theorem B3(i j:Nat):Builtin.Slice.slicePlaces (i:Int) (j:Int) 1=j-i:=by
 unfold Builtin.Slice.slicePlaces;have h1:(1:Int)>0:=by omega
 simp only [h1,if_true,Int.ediv_one]
 split <;> omega
theorem xC{v:Value}{o:Option Int}{Q:Option Int→Shared→Prop}(p:IsPart v o)(h:Q o s):wpAny (model prog w) A (Builtin.Slice.slicePartIndex v) Q E s:=by
 cases p with
 | none=>exact slicePart_none h
 | int i t=>exact slicePart_int h
variable {sl:Addr} {vl vu:Value} {lo hi:Option Int}
theorem xD{n:Nat}{Q:Int×Int×Nat→Shared→Prop}(hs:s.heap.IsSliceOf sl vl vu .none)(pl:IsPart vl lo)(pu:IsPart vu hi)
  (h:Q (((aO n 0 lo:Nat):Int),1,aO n n hi-aO n 0 lo) s):wpAny (model prog w) A (Builtin.Slice.sliceApplied (.ref sl) (pure (n:Int))) Q E s:=by
 obtain ⟨os,nR,xE,p9⟩:=id hs;unfold Builtin.Slice.sliceApplied Builtin.Slice.sliceFields;refine aA (aA (fm nR p9 (x:=vl) rfl (aA (fm nR p9 (x:=vu) rfl (aA (fm nR p9 (x:=.none) rfl (a_ ?_)))))));refine aA (slicePart_none ?_);show wpAny _ _ (if ((1:Int) == 0)=true then _ else _) _ _ s
 rw [ai (by decide)]
 refine aA (xC pl (aA (xC pu (aA (a_ ?_)))));show wpAny _ _ (match Builtin.Slice.sliceAdjust lo hi 1 (n:Int) with | (lo,hi)=>pure (lo,(1:Int),Builtin.Slice.slicePlaces lo hi 1)) _ _ s
 rw [B2 lo hi n];show wpAny _ _ (pure (((aO n 0 lo:Nat):Int),(1:Int),Builtin.Slice.slicePlaces ((aO n 0 lo:Nat):Int) ((aO n n hi:Nat):Int) 1)) _ _ s;rw [B3];exact a_ h
theorem B4(xs:Array Value)(i k:Nat):((List.range k).filterMap fun(m:Nat)=>xs[((i:Int)+(m:Int)*1).toNat]?).toArray=((xs.toList.drop i).take k).toArray:=by
 have e:(fun(m:Nat)=>xs[((i:Int)+(m:Int)*1).toNat]?)=fun m=>xs[i+m]?:=by
  funext m
  have:((i:Int)+(m:Int)*1).toNat=i+m:=by omega
  rw [this]
 rw [e];have:=pick_run xs i k;rw [List.filterMap_map] at this;have e2:((fun x=>xs[x]?) ∘ fun x=>i+x)=fun m=>xs[i+m]?:=rfl;rw [e2] at this;rw [this]
theorem B5{items:Array Value}(ht:IsTup s.heap t items)(hs:s.heap.IsSliceOf sl vl vu .none)(pl:IsPart vl lo)(pu:IsPart vu hi)
  (hw:¬(aO items.size 0 lo=0∧aO items.size items.size hi=items.size))
  (h:Q (.ref s.heap.objs.size) {s with heap:=s.heap.push {cls:=.type "tuple",data:=.seq ((items.toList.drop (aO items.size 0 lo)).take (aO items.size items.size hi-aO items.size 0 lo)).toArray}})
  (fV:items.size≤sizeLine):wpAny (model prog w) A (getItem (.ref t) (.ref sl)) Q E s:=by
 have p_:sizeOk (.seq ((items.toList.drop (aO items.size 0 lo)).take (aO items.size items.size hi-aO items.size 0 lo)).toArray):=by show ((items.toList.drop (aO items.size 0 lo)).take (aO items.size items.size hi-aO items.size 0 lo)).toArray.size≤sizeLine;rw [bS,nh,List.length_drop,fN];omega
 have hj:aO items.size items.size hi≤items.size:=B1 _ _ (aG _) hi;obtain ⟨os,nR,xE,p9⟩:=id hs;have B6:s.TypeIs (.ref sl) "slice":=⟨os,nR,xE⟩;unfold getItem
 try with_reducible refine ik ?_
 first | refine aA (a_ ?_) | skip
 refine aA (wpAny_sequenceKey ht.typeIs (by decide) ?_)
 refine aA (k8 (name:=Str.ofString "__getitem__") ht.typeIs k9
  (jA k9 ht.typeIs entry_tuple_getitem ?_ (args_tuple_getitem _ _)))
 show wpAny _ _ (Builtin.Tuple.tupleItemsOf (.ref t) >>= _) _ _ s;refine aA (tupleItemsOf_ ht ?_);refine aA (wpAny_typeOf B6 ?_);rw [aj (by decide)]
 refine aA (xD hs pl pu ?_);have tf:¬((((aO items.size 0 lo:Nat):Int) == 0 && (1:Int) == 1 && (aO items.size items.size hi-aO items.size 0 lo) == items.size)=true):=by intro q;rw [jB,jB] at q;have q1:((aO items.size 0 lo:Nat):Int)=0:=eq_of_beq q.1.1;have q2:aO items.size items.size hi-aO items.size 0 lo=items.size:=eq_of_beq q.2;exact hw ⟨by omega,by omega⟩
 show wpAny _ _ (if (((aO items.size 0 lo:Nat):Int) == 0 && (1:Int) == 1 && (aO items.size items.size hi-aO items.size 0 lo) == items.size)=true then _ else _) _ _ s
 rw [ai tf,B4]
 first
  | exact aA (m:=Builtin.Tuple.tupleExact _) (gS (a_ ⟨_,rfl,a_ h⟩) p_)
  | exact aA (m:=Builtin.Tuple.tupleExact _) (gS (aA (a_ (a_ ⟨_,rfl,a_ h⟩))) p_)
  | exact aA (aA (m:=Builtin.Tuple.tupleExact _) (gS (a_ (a_ ⟨_,rfl,a_ h⟩)) p_))
  | exact aA (aA (m:=Builtin.Tuple.tupleExact _) (gS (a_ ⟨_,rfl,a_ h⟩) p_))
end
end HT
namespace L2
open PySem PySem.Spec PyProof.Rows
abbrev TO:=St→Hp→(Option Int→Hp→Prop)→Prop
def PO(X:Cx)(e:Option Expr)(t:TO):Prop:=
 ∀(pins:aI) (s:Shared) (σ:St) (H:Hp) (Q:Option Int→Hp→Prop),Inv X pins σ H s→t σ H Q→
  wpAny (model X.prog X.w) X.A (evalPart e X.env) (fun u s'=>∃o H',Inv X pins σ H' s'∧IsPart u o∧Q o H') X.xe s
def B7:TO:=fun _ H Q=>Q none H
def B8(t:TE):TO:=fun σ H Q=>t σ H fun x H1=>∃i,x=.int i∧Q (some i) H1
section
variable {X:Cx} {e:Expr} {te:TE} {lo hi:Option Expr} {tl th:TO} {pos p2:Pos}
theorem xF:PO X none B7:=by intro pins s σ H Q I h;rw [evalPart_none];exact a_ ⟨none,H,I,.none,h⟩
theorem xG(h:PE X e te):PO X (some e) (B8 te):=by intro pins s σ H Q I hw;rw [evalPart_some];refine aM (h pins s σ H _ I hw) fun u s1 ⟨x,H1,I1,r1,q1⟩=>?_;obtain ⟨i,rfl,q⟩:=q1;obtain ⟨t,rfl⟩:=r1;exact ⟨some i,H1,I1,.int i t,q⟩
def qb(X:Cx)(r:V→Option Int→Option Int→Hp→VK→Prop):Prop:=
 ∀(pins:aI) (s:Shared) (σ:St) (H:Hp) (x:V) (v vl vu:Value) (lo hi:Option Int) (sl:Addr) (Q:VK),Inv X pins σ H s→RelV x v→s.heap.IsSliceOf sl vl vu .none→IsPart vl lo→IsPart vu hi→r x lo hi H Q→
  ∃T id,typeLookup (.type T) "__getitem__"=pure (some (.builtin id))∧s.TypeIs v T∧wpAny (model X.prog X.w) X.A (getItem v (.ref sl)) (EP X pins σ Q) X.xe s
def B9(r:V→Option Int→Option Int→Hp→VK→Prop)(te:TE)(tl th:TO):TE:=fun σ H Q=>te σ H fun x H1=>tl σ H1 fun l H2=>th σ H2 fun u H3=>r x l u H3 Q
theorem xH{r:V→Option Int→Option Int→Hp→VK→Prop}(hr:qb X r)(he:PE X e te)(hl:PO X lo tl)(hu:PO X hi th):PE X (.Subscript e (.Slice lo hi none p2) pos) (B9 r te tl th):=by intro pins s σ H Q I h;refine Subscript_ (aM (he pins s σ H _ I h) fun v s1 ⟨x,H1,I1,r1,q1⟩=>?_);refine wpAny_Slice (aM (hl pins s1 σ H1 _ I1 q1) fun vl s2 ⟨l,H2,I2,pl,q2⟩=>aM (hu pins s2 σ H2 _ I2 q2) fun vu s3 ⟨u,H3,I3,pu,q3⟩=>?_);rw [evalPart_none];refine a_ ?_;have I4:Inv X pins σ H3 {s3 with heap:=s3.heap.push {cls:=.type "slice",data:=.fields #[vl,vu,.none]}}:=I3.kept (t':=s3.toks) fun b ob q=>b_ _ q;obtain ⟨T,id,hT,ht,hg⟩:=hr pins {s3 with heap:=s3.heap.push {cls:=.type "slice",data:=.fields #[vl,vu,.none]}} σ H3 x v vl vu l u s3.heap.objs.size Q I4 r1 (Heap.IsSliceOf.new ..) pl pu q3;show wpAny (model X.prog X.w) X.A (subscriptTail e (.Slice lo hi none p2) v (.ref s3.heap.objs.size)) (EP X pins σ Q) X.xe {s3 with heap:=s3.heap.push {cls:=.type "slice",data:=.fields #[vl,vu,.none]}};exact tail_any (ops:=[.ref s3.heap.objs.size,v]) ht hT hg (by with_unfolding_all rfl)
def du(xs:List V)(lo hi:Option Int):List V:=(xs.drop (HT.aO xs.length 0 lo)).take (HT.aO xs.length xs.length hi-HT.aO xs.length 0 lo)
theorem xI(xs:List V)(lo hi:Option Int):(du xs lo hi).length≤xs.length:=by unfold du;rw [nh,List.length_drop];omega
def B_(K:aJ):V→Option Int→Option Int→Hp→VK→Prop:=fun x lo hi H Q=>∃a xs,x=.ref a∧cF K H a xs ∧
 ¬(HT.aO xs.length 0 lo=0∧HT.aO xs.length xs.length hi=xs.length)∧∀p,H p=none→Q (.ref p) (upd H p (.tup (du xs lo hi)))
theorem Ca:qb X (B_ X.K):=by
 intro pins s σ H x v vl vu lo hi sl Q I rx hs pl pu h;obtain ⟨a,xs,rfl,hx,hw,q⟩:=h;cases rx;obtain ⟨au,r,ht,hz⟩:=I.tuple hx;have hlen:au.toArray.size=xs.length:=by rw [bS];exact r.length.symm
 refine ⟨"tuple",_,k9.lookup,ht.typeIs,?_⟩;refine HT.B5 ht hs pl pu (by rw [hlen];exact hw) ?_ (by rw [hlen];exact hz)
 rw [hlen];refine ⟨.ref s.heap.objs.size,_,I.laid (t':=s.toks) (o:=.tup (du xs lo hi)) (fun b ob q=>b_ _ q) (aG _) ?_,rfl,q _ (I.aB.fresh (aG _))⟩;exact ⟨cE (xI xs lo hi) hz,_,(r.drop (HT.aO xs.length 0 lo)).take (HT.aO xs.length xs.length hi-HT.aO xs.length 0 lo),IsTup.new _ _⟩
def Cb(K:aJ):R2:=fun x y H Q=>∃a b xs ys,x=.ref a∧y=.ref b∧cF K H a xs∧cF K H b ys∧xs≠[]∧xs.length+ys.length≤sizeLine ∧
 (ys=[]→Q (.ref a) H)∧(ys≠[]→∀p,H p=none→Q (.ref p) (upd H p (.tup (xs++ys))))
theorem Vals.qc{xs:List V}{us:List Value}(r:Vals xs us):us=[]↔xs=[]:=by
 cases r with
 | nil=>simp
 | cons _ _=>simp
theorem xJ:cp X (binaryOp .Add) (Cb X.K):=by
 intro pins s σ H x y v u Q I rx ry h;obtain ⟨a,b,xs,ys,rfl,rfl,ha,hb,hx,hz,q1,q2⟩:=h;cases rx;cases ry;obtain ⟨au,r1,p1,_⟩:=I.tuple ha;obtain ⟨gy,r2,p2,_⟩:=I.tuple hb;refine HT.BZ p1 p2 (fun z=>hx (r1.qc.mp z)) (fun z=>⟨.ref a,H,I,rfl,q1 (r2.qc.mp z)⟩) (fun z=>?_) (by rw [←r1.length,←r2.length];exact hz)
 refine ⟨.ref s.heap.objs.size,_,I.laid (t':=s.toks) (o:=.tup (xs++ys)) (fun b ob q=>b_ _ q) (aG _) ?_,rfl,q2 (fun w=>z (r2.qc.mpr w)) _ (I.aB.fresh (aG _))⟩;exact ⟨by rw [dk];exact hz,_,r1.append r2,IsTup.new _ _⟩
end
def jU(n:Nat)(i:Int):Option Nat:=if 0≤i then (if i<n then some i.toNat else none) else if -(n:Int)≤i then some (i+n).toNat else none
def jd{α:Type}(xs:List α)(i:Int):Option α:=(jU xs.length i).bind fun j=>xs[j]?
variable {i:Int} {j:Nat}
theorem xK{n:Nat}(h:jU n i=some j):seqIndex? i n=some j∧j<n∧-(n:Int)≤i∧i<n:=by
 unfold jU at h;by_cases h0:0≤i
 ·rw [aj h0] at h
  by_cases h1:i<n
  ·rw [aj h1] at h
   have e:i.toNat=j:=Option.some.inj h;exact ⟨by rw [seqIndex_of h0 h1,e],by omega,by omega,h1⟩
  ·rw [ai h1] at h;cases h
 ·rw [ai h0] at h
  by_cases h1:-(n:Int)≤i
  ·rw [aj h1] at h
   have e:(i+n).toNat=j:=Option.some.inj h;exact ⟨by rw [seqIndex_neg (by omega) h1,e],by omega,h1,by omega⟩
  ·rw [ai h1] at h;cases h
theorem xM{α:Type}{xs:List α}{v:α}(h:jd xs i=some v):∃j,seqIndex? i xs.length=some j∧xs[j]?=some v∧j<xs.length∧-(xs.length:Int)≤i∧i<xs.length:=by
 unfold jd at h;cases e:jU xs.length i with
 | none=>rw [e] at h;cases h
 | some j=>rw [e] at h;obtain ⟨h1,h2,h3,h4⟩:=xK e;exact ⟨j,h1,h,h2,h3,h4⟩
theorem nS{α:Type}{xs:List α}{v:α}(h:xs[j]?=some v):jd xs (j:Int)=some v:=by
 have hj:j<xs.length:=(bZ.mp h).1;have e:jU xs.length (j:Int)=some j:=by unfold jU;rw [aj (by omega),aj (by omega)];simp
 unfold jd;rw [e];exact h
def xN(b:Expr):Prop:=∀o i,subscripted b false o i=operate [o,i] (getItem o i)
def nU(X:Cx)(r:R2):Prop:=
 ∀(value slice:Expr) (pins:aI) (s:Shared) (σ:St) (H:Hp) (x y:V) (v u:Value) (Q:VK),Inv X pins σ H s→RelV x v→RelV y u→r x y H Q→
  subscripted slice false v u=operate [v,u] (getItem v u)→wpAny (model X.prog X.w) X.A (subscriptTail value slice v u) (EP X pins σ Q) X.xe s
def tj(X:Cx)(id:String)(r:V→List V→Hp→VK→Prop):Prop:=
 ∀(pins:aI) (s:Shared) (σ:St) (H:Hp) (x:V) (xs:List V) (v:Value) (us:List Value) (Q:VK),Inv X pins σ H s→RelV x v→Vals xs us→r x xs H Q→
  wpAny (model X.prog X.w) X.A (call (.builtin id) (v::us)) (EP X pins σ Q) X.xe s
section
variable {X:Cx} {a b:Expr} {ta tb:TE} {pos:Pos}
theorem tm{r:R2}(hr:nU X r)(ha:PE X a ta)(hb:PE X b tb)(hs:xN b):PE X (.Subscript a b pos) (fU r ta tb):=by intro pins s σ H Q I h;exact Subscript_ (sO ha hb I h fun v u s2 x y H2 I2 rx ry q=>hr a b pins s2 σ H2 x y v u Q I2 rx ry q (hs _ _))
theorem aU{r:R2}(hr:nU X r)(ha:PE X a ta)(hb:PE X b tb)(hs:xN b:=by exact fun _ _=>rfl):PE X (.Subscript a b pos) (fU r ta tb):=tm hr ha hb hs
def Cc(K:aJ):R2:=fun x y H Q=>∃p xs i v,x=.ref p∧y=.int i∧cn K H p xs∧jd xs i=some v∧Q v H
def xO(K:aJ):R2:=fun x y H Q=>∃p xs i v,x=.ref p∧y=.int i∧cF K H p xs∧jd xs i=some v∧Q v H
theorem nV:nU X (Cc X.K):=by
 intro value slice pins s σ H x y v u Q I rx ry h hs;obtain ⟨p,xs,i,z,rfl,rfl,hq,he,q⟩:=h;cases rx;obtain ⟨t,rfl⟩:=ry;obtain ⟨au,r,pl,hz⟩:=I.list hq;obtain ⟨j,h1,h2,h3,h4,h5⟩:=xM he;obtain ⟨w,ew,tu⟩:=r.get h2;have hl:=r.length;have hn:=pW;have fin:EP X pins σ Q w s:=⟨z,H,I,tu,q⟩;by_cases h0:0≤i
 ·have hj:i.toNat=j:=by rw [seqIndex_of h0 h5] at h1;exact Option.some.inj h1
  exact item_listR pl.isList h0 (by omega) (by rw [hj];simpa using ew) fin hs
 ·have hj:(i+(au.toArray.size:Int)).toNat=j:=by
   rw [seqIndex_neg (by omega) h4] at h1
   rw [bS,←hl];exact Option.some.inj h1
  exact subscriptTail_builtinR (x:=w) pl.isList.typeIs slot_list_getitem.lookup
   (wpAny_getItem_list_neg (Q:=fun r s'=>r=w∧EP X pins σ Q r s') pl.isList (by omega) (by rw [bS] <;> omega) (by omega) (by rw [hj];simpa using ew) ⟨rfl,fin⟩) hs
theorem aX:nU X (xO X.K):=by
 intro value slice pins s σ H x y v u Q I rx ry h hs;obtain ⟨p,xs,i,z,rfl,rfl,hq,he,q⟩:=h;cases rx;obtain ⟨t,rfl⟩:=ry;obtain ⟨au,r,pl,hz⟩:=I.tuple hq;obtain ⟨j,h1,h2,h3,h4,h5⟩:=xM he;obtain ⟨w,ew,tu⟩:=r.get h2;have hl:=r.length;have hn:=pW;have fin:EP X pins σ Q w s:=⟨z,H,I,tu,q⟩
 exact subscriptTail_builtinR (x:=w) pl.typeIs slot_tuple_getitem.lookup
  (getItem_tuple (j:=j) (Q:=fun r s'=>r=w∧EP X pins σ Q r s') pl (by omega) (by omega) (by rw [bS,←hl];exact h1) (by simpa using ew) ⟨rfl,fin⟩) hs
theorem Cd(au:List Value)(n j:Nat)(u:Value):Obj.mapSeq (·.setIfInBounds j u) {cls:=.type "list",data:=.seq au.toArray n}={cls:=.type "list",data:=.seq (au.set j u).toArray n}:=by simp [Obj.mapSeq]
theorem Inv.lst{pins:aI}{σ:St}{H:Hp}{s:Shared}{p:Addr}{xs:List V}(I:Inv X pins σ H s)(h:H p=some (.lst xs)) :
  ∃(au:List Value) (n:Nat),Vals xs au∧s.heap.get? p=some {cls:=.type "list",data:=.seq au.toArray n}∧xs.length≤sizeLine:=by
 obtain ⟨z,au,n,r,e⟩:=I.aB p _ h;exact ⟨au,n,r,e,z⟩
variable {pins:aI} {σ:St} {H:Hp} {s:Shared}
theorem Inv.Ce{p:Addr}{xs ys:List V}{au its':List Value}{n n':Nat}{f:Obj→Obj}(I:Inv X pins σ H s)(h:H p=some (.lst xs))
  (ho:s.heap.get? p=some {cls:=.type "list",data:=.seq au.toArray n}) (hf:f {cls:=.type "list",data:=.seq au.toArray n}={cls:=.type "list",data:=.seq its'.toArray n'}) (r:Vals ys its') (hz:ys.length≤sizeLine) (t:Nat) :
  Inv X pins σ (upd H p (.lst ys)) {s with heap:=s.heap.update p f,toks:=t}:=by
 have e:(s.heap.update p f).get? p=some {cls:=.type "list",data:=.seq its'.toArray n'}:=by rw [Heap.get?_update_self f ho (by rw [hf] <;> rfl),hf]
 refine I.write (x:=p) (e:=p) (by rw [h];trivial) (.inl rfl) (fun b u hb q=>(Heap.get?_update_other _ _ (eP hb)).trans q) ⟨_,e⟩ ?_
 exact ⟨hz,its',n',r,e⟩
def Cf:V→V→V→Hp→(Hp→Prop)→Prop:=fun o i v H Q=>∃p xs k j,o=.ref p∧i=.int k∧H p=some (.lst xs)∧jU xs.length k=some j∧Q (upd H p (.lst (xs.set j v)))
theorem set_list:wN X Cf:=by
 intro pins s σ H o i v ov iv u Q I ro ri rv h;obtain ⟨p,xs,k,j,rfl,rfl,hp,hj,q⟩:=h;cases ro;obtain ⟨t,rfl⟩:=ri;obtain ⟨au,n,r,ho,hz⟩:=I.lst hp;obtain ⟨h1,h2,h3,h4⟩:=xK hj;have hl:=r.length;have hn:=pW;have I':Inv X pins σ (upd H p (.lst (xs.set j v))) {s with heap:=s.heap.update p (Obj.mapSeq (·.setIfInBounds j u))}:=
  I.Ce hp ho (Cd au n j u) (r.set rv j) (by rw [List.length_set];exact hz) s.toks
 by_cases h0:0≤k
 ·have hk:k.toNat=j:=by rw [seqIndex_of h0 h4] at h1;exact Option.some.inj h1
  exact PySem.W.ki_setAt ho h0 (by omega) (by rw [bS,←hl];exact h4) (by rw [hk];exact ⟨_,I',q⟩)
 ·have hk:(k+(au.toArray.size:Int)).toNat=j:=by
   rw [seqIndex_neg (by omega) h3] at h1
   rw [bS,←hl];exact Option.some.inj h1
  exact PySem.W.ki_setBack ho (by omega) (by rw [bS,←hl];exact h3) (by omega) (by rw [hk];exact ⟨_,I',q⟩)
theorem Cg(lo hi:Option Int)(n:Nat):(sliceBounds lo hi none n).1=((HT.aO n 0 lo:Nat):Int)∧(sliceBounds lo hi none n).2.1=((HT.aO n n hi:Nat):Int)∧(sliceBounds lo hi none n).2.2=1:=by
 refine ⟨?_,?_,rfl⟩
 ·cases lo with
  | none=>simp [sliceBounds,HT.aO]
  | some i=>
   simp only [sliceBounds,HT.aO,Option.getD_none,show (1:Int)>0 by decide,if_true]
   by_cases h:i<0;·simp only [h,if_true] <;> omega
   ·simp only [h,if_false] <;> omega
 ·cases hi with
  | none=>simp [sliceBounds,HT.aO]
  | some i=>
   simp only [sliceBounds,HT.aO,Option.getD_none,show (1:Int)>0 by decide,if_true]
   by_cases h:i<0;·simp only [h,if_true] <;> omega
   ·simp only [h,if_false] <;> omega
theorem Ci(au:List Value)(lo hi:Option Int):slicePick au.toArray lo hi none=((au.drop (HT.aO au.length 0 lo)).take (HT.aO au.length au.length hi-HT.aO au.length 0 lo)).toArray:=by obtain ⟨h1,h2,h3⟩:=Cg lo hi au.toArray.size;unfold slicePick;rw [h1,h2,h3];simp only [sliceRange_one,pick_run,bS] <;> rfl
def Cj(K:aJ):V→Option Int→Option Int→Hp→VK→Prop:=fun x lo hi H Q=>∃a xs,x=.ref a∧cn K H a xs∧∀p,H p=none→Q (.ref p) (upd H p (.lst (du xs lo hi)))
theorem JI:qb X (Cj X.K):=by
 intro pins s σ H x v vl vu lo hi sl Q I rx hs pl pu h;obtain ⟨a,xs,rfl,hx,q⟩:=h;cases rx;obtain ⟨au,r,ht,hz⟩:=I.list hx;have hlen:=r.length;refine ⟨"list",_,slot_list_getitem.lookup,ht.isList.typeIs,?_⟩;refine wpAny_getItem_list_slice ht.isList hs pl pu .none (by simp) ?_ (by rw [bS] <;> omega)
 rw [Ci,←hlen];refine ⟨.ref s.heap.objs.size,_,I.laid (t':=s.toks) (o:=.lst (du xs lo hi)) (fun b ob q=>b_ _ q) (aG _) ?_,rfl,q _ (I.aB.fresh (aG _))⟩;exact ⟨cE (xI xs lo hi) hz,_,0,(r.drop (HT.aO xs.length 0 lo)).take (HT.aO xs.length xs.length hi-HT.aO xs.length 0 lo),dP _ rfl⟩
def gz:V→Bool
 | .aR=>true
 | .bl _=>true
 | .int _=>true
 | .str _=>true
 | _=>false
def dI:V→V→Bool
 | .aR,.aR=>true
 | .bl a,.bl b=>a == b
 | .bl a,.int b=>(if a then 1 else 0) == b
 | .int a,.bl b=>a == (if b then 1 else 0)
 | .int a,.int b=>a == b
 | .str a,.str b=>a == b
 | _,_=>false
variable {y x:V} {u:Value}
theorem jV{A:Around}{v:Value}(ry:RelV y u)(rx:RelV x v)(fy:gz y=true)(fx:gz x=true):SeqAt.EqAt A s u v (dI y x):=by
 cases y with
 | aR=>
  cases ry;cases x with
  | aR=>cases rx;exact jC _
  | bl b=>cases rx;exact SeqAt.EqAt.none_bool b
  | int b=>obtain ⟨t,rfl⟩:=rx;exact SeqAt.EqAt.none_int b t
  | str b=>obtain ⟨t,rfl⟩:=rx;exact SeqAt.EqAt.none_str b t
  | _=>exact absurd (show false=true from fx) cj
 | bl a=>
  cases ry;cases x with
  | aR=>cases rx;exact SeqAt.EqAt.bool_none a
  | bl b=>cases rx;exact SeqAt.EqAt.bool_bool a b
  | int b=>obtain ⟨t,rfl⟩:=rx;exact SeqAt.EqAt.bool_int a b t
  | str b=>obtain ⟨t,rfl⟩:=rx;exact SeqAt.EqAt.bool_str a b t
  | _=>exact absurd (show false=true from fx) cj
 | int a=>
  obtain ⟨t',rfl⟩:=ry;cases x with
  | aR=>cases rx;exact SeqAt.EqAt.int_none a t'
  | bl b=>cases rx;exact SeqAt.EqAt.int_bool a t' b
  | int b=>obtain ⟨t,rfl⟩:=rx;exact SeqAt.EqAt.int_int a t' b t
  | str b=>obtain ⟨t,rfl⟩:=rx;exact SeqAt.EqAt.int_str a t' b t
  | _=>exact absurd (show false=true from fx) cj
 | str a=>
  obtain ⟨t',rfl⟩:=ry;cases x with
  | aR=>cases rx;exact SeqAt.EqAt.str_none a t'
  | bl b=>cases rx;exact SeqAt.EqAt.str_bool a t' b
  | int b=>obtain ⟨t,rfl⟩:=rx;exact SeqAt.EqAt.str_int a t' b t
  | str b=>obtain ⟨t,rfl⟩:=rx;exact SeqAt.EqAt.str_str a t' b t
  | _=>exact absurd (show false=true from fx) cj
 | _=>exact absurd (show false=true from fy) cj
def iC(x:V)(u:Value):Bool:=match u with
 | .none=>dI .aR x
 | .bool b=>dI (.bl b) x
 | .int i _=>dI (.int i) x
 | .str z _=>dI (.str z) x
 | _=>false
theorem xP(r:RelV y u)(f:gz y=true):iC x u=dI y x:=by
 cases y with
 | aR=>cases r;rfl
 | bl b=>cases r;rfl
 | int i=>obtain ⟨t,rfl⟩:=r;rfl
 | str z=>obtain ⟨t,rfl⟩:=r;rfl
 | _=>exact absurd (show false=true from f) cj
theorem tw{x:V}:∀{xs:List V} {us:List Value},Vals xs us→xs.all gz=true→us.any (iC x)=xs.any fun y=>dI y x
 | _,_,.nil,_=>rfl
 | y::xs,u::us,.cons r t,f=>by rw [List.all_cons,jB] at f;rw [List.any_cons,List.any_cons,xP r f.1,tw t f.2]
theorem tD{A:Around}{s:Shared}{x:V}{v:Value}(rx:RelV x v)(fx:gz x=true):∀{xs:List V} {us:List Value},Vals xs us→xs.all gz=true→∀u∈us,SeqAt.EqAt A s u v (iC x u)
 | _,_,.nil,_=>fun u hu=>by cases hu
 | y::xs,u::us,.cons r t,f=>fun u' hu=>by
  rw [List.all_cons,jB] at f;rcases cN.mp hu with rfl | hu;·rw [xP r f.1];exact jV r rx f.1 fx
  ·exact tD rx fx t f.2 u' hu
def xQ(x:V)(xs:List V):Bool:=xs.any fun y=>dI y x
def Ck(K:aJ)(neg:Bool):R2:=fun x y H Q=>∃p xs,y=.ref p∧(cn K H p xs∨cF K H p xs)∧gz x=true∧xs.all gz=true∧Q (.bl (if neg then !xQ x xs else xQ x xs)) H
theorem Cm:cp X (compareOp .In) (Ck X.K false):=by
 intro pins s σ H x y v u Q I rx ry h;obtain ⟨p,xs,rfl,hq,fx,fs,q⟩:=h;cases ry;rcases hq with hq | hq
 ·obtain ⟨au,r,pl,hz⟩:=I.list hq
  refine SeqAt.in_listAt (iC x) pl.isList (fun w hw=>tD rx fx r fs w (by simpa using hw)) ⟨.bl _,H,I,rfl,?_⟩
  rw [show au.toArray.any (iC x)=au.any (iC x) by simp,tw r fs]
  exact q
 ·obtain ⟨au,r,pl,hz⟩:=I.tuple hq
  refine SeqAt.in_tupleAt (iC x) pl (fun w hw=>tD rx fx r fs w (by simpa using hw)) ⟨.bl _,H,I,rfl,?_⟩
  rw [show au.toArray.any (iC x)=au.any (iC x) by simp,tw r fs]
  exact q
theorem dW:gv X (.builtin "len") (fun xs H Q=>∃p ys,xs=[.ref p]∧(cn X.K H p ys∨cF X.K H p ys)∧Q (.int ys.length) H):=by
 intro pins s σ H xs us Q I r h;obtain ⟨p,ys,rfl,hq,q⟩:=h;obtain ⟨u,rfl,rx⟩:=vals1 r;cases rx;have hn:=pW;rcases hq with hq | hq
 ·obtain ⟨au,r',pl,hz⟩:=I.list hq
  have hlen:=r'.length;exact Calls.call_len_list pl.isList (by simp only [bS] <;> omega) ⟨.int ys.length,H,I.tok _,⟨s.toks+1,by rw [bS,hlen]⟩,q⟩
 ·obtain ⟨au,r',pl,hz⟩:=I.tuple hq
  have hlen:=r'.length;exact len_tuple pl (by simp only [bS] <;> omega) ⟨.int ys.length,H,I.tok _,⟨s.toks+1,by rw [bS,hlen]⟩,q⟩
theorem qd:gv X (.type "tuple") (fun xs H Q=>∃p ys,xs=[.ref p]∧((cn X.K H p ys∧∀l,H l=none→Q (.ref l) (upd H l (.tup ys)))∨(cF X.K H p ys∧Q (.ref p) H))):=by
 intro pins s σ H xs us Q I r h;obtain ⟨p,ys,rfl,h⟩:=h;obtain ⟨u,rfl,rx⟩:=vals1 r;cases rx;rcases h with ⟨hq,q⟩ | ⟨hq,q⟩
 ·obtain ⟨au,r',pl,hz⟩:=I.list hq
  have hlen:=r'.length;refine call_tuple_list pl.isList (fun h' kp=>?_) (by simp only [bS] <;> omega)
  have I1:Inv X pins σ H {s with heap:=h'}:=I.kept (t':=s.toks) kp;have I2:Inv X pins σ (upd H h'.objs.size (.tup ys)) {s with heap:=h'.push {cls:=.type "tuple",data:=.seq au.toArray}}:=
   I1.laid (t':=s.toks) (fun b o e=>b_ _ e) (aG _) (show bO X.prog X.w _ _ _ (.tup ys) from ⟨hz,au,r',IsTup.new _ _⟩)
  exact ⟨.ref h'.objs.size,_,I2,rfl,q _ (I1.aB.fresh (aG _))⟩
 ·obtain ⟨au,r',pl,hz⟩:=I.tuple hq
  exact call_tuple_same pl ⟨.ref p,H,I,rfl,q⟩
def xR(K:aJ)(T:String)(x:V)(H:Hp):Prop:=match x with
 | .str _=>T="str"
 | .int _=>T="int"
 | .ref p=>(T="list"∧∃xs,cn K H p xs)∨(T="tuple"∧∃o,K.lookup p=some o∧o.cls=.type "tuple"∧o.dict=none) ∨
   (T="dict"∧((∃bT,H p=some (.dK bT))∨∃bT,H p=some (.dT bT)))∨(T="set"∧∃S n,H p=some (.set S n))
 | _=>False
theorem Cn{T:String}{v:Value}(I:Inv X pins σ H s)(r:RelV x v)(ty:xR X.K T x H) :
  s.TypeIs v T∧∀a,v=.ref a→∃ob,s.heap.get? a=some ob∧ob.dict=none:=by
 cases x with
 | str z=>obtain ⟨t,rfl⟩:=r;cases (show T="str" from ty);exact ⟨typeIs_str s z t,fun _ e=>nomatch e⟩
 | int i=>obtain ⟨t,rfl⟩:=r;cases (show T="int" from ty);exact ⟨typeIs_int s i t,fun _ e=>nomatch e⟩
 | ref p=>
  cases r;rcases ty with ⟨rfl,xs,hq⟩ | ⟨rfl,o,hk,hc,hd⟩ | ⟨rfl,hk⟩ | ⟨rfl,S,n,hk⟩
  ·obtain ⟨au,_,pl,_⟩:=I.list hq
   refine ⟨pl.isList.typeIs,fun a e=>?_⟩;cases e;obtain ⟨o,n,e,c,hd,_⟩:=pl;exact ⟨o,e,hd⟩
  ·refine ⟨⟨o,I.cJ p o hk,hc⟩,fun a e=>?_⟩
   cases e;exact ⟨o,I.cJ _ o hk,hd⟩
  ·have z:∃o,s.heap.get? p=some o∧o.ExactDict:=by
    rcases hk with ⟨bT,hk⟩ | ⟨bT,hk⟩
    ·obtain ⟨_,_,_,_,o,_,_,e,ex,_⟩:=I.aB p _ hk
     exact ⟨o,e,ex⟩
    ·obtain ⟨_,_,_,_,o,_,_,e,ex,_⟩:=I.aB p _ hk
     exact ⟨o,e,ex⟩
   obtain ⟨o,e,ex⟩:=z;refine ⟨⟨o,e,ex.1⟩,fun a e2=>?_⟩;cases e2;exact ⟨o,e,ex.2.1⟩
  ·obtain ⟨o,_,_,_,e,ex,_⟩:=I.aB p _ hk
   refine ⟨⟨o,e,ex.1⟩,fun a e2=>?_⟩;cases e2;exact ⟨o,e,ex.2.1⟩
 | _=>exact False.elim ty
def Co(K:aJ)(T:String)(r:V→List V→Hp→VK→Prop)(to:TE)(t:TA):TE:=fun σ H Q=>to σ H fun x H1=>xR K T x H1∧t σ H1 fun xs H2=>r x xs H2 Q
variable {o e:Expr} {es:List Expr} {to:TE} {t:TA} {name:Str} {apos fE:Pos} {T id:String} {r:V→List V→Hp→VK→Prop}
theorem lL(pa:PlainAttrs T)(slot:Slot T name id)(Cp:typeOf (.builtin id)=pure (.type "method_descriptor"))(hm:tj X id r)(ho:PE X o to)(ha:PA X (e::es) t)
  (nW:attributeBase o name X.env (eval o X.env)=eval o X.env:=by rfl)
  (Cq:((backTo fE (starEach (e::es) X.env)).all (fun x=>!x.1) && (backToKw fE (keywordEach [] X.env)).all (fun x=>x.1.isSome)
   && decide ((e::es).length+([]:List Keyword).length+(if ([]:List Keyword).isEmpty then 0 else 1)<30))=true:=by rfl)
  (Cr:(apos.endLine == fE.line)=true:=by rfl) (hs:starEach (e::es) X.env=(false,eval e X.env)::starEach es X.env:=by rfl) (Cs:(backTo fE (starEach es X.env)).any (·.1)=false:=by rfl) :
  PE X (.Call (.Attribute o name apos) (e::es) [] fE) (Co X.K T r to t):=by
 intro pins s σ H Q I h;refine wpAny_Call_method_late nW Cq Cr rfl (aM (ho pins s σ H _ I h) fun v s1 ⟨x,H1,I1,r1,ty,q1⟩=>?_);obtain ⟨h1,h2⟩:=Cn I1 r1 ty;refine ⟨T,id,pa,slot,Cp,h1,h2,?_⟩;have hA:=ha fE pins s1 σ H1 _ I1 q1;rw [hs] at hA ⊢;refine Calls.callWith_builtin (by show (false || (backTo fE (starEach es X.env)).any (·.1))=false;rw [Cs] <;> rfl) (Calls.evalArgs_plain ?_)
 exact aM hA fun us s2 ⟨vs,H2,I2,r2,q2⟩=>hm pins s2 σ H2 x vs v us Q I2 r1 r2 q2
end
def xS(X:Cx)(id:String)(r:V→List V→Hp→VK→Prop):Prop:=
 ∀(pins:aI) (s:Shared) (σ:St) (H:Hp) (x:V) (xs:List V) (v:Value) (us:List Value) (Q:VK),Inv X pins σ H s→RelV x v→Vals xs us→r x xs H Q→
  wpAny (model X.prog X.w) X.A (call (.builtin id) (v::us)) (EP X pins σ Q) X.xe s
theorem Vals.one:∀{x:V} {us:List Value},Vals [x] us→∃u,us=[u]∧RelV x u
 | _,_,.cons r .nil=>⟨_,rfl,r⟩
section
variable {X:Cx} {pins:aI} {σ:St} {H:Hp} {s:Shared} {l b:Addr} {xs ys zs:List V}
variable {au:List Value} {n t':Nat}
theorem Inv.xT{its':List Value}{f:Array Value→Array Value}(I:Inv X pins σ H s)(hH:H l=some (.lst xs))
  (e:s.heap.get? l=some {cls:=.type "list",data:=.seq au.toArray n}) (hf:f au.toArray=its'.toArray) (hv:Vals ys its') (hz:ys.length≤sizeLine) :
  Inv X pins σ (upd H l (.lst ys)) {s with heap:=s.heap.update l (Obj.mapSeq f),toks:=t'}:=by
 have q:=PySem.IsL.update e f;rw [hf] at q;refine I.write (x:=l) (e:=l) (by rw [hH];exact trivial) (.inl rfl) (fun b' u hb hu=>(Heap.get?_update_other s.heap (Obj.mapSeq f) (eP hb)).trans hu) ⟨_,q⟩ ?_
 exact ⟨hz,its',_,hv,q⟩
theorem Inv.Ct(I:Inv X pins σ H s)(hv:Vals ys au)(hz:ys.length≤sizeLine) :
  Inv X pins σ (upd H s.heap.objs.size (.lst ys)) {s with heap:=s.heap.push {cls:=.type "list",data:=.seq au.toArray},toks:=t'}:=
 I.laid (fun _ _ q=>b_ _ q) (aG _) ⟨hz,au,0,hv,dP _ rfl⟩
theorem Inv.fresh(I:Inv X pins σ H s):H s.heap.objs.size=none:=I.aB.fresh (aG _)
theorem Inv.jW(I:Inv X pins σ H s)(hH:H l=some (.lst xs)):xs.length≤sizeLine∧∃(au:List Value) (n:Nat),Vals xs au∧xs.length=au.length∧s.heap.get? l=some {cls:=.type "list",data:=.seq au.toArray n}:=by obtain ⟨z,au,n,r,e⟩:=I.aB l _ hH;exact ⟨z,au,n,r,r.length,e⟩
theorem Cu(h:n≤sizeLine):Builtin.List.listTooLong n=false:=by unfold Builtin.List.listTooLong;exact bt (by omega)
end
section
variable {X:Cx}
def Cv:V→List V→Hp→VK→Prop:=fun x vs H Q=>∃l xs y,x=.ref l∧vs=[y]∧H l=some (.lst xs)∧xs.length<sizeLine∧Q .aR (upd H l (.lst (xs++[y])))
theorem nX:xS X "list.append" Cv:=by
 intro pins s σ H x vs v us Q I rx rv h;obtain ⟨l,xs,y,rfl,rfl,hH,hz,q⟩:=h;cases rx;obtain ⟨u,rfl,ru⟩:=rv.one;obtain ⟨z,au,n,r,hl,e⟩:=I.jW hH;refine call_meets F.slot_list_append ⟨_,e,rfl⟩ F.entry_list_append (F.args_list_append_2 _ _) (PySem.list_append l au.toArray n u (by rw [bS];omega)) ⟨e,?_⟩
 refine ⟨.aR,_,I.xT (its':=au++[u]) hH e (by simp) (r.append (.cons ru .nil)) ?_,rfl,q⟩
 rw [dk,List.length_singleton];omega
def Cw:V→List V→Hp→VK→Prop:=fun x vs H Q=>∃l b xs zs,x=.ref l∧vs=[.ref b]∧H l=some (.lst xs)∧H b=some (.lst zs)∧xs.length+zs.length≤sizeLine∧Q .aR (upd H l (.lst (xs++zs)))
theorem xU:xS X "list.extend" Cw:=by
 intro pins s σ H x vs v us Q I rx rv h;obtain ⟨l,b,xs,zs,rfl,rfl,hH,hB,hz,q⟩:=h;cases rx;obtain ⟨u,rfl,ru⟩:=rv.one;cases ru;obtain ⟨z,au,n,r,hl,e⟩:=I.jW hH;obtain ⟨z2,gy,n2,r2,Cy,e2⟩:=I.jW hB;have fV:au.toArray.size+gy.toArray.size≤sizeLine:=by rw [bS,bS];omega
 have Cz:¬(!au.toArray.isEmpty && Builtin.List.listTooLong (au.toArray.size+gy.toArray.size))=true:=by rw [Cu fV,Bool.and_false];exact cj
 refine call_meets F.slot_list_extend ⟨_,e,rfl⟩ F.entry_list_extend (F.args_list_extend_2 _ _)
  (AutoSeq1.list_extend_list_list_0 l au.toArray n b gy.toArray n2 Cz (by rw [bS];omega) (by omega)) ⟨e,e2,?_⟩
 refine ⟨.aR,_,I.xT (its':=au++gy) hH e (by simp) (r.append r2) ?_,rfl,q⟩
 rw [dk];omega
def xV:R2:=fun x y H Q=>∃l b xs zs,x=.ref l∧y=.ref b∧H l=some (.lst xs)∧H b=some (.lst zs)∧xs.length+zs.length≤sizeLine∧∀p,H p=none→Q (.ref p) (upd H p (.lst (xs++zs)))
theorem fW:cp X (binaryOp .Add) xV:=by
 intro pins s σ H x y v u Q I rx ry h;obtain ⟨l,b,xs,zs,rfl,rfl,hH,hB,hz,q⟩:=h;cases rx;cases ry;obtain ⟨z,au,n,r,hl,e⟩:=I.jW hH;obtain ⟨z2,gy,n2,r2,Cy,e2⟩:=I.jW hB;refine PySem.P.add_list e e2 ?_ (by rw [bS,bS];omega)
 have ea:au.toArray++gy.toArray=(au++gy).toArray:=by simp
 rw [ea];exact ⟨.ref _,_,I.Ct (t':=s.toks) (r.append r2) (by rw [dk];omega),rfl,q _ I.fresh⟩
end
section
variable {prog:Program} {w:World} {A:Around} {E:aE} {s:Shared}
end
section
variable {X:Cx}
end
end L2
namespace qe
open PySem PySem.W PySem.Calls PyProof.Rows
variable {P:Params} {h:Heap}
theorem CA:∀(ns:List Int) (vs:List Value),WellAll P h vs (ns.map WData.int)→IntsAre vs ns:=by
 intro ns
 induction ns with
 | nil=>intro vs w;rw [List.map_nil] at w;cases w;exact .nil
 | cons n ns ih=>
  intro vs w;rw [List.map_cons] at w;cases w with
  | cons a b=>cases a;exact .cons _ _ (ih _ b)
variable {l:OpenLaw} {n:Nat}
theorem CB(hn:l.most=some n){args:List WData}{vals:List Value}
  (qf:l.row.toRowW.claim.pre args=true) (tE:WellAll P h vals args) :
  ∃a vs ns,vals=[Value.ref a]∧args=[WData.list (ns.map WData.int)]∧h.get? a=some {cls:=.type "list",data:=.seq vs.toArray}∧IntsAre vs ns∧ns.length≤n:=by
 have CD:WShape.hasAll [] args [.list .int]=true:=(pre_splitW qf).1;have hc:l.pre.holds [] {args:=args}=true:=(pre_splitW qf).2;obtain ⟨d,r,rfl,h1,h2⟩:=hasAllW_cons CD;obtain rfl:=hasAllW_nil h2;obtain ⟨xs,rfl,h3⟩:=hasW_list h1;obtain ⟨ns,rfl⟩:=items_int h3;have hlen:ns.length≤n:=by
  unfold OpenLaw.pre at hc;have h4:(WTm.not (.lt (.lit (.int (n:Int))) (.len (.arg 0)))).holds [] {args:=[.list (ns.map .int)]}=true:=by have h4:=(holds_andW hc).1;rw [hn] at h4;exact h4
  have h5:=condW_of h4 (w_not (w_lt w_lit (w_len_list (w_arg rfl))));rw [bz] at h5;refine Nat.le_of_not_lt fun q=>?_;have q':(n:Int)<((ns.length:Nat):Int):=by omega
  first
   | (rw [aW q'] at h5;exact absurd h5 (by decide))
   | (simp at h5;omega)
 cases tE with
 | cons w1 w2=>
  cases w2;cases w1 with
  | list ho tF=>exact ⟨_,_,ns,rfl,rfl,ho,CA ns _ tF,hlen⟩
theorem CF(l:OpenLaw)(args:List WData):l.row.toRowW.claim.post args (.bool true) args=true:=
 postW_of (r:=l.row.toRowW) (X:=(true == true))
  (show WShape.has [] (.bool true) .bool=true by first | rfl | decide | simp [WShape.has,WShape.arms,WShape.armsAll])
  (show (WTm.eq .res (.lit (.bool true))).value [] {args:=args,res:=some (.bool true),after:=args}=some (.bool (true == true)) from w_eq_bool (w_res rfl) w_lit) rfl
theorem CG{q:Program}{loose:List Str}{XP:(Str→Option Value)→Heap→Prop}{YP:World→Heap→Prop}{d:DefRec}
  (hn:l.most=some n) (nY:d.params.defaults=[])
  (call:∀(w:World) (s₀ s₁:Shared) (mg mb:bW) (fa:Addr) (o:Obj) (pm cd doc:Value) (a:Addr) (vs:List Value) (ns:List Int),
   Ground q loose [] XP w s₀ mg mb s₁.heap→YP w s₁.heap→
   s₁.heap.get? fa=some o→o.data=.func (docDef d.name d.params d.body d.scope pm cd doc)→s₁.heap.CodeRec cd d.name→mg d.name=some (.ref fa)→
   s₁.heap.get? a=some {cls:=.type "list",data:=.seq vs.toArray}→IntsAre vs ns→ns.length≤n→s₁.gens = #[]→
   codeAny (model l.prog w) callerA (.call (.ref fa) ⟨[.ref a],[]⟩) (fun r s'=>r=.ok (.ret (.bool true))∧OldK s₁.heap s'.heap∧s'.os=s₁.os∧AllBare s'.gens) s₁) :
  WalkO q loose XP YP l.row.toRowW d [] (fun f vs=>PySem.call f vs):=by
 intro w s₀ s₁ mg mb G Y fa o pm cd doc dV kV ho hd eV hD nZ hg args vals as qf JJ JK tE JL;obtain rfl:dV=.none:=Dflts.none hD nY;obtain rfl:kV=.none:=Dflts.noKw hD;obtain ⟨a,vs,ns,rfl,rfl,tG,hints,hlen⟩:=CB hn qf tE;refine enter_call (k6 (call w s₀ s₁ mg mb fa o pm cd doc a vs ns G Y ho (fd_plain hd) eV nZ tG hints hlen hg) fun r s' hq=>?_);obtain ⟨rfl,h2,h3,h4⟩:=hq;exact ⟨.inl ⟨.bool true,.bool true,[],rfl,fun _=>rfl,.bool true,CF l _,fun _=>⟨List.Pairwise.nil,fun _ hm=>(nomatch hm)⟩⟩,h2,h3,h4⟩
section
variable {prog:Program} {w:World} {A:Around} {E:aE} {s:Shared} {K:Frag}
end
end qe
namespace L2
open PySem PySem.Spec PyProof.Rows
theorem xW:∀{vs:List Value} {ns:List Int},IntsAre vs ns→Vals (ns.map V.int) vs
 | _,_,.nil=>.nil
 | _,_,.cons n t h=>.cons ⟨t,rfl⟩ (xW h)
def tH(H:Hp):Prop:=∀b,H b=none∨∃o xs,H b=some (.dG o (.lst xs))
variable {K:aJ} {k:Nat} {a:Addr} {x:Str}
theorem CH{P:Program}{w:World}{mg mb:bW}{CX:en}{fa:Addr}{fd:FuncData}{sp:Sp}{s₁:Shared}{vs:List Value}{ns:List Int}
  (KX:K.In s₁.heap) (xX:s₁.heap.Ns mainGlobals mg) (hb:s₁.heap.Ns builtinsNs mb) (jX:∀x:Str,x ≠ "__name__"→mb x=bootBuiltins x) (CI:s₁.heap.NoLimit) (hg:s₁.gens = #[])
  (ha:s₁.heap.get? a=some {cls:=.type "list",data:=.seq vs.toArray}) (hi:IntsAre vs ns) (hl:ns.length≤sizeLine) (hr:cK k callerA)
  (F:∀base:Heap,K.In base→base.Ns mainGlobals mg→bP P w K mg base CX k fa fd [x] sp) (CJ:∀(s:Shared) (u:Value),BindsTo s fd ⟨[u],[]⟩ [(x,u)])
  (hG:∀H:Hp,tH H→cn K H a (ns.map V.int)→sp [.ref a] H (fun v _=>v=.bl true) fun _ _ _=>False)
  (tI:∀H e s',CX [] H s₁ (fun _ _ _=>False) e s'→False) :
  codeAny (model P w) callerA (.call (.ref fa) ⟨[.ref a],[]⟩) (fun r s'=>r=.ok (.ret (.bool true))∧OldK s₁.heap s'.heap∧s'.os=s₁.os∧AllBare s'.gens) s₁:=by
 have rv:=xW hi;have CK:=hi.length
 have core:∀H:Hp,tH H→cn K H a (ns.map V.int)→bM P w H s₁.heap→(∀b,H b≠none→b=a)→(H a≠none→K.lookup a=none)→
   codeAny (model P w) callerA (.call (.ref fa) ⟨[.ref a],[]⟩) (fun r s'=>r=.ok (.ret (.bool true))∧OldK s₁.heap s'.heap∧s'.os=s₁.os∧AllBare s'.gens) s₁:=by
  intro H hO hS aB hA hK;have xY:∀{b:Addr} {o:Obj},s₁.heap.get? b=some o→H b=none→(ir s₁.heap H).get? b=some o:=fun e n=>A6 e n;have nO:∀{b:Addr} {o:Obj} {es:Array DictEntry} {ep:Nat},s₁.heap.get? b=some o→o.data=.dict es ep→H b=none:=fun{b o es ep} e d=>by
   cases q:H b with
   | none=>rfl
   | some u=>
    have e':b=a:=hA b (by rw [q];simp)
    subst e';rw [ha] at e;cases e;have d':Data.seq vs.toArray _=Data.dict es ep:=d;cases d'
  have qg:∀{b:Addr} {m:bW},s₁.heap.Ns b m→(ir s₁.heap H).Ns b m:=fun{b m} ⟨o,es,ep,e,d,r⟩=>⟨o,es,ep,xY e (nO e d),d,r⟩;have xZ:K.In (ir s₁.heap H):=fun b o e=>xY (KX b o e) (by
   cases q:H b with
   | none=>rfl
   | some u=>
    have e':b=a:=hA b (by rw [q];simp)
    subst e';rw [hK (by rw [q];simp)] at e;cases e)
  have hM:Mod K mg (ir s₁.heap H):=⟨xZ,qg xX,⟨mb,qg hb,jX⟩,let ⟨mc,h1,h2⟩:=CI;⟨mc,qg h1,h2⟩⟩
  have e0:pZ P w K mg (ir s₁.heap H) callerA [] s₁ H:=⟨rfl,hM,fun b o e=>A7 e,Nat.le_of_eq (A5 _ _),trivial,fun b hb=>absurd (show b∈([]:List Addr) from hb) (by simp),aB,.of_eq hg⟩
  refine k6 ((F _ xZ (qg xX)).run callerA [] s₁ H ⟨[.ref a],[]⟩ [.ref a] [.ref a] _ _ hr e0 (CJ s₁ (.ref a)) (.cons rfl .nil) (hG H hO hS)) fun r s' h=>?_;cases r with
  | error e=>exact (tI H e s' h).elim
  | ok fl=>
   cases fl with
   | next=>exact False.elim h
   | brk=>exact False.elim h
   | cont=>exact False.elim h
   | ret u=>
    obtain ⟨v,H',os,bare,un,CL,r',q⟩:=h;have q':v=.bl true:=q;subst q';obtain rfl:u=Value.bool true:=r';refine ⟨rfl,OldK.of_keep fun b o e=>?_,os,bare⟩;cases q:H b with
    | none=>exact un.keep b o e q (by intro z;exact absurd (show b∈([]:List Addr) from z) (by simp)) (by simp)
    | some u=>
     rcases hO b with z | ⟨ob,xs,z⟩;·rw [q] at z;cases z
     ·have z2:=un.cT b ob _ z
      obtain ⟨e1,_⟩:=aB b _ z;obtain ⟨e2,_⟩:=CL b _ z2;rw [e] at e1;cases e1;exact e2
 cases hk:K.lookup a with
 | some o=>have e:=KX a o hk;rw [ha] at e;cases e;refine core (fun _=>none) (fun _=>.inl rfl) (.inr ⟨_,vs.toArray,_,hk,rfl,rfl,rfl,by rw [bS,CK];exact hl,by simpa using rv⟩) (fun b u z=>by have z':(none:Option HO)=some u:=z;cases z') (fun b z=>absurd rfl z) fun z=>absurd rfl z
 | none=>
  refine core (fun b=>if b=a then some (.dG {cls:=.type "list",data:=.seq vs.toArray} (.lst (ns.map V.int))) else none) (fun b=>?_) (.inl (.inr ⟨{cls:=.type "list",data:=.seq vs.toArray},aj rfl⟩)) (fun b u z=>?_) (fun b z=>?_) fun _=>hk
  ·by_cases hb:b=a
   ·exact .inr ⟨_,_,aj hb⟩
   ·exact .inl (ai hb)
  ·by_cases hb:b=a
   ·have z':=(aj hb).symm.trans z
    cases z';subst hb;exact ⟨ha,by rw [bz];exact hl,vs,_,rv,ha⟩
   ·have z':=(ai hb).symm.trans z
    cases z'
  ·by_cases hb:b=a
   ·exact hb
   ·exact absurd (ai hb) z
abbrev x4 {K:aJ} {h:Heap} (_:K.In h):PySem.W.Frag:=K
variable {n:Nat}
theorem CM{l:PySem.W.OpenLaw}{q:Program}{loose:List Str}{XP:(Str→Option Value)→Heap→Prop}{YP:World→Heap→Prop}{d:DefRec}{K:Params→PySem.W.Frag}{CX:World→en}{sp:World→Sp}
  (hn:l.most=some n) (CN:n≤sizeLine) (nY:d.params.defaults=[]) (hr:cK k callerA)
  (hY:∀(w:World) (h:Heap),YP w h→(K w.params).In h)
  (F:∀(w:World) (mg:bW) (fa:Addr) (h:Heap),(K w.params).In h→h.Ns mainGlobals mg→mg d.name=some (.ref fa)→
   ∃fd:FuncData,(∀(s:Shared) (u:Value),BindsTo s fd ⟨[u],[]⟩ [(x,u)]) ∧
    ∀base:Heap,(K w.params).In base→base.Ns mainGlobals mg→bP l.prog w (K w.params) mg base (CX w) k fa fd [x] (sp w))
  (hG:∀(w:World) (H:Hp) (a:Addr) (ns:List Int),ns.length≤n→tH H→cn (K w.params) H a (ns.map V.int)→sp w [.ref a] H (fun v _=>v=.bl true) fun _ _ _=>False)
  (tI:∀(w:World) (H:Hp) (s:Shared) (e:Value) (s':Shared),CX w [] H s (fun _ _ _=>False) e s'→False) :
  PySem.W.WalkO q loose XP YP l.row.toRowW d [] (fun f vs=>PySem.call f vs):=by
 refine qe.CG hn nY fun w s₀ s₁ mg mb fa o pm cd doc a vs ns G Y ho hd eV nZ tG hints hlen hg=>?_;have KX:=hY w _ Y;obtain ⟨fd,hb,hF⟩:=F w mg fa _ KX G.T.g nZ;exact CH KX G.T.g G.T.b G.T.builtins G.T.nolimit hg tG hints (cE hlen CN) hr hF hb (fun H hO hS=>hG w H a ns hlen hO hS) fun H e s'=>tI w H s₁ e s'
def n8(s:Stmt):Arguments:=match s with
 | .FunctionDef _ a _ _ _ _ _ _ _ _=>a
 | _=>{posonlyargs:=[],args:=[],vararg:=none,kwonlyargs:=[],kw_defaults:=[],kwarg:=none,defaults:=[]}
def iD(s:Stmt):List Stmt:=match s with
 | .FunctionDef _ _ b _ _ _ _ _ _ _=>b
 | _=>[]
def bA(s:Stmt):Scope:=match s with
 | .FunctionDef _ _ _ _ _ _ sc _ _ _=>sc
 | _=>{kind:=.function,names:=[],isGenerator:=false,isCoroutine:=false}
abbrev cG:en:=fun _ _ _ _ _ _=>False
abbrev E0:XK:=fun _ _ _=>False
theorem bx{X:Cx}:Passes cG X E0:=fun _ _ _ _ _ _ _ h=>h.elim
structure eW (K:aJ) (x qual:Str) (st:Stmt) (f:Addr) (fd:FuncData):Prop where
 ex:∃(oc:Value) (od:Option Addr) (kV doc pm:Value) (an:Option Addr) (bp ct:Value) (g_:Array (Option Value)),
  fd=PySem.W.fnOf x qual (n8 st) (iD st) (bA st) .none kV doc pm an bp ct∧K.lookup f=some ⟨oc,od,.func fd,g_⟩∧PySem.W.codeIn K bp qual=true
 kp:PySem.W.keepIn K (.ref f)=true
abbrev bF (K:aJ) (x:Str) (st:Stmt) (f:Addr) (fd:FuncData):Prop:=eW K x x st f fd
section
variable {P:Program} {w:World} {K:aJ} {mg:bW} {base:Heap}
variable {qual:Str} {st:Stmt} {f:Addr} {fd:FuncData} {N ps:List Str} {sp:Sp}
theorem eW.ok(F:eW K x qual st f fd)(S:cC N ps (bA st))(len:∀vs H Q E,sp vs H Q E→vs.length=ps.length)
  (iB:∀(bp:Value) (A:Around) (outer:List Env) (s:Shared) (H:Hp) (vs:List V) (Q:VK) (E:XK),cK k (A.deeper (envOfC qual (bA st) s.heap.objs.size f bp))→sp vs H Q E→
   ∃t,dS (gx cG P w K mg base N qual (bA st) f bp A outer s H E).jL (iD st) t∧t {nx:=fun _ H'=>Q .aR H',rt:=Q} (start N vs) H):bP P w K mg base cG (k+1) f fd ps sp:=by
 obtain ⟨oc,od,kV,doc,pm,an,bp,ct,g_,rfl,lk,eV⟩:=F.ex;refine xw lk eV S len fun A outer s H vs Q E hr hG=>?_;obtain ⟨t,h,q⟩:=iB bp A outer s H vs Q E hr hG;exact ⟨t,h.jL,q⟩
theorem eW.fF(F:eW K x qual st f fd)(S:cC N ps (bA st))
  (iB:∀(bp:Value) (A:Around) (outer:List Env) (s:Shared) (H:Hp) (vs:List V) (Q:VK) (E:XK),cK k (A.deeper (envOfC qual (bA st) s.heap.objs.size f bp))→sp vs H Q E→
   ∃t,dS (gx cG P w K mg base N qual (bA st) f bp A outer s H E).jL (iD st) t∧t {nx:=fun _ H'=>Q .aR H',rt:=Q} (start N vs) H)
  (len:∀vs H Q E,sp vs H Q E→vs.length=ps.length:=by intro vs H Q E h;repeat first | (obtain ⟨rfl,_⟩:=h;rfl) | (subst h;rfl) | obtain ⟨_,h⟩:=h):bP P w K mg base cG (k+1) f fd ps sp:=F.ok S len iB
theorem eW.binds(F:eW K x qual st f fd)
  (h:∀(kV doc pm:Value) (an:Option Addr) (bp ct:Value) (us:List Value),us.length=ps.length→bindArgs (PySem.W.fnOf x qual (n8 st) (iD st) (bA st) .none kV doc pm an bp ct) ⟨us,[]⟩=pure (ps.zip us)):Binds K fd ps []:=by
 obtain ⟨oc,od,kV,doc,pm,an,bp,ct,g_,rfl,lk,eV⟩:=F.ex;exact .all (h kV doc pm an bp ct)
theorem eW.dv(F:eW K x qual st f fd)
  (h:∀(kV doc pm:Value) (an:Option Addr) (bp ct:Value) (us:List Value),us.length=ps.length→bindArgs (PySem.W.fnOf x qual (n8 st) (iD st) (bA st) .none kV doc pm an bp ct) ⟨us,[]⟩=pure (ps.zip us):=by intro _ _ _ _ _ _ us hl;rcases us with _ | ⟨_,_ | ⟨_,_ | ⟨_,_ | ⟨_,_ | ⟨_,_ | ⟨_,_ | ⟨_,_⟩⟩⟩⟩⟩⟩⟩ <;> first | rfl | (simp at hl;done)):Binds K fd ps []:=F.binds h
theorem dw{oc:Value}{od an:Option Addr}{g_:Array (Option Value)}{kV doc pm bp ct:Value}(l:K.lookup f=some ⟨oc,od,.func (PySem.W.fnOf x qual (n8 st) (iD st) (bA st) .none kV doc pm an bp ct),g_⟩)
  (c:PySem.W.codeIn K bp qual=true) (k:PySem.W.keepIn K (.ref f)=true):eW K x qual st f (PySem.W.fnOf x qual (n8 st) (iD st) (bA st) .none kV doc pm an bp ct):=⟨⟨oc,od,kV,doc,pm,an,bp,ct,g_,rfl,l,c⟩,k⟩
end
theorem jY(h:n≤1000):n<sizeLine:=pj h (by decide)
section
variable {X:Cx}
theorem pv(i:Nat){pos:Pos}(hN:X.N[i]?=some x:=by rfl)(hv:jJ X.env.scope x:=by first | exact Or.inl rfl | exact Or.inr (Or.inl rfl) | exact Or.inr (Or.inr rfl))(hd:(x == ("__debug__":Str))=false:=by decide)
  (eV:(x == ("__classdict__":Str))=false:=by decide):PE X (.Name x pos) (nC i):=Bd hN hv hd eV
end
variable {A B:Prop}
theorem ay(h:B):if false=true then A else B:=by rw [ai cj];exact h
theorem bh(h:A):if true=true then A else B:=by rw [aj rfl];exact h
theorem df{c:Prop}[Decidable c](h1:c→A)(h2:¬c→B):if c then A else B:=by
 by_cases h:c
 ·rw [aj h]
  exact h1 h
 ·rw [ai h]
  exact h2 h
def aq(H H':Hp):Prop:=∀b o,H b=some o→H' b=some o
theorem aq.refl(H:Hp):aq H H:=fun _ _ h=>h
variable {H:Hp}
theorem aq.trans{H1 H2:Hp}(a:aq H H1)(b:aq H1 H2):aq H H2:=fun c o h=>b c o (a c o h)
theorem aq.seq{H':Hp}{xs:List V}(e:aq H H')(h:cn K H a xs):cn K H' a xs:=by
 rcases h with (h | ⟨o,h⟩) | h;·exact .inl (.inl (e _ _ h))
 ·exact .inl (.inr ⟨o,e _ _ h⟩)
 ·exact .inr h
end L2
set_option maxHeartbeats 4000000
namespace L2
open PySem PySem.Spec PyProof.Rows
variable {h:Heap} {a:Addr}
theorem bO.here{P:Program}{w:World}{H:Hp}{o:HO}(x:bO P w H h a o):∃ob,h.get? a=some ob:=by
 cases o with
 | lst xs=>obtain ⟨_,_,_,_,e⟩:=x;exact ⟨_,e⟩
 | tup xs=>obtain ⟨_,_,_,ob,e,_⟩:=x;exact ⟨_,e⟩
 | dK bT=>obtain ⟨_,_,_,_,ob,_,_,e,_⟩:=x;exact ⟨_,e⟩
 | dT bT=>obtain ⟨_,_,_,_,ob,_,_,e,_⟩:=x;exact ⟨_,e⟩
 | set S n=>obtain ⟨ob,_,_,_,e,_⟩:=x;exact ⟨_,e⟩
 | ins C dx fs=>obtain ⟨_,_,_,e,_⟩:=x;exact ⟨_,e⟩
 | own y=>exact x
 | xd fs=>obtain ⟨_,⟨_,_,_,e,_⟩,_⟩:=x;exact ⟨_,e⟩
 | i6 lo hi=>obtain ⟨_,_,_,e⟩:=x;exact ⟨_,e⟩
 | dG ob u=>obtain ⟨e,_⟩:=x;exact ⟨_,e⟩
 | gW ps=>exact ⟨_,x⟩
 | met f y=>exact ⟨_,x⟩
 | ext φ=>exact x.2.1
structure eX (P:Program) (w:World) (outer:List Env) (H:Hp) (s:Shared) (H':Hp) (ea C:Addr) (B:Heap) (t:Addr) (s':Shared):Prop where
 os:s'.os=s.os
 bare:AllBare s'.gens
 fl:Heap.FlyingW B outer ea (.ref C) (.ref t) s'.heap
 aB:bM P w H' B
 kb:∀b o,s.heap.get? b=some o→H b=none→b∉bH outer→B.get? b=some o
 tb:∀b o,s.heap.get? b=some o→b∉bH outer→∃o',B.get? b=some o'
 sl:∀b o,s.heap.get? b=some o→H b=none→b∈bH outer→∃l,s'.heap.get? b=some {o with slots:=l}
 CO:∀b∈bH outer,H b=none
 x5:∀b o,s.heap.get? b=some o→H b=none→H' b=none
 cm:∀b xs,H b=some (.tup xs)→H' b=some (.tup xs)
 cT:∀b o u,H b=some (.dG o u)→H' b=some (.dG o u)
 cY:∀b ps,H b=some (.gW ps)→∃more,H' b=some (.gW (ps++more))
def eA(P:Program)(w:World):en:=fun outer H s E e s'=>∃ea C H' B t,e=.ref ea∧eX P w outer H s H' ea C B t s'∧E (.ref C) none H'
section
variable {P:Program} {w:World} {outer:List Env} {H H':Hp} {s s':Shared} {ea C t:Addr} {B:Heap}
theorem eX.tJ(f:eX P w outer H s H' ea C B t s'):H' ea=none:=by
 cases q:H' ea with
 | none=>rfl
 | some u=>obtain ⟨ob,e⟩:=(f.aB ea u q).here;rw [f.fl.2.1] at e;cases e
theorem eX.un(f:eX P w outer H s H' ea C B t s')(st:B.StaysIn h)(up:s'.heap.UpToSlots h):Un (bH outer) [] H H' s.heap h where
 keep:=fun b o e n hb _=>st b o (f.kb b o e n hb)
 slot:=fun b o e n hb _=>by obtain ⟨l,q⟩:=f.sl b o e n hb;obtain ⟨_,o2,q2,nf⟩:=f.fl.2.2.1.mem hb;rw [q] at q2;cases q2;obtain ⟨l2,q3⟩:=up b _ q nf;exact ⟨l2,q3⟩
 free:=fun b o e n _=>f.x5 b o e n
 there:=fun b o e _=>by
  by_cases hb:b∈bH outer
  ·obtain ⟨l,q⟩:=f.sl b o e (f.CO b hb) hb
   obtain ⟨_,o2,q2,nf⟩:=f.fl.2.2.1.mem hb;rw [q] at q2;cases q2;obtain ⟨l2,q3⟩:=up b _ q nf;exact ⟨_,q3⟩
  ·obtain ⟨o',q⟩:=f.tb b o e hb
   exact ⟨o',st b o' q⟩
 cm:=f.cm
 cT:=f.cT
 cY:=f.cY
def ExcAt(ea C:Addr)(h:Heap):Prop:=∃oe,h.get? ea=some oe∧oe.cls=.ref C∧PySem.W.notCls oe=true
def gA(ea C:Addr):HO:=.ext (ExcAt ea C)
theorem CP{l:List Env}(x:Heap.FlyingW B l ea (.ref C) (.ref t) h):ExcAt ea C h:=by obtain ⟨oe,vs,e,c,d,_⟩:=x.first;refine ⟨oe,e,c,?_⟩;obtain ⟨_,_,dt,_⟩:=oe;cases d;rfl
theorem bM.exc{h:Heap}(x:bM P w H' h)(n:H' ea=none)(k:ExcAt ea C h):bM P w (upd H' ea (gA ea C)) h:=fun b u e=>by
 by_cases hb:b=ea
 ·subst hb
  rw [aw] at e;cases e;obtain ⟨oe,e1,e2⟩:=k;refine ⟨⟨oe,e1,e2⟩,⟨oe,e1⟩,fun h1 h2 ⟨o1,a1,a2⟩ z=>⟨o1,z o1 a1,a2⟩⟩
 ·rw [bu hb] at e
  refine (x b u e).fw (fun c v _ q=>q) (fun c q=>?_) fun c xs q=>?_
  ·rw [bu (eT q n)]
   exact q
  ·rw [bu (eT q n)]
   exact q
theorem Un.exc{fs ex:List Addr}{h h':Heap}(u:Un fs ex H H' h h')(n:H' ea=none)(k:∀b o,h.get? b=some o→b≠ea){o:HO}:Un fs ex H (upd H' ea o) h h' where
 keep:=u.keep
 slot:=u.slot
 free:=fun b ob e z hx=>by rw [bu (k b ob e)];exact u.free b ob e z hx
 there:=u.there
 cm:=fun b xs e=>by have q:=u.cm b xs e;rw [bu (eT q n)];exact q
 cT:=fun b ob xs e=>by have q:=u.cT b ob xs e;rw [bu (eT q n)];exact q
 cY:=fun b ps e=>by obtain ⟨m,q⟩:=u.cY b ps e;refine ⟨m,?_⟩;rw [bu (eT q n)];exact q
theorem eX.apart(f:eX P w outer H s H' ea C B t s'):∀b o,s.heap.get? b=some o→b≠ea:=fun b o e z=>by
 subst z;by_cases hb:b∈bH outer
 ·obtain ⟨_,o2,q2,nf⟩:=f.fl.2.2.1.mem hb
  obtain ⟨oe,vs,q3,_,d,_⟩:=f.fl.first;rw [q2] at q3;cases q3;exact nf _ d
 ·obtain ⟨o',q⟩:=f.tb b o e hb
  rw [f.fl.2.1] at q;cases q
end
section
variable {X:Cx} {pins:aI} {σ:St} {H H':Hp} {s s':Shared} {ea C t:Addr} {B:Heap}
theorem JM{P:Addr→Prop}:∀b∈([]:List Addr),P b:=fun _ z=>nomatch z
variable {tk:Nat}
theorem eX.land(I:Inv X pins σ H s)(f:eX X.prog X.w X.stack H s H' ea C B t s')(st:B.StaysIn h)(up:s'.heap.UpToSlots h):Inv X pins σ H' {s' with heap:=h,toks:=tk}:=
 I.i9 (s':={s' with heap:=h,toks:=tk}) (ch:=[]) f.os (f.un st up) (f.aB.kept fun b o e=>st b o e) f.bare (fun _ z=>nomatch z)
theorem eX.CQ(I:Inv X pins σ H s)(f:eX X.prog X.w X.stack H s H' ea C B t s')(x:Heap.FlyingW B X.stack ea (.ref C) (.ref t) h)(up:s'.heap.UpToSlots h):Inv X pins σ (upd H' ea (gA ea C)) {s' with heap:=h,toks:=tk}:=
 I.i9 (s':={s' with heap:=h,toks:=tk}) (ch:=[]) f.os ((f.un x.1 up).exc f.tJ f.apart) ((f.aB.kept fun b o e=>x.1 b o e).exc f.tJ (CP x)) f.bare (fun _ z=>nomatch z)
structure lN (X:Cx) (E:XK):Prop where
 eU:X.stack=X.env::X.outer
 fr:X.env.frame=some X.env.locals
 ex:X.ex=[]
 xe:X.xe=fun e s'=>wpAny (model X.prog X.w) X.A (leaving X.env e) (fun _ g9=>eA X.prog X.w X.outer X.H₀ X.s₀ E e g9) (fun e' g9=>eA X.prog X.w X.outer X.H₀ X.s₀ E e' g9) s'
theorem qh{env:Env}{outer:List Env}{L:Addr}(h:env.frame=some L):bH (env::outer)=L::bH outer:=by unfold bH;rw [pd,h]
variable {E:XK}
theorem eX.leave(L:lN X E)(I:Inv X pins σ H s)(f:eX X.prog X.w X.stack H s H' ea C B t s')(x:Heap.FlyingW B X.outer ea (.ref C) (.ref t) h)(up:s'.heap.UpToSlots h):eX X.prog X.w X.outer X.H₀ X.s₀ H' ea C B t {s' with heap:=h}:=by
 have nL:∀b o,X.s₀.heap.get? b=some o→b≠X.env.locals:=fun b o e=>cB (cW (ba e) I.ok.above);have ns:∀b o,X.s₀.heap.get? b=some o→b∉bH X.outer→b∉bH X.stack:=fun b o e nb z=>by
  rw [L.eU,qh L.fr] at z;rcases cN.mp z with z | z;·exact nL b o e z
  ·exact nb z
 have nx:∀b:Addr,b∉X.ex:=fun b z=>by rw [L.ex] at z;cases z
 refine ⟨f.os.trans I.os,f.bare,x,f.aB,fun b o e n nb=>?_,fun b o e nb=>?_,fun b o e n hb=>?_,I.ok.iu,fun b o e n=>?_,fun b xs e=>f.cm b xs (I.base.cm b xs e),fun b o u e=>f.cT b o u (I.base.cT b o u e),fun b ps e=>?_⟩;·exact f.kb b o (I.base.keep b o e n nb (nx b)) (I.base.free b o e n (nx b)) (ns b o e nb)
 ·obtain ⟨o',e'⟩:=I.base.there b o e (nx b)
  exact f.tb b o' e' (ns b o e nb)
 ·obtain ⟨l,q⟩:=I.base.slot b o e n hb (nx b)
  have hs:b∈bH X.stack:=by rw [L.eU,qh L.fr];exact gQ _ hb
  obtain ⟨l2,q2⟩:=f.sl b _ q (I.base.free b o e n (nx b)) hs;obtain ⟨_,o2,q3,nf⟩:=f.fl.2.2.1.mem hs;rw [q2] at q3;cases q3;obtain ⟨l3,q4⟩:=up b _ q2 nf;exact ⟨l3,q4⟩
 ·obtain ⟨o',e'⟩:=I.base.there b o e (nx b)
  exact f.x5 b o' e' (I.base.free b o e n (nx b))
 ·obtain ⟨m1,e1⟩:=I.base.cY b ps e
  obtain ⟨m2,e2⟩:=f.cY b _ e1;exact ⟨m1++m2,by rw [e2,Array.append_assoc]⟩
theorem tK:Passes (eA X.prog X.w) X (fun _ _ _=>False):=fun pins σ H s e s' I h=>by obtain ⟨_,_,_,_,_,_,_,q⟩:=h;exact q.elim
theorem CS(L:lN X E):Passes (eA X.prog X.w) X E:=fun pins σ H s e s' I h=>by
 obtain ⟨ea,C,H',B,t,rfl,f,q⟩:=h;rw [L.xe];refine wpAny_leaves_onW (by rw [I.ok.frames,L.eU]) L.fr (by have z:=f.fl;rw [L.eU] at z;exact z) fun h' x up=>?_
 exact ⟨ea,C,H',B,t,rfl,f.leave L I x up,q⟩
end
variable {K:aJ}
theorem tL{C:Addr}{fG:List Value}{newId:String}(bX:K.In h)(hq:PySem.W.excIn K C fG newId=true) :
  ∃bm N nm qn bs hdct sn sub ab col dd k0 k1 k2 k3 k5 mN,h.get? C=some (excClassObj nm qn C N bs bm hdct sn sub ab col dd k0 k1 k2 k3 k5 newId)∧h.Ns N mN∧mN "__init__"=none∧OwnTail h fG bm∧PySem.W.mroIn K C=fun b=>some ((Value.ref C::bm).contains b):=by
 unfold PySem.W.excIn at hq
 split at hq
 ·rename_i hJ cls slt look
  split at hq
  ·rename_i CC rest a0 a1 a2 a3 nn a5 em es
   simp only [jB,beq_iff_eq,Bool.not_eq_true'] at hq;obtain ⟨⟨⟨⟨⟨e1,e2⟩,e3⟩,e4⟩,e5⟩,e6⟩:=hq;subst e1 e2;have n9:PySem.W.mroIn K CC=fun b=>some ((Value.ref CC::rest).contains b):=by
    funext b
    unfold PySem.W.mroIn PySem.W.clsIn;rw [look];simp [em]
   obtain ⟨c1,c2,c3,c4,c5,c6,c7,c8,c9,CT,JN⟩:=cls;dsimp only at em e3 e5 e6;subst em e3;have CU:slt = #[a0,a1,a2,a3,some (.builtin nn),a5]:=by obtain ⟨ll⟩:=slt;simp only at es;rw [es]
   subst CU;exact ⟨rest,c4,c1,c5,c2,c6,c7,c8,c9,CT,hJ,a0,a1,a2,a3,a5,_,bX _ _ look,.of_isNs (PySem.W.isNs_of_in bX e5),PySem.W.nsMap_none_of_in bX e5 e6,PySem.W.tail_of_in bX e4,n9⟩
  ·cases hq
 ·cases hq
section
variable {X:Cx} {E:XK} {x:Str} {C:Addr} {np fE pos:Pos} {e:Expr} {es:List Expr} {ta:TA} {B newId n_:String} {fG:List Value}
def CV(C:Addr)(E:XK)(ta:TA):TS:=fun _ σ H=>ta σ H fun vs H1=>vs.length≤sizeLine∧E (.ref C) none H1
theorem x6(L:lN X E)(hc:X.calm=true)(FB:ExcBaseFacts B newId n_ fG)(hq:PySem.W.excIn X.K C fG newId=true)(hg:Gl X x)(hm:X.mg x=some (.ref C))(ha:PA X (e::es) ta)
  (hs:starEach (e::es) X.env=(false,eval e X.env)::starEach es X.env:=by rfl) (hp:(backTo fE (starEach es X.env)).any (·.1)=false:=by rfl) (hd:(x == ("__debug__":Str))=false:=by decide) :
  PS X (.Raise (some (.Call (.Name x np) (e::es) [] fE)) none pos) (CV C E ta):=by
 intro pins s σ H D I h;obtain ⟨bm,N,nm,qn,bs,hdct,sn,sub,ab,col,dd,k0,k1,k2,k3,k5,mN,hC,hN,x8,T,_⟩:=tL I.ok.mod.bX hq
 refine wpAny_Raise_call_subT (C:=C) (nm:=nm) (q:=qn) (N:=N) (bs:=bs) (bm:=bm) (hdct:=hdct) (sn:=sn) (sub:=sub) (ab:=ab) (col:=col) (dd:=dd) (k0:=k0) (k1:=k1) (k2:=k2) (k3:=k3) (k5:=k5) FB (mN:=mN) (T.hasType FB.hasBase) (I.ok.hd hc)
  (by rw [hs];show (false || (backTo fE (starEach es X.env)).any (·.1))=false;rw [hp];rfl) x8 (nE I hg hm ⟨rfl,?_⟩ hd)
 have h1:=ha fE pins s σ H _ I h;rw [hs] at h1 ⊢;refine Calls.evalArgs_plain (aM h1 fun us s2 ⟨vs,H1,I1,r,hl,q⟩=>⟨rfl,by rw [←r.length];exact hl,I1.bk _ _ hC,hN.keeps I1.bk,T.keeps I1.bk,fun h' ea mk=>?_⟩)
 rw [L.xe];have nL:∀b o,X.s₀.heap.get? b=some o→b≠X.env.locals:=fun b o q=>cB (cW (ba q) I1.ok.above);have ns:∀b o,X.s₀.heap.get? b=some o→b∉bH X.outer→b∉bH X.stack:=fun b o q nb z=>by
  rw [L.eU,qh L.fr] at z;rcases cN.mp z with z | z;·exact nL b o q z
  ·exact nb z
 have nx:∀b:Addr,b∉X.ex:=fun b z=>by rw [L.ex] at z;cases z
 have ff:s2.heap.FunFrames (PySem.W.hideAll s2.heap (bH X.stack)) (X.env::X.outer):=by have z:=I1.stack;rw [←L.eU];exact PySem.W.funFrames_hide z fun env he a hf=>List.mem_filterMap.mpr ⟨env,he,hf⟩
 refine wpAny_leaves_madeW (base:=PySem.W.hideAll s2.heap (bH X.stack)) (h:=s2.heap) (by rw [I1.ok.frames,L.eU]) L.fr (fun b o q=>PySem.W.of_hideAll _ q) ff mk fun h2 t fl _ _ up=>?_
 refine ⟨ea,C,H1,_,t,rfl,⟨I1.os,I1.bare,fl,fun a o e1=>?_,fun b o e1 n nb=>?_,fun b o e1 nb=>?_,fun b o e1 n hb=>?_,I1.ok.iu,fun b o e1 n=>?_,I1.base.cm,I1.base.cT,I1.base.cY⟩,q⟩
 ·refine (I1.aB a o e1).fw (fun b u hb e2=>o_ _ e2 fun z=>?_) (fun _ z=>z) fun _ _ z=>z
  have n0:=I1.nA b z;rcases hb with hb | hb
  ·subst hb
   rw [e1] at n0;cases n0
  ·rw [hb] at n0
   cases n0
 ·exact o_ _ (I1.base.keep b o e1 n nb (nx b)) (ns b o e1 nb)
 ·obtain ⟨o',e2⟩:=I1.base.there b o e1 (nx b)
  exact ⟨o',o_ _ e2 (ns b o e1 nb)⟩
 ·obtain ⟨l,e2⟩:=I1.base.slot b o e1 n hb (nx b)
  have pS:b∈bH X.stack:=by rw [L.eU,qh L.fr];exact gQ _ hb
  obtain ⟨_,o2,e3,nf⟩:=I1.stack.mem pS;rw [e2] at e3;cases e3;obtain ⟨l2,e4⟩:=up b _ (mk.keeps _ _ e2) nf;exact ⟨l2,e4⟩
 ·obtain ⟨o',e2⟩:=I1.base.there b o e1 (nx b)
  exact I1.base.free b o e1 n (nx b)
end
def tM(X:Cx)(pins:aI)(σ:St)(E:XK)(e:Value)(s':Shared):Prop:=∃s₁ H₁,Inv X pins σ H₁ s₁∧eA X.prog X.w X.stack H₁ s₁ E e s'
abbrev TX:=St→Hp→VK→XK→Prop
def x9(X:Cx)(e:Expr)(t:TX):Prop:=
 ∀(pins:aI) (s:Shared) (σ:St) (H:Hp) (Q:VK) (E:XK),Inv X pins σ H s→t σ H Q E→wpAny (model X.prog X.w) X.A (eval e X.env) (EP X pins σ Q) (tM X pins σ E) s
abbrev jZ:=Ends→XK→St→Hp→Prop
def og(X:Cx)(st:List Stmt)(t:jZ):Prop:=
 ∀(pins:aI) (s:Shared) (σ:St) (H:Hp) (D:Ends) (E:XK),Inv X pins σ H s→t D E σ H→wpAny (model X.prog X.w) X.A (execs st X.env) (SP X pins D) (tM X pins σ E) s
section
variable {X:Cx} {k:Nat} {f C:Addr} {fd:FuncData} {ps:List Str} {sp:Sp} {dq:List V} {ds:List Value} {x m:Str} {p pos apos:Pos} {e o:Expr} {es:List Expr} {ta:TE} {t:TA}
theorem CW{pins:aI}{σ:St}{H:Hp}{s:Shared}{Q:VK}{E:XK}{us:List Value}{vs:List V}(F:bP X.prog X.w X.K X.mg X.base (eA X.prog X.w) k f fd ps sp)(hr:cK k X.A)(hb:Binds X.K fd ps ds)(hd:Vals dq ds)
  (I:Inv X pins σ H s) (r:Vals vs us) (h:sp (vs++dq) H Q E):wpAny (model X.prog X.w) X.A (call (.ref f) us) (EP X pins σ Q) (tM X pins σ E) s:=by
 have r2:Vals (vs++dq) (us++ds):=r.append hd;have hl:(us++ds).length=ps.length:=by rw [←r2.length];exact F.len _ _ _ _ h
 refine wpAny_call (k6 (F.run X.A X.stack s H ⟨us,[]⟩ (us++ds) (vs++dq) Q E hr I.xm (hb s us I.cJ hl) r2 h) fun r s' hq=>?_);cases r with
 | error e=>exact ⟨s,H,I,hq⟩
 | ok fl=>
  cases fl with
  | ret u=>exact I.after hq
  | next=>exact False.elim hq
  | brk=>exact False.elim hq
  | cont=>exact False.elim hq
def CY(sp:Sp)(dq:List V)(t:TA):TX:=fun σ H Q E=>t σ H fun vs H1=>sp (vs++dq) H1 Q E
theorem x_(F:bP X.prog X.w X.K X.mg X.base (eA X.prog X.w) k f fd ps sp)(hr:cK k X.A)(hg:Gl X x)(hm:X.mg x=some (.ref f))(hk:PySem.W.keepIn X.K (.ref f)=true)(hb:Binds X.K fd ps ds)(hd:Vals dq ds)
  (ha:PA X.jL (e::es) t) (iA:(x == ("__debug__":Str))=false:=by decide) (he:starEach (e::es) X.env=(false,eval e X.env)::starEach es X.env:=by rfl) (g8:(backTo pos (starEach es X.env)).any (·.1)=false:=by rfl) :
  x9 X (.Call (.Name x p) (e::es) [] pos) (CY sp dq t):=by
 intro pins s σ H Q E I h;refine ng (nE I hg hm ?_ iA);refine PySem.W.callWith_K (h₀:=X.base) I.ok.mod.bX hk (bj (ha pos pins s σ H _ (I.fT _) h) (fun us s1 ⟨vs,H1,I1,r,q⟩=>⟨I1.cJ,?_⟩) fun _ _ z=>z.elim) he g8;exact CW F hr hb hd I1.gZ r q
variable {te:TX} {i:Nat} {pos':Pos}
def CZ(te:TX):jZ:=fun D E σ H=>te σ H (fun _ H1=>D.nx σ H1) E
theorem ya(he:x9 X e te)(hs:swapsWith e none pos.line X.env=pure false:=by rfl):og X [.Expr e pos] (CZ te):=by intro pins s σ H D E I h;refine pe (bj (Q:=fun f s'=>f=.next∧SP X pins D .next s') (wpAny_Expr_any (bj (he pins s σ H _ E I h) (fun v s1 ⟨y,H1,I1,r1,q1⟩=>⟨rfl,σ,H1,I1,q1⟩) fun _ _ z=>z) I.quiet hs) (fun f s1 q=>?_) fun _ _ z=>z);obtain ⟨rfl,q⟩:=q;exact k4 q
end
abbrev Cx.fX (X:Cx) (ea:Addr):Cx:={X with A:=X.A.mark (some (.ref ea)),calm:=false,xe:=fun _ _=>False}
section
variable {X:Cx} {pins:aI} {σ:St} {H:Hp} {s:Shared} {ea:Addr}
theorem Cx.Ok.fX(ok:X.Ok):(X.fX ea).Ok:=
 ⟨ok.mod,ok.kind,ok.glob,ok.blt,ok.above,ok.inj,ok.has,ok.lF,(fun z=>nomatch z),ok.frames,ok.eU,ok.sr,ok.bs,ok.fz,ok.i7,ok.i8,ok.fO,ok.iu⟩
theorem Inv.fX(I:Inv X pins σ H s):Inv (X.fX ea) pins σ H s:=⟨I.ok.fX,I.os,I.bare,I.base,I.loc,I.cell,I.free,I.d_,I.pin,I.aB,I.len⟩
theorem Inv.lO(ok:X.Ok)(I:Inv (X.fX ea) pins σ H s):Inv X pins σ H s:=⟨ok,I.os,I.bare,I.base,I.loc,I.cell,I.free,I.d_,I.pin,I.aB,I.len⟩
theorem SP.lO(ok:X.Ok){D:Ends}{f:Flow}(h:SP (X.fX ea) pins D f s):SP X pins D f s:=by
 cases f with
 | next=>obtain ⟨a,b,I,q⟩:=h;exact ⟨a,b,I.lO ok,q⟩
 | brk=>obtain ⟨a,b,I,q⟩:=h;exact ⟨a,b,I.lO ok,q⟩
 | cont=>obtain ⟨a,b,I,q⟩:=h;exact ⟨a,b,I.lO ok,q⟩
 | ret u=>obtain ⟨v,a,b,I,r,q⟩:=h;exact ⟨v,a,b,I.lO ok,r,q⟩
theorem qi{M:Model}{A:Around}{E:aE}{i:Nat}{n:Str}{pos:Pos}{Q:Unit→Shared→Prop}(I:Inv X pins σ H s)(hN:X.N.Nodup)(hi:X.N[i]?=some n)(hk:X.env.scope.names.lookup n=some .local)
  (h:∀s',Inv X pins (σ.set i none) H s'→Q () s'):wpAny M A (do bindName X.env n .none;unbindBehindTheSuite X.env n pos) Q E s:=by
 obtain ⟨m,hn,hl⟩:=id I.loc
 refine wpAny_nameGoes_keeps hk hn (by rw [I.ok.kind];rfl) fun h' v sD hs=>h _ ?_
 have gs:=I.gs
 have pP:i<σ.length:=by rw [I.len];exact (bZ.mp hi).1
 have old:∀b o,X.s₀.heap.get? b=some o→b≠X.env.locals:=fun b o e=>cB (cW (ba e) I.ok.above)
 refine ⟨I.ok,I.os,I.bare,⟨fun b o e z hb hx=>?_,fun b o e z hb hx=>?_,I.base.free,fun b o e hx=>?_,I.base.cm,I.base.cT,I.base.cY⟩,⟨_,sD,fun j y v' e1 e2 e3=>?_⟩,fun y c e=>?_,I.free,I.d_,fun p hp=>?_,fun b ob e=>?_,by simpa using I.len⟩
 ·exact (hs.2 b (old b o e)).trans (I.base.keep b o e z hb hx)
 ·obtain ⟨sl,q⟩:=I.base.slot b o e z hb hx
  exact ⟨sl,(hs.2 b (old b o e)).trans q⟩
 ·obtain ⟨o',q⟩:=I.base.there b o e hx
  exact ⟨o',(hs.2 b (old b o e)).trans q⟩
 ·by_cases hj:j=i
  ·subst hj
   rw [rY pP] at e2
   cases e2
  ·rw [List.getElem?_set_ne (eP hj)] at e2
   obtain ⟨u',r',q⟩:=hl j y v' e1 e2 e3
   refine ⟨u',r',?_⟩
   rcases q with ⟨k,z⟩ | ⟨k,c,z1,z2⟩
   ·refine .inl ⟨k,?_⟩
    have ne:y≠n:=fun z=>hj (sv hN e1 (z▸hi))
    simp [ne,z]
   ·exact .inr ⟨k,c,z1,z2.sameBut hs (gs y c z1)⟩
 ·obtain ⟨w',z⟩:=I.cell y c e
  exact ⟨w',z.sameBut hs (gs y c e)⟩
 ·obtain ⟨a1,a2,a3,a4⟩:=I.pin p hp
  exact ⟨(hs.2 _ a3).trans a1,a2,a3,a4⟩
 ·refine (I.aB b ob e).fw (fun c w' hc q=>(hs.2 c ?_).trans q) (fun _ q=>q) fun _ _ q=>q
  intro z
  have z':c=X.env.locals:=z
  have fr:=I.free
  rcases hc with hc | hc
  ·rw [←z',hc,e] at fr
   cases fr
  ·rw [←z',hc] at fr
   cases fr
end
section
variable {M:Model} {A:Around} {E:aE} {h:Heap} {g:Array GenState} {d:Drawn} {t:Nat} {os:OsState} {e:Addr} {oe:Obj} {Q:Bool→Shared→Prop}
variable {nm q yb q':Str} {C N D N':Addr} {bs bm yc qj:List Value} {hdct yd:Bool} {sn ye:List Str} {sub yf:List Value} {ab yg:Bool} {col yh:Option Bool} {dd yi:Option Addr} {k0 k1 k2 k3 k5 j0 j1 j2 j3 j5:Option Value} {newId C0:String}
theorem C1(hC:h.get? C=some (excClassObj nm q C N bs bm hdct sn sub ab col dd k0 k1 k2 k3 k5 newId))(hD:h.get? D=some (excClassObj yb q' D N' yc qj yd ye yf yg yh yi j0 j1 j2 j3 j5 C0))(he:h.get? e=some oe)(sC:oe.cls=.ref C)
  (nW:qj.contains (.type "BaseException")=true) (tN:(Value.ref C::bm).contains (.ref D)=true) (hq:Q true ⟨h,g,d,t,os⟩):wpAny M A (excMatches (.ref e) (.ref D)) Q E ⟨h,g,d,t,os⟩:=by
 have C2:(Value.ref D::qj).contains (.type "BaseException")=true:=by rw [List.contains_cons,nW,Bool.or_true]
 have f:=tc_notTuple;unfold excMatches
 repeat (first | (with_reducible refine jD he ?_;rw [sC]) | with_reducible refine jD hD ?_ | (with_reducible refine wpAny_isSubtype_exc hD ?_;rw [C2]) | (with_reducible refine wpAny_isSubtype_exc hC ?_;rw [tN]) | wp_step)
 exact hq
end
def C3(K:aJ)(fG:List Value)(newId:String)(C D:Addr):Prop:=PySem.W.excIn K C fG newId=true∧PySem.W.mroIn K C (.ref D)=some true
section
variable {X:Cx} {body:List Stmt} {b₀:Stmt} {yj:List Stmt} {np C4 pos:Pos} {x n:Str} {D:Addr} {tb:jZ} {ts:TS} {fG:List Value} {newId:String} {i:Nat}
def Ends.yk(En:Ends)(i:Nat):Ends:={nx:=fun σ H=>En.nx (σ.set i none) H,rt:=En.rt,bk:=fun σ H=>En.bk (σ.set i none) H,ct:=fun σ H=>En.ct (σ.set i none) H}
def C5(K:aJ)(fG:List Value)(newId:String)(D:Addr)(i:Nat)(tb:jZ)(ts:TS):TS:=fun En σ H=>
 tb En (fun c _ H'=>∃C,c=.ref C∧C3 K fG newId C D∧∀ea,H' ea=none→ts (En.yk i) (σ.set i (some (.ref ea))) (upd H' ea (gA ea C))) σ H
theorem C6(tO:X.stack=X.env::X.outer)(qk:X.env.frame=some X.env.locals)(hN:X.N.Nodup)(hi:X.N[i]?=some n)(hk:X.env.scope.names.lookup n=some .local)(hb:og X body tb)(hs:∀ea,dS (X.fX ea) (b₀::yj) ts)(hg:Gl X x)(hm:X.mg x=some (.ref D))
  (hq:PySem.W.excIn X.K D fG newId=true) (nW:fG.contains (.type "BaseException")=true) (hd:(x == ("__debug__":Str))=false:=by decide) :
  PS X (.Try body [.ExceptHandler (some (.Name x np)) (some n) (b₀::yj) C4] [] [] pos) (C5 X.K fG newId D i tb ts):=by
 intro pins s σ H En I h;refine wpAny_Try_except (bj (hb pins s σ H En _ I h) (fun f s1 q=>?_) fun e s1 q=>?_)
 ·cases f with
  | next=>exact k4 q
  | brk=>exact q
  | cont=>exact q
  | ret u=>exact q
 ·obtain ⟨s₁,H₁,I₁,ea,C',H',B,t,rfl,f,C,eC,⟨C7,n9⟩,C8⟩:=q
  cases eC;have fl:=f.fl;rw [tO] at fl;refine wpAny_looks_onW (by rw [I.ok.frames,tO]) qk fl fun h₄ held C9=>?_
  refine wpAny_landsW held fun h₅ tP C_=>?_;have up:=C9.trans C_;have I₅:Inv X pins σ H' {s1 with heap:=h₅}:=f.land (tk:=s1.toks) I₁ tP.1 up;obtain ⟨ob,Dc,Dd⟩:=tP.there;refine wpAny_handleBy_cons (codeAny_handlers_test ?_) (by intro z;cases z)
  refine nE (X:=X.fX ea) I₅.fX hg hm ?_ hd;obtain ⟨bm,N,nm,qn,bs,hdct,sn,sub,ab,col,dd,k0,k1,k2,k3,k5,mN,hC,JO,x8,T,eM⟩:=tL I₅.cJ C7;obtain ⟨qj,N',yb,JP,yc,yd,ye,yf,yg,yh,yi,j0,j1,j2,j3,j5,JQ,hD,JR,JS,T',_⟩:=tL I₅.cJ hq;rw [eM] at n9;refine C1 hC hD Dc Dd (T'.hasType nW) (Option.some.inj n9) (codeAny_handlers_suite_as ?_);refine lands_againW tP fun h₆ De Df=>?_;have yl:=De;rw [←tO] at yl;have I₆:Inv X pins σ (upd H' ea (gA ea C')) {s1 with heap:=h₆}:=f.CQ (tk:=s1.toks) I₁ yl (up.trans Df);refine sF (X:=X.fX ea) (v:=.ref ea) I₆.fX hN hi (.inl hk) rfl (fun s2 I2=>?_) (.inr hk);refine bj (hs ea pins _ _ _ (En.yk i) I2 (C8 ea f.tJ)) (fun f s' q=>?_) fun _ _ z=>z.elim;have q:=q.lO I.ok;cases f with
  | next=>obtain ⟨a,b,J,q⟩:=q;exact qi J hN hi hk fun s3 J3=>⟨_,_,J3,q⟩
  | brk=>obtain ⟨a,b,J,q⟩:=q;exact qi J hN hi hk fun s3 J3=>⟨_,_,J3,q⟩
  | cont=>obtain ⟨a,b,J,q⟩:=q;exact qi J hN hi hk fun s3 J3=>⟨_,_,J3,q⟩
  | ret u=>obtain ⟨v,a,b,J,r,q⟩:=q;exact qi J hN hi hk fun s3 J3=>⟨v,_,_,J3,r,q⟩
end
section
variable {P:Program} {w:World} {K:aJ} {mg:bW} {base:Heap}
variable {x qual:Str} {st:Stmt} {f:Addr} {fd:FuncData} {N ps:List Str} {k:Nat} {sp:Sp}
theorem eW.Dg(F:eW K x qual st f fd)(S:cC N ps (bA st))(len:∀vs H Q E,sp vs H Q E→vs.length=ps.length)
  (iB:∀(bp:Value) (A:Around) (outer:List Env) (s:Shared) (H:Hp) (vs:List V) (Q:VK) (E:XK),cK k (A.deeper (envOfC qual (bA st) s.heap.objs.size f bp))→sp vs H Q E→
   lN (gx (eA P w) P w K mg base N qual (bA st) f bp A outer s H E) E→
   ∃t,dS (gx (eA P w) P w K mg base N qual (bA st) f bp A outer s H E) (iD st) t∧t {nx:=fun _ H'=>Q .aR H',rt:=Q} (start N vs) H):bP P w K mg base (eA P w) (k+1) f fd ps sp:=by
 obtain ⟨oc,od,kV,doc,pm,an,bp,ct,g_,rfl,lk,eV⟩:=F.ex;exact xw lk eV S len fun A outer s H vs Q E hr hG=>iB bp A outer s H vs Q E hr hG ⟨rfl,rfl,rfl,rfl⟩
theorem eW.gB(F:eW K x qual st f fd)(S:cC N ps (bA st))
  (iB:∀(bp:Value) (A:Around) (outer:List Env) (s:Shared) (H:Hp) (vs:List V) (Q:VK) (E:XK),cK k (A.deeper (envOfC qual (bA st) s.heap.objs.size f bp))→sp vs H Q E→
   lN (gx (eA P w) P w K mg base N qual (bA st) f bp A outer s H E) E→
   ∃t,dS (gx (eA P w) P w K mg base N qual (bA st) f bp A outer s H E) (iD st) t∧t {nx:=fun _ H'=>Q .aR H',rt:=Q} (start N vs) H)
  (len:∀vs H Q E,sp vs H Q E→vs.length=ps.length:=by intro vs H Q E h;repeat first | (obtain ⟨rfl,_⟩:=h;rfl) | (subst h;rfl) | obtain ⟨_,h⟩:=h):bP P w K mg base (eA P w) (k+1) f fd ps sp:=F.Dg S len iB
end
structure je (K:aJ) (C:Addr):Prop where
 ci:PySem.W.hasDictIn K C=true
 ga:PySem.W.findIn K (.ref C) "__getattribute__"=some (some (.builtin "BaseException.__getattribute__"))
 gn:PySem.W.findIn K (.ref C) "__getattr__"=some none
 ca:PySem.W.findIn K (.ref C) "__class__"=some (some (.builtin "object.__class__"))
 mo:PySem.W.mroIn K C (.type "object")=some true
 mb:PySem.W.mroIn K C (.type "BaseException")=some true
section
variable {prog:Program} {w:World} {A:Around} {E:aE} {h:Heap} {g:Array GenState} {d:Drawn} {t:Nat} {os:OsState} {K:aJ} {a C:Addr} {o:Obj}
theorem Dh{R:Result→Shared→Prop}(bX:K.In h)(c:je K C)(hx:h.get? a=some o)(hc:o.cls=.ref C)(hq:R (.ok (.ret (.ref C))) ⟨h,g,d,t,os⟩) :
  codeAny (model prog w) A (.call (.builtin "getset_descriptor.__get__") ⟨[.builtin "object.__class__",.ref a,.ref C],[]⟩) R ⟨h,g,d,t,os⟩:=by
 have ym:(⟨h,g,d,t,os⟩:Shared).TypeIs (.builtin "object.__class__") "getset_descriptor":=r_;have L1:=PySem.W.looks_mroIn (M:=model prog w) bX c.mo;have ow:=F.owner_object_class;refine pk F.slot_gs_get.plain F.entry_gs_get (F.slot_gs_get.check _ _ _ _ _ _ _ _ ym (F.args_gs_get _ _ _) ?_)
 repeat (any_goals (first | assumption | (with_reducible refine jD hx ?_;rw [hc]) | (rw [ow];with_reducible refine L1.at ?_) | wp_step))
 refine ⟨Code.quiet_builtin _ (by decide +kernel),codeAny_builtin F.entry_object_class ?_⟩
 repeat (any_goals (first | assumption | (with_reducible refine jD hx ?_;rw [hc]) | wp_step))
variable {tk:Tok}
theorem Di{Q:Fin→Shared→Prop}(bX:K.In h)(c:je K C)(hx:h.get? a=some o)(hc:o.cls=.ref C)(hq:Q (.done (.ret (.ref C))) ⟨h,g,d,t,os⟩) :
  wpAny (model prog w) A (Builtin.«object.__getattribute__» ⟨[.ref a,.str "__class__" tk],[]⟩) Q E ⟨h,g,d,t,os⟩:=by
 have ym:(⟨h,g,d,t,os⟩:Shared).TypeIs (.builtin "object.__class__") "getset_descriptor":=r_;have L1:=PySem.W.looks_findIn (M:=model prog w) bX c.ca;have f5:=r_;have f6:=F.slot_gs_get.lookup;have f7:=F.slot_gs_set.lookup
 repeat (any_goals (first | assumption | (with_reducible refine jD hx ?_;rw [hc]) | with_reducible refine L1.at ?_ | wp_step))
 refine Dh bX c hx hc ?_
 repeat (any_goals (first | assumption | wp_step))
theorem Dj{M:Model}{nv:Value}{Q:Unit→Shared→Prop}(bX:K.In h)(c:je K C)(hx:h.get? a=some o)(hc:o.cls=.ref C)(hq:Q () ⟨h,g,d,t,os⟩) :
  wpAny M A (checkBuiltinCall "BaseException.__getattribute__" ⟨[.ref a,nv],[]⟩) Q E ⟨h,g,d,t,os⟩:=by
 have hk:builtinKind "BaseException.__getattribute__"=some .slot:=by decide +kernel
 have hs:splitId "BaseException.__getattribute__"=some ("BaseException","__getattribute__"):=by decide +kernel
 have L1:=PySem.W.looks_mroIn (M:=M) bX c.mb;have ha:=F.args_bexc_ga (.ref a) nv;simp only [checkBuiltinCall,hk,hs];refine aA ?_;unfold isInstance
 repeat (first | (with_reducible refine jD hx ?_;rw [hc]) | with_reducible refine L1.at ?_ | wp_step)
 exact hq
theorem Dk{fill expr:Bool}{Q:aE}(bX:K.In h)(c:je K C)(hx:h.get? a=some o)(hc:o.cls=.ref C)(hq:Q (.ref C) ⟨h,g,d,t,os⟩) :
  wpAny (model prog w) A (getAttrBy (.ref a) (.str "__class__" tk) fill expr) Q E ⟨h,g,d,t,os⟩:=by
 have f3:=F.attrBase_ValueError.ga.bind (.ref a);have z0:(expr && onTheHeap (Value.builtin "BaseException.__getattribute__"))=false:=by cases expr <;> rfl
 have z2:(Value.builtin "BaseException.__getattribute__" == Value.builtin "object.__getattribute__")=false:=by decide +kernel
 have z1:(onTheHeap (Value.ref C) && Value.builtin "BaseException.__getattribute__" == Value.builtin "object.__getattribute__")=false:=by rw [z2];rfl
 have L1:=PySem.W.looks_findIn (M:=model prog w) bX c.ga;have L2:=PySem.W.looks_findIn (M:=model prog w) bX c.gn
 repeat (any_goals (first | assumption | (with_reducible refine jD hx ?_;rw [hc]) | with_reducible refine L1.at ?_ | with_reducible refine L2.at ?_ | wp_step))
 refine pk F.attrBase_ValueError.ga.plain F.entry_bexc_ga (Dj bX c hx hc (Di bX c hx hc ?_))
 repeat (any_goals (first | assumption | wp_step))
theorem Dl{Q:Option Value→Shared→Prop}(bX:K.In h)(c:je K C)(hx:h.get? a=some o)(hc:o.cls=.ref C)(hq:Q (some (.ref C)) ⟨h,g,d,t+1,os⟩) :
  wpAny (model prog w) A (getAttr? (.ref a) "__class__") Q E ⟨h,g,d,t,os⟩:=by
 unfold getAttr? getAttrBy?
 repeat (any_goals (first | assumption | with_reducible apply Dk bX c hx hc | wp_step))
theorem Dm(c:je K C):PySem.W.KitX K (.ref a) (.ref C) (ExcAt a C) where
 ty:=fun M h _ k=>by obtain ⟨oe,e1,e2,_⟩:=k;exact e2▸(PySem.W.Looks.ld e1).andThen .now
 it:=fun M h bX _=>by
  obtain ⟨cd,hc,_⟩:=PySem.W.any_some c.ci;unfold PySem.W.clsIn at hc
  split at hc
  ·rename_i look
   intro A' Q' E' s' k q;unfold isType loadHead;exact aA (wpAny_loadPart (k _ _ (bX _ _ look)) (a_ q))
  ·cases hc
 ne:=fun h tp dd au n sl bX Dn=>by
  obtain ⟨cd,hc,_⟩:=PySem.W.any_some c.ci;refine Bool.eq_false_iff.mpr fun q=>?_;have e:C=tp:=Value.ref.inj (beq_iff_eq.mp q);subst e;unfold PySem.W.clsIn at hc
  split at hc
  ·rename_i look
   have z:=(bX _ _ look).symm.trans Dn;cases z
  ·cases hc
 ca:=fun{prog w A E Q s} bX k z=>by obtain ⟨oe,e1,e2,_⟩:=k;obtain ⟨h,g,d,t,os⟩:=s;exact Dl bX c e1 e2 z
end
def eY(a:Addr)(h:Heap):Prop:=∃o ep,h.get? a=some o∧o.ExactDict∧o.data=.dict #[] ep∧(a == sysModules)=false
theorem eY.tQ(e:eY a h):PySem.W.KitAt a "dict" h:=by obtain ⟨o,_,e,c,_⟩:=e;exact ⟨o,e,c.1⟩
def tR(a:Addr):HO:=.ext (eY a)
inductive lP (K:aJ) (H:Hp):V→Value→Prop where
 | of {x:V} {t:Value} (h:fD K H x t):lP K H x t
 | exc {a C:Addr} (e:H a=some (gA a C)) (c:je K C):lP K H (.ref a) (.ref C)
 | hJ {a:Addr} (e:H a=some (tR a)):lP K H (.ref a) (.type "dict")
def yn:V→Value
 | .ty n=>.type n
 | .ref a=>.ref a
 | _=>.none
def Dp:V→Bool
 | .ty _=>true
 | .ref _=>true
 | _=>false
def Dq(K:aJ):List V→Hp→VK→Prop:=fun xs H Q=>∃x c t b,xs=[x,c]∧Dp c=true∧lP K H x t∧PySem.W.kitOne K t (yn c)=some b∧Q (.bl b) H
theorem eB{X:Cx}(hK:X.K=K:=by rfl):gv X (.builtin "isinstance") (Dq K):=by
 intro pins s σ H xs us Q I r h;subst hK;obtain ⟨x,c,t,b,rfl,hc,ty,e,q⟩:=h;obtain ⟨u,cv,rfl,rx,rc⟩:=vals2 r;have ec:cv=yn c:=by
  cases c with
  | ty n=>exact rc
  | ref a=>exact rc
  | _=>cases hc
 subst ec;cases ty with
 | of ty=>exact BR I rx ty e fun tk=>⟨.bl b,H,I.tok tk,rfl,q⟩
 | @hJ a ea=>cases rx;obtain ⟨k,_,_⟩:=(show bO X.prog X.w H s.heap a (.ext (eY a)) from I.aB a _ ea);exact fk PySem.W.kitx_dict I.cJ k.tQ e (fun z=>nomatch z) fun tk=>⟨.bl b,H,I.tok tk,rfl,q⟩
 | @exc a C ea cc=>cases rx;obtain ⟨k,_,_⟩:=(show bO X.prog X.w H s.heap a (.ext (ExcAt a C)) from I.aB a _ ea);exact fk (Dm cc) I.cJ k e (fun z=>nomatch z) fun tk=>⟨.bl b,H,I.tok tk,rfl,q⟩
theorem boot_isinstance:bootBuiltins "isinstance"=some (.builtin "isinstance"):=by decide +kernel
theorem boot_min:bootBuiltins "min"=some (.builtin "min"):=by decide +kernel
theorem boot_max:bootBuiltins "max"=some (.builtin "max"):=by decide +kernel
theorem boot_int:bootBuiltins "int"=some (.type "int"):=by decide +kernel
theorem boot_bool:bootBuiltins "bool"=some (.type "bool"):=by decide +kernel
theorem boot_tuple:bootBuiltins "tuple"=some (.type "tuple"):=by decide +kernel
theorem boot_list:bootBuiltins "list"=some (.type "list"):=by decide +kernel
theorem Dr:bootBuiltins "ValueError"=some (.type "ValueError"):=by decide +kernel
end L2
namespace My
open PySem L2
end My
namespace L2
open PySem PySem.Spec PyProof.Rows
abbrev Cx.bf (X:Cx) (N:List Str) (scope:Scope) (cl:List (Str×Addr)) (s₃:Shared) (H₃:Hp) (fp:List Addr):Cx:=
 {X with N:=N,s₀:=s₃,H₀:=H₃,env:=compEnvC scope cl s₃.heap.objs.size X.env,outer:=X.stack,stack:=X.stack,ex:=fp,fn:=fun _=>false,pn:=[],xe:=fun _ _=>False}
inductive jf (X:Cx):List Expr→TT→Prop where
 | nil:jf X [] (fun _ H Q=>Q true H)
 | one {c:Expr} {t:TT} (h:PT X c t):jf X [c] t
def fY(wi:TI)(ρ:St→St)(tt:TT)(te:TE):TE:=fun σ H Q=>wi σ H fun J H1=>∀D,H1 D=none→∃W:Nat→Nat→List V→Hp→Prop,(∃m,W 0 m [] (upd H1 D (.lst []))) ∧
 ∀i m ys Hc,W i m ys Hc→Hc D=some (.lst ys)∧((J.stop i Hc∧Q (.ref D) Hc)∨(J.go i Hc∧∀x H',J.dH i Hc x H'→tt (some x::ρ σ) H' fun b H2=>
  if b=true then te (some x::ρ σ) H2 fun y H3=>H3 D=some (.lst ys)∧ys.length<sizeLine∧∃m',m'<m∧W (i+1) m' (ys++[y]) (upd H3 D (.lst (ys++[y]))) else ∃m',m'<m∧W (i+1) m' ys H2))
section
variable {X:Cx} {N:List Str} {scope:Scope} {cl:List (Str×Addr)} {x:Str} {px pos:Pos} {iter elt:Expr} {ifs:List Expr} {wi:TI} {ρ:St→St} {tt:TT} {te:TE}
structure tS (X:Cx) (N:List Str) (scope:Scope) (cl:List (Str×Addr)) (x:Str) (ρ:St→St):Prop where
 ql:closureFor scope X.env=pure cl
 kind:scope.kind=.function
 qm:∀y∈scope.names,y.2≠.cell
 names:∀y∈scope.names,y.2=.local→scope.names.lookup y.1=some .local
 sub:∀p∈cl,X.env.cells.lookup p.1=some p.2
 has:∀y,((relabel scope X.env).names.lookup y=some .cell∨(relabel scope X.env).names.lookup y=some .free)→∃c,cl.lookup y=some c
 n0:N[0]?=some x
 nd:N.Nodup
 hx:scope.names.lookup x=some .local
 qo:∀(σ:St) (j:Nat) (v:V),(ρ σ)[j]?=some (some v)→∃(i:Nat) (y:Str),N[j+1]?=some y∧X.N[i]?=some y∧σ[i]?=some (some v)∧jJ X.env.scope y∧(X.env.kindOf y=some .cell∨X.env.kindOf y=some .free)∧((relabel scope X.env).names.lookup y=some .cell∨(relabel scope X.env).names.lookup y=some .free)
 len:∀σ:St,σ.length=X.N.length→(ρ σ).length+1=N.length
theorem tT{names:List (Str×NameKind)}(h:(names.all fun q=>(q.2 != .cell && q.2 != .free) || (cl.lookup q.1).isSome)=true) :
  ∀y,(names.lookup y=some .cell∨names.lookup y=some .free)→∃c,cl.lookup y=some c:=fun y hy=>by
 have key:∀k:NameKind,(k != .cell && k != .free)=false→names.lookup y=some k→∃c,cl.lookup y=some c:=fun k hk e=>by have z:=List.all_eq_true.mp h (y,k) (il e);rw [hk,ni] at z;exact Option.isSome_iff_exists.mp z
 rcases hy with e | e;·exact key .cell rfl e
 ·exact key .free rfl e
theorem join_some{o:Option (Option V)}{v:V}(h:some o.join=some (some v)):o=some (some v):=by
 cases o with
 | none=>cases h
 | some o=>cases h;rfl
def qp(X:Cx)(sc:Scope):List Str→List Nat→Prop
 | n::ns,i::is=>(X.N[i]?=some n∧jJ X.env.scope n∧(X.env.kindOf n=some .cell∨X.env.kindOf n=some .free)∧((relabel sc X.env).names.lookup n=some .cell∨(relabel sc X.env).names.lookup n=some .free))∧qp X sc ns is
 | _,[]=>True
 | [],_::_=>False
theorem tU{X:Cx}{sc:Scope}:∀{ns:List Str} {is:List Nat},qp X sc ns is→∀(σ:St) (j:Nat) (v:V),(is.map fun i=>σ[i]?.join)[j]?=some (some v)→∃(i:Nat) (n:Str),ns[j]?=some n∧X.N[i]?=some n∧σ[i]?=some (some v)∧jJ X.env.scope n∧(X.env.kindOf n=some .cell∨X.env.kindOf n=some .free)∧((relabel sc X.env).names.lookup n=some .cell∨(relabel sc X.env).names.lookup n=some .free)
 | _,[],_,_,_,_,e=>by cases e
 | [],_::_,h,_,_,_,_=>h.elim
 | n::_,i::_,h,_,0,_,e=>⟨i,n,rfl,h.1.1,join_some e,h.1.2⟩
 | _::_,_::_,h,σ,j+1,v,e=>tU h.2 σ j v e
theorem lQ(is:List Nat)(h1:closureFor scope X.env=pure cl)(h:qp X scope N.tail is:=by repeat' first | exact True.intro | refine And.intro ⟨rfl,Or.inr (Or.inl rfl),.inl rfl,.inl rfl⟩ ?_)(h2:scope.kind=.function:=by rfl)(h3:∀y∈scope.names,y.2≠.cell:=by decide +kernel)(h4:∀y∈scope.names,y.2=.local→scope.names.lookup y.1=some .local:=by decide +kernel)(h5:∀p∈cl,X.env.cells.lookup p.1=some p.2:=by repeat' first | exact List.forall_mem_nil _ | refine List.forall_mem_cons.mpr ⟨rfl,?_⟩)(h6:((relabel scope X.env).names.all fun q=>(q.2 != .cell && q.2 != .free) || (cl.lookup q.1).isSome)=true:=by rfl)(h7:N[0]?=some x:=by rfl)(h8:N.Nodup:=by decide +kernel)(h9:scope.names.lookup x=some .local:=by rfl)(hr:∀σ:St,ρ σ=is.map fun i=>σ[i]?.join:=by exact fun _=>rfl)(hl:is.length+1=N.length:=by rfl):tS X N scope cl x ρ:=
 ⟨h1,h2,h3,h4,h5,tT h6,h7,h8,h9,fun σ j v e=>by rw [hr] at e;rw [←List.getElem?_tail];exact tU h σ j v e,fun σ _=>by rw [hr,bz];exact hl⟩
theorem lR(B:tS X N scope cl x ρ)(hc:X.calm=true)(hi:PI X (.Name x px) iter wi)(ht:∀s₃ H₃ fp,jf (X.bf N scope cl s₃ H₃ fp) ifs tt)(he:∀s₃ H₃ fp,PE (X.bf N scope cl s₃ H₃ fp) elt te)
  (hs:∀x,foldedSetIterable iter X.env x=pure x:=by intro _;rfl):PE X (.ListComp elt [⟨.Name x px,iter,ifs,0⟩] scope pos) (fY wi ρ tt te):=by
 intro pins s σ H Q I h
 rw [eval_ListComp]
 refine se (use:=none) rfl hs B.ql B.kind B.names (aM (hi pins s σ H _ I h) fun v s1 h1=>aM h1 fun nG s2 h2=>?_)
 obtain ⟨it,fp,tn,J,H2,rfl,I2,T,fB,f2,q2⟩:=h2
 have nD:H2 s2.heap.objs.size=none:=I2.aB.fresh (aG _)
 obtain ⟨W,⟨m0,w0⟩,turn⟩:=q2 _ nD
 refine gS (wpAny_newFunctionEnv B.qm (by intro y hy;simp at hy) (fun h₁ eZ e7=>?_) B.kind)
 dsimp only at eZ e7 ⊢
 generalize hD:s2.heap.objs.size=D at nD w0 turn eZ e7 ⊢
 generalize gC:({s2 with heap:=s2.heap.push {cls:=.type "list",dict:=none,data:=.seq ([]:List Value).toArray}}:Shared)=s3
 have I3:Inv X pins σ (upd H2 D (.lst [])) s3:=by
  subst hD gC
  exact I2.laid (t':=s2.toks) (fun b u e=>b_ _ e) (aG _) ⟨dj _,[],_,.nil,dP _ rfl⟩
 have e3:s3.heap=s2.heap.push {cls:=.type "list",dict:=none,data:=.seq ([]:List Value).toArray}:=by rw [←gC]
 have e8:∀b o,s2.heap.get? b=some o→s3.heap.get? b=some o:=fun b o e=>by rw [e3];exact b_ _ e
 rw [←e3] at eZ e7 ⊢
 have below:∀b o,s3.heap.get? b=some o→b≠s3.heap.objs.size:=fun b o e=>cB (ba e)
 have c0:∀b o,s3.heap.get? b=some o→h₁.get? b=some o:=fun b o e=>e7.extBut b o (below b o e) (b_ _ e)
 have gD:∀b∈fp,∃o,s2.heap.get? b=some o∧∀v,o.data≠.cell v:=T.obj _ _ fB
 have oh:∀b∈fp,b≠D:=fun b hb z=>by
  obtain ⟨o,e,_⟩:=gD b hb
  rw [z,←hD] at e
  exact absurd (ba e) (fj _)
 have cL:∀y c,cl.lookup y=some c→X.env.cells.lookup y=some c:=fun y c e=>B.sub (y,c) (il e)
 have oi:=I3.nA
 have gB:(X.bf N scope cl s3 (upd H2 D (.lst [])) fp).Ok:=by
  refine ⟨I.ok.mod,B.kind,I.ok.glob,I.ok.blt,aG _,fun a b c e1 e2=>I.ok.inj a b c (cL a c e1) (cL b c e2),fun y hy=>B.has y hy,(fun _ _ z _=>absurd z cj),(fun _=>I.ok.hd hc),I.ok.frames,.inl rfl,fun b hb=>⟨?_,fun y c e z=>?_⟩,fun b o e=>?_,cE I.ok.fz I3.sz,fun b o e hb=>?_,fun b hb z=>?_,I3.stack,oi⟩
  ·obtain ⟨o,e,_⟩:=gD b hb
   exact below b o (e8 b o e)
  ·exact (f2 b hb).2.2.2.2.1 y c (cL y c e) z
  ·exact I3.bs b o e
  ·rcases (f2 b hb).2.2.2.1 with z | z
   ·exact I.ok.i7 b o e z
   ·exact absurd (cW (ba e) (cE I.ok.fz z)) (fj _)
  ·rcases cN.mp (I3.nz b z) with z | z
   ·exact (f2 b hb).2.1 z
   ·exact (f2 b hb).2.2.1 z
 have IB:∀tk:Nat,Inv (X.bf N scope cl s3 (upd H2 D (.lst [])) fp) [] (none::ρ σ) (upd H2 D (.lst [])) {s3 with heap:=h₁,toks:=tk}:=fun tk=>by
  refine ⟨gB,rfl,I3.bare,Un.kept c0,⟨_,eZ,fun j y v e1 e2 e3=>?_⟩,fun y c e=>?_,?_,fun y c e=>I3.d_ y c (cL y c e),(fun p hp=>nomatch hp),I3.aB.kept c0,?_⟩
  ·cases j with
   | zero=>cases e2
   | succ j=>
    obtain ⟨i,y',a1,a2,a3,a4,a5,a6⟩:=B.qo σ j v e2
    have j4:N[j+1]?=some y:=e1
    rw [j4] at a1
    cases a1
    obtain ⟨m,hn,hl⟩:=I3.loc
    obtain ⟨u,r,l⟩:=hl i y v a2 a3 a4
    refine ⟨u,r,.inr ⟨a6,?_⟩⟩
    obtain ⟨c,ec⟩:=B.has y a6
    rcases l with ⟨k,_⟩ | ⟨_,c',jg,z⟩
    ·rcases a5 with q | q <;> (rw [k] at q;cases q)
    ·have:=cL y c ec
     rw [this] at jg
     cases jg
     obtain ⟨o,ho,hd⟩:=z
     exact ⟨c,ec,o,c0 _ _ ho,hd⟩
  ·obtain ⟨v,o,ho,hd⟩:=I3.cell y c (cL y c e)
   exact ⟨v,o,c0 _ _ ho,hd⟩
  ·exact I3.aB.fresh (aG _)
  ·show (none::ρ σ).length=N.length
   rw [gk]
   exact B.len σ I.len
 have fin:∀{σ':St} {H':Hp} {s':Shared},Inv (X.bf N scope cl s3 (upd H2 D (.lst [])) fp) [] σ' H' s'→Q (.ref D) H'→compPost (model X.prog X.w) X.A X.xe none (EP X pins σ Q) (.ref D) s3.heap.objs.size (.ok .next) s':=fun{σ' H' s'} J q=>by
  obtain ⟨m,hn,_⟩:=J.loc
  refine ⟨m,hn,fun h' e9=>⟨.ref D,H',?_,rfl,q⟩⟩
  have old:∀b o,s3.heap.get? b=some o→b≠s3.heap.objs.size:=below
  have u1:Un (bH X.stack) fp (upd H2 D (.lst [])) H' s3.heap h':=by
   refine ⟨fun b o e n hb hx=>?_,fun b o e n hb hx=>?_,J.base.free,fun b o e hx=>?_,J.base.cm,J.base.cT,J.base.cY⟩
   ·exact (e9.2 b (old b o e)).trans (J.base.keep b o e n hb hx)
   ·obtain ⟨sl,z⟩:=J.base.slot b o e n hb hx
    exact ⟨sl,(e9.2 b (old b o e)).trans z⟩
   ·obtain ⟨o',z⟩:=J.base.there b o e hx
    exact ⟨o',(e9.2 b (old b o e)).trans z⟩
  have oj:bM X.prog X.w H' h':=fun b u e=>by
   refine (J.aB b u e).fw (fun c v hc z=>(e9.2 c fun y=>?_).trans z) (fun _ z=>z) fun _ _ z=>z
   have fr:=J.free
   have y':c=s3.heap.objs.size:=y
   rcases hc with hc | hc
   ·rw [←hc,y'] at e
    exact absurd (fr.symm.trans e) (by simp)
   ·rw [y'] at hc
    exact absurd (fr.symm.trans hc) (by simp)
  refine I3.i9 (s':={s' with heap:=h'}) (ch:=fp) (J.os) u1 oj J.bare fun b hb=>?_
  obtain ⟨g0,g1,g2,g3,g4,g5⟩:=f2 b hb
  exact ⟨g3,g1,g4,g5⟩
 have eg:∀{H':Hp},(∀b∈fp,H' b=none)→∀b∈fp,iy (X.bf N scope cl s3 (upd H2 D (.lst [])) fp) [] H' b:=fun hn b hb=>by
  refine ⟨hn b hb,?_,?_,.inl hb,fun y c e z=>(f2 b hb).2.2.2.2.1 y c (cL y c e) z,fun p hp=>nomatch hp⟩
  ·obtain ⟨o,e,_⟩:=gD b hb
   exact below b o (e8 b o e)
  ·exact gB.i8 b hb
 have loop:∀tk:Nat,codeAny (model X.prog X.w) X.A (.compLoop (.ListComp elt [⟨.Name x px,iter,ifs,0⟩] scope pos) 0 (.ref it) (.ref D) (compEnvC scope cl s3.heap.objs.size X.env))
   (compPost (model X.prog X.w) X.A X.xe none (EP X pins σ Q) (.ref D) s3.heap.objs.size) {s3 with heap:=h₁,toks:=tk}:=fun tk=>by
  refine codeAny_compLoop_tests (fun n s'=>∃i ys o H',Inv (X.bf N scope cl s3 (upd H2 D (.lst [])) fp) [] (o::ρ σ) H' s'∧tn i s'.heap∧(∀b∈fp,H' b=none)∧W i n ys H') ?_ m0
   ⟨0,[],none,_,IB tk,T.keep _ _ _ fB fun b hb o e=>c0 _ _ (e8 _ _ e),fun b hb=>by rw [bu (oh b hb)];exact (f2 b hb).1,w0⟩
  rintro n s4 ⟨i,ys,o,H4,I4,jh,ji,w4⟩
  obtain ⟨yo,om⟩:=turn i n ys H4 w4
  rcases om with ⟨stop,qn⟩ | ⟨go,step⟩
  ·refine bj (T.done (X.bf N scope cl s3 (upd H2 D (.lst [])) fp) rfl rfl rfl hc i [] s4 _ H4 (fun _ _=>False) I4 (eg ji) jh stop) (fun r s5 ⟨hr,I5⟩=>?_) fun _ _ z=>z.elim
   subst hr
   exact fin I5 qn
  ·refine bj (T.item (X.bf N scope cl s3 (upd H2 D (.lst [])) fp) rfl rfl rfl hc i [] s4 _ H4 (fun _ _=>False) I4 (eg ji) jh go) (fun r s5 ⟨u,hr,h5⟩=>?_) fun _ _ z=>z.elim
   subst hr
   have z:letOwnedTupleGo (.Name x px) (.ref it) u=pure ():=rfl
   rw [z] at h5
   show wpAny _ _ ((pure ():Sem Unit) >>= fun _=>assign (.Name x px) (compEnvC scope cl s3.heap.objs.size X.env) u) _ _ s5
   refine aA (bj h5 (fun _ s5 ⟨y,H5,I5,r5,y5,eh,jO⟩=>?_) fun _ _ z=>z.elim)
   have jP:=I5.pinned (eg jO) (T.obj _ _ eh)
   have pg:PG (X.bf N scope cl s3 (upd H2 D (.lst [])) fp) (.Name x px) (cZ 0):=fA (i:=0) B.nd B.n0 (.inl (iZ B.hx)) (.inr (iZ B.hx))
   have again:∀{σ7:St} {H7:Hp} {s7:Shared},Inv (X.bf N scope cl s3 (upd H2 D (.lst [])) fp) ([]++g7 fp s5.heap) σ7 H7 s7→Inv (X.bf N scope cl s3 (upd H2 D (.lst [])) fp) [] σ7 H7 s7∧tn (i+1) s7.heap∧∀b∈fp,H7 b=none:=fun{σ7 H7 s7} I7=>by
    refine ⟨I7.lH,T.keep _ _ _ eh fun b hb o e=>(I7.pin (b,o) (da _ (da _ (ja hb e)))).1,fun b hb=>?_⟩
    obtain ⟨o,e,d⟩:=T.obj _ _ eh b hb
    exact (I7.pin (b,o) (da _ (da _ (ja hb e)))).2.1
   refine bj (pg _ s5 _ H5 y u (fun σ2 H6=>σ2=some y::ρ σ∧H6=H5) jP r5 ⟨rfl,rfl⟩) (fun _ s6 ⟨σ6,H6,I6,q6⟩=>?_) fun _ _ z=>z.elim
   obtain ⟨rfl,rfl⟩:=q6
   have oo:=step y _ y5
   have tests:∀{gE:TT},jf (X.bf N scope cl s3 (upd H2 D (.lst [])) fp) ifs gE→∀{R:Bool→Hp→Prop},gE (some y::ρ σ) H6 R→wpAny (model X.prog X.w) X.A
     (forIn ifs true fun c r=>if r=true then do let ok ←isTrue c (compEnvC scope cl s3.heap.objs.size X.env) (eval c (compEnvC scope cl s3.heap.objs.size X.env));pure (ForInStep.yield ok) else pure (ForInStep.yield r))
     (fun ok s7=>∃H7,Inv (X.bf N scope cl s3 (upd H2 D (.lst [])) fp) ([]++g7 fp s5.heap) (some y::ρ σ) H7 s7∧R ok H7) (fun _ _=>False) s6:=fun{gE} p {R} hR=>by
    cases p with
    | nil=>exact wpAny_tests_nil ⟨_,I6,hR⟩
    | one p=>exact wpAny_tests_one (p _ s6 _ _ _ I6 hR)
   refine bj (tests (ht s3 _ fp) oo) (fun ok s7 ⟨H7,I7,q7⟩=>?_) fun _ _ z=>z.elim
   cases ok with
   | false=>
    obtain ⟨m',fH,w7⟩:=q7
    obtain ⟨a1,a2,a3⟩:=again I7
    exact ⟨m',fH,i+1,ys,_,H7,a1,a2,a3,w7⟩
   | true=>
    refine bj (he s3 _ fp _ s7 _ H7 _ I7 q7) (fun ev s8 ⟨z,H8,I8,r8,oq,hz,m',fH,w8⟩=>?_) fun _ _ z=>z.elim
    refine bj (nX (X:=X.bf N scope cl s3 (upd H2 D (.lst [])) fp) _ s8 _ H8 (.ref D) [z] (.ref D) [ev] (fun _ H9=>H9=upd H8 D (.lst (ys++[z]))) I8 rfl (.cons r8 .nil) ⟨D,ys,z,rfl,rfl,oq,hz,rfl⟩) (fun _ s9 ⟨_,H9,I9,_,q9⟩=>?_) fun _ _ z=>z.elim
    subst q9
    obtain ⟨a1,a2,a3⟩:=again I9
    exact ⟨m',fH,i+1,ys++[z],_,_,a1,a2,a3,w8⟩
 have start:=loop (s3.toks+([]:List (Str×Value)).length)
 have es:({s3 with heap:=h₁,toks:=s3.toks+([]:List (Str×Value)).length}:Shared)={s2 with heap:=h₁,toks:=s2.toks+([]:List (Str×Value)).length}:=by rw [←gC]
 rw [es] at start
 exact sf start (T.self _ 0 _ _ _ (T.keep _ _ _ fB fun b hb o e=>c0 _ _ (e8 _ _ e)) start)
end
theorem yp:∀{xs:List V} {us:List Value},xs.length=us.length→(∀(i:Nat) (x:V) (u:Value),xs[i]?=some x→us[i]?=some u→RelV x u)→Vals xs us
 | [],[],_,_=>.nil
 | [],_::_,h,_=>by simp at h
 | _::_,[],h,_=>by simp at h
 | x::xs,u::us,h,k=>.cons (k 0 x u rfl rfl) (yp (by simpa using h) fun i a b h1 h2=>k (i+1) a b (by simpa using h1) (by simpa using h2))
section
variable {X:Cx}
def allR(K:aJ):List V→Hp→VK→Prop:=fun xs H Q=>∃(p:Addr) (bs:List Bool),xs=[.ref p]∧cn K H p (bs.map V.bl)∧Q (.bl (bs.all id)) H
theorem yq{K:aJ}(hc:X.calm=true)(hK:X.K=K:=by rfl):gv X (.builtin "all") (allR K):=by
 intro pins s σ H xs us Q I r h;subst hK;obtain ⟨p,bs,rfl,hq,q⟩:=h;obtain ⟨u,rfl,ru⟩:=vals1 r;cases ru;obtain ⟨au,rv,pl,hz⟩:=I.list hq;have gF:p≠s.heap.objs.size:=by obtain ⟨o,e,_⟩:=pl.isList;exact cB (ba e)
 have hl:au.length=bs.length:=by rw [←rv.length,bz]
 refine call_all_walk (wpAny_pyIter_list pl.isList ?_);refine ⟨s.heap.objs.size,_,_,_,_,_,fun i=>bs.getD i true,rfl,Walks.list (A:=X.A.in1) (show X.A.in1.handled=none from I.ok.hd hc) s.heap.objs.size p gF au.toArray,⟨⟨_,dP _ rfl,rfl,rfl⟩,pl.isList.push _⟩,fun i v s' Q' E' hv Ds=>?_,fun h' tk hk=>?_⟩
 ·have qq:au[i]?=some v:=by simpa using hv
  cases eb:bs[i]? with
  | none=>
   have:=rv.none_of (i:=i) (by rw [dQ,eb];rfl)
   rw [this] at qq;cases qq
  | some b=>
   obtain ⟨u,hu,ru⟩:=rv.get (i:=i) (x:=V.bl b) (by rw [dQ,eb];rfl)
   rw [hu] at qq;cases qq;cases ru;have e:bs.getD i true=b:=by rw [d6,eb];rfl
   have yr:Q' (bs.getD i true) s':=Ds;rw [e] at yr;exact iX yr
 ·refine ⟨.bl (bs.all id),H,I.kept fun b o e=>hk b o (fun z=>?_) (b_ _ e),?_,q⟩
  ·exact absurd (ba e) (by rw [gm.mp z];exact fj _)
  ·show Value.bool _=Value.bool _
   congr 1
   rw [bS,hl];clear hk q rv pl hz hl hq
   induction bs with
   | nil=>rfl
   | cons b bs ih=>rw [gk,List.range_succ_eq_map,List.all_cons,List.all_map,List.all_cons];show (b && (List.range bs.length).all fun i=>bs.getD i true)=(b && bs.all id);rw [ih]
def Dt:List V→Hp→VK→Prop:=fun xs H Q=>∃j:Int,xs=[.int j]∧∀p,H p=none→Q (.ref p) (upd H p (.i6 0 j))
theorem Du:gv X (.type "range") Dt:=by intro pins s σ H xs us Q I r h;obtain ⟨j,rfl,q⟩:=h;obtain ⟨u,rfl,ru⟩:=vals1 r;obtain ⟨t,rfl⟩:=ru;refine call_range_1 ⟨.ref s.heap.objs.size,_,I.laid (o:=.i6 0 j) (fun b o e=>b_ _ e) (aG _) ⟨_,_,_,dP _ rfl⟩,rfl,q _ (I.aB.fresh (aG _))⟩
def ot(n:Nat):List V:=(List.range n).map fun i:Nat=>V.int (i:Int)
def Dv:List V→Hp→VK→Prop:=fun xs H Q=>∃p n,xs=[.ref p]∧H p=some (.i6 0 (n:Nat))∧n≤10000∧∀l,H l=none→Q (.ref l) (upd H l (.lst (ot n)))
theorem Dw(hc:X.calm=true):gv X (.type "list") Dv:=by
 intro pins s σ H xs us Q I r h;obtain ⟨p,n,rfl,hp,hn,q⟩:=h;obtain ⟨u,rfl,ru⟩:=vals1 r;cases ru;obtain ⟨t,u,v,e⟩:=(show bO X.prog X.w H s.heap p (.i6 0 n) from I.aB p _ hp);refine call_list_range (n:=n) (I.ok.hd hc) e (small_one (by omega) (by omega) (by omega) (by omega)) (by rw [rangeSize_one];split <;> omega) (by omega) fun h' tk acc c hk hD hit=>?_
 refine ⟨.ref s.heap.objs.size,_,I.laid (o:=.lst (ot n)) (fun b o e=>hk b o e) (aG _) ⟨?_,acc.toList,c,?_,?_⟩,rfl,q _ (I.aB.fresh (aG _))⟩
 ·unfold ot
  rw [bz,i3];exact cE hn (by decide)
 ·refine yp ?_ fun i x u h1 h2=>?_
  ·unfold ot
   rw [bz,i3,fN,hit.1]
  ·have yt:acc[i]?=some u:=by simpa using h2
   obtain ⟨Dx,e'⟩:=hit.2 i u yt;unfold ot at h1;rw [dQ] at h1;have hi:i<n:=by have z:=(Array.getElem?_eq_some_iff.mp yt).1;rw [hit.1] at z;exact z
   rw [k_ hi] at h1;cases h1;exact ⟨Dx,by rw [e'];simp⟩
 ·rw [hD]
end
theorem boot_all:bootBuiltins "all"=some (.builtin "all"):=by decide +kernel
theorem Dy:bootBuiltins "range"=some (.type "range"):=by decide +kernel
def tV:Expr→Bool
 | .Starred _ _=>false
 | _=>true
variable {e:Expr} {es:List Expr}
theorem Dz{env:Env}(h:tV e=true):starEach (e::es) env=(false,eval e env)::starEach es env:=by cases e <;> first | rfl | cases h
theorem aa{X:Cx}{e:Expr}{es:List Expr}{te:TE}{t:TA}(hs:tV e=true)(ha:PE X e te)(hr:PA X es t):PA X (e::es) (jR te t):=
 BS ha hr (Dz hs)
variable {X:Cx} {te:TE}
theorem JT{t:TA}(ha:PE X e te)(hr:PA X es t)(hs:tV e=true:=by rfl):PA X (e::es) (jR te t):=aa hs ha hr
theorem dy{X:Cx}{pos:Pos}{i:Nat}{x:Str}{e:Expr}{te:TE}{pos':Pos}(hs:swapsWith e (some (.Name x pos')) pos.line X.env=pure false)(hf:X.fn x=true∨X.env.scope.names.lookup x=some .local)(hN:X.N.Nodup)(hi:X.N[i]?=some x)(hx:Loc X.env.scope x)(he:PE X e te) :
  PS X (.Assign [.Name x pos'] e pos) (jN te (cZ i)):=Bz hN hi hx he hs hf
variable {pos pos':Pos} {x:Str}
theorem putL(i:Nat)(hN:X.N.Nodup)(he:PE X e te)(hs:swapsWith e (some (.Name x pos')) pos.line X.env=pure false:=by rfl)(hi:X.N[i]?=some x:=by rfl)(hx:X.env.scope.names.lookup x=some .local:=by rfl) :
  PS X (.Assign [.Name x pos'] e pos) (jN te (cZ i)):=dy hs (.inr hx) hN hi (.inl hx) he
theorem JU(i:Nat)(hN:X.N.Nodup)(he:PE X e te)(hs:swapsWith e (some (.Name x pos')) pos.line X.env=pure false:=by rfl)(hf:X.fn x=true∨X.env.scope.names.lookup x=some .local:=by first | exact .inl rfl | exact .inr rfl | assumption)(hi:X.N[i]?=some x:=by rfl)(hx:X.env.scope.names.lookup x=some .cell:=by rfl) :
  PS X (.Assign [.Name x pos'] e pos) (jN te (cZ i)):=dy hs hf hN hi (.inr hx) he
end L2
namespace My
open PySem L2
theorem dX(a b:Int):decide (V.int a=V.int b)=decide (a=b):=by
 by_cases h:a=b;·subst h;simp
 ·rw [bt h];exact bt fun e=>h (V.int.inj e)
variable {H:Hp}
theorem ax{p:Addr}{o:HO}(h:H p=none):aq H (upd H p o):=fun b u e=>by rw [bu (eT e h)];exact e
inductive Any (H:Hp):V→Prop where
 | aR:Any H .aR
 | bl (b:Bool):Any H (.bl b)
 | int (i:Int):Any H (.int i)
 | str (x:Str):Any H (.str x)
 | lst {a:Addr} {xs:List V} (e:H a=some (.lst xs)):Any H (.ref a)
 | tup {a:Addr} {xs:List V} (e:H a=some (.tup xs)):Any H (.ref a)
 | hJ {a:Addr} (e:H a=some (tR a)):Any H (.ref a)
def iE:V→Bool
 | .int _=>true
 | _=>false
def lS:V→Bool
 | .bl _=>true
 | _=>false
def qr(H:Hp):V→Bool
 | .ref a=>(match H a with | some (.tup _)=>true | _=>false)
 | _=>false
theorem Any.tQ{K:aJ}{v:V}(h:Any H v):∃T:String,lP K H v (.type T)∧PySem.W.kitOne K (.type T) (.type "int")=some (iE v || lS v)∧PySem.W.kitOne K (.type T) (.type "bool")=some (lS v) ∧
  PySem.W.kitOne K (.type T) (.type "tuple")=some (qr H v):=by
 cases h with
 | aR=>exact ⟨"NoneType",.of .aR,rfl,rfl,rfl⟩
 | bl b=>exact ⟨"bool",.of (.bl b),rfl,rfl,rfl⟩
 | int i=>exact ⟨"int",.of (.int i),rfl,rfl,rfl⟩
 | str x=>exact ⟨"str",.of (.str x),rfl,rfl,rfl⟩
 | lst e=>exact ⟨"list",.of (.lst e),rfl,rfl,by unfold qr;dsimp only;rw [e];rfl⟩
 | tup e=>exact ⟨"tuple",.of (.tup e),rfl,rfl,by unfold qr;dsimp only;rw [e];rfl⟩
 | hJ e=>exact ⟨"dict",.hJ e,rfl,rfl,by unfold qr;dsimp only;rw [e];rfl⟩
theorem DA{v:V}(h:lS v=true):iE v=false:=by cases v <;> first | rfl | cases h
def DB:Sp:=fun vs H Q _=>∃v:V,vs=[v]∧Any H v∧Q (.bl (iE v)) H
def qs(K:aJ):Sp:=fun vs H Q _=>∃(a:Addr) (ns:List Int),vs=[.ref a]∧cn K H a (ns.map V.int)∧ns.length≤63∧∀H',Q (.bl true) H'
theorem DC(xs:List V)(k:Nat):du xs none (some (k:Int))=xs.take k:=by unfold du;rw [HT.xy,HT.xA,List.drop_zero,Nat.sub_zero];rw [List.take_eq_take_iff];omega
end My
namespace L2
open PySem PySem.Spec PyProof.Rows
end L2
namespace My
open PySem L2
end My
namespace L2
open PySem PySem.Spec PyProof.Rows
section
variable {P:Program} {w:World} {K:aJ} {mg:bW} {base:Heap}
end
section
variable {X:Cx} {CX:en} {k:Nat} {f C:Addr} {fd:FuncData} {ps:List Str} {y:Str} {sp:Sp} {E:XK} {m:Str} {pos apos xo:Pos} {e e' o:Expr} {ta:TE} {t tk:TA}
end
end L2
namespace My
open PySem L2
end My
namespace L2
open PySem PySem.Spec PyProof.Rows
section
variable {X:Cx}
end
end L2
namespace My
open PySem L2
section
variable {C N z:Addr} {q:Int} {v u:V} {t b t' b':Int} {H:Hp} {Q:VK} {E:XK}
end
end My
namespace L2
open PySem PySem.Spec PyProof.Rows
structure qt (J:It) (xs:List V) (H1:Hp):Prop where
 go:∀i Hc,aq H1 Hc→i<xs.length→J.go i Hc
 dH:∀i Hc x H',aq H1 Hc→J.dH i Hc x H'→H'=Hc∧(i<xs.length→xs[i]?=some x)
 stop:∀i Hc,aq H1 Hc→xs.length≤i→J.stop i Hc
variable {H1:Hp}
theorem yu{lo:Int}{n:Nat}:qt (g6 lo n) ((List.range n).map fun i:Nat=>V.int (lo+(i:Int))) H1 where
 go:=fun i Hc s hi=>by
  have hi:i<n:=by simpa using hi
  exact hi
 dH:=fun i Hc x H' s y=>⟨y.1,fun hi=>by
  have hi:i<n:=by simpa using hi
  rw [y.2];simp [hi]⟩
 stop:=fun i Hc s hi=>by
  have hi:n≤i:=by simpa using hi
  exact hi
variable {H:Hp} {D:Addr}
theorem iF{H':Hp}{o:HO}(s:aq H H')(n:H D=none):aq H (upd H' D o):=fun b u e=>by rw [bu (eT e n)];exact s b u e
variable {xs:List V} {te:TE} {Q:VK}
theorem DD{J:It}{ρσ:St}(js:qt J xs H1)(nD:H1 D=none)(hn:xs.length<sizeLine)
  (P:Nat→V→Hp→Prop) (mono:∀i y H H' ys,P i y H→H D=some (.lst ys)→(∀b o,b≠D→H b=some o→H' b=some o)→P i y H')
  (step:∀i x,xs[i]?=some x→∀(Hc:Hp) (R:VK),aq H1 Hc→(∃ys,Hc D=some (.lst ys))→(∀y H3,aq Hc H3→P i y H3→R y H3)→te (some x::ρσ) Hc R)
  (fin:∀ys Hc,aq H1 Hc→ys.length=xs.length→(∀i y,ys[i]?=some y→P i y Hc)→Hc D=some (.lst ys)→Q (.ref D) Hc) :
  ∃W:Nat→Nat→List V→Hp→Prop,(∃m,W 0 m [] (upd H1 D (.lst []))) ∧
   ∀i m ys Hc,W i m ys Hc→Hc D=some (.lst ys)∧((J.stop i Hc∧Q (.ref D) Hc)∨(J.go i Hc∧∀x H',J.dH i Hc x H'→
    if true=true then te (some x::ρσ) H' fun y H3=>H3 D=some (.lst ys)∧ys.length<sizeLine∧∃m',m'<m∧W (i+1) m' (ys++[y]) (upd H3 D (.lst (ys++[y]))) else ∃m',m'<m∧W (i+1) m' ys H')):=by
 refine ⟨fun i m ys Hc=>m=xs.length-i∧i≤xs.length∧Hc D=some (.lst ys)∧aq H1 Hc∧ys.length=i∧∀j y,ys[j]?=some y→P j y Hc,⟨_,rfl,dj _,aw,iF (aq.refl H1) nD,rfl,fun j y e=>by simp at e⟩,?_⟩
 rintro i m ys Hc ⟨rfl,hi,eD,sH,el,hP⟩;refine ⟨eD,?_⟩;by_cases cA:i<xs.length
 ·refine .inr ⟨js.go i Hc sH cA,fun x H' hy=>?_⟩
  obtain ⟨rfl,hx⟩:=js.dH i Hc x H' sH hy;rw [aj rfl];refine step i x (hx cA) _ _ sH ⟨ys,eD⟩ fun y H3 s3 hp=>?_;have e3:=s3 _ _ eD;refine ⟨e3,by omega,xs.length-(i+1),by omega,rfl,cA,aw,iF (sH.trans s3) nD,by simp [el],fun j y' e=>?_⟩
  have dg:∀b o,b≠D→H3 b=some o→upd H3 D (.lst (ys++[y])) b=some o:=fun b o nb e=>by rw [bu nb];exact e
  by_cases hj:j<i
  ·have e':ys[j]?=some y':=by rw [gR (by omega)] at e;exact e
   refine mono j y' H' _ ys (hP j y' e') eD fun b o nb e=>?_;exact dg b o nb (s3 _ _ e)
  ·have hj:j=i:=by have:=(bZ.mp e).1;simp at this;omega
   subst hj;have e':y'=y:=by rw [gh (by omega),el,lg] at e;simpa using e.symm
   subst e';exact mono _ _ H3 _ ys hp e3 dg
 ·have e:i=xs.length:=by omega
  subst e;exact .inl ⟨js.stop _ Hc sH (aG _),fin ys Hc sH el hP eD⟩
variable {σ:St}
theorem bG{g:TG}{D:Ends}(h:te σ H fun x H1=>g x σ H1 D.nx):jN te g D σ H:=h
section
variable {X:Cx} {N:List Str} {scope:Scope} {cl:List (Str×Addr)} {x:Str} {px pos:Pos} {iter elt:Expr} {ifs:List Expr} {wi:TI} {ρ:St→St} {tt:TT} {te:TE}
theorem DE{y:Str}{py yv:Pos}{i0:Nat}(B:tS X N scope cl x ρ)(hc:X.calm=true)(hN:X.N.Nodup)(DF:X.N[i0]?=some y)(hy:Loc X.env.scope y)(hi:PI X (.Name x px) iter wi)(ht:∀s₃ H₃ fp,jf (X.bf N scope cl s₃ H₃ fp) ifs tt)(he:∀s₃ H₃ fp,PE (X.bf N scope cl s₃ H₃ fp) elt te)
  (DG:swapsWith (.ListComp elt [⟨.Name x px,iter,ifs,0⟩] scope pos) (some (.Name y py)) yv.line X.env=pure true:=by rfl) (hf:X.fn y=true∨X.env.scope.names.lookup y=some .local:=by first | exact .inl rfl | exact .inr rfl | assumption)
  (hs:∀x,foldedSetIterable iter X.env x=pure x:=by intro _;rfl):PS X (.Assign [.Name y py] (.ListComp elt [⟨.Name x px,iter,ifs,0⟩] scope pos) yv) (jN (fY wi ρ tt te) (cZ i0)):=by
 intro pins s σ H D0 I h
 have h:fY wi ρ tt te σ H (fun v H1=>D0.nx (σ.set i0 (some v)) H1):=h
 rw [exec_Assign_Name_used _ _ _ _ DG]
 refine aA (m9 (aA ?_))
 show wpAny _ X.A (do let _ ←comprehension (.ListComp elt [⟨.Name x px,iter,ifs,0⟩] scope pos) scope X.env _ (newList []) false (eval iter X.env) (some (assign (.Name y py) X.env))) _ _ s
 refine aA (bj (Q:=fun _ s'=>SP X pins D0 .next s') ?_ (fun _ s' hq=>a_ (a_ hq)) fun _ _ e=>e)
 refine se (use:=some (assign (.Name y py) X.env)) rfl hs B.ql B.kind B.names (aM (hi pins s σ H _ I h) fun v s1 h1=>aM h1 fun nG s2 h2=>?_)
 obtain ⟨it,fp,tn,J,H2,rfl,I2,T,fB,f2,q2⟩:=h2
 have nD:H2 s2.heap.objs.size=none:=I2.aB.fresh (aG _)
 obtain ⟨W,⟨m0,w0⟩,turn⟩:=q2 _ nD
 refine gS (wpAny_newFunctionEnv B.qm (by intro y hy;simp at hy) (fun h₁ eZ e7=>?_) B.kind)
 dsimp only at eZ e7 ⊢
 generalize hD:s2.heap.objs.size=D at nD w0 turn eZ e7 ⊢
 generalize gC:({s2 with heap:=s2.heap.push {cls:=.type "list",dict:=none,data:=.seq ([]:List Value).toArray}}:Shared)=s3
 have I3:Inv X pins σ (upd H2 D (.lst [])) s3:=by
  subst hD gC
  exact I2.laid (t':=s2.toks) (fun b u e=>b_ _ e) (aG _) ⟨dj _,[],_,.nil,dP _ rfl⟩
 have e3:s3.heap=s2.heap.push {cls:=.type "list",dict:=none,data:=.seq ([]:List Value).toArray}:=by rw [←gC]
 have e8:∀b o,s2.heap.get? b=some o→s3.heap.get? b=some o:=fun b o e=>by rw [e3];exact b_ _ e
 rw [←e3] at eZ e7 ⊢
 have below:∀b o,s3.heap.get? b=some o→b≠s3.heap.objs.size:=fun b o e=>cB (ba e)
 have c0:∀b o,s3.heap.get? b=some o→h₁.get? b=some o:=fun b o e=>e7.extBut b o (below b o e) (b_ _ e)
 have gD:∀b∈fp,∃o,s2.heap.get? b=some o∧∀v,o.data≠.cell v:=T.obj _ _ fB
 have oh:∀b∈fp,b≠D:=fun b hb z=>by
  obtain ⟨o,e,_⟩:=gD b hb
  rw [z,←hD] at e
  exact absurd (ba e) (fj _)
 have cL:∀y c,cl.lookup y=some c→X.env.cells.lookup y=some c:=fun y c e=>B.sub (y,c) (il e)
 have oi:=I3.nA
 have gB:(X.bf N scope cl s3 (upd H2 D (.lst [])) fp).Ok:=by
  refine ⟨I.ok.mod,B.kind,I.ok.glob,I.ok.blt,aG _,fun a b c e1 e2=>I.ok.inj a b c (cL a c e1) (cL b c e2),fun y hy=>B.has y hy,(fun _ _ z _=>absurd z cj),(fun _=>I.ok.hd hc),I.ok.frames,.inl rfl,fun b hb=>⟨?_,fun y c e z=>?_⟩,fun b o e=>?_,cE I.ok.fz I3.sz,fun b o e hb=>?_,fun b hb z=>?_,I3.stack,oi⟩
  ·obtain ⟨o,e,_⟩:=gD b hb
   exact below b o (e8 b o e)
  ·exact (f2 b hb).2.2.2.2.1 y c (cL y c e) z
  ·exact I3.bs b o e
  ·rcases (f2 b hb).2.2.2.1 with z | z
   ·exact I.ok.i7 b o e z
   ·exact absurd (cW (ba e) (cE I.ok.fz z)) (fj _)
  ·rcases cN.mp (I3.nz b z) with z | z
   ·exact (f2 b hb).2.1 z
   ·exact (f2 b hb).2.2.1 z
 have IB:∀tk:Nat,Inv (X.bf N scope cl s3 (upd H2 D (.lst [])) fp) [] (none::ρ σ) (upd H2 D (.lst [])) {s3 with heap:=h₁,toks:=tk}:=fun tk=>by
  refine ⟨gB,rfl,I3.bare,Un.kept c0,⟨_,eZ,fun j y v e1 e2 e3=>?_⟩,fun y c e=>?_,?_,fun y c e=>I3.d_ y c (cL y c e),(fun p hp=>nomatch hp),I3.aB.kept c0,?_⟩
  ·cases j with
   | zero=>cases e2
   | succ j=>
    obtain ⟨i,y',a1,a2,a3,a4,a5,a6⟩:=B.qo σ j v e2
    have j4:N[j+1]?=some y:=e1
    rw [j4] at a1
    cases a1
    obtain ⟨m,hn,hl⟩:=I3.loc
    obtain ⟨u,r,l⟩:=hl i y v a2 a3 a4
    refine ⟨u,r,.inr ⟨a6,?_⟩⟩
    obtain ⟨c,ec⟩:=B.has y a6
    rcases l with ⟨k,_⟩ | ⟨_,c',jg,z⟩
    ·rcases a5 with q | q <;> (rw [k] at q;cases q)
    ·have:=cL y c ec
     rw [this] at jg
     cases jg
     obtain ⟨o,ho,hd⟩:=z
     exact ⟨c,ec,o,c0 _ _ ho,hd⟩
  ·obtain ⟨v,o,ho,hd⟩:=I3.cell y c (cL y c e)
   exact ⟨v,o,c0 _ _ ho,hd⟩
  ·exact I3.aB.fresh (aG _)
  ·show (none::ρ σ).length=N.length
   rw [gk]
   exact B.len σ I.len
 have tW:∀b o,s3.heap.get? b=some o→b≠s3.heap.objs.size:=below
 have fin:∀{σ':St} {H':Hp} {s':Shared},Inv (X.bf N scope cl s3 (upd H2 D (.lst [])) fp) [] σ' H' s'→D0.nx (σ.set i0 (some (.ref D))) H'→compPost (model X.prog X.w) X.A X.xe (some (assign (.Name y py) X.env)) (fun _ s'=>SP X pins D0 .next s') (.ref D) s3.heap.objs.size (.ok .next) s':=fun{σ' H' s'} J q=>by
  obtain ⟨m,hn,_⟩:=J.loc
  have hn:s'.heap.Ns s3.heap.objs.size m:=hn
  have JC:H' s3.heap.objs.size=none:=J.free
  have u1:Un (bH X.stack) fp (upd H2 D (.lst [])) H' s3.heap s'.heap:=by
   refine ⟨fun b o e n hb hx=>J.base.keep b o e n hb hx,fun b o e n hb hx=>J.base.slot b o e n hb hx,J.base.free,fun b o e hx=>J.base.there b o e hx,J.base.cm,J.base.cT,J.base.cY⟩
  have IX:Inv X pins σ H' s':=I3.i9 (ch:=fp) (J.os) u1 J.aB J.bare fun b hb=>by
   obtain ⟨g0,g1,g2,g3,g4,g5⟩:=f2 b hb
   exact ⟨g3,g1,g4,g5⟩
  have nl:X.env.locals≠s3.heap.objs.size:=by
   obtain ⟨m3,⟨o3,_,_,e3,_⟩,_⟩:=I3.loc
   exact tW _ _ e3
  have nc:∀z c,X.env.cells.lookup z=some c→c≠s3.heap.objs.size:=fun z c e=>by
   obtain ⟨v3,o3,e3,_⟩:=I3.cell z c e
   exact tW _ _ e3
  refine wpAny_assign_Name (wx (v:=.ref D) IX hN DF hy rfl (fun g9 tX tY=>?_) hf)
  obtain ⟨a,tY,ha⟩:=tY
  have na:s3.heap.objs.size≠a:=by
   rcases ha with rfl | e
   ·exact fun z=>nl z.symm
   ·exact fun z=>nc _ _ e z.symm
  refine ⟨m,hn.sameBut tY na,fun h' e9=>⟨σ.set i0 (some (.ref D)),H',?_,q⟩⟩
  have u2:Un (bH X.stack) [s3.heap.objs.size] H' H' g9.heap h':=by
   refine ⟨fun b o e n hb hx=>(e9.2 b (by simpa using hx)).trans e,fun b o e n hb hx=>⟨o.slots,(e9.2 b (by simpa using hx)).trans e⟩,fun b o e n hx=>n,fun b o e hx=>⟨o,(e9.2 b (by simpa using hx)).trans e⟩,fun b xs z=>z,fun b o u z=>z,fun b ps z=>⟨#[],by simpa using z⟩⟩
  have oj:bM X.prog X.w H' h':=fun b u e=>by
   refine (tX.aB b u e).fw (fun c v hc z=>(e9.2 c fun y=>?_).trans z) (fun _ z=>z) fun _ _ z=>z
   have y':c=s3.heap.objs.size:=y
   rcases hc with hc | hc
   ·rw [←hc,y',JC] at e
    cases e
   ·rw [y',JC] at hc
    cases hc
  refine tX.i9 (s':={g9 with heap:=h'}) (ch:=[s3.heap.objs.size]) rfl u2 oj tX.bare fun b hb=>?_
  have eb:b=s3.heap.objs.size:=by simpa using hb
  subst eb
  refine ⟨.inr I3.sz,fun z=>nl z.symm,fun z c e=>nc z c e,fun p hp=>?_⟩
  exact tW _ _ (I3.pin p hp).1
 have eg:∀{H':Hp},(∀b∈fp,H' b=none)→∀b∈fp,iy (X.bf N scope cl s3 (upd H2 D (.lst [])) fp) [] H' b:=fun hn b hb=>by
  refine ⟨hn b hb,?_,?_,.inl hb,fun y c e z=>(f2 b hb).2.2.2.2.1 y c (cL y c e) z,fun p hp=>nomatch hp⟩
  ·obtain ⟨o,e,_⟩:=gD b hb
   exact below b o (e8 b o e)
  ·exact gB.i8 b hb
 have loop:∀tk:Nat,codeAny (model X.prog X.w) X.A (.compLoop (.ListComp elt [⟨.Name x px,iter,ifs,0⟩] scope pos) 0 (.ref it) (.ref D) (compEnvC scope cl s3.heap.objs.size X.env))
   (compPost (model X.prog X.w) X.A X.xe (some (assign (.Name y py) X.env)) (fun _ s'=>SP X pins D0 .next s') (.ref D) s3.heap.objs.size) {s3 with heap:=h₁,toks:=tk}:=fun tk=>by
  refine codeAny_compLoop_tests (fun n s'=>∃i ys o H',Inv (X.bf N scope cl s3 (upd H2 D (.lst [])) fp) [] (o::ρ σ) H' s'∧tn i s'.heap∧(∀b∈fp,H' b=none)∧W i n ys H') ?_ m0
   ⟨0,[],none,_,IB tk,T.keep _ _ _ fB fun b hb o e=>c0 _ _ (e8 _ _ e),fun b hb=>by rw [bu (oh b hb)];exact (f2 b hb).1,w0⟩
  rintro n s4 ⟨i,ys,o,H4,I4,jh,ji,w4⟩
  obtain ⟨yo,om⟩:=turn i n ys H4 w4
  rcases om with ⟨stop,qn⟩ | ⟨go,step⟩
  ·refine bj (T.done (X.bf N scope cl s3 (upd H2 D (.lst [])) fp) rfl rfl rfl hc i [] s4 _ H4 (fun _ _=>False) I4 (eg ji) jh stop) (fun r s5 ⟨hr,I5⟩=>?_) fun _ _ z=>z.elim
   subst hr
   exact fin I5 qn
  ·refine bj (T.item (X.bf N scope cl s3 (upd H2 D (.lst [])) fp) rfl rfl rfl hc i [] s4 _ H4 (fun _ _=>False) I4 (eg ji) jh go) (fun r s5 ⟨u,hr,h5⟩=>?_) fun _ _ z=>z.elim
   subst hr
   have z:letOwnedTupleGo (.Name x px) (.ref it) u=pure ():=rfl
   rw [z] at h5
   show wpAny _ _ ((pure ():Sem Unit) >>= fun _=>assign (.Name x px) (compEnvC scope cl s3.heap.objs.size X.env) u) _ _ s5
   refine aA (bj h5 (fun _ s5 ⟨y,H5,I5,r5,y5,eh,jO⟩=>?_) fun _ _ z=>z.elim)
   have jP:=I5.pinned (eg jO) (T.obj _ _ eh)
   have pg:PG (X.bf N scope cl s3 (upd H2 D (.lst [])) fp) (.Name x px) (cZ 0):=fA (i:=0) B.nd B.n0 (.inl (iZ B.hx)) (.inr (iZ B.hx))
   have again:∀{σ7:St} {H7:Hp} {s7:Shared},Inv (X.bf N scope cl s3 (upd H2 D (.lst [])) fp) ([]++g7 fp s5.heap) σ7 H7 s7→Inv (X.bf N scope cl s3 (upd H2 D (.lst [])) fp) [] σ7 H7 s7∧tn (i+1) s7.heap∧∀b∈fp,H7 b=none:=fun{σ7 H7 s7} I7=>by
    refine ⟨I7.lH,T.keep _ _ _ eh fun b hb o e=>(I7.pin (b,o) (da _ (da _ (ja hb e)))).1,fun b hb=>?_⟩
    obtain ⟨o,e,d⟩:=T.obj _ _ eh b hb
    exact (I7.pin (b,o) (da _ (da _ (ja hb e)))).2.1
   refine bj (pg _ s5 _ H5 y u (fun σ2 H6=>σ2=some y::ρ σ∧H6=H5) jP r5 ⟨rfl,rfl⟩) (fun _ s6 ⟨σ6,H6,I6,q6⟩=>?_) fun _ _ z=>z.elim
   obtain ⟨rfl,rfl⟩:=q6
   have oo:=step y _ y5
   have tests:∀{gE:TT},jf (X.bf N scope cl s3 (upd H2 D (.lst [])) fp) ifs gE→∀{R:Bool→Hp→Prop},gE (some y::ρ σ) H6 R→wpAny (model X.prog X.w) X.A
     (forIn ifs true fun c r=>if r=true then do let ok ←isTrue c (compEnvC scope cl s3.heap.objs.size X.env) (eval c (compEnvC scope cl s3.heap.objs.size X.env));pure (ForInStep.yield ok) else pure (ForInStep.yield r))
     (fun ok s7=>∃H7,Inv (X.bf N scope cl s3 (upd H2 D (.lst [])) fp) ([]++g7 fp s5.heap) (some y::ρ σ) H7 s7∧R ok H7) (fun _ _=>False) s6:=fun{gE} p {R} hR=>by
    cases p with
    | nil=>exact wpAny_tests_nil ⟨_,I6,hR⟩
    | one p=>exact wpAny_tests_one (p _ s6 _ _ _ I6 hR)
   refine bj (tests (ht s3 _ fp) oo) (fun ok s7 ⟨H7,I7,q7⟩=>?_) fun _ _ z=>z.elim
   cases ok with
   | false=>
    obtain ⟨m',fH,w7⟩:=q7
    obtain ⟨a1,a2,a3⟩:=again I7
    exact ⟨m',fH,i+1,ys,_,H7,a1,a2,a3,w7⟩
   | true=>
    refine bj (he s3 _ fp _ s7 _ H7 _ I7 q7) (fun ev s8 ⟨z,H8,I8,r8,oq,hz,m',fH,w8⟩=>?_) fun _ _ z=>z.elim
    refine bj (nX (X:=X.bf N scope cl s3 (upd H2 D (.lst [])) fp) _ s8 _ H8 (.ref D) [z] (.ref D) [ev] (fun _ H9=>H9=upd H8 D (.lst (ys++[z]))) I8 rfl (.cons r8 .nil) ⟨D,ys,z,rfl,rfl,oq,hz,rfl⟩) (fun _ s9 ⟨_,H9,I9,_,q9⟩=>?_) fun _ _ z=>z.elim
    subst q9
    obtain ⟨a1,a2,a3⟩:=again I9
    exact ⟨m',fH,i+1,ys++[z],_,_,a1,a2,a3,w8⟩
 have start:=loop (s3.toks+([]:List (Str×Value)).length)
 have es:({s3 with heap:=h₁,toks:=s3.toks+([]:List (Str×Value)).length}:Shared)={s2 with heap:=h₁,toks:=s2.toks+([]:List (Str×Value)).length}:=by rw [←gC]
 rw [es] at start
 exact sf start (T.self _ 0 _ _ _ (T.keep _ _ _ fB fun b hb o e=>c0 _ _ (e8 _ _ e)) start)
end
section
variable {X:Cx}
end
section
variable {prog:Program} {w:World} {A:Around} {R:Result→Shared→Prop} {s:Shared}
theorem DH{elt target iter:Expr}{ifs:List Expr}{scope:Scope}{pos:Pos}{it acc:Value}{env:Env}(I:Nat→Shared→Prop)
  (turn:∀n s,I n s→wpAny (model prog w) A (pyNext it) (fun r s₁=>match r with
   | none=>R (.ok .next) s₁
   | some v=>wpAny (model prog w) A (letOwnedTupleGo target it v) (fun _ s₁=>wpAny (model prog w) A (assign target env v) (fun _ s₂=>
     wpAny (model prog w) A (forIn ifs true fun c r=>if r=true then do let ok ←isTrue c env (eval c env);pure (ForInStep.yield ok) else pure (ForInStep.yield r)) (fun ok s₃=>
      if ok=true then wpAny (model prog w) A (eval elt env) (fun x s₄=>
       wpAny (model prog w) A (call (.builtin "list.append") [acc,x]) (fun _ s₅=>∃m,m<n∧I m s₅) (notedBy (model prog w) A env fun e s'=>R (.error e) s') s₄) (notedBy (model prog w) A env fun e s'=>R (.error e) s') s₃
      else ∃m,m<n∧I m s₃) (notedBy (model prog w) A env fun e s'=>R (.error e) s') s₂) (notedBy (model prog w) A env fun e s'=>R (.error e) s') s₁) (notedBy (model prog w) A env fun e s'=>R (.error e) s') s₁) (notedBy (model prog w) A env fun e s'=>R (.error e) s') s)
  (n:Nat) (h:I n s):codeAny (model prog w) A (.compLoop (.ListComp elt [⟨target,iter,ifs,0⟩] scope pos) 0 it acc env) R s:=by
 refine codeAny_loop rfl I (fun n s hI=>?_) n h
 show wpAny _ A ((compTurn (.ListComp elt [⟨target,iter,ifs,0⟩] scope pos) 0 it acc env).onRaise (fun x=>do noteFrame x env;theTreesLotGoes x)) _ _ s
 refine wpAny_noted ?_
 rw [compTurn_list]
 refine aA (m9 (aA (bj (turn n s hI) (fun r s₁ h₁=>?_) fun _ _ h'=>h')))
 cases r with
 | none=>exact a_ h₁
 | some v=>
  refine aA (bj h₁ (fun _ s₁ h₁=>?_) fun _ _ h'=>h')
  refine aA (bj h₁ (fun _ s₂ h₂=>aA (bj h₂ (fun ok s₃ h₃=>?_) fun _ _ h'=>h')) fun _ _ h'=>h')
  cases ok with
  | false=>exact a_ ⟨rfl,h₃⟩
  | true=>
   exact aA (aA (bj h₃ (fun x s₄ h₄=>aA (bj h₄ (fun _ s₅ h₅=>a_ (a_ ⟨rfl,h₅⟩)) fun _ _ h'=>h')) fun _ _ h'=>h'))
end
def yw(K:aJ)(wi:TI)(ρ:St→St)(tt:TT)(te:TE):TE:=fun σ H Q=>wi σ H fun J H1=>∀D,H1 D=none→∃W:Nat→Nat→List V→Hp→Prop,(∃m,W 0 m [] (upd H1 D (.lst []))) ∧
 ∀i m ys Hc,W i m ys Hc→Hc D=some (.lst ys)∧((J.stop i Hc∧Q (.ref D) Hc)∨(J.go i Hc∧∀v H',J.dH i Hc v H'→∃T x1 x2,v=.ref T∧cF K H' T [x1,x2]∧tt (some x1::some x2::ρ σ) H' fun b H2=>
  if b=true then te (some x1::some x2::ρ σ) H2 fun y H3=>H3 D=some (.lst ys)∧ys.length<sizeLine∧∃m',m'<m∧W (i+1) m' (ys++[y]) (upd H3 D (.lst (ys++[y]))) else ∃m',m'<m∧W (i+1) m' ys H2))
section
variable {X:Cx} {N:List Str} {scope:Scope} {cl:List (Str×Addr)} {x y:Str} {px py pos tp:Pos} {ou:Nat} {iter elt:Expr} {ifs:List Expr} {wi:TI} {ρ:St→St} {tt:TT} {te:TE}
structure yx (X:Cx) (N:List Str) (scope:Scope) (cl:List (Str×Addr)) (x y:Str) (ρ:St→St):Prop where
 ql:closureFor scope X.env=pure cl
 kind:scope.kind=.function
 qm:∀y∈scope.names,y.2≠.cell
 names:∀y∈scope.names,y.2=.local→scope.names.lookup y.1=some .local
 sub:∀p∈cl,X.env.cells.lookup p.1=some p.2
 has:∀y,((relabel scope X.env).names.lookup y=some .cell∨(relabel scope X.env).names.lookup y=some .free)→∃c,cl.lookup y=some c
 n0:N[0]?=some x
 n1:N[1]?=some y
 nd:N.Nodup
 hx:scope.names.lookup x=some .local
 hy:scope.names.lookup y=some .local
 qo:∀(σ:St) (j:Nat) (v:V),(ρ σ)[j]?=some (some v)→∃(i:Nat) (y:Str),N[j+1+1]?=some y∧X.N[i]?=some y∧σ[i]?=some (some v)∧jJ X.env.scope y∧(X.env.kindOf y=some .cell∨X.env.kindOf y=some .free)∧((relabel scope X.env).names.lookup y=some .cell∨(relabel scope X.env).names.lookup y=some .free)
 len:∀σ:St,σ.length=X.N.length→(ρ σ).length+1+1=N.length
theorem yy(is:List Nat)(h1:closureFor scope X.env=pure cl)(h:qp X scope N.tail.tail is:=by repeat' first | exact True.intro | refine And.intro ⟨rfl,Or.inr (Or.inl rfl),.inl rfl,.inl rfl⟩ ?_)(h2:scope.kind=.function:=by rfl)(h3:∀y∈scope.names,y.2≠.cell:=by decide +kernel)(h4:∀y∈scope.names,y.2=.local→scope.names.lookup y.1=some .local:=by decide +kernel)(h5:∀p∈cl,X.env.cells.lookup p.1=some p.2:=by repeat' first | exact List.forall_mem_nil _ | refine List.forall_mem_cons.mpr ⟨rfl,?_⟩)(h6:((relabel scope X.env).names.all fun q=>(q.2 != .cell && q.2 != .free) || (cl.lookup q.1).isSome)=true:=by rfl)(h7:N[0]?=some x:=by rfl)(DI:N[1]?=some y:=by rfl)(h8:N.Nodup:=by decide +kernel)(h9:scope.names.lookup x=some .local:=by rfl)(DJ:scope.names.lookup y=some .local:=by rfl)(hr:∀σ:St,ρ σ=is.map fun i=>σ[i]?.join:=by exact fun _=>rfl)(hl:is.length+1+1=N.length:=by rfl):yx X N scope cl x y ρ:=
 ⟨h1,h2,h3,h4,h5,tT h6,h7,DI,h8,h9,DJ,fun σ j v e=>by rw [hr] at e;rw [←List.getElem?_tail,←List.getElem?_tail];exact tU h σ j v e,fun σ _=>by rw [hr,bz];exact hl⟩
theorem yz(B:yx X N scope cl x y ρ)(hc:X.calm=true)(hi:PI X (.Tuple [.Name x px,.Name y py] ou tp) iter wi)(ht:∀s₃ H₃ fp,jf (X.bf N scope cl s₃ H₃ fp) ifs tt)(he:∀s₃ H₃ fp,PE (X.bf N scope cl s₃ H₃ fp) elt te)
  (hs:∀x,foldedSetIterable iter X.env x=pure x:=by intro _;rfl):PE X (.ListComp elt [⟨.Tuple [.Name x px,.Name y py] ou tp,iter,ifs,0⟩] scope pos) (yw X.K wi ρ tt te):=by
 intro pins s σ H Q I h
 rw [eval_ListComp]
 refine se (use:=none) rfl hs B.ql B.kind B.names (aM (hi pins s σ H _ I h) fun v s1 h1=>aM h1 fun nG s2 h2=>?_)
 obtain ⟨it,fp,tn,J,H2,rfl,I2,T,fB,f2,q2⟩:=h2
 have nD:H2 s2.heap.objs.size=none:=I2.aB.fresh (aG _)
 obtain ⟨W,⟨m0,w0⟩,turn⟩:=q2 _ nD
 refine gS (wpAny_newFunctionEnv B.qm (by intro y hy;simp at hy) (fun h₁ eZ e7=>?_) B.kind)
 dsimp only at eZ e7 ⊢
 generalize hD:s2.heap.objs.size=D at nD w0 turn eZ e7 ⊢
 generalize gC:({s2 with heap:=s2.heap.push {cls:=.type "list",dict:=none,data:=.seq ([]:List Value).toArray}}:Shared)=s3
 have I3:Inv X pins σ (upd H2 D (.lst [])) s3:=by
  subst hD gC
  exact I2.laid (t':=s2.toks) (fun b u e=>b_ _ e) (aG _) ⟨dj _,[],_,.nil,dP _ rfl⟩
 have e3:s3.heap=s2.heap.push {cls:=.type "list",dict:=none,data:=.seq ([]:List Value).toArray}:=by rw [←gC]
 have e8:∀b o,s2.heap.get? b=some o→s3.heap.get? b=some o:=fun b o e=>by rw [e3];exact b_ _ e
 rw [←e3] at eZ e7 ⊢
 have below:∀b o,s3.heap.get? b=some o→b≠s3.heap.objs.size:=fun b o e=>cB (ba e)
 have c0:∀b o,s3.heap.get? b=some o→h₁.get? b=some o:=fun b o e=>e7.extBut b o (below b o e) (b_ _ e)
 have gD:∀b∈fp,∃o,s2.heap.get? b=some o∧∀v,o.data≠.cell v:=T.obj _ _ fB
 have oh:∀b∈fp,b≠D:=fun b hb z=>by
  obtain ⟨o,e,_⟩:=gD b hb
  rw [z,←hD] at e
  exact absurd (ba e) (fj _)
 have cL:∀y c,cl.lookup y=some c→X.env.cells.lookup y=some c:=fun y c e=>B.sub (y,c) (il e)
 have oi:=I3.nA
 have gB:(X.bf N scope cl s3 (upd H2 D (.lst [])) fp).Ok:=by
  refine ⟨I.ok.mod,B.kind,I.ok.glob,I.ok.blt,aG _,fun a b c e1 e2=>I.ok.inj a b c (cL a c e1) (cL b c e2),fun y hy=>B.has y hy,(fun _ _ z _=>absurd z cj),(fun _=>I.ok.hd hc),I.ok.frames,.inl rfl,fun b hb=>⟨?_,fun y c e z=>?_⟩,fun b o e=>?_,cE I.ok.fz I3.sz,fun b o e hb=>?_,fun b hb z=>?_,I3.stack,oi⟩
  ·obtain ⟨o,e,_⟩:=gD b hb
   exact below b o (e8 b o e)
  ·exact (f2 b hb).2.2.2.2.1 y c (cL y c e) z
  ·exact I3.bs b o e
  ·rcases (f2 b hb).2.2.2.1 with z | z
   ·exact I.ok.i7 b o e z
   ·exact absurd (cW (ba e) (cE I.ok.fz z)) (fj _)
  ·rcases cN.mp (I3.nz b z) with z | z
   ·exact (f2 b hb).2.1 z
   ·exact (f2 b hb).2.2.1 z
 have IB:∀tk:Nat,Inv (X.bf N scope cl s3 (upd H2 D (.lst [])) fp) [] (none::none::ρ σ) (upd H2 D (.lst [])) {s3 with heap:=h₁,toks:=tk}:=fun tk=>by
  refine ⟨gB,rfl,I3.bare,Un.kept c0,⟨_,eZ,fun j y v e1 e2 e3=>?_⟩,fun y c e=>?_,?_,fun y c e=>I3.d_ y c (cL y c e),(fun p hp=>nomatch hp),I3.aB.kept c0,?_⟩
  ·cases j with
   | zero=>cases e2
   | succ j=>
   cases j with
   | zero=>cases e2
   | succ j=>
    obtain ⟨i,y',a1,a2,a3,a4,a5,a6⟩:=B.qo σ j v e2
    have j4:N[j+1+1]?=some y:=e1
    rw [j4] at a1
    cases a1
    obtain ⟨m,hn,hl⟩:=I3.loc
    obtain ⟨u,r,l⟩:=hl i y v a2 a3 a4
    refine ⟨u,r,.inr ⟨a6,?_⟩⟩
    obtain ⟨c,ec⟩:=B.has y a6
    rcases l with ⟨k,_⟩ | ⟨_,c',jg,z⟩
    ·rcases a5 with q | q <;> (rw [k] at q;cases q)
    ·have:=cL y c ec
     rw [this] at jg
     cases jg
     obtain ⟨o,ho,hd⟩:=z
     exact ⟨c,ec,o,c0 _ _ ho,hd⟩
  ·obtain ⟨v,o,ho,hd⟩:=I3.cell y c (cL y c e)
   exact ⟨v,o,c0 _ _ ho,hd⟩
  ·exact I3.aB.fresh (aG _)
  ·show (none::none::ρ σ).length=N.length
   rw [gk,gk]
   exact B.len σ I.len
 have fin:∀{σ':St} {H':Hp} {s':Shared},Inv (X.bf N scope cl s3 (upd H2 D (.lst [])) fp) [] σ' H' s'→Q (.ref D) H'→compPost (model X.prog X.w) X.A X.xe none (EP X pins σ Q) (.ref D) s3.heap.objs.size (.ok .next) s':=fun{σ' H' s'} J q=>by
  obtain ⟨m,hn,_⟩:=J.loc
  refine ⟨m,hn,fun h' e9=>⟨.ref D,H',?_,rfl,q⟩⟩
  have old:∀b o,s3.heap.get? b=some o→b≠s3.heap.objs.size:=below
  have u1:Un (bH X.stack) fp (upd H2 D (.lst [])) H' s3.heap h':=by
   refine ⟨fun b o e n hb hx=>?_,fun b o e n hb hx=>?_,J.base.free,fun b o e hx=>?_,J.base.cm,J.base.cT,J.base.cY⟩
   ·exact (e9.2 b (old b o e)).trans (J.base.keep b o e n hb hx)
   ·obtain ⟨sl,z⟩:=J.base.slot b o e n hb hx
    exact ⟨sl,(e9.2 b (old b o e)).trans z⟩
   ·obtain ⟨o',z⟩:=J.base.there b o e hx
    exact ⟨o',(e9.2 b (old b o e)).trans z⟩
  have oj:bM X.prog X.w H' h':=fun b u e=>by
   refine (J.aB b u e).fw (fun c v hc z=>(e9.2 c fun y=>?_).trans z) (fun _ z=>z) fun _ _ z=>z
   have fr:=J.free
   have y':c=s3.heap.objs.size:=y
   rcases hc with hc | hc
   ·rw [←hc,y'] at e
    exact absurd (fr.symm.trans e) (by simp)
   ·rw [y'] at hc
    exact absurd (fr.symm.trans hc) (by simp)
  refine I3.i9 (s':={s' with heap:=h'}) (ch:=fp) (J.os) u1 oj J.bare fun b hb=>?_
  obtain ⟨g0,g1,g2,g3,g4,g5⟩:=f2 b hb
  exact ⟨g3,g1,g4,g5⟩
 have eg:∀{H':Hp},(∀b∈fp,H' b=none)→∀b∈fp,iy (X.bf N scope cl s3 (upd H2 D (.lst [])) fp) [] H' b:=fun hn b hb=>by
  refine ⟨hn b hb,?_,?_,.inl hb,fun y c e z=>(f2 b hb).2.2.2.2.1 y c (cL y c e) z,fun p hp=>nomatch hp⟩
  ·obtain ⟨o,e,_⟩:=gD b hb
   exact below b o (e8 b o e)
  ·exact gB.i8 b hb
 have loop:∀tk:Nat,codeAny (model X.prog X.w) X.A (.compLoop (.ListComp elt [⟨.Tuple [.Name x px,.Name y py] ou tp,iter,ifs,0⟩] scope pos) 0 (.ref it) (.ref D) (compEnvC scope cl s3.heap.objs.size X.env))
   (compPost (model X.prog X.w) X.A X.xe none (EP X pins σ Q) (.ref D) s3.heap.objs.size) {s3 with heap:=h₁,toks:=tk}:=fun tk=>by
  refine DH (fun n s'=>∃i ys o o2 H',Inv (X.bf N scope cl s3 (upd H2 D (.lst [])) fp) [] (o::o2::ρ σ) H' s'∧tn i s'.heap∧(∀b∈fp,H' b=none)∧W i n ys H') ?_ m0
   ⟨0,[],none,none,_,IB tk,T.keep _ _ _ fB fun b hb o e=>c0 _ _ (e8 _ _ e),fun b hb=>by rw [bu (oh b hb)];exact (f2 b hb).1,w0⟩
  rintro n s4 ⟨i,ys,o,o2,H4,I4,jh,ji,w4⟩
  obtain ⟨yo,om⟩:=turn i n ys H4 w4
  rcases om with ⟨stop,qn⟩ | ⟨go,step⟩
  ·refine bj (T.done (X.bf N scope cl s3 (upd H2 D (.lst [])) fp) rfl rfl rfl hc i [] s4 _ H4 (fun _ _=>False) I4 (eg ji) jh stop) (fun r s5 ⟨hr,I5⟩=>?_) fun _ _ z=>z.elim
   subst hr
   exact fin I5 qn
  ·refine bj (T.item (X.bf N scope cl s3 (upd H2 D (.lst [])) fp) rfl rfl rfl hc i [] s4 _ H4 (fun _ _=>False) I4 (eg ji) jh go) (fun r s5 ⟨u,hr,h5⟩=>?_) fun _ _ z=>z.elim
   subst hr
   refine bj h5 (fun _ s5 ⟨y0,H5,I5,r5,y5,eh,jO⟩=>?_) fun _ _ z=>z.elim
   obtain ⟨Tt,x1,x2,e0,DK,oo⟩:=step y0 _ y5
   subst e0
   have jP:=I5.pinned (eg jO) (T.obj _ _ eh)
   have pg:PG (X.bf N scope cl s3 (upd H2 D (.lst [])) fp) (.Tuple [.Name x px,.Name y py] ou tp) (wR X.K 2 (sJ (cZ 0) (sJ (cZ 1) wO))):=
    Bu (X:=X.bf N scope cl s3 (upd H2 D (.lst [])) fp) hc (wQ (fA (i:=0) B.nd B.n0 (.inl (iZ B.hx)) (.inr (iZ B.hx))) (wQ (fA (i:=1) B.nd B.n1 (.inl (iZ B.hy)) (.inr (iZ B.hy))) Bt))
   have again:∀{σ7:St} {H7:Hp} {s7:Shared},Inv (X.bf N scope cl s3 (upd H2 D (.lst [])) fp) ([]++g7 fp s5.heap) σ7 H7 s7→Inv (X.bf N scope cl s3 (upd H2 D (.lst [])) fp) [] σ7 H7 s7∧tn (i+1) s7.heap∧∀b∈fp,H7 b=none:=fun{σ7 H7 s7} I7=>by
    refine ⟨I7.lH,T.keep _ _ _ eh fun b hb o e=>(I7.pin (b,o) (da _ (da _ (ja hb e)))).1,fun b hb=>?_⟩
    obtain ⟨o,e,d⟩:=T.obj _ _ eh b hb
    exact (I7.pin (b,o) (da _ (da _ (ja hb e)))).2.1
   refine bj (pg _ s5 _ H5 (.ref Tt) u (fun σ2 H6=>σ2=some x1::some x2::ρ σ∧H6=H5) jP r5 ⟨Tt,_,rfl,DK,rfl,_,_,rfl,_,_,rfl,rfl,rfl,rfl⟩) (fun _ s6 ⟨σ6,H6,I6,q6⟩=>?_) fun _ _ z=>z.elim
   obtain ⟨rfl,rfl⟩:=q6
   have tests:∀{gE:TT},jf (X.bf N scope cl s3 (upd H2 D (.lst [])) fp) ifs gE→∀{R:Bool→Hp→Prop},gE (some x1::some x2::ρ σ) H6 R→wpAny (model X.prog X.w) X.A
     (forIn ifs true fun c r=>if r=true then do let ok ←isTrue c (compEnvC scope cl s3.heap.objs.size X.env) (eval c (compEnvC scope cl s3.heap.objs.size X.env));pure (ForInStep.yield ok) else pure (ForInStep.yield r))
     (fun ok s7=>∃H7,Inv (X.bf N scope cl s3 (upd H2 D (.lst [])) fp) ([]++g7 fp s5.heap) (some x1::some x2::ρ σ) H7 s7∧R ok H7) (fun _ _=>False) s6:=fun{gE} p {R} hR=>by
    cases p with
    | nil=>exact wpAny_tests_nil ⟨_,I6,hR⟩
    | one p=>exact wpAny_tests_one (p _ s6 _ _ _ I6 hR)
   refine bj (tests (ht s3 _ fp) oo) (fun ok s7 ⟨H7,I7,q7⟩=>?_) fun _ _ z=>z.elim
   cases ok with
   | false=>
    obtain ⟨m',fH,w7⟩:=q7
    obtain ⟨a1,a2,a3⟩:=again I7
    exact ⟨m',fH,i+1,ys,_,_,H7,a1,a2,a3,w7⟩
   | true=>
    refine bj (he s3 _ fp _ s7 _ H7 _ I7 q7) (fun ev s8 ⟨z,H8,I8,r8,oq,hz,m',fH,w8⟩=>?_) fun _ _ z=>z.elim
    refine bj (nX (X:=X.bf N scope cl s3 (upd H2 D (.lst [])) fp) _ s8 _ H8 (.ref D) [z] (.ref D) [ev] (fun _ H9=>H9=upd H8 D (.lst (ys++[z]))) I8 rfl (.cons r8 .nil) ⟨D,ys,z,rfl,rfl,oq,hz,rfl⟩) (fun _ s9 ⟨_,H9,I9,_,q9⟩=>?_) fun _ _ z=>z.elim
    subst q9
    obtain ⟨a1,a2,a3⟩:=again I9
    exact ⟨m',fH,i+1,ys++[z],_,_,_,a1,a2,a3,w8⟩
 have start:=loop (s3.toks+([]:List (Str×Value)).length)
 have es:({s3 with heap:=h₁,toks:=s3.toks+([]:List (Str×Value)).length}:Shared)={s2 with heap:=h₁,toks:=s2.toks+([]:List (Str×Value)).length}:=by rw [←gC]
 rw [es] at start
 exact sf start (T.self _ 0 _ _ _ (T.keep _ _ _ fB fun b hb o e=>c0 _ _ (e8 _ _ e)) start)
end
section
variable {X:Cx}
end
section
variable {M:Model} {A:Around} {E:aE} {s:Shared}
end
section
variable {X:Cx} {N:List Str} {scope:Scope} {cl:List (Str×Addr)} {x:Str} {px pos:Pos} {iter elt:Expr} {ifs:List Expr} {wi:TI} {ρ:St→St} {tt:TT} {te:TE}
end
theorem yA{v:V}(h:gz v=true):dI v v=true:=by
 cases v with
 | aR=>rfl
 | bl b=>show (b == b)=true;simp
 | int i=>show (i == i)=true;simp
 | str x=>show (x == x)=true;simp
 | _=>cases h
theorem all_range(n:Nat):(List.range n).all (fun _=>true)=true:=by simp
section
variable {X:Cx} {pins:aI} {σ:St} {H:Hp} {s:Shared}
end
section
variable {X:Cx}
end
section
variable {X:Cx} {N:List Str} {scope:Scope} {cl:List (Str×Addr)} {x:Str} {px pos:Pos} {iter elt:Expr} {ifs:List Expr} {wi:TI} {ρ:St→St} {tt:TT} {te:TE}
end
structure yB (J:It) (zs:List (V×V)) (H1:Hp):Prop where
 go:∀i Hc,aq H1 Hc→i<zs.length→J.go i Hc
 dH:∀i Hc v H',aq H1 Hc→J.dH i Hc v H'→∃T x y,v=.ref T∧Hc T=none∧H'=upd Hc T (.tup [x,y])∧(i<zs.length→zs[i]?=some (x,y))
 stop:∀i Hc,aq H1 Hc→zs.length≤i→J.stop i Hc
variable {wi:TI} {ρ:St→St}
theorem DL{K:aJ}{zs:List (V×V)}(iG:∀R:It→Hp→Prop,(∀J H1,aq H H1→yB J zs H1→R J H1)→wi σ H R)(hn:zs.length<sizeLine)
  (P:Nat→V→Prop)
  (step:∀i x y,zs[i]?=some (x,y)→∀(Hc:Hp) (R:VK),aq H Hc→(∀v H3,aq Hc H3→P i v→R v H3)→te (some x::some y::ρ σ) Hc R)
  (fin:∀D vs Hc,aq H Hc→vs.length=zs.length→(∀(i:Nat) (v:V),vs[i]?=some v→P i v)→Hc D=some (.lst vs)→Q (.ref D) Hc):yw K wi ρ (fun _ H Q=>Q true H) te σ H Q:=by
 refine iG _ fun J H1 s1 js=>?_;intro D nD;refine ⟨fun i m vs Hc=>m=zs.length-i∧i≤zs.length∧Hc D=some (.lst vs)∧aq H1 Hc∧vs.length=i∧∀(j:Nat) (v:V),vs[j]?=some v→P j v,⟨_,rfl,dj _,aw,iF (aq.refl H1) nD,rfl,fun j y e=>by simp at e⟩,?_⟩
 rintro i m vs Hc ⟨rfl,hi,eD,sH,el,hP⟩;refine ⟨eD,?_⟩;by_cases cA:i<zs.length
 ·refine .inr ⟨js.go i Hc sH cA,fun v H' hy=>?_⟩
  obtain ⟨T,x,y,ev,nT,eH,hx⟩:=js.dH i Hc v H' sH hy;subst ev eH;refine ⟨T,x,y,rfl,.of aw,?_⟩;dsimp only;rw [aj rfl];have sT:aq Hc (upd Hc T (.tup [x,y])):=fun b o e=>by rw [bu (eT e nT)];exact e
  refine step i x y (hx cA) _ _ (s1.trans (sH.trans sT)) fun w H3 s3 hp=>?_;have e3:=s3 _ _ (sT _ _ eD);refine ⟨e3,by omega,zs.length-(i+1),by omega,rfl,cA,aw,iF (sH.trans (sT.trans s3)) nD,by simp [el],fun j v' e=>?_⟩
  by_cases hj:j<i;·exact hP j v' (by rw [gR (by omega)] at e;exact e)
  ·have hj:j=i:=by have:=(bZ.mp e).1;simp at this;omega
   subst hj;have e':v'=w:=by rw [gh (by omega),el,lg] at e;simpa using e.symm
   subst e';exact hp
 ·have e:i=zs.length:=by omega
  subst e;exact .inl ⟨js.stop _ Hc sH (aG _),fin D vs Hc (s1.trans sH) el hP eD⟩
theorem DM(iG:∀R:It→Hp→Prop,(∀J H1,aq H H1→qt J xs H1→R J H1)→wi σ H R)(hn:xs.length<sizeLine)
  (P:Addr→Nat→V→Hp→Prop) (mono:∀D i y H H' ys,P D i y H→H D=some (.lst ys)→(∀b o,b≠D→H b=some o→H' b=some o)→P D i y H')
  (step:∀D i x,xs[i]?=some x→∀(Hc:Hp) (R:VK),aq H Hc→(∃ys,Hc D=some (.lst ys))→(∀y H3,aq Hc H3→P D i y H3→R y H3)→te (some x::ρ σ) Hc R)
  (fin:∀D ys Hc,H D=none→aq H Hc→ys.length=xs.length→(∀(i:Nat) (y:V),ys[i]?=some y→P D i y Hc)→Hc D=some (.lst ys)→Q (.ref D) Hc):fY wi ρ (fun _ H Q=>Q true H) te σ H Q:=by
 refine iG _ fun J H1 s1 js=>?_;intro D nD;have hD:H D=none:=by
  cases e:H D with
  | none=>rfl
  | some o=>rw [s1 _ _ e] at nD;cases nD
 exact DD (ρσ:=ρ σ) (te:=te) (Q:=Q) js nD hn (P D) (mono D) (fun i x hx Hc R sc=>step D i x hx Hc R (s1.trans sc)) (fun ys Hc sc=>fin D ys Hc hD (s1.trans sc))
section
variable {X:Cx} {K:aJ}
theorem yC(hK:X.K=K:=by rfl):nU X (xO K):=by subst hK;exact aX
end
end L2
namespace My
open PySem L2
variable {te:TE} {σ:St} {H:Hp} {Q:VK}
theorem yD{r:List V→Hp→VK→Prop}(h:te σ H fun x H1=>r [x] H1 Q):s_ r (jR te nN) σ H Q:=h
theorem DN{D:Ends}(h:te σ H D.rt):wM te D σ H:=h
theorem yE{r:R2}{ta tb:TE}(h:ta σ H fun x H1=>tb σ H1 fun y H2=>r x y H2 Q):fU r ta tb σ H Q:=h
theorem none_of{H':Hp}{b:Addr}(s:aq H H')(h:H' b=none):H b=none:=by
 cases e:H b with
 | none=>rfl
 | some o=>rw [s _ _ e] at h;cases h
theorem getD_at{α:Type}{xs:List α}{d:α}{i:Nat}(hi:i<xs.length):xs.getD i d=xs[i]:=by
 rw [d6,show xs[i]?=some xs[i] by simp [hi]]
 rfl
end My
namespace L2
open PySem PySem.Spec PyProof.Rows
end L2
namespace My
open PySem L2
end My
namespace L2
open PySem PySem.Spec PyProof.Rows
end L2
namespace My
open PySem L2
end My
namespace L2
open PySem PySem.Spec PyProof.Rows
theorem boot_enumerate:bootBuiltins "enumerate"=some (.type "enumerate"):=by decide +kernel
section
variable {X:Cx}
end
end L2
namespace My
open PySem L2
end My
namespace L2
open PySem PySem.Spec PyProof.Rows
section
variable {X:Cx} {tg:Expr}
end
section
variable {X:Cx} {e:Expr} {te:TE} {pos p2:Pos}
end
end L2
namespace My
open PySem L2
end My
namespace L2
open PySem PySem.Spec PyProof.Rows
end L2
namespace My
open PySem L2
end My
namespace L2
open PySem PySem.Spec PyProof.Rows
end L2
namespace My
open PySem L2
end My
namespace L2
open PySem PySem.Spec PyProof.Rows
section
variable {X:Cx}
end
end L2
namespace My
open PySem L2
end My
namespace L2
open PySem PySem.Spec PyProof.Rows
end L2
namespace My
open PySem L2
end My
namespace L2
open PySem PySem.Spec PyProof.Rows
section
variable {X:Cx} {N:List Str} {scope:Scope} {cl:List (Str×Addr)} {x y:Str} {px py pos tp:Pos} {ou:Nat} {iter elt:Expr} {ifs:List Expr} {wi:TI} {ρ:St→St} {tt:TT} {te:TE}
end
inductive Tr where
 | fl (v:V)
 | ls (xs:List Tr)
 | tp (xs:List Tr)
 | dc
inductive gG (H:Hp):Tr→V→Prop where
 | fl {v:V} (h:gz v=true):gG H (.fl v) v
 | ls {a:Addr} {vs:List V} {ts:List Tr} (e:H a=some (.lst vs)) (l:vs.length=ts.length) (h:∀(i:Nat) (v:V) (t:Tr),vs[i]?=some v→ts[i]?=some t→gG H t v):gG H (.ls ts) (.ref a)
 | tp {a:Addr} {vs:List V} {ts:List Tr} (e:H a=some (.tup vs)) (l:vs.length=ts.length) (h:∀(i:Nat) (v:V) (t:Tr),vs[i]?=some v→ts[i]?=some t→gG H t v):gG H (.tp ts) (.ref a)
 | dc {a:Addr} (e:H a=some (tR a)):gG H .dc (.ref a)
def Tr.In:Nat→Tr→Prop
 | _,.fl _=>True
 | _,.dc=>True
 | 0,.ls _=>False
 | 0,.tp _=>False
 | n+1,.ls ts=>∀t∈ts,t.In n
 | n+1,.tp ts=>∀t∈ts,t.In n
section
variable {X:Cx} {pins:aI} {σ:St} {H:Hp} {s:Shared}
variable {A:Around} {a b:Addr}
theorem yF(ha:eY a s.heap)(hb:eY b s.heap)(hu:A.units<cLine):SeqAt.RcAt A s (.ref a) (.ref b) true:=fun prog w E Q h=>by obtain ⟨o,ep,e,c,d,z⟩:=ha;obtain ⟨o',fP,e',c',d',z'⟩:=hb;exact PySem.W.keq_eq (knd:=pL prog w) (ka:=[]) (kb:=[]) z z' ⟨o,#[],ep,e,c,d,fun _ h=>by simp at h,.nil,lh⟩ ⟨o',#[],fP,e',c',d',fun _ h=>by simp at h,.nil,lh⟩ hu (fun _=>.nil) h
theorem DO(ha:eY a s.heap)(hb:eY b s.heap)(hu:A.units<cLine):SeqAt.RcNeAt A s (.ref a) (.ref b) false:=fun prog w E Q h=>by obtain ⟨o,ep,e,c,d,z⟩:=ha;obtain ⟨o',fP,e',c',d',z'⟩:=hb;exact PySem.W.keq_ne (knd:=pL prog w) (ka:=[]) (kb:=[]) z z' ⟨o,#[],ep,e,c,d,fun _ h=>by simp at h,.nil,lh⟩ ⟨o',#[],fP,e',c',d',fun _ h=>by simp at h,.nil,lh⟩ hu (fun _=>.nil) h
theorem qu{xs ys:List V}{us vs:List Value}(r1:Vals xs us)(r2:Vals ys vs){j:Nat}(h1:j<us.length)(h2:j<vs.length):∃x y,xs[j]?=some x∧ys[j]?=some y∧RelV x us.toArray[j]∧RelV y vs.toArray[j]:=by
 have l1:=r1.length;have l2:=r2.length;obtain ⟨x,ex⟩:∃x,xs[j]?=some x:=⟨xs[j],by simp [show j<xs.length by omega]⟩
 obtain ⟨y,ey⟩:∃y,ys[j]?=some y:=⟨ys[j],by simp [show j<ys.length by omega]⟩
 obtain ⟨x',ny,rx⟩:=r1.get ex;obtain ⟨y',tZ,ry⟩:=r2.get ey;have e1:us.toArray[j]=x':=by simpa using (bZ.mp ny).2
 have e2:vs.toArray[j]=y':=by simpa using (bZ.mp tZ).2
 exact ⟨x,y,ex,ey,by rw [e1];exact rx,by rw [e2];exact ry⟩
theorem yG(I:Inv X pins σ H s):∀(n:Nat) (A:Around) (t:Tr) (v u:V) (a b:Value),t.In n→gG H t v→gG H t u→RelV v a→RelV u b→A.units+n<cLine→SeqAt.EqAt A s a b true:=by
 intro n
 induction n with
 | zero=>
  intro A t v u a b hn h1 h2 ra rb hu;cases h1 with
  | fl h=>
   cases h2 with
   | fl _=>have z:=jV (A:=A) (s:=s) ra rb h h;rw [yA h] at z;exact z
  | ls e l h=>exact hn.elim
  | tp e l h=>exact hn.elim
  | @dc p e=>
   cases h2 with
   | @dc p' e'=>
    cases ra;cases rb;by_cases pq:p=p';·subst pq;exact jC _
    ·exact lp pq (yF (show bO X.prog X.w H s.heap p (.ext (eY p)) from I.aB p _ e).1 (show bO X.prog X.w H s.heap p' (.ext (eY p')) from I.aB p' _ e').1 hu)
 | succ n ih=>
  intro A t v u a b hn h1 h2 ra rb hu;cases h1 with
  | fl h=>
   cases h2 with
   | fl _=>have z:=jV (A:=A) (s:=s) ra rb h h;rw [yA h] at z;exact z
  | @dc p e=>
   cases h2 with
   | @dc p' e'=>
    cases ra;cases rb;by_cases pq:p=p';·subst pq;exact jC _
    ·exact lp pq (yF (show bO X.prog X.w H s.heap p (.ext (eY p)) from I.aB p _ e).1 (show bO X.prog X.w H s.heap p' (.ext (eY p')) from I.aB p' _ e').1 (by omega))
  | @ls p xs ts e l h=>
   cases h2 with
   | @ls p' ys _ e' l' h'=>
    cases ra;cases rb;by_cases pq:p=p';·subst pq;exact jC _
    obtain ⟨us,r1,t1,_⟩:=I.list (.of e);obtain ⟨vs,r2,t2,_⟩:=I.list (.of e');have l1:=r1.length;have l2:=r2.length;have z:=SeqAt.RcAt.lists (A:=A) (e:=fun _=>true) t1.isList t2.isList (by simp;omega) (by omega) (fun j z1 z2=>by
     obtain ⟨x,y,ex,ey,rx,ry⟩:=qu r1 r2 (by simpa using z1) (by simpa using z2)
     have jt:j<ts.length:=by have:=(bZ.mp ex).1;omega
     exact ih A.in1 ts[j] x y _ _ (hn _ (fq jt)) (h j x _ ex (by simp [jt])) (h' j y _ ey (by simp [jt])) rx ry (by rw [jE];omega))
    rw [all_range] at z;exact lp pq z
  | @tp p xs ts e l h=>
   cases h2 with
   | @tp p' ys _ e' l' h'=>
    cases ra;cases rb;by_cases pq:p=p';·subst pq;exact jC _
    obtain ⟨us,r1,t1,_⟩:=I.tuple (.of e);obtain ⟨vs,r2,t2,_⟩:=I.tuple (.of e');have l1:=r1.length;have l2:=r2.length;have z:=SeqAt.RcAt.tuples (A:=A) (e:=fun _=>true) t1 t2 (by omega) (fun j z1 z2=>by
     obtain ⟨x,y,ex,ey,rx,ry⟩:=qu r1 r2 (by simpa using z1) (by simpa using z2)
     have jt:j<ts.length:=by have:=(bZ.mp ex).1;omega
     exact ih A.in1 ts[j] x y _ _ (hn _ (fq jt)) (h j x _ ex (by simp [jt])) (h' j y _ ey (by simp [jt])) rx ry (by rw [jE];omega))
    have e3:(us.toArray.size == vs.toArray.size)=true:=by simp;omega
    rw [all_range,e3] at z;exact lp pq z
end
def DP(n:Nat):R2:=fun x y H Q=>∃t:Tr,t.In n∧gG H t x∧gG H t y∧Q (.bl false) H
theorem DQ{v:V}(h:gz v=true):sS v v=true:=by cases v <;> first | rfl | cases h
theorem DR{X:Cx}{n:Nat}(hu:X.A.units+64<cLine)(hn:n<60:=by decide):cp X (compareOp .NotEq) (DP n):=by
 intro pins s σ H x y v u Q I rx ry h;obtain ⟨t,qv,h1,h2,q⟩:=h;cases h1 with
 | fl h=>
  cases h2 with
  | fl _=>refine nK pins s σ H x x v u Q I rx ry ⟨DQ h,?_⟩;rw [aW rfl];exact q
 | @dc p e=>
  cases h2 with
  | @dc p' e'=>cases rx;cases ry;exact (DO (show bO X.prog X.w H s.heap p (.ext (eY p)) from I.aB p _ e).1 (show bO X.prog X.w H s.heap p' (.ext (eY p')) from I.aB p' _ e').1 (by omega)) _ _ _ _ ⟨.bl false,H,I,rfl,q⟩
 | @ls p xs ts e l h=>
  cases h2 with
  | @ls p' ys _ e' l' h'=>
   cases rx;cases ry;cases n with
   | zero=>exact qv.elim
   | succ n=>
    obtain ⟨us,r1,t1,_⟩:=I.list (.of e);obtain ⟨vs,r2,t2,_⟩:=I.list (.of e');have l1:=r1.length;have l2:=r2.length;refine SeqAt.RcNeAt.lists (e:=fun _=>true) t1.isList t2.isList (by simp;omega) (by omega) (fun j z1 z2=>?_) _ _ _ _ ?_
    ·obtain ⟨x,y,ex,ey,rx,ry⟩:=qu r1 r2 (by simpa using z1) (by simpa using z2)
     have jt:j<ts.length:=by have:=(bZ.mp ex).1;omega
     exact yG I n X.A.in1 ts[j] x y _ _ (qv _ (fq jt)) (h j x _ ex (by simp [jt])) (h' j y _ ey (by simp [jt])) rx ry (by rw [jE];omega)
    ·rw [all_range]
     exact ⟨.bl false,H,I,rfl,q⟩
 | @tp p xs ts e l h=>
  cases h2 with
  | @tp p' ys _ e' l' h'=>
   cases rx;cases ry;cases n with
   | zero=>exact qv.elim
   | succ n=>
    obtain ⟨us,r1,t1,_⟩:=I.tuple (.of e);obtain ⟨vs,r2,t2,_⟩:=I.tuple (.of e');have l1:=r1.length;have l2:=r2.length;refine SeqAt.RcNeAt.tuples (e:=fun _=>true) t1 t2 (by omega) (fun j z1 z2=>?_) _ _ _ _ ?_
    ·obtain ⟨x,y,ex,ey,rx,ry⟩:=qu r1 r2 (by simpa using z1) (by simpa using z2)
     have jt:j<ts.length:=by have:=(bZ.mp ex).1;omega
     exact yG I n X.A.in1 ts[j] x y _ _ (qv _ (fq jt)) (h j x _ ex (by simp [jt])) (h' j y _ ey (by simp [jt])) rx ry (by rw [jE];omega)
    ·have e3:(us.toArray.size == vs.toArray.size)=true:=by simp;omega
     rw [all_range,e3];exact ⟨.bl false,H,I,rfl,q⟩
end L2
namespace My
open PySem PySem.W PyProof.Rows
section
variable {n:Nat} {c:Nat→Int}
def iH(n:Nat)(p:Array Nat):Prop:=p.Perm (List.toArray (List.range n))
theorem iH.size{p:Array Nat}(h:iH n p):p.size=n:=by rw [Array.Perm.size_eq h];simp
def vN(c:Nat→Int)(p:Array Nat)(i:Nat):Int:=c (p.getD i 0)
def j6(c:Nat→Int)(p:Array Nat)(k:Nat):Prop:=∀a b,a≤b→b<k→vN c p a≤vN c p b
end
end My
namespace Tm
open PySem PySem.W PyProof.Rows
def jj:Bool→Keyed→Array Keyed→Nat→Nat→Nat→StateT SortSt Sem (Option Nat):=sortPriv% PySem.Builtin.gallop
def oz:Nat→StateT SortSt Sem Unit:=sortPriv% PySem.Builtin.setMinGallop
def t_:Array Keyed→Array Keyed→StateT SortSt Sem (Array Keyed):=sortPriv% PySem.Builtin.mergeLo
def uc:Array Keyed→Array Keyed→StateT SortSt Sem (Array Keyed):=sortPriv% PySem.Builtin.mergeHi
def j7(left:Bool)(key:Keyed)(arr:Array Keyed)(base i:Nat):StateT SortSt Sem (Option Bool):=do
 let x ←elem' arr (base+i)
 if left then lt' x key else return (←lt' key x).map (!·)
theorem DS(left:Bool)(key:Keyed)(arr:Array Keyed)(base n hint:Nat):jj left key arr base n hint=(do
 let mut qw:=0
 let mut a8:=1
 let mut lo:=0
 let mut hi:=0
 let some right ←j7 left key arr base hint | return none
 if right then
  let oA:=n-hint
  for _ in [0:n] do
   if a8≥oA then break
   let some more ←j7 left key arr base (hint+a8) | return none
   if !more then break
   qw:=a8
   a8:=2*a8+1
  lo:=hint+qw+1
  hi:=hint+min a8 oA
 else
  let oA:=hint+1
  for _ in [0:n] do
   if a8≥oA then break
   let some found ←j7 left key arr base (hint-a8) | return none
   if found then break
   qw:=a8
   a8:=2*a8+1
  lo:=hint+1-min a8 oA
  hi:=hint-qw
 for _ in [0:n] do
  if lo≥hi then break
  let m:=lo+(hi-lo) / 2
  let some more ←j7 left key arr base m | return none
  if more then lo:=m+1 else hi:=m
 return some hi):=rfl
section
variable {prog:Program} {w:World} {A:Around} {E:aE} {s:Shared} {κ:SortKind} {key:Keyed→Int} {Ok:Keyed→Prop}
def fZ(prog:Program)(w:World)(A:Around)(s:Shared)(κ:SortKind)(key:Keyed→Int)(Ok:Keyed→Prop):Prop:=
 ∀x y,Ok x→Ok y→∀C:Bool→Shared→Prop,C (decide (key x<key y)) s→wpAny (model prog w) A (keyLt' κ x.1 y.1) C (fun _ _=>False) s
variable {st:SortSt} {Q:Option Bool→SortSt→Prop}
theorem oB(h:fZ prog w A s κ key Ok){x y:Keyed}(ox:Ok x)(oy:Ok y)(hk:kindOf st=κ)(q:Q (some (decide (key x<key y))) st):wpS (model prog w) A E s (lt' x y) Q st:=by rw [lt'_eq];refine ao (fu ?_);rw [hk];refine ao (wpS_lift (wpAny_attempt (bj (h x y ox oy (fun c s'=>s'=s∧wpS (model prog w) A E s (pure (some c)) Q st) ⟨rfl,ak q⟩) (fun c s' hc=>?_) fun _ _ hF=>hF.elim)));exact hc
def nn:Keyed:=(Value.none,Value.none)
variable {arr:Array Keyed} {i:Nat}
theorem a9(hi:i<arr.size){Q:Keyed→SortSt→Prop}(q:Q (arr.getD i nn) st):wpS (model prog w) A E s (elem' arr i) Q st:=by
 rw [elem'_eq];have e:arr[i]?=some (arr.getD i nn):=by simp [Array.getD,hi]
 rw [e];exact ak q
def dh(Ok:Keyed→Prop)(arr:Array Keyed):Prop:=∀i,i<arr.size→Ok (arr.getD i nn)
def bB(left:Bool)(k a:Int):Bool:=if left=true then decide (a<k) else !decide (k<a)
variable {left:Bool} {kx:Keyed} {base:Nat}
theorem e_(h:fZ prog w A s κ key Ok)(hi:base+i<arr.size)(ha:dh Ok arr)(ox:Ok kx)(hk:kindOf st=κ)(q:Q (some (bB left (key kx) (key (arr.getD (base+i) nn)))) st):wpS (model prog w) A E s (j7 left kx arr base i) Q st:=by
 unfold j7;refine ao (a9 hi ?_);unfold bB at q;cases left with
 | true=>rw [aj rfl] at q ⊢;exact oB h (ha _ hi) ox hk q
 | false=>
  rw [ai (by simp)] at q ⊢
  exact ao (oB h ox (ha _ hi) hk (ak q))
theorem fb{n hint:Nat}{f:Nat→Bool}
  (hb:∀i,i<n→∀Q:Option Bool→SortSt→Prop,Q (some (f i)) st→wpS (model prog w) A E s (j7 left kx arr base i) Q st)
  (hh:hint<n) (mono:∀i j,i≤j→j<n→f j=true→f i=true) {Q:Option Nat→SortSt→Prop}
  (k:∀m,m≤n→(∀i,i<m→f i=true)→(∀i,m≤i→i<n→f i=false)→Q (some m) st):wpS (model prog w) A E s (jj left kx arr base n hint) Q st:=by
 rw [DS];refine ao (hb hint hh _ ?_);dsimp only;have ud:∀i j,i≤j→j<n→f i=false→f j=false:=fun i j h1 h2 h3=>by
  cases e:f j with
  | false=>rfl
  | true=>rw [mono i j h1 h2 e] at h3;cases h3
 have bs:∀(lo hi:Nat) (body:Nat→Option (Option Nat)×Nat×Nat→StateT SortSt Sem (ForInStep (Option (Option Nat)×Nat×Nat))) (R:Option (Option Nat)×Nat×Nat→SortSt→Prop),lo≤hi→hi≤n→(∀i,i<lo→f i=true)→(∀i,hi≤i→i<n→f i=false)→
   (∀x lo hi (R:ForInStep (Option (Option Nat)×Nat×Nat)→SortSt→Prop),lo≥hi→R (.done (none,lo,hi)) st→wpS (model prog w) A E s (body x (none,lo,hi)) R st)→
   (∀x lo hi (R:ForInStep (Option (Option Nat)×Nat×Nat)→SortSt→Prop),lo<hi→hi≤n→R (.yield (if f (lo+(hi-lo) / 2)=true then (none,lo+(hi-lo) / 2+1,hi) else (none,lo,lo+(hi-lo) / 2))) st→wpS (model prog w) A E s (body x (none,lo,hi)) R st)→
   (∀m,m≤n→(∀i,i<m→f i=true)→(∀i,m≤i→i<n→f i=false)→R (none,m,m) st)→
   wpS (model prog w) A E s (forIn [0:n] (none,lo,hi) body) R st:=fun lo hi body R h1 h2 h3 h4 b1 b2 kk=>by
  refine dm (I:=fun x c av=>av=st∧∃lo hi,c=(none,lo,hi)∧lo≤hi∧hi≤n∧hi-lo+x≤n∧(∀i,i<lo→f i=true)∧(∀i,hi≤i→i<n→f i=false)) ?_ ?_ ⟨rfl,lo,hi,rfl,h1,h2,by omega,h3,h4⟩
  ·rintro x c av _ hx ⟨rfl,lo,hi,rfl,g1,g2,g3,g4,g5⟩
   by_cases z:lo≥hi
   ·refine b1 x lo hi _ z ?_
    obtain rfl:lo=hi:=by omega
    exact kk lo g2 g4 g5
   ·refine b2 x lo hi _ (by omega) g2 ?_
    cases e:f (lo+(hi-lo) / 2) with
    | true=>rw [aj rfl];exact ⟨rfl,_,_,rfl,by omega,g2,by omega,fun i bw=>mono i (lo+(hi-lo) / 2) (by omega) (by omega) e,g5⟩
    | false=>
     rw [ai (by simp)]
     exact ⟨rfl,_,_,rfl,by omega,by omega,by omega,g4,fun i h1 h2=>ud (lo+(hi-lo) / 2) i h1 h2 e⟩
  ·rintro c av ⟨rfl,lo,hi,rfl,g1,g2,g3,g4,g5⟩
   have:lo=hi:=by
    have:max 0 n=n:=by omega
    omega
   subst this;exact kk lo g2 g4 g5
 cases e:f hint with
 | true=>
  rw [aj rfl]
  refine ao (dD (dm (I:=fun x c av=>av=st∧∃la a8,c=(none,la,a8)∧x+1≤a8∧la<a8∧la<n-hint∧f (hint+la)=true)
   (Q:=fun c av=>av=st∧∃la a8,c=(none,la,a8)∧la<a8∧la<n-hint∧f (hint+la)=true∧(a8≥n-hint∨f (hint+a8)=false)) ?_ ?_ ⟨rfl,0,1,rfl,aG _,by omega,by omega,by simpa using e⟩) ?_)
  ·rintro x c av _ hx ⟨rfl,la,a8,rfl,g1,g2,g3,g4⟩
   dsimp only;by_cases z:a8≥n-hint
   ·rw [aj z]
    exact ak ⟨rfl,la,a8,rfl,g2,g3,g4,.inl z⟩
   ·rw [ai z]
    refine ao (hb _ (by omega) _ ?_)
    dsimp only;cases e':f (hint+a8) with
    | true=>
     rw [ai (by simp)]
     exact ak ⟨rfl,_,_,rfl,by omega,by omega,by omega,e'⟩
    | false=>
     rw [aj (by simp)]
     exact ak ⟨rfl,la,a8,rfl,g2,g3,g4,.inr e'⟩
  ·rintro c av ⟨rfl,la,a8,rfl,g1,g2,g3,g4⟩
   have:max 0 n=n:=by omega
   exact ⟨rfl,la,a8,rfl,g2,g3,g4,.inl (by omega)⟩
  ·rintro c av ⟨rfl,la,a8,rfl,g2,g3,g4,g5⟩
   refine ao (bs (hint+la+1) (hint+min a8 (n-hint)) _ _ (by omega) (by omega) (fun i hi=>mono i (hint+la) (by omega) (by omega) g4) (fun i h1 h2=>?_) ?_ ?_ ?_)
   ·rcases g5 with g5 | g5
    ·omega
    ·by_cases z:a8≥n-hint
     ·omega
     ·exact ud (hint+a8) i (by omega) h2 g5
   ·intro x lo hi R z hR
    dsimp only;rw [aj z];exact ak hR
   ·intro x lo hi R z z2 hR
    dsimp only;rw [ai (by omega)]
    refine ao (hb _ (by omega) _ ?_)
    dsimp only;cases e:f (lo+(hi-lo) / 2) with
    | true=>rw [e,aj rfl] at hR;rw [aj rfl];exact ak hR
    | false=>
     rw [e,ai (by simp)] at hR
     rw [ai (by simp)]
     exact ak hR
   ·exact fun m m1 m2 m3=>ak (k m m1 m2 m3)
 | false=>
  rw [ai (by simp)]
  refine ao (dD (dm (I:=fun x c av=>av=st∧∃la a8,c=(none,la,a8)∧x+1≤a8∧la<a8∧la≤hint∧f (hint-la)=false)
   (Q:=fun c av=>av=st∧∃la a8,c=(none,la,a8)∧la<a8∧la≤hint∧f (hint-la)=false∧(a8≥hint+1∨f (hint-a8)=true)) ?_ ?_ ⟨rfl,0,1,rfl,aG _,by omega,by omega,by simpa using e⟩) ?_)
  ·rintro x c av _ hx ⟨rfl,la,a8,rfl,g1,g2,g3,g4⟩
   dsimp only;by_cases z:a8≥hint+1
   ·rw [aj z]
    exact ak ⟨rfl,la,a8,rfl,g2,g3,g4,.inl z⟩
   ·rw [ai z]
    refine ao (hb _ (by omega) _ ?_)
    dsimp only;cases e':f (hint-a8) with
    | true=>rw [aj rfl];exact ak ⟨rfl,la,a8,rfl,g2,g3,g4,.inr e'⟩
    | false=>
     rw [ai (by simp)]
     exact ak ⟨rfl,_,_,rfl,by omega,by omega,by omega,e'⟩
  ·rintro c av ⟨rfl,la,a8,rfl,g1,g2,g3,g4⟩
   have:max 0 n=n:=by omega
   exact ⟨rfl,la,a8,rfl,g2,g3,g4,.inl (by omega)⟩
  ·rintro c av ⟨rfl,la,a8,rfl,g2,g3,g4,g5⟩
   refine ao (bs (hint+1-min a8 (hint+1)) (hint-la) _ _ (by omega) (by omega) (fun i hi=>?_) (fun i h1 h2=>ud (hint-la) i (by omega) h2 g4) ?_ ?_ ?_)
   ·rcases g5 with g5 | g5
    ·omega
    ·by_cases z:a8≥hint+1
     ·omega
     ·exact mono i (hint-a8) (by omega) (by omega) g5
   ·intro x lo hi R z hR
    dsimp only;rw [aj z];exact ak hR
   ·intro x lo hi R z z2 hR
    dsimp only;rw [ai (by omega)]
    refine ao (hb _ (by omega) _ ?_)
    dsimp only;cases e:f (lo+(hi-lo) / 2) with
    | true=>rw [e,aj rfl] at hR;rw [aj rfl];exact ak hR
    | false=>
     rw [e,ai (by simp)] at hR
     rw [ai (by simp)]
     exact ak hR
   ·exact fun m m1 m2 m3=>ak (k m m1 m2 m3)
end
def aY(K:Keyed→Int)(l:List Keyed):Prop:=l.Pairwise fun x y=>K x≤K y
variable {K:Keyed→Int} {l:List Keyed}
theorem aY.take(h:aY K l)(k:Nat):aY K (l.take k):=List.Pairwise.sublist (List.take_sublist k l) h
theorem aY.drop(h:aY K l)(k:Nat):aY K (l.drop k):=List.Pairwise.sublist (List.drop_sublist k l) h
variable {m:List Keyed}
theorem aY.app(h:aY K l)(h':aY K m)(k:∀x∈l,∀y∈m,K x≤K y):aY K (l++m):=List.pairwise_append.mpr ⟨h,h',k⟩
structure MI (K:Keyed→Int) (A B O:List Keyed) (i j:Nat):Prop where
 pm:O.Perm (A.take i++B.take j)
 so:aY K O
 ca:∀x∈O,∀y∈A.drop i,K x≤K y
 cb:∀x∈O,∀y∈B.drop j,K x≤K y
variable {A B O:List Keyed} {i j:Nat}
theorem MI.flip(h:MI K A B O i j):MI K B A O j i:=⟨h.pm.trans pA,h.so,h.cb,h.ca⟩
theorem MI.qx(h:MI K A B O i j)(sA:aY K A)(k:Nat)(hk:∀x∈(A.drop i).take k,∀y∈B.drop j,K x≤K y):MI K A B (O++(A.drop i).take k) (i+k) j:=by
 have e:A.take (i+k)=A.take i++(A.drop i).take k:=List.take_add;have d:A.drop (i+k)=(A.drop i).drop k:=by rw [List.drop_drop]
 have sd:=sA.drop i;have sp:(A.drop i).take k++(A.drop i).drop k=A.drop i:=lq ..;have cr:∀x∈(A.drop i).take k,∀y∈(A.drop i).drop k,K x≤K y:=by have:=sd;rw [←sp] at this;exact (List.pairwise_append.mp this).2.2
 refine ⟨?_,h.so.app (sd.take k) fun x hx y hy=>h.ca x hx y (List.mem_of_mem_take hy),fun x hx y hy=>?_,fun x hx y hy=>?_⟩
 ·rw [e]
  refine (h.pm.append_right _).trans ?_;rw [d7,d7];exact sh _ pA
 ·rw [d] at hy
  rcases eQ.mp hx with hx | hx;·exact h.ca x hx y (List.mem_of_mem_drop hy)
  ·exact cr x hx y hy
 ·rcases eQ.mp hx with hx | hx
  ·exact h.cb x hx y hy
  ·exact hk x hx y hy
theorem MI.ue(h:MI K A B O i j)(sB:aY K B)(k:Nat)(hk:∀x∈(B.drop j).take k,∀y∈A.drop i,K x≤K y):MI K A B (O++(B.drop j).take k) i (j+k):=(h.flip.qx sB k hk).flip
theorem MI.done(h:MI K A B O i j)(sA:aY K A)(sB:aY K B)(k:∀x∈A.drop i,∀y∈B.drop j,K x≤K y):(O++A.drop i++B.drop j).Perm (A++B)∧aY K (O++A.drop i++B.drop j):=by
 refine ⟨?_,(h.so.app (sA.drop i) h.ca).app (sB.drop j) fun x hx y hy=>?_⟩
 ·have e1:A.take i++A.drop i=A:=lq ..
  have e2:B.take j++B.drop j=B:=lq ..;have:(A.take i++B.take j++A.drop i++B.drop j).Perm ((A.take i++A.drop i)++(B.take j++B.drop j)):=by rw [d7,d7,d7];refine sh _ ?_;rw [←d7,←d7];exact List.Perm.append_right _ pA
  rw [e1,e2] at this;exact ((h.pm.append_right _).append_right _).trans this
 ·rcases eQ.mp hx with hx | hx
  ·exact h.cb x hx y hy
  ·exact k x hx y hy
theorem MI.yH(h:MI K A B O i j)(sA:aY K A)(sB:aY K B)(k:∀x∈A.drop i,∀y∈B.drop j,K y≤K x):(O++B.drop j++A.drop i).Perm (A++B)∧aY K (O++B.drop j++A.drop i):=by have:=h.flip.done sB sA fun x hx y hy=>k y hy x hx;exact ⟨this.1.trans pA,this.2⟩
theorem DU(a b:Array Keyed):t_ a b=(do
 rule "list.sort.merge-lo"
 let total:=a.size+b.size
 let done (out:Array Keyed) (ia ib:Nat):=out++a.extract ia a.size++b.extract ib b.size
 let qy (out:Array Keyed) (ia ib:Nat):=out++b.extract ib b.size++a.extract ia a.size
 let mut out:Array Keyed:=#[←elem' b 0]
 let mut ia:=0
 let mut ib:=1
 if ib == b.size then return done out ia ib
 if ia+1 == a.size then return qy out ia ib
 let mut minGallop:=gallopOf (←get)
 for _ in [0:total] do
  let mut fI:=0
  let mut fJ:=0
  for _ in [0:total] do
   let some DV ←lt' (←elem' b ib) (←elem' a ia) | return done out ia ib
   if DV then
    out:=out.push (←elem' b ib);ib:=ib+1;fJ:=fJ+1;fI:=0
    if ib == b.size then return done out ia ib
    if fJ≥minGallop then break
   else
    out:=out.push (←elem' a ia);ia:=ia+1;fI:=fI+1;fJ:=0
    if ia+1 == a.size then return qy out ia ib
    if fI≥minGallop then break
  rule "list.sort.gallop"
  minGallop:=minGallop+1
  for _ in [0:total] do
   if minGallop>1 then minGallop:=minGallop-1
   oz minGallop
   let some k ←jj false (←elem' b ib) a ia (a.size-ia) 0 | return done out ia ib
   fI:=k
   if k>0 then
    out:=out++a.extract ia (ia+k);ia:=ia+k
    if ia+1 == a.size then return qy out ia ib
    if ia == a.size then return done out ia ib
   out:=out.push (←elem' b ib);ib:=ib+1
   if ib == b.size then return done out ia ib
   let some k ←jj true (←elem' a ia) b ib (b.size-ib) 0 | return done out ia ib
   fJ:=k
   if k>0 then
    out:=out++b.extract ib (ib+k);ib:=ib+k
    if ib == b.size then return done out ia ib
   out:=out.push (←elem' a ia);ia:=ia+1
   if ia+1 == a.size then return qy out ia ib
   if fI<7 && fJ<7 then break
  minGallop:=minGallop+1
  oz minGallop
 unsupported "internal:list.sort.merge-bound"):=rfl
section
variable {prog:Program} {w:World} {A:Around} {E:aE} {s:Shared} {κ:SortKind} {key:Keyed→Int} {Ok:Keyed→Prop}
def setG(st:SortSt)(g:Nat):SortSt:=SortSt.mk' (kindOf st) (arrOf st) (pendingOf st) g (failedOf st)
variable {a:Array Keyed}
theorem oC(hi:i<a.size):(a.toList.drop i).take 1=[a.getD i nn]:=by
 have hl:i<a.toList.length:=by simpa using hi
 rw [List.drop_eq_getElem_cons hl];simp [Array.getD,hi]
theorem f9(a:Array Keyed)(i j:Nat):(a.extract i j).toList=(a.toList.drop i).take (j-i):=by rw [Array.toList_extract,List.extract_eq_take_drop]
theorem qz(a:Array Keyed)(i:Nat):(a.extract i a.size).toList=a.toList.drop i:=by rw [f9];refine List.take_of_length_le ?_;simp
variable {x:Keyed}
theorem j8(h:x∈a.toList.drop i):∃j,i≤j∧j<a.size∧x=a.getD j nn:=by
 obtain ⟨j,hj,rfl⟩:=List.getElem_of_mem h;have dz:i+j<a.size:=by simp at hj;omega
 refine ⟨i+j,by omega,dz,?_⟩
 rw [List.getElem_drop];simp [Array.getD,dz]
theorem uf{k:Nat}(h:x∈(a.toList.drop i).take k):∃j,j<k∧i+j<a.size∧x=a.getD (i+j) nn:=by
 obtain ⟨j,hj,rfl⟩:=List.getElem_of_mem h;have dz:i+j<a.size∧j<k:=by simp at hj;omega
 refine ⟨j,dz.2,dz.1,?_⟩;rw [List.getElem_take,List.getElem_drop];simp [Array.getD,dz.1]
theorem dA(h:aY key a.toList)(yI:i≤j)(hj:j<a.size):key (a.getD i nn)≤key (a.getD j nn):=by
 have hi:i<a.size:=by omega
 by_cases e:i=j;·subst e;exact ip _
 ·have:=pC.mp h i j (by simpa using hi) (by simpa using hj) (by omega)
  simpa [Array.getD,hi,hj] using this
variable {st:SortSt}
theorem cV{c:Prop}[Decidable c]{α:Type}{m1 m2:StateT SortSt Sem α}{Q:α→SortSt→Prop}(h1:c→wpS (model prog w) A E s m1 Q st)(h2:¬c→wpS (model prog w) A E s m2 Q st):wpS (model prog w) A E s (if c then m1 else m2) Q st:=by
 by_cases h:c;·rw [aj h];exact h1 h
 ·rw [ai h];exact h2 h
theorem lT{g:Nat}{Q:Unit→SortSt→Prop}(q:Q () (setG st g)):wpS (model prog w) A E s (oz g) Q st:=gp q
variable {k:Int}
theorem eE{a:Int}(h:bB true k a=true):a<k:=dE h
theorem fc{a:Int}(h:bB true k a=false):k≤a:=Int.not_lt.mp (of_decide_eq_false h)
theorem hU{a:Int}(h:bB false k a=true):a≤k:=by have:(!decide (k<a))=true:=h;simpa using this
theorem jk{a:Int}(h:bB false k a=false):k<a:=by have:(!decide (k<a))=false:=h;simpa using this
variable {b:Array Keyed} {o:Nat}
theorem jl(sb:aY key b.toList):∀i j,i≤j→j<b.size-o→bB true k (key (b.getD (o+j) nn))=true→bB true k (key (b.getD (o+i) nn))=true:=fun i j h1 h2 h3=>aW (Int.lt_of_le_of_lt (dA sb (by omega) (by omega)) (eE h3))
theorem qA(sb:aY key b.toList):∀i j,i≤j→j<b.size-o→bB false k (key (b.getD (o+j) nn))=true→bB false k (key (b.getD (o+i) nn))=true:=fun i j h1 h2 h3=>by
 have:key (b.getD (o+i) nn)≤k:=cx (dA sb (by omega) (by omega)) (hU h3)
 show (!decide (k<key (b.getD (o+i) nn)))=true;simpa using this
section
variable {a b:Array Keyed} (sa:aY key a.toList) (sb:aY key b.toList) {out:Array Keyed} {ia ib:Nat}
include sa sb
theorem lU(m:MI key a.toList b.toList out.toList ia ib)(hb:ib<b.size)(k:∀j,ia≤j→j<a.size→key (b.getD ib nn)≤key (a.getD j nn)):MI key a.toList b.toList (out.push (b.getD ib nn)).toList ia (ib+1):=by
 have:=m.ue sb 1 fun x hx y hy=>by rw [oC hb,gm] at hx;subst hx;obtain ⟨j,h1,h2,rfl⟩:=j8 hy;exact k j h1 h2
 rw [oC hb] at this;rw [i4];exact this
theorem iI(m:MI key a.toList b.toList out.toList ia ib)(ha:ia<a.size)(k:∀j,ib≤j→j<b.size→key (a.getD ia nn)≤key (b.getD j nn)):MI key a.toList b.toList (out.push (a.getD ia nn)).toList (ia+1) ib:=by
 have:=m.qx sa 1 fun x hx y hy=>by rw [oC ha,gm] at hx;subst hx;obtain ⟨j,h1,h2,rfl⟩:=j8 hy;exact k j h1 h2
 rw [oC ha] at this;rw [i4];exact this
variable {n:Nat}
theorem yJ(m:MI key a.toList b.toList out.toList ia ib)(k:∀i j,i<n→ia+i<a.size→ib≤j→j<b.size→key (a.getD (ia+i) nn)≤key (b.getD j nn)):MI key a.toList b.toList (out++a.extract ia (ia+n)).toList (ia+n) ib:=by
 have:=m.qx sa n fun x hx y hy=>by obtain ⟨i,h3,h4,rfl⟩:=uf hx;obtain ⟨j,h1,h2,rfl⟩:=j8 hy;exact k i j h3 h4 h1 h2
 rw [gT,f9,show ia+n-ia=n by omega]
 exact this
theorem qB(m:MI key a.toList b.toList out.toList ia ib)(k:∀i j,i<n→ib+i<b.size→ia≤j→j<a.size→key (b.getD (ib+i) nn)≤key (a.getD j nn)):MI key a.toList b.toList (out++b.extract ib (ib+n)).toList ia (ib+n):=by
 have:=m.ue sb n fun x hx y hy=>by obtain ⟨i,h3,h4,rfl⟩:=uf hx;obtain ⟨j,h1,h2,rfl⟩:=j8 hy;exact k i j h3 h4 h1 h2
 rw [gT,f9,show ib+n-ib=n by omega]
 exact this
theorem f_(m:MI key a.toList b.toList out.toList ia ib)(e:ib=b.size∨ia=a.size):(out++a.extract ia a.size++b.extract ib b.size).toList.Perm (a.toList++b.toList)∧aY key (out++a.extract ia a.size++b.extract ib b.size).toList:=by rw [gT,gT,qz,qz];refine m.done sa sb fun x hx y hy=>?_;obtain ⟨i,h1,h2,_⟩:=j8 hx;obtain ⟨j,h3,h4,_⟩:=j8 hy;omega
theorem gb(m:MI key a.toList b.toList out.toList ia ib)(hl:∀y∈b.toList,key y≤key (a.getD (a.size-1) nn))(e:ia+1=a.size):(out++b.extract ib b.size++a.extract ia a.size).toList.Perm (a.toList++b.toList)∧aY key (out++b.extract ib b.size++a.extract ia a.size).toList:=by
 rw [gT,gT,qz,qz];refine m.yH sa sb fun x hx y hy=>?_;obtain ⟨i,h1,h2,rfl⟩:=j8 hx;have:=hl y (List.mem_of_mem_drop hy);rw [show i=a.size-1 by omega]
 exact this
end
theorem DW(h:fZ prog w A s κ key Ok)(oa:dh Ok a)(ob:dh Ok b)(sa:aY key a.toList)(sb:aY key b.toList)(a1:1≤a.size)(b1:1≤b.size)
  (h0:∀x∈a.toList,key (b.getD 0 nn)≤key x) (hl:∀y∈b.toList,key y≤key (a.getD (a.size-1) nn)) (hk:kindOf st=κ) {Q:Array Keyed→SortSt→Prop}
  (q:∀m g,m.toList.Perm (a.toList++b.toList)→aY key m.toList→Q m (setG st g)):wpS (model prog w) A E s (t_ a b) Q st:=by
 rw [DU];refine ao (wpS_lift (gU ⟨rfl,?_⟩));refine ao (a9 (by omega) ?_)
 dsimp only;have m0:MI key a.toList b.toList (#[b.getD 0 nn]:Array Keyed).toList 0 1:=by
  have:MI key a.toList b.toList (#[]:Array Keyed).toList 0 0:=⟨by simp,List.Pairwise.nil,fun x hx=>by simp at hx,fun x hx=>by simp at hx⟩
  exact lU sa sb this (by omega) fun j _ hj=>h0 _ (by simp [Array.getD,hj])
 have dJ:∀g,kindOf (setG st g)=κ:=fun _=>hk;by_cases e1:(1 == b.size)=true
 ·rw [aj e1]
  have:=f_ sa sb m0 (.inl (eq_of_beq e1));exact ak (q _ (gallopOf st) this.1 this.2)
 rw [ai e1];by_cases e2:(0+1 == a.size)=true
 ·rw [aj e2]
  have:=gb sa sb m0 hl (eq_of_beq e2);exact ak (q _ (gallopOf st) this.1 this.2)
 rw [ai e2];have b2:1<b.size:=by
  have:1≠b.size:=fun e=>e1 (by simp [←e])
  omega
 have a2:0+1<a.size:=by
  have:0+1≠a.size:=fun e=>e2 (by simp [←e])
  omega
 refine ao (fu ?_)
 refine ao (dD (dm (I:=fun x c av=>∃out ia ib mg g,c=(none,out,ia,ib,mg)∧av=setG st g∧MI key a.toList b.toList out.toList ia ib∧ia+1<a.size∧ib<b.size∧x≤ia+ib)
  (Q:=fun c av=>∃m g,c.1=some m∧av=setG st g∧m.toList.Perm (a.toList++b.toList)∧aY key m.toList) ?_ ?_ ⟨_,_,_,_,gallopOf st,rfl,rfl,m0,a2,b2,dj _⟩) ?_)
 ·rintro x c av _ hx ⟨out,ia,ib,mg,g,rfl,rfl,mi,ha,hb,ug⟩
  dsimp only
  refine ao (dD (dm (I:=fun y c av=>∃out dY eF ac bc,c=(none,out,dY,eF,ac,bc)∧av=setG st g∧MI key a.toList b.toList out.toList dY eF∧dY+1<a.size∧eF<b.size∧ia+ib+y≤dY+eF)
   (Q:=fun c av=>av=setG st g∧((∃m,c.1=some m∧m.toList.Perm (a.toList++b.toList)∧aY key m.toList)∨∃out dY eF ac bc,c=(none,out,dY,eF,ac,bc)∧MI key a.toList b.toList out.toList dY eF∧dY+1<a.size∧eF<b.size∧ia+ib+1≤dY+eF)) ?_ ?_ ⟨_,_,_,_,_,rfl,rfl,mi,ha,hb,aG _⟩) ?_)
  ·rintro y c av _ hy ⟨out,dY,eF,ac,bc,rfl,rfl,mi,ha,hb,eG⟩
   dsimp only;refine ao (a9 hb (ao (a9 (by omega) (ao (oB h (ob _ hb) (oa dY (by omega)) (dJ _) ?_)))))
   dsimp only;by_cases z:key (b.getD eF nn)<key (a.getD dY nn)
   ·rw [aW z,aj rfl]
    refine ao (a9 hb ?_);have eI:=lU sa sb mi hb fun j h1 h2=>cx (cf z) (dA sa h1 h2);by_cases z1:(eF+1 == b.size)=true
    ·rw [aj z1]
     exact ak ⟨rfl,.inl ⟨_,rfl,f_ sa sb eI (.inl (eq_of_beq z1))⟩⟩
    ·rw [ai z1]
     have qC:eF+1≠b.size:=fun e=>z1 (by simp [←e])
     by_cases z2:bc+1≥mg
     ·rw [aj z2]
      exact ak ⟨rfl,.inr ⟨_,_,_,_,_,rfl,eI,ha,by omega,by omega⟩⟩
     ·rw [ai z2]
      exact ak ⟨_,_,_,_,_,rfl,rfl,eI,ha,by omega,by omega⟩
   ·rw [bt z,ai (by simp)]
    refine ao (a9 (by omega) ?_)
    have eI:=iI sa sb mi (by omega) fun j h1 h2=>cx (Int.not_lt.mp z) (dA sb h1 h2)
    by_cases z1:(dY+1+1 == a.size)=true
    ·rw [aj z1]
     exact ak ⟨rfl,.inl ⟨_,rfl,gb sa sb eI hl (eq_of_beq z1)⟩⟩
    ·rw [ai z1]
     have qC:dY+1+1≠a.size:=fun e=>z1 (by simp [←e])
     by_cases z2:ac+1≥mg
     ·rw [aj z2]
      exact ak ⟨rfl,.inr ⟨_,_,_,_,_,rfl,eI,by omega,hb,by omega⟩⟩
     ·rw [ai z2]
      exact ak ⟨_,_,_,_,_,rfl,rfl,eI,by omega,hb,by omega⟩
  ·rintro c av ⟨out,dY,eF,ac,bc,rfl,rfl,mi,ha,hb,eG⟩
   exact ⟨rfl,.inr ⟨_,_,_,_,_,rfl,mi,ha,hb,by omega⟩⟩
  ·rintro c av ⟨rfl,⟨m,e,pm⟩ | ⟨out,dY,eF,ac,bc,rfl,mi,ha,hb,eG⟩⟩
   ·obtain ⟨c1,c2⟩:=c
    dsimp only at e;subst e;exact ak ⟨m,g,rfl,rfl,pm⟩
   ·dsimp only
    refine ao (wpS_lift (gU ⟨rfl,?_⟩))
    refine ao (dD (dm (I:=fun y c av=>∃out i j mg ac bc g,c=(none,out,i,j,mg,ac,bc)∧av=setG st g∧MI key a.toList b.toList out.toList i j∧i+1<a.size∧j<b.size∧x+1≤i+j)
     (Q:=fun c av=>(∃m g,c.1=some m∧av=setG st g∧m.toList.Perm (a.toList++b.toList)∧aY key m.toList)∨∃out i j mg ac bc g,c=(none,out,i,j,mg,ac,bc)∧av=setG st g∧MI key a.toList b.toList out.toList i j∧i+1<a.size∧j<b.size∧x+1≤i+j) ?_ ?_ ⟨_,_,_,_,_,_,g,rfl,rfl,mi,ha,hb,by omega⟩) ?_)
    ·clear mi ha hb eG
     rintro y c av _ hy ⟨out,ia,ib,mg,ac,bc,g,rfl,rfl,mi,ha,hb,eG⟩;dsimp only;rcases Nat.lt_or_ge 1 mg with zm | zm
     ·rw [aj zm]
      refine ao (lT ?_);refine ao (a9 hb (ao (fb (f:=fun i=>bB false (key (b.getD ib nn)) (key (a.getD (ia+i) nn))) (fun i hi Q q=>e_ h (by omega) oa (ob _ hb) (dJ _) q) (by omega) (qA sa) fun k k1 k2 k3=>?_)))
      dsimp only;by_cases zk:k>0
      ·rw [aj zk]
       have eJ:=yJ sa sb mi (n:=k) fun i j hi bw hj dz=>cx (hU (k2 i hi)) (dA sb hj dz);by_cases w1:(ia+k+1 == a.size)=true
       ·rw [aj w1]
        exact ak (.inl ⟨_,_,rfl,rfl,gb sa sb eJ hl (eq_of_beq w1)⟩)
       ·rw [ai w1]
        have uh:ia+k+1≠a.size:=fun e=>w1 (by simp [←e])
        by_cases w2:(ia+k == a.size)=true
        ·rw [aj w2]
         exact ak (.inl ⟨_,_,rfl,rfl,f_ sa sb eJ (.inr (eq_of_beq w2))⟩)
        ·rw [ai w2]
         have DX:ia+k≠a.size:=fun e=>w2 (by simp [←e])
         refine ao (a9 hb ?_);have bJ:=lU sa sb eJ hb fun j h1 h2=>by have:=jk (k3 (j-ia) (by omega) (by omega));rw [show ia+(j-ia)=j by omega] at this;exact cf this
         by_cases x1:(ib+1 == b.size)=true
         ·rw [aj x1]
          exact ak (.inl ⟨_,_,rfl,rfl,f_ sa sb bJ (.inl (eq_of_beq x1))⟩)
         ·rw [ai x1]
          have j9:ib+1≠b.size:=fun e=>x1 (by simp [←e])
          refine ao (a9 (by omega) (ao (fb (f:=fun i=>bB true (key (a.getD (ia+k) nn)) (key (b.getD (ib+1+i) nn))) (fun i hi Q q=>e_ h (by omega) ob (oa _ (by omega)) (dJ _) q) (by omega) (jl sb) fun k' q1 q2 q3=>?_)))
          dsimp only;by_cases cM:k'>0
          ·rw [aj cM]
           have cy:=qB sa sb bJ (n:=k') fun i j hi bw hj dz=>cx (cf (eE (q2 i hi))) (dA sa hj dz);by_cases x2:(ib+1+k' == b.size)=true
           ·rw [aj x2]
            exact ak (.inl ⟨_,_,rfl,rfl,f_ sa sb cy (.inl (eq_of_beq x2))⟩)
           ·rw [ai x2]
            have j_:ib+1+k'≠b.size:=fun e=>x2 (by simp [←e])
            refine ao (a9 (by omega) ?_)
            have aP:=iI sa sb cy (by omega) fun j h1 h2=>by have:=fc (q3 (j-(ib+1)) (by omega) (by omega));rwa [show ib+1+(j-(ib+1))=j by omega] at this
            by_cases y1:(ia+k+1+1 == a.size)=true
            ·rw [aj y1]
             exact ak (.inl ⟨_,_,rfl,rfl,gb sa sb aP hl (eq_of_beq y1)⟩)
            ·rw [ai y1]
             have eK:ia+k+1+1≠a.size:=fun e=>y1 (by simp [←e])
             exact cV (fun _=>ak (.inr ⟨_,_,_,_,_,_,_,rfl,rfl,aP,by omega,by omega,by omega⟩)) (fun _=>ak ⟨_,_,_,_,_,_,_,rfl,rfl,aP,by omega,by omega,by omega⟩)
          ·rw [ai cM]
           obtain rfl:k'=0:=by omega
           refine ao (a9 (by omega) ?_)
           have aP:=iI sa sb bJ (by omega) fun j h1 h2=>by have:=fc (q3 (j-(ib+1)) (by omega) (by omega));rwa [show ib+1+(j-(ib+1))=j by omega] at this
           by_cases y1:(ia+k+1+1 == a.size)=true
           ·rw [aj y1]
            exact ak (.inl ⟨_,_,rfl,rfl,gb sa sb aP hl (eq_of_beq y1)⟩)
           ·rw [ai y1]
            have eK:ia+k+1+1≠a.size:=fun e=>y1 (by simp [←e])
            exact cV (fun _=>ak (.inr ⟨_,_,_,_,_,_,_,rfl,rfl,aP,by omega,by omega,by omega⟩)) (fun _=>ak ⟨_,_,_,_,_,_,_,rfl,rfl,aP,by omega,by omega,by omega⟩)
      ·rw [ai zk]
       obtain rfl:k=0:=by omega
       refine ao (a9 hb ?_);have bJ:=lU sa sb mi hb fun j h1 h2=>by have:=jk (k3 (j-ia) (by omega) (by omega));rw [show ia+(j-ia)=j by omega] at this;exact cf this
       by_cases x1:(ib+1 == b.size)=true
       ·rw [aj x1]
        exact ak (.inl ⟨_,_,rfl,rfl,f_ sa sb bJ (.inl (eq_of_beq x1))⟩)
       ·rw [ai x1]
        have j9:ib+1≠b.size:=fun e=>x1 (by simp [←e])
        refine ao (a9 (by omega) (ao (fb (f:=fun i=>bB true (key (a.getD (ia) nn)) (key (b.getD (ib+1+i) nn))) (fun i hi Q q=>e_ h (by omega) ob (oa _ (by omega)) (dJ _) q) (by omega) (jl sb) fun k' q1 q2 q3=>?_)))
        dsimp only;by_cases cM:k'>0
        ·rw [aj cM]
         have cy:=qB sa sb bJ (n:=k') fun i j hi bw hj dz=>cx (cf (eE (q2 i hi))) (dA sa hj dz);by_cases x2:(ib+1+k' == b.size)=true
         ·rw [aj x2]
          exact ak (.inl ⟨_,_,rfl,rfl,f_ sa sb cy (.inl (eq_of_beq x2))⟩)
         ·rw [ai x2]
          have j_:ib+1+k'≠b.size:=fun e=>x2 (by simp [←e])
          refine ao (a9 (by omega) ?_)
          have aP:=iI sa sb cy (by omega) fun j h1 h2=>by have:=fc (q3 (j-(ib+1)) (by omega) (by omega));rwa [show ib+1+(j-(ib+1))=j by omega] at this
          by_cases y1:(ia+1+1 == a.size)=true
          ·rw [aj y1]
           exact ak (.inl ⟨_,_,rfl,rfl,gb sa sb aP hl (eq_of_beq y1)⟩)
          ·rw [ai y1]
           have eK:ia+1+1≠a.size:=fun e=>y1 (by simp [←e])
           exact cV (fun _=>ak (.inr ⟨_,_,_,_,_,_,_,rfl,rfl,aP,by omega,by omega,by omega⟩)) (fun _=>ak ⟨_,_,_,_,_,_,_,rfl,rfl,aP,by omega,by omega,by omega⟩)
        ·rw [ai cM]
         obtain rfl:k'=0:=by omega
         refine ao (a9 (by omega) ?_)
         have aP:=iI sa sb bJ (by omega) fun j h1 h2=>by have:=fc (q3 (j-(ib+1)) (by omega) (by omega));rwa [show ib+1+(j-(ib+1))=j by omega] at this
         by_cases y1:(ia+1+1 == a.size)=true
         ·rw [aj y1]
          exact ak (.inl ⟨_,_,rfl,rfl,gb sa sb aP hl (eq_of_beq y1)⟩)
         ·rw [ai y1]
          have eK:ia+1+1≠a.size:=fun e=>y1 (by simp [←e])
          exact cV (fun _=>ak (.inr ⟨_,_,_,_,_,_,_,rfl,rfl,aP,by omega,by omega,by omega⟩)) (fun _=>ak ⟨_,_,_,_,_,_,_,rfl,rfl,aP,by omega,by omega,by omega⟩)
     ·rw [ai (by omega)]
      refine ao (lT ?_);refine ao (a9 hb (ao (fb (f:=fun i=>bB false (key (b.getD ib nn)) (key (a.getD (ia+i) nn))) (fun i hi Q q=>e_ h (by omega) oa (ob _ hb) (dJ _) q) (by omega) (qA sa) fun k k1 k2 k3=>?_)))
      dsimp only;by_cases zk:k>0
      ·rw [aj zk]
       have eJ:=yJ sa sb mi (n:=k) fun i j hi bw hj dz=>cx (hU (k2 i hi)) (dA sb hj dz);by_cases w1:(ia+k+1 == a.size)=true
       ·rw [aj w1]
        exact ak (.inl ⟨_,_,rfl,rfl,gb sa sb eJ hl (eq_of_beq w1)⟩)
       ·rw [ai w1]
        have uh:ia+k+1≠a.size:=fun e=>w1 (by simp [←e])
        by_cases w2:(ia+k == a.size)=true
        ·rw [aj w2]
         exact ak (.inl ⟨_,_,rfl,rfl,f_ sa sb eJ (.inr (eq_of_beq w2))⟩)
        ·rw [ai w2]
         have DX:ia+k≠a.size:=fun e=>w2 (by simp [←e])
         refine ao (a9 hb ?_);have bJ:=lU sa sb eJ hb fun j h1 h2=>by have:=jk (k3 (j-ia) (by omega) (by omega));rw [show ia+(j-ia)=j by omega] at this;exact cf this
         by_cases x1:(ib+1 == b.size)=true
         ·rw [aj x1]
          exact ak (.inl ⟨_,_,rfl,rfl,f_ sa sb bJ (.inl (eq_of_beq x1))⟩)
         ·rw [ai x1]
          have j9:ib+1≠b.size:=fun e=>x1 (by simp [←e])
          refine ao (a9 (by omega) (ao (fb (f:=fun i=>bB true (key (a.getD (ia+k) nn)) (key (b.getD (ib+1+i) nn))) (fun i hi Q q=>e_ h (by omega) ob (oa _ (by omega)) (dJ _) q) (by omega) (jl sb) fun k' q1 q2 q3=>?_)))
          dsimp only;by_cases cM:k'>0
          ·rw [aj cM]
           have cy:=qB sa sb bJ (n:=k') fun i j hi bw hj dz=>cx (cf (eE (q2 i hi))) (dA sa hj dz);by_cases x2:(ib+1+k' == b.size)=true
           ·rw [aj x2]
            exact ak (.inl ⟨_,_,rfl,rfl,f_ sa sb cy (.inl (eq_of_beq x2))⟩)
           ·rw [ai x2]
            have j_:ib+1+k'≠b.size:=fun e=>x2 (by simp [←e])
            refine ao (a9 (by omega) ?_)
            have aP:=iI sa sb cy (by omega) fun j h1 h2=>by have:=fc (q3 (j-(ib+1)) (by omega) (by omega));rwa [show ib+1+(j-(ib+1))=j by omega] at this
            by_cases y1:(ia+k+1+1 == a.size)=true
            ·rw [aj y1]
             exact ak (.inl ⟨_,_,rfl,rfl,gb sa sb aP hl (eq_of_beq y1)⟩)
            ·rw [ai y1]
             have eK:ia+k+1+1≠a.size:=fun e=>y1 (by simp [←e])
             exact cV (fun _=>ak (.inr ⟨_,_,_,_,_,_,_,rfl,rfl,aP,by omega,by omega,by omega⟩)) (fun _=>ak ⟨_,_,_,_,_,_,_,rfl,rfl,aP,by omega,by omega,by omega⟩)
          ·rw [ai cM]
           obtain rfl:k'=0:=by omega
           refine ao (a9 (by omega) ?_)
           have aP:=iI sa sb bJ (by omega) fun j h1 h2=>by have:=fc (q3 (j-(ib+1)) (by omega) (by omega));rwa [show ib+1+(j-(ib+1))=j by omega] at this
           by_cases y1:(ia+k+1+1 == a.size)=true
           ·rw [aj y1]
            exact ak (.inl ⟨_,_,rfl,rfl,gb sa sb aP hl (eq_of_beq y1)⟩)
           ·rw [ai y1]
            have eK:ia+k+1+1≠a.size:=fun e=>y1 (by simp [←e])
            exact cV (fun _=>ak (.inr ⟨_,_,_,_,_,_,_,rfl,rfl,aP,by omega,by omega,by omega⟩)) (fun _=>ak ⟨_,_,_,_,_,_,_,rfl,rfl,aP,by omega,by omega,by omega⟩)
      ·rw [ai zk]
       obtain rfl:k=0:=by omega
       refine ao (a9 hb ?_);have bJ:=lU sa sb mi hb fun j h1 h2=>by have:=jk (k3 (j-ia) (by omega) (by omega));rw [show ia+(j-ia)=j by omega] at this;exact cf this
       by_cases x1:(ib+1 == b.size)=true
       ·rw [aj x1]
        exact ak (.inl ⟨_,_,rfl,rfl,f_ sa sb bJ (.inl (eq_of_beq x1))⟩)
       ·rw [ai x1]
        have j9:ib+1≠b.size:=fun e=>x1 (by simp [←e])
        refine ao (a9 (by omega) (ao (fb (f:=fun i=>bB true (key (a.getD (ia) nn)) (key (b.getD (ib+1+i) nn))) (fun i hi Q q=>e_ h (by omega) ob (oa _ (by omega)) (dJ _) q) (by omega) (jl sb) fun k' q1 q2 q3=>?_)))
        dsimp only;by_cases cM:k'>0
        ·rw [aj cM]
         have cy:=qB sa sb bJ (n:=k') fun i j hi bw hj dz=>cx (cf (eE (q2 i hi))) (dA sa hj dz);by_cases x2:(ib+1+k' == b.size)=true
         ·rw [aj x2]
          exact ak (.inl ⟨_,_,rfl,rfl,f_ sa sb cy (.inl (eq_of_beq x2))⟩)
         ·rw [ai x2]
          have j_:ib+1+k'≠b.size:=fun e=>x2 (by simp [←e])
          refine ao (a9 (by omega) ?_)
          have aP:=iI sa sb cy (by omega) fun j h1 h2=>by have:=fc (q3 (j-(ib+1)) (by omega) (by omega));rwa [show ib+1+(j-(ib+1))=j by omega] at this
          by_cases y1:(ia+1+1 == a.size)=true
          ·rw [aj y1]
           exact ak (.inl ⟨_,_,rfl,rfl,gb sa sb aP hl (eq_of_beq y1)⟩)
          ·rw [ai y1]
           have eK:ia+1+1≠a.size:=fun e=>y1 (by simp [←e])
           exact cV (fun _=>ak (.inr ⟨_,_,_,_,_,_,_,rfl,rfl,aP,by omega,by omega,by omega⟩)) (fun _=>ak ⟨_,_,_,_,_,_,_,rfl,rfl,aP,by omega,by omega,by omega⟩)
        ·rw [ai cM]
         obtain rfl:k'=0:=by omega
         refine ao (a9 (by omega) ?_)
         have aP:=iI sa sb bJ (by omega) fun j h1 h2=>by have:=fc (q3 (j-(ib+1)) (by omega) (by omega));rwa [show ib+1+(j-(ib+1))=j by omega] at this
         by_cases y1:(ia+1+1 == a.size)=true
         ·rw [aj y1]
          exact ak (.inl ⟨_,_,rfl,rfl,gb sa sb aP hl (eq_of_beq y1)⟩)
         ·rw [ai y1]
          have eK:ia+1+1≠a.size:=fun e=>y1 (by simp [←e])
          exact cV (fun _=>ak (.inr ⟨_,_,_,_,_,_,_,rfl,rfl,aP,by omega,by omega,by omega⟩)) (fun _=>ak ⟨_,_,_,_,_,_,_,rfl,rfl,aP,by omega,by omega,by omega⟩)
    ·rintro c av ⟨out,i,j,mg,ac,bc,g,rfl,rfl,mi,ha,hb,eG⟩
     exact .inr ⟨_,_,_,_,_,_,_,rfl,rfl,mi,ha,hb,eG⟩
    ·rintro c av (⟨m,g,e,rfl,pm⟩ | ⟨out,i,j,mg,ac,bc,g,rfl,rfl,mi,ha,hb,eG⟩)
     ·obtain ⟨c1,c2⟩:=c
      dsimp only at e;subst e;exact ak ⟨m,g,rfl,rfl,pm⟩
     ·dsimp only
      exact ao (lT (ak ⟨_,_,_,_,_,rfl,rfl,mi,ha,hb,by omega⟩))
 ·rintro c av ⟨out,ia,ib,mg,g,rfl,rfl,mi,ha,hb,ug⟩
  exfalso
  omega
 ·rintro c av ⟨m,g,e,rfl,pm,sm⟩
  obtain ⟨c1,c2⟩:=c;dsimp only at e;subst e;exact ak (q m g pm sm)
end
theorem DY(a b:Array Keyed):uc a b=(do
 rule "list.sort.merge-hi"
 let total:=a.size+b.size
 let done (out:Array Keyed) (na nb:Nat):=a.extract 0 na++b.extract 0 nb++out.reverse
 let qD (out:Array Keyed) (na nb:Nat):=b.extract 0 nb++a.extract 0 na++out.reverse
 let mut na:=a.size-1
 let mut nb:=b.size
 let mut out:Array Keyed:=#[←elem' a na]
 if na == 0 then return done out na nb
 if nb == 1 then return qD out na nb
 let mut minGallop:=gallopOf (←get)
 for _ in [0:total] do
  let mut fI:=0
  let mut fJ:=0
  for _ in [0:total] do
   let some DZ ←lt' (←elem' b (nb-1)) (←elem' a (na-1)) | return done out na nb
   if DZ then
    na:=na-1;out:=out.push (←elem' a na);fI:=fI+1;fJ:=0
    if na == 0 then return done out na nb
    if fI≥minGallop then break
   else
    nb:=nb-1;out:=out.push (←elem' b nb);fJ:=fJ+1;fI:=0
    if nb == 1 then return qD out na nb
    if fJ≥minGallop then break
  rule "list.sort.gallop"
  minGallop:=minGallop+1
  for _ in [0:total] do
   if minGallop>1 then minGallop:=minGallop-1
   oz minGallop
   let some at_ ←jj false (←elem' b (nb-1)) a 0 na (na-1) | return done out na nb
   let k:=na-at_
   fI:=k
   if k>0 then
    out:=out++(a.extract at_ na).reverse;na:=at_
    if na == 0 then return done out na nb
   nb:=nb-1;out:=out.push (←elem' b nb)
   if nb == 1 then return qD out na nb
   let some at_ ←jj true (←elem' a (na-1)) b 0 nb (nb-1) | return done out na nb
   let k:=nb-at_
   fJ:=k
   if k>0 then
    out:=out++(b.extract at_ nb).reverse;nb:=at_
    if nb == 1 then return qD out na nb
    if nb == 0 then return done out na nb
   na:=na-1;out:=out.push (←elem' a na)
   if na == 0 then return done out na nb
   if fI<7 && fJ<7 then break
  minGallop:=minGallop+1
  oz minGallop
 unsupported "internal:list.sort.merge-bound"):=rfl
section
variable {key:Keyed→Int}
theorem lV(h:aY key l):aY (fun x=>-key x) l.reverse:=by unfold aY;rw [List.pairwise_reverse];exact List.Pairwise.imp (fun h=>Int.neg_le_neg h) h
theorem yK(h:aY (fun x=>-key x) l):aY key l.reverse:=by unfold aY;rw [List.pairwise_reverse];exact List.Pairwise.imp (fun h=>Int.le_of_neg_le_neg h) h
variable {a:Array Keyed} {n:Nat}
theorem gH(h:n≤a.size):a.toList.reverse.drop (a.size-n)=(a.extract 0 n).toList.reverse:=by rw [List.drop_reverse,f9,List.drop_zero,Nat.sub_zero,fN,show a.size-(a.size-n)=n by omega]
theorem qE{m:Nat}(h:n≤a.size)(hm:m≤n):(a.toList.reverse.drop (a.size-n)).take (n-m)=(a.extract m n).reverse.toList:=by rw [gH h,pD,f9,f9,List.drop_zero,Nat.sub_zero,List.take_reverse,nh,fN,show min n a.size-(n-m)=m by omega,List.drop_take]
theorem iJ{m:Nat}(h:n≤a.size){x:Keyed}(hx:x∈(a.extract m n).toList):∃j,m≤j∧j<n∧x=a.getD j nn:=by rw [f9] at hx;obtain ⟨j,h1,h2,rfl⟩:=uf hx;exact ⟨m+j,by omega,by omega,rfl⟩
theorem yL(h:n≤a.size)(h1:1≤n):(a.extract (n-1) n).reverse.toList=[a.getD (n-1) nn]:=by
 rw [pD,f9,show n-(n-1)=1 by omega,oC (by omega)]
 rfl
def MH(key:Keyed→Int)(a b out:Array Keyed)(na nb:Nat):Prop:=MI (fun x=>-key x) a.toList.reverse b.toList.reverse out.toList (a.size-na) (b.size-nb)∧na≤a.size∧nb≤b.size
variable {a b:Array Keyed} (sa:aY key a.toList) (sb:aY key b.toList) {out:Array Keyed} {na nb:Nat}
include sa sb
variable {k:Nat}
theorem ui(m:MH key a b out na nb)(hk:k≤na)(c:∀i j,k≤i→i<na→j<nb→key (b.getD j nn)≤key (a.getD i nn)):MH key a b (out++(a.extract k na).reverse) k nb:=by
 obtain ⟨m,ha,hb⟩:=m;refine ⟨?_,by omega,hb⟩
 have:=m.qx (lV sa) (na-k) fun x hx y hy=>by rw [qE ha hk,pD,i5] at hx;rw [gH hb,i5] at hy;obtain ⟨i,i1,i2,rfl⟩:=iJ ha hx;obtain ⟨j,j1,j2,rfl⟩:=iJ hb hy;have:=c i j i1 i2 j2;omega
 rw [qE ha hk,show a.size-na+(na-k)=a.size-k by omega] at this
 rw [gT];exact this
theorem oD(m:MH key a b out na nb)(hk:k≤nb)(c:∀i j,k≤i→i<nb→j<na→key (a.getD j nn)≤key (b.getD i nn)):MH key a b (out++(b.extract k nb).reverse) na k:=by
 obtain ⟨m,ha,hb⟩:=m;refine ⟨?_,ha,by omega⟩
 have:=m.ue (lV sb) (nb-k) fun x hx y hy=>by rw [qE hb hk,pD,i5] at hx;rw [gH ha,i5] at hy;obtain ⟨i,i1,i2,rfl⟩:=iJ hb hx;obtain ⟨j,j1,j2,rfl⟩:=iJ ha hy;have:=c i j i1 i2 j2;omega
 rw [qE hb hk,show b.size-nb+(nb-k)=b.size-k by omega] at this
 rw [gT];exact this
theorem hV(m:MH key a b out na nb)(h1:1≤na)(c:∀j,j<nb→key (b.getD j nn)≤key (a.getD (na-1) nn)):MH key a b (out.push (a.getD (na-1) nn)) (na-1) nb:=by
 have:=ui sa sb m (k:=na-1) (by omega) fun i j i1 i2 j1=>by
  rw [show i=na-1 by omega]
  exact c j j1
 have e:out++(a.extract (na-1) na).reverse=out.push (a.getD (na-1) nn):=by apply Array.toList_inj.mp;rw [gT,yL m.2.1 h1,i4]
 rw [e] at this;exact this
theorem oE(m:MH key a b out na nb)(h1:1≤nb)(c:∀j,j<na→key (a.getD j nn)≤key (b.getD (nb-1) nn)):MH key a b (out.push (b.getD (nb-1) nn)) na (nb-1):=by
 have:=oD sa sb m (k:=nb-1) (by omega) fun i j i1 i2 j1=>by
  rw [show i=nb-1 by omega]
  exact c j j1
 have e:out++(b.extract (nb-1) nb).reverse=out.push (b.getD (nb-1) nn):=by apply Array.toList_inj.mp;rw [gT,yL m.2.2 h1,i4]
 rw [e] at this;exact this
theorem dZ(m:MH key a b out na nb)(e:na=0∨nb=0):(a.extract 0 na++b.extract 0 nb++out.reverse).toList.Perm (a.toList++b.toList)∧aY key (a.extract 0 na++b.extract 0 nb++out.reverse).toList:=by
 obtain ⟨m,ha,hb⟩:=m;have:=m.yH (lV sa) (lV sb) fun x hx y hy=>by rw [gH ha,i5] at hx;rw [gH hb,i5] at hy;obtain ⟨i,i1,i2,_⟩:=iJ ha hx;obtain ⟨j,j1,j2,_⟩:=iJ hb hy;omega
 rw [gH ha,gH hb] at this;have er:(a.extract 0 na++b.extract 0 nb++out.reverse).toList=(out.toList++(b.extract 0 nb).toList.reverse++(a.extract 0 na).toList.reverse).reverse:=by simp
 rw [er];refine ⟨(lr _).trans (this.1.trans ?_),yK this.2⟩;exact (lr _).append (lr _)
theorem hW(m:MH key a b out na nb)(h0:∀x∈a.toList,key (b.getD 0 nn)≤key x)(e:nb=1):(b.extract 0 nb++a.extract 0 na++out.reverse).toList.Perm (a.toList++b.toList)∧aY key (b.extract 0 nb++a.extract 0 na++out.reverse).toList:=by
 obtain ⟨m,ha,hb⟩:=m;have:=m.done (lV sa) (lV sb) fun x hx y hy=>by
  rw [gH ha,i5] at hx;rw [gH hb,i5] at hy;obtain ⟨i,i1,i2,rfl⟩:=iJ ha hx;obtain ⟨j,j1,j2,rfl⟩:=iJ hb hy;have:=h0 (a.getD i nn) (by simp [Array.getD,show i<a.size by omega])
  rw [show j=0 by omega]
  omega
 rw [gH ha,gH hb] at this;have er:(b.extract 0 nb++a.extract 0 na++out.reverse).toList=(out.toList++(a.extract 0 na).toList.reverse++(b.extract 0 nb).toList.reverse).reverse:=by simp
 rw [er];refine ⟨(lr _).trans (this.1.trans ?_),yK this.2⟩;exact (lr _).append (lr _)
end
section
variable {prog:Program} {w:World} {A:Around} {E:aE} {s:Shared} {κ:SortKind} {key:Keyed→Int} {Ok:Keyed→Prop}
theorem D3(h:fZ prog w A s κ key Ok){a b:Array Keyed}(oa:dh Ok a)(ob:dh Ok b)(sa:aY key a.toList)(sb:aY key b.toList)(a1:1≤a.size)(b1:1≤b.size)
  (h0:∀x∈a.toList,key (b.getD 0 nn)≤key x) (hl:∀y∈b.toList,key y≤key (a.getD (a.size-1) nn)) {st:SortSt} (hk:kindOf st=κ) {Q:Array Keyed→SortSt→Prop}
  (q:∀m g,m.toList.Perm (a.toList++b.toList)→aY key m.toList→Q m (setG st g)):wpS (model prog w) A E s (uc a b) Q st:=by
 rw [DY];refine ao (wpS_lift (gU ⟨rfl,?_⟩));refine ao (a9 (by omega) ?_)
 dsimp only;have m0:MH key a b (#[a.getD (a.size-1) nn]:Array Keyed) (a.size-1) b.size:=by
  have:MH key a b (#[]:Array Keyed) a.size b.size:=⟨⟨by simp,List.Pairwise.nil,fun x hx=>by simp at hx,fun x hx=>by simp at hx⟩,aG _,aG _⟩
  exact hV sa sb this a1 fun j hj=>hl _ (by simp [Array.getD,hj])
 have dJ:∀g,kindOf (setG st g)=κ:=fun _=>hk;by_cases e1:(a.size-1 == 0)=true
 ·rw [aj e1]
  have:=dZ sa sb m0 (.inl (eq_of_beq e1));exact ak (q _ (gallopOf st) this.1 this.2)
 rw [ai e1];by_cases e2:(b.size == 1)=true
 ·rw [aj e2]
  have:=hW sa sb m0 h0 (eq_of_beq e2);exact ak (q _ (gallopOf st) this.1 this.2)
 rw [ai e2];have a2:1≤a.size-1:=by
  have:a.size-1≠0:=fun e=>e1 (by simp [e])
  omega
 have b2:2≤b.size:=by
  have:b.size≠1:=fun e=>e2 (by simp [e])
  omega
 refine ao (fu ?_)
 refine ao (dD (dm (I:=fun x c av=>∃(out:Array Keyed) (na nb mg g:Nat),c=(none,na,nb,out,mg)∧av=setG st g∧MH key a b out na nb∧1≤na∧2≤nb∧x+na+nb≤a.size+b.size)
  (Q:=fun c av=>∃(m:Array Keyed) (g:Nat),c.1=some m∧av=setG st g∧m.toList.Perm (a.toList++b.toList)∧aY key m.toList) ?_ ?_ ⟨_,a.size-1,b.size,_,gallopOf st,rfl,rfl,m0,a2,b2,show 0+(a.size-1)+b.size≤a.size+b.size by omega⟩) ?_)
 ·rintro x c av _ hx ⟨out,na,nb,mg,g,rfl,rfl,mi,ha,hb,ug⟩
  dsimp only
  refine ao (dD (dm (I:=fun y c av=>∃(out:Array Keyed) (a7 bC ac bc:Nat),c=(none,a7,bC,out,ac,bc)∧av=setG st g∧MH key a b out a7 bC∧1≤a7∧2≤bC∧y+a7+bC≤na+nb)
   (Q:=fun c av=>av=setG st g∧((∃m:Array Keyed,c.1=some m∧m.toList.Perm (a.toList++b.toList)∧aY key m.toList)∨∃(out:Array Keyed) (a7 bC ac bc:Nat),c=(none,a7,bC,out,ac,bc)∧MH key a b out a7 bC∧1≤a7∧2≤bC∧1+a7+bC≤na+nb)) ?_ ?_ ⟨_,na,nb,_,_,rfl,rfl,mi,ha,hb,show 0+na+nb≤na+nb by omega⟩) ?_)
  ·rintro y c av _ hy ⟨out,a7,bC,ac,bc,rfl,rfl,mi,ha,hb,eG⟩
   have D4:=mi.2.1;have jX:=mi.2.2;dsimp only;refine ao (a9 (by omega) (ao (a9 (by omega) (ao (oB h (ob (bC-1) (by omega)) (oa (a7-1) (by omega)) (dJ _) ?_)))))
   dsimp only;by_cases z:key (b.getD (bC-1) nn)<key (a.getD (a7-1) nn)
   ·rw [aW z,aj rfl]
    refine ao (a9 (by omega) ?_)
    have eI:=hV sa sb mi ha fun j hj=>cx (dA sb (by omega) (by omega)) (cf z)
    by_cases z1:(a7-1 == 0)=true
    ·rw [aj z1]
     exact ak ⟨rfl,.inl ⟨_,rfl,dZ sa sb eI (.inl (eq_of_beq z1))⟩⟩
    ·rw [ai z1]
     have qC:a7-1≠0:=fun e=>z1 (by simp [e])
     exact cV (fun _=>ak ⟨rfl,.inr ⟨_,_,_,_,_,rfl,eI,by omega,hb,by omega⟩⟩) (fun _=>ak ⟨_,_,_,_,_,rfl,rfl,eI,by omega,hb,by omega⟩)
   ·rw [bt z,ai (by simp)]
    refine ao (a9 (by omega) ?_)
    have eI:=oE sa sb mi (by omega) fun j hj=>cx (dA sa (by omega) (by omega)) (Int.not_lt.mp z)
    by_cases z1:(bC-1 == 1)=true
    ·rw [aj z1]
     exact ak ⟨rfl,.inl ⟨_,rfl,hW sa sb eI h0 (eq_of_beq z1)⟩⟩
    ·rw [ai z1]
     have qC:bC-1≠1:=fun e=>z1 (by simp [e])
     exact cV (fun _=>ak ⟨rfl,.inr ⟨_,_,_,_,_,rfl,eI,ha,by omega,by omega⟩⟩) (fun _=>ak ⟨_,_,_,_,_,rfl,rfl,eI,ha,by omega,by omega⟩)
  ·rintro c av ⟨out,a7,bC,ac,bc,rfl,rfl,mi,ha,hb,eG⟩
   exact ⟨rfl,.inr ⟨_,_,_,_,_,rfl,mi,ha,hb,by omega⟩⟩
  ·rintro c av ⟨rfl,⟨m,e,pm⟩ | ⟨out,a7,bC,ac,bc,rfl,mi,ha,hb,eG⟩⟩
   ·obtain ⟨c1,c2⟩:=c
    dsimp only at e;subst e;exact ak ⟨m,g,rfl,rfl,pm⟩
   ·dsimp only
    refine ao (wpS_lift (gU ⟨rfl,?_⟩))
    refine ao (dD (dm (I:=fun y c av=>∃(out:Array Keyed) (i j mg ac bc g:Nat),c=(none,i,j,out,mg,ac,bc)∧av=setG st g∧MH key a b out i j∧1≤i∧2≤j∧x+1+i+j≤a.size+b.size)
     (Q:=fun c av=>(∃(m:Array Keyed) (g:Nat),c.1=some m∧av=setG st g∧m.toList.Perm (a.toList++b.toList)∧aY key m.toList)∨∃(out:Array Keyed) (i j mg ac bc g:Nat),c=(none,i,j,out,mg,ac,bc)∧av=setG st g∧MH key a b out i j∧1≤i∧2≤j∧x+1+i+j≤a.size+b.size) ?_ ?_ ⟨_,a7,bC,_,_,_,g,rfl,rfl,mi,ha,hb,by omega⟩) ?_)
    ·clear mi ha hb eG
     rintro y c av _ hy ⟨out,na,nb,mg,ac,bc,g,rfl,rfl,mi,ha,hb,eG⟩;have D4:=mi.2.1;have jX:=mi.2.2;dsimp only;rcases Nat.lt_or_ge 1 mg with zm | zm
     ·rw [aj zm]
      refine ao (lT ?_);refine ao (a9 (by omega) (ao (fb (f:=fun i=>bB false (key (b.getD (nb-1) nn)) (key (a.getD (0+i) nn))) (fun i hi Q q=>e_ h (by omega) oa (ob _ (by omega)) (dJ _) q) (by omega) (fun i j h1 h2 h3=>qA sa (o:=0) i j h1 (by omega) h3) fun k k1 k2 k3=>?_)))
      dsimp only;by_cases zk:na-k>0
      ·rw [aj zk]
       have eJ:=ui sa sb mi (k:=k) k1 fun i j hi bw hj=>by have:=jk (k3 i hi bw);rw [dn] at this;exact cx (dA sb (by omega) (by omega)) (cf this)
       by_cases w1:(k == 0)=true
       ·rw [aj w1]
        exact ak (.inl ⟨_,_,rfl,rfl,dZ sa sb eJ (.inl (eq_of_beq w1))⟩)
       ·rw [ai w1]
        have uh:k≠0:=fun e=>w1 (by simp [e])
        refine ao (a9 (by have:=eJ.2.2;omega) ?_)
        have bJ:=oE sa sb eJ (by omega) fun j h1=>by have:=hU (k2 j h1);rw [dn] at this;exact this
        by_cases x1:(nb-1 == 1)=true
        ·rw [aj x1]
         exact ak (.inl ⟨_,_,rfl,rfl,hW sa sb bJ h0 (eq_of_beq x1)⟩)
        ·rw [ai x1]
         have j9:nb-1≠1:=fun e=>x1 (by simp [e])
         have jX:=bJ.2.2;refine ao (a9 (by omega) (ao (fb (f:=fun i=>bB true (key (a.getD (k-1) nn)) (key (b.getD (0+i) nn))) (fun i hi Q q=>e_ h (by omega) ob (oa _ (by omega)) (dJ _) q) (by omega) (fun i j h1 h2 h3=>jl sb (o:=0) i j h1 (by omega) h3) fun k' q1 q2 q3=>?_)))
         dsimp only;by_cases cM:nb-1-k'>0
         ·rw [aj cM]
          have cy:=oD sa sb bJ (k:=k') q1 fun i j hi bw hj=>by have:=fc (q3 i hi bw);rw [dn] at this;exact cx (dA sa (by omega) (by omega)) this
          by_cases x2:(k' == 1)=true
          ·rw [aj x2]
           exact ak (.inl ⟨_,_,rfl,rfl,hW sa sb cy h0 (eq_of_beq x2)⟩)
          ·rw [ai x2]
           have j_:k'≠1:=fun e=>x2 (by simp [e])
           by_cases x3:(k' == 0)=true
           ·rw [aj x3]
            exact ak (.inl ⟨_,_,rfl,rfl,dZ sa sb cy (.inr (eq_of_beq x3))⟩)
           ·rw [ai x3]
            have uj:k'≠0:=fun e=>x3 (by simp [e])
            refine ao (a9 (by omega) ?_)
            have aP:=hV sa sb cy (by omega) fun j h1=>by have:=eE (q2 j h1);rw [dn] at this;exact cf this
            by_cases y1:(k-1 == 0)=true
            ·rw [aj y1]
             exact ak (.inl ⟨_,_,rfl,rfl,dZ sa sb aP (.inl (eq_of_beq y1))⟩)
            ·rw [ai y1]
             have eK:k-1≠0:=fun e=>y1 (by simp [e])
             exact cV (fun _=>ak (.inr ⟨_,_,_,_,_,_,_,rfl,rfl,aP,by omega,by omega,by omega⟩)) (fun _=>ak ⟨_,_,_,_,_,_,_,rfl,rfl,aP,by omega,by omega,by omega⟩)
         ·rw [ai cM]
          obtain rfl:k'=nb-1:=by omega
          refine ao (a9 (by omega) ?_)
          have aP:=hV sa sb bJ (by omega) fun j h1=>by have:=eE (q2 j h1);rw [dn] at this;exact cf this
          by_cases y1:(k-1 == 0)=true
          ·rw [aj y1]
           exact ak (.inl ⟨_,_,rfl,rfl,dZ sa sb aP (.inl (eq_of_beq y1))⟩)
          ·rw [ai y1]
           have eK:k-1≠0:=fun e=>y1 (by simp [e])
           exact cV (fun _=>ak (.inr ⟨_,_,_,_,_,_,_,rfl,rfl,aP,by omega,by omega,by omega⟩)) (fun _=>ak ⟨_,_,_,_,_,_,_,rfl,rfl,aP,by omega,by omega,by omega⟩)
      ·rw [ai zk]
       obtain rfl:k=na:=by omega
       refine ao (a9 (by have:=mi.2.2;omega) ?_)
       have bJ:=oE sa sb mi (by omega) fun j h1=>by have:=hU (k2 j h1);rw [dn] at this;exact this
       by_cases x1:(nb-1 == 1)=true
       ·rw [aj x1]
        exact ak (.inl ⟨_,_,rfl,rfl,hW sa sb bJ h0 (eq_of_beq x1)⟩)
       ·rw [ai x1]
        have j9:nb-1≠1:=fun e=>x1 (by simp [e])
        have jX:=bJ.2.2;refine ao (a9 (by omega) (ao (fb (f:=fun i=>bB true (key (a.getD (k-1) nn)) (key (b.getD (0+i) nn))) (fun i hi Q q=>e_ h (by omega) ob (oa _ (by omega)) (dJ _) q) (by omega) (fun i j h1 h2 h3=>jl sb (o:=0) i j h1 (by omega) h3) fun k' q1 q2 q3=>?_)))
        dsimp only;by_cases cM:nb-1-k'>0
        ·rw [aj cM]
         have cy:=oD sa sb bJ (k:=k') q1 fun i j hi bw hj=>by have:=fc (q3 i hi bw);rw [dn] at this;exact cx (dA sa (by omega) (by omega)) this
         by_cases x2:(k' == 1)=true
         ·rw [aj x2]
          exact ak (.inl ⟨_,_,rfl,rfl,hW sa sb cy h0 (eq_of_beq x2)⟩)
         ·rw [ai x2]
          have j_:k'≠1:=fun e=>x2 (by simp [e])
          by_cases x3:(k' == 0)=true
          ·rw [aj x3]
           exact ak (.inl ⟨_,_,rfl,rfl,dZ sa sb cy (.inr (eq_of_beq x3))⟩)
          ·rw [ai x3]
           have uj:k'≠0:=fun e=>x3 (by simp [e])
           refine ao (a9 (by omega) ?_)
           have aP:=hV sa sb cy (by omega) fun j h1=>by have:=eE (q2 j h1);rw [dn] at this;exact cf this
           by_cases y1:(k-1 == 0)=true
           ·rw [aj y1]
            exact ak (.inl ⟨_,_,rfl,rfl,dZ sa sb aP (.inl (eq_of_beq y1))⟩)
           ·rw [ai y1]
            have eK:k-1≠0:=fun e=>y1 (by simp [e])
            exact cV (fun _=>ak (.inr ⟨_,_,_,_,_,_,_,rfl,rfl,aP,by omega,by omega,by omega⟩)) (fun _=>ak ⟨_,_,_,_,_,_,_,rfl,rfl,aP,by omega,by omega,by omega⟩)
        ·rw [ai cM]
         obtain rfl:k'=nb-1:=by omega
         refine ao (a9 (by omega) ?_)
         have aP:=hV sa sb bJ (by omega) fun j h1=>by have:=eE (q2 j h1);rw [dn] at this;exact cf this
         by_cases y1:(k-1 == 0)=true
         ·rw [aj y1]
          exact ak (.inl ⟨_,_,rfl,rfl,dZ sa sb aP (.inl (eq_of_beq y1))⟩)
         ·rw [ai y1]
          have eK:k-1≠0:=fun e=>y1 (by simp [e])
          exact cV (fun _=>ak (.inr ⟨_,_,_,_,_,_,_,rfl,rfl,aP,by omega,by omega,by omega⟩)) (fun _=>ak ⟨_,_,_,_,_,_,_,rfl,rfl,aP,by omega,by omega,by omega⟩)
     ·rw [ai (by omega)]
      refine ao (lT ?_);refine ao (a9 (by omega) (ao (fb (f:=fun i=>bB false (key (b.getD (nb-1) nn)) (key (a.getD (0+i) nn))) (fun i hi Q q=>e_ h (by omega) oa (ob _ (by omega)) (dJ _) q) (by omega) (fun i j h1 h2 h3=>qA sa (o:=0) i j h1 (by omega) h3) fun k k1 k2 k3=>?_)))
      dsimp only;by_cases zk:na-k>0
      ·rw [aj zk]
       have eJ:=ui sa sb mi (k:=k) k1 fun i j hi bw hj=>by have:=jk (k3 i hi bw);rw [dn] at this;exact cx (dA sb (by omega) (by omega)) (cf this)
       by_cases w1:(k == 0)=true
       ·rw [aj w1]
        exact ak (.inl ⟨_,_,rfl,rfl,dZ sa sb eJ (.inl (eq_of_beq w1))⟩)
       ·rw [ai w1]
        have uh:k≠0:=fun e=>w1 (by simp [e])
        refine ao (a9 (by have:=eJ.2.2;omega) ?_)
        have bJ:=oE sa sb eJ (by omega) fun j h1=>by have:=hU (k2 j h1);rw [dn] at this;exact this
        by_cases x1:(nb-1 == 1)=true
        ·rw [aj x1]
         exact ak (.inl ⟨_,_,rfl,rfl,hW sa sb bJ h0 (eq_of_beq x1)⟩)
        ·rw [ai x1]
         have j9:nb-1≠1:=fun e=>x1 (by simp [e])
         have jX:=bJ.2.2;refine ao (a9 (by omega) (ao (fb (f:=fun i=>bB true (key (a.getD (k-1) nn)) (key (b.getD (0+i) nn))) (fun i hi Q q=>e_ h (by omega) ob (oa _ (by omega)) (dJ _) q) (by omega) (fun i j h1 h2 h3=>jl sb (o:=0) i j h1 (by omega) h3) fun k' q1 q2 q3=>?_)))
         dsimp only;by_cases cM:nb-1-k'>0
         ·rw [aj cM]
          have cy:=oD sa sb bJ (k:=k') q1 fun i j hi bw hj=>by have:=fc (q3 i hi bw);rw [dn] at this;exact cx (dA sa (by omega) (by omega)) this
          by_cases x2:(k' == 1)=true
          ·rw [aj x2]
           exact ak (.inl ⟨_,_,rfl,rfl,hW sa sb cy h0 (eq_of_beq x2)⟩)
          ·rw [ai x2]
           have j_:k'≠1:=fun e=>x2 (by simp [e])
           by_cases x3:(k' == 0)=true
           ·rw [aj x3]
            exact ak (.inl ⟨_,_,rfl,rfl,dZ sa sb cy (.inr (eq_of_beq x3))⟩)
           ·rw [ai x3]
            have uj:k'≠0:=fun e=>x3 (by simp [e])
            refine ao (a9 (by omega) ?_)
            have aP:=hV sa sb cy (by omega) fun j h1=>by have:=eE (q2 j h1);rw [dn] at this;exact cf this
            by_cases y1:(k-1 == 0)=true
            ·rw [aj y1]
             exact ak (.inl ⟨_,_,rfl,rfl,dZ sa sb aP (.inl (eq_of_beq y1))⟩)
            ·rw [ai y1]
             have eK:k-1≠0:=fun e=>y1 (by simp [e])
             exact cV (fun _=>ak (.inr ⟨_,_,_,_,_,_,_,rfl,rfl,aP,by omega,by omega,by omega⟩)) (fun _=>ak ⟨_,_,_,_,_,_,_,rfl,rfl,aP,by omega,by omega,by omega⟩)
         ·rw [ai cM]
          obtain rfl:k'=nb-1:=by omega
          refine ao (a9 (by omega) ?_)
          have aP:=hV sa sb bJ (by omega) fun j h1=>by have:=eE (q2 j h1);rw [dn] at this;exact cf this
          by_cases y1:(k-1 == 0)=true
          ·rw [aj y1]
           exact ak (.inl ⟨_,_,rfl,rfl,dZ sa sb aP (.inl (eq_of_beq y1))⟩)
          ·rw [ai y1]
           have eK:k-1≠0:=fun e=>y1 (by simp [e])
           exact cV (fun _=>ak (.inr ⟨_,_,_,_,_,_,_,rfl,rfl,aP,by omega,by omega,by omega⟩)) (fun _=>ak ⟨_,_,_,_,_,_,_,rfl,rfl,aP,by omega,by omega,by omega⟩)
      ·rw [ai zk]
       obtain rfl:k=na:=by omega
       refine ao (a9 (by have:=mi.2.2;omega) ?_)
       have bJ:=oE sa sb mi (by omega) fun j h1=>by have:=hU (k2 j h1);rw [dn] at this;exact this
       by_cases x1:(nb-1 == 1)=true
       ·rw [aj x1]
        exact ak (.inl ⟨_,_,rfl,rfl,hW sa sb bJ h0 (eq_of_beq x1)⟩)
       ·rw [ai x1]
        have j9:nb-1≠1:=fun e=>x1 (by simp [e])
        have jX:=bJ.2.2;refine ao (a9 (by omega) (ao (fb (f:=fun i=>bB true (key (a.getD (k-1) nn)) (key (b.getD (0+i) nn))) (fun i hi Q q=>e_ h (by omega) ob (oa _ (by omega)) (dJ _) q) (by omega) (fun i j h1 h2 h3=>jl sb (o:=0) i j h1 (by omega) h3) fun k' q1 q2 q3=>?_)))
        dsimp only;by_cases cM:nb-1-k'>0
        ·rw [aj cM]
         have cy:=oD sa sb bJ (k:=k') q1 fun i j hi bw hj=>by have:=fc (q3 i hi bw);rw [dn] at this;exact cx (dA sa (by omega) (by omega)) this
         by_cases x2:(k' == 1)=true
         ·rw [aj x2]
          exact ak (.inl ⟨_,_,rfl,rfl,hW sa sb cy h0 (eq_of_beq x2)⟩)
         ·rw [ai x2]
          have j_:k'≠1:=fun e=>x2 (by simp [e])
          by_cases x3:(k' == 0)=true
          ·rw [aj x3]
           exact ak (.inl ⟨_,_,rfl,rfl,dZ sa sb cy (.inr (eq_of_beq x3))⟩)
          ·rw [ai x3]
           have uj:k'≠0:=fun e=>x3 (by simp [e])
           refine ao (a9 (by omega) ?_)
           have aP:=hV sa sb cy (by omega) fun j h1=>by have:=eE (q2 j h1);rw [dn] at this;exact cf this
           by_cases y1:(k-1 == 0)=true
           ·rw [aj y1]
            exact ak (.inl ⟨_,_,rfl,rfl,dZ sa sb aP (.inl (eq_of_beq y1))⟩)
           ·rw [ai y1]
            have eK:k-1≠0:=fun e=>y1 (by simp [e])
            exact cV (fun _=>ak (.inr ⟨_,_,_,_,_,_,_,rfl,rfl,aP,by omega,by omega,by omega⟩)) (fun _=>ak ⟨_,_,_,_,_,_,_,rfl,rfl,aP,by omega,by omega,by omega⟩)
        ·rw [ai cM]
         obtain rfl:k'=nb-1:=by omega
         refine ao (a9 (by omega) ?_)
         have aP:=hV sa sb bJ (by omega) fun j h1=>by have:=eE (q2 j h1);rw [dn] at this;exact cf this
         by_cases y1:(k-1 == 0)=true
         ·rw [aj y1]
          exact ak (.inl ⟨_,_,rfl,rfl,dZ sa sb aP (.inl (eq_of_beq y1))⟩)
         ·rw [ai y1]
          have eK:k-1≠0:=fun e=>y1 (by simp [e])
          exact cV (fun _=>ak (.inr ⟨_,_,_,_,_,_,_,rfl,rfl,aP,by omega,by omega,by omega⟩)) (fun _=>ak ⟨_,_,_,_,_,_,_,rfl,rfl,aP,by omega,by omega,by omega⟩)
    ·rintro c av ⟨out,i,j,mg,ac,bc,g,rfl,rfl,mi,ha,hb,eG⟩
     exact .inr ⟨_,_,_,_,_,_,_,rfl,rfl,mi,ha,hb,eG⟩
    ·rintro c av (⟨m,g,e,rfl,pm⟩ | ⟨out,i,j,mg,ac,bc,g,rfl,rfl,mi,ha,hb,eG⟩)
     ·obtain ⟨c1,c2⟩:=c
      dsimp only at e;subst e;exact ak ⟨m,g,rfl,rfl,pm⟩
     ·dsimp only
      exact ao (lT (ak ⟨_,_,_,_,_,rfl,rfl,mi,ha,hb,by omega⟩))
 ·rintro c av ⟨out,ia,ib,mg,g,rfl,rfl,mi,ha,hb,ug⟩
  exfalso
  omega
 ·rintro c av ⟨m,g,e,rfl,pm,sm⟩
  obtain ⟨c1,c2⟩:=c;dsimp only at e;subst e;exact ak (q m g pm sm)
end
section
variable {prog:Program} {w:World} {A:Around} {E:aE} {s:Shared} {κ:SortKind} {key:Keyed→Int} {Ok:Keyed→Prop}
def vA(key:Keyed→Int)(arr:Array Keyed)(i:Nat):Int:=key (arr.getD i nn)
def bQ(key:Keyed→Int)(arr:Array Keyed)(lo hi:Nat):Prop:=∀i j,lo≤i→i≤j→j<hi→vA key arr i≤vA key arr j
def gc(key:Keyed→Int)(arr:Array Keyed)(lo hi:Nat):Prop:=∀i j,lo≤i→i≤j→j<hi→vA key arr j≤vA key arr i
structure Rl (arr aN:Array Keyed) (lo hi:Nat):Prop where
 pm:aN.Perm arr
 out:∀k,k<lo∨hi≤k→aN[k]?=arr[k]?
theorem Rl.refl(arr:Array Keyed)(lo hi:Nat):Rl arr arr lo hi:=⟨Array.Perm.refl _,fun _ _=>rfl⟩
variable {arr aN:Array Keyed} {lo hi:Nat}
theorem Rl.trans{aD:Array Keyed}(h:Rl arr aN lo hi)(h':Rl aN aD lo hi):Rl arr aD lo hi:=⟨h'.pm.trans h.pm,fun k hk=>(h'.out k hk).trans (h.out k hk)⟩
theorem Rl.size(h:Rl arr aN lo hi):aN.size=arr.size:=h.pm.size_eq
theorem Rl.wide{yM bw:Nat}(h:Rl arr aN lo hi)(h1:yM≤lo)(h2:hi≤bw):Rl arr aN yM bw:=⟨h.pm,fun k hk=>h.out k (by omega)⟩
theorem gI(arr:Array Keyed)(i:Nat):arr.getD i nn=arr[i]?.getD nn:=by by_cases z:i<arr.size <;> simp [Array.getD,z]
variable {k:Nat}
theorem Rl.v(h:Rl arr aN lo hi)(hk:k<lo∨hi≤k):vA key aN k=vA key arr k:=by unfold vA;rw [gI,gI,h.out k hk]
theorem lW(h:dh Ok arr)(p:aN.Perm arr):dh Ok aN:=fun i hi=>by
 have e:aN.getD i nn=aN[i]:=by simp [Array.getD,hi]
 rw [e];have m:aN[i]∈arr:=(Array.Perm.mem_iff p).mp (Array.getElem_mem hi);obtain ⟨j,hj,ej⟩:=Array.getElem_of_mem m;rw [←ej];have:=h j hj;simpa [Array.getD,hj] using this
theorem Rl.ok(h:Rl arr aN lo hi)(ok:dh Ok arr):dh Ok aN:=lW ok h.pm
theorem gJ(hj:j≤arr.size):Rl arr (mirror arr i j ((j-i) / 2)) i j:=⟨mirror_perm ..,fun k hk=>by rw [getElem?_mirror_all hj,ai (by omega)]⟩
theorem qF(hj:j≤arr.size)(h1:i≤k)(h2:k<j):vA key (mirror arr i j ((j-i) / 2)) k=vA key arr (i+j-1-k):=by unfold vA;rw [gI,gI,getElem?_mirror_all hj,aj ⟨h1,h2⟩]
abbrev aV (κ:SortKind) (arr:Array Keyed) (pend:Array (Nat×Nat×Nat)) (g:Nat):SortSt:=SortSt.mk' κ arr pend g none
variable {arr:Array Keyed} {pend:Array (Nat×Nat×Nat)} {g:Nat}
theorem gK(h:fZ prog w A s κ key Ok)(ok:dh Ok arr)(hi:i<arr.size)(hj:j<arr.size){Q:Option Bool→SortSt→Prop}(q:Q (some (decide (vA key arr i<vA key arr j))) (aV κ arr pend g)):wpS (model prog w) A E s (ltAt' i j) Q (aV κ arr pend g):=by rw [ltAt'_eq];refine ao (fu ?_);exact ao (a9 hi (ao (a9 hj (oB h (ok _ hi) (ok _ hj) rfl q))))
theorem iK{Q:Unit→SortSt→Prop}(q:Q () (aV κ (mirror arr i j ((j-i) / 2)) pend g)):wpS (model prog w) A E s (reverseSlice' i j) Q (aV κ arr pend g):=by rw [reverseSlice'_eq];exact gp q
variable {n:Nat}
theorem bQ.more(h:bQ key arr lo (lo+n))(n1:1≤n)(c:vA key arr (lo+n-1)≤vA key arr (lo+n)):bQ key arr lo (lo+(n+1)):=fun i j h1 h2 h3=>by
 by_cases z:j<lo+n;·exact h i j h1 h2 z
 ·obtain rfl:j=lo+n:=by omega
  by_cases y:i=lo+n;·rw [y];exact ip _
  ·exact cx (h i (lo+n-1) h1 (by omega) (by omega)) c
theorem gc.more(h:gc key arr lo (lo+n))(n1:1≤n)(c:vA key arr (lo+n)≤vA key arr (lo+n-1)):gc key arr lo (lo+(n+1)):=fun i j h1 h2 h3=>by
 by_cases z:j<lo+n;·exact h i j h1 h2 z
 ·obtain rfl:j=lo+n:=by omega
  by_cases y:i=lo+n;·rw [y];exact ip _
  ·exact cx c (h i (lo+n-1) h1 (by omega) (by omega))
def oF(key:Keyed→Int)(arr:Array Keyed)(lo n q:Nat):Prop:=q+1≤n∧∀i,lo+n-(q+1)≤i→i<lo+n→vA key arr i=vA key arr (lo+n-1)
theorem qG{q:Nat}(hz:lo+n≤arr.size)(d:gc key arr lo (lo+n))(e:oF key arr lo n q):gc key (mirror arr (lo+n-(q+1)) (lo+n) ((lo+n-(lo+n-(q+1))) / 2)) lo (lo+n)∧∀k,vA key (mirror arr (lo+n-(q+1)) (lo+n) ((lo+n-(lo+n-(q+1))) / 2)) k=vA key arr k:=by
 have hv:∀k,vA key (mirror arr (lo+n-(q+1)) (lo+n) ((lo+n-(lo+n-(q+1))) / 2)) k=vA key arr k:=fun k=>by
  by_cases z:lo+n-(q+1)≤k∧k<lo+n;·rw [qF hz z.1 z.2,e.2 _ (by have:=e.1;omega) (by omega),e.2 k z.1 z.2]
  ·exact (gJ hz).v (by omega)
 refine ⟨fun i j h1 h2 h3=>?_,hv⟩;rw [hv,hv];exact d i j h1 h2 h3
theorem qH(hz:lo+n≤arr.size)(d:gc key arr lo (lo+n)):bQ key (mirror arr lo (lo+n) ((lo+n-lo) / 2)) lo (lo+n):=fun i j h1 h2 h3=>by
 rw [qF hz h1 (by omega),qF hz (by omega) h3]
 exact d _ _ (by omega) (by omega) (by omega)
end
section
variable {prog:Program} {w:World} {A:Around} {E:aE} {s:Shared} {κ:SortKind} {key:Keyed→Int} {Ok:Keyed→Prop} {arr:Array Keyed} {pend:Array (Nat×Nat×Nat)} {g:Nat}
variable {lo bK:Nat}
theorem oG(h:fZ prog w A s κ key Ok)(ok:dh Ok arr){m:Nat}(hz:lo+bK≤arr.size)(m1:1≤m)(mn:m≤bK)(sg:bQ key arr lo (lo+m)){body:Nat→Option (Option Nat)×Nat→StateT SortSt Sem (ForInStep (Option (Option Nat)×Nat))}{R:Option (Option Nat)×Nat→SortSt→Prop}
  (hb:∀x n (R:ForInStep (Option (Option Nat)×Nat)→SortSt→Prop),1≤n→n<bK→R (if vA key arr (lo+n)<vA key arr (lo+n-1) then .done (none,n) else .yield (none,n+1)) (aV κ arr pend g)→wpS (model prog w) A E s (body x (none,n)) R (aV κ arr pend g))
  (k:∀n,m≤n→n≤bK→bQ key arr lo (lo+n)→(n<bK→vA key arr (lo+n)<vA key arr (lo+n-1))→R (none,n) (aV κ arr pend g)) :
  wpS (model prog w) A E s (forIn [m:bK] (none,m) body) R (aV κ arr pend g):=by
 refine dm (I:=fun x c av=>av=aV κ arr pend g∧c=(none,x)∧m≤x∧x≤bK∧bQ key arr lo (lo+x)) ?_ ?_ ⟨rfl,rfl,aG _,mn,sg⟩
 ·rintro x c av _ hx ⟨rfl,rfl,g1,g2,g3⟩
  refine hb x x _ (by omega) hx ?_
  by_cases z:vA key arr (lo+x)<vA key arr (lo+x-1)
  ·rw [aj z]
   exact k x g1 g2 g3 fun _=>z
  ·rw [ai z]
   exact ⟨rfl,rfl,by omega,by omega,g3.more (by omega) (Int.not_lt.mp z)⟩
 ·rintro c av ⟨rfl,rfl,g1,g2,g3⟩
  have e:max m bK=bK:=by omega
  rw [e] at g3 ⊢;exact k bK mn (aG _) g3 fun z=>absurd z (fj _)
theorem D5(h:fZ prog w A s κ key Ok)(ok:dh Ok arr)(hz:lo+bK≤arr.size)(n1:1≤bK){Q:Option Nat→SortSt→Prop}
  (k:∀n aN,1≤n→n≤bK→Rl arr aN lo (lo+bK)→bQ key aN lo (lo+n)→Q (some n) (aV κ aN pend g)):wpS (model prog w) A E s (countRun' lo bK) Q (aV κ arr pend g):=by
 rw [countRun'_eq];refine ao (oG h ok hz (aG 1) n1 (fun i j h1 h2 h3=>by rw [show i=j by omega];exact ip _) ?_ fun n m1 mn sg br=>?_)
 ·intro x n R a1 a2 r
  dsimp only;refine ao (gK h ok (by omega) (by omega) ?_)
  dsimp only;by_cases z:vA key arr (lo+n)<vA key arr (lo+n-1)
  ·rw [aj z] at r
   rw [aW z,aj rfl];exact ak r
  ·rw [ai z] at r
   rw [bt z,ai (by simp)]
   exact ak r
 dsimp only;by_cases e1:(n == bK)=true
 ·rw [aj e1]
  exact ak (k n arr m1 mn (Rl.refl ..) sg)
 rw [ai e1];have cA:n<bK:=by
  have:n≠bK:=fun e=>e1 (by simp [e])
  omega
 have yN:=br cA;by_cases e2:n>1
 ·rw [aj e2]
  refine ao (gK h ok (by omega) (by omega) ?_)
  dsimp only;by_cases z:vA key arr lo<vA key arr (lo+n-1)
  ·rw [aW z,aj rfl]
   exact ak (k n arr m1 mn (Rl.refl ..) sg)
  ·rw [bt z,ai (by simp)]
   refine ao (iK ?_);have ev:∀i,lo≤i→i<lo+n→vA key arr i=vA key arr (lo+n-1):=fun i h1 h2=>by
    have a1:=sg lo i (aG _) h1 h2;have a2:=sg i (lo+n-1) h1 (by omega) (by omega)
    omega
   have hv:∀i,vA key (mirror arr lo (lo+n) ((lo+n-lo) / 2)) i=vA key arr i:=fun i=>by
    by_cases y:lo≤i∧i<lo+n;·rw [qF (by omega) y.1 y.2,ev _ (by omega) (by omega),ev i y.1 y.2]
    ·exact (gJ (by omega)).v (by omega)
   have d1:gc key (mirror arr lo (lo+n) ((lo+n-lo) / 2)) lo (lo+n):=fun i j h1 h2 h3=>by
    rw [hv,hv,ev i h1 (by omega),ev j (by omega) h3]
    exact ip _
   have qI:Rl arr (mirror arr lo (lo+n) ((lo+n-lo) / 2)) lo (lo+bK):=(gJ (by omega)).wide (aG _) (by omega)
   have yO:vA key (mirror arr lo (lo+n) ((lo+n-lo) / 2)) (lo+n)<vA key (mirror arr lo (lo+n) ((lo+n-lo) / 2)) (lo+n-1):=by rw [hv,hv];exact yN
   generalize mirror arr lo (lo+n) ((lo+n-lo) / 2)=D6 at d1 qI yO ⊢;refine ao (wpS_lift (gU ⟨rfl,?_⟩))
   refine ao (dD (dm (I:=fun x c av=>∃(aD:Array Keyed) (q:Nat),av=aV κ aD pend g∧c=(none,x,q)∧Rl arr aD lo (lo+bK)∧gc key aD lo (lo+x)∧oF key aD lo x q∧x≤bK∧1≤x)
    (Q:=fun c av=>∃(aD:Array Keyed) (n q:Nat),av=aV κ aD pend g∧c=(none,n,q)∧Rl arr aD lo (lo+bK)∧gc key aD lo (lo+n)∧oF key aD lo n q∧n≤bK∧1≤n) ?_ ?_ ⟨D6,0,rfl,rfl,qI,d1.more (by omega) (cf yO),⟨by omega,fun i h1 h2=>by rw [show i=lo+(n+1)-1 by omega]⟩,by omega,by omega⟩) ?_)
   ·rintro x c av _ hx ⟨aD,q,rfl,rfl,cD,d2,e2,x1,x2⟩
    have iL:=cD.ok ok;have z2:=cD.size;dsimp only;refine ao (gK h iL (by omega) (by omega) ?_)
    dsimp only;by_cases z:vA key aD (lo+x)<vA key aD (lo+x-1)
    ·rw [aW z,aj rfl]
     by_cases y:q>0
     ·rw [aj y]
      refine ao (iK (ak ?_));obtain ⟨d3,hv⟩:=qG (by omega) d2 e2
      refine ⟨_,0,rfl,rfl,cD.trans ((gJ (by omega)).wide (by have:=e2.1;omega) (by omega)),d3.more (by omega) (by rw [hv,hv];exact cf z),⟨by omega,fun i h1 h2=>by rw [show i=lo+(x+1)-1 by omega]⟩,by omega,by omega⟩
     ·rw [ai y]
      exact ak ⟨_,0,rfl,rfl,cD,d2.more (by omega) (cf z),⟨by omega,fun i h1 h2=>by rw [show i=lo+(x+1)-1 by omega]⟩,by omega,by omega⟩
    ·rw [bt z,ai (by simp)]
     refine ao (gK h iL (by omega) (by omega) ?_)
     dsimp only;by_cases y:vA key aD (lo+x-1)<vA key aD (lo+x)
     ·rw [aW y,aj rfl]
      exact ak ⟨_,_,_,rfl,rfl,cD,d2,e2,x1,x2⟩
     ·rw [bt y,ai (by simp)]
      have ev:vA key aD (lo+x)=vA key aD (lo+x-1):=by omega
      refine ak ⟨_,_,rfl,rfl,cD,d2.more (by omega) (by omega),⟨by have:=e2.1;omega,fun i h1 h2=>?_⟩,by omega,by omega⟩
      rw [show lo+(x+1)-1=lo+x by omega]
      by_cases w:i=lo+x;·rw [w]
      ·rw [ev]
       exact e2.2 i (by omega) (by omega)
   ·rintro c av ⟨aD,q,rfl,rfl,cD,d2,e2,x1,x2⟩
    exact ⟨aD,_,q,rfl,rfl,cD,d2,e2,x1,x2⟩
   ·rintro c av ⟨aD,n2,q2,rfl,rfl,cD,d2,e2,x1,x2⟩
    have z2:=cD.size;dsimp only;by_cases y:q2>0
    ·rw [aj y]
     obtain ⟨d3,hv⟩:=qG (by omega) d2 e2
     refine ao (iK (ao (iK ?_)));have gM:=cD.trans ((gJ (arr:=aD) (i:=lo+n2-(q2+1)) (j:=lo+n2) (by omega)).wide (by have:=e2.1;omega) (show lo+n2≤lo+bK by omega))
     generalize mirror aD (lo+n2-(q2+1)) (lo+n2) _=bL at d3 gM ⊢;have z3:=gM.size;have dM:=qH (by omega) d3
     have bq:=gM.trans ((gJ (arr:=bL) (i:=lo) (j:=lo+n2) (by omega)).wide (aG lo) (show lo+n2≤lo+bK by omega))
     generalize mirror bL lo (lo+n2) _=aQ at dM bq ⊢;have gN:=Rl.ok bq ok;have z4:=Rl.size bq;refine ao (oG h gN (by omega) (by omega) (by omega) dM ?_ fun m m1 mn kd _=>ak (k m aQ (by omega) mn bq kd))
     intro x n R a1 a2 r;dsimp only;refine ao (gK h gN (by omega) (by omega) ?_)
     dsimp only;by_cases z:vA key aQ (lo+n)<vA key aQ (lo+n-1)
     ·rw [aj z] at r
      rw [aW z,aj rfl];exact ak r
     ·rw [ai z] at r
      rw [bt z,ai (by simp)]
      exact ak r
    ·rw [ai y]
     refine ao (iK ?_);have dM:=qH (by omega) d2
     have bq:=cD.trans ((gJ (arr:=aD) (i:=lo) (j:=lo+n2) (by omega)).wide (aG lo) (show lo+n2≤lo+bK by omega))
     generalize mirror aD lo (lo+n2) _=aQ at dM bq ⊢;have gN:=Rl.ok bq ok;have z4:=Rl.size bq;refine ao (oG h gN (by omega) (by omega) (by omega) dM ?_ fun m m1 mn kd _=>ak (k m aQ (by omega) mn bq kd))
     intro x n R a1 a2 r;dsimp only;refine ao (gK h gN (by omega) (by omega) ?_)
     dsimp only;by_cases z:vA key aQ (lo+n)<vA key aQ (lo+n-1)
     ·rw [aj z] at r
      rw [aW z,aj rfl];exact ak r
     ·rw [ai z] at r
      rw [bt z,ai (by simp)]
      exact ak r
 ·rw [ai e2]
  have d1:gc key arr lo (lo+n):=fun i j h1 h2 h3=>by
   rw [show i=j by omega]
   exact ip _
  have qI:Rl arr arr lo (lo+bK):=Rl.refl ..;refine ao (wpS_lift (gU ⟨rfl,?_⟩))
  refine ao (dD (dm (I:=fun x c av=>∃(aD:Array Keyed) (q:Nat),av=aV κ aD pend g∧c=(none,x,q)∧Rl arr aD lo (lo+bK)∧gc key aD lo (lo+x)∧oF key aD lo x q∧x≤bK∧1≤x)
   (Q:=fun c av=>∃(aD:Array Keyed) (n q:Nat),av=aV κ aD pend g∧c=(none,n,q)∧Rl arr aD lo (lo+bK)∧gc key aD lo (lo+n)∧oF key aD lo n q∧n≤bK∧1≤n) ?_ ?_ ⟨arr,0,rfl,rfl,qI,d1.more (by omega) (cf yN),⟨by omega,fun i h1 h2=>by rw [show i=lo+(n+1)-1 by omega]⟩,by omega,by omega⟩) ?_)
  ·rintro x c av _ hx ⟨aD,q,rfl,rfl,cD,d2,e2,x1,x2⟩
   have iL:=cD.ok ok;have z2:=cD.size;dsimp only;refine ao (gK h iL (by omega) (by omega) ?_)
   dsimp only;by_cases z:vA key aD (lo+x)<vA key aD (lo+x-1)
   ·rw [aW z,aj rfl]
    by_cases y:q>0
    ·rw [aj y]
     refine ao (iK (ak ?_));obtain ⟨d3,hv⟩:=qG (by omega) d2 e2
     refine ⟨_,0,rfl,rfl,cD.trans ((gJ (by omega)).wide (by have:=e2.1;omega) (by omega)),d3.more (by omega) (by rw [hv,hv];exact cf z),⟨by omega,fun i h1 h2=>by rw [show i=lo+(x+1)-1 by omega]⟩,by omega,by omega⟩
    ·rw [ai y]
     exact ak ⟨_,0,rfl,rfl,cD,d2.more (by omega) (cf z),⟨by omega,fun i h1 h2=>by rw [show i=lo+(x+1)-1 by omega]⟩,by omega,by omega⟩
   ·rw [bt z,ai (by simp)]
    refine ao (gK h iL (by omega) (by omega) ?_)
    dsimp only;by_cases y:vA key aD (lo+x-1)<vA key aD (lo+x)
    ·rw [aW y,aj rfl]
     exact ak ⟨_,_,_,rfl,rfl,cD,d2,e2,x1,x2⟩
    ·rw [bt y,ai (by simp)]
     have ev:vA key aD (lo+x)=vA key aD (lo+x-1):=by omega
     refine ak ⟨_,_,rfl,rfl,cD,d2.more (by omega) (by omega),⟨by have:=e2.1;omega,fun i h1 h2=>?_⟩,by omega,by omega⟩
     rw [show lo+(x+1)-1=lo+x by omega]
     by_cases w:i=lo+x;·rw [w]
     ·rw [ev]
      exact e2.2 i (by omega) (by omega)
  ·rintro c av ⟨aD,q,rfl,rfl,cD,d2,e2,x1,x2⟩
   exact ⟨aD,_,q,rfl,rfl,cD,d2,e2,x1,x2⟩
  ·rintro c av ⟨aD,n2,q2,rfl,rfl,cD,d2,e2,x1,x2⟩
   have z2:=cD.size;dsimp only;by_cases y:q2>0
   ·rw [aj y]
    obtain ⟨d3,hv⟩:=qG (by omega) d2 e2
    refine ao (iK (ao (iK ?_)));have gM:=cD.trans ((gJ (arr:=aD) (i:=lo+n2-(q2+1)) (j:=lo+n2) (by omega)).wide (by have:=e2.1;omega) (show lo+n2≤lo+bK by omega))
    generalize mirror aD (lo+n2-(q2+1)) (lo+n2) _=bL at d3 gM ⊢;have z3:=gM.size;have dM:=qH (by omega) d3
    have bq:=gM.trans ((gJ (arr:=bL) (i:=lo) (j:=lo+n2) (by omega)).wide (aG lo) (show lo+n2≤lo+bK by omega))
    generalize mirror bL lo (lo+n2) _=aQ at dM bq ⊢;have gN:=Rl.ok bq ok;have z4:=Rl.size bq;refine ao (oG h gN (by omega) (by omega) (by omega) dM ?_ fun m m1 mn kd _=>ak (k m aQ (by omega) mn bq kd))
    intro x n R a1 a2 r;dsimp only;refine ao (gK h gN (by omega) (by omega) ?_)
    dsimp only;by_cases z:vA key aQ (lo+n)<vA key aQ (lo+n-1)
    ·rw [aj z] at r
     rw [aW z,aj rfl];exact ak r
    ·rw [ai z] at r
     rw [bt z,ai (by simp)]
     exact ak r
   ·rw [ai y]
    refine ao (iK ?_);have dM:=qH (by omega) d2
    have bq:=cD.trans ((gJ (arr:=aD) (i:=lo) (j:=lo+n2) (by omega)).wide (aG lo) (show lo+n2≤lo+bK by omega))
    generalize mirror aD lo (lo+n2) _=aQ at dM bq ⊢;have gN:=Rl.ok bq ok;have z4:=Rl.size bq;refine ao (oG h gN (by omega) (by omega) (by omega) dM ?_ fun m m1 mn kd _=>ak (k m aQ (by omega) mn bq kd))
    intro x n R a1 a2 r;dsimp only;refine ao (gK h gN (by omega) (by omega) ?_)
    dsimp only;by_cases z:vA key aQ (lo+n)<vA key aQ (lo+n-1)
    ·rw [aj z] at r
     rw [aW z,aj rfl];exact ak r
    ·rw [ai z] at r
     rw [bt z,ai (by simp)]
     exact ak r
end
section
variable {prog:Program} {w:World} {A:Around} {E:aE} {s:Shared} {κ:SortKind} {key:Keyed→Int} {Ok:Keyed→Prop} {arr:Array Keyed} {pend:Array (Nat×Nat×Nat)} {g:Nat}
theorem D7{Q:Unit→SortSt→Prop}(q:Q () (aV κ (bubble arr i (i-j)) pend g)):wpS (model prog w) A E s (moveDown' i j) Q (aV κ arr pend g):=by rw [moveDown'_eq];exact gp q
variable {d:Nat}
theorem yP{k:Nat}(hi:i<arr.size)(hd:d≤i):vA key (bubble arr i d) k=if k=i-d then vA key arr i else if i-d<k∧k≤i then vA key arr (k-1) else vA key arr k:=by
 unfold vA;rw [gI,getElem?_bubble hi d hd,gI arr i,gI arr (k-1),gI arr k];by_cases a:k=i-d;·rw [aj a,aj a]
 ·rw [ai a,ai a]
  by_cases b:i-d<k∧k≤i;·rw [aj b,aj b]
  ·rw [ai b,ai b]
variable {lo:Nat}
theorem D8{hi:Nat}(h:i<arr.size)(hd:d≤i)(h1:lo≤i-d)(h2:i<hi):Rl arr (bubble arr i d) lo hi:=⟨bubble_perm ..,fun k hk=>by rw [getElem?_bubble h d hd,ai (by omega),ai (by omega)]⟩
theorem D9(h:fZ prog w A s κ key Ok)(ok:dh Ok arr){n m:Nat}(hz:lo+n≤arr.size)(m1:1≤m)(mn:m≤n)(sg:bQ key arr lo (lo+m)){Q:Bool→SortSt→Prop}
  (k:∀aN,Rl arr aN lo (lo+n)→bQ key aN lo (lo+n)→Q true (aV κ aN pend g)):wpS (model prog w) A E s (binarySort' lo n m) Q (aV κ arr pend g):=by
 rw [binarySort'_eq];have em:max m 1=m:=by omega
 rw [em]
 refine ao (dD (dm (I:=fun x c av=>∃aD:Array Keyed,av=aV κ aD pend g∧c=(none,())∧Rl arr aD lo (lo+n)∧bQ key aD lo (lo+x)∧m≤x∧x≤n)
  (Q:=fun c av=>∃aD:Array Keyed,av=aV κ aD pend g∧c=(none,())∧Rl arr aD lo (lo+n)∧bQ key aD lo (lo+n)) ?_ ?_ ⟨arr,rfl,rfl,Rl.refl ..,sg,aG _,mn⟩) ?_)
 ·rintro x c av _ hx ⟨aD,rfl,rfl,rl,sg,x1,x2⟩
  have iL:=rl.ok ok;have z2:=rl.size;dsimp only
  refine ao (dD (dm (I:=fun y c av=>∃l r:Nat,av=aV κ aD pend g∧c=(none,l,r)∧l≤r∧r≤x∧r-l+y≤x∧(∀i,i<l→vA key aD (lo+i)≤vA key aD (lo+x))∧(∀i,r≤i→i<x→vA key aD (lo+x)≤vA key aD (lo+i)))
   (Q:=fun c av=>∃l:Nat,av=aV κ aD pend g∧c=(none,l,l)∧l≤x∧(∀i,i<l→vA key aD (lo+i)≤vA key aD (lo+x))∧(∀i,l≤i→i<x→vA key aD (lo+x)≤vA key aD (lo+i))) ?_ ?_ ⟨0,x,rfl,rfl,by omega,aG _,show x-0+0≤x by omega,fun i hi=>absurd hi (Nat.not_lt_zero _),fun i h1 h2=>by omega⟩) ?_)
  ·rintro y c av _ hy ⟨l,r,rfl,rfl,g1,g2,g3,g4,g5⟩
   dsimp only;by_cases z:l≥r
   ·rw [aj z]
    obtain rfl:l=r:=by omega
    exact ak ⟨l,rfl,rfl,g2,g4,g5⟩
   ·rw [ai z]
    refine ao (gK h iL (by omega) (by omega) ?_)
    dsimp only;by_cases w:vA key aD (lo+x)<vA key aD (lo+(l+r) / 2)
    ·rw [aW w,aj rfl]
     exact ak ⟨l,_,rfl,rfl,by omega,by omega,by omega,g4,fun i h1 h2=>cx (cf w) (sg _ _ (by omega) (by omega) (by omega))⟩
    ·rw [bt w,ai (by simp)]
     exact ak ⟨_,r,rfl,rfl,by omega,g2,by omega,fun i h1=>cx (sg _ _ (by omega) (by omega) (by omega)) (Int.not_lt.mp w),g5⟩
  ·rintro c av ⟨l,r,rfl,rfl,g1,g2,g3,g4,g5⟩
   have:max 0 x=x:=by omega
   obtain rfl:l=r:=by omega
   exact ⟨l,rfl,rfl,g2,g4,g5⟩
  ·rintro c av ⟨l,rfl,rfl,g2,g4,g5⟩
   dsimp only;refine ao (D7 (ak ?_));have ed:lo+x-(lo+l)=x-l:=by omega
   rw [ed];refine ⟨_,rfl,rfl,rl.trans (D8 (by omega) (by omega) (by omega) (by omega)),fun i j h1 h2 h3=>?_,by omega,by omega⟩
   have e0:lo+x-(x-l)=lo+l:=by omega
   rw [yP (by omega) (by omega),yP (by omega) (by omega),e0]
   have f4:∀i,lo≤i→i<lo+l→vA key aD i≤vA key aD (lo+x):=fun i a b=>by have:=g4 (i-lo) (by omega);rwa [show lo+(i-lo)=i by omega] at this
   have f5:∀i,lo+l≤i→i<lo+x→vA key aD (lo+x)≤vA key aD i:=fun i a b=>by have:=g5 (i-lo) (by omega) (by omega);rwa [show lo+(i-lo)=i by omega] at this
   by_cases a1:i=lo+l
   ·rw [aj a1]
    by_cases b1:j=lo+l;·rw [aj b1];exact ip _
    ·rw [ai b1,aj (by omega)]
     exact f5 _ (by omega) (by omega)
   ·rw [ai a1]
    by_cases a2:lo+l<i∧i≤lo+x
    ·rw [aj a2,ai (by omega),aj (by omega)]
     exact sg _ _ (by omega) (by omega) (by omega)
    ·rw [ai a2]
     by_cases b1:j=lo+l
     ·rw [aj b1]
      exact f4 i h1 (by omega)
     ·rw [ai b1]
      by_cases b2:lo+l<j∧j≤lo+x
      ·rw [aj b2]
       exact cx (f4 i h1 (by omega)) (f5 _ (by omega) (by omega))
      ·rw [ai b2]
       exact sg _ _ (by omega) (by omega) (by omega)
 ·rintro c av ⟨aD,rfl,rfl,rl,sg,x1,x2⟩
  have:max m n=n:=by omega
  rw [this] at sg;exact ⟨aD,rfl,rfl,rl,sg⟩
 ·rintro c av ⟨aD,rfl,rfl,rl,sg⟩
  exact ak (k aD rl sg)
end
theorem D_(i:Nat):mergeAt' i=(do
 let s ←get
 let (some (sa,na,power),some (sb,nb,_)):=((pendingOf s)[i]?,(pendingOf s)[i+1]?) | unsupported "internal:list.sort.pending"
 set (setPending s (((pendingOf s).setIfInBounds i (sa,na+nb,power)).eraseIdxIfInBounds (i+1)))
 let some k ←jj false (←elem' (arrOf s) sb) (arrOf s) sa na 0 | return false
 let (sa,na):=(sa+k,na-k)
 if na == 0 then return true
 let some nb ←jj true (←elem' (arrOf s) (sa+na-1)) (arrOf s) sb nb (nb-1) | return false
 if nb == 0 then return true
 let x:=(arrOf s).extract sa sb
 let y:=(arrOf s).extract sb (sb+nb)
 let merged ←if na≤nb then t_ x y else uc x y
 modify fun s=>setArr s (merged.toList.zipIdx.foldl (fun a (p,j)=>a.setIfInBounds (sa+j) p) (arrOf s))
 return (failedOf (←get)).isNone):=rfl
def putL(m:List Keyed)(o:Nat)(arr:Array Keyed)(n:Nat):Array Keyed:=(m.zipIdx n).foldl (fun a (p,j)=>a.setIfInBounds (o+j) p) arr
theorem yQ(m:List Keyed)(o:Nat):∀(arr:Array Keyed) (n k:Nat),o+n+m.length≤arr.size→(putL m o arr n)[k]?=if o+n≤k∧k<o+n+m.length then m[k-(o+n)]? else arr[k]?:=by
 induction m with
 | nil=>
  intro arr n k _;rw [ai (by simp)]
  rfl
 | cons x m ih=>
  intro arr n k hz;rw [gk] at hz ⊢;show (putL m o (arr.setIfInBounds (o+n) x) (n+1))[k]?=_;rw [ih _ _ _ (by simp;omega)]
  by_cases a:o+(n+1)≤k∧k<o+(n+1)+m.length
  ·rw [aj a,aj (by omega),show k-(o+n)=(k-(o+(n+1)))+1 by omega]
   rfl
  ·rw [ai a]
   by_cases b:k=o+n
   ·subst b
    rw [aj (by omega),lg]
    simp [show o+n<arr.size by omega]
   ·rw [ai (by omega)]
    rw [Array.getElem?_setIfInBounds_ne (by omega)]
theorem Ea{o:Nat}{arr:Array Keyed}(hz:o+m.length≤arr.size):(putL m o arr 0).toList=arr.toList.take o++m++arr.toList.drop (o+m.length):=by
 refine List.ext_getElem? fun k=>?_;have e:(putL m o arr 0).toList[k]?=(putL m o arr 0)[k]?:=by simp
 rw [e,yQ m o arr 0 k (by omega),Nat.add_zero]
 by_cases a:k<o
 ·rw [ai (by omega),d7,gR (by simp;omega),List.getElem?_take_of_lt a]
  simp
 ·by_cases b:k<o+m.length
  ·rw [aj (by omega),d7,gh (by simp;omega),gR (by simp;omega)]
   congr 1
   simp;omega
  ·rw [ai (by omega),gh (by simp;omega),List.getElem?_drop]
   have:o+m.length+(k-(arr.toList.take o++m).length)=k:=by simp;omega
   rw [this];simp
section
variable {prog:Program} {w:World} {A:Around} {E:aE} {s:Shared} {κ:SortKind} {key:Keyed→Int} {Ok:Keyed→Prop} {arr:Array Keyed} {pend:Array (Nat×Nat×Nat)} {g:Nat}
variable {lo hi:Nat}
theorem yR(h:bQ key arr lo hi)(hz:hi≤arr.size):aY key (arr.extract lo hi).toList:=by
 unfold aY;rw [pC];intro i j bw hj yI;have h1:i<hi-lo∧j<hi-lo:=by simp at bw hj;omega
 have:=h (lo+i) (lo+j) (by omega) (by omega) (by omega)
 unfold vA at this;simpa [Array.getD,show lo+i<arr.size by omega,show lo+j<arr.size by omega] using this
theorem uk(hz:hi≤arr.size)(bw:lo+i<hi):(arr.extract lo hi).getD i nn=arr.getD (lo+i) nn:=by simp [Array.getD,show lo+i<arr.size by omega,show i<min hi arr.size-lo by omega]
theorem yS(ok:dh Ok arr)(hz:hi≤arr.size):dh Ok (arr.extract lo hi):=fun i bw=>by
 have:lo+i<hi:=by simp at bw;omega
 rw [uk hz this];exact ok _ (by omega)
theorem ext_mem(hz:hi≤arr.size){x:Keyed}(hx:x∈(arr.extract lo hi).toList):∃j,lo≤j∧j<hi∧x=arr.getD j nn:=iJ hz hx
theorem Eb{σ:Type}{st av:σ}{Q:PUnit→σ→Prop}{M:Model}(q:Q ⟨⟩ av):wpS M A E s (set av:StateT σ Sem PUnit) Q st:=by unfold wpS;rw [StateT.run_set];exact a_ ⟨rfl,q⟩
variable {sa na nb:Nat}
theorem Ec{sb a7 bC:Nat}{m:Array Keyed}(hz:sb+nb≤arr.size)(h0:sa+na=sb)(hk:a7≤na)(hb:bC≤nb)(pm:m.toList.Perm ((arr.extract (sa+a7) sb).toList++(arr.extract sb (sb+bC)).toList))(sm:aY key m.toList)
  (s1:bQ key arr sa sb) (s2:bQ key arr sb (sb+nb)) (Ed:a7<na) (qJ:1≤nb)
  (c1:∀i,i<a7→vA key arr (sa+i)≤vA key arr sb) (c2:∀i,bC≤i→i<nb→vA key arr (sb-1)≤vA key arr (sb+i)) :
  Rl arr (putL m.toList (sa+a7) arr 0) sa (sb+nb)∧bQ key (putL m.toList (sa+a7) arr 0) sa (sb+nb):=by
 have lm:m.toList.length=(na-a7)+bC:=by rw [pm.length_eq,dk,f9,f9];simp;omega
 have fV:sa+a7+m.toList.length≤arr.size:=by omega
 have at':=yQ m.toList (sa+a7) arr 0;have rl:Rl arr (putL m.toList (sa+a7) arr 0) sa (sb+nb):=by
  refine ⟨nj.mpr ?_,fun k dJ=>?_⟩
  ·rw [Ea fV]
   have e:arr.toList=arr.toList.take (sa+a7)++((arr.extract (sa+a7) sb).toList++(arr.extract sb (sb+bC)).toList)++arr.toList.drop (sa+a7+m.toList.length):=by
    rw [f9,f9,show sa+a7+m.toList.length=sb+bC by omega,show sb+bC-sb=bC by omega]
    have t1:arr.toList.drop (sa+a7)=(arr.toList.drop (sa+a7)).take (sb-(sa+a7))++arr.toList.drop sb:=by
     have:=(lq (sb-(sa+a7)) (arr.toList.drop (sa+a7))).symm;rw [List.drop_drop,show sa+a7+(sb-(sa+a7))=sb by omega] at this
     exact this
    have t2:arr.toList.drop sb=(arr.toList.drop sb).take bC++arr.toList.drop (sb+bC):=by have:=(lq bC (arr.toList.drop sb)).symm;rw [List.drop_drop] at this;exact this
    have t0:=(lq (sa+a7) arr.toList).symm;rw [t1,t2] at t0;rw [d7,d7];exact t0
   refine List.Perm.trans ?_ (List.Perm.of_eq e.symm);exact List.Perm.append_right _ (sh _ pm)
  ·rw [at' k (by omega),ai (by omega)]
 have vo:∀k,k<sa+a7∨sb+bC≤k→vA key (putL m.toList (sa+a7) arr 0) k=vA key arr k:=fun k dJ=>by unfold vA;rw [gI,at' k (by omega),ai (by omega),gI]
 have vm:∀k,sa+a7≤k→k<sb+bC→∃hj:k-(sa+a7)<m.toList.length,vA key (putL m.toList (sa+a7) arr 0) k=key (m.toList[k-(sa+a7)]'hj):=fun k h1 h2=>by
  have hj:k-(sa+a7)<m.toList.length:=by omega
  refine ⟨hj,?_⟩;unfold vA;rw [gI,at' k (by omega),aj (by omega),Nat.add_zero,eR hj]
  rfl
 have vq:∀k,sa+a7≤k→k<sb+bC→∃q,sa+a7≤q∧q<sb+bC∧vA key (putL m.toList (sa+a7) arr 0) k=vA key arr q:=fun k h1 h2=>by
  obtain ⟨hj,e⟩:=vm k h1 h2;have mm:=pm.mem_iff.mp (fq hj);rcases eQ.mp mm with mm | mm
  ·obtain ⟨q,q1,q2,eq⟩:=ext_mem (by omega) mm
   exact ⟨q,q1,by omega,by rw [e,eq];rfl⟩
  ·obtain ⟨q,q1,q2,eq⟩:=ext_mem (by omega) mm
   exact ⟨q,by omega,q2,by rw [e,eq];rfl⟩
 have d1:∀i,sa≤i→i<sa+a7→vA key arr i≤vA key arr sb:=fun i a b=>by
  have:=c1 (i-sa) (by omega)
  rwa [show sa+(i-sa)=i by omega] at this
 have d2:∀j,sb+bC≤j→j<sb+nb→vA key arr (sb-1)≤vA key arr j:=fun j a b=>by
  have:=c2 (j-sb) (by omega) (by omega)
  rwa [show sb+(j-sb)=j by omega] at this
 refine ⟨rl,fun i j h1 h2 h3=>?_⟩;by_cases i1:i<sa+a7
 ·rw [vo i (.inl i1)]
  by_cases j1:j<sa+a7
  ·rw [vo j (.inl j1)]
   exact s1 i j h1 h2 (by omega)
  ·by_cases j2:j<sb+bC
   ·obtain ⟨q,q1,q2,e⟩:=vq j (by omega) j2
    rw [e];by_cases q3:q<sb;·exact s1 i q h1 (by omega) q3
    ·exact cx (d1 i h1 i1) (s2 sb q (aG _) (by omega) (by omega))
   ·rw [vo j (.inr (by omega))]
    exact cx (d1 i h1 i1) (s2 sb j (aG _) (by omega) h3)
 ·by_cases i2:i<sb+bC
  ·by_cases j2:j<sb+bC
   ·obtain ⟨x1,e1⟩:=vm i (by omega) i2
    obtain ⟨x2,e2⟩:=vm j (by omega) j2
    rw [e1,e2];by_cases z:i=j;·subst z;exact ip _
    ·exact pC.mp sm _ _ x1 x2 (by omega)
   ·obtain ⟨q,q1,q2,e⟩:=vq i (by omega) i2
    rw [e,vo j (.inr (by omega))]
    by_cases q3:q<sb;·exact cx (s1 q (sb-1) (by omega) (by omega) (by omega)) (d2 j (by omega) h3)
    ·exact s2 q j (by omega) (by omega) h3
  ·rw [vo i (.inr (by omega)),vo j (.inr (by omega))]
   exact s2 i j (by omega) h2 h3
theorem Ee(h:fZ prog w A s κ key Ok)(ok:dh Ok arr){pw iM:Nat}(e1:pend[i]?=some (sa,na,pw))(e2:pend[i+1]?=some (sa+na,nb,iM))(Ed:1≤na)(qJ:1≤nb)(hz:sa+na+nb≤arr.size)
  (s1:bQ key arr sa (sa+na)) (s2:bQ key arr (sa+na) (sa+na+nb)) {Q:Bool→SortSt→Prop}
  (k:∀aN g',Rl arr aN sa (sa+na+nb)→bQ key aN sa (sa+na+nb)→Q true (aV κ aN ((pend.setIfInBounds i (sa,na+nb,pw)).eraseIdxIfInBounds (i+1)) g')):wpS (model prog w) A E s (mergeAt' i) Q (aV κ arr pend g):=by
 rw [D_];refine ao (fu ?_);have j4:(pendingOf (aV κ arr pend g))[i]?=some (sa,na,pw):=e1;have Ef:(pendingOf (aV κ arr pend g))[i+1]?=some (sa+na,nb,iM):=e2;rw [j4,Ef];dsimp only;refine ao (Eb ?_);refine ao (a9 (by show sa+na<arr.size;omega) ?_)
 refine ao (fb (f:=fun j=>bB false (vA key arr (sa+na)) (vA key arr (sa+j))) (fun j hj Q q=>e_ (κ:=κ) h (by show sa+j<arr.size;omega) ok (ok _ (by omega)) rfl q) (by omega) ?_ fun t t1 t2 t3=>?_)
 ·intro i j h1 h2 h3
  have:vA key arr (sa+i)≤vA key arr (sa+na):=cx (s1 _ _ (by omega) (by omega) (by omega)) (hU h3)
  show (!decide (vA key arr (sa+na)<vA key arr (sa+i)))=true;simpa using this
 dsimp only;by_cases z1:(na-t == 0)=true
 ·rw [aj z1]
  have tz:t=na:=by have:=eq_of_beq z1;omega
  subst tz;refine ak (k arr g (Rl.refl ..) fun i j h1 h2 h3=>?_);by_cases i1:i<sa+t
  ·by_cases j1:j<sa+t
   ·exact s1 i j h1 h2 j1
   ·have:=hU (t2 (i-sa) (by omega))
    rw [show sa+(i-sa)=i by omega] at this
    exact cx this (s2 _ _ (aG _) (by omega) (by omega))
  ·exact s2 i j (by omega) h2 (by omega)
 rw [ai z1];have tn:t<na:=by
  have:na-t≠0:=fun e=>z1 (by simp [e])
  omega
 refine ao (a9 (by show sa+t+(na-t)-1<arr.size;omega) ?_)
 have el:sa+t+(na-t)-1=sa+na-1:=by omega
 rw [el];refine ao (fb (f:=fun j=>bB true (vA key arr (sa+na-1)) (vA key arr (sa+na+j))) (fun j hj Q q=>e_ (κ:=κ) h (by show sa+na+j<arr.size;omega) ok (ok _ (by omega)) rfl q) (by omega) ?_ fun u u1 u2 u3=>?_)
 ·intro i j h1 h2 h3
  exact aW (Int.lt_of_le_of_lt (s2 _ _ (by omega) (by omega) (by omega)) (eE h3))
 dsimp only;have Eg:=jk (t3 (na-1) (by omega) (by omega))
 rw [show sa+(na-1)=sa+na-1 by omega] at Eg
 by_cases z2:(u == 0)=true
 ·exfalso
  have:=fc (u3 0 (by have:=eq_of_beq z2;omega) (by omega))
  rw [Nat.add_zero] at this;omega
 rw [ai z2];have un:1≤u:=by
  have:u≠0:=fun e=>z2 (by simp [e])
  omega
 have ox:=yS ok (lo:=sa+t) (hi:=sa+na) (by omega)
 have oy:=yS ok (lo:=sa+na) (hi:=sa+na+u) (by omega)
 have sx:aY key (arr.extract (sa+t) (sa+na)).toList:=yR (fun i j h1 h2 h3=>s1 i j (by omega) h2 h3) (by omega)
 have sy:aY key (arr.extract (sa+na) (sa+na+u)).toList:=yR (fun i j h1 h2 h3=>s2 i j h1 h2 (by omega)) (by omega)
 have zx:(arr.extract (sa+t) (sa+na)).size=na-t:=by simp;omega
 have zy:(arr.extract (sa+na) (sa+na+u)).size=u:=by simp;omega
 have h0:∀x∈(arr.extract (sa+t) (sa+na)).toList,key ((arr.extract (sa+na) (sa+na+u)).getD 0 nn)≤key x:=fun x hx=>by
  obtain ⟨j,j1,j2,rfl⟩:=ext_mem (by omega) hx
  rw [uk (by omega) (by omega),Nat.add_zero]
  have:=jk (t3 (j-sa) (by omega) (by omega))
  rw [show sa+(j-sa)=j by omega] at this
  exact cf this
 have hl:∀y∈(arr.extract (sa+na) (sa+na+u)).toList,key y≤key ((arr.extract (sa+t) (sa+na)).getD ((arr.extract (sa+t) (sa+na)).size-1) nn):=fun y hy=>by
  obtain ⟨j,j1,j2,rfl⟩:=ext_mem (by omega) hy
  rw [zx,uk (by omega) (by omega),show sa+t+(na-t-1)=sa+na-1 by omega]
  have:=eE (u2 (j-(sa+na)) (by omega))
  rw [show sa+na+(j-(sa+na))=j by omega] at this
  exact cf this
 have fin:∀(m:Array Keyed) (g':Nat),m.toList.Perm ((arr.extract (sa+t) (sa+na)).toList++(arr.extract (sa+na) (sa+na+u)).toList)→aY key m.toList→Q true (aV κ (putL m.toList (sa+t) arr 0) ((pend.setIfInBounds i (sa,na+nb,pw)).eraseIdxIfInBounds (i+1)) g'):=fun m g' pm sm=>by obtain ⟨rl,sg⟩:=Ec (sb:=sa+na) hz rfl (iW tn) u1 pm sm s1 s2 tn qJ (fun i hi=>hU (t2 i hi)) (fun i h1 h2=>fc (u3 i h1 h2));exact k _ g' rl sg
 refine cV (fun _=>?_) (fun _=>?_)
 ·refine ao (DW (κ:=κ) h ox oy sx sy (by omega) (by omega) h0 hl rfl fun m g' pm sm=>?_)
  exact ao (gp (ao (fu (ak (fin m g' pm sm)))))
 ·refine ao (D3 (κ:=κ) h ox oy sx sy (by omega) (by omega) h0 hl rfl fun m g' pm sm=>?_)
  exact ao (gp (ao (fu (ak (fin m g' pm sm)))))
end
def bN(key:Keyed→Int)(arr:Array Keyed):List (Nat×Nat×Nat)→Nat→Nat→Prop
 | [],lo,hi=>lo=hi
 | p::r,lo,hi=>p.1=lo∧1≤p.2.1∧bQ key arr lo (lo+p.2.1)∧bN key arr r (lo+p.2.1) hi
section
variable {key:Keyed→Int} {arr aN:Array Keyed}
theorem bN.le:∀{l:List (Nat×Nat×Nat)} {lo hi:Nat},bN key arr l lo hi→lo+l.length≤hi
 | [],lo,hi,h=>by have:lo=hi:=h;simp;omega
 | p::r,lo,hi,h=>by have:=bN.le h.2.2.2;have:=h.2.1;simp only [gk];omega
variable {hi:Nat}
theorem bQ.dg{lo a b:Nat}(h:bQ key arr lo hi)(rl:Rl arr aN a b)(d:hi≤a∨b≤lo):bQ key aN lo hi:=fun i j h1 h2 h3=>by
 rw [rl.v (by omega),rl.v (by omega)]
 exact h i j h1 h2 h3
theorem bN.dg:∀{l:List (Nat×Nat×Nat)} {lo hi a b:Nat},bN key arr l lo hi→Rl arr aN a b→hi≤a∨b≤lo→bN key aN l lo hi
 | [],lo,hi,a,b,h,_,_=>h
 | p::r,lo,hi,a,b,h,rl,d=>by have:=h.2.2.2.le;refine ⟨h.1,h.2.1,h.2.2.1.dg rl (by omega),h.2.2.2.dg rl (by omega)⟩
theorem bN.snoc:∀{l:List (Nat×Nat×Nat)} {lo hi n pw:Nat},bN key arr l lo hi→1≤n→bQ key arr hi (hi+n)→bN key arr (l++[(hi,n,pw)]) lo (hi+n)
 | [],lo,hi,n,pw,h,n1,s=>by obtain rfl:lo=hi:=h;exact ⟨rfl,n1,s,rfl⟩
 | p::r,lo,hi,n,pw,h,n1,s=>⟨h.1,h.2.1,h.2.2.1,h.2.2.2.snoc n1 s⟩
theorem bN.two:∀{l:List (Nat×Nat×Nat)} {lo hi i:Nat},bN key arr l lo hi→i+1<l.length→∃sa na pw nb iM,l[i]?=some (sa,na,pw)∧l[i+1]?=some (sa+na,nb,iM)∧1≤na∧1≤nb∧lo≤sa∧sa+na+nb≤hi∧bQ key arr sa (sa+na)∧bQ key arr (sa+na) (sa+na+nb) ∧
  ∀aN,Rl arr aN sa (sa+na+nb)→bQ key aN sa (sa+na+nb)→bN key aN ((l.set i (sa,na+nb,pw)).eraseIdx (i+1)) lo hi
 | [],lo,hi,i,h,bw=>by simp at bw
 | [p],lo,hi,i,h,bw=>by simp at bw
 | p::q::r,lo,hi,0,h,_=>by
  obtain ⟨p1,p2,pw⟩:=p;obtain ⟨q1,q2,iM⟩:=q;obtain ⟨e1,n1,s1,e2,n2,s2,c⟩:=h;dsimp only at e1 n1 s1 e2 n2 s2 c;subst e1;subst e2;have:=c.le;refine ⟨p1,p2,pw,q2,iM,rfl,rfl,n1,n2,aG _,by omega,s1,s2,fun aN rl sg=>?_⟩
  show bN key aN ((p1,p2+q2,pw)::r) p1 hi;refine ⟨rfl,by show 1≤p2+q2;omega,by show bQ key aN p1 (p1+(p2+q2));rw [←Nat.add_assoc];exact sg,?_⟩
  show bN key aN r (p1+(p2+q2)) hi;rw [←Nat.add_assoc];exact c.dg rl (.inr (aG _))
 | p::q::r,lo,hi,i+1,h,bw=>by
  obtain ⟨sa,na,pw,nb,iM,e1,e2,n1,n2,l1,l2,s1,s2,k⟩:=h.2.2.2.two (i:=i) (by simpa using bw)
  refine ⟨sa,na,pw,nb,iM,e1,e2,n1,n2,by omega,l2,s1,s2,fun aN rl sg=>?_⟩
  exact ⟨h.1,h.2.1,h.2.2.1.dg rl (.inl l1),k aN rl sg⟩
theorem bN.last:∀{l:List (Nat×Nat×Nat)} {lo hi pw:Nat},bN key arr l lo hi→bN key arr (l.modify (l.length-1) fun x=>(x.1,x.2.1,pw)) lo hi
 | [],lo,hi,pw,h=>h
 | [p],lo,hi,pw,h=>h
 | p::q::r,lo,hi,pw,h=>⟨h.1,h.2.1,h.2.2.1,h.2.2.2.last⟩
theorem bN.one{l:List (Nat×Nat×Nat)}(h:bN key arr l 0 hi)(hl:l.length≤1):bQ key arr 0 hi:=by
 match l,h,hl with
 | [],h,_=>have:0=hi:=h;exact fun i j h1 h2 h3=>by omega
 | [p],h,_=>have:=h.2.2.1;have e:0+p.2.1=hi:=h.2.2.2;rw [←e];exact this
 | p::q::r,_,hl=>simp at hl
end
section
variable {prog:Program} {w:World} {A:Around} {E:aE} {s:Shared} {κ:SortKind} {key:Keyed→Int} {Ok:Keyed→Prop} {arr:Array Keyed} {pend:Array (Nat×Nat×Nat)} {g:Nat}
theorem um(h:fZ prog w A s κ key Ok)(ok:dh Ok arr){hi:Nat}(c:bN key arr pend.toList 0 hi)(hz:hi≤arr.size)(bw:i+1<pend.size){Q:Bool→SortSt→Prop}
  (k:∀aN uo g',Rl arr aN 0 hi→bN key aN uo.toList 0 hi→uo.size+1=pend.size→Q true (aV κ aN uo g')):wpS (model prog w) A E s (mergeAt' i) Q (aV κ arr pend g):=by
 obtain ⟨sa,na,pw,nb,iM,e1,e2,n1,n2,l1,l2,s1,s2,kk⟩:=c.two (i:=i) (by simpa using bw)
 refine Ee h ok (by simpa using e1) (by simpa using e2) n1 n2 (by omega) s1 s2 fun aN g' rl sg=>?_
 refine k _ _ _ (rl.wide (dj _) l2) ?_ ?_
 ·have:=kk aN rl sg
  simpa using this
 ·rw [←fN,Array.toList_eraseIdxIfInBounds,List.length_eraseIdx,aj (by simpa using bw)]
  simp;omega
theorem Eh(h:fZ prog w A s κ key Ok)(ok:dh Ok arr){Q:Unit→SortSt→Prop}
  (k:∀aN av,aN.Perm arr→bQ key aN 0 arr.size→arrOf av=aN→failedOf av=none→Q () av):wpS (model prog w) A E s sortRuns' Q (aV κ arr #[] g):=by
 rw [sortRuns'_eq];refine ao (fu ?_);dsimp only;have es:(arrOf (aV κ arr #[] g)).size=arr.size:=rfl;rw [es]
 refine ao (dD (dm (I:=fun x c av=>∃(aD:Array Keyed) (cP:Array (Nat×Nat×Nat)) (g2 lo:Nat),av=aV κ aD cP g2∧c=(none,lo)∧aD.Perm arr∧bN key aD cP.toList 0 lo∧lo≤arr.size∧x≤lo)
  (Q:=fun c av=>∃(aD:Array Keyed) (cP:Array (Nat×Nat×Nat)) (g2:Nat),av=aV κ aD cP g2∧c=(none,arr.size)∧aD.Perm arr∧bN key aD cP.toList 0 arr.size) ?_ ?_ ⟨arr,#[],g,0,rfl,rfl,Array.Perm.refl _,rfl,dj _,aG _⟩) ?_)
 ·rintro x c av _ hx ⟨aD,cP,g2,lo,rfl,rfl,jm,ke,l1,l2⟩
  have iL:=lW ok jm;have z2:=jm.size_eq;dsimp only;by_cases z:lo≥arr.size
  ·rw [aj z]
   obtain rfl:lo=arr.size:=by omega
   exact ak ⟨aD,cP,g2,rfl,rfl,jm,ke⟩
  rw [ai z];refine ao (D5 h iL (by omega) (by omega) fun n bL n1 nn gM sg=>?_)
  have cQ:=gM.pm.trans jm;have yT:=lW ok cQ;have z3:=cQ.size_eq;have fe:=ke.dg gM (.inl (aG _));dsimp only;by_cases y:n<minRun' arr.size arr.size 0
  ·rw [aj y]
   refine ao (wpS_lift (gU ⟨rfl,?_⟩));refine ao (D9 h yT (n:=min (arr.size-lo) (minRun' arr.size arr.size 0)) (by omega) n1 (by omega) sg fun aQ bq dM=>?_)
   rw [ai (by simp)]
   have dN:=fe.dg bq (.inl (aG _));have uq:=bq.pm.trans cQ;clear fe cQ yT z3 sg gM bq;have f1:1≤min (arr.size-lo) (minRun' arr.size arr.size 0):=by omega
   have f2:lo+min (arr.size-lo) (minRun' arr.size arr.size 0)≤arr.size:=by omega
   generalize min (arr.size-lo) (minRun' arr.size arr.size 0)=fo at dM f1 f2 ⊢
   revert dN uq dM
   generalize aQ=bL;intro fe cQ dM;refine ao (fu ?_);have eb:(pendingOf (aV κ bL cP g2)).back?=cP.back?:=rfl;rw [eb];cases cP.back? with
   | none=>dsimp only;exact ao (gp (ak ⟨bL,cP.push (lo,fo,0),g2,lo+fo,rfl,rfl,cQ,by rw [i4];exact fe.snoc f1 dM,f2,by have:=f1;omega⟩))
   | some p=>
    obtain ⟨Ei,Ej,Ek⟩:=p;dsimp only;have z3:=cQ.size_eq
    refine ao (dD (dm (I:=fun y c av=>∃(aQ:Array Keyed) (bb:Array (Nat×Nat×Nat)) (g4:Nat),av=aV κ aQ bb g4∧c=(none,())∧Rl bL aQ 0 lo∧bN key aQ bb.toList 0 lo)
     (Q:=fun c av=>∃(aQ:Array Keyed) (bb:Array (Nat×Nat×Nat)) (g4:Nat),av=aV κ aQ bb g4∧c=(none,())∧Rl bL aQ 0 lo∧bN key aQ bb.toList 0 lo) ?_ (fun c av hh=>hh) ⟨bL,cP,g2,rfl,rfl,Rl.refl ..,fe⟩) ?_)
    ·rintro y c av _ hy ⟨aQ,bb,g4,rfl,rfl,bq,dN⟩
     have z4:=bq.size;refine ao (fu ?_);have hx:∀o,o=(if (pendingOf (aV κ aQ bb g4)).size>1 then (pendingOf (aV κ aQ bb g4))[(pendingOf (aV κ aQ bb g4)).size-2]? else none)→o.isSome=true→bb.size>1:=fun o ho hs=>by
      by_cases z:bb.size>1;·exact z
      ·rw [ai z] at ho
       rw [ho] at hs;cases hs
     generalize eo:(if (pendingOf (aV κ aQ bb g4)).size>1 then (pendingOf (aV κ aQ bb g4))[(pendingOf (aV κ aQ bb g4)).size-2]? else none)=o
     cases o with
     | none=>exact ak ⟨aQ,bb,g4,rfl,rfl,bq,dN⟩
     | some p=>
      have gt:=hx _ eo.symm rfl;obtain ⟨q1,q2,El⟩:=p;dsimp only;refine cV (fun _=>ak ⟨aQ,bb,g4,rfl,rfl,bq,dN⟩) (fun _=>?_);refine ao (um h (lW ok (bq.pm.trans cQ)) dN (by omega) (show bb.size-2+1<bb.size by omega) fun ur uu g5 uv uw _=>?_)
      rw [ai (by simp)]
      exact ak ⟨ur,uu,g5,rfl,rfl,bq.trans uv,uw⟩
    ·rintro c av ⟨aQ,bb,g4,rfl,rfl,bq,dN⟩
     dsimp only;refine ao (gp (ao (gp (ak ⟨aQ,_,g4,lo+fo,rfl,rfl,bq.pm.trans cQ,?_,f2,by have:=f1;omega⟩))))
     rw [i4];refine bN.snoc ?_ f1 (bQ.dg dM bq (.inr (aG _)));rw [Array.toList_modify];exact dN.last
  ·rw [ai y]
   have f2:lo+n≤arr.size:=by omega
   refine ao (fu ?_);have eb:(pendingOf (aV κ bL cP g2)).back?=cP.back?:=rfl;rw [eb];cases cP.back? with
   | none=>dsimp only;exact ao (gp (ak ⟨bL,cP.push (lo,n,0),g2,lo+n,rfl,rfl,cQ,by rw [i4];exact fe.snoc n1 sg,f2,by have:=n1;omega⟩))
   | some p=>
    obtain ⟨Ei,Ej,Ek⟩:=p;dsimp only;have z3:=cQ.size_eq
    refine ao (dD (dm (I:=fun y c av=>∃(aQ:Array Keyed) (bb:Array (Nat×Nat×Nat)) (g4:Nat),av=aV κ aQ bb g4∧c=(none,())∧Rl bL aQ 0 lo∧bN key aQ bb.toList 0 lo)
     (Q:=fun c av=>∃(aQ:Array Keyed) (bb:Array (Nat×Nat×Nat)) (g4:Nat),av=aV κ aQ bb g4∧c=(none,())∧Rl bL aQ 0 lo∧bN key aQ bb.toList 0 lo) ?_ (fun c av hh=>hh) ⟨bL,cP,g2,rfl,rfl,Rl.refl ..,fe⟩) ?_)
    ·rintro y c av _ hy ⟨aQ,bb,g4,rfl,rfl,bq,dN⟩
     have z4:=bq.size;refine ao (fu ?_);have hx:∀o,o=(if (pendingOf (aV κ aQ bb g4)).size>1 then (pendingOf (aV κ aQ bb g4))[(pendingOf (aV κ aQ bb g4)).size-2]? else none)→o.isSome=true→bb.size>1:=fun o ho hs=>by
      by_cases z:bb.size>1;·exact z
      ·rw [ai z] at ho
       rw [ho] at hs;cases hs
     generalize eo:(if (pendingOf (aV κ aQ bb g4)).size>1 then (pendingOf (aV κ aQ bb g4))[(pendingOf (aV κ aQ bb g4)).size-2]? else none)=o
     cases o with
     | none=>exact ak ⟨aQ,bb,g4,rfl,rfl,bq,dN⟩
     | some p=>
      have gt:=hx _ eo.symm rfl;obtain ⟨q1,q2,El⟩:=p;dsimp only;refine cV (fun _=>ak ⟨aQ,bb,g4,rfl,rfl,bq,dN⟩) (fun _=>?_);refine ao (um h (lW ok (bq.pm.trans cQ)) dN (by omega) (show bb.size-2+1<bb.size by omega) fun ur uu g5 uv uw _=>?_)
      rw [ai (by simp)]
      exact ak ⟨ur,uu,g5,rfl,rfl,bq.trans uv,uw⟩
    ·rintro c av ⟨aQ,bb,g4,rfl,rfl,bq,dN⟩
     dsimp only;refine ao (gp (ao (gp (ak ⟨aQ,_,g4,lo+n,rfl,rfl,bq.pm.trans cQ,?_,f2,by have:=n1;omega⟩))))
     rw [i4];refine bN.snoc ?_ n1 (bQ.dg sg bq (.inr (aG _)));rw [Array.toList_modify];exact dN.last
 ·rintro c av ⟨aD,cP,g2,lo,rfl,rfl,jm,ke,l1,l2⟩
  obtain rfl:lo=arr.size:=by omega
  exact ⟨aD,cP,g2,rfl,rfl,jm,ke⟩
 ·rintro c av ⟨aD,cP,g2,rfl,rfl,jm,ke⟩
  dsimp only;have pz:=ke.le
  refine ao (dD (dm (I:=fun x c av=>∃(bL:Array Keyed) (cR:Array (Nat×Nat×Nat)) (g3:Nat),av=aV κ bL cR g3∧c=(none,())∧bL.Perm arr∧bN key bL cR.toList 0 arr.size∧cR.size+x≤arr.size)
   (Q:=fun c av=>∃(bL:Array Keyed) (cR:Array (Nat×Nat×Nat)) (g3:Nat),av=aV κ bL cR g3∧c=(none,())∧bL.Perm arr∧bN key bL cR.toList 0 arr.size∧cR.size≤1) ?_ ?_ ⟨aD,cP,g2,rfl,rfl,jm,ke,show cP.size+0≤arr.size by simpa using pz⟩) ?_)
  ·rintro x c av _ hx ⟨bL,cR,g3,rfl,rfl,cQ,fe,l3⟩
   have z3:=cQ.size_eq;refine ao (fu ?_);by_cases z:(pendingOf (aV κ bL cR g3)).size≤1
   ·rw [aj z]
    exact ak ⟨bL,cR,g3,rfl,rfl,cQ,fe,z⟩
   ·rw [ai z]
    have z':1<cR.size:=Nat.lt_of_not_le z;have go:∀i,i+1<cR.size→wpS (model prog w) A E s (mergeAt' i) (fun b av=>b=true∧∃(aQ:Array Keyed) (bb:Array (Nat×Nat×Nat)) (g4:Nat),av=aV κ aQ bb g4∧aQ.Perm arr∧bN key aQ bb.toList 0 arr.size∧bb.size+(x+1)≤arr.size) (aV κ bL cR g3):=fun i hi=>by refine um h (lW ok cQ) fe (by omega) hi fun aQ bb g4 bq dN sz=>⟨rfl,aQ,bb,g4,rfl,bq.pm.trans cQ,dN,by omega⟩
    refine ao (dD (go _ ?_) ?_)
    ·show (if _ then _ else _)+1<cR.size
     have e:(pendingOf (aV κ bL cR g3)).size=cR.size:=rfl;rw [e];have:∀c:Bool,(if c=true then cR.size-2-1 else cR.size-2)+1<cR.size:=fun c=>by cases c <;> simp <;> omega
     exact this _
    ·rintro b av ⟨rfl,aQ,bb,g4,rfl,uq,dN,l4⟩
     rw [ai (by simp)]
     exact ak ⟨aQ,bb,g4,rfl,rfl,uq,dN,l4⟩
  ·rintro c av ⟨bL,cR,g3,rfl,rfl,cQ,fe,l3⟩
   exact ⟨bL,cR,g3,rfl,rfl,cQ,fe,by omega⟩
  ·rintro c av ⟨bL,cR,g3,rfl,rfl,cQ,fe,l3⟩
   exact ak (k bL _ cQ (fe.one (by simpa using l3)) rfl rfl)
end
end Tm
namespace My
open PySem PySem.W PyProof.Rows Tm
section
variable {prog:Program} {w:World} {A:Around} {E:aE} {s:Shared}
def c_(h:Heap)(v:Value)(x y:Int):Prop:=∃a o t u e,v=.ref a∧h.get? a=some o∧o.cls=.type "tuple"∧o.data=.seq #[.int x t,.int y u] e
variable {x y x' y':Int}
theorem Em{v v':Value}(h1:c_ s.heap v x y)(h2:c_ s.heap v' x' y'){Q:Bool→Shared→Prop}(h:Q (decide (x<x'∨x=x'∧y<y')) s):wpAny (model prog w) A (keyLt' (tuples' true) v v') Q E s:=by
 obtain ⟨a,o,t,u,e,rfl,g,_,d⟩:=h1;obtain ⟨a',o',t',u',e',rfl,g',_,d'⟩:=h2;refine kat_lt g d g' d' ?_;show KatLex prog w A true (decide (2<2)) Q [(.int x t,.int x' t'),(.int y u,.int y' u')] 0 s;refine kat_cons (wpAny_eqBool_int ?_);by_cases z:x=x'
 ·subst z
  rw [show (x == x)=true by simp]
  refine kat_yes (kat_cons (wpAny_eqBool_int ?_));by_cases z2:y=y'
  ·subst z2
   rw [show (y == y)=true by simp]
   refine kat_yes (kat_nil ?_);rw [bt (by omega)] at h
   exact h
  ·rw [show (y == y')=false by simp [z2]]
   refine kat_no ?_;show wpAny (model prog w) A (oneLt' false (.int y u) (.int y' u')) Q _ s;refine kat_one _ _ (lt_int ?_);show Q (decide (y<y')) s;rw [show decide (y<y')=decide (x<x∨x=x∧y<y') from jF.mpr (by omega)]
   exact h
 ·rw [show (x == x')=false by simp [z]]
  refine kat_no ?_;show wpAny (model prog w) A (oneLt' true (.int x t) (.int x' t')) Q _ s;refine oneLt_int ?_;rw [show decide (x<x')=decide (x<x'∨x=x'∧y<y') from jF.mpr (by omega)]
  exact h
theorem yU{h:Heap}:∀{vs:List Value},(∀v∈vs,∃x y,c_ h v x y)→∃fs:List Value,KatTups h vs fs∧fs.length=vs.length∧∀f∈fs,∃n t,f=.int n t
 | [],_=>⟨[],.nil,rfl,fun f hf=>by cases hf⟩
 | v::vs,hv=>by
  obtain ⟨fs,k,l,i⟩:=yU (vs:=vs) fun v h=>hv v (gQ _ h);obtain ⟨x,y,a,o,t,u,e,rfl,g,c,d⟩:=hv v ig;refine ⟨.int x t::fs,.cons g c d rfl k,by rw [gk,gk,l],fun f hf=>?_⟩
  rcases cN.mp hf with rfl | hf;·exact ⟨x,t,rfl⟩
  ·exact i f hf
theorem perm_back{α β:Type}{f:α→β}{l m:List β}(h:l.Perm m):∀q:List α,m=q.map f→∃p:List α,p.Perm q∧l=p.map f:=by
 induction h with
 | nil=>intro q e;exact ⟨q,List.Perm.refl _,e⟩
 | cons x _ ih=>
  intro q e
  match q,e with
  | a::q,e=>obtain ⟨rfl,e'⟩:=List.cons.inj e;obtain ⟨p,hp,rfl⟩:=ih q e';exact ⟨a::p,hp.cons a,rfl⟩
 | swap x y _=>
  intro q e
  match q,e with
  | a::b::q,e=>obtain ⟨rfl,e'⟩:=List.cons.inj e;obtain ⟨rfl,rfl⟩:=List.cons.inj e';exact ⟨b::a::q,List.Perm.swap ..,rfl⟩
 | trans _ _ Eo Ep=>intro q e;obtain ⟨p,hp,e1⟩:=Ep q e;obtain ⟨p',jo,e2⟩:=Eo p e1;exact ⟨p',jo.trans hp,e2⟩
variable {h:Heap}
theorem c_.uniq{v:Value}(h1:c_ h v x y)(h2:c_ h v x' y'):x=x'∧y=y':=by obtain ⟨a,o,t,u,e,rfl,g,_,d⟩:=h1;obtain ⟨a',o',t',u',e',ev,g',_,d'⟩:=h2;cases ev;rw [g] at g';cases g';rw [d] at d';simp at d';exact ⟨d'.1.1.1,d'.1.2.1⟩
open Classical in
noncomputable def ux (h:Heap) (k:Keyed):Int:=if e:∃z:Int×Int,c_ h k.1 z.1 z.2 then (choose e).1*1000+(choose e).2 else 0
theorem qK{v u:Value}(p:c_ h v x y):ux h (v,u)=x*1000+y:=by have e:∃z:Int×Int,c_ h (v,u).1 z.1 z.2:=⟨(x,y),p⟩;unfold ux;rw [dif_pos e];obtain ⟨a,b⟩:=(Classical.choose_spec e).uniq p;rw [a,b]
variable {vs:List Value}
theorem Er{x y:Nat→Int}(h2:2≤vs.length)(hv:∀i v,vs[i]?=some v→c_ s.heap v (x i) (y i)∧0≤y i∧y i<1000){Q:SortSt→Shared→Prop}
  (hQ:∀(p:Array Nat) (st:SortSt),iH vs.length p→j6 (fun i=>x i*1000+y i) p vs.length→(arrOf st).map (·.2)=List.toArray (p.toList.map fun i=>vs.getD i Value.none)→failedOf st=none→Q st s) :
  wpAny (model prog w) A (sortRuns'.run (SortSt.mk' (tuples' true) (vs.toArray.zip vs.toArray) #[] 7 none)) (fun r s'=>Q r.2 s') E s:=by
 have az:(vs.toArray.zip vs.toArray).size=vs.length:=by simp
 have ag:∀i,i<vs.length→(vs.toArray.zip vs.toArray).getD i nn=(vs.getD i Value.none,vs.getD i Value.none):=fun i hi=>by simp [Array.getD,hi]
 have ga:∀i (hi:i<vs.length),c_ s.heap (vs.getD i Value.none) (x i) (y i)∧0≤y i∧y i<1000:=fun i hi=>by refine hv i _ ?_;simp [hi]
 have lt:fZ prog w A s (tuples' true) (ux s.heap) (fun k=>∃a b,c_ s.heap k.1 a b∧0≤b∧b<1000):=by
  rintro ⟨u,u'⟩ ⟨v,v'⟩ ⟨a,b,p1,b0,b1⟩ ⟨c,d,p2,d0,d1⟩ C hC;refine Em p1 p2 ?_;rw [qK p1,qK p2] at hC;rw [show decide (a<c∨a=c∧b<d)=decide (a*1000+b<c*1000+d) from jF.mpr (by omega)]
  exact hC
 have ok:dh (fun k=>∃a b,c_ s.heap k.1 a b∧0≤b∧b<1000) (vs.toArray.zip vs.toArray):=fun i hi=>by rw [az] at hi;rw [ag i hi];exact ⟨_,_,ga i hi⟩
 refine bj (Eh (E:=E) (Q:=fun _ st=>Q st s) (g:=7) lt ok fun aN st pm sg ha hf=>?_) (fun r s' h'=>by obtain ⟨rfl,h'⟩:=h';exact h') fun _ _ e=>e
 have el:(vs.toArray.zip vs.toArray).toList=(List.range vs.length).map fun i=>(vs.getD i Value.none,vs.getD i Value.none):=by
  refine lu (by simp) fun i h1 h2=>?_
  have hi:i<vs.length:=by simpa using h2
  simp [hi]
 obtain ⟨p,hp,ep⟩:=perm_back (nj.mp pm) _ el;have pl:p.length=vs.length:=by rw [hp.length_eq,i3]
 have Es:∀i∈p,i<vs.length:=fun i hi=>cX.mp (hp.mem_iff.mp hi);have fV:aN.size=vs.length:=by rw [pm.size_eq,az]
 have gd:∀i,i<vs.length→aN.getD i nn=(vs.getD (p.toArray.getD i 0) Value.none,vs.getD (p.toArray.getD i 0) Value.none)∧p.toArray.getD i 0<vs.length:=fun i hi=>by
  have e1:aN.getD i nn=aN.toList[i]'(by simp;omega):=by simp [Array.getD,show i<aN.size by omega]
  have e2:p.toArray.getD i 0=p[i]'(by omega):=by simp [Array.getD,show i<p.length by omega]
  rw [e1,e2];refine ⟨?_,Es _ (fq _)⟩;simp [ep]
 refine hQ p.toArray st (nj.mpr (by simpa using hp)) (fun i j h1 h3=>?_) ?_ hf
 ·have:=sg i j (dj _) h1 (by rw [az];exact h3)
  unfold vA at this;obtain ⟨e1,l1⟩:=gd i (by omega)
  obtain ⟨e2,l2⟩:=gd j h3;rw [e1,e2,qK (ga _ l1).1,qK (ga _ l2).1] at this;exact this
 ·rw [ha]
  apply Array.toList_inj.mp;rw [Array.toList_map,ep,lA];rfl
theorem Et{Q:SortKind→Shared→Prop}(h1:1≤vs.length)(hv:∀v∈vs,∃x y,c_ s.heap v x y)(h:Q (tuples' true) s):wpAny (model prog w) A (keyKind' vs.toArray) Q E s:=by
 obtain ⟨fs,k,l,i⟩:=yU hv;refine kat_kind (T:=Value.type "int") k (by omega) (fun v hv=>?_) rfl h
 obtain ⟨n,t,rfl⟩:=i v hv;exact .now
theorem c_.mono{h':Heap}{v:Value}(k:∀b o,h.get? b=some o→h'.get? b=some o)(p:c_ h v x y):c_ h' v x y:=by obtain ⟨a,o,t,u,e,rfl,g,c,d⟩:=p;exact ⟨a,o,t,u,e,rfl,k _ _ g,c,d⟩
theorem Eu{a:Addr}{n:Nat}{x y:Nat→Int}{P:PySem.Fin→Shared→Prop}(ho:s.heap.get? a=some (seqObj "list" vs.toArray n))(uy:vs.length<2000)(hv:∀i v,vs[i]?=some v→c_ s.heap v (x i) (y i)∧0≤y i∧y i<1000)
  (h:∀(p:Array Nat),iH vs.length p→j6 (fun i=>x i*1000+y i) p vs.length→P (.done (.ret .none)) {s with heap:=sortedHeap s.heap a vs (List.toArray (p.toList.map fun i=>vs.getD i Value.none))}) :
  wpAny (model prog w) A (Builtin.«list.sort» ⟨[.ref a],[]⟩) P E s:=by
 have sl:vs.length≤sizeLine:=by rw [sizeLine_eq];omega
 have lt:=ba ho
 obtain ⟨e1,g1⟩:∃e,(s.heap.update a (Obj.mapSeq fun _=>#[])).get? a=some (seqObj "list" #[] e):=⟨_,get?_update_seq ho fun _=>#[]⟩
 have z1:(s.heap.update a (Obj.mapSeq fun _=>#[])).objs.size=s.heap.objs.size:=Heap.size_update _ _ _
 have up:∀b u,b<s.heap.objs.size→(s.heap.update a (Obj.mapSeq fun _=>#[])).get? b=some u→(((s.heap.update a (Obj.mapSeq fun _=>#[])).push (seqObj "tuple" vs.toArray 0)).push (seqObj "list" #[] 0)).get? b=some u:=fun b u hb hu=>by
  rw [lB _ _ _ (cB (by rw [size_push',z1];exact pE hb)),lB _ _ _ (cB (by rw [z1];exact hb))]
  exact hu
 have g3:=up a _ lt g1
 have yV:∀i v,vs[i]?=some v→c_ (((s.heap.update a (Obj.mapSeq fun _=>#[])).push (seqObj "tuple" vs.toArray 0)).push (seqObj "list" #[] 0)) v (x i) (y i)∧0≤y i∧y i<1000:=fun i v hi=>by
  obtain ⟨⟨b,o,t,u,e,rfl,g,cc,d⟩,y0⟩:=hv i v hi
  have nb:b≠a:=fun q=>by
   rw [q,ho] at g
   cases g
   exact absurd (Value.type.inj cc) (by decide)
  refine ⟨⟨b,o,t,u,e,rfl,up b o (ba g) ?_,cc,d⟩,y0⟩
  rw [pF _ _ _ _ nb]
  exact g
 rw [list_sort_plain]
 refine aA (listItems_at ho rfl (aA (listUpdate_at ho rfl ?_ (by rw [bS];omega) (dj _))))
 refine aA (seqEpoch_at g1 rfl (aA (wpAny_newTuple ?_ (by show vs.length≤_;omega))))
 refine aA (wpAny_newList (ik ?_) (dj _))
 show wpAny (model prog w) A _ P E {s with heap:=((s.heap.update a (Obj.mapSeq fun _=>#[])).push (seqObj "tuple" vs.toArray 0)).push (seqObj "list" #[] 0)}
 dsimp only
 have fin:∀(st:SortSt) (p:Array Nat),iH vs.length p→j6 (fun i=>x i*1000+y i) p vs.length→(arrOf st).map (·.2)=List.toArray (p.toList.map fun i=>vs.getD i Value.none)→failedOf st=none→
   wpAny (model prog w) A (do
    let touched:=(←seqEpoch a) != e1
    Builtin.List.listUpdate (.ref a) fun _=>(arrOf st).map (·.2)
    if let some e:=failedOf st then rule "list.sort.comparison-raised";throw e
    if touched then rule "list.sort.modified";raiseError "ValueError" "list modified during sort"
    ret .none) P E {s with heap:=((s.heap.update a (Obj.mapSeq fun _=>#[])).push (seqObj "tuple" vs.toArray 0)).push (seqObj "list" #[] 0)}:=fun st p hp hu ha hf=>by
  refine aA (seqEpoch_at g3 rfl (aA (listUpdate_at g3 rfl ?_ (dj _) ?_)))
  ·rw [hf,ha]
   simp only [bne_self_eq_false,Bool.false_eq_true,if_false]
   exact a_ (h p hp hu)
  ·rw [ha,bS,bz,fN,hp.size]
   omega
 by_cases z:vs.toArray.size<2
 ·rw [aj z,aj z]
  refine aA (a_ ?_)
  rw [StateT.run_pure]
  refine aA (a_ ?_)
  have len:vs.length<2:=by simpa using z
  refine fin _ (List.toArray (List.range vs.length)) (Array.Perm.refl _) (fun a b h1 h2=>by
   obtain rfl:a=b:=by omega
   exact ip _) ?_ rfl
  match vs,len with
  | [],_=>
   show Array.map (·.2) ((#[]:Array Value).zip #[])=_
   simp
  | [v],_=>
   show Array.map (·.2) (#[v].zip #[v])=_
   simp
 ·rw [ai z,ai z]
  have len:2≤vs.length:=by simpa using z
  refine aA (Et (by omega) (fun v hm=>?_) ?_)
  ·obtain ⟨i,hi,rfl⟩:=List.getElem_of_mem hm
   exact ⟨_,_,(yV i _ (by simp [hi])).1⟩
  ·refine aA (bj (Er (Q:=fun st s'=>s'={s with heap:=((s.heap.update a (Obj.mapSeq fun _=>#[])).push (seqObj "tuple" vs.toArray 0)).push (seqObj "list" #[] 0)}∧∃p,iH vs.length p∧j6 (fun i=>x i*1000+y i) p vs.length∧(arrOf st).map (·.2)=List.toArray (p.toList.map fun i=>vs.getD i Value.none)∧failedOf st=none) len yV fun p st a1 a2 a3 a4=>⟨rfl,p,a1,a2,a3,a4⟩) ?_ fun _ _ e=>e)
   rintro ⟨⟨⟩,st⟩ s' ⟨rfl,p,a1,a2,a3,a4⟩
   exact fin st p a1 a2 a3 a4
end
open PySem PySem.W PyProof.Rows
section
variable {prog:Program} {w:World} {A:Around} {E:aE} {s:Shared}
theorem Ew{l:Addr}{vs:List Value}{x y:Nat→Int}{Q:aE}(hl:s.heap.IsList l vs.toArray)(uy:vs.length<2000)(hv:∀i v,vs[i]?=some v→c_ s.heap v (x i) (y i)∧0≤y i∧y i<1000)
  (h:∀(p:Array Nat) (h':Heap) (c:Nat),iH vs.length p→j6 (fun i=>x i*1000+y i) p vs.length→(∀b o,s.heap.get? b=some o→h'.get? b=some o)→h'.get? (s.heap.objs.size+1)=some (seqObj "list" (List.toArray (p.toList.map fun i=>vs.getD i Value.none)) c)→Q (.ref (s.heap.objs.size+1)) {s with heap:=h'}) :
  wpAny (model prog w) A (call (.builtin "sorted") [.ref l]) Q E s:=by
 have sl:vs.length≤sizeLine:=by rw [sizeLine_eq];omega
 refine Calls.call_function_entry kind_sorted plain_sorted entry_sorted (args_sorted1 _) ?_;unfold Builtin.«sorted»;refine aA (m:=checkCount "sorted" 1 1 _) (a_ (aA (collect_list hl (aA (wpAny_newList ?_ sl)) sl)));have zz:((s.heap.push (seqObj "list" #[] 0)).update s.heap.objs.size (Obj.mapSeq (·++vs.toArray))).objs.size=s.heap.objs.size+1:=by rw [Heap.size_update,size_push']
 have kp:∀b o,s.heap.get? b=some o→(((s.heap.push (seqObj "list" #[] 0)).update s.heap.objs.size (Obj.mapSeq (·++vs.toArray))).push (seqObj "list" vs.toArray 0)).get? b=some o:=fun b o g=>by
  have lt:=ba g;rw [lB _ _ _ (cB (by rw [zz];exact pE lt)),pF _ _ _ _ (cB lt),lB _ _ _ (cB lt)]
  exact g
 have gL:(((s.heap.push (seqObj "list" #[] 0)).update s.heap.objs.size (Obj.mapSeq (·++vs.toArray))).push (seqObj "list" vs.toArray 0)).get? (s.heap.objs.size+1)=some (seqObj "list" vs.toArray 0):=by rw [←zz];exact dP _ rfl
 show wpAny _ _ _ _ _ {s with heap:=((s.heap.push (seqObj "list" #[] 0)).update s.heap.objs.size (Obj.mapSeq (·++vs.toArray))).push (seqObj "list" vs.toArray 0)};rw [zz];generalize ((s.heap.push (seqObj "list" #[] 0)).update s.heap.objs.size (Obj.mapSeq (·++vs.toArray))).push (seqObj "list" vs.toArray 0)=h1 at kp gL;refine aA (ik (jA slot_list_sort ⟨_,gL,rfl⟩ entry_list_sort (Eu (s:={s with heap:=h1}) gL uy (fun i v hi=>⟨(hv i v hi).1.mono kp,(hv i v hi).2⟩) fun p hp hu=>⟨_,rfl,?_⟩) (args_list_sort _)));have Ex:=ba gL;have z1:(h1.update (s.heap.objs.size+1) (Obj.mapSeq fun _=>#[])).objs.size=h1.objs.size:=Heap.size_update _ _ _;obtain ⟨e1,g1⟩:∃e,(h1.update (s.heap.objs.size+1) (Obj.mapSeq fun _=>#[])).get? (s.heap.objs.size+1)=some (seqObj "list" #[] e):=⟨_,get?_update_seq gL fun _=>#[]⟩;have up:∀b u,b<h1.objs.size→(h1.update (s.heap.objs.size+1) (Obj.mapSeq fun _=>#[])).get? b=some u→(((h1.update (s.heap.objs.size+1) (Obj.mapSeq fun _=>#[])).push (seqObj "tuple" vs.toArray 0)).push (seqObj "list" #[] 0)).get? b=some u:=fun b u hb hu=>by
  rw [lB _ _ _ (cB (by rw [size_push',z1];exact pE hb)),lB _ _ _ (cB (by rw [z1];exact hb))]
  exact hu
 have g3:=up _ _ Ex g1;refine a_ ⟨_,rfl,h p _ _ hp hu (fun b o g=>?_) (get?_update_seq g3 fun _=>List.toArray (p.toList.map fun i=>vs.getD i Value.none))⟩;have g':=kp b o g;have ne:b≠s.heap.objs.size+1:=cB (pE (ba g));show (Heap.update _ _ _).get? b=some o;rw [pF _ _ _ _ ne];refine up b o (ba g') ?_;rw [pF _ _ _ _ ne];exact g'
end
end My
namespace L2
open PySem PySem.W PyProof.Rows My
def yW:List V→Hp→VK→Prop:=fun xs H Q=>∃(a:Addr) (vs:List V) (x y:Nat→Int),xs=[.ref a]∧H a=some (.lst vs)∧vs.length<2000∧(∀(i:Nat) (v:V),vs[i]?=some v→(∃b,v=.ref b∧H b=some (.tup [.int (x i),.int (y i)]))∧0≤y i∧y i<1000) ∧
 ∀(p:Array Nat) (l:Addr),iH vs.length p→j6 (fun i=>x i*1000+y i) p vs.length→H l=none→Q (.ref l) (upd H l (.lst (p.toList.map fun i=>vs.getD i .aR)))
theorem yX{xs:List V}{us:List Value}(r:Vals xs us):∀(ns:List Nat),(∀i∈ns,i<xs.length)→Vals (ns.map fun i=>xs.getD i .aR) (ns.map fun i=>us.getD i Value.none)
 | [],_=>.nil
 | i::ns,h=>by
  have hi:=h i ig;obtain ⟨u,e,ru⟩:=r.get (i:=i) (x:=xs[i]) (by simp [hi])
  refine .cons ?_ (yX r ns fun j hj=>h j (gQ _ hj));dsimp only;rw [show xs.getD i .aR=xs[i] by simp [hi],show us.getD i Value.none=u by rw [d6,e];rfl]
  exact ru
theorem Ey{X:Cx}:gv X (.builtin "sorted") yW:=by
 intro pins s σ H xs us Q I r h;obtain ⟨a,vs,x,y,rfl,ha,uy,hv,k⟩:=h;obtain ⟨u,rfl,ru⟩:=vals1 r;cases ru;obtain ⟨au,rv,pl,hz⟩:=I.list (.of ha);have hl:=rv.length;refine Ew (x:=x) (y:=y) pl.isList (by omega) (fun i v hi=>?_) fun p h' c hp hu kp g=>?_
 ·have bw:i<vs.length:=by have:=(bZ.mp hi).1;omega
  have gi:vs[i]?=some vs[i]:=by simp [bw]
  obtain ⟨⟨b,eb,hb⟩,Ez⟩:=hv i _ gi;obtain ⟨u,eu,ru⟩:=rv.get gi;rw [hi] at eu;cases eu;rw [eb] at ru;cases ru;obtain ⟨_,gy,r2,o,g,cl,e,d⟩:=(show bO X.prog X.w H s.heap b (.tup [.int (x i),.int (y i)]) from I.aB b _ hb);obtain ⟨u1,u2,rfl,q1,q2⟩:=vals2 r2;obtain ⟨t1,rfl⟩:=q1;obtain ⟨t2,rfl⟩:=q2;exact ⟨⟨b,o,t1,t2,e,rfl,g,cl,d⟩,Ez⟩
 ·rw [←hl] at hp hu
  have sz:=hp.size;refine ⟨.ref (s.heap.objs.size+1),_,I.laid (t':=s.toks) (o:=.lst (p.toList.map fun i=>vs.getD i .aR)) kp (Nat.le_succ _) ⟨?_,p.toList.map fun i=>au.getD i Value.none,c,?_,g⟩,rfl,k p _ hp hu (I.aB.fresh (Nat.le_succ _))⟩
  ·rw [bz,fN,sz]
   exact hz
  ·refine yX rv _ fun i hi=>?_
   have m:i∈List.toArray (List.range vs.length):=(Array.Perm.mem_iff hp).mp (Array.mem_toList_iff.mp hi);simpa using m
end L2
namespace My
open PySem L2
def bg(H:Hp)(vs:List V)(L:dF):Prop:=vs.length=L.length∧∀(k:Nat) (v:V) (p:Int×Int),vs[k]?=some v→L[k]?=some p→∃b,v=.ref b∧H b=some (.tup [.int p.1,.int p.2])
theorem bg.nil(H:Hp):bg H [] []:=⟨rfl,fun k v p h=>by simp at h⟩
variable {H H':Hp} {vs:List V} {L:dF}
theorem bg.mono(h:bg H vs L)(s:aq H H'):bg H' vs L:=⟨h.1,fun k v p h1 h2=>by obtain ⟨b,e,g⟩:=h.2 k v p h1 h2;exact ⟨b,e,s _ _ g⟩⟩
variable {xs:List V}
theorem bg.dg{r:Addr}(h:bg H vs L)(e:H r=some (.lst xs))(k:∀b o,b≠r→H b=some o→H' b=some o):bg H' vs L:=⟨h.1,fun i v p h1 h2=>by obtain ⟨b,eb,g⟩:=h.2 i v p h1 h2;refine ⟨b,eb,k b _ (fun z=>?_) g⟩;rw [z,e] at g;cases g⟩
def lexLt(p q:Int×Int):Prop:=p.1<q.1∨p.1=q.1∧p.2<q.2
variable {M:dF}
theorem EA{p:Array Nat}(P:iH M.length p)(U:j6 (fun i=>(M.getD i (0,0)).1*1000+(M.getD i (0,0)).2) p M.length)(nd:M.Nodup)(b:∀q∈M,0≤q.2∧q.2<1000) :
  (p.toList.map fun i=>M.getD i (0,0)).Perm M∧(p.toList.map fun i=>M.getD i (0,0)).Pairwise lexLt:=by
 have pm:p.toList.Perm (List.range M.length):=nj.mp P;have pn:p.toList.Nodup:=pm.nodup_iff.mpr List.nodup_range;have lt:∀i∈p.toList,i<M.length:=fun i hi=>cX.mp (pm.mem_iff.mp hi);refine ⟨?_,?_⟩
 ·have e:((List.range M.length).map fun i=>M.getD i (0,0))=M:=by
   refine lu (by simp) fun i h1 h2=>?_
   rw [List.getElem_map,List.getElem_range,getD_at h2]
  have:=pm.map fun i=>M.getD i (0,0);rw [e] at this;exact this
 ·rw [pC]
  intro i j hi hj yI;rw [bz] at hi hj;rw [List.getElem_map,List.getElem_map];have sz:=P.size;have li:p.toList[i]<M.length:=lt _ (fq _);have lj:p.toList[j]<M.length:=lt _ (fq _);have u:=U i j (by omega) (by rw [←sz,←fN];exact hj)
  unfold vN at u;have gi:p.getD i 0=p.toList[i]:=by
   have:i<p.size:=by rw [←fN];exact hi
   simp [Array.getD,this]
  have gj:p.getD j 0=p.toList[j]:=by
   have:j<p.size:=by rw [←fN];exact hj
   simp [Array.getD,this]
  rw [gi,gj] at u;dsimp only at u;rw [getD_at li,getD_at lj] at u;rw [getD_at li,getD_at lj];have ne:M[p.toList[i]]≠M[p.toList[j]]:=fun e=>by have e1:=(List.getElem_inj nd).mp e;have e2:=(List.getElem_inj pn).mp e1;omega
  have b1:=b _ (fq li);have b2:=b _ (fq lj);generalize M[p.toList[i]]=x at u ne b1;generalize M[p.toList[j]]=y at u ne b2;obtain ⟨x1,x2⟩:=x;obtain ⟨y1,y2⟩:=y;unfold lexLt;dsimp only at u b1 b2 ⊢;by_cases z:x1<y1;·exact .inl z
  ·right
   have e1:x1=y1:=by omega
   subst e1;refine ⟨rfl,?_⟩;by_cases y:x2=y2
   ·subst y
    exact absurd rfl ne
   ·omega
def iO(H:Hp)(t:Addr)(n:Nat)(L:dF):Prop:=∃(lt:Addr) (us:List V),H t=some (.tup [.int (n:Int),.ref lt])∧H lt=some (.tup us)∧bg H us L
variable {us:List V}
theorem bg.pick(h:bg H us M)(ns:List Nat)(hn:∀i∈ns,i<M.length):bg H (ns.map fun i=>us.getD i .aR) (ns.map fun i=>M.getD i (0,0)):=⟨by simp,fun k v p h1 h2=>by
 have hl:=h.1;have hk:k<ns.length:=by have:=(bZ.mp h1).1;simpa using this
 have hi:=hn ns[k] (fq hk);rw [dQ,eR hk] at h1 h2;cases h1;cases h2;dsimp only;have bw:ns[k]<us.length:=by omega
 rw [getD_at hi];have e:us.getD ns[k] .aR=us[ns[k]]:=by simp [bw]
 rw [e];exact h.2 ns[k] _ _ (by simp [bw]) (by simp [hi])⟩
theorem bg.cat{zs:List V}(h:bg H us L)(g:bg H zs M):bg H (us++zs) (L++M):=⟨by simp [h.1,g.1],fun k v p h1 h2=>by
 have hl:=h.1;by_cases z:k<us.length
 ·rw [gR z] at h1
  rw [gR (by omega)] at h2
  exact h.2 k v p h1 h2
 ·rw [gh (by omega)] at h1
  rw [gh (by omega),show k-L.length=k-us.length by omega] at h2
  exact g.2 _ v p h1 h2⟩
variable {n:Nat}
theorem iO.mono{t:Addr}(h:iO H t n L)(s:aq H H'):iO H' t n L:=by obtain ⟨lt,us,h1,h2,h3⟩:=h;exact ⟨lt,us,s _ _ h1,s _ _ h2,h3.mono s⟩
theorem EB{wi:TI}{ρ:St→St}{tt:TT}{te:TE}{σ:St}{Q:VK}(pr:Nat→Bool)(iG:∀R:It→Hp→Prop,(∀J,qt J xs H→R J H)→wi σ H R)(hn:xs.length<sizeLine)
  (P:Addr→Nat→V→Hp→Prop) (mono:∀D i y H H' ys,P D i y H→H D=some (.lst ys)→(∀b o,b≠D→H b=some o→H' b=some o)→P D i y H')
  (test:∀(i:Nat) (x:V),xs[i]?=some x→∀(Hc:Hp) (R:Bool→Hp→Prop),aq H Hc→R (pr i) Hc→tt (some x::ρ σ) Hc R)
  (step:∀D (i:Nat) (x:V),xs[i]?=some x→∀(Hc:Hp) (R:VK),aq H Hc→(∃ys,Hc D=some (.lst ys))→(∀y H3,aq Hc H3→P D i y H3→R y H3)→te (some x::ρ σ) Hc R)
  (fin:∀D ys Hc,H D=none→aq H Hc→ys.length=((List.range xs.length).filter pr).length→(∀(k i:Nat) (y:V),ys[k]?=some y→((List.range xs.length).filter pr)[k]?=some i→P D i y Hc)→Hc D=some (.lst ys)→Q (.ref D) Hc):fY wi ρ tt te σ H Q:=by
 refine iG _ fun J js=>?_;intro D nD;refine ⟨fun i m ys Hc=>m=xs.length-i∧i≤xs.length∧Hc D=some (.lst ys)∧aq H Hc∧ys.length=((List.range i).filter pr).length∧∀(k i':Nat) (y:V),ys[k]?=some y→((List.range i).filter pr)[k]?=some i'→P D i' y Hc,⟨_,rfl,dj _,aw,iF (aq.refl H) nD,rfl,fun k i y h=>by simp at h⟩,?_⟩
 rintro i m ys Hc ⟨rfl,hi,eD,sH,ly,hP⟩;refine ⟨eD,?_⟩;by_cases cA:i<xs.length
 ·refine .inr ⟨js.go i Hc sH cA,fun x H' hy=>?_⟩
  obtain ⟨rfl,hx⟩:=js.dH i Hc x H' sH hy;refine test i x (hx cA) _ _ sH ?_;have fs:(List.range (i+1)).filter pr=(List.range i).filter pr++(if pr i=true then [i] else []):=by
   rw [pG,List.filter_append]
   congr 1
   cases e:pr i <;> simp [e]
  have fl:((List.range i).filter pr).length≤i:=cE (List.length_filter_le _ _) (by simp)
  cases e:pr i with
  | true=>
   rw [aj rfl];refine step D i x (hx cA) _ _ sH ⟨_,eD⟩ fun y H3 s3 hp=>?_;have e3:=s3 _ _ eD;have dg:∀b o,b≠D→H3 b=some o→upd H3 D (.lst (ys++[y])) b=some o:=fun b o nb e=>by rw [bu nb];exact e
   refine ⟨e3,by omega,xs.length-(i+1),by omega,rfl,cA,aw,iF (sH.trans s3) nD,?_,fun k i' y' h1 h2=>?_⟩
   ·rw [fs,e,aj rfl,dk,dk,ly]
    rfl
   ·rw [fs,e,aj rfl] at h2
    by_cases z:k<ys.length
    ·rw [gR z] at h1
     rw [gR (by omega)] at h2
     refine mono D i' y' H' _ ys (hP k i' y' h1 h2) eD fun b o nb e=>dg b o nb (s3 _ _ e)
    ·have hk:=(bZ.mp h1).1
     rw [dk,List.length_singleton] at hk;obtain rfl:k=ys.length:=by omega
     rw [gh (aG _),lg] at h1;rw [gh (by omega),show ys.length-((List.range i).filter pr).length=0 by omega] at h2
     cases h1;cases h2;exact mono D _ _ H3 _ ys hp e3 dg
  | false=>
   rw [ai (by simp)]
   refine ⟨xs.length-(i+1),by omega,rfl,cA,eD,sH,?_,fun k i' y' h1 h2=>?_⟩
   ·rw [fs,e,ai (by simp),jz]
    exact ly
   ·rw [fs,e,ai (by simp),jz] at h2
    exact hP k i' y' h1 h2
 ·have e:i=xs.length:=by omega
  subst e;exact .inl ⟨js.stop _ Hc sH (aG _),fin D ys Hc nD sH ly hP eD⟩
def gO(n:Nat)(f:Nat→Nat→Bool)(i:Nat):List (Int×Int):=((List.range (n-(i+1))).filter fun k=>f i (i+1+k)).map fun k=>((i:Int),((i+1+k:Nat):Int))
def fg(n:Nat)(f:Nat→Nat→Bool):Nat→List (Int×Int)
 | 0=>[]
 | i+1=>fg n f i++gO n f i
variable {f:Nat→Nat→Bool} {i:Nat} {p:Int×Int}
theorem yY(h:p∈gO n f i):∃j,i<j∧j<n∧f i j=true∧p=((i:Int),(j:Int)):=by obtain ⟨k,hk,rfl⟩:=eS.mp h;obtain ⟨h1,h2⟩:=pb.mp hk;have:=cX.mp h1;exact ⟨i+1+k,by omega,by omega,h2,rfl⟩
theorem EC{j:Nat}(h1:i<j)(h2:j<n)(h3:f i j=true):((i:Int),(j:Int))∈gO n f i:=by
 refine eS.mpr ⟨j-(i+1),pb.mpr ⟨cX.mpr (by omega),?_⟩,?_⟩
 ·show f i (i+1+(j-(i+1)))=true
  rw [show i+1+(j-(i+1))=j by omega]
  exact h3
 ·rw [show i+1+(j-(i+1))=j by omega]
theorem mem_of{n:Nat}{f:Nat→Nat→Bool}{p:Int×Int}:∀{k:Nat},p∈fg n f k→∃i j,i<k∧i<j∧j<n∧f i j=true∧p=((i:Int),(j:Int))
 | 0,h=>by cases h
 | k+1,h=>by
  rcases eQ.mp h with h | h
  ·obtain ⟨i,j,h1,h2⟩:=mem_of h
   exact ⟨i,j,by omega,h2⟩
  ·obtain ⟨j,h1⟩:=yY h
   exact ⟨k,j,by omega,h1⟩
theorem yZ{n:Nat}{f:Nat→Nat→Bool}{i j:Nat}(h1:i<j)(h2:j<n)(h3:f i j=true):∀{k:Nat},i<k→((i:Int),(j:Int))∈fg n f k
 | k+1,h=>by
  by_cases z:i=k
  ·subst z
   exact da _ (EC h1 h2 h3)
  ·exact List.mem_append_left _ (yZ h1 h2 h3 (by omega))
theorem y4{n:Nat}{f:Nat→Nat→Bool}:∀k,(fg n f k).Pairwise lexLt
 | 0=>List.Pairwise.nil
 | k+1=>by
  refine List.pairwise_append.mpr ⟨y4 k,?_,fun p hp q hq=>?_⟩
  ·refine List.pairwise_map.mpr ((List.pairwise_lt_range.sublist List.filter_sublist).imp fun h=>?_)
   right;dsimp only;omega
  ·obtain ⟨i,j,h1,_,_,_,rfl⟩:=mem_of hp
   obtain ⟨j',_,_,_,rfl⟩:=yY hq;left;dsimp only;omega
theorem uz:¬lexLt p p:=fun h=>by unfold lexLt at h;omega
theorem ED{q:Int×Int}(h1:lexLt p q)(h2:lexLt q p):False:=by unfold lexLt at h1 h2;omega
theorem y6:∀{A B:dF},A.Pairwise lexLt→B.Pairwise lexLt→(∀p,p∈A↔p∈B)→A=B
 | [],[],_,_,_=>rfl
 | [],b::B,_,_,h=>absurd ((h b).mpr ig) (by simp)
 | a::A,[],_,_,h=>absurd ((h a).mp ig) (by simp)
 | a::A,b::B,ha,hb,h=>by
  obtain ⟨a1,a2⟩:=List.pairwise_cons.mp ha;obtain ⟨b1,b2⟩:=List.pairwise_cons.mp hb;have e:a=b:=by
   rcases cN.mp ((h a).mp ig) with z | z;·exact z
   ·rcases cN.mp ((h b).mpr ig) with y | y
    ·exact y.symm
    ·exact (ED (b1 a z) (a1 b y)).elim
  subst e;rw [y6 a2 b2 fun p=>⟨fun m=>?_,fun m=>?_⟩]
  ·rcases cN.mp ((h p).mp (gQ _ m)) with z | z
   ·subst z
    exact (uz (a1 _ m)).elim
   ·exact z
  ·rcases cN.mp ((h p).mpr (gQ _ m)) with z | z
   ·subst z
    exact (uz (b1 _ m)).elim
   ·exact z
end My
namespace L2
open PySem PySem.Spec PyProof.Rows
end L2
namespace My
open PySem L2
variable {H:Hp}
theorem y7{te:TE}{σ:St}{R:VK}(M:V→Hp→Prop)(h1:∀R':VK,(∀x H,M x H→R' x H)→te σ H R')(h2:∀x H,M x H→R x H):te σ H R:=h1 R h2
def uA(n:Nat)(L:dF):Tr:=.tp [.fl (.int (n:Int)),.tp (L.map fun p=>.tp [.fl (.int p.1),.fl (.int p.2)])]
theorem y8{t:Addr}{n:Nat}{L:dF}(h:iO H t n L):gG H (uA n L) (.ref t):=by
 obtain ⟨lt,us,e1,e2,h3⟩:=h;refine .tp e1 rfl fun i v tr h1 h2=>?_
 match i,h1,h2 with
 | 0,h1,h2=>cases h1;cases h2;exact .fl rfl
 | 1,h1,h2=>
  cases h1;cases h2;refine .tp e2 (by rw [bz];exact h3.1) fun k v tr g1 g2=>?_
  have hk:k<L.length:=by have:=(bZ.mp g2).1;simpa using this
  rw [dQ,eR hk] at g2;cases g2;obtain ⟨b,rfl,eb⟩:=h3.2 k v L[k] g1 (by simp [hk])
  refine .tp eb rfl fun m v tr f1 f2=>?_
  match m,f1,f2 with
  | 0,f1,f2=>cases f1;cases f2;exact .fl rfl
  | 1,f1,f2=>cases f1;cases f2;exact .fl rfl
  | m+2,f1,_=>cases f1
 | i+2,h1,_=>cases h1
theorem EE(n:Nat)(L:dF):(uA n L).In 3:=fun t ht=>by
 rcases cN.mp ht with rfl | ht;·trivial
 ·rw [gm.mp ht]
  intro u hu;obtain ⟨p,_,rfl⟩:=eS.mp hu;intro w hw;rcases cN.mp hw with rfl | hw;·trivial
  ·rw [gm.mp hw];trivial
end My
namespace L2
open PySem PySem.Spec PyProof.Rows
section
variable (P:Program) (w:World)
end
section
variable {P:Program} {w:World} {H H':Hp} {h h':Heap} {a:Addr} {o:HO}
end
section
variable {P:Program} {w:World} {H:Hp} {h h':Heap} {x e:Addr} {o':HO}
end
section
variable {fs sq ex ny:List Addr} {H H1 H2:Hp} {h h1 h2 h':Heap} {a x e:Addr} {o:HO}
end
section
variable {X:Cx} {pins:aI} {σ:List (Option V)} {H H':Hp} {s:Shared} {h':Heap}
end
section
variable {X:Cx}
variable {a b:Expr} {ta tb:TE} {pos:Pos}
variable {tA nF:TT} {rest:List Expr}
end
section
variable {X:Cx} {pins:aI} {σ:St} {H:Hp} {s:Shared} {a:Addr} {xs ys:List V}
end
section
variable {X:Cx} {pins:aI} {σ:St} {H:Hp} {s:Shared} {E:aE}
end
section
variable {X:Cx} {st:Stmt} {rest:List Stmt} {t u:TS} {e:Expr} {te:TE} {pos:Pos}
end
section
variable {X:Cx} {pos:Pos}
end
section
variable {X:Cx} {pos:Pos}
end
section
variable {X:Cx} {tg:Expr}
end
section
variable {X:Cx} {a b c:Expr} {ta tb tc:TE} {pos:Pos}
end
section
variable {X:Cx} {a b c:Expr} {ta tb tc:TE} {pos:Pos}
end
section
variable {prog:Program} {w:World} {A:Around} {E:aE} {s:Shared} {K:aJ} {x dx C f:Addr} {mA:bW} {name:Str} {v:Value}
end
section
variable {P:Program} {w:World} {H H':Hp} {h h':Heap} {a C dx:Addr} {fs sq:List (Str×V)}
end
section
variable {X:Cx} {pins:aI} {σ:St} {H:Hp} {s:Shared} {a C dx:Addr} {fs:List (Str×V)} {f:Str} {v:V} {A:Around} {E:aE}
end
section
variable {X:Cx} {o e value:Expr} {f:Str} {pos pos' pX:Pos} {ta tv:TE}
end
section
variable {X:Cx} {pins:aI} {σ:St} {H:Hp} {s:Shared} {A:Around} {E:aE} {Q:aE} {c:Value} {b:Bool}
end
section
variable {X:Cx} {e:Expr} {es:List Expr} {te:TE} {t:TA} {pos:Pos}
end
section
variable {X:Cx} {pins:aI} {σ:St} {H:Hp} {s s':Shared}
end
section
variable {X:Cx} {CX:en} {k:Nat} {f C:Addr} {fd:FuncData} {ps:List Str} {sp:Sp} {dq:List V} {ds:List Value} {E:XK} {x m:Str} {p pos apos:Pos} {e o:Expr} {es:List Expr} {ta:TE} {t:TA}
end
section
variable {X:Cx} {CX:en} {k:Nat} {f C:Addr} {fd:FuncData} {ps ks:List Str} {sp:Sp} {E:XK} {x m:Str} {p pos apos xo:Pos} {e o:Expr} {es:List Expr} {jc:List Keyword} {te ta:TE} {t tk:TA} {nm:Option Str}
variable {g:List Value→List Value→List Value} {gV:List V→List V→List V}
end
section
variable {X:Cx} {x:Str} {p pos:Pos} {e:Expr} {es:List Expr} {t:TA} {id T:String} {r:List V→Hp→VK→Prop}
end
section
variable {κ:Type} [DecidableEq κ]
end
section
variable {P:Program} {w:World} {H:Hp} {h:Heap} {a:Addr}
end
section
variable {X:Cx} {pins:aI} {σ:St} {H:Hp} {s:Shared} {a:Addr} {y v:V} {u r:Value} {o:Option V} {A:Around} {E:aE}
end
section
variable {X:Cx} {pins:aI} {σ:St} {H:Hp} {s:Shared} {a:Addr} {bT:List (Key×V)} {k:Key} {u:Value} {A:Around} {E:aE}
end
section
variable {X:Cx} {o i e value:Expr} {pos pos' pX:Pos} {td ty tv:TE}
end
section
variable {X:Cx} {pos:Pos}
end
section
variable {X:Cx} {pins:aI} {σ:St} {H:Hp} {s:Shared} {a:Addr} {y d:V} {u r:Value} {o:Option V} {A:Around} {E:aE}
end
section
variable {X:Cx} {o e f:Expr} {apos fE:Pos} {td ty tx:TE}
end
section
variable {X:Cx} {pins:aI} {σ:St} {H:Hp} {s:Shared} {a:Addr} {bT:List (Key×V)} {A:Around} {E:aE}
end
section
variable {X:Cx} {pins:aI} {σ:St} {H:Hp} {s:Shared} {a:Addr} {y:V} {u:Value} {A:Around} {E:aE}
end
end L2
namespace qe
open PySem PySem.W PySem.Calls PyProof.Rows
section
variable {prog:Program} {w:World} {A:Around} {E:aE} {s:Shared} {K:Frag}
end
end qe
namespace L2
open PySem PySem.Spec PyProof.Rows
section
variable {P:Program} {w:World} {K:aJ} {mg:bW} {base:Heap}
end
section
variable {X:Cx}
end
section
variable {κ:Type} [DecidableEq κ]
end
section
variable {X:Cx} {pins:aI} {σ:St} {H:Hp} {s:Shared}
end
section
variable {X:Cx} {tg:Expr}
end
end L2
namespace My
open PySem L2
end My
namespace L2
open PySem PySem.Spec PyProof.Rows
end L2
namespace My
open PySem L2
def iN(k:Nat):Int:=(k:Int)
theorem EF{wi:TI}{ρ:St→St}{tt:TT}{te:TE}{σ:St}{H:Hp}{Q:VK}(h:wi σ H fun J H1=>fY (fun _ H R=>R J H) ρ tt te σ H1 Q):fY wi ρ tt te σ H Q:=h
end My
namespace L2
open PySem PySem.Spec PyProof.Rows
section
variable {X:Cx} {pins:aI} {σ:St} {H:Hp} {s:Shared}
end
end L2
namespace My
open PySem L2
end My
namespace L2
open PySem PySem.Spec PyProof.Rows
theorem y9{X:Cx}{E:XK}(L:lN X E):PassesOwn (model X.prog X.w) X.A X.env X.xe:=by rw [L.xe];exact PassesOwn.leaving
end L2
namespace My
open PySem L2
end My
namespace L2
open PySem PySem.Spec PyProof.Rows
def uB(K:aJ):R2:=fun x y H Q=>∃a b xs ys,x=.ref a∧y=.ref b∧cF K H a xs∧cF K H b ys∧ys≠[]∧xs.length+ys.length≤sizeLine ∧
 (xs=[]→Q (.ref b) H)∧(xs≠[]→∀p,H p=none→Q (.ref p) (upd H p (.tup (xs++ys))))
theorem qL{X:Cx}:cp X (binaryOp .Add) (uB X.K):=by
 intro pins s σ H x y v u Q I rx ry h;by_cases hx:∃a b xs ys,x=.ref a∧y=.ref b∧cF X.K H a xs∧cF X.K H b ys∧xs=[]∧Q (.ref b) H
 ·obtain ⟨a,b,xs,ys,rfl,rfl,ha,hb,rfl,q⟩:=hx
  cases rx;cases ry;obtain ⟨au,r1,p1,_⟩:=I.tuple ha;obtain ⟨gy,r2,p2,_⟩:=I.tuple hb;have e0:au=[]:=r1.qc.mpr rfl;subst e0;obtain ⟨⟨cls,dd,data,sl⟩,ho,hc,n,hd⟩:=id p1;obtain ⟨⟨B0,p8,data2,jS⟩,jT,nQ,n2,hd2⟩:=id p2;simp only at hc hd nQ hd2;subst hc hd nQ hd2
  exact concat_meets ⟨_,ho,rfl⟩ ⟨_,jT,rfl⟩ noFill_tuple_add seq_tuple_add r0 r6 (r9 _ _)
   (tuple_addW0 a b _ gy.toArray n n2 dd p8 sl jS (by simp)) ⟨ho,jT,⟨.ref b,H,I,rfl,q⟩⟩
 ·obtain ⟨a,b,xs,ys,rfl,rfl,ha,hb,hy,hz,q1,q2⟩:=h
  have ne:xs≠[]:=fun z=>hx ⟨a,b,xs,ys,rfl,rfl,ha,hb,z,q1 z⟩;exact xJ pins s σ H _ _ v u Q I rx ry ⟨a,b,xs,ys,rfl,rfl,ha,hb,ne,hz,fun z=>absurd z hy,fun _=>q2 ne⟩
end L2
namespace My
open PySem L2
end My
namespace L2
open PySem PySem.Spec PyProof.Rows
end L2
namespace My
open PySem L2
end My
namespace L2
open PySem PySem.Spec PyProof.Rows
end L2
namespace My
open PySem L2
variable {n:Nat} {EG:Nat→Nat→Prop} {EH:Nat→Prop} {s:Nat}
end My
namespace L2
open PySem PySem.Spec PyProof.Rows
end L2
namespace My
open PySem L2
end My
namespace L2
open PySem PySem.Spec PyProof.Rows
end L2
namespace My
open PySem L2
theorem EI{X:Cx}{pins:aI}{σ:St}{H:Hp}{s:Shared}(I:Inv X pins σ H s){A:Around}(hu:A.units<cLine){p q:Addr}{x y:Int×Int}(e:H p=some (.tup [.int x.1,.int x.2]))(e':H q=some (.tup [.int y.1,.int y.2])):SeqAt.EqAt A s (.ref p) (.ref q) (decide (x=y)):=by
 by_cases pq:p=q
 ·subst pq
  rw [e] at e';cases x;cases y;simp only [Option.some.injEq,HO.tup.injEq,List.cons.injEq,V.int.injEq,and_true] at e';rw [aW (Prod.ext e'.1 e'.2)];exact jC _
 obtain ⟨us,r1,t1,_⟩:=I.tuple (.of e);obtain ⟨vs,r2,t2,_⟩:=I.tuple (.of e');obtain ⟨a1,a2,rfl,uC,uD⟩:=vals2 r1;obtain ⟨b1,b2,rfl,uE,uF⟩:=vals2 r2;have z:=SeqAt.RcAt.tuples (A:=A) (e:=fun j=>if j=0 then dI (.int x.1) (.int y.1) else dI (.int x.2) (.int y.2)) t1 t2 hu (fun j z1 z2=>by
  have:j<2:=z1
  match j with
  | 0=>exact jV uC uE rfl rfl
  | 1=>exact jV uD uF rfl rfl)
 have ec:decide (x=y)=((List.range (min ([a1,a2]:List Value).toArray.size ([b1,b2]:List Value).toArray.size)).all (fun j=>if j=0 then dI (.int x.1) (.int y.1) else dI (.int x.2) (.int y.2)) && ([a1,a2]:List Value).toArray.size == ([b1,b2]:List Value).toArray.size):=by cases x;cases y;simp only [gq];show _=((List.range 2).all _ && true);simp [pG,dI];rfl
 rw [ec];exact lp pq z
def EJ:Sp:=fun vs H Q _=>∃(z:Int) (n:Nat),vs=[.int z,.int (n:Int)]∧Q (.bl (decide (0≤z∧z<n))) H
end My
namespace L2
open PySem PySem.Spec PyProof.Rows My
end L2
namespace My
open PySem L2
theorem EK(zs:List Int)(k:Nat):du (zs.map V.int) none (some (k:Int))=(zs.take k).map V.int:=by rw [DC,List.map_take]
end My
namespace L2
open PySem PySem.Spec PyProof.Rows My
end L2
namespace My
open PySem L2
section
variable {EG:Nat→Nat→Prop} {EH JV:Nat→Prop} {s t:Nat}
end
def EL:R2:=fun x y H Q=>∃(a b:Addr) (n:Nat) (L M:dF),x=.ref a∧y=.ref b∧iO H a n L∧iO H b n M∧Q (.bl (decide (L=M))) H
variable {X:Cx} {L M:dF}
theorem EM{pins:aI}{σ:St}{H:Hp}{s:Shared}(I:L2.Inv X pins σ H s){A:Around}(hu:A.units<cLine){xs ys:List V}{us vs:List Value}(k1:bg H xs L)(k2:bg H ys M)(r1:Vals xs us)(r2:Vals ys vs):∀j (z1:j<us.toArray.size) (z2:j<vs.toArray.size),SeqAt.EqAt A s us.toArray[j] vs.toArray[j] (decide (L.getD j (0,0)=M.getD j (0,0))):=fun j z1 z2=>by
 have l1:=r1.length;have l2:=r2.length;have m1:=k1.1;have m2:=k2.1;have qC:j<us.length:=by simpa using z1
 have JW:j<vs.length:=by simpa using z2
 obtain ⟨p,ep,hp⟩:=k1.2 j xs[j] (L.getD j (0,0)) (by simp) (by simp [d6,show j<L.length by omega])
 obtain ⟨p',fP,jo⟩:=k2.2 j ys[j] (M.getD j (0,0)) (by simp) (by simp [d6,show j<M.length by omega])
 obtain ⟨x',ny,rx⟩:=r1.get (i:=j) (x:=xs[j]) (by simp)
 obtain ⟨y',tZ,ry⟩:=r2.get (i:=j) (x:=ys[j]) (by simp)
 have e1:us.toArray[j]=x':=by simpa using (bZ.mp ny).2
 have e2:vs.toArray[j]=y':=by simpa using (bZ.mp tZ).2
 rw [e1,e2];rw [ep] at rx;rw [fP] at ry;cases rx;cases ry;exact EI I hu hp jo
theorem EN:((List.range (min L.length M.length)).all (fun j=>decide (L.getD j (0,0)=M.getD j (0,0))) && L.length == M.length)=decide (L=M):=by
 by_cases e:L=M
 ·subst e
  simp
 ·rw [bt e,Bool.eq_false_iff]
  intro h;rw [jB,List.all_eq_true] at h;obtain ⟨h1,h2⟩:=h;have hl:L.length=M.length:=by simpa using h2
  refine e (lu hl fun j g1 g2=>?_);have:=h1 j (cX.mpr (by omega))
  simpa [d6,g1,g2] using this
theorem y_(hu:X.A.units+64<cLine):cp X (compareOp .Eq) EL:=by
 intro pins s σ H x y v u Q I rx ry h;obtain ⟨a,b,n,L,M,rfl,rfl,⟨la,ua,EO,za,k1⟩,⟨lb,ub,ER,uG,k2⟩,q⟩:=h;cases rx;cases ry;obtain ⟨us,r1,t1,_⟩:=I.tuple (.of EO);obtain ⟨vs,r2,t2,_⟩:=I.tuple (.of ER);obtain ⟨a1,a2,rfl,uC,uD⟩:=vals2 r1;obtain ⟨b1,b2,rfl,uE,uF⟩:=vals2 r2;cases uD;cases uF;have inner:SeqAt.EqAt X.A.in1 s (.ref la) (.ref lb) (decide (L=M)):=by
  by_cases pq:la=lb
  ·subst pq
   rw [za] at uG;cases uG;have:L=M:=by
    have m1:=k1.1;have m2:=k2.1;refine lu (by omega) fun j g1 g2=>?_
    obtain ⟨p,ep,hp⟩:=k1.2 j (ua[j]'(by omega)) L[j] (by simp) (by simp [g1])
    obtain ⟨p',fP,jo⟩:=k2.2 j (ua[j]'(by omega)) M[j] (by simp) (by simp [g2])
    rw [ep] at fP;cases fP;rw [hp] at jo;simp only [Option.some.injEq,HO.tup.injEq,List.cons.injEq,V.int.injEq,and_true] at jo;exact Prod.ext jo.1 jo.2
   rw [aW this];exact jC _
  ·obtain ⟨us,r1,t1,_⟩:=I.tuple (.of za)
   obtain ⟨vs,r2,t2,_⟩:=I.tuple (.of uG);have z:=SeqAt.RcAt.tuples (A:=X.A.in1) t1 t2 (by rw [jE];omega) (EM I (by rw [jE,jE];omega) k1 k2 r1 r2)
   have e1:us.toArray.size=L.length:=by rw [bS,←r1.length];exact k1.1
   have e2:vs.toArray.size=M.length:=by rw [bS,←r2.length];exact k2.1
   rw [e1,e2,EN] at z;exact lp pq z
 refine SeqAt.eq_tupleAt (e:=fun j=>if j=0 then dI (.int (n:Int)) (.int (n:Int)) else decide (L=M)) t1 t2 (by omega) (fun j z1 z2=>?_) ⟨.bl (decide (L=M)),H,I,?_,q⟩
 ·have:j<2:=z1
  match j with
  | 0=>exact jV uC uE rfl rfl
  | 1=>exact inner
 ·show RelV _ _
  have e:((List.range 2).all (fun j=>if j=0 then dI (.int (n:Int)) (.int (n:Int)) else decide (L=M)) && true)=decide (L=M):=by simp [pG,dI]
  exact cw Value.bool e.symm▸rfl
end My
namespace L2
open PySem PySem.Spec PyProof.Rows
section
variable {X:Cx} {a b:Expr} {rest:List Expr} {pos:Pos} {ta tb:TE}
end
end L2
namespace My
open PySem L2
theorem ES(xs:List V)(k:Nat):du xs (some (k:Int)) none=xs.drop k:=by
 unfold du;rw [HT.xA,HT.xy];by_cases h:k≤xs.length
 ·rw [Nat.min_eq_left h]
  exact List.take_of_length_le (by rw [List.length_drop];omega)
 ·rw [Nat.min_eq_right (by omega),List.drop_of_length_le (aG _),List.drop_of_length_le (by omega),List.take_nil]
end My
namespace L2
open PySem PySem.Spec PyProof.Rows
section
variable {prog:Program} {w:World} {A:Around} {E:aE} {s:Shared}
end
section
variable {prog:Program} {w:World} {A:Around} {E:aE} {s:Shared}
end
section
variable {X:Cx}
end
section
variable {prog:Program} {w:World} {A:Around} {E:aE} {s:Shared}
theorem ET{t sl:Addr}{au:Array Value}{vl vu:Value}{lo hi:Option Int}{Q:aE}(ht:IsTup s.heap t au)(hs:s.heap.IsSliceOf sl vl vu .none)(pl:IsPart vl lo)(pu:IsPart vu hi)
  (hw:HT.aO au.size 0 lo=0∧HT.aO au.size au.size hi=au.size) (q:Q (.ref t) s):wpAny (model prog w) A (getItem (.ref t) (.ref sl)) Q E s:=by
 obtain ⟨os,b1,b2,_⟩:=id hs;have ty:s.TypeIs (.ref sl) "slice":=⟨os,b1,b2⟩;unfold getItem
 try with_reducible refine ik ?_
 first | refine aA (a_ ?_) | skip
 refine aA (wpAny_sequenceKey ht.typeIs (by decide) (aA (k8 (name:=Str.ofString "__getitem__") ht.typeIs k9 (jA k9 ht.typeIs entry_tuple_getitem ?_ (args_tuple_getitem _ _)))))
 show wpAny _ _ (Builtin.Tuple.tupleItemsOf (.ref t) >>= _) _ _ s;refine aA (tupleItemsOf_ ht (aA (wpAny_typeOf ty ?_)));rw [aj (by decide)]
 refine aA (HT.xD hs pl pu ?_);have yes:((((HT.aO au.size 0 lo:Nat):Int) == 0 && (1:Int) == 1 && (HT.aO au.size au.size hi-HT.aO au.size 0 lo) == au.size)=true):=by rw [hw.1,hw.2];simp
 show wpAny _ _ (if (((HT.aO au.size 0 lo:Nat):Int) == 0 && (1:Int) == 1 && (HT.aO au.size au.size hi-HT.aO au.size 0 lo) == au.size)=true then _ else _) _ _ s
 rw [aj yes];refine aA ?_;unfold Builtin.Tuple.tupleIsExact;refine aA (wpAny_typeOf ht.typeIs (a_ ?_));rw [aj (by decide)]
 exact aA (gU (a_ ⟨_,rfl,a_ q⟩))
end
def EU(K:aJ):V→Option Int→Option Int→Hp→VK→Prop:=fun x lo hi H Q=>∃a xs,x=.ref a∧cF K H a xs∧∀p H',(H'=H∧p=a∧du xs lo hi=xs)∨(H p=none∧H'=upd H p (.tup (du xs lo hi)))→Q (.ref p) H'
theorem zc{X:Cx}:qb X (EU X.K):=by
 intro pins s σ H x v vl vu lo hi sl Q I rx hs pl pu h;obtain ⟨a,xs,rfl,hx,q⟩:=h;by_cases hw:HT.aO xs.length 0 lo=0∧HT.aO xs.length xs.length hi=xs.length
 ·cases rx
  obtain ⟨au,r,ht,hz⟩:=I.tuple hx;have hlen:au.toArray.size=xs.length:=by rw [bS];exact r.length.symm
  refine ⟨"tuple",_,k9.lookup,ht.typeIs,?_⟩;refine ET ht hs pl pu (by rw [hlen];exact hw) ⟨.ref a,H,I,rfl,q a H (.inl ⟨rfl,rfl,?_⟩)⟩
  unfold du;rw [hw.1,hw.2,List.drop_zero,Nat.sub_zero];exact List.take_length
 ·exact Ca pins s σ H (.ref a) v vl vu lo hi sl Q I rx hs pl pu ⟨a,xs,rfl,hx,hw,fun p np=>q p _ (.inr ⟨np,rfl⟩)⟩
end L2
namespace My
open PySem L2
end My
namespace L2
open PySem PySem.Spec PyProof.Rows
end L2
namespace My
open PySem L2
end My
namespace L2
open PySem PySem.Spec PyProof.Rows
section
variable {X:Cx}
end
end L2
namespace My
open PySem L2
end My
namespace L2
open PySem
section
variable {prog:Program} {w:World} {A:Around} {E:aE} {s:Shared}
end
end L2
namespace My
open PySem L2
end My
namespace L2
open PySem PySem.Spec PyProof.Rows My
end L2
namespace My
open PySem L2
section
variable {P a d:Addr} {H Hc:Hp} {n m:Nat} {L:dF}
end
section
variable {n:Nat} {E:Nat→Nat→Prop} {pos rk:Nat→Nat}
end
open PySem PySem.W PyProof.Rows Tm
section
variable {prog:Program} {w:World} {A:Around} {E:aE} {s:Shared}
end
open PySem PySem.W PyProof.Rows
section
variable {prog:Program} {w:World} {A:Around} {E:aE} {s:Shared}
end
end My
namespace L2
open PySem PySem.W PyProof.Rows My
end L2
namespace My
open PySem PySem.W PyProof.Rows
section
variable {prog:Program} {w:World} {A:Around} {E:aE} {s:Shared} {R:Result→Shared→Prop}
end
open PySem PySem.W PyProof.Rows L2
section
variable {prog:Program} {w:World} {A:Around} {s:Shared}
end
end My
namespace L2
open PySem PySem.W PyProof.Rows My
end L2
namespace My
open PySem L2
theorem kf{k:Nat}(h:k≤1000):k≤sizeLine:=cE h (by decide)
end My
namespace L2
open PySem PySem.Spec PyProof.Rows My
end L2
namespace My
open PySem L2
end My
namespace L2
open PySem
section
variable {prog:Program} {w:World} {A:Around} {E:aE} {s:Shared}
end
open PySem PySem.Spec PyProof.Rows My
end L2
namespace My
open PySem L2
end My
namespace L2
open PySem PySem.W PyProof.Rows
section
variable {prog:Program} {w:World} {A:Around} {E:aE} {s:Shared}
end
open AutoSeq1 (wpAny_loadPart')
section
variable {prog:Program} {w:World} {A:Around} {E:aE} {s:Shared}
end
end L2
namespace My
open PySem L2
end My
namespace L2
open PySem PySem.Spec PyProof.Rows My
end L2
namespace My
open PySem L2
open PySem L2 Classical
theorem ar{a b:TS}{D:Ends}{σ:St}{H:Hp}(h:∀R:St→Hp→Prop,(∀σ H,b D σ H→R σ H)→a {D with nx:=R} σ H):wL a b D σ H:=h _ fun _ _ h=>h
end My
namespace L2
open PySem PySem.Spec PyProof.Rows
end L2
namespace My
open PySem L2 Classical
open PySem L2
end My
namespace L2
open PySem PySem.Spec PyProof.Rows My
section
variable {X:Cx}
end
end L2
namespace My
open PySem L2
end My
namespace L2
open PySem PySem.Spec PyProof.Rows My
end L2
namespace My
open PySem L2
inductive aT where
 | band (n w:Nat)
 | cg (n w:Nat)
 | ring (n:Nat)
 | cH (m:Nat)
 | tree (as:List Nat)
def aT.sz:aT→Nat
 | .band n _=>n
 | .cg n _=>n
 | .ring n=>n
 | .cH m=>2*m
 | .tree as=>as.length+1
def aT.lk:aT→Nat→Nat→Bool
 | .band _ w,i,j=>decide (j≤i+w)
 | .cg n w,i,j=>decide (j≤i+w) || decide (j+1=n)
 | .ring n,i,j=>decide (j=i+1) || decide (j+1=i+n)
 | .cH _,i,j=>decide (j=i+2) || (decide (j=i+1) && decide (i % 2=0))
 | .tree as,i,j=>decide (as.getD (j-1) 0=i)
def aT.ok:aT→Prop
 | .band n w=>1≤n∧n≤60∧w<n
 | .cg n w=>1≤n∧n≤60∧w<n
 | .ring n=>3≤n∧n≤60
 | .cH m=>1≤m∧m≤30
 | .tree as=>as.length≤59∧∀i,i<as.length→as.getD i 0≤i
def sV(s:String):V:=.str (Str.ofString s)
def ToldN(H:Hp)(td:Addr):aT→Prop
 | .band n w=>H td=some (.tup [sV "band",.int (n:Int),.int (w:Int)])
 | .cg n w=>H td=some (.tup [sV "brim",.int (n:Int),.int (w:Int)])
 | .ring n=>H td=some (.tup [sV "ring",.int (n:Int)])
 | .cH m=>H td=some (.tup [sV "ladder",.int (m:Int)])
 | .tree as=>∃ta,H td=some (.tup [sV "tree",.ref ta])∧H ta=some (.tup (as.map fun k:Nat=>V.int (k:Int)))
variable {N:aT}
theorem ToldN.mono{H H':Hp}{td:Addr}(h:ToldN H td N)(s:aq H H'):ToldN H' td N:=by
 cases N with
 | tree as=>obtain ⟨ta,h1,h2⟩:=h;exact ⟨ta,s _ _ h1,s _ _ h2⟩
 | _=>exact s _ _ h
def dB(N:aT):List (Int×Int):=fg N.sz N.lk N.sz
theorem zd{a b:Nat}:((a:Int),(b:Int))∈dB N↔a<b∧b<N.sz∧N.lk a b=true:=by
 constructor
 ·intro h
  obtain ⟨i,j,_,h2,h3,h4,e⟩:=mem_of h;have e1:=cw Prod.fst e;have e2:=cw Prod.snd e;dsimp only at e1 e2;have:a=i:=by omega
  have:b=j:=by omega
  subst a b;exact ⟨h2,h3,h4⟩
 ·rintro ⟨h1,h2,h3⟩
  exact yZ h1 h2 h3 (by omega)
theorem EV:∀z∈dB N,0≤z.1∧z.1<z.2∧z.2<(N.sz:Int):=fun z hz=>by obtain ⟨i,j,_,h2,h3,h4,rfl⟩:=mem_of hz;dsimp only;omega
theorem ze:(dB N).Pairwise lexLt:=y4 _
theorem qM(h:N.ok):1≤N.sz∧N.sz≤60:=by
 cases N with
 | band n w=>exact ⟨h.1,h.2.1⟩
 | cg n w=>exact ⟨h.1,h.2.1⟩
 | ring n=>exact ⟨by have:=h.1;show 1≤n;omega,h.2⟩
 | cH m=>obtain ⟨h1,h2⟩:=h;constructor <;> show _≤_ <;> simp only [aT.sz] <;> omega
 | tree as=>have:=h.1;constructor <;> show _≤_ <;> simp only [aT.sz] <;> omega
end My
namespace L2
open PySem PySem.Spec PyProof.Rows
section
variable {prog:Program} {w:World} {A:Around} {E:aE} {s:Shared}
variable {it l:Addr} {i:Nat} {x:Value} {Q:aE}
theorem EW{items}(hit:s.heap.IsTupleIter it l i)
  (hl:s.heap.IsTuple l items) (hx:items[i]?=some x)
  (hQ:∀h',h'.IsTupleIter it l (i+1)→Heap.SameBut it s.heap h'→Q x {s with heap:=h'}) :
  wpAny (model prog w) A (Builtin.SmallTypes.nextOf (.ref it)) Q E s:=by
 obtain ⟨o,ho,hc,hd⟩:=id hit;obtain ⟨ol,uH,_,nl,uI⟩:=hl;unfold Builtin.SmallTypes.nextOf
 refine aA (k8 (name:=Str.ofString "__next__") hit.typeIs pH
  (jA pH hit.typeIs PySem.F.entry_tuple_iterator_next ?_ (PySem.F.args_tuple_iterator_next_1 _)))
 show wpAny _ _ (field (.ref it) 0 >>= _) _ _ s;refine aA (fm ho hd (x:=.ref l) rfl ?_);show wpAny _ _ (if (Value.ref l == Value.none)=true then _ else _) _ _ s
 rw [ai (show ¬((Value.ref l == Value.none)=true) from cj)];show wpAny _ _ (field (.ref it) 1 >>= _) _ _ s;refine aA (fm ho hd (x:=.int i 0) rfl ?_);show wpAny _ _ (seqItems? (.ref l) >>= _) _ _ s;refine aA (wpAny_seqItems uH uI ?_);simp only [iY,hx];refine aA (wpAny_setField ho hd (by simp) (a_ ⟨x,rfl,a_ (hQ _ ?_ (Heap.SameBut.update ..))⟩))
 exact ⟨_,Heap.get?_update_self _ ho (Obj.isFreed_of_fields (Obj.data_mapFields hd _)),(Obj.cls_mapFields ..).trans hc,by rw [Obj.data_mapFields hd];simp [rawInt]⟩
theorem EX{items}(hh:A.handled=none)
  (hit:s.heap.IsTupleIter it l i) (hl:s.heap.IsTuple l items) (hx:items[i]?=none)
  (hE:∀h' e,Heap.ExtBut it s.heap h'→(∃o,h'.get? e=some o∧o.cls=.type "StopIteration")→E (.ref e) {s with heap:=h'}) :
  wpAny (model prog w) A (Builtin.SmallTypes.nextOf (.ref it)) Q E s:=by
 obtain ⟨o,ho,hc,hd⟩:=id hit;obtain ⟨ol,uH,_,nl,uI⟩:=hl;unfold Builtin.SmallTypes.nextOf
 refine aA (k8 (name:=Str.ofString "__next__") hit.typeIs pH
  (jA pH hit.typeIs PySem.F.entry_tuple_iterator_next ?_ (PySem.F.args_tuple_iterator_next_1 _)))
 show wpAny _ _ (field (.ref it) 0 >>= _) _ _ s;refine aA (fm ho hd (x:=.ref l) rfl ?_);show wpAny _ _ (if (Value.ref l == Value.none)=true then _ else _) _ _ s
 rw [ai (show ¬((Value.ref l == Value.none)=true) from cj)];show wpAny _ _ (field (.ref it) 1 >>= _) _ _ s;refine aA (fm ho hd (x:=.int i 0) rfl ?_);show wpAny _ _ (seqItems? (.ref l) >>= _) _ _ s;refine aA (wpAny_seqItems uH uI ?_);simp only [iY,hx];refine aA (gU (aA (wpAny_setField ho hd (by simp) ?_)))
 show wpAny _ _ (newExc (.type "StopIteration") [] >>= _) _ _ _;refine aA ?_;simp only [newExc,newTuple];refine aA (gS ?_ (by size_fits))
 refine aA (m:=firstArgMember _ _) (wpAny_of_eq (a:=Value.none) (by first | rfl | (simp only [firstArgMember];rfl)) ?_)
 refine gS ?_ (by size_fits)
 simp only [raiseNew];refine aA (wpAny_handled ?_)
 first | rw [show A.in1.handled=none from hh] | rw [hh]
 refine aA (a_ (wpAny_throw ?_));exact hE _ _ (((Heap.SameBut.update ..).extBut.push _).push _) ⟨_,dP _ rfl,rfl⟩
variable {e:Addr} {j:Int} {items:Array Value} {old:Value}
theorem EY(he:IsEnum s.heap e it j old)(hit:s.heap.IsTupleIter it l i)(hl:s.heap.IsTuple l items)(hx:items[i]?=some x)(gF:e≠it)
  (hQ:∀h',IsEnumOut h' e it (j+1) x s.heap.objs.size→h'.IsTupleIter it l (i+1)→
   h'.get? s.heap.objs.size=some {cls:=.type "tuple",data:=.seq #[.int j s.toks,x]}→h'.objs.size=s.heap.objs.size+1→
   (∀b o,b≠e→b≠it→s.heap.get? b=some o→h'.get? b=some o)→Q (.ref s.heap.objs.size) {s with heap:=h',toks:=s.toks+1}) :
  wpAny (model prog w) A (Builtin.«enumerate.__next__» ⟨[.ref e],[]⟩) (fun fin s'=>∃v,fin=.done (.ret v)∧Q v s') E s:=by
 obtain ⟨hp,g,d,tk,os⟩:=s;show wpAny _ _ (field (.ref e) 2 >>= _) _ _ _;refine aA (fm he rfl (x:=.ref it) rfl ?_);refine aA (EW hit hl hx fun h₁ zf lY=>?_)
 replace lY:Heap.SameBut it hp h₁:=lY
 have qN:IsEnum h₁ e it j old:=(lY.2 e gF).trans he;show wpAny _ _ (field (.ref e) 3 >>= _) _ _ ⟨h₁,g,d,tk,os⟩;refine aA (fm qN rfl (x:=rawInt j) rfl ?_);show wpAny _ _ (field (.ref e) 4 >>= _) _ _ ⟨h₁,g,d,tk,os⟩;refine aA (fm qN rfl (x:=.none) rfl ?_);show wpAny _ _ (mkInt j >>= _) _ _ ⟨h₁,g,d,tk,os⟩;refine aA (wpAny_mkInt ?_);show wpAny _ _ (setField (.ref e) 3 (rawInt (j+1)) >>= _) _ _ ⟨h₁,g,d,tk+1,os⟩;refine aA (nk qN (by simp) fun h₂ qO lZ=>?_)
 replace lZ:Heap.SameBut e h₁ h₂:=lZ
 replace qO:IsEnum h₂ e it (j+1) old:=qO
 show wpAny _ _ (setField (.ref e) 4 .none >>= _) _ _ ⟨h₂,g,d,tk+1,os⟩;refine aA (nk qO (by simp) fun h₃ qP l8=>?_)
 replace l8:Heap.SameBut e h₂ h₃:=l8
 replace qP:IsEnum h₃ e it (j+1) old:=qP
 show wpAny _ _ (newTuple [.int j tk,x] >>= _) _ _ ⟨h₃,g,d,tk+1,os⟩;refine aA (wpAny_newTuple ?_);have qQ:IsEnum (h₃.push {cls:=.type "tuple",data:=.seq #[.int j tk,x]}) e it (j+1) old:=b_ _ qP;generalize oH:h₃.push {cls:=.type "tuple",data:=.seq #[.int j tk,x]}=h₄ at qQ;have fV:h₃.objs.size=hp.objs.size:=by rw [l8.1,lZ.1,lY.1]
 have uJ:e<hp.objs.size:=ba he;have EZ:h₄.get? hp.objs.size=some {cls:=.type "tuple",data:=.seq #[.int j tk,x]}:=by rw [←oH,←fV];exact dP _ rfl
 have E1:h₄.objs.size=hp.objs.size+1:=by rw [←oH,Heap.size_push,fV]
 have E2:∀b o,b≠e→b≠it→hp.get? b=some o→h₄.get? b=some o:=fun b o d9 qR hb=>by rw [←oH];exact b_ _ (l8.extBut b o d9 (lZ.extBut b o d9 (lY.extBut b o qR hb)))
 have E3:h₄.IsTupleIter it l (i+1):=by rw [←oH];obtain ⟨o,ho,r⟩:=(zf.extBut lZ.extBut (eP gF)).extBut l8.extBut (eP gF);exact ⟨o,b_ _ ho,r⟩
 show wpAny _ _ (Builtin.SmallTypes.ownedTupleIsFree (.ref e) >>= _) _ _ ⟨h₄,g,d,tk+1,os⟩;rw [fV];clear oH qP l8 qO lZ qN lY zf fV h₃ h₂ h₁;refine aA ?_
 ·unfold Builtin.SmallTypes.ownedTupleIsFree
  refine aA (fm qQ rfl (x:=.none) rfl (a_ ?_));simp only [if_true];refine aA (gU ?_);refine aA (fm qQ rfl (x:=old) rfl ?_);refine aA (nk qQ (by simp) fun h₅ uK l_=>?_)
  replace l_:Heap.SameBut e h₄ h₅:=l_
  replace uK:IsEnum h₅ e it (j+1) x:=uK
  show wpAny _ _ (Builtin.SmallTypes.ownedTupleHandOut (.ref e) (.ref hp.objs.size) >>= _) _ _ ⟨h₅,g,d,tk+1,os⟩;refine aA ?_
  ·unfold Builtin.SmallTypes.ownedTupleHandOut
   refine aA (nk uK (by simp) fun h₆ uL ma=>?_)
   replace ma:Heap.SameBut e h₅ h₆:=ma
   replace uL:IsEnumOut h₆ e it (j+1) x hp.objs.size:=uL
   refine nk uL (by simp) fun h₇ uN md=>?_
   replace md:Heap.SameBut e h₆ h₇:=md
   replace uN:IsEnumOut h₇ e it (j+1) x hp.objs.size:=uN
   refine aA (wpAny_letGo (a_ ⟨_,rfl,hQ h₇ uN ?_ ?_ ?_ ?_⟩));·exact ((E3.extBut l_.extBut (eP gF)).extBut ma.extBut (eP gF)).extBut md.extBut (eP gF)
   ·exact md.extBut _ _ (Nat.ne_of_gt uJ) (ma.extBut _ _ (Nat.ne_of_gt uJ) (l_.extBut _ _ (Nat.ne_of_gt uJ) EZ))
   ·rw [md.1,ma.1,l_.1,E1]
   ·exact fun b o d9 qR hb=>md.extBut b o d9 (ma.extBut b o d9 (l_.extBut b o d9 (E2 b o d9 qR hb)))
theorem E4{Q:Option Value→Shared→Prop}
  (he:IsEnum s.heap e it j old) (hit:s.heap.IsTupleIter it l i) (hl:s.heap.IsTuple l items) (hx:items[i]?=some x) (gF:e≠it)
  (hQ:∀h',IsEnumOut h' e it (j+1) x s.heap.objs.size→h'.IsTupleIter it l (i+1)→
   h'.get? s.heap.objs.size=some {cls:=.type "tuple",data:=.seq #[.int j s.toks,x]}→h'.objs.size=s.heap.objs.size+1→
   (∀b o,b≠e→b≠it→s.heap.get? b=some o→h'.get? b=some o)→Q (some (.ref s.heap.objs.size)) {s with heap:=h',toks:=s.toks+1}) :
  wpAny (model prog w) A (pyNext (.ref e)) Q E s:=by
 have hT:s.TypeIs (.ref e) "enumerate":=⟨_,he,rfl⟩;unfold pyNext
 exact aA (wpAny_attempt (k8 (name:=Str.ofString "__next__") hT pI
  (jA pI hT PySem.F.entry_enumerate_next
   (EY he hit hl hx gF fun h' a b c d k=>a_ (hQ h' a b c d k)) (PySem.F.args_enumerate_next_1 _))))
theorem E5{Q:Option Value→Shared→Prop}(hh:A.handled=none)
  (he:IsEnum s.heap e it j old) (hit:s.heap.IsTupleIter it l i) (hl:s.heap.IsTuple l items) (hx:items[i]?=none)
  (hQ:∀h',Heap.ExtBut it s.heap h'→Q none {s with heap:=h'}):wpAny (model prog w) A (pyNext (.ref e)) Q E s:=by
 have hT:s.TypeIs (.ref e) "enumerate":=⟨_,he,rfl⟩;unfold pyNext
 refine aA (wpAny_attempt (k8 (name:=Str.ofString "__next__") hT pI
  (jA pI hT PySem.F.entry_enumerate_next ?_ (PySem.F.args_enumerate_next_1 _))))
 show wpAny _ _ (field (.ref e) 2 >>= _) _ _ _;refine aA (fm he rfl (x:=.ref it) rfl ?_);refine aA (EX hh hit hl hx fun h' x E6 E7=>?_);obtain ⟨o,ho,hc⟩:=E7;refine aA (wpAny_isInstance (T:="StopIteration") (b:=true) ⟨o,ho,hc⟩ isSubtype_stop ?_);exact a_ (hQ _ E6)
end
open AutoSeq1 (wpAny_loadPart')
section
variable {prog:Program} {w:World} {A:Around} {E:aE} {s:Shared}
theorem E8{T newId n_:String}{Bn Bi:Builtin}{args:List Value}{kw:List (Str×Value)}{S:PySem.Spec}{Q Q₁:aE}(ft:TypeCalled T newId n_)(JX:checkTypeCall T ⟨args,kw⟩=pure ())(E9:checkBuiltinCall newId ⟨.type T::args,kw⟩=pure ())
  (E_:entryFor table newId=some Bn) (Fb:entryFor table n_=some Bi) (g:Meets (Bn ⟨.type T::args,kw⟩) S) (h:S A.in1 (wants Q₁ E) s)
  (Fc:∀obj s₁,Q₁ obj s₁→s₁.TypeIs obj T∧argsOk n_ ⟨obj::args,kw⟩∧∃Si,Meets (Bi ⟨obj::args,kw⟩) Si∧Si A.in1 (wants (fun r s₂=>r=.none∧Q obj s₂) E) s₁) :
  wpAny (model prog w) A (call (.type T) args kw) Q E s:=by
 obtain ⟨c,tl,n9⟩:=ft.mro;have JY:=ft.made;have tN:=ft.sub;refine wpAny_call (codeAny_of_tree (show wpAny _ _ (callAny (.type T) _) _ _ _ from a_ ⟨Code.quiet_builtin _ (by decide +kernel),codeAny_builtin F.entry_type_call ?_⟩))
 rw [Around.under_plain (weight_type_call_type T args kw) (units_type_call_type T args kw)];have h1:=ft.notType;have h2:=ft.canCreate
 repeat (any_goals (first | assumption | wp_step))
 refine k6 (pk ft.plain E_ (wpAny_of_eq E9 (g prog w A.in1 _ s h))) fun r s₁ hr=>?_;cases r with
 | error e=>exact hr
 | ok fl=>
  cases fl with
  | ret obj=>
   obtain ⟨hT,aB,Si,gi,Fd⟩:=Fc _ _ hr;have JZ:=ft.init.lookup;have qR:=ft.init.bind obj
   repeat (any_goals (first | assumption | wp_step))
   refine k6 (pk ft.init.plain Fb (ft.init.check _ _ _ _ _ _ _ _ hT aB (gi prog w A.in1 _ s₁ Fd))) fun r₂ s₂ uO=>?_;cases r₂ with
   | error e=>exact uO
   | ok Fe=>
    cases Fe with
    | ret r=>
     obtain ⟨rfl,hq⟩:=uO
     repeat (any_goals (first | assumption | wp_step))
    | _=>exact uO.elim
  | _=>exact hr.elim
end
variable {T:String}
theorem Ff{newId:String}{self a:Value}{kw:List (Str×Value)}(hl:typeLookup (.type T) "__init__"=pure (some (.builtin "object.__init__")))(hm:Bind.madeBy (.type T)=pure (some newId))(gF:(some newId != some "object.__new__")=true) :
  Meets (Builtin.«object.__init__» ⟨[self,a],kw⟩) (fun _ R s=>s.TypeIs self T∧R (.ok (.ret .none)) s):=by
 refine Meets.of_wp fun prog w A R s hs=>?_;obtain ⟨hT,hq⟩:=hs
 repeat (any_goals (first | assumption | wp_step))
 exact ⟨_,rfl,hq⟩
theorem Fg(l:Addr)(items:Array Value)(n:Nat)(hJ:Option Addr)(sl:Array (Option Value))(t:Tok) :
  Meets (Builtin.«enumerate.__new__» ⟨[.type "enumerate",.ref l],[(Str.ofString "start",.int 1 t)]⟩) (fun _ R s=>s.heap.get? l=some {cls:=.type "tuple",dict:=hJ,data:=.seq items n,slots:=sl} ∧
   R (.ok (.ret (.ref (s.heap.push {cls:=.type "tuple_iterator",data:=.fields #[.ref l,.int 0 0]}).objs.size)))
    {s with heap:=(s.heap.push {cls:=.type "tuple_iterator",data:=.fields #[.ref l,.int 0 0]}).push {cls:=.type "enumerate",data:=.fields #[.none,.bool false,.ref s.heap.objs.size,rawInt 1,.none,.none]}}):=
 .of_wp fun prog w A R s h=>by
  obtain ⟨hp,g,d,tk,os⟩:=s;obtain ⟨hl,h⟩:=h;have tN:=sub_enumerate;have hL:Heap.IsTuple (Shared.heap ⟨hp,g,d,tk,os⟩) l items:=⟨_,hl,rfl,n,rfl⟩
  wp_walk using jG hl
  refine wpAny_stack_any fun st=>a_ ?_
  split
  ·rename_i c _ _ _ _ _
   cases (c == Value.type "enumerate")
   ·wp_walk using jG hl,wpAny_pyIter_tuple hL
    exact ⟨_,rfl,h⟩
   ·wp_walk using jG hl,wpAny_pyIter_tuple hL
    exact ⟨_,rfl,h⟩
  ·wp_walk using jG hl,wpAny_pyIter_tuple hL
   exact ⟨_,rfl,h⟩
section
variable {prog:Program} {w:World} {A:Around} {E:aE} {s:Shared}
theorem Fh{l:Addr}{items:Array Value}{t:Tok}{Q:aE}(hL:s.heap.IsTuple l items)
  (h:∀h',IsEnum h' (s.heap.objs.size+1) s.heap.objs.size 1 .none→h'.IsTupleIter s.heap.objs.size l 0→(∀b o,s.heap.get? b=some o→h'.get? b=some o)→Q (.ref (s.heap.objs.size+1)) {s with heap:=h'}) :
  wpAny (model prog w) A (call (.type "enumerate") [.ref l] [(Str.ofString "start",.int 1 t)]) Q E s:=by
 obtain ⟨⟨c,hJ,dt,sl⟩,hl,hc,n,hd⟩:=hL
 replace hc:c=.type "tuple":=hc
 replace hd:dt=.seq items n:=hd
 subst hc hd;have ft:=PySem.F.called_enumerate;refine E8 (Q₁:=fun obj s₁=>s₁.TypeIs obj "enumerate"∧Q obj s₁) ft (by kernel_rfl) (by kernel_rfl) PySem.F.entry_enumerate_new PySem.F.entry_object_init (Fg l items n hJ sl t) ⟨hl,?_⟩ fun obj s₁ hq=>⟨hq.1,by unfold argsOk;kernel_rfl,_,Ff ft.init.lookup ft.made (by decide),hq.1,rfl,hq.2⟩
 have hz:(s.heap.push {cls:=.type "tuple_iterator",data:=.fields #[.ref l,.int 0 0]}).objs.size=s.heap.objs.size+1:=Heap.size_push ..;show _∧_;rw [hz];have he:IsEnum ((s.heap.push {cls:=.type "tuple_iterator",data:=.fields #[.ref l,.int 0 0]}).push {cls:=.type "enumerate",data:=.fields #[.none,.bool false,.ref s.heap.objs.size,rawInt 1,.none,.none]}) (s.heap.objs.size+1) s.heap.objs.size 1 .none:=by have:=dP (s.heap.push {cls:=.type "tuple_iterator",data:=.fields #[.ref l,.int 0 0]}) (o:={cls:=.type "enumerate",data:=.fields #[.none,.bool false,.ref s.heap.objs.size,rawInt 1,.none,.none]}) rfl;rw [hz] at this;exact this
 exact ⟨⟨_,he,rfl⟩,h _ he ⟨_,b_ _ (dP _ rfl),rfl,rfl⟩ fun b o x=>b_ _ (b_ _ x)⟩
end
def uP(K:aJ)(l:Addr):It:=
  ⟨fun i H=>∃xs x,cF K H l xs∧xs[i]?=some x,
   fun i H v H'=>∃T x,H T=none∧v=.ref T∧H'=upd H T (.tup [.int ((i:Int)+1),x])∧∀xs,cF K H l xs→xs[i]?=some x,
   fun i H=>∃xs,cF K H l xs∧xs.length≤i⟩
variable {K:aJ} {pos:Pos} {l:Addr}
theorem Fi{P:Program}{w:World}{elts:List Expr}{k:Nat}{e it:Addr}(zg:e≠it):Turn P w K (.Tuple elts k pos) (uP K l) [e,it] e
  (fun i h=>(∃old,IsEnum h e it ((i:Int)+1) old)∧h.IsTupleIter it l i) where
 mem:=by simp
 obj:=fun i h st b hb=>by
  obtain ⟨⟨old,he⟩,h1⟩:=st;simp only [cN,nr,or_false] at hb;rcases hb with rfl | rfl;·exact ⟨_,he,fun v z=>by cases z⟩
  ·obtain ⟨o,e,c,d⟩:=h1
   exact ⟨o,e,fun v z=>by rw [d] at z;cases z⟩
 keep:=fun i h h' st k=>by obtain ⟨⟨old,he⟩,h1⟩:=st;exact ⟨⟨old,k _ (by simp) _ he⟩,h1.at fun o e=>k _ (by simp) o e⟩
 item:=by
  intro X hP hw hK hc i pins s σ H E I hf st hg;subst hP hw hK;obtain ⟨⟨old,he⟩,h1⟩:=st;obtain ⟨xs,x,me,hx⟩:=hg;obtain ⟨au,rv,p,_⟩:=I.tuple me;obtain ⟨u,hu,ru⟩:=rv.get hx;refine E4 he h1 p (x:=u) (by simpa using hu) zg fun h' g1 g2 g3 g4 g5=>⟨_,rfl,?_⟩
  refine wpAny_letOwnedTupleGo_enum g1 fun qS q1 sb=>?_;have qk:H s.heap.objs.size=none:=I.aB.fresh (aG _);have lt:∀b o,s.heap.get? b=some o→b≠s.heap.objs.size:=fun b o e=>cB (ba e);have keep:∀b o,b∉[e,it]→s.heap.get? b=some o→qS.get? b=some o:=fun b o nb e=>by simp only [cN,nr,or_false,not_or] at nb;exact sb.extBut _ _ nb.1 (g5 b o nb.1 nb.2 e)
  have elt:e≠s.heap.objs.size:=lt _ _ he;have pT:=sb.extBut _ _ elt.symm g3;have oI:∀{b:Addr} {o:HO} (e:H b=some o),upd H s.heap.objs.size (.tup [.int ((i:Int)+1),x]) b=some o:=fun e=>by rw [bu (eT e qk)];exact e
  have aB:bM X.prog X.w (upd H s.heap.objs.size (.tup [.int ((i:Int)+1),x])) qS:=fun b o e=>by
   by_cases hb:b=s.heap.objs.size
   ·subst hb
    rw [aw] at e;cases e;exact ⟨by show 2≤sizeLine;decide,[.int ((i:Int)+1) s.toks,u],.cons ⟨_,rfl⟩ (.cons ru .nil),⟨_,pT,rfl,_,rfl⟩⟩
   ·rw [bu hb] at e
    refine (I.aB b o e).fw (fun c v fQ q=>keep c v (fun m=>?_) q) (fun c q=>oI q) fun c xs q=>oI q;have nn:=(hf c m).1;rcases fQ with rfl | fQ;·rw [nn] at e;cases e
    ·rw [nn] at fQ;cases fQ
  have u1:Un (bH X.stack) [e,it] H (upd H s.heap.objs.size (.tup [.int ((i:Int)+1),x])) s.heap qS:=
   ⟨fun b o e n _ hx=>keep b o hx e,fun b o e n _ hx=>⟨o.slots,keep b o hx e⟩,fun b o e n hx=>by rw [bu (lt b o e)];exact n,fun b o e hx=>⟨o,keep b o hx e⟩,fun b xs e=>oI e,fun b o u e=>oI e,fun b ps e=>⟨#[],by rw [oI e];simp⟩⟩
  refine ⟨.ref s.heap.objs.size,upd H s.heap.objs.size (.tup [.int ((i:Int)+1),x]),I.i9 (s':={s with heap:=qS,toks:=s.toks+1}) (ch:=[e,it]) rfl u1 aB I.bare (fun b hb=>?_),rfl,⟨_,x,qk,rfl,rfl,fun as ha=>by rw [I.Bq ha me];exact hx⟩,?_,fun b hb=>?_⟩
  ·obtain ⟨f0,f1,f2,f3,f4,f5⟩:=hf b hb
   exact ⟨f3,f1,f4,f5⟩
  ·refine ⟨⟨u,?_⟩,g2.extBut sb.extBut zg.symm⟩
   have z:((i+1:Nat):Int)+1=(i:Int)+1+1:=by omega
   rw [z];exact q1
  ·have nb:b≠s.heap.objs.size:=by
    simp only [cN,nr,or_false] at hb;rcases hb with rfl | rfl;·exact lt _ _ he
    ·obtain ⟨o,e,_⟩:=h1;exact lt _ _ e
   rw [bu nb];exact (hf b hb).1
 done:=by
  intro X hP hw hK hc i pins s σ H E I hf st hg;subst hP hw hK;obtain ⟨⟨old,he⟩,h1⟩:=st;obtain ⟨xs,me,hx⟩:=hg;obtain ⟨au,rv,p,_⟩:=I.tuple me;have hl:=rv.length;refine E5 (I.ok.hd hc) he h1 p (by simp;omega) fun h' g=>⟨rfl,?_⟩
  have keep:∀b o,b∉[e,it]→s.heap.get? b=some o→h'.get? b=some o:=fun b o nb e=>by simp only [cN,nr,or_false,not_or] at nb;exact g b o nb.2 e
  have aB:bM X.prog X.w H h':=fun b o e=>by
   refine (I.aB b o e).fw (fun c v fQ q=>keep c v (fun m=>?_) q) (fun c q=>q) fun c xs q=>q;have nn:=(hf c m).1;rcases fQ with rfl | fQ;·rw [nn] at e;cases e
   ·rw [nn] at fQ;cases fQ
  have u1:Un (bH X.stack) [e,it] H H s.heap h':=
   ⟨fun b o e n _ hx=>keep b o hx e,fun b o e n _ hx=>⟨o.slots,keep b o hx e⟩,fun b o e n hx=>n,fun b o e hx=>⟨o,keep b o hx e⟩,fun b xs e=>e,fun b o u e=>e,fun b ps e=>⟨#[],by rw [e];simp⟩⟩
  refine I.i9 (s':={s with heap:=h'}) (ch:=[e,it]) rfl u1 aB I.bare fun b hb=>?_;obtain ⟨f0,f1,f2,f3,f4,f5⟩:=hf b hb;exact ⟨f3,f1,f4,f5⟩
 self:=fun _ _ _ _ _ st h=>by obtain ⟨⟨old,he⟩,_⟩:=st;exact wpAny_pyIter_enum he h
theorem Fj{M:Model}{A:Around}{E:aE}{s:Shared}{env:Env}{e:Expr}{jc:List Keyword}{Q:aE}
  (h:wpAny M A (spliced (backTo pos (starEach [e] env))) (fun vs s₁=>wpAny M A (evalAll ((backToKw pos (keywordEach jc env)).map (·.2))) (fun bT s₂=>wpAny M A (call (.type T) vs (((backToKw pos (keywordEach jc env)).filterMap (·.1)).zip bT)) Q E s₂) E s₁) E s)
  (he:backTo pos (starEach [e] env)=[(false,eval e env)]) (tF:(backToKw pos (keywordEach jc env)).all (·.1.isSome)=true) (Fl:(backToKw pos (keywordEach jc env)).any (·.1.isNone)=false) :
  wpAny M A (callWith pos (.type T) [] (backTo pos (starEach [e] env)) (backToKw pos (keywordEach jc env))) Q E s:=by
 unfold callWith;rw [he] at h ⊢;have h':wpAny M A (evalArgs (.type T) true [(false,eval e env)] (backToKw pos (keywordEach jc env))) (fun a s₁=>wpAny M A (call (.type T) ([]++a.pos) a.kw) Q E s₁) E s:=evalArgs_kwB tF h;refine aA (ik (bj h' (fun a s₁ h₁=>aA (m9 ?_)) fun _ _ x=>x));simp only [Fl,List.any_cons,List.any_nil,Bool.or_false];exact aA (a_ (aA (bj h₁ (fun r s₂ hr=>aA (ik (wpAny_point (a_ hr)))) fun _ _ x=>x)))
def Fm(K:aJ)(ta:TA)(td:TE):TI:=fun σ H R=>ta σ H fun vs H1=>td σ H1 fun y H2=>∃l,vs=[.ref l]∧y=.int 1∧(∃xs,cF K H2 l xs)∧R (uP K l) H2
section
variable {X:Cx}
theorem zh{elts:List Expr}{k:Nat}{pX:Pos}{a de:Expr}{ta:TA}{td:TE}{p Fn:Pos}(hg:Gl X "enumerate")(hm:X.mg "enumerate"=none)(ha:PA X [a] ta)(hd:PE X de td)(he:backTo pos (starEach [a] X.env)=[(false,eval a X.env)]:=by rfl) :
  PI X (.Tuple elts k pX) (.Call (.Name "enumerate" p) [a] [⟨some (Str.ofString "start"),de,Fn⟩] pos) (Fm X.K ta td):=by
 intro pins s σ H R I h
 refine ng (lG I hg hm boot_enumerate ?_)
 refine Fj (aM (ha pos pins s σ H _ I h) fun us s1 ⟨vs,H1,I1,r1,q1⟩=>?_) he rfl rfl
 show wpAny _ _ (evalAll [(do let v ←eval de X.env;standAt pos;pure v)]) _ _ s1
 refine wpAny_evalAll_cons (aA (aM (hd pins s1 σ H1 _ I1 q1) fun u s2 ⟨y,H2,I2,r2,q2⟩=>aA (m9 (a_ (wpAny_evalAll_nil ?_)))))
 obtain ⟨l,rfl,rfl,⟨xs,me⟩,q⟩:=q2
 obtain ⟨u',rfl,ru⟩:=vals1 r1
 cases ru
 obtain ⟨uQ,rfl⟩:=r2
 obtain ⟨au,rv,p1,_⟩:=I2.tuple me
 show wpAny _ _ (call (.type "enumerate") [.ref l] [(Str.ofString "start",.int 1 uQ)]) _ _ s2
 refine Fh (items:=au.toArray) p1 fun h' z1 z2 z4=>?_
 refine wpAny_pyIter_enum (s:={s2 with heap:=h'}) z1 ?_
 refine ⟨_,_,_,_,H2,rfl,I2.kept (t':=s2.toks) z4,Fi (Nat.succ_ne_self _),⟨⟨_,z1⟩,z2⟩,fun b hb=>?_,q⟩
 have le:s2.heap.objs.size≤b:=by
  simp only [cN,nr,or_false] at hb
  rcases hb with rfl | rfl
  ·exact Nat.le_add_right ..
  ·exact aG _
 exact I2.sL le (I2.aB.fresh le)
end
open PySem PySem.Spec PyProof.Rows My
theorem Fo{xs:List V}{H1:Hp}(h:H1 l=some (.tup xs)):yB (uP K l) ((List.range xs.length).zip xs |>.map fun p=>(V.int ((p.1:Int)+1),p.2)) H1 where
 go:=fun i Hc s hi=>by
  have hi:i<xs.length:=by simpa using hi
  exact ⟨xs,xs[i],.of (s _ _ h),by simp [hi]⟩
 dH:=fun i Hc v H' s y=>by
  obtain ⟨T,x,nT,e1,e2,e3⟩:=y;refine ⟨T,.int ((i:Int)+1),x,e1,nT,e2,fun hi=>?_⟩;have hi:i<xs.length:=by simpa using hi
  have:=e3 xs (.of (s _ _ h));rw [dQ,(List.getElem?_zip_eq_some (z:=(i,x))).mpr ⟨k_ hi,this⟩];rfl
 stop:=fun i Hc s hi=>by
  have hi:xs.length≤i:=by simpa using hi
  exact ⟨xs,.of (s _ _ h),hi⟩
end L2
namespace My
open PySem L2
def Fp:Sp:=fun vs H Q _=>∃(td:Addr) (N:aT),vs=[.ref td]∧ToldN H td N∧N.ok∧Q (.int (N.sz:Int)) H
def Fq:Sp:=fun vs H Q _=>∃(td:Addr) (N:aT) (i j:Nat),vs=[.ref td,.int (i:Int),.int (j:Int)]∧ToldN H td N∧N.ok∧i<j∧j<N.sz∧Q (.bl (N.lk i j)) H
def Fs:Sp:=fun vs H Q _=>∃(td:Addr) (N:aT),vs=[.ref td]∧ToldN H td N∧N.ok∧∀(t:Addr) (H':Hp),aq H H'→iO H' t N.sz (dB N)→Q (.ref t) H'
def dC(H:Hp)(T:Addr):Prop:=∃x:Int,H T=some (.lst [.int x])
def bR(T:Addr)(H H':Hp):Prop:=∀b o,b≠T→H b=some o→H' b=some o
variable {T:Addr} {H H1:Hp}
theorem bR.trans{H2:Hp}(a:bR T H H1)(b:bR T H1 H2):bR T H H2:=fun c o n e=>b c o n (a c o n e)
theorem bR.of(a:aq H H1):bR T H H1:=fun c o _ e=>a c o e
theorem bR.upd{o:HO}:bR T H (L2.upd H T o):=fun c u n e=>(bu n).trans e
theorem dC.mono(h:dC H T)(a:aq H H1):dC H1 T:=let ⟨x,e⟩:=h;⟨x,a _ _ e⟩
theorem dC.ne{b:Addr}(h:dC H T)(n:H b=none):b≠T:=fun z=>by obtain ⟨x,e⟩:=h;rw [z,e] at n;cases n
def Ft(K:aJ):Sp:=fun vs H Q _=>∃(a:Addr) (ns:List Int) (k:Nat),vs=[.ref a,.int (k:Int)]∧cn K H a (ns.map V.int)∧∀z:Int,Q (.int z) H
def Fu(K:aJ):Sp:=fun vs H Q _=>∃(a:Addr) (ns:List Int) (k:Nat),vs=[.ref a,.int (k:Int)]∧cn K H a (ns.map V.int)∧k≤1000∧∀(T:Addr) (H':Hp),aq H H'→H T=none→dC H' T→Q (.ref T) H'
def Fv:Sp:=fun vs H Q _=>∃(T:Addr) (m:Nat),vs=[.ref T,.int (m:Int)]∧dC H T∧1≤m∧m≤1000∧∀(d:Nat) (H':Hp),d<m→bR T H H'→dC H' T→Q (.int (d:Int)) H'
theorem bR.refl(T:Addr)(H:Hp):bR T H H:=fun _ _ _ e=>e
theorem Fw{wi:TI}{ρ:St→St}{te:TE}{σ:St}{Q:VK}{n:Nat}(hn:n<sizeLine)(hT:dC H T)(iG:∀R:It→Hp→Prop,R (g6 0 n) H→wi σ H R)(Pr:Nat→V→Prop)
  (step:∀i:Nat,i<n→∀(Hc:Hp) (R:VK),bR T H Hc→dC Hc T→(∀y H3,bR T Hc H3→dC H3 T→Pr i y→R y H3)→te (some (.int (0+(i:Int)))::ρ σ) Hc R)
  (fin:∀(D:Addr) (ys:List V) (Hc:Hp),D≠T→bR T H Hc→dC Hc T→ys.length=n→(∀(i:Nat) (y:V),ys[i]?=some y→Pr i y)→Hc D=some (.lst ys)→Q (.ref D) Hc):fY wi ρ (fun _ H Q=>Q true H) te σ H Q:=by
 refine iG _ ?_;intro D nD;have nP:=hT.ne nD;have up:∀{Hc:Hp} {o:HO},dC Hc T→dC (L2.upd Hc D o) T:=fun⟨x,e⟩=>⟨x,(bu (eP nP)).trans e⟩;have off:∀{Hc:Hp} {o:HO},bR T H Hc→bR T H (L2.upd Hc D o):=fun h b u ne e=>(bu (fun z=>by rw [z,nD] at e;cases e)).trans (h b u ne e)
 refine ⟨fun i m ys Hc=>m=n-i∧i≤n∧Hc D=some (.lst ys)∧bR T H Hc∧dC Hc T∧ys.length=i∧∀j y,ys[j]?=some y→Pr j y,⟨_,rfl,dj _,aw,off (bR.refl T H),up hT,rfl,fun j y e=>by simp at e⟩,?_⟩
 rintro i m ys Hc ⟨rfl,hi,eD,sH,pc,el,hP⟩;refine ⟨eD,?_⟩;by_cases cA:i<n
 ·refine .inr ⟨cA,fun x H' hy=>?_⟩
  obtain ⟨rfl,rfl⟩:=hy;rw [aj rfl];refine step i cA _ _ sH pc fun y H3 s3 p3 hp=>?_;have e3:=s3 _ _ nP eD;refine ⟨e3,by omega,n-(i+1),by omega,rfl,cA,aw,off (sH.trans s3),up p3,by simp [el],fun j y' e=>?_⟩
  by_cases hj:j<i;·exact hP j y' (by rw [gR (by omega)] at e;exact e)
  ·have hj:j=i:=by have:=(bZ.mp e).1;simp at this;omega
   subst hj;have e':y'=y:=by rw [gh (by omega),el,lg] at e;simpa using e.symm
   subst e';exact hp
 ·have e:i=n:=by omega
  subst e;exact .inl ⟨aG _,fin D ys Hc nP sH pc el hP eD⟩
end My
namespace L2
open PySem
end L2
namespace My
open PySem L2
variable {Q:VK} {n:Nat}
theorem qT{wi:TI}{ρ:St→St}{te:TE}{σ:St}{H:Hp}(g:Nat→Int×Int)(hn:n≤500)(iG:∀R:It→Hp→Prop,R (g6 0 n) H→wi σ H R)
  (step:∀i:Nat,i<n→∀(Hc:Hp) (R:VK),aq H Hc→(∀b H3,aq Hc H3→H3 b=some (.tup [.int (g i).1,.int (g i).2])→R (.ref b) H3)→te (some (.int (0+(i:Int)))::ρ σ) Hc R)
  (fin:∀(D:Addr) (ys:List V) (Hc:Hp),H D=none→aq H Hc→Hc D=some (.lst ys)→bg Hc ys ((List.range n).map g)→Q (.ref D) Hc):fY wi ρ (fun _ H Q=>Q true H) te σ H Q:=by
 have lx:((List.range n).map fun i:Nat=>V.int (0+(i:Int))).length=n:=by simp
 refine DM (xs:=(List.range n).map fun i:Nat=>V.int (0+(i:Int))) (fun R h=>iG R (h _ _ (aq.refl _) yu)) (jY (by omega)) (fun _ i y Hz=>∃b:Addr,y=.ref b∧Hz b=some (.tup [.int (g i).1,.int (g i).2])) (fun D i y Ha Hb ys ⟨b,h1,h2⟩ e f=>⟨b,h1,f b _ (fun z=>by rw [z,e] at h2;cases h2) h2⟩) ?_ ?_
 ·intro D i x hx Hc R sc _ kc
  have hi:i<n:=by have:=(bZ.mp hx).1;omega
  rw [dQ,k_ hi] at hx;cases hx;exact step i hi Hc R sc fun b H3 s3 e=>kc _ _ s3 ⟨b,rfl,e⟩
 ·intro D ys Hc nD sc ly hP eD
  refine fin D ys Hc nD sc eD ⟨by rw [ly,lx];simp,fun i v p h1 h2=>?_⟩
  have hi:i<n:=by have:=(bZ.mp h1).1;omega
  rw [dQ,k_ hi] at h2;cases h2;exact hP i v h1
def oJ(n k:Nat):Nat:=((List.range k).map fun i=>n-1-i).sum
theorem zi{n:Nat}{f:Nat→Nat→Bool}:∀k,(fg n f k).length≤oJ n k
 | 0=>aG _
 | k+1=>by
  show (fg n f k++gO n f k).length≤_;have h1:=zi (n:=n) (f:=f) k;have h2:(gO n f k).length≤n-1-k:=by unfold gO;rw [bz];refine cE (List.length_filter_le _ _) ?_;rw [i3];omega
  have h3:oJ n (k+1)=oJ n k+(n-1-k):=by unfold oJ;rw [pG,jH,List.sum_append];simp
  rw [dk];omega
theorem Fx:∀n∈List.range 61,oJ n n≤1770:=by decide +kernel
variable {N:aT}
theorem uR(ok:N.ok):(dB N).length≤1770:=cE (zi _) (Fx _ (cX.mpr (by have:=qM ok;omega)))
theorem zj:(dB N).Nodup:=(ze (N:=N)).imp fun h e=>by subst e;exact uz h
theorem oK{K:aJ}{Hc:Hp}{fd:Addr}{xs:List V}{M:dF}(ok:N.ok)(ef:Hc fd=some (.lst xs))(hX:bg Hc xs M)(nd:M.Nodup)(mm:∀z,z∈M↔z∈dB N)
  (kk:∀(lt:Addr) (zs:List V) (Hd:Hp),aq Hc Hd→Hd lt=some (.tup zs)→bg Hd zs (dB N)→Q (.ref lt) Hd) :
  yW [.ref fd] Hc (fun x H2=>∃p ys,[x]=[V.ref p]∧((cn K H2 p ys∧∀l,H2 l=none→Q (.ref l) (upd H2 l (.tup ys)))∨(cF K H2 p ys∧Q (.ref p) H2))):=by
 have lX:=hX.1;have Fy:M.Perm (dB N):=(List.perm_ext_iff_of_nodup nd zj).mpr mm;have gf:=uR ok;have lM:=Fy.length_eq;have J0:=qM ok;have small:∀q∈M,0≤q.2∧q.2<1000:=fun q hq=>by have:=EV q ((mm q).mp hq);omega
 refine ⟨fd,xs,fun i=>(M.getD i (0,0)).1,fun i=>(M.getD i (0,0)).2,rfl,ef,by omega,fun i v hv=>?_,fun p l' hp hu Fz=>?_⟩
 ·have hi:i<M.length:=by rw [←lX];exact (bZ.mp hv).1
  obtain ⟨b,rfl,eb⟩:=hX.2 i v M[i] hv (by simp [hi])
  dsimp only;rw [getD_at hi];exact ⟨⟨b,rfl,eb⟩,small _ (fq hi)⟩
 ·rw [lX] at hp hu
  obtain ⟨pm,pw⟩:=EA hp hu nd small;have sl:aq Hc (upd Hc l' (.lst (p.toList.map fun i=>xs.getD i .aR))):=ax Fz;have hP:bg Hc (p.toList.map fun i=>xs.getD i .aR) (p.toList.map fun i=>M.getD i (0,0)):=hX.pick _ fun i hi=>by have:p.toList.Perm (List.range M.length):=nj.mp hp;exact cX.mp (this.mem_iff.mp hi)
  have eN:(p.toList.map fun i=>M.getD i (0,0))=dB N:=y6 pw ze fun q=>(pm.mem_iff).trans (mm q);rw [eN] at hP;generalize (p.toList.map fun i=>xs.getD i .aR)=zs at sl hP ⊢;refine ⟨l',zs,rfl,.inl ⟨.of aw,fun lt oM=>?_⟩⟩;have jS:=sl.trans (ax (o:=.tup zs) oM);exact kk lt zs _ jS aw (hP.mono jS)
def cS(f:Nat→Nat→Bool)(j:Nat):Nat→List (Int×Int)
 | 0=>[]
 | i+1=>cS f j i++if f i j then [((i:Int),(j:Int))] else []
def cI(f:Nat→Nat→Bool):Nat→List (Int×Int)
 | 0=>[]
 | j+1=>cI f j++cS f j j
theorem qU{f:Nat→Nat→Bool}{j:Nat}{z:Int×Int}:∀{k:Nat},z∈cS f j k↔∃i,i<k∧f i j=true∧z=((i:Int),(j:Int))
 | 0=>⟨(fun h=>by cases h),fun⟨i,h,_⟩=>by omega⟩
 | k+1=>by
  show z∈cS f j k++_↔_;rw [eQ,qU (k:=k)];constructor
  ·rintro (⟨i,h1,h2,h3⟩ | h)
   ·exact ⟨i,by omega,h2,h3⟩
   ·by_cases q:f k j=true
    ·rw [aj q] at h
     exact ⟨k,by omega,q,gm.mp h⟩
    ·rw [ai q] at h
     cases h
  ·rintro ⟨i,h1,h2,h3⟩
   by_cases q:i<k;·exact .inl ⟨i,q,h2,h3⟩
   ·have:i=k:=by omega
    subst this;rw [aj h2];exact .inr (gm.mpr h3)
theorem uS{f:Nat→Nat→Bool}{z:Int×Int}:∀{k:Nat},z∈cI f k↔∃i j,i<j∧j<k∧f i j=true∧z=((i:Int),(j:Int))
 | 0=>⟨(fun h=>by cases h),fun⟨i,j,_,h,_⟩=>by omega⟩
 | k+1=>by
  show z∈cI f k++_↔_;rw [eQ,uS (k:=k),qU];constructor
  ·rintro (⟨i,j,h1,h2,h3⟩ | ⟨i,h1,h2,h3⟩)
   ·exact ⟨i,j,h1,by omega,h3⟩
   ·exact ⟨i,k,h1,by omega,h2,h3⟩
  ·rintro ⟨i,j,h1,h2,h3,h4⟩
   by_cases q:j<k;·exact .inl ⟨i,j,h1,q,h3,h4⟩
   ·have:j=k:=by omega
    subst this;exact .inr ⟨i,h1,h3,h4⟩
theorem zl{f:Nat→Nat→Bool}{j:Nat}:∀k,(cS f j k).Nodup
 | 0=>lh
 | k+1=>by
  show (cS f j k++_).Nodup;refine pJ.mpr ⟨zl k,by split <;> simp,fun a ha b hb e=>?_⟩
  obtain ⟨i,h1,_,rfl⟩:=qU.mp ha;by_cases q:f k j=true
  ·rw [aj q,gm] at hb
   rw [hb] at e;have:=cw Prod.fst e;dsimp only at this;omega
  ·rw [ai q] at hb
   cases hb
theorem qV{f:Nat→Nat→Bool}:∀k,(cI f k).Nodup
 | 0=>lh
 | k+1=>by show (cI f k++cS f k k).Nodup;refine pJ.mpr ⟨qV k,zl k,fun a ha b hb e=>?_⟩;obtain ⟨i,j,_,h1,_,rfl⟩:=uS.mp ha;obtain ⟨i',_,_,rfl⟩:=qU.mp hb;have:=cw Prod.snd e;dsimp only at this;omega
variable {z:Int×Int}
theorem uT:z∈cI N.lk N.sz↔z∈dB N:=by
 rw [uS];constructor
 ·rintro ⟨i,j,h1,h2,h3,rfl⟩
  exact zd.mpr ⟨h1,h2,h3⟩
 ·intro h
  obtain ⟨i,j,_,h2,h3,h4,e⟩:=mem_of h;exact ⟨i,j,h2,h3,h4,e⟩
theorem zo(ok:N.ok){k i:Nat}(hk:k<N.sz)(hi:i≤k):(cI N.lk k++cS N.lk k i).length≤1770:=by
 have h1:∀d,(cS N.lk k i).length≤(cS N.lk k (i+d)).length:=fun d=>by
  induction d with
  | zero=>exact aG _
  | succ d ih=>show _≤(cS N.lk k (i+d)++_).length;rw [dk];omega
 have h2:∀d,(cI N.lk (k+1)).length≤(cI N.lk (k+1+d)).length:=fun d=>by
  induction d with
  | zero=>exact aG _
  | succ d ih=>show _≤(cI N.lk (k+1+d)++_).length;rw [dk];omega
 have a:=h1 (k-i);rw [show i+(k-i)=k by omega] at a
 have b:=h2 (N.sz-(k+1));rw [show k+1+(N.sz-(k+1))=N.sz by omega] at b
 have c:(cI N.lk (k+1)).length=(cI N.lk k).length+(cS N.lk k k).length:=dk;have d:=((List.perm_ext_iff_of_nodup (qV N.sz) (zj (N:=N))).mpr fun z=>uT).length_eq;have e:=uR ok;rw [dk];omega
theorem uU:z∈dB N↔∃a b:Nat,z=((a:Int),(b:Int))∧a<b∧b<N.sz∧N.lk a b=true:=by
 constructor
 ·intro h
  obtain ⟨i,j,_,h2,h3,h4,e⟩:=mem_of h;exact ⟨i,j,e,h2,h3,h4⟩
 ·rintro ⟨a,b,rfl,h⟩
  exact zd.mpr h
theorem qW{g:Nat→Int×Int}(inj:∀i j,i<n→j<n→g i=g j→i=j):((List.range n).map g).Nodup:=by refine List.pairwise_map.mpr (List.Pairwise.imp_of_mem (fun{a b} ha hb h e=>h (inj a b (cX.mp ha) (cX.mp hb) e)) List.nodup_range)
def qX(n:Nat):List (Int×Int):=[((0:Int),(n:Int)-1)]++(List.range (n-1)).map fun k:Nat=>((k:Int),(k:Int)+1)
theorem FA(h:3≤n):(qX n).Nodup∧∀z,z∈qX n↔z∈dB (.ring n):=by
 refine ⟨pJ.mpr ⟨by simp,qW fun i j _ _ e=>by have:=cw Prod.fst e;dsimp only at this;omega,fun a ha b hb e=>?_⟩,fun z=>?_⟩
 ·rw [gm.mp ha] at e
  obtain ⟨k,_,rfl⟩:=eS.mp hb;have e1:=cw Prod.fst e;have e2:=cw Prod.snd e;dsimp only at e1 e2;omega
 ·rw [uU,qX,eQ,gm,eS]
  constructor
  ·rintro (rfl | ⟨k,hk,rfl⟩)
   ·refine ⟨0,n-1,by rw [gq];constructor <;> omega,by omega,by show n-1<n;omega,?_⟩
    show (decide (n-1=0+1) || decide (n-1+1=0+n))=true;rw [aW (show n-1+1=0+n by omega),Bool.or_true]
   ·have hk:=cX.mp hk
    refine ⟨k,k+1,by rw [gq];constructor <;> omega,by omega,by show k+1<n;omega,?_⟩
    show (decide (k+1=k+1) || _)=true;rw [aW rfl,Bool.true_or]
  ·rintro ⟨a,b,rfl,h1,h2,h3⟩
   have h2:b<n:=h2;have h3:(decide (b=a+1) || decide (b+1=a+n))=true:=h3;rw [Bool.or_eq_true,nt,nt] at h3;rcases h3 with h3 | h3;·exact .inr ⟨a,cX.mpr (by omega),by rw [gq];constructor <;> omega⟩
   ·exact .inl (by rw [gq];constructor <;> omega)
def qY(m:Nat):List (Int×Int):=((List.range m).map fun k:Nat=>(2*(k:Int),2*(k:Int)+1))++(List.range (2*m-2)).map fun k:Nat=>((k:Int),(k:Int)+2)
theorem FC{m:Nat}:(qY m).Nodup∧∀z,z∈qY m↔z∈dB (.cH m):=by
 refine ⟨pJ.mpr ⟨qW fun i j _ _ e=>by have:=cw Prod.fst e;dsimp only at this;omega,qW fun i j _ _ e=>by have:=cw Prod.fst e;dsimp only at this;omega,fun a ha b hb e=>?_⟩,fun z=>?_⟩
 ·obtain ⟨i,_,rfl⟩:=eS.mp ha
  obtain ⟨k,_,rfl⟩:=eS.mp hb;have e1:=cw Prod.fst e;have e2:=cw Prod.snd e;dsimp only at e1 e2;omega
 ·rw [uU,qY,eQ,eS,eS]
  constructor
  ·rintro (⟨k,hk,rfl⟩ | ⟨k,hk,rfl⟩)
   ·have hk:=cX.mp hk
    refine ⟨2*k,2*k+1,by rw [gq];constructor <;> omega,by omega,by show 2*k+1<2*m;omega,?_⟩
    show (_ || (decide (2*k+1=2*k+1) && decide (2*k % 2=0)))=true;rw [aW rfl,aW (show 2*k % 2=0 by omega),Bool.and_true,Bool.or_true]
   ·have hk:=cX.mp hk
    refine ⟨k,k+2,by rw [gq];constructor <;> omega,by omega,by show k+2<2*m;omega,?_⟩
    show (decide (k+2=k+2) || _)=true;rw [aW rfl,Bool.true_or]
  ·rintro ⟨a,b,rfl,h1,h2,h3⟩
   have h2:b<2*m:=h2;have h3:(decide (b=a+2) || (decide (b=a+1) && decide (a % 2=0)))=true:=h3;rw [Bool.or_eq_true,jB,nt,nt,nt] at h3;rcases h3 with h3 | ⟨h3,h4⟩;·exact .inr ⟨a,cX.mpr (by omega),by rw [gq];constructor <;> omega⟩
   ·exact .inl ⟨a / 2,cX.mpr (by omega),by rw [gq];constructor <;> omega⟩
def uV(as:List Nat):List (Int×Int):=(List.range as.length).map fun k:Nat=>(((as.getD k 0:Nat):Int),(k:Int)+1)
theorem FD{as:List Nat}(h:∀i,i<as.length→as.getD i 0≤i):(uV as).Nodup∧∀z,z∈uV as↔z∈dB (.tree as):=by
 refine ⟨qW fun i j _ _ e=>by have:=cw Prod.snd e;dsimp only at this;omega,fun z=>?_⟩
 rw [uU,uV,eS];constructor
 ·rintro ⟨k,hk,rfl⟩
  have hk:=cX.mp hk;have:=h k hk;refine ⟨as.getD k 0,k+1,by rw [gq];constructor <;> omega,by omega,by show k+1<as.length+1;omega,?_⟩
  show decide (as.getD (k+1-1) 0=as.getD k 0)=true;rw [Nat.add_sub_cancel];exact aW rfl
 ·rintro ⟨a,b,rfl,h1,h2,h3⟩
  have h2:b<as.length+1:=h2;have h3:as.getD (b-1) 0=a:=dE h3;refine ⟨b-1,cX.mpr (by omega),?_⟩
  rw [h3,gq];constructor <;> omega
end My
namespace L2
open PySem PySem.Spec PyProof.Rows
theorem uW:∀{bs:List Bool} {au:List Value},Vals (bs.map V.bl) au→au=bs.map Value.bool
 | [],_,.nil=>rfl
 | b::bs,_,.cons (b:=v) r t=>by have e:v=Value.bool b:=r;rw [e,uW t];rfl
def FE:V→List V→Hp→VK→Prop:=fun x vs H Q=>∃(l:Addr) (bs:List Bool),x=.ref l∧vs=[.bl true]∧H l=some (.lst (bs.map V.bl))∧Q (.int (bs.countP id:Nat)) H
theorem eq_true(A:Around)(s:Shared)(y:Value)(h:∃b,y=Value.bool b):SeqAt.EqAt A s y (.bool true) (y == .bool true):=by obtain ⟨b,rfl⟩:=h;have:=jV (A:=A) (s:=s) (y:=.bl b) (x:=.bl true) (u:=.bool b) (v:=.bool true) rfl rfl rfl rfl;cases b <;> exact this
variable {X:Cx}
theorem FF:tj X "list.count" FE:=by
 intro pins s σ H x vs v us Q I rx rv h;obtain ⟨l,bs,rfl,rfl,hH,q⟩:=h;cases rx;obtain ⟨u,rfl,ru⟩:=rv.one;have ru:u=Value.bool true:=ru;subst ru;obtain ⟨z,au,n,r,hl,e⟩:=I.jW hH;have ei:=uW r;subst ei;refine call_meets PySem.F.slot_list_count ⟨_,e,rfl⟩ PySem.F.entry_list_count (PySem.F.args_list_count_2 _ _) (SeqAt.list_countAt l _ n none #[] (.bool true) (fun y=>y == .bool true)) ⟨e,fun y hy=>eq_true _ _ y ?_,?_⟩
 ·obtain ⟨b,_,rfl⟩:=eS.mp (by simpa using hy:y∈bs.map Value.bool)
  exact ⟨b,rfl⟩
 ·have ec:((bs.map Value.bool).toArray.toList.countP fun y=>y == Value.bool true)=bs.countP id:=by
   show (bs.map Value.bool).countP _=_;rw [List.countP_map]
   congr 1
   funext b
   cases b <;> rfl
  rw [ec];exact ⟨.int _,H,I.tok _,⟨_,rfl⟩,q⟩
def FG:V→List V→Hp→VK→Prop:=fun x vs H Q=>∃(l:Addr) (bs:List Bool) (j:Nat),x=.ref l∧vs=[.bl true]∧H l=some (.lst (bs.map V.bl))∧bs[j]?=some true∧(∀m,m<j→bs[m]?=some false)∧bs.length≤1000∧Q (.int (j:Int)) H
theorem FH:tj X "list.index" FG:=by
 intro pins s σ H x vs v us Q I rx rv h;obtain ⟨l,bs,j,rfl,rfl,hH,hj,tf,len,q⟩:=h;cases rx;obtain ⟨u,rfl,ru⟩:=rv.one;have ru:u=Value.bool true:=ru;subst ru;obtain ⟨z,au,n,r,hl,e⟩:=I.jW hH;have ei:=uW r;subst ei;have FI:j<bs.length:=(bZ.mp hj).1;have at':∀m (hm:m<(bs.map Value.bool).toArray.size),(bs.map Value.bool).toArray[m]=Value.bool (bs.getD m false):=fun m hm=>by
  have fH:m<bs.length:=by simpa using hm
  simp [fH]
 refine call_meets PySem.F.slot_list_index ⟨_,e,rfl⟩ PySem.F.entry_list_index (PySem.F.args_list_index_2 _ _) (SeqAt.list_indexAt l _ n none #[] (.bool true) (fun y=>y == .bool true) j (by simpa using FI) (by omega) ?_ fun m hm FJ=>?_) ⟨e,fun y hy=>eq_true _ _ y ?_,?_⟩
 ·rw [at',d6,hj]
  rfl
 ·rw [at',d6,tf m FJ]
  rfl
 ·obtain ⟨b,_,rfl⟩:=eS.mp (by simpa using hy:y∈bs.map Value.bool)
  exact ⟨b,rfl⟩
 ·exact ⟨.int _,H,I.tok _,⟨_,rfl⟩,q⟩
end L2
namespace My
open PySem L2
def kg(zs:List Int):Prop:=zs.length+1≤60∧∀k,k<zs.length→0≤zs.getD k 0∧zs.getD k 0≤(k:Int)
inductive fK (H:Hp) (td:Addr):Prop
 | word (w:String) (vs:List V) (hw:w="bands"∨w="") (h:H td=some (.tup (sV w::vs))) (hl:vs.length=1∨vs.length=2)
 | wide (w:String) (vs:List V) (hw:w="band"∨w="brim") (h:H td=some (.tup (sV w::vs))) (hl:vs.length≠2)
 | band (w:String) (n z:Int) (hw:w="band"∨w="brim") (h:H td=some (.tup [sV w,.int n,.int z])) (hb:¬(1≤n∧n≤60∧0≤z∧z<n))
 | gf (w:String) (vs:List V) (hw:w="ring"∨w="ladder"∨w="tree") (h:H td=some (.tup (sV w::vs))) (hl:vs.length≠1)
 | ring (z:Int) (h:H td=some (.tup [sV "ring",.int z])) (hb:¬(3≤z∧z≤60))
 | mf (b:Addr) (xs:List V) (h:H td=some (.tup [sV "ring",.ref b])) (hb:H b=some (.tup xs))
 | cH (z:Int) (h:H td=some (.tup [sV "ladder",.int z])) (hb:¬(1≤2*z∧2*z≤60))
 | mh (z:Int) (h:H td=some (.tup [sV "tree",.int z]))
 | hZ (b:Addr) (zs:List Int) (h:H td=some (.tup [sV "tree",.ref b])) (hz:H b=some (.tup (zs.map V.int))) (hl:zs.length≤100) (hb:¬kg zs)
theorem fK.mono{H H':Hp}{td:Addr}(h:fK H td)(s:aq H H'):fK H' td:=by
 cases h with
 | word w vs hw h hl=>exact .word w vs hw (s _ _ h) hl
 | wide w vs hw h hl=>exact .wide w vs hw (s _ _ h) hl
 | band w n z hw h hb=>exact .band w n z hw (s _ _ h) hb
 | gf w vs hw h hl=>exact .gf w vs hw (s _ _ h) hl
 | ring z h hb=>exact .ring z (s _ _ h) hb
 | mf b xs h hb=>exact .mf b xs (s _ _ h) (s _ _ hb)
 | cH z h hb=>exact .cH z (s _ _ h) hb
 | mh z h=>exact .mh z (s _ _ h)
 | hZ b zs h hz hl hb=>exact .hZ b zs (s _ _ h) (s _ _ hz) hl hb
def FK:Sp:=fun vs H Q _=>∃v:V,vs=[v]∧Any H v∧(∀z,v=.int z→Q (.bl (decide (1≤z∧z≤60))) H)∧(iE v=false→Q (.bl false) H)
def FL:Sp:=fun vs H Q _=>(∃z:Int,vs=[.int z]∧Q (.bl false) H)∨∃(b:Addr) (zs:List Int),vs=[.ref b]∧H b=some (.tup (zs.map V.int))∧zs.length≤100∧∀(H':Hp) (r:Bool),aq H H'→(r=true↔kg zs)→Q (.bl r) H'
def FN:Sp:=fun vs H Q _=>∃td:Addr,vs=[.ref td]∧((fK H td∧∀H',aq H H'→Q (.bl false) H')∨∃N:aT,ToldN H td N∧N.ok∧∀H',aq H H'→Q (.bl true) H')
def FO(N0:Addr):Sp:=fun vs H Q E=>∃td:Addr,vs=[.ref td]∧((fK H td∧∀H',aq H H'→E (.ref N0) none H')∨∃N:aT,ToldN H td N∧N.ok∧∀(t:Addr) (H':Hp),aq H H'→iO H' t N.sz (dB N)→Q (.ref t) H')
def FP(N0:Addr):Sp:=fun vs H _ E=>∃td:Addr,vs=[.ref td]∧fK H td∧∀H',aq H H'→E (.ref N0) none H'
def FQ:Sp:=fun vs H Q _=>∃T:Addr,vs=[.ref T]∧dC H T∧∀(td:Addr) (H':Hp),bR T H H'→fK H' td→Q (.ref td) H'
def FR:Sp:=fun vs H Q _=>∃td:Addr,vs=[.ref td]∧fK H td∧∀H',aq H H'→Q (.bl true) H'
end My
namespace L2
open PySem PySem.Spec PyProof.Rows
def FT(c:TT)(a b:jZ):jZ:=fun D E σ H=>c σ H fun k H1=>if k=true then a D E σ H1 else b D E σ H1
variable {X:Cx}
theorem FU{c:Expr}{a b:List Stmt}{pos:Pos}{tc:TT}{ta tb:jZ}(hc:PT X.jL c tc)(ha:og X a ta)(hb:og X b tb):og X [.If c a b pos] (FT tc ta tb):=by
 intro pins s σ H D E I h;refine pe (bj (Q:=SP X pins D) (wpAny_If (bj (hc pins s σ H _ (I.fT _) h) (fun d s1 ⟨H1,I1,q1⟩=>?_) fun _ _ z=>False.elim z)) (fun f s1 q=>?_) fun _ _ z=>z)
 ·have I2:Inv X pins σ H1 s1:=I1.gZ
  cases d with
  | true=>exact ha pins s1 σ H1 D E I2 q1
  | false=>exact hb pins s1 σ H1 D E I2 q1
 ·cases f with
  | next=>exact k4 q
  | brk=>exact q
  | cont=>exact q
  | ret u=>exact q
theorem FV{e:Expr}:PE X e (fun _ _ _=>False):=fun _ _ _ _ _ _ h=>h.elim
end L2
namespace My
open PySem L2
variable {x:V} {vs:List V}
theorem iP:V.bl (decide (V.int ((x::vs).length:Int)=V.int 0))=V.bl false:=by rw [dX];exact cw V.bl (bt (by simp;omega))
theorem oN(h:vs.length≠1):V.bl (!decide (V.int ((x::vs).length:Int)=V.int 2))=V.bl true:=by
 rw [dX,bt (by simp;omega)]
 rfl
theorem kh(h:vs.length=1):V.bl (!decide (V.int ((x::vs).length:Int)=V.int 2))=V.bl false:=by
 rw [dX,aW (by simp;omega)]
 rfl
theorem zp(h:vs.length≠2):V.bl (decide (V.int ((x::vs).length:Int)=V.int 3))=V.bl false:=by rw [dX];exact cw V.bl (bt (by simp;omega))
theorem di:jd (x::vs) (0:Int)=some x:=nS (j:=0) rfl
open L2
def FW:Sp:=fun _ _ _ _=>False
end My
namespace L2
open PySem PySem.Spec PyProof.Rows
open AutoSeq1 (wpAny_loadPart')
theorem FX:fillsNumberSlot (.type "tuple") "mul"=pure false:=by kernel_rfl
theorem FY:seqRepeat? (.type "tuple")=pure (some (.builtin "tuple.__mul__")):=by kernel_rfl
theorem FZ(a:Int)(t:Tok)(l:Addr)(items:Array Value)(n:Nat)(dd:Option Addr)(sl:Array (Option Value)) :
  Meets (Builtin.«int.__rmul__» ⟨[.int a t,.ref l],[]⟩) (fun _ R s=>s.heap.get? l=some {cls:=.type "tuple",dict:=dd,data:=.seq items n,slots:=sl}∧R (.ok (.ret .notImplemented)) s):=
 .of_wp fun prog w A R s h=>by
  obtain ⟨hp,g,d,tk,os⟩:=s;obtain ⟨hl,h⟩:=h
  wp_walk using jG hl
  exact ⟨_,rfl,h⟩
theorem F0(l:Addr)(v:Value)(n:Nat)(dd:Option Addr)(sl:Array (Option Value))(k:Nat)(t:Tok)(h1:2≤k)(h2:k≤1000) :
  Meets (Builtin.«tuple.__mul__» ⟨[.ref l,.int (k:Int) t],[]⟩) (fun _ R s=>s.heap.get? l=some {cls:=.type "tuple",dict:=dd,data:=.seq #[v] n,slots:=sl}∧R (.ok (.ret (.ref s.heap.objs.size))) {s with heap:=s.heap.push {cls:=.type "tuple",data:=.seq (List.replicate k v).toArray}}):=
 .of_wp fun prog w A R s h=>by
  obtain ⟨hp,g,d,tk,os⟩:=s;obtain ⟨hl,h⟩:=h
  wp_walk using jG hl
  rw [ai (by simp;omega)]
  wp_walk using jG hl
  rw [ai (by simp;omega)]
  try dsimp only
  rw [ai (by simp;omega)]
  try dsimp only
  rw [ai (by simp;omega)]
  try dsimp only
  have J4:(1000:Int)≤(sizeLine:Int):=by decide
  rw [ai (by unfold Builtin.Tuple.tupleTooMany;simp;omega)]
  have ef:(List.foldl (fun x1 x2=>x1++x2) #[] (List.replicate (k:Int).toNat #[v]):Array Value)=(List.replicate k v).toArray:=by
   have f0:∀(m:Nat) (acc:List Value),List.foldl (fun x1 x2=>x1++x2) acc.toArray (List.replicate m #[v])=(acc++List.replicate m v).toArray:=fun m=>by
    induction m with
    | zero=>intro acc;simp
    | succ m ih=>intro acc;rw [List.replicate_succ,List.foldl_cons];have:=ih (acc++[v]);simp only [d7] at this;simpa [List.replicate_succ] using this
   have:=f0 k [];simpa using this
  rw [ef];unfold Builtin.Tuple.tupleExact;refine aA (gS (a_ ⟨_,rfl,h⟩) ?_);have e2:(List.replicate k v).toArray.size≤sizeLine:=by rw [bS,k7];omega
  first | exact e2 | (unfold sizeOk;exact e2) | (unfold sizeOk;simpa using e2)
def F1(K:aJ):R2:=fun x y H Q=>∃(a:Addr) (k:Nat) (v:V),x=.ref a∧y=.int (k:Int)∧H a=some (.tup [v])∧2≤k∧k≤1000∧∀p,H p=none→Q (.ref p) (upd H p (.tup (List.replicate k v)))
theorem uX{X:Cx}:cp X (binaryOp .Mult) (F1 X.K):=by
 intro pins s σ H x y u1 u2 Q I rx ry h;obtain ⟨a,k,v,rfl,rfl,hH,k2,zq,q⟩:=h;cases rx;obtain ⟨t,rfl⟩:=ry;obtain ⟨_,au,r,o,ho,hc,n,hd⟩:=(show bO X.prog X.w H s.heap a (.tup [v]) from I.aB a _ hH);obtain ⟨u,rfl,ru⟩:=vals1 r;obtain ⟨c,dd,dt,sl⟩:=o
 replace hc:c=.type "tuple":=hc
 replace hd:dt=.seq [u].toArray n:=hd
 subst hc hd
 refine wpAny_binaryOp_repeat_ref (T:="tuple") (U:="int") (by decide) ⟨_,ho,rfl⟩ (fun s'=>typeIs_int s' _ t) FX PySem.F.fills_int_mul PySem.F.slot_int_rmul FY PySem.F.slot_int_index.lookup
  (call_meets PySem.F.slot_int_rmul (typeIs_int s _ t) PySem.F.entry_int_rmul (PySem.F.args_int_rmul_2 _ _) (FZ _ t a _ n dd sl) ⟨ho,rfl,⟨_,ho,rfl⟩,call_meets PySem.F.slot_tuple_mul ⟨_,ho,rfl⟩ PySem.F.entry_tuple_mul (PySem.F.args_tuple_mul_2 _ _) (F0 a u n dd sl k t k2 zq) ⟨ho,?_⟩⟩)
 refine ⟨.ref s.heap.objs.size,_,I.laid (t':=s.toks) (o:=.tup (List.replicate k v)) (fun b ob q=>b_ _ q) (aG _) ?_,rfl,q _ (I.aB.fresh (aG _))⟩;refine ⟨by rw [k7];exact cE zq (by decide),List.replicate k u,?_,IsTup.new _ _⟩
 have:∀m:Nat,Vals (List.replicate m v) (List.replicate m u):=fun m=>by
  induction m with
  | zero=>exact .nil
  | succ m ih=>exact .cons ru ih
 exact this k
end L2
namespace My
open PySem L2
def zr(H:Hp)(v:V):Prop:=∃td,v=.ref td∧fK H td
def eL(H:Hp)(vs:List V):Prop:=∀v∈vs,zr H v
variable {H H':Hp} {vs:List V}
theorem eL.mono(h:eL H vs)(s:aq H H'):eL H' vs:=fun v hv=>by obtain ⟨td,e,b⟩:=h v hv;exact ⟨td,e,b.mono s⟩
theorem eL.cat{ws:List V}(h:eL H vs)(h':eL H ws):eL H (vs++ws):=fun v hv=>(eQ.mp hv).elim (h v) (h' v)
def mj(ah:Addr)(as:List Nat)(H:Hp):Prop:=H ah=some (.tup (as.map fun k:Nat=>V.int (k:Int)))
def GT(ah:Addr)(as:List Nat)(σ:St)(t:TE):Prop:=∀(H:Hp) (Q:VK),mj ah as H→(∀v H',aq H H'→zr H' v→Q v H')→t σ H Q
def GA(ah:Addr)(as:List Nat)(σ:St)(t:TA)(n:Nat):Prop:=∀(H:Hp) (Q:List V→Hp→Prop),mj ah as H→(∀vs H',aq H H'→vs.length=n→eL H' vs→Q vs H')→t σ H Q
variable {ah:Addr} {as:List Nat} {σ:St}
theorem jq:GA ah as σ nN 0:=fun H Q _ k=>k [] H (aq.refl _) rfl fun _ h=>by cases h
variable {n:Nat}
theorem bD{t:TE}{ts:TA}(h:GT ah as σ t)(h':GA ah as σ ts n):GA ah as σ (jR t ts) (n+1):=fun H Q p k=>
 h H _ p fun v H1 s1 b=>h' H1 _ (s1 _ _ p) fun vs H2 s2 l bl=>k (v::vs) H2 (s1.trans s2) (by rw [gk,l]) fun x hx=>by
  rcases cN.mp hx with rfl | hx
  ·obtain ⟨td,e,b⟩:=b
   exact ⟨td,e,b.mono s2⟩
  ·exact bl x hx
variable {t:TA} {Q:VK}
theorem gl(h:GA ah as σ t n)(hn:n≤1000)(p:mj ah as H)(k:∀(l:Addr) (vs:List V) (H':Hp),H l=none→aq H H'→H' l=some (.lst vs)→vs.length=n→eL H' vs→Q (.ref l) H'):pY t σ H Q:=
 h H _ p fun vs H1 s1 l bl=>⟨by rw [l];exact cE hn (by decide),fun q nq=>k q vs _ (none_of s1 nq) (s1.trans (ax nq)) aw l (bl.mono (ax nq))⟩
variable {i:Nat}
theorem ki{m:Nat}{l0:Addr}{qZ:List V}(h:GA ah as σ t n)(hn:n≤100)(p:mj ah as H)(e0:H l0=some (.lst qZ))(hm:qZ.length=m)(J5:m≤500)(b0:eL H qZ)(hσ:σ[i]?=some (some (.ref l0)))
  (k:∀(l:Addr) (vs:List V) (H':Hp),H l=none→aq H H'→H' l=some (.lst vs)→vs.length=m+n→eL H' vs→Q (.ref l) H'):fU xV (nC i) (pY t) σ H Q:=by
 refine ⟨_,hσ,gl h (by omega) p fun l vs H1 nl s1 el ln bl=>?_⟩
 refine ⟨l0,l,qZ,vs,rfl,rfl,s1 _ _ e0,el,kf (by omega),fun q nq=>?_⟩
 exact k q _ _ (none_of s1 nq) (s1.trans (ax nq)) aw (by rw [dk];omega) (((b0.mono s1).cat bl).mono (ax nq))
variable {K:aJ} {a:Addr} {zs:List Int}
theorem zt{t:TE}{w:Int}(hσ:σ[i]?=some (some (.ref a)))(e:H a=some (.tup (zs.map V.int)))(hl:zs.length≤100)(ht:∀R:VK,R (.int w) H→t σ H R)
  (k:∀(b:Addr) (H':Hp),aq H H'→H' b=some (.tup ((zs++[w]).map V.int))→Q (.ref b) H'):fU (uB K) (nC i) (sZ (jR t nN)) σ H Q:=by
 refine ⟨_,hσ,ht _ ⟨by show 1≤sizeLine;decide,fun b nb=>?_⟩⟩
 have s1:aq H (upd H b (.tup [.int w])):=ax nb;have eb:upd H b (.tup [.int w]) b=some (.tup [.int w]):=aw;generalize upd H b (.tup [.int w])=H1 at s1 eb ⊢;refine ⟨a,b,_,_,rfl,rfl,.of (s1 _ _ e),.of eb,by simp,kf (by rw [bz];simp;omega),fun e0=>?_,fun e1 c nc=>?_⟩
 ·have:zs=[]:=pK.mp e0
  subst this;exact k b H1 s1 eb
 ·refine k c _ (s1.trans (ax nc)) ?_
  rw [aw,jH];rfl
theorem q0{k:Nat}(hk:k<zs.length)(h:¬(0≤zs.getD k 0∧zs.getD k 0≤(k:Int))):¬kg zs:=fun q=>h (q.2 k hk)
theorem F2{ws:List Int}(hσ:σ[i]?=some (some (.ref a)))(e:H a=some (.tup (zs.map V.int)))(hl:zs.length+ws.length≤100)(hw:ws≠[])(ht:∀R:List V→Hp→Prop,R (ws.map V.int) H→t σ H R)
  (k:∀(b:Addr) (H':Hp),aq H H'→H' b=some (.tup ((zs++ws).map V.int))→Q (.ref b) H'):fU (uB K) (nC i) (sZ t) σ H Q:=by
 refine ⟨_,hσ,ht _ ⟨by rw [bz];exact kf (by omega),fun b nb=>?_⟩⟩
 have s1:aq H (upd H b (.tup (ws.map V.int))):=ax nb;have eb:upd H b (.tup (ws.map V.int)) b=some (.tup (ws.map V.int)):=aw;generalize upd H b (.tup (ws.map V.int))=H1 at s1 eb ⊢;refine ⟨a,b,_,_,rfl,rfl,.of (s1 _ _ e),.of eb,by simpa using hw,kf (by rw [bz,bz];omega),fun e0=>?_,fun e1 c nc=>?_⟩
 ·have:zs=[]:=pK.mp e0
  subst this;exact k b H1 s1 eb
 ·refine k c _ (s1.trans (ax nc)) ?_
  rw [aw,jH]
theorem zu{us ys:List V}{Hx Hy:Hp}{p lk:Addr}{lo hi:Option Int}(e:Hx lk=some (.tup us))(ec:du us lo hi=ys)(hp:(Hy=Hx∧p=lk∧du us lo hi=us)∨(Hx p=none∧Hy=upd Hx p (.tup (du us lo hi)))):aq Hx Hy∧Hy p=some (.tup ys):=by
 rcases hp with ⟨rfl,rfl,h⟩ | ⟨h1,rfl⟩;·exact ⟨aq.refl _,by rw [e,←ec,h]⟩
 ·exact ⟨ax h1,by rw [aw,ec]⟩
theorem fK.cm{td:Addr}(h:fK H td)(s:∀b xs,H b=some (.tup xs)→H' b=some (.tup xs)):fK H' td:=by
 cases h with
 | word w vs hw h hl=>exact .word w vs hw (s _ _ h) hl
 | wide w vs hw h hl=>exact .wide w vs hw (s _ _ h) hl
 | band w n z hw h hb=>exact .band w n z hw (s _ _ h) hb
 | gf w vs hw h hl=>exact .gf w vs hw (s _ _ h) hl
 | ring z h hb=>exact .ring z (s _ _ h) hb
 | mf b xs h hb=>exact .mf b xs (s _ _ h) (s _ _ hb)
 | cH z h hb=>exact .cH z (s _ _ h) hb
 | mh z h=>exact .mh z (s _ _ h)
 | hZ b zs h hz hl hb=>exact .hZ b zs (s _ _ h) (s _ _ hz) hl hb
theorem eL.cm(h:eL H vs)(s:∀b xs,H b=some (.tup xs)→H' b=some (.tup xs)):eL H' vs:=fun v hv=>by obtain ⟨td,e,b⟩:=h v hv;exact ⟨td,e,b.cm s⟩
theorem uY{T:Addr}(t:dC H T)(o:bR T H H'):∀b xs,H b=some (.tup xs)→H' b=some (.tup xs):=fun b xs e=>o b _ (fun z=>by obtain ⟨x,ex⟩:=t;rw [z,ex] at e;cases e) e
end My
namespace L2
open PySem
theorem zv{K:aJ}{tl:TE}{g:TG}{tb:TS}{D:Ends}{σ:St}{H:Hp}(h:tl σ H fun x H1=>∃a,x=.ref a∧(∃xs,cn K H1 a xs)∧∃W:Nat→Nat→St→Hp→Prop,(∃m,W 0 m σ H1)∧∀i m σ H,W i m σ H→
  ((i_ K a).stop i H∧D.nx σ H)∨((i_ K a).go i H∧∃N:St→Hp→Prop,(∀σ' H',N σ' H'→∃m',m'<m∧W (i+1) m' σ' H')∧∀x H',(i_ K a).dH i H x H'→g x σ H' fun σ2 H2=>tb {D with nx:=N,ct:=N,bk:=D.nx} σ2 H2)):wZ (wW K tl) g tb D σ H:=h
end L2
namespace My
open PySem L2
def kj(H:Hp)(v:V):Prop:=∃td N,v=.ref td∧ToldN H td N∧N.ok
variable {H:Hp}
theorem kj.mono{H':Hp}{v:V}(h:kj H v)(s:aq H H'):kj H' v:=let ⟨td,N,e,t,o⟩:=h;⟨td,N,e,t.mono s,o⟩
def F3(σ:St)(t:TE):Prop:=∀(H:Hp) (Q:VK),(∀v H',aq H H'→kj H' v→Q v H')→t σ H Q
def q8(σ:St)(t:TA)(n:Nat):Prop:=∀(H:Hp) (Q:List V→Hp→Prop),(∀vs H',aq H H'→vs.length=n→(∀v∈vs,kj H' v)→Q vs H')→t σ H Q
variable {σ:St}
theorem zw:q8 σ nN 0:=fun H Q k=>k [] H (aq.refl _) rfl fun _ h=>by cases h
variable {n:Nat}
theorem kl{t:TE}{ts:TA}(h:F3 σ t)(h':q8 σ ts n):q8 σ (jR t ts) (n+1):=fun H Q k=>
 h H _ fun v H1 s1 b=>h' H1 _ fun vs H2 s2 l bl=>k (v::vs) H2 (s1.trans s2) (by rw [gk,l]) fun x hx=>by
  rcases cN.mp hx with rfl | hx;·exact b.mono s2
  ·exact bl x hx
theorem zA{t:TA}{Q:VK}(h:q8 σ t n)(hn:n≤1000)(k:∀(l:Addr) (vs:List V) (H':Hp),aq H H'→H' l=some (.lst vs)→vs.length=n→(∀v∈vs,kj H' v)→Q (.ref l) H'):pY t σ H Q:=
 h H _ fun vs H1 s1 l bl=>⟨by rw [l];exact cE hn (by decide),fun q nq=>k q vs _ (s1.trans (ax nq)) aw l fun v hv=>(bl v hv).mono (ax nq)⟩
end My
set_option maxRecDepth 100000
set_option maxHeartbeats 4000000
namespace My
open PySem L2
def top(i:Nat):Stmt:=PySem.Challenge.pw_bandwright_k45_no_named_shape.main.body.getD i (.Pass ⟨0,0,0,0⟩)
abbrev q_:Stmt:=top 11
abbrev rd:Stmt:=top 14
abbrev rf:Stmt:=top 25
abbrev rg:Stmt:=top 26
abbrev rh:Stmt:=top 27
abbrev rj:Stmt:=top 28
abbrev rm:Stmt:=top 29
abbrev rn:Stmt:=top 23
abbrev rp:Stmt:=top 30
abbrev rq:Stmt:=top 31
abbrev rz:Stmt:=top 33
abbrev rA:Stmt:=top 34
abbrev rB:Stmt:=top 35
abbrev rC:Stmt:=top 36
abbrev rD:Stmt:=top 37
abbrev rE:Stmt:=top 38
abbrev rF:Stmt:=top 39
abbrev rG:Stmt:=top 40
set_option genInjectivity false in
set_option genSizeOf false in
structure rH where
 km:Addr
 ml:FuncData
 kn:Addr
 mq:FuncData
 ko:Addr
 mr:FuncData
 kq:Addr
 mv:FuncData
 kr:Addr
 mw:FuncData
 ku:Addr
 mx:FuncData
 kv:Addr
 my:FuncData
 ky:Addr
 mz:FuncData
 kz:Addr
 mB:FuncData
 kA:Addr
 mC:FuncData
 kB:Addr
 mD:FuncData
 kC:Addr
 mE:FuncData
 kD:Addr
 mF:FuncData
 kF:Addr
 mG:FuncData
 kG:Addr
 mH:FuncData
 kH:Addr
 mI:FuncData
 kI:Addr
 mJ:FuncData
 jr:Addr
 kJ:FuncData
 mK:Addr
 mL:Addr
 ju:Addr
 mM:Addr
 aZ:Addr
 mO:Addr
 mP:Addr
 mQ:Addr
 mR:Addr
abbrev cz (mg:bW) (x:Str) (f:Addr):Prop:=mg x=some (.ref f)
abbrev zB (K:aJ) (a:Addr):Prop:=PySem.W.excIn K a [.type "ValueError",.type "Exception",.type "BaseException",.type "object"] "ValueError.__new__"=true
structure Txt (K:aJ) (mg:bW) (t:rH):Prop where
 iQ:bF K "is_whole" q_ t.km t.ml
 oO:Binds K t.ml ["thing"] []
 oP:cz mg "is_whole" t.km
 iR:bF K "is_place" rd t.kn t.mq
 oQ:Binds K t.mq ["thing","n"] []
 oR:cz mg "is_place" t.kn
 fL:bF K "is_size" rf t.ko t.mr
 iS:Binds K t.mr ["thing"] []
 iT:cz mg "is_size" t.ko
 kK:bF K "are_aheads" rg t.kq t.mv
 uZ:Binds K t.mv ["thing"] []
 u0:cz mg "are_aheads" t.kq
 kL:bF K "is_known" rh t.kr t.mw
 u4:Binds K t.mw ["told"] []
 u5:cz mg "is_known" t.kr
 kM:bF K "size_of" rj t.ku t.mx
 u6:Binds K t.mx ["told"] []
 u7:cz mg "size_of" t.ku
 kN:bF K "are_linked" rm t.kv t.my
 u9:Binds K t.my ["told","i","j"] []
 u_:cz mg "are_linked" t.kv
 mS:bF K "deeds" rn t.ky t.mz
 zC:Binds K t.mz ["shape","order"] []
 zD:cz mg "deeds" t.ky
 h_:bF K "named" rp t.kz t.mB
 mT:Binds K t.mB ["told"] []
 mU:cz mg "named" t.kz
 mV:bF K "best" rq t.kA t.mC
 zE:Binds K t.mC ["told"] []
 zF:cz mg "best" t.kA
 mW:bF K "_law_acell" rz t.kB t.mD
 zG:Binds K t.mD ["script","k"] []
 zH:cz mg "_law_acell" t.kB
 mX:bF K "_law_atape" rA t.kC t.mE
 zI:Binds K t.mE ["script","k"] []
 zJ:cz mg "_law_atape" t.kC
 gP:bF K "_law_adigit" rB t.kD t.mF
 kO:Binds K t.mF ["tape","many"] []
 kP:cz mg "_law_adigit" t.kD
 mY:bF K "_law_akind" rC t.kF t.mG
 zK:Binds K t.mG ["caught"] []
 zL:cz mg "_law_akind" t.kF
 kS:bF K "_law_anamed" rD t.kG t.mH
 va:Binds K t.mH ["told"] []
 vb:cz mg "_law_anamed" t.kG
 mZ:bF K "_law_abad" rE t.kH t.mI
 zM:Binds K t.mI ["tape"] []
 zN:cz mg "_law_abad" t.kH
 m4:bF K "_law_arefused" rF t.kI t.mJ
 zO:Binds K t.mJ ["told"] []
 zP:cz mg "_law_arefused" t.kI
 m5:bF K "law" rG t.jr t.kJ
 F4:Binds K t.kJ ["script"] []
 zQ:cz mg "law" t.jr
 zR:cz mg "NoWorld" t.mK
 zS:cz mg "NoOver" t.mL
 zT:cz mg "WrightError" t.ju
 zU:cz mg "NoFit" t.mM
 rJ:cz mg "NoShape" t.aZ
 zV:cz mg "NoOrder" t.mO
 zW:cz mg "NoSize" t.mP
 zX:cz mg "NoLink" t.mQ
 zY:cz mg "Tied" t.mR
 zZ:mg "ValueError"=none
 vc:mg "all"=none
 z5:mg "bool"=none
 vd:mg "enumerate"=none
 z6:mg "int"=none
 d4:mg "isinstance"=none
 dO:mg "len"=none
 z7:mg "list"=none
 z8:mg "max"=none
 z9:mg "min"=none
 d5:mg "range"=none
 F5:mg "reversed"=none
 z_:mg "sorted"=none
 iU:mg "tuple"=none
 F6:mg "zip"=none
 Aa:∃u,mg "MOST"=some u∧RelV (.int 60) u
 oS:zB K t.aZ
 Ab:zB K t.ju
 F7:PySem.W.mroIn K t.aZ (.ref t.aZ)=some true
 ve:PySem.W.mroIn K t.aZ (.ref t.ju)=some true
 Ac:PySem.W.kitOne K (.ref t.aZ) (.type "ValueError")=some true
 Ad:PySem.W.kitOne K (.ref t.aZ) (.ref t.aZ)=some true
 Ae:PySem.W.kitOne K (.ref t.aZ) (.ref t.mK)=some false
 Af:PySem.W.kitOne K (.ref t.aZ) (.ref t.mL)=some false
 Ag:PySem.W.kitOne K (.ref t.aZ) (.ref t.mM)=some false
 Ah:PySem.W.kitOne K (.ref t.aZ) (.ref t.mO)=some false
 Ai:PySem.W.kitOne K (.ref t.aZ) (.ref t.mP)=some false
 Aj:PySem.W.kitOne K (.ref t.aZ) (.ref t.mQ)=some false
 Ak:PySem.W.kitOne K (.ref t.aZ) (.ref t.mR)=some false
 Al:PySem.W.hasDictIn K t.aZ=true
 Am:PySem.W.findIn K (.ref t.aZ) "__getattribute__"=some (some (.builtin "BaseException.__getattribute__"))
 An:PySem.W.findIn K (.ref t.aZ) "__getattr__"=some none
 Ao:PySem.W.findIn K (.ref t.aZ) "__class__"=some (some (.builtin "object.__class__"))
 Ap:PySem.W.mroIn K t.aZ (.type "object")=some true
 Aq:PySem.W.mroIn K t.aZ (.type "BaseException")=some true
section
variable {P:Program} {w:World} {K:aJ} {mg:bW} {base:Heap} {t:rH}
theorem F8:cC ["thing"] ["thing"] (bA q_):=dr
theorem rK(T:Txt K mg t):bP P w K mg base cG 1 t.km t.ml ["thing"] DB:=by
 have S:=F8;refine T.iQ.fF S (fun _ _ _ _ H _ Q _ hr h=>?_);obtain ⟨v,rfl,ha,k⟩:=h;refine ⟨_,(@aS _ _ _ (@bo _ _ _ _ (@dU _ _ _ _ _ _ _ (bE (eB (K:=K)) rfl T.d4 boot_isinstance (@aa _ _ _ _ _ (by rfl) (pv 0) (@aa _ _ _ _ _ (by rfl) (jK (v:=.ty "int") rfl T.z6 boot_int rfl) ae))) (@ee _ _ _ _ _ (@Bm _ _ _ _ (bE (eB (K:=K)) rfl T.d4 boot_isinstance (@aa _ _ _ _ _ (by rfl) (pv 0) (@aa _ _ _ _ _ (by rfl) (jK (v:=.ty "bool") rfl T.z5 boot_bool rfl) ae)))))))),?_⟩
 obtain ⟨Ty,ty,k1,k2,_⟩:=ha.tQ (K:=K);refine ⟨_,rfl,_,_,_,_,rfl,rfl,ty,k1,_,rfl,df (fun h1=>?_) (fun h1=>?_)⟩
 ·refine ⟨_,rfl,_,_,_,_,rfl,rfl,ty,k2,_,rfl,?_⟩
  have e:(!lS v)=iE v:=by
   cases h2:lS v with
   | true=>rw [DA h2];rfl
   | false=>rw [h2,Bool.or_false] at h1;rw [h1];rfl
  show Q (.bl (!lS v)) H;rw [e];exact k
 ·have e:iE v=false:=by
   cases h2:iE v with
   | true=>rw [h2] at h1;exact absurd rfl h1
   | false=>rfl
  rw [e] at k;exact k
theorem F9:cC ["thing","n"] ["thing","n"] (bA rd):=dr
theorem rL(T:Txt K mg t):bP P w K mg base cG 2 t.kn t.mq ["thing","n"] EJ:=by
 have S:=F9;refine T.iR.fF S (fun _ _ _ _ H _ _ _ hr h=>?_);obtain ⟨z,n,rfl,k⟩:=h;refine ⟨_,(@aS _ _ _ (@bo _ _ _ _ (@dU _ _ _ _ _ _ _ (cu (rK T) hr T.oP T.iQ.kp T.oO bx (@aa _ _ _ _ _ (by rfl) (pv 0) ae)) (@ee _ _ _ _ _ (xk nM xh af (pv 0) (pv 1)))))),?_⟩
 refine ⟨_,rfl,.int z,rfl,.int z,true,rfl,bh ?_⟩;refine ⟨_,rfl,0,z,rfl,rfl,_,rfl,df (fun h1=>?_) (fun h1=>?_)⟩
 ·refine ⟨_,rfl,z,(n:Int),rfl,rfl,?_⟩
  have kT:=dE h1;rw [show decide (0≤z∧z<(n:Int))=decide (z<(n:Int)) by simp [kT]] at k
  exact k
 ·have kT:¬(0≤z):=fun e=>h1 (aW e)
  rw [show decide (0≤z∧z<(n:Int))=false by simp [kT]] at k
  exact k
theorem F_:cC ["thing"] ["thing"] (bA rf):=dr
theorem vf(T:Txt K mg t):bP P w K mg base cG 2 t.ko t.mr ["thing"] FK:=by
 have S:=F_;obtain ⟨uM,hM,rM⟩:=T.Aa;refine T.fL.fF S (fun _ _ _ _ H _ _ _ hr h=>?_);obtain ⟨v,rfl,ha,k1,k2⟩:=h;refine ⟨_,(@aS _ _ _ (@bo _ _ _ _ (@dU _ _ _ _ _ _ _ (cu (rK T) hr T.oP T.iQ.kp T.oO bx (@aa _ _ _ _ _ (by rfl) (pv 0) ae)) (@ee _ _ _ _ _ (xk nM nM af (pv 0) (ix (v:=.int 60) rfl hM rM)))))),?_⟩
 refine ⟨_,rfl,v,rfl,ha,_,rfl,df (fun h0=>?_) (fun h0=>?_)⟩
 ·obtain ⟨z,rfl⟩:∃z,v=.int z:=by cases v <;> first | exact ⟨_,rfl⟩ | cases h0
  have k:=k1 z rfl;refine ⟨_,rfl,1,z,rfl,rfl,_,rfl,df (fun h1=>?_) (fun h1=>?_)⟩
  ·refine ⟨z,60,rfl,rfl,?_⟩
   have kT:=dE h1;rw [show decide (1≤z∧z≤60)=decide (z≤60) by simp [kT]] at k
   exact k
  ·have kT:¬(1≤z):=fun e=>h1 (aW e)
   rw [show decide (1≤z∧z≤60)=false by simp [kT]] at k
   exact k
 ·have e:iE v=false:=by
   cases q:iE v with
   | true=>rw [q] at h0;exact absurd rfl h0
   | false=>rfl
  exact k2 e
theorem Ga:cC ["thing"] ["thing"] (bA rg):=dr
theorem Ar(T:Txt K mg t):bP P w K mg base cG 3 t.kq t.mv ["thing"] FL:=by
 have S:=Ga;refine T.kK.ok S (fun vs H Q E h=>?_) (fun bp A outer s H vs Q E hr h=>?_);·rcases h with ⟨z,rfl,_⟩ | ⟨b,zs,rfl,_⟩ <;> rfl
 ·rcases h with ⟨z,rfl,kk⟩ | ⟨ta,zs,rfl,eta,J6,kk⟩
  ·refine ⟨_,(@aL _ _ _ _ _ (@bV _ _ _ _ _ _ _ _ (PW.pt (@pw_or _ _ _ _ _ _ _ (@gY _ _ _ _ (fS (bE (eB (K:=K)) rfl T.d4 boot_isinstance (@aa _ _ _ _ _ (by rfl) (pv 0) (@aa _ _ _ _ _ (by rfl) (jK (v:=.ty "tuple") rfl T.iU boot_tuple rfl) ae))))) (@pw_or1 _ _ _ _ (@gY _ _ _ _ (fS (cu (vf T) hr T.iT T.fL.kp T.iS bx (@aa _ _ _ _ _ (by rfl) (@aH _ _ _ _ _ _ _ _ cO (bE dW rfl T.dO dR (@aa _ _ _ _ _ (by rfl) (pv 0) ae)) af) ae))))))) (@aS _ _ _ (@bo _ _ _ _ fR)) bU)
   (@aS _ _ _ (@bo _ _ _ _ (bE (yq (K:=K) rfl) rfl T.vc boot_all (@aa _ _ _ _ _ (by rfl) (yz (N:=["place","ahead"]) (ρ:=(fun σ=>[])) (yy [] rfl) rfl (zh rfl T.vd (@aa _ _ _ _ _ (by rfl) (pv 0) ae) af) (fun _ _ _=>.nil) (fun _ _ _=>(cu (rL T) hr T.oR T.iR.kp T.oQ bx (@aa _ _ _ _ _ (by rfl) (pv 1) (@aa _ _ _ _ _ (by rfl) (pv 0) ae))))) ae))))),?_⟩
   exact ar fun _ As=>⟨_,rfl,_,_,_,_,rfl,rfl,.of (.int _),rfl,false,rfl,bh kk⟩
  ·have lm:(zs.map V.int).length=zs.length:=bz _
   refine ⟨_,(@aL _ _ _ _ _ (@bV _ _ _ _ _ _ _ _ (PW.pt (@pw_or _ _ _ _ _ _ _ (@gY _ _ _ _ (fS (bE (eB (K:=K)) rfl T.d4 boot_isinstance (@aa _ _ _ _ _ (by rfl) (pv 0) (@aa _ _ _ _ _ (by rfl) (jK (v:=.ty "tuple") rfl T.iU boot_tuple rfl) ae))))) (@pw_or1 _ _ _ _ (@gY _ _ _ _ (fS (cu (vf T) hr T.iT T.fL.kp T.iS bx (@aa _ _ _ _ _ (by rfl) (@aH _ _ _ _ _ _ _ _ cO (bE dW rfl T.dO dR (@aa _ _ _ _ _ (by rfl) (pv 0) ae)) af) ae))))))) (@aS _ _ _ (@bo _ _ _ _ fR)) bU)
   (@aS _ _ _ (@bo _ _ _ _ (bE (yq (K:=K) rfl) rfl T.vc boot_all (@aa _ _ _ _ _ (by rfl) (yz (N:=["place","ahead"]) (ρ:=(fun σ=>[])) (yy [] rfl) rfl (zh rfl T.vd (@aa _ _ _ _ _ (by rfl) (pv 0) ae) af) (fun _ _ _=>.nil) (fun _ _ _=>(cu (rL T) hr T.oR T.iR.kp T.oQ bx (@aa _ _ _ _ _ (by rfl) (pv 1) (@aa _ _ _ _ _ (by rfl) (pv 0) ae))))) ae))))),?_⟩
   refine ar fun _ As=>⟨_,rfl,_,_,_,_,rfl,rfl,.of (.tup eta),rfl,true,rfl,ay ?_⟩;refine ⟨_,rfl,ta,_,rfl,.inr (.of eta),_,_,rfl,rfl,_,rfl,.int _,fun z ez=>?_,fun e=>by cases e⟩
   cases ez;refine ⟨_,rfl,df (fun hb=>?_) (fun hb=>?_)⟩
   ·have hb:¬(1≤((zs.map V.int).length:Int)+1∧((zs.map V.int).length:Int)+1≤60):=fun z=>by rw [aW z] at hb;cases hb
    rw [lm] at hb;exact kk H false (aq.refl _) ⟨(fun h=>by cases h),fun h=>absurd (show 1≤(zs.length:Int)+1∧(zs.length:Int)+1≤60 from ⟨by omega,by have:=h.1;omega⟩) hb⟩
   ·have hb:1≤((zs.map V.int).length:Int)+1∧((zs.map V.int).length:Int)+1≤60:=Decidable.byContradiction fun z=>hb (by rw [bt z];rfl)
    rw [lm] at hb;refine As _ _ ?_
    try dsimp only [wK]
    have lz:((List.range (zs.map V.int).length).zip (zs.map V.int) |>.map fun p=>(V.int ((p.1:Int)+1),p.2)).length=zs.length:=by simp
    refine DN (yD (DL (zs:=(List.range (zs.map V.int).length).zip (zs.map V.int) |>.map fun p=>(V.int ((p.1:Int)+1),p.2)) (fun R h=>⟨_,rfl,ta,rfl,rfl,⟨_,.of eta⟩,h _ _ (aq.refl _) (Fo eta)⟩) (jY (by rw [lz];omega)) (fun i v=>v=.bl (decide (0≤zs.getD i 0∧zs.getD i 0<((i+1:Nat):Int)))) ?_ ?_))
    ·intro i x y Au Hc R sc kR
     have hi:i<zs.length:=by have:=(bZ.mp Au).1;rw [lz] at this;exact this
     have e:x=.int ((i+1:Nat):Int)∧y=.int (zs.getD i 0):=by
      have:=(bZ.mp Au).2;simp at this;refine ⟨?_,?_⟩
      ·rw [←this.1]
       congr 1
      ·rw [←this.2,d6,eR hi]
       rfl
     obtain ⟨rfl,rfl⟩:=e;exact ⟨_,rfl,_,rfl,_,i+1,rfl,kR _ _ (aq.refl _) rfl⟩
    ·intro D vs Hc sc Gb hP eD
     have ev:vs=((List.range zs.length).map fun i=>decide (0≤zs.getD i 0∧zs.getD i 0<((i+1:Nat):Int))).map V.bl:=lu (by simp [Gb]) fun i h1 h2=>by rw [hP i _ (eR h1)];simp
     subst ev;refine ⟨D,_,rfl,.of eD,kk _ _ sc ?_⟩;rw [List.all_eq_true];constructor
     ·intro h
      refine ⟨by omega,fun k hk=>?_⟩
      have:=dE (h _ (eS.mpr ⟨k,cX.mpr hk,rfl⟩));omega
     ·rintro ⟨_,h⟩ x hx
      obtain ⟨k,hk,rfl⟩:=eS.mp hx;have:=h k (cX.mp hk);exact aW (by omega)
theorem Gd:cC ["told"] ["told"] (bA rh):=dr
theorem Av(T:Txt K mg t):bP P w K mg base cG 4 t.kr t.mw ["told"] FN:=by
 have S:=Gd;have m6:=vf (P:=P) (w:=w) (base:=base) T;refine T.kL.fF S (fun _ _ _ _ H vs _ _ hr h=>?_);obtain ⟨td,rfl,⟨bad,kk⟩ | ⟨N,tn,ok,kk⟩⟩:=h
 ·refine ⟨_,(@aL _ _ _ _ _ (@bV _ _ _ _ _ _ _ _ (PW.pt (@pw_or _ _ _ _ _ _ _ (@gY _ _ _ _ (fS (bE (eB (K:=K)) rfl T.d4 boot_isinstance (@aa _ _ _ _ _ (by rfl) (pv 0) (@aa _ _ _ _ _ (by rfl) (jK (v:=.ty "tuple") rfl T.iU boot_tuple rfl) ae))))) (@pw_or1 _ _ _ _ (cq bI (bE dW rfl T.dO dR (@aa _ _ _ _ _ (by rfl) (pv 0) ae)) af)))) (@aS _ _ _ (@bo _ _ _ _ fR)) bU)
  (@aL _ _ _ _ _ (@bV _ _ _ _ _ _ _ _ (PW.pt (@pw_or _ _ _ _ _ _ _ (cq bI (aU aX (pv 0) af) aF) (@pw_or1 _ _ _ _ (cq bI (aU aX (pv 0) af) aF)))) (@aS _ _ _ (@bo _ _ _ _ (@dU _ _ _ _ _ _ _ (ek bI (bE dW rfl T.dO dR (@aa _ _ _ _ _ (by rfl) (pv 0) ae)) af) (@dU _ _ _ _ _ _ _ (cu m6 hr T.iT T.fL.kp T.iS bx (@aa _ _ _ _ _ (by rfl) (aU aX (pv 0) af) ae)) (@ee _ _ _ _ _ (cu (rL T) hr T.oR T.iR.kp T.oQ bx (@aa _ _ _ _ _ (by rfl) (aU aX (pv 0) af) (@aa _ _ _ _ _ (by rfl) (aU aX (pv 0) af) ae)))))))) bU)
  (@aL _ _ _ _ _ (@bV _ _ _ _ _ _ _ _ (cq nK (bE dW rfl T.dO dR (@aa _ _ _ _ _ (by rfl) (pv 0) ae)) af) (@aS _ _ _ (@bo _ _ _ _ fR)) bU)
  (@aL _ _ _ _ _ (@bV _ _ _ _ _ _ _ _ (cq bI (aU aX (pv 0) af) aF) (@aS _ _ _ (@bo _ _ _ _ (cu (Ar T) hr T.u0 T.kK.kp T.uZ bx (@aa _ _ _ _ _ (by rfl) (aU aX (pv 0) af) ae)))) bU)
  (@aL _ _ _ _ _ (@bV _ _ _ _ _ _ _ _ (cq bI (aU aX (pv 0) af) aF) (@aS _ _ _ (@bo _ _ _ _ (@dU _ _ _ _ _ _ _ (cu m6 hr T.iT T.fL.kp T.iS bx (@aa _ _ _ _ _ (by rfl) (aU aX (pv 0) af) ae)) (@ee _ _ _ _ _ (ek xi (aU aX (pv 0) af) af))))) bU)
  (@aS _ _ _ (@bo _ _ _ _ (@dU _ _ _ _ _ _ _ (ek bI (aU aX (pv 0) af) aF) (@dU _ _ _ _ _ _ _ (cu (rK T) hr T.oP T.iQ.kp T.oO bx (@aa _ _ _ _ _ (by rfl) (aU aX (pv 0) af) ae)) (@ee _ _ _ _ _ (cu m6 hr T.iT T.fL.kp T.iS bx (@aa _ _ _ _ _ (by rfl) (@aH _ _ _ _ _ _ _ _ gw af (aU aX (pv 0) af)) ae)))))))))))),?_⟩
  cases bad with
  | word w vs hw h hl=>
   refine ar fun _ hR=>⟨_,rfl,_,_,_,_,rfl,rfl,.of (.tup h),rfl,true,rfl,ay ⟨_,rfl,td,_,rfl,.inr (.of h),rfl,false,iP,ay (hR _ _ ?_)⟩⟩;rcases hw with rfl | rfl
   ·refine ar fun _ hR=>⟨_,rfl,td,_,_,_,rfl,rfl,.of h,di,rfl,false,by decide +kernel,ay ⟨_,rfl,td,_,_,_,rfl,rfl,.of h,di,rfl,false,by decide +kernel,ay (hR _ _ ?_)⟩⟩
    rcases hl with hl | hl
    ·refine ar fun _ hR=>⟨_,rfl,td,_,rfl,.inr (.of h),rfl,false,kh hl,ay (hR _ _ ?_)⟩
     refine ar fun _ hR=>⟨_,rfl,td,_,_,_,rfl,rfl,.of h,di,rfl,false,by decide +kernel,ay (hR _ _ ?_)⟩
     refine ar fun _ hR=>⟨_,rfl,td,_,_,_,rfl,rfl,.of h,di,rfl,false,by decide +kernel,ay (hR _ _ ?_)⟩
     exact ⟨_,rfl,td,_,_,_,rfl,rfl,.of h,di,rfl,false,by decide +kernel,ay (kk _ (aq.refl _))⟩
    ·exact ar fun _ hR=>⟨_,rfl,td,_,rfl,.inr (.of h),rfl,true,oN (by omega),bh (kk _ (aq.refl _))⟩
   ·refine ar fun _ hR=>⟨_,rfl,td,_,_,_,rfl,rfl,.of h,di,rfl,false,by decide +kernel,ay ⟨_,rfl,td,_,_,_,rfl,rfl,.of h,di,rfl,false,by decide +kernel,ay (hR _ _ ?_)⟩⟩
    rcases hl with hl | hl
    ·refine ar fun _ hR=>⟨_,rfl,td,_,rfl,.inr (.of h),rfl,false,kh hl,ay (hR _ _ ?_)⟩
     refine ar fun _ hR=>⟨_,rfl,td,_,_,_,rfl,rfl,.of h,di,rfl,false,by decide +kernel,ay (hR _ _ ?_)⟩
     refine ar fun _ hR=>⟨_,rfl,td,_,_,_,rfl,rfl,.of h,di,rfl,false,by decide +kernel,ay (hR _ _ ?_)⟩
     exact ⟨_,rfl,td,_,_,_,rfl,rfl,.of h,di,rfl,false,by decide +kernel,ay (kk _ (aq.refl _))⟩
    ·exact ar fun _ hR=>⟨_,rfl,td,_,rfl,.inr (.of h),rfl,true,oN (by omega),bh (kk _ (aq.refl _))⟩
  | wide w vs hw h hl=>
   refine ar fun _ hR=>⟨_,rfl,_,_,_,_,rfl,rfl,.of (.tup h),rfl,true,rfl,ay ⟨_,rfl,td,_,rfl,.inr (.of h),rfl,false,iP,ay (hR _ _ ?_)⟩⟩;rcases hw with rfl | rfl
   ·refine ar fun _ hR=>⟨_,rfl,td,_,_,_,rfl,rfl,.of h,di,rfl,true,by decide +kernel,bh ?_⟩
    exact ⟨_,rfl,td,_,rfl,.inr (.of h),rfl,false,zp hl,ay (kk _ (aq.refl _))⟩
   ·refine ar fun _ hR=>⟨_,rfl,td,_,_,_,rfl,rfl,.of h,di,rfl,false,by decide +kernel,ay ⟨_,rfl,td,_,_,_,rfl,rfl,.of h,di,rfl,true,by decide +kernel,bh ?_⟩⟩
    exact ⟨_,rfl,td,_,rfl,.inr (.of h),rfl,false,zp hl,ay (kk _ (aq.refl _))⟩
  | band w n z hw h hb=>
   refine ar fun _ hR=>⟨_,rfl,_,_,_,_,rfl,rfl,.of (.tup h),rfl,true,rfl,ay ⟨_,rfl,td,_,rfl,.inr (.of h),rfl,false,iP,ay (hR _ _ ?_)⟩⟩;rcases hw with rfl | rfl
   ·refine ar fun _ hR=>⟨_,rfl,td,_,_,_,rfl,rfl,.of h,rfl,rfl,true,by decide +kernel,bh ?_⟩
    refine ⟨_,rfl,td,_,rfl,.inr (.of h),rfl,true,rfl,bh ?_⟩;refine ⟨_,rfl,td,_,_,_,rfl,rfl,.of h,rfl,.int _,rfl,.int _,fun z' e'=>?_,fun e'=>by cases e'⟩
    cases e';refine ⟨_,rfl,df (fun h1=>?_) (fun h1=>?_)⟩
    ·have h1:=dE h1
     obtain ⟨n',rfl⟩:=si (show 0≤n by omega)
     refine ⟨_,rfl,td,_,_,_,rfl,rfl,.of h,rfl,_,rfl,td,_,_,_,rfl,rfl,.of h,rfl,z,n',rfl,?_⟩;rw [bt (show ¬(0≤z∧z<(n':Int)) from fun q=>hb ⟨h1.1,h1.2,q.1,q.2⟩)];exact kk _ (aq.refl _)
    ·exact kk _ (aq.refl _)
   ·refine ar fun _ hR=>⟨_,rfl,td,_,_,_,rfl,rfl,.of h,rfl,rfl,false,by decide +kernel,ay ⟨_,rfl,td,_,_,_,rfl,rfl,.of h,rfl,rfl,true,by decide +kernel,bh ?_⟩⟩
    refine ⟨_,rfl,td,_,rfl,.inr (.of h),rfl,true,rfl,bh ?_⟩;refine ⟨_,rfl,td,_,_,_,rfl,rfl,.of h,rfl,.int _,rfl,.int _,fun z' e'=>?_,fun e'=>by cases e'⟩
    cases e';refine ⟨_,rfl,df (fun h1=>?_) (fun h1=>?_)⟩
    ·have h1:=dE h1
     obtain ⟨n',rfl⟩:=si (show 0≤n by omega)
     refine ⟨_,rfl,td,_,_,_,rfl,rfl,.of h,rfl,_,rfl,td,_,_,_,rfl,rfl,.of h,rfl,z,n',rfl,?_⟩;rw [bt (show ¬(0≤z∧z<(n':Int)) from fun q=>hb ⟨h1.1,h1.2,q.1,q.2⟩)];exact kk _ (aq.refl _)
    ·exact kk _ (aq.refl _)
  | gf w vs hw h hl=>
   refine ar fun _ hR=>⟨_,rfl,_,_,_,_,rfl,rfl,.of (.tup h),rfl,true,rfl,ay ⟨_,rfl,td,_,rfl,.inr (.of h),rfl,false,iP,ay (hR _ _ ?_)⟩⟩;rcases hw with rfl | rfl | rfl
   ·refine ar fun _ hR=>⟨_,rfl,td,_,_,_,rfl,rfl,.of h,di,rfl,false,by decide +kernel,ay ⟨_,rfl,td,_,_,_,rfl,rfl,.of h,di,rfl,false,by decide +kernel,ay (hR _ _ ?_)⟩⟩
    exact ar fun _ hR=>⟨_,rfl,td,_,rfl,.inr (.of h),rfl,true,oN hl,bh (kk _ (aq.refl _))⟩
   ·refine ar fun _ hR=>⟨_,rfl,td,_,_,_,rfl,rfl,.of h,di,rfl,false,by decide +kernel,ay ⟨_,rfl,td,_,_,_,rfl,rfl,.of h,di,rfl,false,by decide +kernel,ay (hR _ _ ?_)⟩⟩
    exact ar fun _ hR=>⟨_,rfl,td,_,rfl,.inr (.of h),rfl,true,oN hl,bh (kk _ (aq.refl _))⟩
   ·refine ar fun _ hR=>⟨_,rfl,td,_,_,_,rfl,rfl,.of h,di,rfl,false,by decide +kernel,ay ⟨_,rfl,td,_,_,_,rfl,rfl,.of h,di,rfl,false,by decide +kernel,ay (hR _ _ ?_)⟩⟩
    exact ar fun _ hR=>⟨_,rfl,td,_,rfl,.inr (.of h),rfl,true,oN hl,bh (kk _ (aq.refl _))⟩
  | ring z h hb=>
   refine ar fun _ hR=>⟨_,rfl,_,_,_,_,rfl,rfl,.of (.tup h),rfl,true,rfl,ay ⟨_,rfl,td,_,rfl,.inr (.of h),rfl,false,iP,ay (hR _ _ ?_)⟩⟩;refine ar fun _ hR=>⟨_,rfl,td,_,_,_,rfl,rfl,.of h,rfl,rfl,false,by decide +kernel,ay ⟨_,rfl,td,_,_,_,rfl,rfl,.of h,rfl,rfl,false,by decide +kernel,ay (hR _ _ ?_)⟩⟩
   refine ar fun _ hR=>⟨_,rfl,td,_,rfl,.inr (.of h),rfl,false,kh rfl,ay (hR _ _ ?_)⟩;refine ar fun _ hR=>⟨_,rfl,td,_,_,_,rfl,rfl,.of h,rfl,rfl,false,by decide +kernel,ay (hR _ _ ?_)⟩
   refine ar fun _ hR=>⟨_,rfl,td,_,_,_,rfl,rfl,.of h,rfl,rfl,true,by decide +kernel,bh ?_⟩
   refine ⟨_,rfl,td,_,_,_,rfl,rfl,.of h,rfl,.int _,rfl,.int _,fun z' e'=>?_,fun e'=>by cases e'⟩
   cases e';refine ⟨_,rfl,df (fun h1=>?_) (fun h1=>?_)⟩
   ·have h1:=dE h1
    refine ⟨_,rfl,td,_,_,_,rfl,rfl,.of h,rfl,_,_,rfl,rfl,?_⟩;have g:decide (z≥3)=false:=bt fun q=>hb ⟨q,h1.2⟩;dsimp only;rw [g];exact kk _ (aq.refl _)
   ·exact kk _ (aq.refl _)
  | mf b xs h hb=>
   refine ar fun _ hR=>⟨_,rfl,_,_,_,_,rfl,rfl,.of (.tup h),rfl,true,rfl,ay ⟨_,rfl,td,_,rfl,.inr (.of h),rfl,false,iP,ay (hR _ _ ?_)⟩⟩;refine ar fun _ hR=>⟨_,rfl,td,_,_,_,rfl,rfl,.of h,rfl,rfl,false,by decide +kernel,ay ⟨_,rfl,td,_,_,_,rfl,rfl,.of h,rfl,rfl,false,by decide +kernel,ay (hR _ _ ?_)⟩⟩
   refine ar fun _ hR=>⟨_,rfl,td,_,rfl,.inr (.of h),rfl,false,kh rfl,ay (hR _ _ ?_)⟩;refine ar fun _ hR=>⟨_,rfl,td,_,_,_,rfl,rfl,.of h,rfl,rfl,false,by decide +kernel,ay (hR _ _ ?_)⟩
   refine ar fun _ hR=>⟨_,rfl,td,_,_,_,rfl,rfl,.of h,rfl,rfl,true,by decide +kernel,bh ?_⟩
   exact ⟨_,rfl,td,_,_,_,rfl,rfl,.of h,rfl,.ref b,rfl,.tup hb,(fun z e=>by cases e),fun _=>⟨false,rfl,ay (kk _ (aq.refl _))⟩⟩
  | cH z h hb=>
   refine ar fun _ hR=>⟨_,rfl,_,_,_,_,rfl,rfl,.of (.tup h),rfl,true,rfl,ay ⟨_,rfl,td,_,rfl,.inr (.of h),rfl,false,iP,ay (hR _ _ ?_)⟩⟩;refine ar fun _ hR=>⟨_,rfl,td,_,_,_,rfl,rfl,.of h,rfl,rfl,false,by decide +kernel,ay ⟨_,rfl,td,_,_,_,rfl,rfl,.of h,rfl,rfl,false,by decide +kernel,ay (hR _ _ ?_)⟩⟩
   refine ar fun _ hR=>⟨_,rfl,td,_,rfl,.inr (.of h),rfl,false,kh rfl,ay (hR _ _ ?_)⟩;refine ar fun _ hR=>⟨_,rfl,td,_,_,_,rfl,rfl,.of h,rfl,rfl,false,by decide +kernel,ay (hR _ _ ?_)⟩
   refine ar fun _ hR=>⟨_,rfl,td,_,_,_,rfl,rfl,.of h,rfl,rfl,false,by decide +kernel,ay (hR _ _ ?_)⟩
   refine ⟨_,rfl,td,_,_,_,rfl,rfl,.of h,rfl,rfl,true,by decide +kernel,bh ?_⟩
   refine ⟨_,rfl,td,_,_,_,rfl,rfl,.of h,rfl,.int z,rfl,.int _,true,rfl,bh ?_⟩;refine ⟨_,rfl,td,_,_,_,rfl,rfl,.of h,rfl,_,_,rfl,rfl,.inl ⟨by decide,by decide⟩,.int _,rfl,.int _,fun z' e'=>?_,fun e'=>by cases e'⟩
   cases e';rw [bt hb];exact kk _ (aq.refl _)
  | mh z h=>
   refine ar fun _ hR=>⟨_,rfl,_,_,_,_,rfl,rfl,.of (.tup h),rfl,true,rfl,ay ⟨_,rfl,td,_,rfl,.inr (.of h),rfl,false,iP,ay (hR _ _ ?_)⟩⟩;refine ar fun _ hR=>⟨_,rfl,td,_,_,_,rfl,rfl,.of h,rfl,rfl,false,by decide +kernel,ay ⟨_,rfl,td,_,_,_,rfl,rfl,.of h,rfl,rfl,false,by decide +kernel,ay (hR _ _ ?_)⟩⟩
   refine ar fun _ hR=>⟨_,rfl,td,_,rfl,.inr (.of h),rfl,false,kh rfl,ay (hR _ _ ?_)⟩;refine ar fun _ hR=>⟨_,rfl,td,_,_,_,rfl,rfl,.of h,rfl,rfl,true,by decide +kernel,bh ?_⟩
   exact ⟨_,rfl,td,_,_,_,rfl,rfl,.of h,rfl,.inl ⟨z,rfl,kk _ (aq.refl _)⟩⟩
  | hZ b zs h hz hl hb=>
   refine ar fun _ hR=>⟨_,rfl,_,_,_,_,rfl,rfl,.of (.tup h),rfl,true,rfl,ay ⟨_,rfl,td,_,rfl,.inr (.of h),rfl,false,iP,ay (hR _ _ ?_)⟩⟩;refine ar fun _ hR=>⟨_,rfl,td,_,_,_,rfl,rfl,.of h,rfl,rfl,false,by decide +kernel,ay ⟨_,rfl,td,_,_,_,rfl,rfl,.of h,rfl,rfl,false,by decide +kernel,ay (hR _ _ ?_)⟩⟩
   refine ar fun _ hR=>⟨_,rfl,td,_,rfl,.inr (.of h),rfl,false,kh rfl,ay (hR _ _ ?_)⟩;refine ar fun _ hR=>⟨_,rfl,td,_,_,_,rfl,rfl,.of h,rfl,rfl,true,by decide +kernel,bh ?_⟩
   refine ⟨_,rfl,td,_,_,_,rfl,rfl,.of h,rfl,.inr ⟨b,zs,rfl,hz,hl,fun H' r s' vg=>?_⟩⟩;have:r=false:=by
    cases r with
    | true=>exact absurd (vg.mp rfl) hb
    | false=>rfl
   subst this;exact kk _ s'
 ·refine ⟨_,(@aL _ _ _ _ _ (@bV _ _ _ _ _ _ _ _ (PW.pt (@pw_or _ _ _ _ _ _ _ (@gY _ _ _ _ (fS (bE (eB (K:=K)) rfl T.d4 boot_isinstance (@aa _ _ _ _ _ (by rfl) (pv 0) (@aa _ _ _ _ _ (by rfl) (jK (v:=.ty "tuple") rfl T.iU boot_tuple rfl) ae))))) (@pw_or1 _ _ _ _ (cq bI (bE dW rfl T.dO dR (@aa _ _ _ _ _ (by rfl) (pv 0) ae)) af)))) (@aS _ _ _ (@bo _ _ _ _ fR)) bU)
  (@aL _ _ _ _ _ (@bV _ _ _ _ _ _ _ _ (PW.pt (@pw_or _ _ _ _ _ _ _ (cq bI (aU aX (pv 0) af) aF) (@pw_or1 _ _ _ _ (cq bI (aU aX (pv 0) af) aF)))) (@aS _ _ _ (@bo _ _ _ _ (@dU _ _ _ _ _ _ _ (ek bI (bE dW rfl T.dO dR (@aa _ _ _ _ _ (by rfl) (pv 0) ae)) af) (@dU _ _ _ _ _ _ _ (cu m6 hr T.iT T.fL.kp T.iS bx (@aa _ _ _ _ _ (by rfl) (aU aX (pv 0) af) ae)) (@ee _ _ _ _ _ (cu (rL T) hr T.oR T.iR.kp T.oQ bx (@aa _ _ _ _ _ (by rfl) (aU aX (pv 0) af) (@aa _ _ _ _ _ (by rfl) (aU aX (pv 0) af) ae)))))))) bU)
  (@aL _ _ _ _ _ (@bV _ _ _ _ _ _ _ _ (cq nK (bE dW rfl T.dO dR (@aa _ _ _ _ _ (by rfl) (pv 0) ae)) af) (@aS _ _ _ (@bo _ _ _ _ fR)) bU)
  (@aL _ _ _ _ _ (@bV _ _ _ _ _ _ _ _ (cq bI (aU aX (pv 0) af) aF) (@aS _ _ _ (@bo _ _ _ _ (cu (Ar T) hr T.u0 T.kK.kp T.uZ bx (@aa _ _ _ _ _ (by rfl) (aU aX (pv 0) af) ae)))) bU)
  (@aL _ _ _ _ _ (@bV _ _ _ _ _ _ _ _ (cq bI (aU aX (pv 0) af) aF) (@aS _ _ _ (@bo _ _ _ _ (@dU _ _ _ _ _ _ _ (cu m6 hr T.iT T.fL.kp T.iS bx (@aa _ _ _ _ _ (by rfl) (aU aX (pv 0) af) ae)) (@ee _ _ _ _ _ (ek xi (aU aX (pv 0) af) af))))) bU)
  (@aS _ _ _ (@bo _ _ _ _ (@dU _ _ _ _ _ _ _ (ek bI (aU aX (pv 0) af) aF) (@dU _ _ _ _ _ _ _ (cu (rK T) hr T.oP T.iQ.kp T.oO bx (@aa _ _ _ _ _ (by rfl) (aU aX (pv 0) af) ae)) (@ee _ _ _ _ _ (cu m6 hr T.iT T.fL.kp T.iS bx (@aa _ _ _ _ _ (by rfl) (@aH _ _ _ _ _ _ _ _ gw af (aU aX (pv 0) af)) ae)))))))))))),?_⟩
  cases N with
  | band n w=>
   have e:H td=some (.tup [sV "band",.int (n:Int),.int (w:Int)]):=tn;obtain ⟨n1,ic,wn⟩:=ok;refine ar fun _ hR=>⟨_,rfl,_,_,_,_,rfl,rfl,.of (.tup e),rfl,true,rfl,ay ⟨_,rfl,td,_,rfl,.inr (.of e),rfl,false,rfl,ay (hR _ _ ?_)⟩⟩;refine ar fun _ hR=>⟨_,rfl,td,_,_,_,rfl,rfl,.of e,rfl,rfl,true,by decide +kernel,bh ?_⟩
   refine ⟨_,rfl,td,_,rfl,.inr (.of e),rfl,true,rfl,bh ?_⟩;refine ⟨_,rfl,td,_,_,_,rfl,rfl,.of e,rfl,.int _,rfl,.int _,fun z' e'=>?_,fun e'=>by cases e'⟩
   cases e';refine ⟨true,cw V.bl (aW (by omega)),bh ?_⟩
   refine ⟨_,rfl,td,_,_,_,rfl,rfl,.of e,rfl,_,rfl,td,_,_,_,rfl,rfl,.of e,rfl,(w:Int),n,rfl,?_⟩;rw [aW (show 0≤(w:Int)∧(w:Int)<(n:Int) by omega)]
   exact kk _ (aq.refl _)
  | cg n w=>
   have e:H td=some (.tup [sV "brim",.int (n:Int),.int (w:Int)]):=tn;obtain ⟨n1,ic,wn⟩:=ok;refine ar fun _ hR=>⟨_,rfl,_,_,_,_,rfl,rfl,.of (.tup e),rfl,true,rfl,ay ⟨_,rfl,td,_,rfl,.inr (.of e),rfl,false,rfl,ay (hR _ _ ?_)⟩⟩;refine ar fun _ hR=>⟨_,rfl,td,_,_,_,rfl,rfl,.of e,rfl,rfl,false,by decide +kernel,ay ?_⟩
   refine ⟨_,rfl,td,_,_,_,rfl,rfl,.of e,rfl,rfl,true,by decide +kernel,bh ?_⟩
   refine ⟨_,rfl,td,_,rfl,.inr (.of e),rfl,true,rfl,bh ?_⟩;refine ⟨_,rfl,td,_,_,_,rfl,rfl,.of e,rfl,.int _,rfl,.int _,fun z' e'=>?_,fun e'=>by cases e'⟩
   cases e';refine ⟨true,cw V.bl (aW (by omega)),bh ?_⟩
   refine ⟨_,rfl,td,_,_,_,rfl,rfl,.of e,rfl,_,rfl,td,_,_,_,rfl,rfl,.of e,rfl,(w:Int),n,rfl,?_⟩;rw [aW (show 0≤(w:Int)∧(w:Int)<(n:Int) by omega)]
   exact kk _ (aq.refl _)
  | ring n=>
   have e:H td=some (.tup [sV "ring",.int (n:Int)]):=tn;obtain ⟨n3,ic⟩:=ok;refine ar fun _ hR=>⟨_,rfl,_,_,_,_,rfl,rfl,.of (.tup e),rfl,true,rfl,ay ⟨_,rfl,td,_,rfl,.inr (.of e),rfl,false,rfl,ay (hR _ _ ?_)⟩⟩;refine ar fun _ hR=>⟨_,rfl,td,_,_,_,rfl,rfl,.of e,rfl,rfl,false,by decide +kernel,ay ?_⟩
   refine ⟨_,rfl,td,_,_,_,rfl,rfl,.of e,rfl,rfl,false,by decide +kernel,ay (hR _ _ ?_)⟩
   refine ar fun _ hR=>⟨_,rfl,td,_,rfl,.inr (.of e),rfl,false,rfl,ay (hR _ _ ?_)⟩;refine ar fun _ hR=>⟨_,rfl,td,_,_,_,rfl,rfl,.of e,rfl,rfl,false,by decide +kernel,ay (hR _ _ ?_)⟩
   refine ar fun _ hR=>⟨_,rfl,td,_,_,_,rfl,rfl,.of e,rfl,rfl,true,by decide +kernel,bh ?_⟩
   refine ⟨_,rfl,td,_,_,_,rfl,rfl,.of e,rfl,.int _,rfl,.int _,fun z' e'=>?_,fun e'=>by cases e'⟩
   cases e';refine ⟨true,cw V.bl (aW (by omega)),bh ?_⟩
   refine ⟨_,rfl,td,_,_,_,rfl,rfl,.of e,rfl,_,_,rfl,rfl,?_⟩;have g:decide ((n:Int)≥3)=true:=aW (by omega)
   dsimp only;rw [g];exact kk _ (aq.refl _)
  | cH m=>
   have e:H td=some (.tup [sV "ladder",.int (m:Int)]):=tn;obtain ⟨n3,ic⟩:=ok;refine ar fun _ hR=>⟨_,rfl,_,_,_,_,rfl,rfl,.of (.tup e),rfl,true,rfl,ay ⟨_,rfl,td,_,rfl,.inr (.of e),rfl,false,rfl,ay (hR _ _ ?_)⟩⟩;refine ar fun _ hR=>⟨_,rfl,td,_,_,_,rfl,rfl,.of e,rfl,rfl,false,by decide +kernel,ay ?_⟩
   refine ⟨_,rfl,td,_,_,_,rfl,rfl,.of e,rfl,rfl,false,by decide +kernel,ay (hR _ _ ?_)⟩
   refine ar fun _ hR=>⟨_,rfl,td,_,rfl,.inr (.of e),rfl,false,rfl,ay (hR _ _ ?_)⟩;refine ar fun _ hR=>⟨_,rfl,td,_,_,_,rfl,rfl,.of e,rfl,rfl,false,by decide +kernel,ay (hR _ _ ?_)⟩
   refine ar fun _ hR=>⟨_,rfl,td,_,_,_,rfl,rfl,.of e,rfl,rfl,false,by decide +kernel,ay (hR _ _ ?_)⟩
   refine ⟨_,rfl,td,_,_,_,rfl,rfl,.of e,rfl,rfl,true,by decide +kernel,bh ?_⟩
   refine ⟨_,rfl,td,_,_,_,rfl,rfl,.of e,rfl,.int (m:Int),rfl,.int _,true,rfl,bh ?_⟩;refine ⟨_,rfl,td,_,_,_,rfl,rfl,.of e,rfl,_,_,rfl,rfl,.inl ⟨by decide,by decide⟩,.int _,rfl,.int _,fun z' e'=>?_,fun e'=>by cases e'⟩
   cases e';rw [aW (show 1≤2*(m:Int)∧2*(m:Int)≤60 by omega)]
   exact kk _ (aq.refl _)
  | tree as=>
   obtain ⟨ta,e,eta⟩:=id tn;refine ar fun _ hR=>⟨_,rfl,_,_,_,_,rfl,rfl,.of (.tup e),rfl,true,rfl,ay ⟨_,rfl,td,_,rfl,.inr (.of e),rfl,false,rfl,ay (hR _ _ ?_)⟩⟩;refine ar fun _ hR=>⟨_,rfl,td,_,_,_,rfl,rfl,.of e,rfl,rfl,false,by decide +kernel,ay ?_⟩
   refine ⟨_,rfl,td,_,_,_,rfl,rfl,.of e,rfl,rfl,false,by decide +kernel,ay (hR _ _ ?_)⟩
   refine ar fun _ hR=>⟨_,rfl,td,_,rfl,.inr (.of e),rfl,false,rfl,ay (hR _ _ ?_)⟩;refine ar fun _ hR=>⟨_,rfl,td,_,_,_,rfl,rfl,.of e,rfl,rfl,true,by decide +kernel,bh ?_⟩
   refine ⟨_,rfl,td,_,_,_,rfl,rfl,.of e,rfl,.inr ⟨ta,as.map iN,rfl,by rw [eta,lA];rfl,by rw [bz];have:=ok.1;omega,fun H' r s' vg=>?_⟩⟩
   have:r=true:=vg.mpr ⟨by rw [bz];have:=ok.1;omega,fun k hk=>by
    rw [bz] at hk;have:=ok.2 k hk;have e':(as.map iN).getD k 0=((as.getD k 0:Nat):Int):=by rw [d6,d6,dQ,eR hk];rfl
    rw [e'];omega⟩
   subst this;exact kk _ s'
theorem Ge:cC ["told"] ["told"] (bA rj):=dr
theorem Aw(T:Txt K mg t):bP P w K mg base cG 1 t.ku t.mx ["told"] Fp:=by
 have S:=Ge;refine T.kM.fF S (fun _ _ _ _ H _ _ _ hr h=>?_);obtain ⟨td,N,rfl,tn,ok,kk⟩:=h
 refine ⟨_,(@aL _ _ _ _ _ (@bV _ _ _ _ _ _ _ _ (cq bI (aU aX (pv 0) af) aF) (@aS _ _ _ (@bo _ _ _ _ (@aH _ _ _ _ _ _ _ _ cO (bE dW rfl T.dO dR (@aa _ _ _ _ _ (by rfl) (aU aX (pv 0) af) ae)) af))) bU)
  (@aL _ _ _ _ _ (@bV _ _ _ _ _ _ _ _ (cq bI (aU aX (pv 0) af) aF) (@aS _ _ _ (@bo _ _ _ _ (@aH _ _ _ _ _ _ _ _ gw af (aU aX (pv 0) af)))) bU)
  (@aS _ _ _ (@bo _ _ _ _ (aU aX (pv 0) af))))),?_⟩
 cases N with
 | band n w=>
  have e:H td=some (.tup [sV "band",.int (n:Int),.int (w:Int)]):=tn;refine ar fun _ hR=>⟨_,rfl,td,_,_,_,rfl,rfl,.of e,rfl,rfl,false,by decide +kernel,ay (hR _ _ ?_)⟩
  refine ar fun _ hR=>⟨_,rfl,td,_,_,_,rfl,rfl,.of e,rfl,rfl,false,by decide +kernel,ay (hR _ _ ?_)⟩
  exact ⟨_,rfl,td,_,_,_,rfl,rfl,.of e,rfl,kk⟩
 | cg n w=>
  have e:H td=some (.tup [sV "brim",.int (n:Int),.int (w:Int)]):=tn;refine ar fun _ hR=>⟨_,rfl,td,_,_,_,rfl,rfl,.of e,rfl,rfl,false,by decide +kernel,ay (hR _ _ ?_)⟩
  refine ar fun _ hR=>⟨_,rfl,td,_,_,_,rfl,rfl,.of e,rfl,rfl,false,by decide +kernel,ay (hR _ _ ?_)⟩
  exact ⟨_,rfl,td,_,_,_,rfl,rfl,.of e,rfl,kk⟩
 | ring n=>
  have e:H td=some (.tup [sV "ring",.int (n:Int)]):=tn;refine ar fun _ hR=>⟨_,rfl,td,_,_,_,rfl,rfl,.of e,rfl,rfl,false,by decide +kernel,ay (hR _ _ ?_)⟩
  refine ar fun _ hR=>⟨_,rfl,td,_,_,_,rfl,rfl,.of e,rfl,rfl,false,by decide +kernel,ay (hR _ _ ?_)⟩
  exact ⟨_,rfl,td,_,_,_,rfl,rfl,.of e,rfl,kk⟩
 | cH m=>
  have e:H td=some (.tup [sV "ladder",.int (m:Int)]):=tn;refine ar fun _ hR=>⟨_,rfl,td,_,_,_,rfl,rfl,.of e,rfl,rfl,false,by decide +kernel,ay (hR _ _ ?_)⟩
  refine ar fun _ hR=>⟨_,rfl,td,_,_,_,rfl,rfl,.of e,rfl,rfl,true,by decide +kernel,bh ?_⟩
  refine ⟨_,rfl,td,_,_,_,rfl,rfl,.of e,rfl,_,_,rfl,rfl,.inl ⟨by decide,by decide⟩,?_⟩
  have:((aT.cH m).sz:Int)=2*(m:Int):=by show ((2*m:Nat):Int)=_;omega
  rw [this] at kk;exact kk
 | tree as=>
  obtain ⟨ta,e,eta⟩:=id tn;refine ar fun _ hR=>⟨_,rfl,td,_,_,_,rfl,rfl,.of e,rfl,rfl,true,by decide +kernel,bh ?_⟩
  refine ⟨_,rfl,td,_,_,_,rfl,rfl,.of e,rfl,ta,_,rfl,.inr (.of eta),_,_,rfl,rfl,?_⟩;rw [bz];exact kk
theorem Gf:cC ["told","i","j","apart"] ["told","i","j"] (bA rm):=dr
theorem Ax(T:Txt K mg t):bP P w K mg base cG 1 t.kv t.my ["told","i","j"] Fq:=by
 have S:=Gf;refine T.kN.fF S (fun _ _ _ _ H _ Q _ hr h=>?_);obtain ⟨td,N,i,j,rfl,tn,ok,ij,jn,kk⟩:=h
 refine ⟨_,(@aL _ _ _ _ _ (putL 3 S.nd (@aH _ _ _ _ _ _ _ _ fC (pv 2) (pv 1)))
  (@aL _ _ _ _ _ (@bV _ _ _ _ _ _ _ _ (cq bI (aU aX (pv 0) af) aF) (@aS _ _ _ (@bo _ _ _ _ (ek bI (aU aX (aU aX (pv 0) af) (@aH _ _ _ _ _ _ _ _ fC (pv 2) af)) (pv 1)))) bU)
  (@aL _ _ _ _ _ (@bV _ _ _ _ _ _ _ _ (cq bI (aU aX (pv 0) af) aF) (@aS _ _ _ (@bo _ _ _ _ (sG (ek bI (pv 3) af) (@ee _ _ _ _ _ (ek bI (pv 3) (@aH _ _ _ _ _ _ _ _ fC (aU aX (pv 0) af) af)))))) bU)
  (@aL _ _ _ _ _ (@bV _ _ _ _ _ _ _ _ (cq bI (aU aX (pv 0) af) aF) (@aS _ _ _ (@bo _ _ _ _ (sG (ek bI (pv 3) af) (@ee _ _ _ _ _ (@dU _ _ _ _ _ _ _ (ek bI (pv 3) af) (@ee _ _ _ _ _ (ek bI (@aH _ _ _ _ _ _ _ _ lI (pv 1) af) af))))))) bU)
  (@aS _ _ _ (@bo _ _ _ _ (sG (ek nM (pv 3) (aU aX (pv 0) af)) (@ee _ _ _ _ _ (@dU _ _ _ _ _ _ _ (ek bI (aU aX (pv 0) af) aF) (@ee _ _ _ _ _ (ek bI (pv 2) (@aH _ _ _ _ _ _ _ _ fC (aU aX (pv 0) af) af)))))))))))),?_⟩
 refine ar fun _ hR=>bG ⟨_,rfl,_,rfl,_,_,rfl,rfl,hR _ _ ?_⟩;have fin:∀{b:Bool},N.lk i j=b→Q (.bl b) H:=fun h=>h▸kk;cases N with
 | band n w=>
  have e:H td=some (.tup [sV "band",.int (n:Int),.int (w:Int)]):=tn;refine ar fun _ hR=>⟨_,rfl,td,_,_,_,rfl,rfl,.of e,rfl,rfl,false,by decide +kernel,ay (hR _ _ ?_)⟩
  refine ar fun _ hR=>⟨_,rfl,td,_,_,_,rfl,rfl,.of e,rfl,rfl,false,by decide +kernel,ay (hR _ _ ?_)⟩
  refine ar fun _ hR=>⟨_,rfl,td,_,_,_,rfl,rfl,.of e,rfl,rfl,false,by decide +kernel,ay (hR _ _ ?_)⟩
  refine ⟨_,rfl,_,rfl,td,_,_,_,rfl,rfl,.of e,rfl,_,_,rfl,rfl,_,rfl,df (fun hb=>?_) (fun hb=>?_)⟩
  ·have hb:=dE hb
   exact fin (aW (by omega))
  ·have hb:¬((j:Int)-(i:Int)≤(w:Int)):=fun z=>hb (aW z)
   exact ⟨_,rfl,td,_,_,_,rfl,rfl,.of e,rfl,rfl,false,by decide +kernel,ay (fin (bt (by omega)))⟩
 | cg n w=>
  have e:H td=some (.tup [sV "brim",.int (n:Int),.int (w:Int)]):=tn;refine ar fun _ hR=>⟨_,rfl,td,_,_,_,rfl,rfl,.of e,rfl,rfl,false,by decide +kernel,ay (hR _ _ ?_)⟩
  refine ar fun _ hR=>⟨_,rfl,td,_,_,_,rfl,rfl,.of e,rfl,rfl,false,by decide +kernel,ay (hR _ _ ?_)⟩
  refine ar fun _ hR=>⟨_,rfl,td,_,_,_,rfl,rfl,.of e,rfl,rfl,false,by decide +kernel,ay (hR _ _ ?_)⟩
  refine ⟨_,rfl,_,rfl,td,_,_,_,rfl,rfl,.of e,rfl,_,_,rfl,rfl,_,rfl,df (fun hb=>?_) (fun hb=>?_)⟩
  ·have hb:=dE hb
   exact fin (by show (decide (j≤i+w) || _)=true;rw [aW (show j≤i+w by omega)];rfl)
  ·have hb:¬((j:Int)-(i:Int)≤(w:Int)):=fun z=>hb (aW z)
   refine ⟨_,rfl,td,_,_,_,rfl,rfl,.of e,rfl,rfl,true,by decide +kernel,bh ?_⟩
   refine ⟨_,rfl,_,rfl,td,_,_,_,rfl,rfl,.of e,rfl,_,_,rfl,rfl,rfl,fin ?_⟩;show (decide (j≤i+w) || decide (j+1=n))=_;rw [dX,bt (show ¬j≤i+w by omega),ni]
   exact jF.mpr (by omega)
 | ring n=>
  have e:H td=some (.tup [sV "ring",.int (n:Int)]):=tn;refine ar fun _ hR=>⟨_,rfl,td,_,_,_,rfl,rfl,.of e,rfl,rfl,false,by decide +kernel,ay (hR _ _ ?_)⟩
  refine ar fun _ hR=>⟨_,rfl,td,_,_,_,rfl,rfl,.of e,rfl,rfl,true,by decide +kernel,bh ?_⟩
  refine ⟨_,rfl,rfl,_,rfl,df (fun hb=>?_) (fun hb=>?_)⟩
  ·rw [dX] at hb
   have hb:=dE hb;exact fin (by show (decide (j=i+1) || _)=true;rw [aW (show j=i+1 by omega)];rfl)
  ·have hb:¬((j:Int)-(i:Int)=1):=fun z=>hb (by rw [dX];exact aW z)
   refine ⟨_,rfl,_,rfl,td,_,_,_,rfl,rfl,.of e,rfl,_,_,rfl,rfl,rfl,fin ?_⟩;show (decide (j=i+1) || decide (j+1=i+n))=_;rw [dX,bt (show ¬j=i+1 by omega),ni]
   exact jF.mpr (by omega)
 | cH m=>
  have e:H td=some (.tup [sV "ladder",.int (m:Int)]):=tn;refine ar fun _ hR=>⟨_,rfl,td,_,_,_,rfl,rfl,.of e,rfl,rfl,false,by decide +kernel,ay (hR _ _ ?_)⟩
  refine ar fun _ hR=>⟨_,rfl,td,_,_,_,rfl,rfl,.of e,rfl,rfl,false,by decide +kernel,ay (hR _ _ ?_)⟩
  refine ar fun _ hR=>⟨_,rfl,td,_,_,_,rfl,rfl,.of e,rfl,rfl,true,by decide +kernel,bh ?_⟩
  refine ⟨_,rfl,rfl,_,rfl,df (fun hb=>?_) (fun hb=>?_)⟩
  ·rw [dX] at hb
   have hb:=dE hb;exact fin (by show (decide (j=i+2) || _)=true;rw [aW (show j=i+2 by omega)];rfl)
  ·have hb:¬((j:Int)-(i:Int)=2):=fun z=>hb (by rw [dX];exact aW z)
   refine ⟨_,rfl,rfl,_,rfl,df (fun hc=>?_) (fun hc=>?_)⟩
   ·rw [dX] at hc
    have hc:=dE hc;refine ⟨_,rfl,_,_,rfl,rfl,(by decide:(0:Int)<2),rfl,fin ?_⟩
    show (decide (j=i+2) || (decide (j=i+1) && decide (i % 2=0)))=_;rw [dX,bt (show ¬j=i+2 by omega),ni,aW (show j=i+1 by omega),Bool.true_and]
    exact jF.mpr (by omega)
   ·have hc:¬((j:Int)-(i:Int)=1):=fun z=>hc (by rw [dX];exact aW z)
    exact fin (by show (decide (j=i+2) || (decide (j=i+1) && decide (i % 2=0)))=false;rw [bt (show ¬j=i+2 by omega),bt (show ¬j=i+1 by omega)];rfl)
 | tree as=>
  obtain ⟨ta,e,eta⟩:=id tn;have jn:j<as.length+1:=jn;refine ar fun _ hR=>⟨_,rfl,td,_,_,_,rfl,rfl,.of e,rfl,rfl,true,by decide +kernel,bh ?_⟩
  have at':jd (as.map fun k:Nat=>V.int (k:Int)) ((j:Int)-1)=some (.int ((as.getD (j-1) 0:Nat):Int)):=by
   have hj:j-1<as.length:=by omega
   rw [show (j:Int)-1=((j-1:Nat):Int) by omega,d6,eR hj]
   exact nS (by rw [dQ,eR hj];rfl)
  refine ⟨_,rfl,td,_,_,_,rfl,rfl,.of e,rfl,_,rfl,_,_,rfl,rfl,ta,_,_,_,rfl,rfl,.of eta,at',_,rfl,rfl,fin ?_⟩;show decide (as.getD (j-1) 0=i)=_;rw [dX];exact jF.mpr (by omega)
theorem Gg:cC ["told","n","links","i"] ["told"] (bA rp):=dr
theorem vh(T:Txt K mg t):bP P w K mg base (eA P w) 5 t.kz t.mB ["told"] (FO t.aZ):=by
 have S:=Gg;refine T.h_.gB S (fun _ _ _ _ H _ _ _ hr h L=>?_);obtain ⟨td,rfl,⟨bad,kE⟩ | ⟨N,tn,ok,kk⟩⟩:=h
 ·refine ⟨_,(@aL _ _ _ _ _ (@bV _ _ _ _ _ _ _ _ (@gY _ _ _ _ (fS (cu (Av T) hr T.u5 T.kL.kp T.u4 bx (@aa _ _ _ _ _ (by rfl) (pv 0) ae)))) (@aS _ _ _ (x6 L rfl sj T.oS rfl T.rJ (@aa _ _ _ _ _ (by rfl) aF ae))) bU)
  (@aL _ _ _ _ _ (putL 1 S.nd (cu (Aw T) hr T.u7 T.kM.kp T.u6 bx (@aa _ _ _ _ _ (by rfl) (pv 0) ae)))
  (@aL _ _ _ _ _ (putL 2 S.nd (@cU _ _ _ _ ae))
  (@aL _ _ _ _ _ (iz (y9 L) rfl (gu rfl T.d5 (@aa _ _ _ _ _ (by rfl) (pv 1) ae)) (fA (i:=3) S.nd rfl (Or.inr rfl))
   (@aS _ _ _ (pQ (lL lC PySem.F.slot_list_extend PySem.F.type_list_extend xU (pv 2) (@aa _ _ _ _ _ (by rfl) (lR (N:=["j","i","told"]) (ρ:=(fun σ=>[σ[3]?.join,σ[0]?.join])) (lQ [3,0] rfl) rfl (sM rfl T.d5 (@aa _ _ _ _ _ (by rfl) (@aH _ _ _ _ _ _ _ _ cO (pv 3) af) (@aa _ _ _ _ _ (by rfl) (pv 1) ae))) (fun _ _ _=>(.one (fS (cu (Ax T) hr T.u_ T.kN.kp T.u9 bx (@aa _ _ _ _ _ (by rfl) (pv 2) (@aa _ _ _ _ _ (by rfl) (pv 1) (@aa _ _ _ _ _ (by rfl) (pv 0) ae))))))) (fun _ _ _=>(@aK _ _ _ _ _ (@aa _ _ _ _ _ (by rfl) (pv 1) (@aa _ _ _ _ _ (by rfl) (pv 0) ae))))) ae)))))
  (@aS _ _ _ (@bo _ _ _ _ (@aK _ _ _ _ _ (@aa _ _ _ _ _ (by rfl) (pv 1) (@aa _ _ _ _ _ (by rfl) (lK qd rfl T.iU boot_tuple (@aa _ _ _ _ _ (by rfl) (pv 2) ae)) ae))))))))),?_⟩
  refine ar fun _ hR=>⟨_,rfl,td,rfl,.inl ⟨bad,fun H1 s1=>⟨false,rfl,bh ?_⟩⟩⟩;exact ⟨by show 1≤sizeLine;decide,kE H1 s1⟩
 ·refine ⟨_,(@aL _ _ _ _ _ (@bV _ _ _ _ _ _ _ _ (@gY _ _ _ _ (fS (cu (Av T) hr T.u5 T.kL.kp T.u4 bx (@aa _ _ _ _ _ (by rfl) (pv 0) ae)))) (@aS _ _ _ (x6 L rfl sj T.oS rfl T.rJ (@aa _ _ _ _ _ (by rfl) aF ae))) bU)
  (@aL _ _ _ _ _ (putL 1 S.nd (cu (Aw T) hr T.u7 T.kM.kp T.u6 bx (@aa _ _ _ _ _ (by rfl) (pv 0) ae)))
  (@aL _ _ _ _ _ (putL 2 S.nd (@cU _ _ _ _ ae))
  (@aL _ _ _ _ _ (iz (y9 L) rfl (gu rfl T.d5 (@aa _ _ _ _ _ (by rfl) (pv 1) ae)) (fA (i:=3) S.nd rfl (Or.inr rfl))
   (@aS _ _ _ (pQ (lL lC PySem.F.slot_list_extend PySem.F.type_list_extend xU (pv 2) (@aa _ _ _ _ _ (by rfl) (lR (N:=["j","i","told"]) (ρ:=(fun σ=>[σ[3]?.join,σ[0]?.join])) (lQ [3,0] rfl) rfl (sM rfl T.d5 (@aa _ _ _ _ _ (by rfl) (@aH _ _ _ _ _ _ _ _ cO (pv 3) af) (@aa _ _ _ _ _ (by rfl) (pv 1) ae))) (fun _ _ _=>(.one (fS (cu (Ax T) hr T.u_ T.kN.kp T.u9 bx (@aa _ _ _ _ _ (by rfl) (pv 2) (@aa _ _ _ _ _ (by rfl) (pv 1) (@aa _ _ _ _ _ (by rfl) (pv 0) ae))))))) (fun _ _ _=>(@aK _ _ _ _ _ (@aa _ _ _ _ _ (by rfl) (pv 1) (@aa _ _ _ _ _ (by rfl) (pv 0) ae))))) ae)))))
  (@aS _ _ _ (@bo _ _ _ _ (@aK _ _ _ _ _ (@aa _ _ _ _ _ (by rfl) (pv 1) (@aa _ _ _ _ _ (by rfl) (lK qd rfl T.iU boot_tuple (@aa _ _ _ _ _ (by rfl) (pv 2) ae)) ae))))))))),?_⟩
  obtain ⟨n1,ic⟩:=qM ok;have len:=uR ok;have fl:∀i,i≤N.sz→(fg N.sz N.lk i).length≤1770:=fun i hi=>by
   have mon:∀k,(fg N.sz N.lk i).length≤(fg N.sz N.lk (i+k)).length:=fun k=>by
    induction k with
    | zero=>exact aG _
    | succ k ih=>show _≤(fg N.sz N.lk (i+k)++gO N.sz N.lk (i+k)).length;rw [dk];omega
   have:=mon (N.sz-i);rw [show i+(N.sz-i)=N.sz by omega] at this
   exact cE this len
  refine ar fun _ hR=>⟨_,rfl,td,rfl,.inr ⟨N,tn,ok,fun H1 s1=>⟨true,rfl,ay (hR _ _ ?_)⟩⟩⟩;have fh:=tn.mono s1;refine ar fun _ hR=>bG ⟨_,rfl,td,N,rfl,fh,ok,hR _ _ ?_⟩;refine ar fun _ hR=>bG ⟨by show 0≤sizeLine;decide,fun fd Ay=>hR _ _ ?_⟩
  have s2:aq H1 (upd H1 fd (.lst [])):=ax Ay;have ef:upd H1 fd (.lst []) fd=some (.lst []):=aw;generalize upd H1 fd (.lst [])=H2 at s2 ef ⊢;have Gh:=s1.trans s2;have Gi:H fd=none:=none_of s1 Ay;have ie:=fh.mono s2;refine ar fun _ hR=>⟨_,rfl,(N.sz:Int),rfl,by omega,by omega,?_⟩
  rw [iY];refine jb (fun i σ Hc=>∃(us:List V) (v3:Option V),σ=[some (.ref td),some (.int (N.sz:Int)),some (.ref fd),v3]∧aq H Hc∧Hc fd=some (.lst us)∧bg Hc us (fg N.sz N.lk i)) ⟨[],_,rfl,Gh,ef,bg.nil _⟩ ?_ ?_
  ·rintro i σ Hc hi ⟨us,v3,rfl,sc,oT,hL⟩
   have Gj:=tn.mono sc;dsimp only [cZ];refine ⟨_,rfl,.inl ⟨rfl,_,.of oT⟩,EB (xs:=(List.range (N.sz-(i+1))).map fun k:Nat=>V.int ((i:Int)+1+(k:Int))) (fun k=>N.lk i (i+1+k)) (fun R h=>⟨_,rfl,_,_,rfl,rfl,_,rfl,_,_,rfl,⟨by omega,by omega,by omega,by omega⟩,h _ ?_⟩) (by rw [bz,i3];exact jY (by omega)) (fun _ k y Hx=>∃b:Addr,y=.ref b∧Hx b=some (.tup [.int (i:Int),.int ((i+1+k:Nat):Int)])) (fun D k y Ha Hb ys ⟨b,h1,h2⟩ e f=>⟨b,h1,f b _ (fun z=>by rw [z,e] at h2;cases h2) h2⟩) ?_ ?_ ?_⟩
   ·rw [show ((N.sz:Int)-(0+(i:Int)+1)).toNat=N.sz-(i+1) by omega,show 0+(i:Int)+1=(i:Int)+1 by omega]
    exact yu
   ·intro k x hx Hd R sd hR
    have hk:k<N.sz-(i+1):=by have:=(bZ.mp hx).1;simpa using this
    rw [dQ,k_ hk] at hx;cases hx;refine ⟨_,rfl,_,rfl,_,rfl,td,N,i,i+1+k,?_,Gj.mono sd,ok,by omega,by omega,_,rfl,hR⟩
    show [V.ref td,V.int (0+(i:Int)),V.int ((i:Int)+1+(k:Int))]=_;rw [fv,show ((i+1+k:Nat):Int)=(i:Int)+1+(k:Int) by omega]
   ·intro D k x hx Hd R sd _ kc
    have hk:k<N.sz-(i+1):=by have:=(bZ.mp hx).1;simpa using this
    rw [dQ,k_ hk] at hx;cases hx;refine ⟨_,rfl,_,rfl,by show 2≤sizeLine;decide,fun tp fM=>?_⟩
    refine kc _ _ (ax fM) ⟨tp,rfl,?_⟩;rw [aw,fv,show ((i+1+k:Nat):Int)=(i:Int)+1+(k:Int) by omega]
   ·intro D ys Hd nD sd Az hP eD
    rw [bz,i3] at Az hP;have hR:bg Hd ys (gO N.sz N.lk i):=⟨by unfold gO;rw [bz];exact Az,fun k v p h1 h2=>by
     unfold gO at h2;rw [dQ] at h2;cases e:((List.range (N.sz-(i+1))).filter fun k=>N.lk i (i+1+k))[k]? with
     | none=>rw [e] at h2;cases h2
     | some k'=>rw [e] at h2;cases h2;exact hP k k' v h1 e⟩
    have l1:=hL.1;have l2:=hR.1;have l3:=fl (i+1) (by omega)
    have e3:fg N.sz N.lk (i+1)=fg N.sz N.lk i++gO N.sz N.lk i:=rfl;rw [e3,dk] at l3;refine ⟨fd,D,us,ys,rfl,rfl,sd _ _ oT,eD,cE (show _≤2000 by omega) (by decide),us++ys,_,rfl,iF (sc.trans sd) Gi,aw,?_⟩
    rw [e3];exact ((hL.mono sd).cat hR).dg (sd _ _ oT) fun b o nb e=>by rw [bu nb];exact e
  ·rintro σ Hc ⟨us,v3,rfl,sc,oT,hL⟩
   refine hR _ _ ?_;refine ⟨_,rfl,_,rfl,fd,us,rfl,.inl ⟨.of oT,fun lt oM=>?_⟩⟩;have sl:aq Hc (upd Hc lt (.tup us)):=ax oM;have el:upd Hc lt (.tup us) lt=some (.tup us):=aw;generalize upd Hc lt (.tup us)=Hd at sl el ⊢;refine ⟨by show 2≤sizeLine;decide,fun tp fM=>?_⟩
   have st:aq Hd (upd Hd tp (.tup [.int (N.sz:Int),.ref lt])):=ax fM;exact kk tp _ (sc.trans (sl.trans st)) ⟨lt,us,aw,st _ _ el,(hL.mono sl).mono st⟩
theorem Gk:cC ["shape","order"] ["shape","order"] (bA rn):=dr
theorem Gm(T:Txt K mg t):bP P w K mg base cG 2 t.ky t.mz ["shape","order"] FW:=by have S:=Gk;exact T.mS.ok S (fun vs H Q E h=>h.elim) (fun bp A outer s H vs Q E hr h=>h.elim)
theorem Gn:cC ["told","shape","order"] ["told"] (bA rq):=dr
theorem Gp(T:Txt K mg t):bP P w K mg base (eA P w) 6 t.kA t.mC ["told"] (FP t.aZ):=by
 have S:=Gn;refine T.mV.gB S (fun _ _ _ _ H _ _ _ hr h L=>?_);obtain ⟨td,rfl,bad,kE⟩:=h
 refine ⟨_,(@aL _ _ _ _ _ (putL 1 S.nd (cu (vh T) hr T.mU T.h_.kp T.mT (CS L) (@aa _ _ _ _ _ (by rfl) (pv 0) ae)))
  (@aL _ _ _ _ _ (putL 2 S.nd (lK (Dw rfl) rfl T.z7 boot_list (@aa _ _ _ _ _ (by rfl) (lK Du rfl T.d5 Dy (@aa _ _ _ _ _ (by rfl) (aU aX (pv 1) af) ae)) ae)))
  (@aL _ _ _ _ _ (@bV _ _ _ _ _ _ _ _ (cq bI (aU aX (pv 0) af) aF) (@aS _ _ _ (putL 2 S.nd FV)) bU)
  (@aS _ _ _ (@bo _ _ _ _ (@aK _ _ _ _ _ (@aa _ _ _ _ _ (by rfl) (pv 2) (@aa _ _ _ _ _ (by rfl) (cu (Gm T) hr T.zD T.mS.kp T.zC bx (@aa _ _ _ _ _ (by rfl) (pv 1) (@aa _ _ _ _ _ (by rfl) (pv 2) ae))) ae)))))))),?_⟩
 exact ar fun _ hR=>bG ⟨_,rfl,td,rfl,.inl ⟨bad,fun H1 s1=>kE H1 s1⟩⟩
theorem Txt.Gq(T:Txt K mg t):je K t.aZ:=⟨T.Al,T.Am,T.An,T.Ao,T.Ap,T.Aq⟩
def Gr(N:Addr):Sp:=fun vs H Q _=>∃ea:Addr,vs=[.ref ea]∧H ea=some (gA ea N)∧∀H',aq H H'→Q (sV "shape") H'
theorem Gs:cC ["caught","some"] ["caught"] (bA rC):=dr
theorem Gu(T:Txt K mg t):bP P w K mg base cG 1 t.kF t.mG ["caught"] (Gr t.aZ):=by
 have S:=Gs;refine T.mY.fF S (fun _ _ _ s H _ _ _ hr h=>?_);obtain ⟨ea,rfl,Gv,kk⟩:=h;have ty:∀{H':Hp},aq H H'→lP K H' (.ref ea) (.ref t.aZ):=fun s=>.exc (s _ _ Gv) T.Gq
 refine ⟨_,(@aL _ _ _ _ _ (@dy _ _ 1 _ _ _ _ (by rfl) (by first | exact .inl rfl | exact .inr rfl | assumption) S.nd rfl (Or.inl rfl) (@cU _ _ _ _ (@aa _ _ _ _ _ (by rfl) (bE (eB (K:=K)) rfl T.d4 boot_isinstance (@aa _ _ _ _ _ (by rfl) (pv 0) (@aa _ _ _ _ _ (by rfl) (ix (v:=.ref _) rfl T.zU rfl) ae))) (@aa _ _ _ _ _ (by rfl) (bE (eB (K:=K)) rfl T.d4 boot_isinstance (@aa _ _ _ _ _ (by rfl) (pv 0) (@aa _ _ _ _ _ (by rfl) (ix (v:=.ref _) rfl T.zX rfl) ae))) (@aa _ _ _ _ _ (by rfl) (bE (eB (K:=K)) rfl T.d4 boot_isinstance (@aa _ _ _ _ _ (by rfl) (pv 0) (@aa _ _ _ _ _ (by rfl) (ix (v:=.ref _) rfl T.zV rfl) ae))) ae)))))
   (@aL _ _ _ _ _ (@dy _ _ 1 _ _ _ _ (by rfl) (by first | exact .inl rfl | exact .inr rfl | assumption) S.nd rfl (Or.inl rfl) (@aH _ _ _ _ _ _ _ _ fW (pv 1) (@cU _ _ _ _ (@aa _ _ _ _ _ (by rfl) (bE (eB (K:=K)) rfl T.d4 boot_isinstance (@aa _ _ _ _ _ (by rfl) (pv 0) (@aa _ _ _ _ _ (by rfl) (ix (v:=.ref _) rfl T.zS rfl) ae))) (@aa _ _ _ _ _ (by rfl) (bE (eB (K:=K)) rfl T.d4 boot_isinstance (@aa _ _ _ _ _ (by rfl) (pv 0) (@aa _ _ _ _ _ (by rfl) (ix (v:=.ref _) rfl T.rJ rfl) ae))) (@aa _ _ _ _ _ (by rfl) (bE (eB (K:=K)) rfl T.d4 boot_isinstance (@aa _ _ _ _ _ (by rfl) (pv 0) (@aa _ _ _ _ _ (by rfl) (ix (v:=.ref _) rfl T.zW rfl) ae))) ae))))))
   (@aL _ _ _ _ _ (@dy _ _ 1 _ _ _ _ (by rfl) (by first | exact .inl rfl | exact .inr rfl | assumption) S.nd rfl (Or.inl rfl) (@aH _ _ _ _ _ _ _ _ fW (pv 1) (@cU _ _ _ _ (@aa _ _ _ _ _ (by rfl) (bE (eB (K:=K)) rfl T.d4 boot_isinstance (@aa _ _ _ _ _ (by rfl) (pv 0) (@aa _ _ _ _ _ (by rfl) (ix (v:=.ref _) rfl T.zR rfl) ae))) (@aa _ _ _ _ _ (by rfl) (bE (eB (K:=K)) rfl T.d4 boot_isinstance (@aa _ _ _ _ _ (by rfl) (pv 0) (@aa _ _ _ _ _ (by rfl) (ix (v:=.ref _) rfl T.zY rfl) ae))) ae)))))
   (@aL _ _ _ _ _ (@bV _ _ _ _ _ _ _ _ (PW.pt (@pw_or _ _ _ _ _ _ _ (@pV _ _ _ _ _ _ _ _ nK (lL lC PySem.F.slot_list_count PySem.F.type_list_count FF (pv 1) (@aa _ _ _ _ _ (by rfl) fR ae)) af (lJ _)) (@pw_or1 _ _ _ _ (@gY _ _ _ _ (fS (bE (eB (K:=K)) rfl T.d4 boot_isinstance (@aa _ _ _ _ _ (by rfl) (pv 0) (@aa _ _ _ _ _ (by rfl) (jK (v:=.ty "ValueError") rfl T.zZ Dr rfl) ae)))))))) (@aS _ _ _ (@bo _ _ _ _ aF)) bU)
   (@aS _ _ _ (@bo _ _ _ _ (@tm _ _ _ _ _ _ _ nV (@cU _ _ _ _ (@aa _ _ _ _ _ (by rfl) aF (@aa _ _ _ _ _ (by rfl) aF (@aa _ _ _ _ _ (by rfl) aF (@aa _ _ _ _ _ (by rfl) aF (@aa _ _ _ _ _ (by rfl) aF (@aa _ _ _ _ _ (by rfl) aF (@aa _ _ _ _ _ (by rfl) aF (@aa _ _ _ _ _ (by rfl) aF ae))))))))) (lL lC PySem.F.slot_list_index PySem.F.type_list_index FH (pv 1) (@aa _ _ _ _ _ (by rfl) fR ae)) (fun _ _=>rfl)))))))),?_⟩
 have y0:=ty (aq.refl H);refine ar fun _ hR=>bG ⟨_,rfl,_,_,_,_,rfl,rfl,y0,T.Ag,_,rfl,_,_,_,_,rfl,rfl,y0,T.Aj,_,rfl,_,_,_,_,rfl,rfl,y0,T.Ah,by show 3≤sizeLine;decide,fun l1 n1=>hR _ _ ?_⟩
 have s1:aq H (upd H l1 (.lst [.bl false,.bl false,.bl false])):=ax n1;have e1:upd H l1 (.lst [.bl false,.bl false,.bl false]) l1=some (.lst [.bl false,.bl false,.bl false]):=aw;generalize upd H l1 (.lst [.bl false,.bl false,.bl false])=H1 at s1 e1 ⊢;have y1:=ty s1;refine ar fun _ hR=>bG ⟨_,rfl,_,rfl,_,_,_,_,rfl,rfl,y1,T.Af,_,rfl,_,_,_,_,rfl,rfl,y1,T.Ad,_,rfl,_,_,_,_,rfl,rfl,y1,T.Ai,by show 3≤sizeLine;decide,fun l2 n2=>?_⟩
 have s2:aq H1 (upd H1 l2 (.lst [.bl false,.bl true,.bl false])):=ax n2;have e2:upd H1 l2 (.lst [.bl false,.bl true,.bl false]) l2=some (.lst [.bl false,.bl true,.bl false]):=aw;generalize upd H1 l2 (.lst [.bl false,.bl true,.bl false])=H2 at s2 e2 ⊢;refine ⟨l1,l2,_,_,rfl,rfl,s2 _ _ e1,e2,by show 6≤sizeLine;decide,fun l3 n3=>hR _ _ ?_⟩
 have s3:aq H2 (upd H2 l3 (.lst ([.bl false,.bl false,.bl false]++[.bl false,.bl true,.bl false]))):=ax n3;have e3:upd H2 l3 (.lst ([.bl false,.bl false,.bl false]++[.bl false,.bl true,.bl false])) l3=some (.lst ([.bl false,.bl false,.bl false]++[.bl false,.bl true,.bl false])):=aw;generalize upd H2 l3 (.lst ([.bl false,.bl false,.bl false]++[.bl false,.bl true,.bl false]))=H3 at s3 e3 ⊢;have AA:=s1.trans (s2.trans s3);have y3:=ty AA;refine ar fun _ hR=>bG ⟨_,rfl,_,rfl,_,_,_,_,rfl,rfl,y3,T.Ae,_,rfl,_,_,_,_,rfl,rfl,y3,T.Ak,by show 2≤sizeLine;decide,fun l4 n4=>?_⟩
 have s4:aq H3 (upd H3 l4 (.lst [.bl false,.bl false])):=ax n4;have e4:upd H3 l4 (.lst [.bl false,.bl false]) l4=some (.lst [.bl false,.bl false]):=aw;generalize upd H3 l4 (.lst [.bl false,.bl false])=H4 at s4 e4 ⊢;refine ⟨l3,l4,_,_,rfl,rfl,s4 _ _ e3,e4,by show 8≤sizeLine;decide,fun l5 n5=>hR _ _ ?_⟩
 have s5:aq H4 (upd H4 l5 (.lst (([.bl false,.bl false,.bl false]++[.bl false,.bl true,.bl false])++[.bl false,.bl false]))):=ax n5;have e5:upd H4 l5 (.lst (([.bl false,.bl false,.bl false]++[.bl false,.bl true,.bl false])++[.bl false,.bl false])) l5=some (.lst (([false,false,false,false,true,false,false,false]:List Bool).map V.bl)):=aw;generalize upd H4 l5 (.lst (([.bl false,.bl false,.bl false]++[.bl false,.bl true,.bl false])++[.bl false,.bl false]))=H5 at s5 e5 ⊢;have jv:=AA.trans (s4.trans s5);have y5:=ty jv;refine ar fun _ hR=>⟨_,rfl,.inl ⟨rfl,_,.of e5⟩,l5,[false,false,false,false,true,false,false,false],rfl,rfl,e5,rfl,false,by decide +kernel,ay ⟨_,rfl,_,_,_,_,rfl,rfl,y5,T.Ac,true,rfl,ay (hR _ _ ?_)⟩⟩
 refine ⟨by show 8≤sizeLine;decide,fun l6 n6=>?_⟩
 have s6:aq H5 (upd H5 l6 (.lst [.str (Str.ofString "fit"),.str (Str.ofString "link"),.str (Str.ofString "order"),.str (Str.ofString "over"),.str (Str.ofString "shape"),.str (Str.ofString "size"),.str (Str.ofString "world"),.str (Str.ofString "tied")])):=ax n6;have e6:upd H5 l6 (.lst [.str (Str.ofString "fit"),.str (Str.ofString "link"),.str (Str.ofString "order"),.str (Str.ofString "over"),.str (Str.ofString "shape"),.str (Str.ofString "size"),.str (Str.ofString "world"),.str (Str.ofString "tied")]) l6=some (.lst [sV "fit",sV "link",sV "order",sV "over",sV "shape",sV "size",sV "world",sV "tied"]):=aw;generalize upd H5 l6 (.lst [.str (Str.ofString "fit"),.str (Str.ofString "link"),.str (Str.ofString "order"),.str (Str.ofString "over"),.str (Str.ofString "shape"),.str (Str.ofString "size"),.str (Str.ofString "world"),.str (Str.ofString "tied")])=H6 at s6 e6 ⊢;refine ⟨_,rfl,.inl ⟨rfl,_,.of (s6 _ _ e5)⟩,l5,[false,false,false,false,true,false,false,false],4,rfl,rfl,s6 _ _ e5,rfl,fun m hm=>?_,by decide,l6,_,_,sV "shape",rfl,rfl,.of e6,rfl,kk _ (jv.trans s6)⟩
 match m,hm with
 | 0,_=>rfl
 | 1,_=>rfl
 | 2,_=>rfl
 | 3,_=>rfl
theorem Gw:cC ["told","way","caught","e"] ["told"] (bA rF):=dr
theorem Gx(T:Txt K mg t):bP P w K mg base cG 7 t.kI t.mJ ["told"] FR:=by
 have S:=Gw;have oU:=vh (P:=P) (w:=w) (base:=base) T;have Gy:=Gp (P:=P) (w:=w) (base:=base) T;refine T.m4.ok S (fun vs H0 Q E h=>?_) (fun bp A outer s H0 vs Q E hr h=>?_)
 ·obtain ⟨td,rfl,_⟩:=h
  rfl
 ·obtain ⟨td,rfl,bad,k0⟩:=h
  refine ⟨_,(@aL _ _ _ _ _ (iz jI rfl (gu rfl T.d5 (@aa _ _ _ _ _ (by rfl) af ae)) (fA (i:=1) S.nd rfl (Or.inl rfl))
    (@aL _ _ _ _ _ (putL 2 S.nd Be)
   (@aL _ _ _ _ _ (C6 rfl rfl S.nd (i:=3) rfl rfl (FU (cq bI (pv 1) af) (ya (x_ oU (hr.mono (by decide)) rfl T.mU T.h_.kp T.mT .nil (@aa _ _ _ _ _ (by rfl) (pv 0) ae))) (ya (x_ Gy (hr.mono (by decide)) rfl T.zF T.mV.kp T.zE .nil (@aa _ _ _ _ _ (by rfl) (pv 0) ae))))
    (fun ea=>(@aS _ _ _ (putL 2 S.nd (pv 3)))) rfl T.zT T.Ab sj.hasBase)
   (@aS _ _ _ (@bV _ _ _ _ _ _ _ _ (cq nK (cu (Gu T) hr T.zL T.mY.kp T.zK bx (@aa _ _ _ _ _ (by rfl) (pv 2) ae)) aF) (@aS _ _ _ (@bo _ _ _ _ fR)) bU)))))
   (@aS _ _ _ (@bo _ _ _ _ fR))),?_⟩
  refine ar fun _ hR=>⟨2,rfl,by decide,by decide,?_⟩
  refine jb (fun i σ Hc=>∃(v1 v2 v3:Option V),σ=[some (.ref td),v1,v2,v3]∧aq H0 Hc) ⟨_,_,_,rfl,aq.refl _⟩ ?_ ?_
  ·rintro i σ Hc hi ⟨v1,v2,v3,rfl,sc⟩
   dsimp only [cZ];refine ar fun _ kU=>bG (kU _ _ ?_);have bc:=bad.mono sc;refine ar fun R eO=>?_;have hand:∀(H1:Hp) (ea:Addr),aq Hc H1→H1 ea=none→R [some (.ref td),some (.int (0+(i:Int))),some (.ref ea),none] (upd H1 ea (gA ea t.aZ)):=fun H1 ea s1 ne=>by
    refine eO _ _ ?_;have sx:aq H1 (upd H1 ea (gA ea t.aZ)):=ax ne;have ex:upd H1 ea (gA ea t.aZ) ea=some (gA ea t.aZ):=aw;generalize upd H1 ea (gA ea t.aZ)=H2 at sx ex ⊢;refine ⟨_,rfl,ea,rfl,ex,fun H3 s3=>⟨rfl,false,by decide +kernel,ay ?_⟩⟩
    exact ⟨_,_,_,rfl,sc.trans (s1.trans (sx.trans s3))⟩
   refine ⟨_,rfl,rfl,_,rfl,df (fun hb=>?_) (fun hb=>?_)⟩;·exact ⟨_,rfl,td,rfl,.inl ⟨bc,fun H1 s1=>⟨_,rfl,⟨T.oS,T.ve⟩,fun ea vi=>⟨_,rfl,hand H1 ea s1 vi⟩⟩⟩⟩
   ·exact ⟨_,rfl,td,rfl,bc,fun H1 s1=>⟨_,rfl,⟨T.oS,T.ve⟩,fun ea vi=>⟨_,rfl,hand H1 ea s1 vi⟩⟩⟩
  ·rintro σ Hc ⟨v1,v2,v3,rfl,sc⟩
   refine hR _ _ ?_;exact k0 _ sc
theorem Gz:cC ["script","k"] ["script","k"] (bA rz):=dr
theorem GB(T:Txt K mg t):bP P w K mg base cG 1 t.kB t.mD ["script","k"] (Ft K):=by
 have S:=Gz;refine T.mW.fF S (fun _ _ _ _ H _ _ _ hr h=>?_);obtain ⟨a,ns,k,rfl,hS,kk⟩:=h
 refine ⟨_,(@aL _ _ _ _ _ (@bV _ _ _ _ _ _ _ _ (cq xh (pv 1) (bE dW rfl T.dO dR (@aa _ _ _ _ _ (by rfl) (pv 0) ae))) (@aS _ _ _ (@bo _ _ _ _ (aU nV (pv 0) (pv 1)))) bU)
  (@aS _ _ _ (@bo _ _ _ _ af))),?_⟩
 refine ar fun _ hR=>⟨_,rfl,_,rfl,a,_,rfl,.inl hS,_,_,rfl,rfl,_,rfl,df (fun hb=>?_) (fun hb=>hR _ _ (kk 0))⟩;have hb:=dE hb;rw [bz] at hb;have hk:k<ns.length:=by omega
 exact ⟨_,rfl,_,rfl,a,_,_,_,rfl,rfl,hS,nS (by rw [dQ,eR hk];rfl),kk _⟩
theorem GC:cC ["tape","many","found"] ["tape","many"] (bA rB):=dr
theorem GD(T:Txt K mg t):bP P w K mg base cG 1 t.kD t.mF ["tape","many"] Fv:=by
 have S:=GC;refine T.gP.fF S (fun _ _ _ _ H _ _ _ hr h=>?_);obtain ⟨Tp,m,rfl,⟨x,e⟩,m1,m2,kk⟩:=h
 refine ⟨_,(@aL _ _ _ _ _ (putL 2 S.nd (@aH _ _ _ _ _ _ _ _ lI (aU nV (pv 0) af) (pv 1)))
  (@aL _ _ _ _ _ (@By _ _ _ _ _ _ (@aH _ _ _ _ _ _ _ _ xa (aU nV (pv 0) af) (pv 1)) (Bx (pv 0) af set_list) (by rfl) (by rfl) (by rfl))
  (@aS _ _ _ (@bo _ _ _ _ (pv 2))))),?_⟩
 have p0:(0:Int)<(m:Int):=by omega
 refine ar fun _ hR=>bG ⟨_,rfl,Tp,_,_,_,rfl,rfl,.of e,rfl,_,rfl,_,_,rfl,rfl,p0,hR _ _ ?_⟩;refine ar fun _ hR=>⟨_,rfl,Tp,_,_,_,rfl,rfl,.of e,rfl,_,rfl,_,_,rfl,rfl,⟨p0,by omega⟩,_,rfl,Tp,_,0,0,rfl,rfl,e,rfl,hR _ _ ?_⟩
 have d0:=Int.emod_nonneg x (show (m:Int)≠0 by omega)
 have d1:=Int.emod_lt_of_pos x p0;obtain ⟨d,ed⟩:=si d0;refine ⟨_,rfl,?_⟩;dsimp only;rw [ed];exact kk d _ (by omega) bR.upd ⟨_,aw⟩
theorem GF:cC ["script","k","cell","p","number","last","turn"] ["script","k"] (bA rA):=dr
theorem GG(T:Txt K mg t):bP P w K mg base cG 2 t.kC t.mE ["script","k"] (Fu K):=by
 have S:=GF;refine T.mX.fF S (fun _ _ _ _ H _ _ _ hr h=>?_);obtain ⟨a,ns,k,rfl,hS,k1,kk⟩:=h
 refine ⟨_,(@aL _ _ _ _ _ (putL 2 S.nd (cu (GB T) hr T.zH T.mW.kp T.zG bx (@aa _ _ _ _ _ (by rfl) (pv 0) (@aa _ _ _ _ _ (by rfl) (pv 1) ae))))
  (@aL _ _ _ _ _ (@bV _ _ _ _ _ _ _ _ (cq bI (@aH _ _ _ _ _ _ _ _ lI (pv 2) af) af) (@aS _ _ _ (@bo _ _ _ _ (@cU _ _ _ _ (@aa _ _ _ _ _ (by rfl) (@aH _ _ _ _ _ _ _ _ xa (pv 2) af) ae)))) bU)
  (@aL _ _ _ _ _ (putL 3 S.nd af)
  (@aL _ _ _ _ _ (putL 4 S.nd af)
  (@aL _ _ _ _ _ (putL 5 S.nd (@aH _ _ _ _ _ _ _ _ lI (@aH _ _ _ _ _ _ _ _ cO (@aH _ _ _ _ _ _ _ _ cO (@aH _ _ _ _ _ _ _ _ gw (@aH _ _ _ _ _ _ _ _ lI (pv 2) (pv 3)) af) (@aH _ _ _ _ _ _ _ _ gw af (pv 1))) af) (pv 3)))
  (@aL _ _ _ _ _ (iz jI rfl (gu rfl T.d5 (@aa _ _ _ _ _ (by rfl) af ae)) (fA (i:=6) S.nd rfl (Or.inl rfl))
   (@aL _ _ _ _ _ (putL 4 S.nd (@aH _ _ _ _ _ _ _ _ cO (@aH _ _ _ _ _ _ _ _ gw (pv 4) (pv 3)) (pv 5)))
  (@aS _ _ _ (putL 5 S.nd (@aH _ _ _ _ _ _ _ _ lI (@aH _ _ _ _ _ _ _ _ cO (@aH _ _ _ _ _ _ _ _ cO (@aH _ _ _ _ _ _ _ _ gw (pv 5) (pv 5)) (@aH _ _ _ _ _ _ _ _ gw af (pv 1))) (pv 6)) (pv 3))))))
  (@aS _ _ _ (@bo _ _ _ _ (@cU _ _ _ _ (@aa _ _ _ _ _ (by rfl) (pv 4) ae)))))))))),?_⟩
 have p2:(0:Int)<2:=by decide
 have pp:(0:Int)<2305843009213693951:=by decide
 refine ar fun _ hR=>bG ⟨_,rfl,_,rfl,a,ns,k,rfl,hS,fun z=>hR _ _ ?_⟩;refine ar fun _ hR=>⟨_,rfl,_,_,rfl,rfl,p2,rfl,_,rfl,df (fun hb=>?_) (fun hb=>hR _ _ ?_)⟩
 ·refine ⟨_,rfl,_,_,rfl,rfl,⟨p2,by decide⟩,by show 1≤sizeLine;decide,fun Tp oV=>?_⟩
  exact kk Tp _ (ax oV) oV ⟨_,aw⟩
 ·refine ar fun _ hR=>bG (hR _ _ ?_)
  refine ar fun _ hR=>bG (hR _ _ ?_);refine ar fun _ hR=>bG ⟨_,rfl,_,rfl,_,_,rfl,rfl,pp,_,_,rfl,rfl,.inr ⟨by decide,by decide⟩,_,rfl,_,_,rfl,rfl,.inl ⟨by decide,by decide⟩,_,_,rfl,rfl,_,_,rfl,rfl,_,rfl,_,_,rfl,rfl,pp,hR _ _ ?_⟩
  have l0:=Int.emod_nonneg (z % 2305843009213693951*48271+69621*(k:Int)+11) (show (2305843009213693951:Int)≠0 by decide)
  have l1:=Int.emod_lt_of_pos (z % 2305843009213693951*48271+69621*(k:Int)+11) pp;dsimp only;generalize (z % 2305843009213693951*48271+69621*(k:Int)+11) % 2305843009213693951=la at l0 l1 ⊢;refine ar fun _ hR=>⟨7,rfl,by decide,by decide,?_⟩
  refine jb (fun i σ Hc=>Hc=H∧∃(nu la:Int) (v6:Option V),σ=[some (.ref a),some (.int (k:Int)),some (.int z),some (.int 2305843009213693951),some (.int nu),some (.int la),v6]∧0≤la∧la<2305843009213693951) ⟨rfl,_,_,_,rfl,l0,l1⟩ ?_ ?_
  ·rintro i σ Hc hi ⟨rfl,nu,la,v6,rfl,l0,l1⟩
   dsimp only [cZ];refine ar fun _ hR=>bG ⟨_,rfl,_,rfl,_,_,rfl,rfl,.inr ⟨by decide,by decide⟩,_,rfl,_,_,rfl,rfl,hR _ _ ?_⟩
   refine ⟨_,rfl,_,rfl,_,_,rfl,rfl,.inl ⟨by omega,by omega⟩,_,rfl,_,_,rfl,rfl,.inl ⟨by decide,by decide⟩,_,_,rfl,rfl,_,rfl,_,_,rfl,rfl,_,rfl,_,_,rfl,rfl,pp,?_⟩
   refine ⟨rfl,_,_,_,rfl,?_,?_⟩;·exact Int.emod_nonneg _ (by decide)
   ·exact Int.emod_lt_of_pos _ pp
  ·rintro σ Hc ⟨rfl,nu,la,v6,rfl,_,_⟩
   refine hR _ _ ?_;refine ⟨_,rfl,by show 1≤sizeLine;decide,fun Tp oV=>?_⟩
   exact kk Tp _ (ax oV) oV ⟨_,aw⟩
theorem GH:cC ["tape","size","aheads","some","base","at","wrong"] ["tape"] (bA rE):=dr
theorem GI(T:Txt K mg t):bP P w K mg base cG 2 t.kH t.mI ["tape"] FQ:=by
 have S:=GH;have m7:=GD (P:=P) (w:=w) (base:=base) T;refine T.mZ.fF S (fun _ _ _ _ H _ Q _ hr h=>?_);obtain ⟨Tp,rfl,tc,kk⟩:=h
 refine ⟨_,(@aL _ _ _ _ _ (@dy _ _ 1 _ _ _ _ (by rfl) (by first | exact .inl rfl | exact .inr rfl | assumption) S.nd rfl (Or.inl rfl) (@aH _ _ _ _ _ _ _ _ cO af (et m7 (hr.mono (by decide)) rfl T.kP T.gP.kp T.kO .nil bx (@aa _ _ _ _ _ (by rfl) (pv 0) (@aa _ _ _ _ _ (by rfl) af ae)))))
   (@aL _ _ _ _ _ (@dy _ _ 2 _ _ _ _ (by rfl) (by first | exact .inl rfl | exact .inr rfl | assumption) S.nd rfl (Or.inl rfl) (lK qd rfl T.iU boot_tuple (@aa _ _ _ _ _ (by rfl) (lR (N:=["k","tape"]) (ρ:=(fun σ=>[σ[0]?.join])) ⟨rfl,rfl,by decide +kernel,by decide +kernel,(List.forall_mem_cons.mpr ⟨rfl,(List.forall_mem_nil _)⟩),tT (by rfl),rfl,by decide +kernel,rfl,(fun σ j v h=>match j,h with | 0,h=>⟨0,_,rfl,rfl,join_some h,Or.inr (Or.inl rfl),.inl rfl,.inl rfl⟩ | j+1,h=>by cases h),(fun _ _=>rfl)⟩ rfl (gu rfl T.d5 (@aa _ _ _ _ _ (by rfl) (et m7 (hr.mono (by decide)) rfl T.kP T.gP.kp T.kO .nil bx (@aa _ _ _ _ _ (by rfl) (pv 0) (@aa _ _ _ _ _ (by rfl) af ae))) ae)) (fun _ _ _=>.nil) (fun _ _ _=>(et m7 (hr.mono (by decide)) rfl T.kP T.gP.kp T.kO .nil bx (@aa _ _ _ _ _ (by rfl) (pv 1) (@aa _ _ _ _ _ (by rfl) (@aH _ _ _ _ _ _ _ _ cO (pv 0) af) ae))))) ae)))
   (@aL _ _ _ _ _ (@dy _ _ 3 _ _ _ _ (by rfl) (by first | exact .inl rfl | exact .inr rfl | assumption) S.nd rfl (Or.inl rfl) (@cU _ _ _ _ (@aa _ _ _ _ _ (by rfl) (@aK _ _ _ _ _ (@aa _ _ _ _ _ (by rfl) aF (@aa _ _ _ _ _ (by rfl) (pv 1) (@aa _ _ _ _ _ (by rfl) af ae)))) (@aa _ _ _ _ _ (by rfl) (@aK _ _ _ _ _ (@aa _ _ _ _ _ (by rfl) aF (@aa _ _ _ _ _ (by rfl) (pv 1) ae))) (@aa _ _ _ _ _ (by rfl) (@aK _ _ _ _ _ (@aa _ _ _ _ _ (by rfl) aF (@aa _ _ _ _ _ (by rfl) (pv 1) (@aa _ _ _ _ _ (by rfl) af ae)))) (@aa _ _ _ _ _ (by rfl) (@aK _ _ _ _ _ (@aa _ _ _ _ _ (by rfl) aF (@aa _ _ _ _ _ (by rfl) (pv 1) ae))) (@aa _ _ _ _ _ (by rfl) (@aK _ _ _ _ _ (@aa _ _ _ _ _ (by rfl) aF (@aa _ _ _ _ _ (by rfl) (pv 1) (@aa _ _ _ _ _ (by rfl) (pv 1) ae)))) ae)))))))
   (@aL _ _ _ _ _ (@dy _ _ 3 _ _ _ _ (by rfl) (by first | exact .inl rfl | exact .inr rfl | assumption) S.nd rfl (Or.inl rfl) (@aH _ _ _ _ _ _ _ _ fW (pv 3) (@cU _ _ _ _ (@aa _ _ _ _ _ (by rfl) (@aK _ _ _ _ _ (@aa _ _ _ _ _ (by rfl) aF (@aa _ _ _ _ _ (by rfl) (pv 1) (@aa _ _ _ _ _ (by rfl) (@nI _ _ _ _ _ _ nJ af) ae)))) (@aa _ _ _ _ _ (by rfl) (@aK _ _ _ _ _ (@aa _ _ _ _ _ (by rfl) aF (@aa _ _ _ _ _ (by rfl) af (@aa _ _ _ _ _ (by rfl) af ae)))) (@aa _ _ _ _ _ (by rfl) (@aK _ _ _ _ _ (@aa _ _ _ _ _ (by rfl) aF (@aa _ _ _ _ _ (by rfl) af (@aa _ _ _ _ _ (by rfl) af ae)))) (@aa _ _ _ _ _ (by rfl) (@aK _ _ _ _ _ (@aa _ _ _ _ _ (by rfl) aF (@aa _ _ _ _ _ (by rfl) (pv 1) (@aa _ _ _ _ _ (by rfl) (pv 1) ae)))) (@aa _ _ _ _ _ (by rfl) (@aK _ _ _ _ _ (@aa _ _ _ _ _ (by rfl) aF (@aa _ _ _ _ _ (by rfl) af (@aa _ _ _ _ _ (by rfl) af ae)))) ae))))))))
   (@aL _ _ _ _ _ (@dy _ _ 3 _ _ _ _ (by rfl) (by first | exact .inl rfl | exact .inr rfl | assumption) S.nd rfl (Or.inl rfl) (@aH _ _ _ _ _ _ _ _ fW (pv 3) (@cU _ _ _ _ (@aa _ _ _ _ _ (by rfl) (@aK _ _ _ _ _ (@aa _ _ _ _ _ (by rfl) aF (@aa _ _ _ _ _ (by rfl) af (@aa _ _ _ _ _ (by rfl) af ae)))) (@aa _ _ _ _ _ (by rfl) (@aK _ _ _ _ _ (@aa _ _ _ _ _ (by rfl) aF (@aa _ _ _ _ _ (by rfl) (pv 1) ae))) (@aa _ _ _ _ _ (by rfl) (@aK _ _ _ _ _ (@aa _ _ _ _ _ (by rfl) aF (@aa _ _ _ _ _ (by rfl) af ae))) (@aa _ _ _ _ _ (by rfl) (@aK _ _ _ _ _ (@aa _ _ _ _ _ (by rfl) aF (@aa _ _ _ _ _ (by rfl) af ae))) (@aa _ _ _ _ _ (by rfl) (@aK _ _ _ _ _ (@aa _ _ _ _ _ (by rfl) aF (@aa _ _ _ _ _ (by rfl) af ae))) (@aa _ _ _ _ _ (by rfl) (@aK _ _ _ _ _ (@aa _ _ _ _ _ (by rfl) aF (@aa _ _ _ _ _ (by rfl) (@nI _ _ _ _ _ _ nJ af) ae))) (@aa _ _ _ _ _ (by rfl) (@aK _ _ _ _ _ (@aa _ _ _ _ _ (by rfl) aF (@aa _ _ _ _ _ (by rfl) af ae))) ae))))))))))
   (@aL _ _ _ _ _ (@dy _ _ 3 _ _ _ _ (by rfl) (by first | exact .inl rfl | exact .inr rfl | assumption) S.nd rfl (Or.inl rfl) (@aH _ _ _ _ _ _ _ _ fW (pv 3) (@cU _ _ _ _ (@aa _ _ _ _ _ (by rfl) (@aK _ _ _ _ _ (@aa _ _ _ _ _ (by rfl) aF ae)) (@aa _ _ _ _ _ (by rfl) (@aK _ _ _ _ _ (@aa _ _ _ _ _ (by rfl) aF (@aa _ _ _ _ _ (by rfl) af ae))) (@aa _ _ _ _ _ (by rfl) (@aK _ _ _ _ _ (@aa _ _ _ _ _ (by rfl) aF (@aa _ _ _ _ _ (by rfl) af ae))) (@aa _ _ _ _ _ (by rfl) (@aK _ _ _ _ _ (@aa _ _ _ _ _ (by rfl) aF (@aa _ _ _ _ _ (by rfl) (@nI _ _ _ _ _ _ nJ af) ae))) (@aa _ _ _ _ _ (by rfl) (@aK _ _ _ _ _ (@aa _ _ _ _ _ (by rfl) aF (@aa _ _ _ _ _ (by rfl) af (@aa _ _ _ _ _ (by rfl) af ae)))) (@aa _ _ _ _ _ (by rfl) (@aK _ _ _ _ _ (@aa _ _ _ _ _ (by rfl) aF ae)) ae)))))))))
   (@aL _ _ _ _ _ (@dy _ _ 3 _ _ _ _ (by rfl) (by first | exact .inl rfl | exact .inr rfl | assumption) S.nd rfl (Or.inl rfl) (@aH _ _ _ _ _ _ _ _ fW (pv 3) (@cU _ _ _ _ (@aa _ _ _ _ _ (by rfl) (@aK _ _ _ _ _ (@aa _ _ _ _ _ (by rfl) aF ae)) (@aa _ _ _ _ _ (by rfl) (@aK _ _ _ _ _ (@aa _ _ _ _ _ (by rfl) aF (@aa _ _ _ _ _ (by rfl) af ae))) (@aa _ _ _ _ _ (by rfl) (@aK _ _ _ _ _ (@aa _ _ _ _ _ (by rfl) aF (@aa _ _ _ _ _ (by rfl) af (@aa _ _ _ _ _ (by rfl) af ae)))) (@aa _ _ _ _ _ (by rfl) (@aK _ _ _ _ _ (@aa _ _ _ _ _ (by rfl) aF (@aa _ _ _ _ _ (by rfl) (@aH _ _ _ _ _ _ _ _ qL (pv 2) (@aK _ _ _ _ _ (@aa _ _ _ _ _ (by rfl) (@aH _ _ _ _ _ _ _ _ cO (bE dW rfl T.dO dR (@aa _ _ _ _ _ (by rfl) (pv 2) ae)) af) ae))) ae))) (@aa _ _ _ _ _ (by rfl) (@aK _ _ _ _ _ (@aa _ _ _ _ _ (by rfl) aF (@aa _ _ _ _ _ (by rfl) (@aK _ _ _ _ _ (@aa _ _ _ _ _ (by rfl) af ae)) ae))) ae))))))))
   (@aL _ _ _ _ _ (@dy _ _ 3 _ _ _ _ (by rfl) (by first | exact .inl rfl | exact .inr rfl | assumption) S.nd rfl (Or.inl rfl) (@aH _ _ _ _ _ _ _ _ fW (pv 3) (@cU _ _ _ _ (@aa _ _ _ _ _ (by rfl) (@aK _ _ _ _ _ (@aa _ _ _ _ _ (by rfl) aF (@aa _ _ _ _ _ (by rfl) (@aH _ _ _ _ _ _ _ _ qL (pv 2) (@aK _ _ _ _ _ (@aa _ _ _ _ _ (by rfl) (@nI _ _ _ _ _ _ nJ af) ae))) ae))) (@aa _ _ _ _ _ (by rfl) (@aK _ _ _ _ _ (@aa _ _ _ _ _ (by rfl) aF (@aa _ _ _ _ _ (by rfl) (@aH _ _ _ _ _ _ _ _ uX (@aK _ _ _ _ _ (@aa _ _ _ _ _ (by rfl) af ae)) af) ae))) (@aa _ _ _ _ _ (by rfl) (@aK _ _ _ _ _ (@aa _ _ _ _ _ (by rfl) aF (@aa _ _ _ _ _ (by rfl) (@aH _ _ _ _ _ _ _ _ sR af af) ae))) (@aa _ _ _ _ _ (by rfl) (@aK _ _ _ _ _ (@aa _ _ _ _ _ (by rfl) aF (@aa _ _ _ _ _ (by rfl) (pv 1) (@aa _ _ _ _ _ (by rfl) af (@aa _ _ _ _ _ (by rfl) af ae))))) ae)))))))
   (@aL _ _ _ _ _ (@dy _ _ 3 _ _ _ _ (by rfl) (by first | exact .inl rfl | exact .inr rfl | assumption) S.nd rfl (Or.inl rfl) (@aH _ _ _ _ _ _ _ _ fW (pv 3) (@cU _ _ _ _ (@aa _ _ _ _ _ (by rfl) (@aK _ _ _ _ _ (@aa _ _ _ _ _ (by rfl) aF (@aa _ _ _ _ _ (by rfl) (pv 1) (@aa _ _ _ _ _ (by rfl) af (@aa _ _ _ _ _ (by rfl) af ae))))) (@aa _ _ _ _ _ (by rfl) (@aK _ _ _ _ _ (@aa _ _ _ _ _ (by rfl) aF (@aa _ _ _ _ _ (by rfl) (@aK _ _ _ _ _ (@aa _ _ _ _ _ (by rfl) af ae)) ae))) (@aa _ _ _ _ _ (by rfl) (@aK _ _ _ _ _ (@aa _ _ _ _ _ (by rfl) aF (@aa _ _ _ _ _ (by rfl) (@aK _ _ _ _ _ (@aa _ _ _ _ _ (by rfl) af (@aa _ _ _ _ _ (by rfl) af ae))) ae))) ae))))))
   (@aL _ _ _ _ _ (@dy _ _ 4 _ _ _ _ (by rfl) (by first | exact .inl rfl | exact .inr rfl | assumption) S.nd rfl (Or.inl rfl) (@aH _ _ _ _ _ _ _ _ qL (pv 2) (@aK _ _ _ _ _ (@aa _ _ _ _ _ (by rfl) af (@aa _ _ _ _ _ (by rfl) af ae)))))
   (@aL _ _ _ _ _ (@dy _ _ 5 _ _ _ _ (by rfl) (by first | exact .inl rfl | exact .inr rfl | assumption) S.nd rfl (Or.inl rfl) (et m7 (hr.mono (by decide)) rfl T.kP T.gP.kp T.kO .nil bx (@aa _ _ _ _ _ (by rfl) (pv 0) (@aa _ _ _ _ _ (by rfl) (@aH _ _ _ _ _ _ _ _ fC (bE dW rfl T.dO dR (@aa _ _ _ _ _ (by rfl) (pv 4) ae)) af) ae))))
   (@aL _ _ _ _ _ (iz jI rfl (wX (@cU _ _ _ _ (@aa _ _ _ _ _ (by rfl) (@aH _ _ _ _ _ _ _ _ cO (@aH _ _ _ _ _ _ _ _ cO (pv 5) af) (et m7 (hr.mono (by decide)) rfl T.kP T.gP.kp T.kO .nil bx (@aa _ _ _ _ _ (by rfl) (pv 0) (@aa _ _ _ _ _ (by rfl) (@aH _ _ _ _ _ _ _ _ fC (@aH _ _ _ _ _ _ _ _ fC (bE dW rfl T.dO dR (@aa _ _ _ _ _ (by rfl) (pv 4) ae)) (pv 5)) af) ae)))) (@aa _ _ _ _ _ (by rfl) (@aH _ _ _ _ _ _ _ _ cO (pv 5) af) (@aa _ _ _ _ _ (by rfl) (@nI _ _ _ _ _ _ nJ af) ae))))) (fA (i:=6) S.nd rfl (Or.inl rfl))
    (@aS _ _ _ (pQ (lL lC PySem.F.slot_list_append PySem.F.type_list_append nX (pv 3) (@aa _ _ _ _ _ (by rfl) (@aK _ _ _ _ _ (@aa _ _ _ _ _ (by rfl) aF (@aa _ _ _ _ _ (by rfl) (@aH _ _ _ _ _ _ _ _ xJ (@aH _ _ _ _ _ _ _ _ qL (@xH _ _ _ _ _ _ _ _ _ _ zc (pv 4) xF (xG (pv 5))) (@aK _ _ _ _ _ (@aa _ _ _ _ _ (by rfl) (pv 6) ae))) (@xH _ _ _ _ _ _ _ _ _ _ zc (pv 4) (xG (@aH _ _ _ _ _ _ _ _ cO (pv 5) af)) xF)) ae))) ae)))))
   (@aL _ _ _ _ _ (@dy _ _ 3 _ _ _ _ (by rfl) (by first | exact .inl rfl | exact .inr rfl | assumption) S.nd rfl (Or.inl rfl) (@aH _ _ _ _ _ _ _ _ fW (pv 3) (@cU _ _ _ _ (@aa _ _ _ _ _ (by rfl) (@aK _ _ _ _ _ (@aa _ _ _ _ _ (by rfl) aF (@aa _ _ _ _ _ (by rfl) (@aH _ _ _ _ _ _ _ _ sR af af) ae))) (@aa _ _ _ _ _ (by rfl) (@aK _ _ _ _ _ (@aa _ _ _ _ _ (by rfl) aF (@aa _ _ _ _ _ (by rfl) (@aH _ _ _ _ _ _ _ _ sR af af) (@aa _ _ _ _ _ (by rfl) af ae)))) ae)))))
   (@aS _ _ _ (@bo _ _ _ _ (@tm _ _ _ _ _ _ _ nV (pv 3) (et m7 (hr.mono (by decide)) rfl T.kP T.gP.kp T.kO .nil bx (@aa _ _ _ _ _ (by rfl) (pv 0) (@aa _ _ _ _ _ (by rfl) (bE dW rfl T.dO dR (@aa _ _ _ _ _ (by rfl) (pv 3) ae)) ae))) (fun _ _=>rfl))))))))))))))))),?_⟩
 refine ar fun _ hR=>bG ⟨_,rfl,Tp,60,rfl,tc,by decide,by decide,fun e H1 J7 o1 t1=>⟨_,_,rfl,rfl,hR _ _ ?_⟩⟩
 have oW:(1:Int)+(e:Int)=((e+1:Nat):Int):=by omega
 dsimp only;rw [oW];have z1:1≤e+1:=by omega
 have GJ:e+1≤60:=by omega
 generalize e+1=n at z1 GJ ⊢;refine ar fun R hR=>bG (yD (EF ?_));refine ⟨_,rfl,Tp,12,rfl,t1,by decide,by decide,fun m H2 J8 o2 t2=>⟨(m:Int),rfl,by omega,by omega,?_⟩⟩
 rw [iY];refine Fw (n:=m) (jY (by omega)) t2 (fun R h=>h) (fun i y=>∃k:Nat,y=.int (k:Int)∧k≤i) (fun i hi Hc R oc m8 kR=>?_) fun D ys H3 DT o3 t3 ly hP eD=>?_
 ·exact ⟨_,rfl,_,rfl,_,_,rfl,rfl,Tp,i+1,by rw [fv];rfl,m8,by omega,by omega,fun d Hd dl od GK=>kR _ _ od GK ⟨d,rfl,by omega⟩⟩
 have ex:∃as:List Nat,ys=as.map (fun k:Nat=>V.int (k:Int))∧as.length=m∧∀i,i<as.length→as.getD i 0≤i:=by
  refine ⟨(List.range ys.length).map fun i=>match ys.getD i .aR with | .int z=>z.toNat | _=>0,lu (by simp) fun i h1 h2=>?_,by simp [ly],fun i hi=>?_⟩
  ·obtain ⟨k,e,_⟩:=hP i ys[i] (eR h1)
   simp [h1,e]
  ·have h1:i<ys.length:=by simpa using hi
   obtain ⟨k,e,hk⟩:=hP i ys[i] (eR h1);simp [h1,e];exact hk
 obtain ⟨as,rfl,la,hle⟩:=ex;refine ⟨D,_,rfl,.inl ⟨.of eD,fun ah AB=>hR _ _ ?_⟩⟩;have s4:aq H3 (upd H3 ah (.tup (as.map fun k:Nat=>V.int (k:Int)))):=ax AB;have pa:mj ah as (upd H3 ah (.tup (as.map fun k:Nat=>V.int (k:Int)))):=aw;have t4:=t3.mono s4;have J9:ah≠Tp:=t3.ne AB;generalize upd H3 ah (.tup (as.map fun k:Nat=>V.int (k:Int)))=H4 at s4 pa t4 ⊢;have AD:bR Tp H H4:=o1.trans (o2.trans (o3.trans (bR.of s4)));clear hR R;have J_:as.length≤11:=by omega
 have gd:∀(xs:List Int) (w:Int) (ys:List Int),(xs++w::ys).getD xs.length 0=w:=fun xs w ys=>by rw [d6,gh (aG _),lg];rfl
 have GL:¬kg (as.map iN++[((as.map fun k:Nat=>V.int (k:Int)).length:Int)+1]):=q0 (k:=(as.map iN).length) (by simp) (by rw [gd,bz,bz];omega)
 have GN:¬kg (as.map iN++[-1]):=q0 (k:=(as.map iN).length) (by simp) (by rw [gd];omega)
 have GO:¬kg [1]:=q0 (k:=0) (by decide) (by decide)
 have GP:¬kg (List.replicate 60 0):=fun q=>by have:=q.1;rw [k7] at this;omega
 have n1:(1:Int)≤(n:Int):=by omega
 have ic:(n:Int)≤60:=by omega
 refine ar fun _ hR=>bG (gl (bD (fun H Q _ k=>⟨_,rfl,by show 3≤sizeLine;decide,fun td aC=>k _ _ (ax aC) ⟨td,rfl,.word "bands" _ (.inl rfl) aw (.inr rfl)⟩⟩) (bD (fun H Q _ k=>⟨_,rfl,by show 2≤sizeLine;decide,fun td aC=>k _ _ (ax aC) ⟨td,rfl,.word "" _ (.inr rfl) aw (.inl rfl)⟩⟩) (bD (fun H Q _ k=>⟨_,rfl,by show 3≤sizeLine;decide,fun td aC=>k _ _ (ax aC) ⟨td,rfl,.gf "ring" _ (.inl rfl) aw (by simp)⟩⟩) (bD (fun H Q _ k=>⟨_,rfl,by show 2≤sizeLine;decide,fun td aC=>k _ _ (ax aC) ⟨td,rfl,.wide "band" _ (.inl rfl) aw (by simp)⟩⟩) (bD (fun H Q _ k=>⟨_,rfl,_,rfl,by show 3≤sizeLine;decide,fun td aC=>k _ _ (ax aC) ⟨td,rfl,.band "band" _ _ (.inl rfl) aw (by omega)⟩⟩) jq))))) (by decide) pa fun l1 jw G1 vj q1 rN AE b1=>hR _ _ ?_)
 have p1:=q1 _ _ pa;refine ar fun _ hR=>bG (ki (i:=3) (m:=5) (bD (fun H Q _ k=>⟨_,rfl,_,rfl,by show 3≤sizeLine;decide,fun td aC=>k _ _ (ax aC) ⟨td,rfl,.band "band" _ _ (.inl rfl) aw (by omega)⟩⟩) (bD (fun H Q _ k=>⟨by show 3≤sizeLine;decide,fun td aC=>k _ _ (ax aC) ⟨td,rfl,.band "band" _ _ (.inl rfl) aw (by omega)⟩⟩) (bD (fun H Q _ k=>⟨by show 3≤sizeLine;decide,fun td aC=>k _ _ (ax aC) ⟨td,rfl,.band "band" _ _ (.inl rfl) aw (by omega)⟩⟩) (bD (fun H Q _ k=>⟨_,rfl,_,rfl,by show 3≤sizeLine;decide,fun td aC=>k _ _ (ax aC) ⟨td,rfl,.band "brim" _ _ (.inr rfl) aw (by omega)⟩⟩) (bD (fun H Q _ k=>⟨by show 3≤sizeLine;decide,fun td aC=>k _ _ (ax aC) ⟨td,rfl,.band "brim" _ _ (.inr rfl) aw (by omega)⟩⟩) jq))))) (by decide) p1 rN AE (by decide) b1 rfl fun l2 jx G2 rO q2 iV AF b2=>hR _ _ ?_)
 have p2:=q2 _ _ p1;refine ar fun _ hR=>bG (ki (i:=3) (m:=10) (bD (fun H Q _ k=>⟨by show 3≤sizeLine;decide,fun td aC=>k _ _ (ax aC) ⟨td,rfl,.band "brim" _ _ (.inr rfl) aw (by omega)⟩⟩) (bD (fun H Q _ k=>⟨_,rfl,by show 2≤sizeLine;decide,fun td aC=>k _ _ (ax aC) ⟨td,rfl,.wide "brim" _ (.inr rfl) aw (by simp)⟩⟩) (bD (fun H Q _ k=>⟨by show 2≤sizeLine;decide,fun td aC=>k _ _ (ax aC) ⟨td,rfl,.ring _ aw (by omega)⟩⟩) (bD (fun H Q _ k=>⟨by show 2≤sizeLine;decide,fun td aC=>k _ _ (ax aC) ⟨td,rfl,.ring _ aw (by omega)⟩⟩) (bD (fun H Q _ k=>⟨by show 2≤sizeLine;decide,fun td aC=>k _ _ (ax aC) ⟨td,rfl,.ring _ aw (by omega)⟩⟩) (bD (fun H Q _ k=>⟨_,rfl,by show 2≤sizeLine;decide,fun td aC=>k _ _ (ax aC) ⟨td,rfl,.ring _ aw (by omega)⟩⟩) (bD (fun H Q _ k=>⟨by show 2≤sizeLine;decide,fun td aC=>k _ _ (ax aC) ⟨td,rfl,.ring _ aw (by omega)⟩⟩) jq))))))) (by decide) p2 iV AF (by decide) b2 rfl fun l3 Ka G3 Kb q3 GQ GR b3=>hR _ _ ?_)
 have p3:=q3 _ _ p2;refine ar fun _ hR=>bG (ki (i:=3) (m:=17) (bD (fun H Q _ k=>⟨by show 1≤sizeLine;decide,fun td aC=>k _ _ (ax aC) ⟨td,rfl,.gf "ring" _ (.inl rfl) aw (by simp)⟩⟩) (bD (fun H Q _ k=>⟨by show 2≤sizeLine;decide,fun td aC=>k _ _ (ax aC) ⟨td,rfl,.cH _ aw (by omega)⟩⟩) (bD (fun H Q _ k=>⟨by show 2≤sizeLine;decide,fun td aC=>k _ _ (ax aC) ⟨td,rfl,.cH _ aw (by omega)⟩⟩) (bD (fun H Q _ k=>⟨_,rfl,by show 2≤sizeLine;decide,fun td aC=>k _ _ (ax aC) ⟨td,rfl,.cH _ aw (by omega)⟩⟩) (bD (fun H Q _ k=>⟨by show 3≤sizeLine;decide,fun td aC=>k _ _ (ax aC) ⟨td,rfl,.gf "ladder" _ (.inr (.inl rfl)) aw (by simp)⟩⟩) (bD (fun H Q _ k=>⟨by show 1≤sizeLine;decide,fun td aC=>k _ _ (ax aC) ⟨td,rfl,.gf "ladder" _ (.inr (.inl rfl)) aw (by simp)⟩⟩) jq)))))) (by decide) p3 GQ GR (by decide) b3 rfl fun l4 Kc G4 Kd q4 GS GU b4=>hR _ _ ?_)
 have p4:=q4 _ _ p3;refine ar fun _ hR=>bG (ki (i:=3) (m:=23) (bD (fun H Q _ k=>⟨by show 1≤sizeLine;decide,fun td aC=>k _ _ (ax aC) ⟨td,rfl,.gf "tree" _ (.inr (.inr rfl)) aw (by simp)⟩⟩) (bD (fun H Q _ k=>⟨by show 2≤sizeLine;decide,fun td aC=>k _ _ (ax aC) ⟨td,rfl,.mh _ aw⟩⟩) (bD (fun H Q _ k=>⟨by show 3≤sizeLine;decide,fun td aC=>k _ _ (ax aC) ⟨td,rfl,.gf "tree" _ (.inr (.inr rfl)) aw (by simp)⟩⟩) (bD (fun H Q p k=>zt (K:=K) (zs:=as.map iN) (w:=((as.map fun k:Nat=>V.int (k:Int)).length:Int)+1) rfl (by rw [p,lA];rfl) (by rw [bz];omega) (fun R h=>⟨_,rfl,ah,_,rfl,.inr (.of p),_,_,rfl,rfl,h⟩) fun b H1 s1 eb=>⟨by show 2≤sizeLine;decide,fun td aC=>k _ _ (s1.trans (ax aC)) ⟨td,rfl,.hZ b _ aw ((ax aC) _ _ eb) (by simp;omega) GL⟩⟩) (bD (fun H Q _ k=>⟨by show 1≤sizeLine;decide,fun b nb=>⟨by show 2≤sizeLine;decide,fun td aC=>k _ _ ((ax nb).trans (ax aC)) ⟨td,rfl,.hZ b [1] aw ((ax aC) _ _ aw) (by decide) GO⟩⟩⟩) jq))))) (by decide) p4 GS GU (by decide) b4 rfl fun l5 Ke G5 Kf q5 oX GV b5=>hR _ _ ?_)
 have p5:=q5 _ _ p4;refine ar fun _ hR=>bG (ki (i:=3) (m:=28) (bD (fun H Q p k=>zt (K:=K) (zs:=as.map iN) (w:=-1) rfl (by rw [p,lA];rfl) (by rw [bz];omega) (fun R h=>⟨_,rfl,h⟩) fun b H1 s1 eb=>⟨by show 2≤sizeLine;decide,fun td aC=>k _ _ (s1.trans (ax aC)) ⟨td,rfl,.hZ b _ aw ((ax aC) _ _ eb) (by simp;omega) GN⟩⟩) (bD (fun H Q _ k=>⟨by show 1≤sizeLine;decide,fun b nb=>⟨b,60,.int 0,rfl,rfl,aw,by decide,by decide,fun c nc=>⟨by show 2≤sizeLine;decide,fun td aC=>k _ _ ((ax nb).trans ((ax nc).trans (ax aC))) ⟨td,rfl,.hZ c (List.replicate 60 0) aw ((ax aC) _ _ (by rw [aw,List.map_replicate])) (by rw [k7];decide) GP⟩⟩⟩⟩) (bD (fun H Q _ k=>⟨10,20,rfl,rfl,⟨by decide,by decide,by decide⟩,by show 2≤sizeLine;decide,fun td aC=>k _ _ (ax aC) ⟨td,rfl,.ring _ aw (by decide)⟩⟩) (bD (fun H Q _ k=>⟨_,rfl,by show 4≤sizeLine;decide,fun td aC=>k _ _ (ax aC) ⟨td,rfl,.wide "band" _ (.inl rfl) aw (by simp)⟩⟩) jq)))) (by decide) p5 oX GV (by decide) b5 rfl fun l6 Kg G6 Kh q6 vk GW b6=>hR _ _ ?_)
 have p6:=q6 _ _ p5;refine ar fun _ hR=>bG (ki (i:=3) (m:=32) (bD (fun H Q _ k=>⟨_,rfl,by show 4≤sizeLine;decide,fun td aC=>k _ _ (ax aC) ⟨td,rfl,.wide "brim" _ (.inr rfl) aw (by simp)⟩⟩) (bD (fun H Q _ k=>⟨by show 1≤sizeLine;decide,fun b nb=>⟨by show 2≤sizeLine;decide,fun td aC=>k _ _ ((ax nb).trans (ax aC)) ⟨td,rfl,.mf b _ aw ((ax aC) _ _ aw)⟩⟩⟩) (bD (fun H Q _ k=>⟨by show 2≤sizeLine;decide,fun b nb=>⟨by show 2≤sizeLine;decide,fun td aC=>k _ _ ((ax nb).trans (ax aC)) ⟨td,rfl,.wide "band" _ (.inl rfl) aw (by simp)⟩⟩⟩) jq))) (by decide) p6 vk GW (by decide) b6 rfl fun l7 Ki G7 GX q7 oY AG b7=>hR _ _ ?_)
 have p7:=q7 _ _ p6;have qa:aq H4 G7:=((((((q1.trans q2).trans q3).trans q4).trans q5).trans q6).trans q7);have ta:=t4.mono qa;have oa:bR Tp H G7:=AD.trans (bR.of qa);clear hR;have zb:(as.map iN++[0,0]).length=as.length+2:=by simp
 refine ar fun _ hR=>bG (F2 (K:=K) (zs:=as.map iN) (ws:=[0,0]) rfl (by rw [show G7 ah=_ from p7,lA];rfl) (by simp;omega) (by simp) (fun R h=>h) fun bs H5 s5 eb=>hR _ _ ?_)
 have t5:=ta.mono s5;have oX:=s5 _ _ oY;have GY:=b7.mono s5;have AH:bs≠Tp:=fun z=>by obtain ⟨x,ex⟩:=t5;rw [z,ex] at eb;cases eb
 have AI:((as.map iN++[0,0]).map V.int).length=as.length+2:=by rw [bz,zb]
 refine ar fun _ hR=>bG ⟨_,rfl,_,rfl,bs,_,rfl,.inr (.of eb),_,_,rfl,rfl,Tp,as.length+1,by rw [AI];show [V.ref Tp,V.int (((as.length+2:Nat):Int)-1)]=_;rw [show ((as.length+2:Nat):Int)-1=((as.length+1:Nat):Int) by omega],t5,by omega,by omega,fun at' H6 Kj o6 t6=>hR _ _ ?_⟩
 have AJ:=o6 _ _ AH eb;have rP:l7≠Tp:=fun z=>by obtain ⟨x,ex⟩:=t5;rw [z,ex] at oX;cases oX;simp at AG
 have vk:=o6 _ _ rP oX;have b6:=GY.cm (uY t5 o6);have GZ:bR Tp H H6:=oa.trans ((bR.of s5).trans o6);refine ar fun R hR=>zv ⟨_,rfl,_,_,rfl,rfl,_,rfl,_,rfl,bs,_,rfl,.inr (.of AJ),_,rfl,_,_,rfl,rfl,_,_,rfl,rfl,Tp,as.length+1-at',by rw [AI];show [V.ref Tp,V.int (((as.length+2:Nat):Int)-(at':Int)-1)]=_;rw [show ((as.length+2:Nat):Int)-(at':Int)-1=((as.length+1-at':Nat):Int) by omega],t6,by omega,by omega,fun d2 H7 Kk o7 t7=>⟨_,_,rfl,rfl,_,rfl,_,_,rfl,rfl,_,rfl,by show 3≤sizeLine;decide,fun lw rQ=>⟨lw,rfl,⟨_,.of aw⟩,?_⟩⟩⟩
 have s8:aq H7 (upd H7 lw (.lst [.int ((at':Int)+2+(d2:Int)),.int ((at':Int)+1),.int (-1)])):=ax rQ;have kW:upd H7 lw (.lst [.int ((at':Int)+2+(d2:Int)),.int ((at':Int)+1),.int (-1)]) lw=some (.lst [.int ((at':Int)+2+(d2:Int)),.int ((at':Int)+1),.int (-1)]):=aw;have t8:=t7.mono s8;have oY:=o7 _ _ rP vk;have G0:lw≠l7:=fun z=>by rw [z,oY] at rQ;cases rQ
 have rR:=s8 _ _ oY;have rS:=s8 _ _ (o7 _ _ AH AJ);have b8:=(b6.cm (uY t6 o7)).mono s8;have rT:bR Tp H (upd H7 lw (.lst [.int ((at':Int)+2+(d2:Int)),.int ((at':Int)+1),.int (-1)])):=GZ.trans (o7.trans (bR.of s8));dsimp only;generalize upd H7 lw (.lst [.int ((at':Int)+2+(d2:Int)),.int ((at':Int)+1),.int (-1)])=H8 at kW t8 rR rS b8 rT ⊢;clear s8 oY o7 t7 rQ;have nH:H l7=none:=by
  cases e:H l7 with
  | none=>rfl
  | some o=>have:=(AD.trans (bR.of (((((q1.trans q2).trans q3).trans q4).trans q5).trans q6))) _ _ rP e;rw [GX] at this;cases this
 refine w9 (D:={nx:=R,rt:=Q}) (K:=K) (a:=lw) (xs:=[.int ((at':Int)+2+(d2:Int)),.int ((at':Int)+1),.int (-1)]) (fun j σ Hc=>∃(us:List V) (v6:Option V),σ=[some (.ref Tp),some (.int (n:Int)),some (.ref ah),some (.ref l7),some (.ref bs),some (.int (at':Int)),v6]∧bR Tp H Hc∧dC Hc Tp∧Hc lw=some (.lst [.int ((at':Int)+2+(d2:Int)),.int ((at':Int)+1),.int (-1)])∧Hc bs=some (.tup ((as.map iN++[0,0]).map V.int))∧Hc l7=some (.lst us)∧us.length=35+j∧eL Hc us) ⟨_,_,rfl,rT,t8,kW,rS,rR,AG,b8⟩ (fun j σ Hc _ ⟨_,_,_,_,_,e,_⟩=>.of e) ?_ ?_
 ·clear b8 rR rS kW t8 rT
  rintro j x σ Hc hx ⟨us,v6,rfl,oc,m8,kW,kX,el,oZ,bl⟩;obtain ⟨wr,rfl,G8⟩:∃wr:Int,x=.int wr∧¬(0≤wr∧wr≤(at':Int)):=by
   match j,hx with
   | 0,h=>exact ⟨_,(Option.some.inj h).symm,by omega⟩
   | 1,h=>exact ⟨_,(Option.some.inj h).symm,by omega⟩
   | 2,h=>exact ⟨_,(Option.some.inj h).symm,by omega⟩
   | j+3,h=>simp at h
  have j3:j<3:=by have:=(bZ.mp hx).1;simpa using this
  dsimp only [cZ];refine ⟨_,rfl,.inl ⟨rfl,_,.of el⟩,(show fU _ _ _ _ _ _ from y7 (fun x Hx=>∃r,x=.ref r∧aq Hc Hx∧Hx r=some (.tup (((as.map iN++[0,0]).take at'++wr::(as.map iN++[0,0]).drop (at'+1)).map V.int))) (fun R hR=>?_) ?_)⟩
  ·refine yE (y7 (fun x Hx=>∃r,x=.ref r∧aq Hc Hx∧Hx r=some (.tup (((as.map iN++[0,0]).take at'++[wr]).map V.int))) (fun R1 kU=>?_) ?_)
   ·refine yE ⟨_,rfl,_,rfl,_,rfl,bs,_,rfl,.of kX,fun G_ J1 h1=>?_⟩
    obtain ⟨f1,f2⟩:=zu kX (EK _ _) h1;refine ⟨_,rfl,by show 1≤sizeLine;decide,fun tb Hf=>?_⟩
    have vn:aq J1 (upd J1 tb (.tup [.int wr])):=ax Hf;refine ⟨G_,tb,_,[.int wr],rfl,rfl,.of (vn _ _ f2),.of aw,by simp,iW (jY (by simp;omega)),fun h=>?_,fun h p np=>?_⟩
    ·have h0:(as.map iN++[0,0]).take at'=[]:=pK.mp h
     rw [h0] at kU;exact kU _ _ ⟨tb,rfl,f1.trans vn,aw⟩
    ·exact kU _ _ ⟨p,rfl,f1.trans (vn.trans (ax np)),by rw [aw,jH];rfl⟩
   ·rintro x J1 ⟨r1,rfl,rV,AK⟩
    refine ⟨_,rfl,_,rfl,_,_,rfl,rfl,_,rfl,bs,_,rfl,.of (rV _ _ kX),fun Hg J2 h2=>?_⟩;obtain ⟨f1,f2⟩:=zu (rV _ _ kX) (show du ((as.map iN++[0,0]).map V.int) (some ((at':Int)+1)) none=((as.map iN++[0,0]).drop (at'+1)).map V.int by rw [show (at':Int)+1=((at'+1:Nat):Int) by omega,ES,List.map_drop]) h2
    refine ⟨r1,Hg,_,_,rfl,rfl,.of (f1 _ _ AK),.of f2,by simp,iW (jY (by simp;omega)),fun h=>?_,fun h p np=>?_⟩
    ·have h0:(as.map iN++[0,0]).drop (at'+1)=[]:=pK.mp h
     rw [h0] at hR;exact hR _ _ ⟨r1,rfl,rV.trans f1,f1 _ _ AK⟩
    ·exact hR _ _ ⟨p,rfl,(rV.trans f1).trans (ax np),by rw [aw,←jH,d7];rfl⟩
  ·rintro x Hx ⟨r,rfl,sx,er⟩
   refine ⟨by show 2≤sizeLine;decide,fun td aC=>?_⟩
   have st:aq Hx (upd Hx td (.tup [.str (Str.ofString "tree"),.ref r])):=ax aC;have AL:upd Hx td (.tup [.str (Str.ofString "tree"),.ref r]) td=some (.tup [sV "tree",.ref r]):=aw;generalize upd Hx td (.tup [.str (Str.ofString "tree"),.ref r])=Hy at st AL ⊢;have kY:=sx.trans st;have lt:((as.map iN++[0,0]).take at').length=at':=by rw [nh,zb];omega
   have bd:fK Hy td:=.hZ r _ AL (st _ _ er) (by simp;omega) (q0 (k:=at') (by simp;omega) (by have:=gd ((as.map iN++[0,0]).take at') wr ((as.map iN++[0,0]).drop (at'+1));rw [lt] at this;rw [this];exact G8))
   refine ⟨l7,us,_,rfl,rfl,kY _ _ el,jY (by omega),?_⟩
   have keep:∀b o,b≠l7→Hy b=some o→upd Hy l7 (.lst (us++[.ref td])) b=some o:=fun b o ne e=>(bu ne).trans e;have kt:∀b xs,Hy b=some (.tup xs)→upd Hy l7 (.lst (us++[.ref td])) b=some (.tup xs):=fun b xs e=>keep b _ (fun z=>by rw [z,kY _ _ el] at e;cases e) e
   refine ⟨us++[.ref td],_,rfl,fun b o ne e=>keep b o (fun z=>by rw [z,nH] at e;cases e) (kY _ _ (oc b o ne e)),?_,keep _ _ G0 (kY _ _ kW),kt _ _ (kY _ _ kX),aw,by rw [dk,oZ];rfl,fun v hv=>?_⟩
   ·obtain ⟨xx,Hh⟩:=m8.mono kY
    exact ⟨xx,keep _ _ (eP rP) Hh⟩
   ·rcases eQ.mp hv with h | h
    ·obtain ⟨uQ,e',b'⟩:=bl v h
     exact ⟨uQ,e',(b'.mono kY).cm kt⟩
    ·exact ⟨td,gm.mp h,bd.cm kt⟩
 ·clear b8 rR rS kW t8 rT
  rintro σ Hc ⟨us,v6,rfl,oc,m8,kW,kX,el,oZ,bl⟩;refine hR _ _ ?_;have pB:mj bs (as++[0,0]) Hc:=by show Hc bs=_;rw [kX,jH,jH,lA];rfl
  refine ar fun _ eO=>bG (ki (ah:=bs) (as:=as++[0,0]) (i:=3) (m:=38) (bD (fun H Q _ k=>⟨10,20,rfl,rfl,⟨by decide,by decide,by decide⟩,by show 2≤sizeLine;decide,fun td aC=>k _ _ (ax aC) ⟨td,rfl,.cH _ aw (by decide)⟩⟩) (bD (fun H Q _ k=>⟨10,20,rfl,rfl,⟨by decide,by decide,by decide⟩,by show 3≤sizeLine;decide,fun td aC=>k _ _ (ax aC) ⟨td,rfl,.band "band" _ _ (.inl rfl) aw (by decide)⟩⟩) jq)) (by decide) pB el (by simpa using oZ) (by decide) bl rfl fun l9 rW G9 Hi q9 AM AN b9=>eO _ _ ?_)
  have t9:=m8.mono q9;have Hj:l9≠Tp:=m8.ne Hi;refine ⟨_,rfl,_,rfl,_,rfl,l9,_,rfl,.inl (.of AM),Tp,40,by rw [AN];rfl,t9,by decide,by decide,fun d Hk dl od Kl=>?_⟩
  have hd:d<rW.length:=by rw [AN];exact dl
  refine ⟨l9,rW,_,rW[d],rfl,rfl,.of (od _ _ Hj AM),nS (eR hd),?_⟩;obtain ⟨td,e',b'⟩:=b9 rW[d] (fq hd);rw [e'];exact kk td Hk (oc.trans ((bR.of q9).trans od)) (b'.cm (uY t9 od))
theorem Hl:cC ["told","links","size","j","i"] ["told"] (bA rD):=dr
theorem Hm(T:Txt K mg t):bP P w K mg base cG 1 t.kG t.mH ["told"] Fs:=by
 have S:=Hl;refine T.kS.fF S (fun _ _ _ _ H _ Q _ hr h=>?_);obtain ⟨td,N,rfl,tn,ok,kk⟩:=h
 refine ⟨_,(@aL _ _ _ _ _ (putL 1 S.nd (@cU _ _ _ _ ae))
  (@aL _ _ _ _ _ (putL 2 S.nd af)
  (@aL _ _ _ _ _ (@bV _ _ _ _ _ _ _ _ (@pV _ _ _ _ _ _ _ _ Cm (aU aX (pv 0) af) (@aK _ _ _ _ _ (@aa _ _ _ _ _ (by rfl) aF (@aa _ _ _ _ _ (by rfl) aF ae))) rfl) (@aL _ _ _ _ _ (putL 2 S.nd (aU aX (pv 0) af))
  (@aS _ _ _ (iz jI rfl (gu rfl T.d5 (@aa _ _ _ _ _ (by rfl) (pv 2) ae)) (fA (i:=3) S.nd rfl (Or.inl rfl))
   (@aS _ _ _ (iz jI rfl (gu rfl T.d5 (@aa _ _ _ _ _ (by rfl) (pv 3) ae)) (fA (i:=4) S.nd rfl (Or.inl rfl))
   (@aS _ _ _ (@bV _ _ _ _ _ _ _ _ (PW.pt (@pw_or _ _ _ _ _ _ _ (cq nM (@aH _ _ _ _ _ _ _ _ fC (pv 3) (pv 4)) (aU aX (pv 0) af)) (@pw_or1 _ _ _ _ (PW.pt (pw_and (cq bI (aU aX (pv 0) af) aF) (pw_and1 (cq bI (pv 3) (@aH _ _ _ _ _ _ _ _ fC (pv 2) af)))))))) (@aS _ _ _ (pQ (lL lC PySem.F.slot_list_append PySem.F.type_list_append nX (pv 1) (@aa _ _ _ _ _ (by rfl) (@aK _ _ _ _ _ (@aa _ _ _ _ _ (by rfl) (pv 4) (@aa _ _ _ _ _ (by rfl) (pv 3) ae))) ae)))) bU))))))) bU)
  (@aL _ _ _ _ _ (@bV _ _ _ _ _ _ _ _ (cq bI (aU aX (pv 0) af) aF) (@aL _ _ _ _ _ (putL 2 S.nd (aU aX (pv 0) af))
  (@aS _ _ _ (putL 1 S.nd (@aH _ _ _ _ _ _ _ _ fW (@cU _ _ _ _ (@aa _ _ _ _ _ (by rfl) (@aK _ _ _ _ _ (@aa _ _ _ _ _ (by rfl) af (@aa _ _ _ _ _ (by rfl) (@aH _ _ _ _ _ _ _ _ fC (pv 2) af) ae))) ae)) (lR (N:=["k"]) (ρ:=(fun σ=>[])) (lQ [] rfl) rfl (gu rfl T.d5 (@aa _ _ _ _ _ (by rfl) (@aH _ _ _ _ _ _ _ _ fC (pv 2) af) ae)) (fun _ _ _=>.nil) (fun _ _ _=>(@aK _ _ _ _ _ (@aa _ _ _ _ _ (by rfl) (pv 0) (@aa _ _ _ _ _ (by rfl) (@aH _ _ _ _ _ _ _ _ cO (pv 0) af) ae))))))))) bU)
  (@aL _ _ _ _ _ (@bV _ _ _ _ _ _ _ _ (cq bI (aU aX (pv 0) af) aF) (@aL _ _ _ _ _ (putL 2 S.nd (@aH _ _ _ _ _ _ _ _ gw af (aU aX (pv 0) af)))
  (@aS _ _ _ (putL 1 S.nd (@aH _ _ _ _ _ _ _ _ fW (lR (N:=["k"]) (ρ:=(fun σ=>[])) (lQ [] rfl) rfl (gu rfl T.d5 (@aa _ _ _ _ _ (by rfl) (aU aX (pv 0) af) ae)) (fun _ _ _=>.nil) (fun _ _ _=>(@aK _ _ _ _ _ (@aa _ _ _ _ _ (by rfl) (@aH _ _ _ _ _ _ _ _ gw af (pv 0)) (@aa _ _ _ _ _ (by rfl) (@aH _ _ _ _ _ _ _ _ cO (@aH _ _ _ _ _ _ _ _ gw af (pv 0)) af) ae))))) (lR (N:=["k"]) (ρ:=(fun σ=>[])) (lQ [] rfl) rfl (gu rfl T.d5 (@aa _ _ _ _ _ (by rfl) (@aH _ _ _ _ _ _ _ _ fC (pv 2) af) ae)) (fun _ _ _=>.nil) (fun _ _ _=>(@aK _ _ _ _ _ (@aa _ _ _ _ _ (by rfl) (pv 0) (@aa _ _ _ _ _ (by rfl) (@aH _ _ _ _ _ _ _ _ cO (pv 0) af) ae))))))))) bU)
  (@aL _ _ _ _ _ (@bV _ _ _ _ _ _ _ _ (cq bI (aU aX (pv 0) af) aF) (@aL _ _ _ _ _ (putL 2 S.nd (@aH _ _ _ _ _ _ _ _ cO (bE dW rfl T.dO dR (@aa _ _ _ _ _ (by rfl) (aU aX (pv 0) af) ae)) af))
  (@aS _ _ _ (DE (i0:=1) (N:=["k","told"]) (ρ:=(fun σ=>[σ[0]?.join])) (lQ [0] rfl) rfl S.nd rfl (Or.inl rfl) (gu rfl T.d5 (@aa _ _ _ _ _ (by rfl) (@aH _ _ _ _ _ _ _ _ fC (pv 2) af) ae)) (fun _ _ _=>.nil) (fun _ _ _=>(@aK _ _ _ _ _ (@aa _ _ _ _ _ (by rfl) (aU (yC (K:=K)) (aU (yC (K:=K)) (pv 1) af) (pv 0)) (@aa _ _ _ _ _ (by rfl) (@aH _ _ _ _ _ _ _ _ cO (pv 0) af) ae))))))) bU)
  (@aS _ _ _ (@bo _ _ _ _ (@aK _ _ _ _ _ (@aa _ _ _ _ _ (by rfl) (pv 2) (@aa _ _ _ _ _ (by rfl) (lK qd rfl T.iU boot_tuple (@aa _ _ _ _ _ (by rfl) (bE Ey rfl T.z_ PyProof.Rows.boot_sorted (@aa _ _ _ _ _ (by rfl) (pv 1) ae)) ae)) ae))))))))))),?_⟩
 obtain ⟨n1,ic⟩:=qM ok;refine ar fun _ hR=>bG ⟨dj _,fun l0 vp=>hR _ _ ?_⟩;have s1:aq H (upd H l0 (.lst [])):=ax vp;have vt:upd H l0 (.lst []) l0=some (.lst []):=aw;have fh:=tn.mono s1;generalize upd H l0 (.lst [])=H1 at s1 vt fh ⊢;refine ar fun _ hR=>bG (hR _ _ ?_);cases N with
 | band n w=>
  have e:H1 td=some (.tup [sV "band",.int (n:Int),.int (w:Int)]):=fh;refine ar fun _ hR=>⟨_,rfl,td,_,_,_,rfl,rfl,.of e,rfl,by show 2≤sizeLine;decide,fun q nq=>?_⟩
  have s2:aq H1 (upd H1 q (.tup [.str (Str.ofString "band"),.str (Str.ofString "brim")])):=ax nq;have fi:upd H1 q (.tup [.str (Str.ofString "band"),.str (Str.ofString "brim")]) q=some (.tup [.str (Str.ofString "band"),.str (Str.ofString "brim")]):=aw;have ie:=fh.mono s2;generalize upd H1 q (.tup [.str (Str.ofString "band"),.str (Str.ofString "brim")])=H2 at s2 fi ie ⊢;have e2:=s2 _ _ e;refine ⟨q,_,rfl,.inr (.of fi),rfl,rfl,true,by decide +kernel,bh ?_⟩
  refine ar fun _ eO=>bG ⟨_,rfl,td,_,_,_,rfl,rfl,.of e2,rfl,eO _ _ ?_⟩;have hz:(aT.band n w).sz=n:=rfl;have n1:1≤n:=n1;have ic:n≤60:=ic;refine ⟨_,rfl,(n:Int),rfl,by omega,by omega,?_⟩
  rw [iY];have e0:H td=some (.tup [sV "band",.int (n:Int),.int (w:Int)]):=tn;refine jb (fun j σ Hc=>∃(us:List V) (v3 v4:Option V),σ=[some (.ref td),some (.ref l0),some (.int (n:Int)),v3,v4]∧aq H Hc∧Hc l0=some (.lst us)∧bg Hc us (cI (aT.band n w).lk j)) ⟨[],_,_,rfl,s1.trans s2,s2 _ _ vt,bg.nil _⟩ ?_ ?_
  ·rintro j σ Hc hj ⟨us,v3,v4,rfl,sc,el,hL⟩
   dsimp only [cZ];refine ⟨_,rfl,0+(j:Int),rfl,by omega,by omega,?_⟩
   rw [show (0+(j:Int)).toNat=j by omega]
   refine jb (fun i σ Hd=>∃(us:List V) (v4:Option V),σ=[some (.ref td),some (.ref l0),some (.int (n:Int)),some (.int (0+(j:Int))),v4]∧aq H Hd∧Hd l0=some (.lst us)∧bg Hd us (cI (aT.band n w).lk j++cS (aT.band n w).lk j i)) ⟨us,_,rfl,sc,el,by show bg _ _ (_++[]);rw [jz];exact hL⟩ ?_ ?_
   ·clear hL el sc
    rintro i σ Hd hi ⟨us,v4,rfl,sd,el,hL⟩;have ed:=sd _ _ e0;dsimp only [cZ];have len:=zo ok (show j<(aT.band n w).sz from hj) (iW hi);have oZ:=hL.1;have app:∀(R:St→Hp→Prop),(aT.band n w).lk i j=true→(∀σ' H',(∃(us:List V) (v4:Option V),σ'=[some (.ref td),some (.ref l0),some (.int (n:Int)),some (.int (0+(j:Int))),v4]∧aq H H'∧H' l0=some (.lst us)∧bg H' us (cI (aT.band n w).lk j++cS (aT.band n w).lk j (i+1)))→R σ' H')→∀tq,Hd tq=none→R [some (.ref td),some (.ref l0),some (.int (n:Int)),some (.int (0+(j:Int))),some (.int (0+(i:Int)))] (upd (upd Hd tq (.tup [.int (0+(i:Int)),.int (0+(j:Int))])) l0 (.lst (us++[.ref tq]))):=fun R hl kR tq gg=>by
     have st:aq Hd (upd Hd tq (.tup [.int (0+(i:Int)),.int (0+(j:Int))])):=ax gg;have o4:upd Hd tq (.tup [.int (0+(i:Int)),.int (0+(j:Int))]) tq=some (.tup [.int (i:Int),.int (j:Int)]):=by rw [aw,fv,fv]
     generalize upd Hd tq (.tup [.int (0+(i:Int)),.int (0+(j:Int))])=He at st o4 ⊢;refine kR _ _ ⟨us++[.ref tq],_,rfl,iF (sd.trans st) vp,aw,?_⟩;have ec:cI (aT.band n w).lk j++cS (aT.band n w).lk j (i+1)=(cI (aT.band n w).lk j++cS (aT.band n w).lk j i)++[((i:Int),(j:Int))]:=by show _++(_++_)=_;rw [aj hl,d7]
     rw [ec];exact ((hL.mono st).cat (show bg He [.ref tq] [((i:Int),(j:Int))] from ⟨rfl,fun k v p h1 h2=>by
      match k,h1,h2 with
      | 0,h1,h2=>cases h1;cases h2;exact ⟨tq,rfl,o4⟩
      | k+1,h1,h2=>simp at h1⟩)).dg (st _ _ el) fun b o nb e=>by rw [bu nb];exact e
    have skip:(aT.band n w).lk i j=false→∃(o5:List V) (v4:Option V),[some (V.ref td),some (.ref l0),some (.int (n:Int)),some (.int (0+(j:Int))),some (.int (0+(i:Int)))]=[some (.ref td),some (.ref l0),some (.int (n:Int)),some (.int (0+(j:Int))),v4]∧aq H Hd∧Hd l0=some (.lst o5)∧bg Hd o5 (cI (aT.band n w).lk j++cS (aT.band n w).lk j (i+1)):=fun hl=>⟨us,_,rfl,sd,el,by show bg _ _ (_++(_++_));rw [hl,ai cj,jz];exact hL⟩
    refine ⟨_,rfl,_,rfl,_,_,rfl,rfl,_,rfl,td,_,_,_,rfl,rfl,.of ed,rfl,_,_,rfl,rfl,_,rfl,df (fun hb=>?_) (fun hb=>?_)⟩
    ·have hb:=dE hb
     refine ⟨_,rfl,.inl ⟨rfl,_,.of el⟩,_,rfl,_,rfl,by show 2≤sizeLine;decide,fun tq gg=>⟨l0,us,_,rfl,rfl,(ax gg) _ _ el,pj (show us.length≤2000 by omega) (by decide),?_⟩⟩
     exact app _ (aW (by omega)) (fun _ _ h=>h) tq gg
    ·have hb:¬(0+(j:Int)-(0+(i:Int))≤(w:Int)):=fun z=>hb (aW z)
     exact ⟨_,rfl,td,_,_,_,rfl,rfl,.of ed,rfl,rfl,false,by decide +kernel,ay (skip (bt (by omega)))⟩
   ·rintro σ Hd ⟨us,v4,rfl,sd,el,hL⟩
    exact ⟨us,_,_,rfl,sd,el,hL⟩
  ·rintro σ Hc ⟨us,v3,v4,rfl,sc,el,hL⟩
   refine hR _ _ ?_;have e5:=sc _ _ e0;refine ar fun _ hR=>⟨_,rfl,td,_,_,_,rfl,rfl,.of e5,rfl,rfl,false,by decide +kernel,ay (hR _ _ ?_)⟩
   refine ar fun _ hR=>⟨_,rfl,td,_,_,_,rfl,rfl,.of e5,rfl,rfl,false,by decide +kernel,ay (hR _ _ ?_)⟩
   refine ar fun _ hR=>⟨_,rfl,td,_,_,_,rfl,rfl,.of e5,rfl,rfl,false,by decide +kernel,ay (hR _ _ ?_)⟩
   refine ⟨_,rfl,_,rfl,oK (K:=K) (Q:=fun y H2=>[V.int (n:Int),y].length≤sizeLine∧∀q,H2 q=none→Q (.ref q) (upd H2 q (.tup [.int (n:Int),y]))) ok el hL (qV _) (fun z=>uT (N:=.band n w)) fun lt zs Hd sd elt hz=>⟨by show 2≤sizeLine;decide,fun tp fM=>?_⟩⟩
   have st:aq Hd (upd Hd tp (.tup [.int (n:Int),.ref lt])):=ax fM;exact kk tp _ (sc.trans (sd.trans st)) ⟨lt,zs,aw,st _ _ elt,hz.mono st⟩
 | cg n w=>
  have e:H1 td=some (.tup [sV "brim",.int (n:Int),.int (w:Int)]):=fh;refine ar fun _ hR=>⟨_,rfl,td,_,_,_,rfl,rfl,.of e,rfl,by show 2≤sizeLine;decide,fun q nq=>?_⟩
  have s2:aq H1 (upd H1 q (.tup [.str (Str.ofString "band"),.str (Str.ofString "brim")])):=ax nq;have fi:upd H1 q (.tup [.str (Str.ofString "band"),.str (Str.ofString "brim")]) q=some (.tup [.str (Str.ofString "band"),.str (Str.ofString "brim")]):=aw;have ie:=fh.mono s2;generalize upd H1 q (.tup [.str (Str.ofString "band"),.str (Str.ofString "brim")])=H2 at s2 fi ie ⊢;have e2:=s2 _ _ e;refine ⟨q,_,rfl,.inr (.of fi),rfl,rfl,true,by decide +kernel,bh ?_⟩
  refine ar fun _ eO=>bG ⟨_,rfl,td,_,_,_,rfl,rfl,.of e2,rfl,eO _ _ ?_⟩;have hz:(aT.cg n w).sz=n:=rfl;have n1:1≤n:=n1;have ic:n≤60:=ic;refine ⟨_,rfl,(n:Int),rfl,by omega,by omega,?_⟩
  rw [iY];have e0:H td=some (.tup [sV "brim",.int (n:Int),.int (w:Int)]):=tn;refine jb (fun j σ Hc=>∃(us:List V) (v3 v4:Option V),σ=[some (.ref td),some (.ref l0),some (.int (n:Int)),v3,v4]∧aq H Hc∧Hc l0=some (.lst us)∧bg Hc us (cI (aT.cg n w).lk j)) ⟨[],_,_,rfl,s1.trans s2,s2 _ _ vt,bg.nil _⟩ ?_ ?_
  ·rintro j σ Hc hj ⟨us,v3,v4,rfl,sc,el,hL⟩
   dsimp only [cZ];refine ⟨_,rfl,0+(j:Int),rfl,by omega,by omega,?_⟩
   rw [show (0+(j:Int)).toNat=j by omega]
   refine jb (fun i σ Hd=>∃(us:List V) (v4:Option V),σ=[some (.ref td),some (.ref l0),some (.int (n:Int)),some (.int (0+(j:Int))),v4]∧aq H Hd∧Hd l0=some (.lst us)∧bg Hd us (cI (aT.cg n w).lk j++cS (aT.cg n w).lk j i)) ⟨us,_,rfl,sc,el,by show bg _ _ (_++[]);rw [jz];exact hL⟩ ?_ ?_
   ·clear hL el sc
    rintro i σ Hd hi ⟨us,v4,rfl,sd,el,hL⟩;have ed:=sd _ _ e0;dsimp only [cZ];have len:=zo ok (show j<(aT.cg n w).sz from hj) (iW hi);have oZ:=hL.1;have app:∀(R:St→Hp→Prop),(aT.cg n w).lk i j=true→(∀σ' H',(∃(us:List V) (v4:Option V),σ'=[some (.ref td),some (.ref l0),some (.int (n:Int)),some (.int (0+(j:Int))),v4]∧aq H H'∧H' l0=some (.lst us)∧bg H' us (cI (aT.cg n w).lk j++cS (aT.cg n w).lk j (i+1)))→R σ' H')→∀tq,Hd tq=none→R [some (.ref td),some (.ref l0),some (.int (n:Int)),some (.int (0+(j:Int))),some (.int (0+(i:Int)))] (upd (upd Hd tq (.tup [.int (0+(i:Int)),.int (0+(j:Int))])) l0 (.lst (us++[.ref tq]))):=fun R hl kR tq gg=>by
     have st:aq Hd (upd Hd tq (.tup [.int (0+(i:Int)),.int (0+(j:Int))])):=ax gg;have o4:upd Hd tq (.tup [.int (0+(i:Int)),.int (0+(j:Int))]) tq=some (.tup [.int (i:Int),.int (j:Int)]):=by rw [aw,fv,fv]
     generalize upd Hd tq (.tup [.int (0+(i:Int)),.int (0+(j:Int))])=He at st o4 ⊢;refine kR _ _ ⟨us++[.ref tq],_,rfl,iF (sd.trans st) vp,aw,?_⟩;have ec:cI (aT.cg n w).lk j++cS (aT.cg n w).lk j (i+1)=(cI (aT.cg n w).lk j++cS (aT.cg n w).lk j i)++[((i:Int),(j:Int))]:=by show _++(_++_)=_;rw [aj hl,d7]
     rw [ec];exact ((hL.mono st).cat (show bg He [.ref tq] [((i:Int),(j:Int))] from ⟨rfl,fun k v p h1 h2=>by
      match k,h1,h2 with
      | 0,h1,h2=>cases h1;cases h2;exact ⟨tq,rfl,o4⟩
      | k+1,h1,h2=>simp at h1⟩)).dg (st _ _ el) fun b o nb e=>by rw [bu nb];exact e
    have skip:(aT.cg n w).lk i j=false→∃(o5:List V) (v4:Option V),[some (V.ref td),some (.ref l0),some (.int (n:Int)),some (.int (0+(j:Int))),some (.int (0+(i:Int)))]=[some (.ref td),some (.ref l0),some (.int (n:Int)),some (.int (0+(j:Int))),v4]∧aq H Hd∧Hd l0=some (.lst o5)∧bg Hd o5 (cI (aT.cg n w).lk j++cS (aT.cg n w).lk j (i+1)):=fun hl=>⟨us,_,rfl,sd,el,by show bg _ _ (_++(_++_));rw [hl,ai cj,jz];exact hL⟩
    refine ⟨_,rfl,_,rfl,_,_,rfl,rfl,_,rfl,td,_,_,_,rfl,rfl,.of ed,rfl,_,_,rfl,rfl,_,rfl,df (fun hb=>?_) (fun hb=>?_)⟩
    ·have hb:=dE hb
     refine ⟨_,rfl,.inl ⟨rfl,_,.of el⟩,_,rfl,_,rfl,by show 2≤sizeLine;decide,fun tq gg=>⟨l0,us,_,rfl,rfl,(ax gg) _ _ el,pj (show us.length≤2000 by omega) (by decide),?_⟩⟩
     exact app _ (by show (decide (j≤i+w) || _)=true;rw [aW (show j≤i+w by omega)];rfl) (fun _ _ h=>h) tq gg
    ·have hb:¬(0+(j:Int)-(0+(i:Int))≤(w:Int)):=fun z=>hb (aW z)
     have hl:(aT.cg n w).lk i j=decide (j+1=n):=by show (decide (j≤i+w) || decide (j+1=n))=_;rw [bt (show ¬j≤i+w by omega),ni]
     refine ⟨_,rfl,td,_,_,_,rfl,rfl,.of ed,rfl,rfl,true,by decide +kernel,bh ?_⟩
     refine ⟨_,rfl,_,rfl,_,_,rfl,rfl,rfl,_,rfl,df (fun hc=>?_) (fun hc=>?_)⟩
     ·rw [dX] at hc
      have hc:=dE hc;refine ⟨_,rfl,.inl ⟨rfl,_,.of el⟩,_,rfl,_,rfl,by show 2≤sizeLine;decide,fun tq gg=>⟨l0,us,_,rfl,rfl,(ax gg) _ _ el,pj (show us.length≤2000 by omega) (by decide),?_⟩⟩
      exact app _ (by rw [hl];exact aW (by omega)) (fun _ _ h=>h) tq gg
     ·have hc:¬(0+(j:Int)=(n:Int)-1):=fun z=>hc (by rw [dX];exact aW z)
      exact skip (by rw [hl];exact bt (by omega))
   ·rintro σ Hd ⟨us,v4,rfl,sd,el,hL⟩
    exact ⟨us,_,_,rfl,sd,el,hL⟩
  ·rintro σ Hc ⟨us,v3,v4,rfl,sc,el,hL⟩
   refine hR _ _ ?_;have e5:=sc _ _ e0;refine ar fun _ hR=>⟨_,rfl,td,_,_,_,rfl,rfl,.of e5,rfl,rfl,false,by decide +kernel,ay (hR _ _ ?_)⟩
   refine ar fun _ hR=>⟨_,rfl,td,_,_,_,rfl,rfl,.of e5,rfl,rfl,false,by decide +kernel,ay (hR _ _ ?_)⟩
   refine ar fun _ hR=>⟨_,rfl,td,_,_,_,rfl,rfl,.of e5,rfl,rfl,false,by decide +kernel,ay (hR _ _ ?_)⟩
   refine ⟨_,rfl,_,rfl,oK (K:=K) (Q:=fun y H2=>[V.int (n:Int),y].length≤sizeLine∧∀q,H2 q=none→Q (.ref q) (upd H2 q (.tup [.int (n:Int),y]))) ok el hL (qV _) (fun z=>uT (N:=.cg n w)) fun lt zs Hd sd elt hz=>⟨by show 2≤sizeLine;decide,fun tp fM=>?_⟩⟩
   have st:aq Hd (upd Hd tp (.tup [.int (n:Int),.ref lt])):=ax fM;exact kk tp _ (sc.trans (sd.trans st)) ⟨lt,zs,aw,st _ _ elt,hz.mono st⟩
 | ring n=>
  have e:H1 td=some (.tup [sV "ring",.int (n:Int)]):=fh;obtain ⟨n3,_⟩:=id ok;obtain ⟨nd,mm⟩:=FA n3;refine ar fun _ hR=>⟨_,rfl,td,_,_,_,rfl,rfl,.of e,rfl,by show 2≤sizeLine;decide,fun q nq=>?_⟩
  have s2:aq H1 (upd H1 q (.tup [.str (Str.ofString "band"),.str (Str.ofString "brim")])):=ax nq;have fi:upd H1 q (.tup [.str (Str.ofString "band"),.str (Str.ofString "brim")]) q=some (.tup [.str (Str.ofString "band"),.str (Str.ofString "brim")]):=aw;have ie:=fh.mono s2;generalize upd H1 q (.tup [.str (Str.ofString "band"),.str (Str.ofString "brim")])=H2 at s2 fi ie ⊢;have e2:=s2 _ _ e;refine ⟨q,_,rfl,.inr (.of fi),rfl,rfl,false,by decide +kernel,ay (hR _ _ ?_)⟩
  refine ar fun _ hR=>⟨_,rfl,td,_,_,_,rfl,rfl,.of e2,rfl,rfl,true,by decide +kernel,bh ?_⟩
  refine ar fun _ eO=>bG ⟨_,rfl,td,_,_,_,rfl,rfl,.of e2,rfl,eO _ _ ?_⟩;refine bG ⟨_,rfl,_,_,rfl,rfl,by show 2≤sizeLine;decide,fun b nb=>⟨by show 1≤sizeLine;decide,fun l1 vj=>?_⟩⟩
  have s3:aq H2 (upd (upd H2 b (.tup [.int 0,.int ((n:Int)-1)])) l1 (.lst [.ref b])):=(ax nb).trans (ax vj);have eb:upd (upd H2 b (.tup [.int 0,.int ((n:Int)-1)])) l1 (.lst [.ref b]) b=some (.tup [.int 0,.int ((n:Int)-1)]):=(ax vj) _ _ aw;have rN:upd (upd H2 b (.tup [.int 0,.int ((n:Int)-1)])) l1 (.lst [.ref b]) l1=some (.lst [.ref b]):=aw;generalize upd (upd H2 b (.tup [.int 0,.int ((n:Int)-1)])) l1 (.lst [.ref b])=H3 at s3 eb rN ⊢;refine qT (n:=n-1) (fun k:Nat=>((k:Int),(k:Int)+1)) (by omega) (fun R h=>⟨_,rfl,_,_,rfl,rfl,_,rfl,by omega,by omega,by rw [show ((n:Int)-1).toNat=n-1 by omega];exact h⟩) (fun i hi Hc R sc kR=>⟨_,rfl,_,rfl,_,_,rfl,rfl,by show 2≤sizeLine;decide,fun b nb=>kR b _ (ax nb) (by rw [aw,fv])⟩) fun D ys H4 nD s4 eD hY=>?_
  refine ⟨l1,D,[.ref b],ys,rfl,rfl,s4 _ _ rN,eD,kf (by have:=hY.1;rw [bz,i3] at this;simp;omega),fun l2 rO=>hR _ _ ?_⟩
  have s5:aq H4 (upd H4 l2 (.lst ([.ref b]++ys))):=ax rO;have iV:upd H4 l2 (.lst ([.ref b]++ys)) l2=some (.lst ([.ref b]++ys)):=aw;have hM:bg H4 ([.ref b]++ys) (qX n):=(show bg H4 [.ref b] [((0:Int),(n:Int)-1)] from ⟨rfl,fun k v p h1 h2=>by
   match k,h1,h2 with
   | 0,h1,h2=>cases h1;cases h2;exact ⟨b,rfl,s4 _ _ eb⟩
   | k+1,h1,h2=>simp at h1⟩).cat hY
  have kZ:=hM.mono s5;generalize upd H4 l2 (.lst ([.ref b]++ys))=H5 at s5 iV kZ ⊢;generalize [V.ref b]++ys=us at iV kZ;have jv:=s3.trans (s4.trans s5);have e5:=jv _ _ e2;refine ar fun _ hR=>⟨_,rfl,td,_,_,_,rfl,rfl,.of e5,rfl,rfl,false,by decide +kernel,ay (hR _ _ ?_)⟩
  refine ar fun _ hR=>⟨_,rfl,td,_,_,_,rfl,rfl,.of e5,rfl,rfl,false,by decide +kernel,ay (hR _ _ ?_)⟩
  refine ⟨_,rfl,_,rfl,oK (K:=K) (Q:=fun y H2=>[V.int (n:Int),y].length≤sizeLine∧∀q,H2 q=none→Q (.ref q) (upd H2 q (.tup [.int (n:Int),y]))) ok iV kZ nd mm fun lt zs Hd sd elt hz=>⟨by show 2≤sizeLine;decide,fun tp fM=>?_⟩⟩
  have st:aq Hd (upd Hd tp (.tup [.int (n:Int),.ref lt])):=ax fM;exact kk tp _ ((s1.trans (s2.trans jv)).trans (sd.trans st)) ⟨lt,zs,aw,st _ _ elt,hz.mono st⟩
 | cH m=>
  have e:H1 td=some (.tup [sV "ladder",.int (m:Int)]):=fh;refine ar fun _ hR=>⟨_,rfl,td,_,_,_,rfl,rfl,.of e,rfl,by show 2≤sizeLine;decide,fun q nq=>?_⟩
  have s2:aq H1 (upd H1 q (.tup [.str (Str.ofString "band"),.str (Str.ofString "brim")])):=ax nq;have fi:upd H1 q (.tup [.str (Str.ofString "band"),.str (Str.ofString "brim")]) q=some (.tup [.str (Str.ofString "band"),.str (Str.ofString "brim")]):=aw;have ie:=fh.mono s2;generalize upd H1 q (.tup [.str (Str.ofString "band"),.str (Str.ofString "brim")])=H2 at s2 fi ie ⊢;have e2:=s2 _ _ e;refine ⟨q,_,rfl,.inr (.of fi),rfl,rfl,false,by decide +kernel,ay (hR _ _ ?_)⟩
  refine ar fun _ hR=>⟨_,rfl,td,_,_,_,rfl,rfl,.of e2,rfl,rfl,false,by decide +kernel,ay (hR _ _ ?_)⟩
  refine ar fun _ hR=>⟨_,rfl,td,_,_,_,rfl,rfl,.of e2,rfl,rfl,true,by decide +kernel,bh ?_⟩
  obtain ⟨nd,mm⟩:=FC (m:=m);obtain ⟨m1,Km⟩:=id ok;refine ar fun _ eO=>bG ⟨_,rfl,td,_,_,_,rfl,rfl,.of e2,rfl,_,_,rfl,rfl,.inl ⟨by decide,by decide⟩,eO _ _ ?_⟩
  refine bG (show fY _ _ _ _ _ _ _ from qT (n:=m) (fun k:Nat=>(2*(k:Int),2*(k:Int)+1)) (by omega) (fun R h=>⟨_,rfl,td,_,_,_,rfl,rfl,.of e2,rfl,_,rfl,by omega,by omega,by rw [iY];exact h⟩) (fun i hi Hc R sc kR=>⟨_,rfl,_,_,rfl,rfl,.inl ⟨by decide,by decide⟩,_,rfl,_,_,rfl,rfl,.inl ⟨by decide,by decide⟩,_,_,rfl,rfl,by show 2≤sizeLine;decide,fun b nb=>kR b _ (ax nb) (by rw [aw,fv])⟩) fun D1 jy H3 Kn s3 Hn AO=>?_)
  refine (show fY _ _ _ _ _ _ _ from qT (n:=2*m-2) (fun k:Nat=>((k:Int),(k:Int)+2)) (by omega) (fun R h=>⟨_,rfl,_,_,rfl,rfl,_,rfl,by omega,by omega,by rw [show (2*(m:Int)-2).toNat=2*m-2 by omega];exact h⟩) (fun i hi Hc R sc kR=>⟨_,rfl,_,rfl,_,_,rfl,rfl,by show 2≤sizeLine;decide,fun b nb=>kR b _ (ax nb) (by rw [aw,fv])⟩) fun D2 ys H4 Ko s4 Ho AQ=>?_)
  refine ⟨D1,D2,jy,ys,rfl,rfl,s4 _ _ Hn,Ho,kf (by have:=AO.1;have:=AQ.1;rw [bz,i3] at *;omega),fun l2 rO=>hR _ _ ?_⟩
  have s5:aq H4 (upd H4 l2 (.lst (jy++ys))):=ax rO;have iV:upd H4 l2 (.lst (jy++ys)) l2=some (.lst (jy++ys)):=aw;have kZ:bg (upd H4 l2 (.lst (jy++ys))) (jy++ys) (qY m):=((AO.mono s4).cat AQ).mono s5;generalize upd H4 l2 (.lst (jy++ys))=H5 at s5 iV kZ ⊢;generalize jy++ys=us at iV kZ;have jv:=s3.trans (s4.trans s5);have e5:=jv _ _ e2;refine ar fun _ hR=>⟨_,rfl,td,_,_,_,rfl,rfl,.of e5,rfl,rfl,false,by decide +kernel,ay (hR _ _ ?_)⟩
  have oW:((aT.cH m).sz:Int)=2*(m:Int):=by show ((2*m:Nat):Int)=_;omega
  refine ⟨_,rfl,_,rfl,oK (K:=K) (Q:=fun y H2=>[V.int (2*(m:Int)),y].length≤sizeLine∧∀q,H2 q=none→Q (.ref q) (upd H2 q (.tup [.int (2*(m:Int)),y]))) ok iV kZ nd mm fun lt zs Hd sd elt hz=>⟨by show 2≤sizeLine;decide,fun tp fM=>?_⟩⟩
  have st:aq Hd (upd Hd tp (.tup [.int (2*(m:Int)),.ref lt])):=ax fM;exact kk tp _ ((s1.trans (s2.trans jv)).trans (sd.trans st)) ⟨lt,zs,by rw [aw,oW],st _ _ elt,hz.mono st⟩
 | tree as=>
  obtain ⟨ta,e,eta⟩:=id fh;refine ar fun _ hR=>⟨_,rfl,td,_,_,_,rfl,rfl,.of e,rfl,by show 2≤sizeLine;decide,fun q nq=>?_⟩
  have s2:aq H1 (upd H1 q (.tup [.str (Str.ofString "band"),.str (Str.ofString "brim")])):=ax nq;have fi:upd H1 q (.tup [.str (Str.ofString "band"),.str (Str.ofString "brim")]) q=some (.tup [.str (Str.ofString "band"),.str (Str.ofString "brim")]):=aw;have ie:=fh.mono s2;generalize upd H1 q (.tup [.str (Str.ofString "band"),.str (Str.ofString "brim")])=H2 at s2 fi ie ⊢;have e2:=s2 _ _ e;refine ⟨q,_,rfl,.inr (.of fi),rfl,rfl,false,by decide +kernel,ay (hR _ _ ?_)⟩
  refine ar fun _ hR=>⟨_,rfl,td,_,_,_,rfl,rfl,.of e2,rfl,rfl,false,by decide +kernel,ay (hR _ _ ?_)⟩
  refine ar fun _ hR=>⟨_,rfl,td,_,_,_,rfl,rfl,.of e2,rfl,rfl,false,by decide +kernel,ay (hR _ _ ?_)⟩
  refine ar fun _ hR=>⟨_,rfl,td,_,_,_,rfl,rfl,.of e2,rfl,rfl,true,by decide +kernel,bh ?_⟩
  obtain ⟨Kp,hle⟩:=id ok;obtain ⟨nd,mm⟩:=FD hle;have AR:=s2 _ _ eta;refine ar fun _ eO=>bG ⟨_,rfl,td,_,_,_,rfl,rfl,.of e2,rfl,ta,_,rfl,.inr (.of AR),_,_,rfl,rfl,eO _ _ ?_⟩;refine (show fY _ _ _ _ _ _ _ from qT (n:=as.length) (fun k:Nat=>(((as.getD k 0:Nat):Int),(k:Int)+1)) (by omega) (fun R h=>⟨_,rfl,_,_,rfl,rfl,_,rfl,by rw [bz];omega,by rw [bz];omega,by rw [bz,show ((as.length:Int)+1-1).toNat=as.length by omega];exact h⟩) (fun i hi Hc R sc kR=>⟨_,rfl,td,_,_,_,rfl,rfl,.of (sc _ _ e2),rfl,_,rfl,ta,_,_,_,rfl,rfl,.of (sc _ _ AR),(by rw [fv];exact nS (by rw [dQ,eR hi];rfl)),_,rfl,_,_,rfl,rfl,by show 2≤sizeLine;decide,fun b nb=>kR b _ (ax nb) (by rw [aw,fv,d6,eR hi];rfl)⟩) fun D ys H3 nD s3 eD hY=>?_)
  refine hR _ _ ?_;have oW:((aT.tree as).sz:Int)=((as.map fun k:Nat=>V.int (k:Int)).length:Int)+1:=by rw [bz];rfl
  refine ⟨_,rfl,_,rfl,oK (K:=K) (Q:=fun y H2=>[V.int (((as.map fun k:Nat=>V.int (k:Int)).length:Int)+1),y].length≤sizeLine∧∀q,H2 q=none→Q (.ref q) (upd H2 q (.tup [.int (((as.map fun k:Nat=>V.int (k:Int)).length:Int)+1),y]))) ok eD hY nd mm fun lt zs Hd sd elt hz=>⟨by show 2≤sizeLine;decide,fun tp fM=>?_⟩⟩
  have st:aq Hd (upd Hd tp (.tup [.int (((as.map fun k:Nat=>V.int (k:Int)).length:Int)+1),.ref lt])):=ax fM;exact kk tp _ ((s1.trans (s2.trans s3)).trans (sd.trans st)) ⟨lt,zs,by rw [aw,oW],st _ _ elt,hz.mono st⟩
theorem Hq:cC ["script","start","good","told"] ["script"] (bA rG):=dr
theorem Hr(T:Txt K mg t):bP P w K mg base cG 9 t.jr t.kJ ["script"] (qs K):=by
 have S:=Hq;have Hs:=GG (P:=P) (w:=w) (base:=base) T;have Ht:=GI (P:=P) (w:=w) (base:=base) T;have Hu:=Gx (P:=P) (w:=w) (base:=base) T;have AS:=Hm (P:=P) (w:=w) (base:=base) T;have oU:=vh (P:=P) (w:=w) (base:=base) T;refine T.m5.fF S (fun _ _ _ _ H vs _ _ hr h=>?_);obtain ⟨a,ns,rfl,hS,hlen,kQ⟩:=h;have vv:=hr.units
 refine ⟨_,(@aL _ _ _ _ _ (iz jI rfl (sM rfl T.d5 (@aa _ _ _ _ _ (by rfl) af (@aa _ _ _ _ _ (by rfl) (bE (BM rfl) rfl T.z8 boot_max (@aa _ _ _ _ _ (by rfl) af (@aa _ _ _ _ _ (by rfl) (bE (BN rfl) rfl T.z9 boot_min (@aa _ _ _ _ _ (by rfl) af (@aa _ _ _ _ _ (by rfl) (bE dW rfl T.dO dR (@aa _ _ _ _ _ (by rfl) (pv 0) ae)) ae))) ae))) ae))) (fA (i:=1) S.nd rfl (Or.inl rfl))
    (@aS _ _ _ (@bV _ _ _ _ _ _ _ _ (@gY _ _ _ _ (fS (et Hu (hr.mono (by decide)) rfl T.zP T.m4.kp T.zO .nil bx (@aa _ _ _ _ _ (by rfl) (et Ht (hr.mono (by decide)) rfl T.zN T.mZ.kp T.zM .nil bx (@aa _ _ _ _ _ (by rfl) (et Hs (hr.mono (by decide)) rfl T.zJ T.mX.kp T.zI .nil bx (@aa _ _ _ _ _ (by rfl) (pv 0) (@aa _ _ _ _ _ (by rfl) (pv 1) ae))) ae)) ae)))) (@aS _ _ _ (@bo _ _ _ _ fR)) bU)))
   (@aL _ _ _ _ _ (@dy _ _ 2 _ _ _ _ (by rfl) (by first | exact .inl rfl | exact .inr rfl | assumption) S.nd rfl (Or.inl rfl) (@cU _ _ _ _ (@aa _ _ _ _ _ (by rfl) (@aK _ _ _ _ _ (@aa _ _ _ _ _ (by rfl) aF (@aa _ _ _ _ _ (by rfl) af (@aa _ _ _ _ _ (by rfl) af ae)))) (@aa _ _ _ _ _ (by rfl) (@aK _ _ _ _ _ (@aa _ _ _ _ _ (by rfl) aF (@aa _ _ _ _ _ (by rfl) af (@aa _ _ _ _ _ (by rfl) af ae)))) (@aa _ _ _ _ _ (by rfl) (@aK _ _ _ _ _ (@aa _ _ _ _ _ (by rfl) aF (@aa _ _ _ _ _ (by rfl) af ae))) (@aa _ _ _ _ _ (by rfl) (@aK _ _ _ _ _ (@aa _ _ _ _ _ (by rfl) aF (@aa _ _ _ _ _ (by rfl) af ae))) (@aa _ _ _ _ _ (by rfl) (@aK _ _ _ _ _ (@aa _ _ _ _ _ (by rfl) aF (@aa _ _ _ _ _ (by rfl) af ae))) (@aa _ _ _ _ _ (by rfl) (@aK _ _ _ _ _ (@aa _ _ _ _ _ (by rfl) aF (@aa _ _ _ _ _ (by rfl) af ae))) ae))))))))
   (@aL _ _ _ _ _ (iz jI rfl (wX (@aH _ _ _ _ _ _ _ _ fW (pv 2) (@cU _ _ _ _ (@aa _ _ _ _ _ (by rfl) (@aK _ _ _ _ _ (@aa _ _ _ _ _ (by rfl) aF (@aa _ _ _ _ _ (by rfl) (@aK _ _ _ _ _ ae) ae))) ae)))) (fA (i:=3) S.nd rfl (Or.inl rfl))
    (@aS _ _ _ (@bV _ _ _ _ _ _ _ _ (@pV _ _ _ _ _ _ _ _ (DR (n:=3) vv) (et oU (hr.mono (by decide)) rfl T.mU T.h_.kp T.mT .nil tK (@aa _ _ _ _ _ (by rfl) (pv 3) ae)) (et AS (hr.mono (by decide)) rfl T.vb T.kS.kp T.va .nil bx (@aa _ _ _ _ _ (by rfl) (pv 3) ae)) (lJ _)) (@aS _ _ _ (@bo _ _ _ _ fR)) bU)))
   (@aS _ _ _ (@bo _ _ _ _ (@dU _ _ _ _ _ _ _ (@sU _ _ _ _ _ _ _ _ (y_ vv) (et oU (hr.mono (by decide)) rfl T.mU T.h_.kp T.mT .nil tK (@aa _ _ _ _ _ (by rfl) (@aK _ _ _ _ _ (@aa _ _ _ _ _ (by rfl) aF (@aa _ _ _ _ _ (by rfl) (@aH _ _ _ _ _ _ _ _ uX (@aK _ _ _ _ _ (@aa _ _ _ _ _ (by rfl) af ae)) af) ae))) ae)) (et AS (hr.mono (by decide)) rfl T.vb T.kS.kp T.va .nil bx (@aa _ _ _ _ _ (by rfl) (@aK _ _ _ _ _ (@aa _ _ _ _ _ (by rfl) aF (@aa _ _ _ _ _ (by rfl) (@aH _ _ _ _ _ _ _ _ uX (@aK _ _ _ _ _ (@aa _ _ _ _ _ (by rfl) af ae)) af) ae))) ae)) (lJ _)) (@ee _ _ _ _ _ (@sU _ _ _ _ _ _ _ _ (y_ vv) (et oU (hr.mono (by decide)) rfl T.mU T.h_.kp T.mT .nil tK (@aa _ _ _ _ _ (by rfl) (@aK _ _ _ _ _ (@aa _ _ _ _ _ (by rfl) aF (@aa _ _ _ _ _ (by rfl) af (@aa _ _ _ _ _ (by rfl) af ae)))) ae)) (@aK _ _ _ _ _ (@aa _ _ _ _ _ (by rfl) af (@aa _ _ _ _ _ (by rfl) (@aK _ _ _ _ _ ae) ae))) (lJ _))))))))),?_⟩
 refine ar fun _ hR=>⟨_,rfl,a,_,rfl,.inl hS,_,_,rfl,_,_,rfl,_,_,rfl,⟨by decide,by decide,?_,?_⟩,?_⟩
 ·split <;> split <;> omega
 ·split <;> split <;> omega
 have cnt:∃c:Nat,c≤20∧((if (if ((ns.map V.int).length:Int)<16 then ((ns.map V.int).length:Int) else 16)>1 then (if ((ns.map V.int).length:Int)<16 then ((ns.map V.int).length:Int) else 16) else 1)-0:Int).toNat=c:=⟨_,by split <;> split <;> omega,rfl⟩
 obtain ⟨c,Kq,ec⟩:=cnt;rw [ec];refine jb (fun i σ Hc=>∃(v1 v2 v3:Option V),σ=[some (.ref a),v1,v2,v3]∧aq H Hc) ⟨_,_,_,rfl,aq.refl _⟩ ?_ ?_
 ·rintro i σ Hc hi ⟨v1,v2,v3,rfl,sc⟩
  have Hv:cn K Hc a (ns.map V.int):=sc.seq hS;dsimp only [cZ];refine ⟨_,rfl,_,rfl,a,ns,i,by rw [fv];rfl,Hv,by omega,fun Tp H1 s1 nT tc=>⟨Tp,rfl,tc,fun td H2 o2 bad=>⟨td,rfl,bad,fun H3 s3=>⟨true,rfl,ay ?_⟩⟩⟩⟩
  have s2:aq Hc H2:=fun b o e=>o2 b o (fun z=>by rw [z,nT] at e;cases e) (s1 _ _ e)
  exact ⟨_,_,_,rfl,sc.trans (s2.trans s3)⟩
 ·rintro σ Hc ⟨v1,v2,v3,rfl,sc⟩
  refine hR _ _ ?_;refine ar fun _ kU=>bG (zA (kl (fun H R k=>⟨by show 3≤sizeLine;decide,fun td aC=>k _ _ (ax aC) ⟨td,.band 60 59,rfl,aw,⟨by decide,by decide,by decide⟩⟩⟩) (kl (fun H R k=>⟨by show 3≤sizeLine;decide,fun td aC=>k _ _ (ax aC) ⟨td,.cg 60 0,rfl,aw,⟨by decide,by decide,by decide⟩⟩⟩) (kl (fun H R k=>⟨by show 2≤sizeLine;decide,fun td aC=>k _ _ (ax aC) ⟨td,.ring 3,rfl,aw,⟨by decide,by decide⟩⟩⟩) (kl (fun H R k=>⟨by show 2≤sizeLine;decide,fun td aC=>k _ _ (ax aC) ⟨td,.ring 60,rfl,aw,⟨by decide,by decide⟩⟩⟩) (kl (fun H R k=>⟨by show 2≤sizeLine;decide,fun td aC=>k _ _ (ax aC) ⟨td,.cH 1,rfl,aw,⟨by decide,by decide⟩⟩⟩) (kl (fun H R k=>⟨by show 2≤sizeLine;decide,fun td aC=>k _ _ (ax aC) ⟨td,.cH 30,rfl,aw,⟨by decide,by decide⟩⟩⟩) zw)))))) (by decide) fun l1 jw H1 s1 e1 AE g1=>kU _ _ ?_)
  refine ar fun R eO=>zv ⟨_,rfl,zA (kl (fun H R k=>⟨by show 0≤sizeLine;decide,fun b nb=>⟨by show 2≤sizeLine;decide,fun td aC=>k _ _ ((ax nb).trans (ax aC)) ⟨td,.tree [],rfl,⟨b,aw,(ax aC) _ _ aw⟩,⟨by decide,fun i hi=>by simp at hi⟩⟩⟩⟩) zw) (by decide) fun l2 jx H2 s2 e2 AF g2=>⟨l1,l2,jw,jx,rfl,rfl,s2 _ _ e1,e2,kf (by omega),fun l3 n3=>⟨l3,rfl,⟨_,.of aw⟩,?_⟩⟩⟩
  have s3:aq H2 (upd H2 l3 (.lst (jw++jx))):=ax n3;have e3:upd H2 l3 (.lst (jw++jx)) l3=some (.lst (jw++jx)):=aw;generalize upd H2 l3 (.lst (jw++jx))=H3 at s3 e3 ⊢;have gd:∀v∈jw++jx,kj H3 v:=fun v hv=>by
   rcases eQ.mp hv with h | h;·exact (g1 v h).mono (s2.trans s3)
   ·exact (g2 v h).mono s3
  generalize jw++jx=vs at e3 gd;refine w9 (K:=K) (a:=l3) (xs:=vs) (fun j σ Hd=>∃(v1 v3:Option V),σ=[some (.ref a),v1,some (.ref l1),v3]∧aq H3 Hd) ⟨_,_,rfl,aq.refl _⟩ (fun j σ Hd _ ⟨_,_,_,sd⟩=>.of (sd _ _ e3)) ?_ ?_
  ·rintro j x σ Hd hx ⟨v1,v3,rfl,sd⟩
   obtain ⟨td,N,rfl,tn,ok⟩:=(gd x (List.mem_of_getElem? hx)).mono sd;dsimp only [cZ];refine ⟨_,rfl,td,rfl,.inr ⟨N,tn,ok,fun t1 H4 s4 vw=>⟨_,rfl,td,N,rfl,tn.mono s4,ok,fun t2 H5 s5 vx=>⟨uA N.sz (dB N),EE _ _,y8 (vw.mono s5),y8 vx,false,rfl,ay ?_⟩⟩⟩⟩;exact ⟨_,_,rfl,sd.trans (s4.trans s5)⟩
  ·rintro σ Hd ⟨v1,v3,rfl,sd⟩
   refine eO _ _ ?_;have AU:(aT.tree (List.replicate 59 0)).ok:=⟨by rw [k7];decide,fun i hi=>by rw [d6,List.getElem?_replicate];split <;> exact dj _⟩
   refine ⟨by show 1≤sizeLine;decide,fun b1 qJ=>⟨b1,59,.int 0,rfl,rfl,aw,by decide,by decide,fun c1 Hw=>⟨by show 2≤sizeLine;decide,fun o8 AV=>?_⟩⟩⟩
   have q1:aq Hd (upd (upd (upd Hd b1 (.tup [.int 0])) c1 (.tup (List.replicate 59 (.int 0)))) o8 (.tup [.str (Str.ofString "tree"),.ref c1])):=(ax qJ).trans ((ax Hw).trans (ax AV));have w1:ToldN (upd (upd (upd Hd b1 (.tup [.int 0])) c1 (.tup (List.replicate 59 (.int 0)))) o8 (.tup [.str (Str.ofString "tree"),.ref c1])) o8 (.tree (List.replicate 59 0)):=⟨c1,aw,(ax AV) _ _ (by rw [aw,List.map_replicate];rfl)⟩
   generalize upd (upd (upd Hd b1 (.tup [.int 0])) c1 (.tup (List.replicate 59 (.int 0)))) o8 (.tup [.str (Str.ofString "tree"),.ref c1])=G1 at q1 w1 ⊢;refine ⟨o8,rfl,.inr ⟨_,w1,AU,fun t1 H4 s4 vw=>?_⟩⟩;refine ⟨by show 1≤sizeLine;decide,fun b2 HA=>⟨b2,59,.int 0,rfl,rfl,aw,by decide,by decide,fun c2 HB=>⟨by show 2≤sizeLine;decide,fun o9 AW=>?_⟩⟩⟩
   have q2:aq H4 (upd (upd (upd H4 b2 (.tup [.int 0])) c2 (.tup (List.replicate 59 (.int 0)))) o9 (.tup [.str (Str.ofString "tree"),.ref c2])):=(ax HA).trans ((ax HB).trans (ax AW));have w2:ToldN (upd (upd (upd H4 b2 (.tup [.int 0])) c2 (.tup (List.replicate 59 (.int 0)))) o9 (.tup [.str (Str.ofString "tree"),.ref c2])) o9 (.tree (List.replicate 59 0)):=⟨c2,aw,(ax AW) _ _ (by rw [aw,List.map_replicate];rfl)⟩
   generalize upd (upd (upd H4 b2 (.tup [.int 0])) c2 (.tup (List.replicate 59 (.int 0)))) o9 (.tup [.str (Str.ofString "tree"),.ref c2])=G2 at q2 w2 ⊢;refine ⟨o9,_,rfl,w2,AU,fun t2 H5 s5 vx=>?_⟩;refine ⟨t1,t2,_,_,_,rfl,rfl,vw.mono (q2.trans s5),vx,true,by rw [aW rfl],bh ?_⟩
   refine ⟨by show 3≤sizeLine;decide,fun rX Kr=>?_⟩
   have w3:ToldN (upd H5 rX (.tup [.str (Str.ofString "brim"),.int 1,.int 0])) rX (.cg 1 0):=aw;generalize upd H5 rX (.tup [.str (Str.ofString "brim"),.int 1,.int 0])=G3 at w3 ⊢;refine ⟨rX,rfl,.inr ⟨_,w3,⟨by decide,by decide,by decide⟩,fun t3 H6 s6 HC=>?_⟩⟩
   refine ⟨by show 0≤sizeLine;decide,fun lt oM=>⟨by show 2≤sizeLine;decide,fun t4 AX=>?_⟩⟩
   have HD:iO (upd (upd H6 lt (.tup [])) t4 (.tup [.int 1,.ref lt])) t4 1 []:=⟨lt,[],aw,(ax AX) _ _ aw,bg.nil _⟩;have e1:dB (.cg 1 0)=[]:=rfl;have AY:=(HC.mono (ax (o:=.tup []) oM)).mono (ax (o:=.tup [.int 1,.ref lt]) AX);rw [e1] at AY;refine ⟨t3,t4,1,[],[],rfl,rfl,AY,HD,?_⟩;rw [aW rfl];exact kQ _
theorem HE{l:PySem.W.OpenLaw}(T:Txt K mg t):∃fd:FuncData,(∀(s:Shared) (v:Value),BindsTo s fd ⟨[v],[]⟩ [("script",v)])∧∀base:Heap,K.In base→base.Ns mainGlobals mg→bP l.prog w K mg base cG 9 t.jr fd ["script"] (qs K):=by obtain ⟨oc,od,kV,doc,pm,an,bp,ct,g_,e,lk,eV⟩:=T.m5.ex;refine ⟨t.kJ,fun s v=>?_,fun base _ _=>Hr T⟩;rw [e];exact .of_eq rfl
end
theorem walk{l:PySem.W.OpenLaw}{q:Program}{loose:List Str}{XP:(Str→Option Value)→Heap→Prop}{YP:World→Heap→Prop}{d:DefRec}{K:Params→PySem.W.Frag}(hn:l.most=some 63)(nY:d.params.defaults=[])
  (hY:∀(w:World) (h:Heap),YP w h→(K w.params).In h)
  (F:∀(w:World) (mg:bW) (fa:Addr) (h:Heap),(K w.params).In h→h.Ns mainGlobals mg→mg d.name=some (.ref fa)→
   ∃fd:FuncData,(∀(s:Shared) (u:Value),BindsTo s fd ⟨[u],[]⟩ [("script",u)])∧∀base:Heap,(K w.params).In base→base.Ns mainGlobals mg→bP l.prog w (K w.params) mg base cG 9 fa fd ["script"] (qs (K w.params))) :
  PySem.W.WalkO q loose XP YP l.row.toRowW d [] (fun f vs=>PySem.call f vs):=
 L2.CM (n:=63) (k:=9) (x:="script") (CX:=fun _=>cG) (sp:=fun w=>qs (K w.params)) hn (by decide) nY ⟨rfl,by decide,by decide⟩ hY F (fun _ _ a ns hl _ hS=>⟨a,ns,rfl,hS,hl,fun _=>rfl⟩) fun _ _ _ _ _ z=>z
theorem HF{K:aJ}{h:Heap}{mg:bW}(X:K.In h)(G:h.Ns mainGlobals mg)
  {mK:Addr}
  {mL:Addr}
  {ju:Addr}
  {mM:Addr}
  {aZ:Addr}
  {mO:Addr}
  {mP:Addr}
  {mQ:Addr}
  {mR:Addr}
  {HG:Tok}
  {km kn ko kq kr ku kv ky kz kA kB kC kD kF kG kH kI jr:Addr} {ml mq mr mv mw mx my mz mB mC mD mE mF mG mH mI mJ kJ:FuncData}
  (vz:PySem.W.nsIn K mainGlobals "NoWorld"=some (some (.ref mK)))
  (vB:PySem.W.nsIn K mainGlobals "NoOver"=some (some (.ref mL)))
  (vC:PySem.W.nsIn K mainGlobals "WrightError"=some (some (.ref ju)))
  (vD:PySem.W.nsIn K mainGlobals "NoFit"=some (some (.ref mM)))
  (vE:PySem.W.nsIn K mainGlobals "NoShape"=some (some (.ref aZ)))
  (vF:PySem.W.nsIn K mainGlobals "NoOrder"=some (some (.ref mO)))
  (vG:PySem.W.nsIn K mainGlobals "NoSize"=some (some (.ref mP)))
  (vH:PySem.W.nsIn K mainGlobals "NoLink"=some (some (.ref mQ)))
  (vI:PySem.W.nsIn K mainGlobals "Tied"=some (some (.ref mR)))
  (HH:mg "is_whole"=some (.ref km))
  (iQ:bF K "is_whole" q_ km ml)
  (HI:mg "is_place"=some (.ref kn))
  (iR:bF K "is_place" rd kn mq)
  (HJ:mg "is_size"=some (.ref ko))
  (fL:bF K "is_size" rf ko mr)
  (HK:mg "are_aheads"=some (.ref kq))
  (kK:bF K "are_aheads" rg kq mv)
  (HL:mg "is_known"=some (.ref kr))
  (kL:bF K "is_known" rh kr mw)
  (HM:mg "size_of"=some (.ref ku))
  (kM:bF K "size_of" rj ku mx)
  (HN:mg "are_linked"=some (.ref kv))
  (kN:bF K "are_linked" rm kv my)
  (HP:mg "deeds"=some (.ref ky))
  (mS:bF K "deeds" rn ky mz)
  (HQ:mg "named"=some (.ref kz))
  (h_:bF K "named" rp kz mB)
  (HR:mg "best"=some (.ref kA))
  (mV:bF K "best" rq kA mC)
  (HS:mg "_law_acell"=some (.ref kB))
  (mW:bF K "_law_acell" rz kB mD)
  (HU:mg "_law_atape"=some (.ref kC))
  (mX:bF K "_law_atape" rA kC mE)
  (HV:mg "_law_adigit"=some (.ref kD))
  (gP:bF K "_law_adigit" rB kD mF)
  (HW:mg "_law_akind"=some (.ref kF))
  (mY:bF K "_law_akind" rC kF mG)
  (HX:mg "_law_anamed"=some (.ref kG))
  (kS:bF K "_law_anamed" rD kG mH)
  (HY:mg "_law_abad"=some (.ref kH))
  (mZ:bF K "_law_abad" rE kH mI)
  (HZ:mg "_law_arefused"=some (.ref kI))
  (m4:bF K "_law_arefused" rF kI mJ)
  (H_:mg "law"=some (.ref jr))
  (m5:bF K "law" rG jr kJ)
  (vJ:PySem.W.nsIn K mainGlobals "ValueError"=some none)
  (vK:PySem.W.nsIn K mainGlobals "all"=some none)
  (vL:PySem.W.nsIn K mainGlobals "bool"=some none)
  (vM:PySem.W.nsIn K mainGlobals "enumerate"=some none)
  (vO:PySem.W.nsIn K mainGlobals "int"=some none)
  (vP:PySem.W.nsIn K mainGlobals "isinstance"=some none)
  (vQ:PySem.W.nsIn K mainGlobals "len"=some none)
  (vR:PySem.W.nsIn K mainGlobals "list"=some none)
  (vS:PySem.W.nsIn K mainGlobals "max"=some none)
  (vU:PySem.W.nsIn K mainGlobals "min"=some none)
  (vV:PySem.W.nsIn K mainGlobals "range"=some none)
  (vW:PySem.W.nsIn K mainGlobals "reversed"=some none)
  (vX:PySem.W.nsIn K mainGlobals "sorted"=some none)
  (vY:PySem.W.nsIn K mainGlobals "tuple"=some none)
  (vZ:PySem.W.nsIn K mainGlobals "zip"=some none)
  (v5:PySem.W.nsIn K mainGlobals "MOST"=some (some (.int 60 HG)))
  (v7:PySem.W.excIn K aZ [.type "ValueError",.type "Exception",.type "BaseException",.type "object"] "ValueError.__new__"=true)
  (v8:PySem.W.excIn K ju [.type "ValueError",.type "Exception",.type "BaseException",.type "object"] "ValueError.__new__"=true)
  (v9:PySem.W.mroIn K aZ (.ref aZ)=some true)
  (v_:PySem.W.mroIn K aZ (.ref ju)=some true)
  (wc:PySem.W.kitOne K (.ref aZ) (.type "ValueError")=some true)
  (we:PySem.W.kitOne K (.ref aZ) (.ref aZ)=some true)
  (wg:PySem.W.kitOne K (.ref aZ) (.ref mK)=some false)
  (wj:PySem.W.kitOne K (.ref aZ) (.ref mL)=some false)
  (wk:PySem.W.kitOne K (.ref aZ) (.ref mM)=some false)
  (wm:PySem.W.kitOne K (.ref aZ) (.ref mO)=some false)
  (wo:PySem.W.kitOne K (.ref aZ) (.ref mP)=some false)
  (wu:PySem.W.kitOne K (.ref aZ) (.ref mQ)=some false)
  (wz:PySem.W.kitOne K (.ref aZ) (.ref mR)=some false)
  (wA:PySem.W.hasDictIn K aZ=true)
  (wB:PySem.W.findIn K (.ref aZ) "__getattribute__"=some (some (.builtin "BaseException.__getattribute__")))
  (wC:PySem.W.findIn K (.ref aZ) "__getattr__"=some none)
  (wD:PySem.W.findIn K (.ref aZ) "__class__"=some (some (.builtin "object.__class__")))
  (wF:PySem.W.mroIn K aZ (.type "object")=some true)
  (wG:PySem.W.mroIn K aZ (.type "BaseException")=some true)
  : ∃t:rH,Txt K mg t:=by
 refine ⟨⟨km,ml,kn,mq,ko,mr,kq,mv,kr,mw,ku,mx,kv,my,ky,mz,kz,mB,kA,mC,kB,mD,kC,mE,kD,mF,kF,mG,kG,mH,kH,mI,kI,mJ,jr,kJ,mK,mL,ju,mM,aZ,mO,mP,mQ,mR⟩,?_⟩
 exact {
  iQ:=iQ
  oO:=iQ.dv
  oP:=HH
  iR:=iR
  oQ:=iR.dv
  oR:=HI
  fL:=fL
  iS:=fL.dv
  iT:=HJ
  kK:=kK
  uZ:=kK.dv
  u0:=HK
  kL:=kL
  u4:=kL.dv
  u5:=HL
  kM:=kM
  u6:=kM.dv
  u7:=HM
  kN:=kN
  u9:=kN.dv
  u_:=HN
  mS:=mS
  zC:=mS.dv
  zD:=HP
  h_:=h_
  mT:=h_.dv
  mU:=HQ
  mV:=mV
  zE:=mV.dv
  zF:=HR
  mW:=mW
  zG:=mW.dv
  zH:=HS
  mX:=mX
  zI:=mX.dv
  zJ:=HU
  gP:=gP
  kO:=gP.dv
  kP:=HV
  mY:=mY
  zK:=mY.dv
  zL:=HW
  kS:=kS
  va:=kS.dv
  vb:=HX
  mZ:=mZ
  zM:=mZ.dv
  zN:=HY
  m4:=m4
  zO:=m4.dv
  zP:=HZ
  m5:=m5
  F4:=m5.dv
  zQ:=H_
  zR:=ck X G vz
  zS:=ck X G vB
  zT:=ck X G vC
  zU:=ck X G vD
  rJ:=ck X G vE
  zV:=ck X G vF
  zW:=ck X G vG
  zX:=ck X G vH
  zY:=ck X G vI
  zZ:=d8 X G vJ
  vc:=d8 X G vK
  z5:=d8 X G vL
  vd:=d8 X G vM
  z6:=d8 X G vO
  d4:=d8 X G vP
  dO:=d8 X G vQ
  z7:=d8 X G vR
  z8:=d8 X G vS
  z9:=d8 X G vU
  d5:=d8 X G vV
  F5:=d8 X G vW
  z_:=d8 X G vX
  iU:=d8 X G vY
  F6:=d8 X G vZ
  Aa:=⟨_,ck X G v5,_,rfl⟩
  oS:=v7
  Ab:=v8
  F7:=v9
  ve:=v_
  Ac:=wc
  Ad:=we
  Ae:=wg
  Af:=wj
  Ag:=wk
  Ah:=wm
  Ai:=wo
  Aj:=wu
  Ak:=wz
  Al:=wA
  Am:=wB
  An:=wC
  Ao:=wD
  Ap:=wF
  Aq:=wG
 }
end My
namespace PySem.W.Fast
def tw3867407294238750111:Unit:=()
def tw8188615579541792353:Unit:=()
def tw5069101773638200145:Unit:=()
def tw4336521401620835886:Unit:=()
def tw9000171603279993834:Unit:=()
def tw2354358195354852386:Unit:=()
def tw6973287201881488100:Unit:=()
def tw2017519719493973685:Unit:=()
def tw11719767189591632061:Unit:=()
def tw10101358781750435140:Unit:=()
def tw5575291610331077900:Unit:=()
def tw1076285359452365750:Unit:=()
def tw13197443127488188783:Unit:=()
def tw9731409321275243914:Unit:=()
def tw9724689204877345219:Unit:=()
def tw1088391166166790641:Unit:=()
def tw6390505727837615590:Unit:=()
def tw7662619257368738450:Unit:=()
def tw14557485556127817835:Unit:=()
def tw11675626771599364304:Unit:=()
def tw18394761263468066542:Unit:=()
def tw7995670973549854211:Unit:=()
def tw8422176427630012126:Unit:=()
def tw1083192637108911259:Unit:=()
def tw4727024976769025417:Unit:=()
def tw14798505862280797798:Unit:=()
def tw8430504230856568726:Unit:=()
def tw18068033750340727052:Unit:=()
def tw14509912436428082138:Unit:=()
def tw11806781885460435692:Unit:=()
def tw1394644539076988959:Unit:=()
def tw3765375638602703220:Unit:=()
def tw7115219860399058366:Unit:=()
def tw8364901880006303396:Unit:=()
def tw13568852534068246934:Unit:=()
def tw9495387827578482953:Unit:=()
def tw7294463465474768037:Unit:=()
def tw250883662116266041:Unit:=()
def tw11816279122989045129:Unit:=()
def tw13640964978507513841:Unit:=()
def tw15763824197037992514:Unit:=()
def tw1320105085501135606:Unit:=()
def tw14907736093131403086:Unit:=()
def tw5220968154328146805:Unit:=()
def tw15073404068877433584:Unit:=()
def tw12486269922495707043:Unit:=()
def tw12349852796520859996:Unit:=()
def tw11881362152232376103:Unit:=()
def tw3142090999784955621:Unit:=()
def tw6590039259680085001:Unit:=()
def tw10910479053237527516:Unit:=()
def tw15986677202562166024:Unit:=()
def tw14633283079998424343:Unit:=()
def tw517457281197582807:Unit:=()
def tw1219190080365638862:Unit:=()
def tw9676223636467742631:Unit:=()
def tw184926733469122653:Unit:=()
def tw6814580145589080048:Unit:=()
def tw6867717052803178906:Unit:=()
def tw14164289129823823572:Unit:=()
def tw18185993254798424063:Unit:=()
def tw7310371422220560053:Unit:=()
def tw11324924551699788400:Unit:=()
def tw8642407330203879976:Unit:=()
def tw17622643587311155462:Unit:=()
def tw16167556453935164675:Unit:=()
def tw1907529389315652885:Unit:=()
def tw14221958748619996572:Unit:=()
def tw6430214185421663968:Unit:=()
def tw10191578827792242154:Unit:=()
def tw2230439926608981889:Unit:=()
def tw14191115949649918427:Unit:=()
def tw51790312111179896:Unit:=()
def tw2026914758843849449:Unit:=()
def tw14292263388305223129:Unit:=()
def tw5747685629728934320:Unit:=()
def tw16166259030741237478:Unit:=()
def tw13545306738579896853:Unit:=()
def tw16731073587818845530:Unit:=()
def tw7509505329281690468:Unit:=()
def tw6735839774826277580:Unit:=()
def tw16171174170502539535:Unit:=()
def tw12165120609789304291:Unit:=()
def tw11187912021326755157:Unit:=()
def tw1675583463697236416:Unit:=()
def tw15265278742393688104:Unit:=()
def tw16159661483342844645:Unit:=()
def tw1360969994636725967:Unit:=()
def tw10418543192570412194:Unit:=()
def tw9823004635904268605:Unit:=()
def tw13310794478696859862:Unit:=()
def tw2836137214522096585:Unit:=()
def tw12977648342641090713:Unit:=()
def tw14000778790223370904:Unit:=()
def tw11843821730338883270:Unit:=()
def tw16358261248579210392:Unit:=()
def tw4320631406479493859:Unit:=()
def tw6748575657043904881:Unit:=()
def tw12348908572589487869:Unit:=()
def tw10660105674990325042:Unit:=()
def tw16377316194168119359:Unit:=()
def tw6323355061934104827:Unit:=()
def tw3426492432214025322:Unit:=()
def tw12297616415099188815:Unit:=()
def tw2802223912491136169:Unit:=()
def tw6402320998741516342:Unit:=()
def tw4759885159272529799:Unit:=()
def tw7597149136788225905:Unit:=()
def tw13798868168622943924:Unit:=()
def tw4295585795266492152:Unit:=()
def tw6611010767843915897:Unit:=()
def tw12932550211651023117:Unit:=()
def tw13849094457002010023:Unit:=()
def tw15342327434102366494:Unit:=()
def tw726100108491749792:Unit:=()
def tw12261948182079891227:Unit:=()
def tw15753419139123428809:Unit:=()
def tw5074277299522497609:Unit:=()
def tw7855979864631178692:Unit:=()
def tw6516361316680916035:Unit:=()
def tw11280291843869653869:Unit:=()
def tw5282280693205704605:Unit:=()
def tw2316759255160798585:Unit:=()
def tw12066752549688001511:Unit:=()
def tw9126958054962656398:Unit:=()
def tw15640305942251309700:Unit:=()
def tw18258672974419753226:Unit:=()
def tw13509549743110730313:Unit:=()
def tw1663936420772915081:Unit:=()
def tw16453100904082454612:Unit:=()
def tw6723422491017749228:Unit:=()
def tw16113871298886308996:Unit:=()
def tw9716585416089074153:Unit:=()
def tw10155666973569651187:Unit:=()
def tw172475704816093538:Unit:=()
def tw1318232085215155688:Unit:=()
def tw6738357425339393338:Unit:=()
def tw4515795885643480795:Unit:=()
def tw18259975972720825343:Unit:=()
def tw2029352842403206110:Unit:=()
def tw13701311043287815235:Unit:=()
def tw14932789614862761960:Unit:=()
def tw8445879594487284681:Unit:=()
def tw5969984601893666035:Unit:=()
def tw15536615276881223212:Unit:=()
def tw15782394708410192854:Unit:=()
def tw16941657621189804061:Unit:=()
def tw17854897527895474480:Unit:=()
def tw8318661976529629673:Unit:=()
def tw8744458444367008684:Unit:=()
def tw7059414341330564160:Unit:=()
def tw8042250458501720960:Unit:=()
def tw1151515794176424166:Unit:=()
def tw5554725238762214401:Unit:=()
def tw4602028436787567898:Unit:=()
def tw14625861481143669106:Unit:=()
def tw3496037481274164425:Unit:=()
def tw12568233712065842990:Unit:=()
def tw4042248452651041218:Unit:=()
def tw16517101592643183450:Unit:=()
def tw12934275089566968217:Unit:=()
def tw234198768352461886:Unit:=()
def tw4878101227098226797:Unit:=()
def tw7797808131951735424:Unit:=()
def tw629747506388836372:Unit:=()
def tw11700005487179097103:Unit:=()
def tw2320832989109349472:Unit:=()
def tw17490575436962170971:Unit:=()
def tw3764912249570766876:Unit:=()
def tw7455484024667437705:Unit:=()
def tw5520404139582306563:Unit:=()
def tw4402762474256913973:Unit:=()
def tw17960318263037367236:Unit:=()
def tw6787183000894471594:Unit:=()
def tw10672869522810273455:Unit:=()
def tw6689935778579943685:Unit:=()
def tw2252882092340355669:Unit:=()
def tw14684157852949513010:Unit:=()
def tw3143592541071470285:Unit:=()
def tw1677891722418986479:Unit:=()
def tw2680880188874667916:Unit:=()
def tw4706686646212975431:Unit:=()
def tw3433938057064670410:Unit:=()
def tw6999269474949245358:Unit:=()
def tw8890250193379949309:Unit:=()
def tw13343351089356516914:Unit:=()
def tw724214716895063311:Unit:=()
def tw5026639791823949726:Unit:=()
def tw13529493587485226893:Unit:=()
def tw7654657747015452458:Unit:=()
def tw708130227604531525:Unit:=()
def tw15670526325094170687:Unit:=()
def tw6671205385747142509:Unit:=()
def tw11934242382043104087:Unit:=()
def tw15431126456853479645:Unit:=()
def tw7232509268185458515:Unit:=()
def tw18028351743297803063:Unit:=()
def tw15782989738994580822:Unit:=()
def tw4127989391736286712:Unit:=()
def tw1312649807518786534:Unit:=()
def tw8623386940135800646:Unit:=()
def tw681511463495296263:Unit:=()
def tw6507936198049051236:Unit:=()
end PySem.W.Fast
open PySem PySem.W PyProof.Rows
set_option maxRecDepth 100000 in
set_option maxHeartbeats 0 in
theorem PySem.Challenge.cw_bandwright_k45_no_named_shape_holds : PySem.Challenge.rw_bandwright_k45_no_named_shape.Holds := by
 w_on;o_law;k_head;(case hw=>w_witness2)
 k_fill
 refine My.walk (l:=PySem.Challenge.rw_bandwright_k45_no_named_shape) rfl rfl (fun w h Y=>PySem.W.kIn_of Y) ?F
 case F=>
  intro w mg fa h KX G nZ
  have T:∃t,My.Txt (L2.x4 KX) mg t:=by
   dsimp only [L2.x4]
   refine' My.HF KX G ?vz ?vB ?vC ?vD ?vE ?vF ?vG ?vH ?vI (ck KX G ?Ia) (L2.dw (st:=My.q_) ?Ib ?Ic ?Ie) (ck KX G ?Ig) (L2.dw (st:=My.rd) ?Ih ?Ii ?Ij) (ck KX G ?Ik) (L2.dw (st:=My.rf) ?Il ?Im ?Io) (ck KX G ?Ip) (L2.dw (st:=My.rg) ?Iq ?Ir ?Iu) (ck KX G ?Iv) (L2.dw (st:=My.rh) ?Iw ?Iz ?IA) (ck KX G ?IC) (L2.dw (st:=My.rj) ?ID ?IE ?IF) (ck KX G ?IG) (L2.dw (st:=My.rm) ?II ?IJ ?IK) (ck KX G ?IL) (L2.dw (st:=My.rn) ?IM ?IP ?IQ) (ck KX G ?IS) (L2.dw (st:=My.rp) ?IT ?IU ?IV) (ck KX G ?IW) (L2.dw (st:=My.rq) ?IY ?IZ ?I0) (ck KX G ?I_) (L2.dw (st:=My.rz) ?Ja ?Jb ?Jc) (ck KX G ?Jd) (L2.dw (st:=My.rA) ?Je ?Jf ?Jg) (ck KX G ?Jh) (L2.dw (st:=My.rB) ?Ji ?Jj ?Jk) (ck KX G ?Jl) (L2.dw (st:=My.rC) ?Jm ?Jo ?Jp) (ck KX G ?Jq) (L2.dw (st:=My.rD) ?Jr ?Js ?Jt) (ck KX G ?Ju) (L2.dw (st:=My.rE) ?Jv ?Jw ?Jx) (ck KX G ?Jy) (L2.dw (st:=My.rF) ?Jz ?JA ?JB) (ck KX G ?JD) (L2.dw (st:=My.rG) ?JE ?JF ?JG) ?vJ ?vK ?vL ?vM ?vO ?vP ?vQ ?vR ?vS ?vU ?vV ?vW ?vX ?vY ?vZ ?v5 ?v7 ?v8 ?v9 ?v_ ?wc ?we ?wg ?wj ?wk ?wm ?wo ?wu ?wz ?wA ?wB ?wC ?wD ?wF ?wG
   (case vz|vB|vC|vD|vE|vF|vG|vH|vI|Ia|Ib|Ic|Ie|Ig|Ih|Ii|Ij|Ik|Il|Im|Io|Ip|Iq|Ir|Iu|Iv|Iw|Iz|IA|IC|ID|IE|IF|IG|II|IJ|IK|IL|IM|IP|IQ|IS|IT|IU|IV|IW|IY|IZ|I0|I_|Ja|Jb|Jc|Jd|Je|Jf|Jg|Jh|Ji|Jj|Jk|Jl|Jm|Jo|Jp|Jq|Jr|Js|Jt|Ju|Jv|Jw|Jx|Jy|Jz|JA|JB|JD|JE|JF|JG|vJ|vK|vL|vM|vO|vP|vQ|vR|vS|vU|vV|vW|vX|vY|vZ|v5=>k_is)
   (case v7|v8=>k_exc)
   (case v9|v_=>k_is)
   (case wc|we|wg|wj|wk|wm|wo|wu|wz=>kit_is)
   (case wA|wB|wC|wD|wF|wG=>k_is)
  obtain ⟨t,T⟩:=T
  have e0:=nZ.symm.trans T.zQ
  cases e0
  exact My.HE T
#print axioms PySem.Challenge.cw_bandwright_k45_no_named_shape_holds
