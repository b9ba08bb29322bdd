import PyProof.Rows.All
import Wide.All
import OpenK.AllK
import Wide.FinOn
import Lean
import PyProof.EqAt
import PyProof.EqKinds
import PyProof.TupleCall
import PySem.Challenge.RW_bandwright_k44_named_shapes
set_option Elab.async false
set_option linter.all false
set_option maxRecDepth 100000
abbrev bp:=@decide_eq_false
abbrev ae:=@if_pos
abbrev aa:=@if_neg
abbrev aX:=@PySem.Heap.lt_size
abbrev cY:=@Nat.lt_of_lt_of_le
abbrev ei:=@Nat.lt_irrefl
abbrev b_:=@Nat.ne_of_lt
abbrev nt:=@PySem.W.hideAll_get
abbrev gM:=@List.mem_filter
abbrev cN:=@List.mem_range
abbrev cO:=@Nat.le_trans
abbrev j7:=@Nat.le_of_lt
abbrev ny:=@List.filterMap_cons
abbrev gN:=@List.mem_cons_self
abbrev fU:=@List.mem_cons_of_mem
abbrev cp:=@List.mem_cons
abbrev eR:=@Ne.symm
abbrev fm:=@List.mem_append
abbrev cq:=@List.getElem?_eq_some_iff
abbrev bq:=@PySem.wpAny_mono
abbrev iz:=@PySem.wpAny_truthy_bool
abbrev fq:=@Array.length_toList
abbrev bD:=@congrArg
abbrev ak:=@PySem.wpAny_bind
abbrev gO:=@PySem.wpAny_holding
abbrev lR:=@PySem.wpAny_standAt
abbrev j8:=@Nat.ne_of_gt
abbrev aL:=@PySem.wpAny_pure
abbrev j9:=@PySem.wpAny_pyIter_tuple
abbrev a_:=@PySem.Heap.get?_push_of_some
abbrev cu:=@PySem.Heap.get?_push_size
abbrev aA:=@Nat.le_refl
abbrev nz:=@PyProof.Rows.callWith_type1
abbrev cP:=@List.mem_append_right
abbrev lS:=@PySem.wpAny_passesOwn
abbrev cG:=@Nat.zero_le
abbrev nA:=@Bool.eq_iff_iff
abbrev bJ:=@Bool.false_ne_true
abbrev ek:=@PySem.W.kia_one
abbrev i5:=@List.append_nil
abbrev lU:=@PySem.codeAny_mono
abbrev nB:=@PySem.wpAny_Call_Name_kw
abbrev nC:=@List.nodup_cons
abbrev nE:=@List.length_take
abbrev gP:=@PySem.mem_of_lookup
abbrev fV:=@List.getElem?_append_right
abbrev fW:=@List.getElem?_append_left
abbrev dP:=@List.getElem?_map
abbrev dz:=@List.length_append
abbrev b8:=@List.length_map
abbrev j_:=@PySem.wpAny_loadPart'
abbrev dm:=@List.length_cons
abbrev aG:=@decide_eq_true
abbrev gQ:=@Int.toNat_natCast
abbrev cQ:=@PySem.wpAny_field
abbrev bO:=@List.size_toArray
abbrev gR:=@PySem.wpAny_callSpecial?_slot
abbrev ka:=@PyProof.Rows.slot_tuple_getitem
abbrev fX:=@PySem.wpAny_call_entry
abbrev i6:=@Bool.and_eq_true
abbrev fu:=@PySem.wpAny_newObj_type
abbrev qe:=@PySem.Heap.get?_update_self
abbrev cw:=@PySem.W.mg_of
abbrev qf:=@PySem.F.typeOf_object_class
abbrev nF:=@PySem.codeAny_call_builtin
abbrev lV:=@PySem.wpAny_loadPart_at
abbrev nG:=@Bool.eq_false_iff
abbrev kd:=@Bool.false_or
abbrev qg:=@PySem.wpAny_comprehension_free
abbrev iA:=@PySem.lookup_relabel_local
abbrev qh:=@PySem.codeAny_compStart_list
abbrev gS:=@List.getD_eq_getElem?_getD
abbrev iB:=@List.mem_singleton
abbrev lW:=@Nat.sub_self
abbrev ai:=@PyProof.Rows.wpS_bind
abbrev en:=@PyProof.Rows.wpS_get
abbrev lY:=@PySem.wpAny_attempt
abbrev ah:=@PyProof.Rows.wpS_pure
abbrev cZ:=@PyProof.Rows.wpS_forRange
abbrev dg:=@PyProof.Rows.wpS_mono
abbrev nH:=@List.perm_append_comm
abbrev ke:=@List.take_append_drop
abbrev et:=@List.append_assoc
abbrev qi:=@List.Perm.append_left
abbrev gT:=@Int.le_refl
abbrev lZ:=@List.pairwise_iff_getElem
abbrev fv:=@PyProof.Rows.wpS_modify
abbrev cR:=@of_decide_eq_true
abbrev bW:=@Int.le_trans
abbrev iC:=@Array.toList_push
abbrev fY:=@Array.toList_append
abbrev eS:=@PySem.wpAny_rule
abbrev bP:=@Int.le_of_lt
abbrev nI:=@Array.toList_reverse
abbrev iD:=@List.mem_reverse
abbrev kf:=@List.reverse_perm
abbrev c0:=@Nat.zero_add
abbrev l5:=@Array.perm_iff_toList_perm
abbrev fZ:=@List.getElem?_eq_getElem
abbrev gU:=@List.getElem_mem
abbrev i7:=@decide_eq_decide
abbrev l6:=@List.ext_getElem
abbrev l7:=@List.length_range
abbrev kg:=@PySem.Heap.get?_push_ne
abbrev nJ:=@Nat.lt_succ_of_lt
abbrev nK:=@PySem.Heap.get?_update_ne
abbrev eT:=@List.mem_map
abbrev l8:=@List.pairwise_map
abbrev nM:=@List.filter_sublist
abbrev l9:=@List.pairwise_cons
abbrev fz:=@Prod.mk.injEq
abbrev i8:=@PySem.wpAny_seqItems
abbrev nN:=@PySem.Obj.data_mapFields
abbrev nO:=@PySem.Heap.SameBut.update
abbrev f9:=@PySem.wpAny_setField_rec
abbrev kh:=@PySem.Heap.size_push
abbrev f_:=@List.not_mem_nil
abbrev gc:=@or_false
abbrev nQ:=@PySem.F.slot_zip_next
abbrev l_:=@Nat.le_add_right
abbrev qj:=@List.getElem?_zip_eq_some
abbrev qk:=@List.nodup_iff_pairwise_ne
abbrev ql:=@List.perm_ext_iff_of_nodup
abbrev ki:=@decide_eq_true_iff
abbrev nR:=@PySem.F.slot_tuple_iterator_next
abbrev nS:=@PySem.F.slot_enumerate_next
abbrev ma:=@List.getElem?_range
abbrev nU:=@List.nodup_append
abbrev eU:=@PySem.boot_len
abbrev ey:=@Int.zero_add
abbrev kj:=@PySem.PassesOwn.never
abbrev dQ:=@PySem.W.mg_none_of
abbrev Fh:=List (List (Int×Int))
abbrev c_:=List (Int×Int)
abbrev Fm:=Nat→Nat→Int
abbrev bQ:=PySem.Str→Option PySem.Value
abbrev ay:=PySem.Value→PySem.Shared→Prop
abbrev aB:=PySem.W.Frag
abbrev aD:=List (PySem.Addr×PySem.Obj)
namespace L2
open PySem PySem.Spec PyProof.Rows
abbrev Key:=Sum Int Str
def tf:Key→Value→Bool
 | .inl k,v=>Value.isInt k v
 | .inr x,v=>Value.isStrOf x v
def xv(w:World):Key→Int
 | .inl k=>hashInt k
 | .inr x=>hashStr w x
theorem gW:∀{k:Key} {v:Value},tf k v=true→(∃i t,k=Sum.inl i∧v=Value.int i t)∨(∃x t,k=Sum.inr x∧v=Value.str x t)
 | .inl i,v,h=>by obtain ⟨t,e⟩:=Value.isInt_shape (k:=i) (v:=v) h;exact .inl ⟨i,t,rfl,e⟩
 | .inr x,v,h=>by obtain ⟨t,e⟩:=Value.isStrOf_shape (x:=x) (v:=v) h;exact .inr ⟨x,t,rfl,e⟩
theorem xw(a b:Int):decide ((Sum.inl a:Key)=Sum.inl b)=(a == b):=by
 by_cases e:a=b;·subst e;simp
 ·have h:¬(Sum.inl a:Key)=Sum.inl b:=fun q=>e (Sum.inl.inj q)
  rw [bp h];exact (beq_eq_false_iff_ne.mpr e).symm
theorem xx(a b:Str):decide ((Sum.inr a:Key)=Sum.inr b)=decide (a=b):=by
 by_cases e:a=b;·subst e;simp
 ·have h:¬(Sum.inr a:Key)=Sum.inr b:=fun q=>e (Sum.inr.inj q)
  rw [bp h,bp e]
theorem xy(a:Int)(b:Str):decide ((Sum.inl a:Key)=Sum.inr b)=false:=bp (fun q=>nomatch q)
theorem xA(a:Str)(b:Int):decide ((Sum.inr a:Key)=Sum.inl b)=false:=bp (fun q=>nomatch q)
def tj(prog:Program)(w:World):PySem.KeyKind prog w Key where
 is:=tf
 hash:=xv w
 inj:=fun v a b ha hb=>by
  rcases gW ha with ⟨i,t,rfl,rfl⟩ | ⟨x,t,rfl,rfl⟩
  ·rcases gW hb with ⟨j,u,rfl,e⟩ | ⟨y,u,rfl,e⟩
   ·injection e with e1 _;rw [e1]
   ·exact nomatch e
  ·rcases gW hb with ⟨j,u,rfl,e⟩ | ⟨y,u,rfl,e⟩
   ·exact nomatch e
   ·injection e with e1 _;rw [e1]
 byValue:=fun k v h=>by
  rcases gW h with ⟨i,t,rfl,rfl⟩ | ⟨x,t,rfl,rfl⟩ <;> rfl
 pyHash:=fun hv h=>by
  rcases gW hv with ⟨i,t,rfl,rfl⟩ | ⟨x,t,rfl,rfl⟩
  ·exact wpAny_pyHash_int h
  ·exact wpAny_pyHash_str h
 eqBool:=fun hu hv h=>by
  rcases gW hu with ⟨i,t,rfl,rfl⟩ | ⟨x,t,rfl,rfl⟩
  ·rcases gW hv with ⟨j,u,rfl,rfl⟩ | ⟨y,u,rfl,rfl⟩
   ·rw [xw] at h;exact wpAny_eqBool_int h
   ·rw [xy] at h;exact SeqAt.EqAt.int_str i t y u _ _ _ _ h
  ·rcases gW hv with ⟨j,u,rfl,rfl⟩ | ⟨y,u,rfl,rfl⟩
   ·rw [xA] at h;exact SeqAt.EqAt.str_int x t j u _ _ _ _ h
   ·rw [xx] at h;exact wpAny_eqBool_str h
 «strs»:=fun k x t v h=>by
  rcases gW h with ⟨i,u,rfl,e⟩ | ⟨y,u,rfl,e⟩
  ·exact nomatch e
  ·injection e with e1 _
   subst e1
   cases v <;> rfl
inductive V where
 | aN | bl (b:Bool) | int (i:Int) | str (x:Str) | fA (b:Array UInt8) | kl (b:UInt64) | ref (a:Addr) | ty (n:String)
 deriving DecidableEq
def RelV:V→Value→Prop
 | .aN,u=>u=Value.none
 | .bl b,u=>u=Value.bool b
 | .int i,u=>∃t,u=Value.int i t
 | .str x,u=>∃t,u=Value.str x t
 | .fA b,u=>∃t,u=Value.bytes b t
 | .kl b,u=>∃t,u=Value.float b t
 | .ref a,u=>u=Value.ref a
 | .ty n,u=>u=Value.type n
abbrev Vals:List V→List Value→Prop:=Paired RelV
variable {xs:List V} {us:List Value}
theorem Vals.length(r:Vals xs us):xs.length=us.length:=Paired.length r
theorem Vals.get:∀{xs:List V} {us:List Value} {i:Nat} {x:V},Vals xs us→xs[i]?=some x→∃u,us[i]?=some u∧RelV x u
 | _,_,_,_,.nil,e=>by simp at e
 | _,_,0,_,.cons r _,e=>by simp at e;subst e;exact ⟨_,rfl,r⟩
 | _,_,i+1,x,.cons _ t,e=>by
  obtain ⟨u,h1,h2⟩:=Vals.get (i:=i) (x:=x) t (by simpa using e)
  exact ⟨u,by simpa using h1,h2⟩
theorem Vals.set{x:V}{u:Value}(r:RelV x u):∀{xs:List V} {us:List Value} (i:Nat),Vals xs us→Vals (xs.set i x) (us.set i u)
 | _,_,_,.nil=>.nil
 | _,_,0,.cons _ t=>.cons r t
 | _,_,i+1,.cons q t=>.cons q (Vals.set r i t)
theorem Vals.append:∀{xs ys:List V} {us ws:List Value},Vals xs us→Vals ys ws→Vals (xs++ys) (us++ws)
 | _,_,_,_,.nil,s=>s
 | _,_,_,_,.cons r t,s=>.cons r (Vals.append t s)
theorem Vals.take:∀{xs:List V} {us:List Value} (n:Nat),Vals xs us→Vals (xs.take n) (us.take n)
 | _,_,0,_=>.nil
 | _,_,_+1,.nil=>.nil
 | _,_,n+1,.cons r t=>.cons r (Vals.take n t)
theorem Vals.drop:∀{xs:List V} {us:List Value} (n:Nat),Vals xs us→Vals (xs.drop n) (us.drop n)
 | _,_,0,r=>r
 | _,_,_+1,.nil=>.nil
 | _,_,n+1,.cons _ t=>Vals.drop n t
theorem Vals.none_of:∀{xs:List V} {us:List Value} {i:Nat},Vals xs us→xs[i]?=none→us[i]?=none:=fun{xs us i} r e=>by have h1:=r.length;have h2:xs.length≤i:=List.getElem?_eq_none_iff.mp e;exact List.getElem?_eq_none_iff.mpr (by omega)
def qm:Option V→Option Value→Prop
 | some v,some u=>RelV v u
 | none,none=>True
 | _,_=>False
def KV{κ:Type}:List (κ×V)→List (κ×Value)→Prop:=Paired fun(p:κ×V) (q:κ×Value)=>p.1=q.1∧RelV p.2 q.2
def kV:Key→V
 | .inl i=>.int i
 | .inr x=>.str x
inductive HO where
 | lst (xs:List V)
 | tup (xs:List V)
 | dK (bR:List (Key×V)) | dT (bR:List (List Key×V))
 | set (S:Int→Bool) (n:Nat)
 | ins (C dx:Addr) (fs:List (Str×V))
 | own (x:Addr)
 | xd (fs:List (Str×V))
 | met (f x:Addr)
 | qo (lo hi:Int)
 | dn (o:Obj) (u:HO)
 | gX (ps:Array Value)
 | ext (φ:Heap→Prop)
abbrev Hp:=Addr→Option HO
def upd(H:Hp)(a:Addr)(o:HO):Hp:=fun b=>if b=a then some o else H b
variable {H:Hp} {a:Addr} {o:HO}
theorem aP:upd H a o a=some o:=by unfold upd;rw [ae rfl]
variable {b:Addr}
theorem bt(h:b≠a):upd H a o b=H b:=by unfold upd;rw [aa h]
theorem gf(h:H a=some o)(h':H b=none):a≠b:=by intro e;subst e;rw [h] at h';cases h'
section
variable (P:Program) (w:World)
def cx(H:Hp)(h:Heap)(a:Addr):HO→Prop
 | .lst xs=>xs.length≤sizeLine∧∃(aj:List Value) (n:Nat),Vals xs aj∧h.get? a=some {cls:=.type "list",data:=.seq aj.toArray n}
 | .tup xs=>xs.length≤sizeLine∧∃aj:List Value,Vals xs aj∧IsTup h a aj.toArray
 | .dK bR=>bR.length≤sizeLine∧(a == sysModules)=false∧∃vs,KV bR vs∧h.DictOf (tj P w) a vs
 | .dT bR=>bR.length≤sizeLine∧(a == sysModules)=false∧∃xs:List (List Key×Addr×Value),
   Paired (fun(p:List Key×V) (q:List Key×Addr×Value)=>p.1=q.1∧H q.2.1=some (.tup (p.1.map kV))∧RelV p.2 q.2.2) bR xs ∧
   ∃o es ep,h.get? a=some o∧o.ExactDict∧o.data=.dict es ep∧es.toList=xs.map (entryOfKey (tupleKind (tj P w)))∧(xs.map (·.1)).Nodup
 | .set S n=>h.SetOf (intKind P w) a S n
 | .ins C dx fs=>H dx=some (.own a)∧fs.length≤1000∧dx≠a∧h.get? a=some (PySem.W.instObj C dx) ∧
   ∃mA,h.Ns1 dx mA∧(∀f,qm (fs.lookup f) (mA f))∧PySem.Within mA (fs.map (·.1))
 | .own _=>∃o,h.get? a=some o
 | .xd fs=>∃mA,h.Ns1 a mA∧∀f,qm (fs.lookup f) (mA f)
 | .qo lo hi=>∃t u v,h.get? a=some {cls:=.type "range",data:=.fields #[.int lo t,.int hi u,.int 1 v]}
 | .dn o u=>h.get? a=some o∧cx H h a u
 | .gX ps=>h.get? a=some {cls:=.none,data:=.fields ps}
 | .met f x=>h.get? a=some (PySem.W.methodObj (.ref f) (.ref x))
 | .ext φ=>φ h∧(∃o,h.get? a=some o)∧∀h1 h2:Heap,φ h1→(∀o,h1.get? a=some o→h2.get? a=some o)→φ h2
def bG(H:Hp)(h:Heap):Prop:=∀a o,H a=some o→cx P w H h a o
end
section
variable {P:Program} {w:World} {H H':Hp} {h h':Heap} {a:Addr} {o:HO}
theorem cx.lt(x:cx P w H h a o):a<h.objs.size:=by
 cases o with
 | lst xs=>obtain ⟨_,_,_,_,e⟩:=x;exact aX e
 | tup xs=>obtain ⟨_,_,_,p⟩:=x;exact p.lt
 | dK bR=>obtain ⟨_,_,_,_,o,_,_,e,_⟩:=x;exact aX e
 | dT bR=>obtain ⟨_,_,_,_,o,_,_,e,_⟩:=x;exact aX e
 | set S n=>obtain ⟨o,_,_,_,e,_⟩:=x;exact aX e
 | ins C dx fs=>obtain ⟨_,_,_,e,_⟩:=x;exact aX e
 | own y=>obtain ⟨_,e⟩:=x;exact aX e
 | xd fs=>obtain ⟨_,⟨_,_,_,e,_⟩,_⟩:=x;exact aX e
 | qo lo hi=>obtain ⟨_,_,_,e⟩:=x;exact aX e
 | dn ob u=>obtain ⟨e,_⟩:=x;exact aX e
 | gX ps=>exact aX (show h.get? a=some _ from x)
 | met f y=>exact aX (show h.get? a=some _ from x)
 | ext φ=>obtain ⟨_,⟨_,e⟩,_⟩:=x;exact aX e
theorem Paired.tm{α β:Type}{F G:α→β→Prop}:∀{l₁:List α} {l₂:List β},Paired F l₁ l₂→(∀a b,F a b→G a b)→Paired G l₁ l₂
 | _,_,.nil,_=>.nil
 | _,_,.cons r t,f=>.cons (f _ _ r) (Paired.tm t f)
theorem cx.eA(x:cx P w H h a o)(k:∀b u,(b=a∨H b=some (.own a))→h.get? b=some u→h'.get? b=some u)
  (ho:∀b,H b=some (.own a)→H' b=some (.own a)) (ht:∀b xs,H b=some (.tup xs)→H' b=some (.tup xs)):cx P w H' h' a o:=by
 induction o with
 | lst xs=>obtain ⟨z,aj,n,r,e⟩:=x;exact ⟨z,aj,n,r,k _ _ (.inl rfl) e⟩
 | tup xs=>obtain ⟨z,aj,r,ob,e,c⟩:=x;exact ⟨z,aj,r,ob,k _ _ (.inl rfl) e,c⟩
 | dK bR=>obtain ⟨z,y,vs,r,ob,es,ep,e,c⟩:=x;exact ⟨z,y,vs,r,ob,es,ep,k _ _ (.inl rfl) e,c⟩
 | dT bR=>obtain ⟨z,y,xs,r,ob,es,ep,e,c⟩:=x;exact ⟨z,y,xs,Paired.tm r fun p q z=>⟨z.1,ht _ _ z.2.1,z.2.2⟩,ob,es,ep,k _ _ (.inl rfl) e,c⟩
 | set S n=>obtain ⟨ob,es,ep,t,e,c⟩:=x;exact ⟨ob,es,ep,t,k _ _ (.inl rfl) e,c⟩
 | ins C dx fs=>obtain ⟨d,z,ne,e,mA,⟨od,es,ep,e2,c⟩,r⟩:=x;exact ⟨ho _ d,z,ne,k _ _ (.inl rfl) e,mA,⟨od,es,ep,k _ _ (.inr d) e2,c⟩,r⟩
 | own y=>obtain ⟨ob,e⟩:=x;exact ⟨ob,k _ _ (.inl rfl) e⟩
 | xd fs=>obtain ⟨mA,⟨od,es,ep,e,c⟩,r⟩:=x;exact ⟨mA,⟨od,es,ep,k _ _ (.inl rfl) e,c⟩,r⟩
 | qo lo hi=>obtain ⟨t,u,v,e⟩:=x;exact ⟨t,u,v,k _ _ (.inl rfl) e⟩
 | dn ob u ih=>obtain ⟨e,q⟩:=x;exact ⟨k _ _ (.inl rfl) e,ih q⟩
 | gX ps=>have e:h.get? a=some {cls:=.none,data:=.fields ps}:=x;show h'.get? a=some {cls:=.none,data:=.fields ps};exact k a _ (.inl rfl) e
 | met f y=>have e:h.get? a=some (PySem.W.methodObj (.ref f) (.ref y)):=x;show h'.get? a=some (PySem.W.methodObj (.ref f) (.ref y));exact k a _ (.inl rfl) e
 | ext φ=>obtain ⟨p,⟨o,e⟩,st⟩:=x;exact ⟨st _ _ p fun o q=>k _ _ (.inl rfl) q,⟨o,k _ _ (.inl rfl) e⟩,st⟩
theorem bG.lt(x:bG P w H h)(e:H a=some o):a<h.objs.size:=(x a o e).lt
theorem bG.fresh(x:bG P w H h)(e:h.objs.size≤a):H a=none:=by
 cases q:H a with
 | none=>rfl
 | some u=>exact absurd (cY (x.lt q) e) (ei _)
theorem bG.kept(x:bG P w H h)(k:∀b u,h.get? b=some u→h'.get? b=some u):bG P w H h':=fun a o e=>(x a o e).eA (fun b u _ q=>k b u q) (fun _ q=>q) fun _ _ q=>q
theorem bG.laid(x:bG P w H h)(k:∀b u,h.get? b=some u→h'.get? b=some u)(hp:h.objs.size≤a)(new:cx P w (upd H a o) h' a o):bG P w (upd H a o) h':=fun b u e=>by
 have hn:=x.fresh hp;by_cases hb:b=a;·subst hb;rw [aP] at e;cases e;exact new
 ·rw [bt hb] at e
  exact (x b u e).eA (fun c v _ q=>k c v q) (fun c q=>by rw [bt (gf q hn)];exact q) fun c xs q=>by rw [bt (gf q hn)];exact q
end
def Rd(H:Hp)(a:Addr)(u:HO):Prop:=H a=some u∨∃o,H a=some (.dn o u)
variable {P:Program} {w:World} {h:Heap}
theorem Rd.ok{u:HO}(r:Rd H a u)(x:bG P w H h):cx P w H h a u:=by
 rcases r with r | ⟨o,r⟩;·exact x a u r
 ·obtain ⟨_,q⟩:=x a _ r
  exact q
def nV:Option HO→Prop
 | some (.lst _)=>True
 | some (.dK _)=>True
 | some (.dT _)=>True
 | some (.set _ _)=>True
 | some (.ins _ _ _)=>True
 | some (.ext _)=>True
 | _=>False
section
variable {P:Program} {w:World} {H:Hp} {h h':Heap} {x e:Addr} {o':HO}
theorem bG.write(ok:bG P w H h)(mu:nV (H x))(he:e=x∨H e=some (.own x))(k:∀b u,b≠e→h.get? b=some u→h'.get? b=some u)(km:∃u,h'.get? e=some u)
  (new:cx P w (upd H x o') h' x o'):bG P w (upd H x o') h':=fun b u q=>by
 have tD:∀c y,H c=some (.own y)→c≠x:=fun c y r z=>by subst z;rw [r] at mu;exact mu
 have xB:∀c xs,H c=some (.tup xs)→c≠x:=fun c xs r z=>by subst z;rw [r] at mu;exact mu
 by_cases hb:b=x;·subst hb;rw [aP] at q;cases q;exact new
 ·rw [bt hb] at q
  by_cases dA:b=e
  ·have q':H b=some (.own x):=by
    rcases he with z | z;·exact absurd (dA.trans z) hb
    ·rw [dA];exact z
   rw [q] at q';cases q';obtain ⟨v,hv⟩:=km;exact ⟨v,by rw [dA];exact hv⟩
  ·refine (ok b u q).eA (fun c v hc r=>k c v ?_ r) (fun c r=>by rw [bt (tD c b r)];exact r) fun c xs r=>by rw [bt (xB c xs r)];exact r
   rcases hc with rfl | hc;·exact dA
   ·rintro rfl
    rcases he with z | z;·exact tD c b hc z
    ·rw [hc] at z;cases z;exact hb rfl
end
structure Un (fs ex:List Addr) (H H':Hp) (h h':Heap):Prop where
 keep:∀b o,h.get? b=some o→H b=none→b∉fs→b∉ex→h'.get? b=some o
 slot:∀b o,h.get? b=some o→H b=none→b∈fs→b∉ex→∃sl,h'.get? b=some {o with slots:=sl}
 free:∀b o,h.get? b=some o→H b=none→b∉ex→H' b=none
 there:∀b o,h.get? b=some o→b∉ex→∃o',h'.get? b=some o'
 eB:∀b xs,H b=some (.tup xs)→H' b=some (.tup xs)
 dR:∀b o u,H b=some (.dn o u)→H' b=some (.dn o u)
 eC:∀b ps,H b=some (.gX ps)→∃more,H' b=some (.gX (ps++more))
section
variable {fs qp ex qq:List Addr} {H H1 H2:Hp} {h h1 h2 h':Heap} {a x e:Addr} {o:HO}
theorem Un.any(u:Un fs ex H H1 h h1){ob:Obj}(q:h.get? b=some ob)(n:H b=none)(hx:b∉ex):∃sl,h1.get? b=some {ob with slots:=sl}:=by
 by_cases hb:b∈fs;·exact u.slot b ob q n hb hx
 ·exact ⟨ob.slots,u.keep b ob q n hb hx⟩
theorem Un.kept(k:∀b u,h.get? b=some u→h'.get? b=some u):Un fs ex H H h h':=
 ⟨fun b ob q _ _ _=>k b ob q,fun b ob q _ _ _=>⟨ob.slots,k b ob q⟩,fun _ _ _ n _=>n,fun b ob q _=>⟨ob,k b ob q⟩,fun _ _ q=>q,fun _ _ _ q=>q,fun _ ps q=>⟨#[],by rw [q];simp⟩⟩
theorem Un.refl:Un fs ex H H h h:=Un.kept fun _ _ q=>q
theorem Un.laid(k:∀b u,h.get? b=some u→h'.get? b=some u)(hp:h.objs.size≤a)(hn:H a=none):Un fs ex H (upd H a o) h h' where
 keep:=fun b u q _ _ _=>k b u q
 slot:=fun b u q _ _ _=>⟨u.slots,k b u q⟩
 free:=fun b u q n _=>by rw [bt (b_ (cY (aX q) hp))];exact n
 there:=fun b u q _=>⟨u,k b u q⟩
 eB:=fun b xs q=>by rw [bt (gf q hn)];exact q
 dR:=fun b u xs q=>by rw [bt (gf q hn)];exact q
 eC:=fun b ps q=>⟨#[],by rw [bt (gf q hn),q];simp⟩
theorem Un.write(mu:nV (H x))(he:e=x∨H e=some (.own x))(k:∀b u,b≠e→h.get? b=some u→h'.get? b=some u)(km:∃u,h'.get? e=some u):Un fs ex H (upd H x o) h h':=by
 have hx:∀b,H b=none→b≠x:=fun b n z=>by subst z;rw [n] at mu;exact mu
 have hb:∀b,H b=none→b≠e:=fun b n z=>by
  subst z;rcases he with r | r;·exact hx b n r
  ·rw [n] at r;cases r
 have hm:∀b u,H b=some u→¬nV (some u)→b≠x:=fun b u q nm z=>by subst z;rw [q] at mu;exact nm mu
 refine ⟨fun b u q n _ _=>k b u (hb b n) q,fun b u q n _ _=>⟨u.slots,k b u (hb b n) q⟩,fun b u q n _=>by rw [bt (hx b n)];exact n,fun b u q _=>?_,
  fun b xs q=>by rw [bt (hm b _ q fun z=>z)];exact q,fun b u xs q=>by rw [bt (hm b _ q fun z=>z)];exact q,fun b ps q=>⟨#[],by rw [bt (hm b _ q fun z=>z),q];simp⟩⟩
 by_cases dA:b=e;·subst dA;exact km
 ·exact ⟨u,k b u dA q⟩
end
def nW(h:Heap)(H:Hp):List Addr:=(List.range h.objs.size).filter fun a=>(H a).isSome
def gY(h:Heap)(H:Hp):Heap:=PySem.W.hideAll h (nW h H)
theorem xC(h:Heap)(H:Hp):(gY h H).objs.size=h.objs.size:=PySem.W.hideAll_size _ _
theorem xD{o:Obj}(e:h.get? b=some o)(n:H b=none):(gY h H).get? b=some o:=
 nt _ e fun hm=>by have q:(H b).isSome=true:=(gM.mp hm).2;rw [n] at q;simp at q
theorem xE{o:Obj}(e:(gY h H).get? b=some o):h.get? b=some o∧H b=none:=by
 have e':h.get? b=some o:=PySem.W.of_hideAll (nW h H) e;refine ⟨e',?_⟩;cases q:H b with
 | none=>rfl
 | some x=>
  have hm:b∈nW h H:=gM.mpr ⟨cN.mpr (aX e'),by simp [q]⟩
  have z:(gY h H).get? b=none:=PySem.W.hideAll_none (nW h H) hm;rw [z] at e;cases e
structure Mod (K:aB) (mg:bQ) (base:Heap):Prop where
 bS:K.In base
 glob:base.Ns mainGlobals mg
 blt:∃mb,base.Ns builtinsNs mb∧∀x:Str,x ≠ "__name__"→mb x=bootBuiltins x
 nolimit:base.NoLimit
structure Cx where
 prog:Program
 w:World
 K:PySem.W.Frag
 mg:Str→Option Value
 base:Heap
 A:Around
 N:List Str
 s₀:Shared
 H₀:Hp
 env:Env
 outer:List Env
 stack:List Env
 ex:List Addr
 fn:Str→Bool
 calm:Bool
 pn:List (Addr×Obj)
 xe:Value→Shared→Prop
def bK(l:List Env):List Addr:=l.filterMap (·.frame)
abbrev Cx.fs (X:Cx):List Addr:=bK X.outer
def i9(sc:Scope)(x:Str):Prop:=sc.names.lookup x=some .local∨sc.names.lookup x=some .cell∨sc.names.lookup x=some .free
def Loc(sc:Scope)(x:Str):Prop:=sc.names.lookup x=some .local∨sc.names.lookup x=some .cell
def Look(env:Env)(h:Heap)(m:bQ)(x:Str)(u:Value):Prop:=
 (env.kindOf x=some .local∧m x=some u)∨((env.kindOf x=some .cell∨env.kindOf x=some .free)∧∃c,env.cells.lookup x=some c∧h.IsCell c (some u))
structure Cx.Ok (X:Cx):Prop where
 mod:Mod X.K X.mg X.base
 kind:X.env.scope.kind=.function
 glob:X.env.globals=mainGlobals
 blt:X.env.builtins=builtinsNs
 above:X.s₀.heap.objs.size≤X.env.locals
 inj:∀x y c,X.env.cells.lookup x=some c→X.env.cells.lookup y=some c→x=y
 has:∀x,(X.env.kindOf x=some .cell∨X.env.kindOf x=some .free)→∃c,X.env.cells.lookup x=some c
 md:∀x c,X.fn x=true→X.env.cells.lookup x=some c→X.s₀.heap.objs.size≤c
 hd:X.calm=true→X.A.handled=none
 frames:X.A.frames=some X.stack
 gZ:X.stack=X.outer∨(X.stack=X.env::X.outer∧X.env.frame=some X.env.locals)
 tE:∀b∈X.ex,b≠X.env.locals∧∀x c,X.env.cells.lookup x=some c→c≠b
 bs:∀b o,X.base.get? b=some o→X.s₀.heap.get? b=some o∧X.H₀ b=none
 eV:X.base.objs.size≤X.s₀.heap.objs.size
 i_:∀b o,X.base.get? b=some o→b∉X.ex
 ja:∀b∈X.ex,b∉X.fs
 fB:X.s₀.heap.FunFrames X.base X.outer
 jb:∀b∈X.fs,X.H₀ b=none
structure Inv (X:Cx) (pins:aD) (σ:List (Option V)) (H:Hp) (s:Shared):Prop where
 ok:X.Ok
 os:s.os=X.s₀.os
 bare:AllBare s.gens
 base:Un X.fs X.ex X.H₀ H X.s₀.heap s.heap
 loc:∃m,s.heap.Ns X.env.locals m∧∀(i:Nat) (x:Str) (v:V),X.N[i]?=some x→σ[i]?=some (some v)→i9 X.env.scope x→∃u,RelV v u∧Look X.env s.heap m x u
 cell:∀x c,X.env.cells.lookup x=some c→∃v,s.heap.IsCell c v
 free:H X.env.locals=none
 eW:∀x c,X.env.cells.lookup x=some c→H c=none
 pin:∀p∈X.pn++pins,s.heap.get? p.1=some p.2∧H p.1=none∧p.1≠X.env.locals∧p.1∉X.fs∧∀v,p.2.data≠.cell v
 ax:bG X.prog X.w H s.heap
 len:σ.length=X.N.length
section
variable {X:Cx} {pins:aD} {σ:List (Option V)} {H H':Hp} {s:Shared} {h':Heap}
theorem Cx.Ok.xF(ok:X.Ok){o:Obj}(e:X.base.get? b=some o):b∉X.fs:=fun hb=>by have:=(ok.fB.mem hb).1;rw [e] at this;cases this
theorem Inv.bs(I:Inv X pins σ H s):∀b o,X.base.get? b=some o→s.heap.get? b=some o∧H b=none:=fun b o e=>⟨I.base.keep b o (I.ok.bs b o e).1 (I.ok.bs b o e).2 (I.ok.xF e) (I.ok.i_ b o e),I.base.free b o (I.ok.bs b o e).1 (I.ok.bs b o e).2 (I.ok.i_ b o e)⟩
theorem Inv.bk(I:Inv X pins σ H s):∀b o,X.base.get? b=some o→s.heap.get? b=some o:=fun b o e=>(I.bs b o e).1
theorem Inv.mod(I:Inv X pins σ H s):Mod X.K X.mg X.base:=I.ok.mod
theorem Inv.cS(I:Inv X pins σ H s):X.K.In s.heap:=I.ok.mod.bS.keeps I.bk
theorem Inv.lt(I:Inv X pins σ H s):X.env.locals<s.heap.objs.size:=let ⟨_,hn,_⟩:=I.loc;hn.lt
theorem Inv.sz(I:Inv X pins σ H s):X.s₀.heap.objs.size≤s.heap.objs.size:=cO I.ok.above (j7 I.lt)
theorem Inv.xG(I:Inv X pins σ H s)(h:s.heap.objs.size≤a):a∉X.fs:=fun hb=>by obtain ⟨_,o,ho,_⟩:=I.ok.fB.mem hb;exact absurd (cY (aX ho) (cO I.sz h)) (ei _)
theorem Inv.jc(I:Inv X pins σ H s):∀x c,X.env.cells.lookup x=some c→c≠X.env.locals:=fun x c e z=>by obtain ⟨v,o,ho,hd⟩:=I.cell x c e;obtain ⟨m,⟨o',es,ep,g6,xH,_⟩,_⟩:=I.loc;rw [z,g6] at ho;cases ho;rw [xH] at hd;cases hd
theorem Inv.fB(I:Inv X pins σ H s):s.heap.FunFrames X.base X.outer:=by
 have all:∀(l:List Env),(∀b∈bK l,b∈X.fs)→X.s₀.heap.FunFrames X.base l→s.heap.FunFrames X.base l:=by
  intro l
  induction l with
  | nil=>intro _ _;trivial
  | cons env r ih=>
   intro hs hl;obtain ⟨hk,⟨L,o,hf,hn,ho,hd⟩,hr⟩:=hl;have hL:L∈X.fs:=hs L (by unfold bK;rw [ny,hf];exact gN)
   obtain ⟨sl,e⟩:=I.base.slot L o ho (I.ok.jb L hL) hL fun z=>I.ok.ja L z hL;exact ⟨hk,⟨L,_,hf,hn,e,hd⟩,ih (fun b hb=>hs b (by unfold bK;rw [ny,hf];exact fU _ hb)) hr⟩
 exact all X.outer (fun _ hb=>hb) I.ok.fB
theorem Inv.stack(I:Inv X pins σ H s):s.heap.FunFrames X.base X.stack:=by
 rcases I.ok.gZ with e | ⟨e,hf⟩;·rw [e];exact I.fB
 ·rw [e]
  obtain ⟨m,hn,_⟩:=I.loc;refine .cons (by rw [I.ok.kind];decide) hf hn ?_ I.fB
  exact Heap.get?_none_of_le (cO I.ok.eV I.ok.above)
theorem Inv.me(I:Inv X pins σ H s):∀b∈bK X.stack,b∈X.env.locals::X.fs:=fun b hb=>by
 rcases I.ok.gZ with e | ⟨e,hf⟩;·rw [e] at hb;exact fU _ hb
 ·rw [e] at hb
  unfold bK at hb;rw [ny,hf] at hb;exact hb
theorem Inv.mf(I:Inv X pins σ H s):∀b∈bK X.stack,H b=none:=fun b hb=>by
 rcases cp.mp (I.me b hb) with e | hb;·rw [e];exact I.free
 ·obtain ⟨_,o,ho,_⟩:=I.ok.fB.mem hb
  exact I.base.free b o ho (I.ok.jb b hb) fun z=>I.ok.ja b z hb
variable {g':Array GenState} {t':Nat} {d':Drawn} {ch:List Addr}
theorem Inv.step(I:Inv X pins σ H s)
  (gg:∀b∈ch,(b∈X.ex∨X.s₀.heap.objs.size≤b)∧b≠X.env.locals∧(∀x c,X.env.cells.lookup x=some c→c≠b)∧∀p∈X.pn++pins,p.1≠b)
  (keep:∀b o,b≠X.env.locals→b∉X.fs→b∉ch→s.heap.get? b=some o→H b=none→h'.get? b=some o)
  (slot:∀b o,b≠X.env.locals→b∈X.fs→b∉ch→s.heap.get? b=some o→H b=none→∃sl,h'.get? b=some {o with slots:=sl}) (free:∀b o,b∉ch→s.heap.get? b=some o→H b=none→H' b=none)
  (there:∀b o,b∉ch→s.heap.get? b=some o→∃o',h'.get? b=some o')
  (eB:∀b xs,H b=some (.tup xs)→H' b=some (.tup xs)) (dR:∀b o u,H b=some (.dn o u)→H' b=some (.dn o u)) (eC:∀b ps,H b=some (.gX ps)→∃more,H' b=some (.gX (ps++more)))
  (ns:∀m,s.heap.Ns X.env.locals m→h'.Ns X.env.locals m) (ax:bG X.prog X.w H' h') (hg:AllBare g') :
  Inv X pins σ H' {s with heap:=h',gens:=g',drawn:=d',toks:=t'}:=by
 have tF:∀b o,X.s₀.heap.get? b=some o→b≠X.env.locals:=fun b o e=>b_ (cY (aX e) I.ok.above);have nX:∀b o,X.s₀.heap.get? b=some o→b∉X.ex→b∉ch:=fun b o e hx hb=>by
  rcases (gg b hb).1 with z | z;·exact hx z
  ·exact absurd (cY (aX e) z) (ei _)
 have cellK:∀x c,X.env.cells.lookup x=some c→∀v,s.heap.IsCell c v→h'.IsCell c v:=fun x c e v ⟨o,ho,hd⟩=>by
  have mh:c∉ch:=fun z=>(gg c z).2.2.1 x c e rfl;by_cases hc:c∈X.fs
  ·obtain ⟨sl,q⟩:=slot c o (I.jc x c e) hc mh ho (I.eW x c e)
   exact ⟨_,q,hd⟩
  ·exact ⟨o,keep c o (I.jc x c e) hc mh ho (I.eW x c e),hd⟩
 refine ⟨I.ok,I.os,hg,⟨fun b o e n hb hx=>?_,fun b o e n hb hx=>?_,fun b o e n hx=>?_,fun b o e hx=>?_,fun b xs e=>eB b xs (I.base.eB b xs e),fun b o xs e=>dR b o xs (I.base.dR b o xs e),fun b ps e=>?_⟩,?_,fun x c e=>?_,?_,fun x c e=>?_,fun p hp=>?_,ax,I.len⟩;·exact keep b o (tF b o e) hb (nX b o e hx) (I.base.keep b o e n hb hx) (I.base.free b o e n hx)
 ·obtain ⟨sl,e1⟩:=I.base.slot b o e n hb hx
  obtain ⟨xI,e2⟩:=slot b _ (tF b o e) hb (nX b o e hx) e1 (I.base.free b o e n hx);exact ⟨xI,e2⟩
 ·obtain ⟨o',e1⟩:=I.base.there b o e hx
  exact free b o' (nX b o e hx) e1 (I.base.free b o e n hx)
 ·obtain ⟨o',e1⟩:=I.base.there b o e hx
  exact there b o' (nX b o e hx) e1
 ·obtain ⟨m1,e1⟩:=I.base.eC b ps e
  obtain ⟨m2,e2⟩:=eC b _ e1;exact ⟨m1++m2,by rw [e2,Array.append_assoc]⟩
 ·obtain ⟨m,hn,hl⟩:=I.loc
  refine ⟨m,ns m hn,fun i x v e1 e2 e3=>?_⟩;obtain ⟨u,r,l⟩:=hl i x v e1 e2 e3;refine ⟨u,r,?_⟩;rcases l with l | ⟨k,c,e,z⟩;·exact .inl l
  ·exact .inr ⟨k,c,e,cellK x c e _ z⟩
 ·obtain ⟨v,z⟩:=I.cell x c e
  exact ⟨v,cellK x c e v z⟩
 ·obtain ⟨m,⟨o,_,_,ho,_⟩,_⟩:=I.loc
  exact free _ o (fun z=>(gg _ z).2.1 rfl) ho I.free
 ·obtain ⟨v,o,ho,hd⟩:=I.cell x c e
  exact free c o (fun z=>(gg c z).2.2.1 x c e rfl) ho (I.eW x c e)
 ·obtain ⟨e,n,ne,nf,d⟩:=I.pin p hp
  have mh:p.1∉ch:=fun z=>(gg p.1 z).2.2.2 p hp rfl;exact ⟨keep p.1 p.2 ne nf mh e n,free p.1 p.2 mh e n,ne,nf,d⟩
theorem Inv.un(I:Inv X pins σ H s)(u:Un X.fs [] H H' s.heap h')(ax:bG X.prog X.w H' h'):Inv X pins σ H' {s with heap:=h',toks:=t'}:=by
 obtain ⟨m,⟨o,es,ep,ho,r⟩,_⟩:=id I.loc;obtain ⟨sl,hL⟩:=u.any ho I.free (by simp)
 exact I.step (g':=s.gens) (d':=s.drawn) (ch:=[]) (fun _ z=>nomatch z) (fun b o _ hb _ e n=>u.keep b o e n hb (by simp)) (fun b o _ hb _ e n=>u.slot b o e n hb (by simp)) (fun b o _ e n=>u.free b o e n (by simp)) (fun b o _ e=>u.there b o e (by simp)) u.eB u.dR u.eC (fun m' hm=>by obtain ⟨o',qr,iE,g6,r'⟩:=hm;rw [ho] at g6;cases g6;exact ⟨_,qr,iE,hL,r'⟩) ax I.bare
theorem Inv.call(I:Inv X pins σ H s)(u:Un (bK X.stack) ch H H' s.heap h')(ax:bG X.prog X.w H' h')(hg:AllBare g')
  (gg:∀b∈ch,(b∈X.ex∨X.s₀.heap.objs.size≤b)∧b≠X.env.locals∧(∀x c,X.env.cells.lookup x=some c→c≠b)∧∀p∈X.pn++pins,p.1≠b) :
  Inv X pins σ H' {s with heap:=h',gens:=g',drawn:=d',toks:=t'}:=by
 obtain ⟨m,⟨o,es,ep,ho,r⟩,_⟩:=id I.loc;obtain ⟨sl,hL⟩:=u.any ho I.free fun z=>(gg _ z).2.1 rfl;exact I.step (ch:=ch) gg (fun b o hL hb hc e n=>u.keep b o e n (fun z=>(cp.mp (I.me b z)).elim hL hb) hc) (fun b o _ _ hc e n=>u.any e n hc) (fun b o hc e n=>u.free b o e n hc) (fun b o hc e=>u.there b o e hc) u.eB u.dR u.eC (fun m' hm=>by obtain ⟨o',qr,iE,g6,r'⟩:=hm;rw [ho] at g6;cases g6;exact ⟨_,qr,iE,hL,r'⟩) ax hg
theorem Inv.turned{it:Addr}(I:Inv X pins σ H s)(k:∀b o,b≠it→s.heap.get? b=some o→h'.get? b=some o)(hn:H it=none)(hL:it≠X.env.locals)
  (h1:it∈X.ex∨X.s₀.heap.objs.size≤it) (h2:∀x c,X.env.cells.lookup x=some c→c≠it) (h3:∀p∈X.pn++pins,p.1≠it):Inv X pins σ H {s with heap:=h',toks:=t'}:=by
 have tG:∀b u,H b=some u→b≠it:=fun b u e z=>by rw [z,hn] at e;cases e
 refine I.step (g':=s.gens) (d':=s.drawn) (ch:=[it]) (fun b hb=>?_) (fun b o _ _ hc e _=>k b o (fun z=>hc (by simp [z])) e) (fun b o _ _ hc e _=>⟨o.slots,k b o (fun z=>hc (by simp [z])) e⟩) (fun _ _ _ _ n=>n)
  (fun b o hc e=>⟨o,k b o (fun z=>hc (by simp [z])) e⟩) (fun _ _ e=>e) (fun _ _ _ e=>e) (fun b ps e=>⟨#[],by rw [e];simp⟩) (fun m hm=>?_) (fun b u e=>?_) I.bare
 ·have e:b=it:=by simpa using hb
  subst e;exact ⟨h1,hL,h2,h3⟩
 ·obtain ⟨o,es,ep,ho,r⟩:=hm
  exact ⟨o,es,ep,k _ o (eR hL) ho,r⟩
 ·refine (I.ax b u e).eA (fun c v hc q=>k c v ?_ q) (fun _ q=>q) fun _ _ q=>q
  rcases hc with z | z;·rw [z];exact tG b u e
  ·exact tG c _ z
theorem Inv.tok(I:Inv X pins σ H s)(t:Nat):Inv X pins σ H {s with toks:=t}:=I.un (h':=s.heap) (t':=t) Un.refl I.ax
theorem Inv.kept(I:Inv X pins σ H s)(k:∀b u,s.heap.get? b=some u→h'.get? b=some u):Inv X pins σ H {s with heap:=h',toks:=t'}:=I.un (Un.kept k) (I.ax.kept k)
theorem Inv.laid(I:Inv X pins σ H s)(k:∀b u,s.heap.get? b=some u→h'.get? b=some u)(hp:s.heap.objs.size≤a)(new:cx X.prog X.w (upd H a o) h' a o) :
  Inv X pins σ (upd H a o) {s with heap:=h',toks:=t'}:=I.un (Un.laid k hp (I.ax.fresh hp)) (I.ax.laid k hp new)
theorem Inv.write{x e:Addr}(I:Inv X pins σ H s)(mu:nV (H x))(he:e=x∨H e=some (.own x))(k:∀b u,b≠e→s.heap.get? b=some u→h'.get? b=some u)(km:∃u,h'.get? e=some u)
  (new:cx X.prog X.w (upd H x o) h' x o):Inv X pins σ (upd H x o) {s with heap:=h',toks:=t'}:=I.un (Un.write mu he k km) (I.ax.write mu he k km new)
theorem Inv.tH{tI:aD}(I:Inv X pins σ H s)(h:∀p∈tI,s.heap.get? p.1=some p.2∧H p.1=none∧p.1≠X.env.locals∧p.1∉X.fs∧∀v,p.2.data≠.cell v):Inv X tI σ H s:=
 ⟨I.ok,I.os,I.bare,I.base,I.loc,I.cell,I.free,I.eW,fun p hp=>(fm.mp hp).elim (fun z=>I.pin p (List.mem_append_left _ z)) (h p),I.ax,I.len⟩
variable {i:Nat} {x:Str}
theorem tJ{N:List Str}(hN:N.Nodup){j:Nat}(a:N[i]?=some x)(b:N[j]?=some x):i=j:=by obtain ⟨h1,e1⟩:=cq.mp a;obtain ⟨h2,e2⟩:=cq.mp b;exact (List.getElem_inj hN).mp (e1.trans e2.symm)
variable {M:Model} {A:Around} {E:ay} {u:Value} {Q:Unit→Shared→Prop}
theorem tK{v:V}(I:Inv X pins σ H s)(hN:X.N.Nodup)(hi:X.N[i]?=some x)(hx:Loc X.env.scope x)(r:RelV v u)
  (h:∀s',Inv X pins (σ.set i (some v)) H s'→(∃a,Heap.SameBut a s.heap s'.heap∧(a=X.env.locals∨X.env.cells.lookup x=some a))→Q () s') (hf:X.fn x=true∨X.env.scope.names.lookup x=some .local:=by first | exact .inl rfl | exact .inr rfl | assumption):wpAny M A (storeName X.env x u) Q E s:=by
 obtain ⟨m,hn,hl⟩:=id I.loc;have xJ:(X.env.scope.kind == .class || (X.env.scope.kind == .module && X.env.locals != X.env.globals))=false:=by rw [I.ok.kind];rfl
 have tL:i<σ.length:=by rw [I.len];exact (cq.mp hi).1
 have jc:=I.jc;have tracked:∀{a:Addr} {h':Heap},(∃o,s.heap.get? a=some o∧H a=none)→Heap.SameBut a s.heap h'→bG X.prog X.w H h':=fun{a h'} ha hs b ob e=>by
  obtain ⟨_,_,tM⟩:=ha;refine (I.ax b ob e).eA (fun c w' hc q=>(hs.2 c ?_).trans q) (fun _ q=>q) fun _ _ q=>q;rintro rfl;rcases hc with rfl | hc;·rw [tM] at e;cases e
  ·rw [tM] at hc;cases hc
 rcases hx with hk | hk
 ·refine wpAny_storeName_local hk hn (fun h' xK hs=>?_) xJ
  obtain ⟨oL,_,_,xM,_⟩:=id hn;refine h _ ⟨I.ok,I.os,I.bare,⟨fun b o e n hb hx=>?_,fun b o e n hb hx=>?_,I.base.free,fun b o e hx=>?_,I.base.eB,I.base.dR,I.base.eC⟩,⟨_,xK,fun j y v' e1 e2 e3=>?_⟩,fun y c e=>?_,I.free,I.eW,fun p hp=>?_,tracked ⟨oL,xM,I.free⟩ hs,by simpa using I.len⟩ ⟨_,hs,.inl rfl⟩
  ·exact (hs.2 b (b_ (cY (aX e) I.ok.above))).trans (I.base.keep b o e n hb hx)
  ·obtain ⟨sl,e1⟩:=I.base.slot b o e n hb hx
   exact ⟨sl,(hs.2 b (b_ (cY (aX e) I.ok.above))).trans e1⟩
  ·obtain ⟨o',e1⟩:=I.base.there b o e hx
   exact ⟨o',(hs.2 b (b_ (cY (aX e) I.ok.above))).trans e1⟩
  ·by_cases hj:j=i
   ·subst hj
    rw [hi] at e1;cases e1;rw [List.getElem?_set_self tL] at e2;cases e2;exact ⟨u,r,.inl ⟨hk,by simp⟩⟩
   ·rw [List.getElem?_set_ne (eR hj)] at e2
    obtain ⟨u',r',q⟩:=hl j y v' e1 e2 e3;refine ⟨u',r',?_⟩;rcases q with ⟨k,e⟩ | ⟨k,c,e,z⟩
    ·refine .inl ⟨k,?_⟩
     have:y≠x:=fun e=>hj (tJ hN e1 (e▸hi));simp [this,e]
    ·exact .inr ⟨k,c,e,z.sameBut hs (jc y c e)⟩
  ·obtain ⟨w',z⟩:=I.cell y c e
   exact ⟨w',z.sameBut hs (jc y c e)⟩
  ·obtain ⟨e,n,ne,nf,d⟩:=I.pin p hp
   exact ⟨(hs.2 p.1 ne).trans e,n,ne,nf,d⟩
 ·have qs:X.fn x=true:=by
   rcases hf with z | z;·exact z
   ·rw [z] at hk;cases hk
  obtain ⟨c,hc⟩:=I.ok.has x (.inl hk);obtain ⟨w',z⟩:=I.cell x c hc;refine wpAny_storeName_cell I.ok.kind hk hc z (fun h' cy hs=>?_);obtain ⟨oc,tN,xN⟩:=id z;refine h {s with heap:=h'} ⟨I.ok,I.os,I.bare,⟨fun b o e n hb hx=>?_,fun b o e n hb hx=>?_,I.base.free,fun b o e hx=>?_,I.base.eB,I.base.dR,I.base.eC⟩,⟨m,hn.sameBut hs (eR (jc x c hc)),fun j y v' e1 e2 e3=>?_⟩,fun y c' e=>?_,I.free,I.eW,fun p hp=>?_,tracked ⟨oc,tN,I.eW x c hc⟩ hs,by simpa using I.len⟩ ⟨c,hs,.inr hc⟩
  ·exact (hs.2 b (b_ (cY (aX e) (I.ok.md x c qs hc)))).trans (I.base.keep b o e n hb hx)
  ·obtain ⟨sl,e1⟩:=I.base.slot b o e n hb hx
   exact ⟨sl,(hs.2 b (b_ (cY (aX e) (I.ok.md x c qs hc)))).trans e1⟩
  ·obtain ⟨o',e1⟩:=I.base.there b o e hx
   exact ⟨o',(hs.2 b (b_ (cY (aX e) (I.ok.md x c qs hc)))).trans e1⟩
  ·by_cases hj:j=i
   ·subst hj
    rw [hi] at e1;cases e1;rw [List.getElem?_set_self tL] at e2;cases e2;exact ⟨u,r,.inr ⟨.inl hk,c,hc,cy⟩⟩
   ·rw [List.getElem?_set_ne (eR hj)] at e2
    obtain ⟨u',r',q⟩:=hl j y v' e1 e2 e3;refine ⟨u',r',?_⟩;rcases q with q | ⟨k,c',e,z'⟩;·exact .inl q
    ·refine .inr ⟨k,c',e,z'.sameBut hs ?_⟩
     rintro rfl;exact hj (tJ hN e1 (I.ok.inj _ _ _ e hc▸hi))
  ·by_cases tO:c'=c
   ·subst tO;exact ⟨_,cy⟩
   ·obtain ⟨w2,z2⟩:=I.cell y c' e
    exact ⟨w2,z2.sameBut hs tO⟩
  ·obtain ⟨e,n,ne,nf,d⟩:=I.pin p hp
   refine ⟨(hs.2 p.1 ?_).trans e,n,ne,nf,d⟩;intro q;rw [q,tN] at e;have q':oc=p.2:=Option.some.inj e;exact d w' (by rw [←q'];exact xN)
theorem tP{v:V}(I:Inv X pins σ H s)(hN:X.N.Nodup)(hi:X.N[i]?=some x)(hx:Loc X.env.scope x)(r:RelV v u)
  (h:∀s',Inv X pins (σ.set i (some v)) H s'→Q () s') (hf:X.fn x=true∨X.env.scope.names.lookup x=some .local:=by first | exact .inl rfl | exact .inr rfl | assumption):wpAny M A (storeName X.env x u) Q E s:=
 tK I hN hi hx r (fun s' I' _=>h s' I') hf
theorem Inv.iF{s':Shared}(I:Inv X pins σ H s)(ho:s'.os=s.os)(u:Un (bK X.stack) ch H H' s.heap s'.heap)(ax:bG X.prog X.w H' s'.heap)(hg:AllBare s'.gens)
  (gg:∀b∈ch,(b∈X.ex∨X.s₀.heap.objs.size≤b)∧b≠X.env.locals∧(∀x c,X.env.cells.lookup x=some c→c≠b)∧∀p∈X.pn++pins,p.1≠b):Inv X pins σ H' s':=by
 obtain ⟨h',g',d',t',o'⟩:=s';have e:o'=s.os:=ho;subst e;exact I.call (g':=g') (t':=t') (d':=d') u ax hg gg
end
abbrev XK:=Value→Option Addr→Hp→Prop
abbrev St:=List (Option V)
abbrev VK:=V→Hp→Prop
abbrev TE:=St→Hp→VK→Prop
abbrev TT:=St→Hp→(Bool→Hp→Prop)→Prop
abbrev TA:=St→Hp→(List V→Hp→Prop)→Prop
structure Ends where
 nx:St→Hp→Prop
 rt:VK
 bk:St→Hp→Prop:=fun _ _=>False
 ct:St→Hp→Prop:=fun _ _=>False
abbrev TS:=Ends→St→Hp→Prop
def EP(X:Cx)(pins:aD)(σ:St)(Q:VK)(u:Value)(s':Shared):Prop:=∃v H',Inv X pins σ H' s'∧RelV v u∧Q v H'
def TP(X:Cx)(pins:aD)(σ:St)(Q:Bool→Hp→Prop)(b:Bool)(s':Shared):Prop:=∃H',Inv X pins σ H' s'∧Q b H'
def AP(X:Cx)(pins:aD)(σ:St)(Q:List V→Hp→Prop)(us:List Value)(s':Shared):Prop:=∃vs H',Inv X pins σ H' s'∧Vals vs us∧Q vs H'
def SP(X:Cx)(pins:aD)(D:Ends)(f:Flow)(s':Shared):Prop:=
 match f with
 | .next=>∃σ' H',Inv X pins σ' H' s'∧D.nx σ' H'
 | .brk=>∃σ' H',Inv X pins σ' H' s'∧D.bk σ' H'
 | .cont=>∃σ' H',Inv X pins σ' H' s'∧D.ct σ' H'
 | .ret u=>∃v σ' H',Inv X pins σ' H' s'∧RelV v u∧D.rt v H'
def PE(X:Cx)(e:Expr)(t:TE):Prop:=
 ∀(pins:aD) (s:Shared) (σ:St) (H:Hp) (Q:VK),Inv X pins σ H s→t σ H Q→wpAny (model X.prog X.w) X.A (eval e X.env) (EP X pins σ Q) X.xe s
def PT(X:Cx)(e:Expr)(t:TT):Prop:=
 ∀(pins:aD) (s:Shared) (σ:St) (H:Hp) (Q:Bool→Hp→Prop),Inv X pins σ H s→t σ H Q→wpAny (model X.prog X.w) X.A (isTrue e X.env (eval e X.env)) (TP X pins σ Q) X.xe s
def PW(X:Cx)(e:Expr)(t:TT):Prop:=
 ∀(whole:Sem Value) (pins:aD) (s:Shared) (σ:St) (H:Hp) (Q:Bool→Hp→Prop),Inv X pins σ H s→t σ H Q→wpAny (model X.prog X.w) X.A (isTrue e X.env whole) (TP X pins σ Q) X.xe s
variable {X:Cx}
theorem PW.pt{e:Expr}{t:TT}(h:PW X e t):PT X e t:=h _
def PA(X:Cx)(es:List Expr)(t:TA):Prop:=
 ∀(pos:Pos) (pins:aD) (s:Shared) (σ:St) (H:Hp) (Q:List V→Hp→Prop),Inv X pins σ H s→t σ H Q→wpAny (model X.prog X.w) X.A (spliced (backTo pos (starEach es X.env))) (AP X pins σ Q) X.xe s
def PS(X:Cx)(st:Stmt)(t:TS):Prop:=
 ∀(pins:aD) (s:Shared) (σ:St) (H:Hp) (D:Ends),Inv X pins σ H s→t D σ H→wpAny (model X.prog X.w) X.A (exec st X.env) (SP X pins D) X.xe s
def dB(X:Cx)(st:List Stmt)(t:TS):Prop:=
 ∀(pins:aD) (s:Shared) (σ:St) (H:Hp) (D:Ends),Inv X pins σ H s→t D σ H→wpAny (model X.prog X.w) X.A (execs st X.env) (SP X pins D) X.xe s
variable {M:Model} {A:Around} {E:ay} {s:Shared}
theorem aE{α:Type}{t:Sem α}{Q Q':α→Shared→Prop}(h:wpAny M A t Q E s)(hQ:∀a s,Q a s→Q' a s):wpAny M A t Q' E s:=bq h hQ fun _ _ x=>x
section
variable {X:Cx}
variable {pins:aD} {σ:St}
theorem bin{a b:Expr}{ta tb:TE}(ha:PE X a ta)(hb:PE X b tb){R:V→V→Hp→Prop}(I:Inv X pins σ H s)(h:ta σ H fun x H1=>tb σ H1 fun y H2=>R x y H2)
  {α:Type} {Q:α→Shared→Prop} {f:Value→Value→Sem α}
  (hf:∀v u s2 x y H2,Inv X pins σ H2 s2→RelV x v→RelV y u→R x y H2→wpAny (model X.prog X.w) X.A (f v u) Q X.xe s2) :
  wpAny (model X.prog X.w) X.A (eval a X.env) (fun v s₁=>wpAny (model X.prog X.w) X.A (eval b X.env) (fun u s₂=>wpAny (model X.prog X.w) X.A (f v u) Q X.xe s₂) X.xe s₁) X.xe s:=by
 refine aE (ha pins s σ H _ I h) fun v s1 ⟨x,H1,I1,r1,q1⟩=>?_;refine aE (hb pins s1 σ H1 _ I1 q1) fun u s2 ⟨y,H2,I2,r2,q2⟩=>?_;exact hf v u s2 x y H2 I2 r1 r2 q2
def tQ(i:Nat):TE:=fun σ H Q=>∃v,σ[i]?=some (some v)∧Q v H
def tC(v:V):TE:=fun _ H Q=>Q v H
variable {x:Str} {pos:Pos}
theorem xO{i:Nat}(hN:X.N[i]?=some x)(hv:i9 X.env.scope x)(hd:(x == ("__debug__":Str))=false:=by decide)(dS:(x == ("__classdict__":Str))=false:=by decide):PE X (.Name x pos) (tQ i):=by
 intro pins s σ H Q I h;obtain ⟨v,e,h⟩:=h;obtain ⟨m,hn,hl⟩:=I.loc;obtain ⟨u,r,l⟩:=hl i x v hN e hv;have fin:EP X pins σ Q u s:=⟨v,H,I,r,h⟩;rcases l with ⟨hk,hm⟩ | ⟨hk,c,hc,tR⟩;·exact wpAny_Name (wpAny_loadName_local I.ok.kind hk hn hm fin) hd
 ·rcases hk with hk | hk
  ·exact wpAny_Name (wpAny_loadName_cell I.ok.kind hk hc tR fin) hd
  ·exact wpAny_Name (wpAny_loadName_free I.ok.kind hk hc tR fin dS) hd
theorem aq{i j pos}:PE X (.Constant (.int i) j pos) (tC (.int i)):=fun _ _ _ H _ I h=>wpAny_Constant_int ⟨.int i,H,I.tok _,⟨_,rfl⟩,h⟩
theorem gh{b j pos}:PE X (.Constant (.bool b) j pos) (tC (.bl b)):=fun _ _ _ H _ I h=>Constant_bool ⟨.bl b,H,I,rfl,h⟩
theorem cg{x j pos}:PE X (.Constant (.str x) j pos) (tC (.str x)):=fun _ _ _ H _ I h=>Calls.Constant_str ⟨.str x,H,I.tok _,⟨_,rfl⟩,h⟩
def Gl(X:Cx)(x:Str):Prop:=X.env.kindOf x=some .globalImplicit
variable {u:Value} {Q:ay}
theorem qt(I:Inv X pins σ H s)(hg:Gl X x)(hm:X.mg x=some u)(h:Q u s)
  (hd:(x == ("__debug__":Str))=false:=by decide):wpAny (model X.prog X.w) X.A (eval (.Name x pos) X.env) Q E s:=
 Calls.Name_function_global I.ok.kind hg (Calls.loadGlobal_global (by rw [I.ok.glob];exact I.mod.glob.keeps I.bk) hm h) hd
theorem jd(I:Inv X pins σ H s)(hg:Gl X x)(hm:X.mg x=none)(hv:bootBuiltins x=some u)(h:Q u s)
  (hn:x ≠ "__name__":=by decide) (hd:(x == ("__debug__":Str))=false:=by decide):wpAny (model X.prog X.w) X.A (eval (.Name x pos) X.env) Q E s:=by
 obtain ⟨mb,h1,h2⟩:=I.mod.blt;exact Calls.Name_function_global I.ok.kind hg (Calls.loadGlobal_builtin (by rw [I.ok.glob];exact I.mod.glob.keeps I.bk) hm (by rw [I.ok.blt];exact h1.keeps I.bk) ((h2 x hn).trans hv) h) hd
theorem tS{v:V}(hg:Gl X x)(hm:X.mg x=some u)(r:RelV v u)(hd:(x == ("__debug__":Str))=false:=by decide):PE X (.Name x pos) (tC v):=
 fun _ _ _ H _ I h=>qt I hg hm ⟨v,H,I,r,h⟩ hd
theorem eX{v:V}(hg:Gl X x)(hm:X.mg x=none)(hv:bootBuiltins x=some u)(r:RelV v u)(hn:x ≠ "__name__":=by decide)(hd:(x == ("__debug__":Str))=false:=by decide):PE X (.Name x pos) (tC v):=
 fun _ _ _ H _ I h=>jd I hg hm hv ⟨v,H,I,r,h⟩ hn hd
variable {a b:Expr} {ta tb:TE} {pos:Pos}
def PC(X:Cx)(op:CmpOp)(a b:Expr)(t:TE):Prop:=
 ∀(pins:aD) (s:Shared) (σ:St) (H:Hp) (Q:VK),Inv X pins σ H s→t σ H Q→
  wpAny (model X.prog X.w) X.A (eval a X.env) (fun v s₁=>wpAny (model X.prog X.w) X.A (eval b X.env) (fun u s₂=>wpAny (model X.prog X.w) X.A (compareOp op v u) (EP X pins σ Q) X.xe s₂) X.xe s₁) X.xe s
def tB(t:TE):TT:=fun σ H Q=>t σ H fun x H1=>∃c,x=.bl c∧Q c H1
variable {t:TE}
theorem Fn{op:CmpOp}(h:PC X op a b t)(h1:behindInMarks op b=false:=by first | exact Fs _ (by decide) (by decide) | rfl):PT X (.Compare a [op] [b] pos) (tB t):=by intro pins s σ H Q I hw;refine wpAny_isTrue_Compare1 (aE (h pins s σ H _ I hw) fun v s1 h1=>aE h1 fun u s2 h2=>aE h2 fun c s3 ⟨x,H1,I1,r1,q1⟩=>?_) h1;obtain ⟨d,rfl,q⟩:=q1;cases r1;exact iz ⟨H1,I1,q⟩
theorem dU{e:Expr}(h:PE X e t)(he:∀whole,isTrue e X.env whole=(do let v ←whole;standAt e.pos;holding [v] (truthy v)):=by intro _;rfl):PT X e (tB t):=by
 intro pins s σ H Q I hw
 refine isTrue_plain (aE (h pins s σ H _ I hw) fun v s1 ⟨x,H1,I1,r1,q1⟩=>?_) (he _)
 obtain ⟨d,rfl,q⟩:=q1
 cases r1
 exact iz ⟨H1,I1,q⟩
variable {tA mj:TT} {rest:List Expr}
def xP(t u:TT):TT:=fun σ H Q=>t σ H fun c H1=>if c=true then u σ H1 Q else Q false H1
def xQ(t u:TT):TT:=fun σ H Q=>t σ H fun c H1=>if c=true then Q true H1 else u σ H1 Q
def xR(t:TT):TT:=fun σ H Q=>t σ H fun c H1=>Q (!c) H1
theorem pw_and1(ha:PT X a tA):PW X (.BoolOp .And [a] pos) tA:=by
 intro wh pins s σ H Q I h;refine isTrue_and (aE (ha pins s σ H Q I h) fun c s1 e=>?_);cases c with
 | true=>exact isTrue_and_nil e
 | false=>exact e
theorem pw_or1(ha:PT X a tA):PW X (.BoolOp .Or [a] pos) tA:=by
 intro wh pins s σ H Q I h;refine isTrue_or (aE (ha pins s σ H Q I h) fun c s1 e=>?_);cases c with
 | false=>exact isTrue_or_nil e
 | true=>exact e
theorem pw_and(ha:PT X a tA)(hb:PW X (.BoolOp .And (b::rest) pos) mj):PW X (.BoolOp .And (a::b::rest) pos) (xP tA mj):=by
 intro wh pins s σ H Q I h;refine isTrue_and (aE (ha pins s σ H _ I h) fun c s1 ⟨H1,I1,q1⟩=>?_);cases c with
 | true=>exact hb wh pins s1 σ H1 Q I1 q1
 | false=>exact ⟨H1,I1,q1⟩
theorem pw_or(ha:PT X a tA)(hb:PW X (.BoolOp .Or (b::rest) pos) mj):PW X (.BoolOp .Or (a::b::rest) pos) (xQ tA mj):=by
 intro wh pins s σ H Q I h;refine isTrue_or (aE (ha pins s σ H _ I h) fun c s1 ⟨H1,I1,q1⟩=>?_);cases c with
 | true=>exact ⟨H1,I1,q1⟩
 | false=>exact hb wh pins s1 σ H1 Q I1 q1
theorem eE(ha:PT X a tA):PT X (.UnaryOp .Not a pos) (xR tA):=by intro pins s σ H Q I h;exact isTrue_not (ha pins s σ H (fun c H1=>Q (!c) H1) I h)
def xS(ta tb:TE):TE:=fun σ H Q=>ta σ H fun x H1=>∃c,x=.bl c∧if c=true then tb σ H1 Q else Q (.bl false) H1
def xT(ta tb:TE):TE:=fun σ H Q=>ta σ H fun x H1=>∃c,x=.bl c∧if c=true then Q (.bl true) H1 else tb σ H1 Q
def xU(ta:TE):TE:=fun σ H Q=>ta σ H fun x H1=>∃c,x=.bl c∧Q (.bl (!c)) H1
theorem dC{op}(h:PE X a t):PE X (.BoolOp op [a] pos) t:=fun pins s σ H Q I hw=>BoolOp_one (h pins s σ H Q I hw)
theorem dh(ha:PE X a ta)(hb:PE X (.BoolOp .And (b::rest) pos) tb):PE X (.BoolOp .And (a::b::rest) pos) (xS ta tb):=by
 intro pins s σ H Q I h;refine BoolOp_and (aE (ha pins s σ H _ I h) fun v s1 ⟨x,H1,I1,r1,q1⟩=>?_);obtain ⟨c,rfl,q1⟩:=q1;cases r1;refine iz ?_;cases c with
 | true=>exact hb pins s1 σ H1 Q I1 q1
 | false=>exact ⟨.bl false,H1,I1,rfl,q1⟩
theorem qu(ha:PE X a ta)(hb:PE X (.BoolOp .Or (b::rest) pos) tb):PE X (.BoolOp .Or (a::b::rest) pos) (xT ta tb):=by
 intro pins s σ H Q I h;refine BoolOp_or (aE (ha pins s σ H _ I h) fun v s1 ⟨x,H1,I1,r1,q1⟩=>?_);obtain ⟨c,rfl,q1⟩:=q1;cases r1;refine iz ?_;cases c with
 | false=>exact hb pins s1 σ H1 Q I1 q1
 | true=>exact ⟨.bl true,H1,I1,rfl,q1⟩
theorem tT(ha:PE X a ta):PE X (.UnaryOp .Not a pos) (xU ta):=by intro pins s σ H Q I h;refine UnaryOp_ (aE (ha pins s σ H _ I h) fun v s1 ⟨x,H1,I1,r1,q1⟩=>?_);obtain ⟨c,rfl,q1⟩:=q1;cases r1;exact not_of (iz ⟨.bl (!c),H1,I1,rfl,q1⟩)
end
def b7(K:aB)(H:Hp)(a:Addr)(xs:List V):Prop:=
 Rd H a (.lst xs) ∨
  ∃(o:Obj) (aj:Array Value) (n:Nat),K.lookup a=some o∧o.cls=.type "list"∧o.dict=none∧o.data=.seq aj n∧aj.size≤sizeLine∧Vals xs aj.toList
def bE(K:aB)(H:Hp)(a:Addr)(xs:List V):Prop:=
 Rd H a (.tup xs) ∨
  ∃(o:Obj) (aj:Array Value) (n:Nat),K.lookup a=some o∧o.cls=.type "tuple"∧o.data=.seq aj n∧aj.size≤sizeLine∧Vals xs aj.toList
def xV:Value→Option V
 | .none=>some .aN
 | .bool b=>some (.bl b)
 | .int i _=>some (.int i)
 | .str x _=>some (.str x)
 | .bytes b _=>some (.fA b)
 | .float b _=>some (.kl b)
 | .ref a=>some (.ref a)
 | .type n=>some (.ty n)
 | _=>none
variable {x:V} {u:Value}
theorem RelV.abs(r:RelV x u):xV u=some x:=by
 cases x with
 | aN=>cases r;rfl
 | bl _=>cases r;rfl
 | int _=>obtain ⟨t,rfl⟩:=r;rfl
 | str _=>obtain ⟨t,rfl⟩:=r;rfl
 | fA _=>obtain ⟨t,rfl⟩:=r;rfl
 | kl _=>obtain ⟨t,rfl⟩:=r;rfl
 | ref _=>cases r;rfl
 | ty _=>cases r;rfl
theorem RelV.inj{y:V}(r:RelV x u)(q:RelV y u):x=y:=Option.some.inj (r.abs.symm.trans q.abs)
theorem Vals.inj:∀{xs ys:List V} {us:List Value},Vals xs us→Vals ys us→xs=ys
 | _,_,_,.nil,.nil=>rfl
 | _,_,_,.cons r t,.cons r' t'=>by rw [r.inj r',Vals.inj t t']
section
variable {X:Cx} {pins:aD} {σ:St} {H:Hp} {s:Shared} {a:Addr} {xs ys:List V}
variable {K:aB}
theorem b7.of(h:H a=some (.lst xs)):b7 K H a xs:=.inl (.inl h)
theorem bE.of(h:H a=some (.tup xs)):bE K H a xs:=.inl (.inl h)
theorem Inv.list(I:Inv X pins σ H s)(h:b7 X.K H a xs):∃aj:List Value,Vals xs aj∧PlainL s.heap a aj.toArray∧xs.length≤sizeLine:=by
 rcases h with h | ⟨o,aj,n,hk,hc,hd,hs,hz,r⟩
 ·obtain ⟨z,aj,n,r,e⟩:=h.ok I.ax
  exact ⟨aj,r,⟨_,n,e,rfl,rfl,rfl⟩,z⟩
 ·refine ⟨aj.toList,r,⟨o,n,I.cS a o hk,hc,hd,by simpa using hs⟩,?_⟩
  have e:=r.length;simp only [fq] at e;omega
theorem Inv.tuple(I:Inv X pins σ H s)(h:bE X.K H a xs):∃aj:List Value,Vals xs aj∧IsTup s.heap a aj.toArray∧xs.length≤sizeLine:=by
 rcases h with h | ⟨o,aj,n,hk,hc,hs,hz,r⟩
 ·obtain ⟨z,aj,r,p⟩:=h.ok I.ax
  exact ⟨aj,r,p,z⟩
 ·refine ⟨aj.toList,r,⟨o,I.cS a o hk,hc,n,by simpa using hs⟩,?_⟩
  have e:=r.length;simp only [fq] at e;omega
theorem Inv.xW(I:Inv X pins σ H s)(h:b7 X.K H a xs)(h':b7 X.K H a ys):xs=ys:=by
 obtain ⟨aj,r,⟨o,n,e,_,_,d⟩,_⟩:=I.list h;obtain ⟨its',r',⟨o',n',e',_,_,d'⟩,_⟩:=I.list h';rw [e] at e';cases e';rw [d] at d';injection d' with d1 _;have:aj=its':=by simpa using bD Array.toList d1
 subst this;exact r.inj r'
theorem Inv.nY(I:Inv X pins σ H s)(h:bE X.K H a xs)(h':bE X.K H a ys):xs=ys:=by
 obtain ⟨aj,r,⟨o,e,_,n,d⟩,_⟩:=I.tuple h;obtain ⟨its',r',⟨o',e',_,n',d'⟩,_⟩:=I.tuple h';rw [e] at e';cases e';rw [d] at d';injection d' with d1 _;have:aj=its':=by simpa using bD Array.toList d1
 subst this;exact r.inj r'
end
abbrev Cx.gk (X:Cx) (E:ay):Cx:={X with xe:=E}
abbrev Cx.ml (X:Cx):Cx:=X.gk fun _ _=>False
theorem Cx.Ok.gk(ok:X.Ok)(E:ay):(X.gk E).Ok:=
 ⟨ok.mod,ok.kind,ok.glob,ok.blt,ok.above,ok.inj,ok.has,ok.md,ok.hd,ok.frames,ok.gZ,ok.tE,ok.bs,ok.eV,ok.i_,ok.ja,ok.fB,ok.jb⟩
theorem Cx.Ok.iG(ok:(X.gk E).Ok):X.Ok:=
 ⟨ok.mod,ok.kind,ok.glob,ok.blt,ok.above,ok.inj,ok.has,ok.md,ok.hd,ok.frames,ok.gZ,ok.tE,ok.bs,ok.eV,ok.i_,ok.ja,ok.fB,ok.jb⟩
section
variable {X:Cx} {pins:aD} {σ:St} {H:Hp} {s:Shared} {E:ay}
theorem Inv.gk(I:Inv X pins σ H s)(E:ay):Inv (X.gk E) pins σ H s:=⟨I.ok.gk E,I.os,I.bare,I.base,I.loc,I.cell,I.free,I.eW,I.pin,I.ax,I.len⟩
theorem Inv.iG(I:Inv (X.gk E) pins σ H s):Inv X pins σ H s:=⟨I.ok.iG,I.os,I.bare,I.base,I.loc,I.cell,I.free,I.eW,I.pin,I.ax,I.len⟩
theorem SP.iG{D:Ends}{f:Flow}{s':Shared}(h:SP (X.gk E) pins D f s'):SP X pins D f s':=by
 cases f with
 | next=>obtain ⟨σ',H',I,q⟩:=h;exact ⟨σ',H',I.iG,q⟩
 | brk=>obtain ⟨σ',H',I,q⟩:=h;exact ⟨σ',H',I.iG,q⟩
 | cont=>obtain ⟨σ',H',I,q⟩:=h;exact ⟨σ',H',I.iG,q⟩
 | ret u=>obtain ⟨v,σ',H',I,r,q⟩:=h;exact ⟨v,σ',H',I.iG,r,q⟩
theorem dB.ml{st:List Stmt}{t:TS}(h:dB X.ml st t):dB X st t:=fun pins s σ H D I hw=>bq (h pins s σ H D (I.gk _) hw) (fun _ _ q=>q.iG) fun _ _ z=>False.elim z
end
section
variable {X:Cx} {st:Stmt} {rest:List Stmt} {t u:TS} {e:Expr} {te:TE} {pos:Pos}
def nZ:TS:=fun D σ H=>D.nx σ H
def qv(t u:TS):TS:=fun D σ H=>t {D with nx:=u D} σ H
theorem bX:dB X [] nZ:=fun _ _ σ H _ I h=>wpAny_execs_nil ⟨σ,H,I,h⟩
theorem aW(h1:PS X st t)(h2:dB X rest u):dB X (st::rest) (qv t u):=by
 intro pins s σ H D I h;refine wpAny_execs_cons (aE (h1 pins s σ H {D with nx:=u D} I h) fun f s1 q=>?_);cases f with
 | next=>obtain ⟨σ',H',I',q⟩:=q;exact h2 pins s1 σ' H' D I' q
 | ret v=>exact q
 | brk=>exact q
 | cont=>exact q
theorem aQ(h1:PS X st t):dB X [st] t:=by
 intro pins s σ H D I h;refine wpAny_execs_cons (aE (h1 pins s σ H D I h) fun f s1 q=>?_);cases f with
 | next=>exact wpAny_execs_nil q
 | ret v=>exact q
 | brk=>exact q
 | cont=>exact q
theorem Inv.quiet{pins:aD}{σ:St}(I:Inv X pins σ H s):interactive X.env=false:=by simp [interactive,I.ok.kind]
def xX(te:TE):TS:=fun D σ H=>te σ H fun _ H1=>D.nx σ H1
theorem tU(he:PE X e te)(hs:swapsWith e none pos.line X.env=pure false:=by rfl):PS X (.Expr e pos) (xX te):=by intro pins s σ H D I h;exact wpAny_Expr_any (aE (he pins s σ H _ I h) fun v s1 ⟨x,H1,I1,r1,q1⟩=>⟨σ,H1,I1,q1⟩) I.quiet hs
def tV(te:TE):TS:=fun D σ H=>te σ H D.rt
theorem bb(he:PE X e te):PS X (.Return (some e) pos) (tV te):=by intro pins s σ H D I h;exact wpAny_Return_some (aE (he pins s σ H _ I h) fun v s1 ⟨x,H1,I1,r1,q1⟩=>⟨x,σ,H1,I1,r1,q1⟩)
def xY(c:TT)(t u:TS):TS:=fun D σ H=>c σ H fun b H1=>if b=true then t D σ H1 else u D σ H1
theorem bY{c:Expr}{a b:List Stmt}{tc:TT}(hc:PT X c tc)(ha:dB X a t)(hb:dB X b u):PS X (.If c a b pos) (xY tc t u):=by
 intro pins s σ H D I h;refine wpAny_If (aE (hc pins s σ H _ I h) fun d s1 ⟨H1,I1,q1⟩=>?_);cases d with
 | true=>exact ha pins s1 σ H1 D I1 q1
 | false=>exact hb pins s1 σ H1 D I1 q1
end
abbrev TG:=V→St→Hp→(St→Hp→Prop)→Prop
abbrev je:=List V→St→Hp→(St→Hp→Prop)→Prop
def PG(X:Cx)(target:Expr)(t:TG):Prop:=
 ∀(pins:aD) (s:Shared) (σ:St) (H:Hp) (v:V) (u:Value) (Q:St→Hp→Prop),Inv X pins σ H s→RelV v u→t v σ H Q→
  wpAny (model X.prog X.w) X.A (assign target X.env u) (fun _ s'=>∃σ' H',Inv X pins σ' H' s'∧Q σ' H') X.xe s
def n4(X:Cx)(ts:List Expr)(t:je):Prop:=
 ∀(pins:aD) (s:Shared) (σ:St) (H:Hp) (vs:List V) (us:List Value) (Q:St→Hp→Prop),Inv X pins σ H s→Vals vs us→t vs σ H Q→
  wpAny (model X.prog X.w) X.A (assignInOrder ((assignEach ts X.env).map (·.2)) us) (fun _ s'=>∃σ' H',Inv X pins σ' H' s'∧Q σ' H') X.xe s
abbrev qw:=V→V→V→Hp→(Hp→Prop)→Prop
def tW(X:Cx)(t:qw):Prop:=
 ∀(pins:aD) (s:Shared) (σ:St) (H:Hp) (o i v:V) (ov iv u:Value) (Q:Hp→Prop),Inv X pins σ H s→RelV o ov→RelV i iv→RelV v u→t o i v H Q→
  wpAny (model X.prog X.w) X.A (setItem ov iv u) (fun _ s'=>∃H',Inv X pins σ H' s'∧Q H') X.xe s
section
variable {X:Cx} {pos:Pos}
def cT(i:Nat):TG:=fun v σ H Q=>Q (σ.set i (some v)) H
variable {i:Nat}
theorem fC{x:Str}(hN:X.N.Nodup)(hi:X.N[i]?=some x)(hx:Loc X.env.scope x)(hf:X.fn x=true∨X.env.scope.names.lookup x=some .local:=by first | exact .inl rfl | exact .inr rfl | assumption):PG X (.Name x pos) (cT i):=by intro pins s σ H v u Q I r h;exact wpAny_assign_Name (tP I hN hi hx r (fun s' I'=>⟨_,H,I',h⟩) hf)
def tX:je:=fun vs σ H Q=>vs=[]∧Q σ H
def qx(t:TG)(u:je):je:=fun vs σ H Q=>∃v r,vs=v::r∧t v σ H fun σ' H'=>u r σ' H' Q
theorem xZ:n4 X [] tX:=by intro pins s σ H vs us Q I r h;obtain ⟨e,h⟩:=h;subst e;cases r;exact assignInOrder_nil ⟨σ,H,I,h⟩
variable {e:Expr} {es:List Expr}
theorem tY{t:TG}{u:je}(h1:PG X e t)(h2:n4 X es u)
  (hs:(assignEach (e::es) X.env).map (·.2)=assign e X.env::(assignEach es X.env).map (·.2):=by rfl):n4 X (e::es) (qx t u):=by
 intro pins s σ H vs us Q I r h;obtain ⟨v,vr,e1,h⟩:=h;subst e1;cases r with
 | cons r rr=>rw [hs];refine assignInOrder_cons (aE (h1 pins s σ H _ _ _ I r h) fun _ s1 ⟨σ1,H1,I1,q1⟩=>?_);exact h2 pins s1 σ1 H1 _ _ Q I1 rr q1
def tZ(K:aB)(n:Nat)(t:je):TG:=fun v σ H Q=>∃a xs,v=.ref a∧bE K H a xs∧xs.length=n∧t xs σ H Q
theorem x4{k:Nat}{t:je}{n:Nat}(hc:X.calm=true)(h:n4 X es t)
  (hn:(assignEach es X.env).length=n:=by rfl) (x5:(assignEach es X.env).findIdx? (·.1)=none:=by rfl):PG X (.Tuple es k pos) (tZ X.K n t):=by
 intro pins s σ H v u Q I r hw;obtain ⟨a,xs,e1,hq,hl,hw⟩:=hw;subst e1;cases r;obtain ⟨aj,rv,ht,hz⟩:=I.tuple hq;refine assign_Tuple_tuple (I.ok.hd hc) ht (by simp [hn,←hl,rv.length]) x5 fun h' hx=>?_
 have I1:Inv X pins σ H {s with heap:=h'}:=I.kept (t':=s.toks) fun b o e=>hx b o (b_ (aX e)) e;exact h pins _ σ H xs _ Q I1 (by simpa using rv) hw
def x6(to ti:TE)(t:qw):TG:=fun v σ H Q=>to σ H fun o H1=>ti σ H1 fun i H2=>t o i v H2 fun H3=>Q σ H3
theorem x8{o i:Expr}{to ti:TE}{t:qw}(ho:PE X o to)(hi:PE X i ti)(hs:tW X t)
  (ha:∀v,assign (.Subscript o i pos) X.env v=(do
   let ov ←holding [v] (eval o X.env)
   let iv ←holding [v,ov] (eval i X.env)
   standAt pos
   holding [v,ov,iv] (setItem ov iv v)
   release [v,ov,iv] []):=by intro _;rfl):PG X (.Subscript o i pos) (x6 to ti t):=by
 intro pins s σ H v u Q I r h
 rw [ha]
 refine ak (gO (aE (ho pins s σ H _ I h) fun ov s1 ⟨x,H1,I1,r1,q1⟩=>?_))
 refine ak (gO (aE (hi pins s1 σ H1 _ I1 q1) fun iv s2 ⟨y,H2,I2,r2,q2⟩=>?_))
 refine ak (lR (ak (gO (aE (hs pins s2 σ H2 x y v ov iv u _ I2 r1 r2 r q2) fun _ s3 ⟨H3,I3,q3⟩=>?_))))
 exact wpAny_release ⟨σ,H3,I3,q3⟩
def jf(te:TE)(g:TG):TS:=fun D σ H=>te σ H fun x H1=>g x σ H1 D.nx
theorem x9{tg e:Expr}{te:TE}{g:TG}(he:PE X e te)(hg:PG X tg g)(hs:swapsWithSole [tg] e pos.line X.env=pure false:=by rfl)(hw:swappedStores [tg] e X.env=pure none:=by rfl)
  (h1:(assignEach [tg] X.env).map (·.2)=[assign tg X.env]:=by rfl):PS X (.Assign [tg] e pos) (jf te g):=by
 intro pins s σ H D I h;refine wpAny_Assign_stores (aE (he pins s σ H _ I h) fun v s1 ⟨x,H1,I1,r1,q1⟩=>?_) hs hw;rw [h1];exact aE (hg pins s1 σ H1 x v _ I1 r1 q1) fun _ s2 q=>q
theorem x_{x:Str}{te:TE}{pos':Pos}(hN:X.N.Nodup)(hi:X.N[i]?=some x)(hx:Loc X.env.scope x)(he:PE X e te)(hs:swapsWith e (some (.Name x pos')) pos.line X.env=pure false:=by rfl)(hf:X.fn x=true∨X.env.scope.names.lookup x=some .local:=by first | exact .inl rfl | exact .inr rfl | assumption) :
  PS X (.Assign [.Name x pos'] e pos) (jf te (cT i)):=by
 intro pins s σ H D I h;refine wpAny_Assign_Name (aE (he pins s σ H _ I h) fun v s1 ⟨y,H1,I1,r1,q1⟩=>?_) hs;exact tP I1 hN hi hx r1 (fun s2 I2=>⟨_,H1,I2,q1⟩) hf
end
section
variable {X:Cx} {pos:Pos}
end
structure It where
 go:Nat→Hp→Prop
 da:Nat→Hp→V→Hp→Prop
 stop:Nat→Hp→Prop
def g8(X:Cx)(pins:aD)(H:Hp)(b:Addr):Prop:=
 H b=none∧b≠X.env.locals∧b∉X.fs∧(b∈X.ex∨X.s₀.heap.objs.size≤b)∧(∀x c,X.env.cells.lookup x=some c→c≠b)∧∀p∈X.pn++pins,p.1≠b
variable {σ:St}
theorem Inv.n5{pins:aD}{H':Hp}(I:Inv X pins σ H s)(hb:s.heap.objs.size≤b)(hn:H' b=none):g8 X pins H' b:=by
 refine ⟨hn,j8 (cY I.lt hb),I.xG hb,.inr (cO I.sz hb),fun x c e z=>?_,fun p hp z=>?_⟩
 ·obtain ⟨v,q⟩:=I.cell x c e
  exact absurd (cY q.lt (by rw [z];exact hb)) (ei _)
 ·exact absurd (cY (aX (I.pin p hp).1) (by rw [z];exact hb)) (ei _)
structure Turn (P:Program) (w:World) (K:aB) (tg:Expr) (J:It) (fp:List Addr) (it:Addr) (tn:Nat→Heap→Prop):Prop where
 mem:it∈fp
 obj:∀i h,tn i h→∀b∈fp,∃o,h.get? b=some o∧∀v,o.data≠.cell v
 keep:∀i h h',tn i h→(∀b∈fp,∀o,h.get? b=some o→h'.get? b=some o)→tn i h'
 item:∀(X:Cx),X.prog=P→X.w=w→X.K=K→X.calm=true→∀(i:Nat) (pins:aD) (s:Shared) (σ:St) (H:Hp) (E:ay),Inv X pins σ H s→(∀b∈fp,g8 X pins H b)→tn i s.heap→J.go i H→
  wpAny (model P w) X.A (pyNext (.ref it)) (fun r s1=>∃u,r=some u ∧
   wpAny (model P w) X.A (letOwnedTupleGo tg (.ref it) u) (fun _ s2=>∃x H',Inv X pins σ H' s2∧RelV x u∧J.da i H x H'∧tn (i+1) s2.heap∧∀b∈fp,H' b=none) E s1) E s
 done:∀(X:Cx),X.prog=P→X.w=w→X.K=K→X.calm=true→∀(i:Nat) (pins:aD) (s:Shared) (σ:St) (H:Hp) (E:ay),Inv X pins σ H s→(∀b∈fp,g8 X pins H b)→tn i s.heap→J.stop i H→
  wpAny (model P w) X.A (pyNext (.ref it)) (fun r s1=>r=none∧Inv X pins σ H s1) E s
 self:∀(A:Around) (i:Nat) (s:Shared) (Q:ay) (E:ay),tn i s.heap→Q (.ref it) s→wpAny (model P w) A (pyIter (.ref it)) Q E s
abbrev TI:=St→Hp→(It→Hp→Prop)→Prop
def t5(X:Cx)(pins:aD)(σ:St)(tg:Expr)(R:It→Hp→Prop)(mq:Value)(s2:Shared):Prop:=
 ∃(it:Addr) (fp:List Addr) (tn:Nat→Heap→Prop) (J:It) (H':Hp),mq=.ref it∧Inv X pins σ H' s2∧Turn X.prog X.w X.K tg J fp it tn∧tn 0 s2.heap∧(∀b∈fp,g8 X pins H' b)∧R J H'
def PI(X:Cx)(tg iter:Expr)(wi:TI):Prop:=
 ∀(pins:aD) (s:Shared) (σ:St) (H:Hp) (R:It→Hp→Prop),Inv X pins σ H s→wi σ H R→
  wpAny (model X.prog X.w) X.A (eval iter X.env) (fun v s1=>wpAny (model X.prog X.w) X.A (pyIter v) (t5 X pins σ tg R) X.xe s1) X.xe s
variable {tg:Expr}
theorem qy{it:Addr}{o:Obj}{n:String}{vs:Array Value}{Q:Unit→Shared→Prop}(ho:s.heap.get? it=some o)(hc:o.cls=.type n)(hd:o.data=.fields vs)
    (hn:["enumerate","zip","dict_itemiterator","dict_reverseitemiterator","odict_iterator","itertools.zip_longest","itertools.pairwise"].contains n=false) (hQ:Q () s):wpAny M A (letOwnedTupleGo tg (.ref it) u) Q E s:=by
  unfold letOwnedTupleGo
  cases tg <;> first
    | exact aL hQ
    | (cases u <;> first
        | exact aL hQ
        | (refine ak (wpAny_load ho ?_)
           rw [hc,hd];show wpAny M A (if (["enumerate","zip","dict_itemiterator","dict_reverseitemiterator","odict_iterator","itertools.zip_longest","itertools.pairwise"].contains n && vs[0]? == some (rawInt _))=true then _ else _) Q E s
           rw [aa (by intro h;rw [hn,Bool.false_and] at h;cases h)]
           exact aL hQ))
def n6(K:aB)(a:Addr):It:=
 ⟨fun i H=>∃xs x,b7 K H a xs∧xs[i]?=some x,fun i H x H'=>H'=H∧∀xs,b7 K H a xs→xs[i]?=some x,fun i H=>∃xs,b7 K H a xs∧xs.length≤i⟩
def mr(K:aB)(a:Addr):It:=
 ⟨fun i H=>∃xs x,bE K H a xs∧xs[i]?=some x,fun i H x H'=>H'=H∧∀xs,bE K H a xs→xs[i]?=some x,fun i H=>∃xs,bE K H a xs∧xs.length≤i⟩
def gm(lo:Int)(n:Nat):It:=⟨fun i _=>i<n,fun i H x H'=>H'=H∧x=.int (lo+i),fun i _=>n≤i⟩
variable {K:aB}
theorem Fu(a it:Addr):Turn P w K tg (n6 K a) [it] it (fun i h=>h.IsListIter it a i) where
 mem:=by simp
 obj:=fun i h st b hb=>by
  have e:b=it:=by simpa using hb
  subst e;obtain ⟨o,e,c,d⟩:=st;exact ⟨o,e,fun v z=>by rw [d] at z;cases z⟩
 keep:=fun i h h' st k=>st.at fun o e=>k it (by simp) o e
 item:=by
  intro X hP hw hK hc i pins s σ H E I hf st hg;subst hP hw hK;obtain ⟨xs,x,hq,hx⟩:=hg;obtain ⟨aj,rv,p,hz⟩:=I.list hq;obtain ⟨u,hu,ru⟩:=rv.get hx;obtain ⟨f0,f1,f2,f3,f4,f5⟩:=hf it (by simp)
  refine wpAny_pyNext_list_item st p.isList (x:=u) (by simpa using hu) fun h' ao sb=>?_
  have I1:Inv X pins σ H {s with heap:=h'}:=I.turned (t':=s.toks) (fun b o hb e=>(sb.2 b hb).trans e) f0 f1 f3 f4 f5;obtain ⟨o,e,c,d⟩:=id ao;exact ⟨u,rfl,qy (s:={s with heap:=h'}) e c d (by decide) ⟨x,H,I1,ru,⟨rfl,fun ys hy=>by rw [I.xW hy hq];exact hx⟩,ao,fun b hb=>(hf b hb).1⟩⟩
 done:=by
  intro X hP hw hK hc i pins s σ H E I hf st hg;subst hP hw hK;obtain ⟨xs,hq,hx⟩:=hg;obtain ⟨aj,rv,p,hz⟩:=I.list hq;obtain ⟨f0,f1,f2,f3,f4,f5⟩:=hf it (by simp)
  have hl:=rv.length;exact wpAny_pyNext_list_end (I.ok.hd hc) st p.isList (by simp;omega) fun h' eb=>⟨rfl,I.turned (t':=s.toks) (fun b o hb e=>eb b o hb e) f0 f1 f3 f4 f5⟩
 self:=fun _ _ _ _ _ st h=>wpAny_pyIter_listiter st h
theorem ya(a it:Addr):Turn P w K tg (mr K a) [it] it (fun i h=>h.IsTupleIter it a i) where
 mem:=by simp
 obj:=fun i h st b hb=>by
  have e:b=it:=by simpa using hb
  subst e;obtain ⟨o,e,c,d⟩:=st;exact ⟨o,e,fun v z=>by rw [d] at z;cases z⟩
 keep:=fun i h h' st k=>st.at fun o e=>k it (by simp) o e
 item:=by
  intro X hP hw hK hc i pins s σ H E I hf st hg;subst hP hw hK;obtain ⟨xs,x,hq,hx⟩:=hg;obtain ⟨aj,rv,p,hz⟩:=I.tuple hq;obtain ⟨u,hu,ru⟩:=rv.get hx;obtain ⟨f0,f1,f2,f3,f4,f5⟩:=hf it (by simp)
  refine wpAny_pyNext_tuple_item st (show s.heap.IsTuple a aj.toArray from p) (x:=u) (by simpa using hu) fun h' ao sb=>?_
  have I1:Inv X pins σ H {s with heap:=h'}:=I.turned (t':=s.toks) (fun b o hb e=>(sb.2 b hb).trans e) f0 f1 f3 f4 f5;obtain ⟨o,e,c,d⟩:=id ao;exact ⟨u,rfl,qy (s:={s with heap:=h'}) e c d (by decide) ⟨x,H,I1,ru,⟨rfl,fun ys hy=>by rw [I.nY hy hq];exact hx⟩,ao,fun b hb=>(hf b hb).1⟩⟩
 done:=by
  intro X hP hw hK hc i pins s σ H E I hf st hg;subst hP hw hK;obtain ⟨xs,hq,hx⟩:=hg;obtain ⟨aj,rv,p,hz⟩:=I.tuple hq;obtain ⟨f0,f1,f2,f3,f4,f5⟩:=hf it (by simp)
  have hl:=rv.length;exact wpAny_pyNext_tuple_end (I.ok.hd hc) st (show s.heap.IsTuple a aj.toArray from p) (by simp;omega) fun h' eb=>⟨rfl,I.turned (t':=s.toks) (fun b o hb e=>eb b o hb e) f0 f1 f3 f4 f5⟩
 self:=fun _ _ _ _ _ st h=>wpAny_pyIter_tupleiter st h
theorem yb(it:Addr)(lo:Int)(n:Nat):Turn P w K tg (gm lo n) [it] it (fun i h=>IsRangeIter h it (lo+(i:Nat)*1) ((n:Int)-(i:Nat)) 1) where
 mem:=by simp
 obj:=fun i h st b hb=>by
  have e:b=it:=by simpa using hb
  subst e;exact ⟨_,st,fun v z=>by have z':Data.fields _=Data.cell v:=z;cases z'⟩
 keep:=fun i h h' st k=>k it (by simp) _ st
 item:=by
  intro X hP hw hK hc i pins s σ H E I hf st hg;subst hP hw hK;obtain ⟨f0,f1,f2,f3,f4,f5⟩:=hf it (by simp)
  have W:=Walks.range (prog:=X.prog) (w:=X.w) (I.ok.hd hc) it lo 1 n;refine W.item i s _ _ hg st fun v h' tk hv ao kk=>?_;obtain ⟨t,rfl⟩:=hv;have I1:Inv X pins σ H {s with heap:=h',toks:=tk}:=I.turned (fun b o hb e=>kk b o (by simpa using hb) e) f0 f1 f3 f4 f5
  refine ⟨_,rfl,qy (s:={s with heap:=h',toks:=tk}) (n:="range_iterator") ao rfl rfl (by decide) ⟨.int (lo+i),H,I1,⟨t,?_⟩,⟨rfl,rfl⟩,ao,fun b hb=>(hf b hb).1⟩⟩
  rw [Int.mul_one]
 done:=by
  intro X hP hw hK hc i pins s σ H E I hf st hg;subst hP hw hK;obtain ⟨f0,f1,f2,f3,f4,f5⟩:=hf it (by simp)
  exact wpAny_pyNext_range_end (I.ok.hd hc) st (by have:n≤i:=hg;omega) fun h' eb=>⟨rfl,I.turned (t':=s.toks) (fun b o hb e=>eb b o hb e) f0 f1 f3 f4 f5⟩
 self:=fun _ _ _ _ _ st h=>wpAny_pyIter_rangeiter st h
section
variable {X:Cx} {tg:Expr}
def yc(K:aB)(tl:TE):TI:=fun σ H R=>tl σ H fun x H1=>∃a,x=.ref a∧(∃xs,bE K H1 a xs)∧R (mr K a) H1
theorem t9{l:Expr}{tl:TE}(hl:PE X l tl):PI X tg l (yc X.K tl):=by
 intro pins s σ H R I h;refine aE (hl pins s σ H _ I h) fun v s1 ⟨x,H1,I1,r1,q1⟩=>?_;obtain ⟨a,e,⟨xs,hq⟩,q⟩:=q1;subst e;cases r1;obtain ⟨aj,rv,p,hz⟩:=I1.tuple hq;refine j9 (show s1.heap.IsTuple a aj.toArray from p) ?_;refine ⟨s1.heap.objs.size,[s1.heap.objs.size],_,_,H1,rfl,I1.kept (t':=s1.toks) fun b o e=>a_ _ e,ya a _,⟨_,cu _ rfl,rfl,rfl⟩,fun b hb=>?_,q⟩;have e:b=s1.heap.objs.size:=by simpa using hb
 subst e;exact I1.n5 (aA _) (I1.ax.fresh (aA _))
variable {pins:aD}
theorem t_{R:It→Hp→Prop}{lo hi:Int}{t u v:Tok}{tk:Nat}(I:Inv X pins σ H s)(h1:-(2 ^ 62)≤lo)(h2:lo<2 ^ 62)(h3:-(2 ^ 62)≤hi)(h4:hi<2 ^ 62)
  (q:R (gm lo (hi-lo).toNat) H):wpAny (model X.prog X.w) X.A (pyIter (.ref s.heap.objs.size)) (t5 X pins σ tg R) E {s with heap:=s.heap.push {cls:=.type "range",data:=.fields #[.int lo t,.int hi u,.int 1 v]},toks:=tk}:=by
 refine wpAny_pyIter_range (IsRange.new ..) (small_one h1 h2 h3 h4) ?_;have I1:Inv X pins σ H {s with heap:=s.heap.push {cls:=.type "range",data:=.fields #[.int lo t,.int hi u,.int 1 v]},toks:=tk}:=I.kept fun b o e=>a_ _ e
 refine ⟨(s.heap.push {cls:=.type "range",data:=.fields #[.int lo t,.int hi u,.int 1 v]}).objs.size,[(s.heap.push {cls:=.type "range",data:=.fields #[.int lo t,.int hi u,.int 1 v]}).objs.size],_,_,H,rfl,
  I1.kept (t':=tk) fun b o e=>a_ _ e,yb _ lo (hi-lo).toNat,?_,fun b hb=>?_,q⟩
 ·have e1:lo+((0:Nat):Int)*1=lo:=by simp
  have e2:(((hi-lo).toNat:Nat):Int)-((0:Nat):Int)=Builtin.Range.rangeSize lo hi 1:=by rw [rangeSize_one];split <;> omega
  show IsRangeIter _ _ (lo+((0:Nat):Int)*1) ((((hi-lo).toNat:Nat):Int)-((0:Nat):Int)) 1;rw [e1,e2];exact cu _ rfl
 ·have e:b=(s.heap.push {cls:=.type "range",data:=.fields #[.int lo t,.int hi u,.int 1 v]}).objs.size:=by simpa using hb
  subst e;exact I1.n5 (aA _) (I1.ax.fresh (aA _))
def yd(ta:TA):TI:=fun σ H R=>ta σ H fun vs H1=>∃j:Int,vs=[.int j]∧-(2 ^ 62)≤j∧j<2 ^ 62∧R (gm 0 j.toNat) H1
def ye(ta:TA):TI:=fun σ H R=>ta σ H fun vs H1=>∃i j:Int,vs=[.int i,.int j]∧(-(2 ^ 62)≤i∧i<2 ^ 62∧-(2 ^ 62)≤j∧j<2 ^ 62)∧R (gm i (j-i).toNat) H1
variable {ta:TA} {p pos:Pos}
theorem gp{a:Expr}(hg:Gl X "range")(hm:X.mg "range"=none)(ha:PA X [a] ta)(hs:starEach [a] X.env=[(false,eval a X.env)]:=by rfl):PI X tg (.Call (.Name "range" p) [a] [] pos) (yd ta):=by
 intro pins s σ H R I h;refine Call_ (jd I hg hm boot_range (nz (aE (ha pos pins s σ H _ I h) fun us s1 ⟨vs,H1,I1,r1,q1⟩=>?_) hs rfl));obtain ⟨j,e,q1,q2,q⟩:=q1;subst e;cases r1 with
 | cons r rr=>cases rr;obtain ⟨t,rfl⟩:=r;exact call_range_1 (t_ I1 (by omega) (by omega) q1 q2 (by simpa using q))
theorem uc{a b:Expr}(hg:Gl X "range")(hm:X.mg "range"=none)(ha:PA X [a,b] ta)(hs:starEach [a,b] X.env=[(false,eval a X.env),(false,eval b X.env)]:=by rfl)(jg:starEach [b] X.env=[(false,eval b X.env)]:=by rfl) :
  PI X tg (.Call (.Name "range" p) [a,b] [] pos) (ye ta):=by
 intro pins s σ H R I h;refine Call_ (jd I hg hm boot_range (nz (aE (ha pos pins s σ H _ I h) fun us s1 ⟨vs,H1,I1,r1,q1⟩=>?_) (by rw [hs,jg]) (by rw [jg];rfl)))
 obtain ⟨i,j,e,⟨q1,q2,q3,q4⟩,q⟩:=q1;subst e;cases r1 with
 | cons r rr=>
  cases rr with
  | cons r' rr=>cases rr;obtain ⟨t,rfl⟩:=r;obtain ⟨t',rfl⟩:=r';exact call_range_2 (t_ I1 q1 q2 q3 q4 q)
def yf(wi:TI)(g:TG)(tb:TS):TS:=fun D σ H=>wi σ H fun J H1=>∃W:Nat→Nat→St→Hp→Prop,(∃m,W 0 m σ H1)∧∀i m σ H,W i m σ H→
 (J.stop i H∧D.nx σ H)∨(J.go i H∧∃N:St→Hp→Prop,(∀σ' H',N σ' H'→∃m',m'<m∧W (i+1) m' σ' H')∧∀x H',J.da i H x H'→g x σ H' fun σ2 H2=>tb {D with nx:=N,ct:=N,bk:=D.nx} σ2 H2)
def gq(fp:List Addr)(h:Heap):List (Addr×Obj):=fp.filterMap fun b=>(h.get? b).map fun o=>(b,o)
variable {fp:List Addr}
theorem iH{o:Obj}(hb:b∈fp)(e:h.get? b=some o):(b,o)∈gq fp h:=List.mem_filterMap.mpr ⟨b,hb,by rw [e];rfl⟩
theorem yg{p:Addr×Obj}(hp:p∈gq fp h):p.1∈fp∧h.get? p.1=some p.2:=by
 obtain ⟨b,hb,e⟩:=List.mem_filterMap.mp hp;cases q:h.get? b with
 | none=>rw [q] at e;cases e
 | some o=>rw [q] at e;have e':(b,o)=p:=Option.some.inj e;subst e';exact ⟨hb,q⟩
theorem Inv.pinned(I:Inv X pins σ H s)(hf:∀b∈fp,g8 X pins H b)(ho:∀b∈fp,∃o,s.heap.get? b=some o∧∀v,o.data≠.cell v):Inv X (pins++gq fp s.heap) σ H s:=
 I.tH fun p hp=>(fm.mp hp).elim (fun z=>I.pin p (cP _ z)) fun z=>by obtain ⟨hb,e⟩:=yg z;obtain ⟨f0,f1,f2,_⟩:=hf p.1 hb;obtain ⟨o,e',d⟩:=ho p.1 hb;rw [e] at e';cases e';exact ⟨e,f0,f1,f2,d⟩
theorem Inv.kn{pl:aD}(I:Inv X (pins++pl) σ H s):Inv X pins σ H s:=I.tH fun p hp=>I.pin p (cP _ (List.mem_append_left _ hp))
theorem jh{iter:Expr}{body:List Stmt}{wi:TI}{g:TG}{tb:TS}(hp:PassesOwn (model X.prog X.w) X.A X.env X.xe)(hc:X.calm=true)(hi:PI X tg iter wi)(hg:PG X tg g)(hb:dB X body tb)
  (hs:∀x,foldedSetIterable iter X.env x=pure x:=by intro _;rfl):PS X (.For tg iter body [] pos) (yf wi g tb):=by
 intro pins s σ H D I h;refine wpAny_For (aE (hi pins s σ H _ I h) fun v s1 h1=>aE h1 fun mq s2 h2=>?_) hs;obtain ⟨it,fp,tn,J,H2,e,I2,T,eF,f2,W,⟨m0,w0⟩,turn⟩:=h2;subst e;have dD:∀{H':Hp},(∀b∈fp,H' b=none)→∀b∈fp,g8 X pins H' b:=fun hn b hb=>⟨hn b hb,(f2 b hb).2⟩;refine codeAny_forLoop_any (fun n s'=>∃i σ' H',Inv X pins σ' H' s'∧tn i s'.heap∧(∀b∈fp,H' b=none)∧W i n σ' H') ?_ m0 ⟨0,σ,H2,I2,eF,fun b hb=>(f2 b hb).1,w0⟩;rintro n s3 ⟨i,σ3,H3,I3,ud,ue,w3⟩;rcases turn i n σ3 H3 w3 with ⟨stop,qn⟩ | ⟨go,N,hN,step⟩
 ·refine lS hp (aE (T.done X rfl rfl rfl hc i pins s3 σ3 H3 X.xe I3 (dD ue) ud stop) fun r s4 ⟨hr,I4⟩=>?_)
  subst hr;exact wpAny_execs_nil ⟨σ3,H3,I4,qn⟩
 ·refine lS hp (aE (T.item X rfl rfl rfl hc i pins s3 σ3 H3 X.xe I3 (dD ue) ud go) fun r s4 ⟨u,hr,h4⟩=>?_)
  subst hr;refine lS hp (aE h4 fun _ s5 ⟨x,H5,I5,r5,y5,dE,ji⟩=>?_);have jj:=I5.pinned (dD ji) (T.obj _ _ dE);refine lS hp (aE (hg _ s5 σ3 H5 x u _ jj r5 (step x H5 y5)) fun _ s6 ⟨σ6,H6,I6,q6⟩=>?_);refine lS hp (aE (hb _ s6 σ6 H6 _ I6 q6) fun f s7 q7=>?_);have again:∀{σ7:St} {H7:Hp},Inv X (pins++gq fp s5.heap) σ7 H7 s7→N σ7 H7→∃m,m<n∧∃i σ' H',Inv X pins σ' H' s7∧tn i s7.heap∧(∀b∈fp,H' b=none)∧W i m σ' H':=fun{σ7 H7} I7 n7=>by obtain ⟨m',hm,w7⟩:=hN σ7 H7 n7;refine ⟨m',hm,i+1,σ7,H7,I7.kn,T.keep _ _ _ dE fun b hb o e=>(I7.pin (b,o) (cP _ (cP _ (iH hb e)))).1,fun b hb=>?_,w7⟩;obtain ⟨o,e,d⟩:=T.obj _ _ dE b hb;exact (I7.pin (b,o) (cP _ (cP _ (iH hb e)))).2.1
  cases f with
  | next=>obtain ⟨σ7,H7,I7,n7⟩:=q7;exact again I7 n7
  | cont=>obtain ⟨σ7,H7,I7,n7⟩:=q7;exact again I7 n7
  | brk=>obtain ⟨σ7,H7,I7,q7⟩:=q7;exact ⟨σ7,H7,I7.kn,q7⟩
  | ret v=>obtain ⟨x7,σ7,H7,I7,r7,q7⟩:=q7;exact ⟨x7,σ7,H7,I7.kn,r7,q7⟩
end
variable {g:TG} {tb:TS} {D:Ends}
theorem FC(Pv:Nat→St→Hp→Prop)(h0:Pv 0 σ H)(hl:∀i σ H,i≤xs.length→Pv i σ H→b7 K H a xs)
  (hs:∀i x σ H,xs[i]?=some x→Pv i σ H→g x σ H fun σ2 H2=>tb {D with nx:=Pv (i+1),ct:=Pv (i+1),bk:=D.nx} σ2 H2) (hd:∀σ H,Pv xs.length σ H→D.nx σ H) :
  ∃W:Nat→Nat→St→Hp→Prop,(∃m,W 0 m σ H)∧∀i m σ H,W i m σ H→
   ((n6 K a).stop i H∧D.nx σ H)∨((n6 K a).go i H∧∃N:St→Hp→Prop,(∀σ' H',N σ' H'→∃m',m'<m∧W (i+1) m' σ' H')∧∀x H',(n6 K a).da i H x H'→g x σ H' fun σ2 H2=>tb {D with nx:=N,ct:=N,bk:=D.nx} σ2 H2):=by
 refine ⟨fun i m σ H=>m=xs.length-i∧i≤xs.length∧Pv i σ H,⟨xs.length,by simp,cG _,h0⟩,?_⟩
 rintro i m σ H ⟨rfl,hi,p⟩;have q:=hl i σ H hi p;by_cases bT:i<xs.length
 ·refine .inr ⟨⟨xs,xs[i],q,by simp [bT]⟩,Pv (i+1),fun σ' H' p'=>⟨xs.length-(i+1),by omega,rfl,bT,p'⟩,fun x H' y=>?_⟩
  obtain ⟨e,y⟩:=y;subst e;exact hs i x σ _ (y xs q) p
 ·have e:i=xs.length:=by omega
  subst e;exact .inl ⟨⟨xs,q,aA _⟩,hd σ H p⟩
theorem yh(Pv:Nat→St→Hp→Prop)(h0:Pv 0 σ H)(hl:∀i σ H,i≤xs.length→Pv i σ H→bE K H a xs)
  (hs:∀i x σ H,xs[i]?=some x→Pv i σ H→g x σ H fun σ2 H2=>tb {D with nx:=Pv (i+1),ct:=Pv (i+1),bk:=D.nx} σ2 H2) (hd:∀σ H,Pv xs.length σ H→D.nx σ H) :
  ∃W:Nat→Nat→St→Hp→Prop,(∃m,W 0 m σ H)∧∀i m σ H,W i m σ H→
   ((mr K a).stop i H∧D.nx σ H)∨((mr K a).go i H∧∃N:St→Hp→Prop,(∀σ' H',N σ' H'→∃m',m'<m∧W (i+1) m' σ' H')∧∀x H',(mr K a).da i H x H'→g x σ H' fun σ2 H2=>tb {D with nx:=N,ct:=N,bk:=D.nx} σ2 H2):=by
 refine ⟨fun i m σ H=>m=xs.length-i∧i≤xs.length∧Pv i σ H,⟨xs.length,by simp,cG _,h0⟩,?_⟩
 rintro i m σ H ⟨rfl,hi,p⟩;have q:=hl i σ H hi p;by_cases bT:i<xs.length
 ·refine .inr ⟨⟨xs,xs[i],q,by simp [bT]⟩,Pv (i+1),fun σ' H' p'=>⟨xs.length-(i+1),by omega,rfl,bT,p'⟩,fun x H' y=>?_⟩
  obtain ⟨e,y⟩:=y;subst e;exact hs i x σ _ (y xs q) p
 ·have e:i=xs.length:=by omega
  subst e;exact .inl ⟨⟨xs,q,aA _⟩,hd σ H p⟩
variable {n:Nat}
theorem iI{lo:Int}(Pv:Nat→St→Hp→Prop)(h0:Pv 0 σ H)
  (hs:∀i σ H,i<n→Pv i σ H→g (.int (lo+i)) σ H fun σ2 H2=>tb {D with nx:=Pv (i+1),ct:=Pv (i+1),bk:=D.nx} σ2 H2) (hd:∀σ H,Pv n σ H→D.nx σ H) :
  ∃W:Nat→Nat→St→Hp→Prop,(∃m,W 0 m σ H)∧∀i m σ H,W i m σ H→
   ((gm lo n).stop i H∧D.nx σ H)∨((gm lo n).go i H∧∃N:St→Hp→Prop,(∀σ' H',N σ' H'→∃m',m'<m∧W (i+1) m' σ' H')∧∀x H',(gm lo n).da i H x H'→g x σ H' fun σ2 H2=>tb {D with nx:=N,ct:=N,bk:=D.nx} σ2 H2):=by
 refine ⟨fun i m σ H=>m=n-i∧i≤n∧Pv i σ H,⟨n,by simp,cG _,h0⟩,?_⟩
 rintro i m σ H ⟨rfl,hi,p⟩;by_cases bT:i<n
 ·refine .inr ⟨bT,Pv (i+1),fun σ' H' p'=>⟨n-(i+1),by omega,rfl,bT,p'⟩,fun x H' y=>?_⟩
  obtain ⟨e,y⟩:=y;subst e y;exact hs i σ _ bT p
 ·have e:i=n:=by omega
  subst e;exact .inl ⟨aA _,hd σ H p⟩
abbrev R2:=V→V→Hp→VK→Prop
def bZ(X:Cx)(f:Value→Value→Sem Value)(r:R2):Prop:=
 ∀(pins:aD) (s:Shared) (σ:St) (H:Hp) (x y:V) (v u:Value) (Q:VK),Inv X pins σ H s→RelV x v→RelV y u→r x y H Q→
  wpAny (model X.prog X.w) X.A (f v u) (EP X pins σ Q) X.xe s
def gr(X:Cx)(f:Value)(r:List V→Hp→VK→Prop):Prop:=
 ∀(pins:aD) (s:Shared) (σ:St) (H:Hp) (xs:List V) (us:List Value) (Q:VK),Inv X pins σ H s→Vals xs us→r xs H Q→
  wpAny (model X.prog X.w) X.A (call f us) (EP X pins σ Q) X.xe s
def jk(r:R2)(ta tb:TE):TE:=fun σ H Q=>ta σ H fun x H1=>tb σ H1 fun y H2=>r x y H2 Q
def rI(C:Int→Int→Prop)(g:Int→Int→V):R2:=fun x y H Q=>∃i j,x=.int i∧y=.int j∧C i j∧Q (g i j) H
def iJ(g:Int→Int→V):R2:=fun x y H Q=>∃i j,x=.int i∧y=.int j∧Q (g i j) H
section
variable {X:Cx} {a b c:Expr} {ta tb tc:TE} {pos:Pos}
variable {f:Value→Value→Sem Value}
theorem qz(ha:PE X a ta)(hb:PE X b tb){pins:aD}{R:V→V→Hp→Prop}(I:Inv X pins σ H s)
  (h:ta σ H fun x H1=>tb σ H1 fun y H2=>R x y H2) {Q:ay}
  (hf:∀v u s2 x y H2,Inv X pins σ H2 s2→RelV x v→RelV y u→R x y H2→wpAny (model X.prog X.w) X.A (f v u) Q X.xe s2) :
  wpAny (model X.prog X.w) X.A (eval a X.env) (fun v s₁=>wpAny (model X.prog X.w) X.A (eval b X.env) (fun u s₂=>wpAny (model X.prog X.w) X.A (f v u) Q X.xe s₂) X.xe s₁) X.xe s:=by
 refine aE (ha pins s σ H _ I h) fun v s1 ⟨x,H1,I1,r1,q1⟩=>?_;refine aE (hb pins s1 σ H1 _ I1 q1) fun u s2 ⟨y,H2,I2,r2,q2⟩=>?_;exact hf v u s2 x y H2 I2 r1 r2 q2
theorem aY{op:Operator}{r:R2}(ho:bZ X (binaryOp op) r)(ha:PE X a ta)(hb:PE X b tb):PE X (.BinOp a op b pos) (jk r ta tb):=by intro pins s σ H Q I h;exact wpAny_BinOp (qz ha hb I h fun v u s2 x y H2 I2 rx ry q=>ho pins s2 σ H2 x y v u Q I2 rx ry q)
theorem qA{C:Int→Int→Prop}{g:Int→Int→Int}
  (rule:∀(i j:Int) (t u:Tok) (s:Shared) (Q:ay) (E:ay),C i j→Q (.int (g i j) s.toks) {s with toks:=s.toks+1}→wpAny (model X.prog X.w) X.A (f (.int i t) (.int j u)) Q E s) :
  bZ X f (rI C fun i j=>.int (g i j)):=by
 intro pins s σ H x y v u Q I rx ry h;obtain ⟨i,j,rfl,rfl,hc,q⟩:=h;obtain ⟨t,rfl⟩:=rx;obtain ⟨t',rfl⟩:=ry;exact rule i j t t' s _ _ hc ⟨.int (g i j),H,I.tok _,⟨_,rfl⟩,q⟩
theorem uf{g:Int→Int→Int}
  (rule:∀(i j:Int) (t u:Tok) (s:Shared) (Q:ay) (E:ay),Q (.int (g i j) s.toks) {s with toks:=s.toks+1}→wpAny (model X.prog X.w) X.A (f (.int i t) (.int j u)) Q E s) :
  bZ X f (iJ fun i j=>.int (g i j)):=by
 intro pins s σ H x y v u Q I rx ry h;obtain ⟨i,j,rfl,rfl,q⟩:=h;obtain ⟨t,rfl⟩:=rx;obtain ⟨t',rfl⟩:=ry;exact rule i j t t' s _ _ ⟨.int (g i j),H,I.tok _,⟨_,rfl⟩,q⟩
theorem n8{g:Int→Int→Bool}
  (rule:∀(i j:Int) (t u:Tok) (s:Shared) (Q:ay) (E:ay),Q (.bool (g i j)) s→wpAny (model X.prog X.w) X.A (f (.int i t) (.int j u)) Q E s) :
  bZ X f (iJ fun i j=>.bl (g i j)):=by
 intro pins s σ H x y v u Q I rx ry h;obtain ⟨i,j,rfl,rfl,q⟩:=h;obtain ⟨t,rfl⟩:=rx;obtain ⟨t',rfl⟩:=ry;exact rule i j t t' s _ _ ⟨.bl (g i j),H,I,rfl,q⟩
def yi(i j:Int):Prop:=0<j∧j<1073741824
def qB(i j:Int):Prop:=(-(2 ^ 64)<i∧i<2 ^ 64)∨(-(2 ^ 64)<j∧j<2 ^ 64)
theorem qB.ok{i j:Int}(h:qB i j):IntMulOk i j:=by
 rcases h with ⟨h1,h2⟩ | ⟨h1,h2⟩;·exact .of_left (intBits_le_64 h1 h2)
 ·exact .of_right (intBits_le_64 h1 h2)
theorem dF:bZ X (binaryOp .Add) (iJ fun i j=>.int (i+j)):=uf fun _ _ _ _ _ _ _ q=>add_int q
theorem fD:bZ X (binaryOp .Sub) (iJ fun i j=>.int (i-j)):=uf fun _ _ _ _ _ _ _ q=>sub_int q
theorem gs:bZ X (binaryOp .Mult) (rI qB fun i j=>.int (i*j)):=qA fun _ _ _ _ _ _ _ hc q=>mul_int q hc.ok
theorem qC:bZ X (binaryOp .FloorDiv) (rI yi fun i j=>.int (i / j)):=qA fun i j _ _ _ _ _ hc q=>by have h1:(0:Int)<j:=hc.1;have h2:j<1073741824:=hc.2;exact floordiv_int (by omega) (by rw [Int.fdiv_eq_ediv_of_nonneg i (by omega)];exact q) (.inl (PyProof.noPylong_small (by omega)))
theorem ko:bZ X (binaryOp .Mod) (rI (fun _ j=>0<j) fun i j=>.int (i % j)):=qA fun i j _ _ _ _ _ hc q=>by have h1:(0:Int)<j:=hc;exact mod_int' (by omega) (by rw [Int.fmod_eq_emod_of_nonneg i (by omega)];exact q)
end
def ug:V→V→Bool
 | .aN,.aN=>true | .aN,.int _=>true | .int _,.aN=>true | .aN,.bl _=>true | .bl _,.aN=>true | .aN,.str _=>true | .str _,.aN=>true
 | .int _,.int _=>true | .bl _,.bl _=>true | .str _,.str _=>true | .fA _,.fA _=>true
 | .int _,.str _=>true | .str _,.int _=>true | .bl _,.str _=>true | .str _,.bl _=>true
 | _,_=>false
def yj:R2:=fun x y H Q=>ug x y=true∧Q (.bl (decide (x=y))) H
def yk:R2:=fun x y H Q=>ug x y=true∧Q (.bl (!decide (x=y))) H
theorem uh{i j:Int}:decide (V.int i=V.int j)=(i == j):=by rw [nA];simp
theorem ui{i j:Bool}:decide (V.bl i=V.bl j)=(i == j):=by rw [nA];simp
theorem uj{i j:Str}:decide (V.str i=V.str j)=(i == j):=by rw [nA];simp
theorem uk{i j:Array UInt8}:decide (V.fA i=V.fA j)=(i.toList == j.toList):=by rw [nA];cases i;cases j;simp
section
variable {X:Cx} {a b c:Expr} {ta tb tc:TE} {pos:Pos}
theorem bL{pins:aD}{Q:VK}{k k':Bool}(I:Inv X pins σ H s)(q:Q (.bl k) H)(e:k=k'):EP X pins σ Q (.bool k') s:=by subst e;exact ⟨.bl k,H,I,rfl,q⟩
theorem bV:bZ X (compareOp .Eq) yj:=by
 intro pins s σ H x y v u Q I rx ry h;obtain ⟨hs,q⟩:=h;cases x with
 | aN=>
  cases rx;cases y with
  | aN=>cases ry;exact PySem.EqNone.eq_none_none (bL I q (by simp))
  | bl j=>cases ry;exact PySem.EqNone.eq_none_bool (bL I q (by simp))
  | int j=>obtain ⟨t',rfl⟩:=ry;exact PySem.EqNone.eq_none_int (bL I q (by simp))
  | str j=>obtain ⟨t',rfl⟩:=ry;exact PySem.EqNone.eq_none_str (bL I q (by simp))
  | _=>exact absurd (show false=true from hs) bJ
 | bl i=>
  cases rx;cases y with
  | aN=>cases ry;exact PySem.EqNone.eq_bool_none (bL I q (by simp))
  | bl j=>cases ry;exact eq_bool (bL I q ui)
  | str j=>obtain ⟨t',rfl⟩:=ry;exact PySem.EqMixed.eq_bool_str (bL I q (by simp))
  | _=>exact absurd (show false=true from hs) bJ
 | int i=>
  obtain ⟨t,rfl⟩:=rx;cases y with
  | aN=>cases ry;exact PySem.EqNone.eq_int_none (bL I q (by simp))
  | int j=>obtain ⟨t',rfl⟩:=ry;exact eq_int (bL I q uh)
  | str j=>obtain ⟨t',rfl⟩:=ry;exact PySem.EqMixed.eq_int_str (bL I q (by simp))
  | _=>exact absurd (show false=true from hs) bJ
 | str i=>
  obtain ⟨t,rfl⟩:=rx;cases y with
  | aN=>cases ry;exact PySem.EqNone.eq_str_none (bL I q (by simp))
  | bl j=>cases ry;exact PySem.EqMixed.eq_str_bool (bL I q (by simp))
  | int j=>obtain ⟨t',rfl⟩:=ry;exact PySem.EqMixed.eq_str_int (bL I q (by simp))
  | str j=>obtain ⟨t',rfl⟩:=ry;exact eq_str (bL I q uj)
  | _=>exact absurd (show false=true from hs) bJ
 | fA i=>
  obtain ⟨t,rfl⟩:=rx;cases y with
  | fA j=>obtain ⟨t',rfl⟩:=ry;exact PySem.W.eq_bytes (bL I q uk)
  | _=>exact absurd (show false=true from hs) bJ
 | _=>cases y <;> exact absurd (show false=true from hs) bJ
theorem mv:bZ X (compareOp .NotEq) yk:=by
 intro pins s σ H x y v u Q I rx ry h;obtain ⟨hs,q⟩:=h;cases x with
 | aN=>
  cases rx;cases y with
  | aN=>cases ry;exact PySem.EqNone.ne_none_none (bL I q (by simp))
  | bl j=>cases ry;exact PySem.EqNone.ne_none_bool (bL I q (by simp))
  | int j=>obtain ⟨t',rfl⟩:=ry;exact PySem.EqNone.ne_none_int (bL I q (by simp))
  | str j=>obtain ⟨t',rfl⟩:=ry;exact PySem.EqNone.ne_none_str (bL I q (by simp))
  | _=>exact absurd (show false=true from hs) bJ
 | bl i=>
  cases rx;cases y with
  | aN=>cases ry;exact PySem.EqNone.ne_bool_none (bL I q (by simp))
  | bl j=>cases ry;exact ne_bool (bL I q (bD not ui))
  | str j=>obtain ⟨t',rfl⟩:=ry;exact PySem.EqMixed.ne_bool_str (bL I q (by simp))
  | _=>exact absurd (show false=true from hs) bJ
 | int i=>
  obtain ⟨t,rfl⟩:=rx;cases y with
  | aN=>cases ry;exact PySem.EqNone.ne_int_none (bL I q (by simp))
  | int j=>obtain ⟨t',rfl⟩:=ry;exact ne_int (bL I q (bD not uh))
  | str j=>obtain ⟨t',rfl⟩:=ry;exact PySem.EqMixed.ne_int_str (bL I q (by simp))
  | _=>exact absurd (show false=true from hs) bJ
 | str i=>
  obtain ⟨t,rfl⟩:=rx;cases y with
  | aN=>cases ry;exact PySem.EqNone.ne_str_none (bL I q (by simp))
  | bl j=>cases ry;exact PySem.EqMixed.ne_str_bool (bL I q (by simp))
  | int j=>obtain ⟨t',rfl⟩:=ry;exact PySem.EqMixed.ne_str_int (bL I q (by simp))
  | str j=>obtain ⟨t',rfl⟩:=ry;exact ne_str (bL I q (bD not uj))
  | _=>exact absurd (show false=true from hs) bJ
 | fA i=>
  obtain ⟨t,rfl⟩:=rx;cases y with
  | fA j=>obtain ⟨t',rfl⟩:=ry;exact PySem.W.ne_bytes (bL I q (bD not uk))
  | _=>exact absurd (show false=true from hs) bJ
 | _=>cases y <;> exact absurd (show false=true from hs) bJ
theorem n9:bZ X (compareOp .Lt) (iJ fun i j=>.bl (decide (i<j))):=n8 fun _ _ _ _ _ _ _ q=>lt_int q
theorem jl:bZ X (compareOp .LtE) (iJ fun i j=>.bl (decide (i≤j))):=n8 fun _ _ _ _ _ _ _ q=>le_int q
theorem yl:bZ X (compareOp .Gt) (iJ fun i j=>.bl (decide (j<i))):=n8 fun _ _ _ _ _ _ _ q=>gt_int q
theorem ym:bZ X (compareOp .GtE) (iJ fun i j=>.bl (decide (j≤i))):=n8 fun _ _ _ _ _ _ _ q=>ge_int q
variable {op:CmpOp}
theorem um(b:Expr)(h:op≠.In:=by decide)(h2:op≠.NotIn:=by decide):behindInMarks op b=false:=by
 have e1:(op == CmpOp.In)=false:=by cases op <;> first | rfl | exact absurd rfl h
 have e2:(op == CmpOp.NotIn)=false:=by cases op <;> first | rfl | exact absurd rfl h2
 cases b <;> simp [behindInMarks,e1,e2]
variable {r:R2}
theorem yn(ho:bZ X (compareOp op) r)(ha:PE X a ta)(hb:PE X b tb)(hm:behindInMarks op b=false):PE X (.Compare a [op] [b] pos) (jk r ta tb):=by intro pins s σ H Q I h;exact wpAny_Compare1 (qz ha hb I h fun v u s2 x y H2 I2 rx ry q=>ho pins s2 σ H2 x y v u Q I2 rx ry q) hm
theorem dq(ho:bZ X (compareOp op) r)(ha:PE X a ta)(hb:PE X b tb)(hm:behindInMarks op b=false:=by exact um _):PE X (.Compare a [op] [b] pos) (jk r ta tb):=yn ho ha hb hm
def uo(t:TE):TT:=fun σ H Q=>t σ H fun x H'=>∃k,x=.bl k∧Q k H'
theorem uq(ho:bZ X (compareOp op) r)(ha:PE X a ta)(hb:PE X b tb)(hm:behindInMarks op b=false):PT X (.Compare a [op] [b] pos) (uo (jk r ta tb)):=by intro pins s σ H Q I h;refine wpAny_isTrue_Compare1 (aE (ha pins s σ H _ I h) fun v s1 ⟨x,H1,I1,r1,q1⟩=>aE (hb pins s1 σ H1 _ I1 q1) fun u s2 ⟨y,H2,I2,r2,q2⟩=>aE (ho pins s2 σ H2 x y v u _ I2 r1 r2 q2) fun c s3 ⟨z,H3,I3,r3,k,e,q3⟩=>?_) hm;subst e;cases r3;exact iz ⟨H3,I3,q3⟩
theorem b3(ho:bZ X (compareOp op) r)(ha:PE X a ta)(hb:PE X b tb)(hm:behindInMarks op b=false:=by exact um _):PT X (.Compare a [op] [b] pos) (uo (jk r ta tb)):=uq ho ha hb hm
def yo(r r':R2)(ta tb tc:TE):TE:=fun σ H Q=>ta σ H fun x H1=>tb σ H1 fun y H2=>r x y H2 fun z H3=>∃k,z=.bl k ∧
 (if k=true then tc σ H3 fun w' H4=>r' y w' H4 Q else Q (.bl false) H3)
theorem qD{qE:CmpOp}{r':R2}(ho:bZ X (compareOp op) r)(g6:bZ X (compareOp qE) r')(ha:PE X a ta)(hb:PE X b tb)(hc:PE X c tc)
  (hm:lastMarks [op,qE] [b,c]=false:=by with_unfolding_all rfl):PE X (.Compare a [op,qE] [b,c] pos) (yo r r' ta tb tc):=by
 intro pins s σ H Q I h;refine Compare_chain (aE (ha pins s σ H _ I h) fun v s1 ⟨x,H1,I1,r1,q1⟩=>chain_link (aE (hb pins s1 σ H1 _ I1 q1) fun u s2 ⟨y,H2,I2,r2,q2⟩=>aE (ho pins s2 σ H2 x y v u _ I2 r1 r2 q2) fun d s3 ⟨z,H3,I3,r3,k,e,q3⟩=>?_)) hm;subst e;cases r3;refine iz ?_;cases k with
 | false=>exact ite_ff ⟨.bl false,H3,I3,rfl,q3⟩
 | true=>exact ite_tt (chain_last (aE (hc pins s3 σ H3 _ I3 q3) fun w' s4 ⟨z',H4,I4,r4,q4⟩=>g6 pins s4 σ H4 y z' u w' Q I4 r2 r4 q4))
theorem n_:(sizeLine:Nat)<2 ^ 63:=by rw [sizeLine_eq];decide
theorem vals1(r:Vals [x] us):∃u,us=[u]∧RelV x u:=by
 cases r with
 | cons r1 r2=>cases r2;exact ⟨_,rfl,r1⟩
theorem vals2{y:V}(r:Vals [x,y] us):∃u w',us=[u,w']∧RelV x u∧RelV y w':=by
 cases r with
 | cons r1 r2=>
  cases r2 with
  | cons r3 r4=>cases r4;exact ⟨_,_,rfl,r1,r3⟩
theorem og(hc:X.calm=true):gr X (.builtin "max") (fun xs H Q=>∃i j,xs=[.int i,.int j]∧Q (.int (if j>i then j else i)) H):=by
 intro pins s σ H xs us Q I r h;obtain ⟨i,j,rfl,q⟩:=h;obtain ⟨u,w',rfl,⟨t,rfl⟩,⟨t',rfl⟩⟩:=vals2 r;refine max_two_ints (I.ok.hd hc) fun h' tk k=>⟨_,H,I.kept k,?_,q⟩;by_cases hj:j>i;·rw [ae hj,ae hj];exact ⟨_,rfl⟩
 ·rw [aa hj,aa hj];exact ⟨_,rfl⟩
theorem ur(hc:X.calm=true):gr X (.builtin "min") (fun xs H Q=>∃i j,xs=[.int i,.int j]∧Q (.int (if j<i then j else i)) H):=by
 intro pins s σ H xs us Q I r h;obtain ⟨i,j,rfl,q⟩:=h;obtain ⟨u,w',rfl,⟨t,rfl⟩,⟨t',rfl⟩⟩:=vals2 r;refine min_two_ints (I.ok.hd hc) fun h' tk k=>⟨_,H,I.kept k,?_,q⟩;by_cases hj:j<i;·rw [ae hj,ae hj];exact ⟨_,rfl⟩
 ·rw [aa hj,aa hj];exact ⟨_,rfl⟩
theorem yp:gr X (.type "int") (fun xs H Q=>(∃i,xs=[.int i]∧Q (.int i) H)∨∃k,xs=[.bl k]∧Q (.int (if k then 1 else 0)) H):=by
 intro pins s σ H xs us Q I r h;rcases h with ⟨i,rfl,q⟩ | ⟨k,rfl,q⟩
 ·obtain ⟨u,rfl,t,rfl⟩:=vals1 r
  exact call_int_int ⟨.int i,H,I,⟨_,rfl⟩,q⟩
 ·obtain ⟨u,rfl,r1⟩:=vals1 r
  cases r1;exact call_int_bool ⟨.int (if k then 1 else 0),H,I.tok _,⟨_,rfl⟩,q⟩
end
structure qF (h:Heap) (x dx C:Addr) (mA:bQ):Prop where
 obj:h.get? x=some (PySem.W.instObj C dx)
 ns:h.Ns1 dx mA
 ne:dx≠x
variable {dx:Addr} {mA:bQ}
theorem yq(n:h.Ns1 dx mA):∃od,h.get? dx=some od∧∀name,PySem.W.lookIn name od=some (mA name):=by
 obtain ⟨o,es,ep,ho,hd,hk,_,hm⟩:=n;refine ⟨o,ho,fun name=>?_⟩;have e:=hm name;unfold nsFind findBy at e;rw [←Array.find?_toList] at e;unfold PySem.W.lookIn;rw [hd];dsimp only
 split
 ·rename_i y q
  rw [q] at e;exact bD some e
 ·rename_i q
  rw [q] at e;have a:es.toList.any (·.refKey)=false:=by rw [List.any_eq_false];intro y hy;obtain ⟨z,t,yr⟩:=hk y (Array.mem_toList_iff.mp hy);simp [DictEntry.refKey,yr]
  have a':¬es.toList.any (·.refKey)=true:=by rw [a];exact bJ
  rw [aa a'];exact bD some e
theorem qF.look{x C:Addr}(I:qF h x dx C mA):∃od,PySem.W.InstAt h x (PySem.W.instObj C dx) C (some od)∧∀name,PySem.W.lookIn name od=some (mA name):=
 let ⟨od,ho,hl⟩:=yq I.ns
 ⟨od,⟨I.obj,rfl,rfl,ho⟩,hl⟩
section
variable {prog:Program} {w:World} {A:Around} {E:ay} {s:Shared} {K:aB} {x dx C f:Addr} {mA:bQ} {name:Str} {v:Value}
end
section
variable {P:Program} {w:World} {H H':Hp} {h h':Heap} {a C dx:Addr} {fs qp:List (Str×V)}
theorem yt(ax:bG P w H h)(e:H a=some (.ins C dx fs)):∃mA,qF h a dx C mA∧(∀f,qm (fs.lookup f) (mA f))∧PySem.Within mA (fs.map (·.1))∧fs.length≤1000∧H dx=some (.own a):=by obtain ⟨d,z,ne,ob,mA,n,r,q⟩:=(show cx P w H h a (.ins C dx fs) from ax a _ e);exact ⟨mA,⟨ob,n,ne⟩,r,q,z,d⟩
end
structure qG (K:aB) (C:Addr):Prop where
 pg:PySem.W.plainGet K C Str.empty=true
 hd:PySem.W.hasDictIn K C=true
 po:PySem.W.plainOver K C=true
 sa:PySem.W.findIn K (.ref C) "__setattr__"=some (some (.builtin "object.__setattr__"))
theorem qG.get{K:aB}{C:Addr}(c:qG K C)(f:Str):PySem.W.plainGet K C f=true:=c.pg
section
variable {X:Cx} {pins:aD} {σ:St} {H:Hp} {s:Shared} {a C dx:Addr} {fs:List (Str×V)} {f:Str} {v:V} {A:Around} {E:ay}
end
section
variable {X:Cx} {o e value:Expr} {f:Str} {pos pos' kq:Pos} {ta tv:TE}
end
section
variable {X:Cx} {pins:aD} {σ:St} {H:Hp} {s:Shared} {A:Around} {E:ay} {Q:ay} {c:Value} {b:Bool}
inductive eG (K:aB) (H:Hp):V→Value→Prop where
 | aN:eG K H .aN (.type "NoneType")
 | bl (x:Bool):eG K H (.bl x) (.type "bool")
 | int (i:Int):eG K H (.int i) (.type "int")
 | str (x:Str):eG K H (.str x) (.type "str")
 | kl (x:UInt64):eG K H (.kl x) (.type "float")
 | lst {a:Addr} {xs:List V} (e:H a=some (.lst xs)):eG K H (.ref a) (.type "list")
 | dn {a:Addr} {o:Obj} {xs:List V} (e:H a=some (.dn o (.lst xs))):eG K H (.ref a) (.type "list")
 | tup {a:Addr} {xs:List V} (e:H a=some (.tup xs)):eG K H (.ref a) (.type "tuple")
 | dK {a:Addr} {bR:List (Key×V)} (e:H a=some (.dK bR)):eG K H (.ref a) (.type "dict")
 | dT {a:Addr} {bR:List (List Key×V)} (e:H a=some (.dT bR)):eG K H (.ref a) (.type "dict")
 | ins {a C dx:Addr} {fs:List (Str×V)} (e:H a=some (.ins C dx fs)) (cl:qG K C) (ha:PySem.W.findIn K (.ref C) "__class__"=some (some (.builtin "object.__class__")))
   (hn:PySem.W.specialIn K (.builtin "object.__class__") "__get__"=some (some (.builtin "getset_descriptor.__get__"))) (uu:PySem.W.takesIn K (.builtin "object.__class__")=some true)
   (hm:PySem.W.mroIn K C (.type "object")=some true):eG K H (.ref a) (.ref C)
theorem yu{t:Value}(I:Inv X pins σ H s)(rx:RelV x u)(ty:eG X.K H x t)(e:PySem.W.kitOne X.K t c=some b)(h:∀tk,Q (.bool b) {s with toks:=tk}) :
  wpAny (model X.prog X.w) A (call (.builtin "isinstance") [u,c]) Q E s:=by
 cases ty with
 | aN=>cases (show u=Value.none from rx);exact ek PySem.W.kitx_none I.cS True.intro e (fun z=>nomatch z) h
 | bl y=>cases (show u=Value.bool y from rx);exact ek PySem.W.kitx_bool I.cS True.intro e (fun z=>nomatch z) h
 | int i=>obtain ⟨t,q⟩:=(show ∃t,u=Value.int i t from rx);cases q;exact ek PySem.W.kitx_int I.cS True.intro e (fun z=>nomatch z) h
 | str y=>obtain ⟨t,q⟩:=(show ∃t,u=Value.str y t from rx);cases q;exact ek PySem.W.kitx_str I.cS True.intro e (fun z=>nomatch z) h
 | kl y=>obtain ⟨t,q⟩:=(show ∃t,u=Value.float y t from rx);cases q;exact ek PySem.W.kitx_float I.cS True.intro e (fun z=>nomatch z) h
 | @lst a xs ea=>cases (show u=Value.ref a from rx);obtain ⟨_,_,n,_,h1⟩:=(show cx X.prog X.w H s.heap a (.lst xs) from I.ax a _ ea);exact ek PySem.W.kitx_list I.cS ⟨_,h1,rfl⟩ e (fun z=>nomatch z) h
 | @dn a ob xs ea=>cases (show u=Value.ref a from rx);obtain ⟨_,_,_,n,_,h1⟩:=(show cx X.prog X.w H s.heap a (.dn ob (.lst xs)) from I.ax a _ ea);exact ek PySem.W.kitx_list I.cS ⟨_,h1,rfl⟩ e (fun z=>nomatch z) h
 | @tup a xs ea=>cases (show u=Value.ref a from rx);obtain ⟨_,_,_,p⟩:=(show cx X.prog X.w H s.heap a (.tup xs) from I.ax a _ ea);obtain ⟨o,h1,h2,_⟩:=p;exact ek PySem.W.kitx_tuple I.cS ⟨o,h1,h2⟩ e (fun z=>nomatch z) h
 | @dK a bR ea=>cases (show u=Value.ref a from rx);obtain ⟨_,_,vs,_,p⟩:=(show cx X.prog X.w H s.heap a (.dK bR) from I.ax a _ ea);obtain ⟨o,es,ep,h1,h2,_⟩:=p;exact ek PySem.W.kitx_dict I.cS ⟨o,h1,h2.1⟩ e (fun z=>nomatch z) h
 | @dT a bR ea=>cases (show u=Value.ref a from rx);obtain ⟨_,_,xs,_,o,es,ep,h1,h2,_⟩:=(show cx X.prog X.w H s.heap a (.dT bR) from I.ax a _ ea);exact ek PySem.W.kitx_dict I.cS ⟨o,h1,h2.1⟩ e (fun z=>nomatch z) h
 | @ins a C dx fs ea cl ha hn uu hm=>cases (show u=Value.ref a from rx);obtain ⟨mA,O,_⟩:=yt I.ax ea;obtain ⟨od,J,_⟩:=O.look;exact ek (PySem.W.kitx_own (cl.get _) cl.hd ha hn uu hm) I.cS J e (fun z=>nomatch z) h
end
structure cj (k:Nat) (A:Around):Prop where
 hd:A.handled=none
 dp:A.depth+3*k+5<recursionLimit
 un:A.units+16*k+200<cLine
variable {k:Nat}
theorem cj.mono{j:Nat}(r:cj k A)(h:j≤k):cj j A:=⟨r.hd,by have:=r.dp;omega,by have:=r.un;omega⟩
theorem cj.deeper(r:cj (k+1) A)(env:Env):cj k (A.deeper env):=
 ⟨r.hd,by have:=r.dp;show A.depth+1+3*k+5<_;omega,by have:=r.un;show A.units+3+16*k+200<_;omega⟩
theorem cj.depth(r:cj k A):A.depth<recursionLimit:=by have:=r.dp;omega
theorem cj.units(r:cj k A):A.units+64<cLine:=by have:=r.un;omega
theorem cj.yv(r:cj k A):A.units<cLine:=by have:=r.un;omega
def oh:TA:=fun _ H Q=>Q [] H
def jm(ta:TE)(tr:TA):TA:=fun σ H Q=>ta σ H fun x H1=>tr σ H1 fun xs H2=>Q (x::xs) H2
section
variable {X:Cx} {e:Expr} {es:List Expr} {te:TE} {t:TA} {pos:Pos}
theorem ar:PA X [] oh:=fun _ _ _ _ H Q I h=>Calls.spliced_nil ⟨[],H,I,.nil,h⟩
theorem yw(ha:PE X e te)(hr:PA X es t)(hs:starEach (e::es) X.env=(false,eval e X.env)::starEach es X.env:=by rfl):PA X (e::es) (jm te t):=by intro pos pins s σ H Q I h;rw [hs];show wpAny _ _ (spliced ((false,eval e X.env)::backTo pos (starEach es X.env))) _ _ s;refine Calls.spliced_cons (aE (ha pins s σ H _ I h) fun u s1 ⟨x,H1,I1,r1,q1⟩=>?_);exact aE (hr pos pins s1 σ H1 _ I1 q1) fun us s2 ⟨xs,H2,I2,r2,q2⟩=>⟨x::xs,H2,I2,.cons r1 r2,q2⟩
def qH(t:TA):TE:=fun σ H Q=>t σ H fun xs H1=>xs.length≤sizeLine∧∀p,H1 p=none→Q (.ref p) (upd H1 p (.tup xs))
def yx(t:TA):TE:=fun σ H Q=>t σ H fun xs H1=>xs.length≤sizeLine∧∀p,H1 p=none→Q (.ref p) (upd H1 p (.lst xs))
theorem dW{x1}(h:PA X es t):PE X (.Tuple es x1 pos) (qH t):=by
 intro pins s σ H Q I hq;refine wpAny_Tuple_spliced (aE (h pos pins s σ H _ I hq) fun us s1 ⟨xs,H1,I1,r,z,q⟩=>⟨by rw [←r.length];exact z,?_⟩)
 have hf:H1 s1.heap.objs.size=none:=I1.ax.fresh (aA _);refine ⟨.ref s1.heap.objs.size,upd H1 s1.heap.objs.size (.tup xs),I1.laid (t':=s1.toks) (fun b u e=>a_ _ e) (aA _) ?_,rfl,q _ hf⟩;exact ⟨z,us,r,⟨_,cu _ rfl,rfl,_,rfl⟩⟩
theorem iK(h:PA X es t):PE X (.List es pos) (yx t):=by
 intro pins s σ H Q I hq;refine wpAny_List_spliced (aE (h pos pins s σ H _ I hq) fun us s1 ⟨xs,H1,I1,r,z,q⟩=>⟨by rw [←r.length];exact z,?_⟩)
 have hf:H1 s1.heap.objs.size=none:=I1.ax.fresh (aA _);refine ⟨.ref s1.heap.objs.size,upd H1 s1.heap.objs.size (.lst xs),I1.laid (t':=s1.toks) (fun b u e=>a_ _ e) (aA _) ?_,rfl,q _ hf⟩;exact ⟨z,us,0,r,cu _ rfl⟩
end
abbrev Sp:=List V→Hp→VK→XK→Prop
abbrev dG:=List Env→Hp→Shared→XK→Value→Shared→Prop
structure oi (P:Program) (w:World) (K:aB) (mg:bQ) (base:Heap) (A:Around) (outer:List Env) (s:Shared) (H:Hp):Prop where
 frames:A.frames=some outer
 mod:Mod K mg base
 bs:∀b o,base.get? b=some o→s.heap.get? b=some o∧H b=none
 eV:base.objs.size≤s.heap.objs.size
 fB:s.heap.FunFrames base outer
 jb:∀b∈bK outer,H b=none
 ax:bG P w H s.heap
 bare:AllBare s.gens
def CE(outer:List Env)(P:Program)(w:World)(H:Hp)(s:Shared)(Q:VK)(u:Value)(s':Shared):Prop:=
 ∃v H',s'.os=s.os∧AllBare s'.gens∧Un (bK outer) [] H H' s.heap s'.heap∧bG P w H' s'.heap∧RelV v u∧Q v H'
def CR(CX:dG)(outer:List Env)(P:Program)(w:World)(H:Hp)(s:Shared)(Q:VK)(E:XK)(r:Result)(s':Shared):Prop:=
 match r with
 | .ok (.ret u)=>CE outer P w H s Q u s'
 | .ok _=>False
 | .error e=>CX outer H s E e s'
structure bH (P:Program) (w:World) (K:aB) (mg:bQ) (base:Heap) (CX:dG) (k:Nat) (f:Addr) (fd:FuncData) (ps:List Str) (sp:Sp):Prop where
 len:∀vs H Q E,sp vs H Q E→vs.length=ps.length
 run:∀(A:Around) (outer:List Env) (s:Shared) (H:Hp) (args:Args) (us:List Value) (vs:List V) (Q:VK) (E:XK),cj k A→oi P w K mg base A outer s H→BindsTo s fd args (ps.zip us)→Vals vs us→sp vs H Q E→
  codeAny (model P w) A (.call (.ref f) args) (CR CX outer P w H s Q E) s
section
variable {X:Cx} {pins:aD} {σ:St} {H:Hp} {s s':Shared}
theorem Inv.yy(I:Inv X pins σ H s):oi X.prog X.w X.K X.mg X.base X.A X.stack s H:=
 ⟨I.ok.frames,I.ok.mod,I.bs,cO I.ok.eV I.sz,I.stack,I.mf,I.ax,I.bare⟩
theorem Inv.after{Q:VK}(I:Inv X pins σ H s)(h:CE X.stack X.prog X.w H s Q u s'):EP X pins σ Q u s':=by obtain ⟨v,H',os,bare,un,ax,r,q⟩:=h;obtain ⟨hh,g,d,t,yz⟩:=s';obtain rfl:yz=s.os:=os;exact ⟨v,H',I.call (h':=hh) (g':=g) (d':=d) (t':=t) (ch:=[]) un ax bare (fun b z=>absurd z (by simp)),r,q⟩
end
def uv(sp:Sp)(gu:List V)(E:XK)(t:TA):TE:=fun σ H Q=>t σ H fun vs H1=>sp (vs++gu) H1 Q E
def Binds(K:aB)(fd:FuncData)(ps:List Str)(ds:List Value):Prop:=
 ∀(s:Shared) (us:List Value),K.In s.heap→(us++ds).length=ps.length→BindsTo s fd ⟨us,[]⟩ (ps.zip (us++ds))
variable {ps:List Str}
theorem Binds.all{fd:FuncData}(h:∀us:List Value,us.length=ps.length→bindArgs fd ⟨us,[]⟩=pure (ps.zip us)):Binds K fd ps []:=fun s us _ hl=>by rw [i5] at hl ⊢;exact .of_eq (h us hl)
def Passes(CX:dG)(X:Cx)(E:XK):Prop:=∀(pins:aD) (σ:St) (H:Hp) (s:Shared) (e:Value) (s':Shared),Inv X pins σ H s→CX X.stack H s E e s'→X.xe e s'
section
variable {X:Cx} {CX:dG} {k:Nat} {f C:Addr} {fd:FuncData} {ps:List Str} {sp:Sp} {gu:List V} {ds:List Value} {E:XK} {x m:Str} {p pos apos:Pos} {e o:Expr} {es:List Expr} {ta:TE} {t:TA}
theorem yA{pins:aD}{Q:VK}{vs:List V}(F:bH X.prog X.w X.K X.mg X.base CX k f fd ps sp)(hr:cj k X.A)(hb:Binds X.K fd ps ds)(hd:Vals gu ds)(hx:Passes CX X E)
  (I:Inv X pins σ H s) (r:Vals vs us) (h:sp (vs++gu) H Q E):wpAny (model X.prog X.w) X.A (call (.ref f) us) (EP X pins σ Q) X.xe s:=by
 have r2:Vals (vs++gu) (us++ds):=r.append hd;have hl:(us++ds).length=ps.length:=by rw [←r2.length];exact F.len _ _ _ _ h
 refine wpAny_call (lU (F.run X.A X.stack s H ⟨us,[]⟩ (us++ds) (vs++gu) Q E hr I.yy (hb s us I.cS hl) r2 h) fun r s' hq=>?_);cases r with
 | error e=>exact hx pins σ H s e s' I hq
 | ok fl=>
  cases fl with
  | ret u=>exact I.after hq
  | next=>exact False.elim hq
  | brk=>exact False.elim hq
  | cont=>exact False.elim hq
theorem yB(F:bH X.prog X.w X.K X.mg X.base CX k f fd ps sp)(hr:cj k X.A)(hg:Gl X x)(hm:X.mg x=some (.ref f))(hk:PySem.W.keepIn X.K (.ref f)=true)(hb:Binds X.K fd ps ds)(hd:Vals gu ds)(hx:Passes CX X E)
  (ha:PA X (e::es) t) (jo:(x == ("__debug__":Str))=false:=by decide) (he:starEach (e::es) X.env=(false,eval e X.env)::starEach es X.env:=by rfl) (iL:(backTo pos (starEach es X.env)).any (·.1)=false:=by rfl) :
  PE X (.Call (.Name x p) (e::es) [] pos) (uv sp gu E t):=by
 intro pins s σ H Q I h;refine nB (qt I hg hm ?_ jo);refine PySem.W.callWith_K (h₀:=X.base) I.ok.mod.bS hk (aE (ha pos pins s σ H _ I h) fun us s1 ⟨vs,H1,I1,r,q⟩=>⟨I1.cS,?_⟩) he iL;exact yA F hr hb hd hx I1 r q
theorem bu{j:Nat}(F:bH X.prog X.w X.K X.mg X.base CX k f fd ps sp)(hr:cj j X.A)(hm:X.mg x=some (.ref f))(hk:PySem.W.keepIn X.K (.ref f)=true)(hb:Binds X.K fd ps [])(hx:Passes CX X E)
  (ha:PA X (e::es) t) (hj:k≤j:=by decide) (hg:Gl X x:=by exact rfl) (jo:(x == ("__debug__":Str))=false:=by decide) (he:starEach (e::es) X.env=(false,eval e X.env)::starEach es X.env:=by rfl) (iL:(backTo pos (starEach es X.env)).any (·.1)=false:=by rfl) :
  PE X (.Call (.Name x p) (e::es) [] pos) (uv sp [] E t):=yB F (hr.mono hj) hg hm hk hb .nil hx ha jo he iL
end
section
variable {X:Cx} {CX:dG} {k:Nat} {f C:Addr} {fd:FuncData} {ps ks:List Str} {sp:Sp} {E:XK} {x m:Str} {p pos apos uw:Pos} {e o:Expr} {es:List Expr} {iM:List Keyword} {te ta:TE} {t tk:TA} {nm:Option Str}
variable {g:List Value→List Value→List Value} {gV:List V→List V→List V}
end
structure b4 (N P:List Str) (sc:Scope):Prop where
 kind:sc.kind=.function
 co:sc.isCoroutine=false
 gen:sc.isGenerator=false
 nd:N.Nodup
 pre:N.take P.length=P
 par:∀x∈P,sc.names.lookup x=some .local∨sc.names.lookup x=some .cell
 yC:∀y∈sc.names,y.2≠.free
variable {N:List Str} {sc:Scope}
theorem cH{P:List Str}(h1:sc.kind=.function:=by rfl)(h2:sc.isCoroutine=false:=by rfl)(h3:sc.isGenerator=false:=by rfl)(h4:N.Nodup:=by decide +kernel)(h5:N.take P.length=P:=by rfl)(h6:∀x∈P,sc.names.lookup x=some .local∨sc.names.lookup x=some .cell:=by decide +kernel)(h7:∀y∈sc.names,y.2≠.free:=by decide +kernel):b4 N P sc:=⟨h1,h2,h3,h4,h5,h6,h7⟩
theorem ux{kindOf:Str→Option NameKind}{x:Str}:∀{binds:List (Str×Value)} {m:bQ},(∀v,(x,v)∉binds)→bindL kindOf binds m x=m x
 | [],_,_=>rfl
 | (n,v)::r,m,h=>by
  unfold bindL;rw [ux fun w hw=>h w (fU _ hw)]
  split
  ·have:x≠n:=by rintro rfl;exact h v gN
   simp [this]
  ·rfl
theorem uy{kindOf:Str→Option NameKind}{x:Str}:∀{binds:List (Str×Value)} {m:bQ},(∀v,(x,v)∉binds)→bindC kindOf binds m x=m x
 | [],_,_=>rfl
 | (n,v)::r,m,h=>by
  unfold bindC;rw [uy fun w hw=>h w (fU _ hw)]
  split
  ·rfl
  ·have:x≠n:=by rintro rfl;exact h v gN
   simp [this]
theorem uz{kindOf:Str→Option NameKind}{x:Str}{v:Value}:∀{P:List Str} {vs:List Value} {i:Nat} {m:bQ},P.Nodup→P[i]?=some x→vs[i]?=some v→kindOf x=some .local→
  bindL kindOf (P.zip vs) m x=some v
 | [],_,_,_,_,h,_,_=>by simp at h
 | _::_,[],_,_,_,_,h,_=>by simp at h
 | p::P,w::vs,0,m,nd,h1,h2,hk=>by simp at h1 h2;subst h1;subst h2;show bindL kindOf ((p,w)::P.zip vs) m p=_;unfold bindL;rw [ux fun v hv=>(nC.mp nd).1 (List.of_mem_zip hv).1,ae hk];simp
 | p::P,w::vs,i+1,m,nd,h1,h2,hk=>by show bindL kindOf ((p,w)::P.zip vs) m x=_;unfold bindL;exact uz (i:=i) (nC.mp nd).2 (by simpa using h1) (by simpa using h2) hk
theorem uA{kindOf:Str→Option NameKind}{x:Str}{v:Value}:∀{P:List Str} {vs:List Value} {i:Nat} {m:bQ},P.Nodup→P[i]?=some x→vs[i]?=some v→kindOf x≠some .local→
  bindC kindOf (P.zip vs) m x=some v
 | [],_,_,_,_,h,_,_=>by simp at h
 | _::_,[],_,_,_,_,h,_=>by simp at h
 | p::P,w::vs,0,m,nd,h1,h2,hk=>by simp at h1 h2;subst h1;subst h2;show bindC kindOf ((p,w)::P.zip vs) m p=_;unfold bindC;rw [uy fun v hv=>(nC.mp nd).1 (List.of_mem_zip hv).1,aa hk];simp
 | p::P,w::vs,i+1,m,nd,h1,h2,hk=>by show bindC kindOf ((p,w)::P.zip vs) m x=_;unfold bindC;exact uA (i:=i) (nC.mp nd).2 (by simpa using h1) (by simpa using h2) hk
def start(N:List Str)(vs:List V):St:=vs.map some++List.replicate (N.length-vs.length) none
def fE(CX:dG)(P:Program)(w:World)(K:aB)(mg:bQ)(base:Heap)(N:List Str)(qual:Str)(scope:Scope)(f:Addr)(cd:Value)(A:Around)(outer:List Env)(s:Shared)(H:Hp)(E:XK):Cx where
 prog:=P
 w:=w
 K:=K
 mg:=mg
 base:=base
 A:=A.deeper (envOfC qual scope s.heap.objs.size f cd)
 N:=N
 s₀:=s
 H₀:=H
 env:=envOfC qual scope s.heap.objs.size f cd
 outer:=outer
 stack:=envOfC qual scope s.heap.objs.size f cd::outer
 ex:=[]
 calm:=true
 fn:=fun _=>true
 pn:=[]
 xe:=fun e s'=>wpAny (model P w) (A.deeper (envOfC qual scope s.heap.objs.size f cd)) (leaving (envOfC qual scope s.heap.objs.size f cd) e) (fun _ gv=>CX outer H s E e gv) (fun e' gv=>CX outer H s E e' gv) s'
theorem uB{x:Str}(h:sc.names.lookup x=some .cell):∃c,(cellsFrom n sc.names []).lookup x=some c:=by have q:=PySem.W.cellsFrom_some sc.names n [] (.inl h);exact Option.isSome_iff_exists.mp q
variable {CX:dG} {mg:bQ} {base:Heap} {qual:Str} {scope:Scope} {f:Addr}
theorem yD{cd:Value}{outer:List Env}{s1:Shared}{E:XK}{vs:List V}
  (S:b4 N ps scope) (hd:A.handled=none) (e0:oi P w K mg base A outer s H) (hl:vs.length=ps.length) (r:Vals vs us)
  (x:InCallC s s.heap.objs.size (bindL (envOfC qual scope s.heap.objs.size f cd).kindOf (ps.zip us) fun _=>none) (cellsFrom (s.heap.objs.size+1) scope.names []) (bindC (envOfC qual scope s.heap.objs.size f cd).kindOf (ps.zip us) fun _=>none) s1) :
  Inv (fE CX P w K mg base N qual scope f cd A outer s H E) [] (start N vs) H s1:=by
 have iL:ps.length≤N.length:=by have:=bD List.length S.pre;rw [nE] at this;omega
 obtain ⟨h1,tk,rfl,hk⟩:=x.done;have mw:∀b:Addr,b∉(fE CX P w K mg base N qual scope f cd A outer s H E).ex:=fun b z=>absurd (show b∈([]:List Addr) from z) (by simp)
 refine ⟨⟨e0.mod,S.kind,rfl,rfl,aA _,fun y z c h1 h2=>?_,fun y hy=>?_,fun y c _ h=>?_,fun _=>hd,Around.frames_deeper e0.frames,.inr ⟨rfl,rfl⟩,fun b z=>absurd z (mw b),e0.bs,e0.eV,fun b _ _=>mw b,fun b z=>absurd z (mw b),e0.fB,e0.jb⟩,
  rfl,e0.bare,Un.kept hk,⟨_,x.toInCall.ns,fun i y v h1 h2 h3=>?_⟩,fun y c h=>⟨_,x.cell y c h⟩,e0.ax.fresh (aA _),fun y c h=>?_,fun p hp=>absurd (show p∈([]:aD) from hp) (by simp),e0.ax.kept hk,?_⟩
 ·exact name_of_addr x.apart (gP h1) (gP h2)
 ·have hy:scope.names.lookup y=some .cell∨scope.names.lookup y=some .free:=hy
  rcases hy with hy | hy;·exact uB hy
  ·exact absurd rfl (S.yC _ (gP hy))
 ·exact j7 (x.above y c (gP h))
 ·have hi:i<vs.length:=by
   unfold start at h2;by_cases hi:i<vs.length;·exact hi
   ·rw [fV (by simpa using hi)] at h2
    rw [List.getElem?_replicate] at h2
    split at h2 <;> cases h2
  have ha:vs[i]?=some v:=by
   unfold start at h2;rw [fW (by simpa using hi),dP] at h2
   cases e:vs[i]? with
   | none=>rw [e] at h2;cases h2
   | some a=>rw [e] at h2;cases h2;rfl
  obtain ⟨u,hu,rv⟩:=r.get ha;have hp:ps[i]?=some y:=by rw [←S.pre,List.getElem?_take_of_lt (by omega)];exact h1
  have uC:ps.Nodup:=by rw [←S.pre];exact S.nd.sublist (List.take_sublist _ _)
  refine ⟨u,rv,?_⟩;rcases S.par y (List.mem_of_getElem? hp) with k | k;·exact .inl ⟨k,uz uC hp hu k⟩
  ·obtain ⟨c,e⟩:=uB (n:=s.heap.objs.size+1) k
   refine .inr ⟨.inl k,c,e,?_⟩;have q:=x.cell y c e;rw [uA uC hp hu (by show scope.names.lookup y≠_;rw [k];decide)] at q
   exact q
 ·exact e0.ax.fresh (j7 (x.above y c (gP h)))
 ·unfold start
  show _=N.length;rw [dz,b8,List.length_replicate];omega
theorem uD{name:Str}{params:Arguments}{body:List Stmt}{dV kV doc pm bf ct oc:Value}{an od:Option Addr}
  {gw:Array (Option Value)} {sp:Sp} (lk:K.lookup f=some ⟨oc,od,.func (PySem.W.fnOf name qual params body scope dV kV doc pm an bf ct),gw⟩) (dS:PySem.W.codeIn K bf qual=true) (S:b4 N ps scope)
  (len:∀vs H Q E,sp vs H Q E→vs.length=ps.length)
  (g9:∀(A:Around) (outer:List Env) (s:Shared) (H:Hp) (vs:List V) (Q:VK) (E:XK),cj k (A.deeper (envOfC qual scope s.heap.objs.size f bf))→sp vs H Q E→
   ∃t,dB (fE CX P w K mg base N qual scope f bf A outer s H E) body t∧t {nx:=fun _ H'=>Q .aN H',rt:=Q} (start N vs) H) :
  bH P w K mg base CX (k+1) f (PySem.W.fnOf name qual params body scope dV kV doc pm an bf ct) ps sp:=by
 refine ⟨len,fun A outer s H args us vs Q E hr e0 hb r gx=>?_⟩;have hl:=len _ _ _ _ gx;have KX:K.In s.heap:=e0.mod.bS.keeps fun b o e=>(e0.bs b o e).1;have lim:s.heap.NoLimit:=e0.mod.nolimit.keeps fun b o e=>(e0.bs b o e).1;have yE:∀y∈ps.zip us,scope.names.lookup y.1=some .local∨(scope.names.lookup y.1=some .cell∧((cellsFrom (s.heap.objs.size+1) scope.names []).lookup y.1).isSome=true):=fun⟨n,v⟩ hy=>by
  rcases S.par n (List.of_mem_zip hy).1 with q | q;·exact .inl q
  ·exact .inr ⟨q,PySem.W.cellsFrom_some _ _ _ (.inl q)⟩
 refine codeAny_call_function hr.depth (KX _ _ lk) rfl S.co S.gen rfl (PySem.W.codeRec_of KX dS) (hb _ _ _ _ ?_);refine wpAny_newFunctionEnv_cells S.kind yE fun env he s1 x=>?_;subst he;refine ⟨lim.keeps x.toInCall.keep,codeAny_func ?_⟩;obtain ⟨t,ht,hq⟩:=g9 A outer s H vs Q E (hr.deeper _) gx;have I:Inv (fE CX P w K mg base N qual scope f bf A outer s H E) [] (start N vs) H s1:=yD S hr.hd e0 hl r x;refine bq (ht [] s1 (start N vs) H _ I hq) (fun fl s' hs=>?_) fun e s' hs=>hs;have fin:∀{σ':St} {H':Hp} {v:V} {u:Value},Inv (fE CX P w K mg base N qual scope f bf A outer s H E) [] σ' H' s'→RelV v u→Q v H'→CE outer P w H s Q u s':=
  fun{σ' H' v u} J rv q=>⟨v,H',J.os,J.bare,J.base,J.ax,rv,q⟩
 cases fl with
 | ret u=>obtain ⟨v,σ',H',J,rv,q⟩:=hs;exact fin J rv q
 | next=>obtain ⟨σ',H',J,q⟩:=hs;exact fin (v:=V.aN) (u:=Value.none) J rfl q
 | brk=>obtain ⟨_,_,_,q⟩:=hs;exact False.elim q
 | cont=>obtain ⟨_,_,_,q⟩:=hs;exact False.elim q
section
variable {X:Cx} {x:Str} {p pos:Pos} {e:Expr} {es:List Expr} {t:TA} {id T:String} {r:List V→Hp→VK→Prop}
def oj(r:List V→Hp→VK→Prop)(t:TA):TE:=fun σ H Q=>t σ H fun vs H1=>r vs H1 Q
theorem bz(hc:gr X (.builtin id) r)(hg:Gl X x)(hm:X.mg x=none)(hv:bootBuiltins x=some (.builtin id))(ha:PA X (e::es) t)(hn:x ≠ "__name__":=by decide)(jo:(x == ("__debug__":Str))=false:=by decide)
  (he:starEach (e::es) X.env=(false,eval e X.env)::starEach es X.env:=by rfl) (iL:(backTo pos (starEach es X.env)).any (·.1)=false:=by rfl):PE X (.Call (.Name x p) (e::es) [] pos) (oj r t):=by
 intro pins s σ H Q I h;refine nB (jd I hg hm hv ?_ hn jo);exact PyProof.Rows.callWith_builtin1 (aE (ha pos pins s σ H _ I h) fun us s1 ⟨vs,H1,I1,r1,q1⟩=>hc pins s1 σ H1 vs us Q I1 r1 q1) he iL
theorem om(hc:gr X (.type T) r)(hg:Gl X x)(hm:X.mg x=none)(hv:bootBuiltins x=some (.type T))(ha:PA X (e::es) t)(hn:x ≠ "__name__":=by decide)(jo:(x == ("__debug__":Str))=false:=by decide)
  (he:starEach (e::es) X.env=(false,eval e X.env)::starEach es X.env:=by rfl) (iL:(backTo pos (starEach es X.env)).any (·.1)=false:=by rfl):PE X (.Call (.Name x p) (e::es) [] pos) (oj r t):=by
 intro pins s σ H Q I h;refine nB (jd I hg hm hv ?_ hn jo);exact nz (aE (ha pos pins s σ H _ I h) fun us s1 ⟨vs,H1,I1,r1,q1⟩=>hc pins s1 σ H1 vs us Q I1 r1 q1) he iL
end
end L2
namespace HT
open PySem PyProof.Rows
def lexLt:List Int→List Int→Bool
 | [],[]=>false
 | [],_::_=>true
 | _::_,[]=>false
 | x::xs,y::ys=>if x=y then lexLt xs ys else decide (x<y)
theorem qI(x y:Int)(xs ys:List Int):lexLt (x::xs) (y::ys)=if x=y then lexLt xs ys else decide (x<y):=rfl
theorem yF:lexLt [] []=false:=rfl
theorem yG(y:Int)(ys:List Int):lexLt [] (y::ys)=true:=rfl
theorem yH(x:Int)(xs:List Int):lexLt (x::xs) []=false:=rfl
theorem yI(A:Around)(s:Shared)(a:Int)(t:Tok)(c:Int)(u:Tok):∃e,SeqAt.EqAt A s (.int a t) (.int c u) e∧(e=true↔a=c):=
 ⟨(a == c),SeqAt.EqAt.int_int a t c u,by simp⟩
theorem yJ(A:Around)(s:Shared)(a:Int)(t:Tok)(c:Int)(u:Tok)(prog:Program)(w:World)(E:ay)(Q:ay)(h:Q (.bool (decide (a<c))) s) :
  wpAny (model prog w) A (richCompare .Lt (.int a t) (.int c u)) Q E s:=
 (PyProof.Rows.lt_int h:wpAny (model prog w) A (compareOp .Lt (.int a t) (.int c u)) Q E s)
section
open PySem.SeqAt
open PySem.AutoSeq1 (wpAny_loadPart')
open PySem.MeetsSeq PySem.MeetsSeq2 PySem.MeetsSeq3
theorem yK(l b:Addr)(items gy:Array Value)(n n2:Nat)(dd qJ:Option Addr)(sl kr:Array (Option Value))(ns ms:List Int)(hi:IntsAre items.toList ns)(hj:IntsAre gy.toList ms) :
  Meets (Builtin.«tuple.__lt__» ⟨[.ref l,.ref b],[]⟩)
   (fun _ R s=>s.heap.get? l=some {cls:=.type "tuple",dict:=dd,data:=.seq items n,slots:=sl}∧s.heap.get? b=some {cls:=.type "tuple",dict:=qJ,data:=.seq gy n2,slots:=kr} ∧
    R (.ok (.ret (.bool (lexLt ns ms)))) s):=
 .of_wp fun prog w A R s h=>by
  obtain ⟨hp,g,d,tk,os⟩:=s;obtain ⟨hl,hb,h⟩:=h;have f2:=AutoSeq1.sub_tuple_tuple;have z1:items.size=ns.length:=by rw [←hi.length];simp
  have z2:gy.size=ms.length:=by rw [←hj.length];simp
  wp_walk using j_ hl,j_ hb,wpAny_forIn_list _ (fun rest b s'=>b.1=none∧s'=⟨hp,g,d,tk,os⟩∧∃(vs ws:List Value) (ku kv:List Int),rest=vs.zip ws ∧
   IntsAre vs ku∧IntsAre ws kv∧ku.length+gy.size=kv.length+items.size∧R (.ok (.ret (.bool (lexLt ku kv)))) ⟨hp,g,d,tk,os⟩) _
  case turn=>
   rintro ⟨y,x⟩ rest b s' ⟨qK,rfl,vs,ws,ku,kv,hz,qL,dr,hlen,hR⟩;cases qL with
   | nil=>rw [List.zip_nil_left] at hz;cases hz
   | cons a t yL=>
    cases dr with
    | nil=>rw [List.zip_nil_right] at hz;cases hz
    | cons c u yM=>
     rw [List.zip_cons_cons] at hz;injection hz with yN yO;injection yN with hy hx;subst hy hx;rw [qI] at hR;simp only [dm] at hlen;obtain ⟨e,he,uE⟩:=yI A.in1 ⟨hp,g,d,tk,os⟩ a t c u;refine ak (he prog w _ _ ?_);cases e with
     | true=>
      rw [ae (uE.mp rfl)] at hR
      wp_walk
      exact ⟨rfl,rfl,_,_,_,_,yO,yL,yM,by omega,hR⟩
     | false=>
      rw [aa (fun q=>absurd (uE.mpr q) bJ)] at hR;have yP:=yJ A.in1 ⟨hp,g,d,tk,os⟩ a t c u prog w
      wp_walk using yP
      exact ⟨_,rfl,by simpa using hR⟩
  case fin=>
   rintro ⟨b1,b2⟩ s' ⟨qK,rfl,vs,ws,ku,kv,hz,qL,dr,hlen,hR⟩;simp only at qK;subst qK;have hv:lexLt ku kv=decide (items.size<gy.size):=by
    cases qL with
    | nil=>
     cases dr with
     | nil=>simp only [List.length_nil] at hlen;rw [yF];exact (bp (by omega)).symm
     | cons c u hw=>simp only [List.length_nil,dm] at hlen;rw [yG];exact (aG (by omega)).symm
    | cons a t hv=>
     cases dr with
     | nil=>simp only [List.length_nil,dm] at hlen;rw [yH];exact (bp (by omega)).symm
     | cons c u hw=>rw [List.zip_cons_cons] at hz;cases hz
   rw [hv] at hR
   wp_walk
   exact ⟨_,rfl,by simpa [Builtin.Tuple.tupleCompareSizes] using hR⟩
  case h=>exact ⟨rfl,rfl,items.toList,gy.toList,ns,ms,rfl,hi,hj,by omega,h⟩
end
section
variable {prog:Program} {w:World} {A:Around} {E:ay} {s:Shared}
variable {items:Array Value} {Q:ay}
theorem yQ{l b:Addr}{gy:Array Value}{ns ms:List Int}(hl:IsTup s.heap l items)(hb:IsTup s.heap b gy)(hi:IntsAre items.toList ns)(hj:IntsAre gy.toList ms)
  (hu:A.units<cLine) (h:Q (.bool (lexLt ns ms)) s):wpAny (model prog w) A (compareOp .Lt (.ref l) (.ref b)) Q E s:=by
 obtain ⟨⟨cls,dd,data,sl⟩,ho,hc,n,hd⟩:=id hl;obtain ⟨⟨FK,qJ,data2,kr⟩,uF,uG,n2,hd2⟩:=id hb;simp only at hc hd uG hd2;subst hc hd uG hd2
 exact richCompare_meets_room (op:=.Lt) ⟨_,ho,rfl⟩ ⟨_,uF,rfl⟩ PySem.F.slot_tuple_lt PySem.F.entry_tuple_lt (PySem.F.args_tuple_lt_2 _ _) (yK l b items gy n n2 dd qJ sl kr ns ms hi hj)
  ⟨ho,uF,show Value.bool (lexLt ns ms)≠Value.notImplemented∧Q (.bool (lexLt ns ms)) s from ⟨(fun x=>nomatch x),h⟩⟩ hu
def aH(n d:Nat):Option Int→Nat
 | none=>d
 | some v=>if v<0 then (v+(n:Int)).toNat else min v.toNat n
theorem yR(n d:Nat):aH n d none=d:=rfl
theorem yS(n d k:Nat):aH n d (some (k:Int))=min k n:=by
 show (if (k:Int)<0 then ((k:Int)+(n:Int)).toNat else min (k:Int).toNat n)=min k n
 rw [aa (by omega),gQ]
theorem yT(n d:Nat)(hd:d≤n)(o:Option Int):aH n d o≤n:=by
 cases o with
 | none=>exact hd
 | some v=>
  show (if v<0 then (v+(n:Int)).toNat else min v.toNat n)≤n
  by_cases hv:v<0;·rw [ae hv];omega
  ·rw [aa hv];exact Nat.min_le_right _ _
theorem uH(v:Int)(n d:Nat):(if v<0 then max (v+(n:Int)) 0 else min v (n:Int))=((aH n d (some v):Nat):Int):=by
 show (if v<0 then max (v+(n:Int)) 0 else min v (n:Int))=(((if v<0 then (v+(n:Int)).toNat else min v.toNat n):Nat):Int)
 by_cases hv:v<0;·simp only [ae hv];omega
 ·simp only [aa hv];omega
theorem yU(lo hi:Option Int)(n:Nat):Builtin.Slice.sliceAdjust lo hi 1 (n:Int)=(((aH n 0 lo:Nat):Int),((aH n n hi:Nat):Int)):=by
 have h1:¬((1:Int)<0):=by omega
 unfold Builtin.Slice.sliceAdjust;simp only [h1,if_false];refine Prod.ext ?_ ?_
 ·cases lo with
  | none=>rfl
  | some v=>exact uH v n 0
 ·cases hi with
  | none=>rfl
  | some v=>exact uH v n n
theorem yV(i j:Nat):Builtin.Slice.slicePlaces (i:Int) (j:Int) 1=j-i:=by
 unfold Builtin.Slice.slicePlaces;have h1:(1:Int)>0:=by omega
 simp only [h1,if_true,Int.ediv_one]
 split <;> omega
theorem uI{v:Value}{o:Option Int}{Q:Option Int→Shared→Prop}(p:IsPart v o)(h:Q o s):wpAny (model prog w) A (Builtin.Slice.slicePartIndex v) Q E s:=by
 cases p with
 | none=>exact slicePart_none h
 | int i t=>exact slicePart_int h
variable {sl:Addr} {vl vu:Value} {lo hi:Option Int}
theorem uJ{n:Nat}{Q:Int×Int×Nat→Shared→Prop}(hs:s.heap.IsSliceOf sl vl vu .none)(pl:IsPart vl lo)(pu:IsPart vu hi)
  (h:Q (((aH n 0 lo:Nat):Int),1,aH n n hi-aH n 0 lo) s):wpAny (model prog w) A (Builtin.Slice.sliceApplied (.ref sl) (pure (n:Int))) Q E s:=by
 obtain ⟨os,mx,uK,oo⟩:=id hs;unfold Builtin.Slice.sliceApplied Builtin.Slice.sliceFields;refine ak (ak (cQ mx oo (x:=vl) rfl (ak (cQ mx oo (x:=vu) rfl (ak (cQ mx oo (x:=.none) rfl (aL ?_)))))));refine ak (slicePart_none ?_);show wpAny _ _ (if ((1:Int) == 0)=true then _ else _) _ _ s
 rw [aa (by decide)]
 refine ak (uI pl (ak (uI pu (ak (aL ?_)))));show wpAny _ _ (match Builtin.Slice.sliceAdjust lo hi 1 (n:Int) with | (lo,hi)=>pure (lo,(1:Int),Builtin.Slice.slicePlaces lo hi 1)) _ _ s
 rw [yU lo hi n];show wpAny _ _ (pure (((aH n 0 lo:Nat):Int),(1:Int),Builtin.Slice.slicePlaces ((aH n 0 lo:Nat):Int) ((aH n n hi:Nat):Int) 1)) _ _ s;rw [yV];exact aL h
theorem yW(xs:Array Value)(i k:Nat):((List.range k).filterMap fun(m:Nat)=>xs[((i:Int)+(m:Int)*1).toNat]?).toArray=((xs.toList.drop i).take k).toArray:=by
 have e:(fun(m:Nat)=>xs[((i:Int)+(m:Int)*1).toNat]?)=fun m=>xs[i+m]?:=by
  funext m
  have:((i:Int)+(m:Int)*1).toNat=i+m:=by omega
  rw [this]
 rw [e];have:=pick_run xs i k;rw [List.filterMap_map] at this;have e2:((fun x=>xs[x]?) ∘ fun x=>i+x)=fun m=>xs[i+m]?:=rfl;rw [e2] at this;rw [this]
theorem yX{t:Addr}(ht:IsTup s.heap t items)(hs:s.heap.IsSliceOf sl vl vu .none)(pl:IsPart vl lo)(pu:IsPart vu hi)
  (hw:¬(aH items.size 0 lo=0∧aH items.size items.size hi=items.size))
  (h:Q (.ref s.heap.objs.size) {s with heap:=s.heap.push {cls:=.type "tuple",data:=.seq ((items.toList.drop (aH items.size 0 lo)).take (aH items.size items.size hi-aH items.size 0 lo)).toArray}})
  (gz:items.size≤sizeLine):wpAny (model prog w) A (getItem (.ref t) (.ref sl)) Q E s:=by
 have oq:sizeOk (.seq ((items.toList.drop (aH items.size 0 lo)).take (aH items.size items.size hi-aH items.size 0 lo)).toArray):=by show ((items.toList.drop (aH items.size 0 lo)).take (aH items.size items.size hi-aH items.size 0 lo)).toArray.size≤sizeLine;rw [bO,nE,List.length_drop,fq];omega
 have hj:aH items.size items.size hi≤items.size:=yT _ _ (aA _) hi;obtain ⟨os,mx,uK,oo⟩:=id hs;have yY:s.TypeIs (.ref sl) "slice":=⟨os,mx,uK⟩;unfold getItem
 try with_reducible refine gO ?_
 first | refine ak (aL ?_) | skip
 refine ak (wpAny_sequenceKey ht.typeIs (by decide) ?_)
 refine ak (gR (name:=Str.ofString "__getitem__") ht.typeIs ka
  (fX ka ht.typeIs entry_tuple_getitem ?_ (args_tuple_getitem _ _)))
 show wpAny _ _ (Builtin.Tuple.tupleItemsOf (.ref t) >>= _) _ _ s;refine ak (tupleItemsOf_ ht ?_);refine ak (wpAny_typeOf yY ?_);rw [ae (by decide)]
 refine ak (uJ hs pl pu ?_);have yZ:¬((((aH items.size 0 lo:Nat):Int) == 0 && (1:Int) == 1 && (aH items.size items.size hi-aH items.size 0 lo) == items.size)=true):=by intro q;rw [i6,i6] at q;have q1:((aH items.size 0 lo:Nat):Int)=0:=eq_of_beq q.1.1;have q2:aH items.size items.size hi-aH items.size 0 lo=items.size:=eq_of_beq q.2;exact hw ⟨by omega,by omega⟩
 show wpAny _ _ (if (((aH items.size 0 lo:Nat):Int) == 0 && (1:Int) == 1 && (aH items.size items.size hi-aH items.size 0 lo) == items.size)=true then _ else _) _ _ s
 rw [aa yZ,yW]
 first
  | exact ak (m:=Builtin.Tuple.tupleExact _) (fu (aL ⟨_,rfl,aL h⟩) oq)
  | exact ak (m:=Builtin.Tuple.tupleExact _) (fu (ak (aL (aL ⟨_,rfl,aL h⟩))) oq)
  | exact ak (ak (m:=Builtin.Tuple.tupleExact _) (fu (aL (aL ⟨_,rfl,aL h⟩)) oq))
  | exact ak (ak (m:=Builtin.Tuple.tupleExact _) (fu (aL ⟨_,rfl,aL h⟩) oq))
end
end HT
namespace L2
open PySem PySem.Spec PyProof.Rows
abbrev TO:=St→Hp→(Option Int→Hp→Prop)→Prop
def PO(X:Cx)(e:Option Expr)(t:TO):Prop:=
 ∀(pins:aD) (s:Shared) (σ:St) (H:Hp) (Q:Option Int→Hp→Prop),Inv X pins σ H s→t σ H Q→
  wpAny (model X.prog X.w) X.A (evalPart e X.env) (fun u s'=>∃o H',Inv X pins σ H' s'∧IsPart u o∧Q o H') X.xe s
def y3:TO:=fun _ H Q=>Q none H
def y4(t:TE):TO:=fun σ H Q=>t σ H fun x H1=>∃i,x=.int i∧Q (some i) H1
theorem intsAre_of{ns:List Int}:∀{us:List Value},Vals (ns.map V.int) us→IntsAre us ns:=by
 induction ns with
 | nil=>intro us r;rw [List.map_nil] at r;cases r;exact .nil
 | cons n ns ih=>
  intro us r;rw [List.map_cons] at r;cases r with
  | cons r1 r2=>obtain ⟨t,e⟩:=r1;subst e;exact .cons n t (ih r2)
section
variable {X:Cx} {e:Expr} {te:TE} {lo hi:Option Expr} {tl th:TO} {pos p2:Pos}
theorem y6:PO X none y3:=by intro pins s σ H Q I h;rw [evalPart_none];exact aL ⟨none,H,I,.none,h⟩
theorem y7(h:PE X e te):PO X (some e) (y4 te):=by intro pins s σ H Q I hw;rw [evalPart_some];refine aE (h pins s σ H _ I hw) fun u s1 ⟨x,H1,I1,r1,q1⟩=>?_;obtain ⟨i,rfl,q⟩:=q1;obtain ⟨t,rfl⟩:=r1;exact ⟨some i,H1,I1,.int i t,q⟩
def ot(X:Cx)(r:V→Option Int→Option Int→Hp→VK→Prop):Prop:=
 ∀(pins:aD) (s:Shared) (σ:St) (H:Hp) (x:V) (v vl vu:Value) (lo hi:Option Int) (sl:Addr) (Q:VK),Inv X pins σ H s→RelV x v→s.heap.IsSliceOf sl vl vu .none→IsPart vl lo→IsPart vu hi→r x lo hi H Q→
  ∃T id,typeLookup (.type T) "__getitem__"=pure (some (.builtin id))∧s.TypeIs v T∧wpAny (model X.prog X.w) X.A (getItem v (.ref sl)) (EP X pins σ Q) X.xe s
def y8(r:V→Option Int→Option Int→Hp→VK→Prop)(te:TE)(tl th:TO):TE:=fun σ H Q=>te σ H fun x H1=>tl σ H1 fun l H2=>th σ H2 fun u H3=>r x l u H3 Q
theorem y9{r:V→Option Int→Option Int→Hp→VK→Prop}(hr:ot X r)(he:PE X e te)(hl:PO X lo tl)(hu:PO X hi th):PE X (.Subscript e (.Slice lo hi none p2) pos) (y8 r te tl th):=by intro pins s σ H Q I h;refine Subscript_ (aE (he pins s σ H _ I h) fun v s1 ⟨x,H1,I1,r1,q1⟩=>?_);refine wpAny_Slice (aE (hl pins s1 σ H1 _ I1 q1) fun vl s2 ⟨l,H2,I2,pl,q2⟩=>aE (hu pins s2 σ H2 _ I2 q2) fun vu s3 ⟨u,H3,I3,pu,q3⟩=>?_);rw [evalPart_none];refine aL ?_;have I4:Inv X pins σ H3 {s3 with heap:=s3.heap.push {cls:=.type "slice",data:=.fields #[vl,vu,.none]}}:=I3.kept (t':=s3.toks) fun b ob q=>a_ _ q;obtain ⟨T,id,hT,ht,hg⟩:=hr pins {s3 with heap:=s3.heap.push {cls:=.type "slice",data:=.fields #[vl,vu,.none]}} σ H3 x v vl vu l u s3.heap.objs.size Q I4 r1 (Heap.IsSliceOf.new ..) pl pu q3;show wpAny (model X.prog X.w) X.A (subscriptTail e (.Slice lo hi none p2) v (.ref s3.heap.objs.size)) (EP X pins σ Q) X.xe {s3 with heap:=s3.heap.push {cls:=.type "slice",data:=.fields #[vl,vu,.none]}};exact tail_any (ops:=[.ref s3.heap.objs.size,v]) ht hT hg (by with_unfolding_all rfl)
def eY(xs:List V)(lo hi:Option Int):List V:=(xs.drop (HT.aH xs.length 0 lo)).take (HT.aH xs.length xs.length hi-HT.aH xs.length 0 lo)
theorem uL(xs:List V)(lo hi:Option Int):(eY xs lo hi).length≤xs.length:=by unfold eY;rw [nE,List.length_drop];omega
def y_(K:aB):V→Option Int→Option Int→Hp→VK→Prop:=fun x lo hi H Q=>∃a xs,x=.ref a∧bE K H a xs ∧
 ¬(HT.aH xs.length 0 lo=0∧HT.aH xs.length xs.length hi=xs.length)∧∀p,H p=none→Q (.ref p) (upd H p (.tup (eY xs lo hi)))
theorem zc:ot X (y_ X.K):=by
 intro pins s σ H x v vl vu lo hi sl Q I rx hs pl pu h;obtain ⟨a,xs,rfl,hx,hw,q⟩:=h;cases rx;obtain ⟨aj,r,ht,hz⟩:=I.tuple hx;have hlen:aj.toArray.size=xs.length:=by rw [bO];exact r.length.symm
 refine ⟨"tuple",_,ka.lookup,ht.typeIs,?_⟩;refine HT.yX ht hs pl pu (by rw [hlen];exact hw) ?_ (by rw [hlen];exact hz)
 rw [hlen];refine ⟨.ref s.heap.objs.size,_,I.laid (t':=s.toks) (o:=.tup (eY xs lo hi)) (fun b ob q=>a_ _ q) (aA _) ?_,rfl,q _ (I.ax.fresh (aA _))⟩;exact ⟨cO (uL xs lo hi) hz,_,(r.drop (HT.aH xs.length 0 lo)).take (HT.aH xs.length xs.length hi-HT.aH xs.length 0 lo),IsTup.new _ _⟩
def uN(K:aB):R2:=fun x y H Q=>∃a b ns ms,x=.ref a∧y=.ref b∧bE K H a (ns.map V.int)∧bE K H b (ms.map V.int)∧Q (.bl (HT.lexLt ns ms)) H
theorem zh(hu:X.A.units<cLine):bZ X (compareOp .Lt) (uN X.K):=by intro pins s σ H x y v u Q I rx ry h;obtain ⟨a,b,ns,ms,rfl,rfl,ha,hb,q⟩:=h;cases rx;cases ry;obtain ⟨aj,r1,p1,_⟩:=I.tuple ha;obtain ⟨gA,r2,p2,_⟩:=I.tuple hb;have i1:IntsAre aj.toArray.toList ns:=intsAre_of r1;have i2:IntsAre gA.toArray.toList ms:=intsAre_of r2;exact HT.yQ p1 p2 i1 i2 hu ⟨.bl (HT.lexLt ns ms),H,I,rfl,q⟩
end
def jq(n:Nat)(i:Int):Option Nat:=if 0≤i then (if i<n then some i.toNat else none) else if -(n:Int)≤i then some (i+n).toNat else none
def g_{α:Type}(xs:List α)(i:Int):Option α:=(jq xs.length i).bind fun j=>xs[j]?
variable {i:Int} {j:Nat}
theorem uO{n:Nat}(h:jq n i=some j):seqIndex? i n=some j∧j<n∧-(n:Int)≤i∧i<n:=by
 unfold jq at h;by_cases h0:0≤i
 ·rw [ae h0] at h
  by_cases h1:i<n
  ·rw [ae h1] at h
   have e:i.toNat=j:=Option.some.inj h;exact ⟨by rw [seqIndex_of h0 h1,e],by omega,by omega,h1⟩
  ·rw [aa h1] at h;cases h
 ·rw [aa h0] at h
  by_cases h1:-(n:Int)≤i
  ·rw [ae h1] at h
   have e:(i+n).toNat=j:=Option.some.inj h;exact ⟨by rw [seqIndex_neg (by omega) h1,e],by omega,h1,by omega⟩
  ·rw [aa h1] at h;cases h
theorem uP{α:Type}{xs:List α}{v:α}(h:g_ xs i=some v):∃j,seqIndex? i xs.length=some j∧xs[j]?=some v∧j<xs.length∧-(xs.length:Int)≤i∧i<xs.length:=by
 unfold g_ at h;cases e:jq xs.length i with
 | none=>rw [e] at h;cases h
 | some j=>rw [e] at h;obtain ⟨h1,h2,h3,h4⟩:=uO e;exact ⟨j,h1,h,h2,h3,h4⟩
theorem qM{α:Type}{xs:List α}{v:α}(h:xs[j]?=some v):g_ xs (j:Int)=some v:=by
 have hj:j<xs.length:=(cq.mp h).1;have e:jq xs.length (j:Int)=some j:=by unfold jq;rw [ae (by omega),ae (by omega)];simp
 unfold g_;rw [e];exact h
def uQ(b:Expr):Prop:=∀o i,subscripted b false o i=operate [o,i] (getItem o i)
def my(X:Cx)(r:R2):Prop:=
 ∀(value slice:Expr) (pins:aD) (s:Shared) (σ:St) (H:Hp) (x y:V) (v u:Value) (Q:VK),Inv X pins σ H s→RelV x v→RelV y u→r x y H Q→
  subscripted slice false v u=operate [v,u] (getItem v u)→wpAny (model X.prog X.w) X.A (subscriptTail value slice v u) (EP X pins σ Q) X.xe s
def zi(X:Cx)(id:String)(r:V→List V→Hp→VK→Prop):Prop:=
 ∀(pins:aD) (s:Shared) (σ:St) (H:Hp) (x:V) (xs:List V) (v:Value) (us:List Value) (Q:VK),Inv X pins σ H s→RelV x v→Vals xs us→r x xs H Q→
  wpAny (model X.prog X.w) X.A (call (.builtin id) (v::us)) (EP X pins σ Q) X.xe s
section
variable {X:Cx} {a b:Expr} {ta tb:TE} {pos:Pos}
variable {r:R2}
theorem zj(hr:my X r)(ha:PE X a ta)(hb:PE X b tb)(hs:uQ b):PE X (.Subscript a b pos) (jk r ta tb):=by intro pins s σ H Q I h;exact Subscript_ (qz ha hb I h fun v u s2 x y H2 I2 rx ry q=>hr a b pins s2 σ H2 x y v u Q I2 rx ry q (hs _ _))
theorem aM(hr:my X r)(ha:PE X a ta)(hb:PE X b tb)(hs:uQ b:=by exact fun _ _=>rfl):PE X (.Subscript a b pos) (jk r ta tb):=zj hr ha hb hs
def zo(K:aB):R2:=fun x y H Q=>∃p xs i v,x=.ref p∧y=.int i∧b7 K H p xs∧g_ xs i=some v∧Q v H
def uR(K:aB):R2:=fun x y H Q=>∃p xs i v,x=.ref p∧y=.int i∧bE K H p xs∧g_ xs i=some v∧Q v H
theorem ky:my X (zo X.K):=by
 intro value slice pins s σ H x y v u Q I rx ry h hs;obtain ⟨p,xs,i,z,rfl,rfl,hq,he,q⟩:=h;cases rx;obtain ⟨t,rfl⟩:=ry;obtain ⟨aj,r,pl,hz⟩:=I.list hq;obtain ⟨j,h1,h2,h3,h4,h5⟩:=uP he;obtain ⟨w,ew,qN⟩:=r.get h2;have hl:=r.length;have hn:=n_;have fin:EP X pins σ Q w s:=⟨z,H,I,qN,q⟩;by_cases h0:0≤i
 ·have hj:i.toNat=j:=by rw [seqIndex_of h0 h5] at h1;exact Option.some.inj h1
  exact item_listR pl.isList h0 (by omega) (by rw [hj];simpa using ew) fin hs
 ·have hj:(i+(aj.toArray.size:Int)).toNat=j:=by
   rw [seqIndex_neg (by omega) h4] at h1
   rw [bO,←hl];exact Option.some.inj h1
  exact subscriptTail_builtinR (x:=w) pl.isList.typeIs slot_list_getitem.lookup
   (wpAny_getItem_list_neg (Q:=fun r s'=>r=w∧EP X pins σ Q r s') pl.isList (by omega) (by rw [bO] <;> omega) (by omega) (by rw [hj];simpa using ew) ⟨rfl,fin⟩) hs
theorem aT:my X (uR X.K):=by
 intro value slice pins s σ H x y v u Q I rx ry h hs;obtain ⟨p,xs,i,z,rfl,rfl,hq,he,q⟩:=h;cases rx;obtain ⟨t,rfl⟩:=ry;obtain ⟨aj,r,pl,hz⟩:=I.tuple hq;obtain ⟨j,h1,h2,h3,h4,h5⟩:=uP he;obtain ⟨w,ew,qN⟩:=r.get h2;have hl:=r.length;have hn:=n_;have fin:EP X pins σ Q w s:=⟨z,H,I,qN,q⟩
 exact subscriptTail_builtinR (x:=w) pl.typeIs slot_tuple_getitem.lookup
  (getItem_tuple (j:=j) (Q:=fun r s'=>r=w∧EP X pins σ Q r s') pl (by omega) (by omega) (by rw [bO,←hl];exact h1) (by simpa using ew) ⟨rfl,fin⟩) hs
theorem zp(aj:List Value)(n j:Nat)(u:Value):Obj.mapSeq (·.setIfInBounds j u) {cls:=.type "list",data:=.seq aj.toArray n}={cls:=.type "list",data:=.seq (aj.set j u).toArray n}:=by simp [Obj.mapSeq]
theorem Inv.lst{pins:aD}{σ:St}{H:Hp}{s:Shared}{p:Addr}{xs:List V}(I:Inv X pins σ H s)(h:H p=some (.lst xs)) :
  ∃(aj:List Value) (n:Nat),Vals xs aj∧s.heap.get? p=some {cls:=.type "list",data:=.seq aj.toArray n}∧xs.length≤sizeLine:=by
 obtain ⟨z,aj,n,r,e⟩:=I.ax p _ h;exact ⟨aj,n,r,e,z⟩
variable {pins:aD} {σ:St} {H:Hp} {s:Shared}
theorem Inv.zq{p:Addr}{xs ys:List V}{aj its':List Value}{n n':Nat}{f:Obj→Obj}(I:Inv X pins σ H s)(h:H p=some (.lst xs))
  (ho:s.heap.get? p=some {cls:=.type "list",data:=.seq aj.toArray n}) (hf:f {cls:=.type "list",data:=.seq aj.toArray n}={cls:=.type "list",data:=.seq its'.toArray n'}) (r:Vals ys its') (hz:ys.length≤sizeLine) (t:Nat) :
  Inv X pins σ (upd H p (.lst ys)) {s with heap:=s.heap.update p f,toks:=t}:=by
 have e:(s.heap.update p f).get? p=some {cls:=.type "list",data:=.seq its'.toArray n'}:=by rw [qe f ho (by rw [hf] <;> rfl),hf]
 refine I.write (x:=p) (e:=p) (by rw [h];trivial) (.inl rfl) (fun b u hb q=>(Heap.get?_update_other _ _ (eR hb)).trans q) ⟨_,e⟩ ?_
 exact ⟨hz,its',n',r,e⟩
def zr:V→V→V→Hp→(Hp→Prop)→Prop:=fun o i v H Q=>∃p xs k j,o=.ref p∧i=.int k∧H p=some (.lst xs)∧jq xs.length k=some j∧Q (upd H p (.lst (xs.set j v)))
theorem set_list:tW X zr:=by
 intro pins s σ H o i v ov iv u Q I ro ri rv h;obtain ⟨p,xs,k,j,rfl,rfl,hp,hj,q⟩:=h;cases ro;obtain ⟨t,rfl⟩:=ri;obtain ⟨aj,n,r,ho,hz⟩:=I.lst hp;obtain ⟨h1,h2,h3,h4⟩:=uO hj;have hl:=r.length;have hn:=n_;have I':Inv X pins σ (upd H p (.lst (xs.set j v))) {s with heap:=s.heap.update p (Obj.mapSeq (·.setIfInBounds j u))}:=
  I.zq hp ho (zp aj n j u) (r.set rv j) (by rw [List.length_set];exact hz) s.toks
 by_cases h0:0≤k
 ·have hk:k.toNat=j:=by rw [seqIndex_of h0 h4] at h1;exact Option.some.inj h1
  exact PySem.W.ki_setAt ho h0 (by omega) (by rw [bO,←hl];exact h4) (by rw [hk];exact ⟨_,I',q⟩)
 ·have hk:(k+(aj.toArray.size:Int)).toNat=j:=by
   rw [seqIndex_neg (by omega) h3] at h1
   rw [bO,←hl];exact Option.some.inj h1
  exact PySem.W.ki_setBack ho (by omega) (by rw [bO,←hl];exact h3) (by omega) (by rw [hk];exact ⟨_,I',q⟩)
theorem zt(lo hi:Option Int)(n:Nat):(sliceBounds lo hi none n).1=((HT.aH n 0 lo:Nat):Int)∧(sliceBounds lo hi none n).2.1=((HT.aH n n hi:Nat):Int)∧(sliceBounds lo hi none n).2.2=1:=by
 refine ⟨?_,?_,rfl⟩
 ·cases lo with
  | none=>simp [sliceBounds,HT.aH]
  | some i=>
   simp only [sliceBounds,HT.aH,Option.getD_none,show (1:Int)>0 by decide,if_true]
   by_cases h:i<0;·simp only [h,if_true] <;> omega
   ·simp only [h,if_false] <;> omega
 ·cases hi with
  | none=>simp [sliceBounds,HT.aH]
  | some i=>
   simp only [sliceBounds,HT.aH,Option.getD_none,show (1:Int)>0 by decide,if_true]
   by_cases h:i<0;·simp only [h,if_true] <;> omega
   ·simp only [h,if_false] <;> omega
theorem zu(aj:List Value)(lo hi:Option Int):slicePick aj.toArray lo hi none=((aj.drop (HT.aH aj.length 0 lo)).take (HT.aH aj.length aj.length hi-HT.aH aj.length 0 lo)).toArray:=by obtain ⟨h1,h2,h3⟩:=zt lo hi aj.toArray.size;unfold slicePick;rw [h1,h2,h3];simp only [sliceRange_one,pick_run,bO] <;> rfl
def zv(K:aB):V→Option Int→Option Int→Hp→VK→Prop:=fun x lo hi H Q=>∃a xs,x=.ref a∧b7 K H a xs∧∀p,H p=none→Q (.ref p) (upd H p (.lst (eY xs lo hi)))
theorem FN:ot X (zv X.K):=by
 intro pins s σ H x v vl vu lo hi sl Q I rx hs pl pu h;obtain ⟨a,xs,rfl,hx,q⟩:=h;cases rx;obtain ⟨aj,r,ht,hz⟩:=I.list hx;have hlen:=r.length;refine ⟨"list",_,slot_list_getitem.lookup,ht.isList.typeIs,?_⟩;refine wpAny_getItem_list_slice ht.isList hs pl pu .none (by simp) ?_ (by rw [bO] <;> omega)
 rw [zu,←hlen];refine ⟨.ref s.heap.objs.size,_,I.laid (t':=s.toks) (o:=.lst (eY xs lo hi)) (fun b ob q=>a_ _ q) (aA _) ?_,rfl,q _ (I.ax.fresh (aA _))⟩;exact ⟨cO (uL xs lo hi) hz,_,0,(r.drop (HT.aH xs.length 0 lo)).take (HT.aH xs.length xs.length hi-HT.aH xs.length 0 lo),cu _ rfl⟩
def iN:V→Bool
 | .aN=>true
 | .bl _=>true
 | .int _=>true
 | .str _=>true
 | _=>false
def du:V→V→Bool
 | .aN,.aN=>true
 | .bl a,.bl b=>a == b
 | .bl a,.int b=>(if a then 1 else 0) == b
 | .int a,.bl b=>a == (if b then 1 else 0)
 | .int a,.int b=>a == b
 | .str a,.str b=>a == b
 | _,_=>false
variable {y x:V} {u:Value}
theorem ou{A:Around}{v:Value}(ry:RelV y u)(rx:RelV x v)(fy:iN y=true)(fx:iN x=true):SeqAt.EqAt A s u v (du y x):=by
 cases y with
 | aN=>
  cases ry;cases x with
  | aN=>cases rx;exact SeqAt.EqAt.same _
  | bl b=>cases rx;exact SeqAt.EqAt.none_bool b
  | int b=>obtain ⟨t,rfl⟩:=rx;exact SeqAt.EqAt.none_int b t
  | str b=>obtain ⟨t,rfl⟩:=rx;exact SeqAt.EqAt.none_str b t
  | _=>exact absurd (show false=true from fx) bJ
 | bl a=>
  cases ry;cases x with
  | aN=>cases rx;exact SeqAt.EqAt.bool_none a
  | bl b=>cases rx;exact SeqAt.EqAt.bool_bool a b
  | int b=>obtain ⟨t,rfl⟩:=rx;exact SeqAt.EqAt.bool_int a b t
  | str b=>obtain ⟨t,rfl⟩:=rx;exact SeqAt.EqAt.bool_str a b t
  | _=>exact absurd (show false=true from fx) bJ
 | int a=>
  obtain ⟨t',rfl⟩:=ry;cases x with
  | aN=>cases rx;exact SeqAt.EqAt.int_none a t'
  | bl b=>cases rx;exact SeqAt.EqAt.int_bool a t' b
  | int b=>obtain ⟨t,rfl⟩:=rx;exact SeqAt.EqAt.int_int a t' b t
  | str b=>obtain ⟨t,rfl⟩:=rx;exact SeqAt.EqAt.int_str a t' b t
  | _=>exact absurd (show false=true from fx) bJ
 | str a=>
  obtain ⟨t',rfl⟩:=ry;cases x with
  | aN=>cases rx;exact SeqAt.EqAt.str_none a t'
  | bl b=>cases rx;exact SeqAt.EqAt.str_bool a t' b
  | int b=>obtain ⟨t,rfl⟩:=rx;exact SeqAt.EqAt.str_int a t' b t
  | str b=>obtain ⟨t,rfl⟩:=rx;exact SeqAt.EqAt.str_str a t' b t
  | _=>exact absurd (show false=true from fx) bJ
 | _=>exact absurd (show false=true from fy) bJ
def hG(x:V)(u:Value):Bool:=match u with
 | .none=>du .aN x
 | .bool b=>du (.bl b) x
 | .int i _=>du (.int i) x
 | .str z _=>du (.str z) x
 | _=>false
theorem uS(r:RelV y u)(f:iN y=true):hG x u=du y x:=by
 cases y with
 | aN=>cases r;rfl
 | bl b=>cases r;rfl
 | int i=>obtain ⟨t,rfl⟩:=r;rfl
 | str z=>obtain ⟨t,rfl⟩:=r;rfl
 | _=>exact absurd (show false=true from f) bJ
theorem qO{x:V}:∀{xs:List V} {us:List Value},Vals xs us→xs.all iN=true→us.any (hG x)=xs.any fun y=>du y x
 | _,_,.nil,_=>rfl
 | y::xs,u::us,.cons r t,f=>by rw [List.all_cons,i6] at f;rw [List.any_cons,List.any_cons,uS r f.1,qO t f.2]
theorem qP{A:Around}{s:Shared}{x:V}{v:Value}(rx:RelV x v)(fx:iN x=true):∀{xs:List V} {us:List Value},Vals xs us→xs.all iN=true→∀u∈us,SeqAt.EqAt A s u v (hG x u)
 | _,_,.nil,_=>fun u hu=>by cases hu
 | y::xs,u::us,.cons r t,f=>fun u' hu=>by
  rw [List.all_cons,i6] at f;rcases cp.mp hu with rfl | hu;·rw [uS r f.1];exact ou r rx f.1 fx
  ·exact qP rx fx t f.2 u' hu
def uT(x:V)(xs:List V):Bool:=xs.any fun y=>du y x
def zw(K:aB)(neg:Bool):R2:=fun x y H Q=>∃p xs,y=.ref p∧(b7 K H p xs∨bE K H p xs)∧iN x=true∧xs.all iN=true∧Q (.bl (if neg then !uT x xs else uT x xs)) H
theorem zA:bZ X (compareOp .In) (zw X.K false):=by
 intro pins s σ H x y v u Q I rx ry h;obtain ⟨p,xs,rfl,hq,fx,fs,q⟩:=h;cases ry;rcases hq with hq | hq
 ·obtain ⟨aj,r,pl,hz⟩:=I.list hq
  refine SeqAt.in_listAt (hG x) pl.isList (fun w hw=>qP rx fx r fs w (by simpa using hw)) ⟨.bl _,H,I,rfl,?_⟩
  rw [show aj.toArray.any (hG x)=aj.any (hG x) by simp,qO r fs]
  exact q
 ·obtain ⟨aj,r,pl,hz⟩:=I.tuple hq
  refine SeqAt.in_tupleAt (hG x) pl (fun w hw=>qP rx fx r fs w (by simpa using hw)) ⟨.bl _,H,I,rfl,?_⟩
  rw [show aj.toArray.any (hG x)=aj.any (hG x) by simp,qO r fs]
  exact q
theorem eZ:gr X (.builtin "len") (fun xs H Q=>∃p ys,xs=[.ref p]∧(b7 X.K H p ys∨bE X.K H p ys)∧Q (.int ys.length) H):=by
 intro pins s σ H xs us Q I r h;obtain ⟨p,ys,rfl,hq,q⟩:=h;obtain ⟨u,rfl,rx⟩:=vals1 r;cases rx;have hn:=n_;rcases hq with hq | hq
 ·obtain ⟨aj,r',pl,hz⟩:=I.list hq
  have hlen:=r'.length;exact Calls.call_len_list pl.isList (by simp only [bO] <;> omega) ⟨.int ys.length,H,I.tok _,⟨s.toks+1,by rw [bO,hlen]⟩,q⟩
 ·obtain ⟨aj,r',pl,hz⟩:=I.tuple hq
  have hlen:=r'.length;exact len_tuple pl (by simp only [bO] <;> omega) ⟨.int ys.length,H,I.tok _,⟨s.toks+1,by rw [bO,hlen]⟩,q⟩
theorem qQ:gr X (.type "tuple") (fun xs H Q=>∃p ys,xs=[.ref p]∧((b7 X.K H p ys∧∀l,H l=none→Q (.ref l) (upd H l (.tup ys)))∨(bE X.K H p ys∧Q (.ref p) H))):=by
 intro pins s σ H xs us Q I r h;obtain ⟨p,ys,rfl,h⟩:=h;obtain ⟨u,rfl,rx⟩:=vals1 r;cases rx;rcases h with ⟨hq,q⟩ | ⟨hq,q⟩
 ·obtain ⟨aj,r',pl,hz⟩:=I.list hq
  have hlen:=r'.length;refine call_tuple_list pl.isList (fun h' kp=>?_) (by simp only [bO] <;> omega)
  have I1:Inv X pins σ H {s with heap:=h'}:=I.kept (t':=s.toks) kp;have I2:Inv X pins σ (upd H h'.objs.size (.tup ys)) {s with heap:=h'.push {cls:=.type "tuple",data:=.seq aj.toArray}}:=
   I1.laid (t':=s.toks) (fun b o e=>a_ _ e) (aA _) (show cx X.prog X.w _ _ _ (.tup ys) from ⟨hz,aj,r',IsTup.new _ _⟩)
  exact ⟨.ref h'.objs.size,_,I2,rfl,q _ (I1.ax.fresh (aA _))⟩
 ·obtain ⟨aj,r',pl,hz⟩:=I.tuple hq
  exact call_tuple_same pl ⟨.ref p,H,I,rfl,q⟩
def uU(K:aB)(T:String)(x:V)(H:Hp):Prop:=match x with
 | .str _=>T="str"
 | .int _=>T="int"
 | .ref p=>(T="list"∧∃xs,b7 K H p xs)∨(T="tuple"∧∃o,K.lookup p=some o∧o.cls=.type "tuple"∧o.dict=none) ∨
   (T="dict"∧((∃bR,H p=some (.dK bR))∨∃bR,H p=some (.dT bR)))∨(T="set"∧∃S n,H p=some (.set S n))
 | _=>False
theorem zB{T:String}{v:Value}(I:Inv X pins σ H s)(r:RelV x v)(ty:uU X.K T x H) :
  s.TypeIs v T∧∀a,v=.ref a→∃ob,s.heap.get? a=some ob∧ob.dict=none:=by
 cases x with
 | str z=>obtain ⟨t,rfl⟩:=r;cases (show T="str" from ty);exact ⟨typeIs_str s z t,fun _ e=>nomatch e⟩
 | int i=>obtain ⟨t,rfl⟩:=r;cases (show T="int" from ty);exact ⟨typeIs_int s i t,fun _ e=>nomatch e⟩
 | ref p=>
  cases r;rcases ty with ⟨rfl,xs,hq⟩ | ⟨rfl,o,hk,hc,hd⟩ | ⟨rfl,hk⟩ | ⟨rfl,S,n,hk⟩
  ·obtain ⟨aj,_,pl,_⟩:=I.list hq
   refine ⟨pl.isList.typeIs,fun a e=>?_⟩;cases e;obtain ⟨o,n,e,c,hd,_⟩:=pl;exact ⟨o,e,hd⟩
  ·refine ⟨⟨o,I.cS p o hk,hc⟩,fun a e=>?_⟩
   cases e;exact ⟨o,I.cS _ o hk,hd⟩
  ·have z:∃o,s.heap.get? p=some o∧o.ExactDict:=by
    rcases hk with ⟨bR,hk⟩ | ⟨bR,hk⟩
    ·obtain ⟨_,_,_,_,o,_,_,e,ex,_⟩:=I.ax p _ hk
     exact ⟨o,e,ex⟩
    ·obtain ⟨_,_,_,_,o,_,_,e,ex,_⟩:=I.ax p _ hk
     exact ⟨o,e,ex⟩
   obtain ⟨o,e,ex⟩:=z;refine ⟨⟨o,e,ex.1⟩,fun a e2=>?_⟩;cases e2;exact ⟨o,e,ex.2.1⟩
  ·obtain ⟨o,_,_,_,e,ex,_⟩:=I.ax p _ hk
   refine ⟨⟨o,e,ex.1⟩,fun a e2=>?_⟩;cases e2;exact ⟨o,e,ex.2.1⟩
 | _=>exact False.elim ty
def zC(K:aB)(T:String)(r:V→List V→Hp→VK→Prop)(to:TE)(t:TA):TE:=fun σ H Q=>to σ H fun x H1=>uU K T x H1∧t σ H1 fun xs H2=>r x xs H2 Q
variable {o e:Expr} {es:List Expr} {to:TE} {t:TA} {name:Str} {apos eI:Pos} {T id:String} {r:V→List V→Hp→VK→Prop}
theorem uV(pa:PlainAttrs T)(slot:Slot T name id)(zD:typeOf (.builtin id)=pure (.type "method_descriptor"))(hm:zi X id r)(ho:PE X o to)(ha:PA X (e::es) t)
  (zE:attributeBase o name X.env (eval o X.env)=eval o X.env:=by rfl)
  (zF:((backTo eI (starEach (e::es) X.env)).all (fun x=>!x.1) && (backToKw eI (keywordEach [] X.env)).all (fun x=>x.1.isSome)
   && decide ((e::es).length+([]:List Keyword).length+(if ([]:List Keyword).isEmpty then 0 else 1)<30))=true:=by rfl)
  (zG:(apos.endLine == eI.line)=true:=by rfl) (hs:starEach (e::es) X.env=(false,eval e X.env)::starEach es X.env:=by rfl) (zH:(backTo eI (starEach es X.env)).any (·.1)=false:=by rfl) :
  PE X (.Call (.Attribute o name apos) (e::es) [] eI) (zC X.K T r to t):=by
 intro pins s σ H Q I h;refine wpAny_Call_method_late zE zF zG rfl (aE (ho pins s σ H _ I h) fun v s1 ⟨x,H1,I1,r1,ty,q1⟩=>?_);obtain ⟨h1,h2⟩:=zB I1 r1 ty;refine ⟨T,id,pa,slot,zD,h1,h2,?_⟩;have hA:=ha eI pins s1 σ H1 _ I1 q1;rw [hs] at hA ⊢;refine Calls.callWith_builtin (by show (false || (backTo eI (starEach es X.env)).any (·.1))=false;rw [zH] <;> rfl) (Calls.evalArgs_plain ?_)
 exact aE hA fun us s2 ⟨vs,H2,I2,r2,q2⟩=>hm pins s2 σ H2 x vs v us Q I2 r1 r2 q2
end
def uW(X:Cx)(id:String)(r:V→List V→Hp→VK→Prop):Prop:=
 ∀(pins:aD) (s:Shared) (σ:St) (H:Hp) (x:V) (xs:List V) (v:Value) (us:List Value) (Q:VK),Inv X pins σ H s→RelV x v→Vals xs us→r x xs H Q→
  wpAny (model X.prog X.w) X.A (call (.builtin id) (v::us)) (EP X pins σ Q) X.xe s
theorem Vals.one:∀{x:V} {us:List Value},Vals [x] us→∃u,us=[u]∧RelV x u
 | _,_,.cons r .nil=>⟨_,rfl,r⟩
section
variable {X:Cx} {pins:aD} {σ:St} {H:Hp} {s:Shared} {l b:Addr} {xs ys zs:List V}
variable {aj:List Value} {n t':Nat}
theorem Inv.uX{its':List Value}{f:Array Value→Array Value}(I:Inv X pins σ H s)(hH:H l=some (.lst xs))
  (e:s.heap.get? l=some {cls:=.type "list",data:=.seq aj.toArray n}) (hf:f aj.toArray=its'.toArray) (hv:Vals ys its') (hz:ys.length≤sizeLine) :
  Inv X pins σ (upd H l (.lst ys)) {s with heap:=s.heap.update l (Obj.mapSeq f),toks:=t'}:=by
 have q:=PySem.IsL.update e f;rw [hf] at q;refine I.write (x:=l) (e:=l) (by rw [hH];exact trivial) (.inl rfl) (fun b' u hb hu=>(Heap.get?_update_other s.heap (Obj.mapSeq f) (eR hb)).trans hu) ⟨_,q⟩ ?_
 exact ⟨hz,its',_,hv,q⟩
theorem Inv.zI(I:Inv X pins σ H s)(hv:Vals ys aj)(hz:ys.length≤sizeLine) :
  Inv X pins σ (upd H s.heap.objs.size (.lst ys)) {s with heap:=s.heap.push {cls:=.type "list",data:=.seq aj.toArray},toks:=t'}:=
 I.laid (fun _ _ q=>a_ _ q) (aA _) ⟨hz,aj,0,hv,cu _ rfl⟩
theorem Inv.fresh(I:Inv X pins σ H s):H s.heap.objs.size=none:=I.ax.fresh (aA _)
theorem Inv.mz(I:Inv X pins σ H s)(hH:H l=some (.lst xs)):xs.length≤sizeLine∧∃(aj:List Value) (n:Nat),Vals xs aj∧xs.length=aj.length∧s.heap.get? l=some {cls:=.type "list",data:=.seq aj.toArray n}:=by obtain ⟨z,aj,n,r,e⟩:=I.ax l _ hH;exact ⟨z,aj,n,r,r.length,e⟩
theorem zJ(h:n≤sizeLine):Builtin.List.listTooLong n=false:=by unfold Builtin.List.listTooLong;exact bp (by omega)
end
section
variable {X:Cx}
def zK:V→List V→Hp→VK→Prop:=fun x vs H Q=>∃l xs y,x=.ref l∧vs=[y]∧H l=some (.lst xs)∧xs.length<sizeLine∧Q .aN (upd H l (.lst (xs++[y])))
theorem oz:uW X "list.append" zK:=by
 intro pins s σ H x vs v us Q I rx rv h;obtain ⟨l,xs,y,rfl,rfl,hH,hz,q⟩:=h;cases rx;obtain ⟨u,rfl,ru⟩:=rv.one;obtain ⟨z,aj,n,r,hl,e⟩:=I.mz hH;refine call_meets F.slot_list_append ⟨_,e,rfl⟩ F.entry_list_append (F.args_list_append_2 _ _) (PySem.list_append l aj.toArray n u (by rw [bO];omega)) ⟨e,?_⟩
 refine ⟨.aN,_,I.uX (its':=aj++[u]) hH e (by simp) (r.append (.cons ru .nil)) ?_,rfl,q⟩
 rw [dz,List.length_singleton];omega
def zL:V→List V→Hp→VK→Prop:=fun x vs H Q=>∃l b xs zs,x=.ref l∧vs=[.ref b]∧H l=some (.lst xs)∧H b=some (.lst zs)∧xs.length+zs.length≤sizeLine∧Q .aN (upd H l (.lst (xs++zs)))
theorem zM:uW X "list.extend" zL:=by
 intro pins s σ H x vs v us Q I rx rv h;obtain ⟨l,b,xs,zs,rfl,rfl,hH,hB,hz,q⟩:=h;cases rx;obtain ⟨u,rfl,ru⟩:=rv.one;cases ru;obtain ⟨z,aj,n,r,hl,e⟩:=I.mz hH;obtain ⟨z2,gA,n2,r2,zN,e2⟩:=I.mz hB;have gz:aj.toArray.size+gA.toArray.size≤sizeLine:=by rw [bO,bO];omega
 have zO:¬(!aj.toArray.isEmpty && Builtin.List.listTooLong (aj.toArray.size+gA.toArray.size))=true:=by rw [zJ gz,Bool.and_false];exact bJ
 refine call_meets F.slot_list_extend ⟨_,e,rfl⟩ F.entry_list_extend (F.args_list_extend_2 _ _)
  (AutoSeq1.list_extend_list_list_0 l aj.toArray n b gA.toArray n2 zO (by rw [bO];omega) (by omega)) ⟨e,e2,?_⟩
 refine ⟨.aN,_,I.uX (its':=aj++gA) hH e (by simp) (r.append r2) ?_,rfl,q⟩
 rw [dz];omega
def zP:R2:=fun x y H Q=>∃l b xs zs,x=.ref l∧y=.ref b∧H l=some (.lst xs)∧H b=some (.lst zs)∧xs.length+zs.length≤sizeLine∧∀p,H p=none→Q (.ref p) (upd H p (.lst (xs++zs)))
theorem uY:bZ X (binaryOp .Add) zP:=by
 intro pins s σ H x y v u Q I rx ry h;obtain ⟨l,b,xs,zs,rfl,rfl,hH,hB,hz,q⟩:=h;cases rx;cases ry;obtain ⟨z,aj,n,r,hl,e⟩:=I.mz hH;obtain ⟨z2,gA,n2,r2,zN,e2⟩:=I.mz hB;refine PySem.P.add_list e e2 ?_ (by rw [bO,bO];omega)
 have ea:aj.toArray++gA.toArray=(aj++gA).toArray:=by simp
 rw [ea];exact ⟨.ref _,_,I.zI (t':=s.toks) (r.append r2) (by rw [dz];omega),rfl,q _ I.fresh⟩
end
section
variable {prog:Program} {w:World} {A:Around} {E:ay} {s:Shared}
end
section
variable {X:Cx}
end
end L2
namespace oA
open PySem PySem.W PySem.Calls PyProof.Rows
variable {P:Params} {h:Heap}
theorem zQ:∀(ns:List Int) (vs:List Value),WellAll P h vs (ns.map WData.int)→IntsAre vs ns:=by
 intro ns
 induction ns with
 | nil=>intro vs w;rw [List.map_nil] at w;cases w;exact .nil
 | cons n ns ih=>
  intro vs w;rw [List.map_cons] at w;cases w with
  | cons a b=>cases a;exact .cons _ _ (ih _ b)
variable {l:OpenLaw} {n:Nat}
theorem zR(hn:l.most=some n){args:List WData}{vals:List Value}
  (oB:l.row.toRowW.claim.pre args=true) (qR:WellAll P h vals args) :
  ∃a vs ns,vals=[Value.ref a]∧args=[WData.list (ns.map WData.int)]∧h.get? a=some {cls:=.type "list",data:=.seq vs.toArray}∧IntsAre vs ns∧ns.length≤n:=by
 have zS:WShape.hasAll [] args [.list .int]=true:=(pre_splitW oB).1;have hc:l.pre.holds [] {args:=args}=true:=(pre_splitW oB).2;obtain ⟨d,r,rfl,h1,h2⟩:=hasAllW_cons zS;obtain rfl:=hasAllW_nil h2;obtain ⟨xs,rfl,h3⟩:=hasW_list h1;obtain ⟨ns,rfl⟩:=items_int h3;have hlen:ns.length≤n:=by
  unfold OpenLaw.pre at hc;have h4:(WTm.not (.lt (.lit (.int (n:Int))) (.len (.arg 0)))).holds [] {args:=[.list (ns.map .int)]}=true:=by have h4:=(holds_andW hc).1;rw [hn] at h4;exact h4
  have h5:=condW_of h4 (w_not (w_lt w_lit (w_len_list (w_arg rfl))));rw [b8] at h5;refine Nat.le_of_not_lt fun q=>?_;have q':(n:Int)<((ns.length:Nat):Int):=by omega
  first
   | (rw [aG q'] at h5;exact absurd h5 (by decide))
   | (simp at h5;omega)
 cases qR with
 | cons w1 w2=>
  cases w2;cases w1 with
  | list ho qS=>exact ⟨_,_,ns,rfl,rfl,ho,zQ ns _ qS,hlen⟩
theorem zT(l:OpenLaw)(args:List WData):l.row.toRowW.claim.post args (.bool true) args=true:=
 postW_of (r:=l.row.toRowW) (X:=(true == true))
  (show WShape.has [] (.bool true) .bool=true by first | rfl | decide | simp [WShape.has,WShape.arms,WShape.armsAll])
  (show (WTm.eq .res (.lit (.bool true))).value [] {args:=args,res:=some (.bool true),after:=args}=some (.bool (true == true)) from w_eq_bool (w_res rfl) w_lit) rfl
theorem zU{q:Program}{loose:List Str}{XP:(Str→Option Value)→Heap→Prop}{YP:World→Heap→Prop}{d:DefRec}
  (hn:l.most=some n) (mB:d.params.defaults=[])
  (call:∀(w:World) (s₀ s₁:Shared) (mg mb:bQ) (fa:Addr) (o:Obj) (pm cd doc:Value) (a:Addr) (vs:List Value) (ns:List Int),
   Ground q loose [] XP w s₀ mg mb s₁.heap→YP w s₁.heap→
   s₁.heap.get? fa=some o→o.data=.func (docDef d.name d.params d.body d.scope pm cd doc)→s₁.heap.CodeRec cd d.name→mg d.name=some (.ref fa)→
   s₁.heap.get? a=some {cls:=.type "list",data:=.seq vs.toArray}→IntsAre vs ns→ns.length≤n→s₁.gens = #[]→
   codeAny (model l.prog w) callerA (.call (.ref fa) ⟨[.ref a],[]⟩) (fun r s'=>r=.ok (.ret (.bool true))∧OldK s₁.heap s'.heap∧s'.os=s₁.os∧AllBare s'.gens) s₁) :
  WalkO q loose XP YP l.row.toRowW d [] (fun f vs=>PySem.call f vs):=by
 intro w s₀ s₁ mg mb G Y fa o pm cd doc dV kV ho hd dS hD mC hg args vals as oB FO FP qR FQ;obtain rfl:dV=.none:=Dflts.none hD mB;obtain rfl:kV=.none:=Dflts.noKw hD;obtain ⟨a,vs,ns,rfl,rfl,qT,hints,hlen⟩:=zR hn oB qR;refine enter_call (lU (call w s₀ s₁ mg mb fa o pm cd doc a vs ns G Y ho (fd_plain hd) dS mC qT hints hlen hg) fun r s' hq=>?_);obtain ⟨rfl,h2,h3,h4⟩:=hq;exact ⟨.inl ⟨.bool true,.bool true,[],rfl,fun _=>rfl,.bool true,zT l _,fun _=>⟨List.Pairwise.nil,fun _ hm=>(nomatch hm)⟩⟩,h2,h3,h4⟩
section
variable {prog:Program} {w:World} {A:Around} {E:ay} {s:Shared} {K:Frag}
end
end oA
namespace L2
open PySem PySem.Spec PyProof.Rows
theorem uZ:∀{vs:List Value} {ns:List Int},IntsAre vs ns→Vals (ns.map V.int) vs
 | _,_,.nil=>.nil
 | _,_,.cons n t h=>.cons ⟨t,rfl⟩ (uZ h)
def qU(H:Hp):Prop:=∀b,H b=none∨∃o xs,H b=some (.dn o (.lst xs))
variable {K:aB} {k:Nat} {a:Addr} {x:Str}
theorem zV{P:Program}{w:World}{mg mb:bQ}{CX:dG}{fa:Addr}{fd:FuncData}{sp:Sp}{s₁:Shared}{vs:List Value}{ns:List Int}
  (KX:K.In s₁.heap) (u0:s₁.heap.Ns mainGlobals mg) (hb:s₁.heap.Ns builtinsNs mb) (jr:∀x:Str,x ≠ "__name__"→mb x=bootBuiltins x) (zW:s₁.heap.NoLimit) (hg:s₁.gens = #[])
  (ha:s₁.heap.get? a=some {cls:=.type "list",data:=.seq vs.toArray}) (hi:IntsAre vs ns) (hl:ns.length≤sizeLine) (hr:cj k callerA)
  (F:∀base:Heap,K.In base→base.Ns mainGlobals mg→bH P w K mg base CX k fa fd [x] sp) (zX:∀(s:Shared) (u:Value),BindsTo s fd ⟨[u],[]⟩ [(x,u)])
  (gx:∀H:Hp,qU H→b7 K H a (ns.map V.int)→sp [.ref a] H (fun v _=>v=.bl true) fun _ _ _=>False)
  (qV:∀H e s',CX [] H s₁ (fun _ _ _=>False) e s'→False) :
  codeAny (model P w) callerA (.call (.ref fa) ⟨[.ref a],[]⟩) (fun r s'=>r=.ok (.ret (.bool true))∧OldK s₁.heap s'.heap∧s'.os=s₁.os∧AllBare s'.gens) s₁:=by
 have rv:=uZ hi;have zY:=hi.length
 have core:∀H:Hp,qU H→b7 K H a (ns.map V.int)→bG P w H s₁.heap→(∀b,H b≠none→b=a)→(H a≠none→K.lookup a=none)→
   codeAny (model P w) callerA (.call (.ref fa) ⟨[.ref a],[]⟩) (fun r s'=>r=.ok (.ret (.bool true))∧OldK s₁.heap s'.heap∧s'.os=s₁.os∧AllBare s'.gens) s₁:=by
  intro H hO hS ax hA hK;have u4:∀{b:Addr} {o:Obj},s₁.heap.get? b=some o→H b=none→(gY s₁.heap H).get? b=some o:=fun e n=>xD e n;have mw:∀{b:Addr} {o:Obj} {es:Array DictEntry} {ep:Nat},s₁.heap.get? b=some o→o.data=.dict es ep→H b=none:=fun{b o es ep} e d=>by
   cases q:H b with
   | none=>rfl
   | some u=>
    have e':b=a:=hA b (by rw [q];simp)
    subst e';rw [ha] at e;cases e;have d':Data.seq vs.toArray _=Data.dict es ep:=d;cases d'
  have oC:∀{b:Addr} {m:bQ},s₁.heap.Ns b m→(gY s₁.heap H).Ns b m:=fun{b m} ⟨o,es,ep,e,d,r⟩=>⟨o,es,ep,u4 e (mw e d),d,r⟩;have u5:K.In (gY s₁.heap H):=fun b o e=>u4 (KX b o e) (by
   cases q:H b with
   | none=>rfl
   | some u=>
    have e':b=a:=hA b (by rw [q];simp)
    subst e';rw [hK (by rw [q];simp)] at e;cases e)
  have hM:Mod K mg (gY s₁.heap H):=⟨u5,oC u0,⟨mb,oC hb,jr⟩,let ⟨mc,h1,h2⟩:=zW;⟨mc,oC h1,h2⟩⟩
  have e0:oi P w K mg (gY s₁.heap H) callerA [] s₁ H:=⟨rfl,hM,fun b o e=>xE e,Nat.le_of_eq (xC _ _),trivial,fun b hb=>absurd (show b∈([]:List Addr) from hb) (by simp),ax,.of_eq hg⟩
  refine lU ((F _ u5 (oC u0)).run callerA [] s₁ H ⟨[.ref a],[]⟩ [.ref a] [.ref a] _ _ hr e0 (zX s₁ (.ref a)) (.cons rfl .nil) (gx H hO hS)) fun r s' h=>?_;cases r with
  | error e=>exact (qV H e s' h).elim
  | ok fl=>
   cases fl with
   | next=>exact False.elim h
   | brk=>exact False.elim h
   | cont=>exact False.elim h
   | ret u=>
    obtain ⟨v,H',os,bare,un,zZ,r',q⟩:=h;have q':v=.bl true:=q;subst q';obtain rfl:u=Value.bool true:=r';refine ⟨rfl,OldK.of_keep fun b o e=>?_,os,bare⟩;cases q:H b with
    | none=>exact un.keep b o e q (by intro z;exact absurd (show b∈([]:List Addr) from z) (by simp)) (by simp)
    | some u=>
     rcases hO b with z | ⟨ob,xs,z⟩;·rw [q] at z;cases z
     ·have z2:=un.dR b ob _ z
      obtain ⟨e1,_⟩:=ax b _ z;obtain ⟨e2,_⟩:=zZ b _ z2;rw [e] at e1;cases e1;exact e2
 cases hk:K.lookup a with
 | some o=>have e:=KX a o hk;rw [ha] at e;cases e;refine core (fun _=>none) (fun _=>.inl rfl) (.inr ⟨_,vs.toArray,_,hk,rfl,rfl,rfl,by rw [bO,zY];exact hl,by simpa using rv⟩) (fun b u z=>by have z':(none:Option HO)=some u:=z;cases z') (fun b z=>absurd rfl z) fun z=>absurd rfl z
 | none=>
  refine core (fun b=>if b=a then some (.dn {cls:=.type "list",data:=.seq vs.toArray} (.lst (ns.map V.int))) else none) (fun b=>?_) (.inl (.inr ⟨{cls:=.type "list",data:=.seq vs.toArray},ae rfl⟩)) (fun b u z=>?_) (fun b z=>?_) fun _=>hk
  ·by_cases hb:b=a
   ·exact .inr ⟨_,_,ae hb⟩
   ·exact .inl (aa hb)
  ·by_cases hb:b=a
   ·have z':=(ae hb).symm.trans z
    cases z';subst hb;exact ⟨ha,by rw [b8];exact hl,vs,_,rv,ha⟩
   ·have z':=(aa hb).symm.trans z
    cases z'
  ·by_cases hb:b=a
   ·exact hb
   ·exact absurd (aa hb) z
abbrev u6 {K:aB} {h:Heap} (_:K.In h):PySem.W.Frag:=K
variable {n:Nat}
theorem z6{l:PySem.W.OpenLaw}{q:Program}{loose:List Str}{XP:(Str→Option Value)→Heap→Prop}{YP:World→Heap→Prop}{d:DefRec}{K:Params→PySem.W.Frag}{CX:World→dG}{sp:World→Sp}
  (hn:l.most=some n) (z8:n≤sizeLine) (mB:d.params.defaults=[]) (hr:cj k callerA)
  (hY:∀(w:World) (h:Heap),YP w h→(K w.params).In h)
  (F:∀(w:World) (mg:bQ) (fa:Addr) (h:Heap),(K w.params).In h→h.Ns mainGlobals mg→mg d.name=some (.ref fa)→
   ∃fd:FuncData,(∀(s:Shared) (u:Value),BindsTo s fd ⟨[u],[]⟩ [(x,u)]) ∧
    ∀base:Heap,(K w.params).In base→base.Ns mainGlobals mg→bH l.prog w (K w.params) mg base (CX w) k fa fd [x] (sp w))
  (gx:∀(w:World) (H:Hp) (a:Addr) (ns:List Int),ns.length≤n→qU H→b7 (K w.params) H a (ns.map V.int)→sp w [.ref a] H (fun v _=>v=.bl true) fun _ _ _=>False)
  (qV:∀(w:World) (H:Hp) (s:Shared) (e:Value) (s':Shared),CX w [] H s (fun _ _ _=>False) e s'→False) :
  PySem.W.WalkO q loose XP YP l.row.toRowW d [] (fun f vs=>PySem.call f vs):=by
 refine oA.zU hn mB fun w s₀ s₁ mg mb fa o pm cd doc a vs ns G Y ho hd dS mC qT hints hlen hg=>?_;have KX:=hY w _ Y;obtain ⟨fd,hb,hF⟩:=F w mg fa _ KX G.T.g mC;exact zV KX G.T.g G.T.b G.T.builtins G.T.nolimit hg qT hints (cO hlen z8) hr hF hb (fun H hO hS=>gx w H a ns hlen hO hS) fun H e s'=>qV w H s₁ e s'
def mD(s:Stmt):Arguments:=match s with
 | .FunctionDef _ a _ _ _ _ _ _ _ _=>a
 | _=>{posonlyargs:=[],args:=[],vararg:=none,kwonlyargs:=[],kw_defaults:=[],kwarg:=none,defaults:=[]}
def hJ(s:Stmt):List Stmt:=match s with
 | .FunctionDef _ _ b _ _ _ _ _ _ _=>b
 | _=>[]
def bj(s:Stmt):Scope:=match s with
 | .FunctionDef _ _ _ _ _ _ sc _ _ _=>sc
 | _=>{kind:=.function,names:=[],isGenerator:=false,isCoroutine:=false}
abbrev b5:dG:=fun _ _ _ _ _ _=>False
abbrev E0:XK:=fun _ _ _=>False
theorem bA{X:Cx}:Passes b5 X E0:=fun _ _ _ _ _ _ _ h=>h.elim
structure dX (K:aB) (x qual:Str) (st:Stmt) (f:Addr) (fd:FuncData):Prop where
 ex:∃(oc:Value) (od:Option Addr) (kV doc pm:Value) (an:Option Addr) (bf ct:Value) (gw:Array (Option Value)),
  fd=PySem.W.fnOf x qual (mD st) (hJ st) (bj st) .none kV doc pm an bf ct∧K.lookup f=some ⟨oc,od,.func fd,gw⟩∧PySem.W.codeIn K bf qual=true
 kp:PySem.W.keepIn K (.ref f)=true
abbrev bg (K:aB) (x:Str) (st:Stmt) (f:Addr) (fd:FuncData):Prop:=dX K x x st f fd
section
variable {P:Program} {w:World} {K:aB} {mg:bQ} {base:Heap}
variable {qual:Str} {st:Stmt} {f:Addr} {fd:FuncData} {N ps:List Str} {sp:Sp}
theorem dX.ok(F:dX K x qual st f fd)(S:b4 N ps (bj st))(len:∀vs H Q E,sp vs H Q E→vs.length=ps.length)
  (g9:∀(bf:Value) (A:Around) (outer:List Env) (s:Shared) (H:Hp) (vs:List V) (Q:VK) (E:XK),cj k (A.deeper (envOfC qual (bj st) s.heap.objs.size f bf))→sp vs H Q E→
   ∃t,dB (fE b5 P w K mg base N qual (bj st) f bf A outer s H E).ml (hJ st) t∧t {nx:=fun _ H'=>Q .aN H',rt:=Q} (start N vs) H):bH P w K mg base b5 (k+1) f fd ps sp:=by
 obtain ⟨oc,od,kV,doc,pm,an,bf,ct,gw,rfl,lk,dS⟩:=F.ex;refine uD lk dS S len fun A outer s H vs Q E hr gx=>?_;obtain ⟨t,h,q⟩:=g9 bf A outer s H vs Q E hr gx;exact ⟨t,h.ml,q⟩
theorem dX.cU(F:dX K x qual st f fd)(S:b4 N ps (bj st))
  (g9:∀(bf:Value) (A:Around) (outer:List Env) (s:Shared) (H:Hp) (vs:List V) (Q:VK) (E:XK),cj k (A.deeper (envOfC qual (bj st) s.heap.objs.size f bf))→sp vs H Q E→
   ∃t,dB (fE b5 P w K mg base N qual (bj st) f bf A outer s H E).ml (hJ st) t∧t {nx:=fun _ H'=>Q .aN H',rt:=Q} (start N vs) H)
  (len:∀vs H Q E,sp vs H Q E→vs.length=ps.length:=by intro vs H Q E h;repeat first | (obtain ⟨rfl,_⟩:=h;rfl) | (subst h;rfl) | obtain ⟨_,h⟩:=h):bH P w K mg base b5 (k+1) f fd ps sp:=F.ok S len g9
theorem dX.binds(F:dX K x qual st f fd)
  (h:∀(kV doc pm:Value) (an:Option Addr) (bf ct:Value) (us:List Value),us.length=ps.length→bindArgs (PySem.W.fnOf x qual (mD st) (hJ st) (bj st) .none kV doc pm an bf ct) ⟨us,[]⟩=pure (ps.zip us)):Binds K fd ps []:=by
 obtain ⟨oc,od,kV,doc,pm,an,bf,ct,gw,rfl,lk,dS⟩:=F.ex;exact .all (h kV doc pm an bf ct)
theorem dX.cI(F:dX K x qual st f fd)
  (h:∀(kV doc pm:Value) (an:Option Addr) (bf ct:Value) (us:List Value),us.length=ps.length→bindArgs (PySem.W.fnOf x qual (mD st) (hJ st) (bj st) .none kV doc pm an bf ct) ⟨us,[]⟩=pure (ps.zip us):=by intro _ _ _ _ _ _ us hl;rcases us with _ | ⟨_,_ | ⟨_,_ | ⟨_,_ | ⟨_,_ | ⟨_,_ | ⟨_,_ | ⟨_,_⟩⟩⟩⟩⟩⟩⟩ <;> first | rfl | (simp at hl;done)):Binds K fd ps []:=F.binds h
theorem cJ{oc:Value}{od an:Option Addr}{gw:Array (Option Value)}{kV doc pm bf ct:Value}(l:K.lookup f=some ⟨oc,od,.func (PySem.W.fnOf x qual (mD st) (hJ st) (bj st) .none kV doc pm an bf ct),gw⟩)
  (c:PySem.W.codeIn K bf qual=true) (k:PySem.W.keepIn K (.ref f)=true):dX K x qual st f (PySem.W.fnOf x qual (mD st) (hJ st) (bj st) .none kV doc pm an bf ct):=⟨⟨oc,od,kV,doc,pm,an,bf,ct,gw,rfl,l,c⟩,k⟩
end
theorem hV(h:n≤1000):n<sizeLine:=Nat.lt_of_le_of_lt h (by decide)
section
variable {X:Cx}
theorem pv(i:Nat){pos:Pos}(hN:X.N[i]?=some x:=by rfl)(hv:i9 X.env.scope x:=by first | exact Or.inl rfl | exact Or.inr (Or.inl rfl) | exact Or.inr (Or.inr rfl))(hd:(x == ("__debug__":Str))=false:=by decide)
  (dS:(x == ("__classdict__":Str))=false:=by decide):PE X (.Name x pos) (tQ i):=xO hN hv hd dS
end
variable {A B:Prop}
theorem aC(h:B):if false=true then A else B:=by rw [aa bJ];exact h
theorem bN(h:A):if true=true then A else B:=by rw [ae rfl];exact h
theorem cV{c:Prop}[Decidable c](h1:c→A)(h2:¬c→B):if c then A else B:=by
 by_cases h:c
 ·rw [ae h]
  exact h1 h
 ·rw [aa h]
  exact h2 h
def au(H H':Hp):Prop:=∀b o,H b=some o→H' b=some o
theorem au.refl(H:Hp):au H H:=fun _ _ h=>h
variable {H:Hp}
theorem au.trans{H1 H2:Hp}(a:au H H1)(b:au H1 H2):au H H2:=fun c o h=>b c o (a c o h)
theorem au.seq{H':Hp}{xs:List V}(e:au H H')(h:b7 K H a xs):b7 K H' a xs:=by
 rcases h with (h | ⟨o,h⟩) | h;·exact .inl (.inl (e _ _ h))
 ·exact .inl (.inr ⟨o,e _ _ h⟩)
 ·exact .inr h
end L2
set_option maxHeartbeats 4000000
namespace L2
open PySem PySem.Spec PyProof.Rows
structure z9 (P:Program) (w:World) (outer:List Env) (H:Hp) (s:Shared) (H':Hp) (ea C:Addr) (B:Heap) (t:Addr) (s':Shared):Prop where
 os:s'.os=s.os
 bare:AllBare s'.gens
 fl:Heap.FlyingW B outer ea (.ref C) (.ref t) s'.heap
 ax:bG P w H' B
 kb:∀b o,s.heap.get? b=some o→H b=none→b∉bK outer→B.get? b=some o
 tb:∀b o,s.heap.get? b=some o→b∉bK outer→∃o',B.get? b=some o'
 sl:∀b o,s.heap.get? b=some o→H b=none→b∈bK outer→∃l,s'.heap.get? b=some {o with slots:=l}
 FR:∀b∈bK outer,H b=none
 FT:∀b o,s.heap.get? b=some o→H b=none→H' b=none
 eB:∀b xs,H b=some (.tup xs)→H' b=some (.tup xs)
 dR:∀b o u,H b=some (.dn o u)→H' b=some (.dn o u)
 eC:∀b ps,H b=some (.gX ps)→∃more,H' b=some (.gX (ps++more))
def gB(P:Program)(w:World):dG:=fun outer H s E e s'=>∃ea C H' B t,e=.ref ea∧z9 P w outer H s H' ea C B t s'∧E (.ref C) none H'
section
variable {P:Program} {w:World} {outer:List Env} {H H':Hp} {s s':Shared} {ea C t:Addr} {B:Heap}
def ExcAt(ea C:Addr)(h:Heap):Prop:=∃oe,h.get? ea=some oe∧oe.cls=.ref C∧PySem.W.notCls oe=true
def z_(ea C:Addr):HO:=.ext (ExcAt ea C)
end
section
variable {X:Cx} {pins:aD} {σ:St} {H H':Hp} {s s':Shared} {ea C t:Addr} {B:Heap}
structure oD (X:Cx) (E:XK):Prop where
 gZ:X.stack=X.env::X.outer
 fr:X.env.frame=some X.env.locals
 ex:X.ex=[]
 xe:X.xe=fun e s'=>wpAny (model X.prog X.w) X.A (leaving X.env e) (fun _ gv=>gB X.prog X.w X.outer X.H₀ X.s₀ E e gv) (fun e' gv=>gB X.prog X.w X.outer X.H₀ X.s₀ E e' gv) s'
theorem u7{env:Env}{outer:List Env}{L:Addr}(h:env.frame=some L):bK (env::outer)=L::bK outer:=by unfold bK;rw [ny,h]
theorem u9:Passes (gB X.prog X.w) X (fun _ _ _=>False):=fun pins σ H s e s' I h=>by obtain ⟨_,_,_,_,_,_,_,q⟩:=h;exact q.elim
end
variable {K:aB} {h:Heap}
theorem Aa{C:Addr}{kz:List Value}{newId:String}(bS:K.In h)(hq:PySem.W.excIn K C kz newId=true) :
  ∃bm N nm qn bs hdct sn sub ab col dd k0 k1 k2 k3 k5 mN,h.get? C=some (excClassObj nm qn C N bs bm hdct sn sub ab col dd k0 k1 k2 k3 k5 newId)∧h.Ns N mN∧mN "__init__"=none∧OwnTail h kz bm∧PySem.W.mroIn K C=fun b=>some ((Value.ref C::bm).contains b):=by
 unfold PySem.W.excIn at hq
 split at hq
 ·rename_i gC cls slt look
  split at hq
  ·rename_i CC rest a0 a1 a2 a3 nn a5 em es
   simp only [i6,beq_iff_eq,Bool.not_eq_true'] at hq;obtain ⟨⟨⟨⟨⟨e1,e2⟩,e3⟩,e4⟩,e5⟩,e6⟩:=hq;subst e1 e2;have u_:PySem.W.mroIn K CC=fun b=>some ((Value.ref CC::rest).contains b):=by
    funext b
    unfold PySem.W.mroIn PySem.W.clsIn;rw [look];simp [em]
   obtain ⟨c1,c2,c3,c4,c5,c6,c7,c8,c9,Ab,FU⟩:=cls;dsimp only at em e3 e5 e6;subst em e3;have Ac:slt = #[a0,a1,a2,a3,some (.builtin nn),a5]:=by obtain ⟨ll⟩:=slt;simp only at es;rw [es]
   subst Ac;exact ⟨rest,c4,c1,c5,c2,c6,c7,c8,c9,Ab,gC,a0,a1,a2,a3,a5,_,bS _ _ look,.of_isNs (PySem.W.isNs_of_in bS e5),PySem.W.nsMap_none_of_in bS e5 e6,PySem.W.tail_of_in bS e4,u_⟩
  ·cases hq
 ·cases hq
section
variable {X:Cx} {E:XK} {x:Str} {C:Addr} {np eI pos:Pos} {e:Expr} {es:List Expr} {ta:TA} {B newId mE:String} {kz:List Value}
def Ad(C:Addr)(E:XK)(ta:TA):TS:=fun _ σ H=>ta σ H fun vs H1=>vs.length≤sizeLine∧E (.ref C) none H1
theorem Ae(L:oD X E)(hc:X.calm=true)(FB:ExcBaseFacts B newId mE kz)(hq:PySem.W.excIn X.K C kz newId=true)(hg:Gl X x)(hm:X.mg x=some (.ref C))(ha:PA X (e::es) ta)
  (hs:starEach (e::es) X.env=(false,eval e X.env)::starEach es X.env:=by rfl) (hp:(backTo eI (starEach es X.env)).any (·.1)=false:=by rfl) (hd:(x == ("__debug__":Str))=false:=by decide) :
  PS X (.Raise (some (.Call (.Name x np) (e::es) [] eI)) none pos) (Ad C E ta):=by
 intro pins s σ H D I h;obtain ⟨bm,N,nm,qn,bs,hdct,sn,sub,ab,col,dd,k0,k1,k2,k3,k5,mN,hC,hN,Af,T,_⟩:=Aa I.ok.mod.bS hq
 refine wpAny_Raise_call_subT (C:=C) (nm:=nm) (q:=qn) (N:=N) (bs:=bs) (bm:=bm) (hdct:=hdct) (sn:=sn) (sub:=sub) (ab:=ab) (col:=col) (dd:=dd) (k0:=k0) (k1:=k1) (k2:=k2) (k3:=k3) (k5:=k5) FB (mN:=mN) (T.hasType FB.hasBase) (I.ok.hd hc)
  (by rw [hs];show (false || (backTo eI (starEach es X.env)).any (·.1))=false;rw [hp];rfl) Af (qt I hg hm ⟨rfl,?_⟩ hd)
 have h1:=ha eI pins s σ H _ I h;rw [hs] at h1 ⊢;refine Calls.evalArgs_plain (aE h1 fun us s2 ⟨vs,H1,I1,r,hl,q⟩=>⟨rfl,by rw [←r.length];exact hl,I1.bk _ _ hC,hN.keeps I1.bk,T.keeps I1.bk,fun h' ea mk=>?_⟩)
 rw [L.xe];have nL:∀b o,X.s₀.heap.get? b=some o→b≠X.env.locals:=fun b o q=>b_ (cY (aX q) I1.ok.above);have ns:∀b o,X.s₀.heap.get? b=some o→b∉bK X.outer→b∉bK X.stack:=fun b o q nb z=>by
  rw [L.gZ,u7 L.fr] at z;rcases cp.mp z with z | z;·exact nL b o q z
  ·exact nb z
 have nx:∀b:Addr,b∉X.ex:=fun b z=>by rw [L.ex] at z;cases z
 have ff:s2.heap.FunFrames (PySem.W.hideAll s2.heap (bK X.stack)) (X.env::X.outer):=by have z:=I1.stack;rw [←L.gZ];exact PySem.W.funFrames_hide z fun env he a hf=>List.mem_filterMap.mpr ⟨env,he,hf⟩
 refine wpAny_leaves_madeW (base:=PySem.W.hideAll s2.heap (bK X.stack)) (h:=s2.heap) (by rw [I1.ok.frames,L.gZ]) L.fr (fun b o q=>PySem.W.of_hideAll _ q) ff mk fun h2 t fl _ _ up=>?_
 refine ⟨ea,C,H1,_,t,rfl,⟨I1.os,I1.bare,fl,fun a o e1=>?_,fun b o e1 n nb=>?_,fun b o e1 nb=>?_,fun b o e1 n hb=>?_,I1.ok.jb,fun b o e1 n=>?_,I1.base.eB,I1.base.dR,I1.base.eC⟩,q⟩
 ·refine (I1.ax a o e1).eA (fun b u hb e2=>nt _ e2 fun z=>?_) (fun _ z=>z) fun _ _ z=>z
  have n0:=I1.mf b z;rcases hb with hb | hb
  ·subst hb
   rw [e1] at n0;cases n0
  ·rw [hb] at n0
   cases n0
 ·exact nt _ (I1.base.keep b o e1 n nb (nx b)) (ns b o e1 nb)
 ·obtain ⟨o',e2⟩:=I1.base.there b o e1 (nx b)
  exact ⟨o',nt _ e2 (ns b o e1 nb)⟩
 ·obtain ⟨l,e2⟩:=I1.base.slot b o e1 n hb (nx b)
  have jg:b∈bK X.stack:=by rw [L.gZ,u7 L.fr];exact fU _ hb
  obtain ⟨_,o2,e3,nf⟩:=I1.stack.mem jg;rw [e2] at e3;cases e3;obtain ⟨l2,e4⟩:=up b _ (mk.keeps _ _ e2) nf;exact ⟨l2,e4⟩
 ·obtain ⟨o',e2⟩:=I1.base.there b o e1 (nx b)
  exact I1.base.free b o e1 n (nx b)
end
section
variable {X:Cx} {k:Nat} {f C:Addr} {fd:FuncData} {ps:List Str} {sp:Sp} {gu:List V} {ds:List Value} {x m:Str} {p pos apos:Pos} {e o:Expr} {es:List Expr} {ta:TE} {t:TA}
variable {te:TX} {i:Nat} {pos':Pos}
end
section
variable {X:Cx} {pins:aD} {σ:St} {H:Hp} {s:Shared} {ea:Addr}
end
section
variable {M:Model} {A:Around} {E:ay} {h:Heap} {g:Array GenState} {d:Drawn} {t:Nat} {os:OsState} {e:Addr} {oe:Obj} {Q:Bool→Shared→Prop}
variable {nm q FV q':Str} {C N D N':Addr} {bs bm FW FX:List Value} {hdct FY:Bool} {sn FZ:List Str} {sub F0:List Value} {ab F1:Bool} {col F2:Option Bool} {dd F3:Option Addr} {k0 k1 k2 k3 k5 j0 j1 j2 j3 j5:Option Value} {newId F4:String}
end
section
variable {X:Cx} {body:List Stmt} {b₀:Stmt} {F5:List Stmt} {np F6 pos:Pos} {x n:Str} {D:Addr} {tb:F7} {ts:TS} {kz:List Value} {newId:String} {i:Nat}
end
section
variable {P:Program} {w:World} {K:aB} {mg:bQ} {base:Heap}
variable {x qual:Str} {st:Stmt} {f:Addr} {fd:FuncData} {N ps:List Str} {k:Nat} {sp:Sp}
theorem dX.Ag(F:dX K x qual st f fd)(S:b4 N ps (bj st))(len:∀vs H Q E,sp vs H Q E→vs.length=ps.length)
  (g9:∀(bf:Value) (A:Around) (outer:List Env) (s:Shared) (H:Hp) (vs:List V) (Q:VK) (E:XK),cj k (A.deeper (envOfC qual (bj st) s.heap.objs.size f bf))→sp vs H Q E→
   oD (fE (gB P w) P w K mg base N qual (bj st) f bf A outer s H E) E→
   ∃t,dB (fE (gB P w) P w K mg base N qual (bj st) f bf A outer s H E) (hJ st) t∧t {nx:=fun _ H'=>Q .aN H',rt:=Q} (start N vs) H):bH P w K mg base (gB P w) (k+1) f fd ps sp:=by
 obtain ⟨oc,od,kV,doc,pm,an,bf,ct,gw,rfl,lk,dS⟩:=F.ex;exact uD lk dS S len fun A outer s H vs Q E hr gx=>g9 bf A outer s H vs Q E hr gx ⟨rfl,rfl,rfl,rfl⟩
theorem dX.gD(F:dX K x qual st f fd)(S:b4 N ps (bj st))
  (g9:∀(bf:Value) (A:Around) (outer:List Env) (s:Shared) (H:Hp) (vs:List V) (Q:VK) (E:XK),cj k (A.deeper (envOfC qual (bj st) s.heap.objs.size f bf))→sp vs H Q E→
   oD (fE (gB P w) P w K mg base N qual (bj st) f bf A outer s H E) E→
   ∃t,dB (fE (gB P w) P w K mg base N qual (bj st) f bf A outer s H E) (hJ st) t∧t {nx:=fun _ H'=>Q .aN H',rt:=Q} (start N vs) H)
  (len:∀vs H Q E,sp vs H Q E→vs.length=ps.length:=by intro vs H Q E h;repeat first | (obtain ⟨rfl,_⟩:=h;rfl) | (subst h;rfl) | obtain ⟨_,h⟩:=h):bH P w K mg base (gB P w) (k+1) f fd ps sp:=F.Ag S len g9
end
structure jt (K:aB) (C:Addr):Prop where
 ci:PySem.W.hasDictIn K C=true
 ga:PySem.W.findIn K (.ref C) "__getattribute__"=some (some (.builtin "BaseException.__getattribute__"))
 gn:PySem.W.findIn K (.ref C) "__getattr__"=some none
 ca:PySem.W.findIn K (.ref C) "__class__"=some (some (.builtin "object.__class__"))
 mo:PySem.W.mroIn K C (.type "object")=some true
 mb:PySem.W.mroIn K C (.type "BaseException")=some true
section
variable {prog:Program} {w:World} {A:Around} {E:ay} {h:Heap} {g:Array GenState} {d:Drawn} {t:Nat} {os:OsState} {K:aB} {a C:Addr} {o:Obj}
theorem Ah{R:Result→Shared→Prop}(bS:K.In h)(c:jt K C)(hx:h.get? a=some o)(hc:o.cls=.ref C)(hq:R (.ok (.ret (.ref C))) ⟨h,g,d,t,os⟩) :
  codeAny (model prog w) A (.call (.builtin "getset_descriptor.__get__") ⟨[.builtin "object.__class__",.ref a,.ref C],[]⟩) R ⟨h,g,d,t,os⟩:=by
 have va:(⟨h,g,d,t,os⟩:Shared).TypeIs (.builtin "object.__class__") "getset_descriptor":=qf;have L1:=PySem.W.looks_mroIn (M:=model prog w) bS c.mo;have ow:=F.owner_object_class;refine nF F.slot_gs_get.plain F.entry_gs_get (F.slot_gs_get.check _ _ _ _ _ _ _ _ va (F.args_gs_get _ _ _) ?_)
 repeat (any_goals (first | assumption | (with_reducible refine lV hx ?_;rw [hc]) | (rw [ow];with_reducible refine L1.at ?_) | wp_step))
 refine ⟨Code.quiet_builtin _ (by decide +kernel),codeAny_builtin F.entry_object_class ?_⟩
 repeat (any_goals (first | assumption | (with_reducible refine lV hx ?_;rw [hc]) | wp_step))
variable {tk:Tok}
theorem Ai{Q:Fin→Shared→Prop}(bS:K.In h)(c:jt K C)(hx:h.get? a=some o)(hc:o.cls=.ref C)(hq:Q (.done (.ret (.ref C))) ⟨h,g,d,t,os⟩) :
  wpAny (model prog w) A (Builtin.«object.__getattribute__» ⟨[.ref a,.str "__class__" tk],[]⟩) Q E ⟨h,g,d,t,os⟩:=by
 have va:(⟨h,g,d,t,os⟩:Shared).TypeIs (.builtin "object.__class__") "getset_descriptor":=qf;have L1:=PySem.W.looks_findIn (M:=model prog w) bS c.ca;have f5:=qf;have f6:=F.slot_gs_get.lookup;have f7:=F.slot_gs_set.lookup
 repeat (any_goals (first | assumption | (with_reducible refine lV hx ?_;rw [hc]) | with_reducible refine L1.at ?_ | wp_step))
 refine Ah bS c hx hc ?_
 repeat (any_goals (first | assumption | wp_step))
theorem Aj{M:Model}{nv:Value}{Q:Unit→Shared→Prop}(bS:K.In h)(c:jt K C)(hx:h.get? a=some o)(hc:o.cls=.ref C)(hq:Q () ⟨h,g,d,t,os⟩) :
  wpAny M A (checkBuiltinCall "BaseException.__getattribute__" ⟨[.ref a,nv],[]⟩) Q E ⟨h,g,d,t,os⟩:=by
 have hk:builtinKind "BaseException.__getattribute__"=some .slot:=by decide +kernel
 have hs:splitId "BaseException.__getattribute__"=some ("BaseException","__getattribute__"):=by decide +kernel
 have L1:=PySem.W.looks_mroIn (M:=M) bS c.mb;have ha:=F.args_bexc_ga (.ref a) nv;simp only [checkBuiltinCall,hk,hs];refine ak ?_;unfold isInstance
 repeat (first | (with_reducible refine lV hx ?_;rw [hc]) | with_reducible refine L1.at ?_ | wp_step)
 exact hq
theorem Ak{fill expr:Bool}{Q:ay}(bS:K.In h)(c:jt K C)(hx:h.get? a=some o)(hc:o.cls=.ref C)(hq:Q (.ref C) ⟨h,g,d,t,os⟩) :
  wpAny (model prog w) A (getAttrBy (.ref a) (.str "__class__" tk) fill expr) Q E ⟨h,g,d,t,os⟩:=by
 have f3:=F.attrBase_ValueError.ga.bind (.ref a);have z0:(expr && onTheHeap (Value.builtin "BaseException.__getattribute__"))=false:=by cases expr <;> rfl
 have z2:(Value.builtin "BaseException.__getattribute__" == Value.builtin "object.__getattribute__")=false:=by decide +kernel
 have z1:(onTheHeap (Value.ref C) && Value.builtin "BaseException.__getattribute__" == Value.builtin "object.__getattribute__")=false:=by rw [z2];rfl
 have L1:=PySem.W.looks_findIn (M:=model prog w) bS c.ga;have L2:=PySem.W.looks_findIn (M:=model prog w) bS c.gn
 repeat (any_goals (first | assumption | (with_reducible refine lV hx ?_;rw [hc]) | with_reducible refine L1.at ?_ | with_reducible refine L2.at ?_ | wp_step))
 refine nF F.attrBase_ValueError.ga.plain F.entry_bexc_ga (Aj bS c hx hc (Ai bS c hx hc ?_))
 repeat (any_goals (first | assumption | wp_step))
theorem Al{Q:Option Value→Shared→Prop}(bS:K.In h)(c:jt K C)(hx:h.get? a=some o)(hc:o.cls=.ref C)(hq:Q (some (.ref C)) ⟨h,g,d,t+1,os⟩) :
  wpAny (model prog w) A (getAttr? (.ref a) "__class__") Q E ⟨h,g,d,t,os⟩:=by
 unfold getAttr? getAttrBy?
 repeat (any_goals (first | assumption | with_reducible apply Ak bS c hx hc | wp_step))
theorem Am(c:jt K C):PySem.W.KitX K (.ref a) (.ref C) (ExcAt a C) where
 ty:=fun M h _ k=>by obtain ⟨oe,e1,e2,_⟩:=k;exact e2▸(PySem.W.Looks.ld e1).andThen .now
 it:=fun M h bS _=>by
  obtain ⟨cd,hc,_⟩:=PySem.W.any_some c.ci;unfold PySem.W.clsIn at hc
  split at hc
  ·rename_i look
   intro A' Q' E' s' k q;unfold isType loadHead;exact ak (wpAny_loadPart (k _ _ (bS _ _ look)) (aL q))
  ·cases hc
 ne:=fun h tp dd aj n sl bS An=>by
  obtain ⟨cd,hc,_⟩:=PySem.W.any_some c.ci;refine nG.mpr fun q=>?_;have e:C=tp:=Value.ref.inj (beq_iff_eq.mp q);subst e;unfold PySem.W.clsIn at hc
  split at hc
  ·rename_i look
   have z:=(bS _ _ look).symm.trans An;cases z
  ·cases hc
 ca:=fun{prog w A E Q s} bS k z=>by obtain ⟨oe,e1,e2,_⟩:=k;obtain ⟨h,g,d,t,os⟩:=s;exact Al bS c e1 e2 z
end
def oE(a:Addr)(h:Heap):Prop:=∃o ep,h.get? a=some o∧o.ExactDict∧o.data=.dict #[] ep∧(a == sysModules)=false
theorem oE.oF{a:Addr}(e:oE a h):PySem.W.KitAt a "dict" h:=by obtain ⟨o,_,e,c,_⟩:=e;exact ⟨o,e,c.1⟩
def vb(a:Addr):HO:=.ext (oE a)
inductive mF (K:aB) (H:Hp):V→Value→Prop where
 | of {x:V} {t:Value} (h:eG K H x t):mF K H x t
 | exc {a C:Addr} (e:H a=some (z_ a C)) (c:jt K C):mF K H (.ref a) (.ref C)
 | gC {a:Addr} (e:H a=some (vb a)):mF K H (.ref a) (.type "dict")
def vc:V→Value
 | .ty n=>.type n
 | .ref a=>.ref a
 | _=>.none
def Ao:V→Bool
 | .ty _=>true
 | .ref _=>true
 | _=>false
def Ap(K:aB):List V→Hp→VK→Prop:=fun xs H Q=>∃x c t b,xs=[x,c]∧Ao c=true∧mF K H x t∧PySem.W.kitOne K t (vc c)=some b∧Q (.bl b) H
theorem e7{X:Cx}(hK:X.K=K:=by rfl):gr X (.builtin "isinstance") (Ap K):=by
 intro pins s σ H xs us Q I r h;subst hK;obtain ⟨x,c,t,b,rfl,hc,ty,e,q⟩:=h;obtain ⟨u,cv,rfl,rx,rc⟩:=vals2 r;have ec:cv=vc c:=by
  cases c with
  | ty n=>exact rc
  | ref a=>exact rc
  | _=>cases hc
 subst ec;cases ty with
 | of ty=>exact yu I rx ty e fun tk=>⟨.bl b,H,I.tok tk,rfl,q⟩
 | @gC a ea=>cases rx;obtain ⟨k,_,_⟩:=(show cx X.prog X.w H s.heap a (.ext (oE a)) from I.ax a _ ea);exact ek PySem.W.kitx_dict I.cS k.oF e (fun z=>nomatch z) fun tk=>⟨.bl b,H,I.tok tk,rfl,q⟩
 | @exc a C ea cc=>cases rx;obtain ⟨k,_,_⟩:=(show cx X.prog X.w H s.heap a (.ext (ExcAt a C)) from I.ax a _ ea);exact ek (Am cc) I.cS k e (fun z=>nomatch z) fun tk=>⟨.bl b,H,I.tok tk,rfl,q⟩
theorem boot_isinstance:bootBuiltins "isinstance"=some (.builtin "isinstance"):=by decide +kernel
theorem boot_min:bootBuiltins "min"=some (.builtin "min"):=by decide +kernel
theorem boot_max:bootBuiltins "max"=some (.builtin "max"):=by decide +kernel
theorem boot_int:bootBuiltins "int"=some (.type "int"):=by decide +kernel
theorem boot_bool:bootBuiltins "bool"=some (.type "bool"):=by decide +kernel
theorem boot_tuple:bootBuiltins "tuple"=some (.type "tuple"):=by decide +kernel
end L2
namespace My
open PySem L2
end My
namespace L2
open PySem PySem.Spec PyProof.Rows
abbrev Cx.a7 (X:Cx) (N:List Str) (scope:Scope) (cl:List (Str×Addr)) (s₃:Shared) (H₃:Hp) (fp:List Addr):Cx:=
 {X with N:=N,s₀:=s₃,H₀:=H₃,env:=compEnvC scope cl s₃.heap.objs.size X.env,outer:=X.stack,stack:=X.stack,ex:=fp,fn:=fun _=>false,pn:=[],xe:=fun _ _=>False}
inductive iO (X:Cx):List Expr→TT→Prop where
 | nil:iO X [] (fun _ H Q=>Q true H)
 | one {c:Expr} {t:TT} (h:PT X c t):iO X [c] t
def fF(wi:TI)(ρ:St→St)(tt:TT)(te:TE):TE:=fun σ H Q=>wi σ H fun J H1=>∀D,H1 D=none→∃W:Nat→Nat→List V→Hp→Prop,(∃m,W 0 m [] (upd H1 D (.lst []))) ∧
 ∀i m ys Hc,W i m ys Hc→Hc D=some (.lst ys)∧((J.stop i Hc∧Q (.ref D) Hc)∨(J.go i Hc∧∀x H',J.da i Hc x H'→tt (some x::ρ σ) H' fun b H2=>
  if b=true then te (some x::ρ σ) H2 fun y H3=>H3 D=some (.lst ys)∧ys.length<sizeLine∧∃m',m'<m∧W (i+1) m' (ys++[y]) (upd H3 D (.lst (ys++[y]))) else ∃m',m'<m∧W (i+1) m' ys H2))
section
variable {X:Cx} {N:List Str} {scope:Scope} {cl:List (Str×Addr)} {x:Str} {px pos:Pos} {iter elt:Expr} {ifs:List Expr} {wi:TI} {ρ:St→St} {tt:TT} {te:TE}
structure qW (X:Cx) (N:List Str) (scope:Scope) (cl:List (Str×Addr)) (x:Str) (ρ:St→St):Prop where
 oG:closureFor scope X.env=pure cl
 kind:scope.kind=.function
 oH:∀y∈scope.names,y.2≠.cell
 names:∀y∈scope.names,y.2=.local→scope.names.lookup y.1=some .local
 sub:∀p∈cl,X.env.cells.lookup p.1=some p.2
 has:∀y,((relabel scope X.env).names.lookup y=some .cell∨(relabel scope X.env).names.lookup y=some .free)→∃c,cl.lookup y=some c
 n0:N[0]?=some x
 nd:N.Nodup
 hx:scope.names.lookup x=some .local
 oI:∀(σ:St) (j:Nat) (v:V),(ρ σ)[j]?=some (some v)→∃(i:Nat) (y:Str),N[j+1]?=some y∧X.N[i]?=some y∧σ[i]?=some (some v)∧i9 X.env.scope y∧(X.env.kindOf y=some .cell∨X.env.kindOf y=some .free)∧((relabel scope X.env).names.lookup y=some .cell∨(relabel scope X.env).names.lookup y=some .free)
 len:∀σ:St,σ.length=X.N.length→(ρ σ).length+1=N.length
theorem vd{names:List (Str×NameKind)}(h:(names.all fun q=>(q.2 != .cell && q.2 != .free) || (cl.lookup q.1).isSome)=true) :
  ∀y,(names.lookup y=some .cell∨names.lookup y=some .free)→∃c,cl.lookup y=some c:=fun y hy=>by
 have key:∀k:NameKind,(k != .cell && k != .free)=false→names.lookup y=some k→∃c,cl.lookup y=some c:=fun k hk e=>by have z:=List.all_eq_true.mp h (y,k) (gP e);rw [hk,kd] at z;exact Option.isSome_iff_exists.mp z
 rcases hy with e | e;·exact key .cell rfl e
 ·exact key .free rfl e
theorem join_some{o:Option (Option V)}{v:V}(h:some o.join=some (some v)):o=some (some v):=by
 cases o with
 | none=>cases h
 | some o=>cases h;rfl
def oJ(X:Cx)(sc:Scope):List Str→List Nat→Prop
 | n::ns,i::is=>(X.N[i]?=some n∧i9 X.env.scope n∧(X.env.kindOf n=some .cell∨X.env.kindOf n=some .free)∧((relabel sc X.env).names.lookup n=some .cell∨(relabel sc X.env).names.lookup n=some .free))∧oJ X sc ns is
 | _,[]=>True
 | [],_::_=>False
theorem qX{X:Cx}{sc:Scope}:∀{ns:List Str} {is:List Nat},oJ X sc ns is→∀(σ:St) (j:Nat) (v:V),(is.map fun i=>σ[i]?.join)[j]?=some (some v)→∃(i:Nat) (n:Str),ns[j]?=some n∧X.N[i]?=some n∧σ[i]?=some (some v)∧i9 X.env.scope n∧(X.env.kindOf n=some .cell∨X.env.kindOf n=some .free)∧((relabel sc X.env).names.lookup n=some .cell∨(relabel sc X.env).names.lookup n=some .free)
 | _,[],_,_,_,_,e=>by cases e
 | [],_::_,h,_,_,_,_=>h.elim
 | n::_,i::_,h,_,0,_,e=>⟨i,n,rfl,h.1.1,join_some e,h.1.2⟩
 | _::_,_::_,h,σ,j+1,v,e=>qX h.2 σ j v e
theorem ju(is:List Nat)(h1:closureFor scope X.env=pure cl)(h:oJ X scope N.tail is:=by repeat' first | exact True.intro | refine And.intro ⟨rfl,Or.inr (Or.inl rfl),.inl rfl,.inl rfl⟩ ?_)(h2:scope.kind=.function:=by rfl)(h3:∀y∈scope.names,y.2≠.cell:=by decide +kernel)(h4:∀y∈scope.names,y.2=.local→scope.names.lookup y.1=some .local:=by decide +kernel)(h5:∀p∈cl,X.env.cells.lookup p.1=some p.2:=by repeat' first | exact List.forall_mem_nil _ | refine List.forall_mem_cons.mpr ⟨rfl,?_⟩)(h6:((relabel scope X.env).names.all fun q=>(q.2 != .cell && q.2 != .free) || (cl.lookup q.1).isSome)=true:=by rfl)(h7:N[0]?=some x:=by rfl)(h8:N.Nodup:=by decide +kernel)(h9:scope.names.lookup x=some .local:=by rfl)(hr:∀σ:St,ρ σ=is.map fun i=>σ[i]?.join:=by exact fun _=>rfl)(hl:is.length+1=N.length:=by rfl):qW X N scope cl x ρ:=
 ⟨h1,h2,h3,h4,h5,vd h6,h7,h8,h9,fun σ j v e=>by rw [hr] at e;rw [←List.getElem?_tail];exact qX h σ j v e,fun σ _=>by rw [hr,b8];exact hl⟩
theorem kA(B:qW X N scope cl x ρ)(hc:X.calm=true)(hi:PI X (.Name x px) iter wi)(ht:∀s₃ H₃ fp,iO (X.a7 N scope cl s₃ H₃ fp) ifs tt)(he:∀s₃ H₃ fp,PE (X.a7 N scope cl s₃ H₃ fp) elt te)
  (hs:∀x,foldedSetIterable iter X.env x=pure x:=by intro _;rfl):PE X (.ListComp elt [⟨.Name x px,iter,ifs,0⟩] scope pos) (fF wi ρ tt te):=by
 intro pins s σ H Q I h
 rw [eval_ListComp]
 refine qg (use:=none) rfl hs B.oG B.kind B.names (aE (hi pins s σ H _ I h) fun v s1 h1=>aE h1 fun mq s2 h2=>?_)
 obtain ⟨it,fp,tn,J,H2,rfl,I2,T,eF,f2,q2⟩:=h2
 have nD:H2 s2.heap.objs.size=none:=I2.ax.fresh (aA _)
 obtain ⟨W,⟨m0,w0⟩,turn⟩:=q2 _ nD
 refine fu (wpAny_newFunctionEnv B.oH (by intro y hy;simp at hy) (fun h₁ dY dZ=>?_) B.kind)
 dsimp only at dY dZ ⊢
 generalize hD:s2.heap.objs.size=D at nD w0 turn dY dZ ⊢
 generalize fG:({s2 with heap:=s2.heap.push {cls:=.type "list",dict:=none,data:=.seq ([]:List Value).toArray}}:Shared)=s3
 have I3:Inv X pins σ (upd H2 D (.lst [])) s3:=by
  subst hD fG
  exact I2.laid (t':=s2.toks) (fun b u e=>a_ _ e) (aA _) ⟨cG _,[],_,.nil,cu _ rfl⟩
 have e3:s3.heap=s2.heap.push {cls:=.type "list",dict:=none,data:=.seq ([]:List Value).toArray}:=by rw [←fG]
 have d4:∀b o,s2.heap.get? b=some o→s3.heap.get? b=some o:=fun b o e=>by rw [e3];exact a_ _ e
 rw [←e3] at dY dZ ⊢
 have below:∀b o,s3.heap.get? b=some o→b≠s3.heap.objs.size:=fun b o e=>b_ (aX e)
 have cK:∀b o,s3.heap.get? b=some o→h₁.get? b=some o:=fun b o e=>dZ.extBut b o (below b o e) (a_ _ e)
 have fH:∀b∈fp,∃o,s2.heap.get? b=some o∧∀v,o.data≠.cell v:=T.obj _ _ eF
 have mG:∀b∈fp,b≠D:=fun b hb z=>by
  obtain ⟨o,e,_⟩:=fH b hb
  rw [z,←hD] at e
  exact absurd (aX e) (ei _)
 have ck:∀y c,cl.lookup y=some c→X.env.cells.lookup y=some c:=fun y c e=>B.sub (y,c) (gP e)
 have mH:=I3.mf
 have gD:(X.a7 N scope cl s3 (upd H2 D (.lst [])) fp).Ok:=by
  refine ⟨I.ok.mod,B.kind,I.ok.glob,I.ok.blt,aA _,fun a b c e1 e2=>I.ok.inj a b c (ck a c e1) (ck b c e2),fun y hy=>B.has y hy,(fun _ _ z _=>absurd z bJ),(fun _=>I.ok.hd hc),I.ok.frames,.inl rfl,fun b hb=>⟨?_,fun y c e z=>?_⟩,fun b o e=>?_,cO I.ok.eV I3.sz,fun b o e hb=>?_,fun b hb z=>?_,I3.stack,mH⟩
  ·obtain ⟨o,e,_⟩:=fH b hb
   exact below b o (d4 b o e)
  ·exact (f2 b hb).2.2.2.2.1 y c (ck y c e) z
  ·exact I3.bs b o e
  ·rcases (f2 b hb).2.2.2.1 with z | z
   ·exact I.ok.i_ b o e z
   ·exact absurd (cY (aX e) (cO I.ok.eV z)) (ei _)
  ·rcases cp.mp (I3.me b z) with z | z
   ·exact (f2 b hb).2.1 z
   ·exact (f2 b hb).2.2.1 z
 have IB:∀tk:Nat,Inv (X.a7 N scope cl s3 (upd H2 D (.lst [])) fp) [] (none::ρ σ) (upd H2 D (.lst [])) {s3 with heap:=h₁,toks:=tk}:=fun tk=>by
  refine ⟨gD,rfl,I3.bare,Un.kept cK,⟨_,dY,fun j y v e1 e2 e3=>?_⟩,fun y c e=>?_,?_,fun y c e=>I3.eW y c (ck y c e),(fun p hp=>nomatch hp),I3.ax.kept cK,?_⟩
  ·cases j with
   | zero=>cases e2
   | succ j=>
    obtain ⟨i,y',a1,a2,a3,a4,a5,a6⟩:=B.oI σ j v e2
    have jv:N[j+1]?=some y:=e1
    rw [jv] at a1
    cases a1
    obtain ⟨m,hn,hl⟩:=I3.loc
    obtain ⟨u,r,l⟩:=hl i y v a2 a3 a4
    refine ⟨u,r,.inr ⟨a6,?_⟩⟩
    obtain ⟨c,ec⟩:=B.has y a6
    rcases l with ⟨k,_⟩ | ⟨_,c',iP,z⟩
    ·rcases a5 with q | q <;> (rw [k] at q;cases q)
    ·have:=ck y c ec
     rw [this] at iP
     cases iP
     obtain ⟨o,ho,hd⟩:=z
     exact ⟨c,ec,o,cK _ _ ho,hd⟩
  ·obtain ⟨v,o,ho,hd⟩:=I3.cell y c (ck y c e)
   exact ⟨v,o,cK _ _ ho,hd⟩
  ·exact I3.ax.fresh (aA _)
  ·show (none::ρ σ).length=N.length
   rw [dm]
   exact B.len σ I.len
 have fin:∀{σ':St} {H':Hp} {s':Shared},Inv (X.a7 N scope cl s3 (upd H2 D (.lst [])) fp) [] σ' H' s'→Q (.ref D) H'→compPost (model X.prog X.w) X.A X.xe none (EP X pins σ Q) (.ref D) s3.heap.objs.size (.ok .next) s':=fun{σ' H' s'} J q=>by
  obtain ⟨m,hn,_⟩:=J.loc
  refine ⟨m,hn,fun h' d5=>⟨.ref D,H',?_,rfl,q⟩⟩
  have old:∀b o,s3.heap.get? b=some o→b≠s3.heap.objs.size:=below
  have u1:Un (bK X.stack) fp (upd H2 D (.lst [])) H' s3.heap h':=by
   refine ⟨fun b o e n hb hx=>?_,fun b o e n hb hx=>?_,J.base.free,fun b o e hx=>?_,J.base.eB,J.base.dR,J.base.eC⟩
   ·exact (d5.2 b (old b o e)).trans (J.base.keep b o e n hb hx)
   ·obtain ⟨sl,z⟩:=J.base.slot b o e n hb hx
    exact ⟨sl,(d5.2 b (old b o e)).trans z⟩
   ·obtain ⟨o',z⟩:=J.base.there b o e hx
    exact ⟨o',(d5.2 b (old b o e)).trans z⟩
  have mI:bG X.prog X.w H' h':=fun b u e=>by
   refine (J.ax b u e).eA (fun c v hc z=>(d5.2 c fun y=>?_).trans z) (fun _ z=>z) fun _ _ z=>z
   have fr:=J.free
   have y':c=s3.heap.objs.size:=y
   rcases hc with hc | hc
   ·rw [←hc,y'] at e
    exact absurd (fr.symm.trans e) (by simp)
   ·rw [y'] at hc
    exact absurd (fr.symm.trans hc) (by simp)
  refine I3.iF (s':={s' with heap:=h'}) (ch:=fp) (J.os) u1 mI J.bare fun b hb=>?_
  obtain ⟨g0,g1,g2,g3,g4,g5⟩:=f2 b hb
  exact ⟨g3,g1,g4,g5⟩
 have dD:∀{H':Hp},(∀b∈fp,H' b=none)→∀b∈fp,g8 (X.a7 N scope cl s3 (upd H2 D (.lst [])) fp) [] H' b:=fun hn b hb=>by
  refine ⟨hn b hb,?_,?_,.inl hb,fun y c e z=>(f2 b hb).2.2.2.2.1 y c (ck y c e) z,fun p hp=>nomatch hp⟩
  ·obtain ⟨o,e,_⟩:=fH b hb
   exact below b o (d4 b o e)
  ·exact gD.ja b hb
 have loop:∀tk:Nat,codeAny (model X.prog X.w) X.A (.compLoop (.ListComp elt [⟨.Name x px,iter,ifs,0⟩] scope pos) 0 (.ref it) (.ref D) (compEnvC scope cl s3.heap.objs.size X.env))
   (compPost (model X.prog X.w) X.A X.xe none (EP X pins σ Q) (.ref D) s3.heap.objs.size) {s3 with heap:=h₁,toks:=tk}:=fun tk=>by
  refine codeAny_compLoop_tests (fun n s'=>∃i ys o H',Inv (X.a7 N scope cl s3 (upd H2 D (.lst [])) fp) [] (o::ρ σ) H' s'∧tn i s'.heap∧(∀b∈fp,H' b=none)∧W i n ys H') ?_ m0
   ⟨0,[],none,_,IB tk,T.keep _ _ _ eF fun b hb o e=>cK _ _ (d4 _ _ e),fun b hb=>by rw [bt (mG b hb)];exact (f2 b hb).1,w0⟩
  rintro n s4 ⟨i,ys,o,H4,I4,iQ,iR,w4⟩
  obtain ⟨ve,mJ⟩:=turn i n ys H4 w4
  rcases mJ with ⟨stop,qn⟩ | ⟨go,step⟩
  ·refine bq (T.done (X.a7 N scope cl s3 (upd H2 D (.lst [])) fp) rfl rfl rfl hc i [] s4 _ H4 (fun _ _=>False) I4 (dD iR) iQ stop) (fun r s5 ⟨hr,I5⟩=>?_) fun _ _ z=>z.elim
   subst hr
   exact fin I5 qn
  ·refine bq (T.item (X.a7 N scope cl s3 (upd H2 D (.lst [])) fp) rfl rfl rfl hc i [] s4 _ H4 (fun _ _=>False) I4 (dD iR) iQ go) (fun r s5 ⟨u,hr,h5⟩=>?_) fun _ _ z=>z.elim
   subst hr
   have z:letOwnedTupleGo (.Name x px) (.ref it) u=pure ():=rfl
   rw [z] at h5
   show wpAny _ _ ((pure ():Sem Unit) >>= fun _=>assign (.Name x px) (compEnvC scope cl s3.heap.objs.size X.env) u) _ _ s5
   refine ak (bq h5 (fun _ s5 ⟨y,H5,I5,r5,y5,dE,ji⟩=>?_) fun _ _ z=>z.elim)
   have jj:=I5.pinned (dD ji) (T.obj _ _ dE)
   have pg:PG (X.a7 N scope cl s3 (upd H2 D (.lst [])) fp) (.Name x px) (cT 0):=fC (i:=0) B.nd B.n0 (.inl (iA B.hx)) (.inr (iA B.hx))
   have again:∀{σ7:St} {H7:Hp} {s7:Shared},Inv (X.a7 N scope cl s3 (upd H2 D (.lst [])) fp) ([]++gq fp s5.heap) σ7 H7 s7→Inv (X.a7 N scope cl s3 (upd H2 D (.lst [])) fp) [] σ7 H7 s7∧tn (i+1) s7.heap∧∀b∈fp,H7 b=none:=fun{σ7 H7 s7} I7=>by
    refine ⟨I7.kn,T.keep _ _ _ dE fun b hb o e=>(I7.pin (b,o) (cP _ (cP _ (iH hb e)))).1,fun b hb=>?_⟩
    obtain ⟨o,e,d⟩:=T.obj _ _ dE b hb
    exact (I7.pin (b,o) (cP _ (cP _ (iH hb e)))).2.1
   refine bq (pg _ s5 _ H5 y u (fun σ2 H6=>σ2=some y::ρ σ∧H6=H5) jj r5 ⟨rfl,rfl⟩) (fun _ s6 ⟨σ6,H6,I6,q6⟩=>?_) fun _ _ z=>z.elim
   obtain ⟨rfl,rfl⟩:=q6
   have mK:=step y _ y5
   have tests:∀{fI:TT},iO (X.a7 N scope cl s3 (upd H2 D (.lst [])) fp) ifs fI→∀{R:Bool→Hp→Prop},fI (some y::ρ σ) H6 R→wpAny (model X.prog X.w) X.A
     (forIn ifs true fun c r=>if r=true then do let ok ←isTrue c (compEnvC scope cl s3.heap.objs.size X.env) (eval c (compEnvC scope cl s3.heap.objs.size X.env));pure (ForInStep.yield ok) else pure (ForInStep.yield r))
     (fun ok s7=>∃H7,Inv (X.a7 N scope cl s3 (upd H2 D (.lst [])) fp) ([]++gq fp s5.heap) (some y::ρ σ) H7 s7∧R ok H7) (fun _ _=>False) s6:=fun{fI} p {R} hR=>by
    cases p with
    | nil=>exact wpAny_tests_nil ⟨_,I6,hR⟩
    | one p=>exact wpAny_tests_one (p _ s6 _ _ _ I6 hR)
   refine bq (tests (ht s3 _ fp) mK) (fun ok s7 ⟨H7,I7,q7⟩=>?_) fun _ _ z=>z.elim
   cases ok with
   | false=>
    obtain ⟨m',fJ,w7⟩:=q7
    obtain ⟨a1,a2,a3⟩:=again I7
    exact ⟨m',fJ,i+1,ys,_,H7,a1,a2,a3,w7⟩
   | true=>
    refine bq (he s3 _ fp _ s7 _ H7 _ I7 q7) (fun ev s8 ⟨z,H8,I8,r8,mL,hz,m',fJ,w8⟩=>?_) fun _ _ z=>z.elim
    refine bq (oz (X:=X.a7 N scope cl s3 (upd H2 D (.lst [])) fp) _ s8 _ H8 (.ref D) [z] (.ref D) [ev] (fun _ H9=>H9=upd H8 D (.lst (ys++[z]))) I8 rfl (.cons r8 .nil) ⟨D,ys,z,rfl,rfl,mL,hz,rfl⟩) (fun _ s9 ⟨_,H9,I9,_,q9⟩=>?_) fun _ _ z=>z.elim
    subst q9
    obtain ⟨a1,a2,a3⟩:=again I9
    exact ⟨m',fJ,i+1,ys++[z],_,_,a1,a2,a3,w8⟩
 have start:=loop (s3.toks+([]:List (Str×Value)).length)
 have es:({s3 with heap:=h₁,toks:=s3.toks+([]:List (Str×Value)).length}:Shared)={s2 with heap:=h₁,toks:=s2.toks+([]:List (Str×Value)).length}:=by rw [←fG]
 rw [es] at start
 exact qh start (T.self _ 0 _ _ _ (T.keep _ _ _ eF fun b hb o e=>cK _ _ (d4 _ _ e)) start)
end
section
variable {X:Cx}
def allR(K:aB):List V→Hp→VK→Prop:=fun xs H Q=>∃(p:Addr) (bs:List Bool),xs=[.ref p]∧b7 K H p (bs.map V.bl)∧Q (.bl (bs.all id)) H
theorem qY{K:aB}(hc:X.calm=true)(hK:X.K=K:=by rfl):gr X (.builtin "all") (allR K):=by
 intro pins s σ H xs us Q I r h;subst hK;obtain ⟨p,bs,rfl,hq,q⟩:=h;obtain ⟨u,rfl,ru⟩:=vals1 r;cases ru;obtain ⟨aj,rv,pl,hz⟩:=I.list hq;have fK:p≠s.heap.objs.size:=by obtain ⟨o,e,_⟩:=pl.isList;exact b_ (aX e)
 have hl:aj.length=bs.length:=by rw [←rv.length,b8]
 refine call_all_walk (wpAny_pyIter_list pl.isList ?_);refine ⟨s.heap.objs.size,_,_,_,_,_,fun i=>bs.getD i true,rfl,Walks.list (A:=X.A.in1) (show X.A.in1.handled=none from I.ok.hd hc) s.heap.objs.size p fK aj.toArray,⟨⟨_,cu _ rfl,rfl,rfl⟩,pl.isList.push _⟩,fun i v s' Q' E' hv Aq=>?_,fun h' tk hk=>?_⟩
 ·have oK:aj[i]?=some v:=by simpa using hv
  cases eb:bs[i]? with
  | none=>
   have:=rv.none_of (i:=i) (by rw [dP,eb];rfl)
   rw [this] at oK;cases oK
  | some b=>
   obtain ⟨u,hu,ru⟩:=rv.get (i:=i) (x:=V.bl b) (by rw [dP,eb];rfl)
   rw [hu] at oK;cases oK;cases ru;have e:bs.getD i true=b:=by rw [gS,eb];rfl
   have hW:Q' (bs.getD i true) s':=Aq;rw [e] at hW;exact iz hW
 ·refine ⟨.bl (bs.all id),H,I.kept fun b o e=>hk b o (fun z=>?_) (a_ _ e),?_,q⟩
  ·exact absurd (aX e) (by rw [iB.mp z];exact ei _)
  ·show Value.bool _=Value.bool _
   congr 1
   rw [bO,hl];clear hk q rv pl hz hl hq
   induction bs with
   | nil=>rfl
   | cons b bs ih=>rw [dm,List.range_succ_eq_map,List.all_cons,List.all_map,List.all_cons];show (b && (List.range bs.length).all fun i=>bs.getD i true)=(b && bs.all id);rw [ih]
end
theorem boot_all:bootBuiltins "all"=some (.builtin "all"):=by decide +kernel
def qZ:Expr→Bool
 | .Starred _ _=>false
 | _=>true
variable {e:Expr} {es:List Expr}
theorem Ar{env:Env}(h:qZ e=true):starEach (e::es) env=(false,eval e env)::starEach es env:=by cases e <;> first | rfl | cases h
variable {X:Cx} {te:TE} {t:TA}
theorem As(hs:qZ e=true)(ha:PE X e te)(hr:PA X es t):PA X (e::es) (jm te t):=
 yw ha hr (Ar hs)
theorem af(ha:PE X e te)(hr:PA X es t)(hs:qZ e=true:=by rfl):PA X (e::es) (jm te t):=As hs ha hr
variable {pos pos':Pos} {x:Str}
theorem vf{i:Nat}(hs:swapsWith e (some (.Name x pos')) pos.line X.env=pure false)(hf:X.fn x=true∨X.env.scope.names.lookup x=some .local)(hN:X.N.Nodup)(hi:X.N[i]?=some x)(hx:Loc X.env.scope x)(he:PE X e te) :
  PS X (.Assign [.Name x pos'] e pos) (jf te (cT i)):=x_ hN hi hx he hs hf
theorem putL(i:Nat)(hN:X.N.Nodup)(he:PE X e te)(hs:swapsWith e (some (.Name x pos')) pos.line X.env=pure false:=by rfl)(hi:X.N[i]?=some x:=by rfl)(hx:X.env.scope.names.lookup x=some .local:=by rfl) :
  PS X (.Assign [.Name x pos'] e pos) (jf te (cT i)):=vf hs (.inr hx) hN hi (.inl hx) he
theorem F8(i:Nat)(hN:X.N.Nodup)(he:PE X e te)(hs:swapsWith e (some (.Name x pos')) pos.line X.env=pure false:=by rfl)(hf:X.fn x=true∨X.env.scope.names.lookup x=some .local:=by first | exact .inl rfl | exact .inr rfl | assumption)(hi:X.N[i]?=some x:=by rfl)(hx:X.env.scope.names.lookup x=some .cell:=by rfl) :
  PS X (.Assign [.Name x pos'] e pos) (jf te (cT i)):=vf hs hf hN hi (.inr hx) he
end L2
namespace My
open PySem L2
theorem e8(a b:Int):decide (V.int a=V.int b)=decide (a=b):=by
 by_cases h:a=b;·subst h;simp
 ·rw [bp h];exact bp fun e=>h (V.int.inj e)
variable {K:aB}
theorem q0{T:String}:PySem.W.kitOne K (.type T) (.type T)=some true:=by unfold PySem.W.kitOne;rw [ae (beq_self_eq_true _)]
variable {H:Hp}
theorem a9{p:Addr}{o:HO}(h:H p=none):au H (upd H p o):=fun b u e=>by rw [bt (gf e h)];exact e
inductive Any (H:Hp):V→Prop where
 | aN:Any H .aN
 | bl (b:Bool):Any H (.bl b)
 | int (i:Int):Any H (.int i)
 | str (x:Str):Any H (.str x)
 | lst {a:Addr} {xs:List V} (e:H a=some (.lst xs)):Any H (.ref a)
 | tup {a:Addr} {xs:List V} (e:H a=some (.tup xs)):Any H (.ref a)
 | gC {a:Addr} (e:H a=some (vb a)):Any H (.ref a)
def hZ:V→Bool
 | .int _=>true
 | _=>false
def h_:V→Bool
 | .bl _=>true
 | _=>false
def oM(H:Hp):V→Bool
 | .ref a=>(match H a with | some (.tup _)=>true | _=>false)
 | _=>false
theorem Any.oF{v:V}(h:Any H v):∃T:String,mF K H v (.type T)∧PySem.W.kitOne K (.type T) (.type "int")=some (hZ v || h_ v)∧PySem.W.kitOne K (.type T) (.type "bool")=some (h_ v) ∧
  PySem.W.kitOne K (.type T) (.type "tuple")=some (oM H v):=by
 cases h with
 | aN=>exact ⟨"NoneType",.of .aN,rfl,rfl,rfl⟩
 | bl b=>exact ⟨"bool",.of (.bl b),rfl,rfl,rfl⟩
 | int i=>exact ⟨"int",.of (.int i),rfl,rfl,rfl⟩
 | str x=>exact ⟨"str",.of (.str x),rfl,rfl,rfl⟩
 | lst e=>exact ⟨"list",.of (.lst e),rfl,rfl,by unfold oM;dsimp only;rw [e];rfl⟩
 | tup e=>exact ⟨"tuple",.of (.tup e),rfl,rfl,by unfold oM;dsimp only;rw [e];rfl⟩
 | gC e=>exact ⟨"dict",.gC e,rfl,rfl,by unfold oM;dsimp only;rw [e];rfl⟩
theorem vg{v:V}(h:h_ v=true):hZ v=false:=by cases v <;> first | rfl | cases h
def vh:Sp:=fun vs H Q _=>∃v:V,vs=[v]∧Any H v∧Q (.bl (hZ v)) H
def oN(K:aB):Sp:=fun vs H Q _=>∃(a:Addr) (ns:List Int),vs=[.ref a]∧b7 K H a (ns.map V.int)∧ns.length≤63∧∀H',Q (.bl true) H'
end My
namespace L2
open PySem PySem.Spec PyProof.Rows
end L2
namespace My
open PySem L2
end My
namespace L2
open PySem PySem.Spec PyProof.Rows
section
variable {P:Program} {w:World} {K:aB} {mg:bQ} {base:Heap}
end
section
variable {X:Cx} {CX:dG} {k:Nat} {f C:Addr} {fd:FuncData} {ps:List Str} {y:Str} {sp:Sp} {E:XK} {m:Str} {pos apos uw:Pos} {e e' o:Expr} {ta:TE} {t tk:TA}
end
end L2
namespace My
open PySem L2
end My
namespace L2
open PySem PySem.Spec PyProof.Rows
section
variable {X:Cx}
theorem Au:bZ X (compareOp .IsNot) (fun x y H Q=>∃a b,x=.bl a∧y=.bl b∧Q (.bl (!(a == b))) H):=by intro pins s σ H x y v u Q I rx ry h;obtain ⟨a,b,rfl,rfl,q⟩:=h;cases rx;cases ry;exact aL (bL I q (by cases a <;> cases b <;> rfl))
end
end L2
namespace My
open PySem L2
section
variable {C N z:Addr} {q:Int} {v u:V} {t b t' b':Int} {H:Hp} {Q:VK} {E:XK}
end
end My
namespace L2
open PySem PySem.Spec PyProof.Rows
structure mM (J:It) (xs:List V) (H1:Hp):Prop where
 go:∀i Hc,au H1 Hc→i<xs.length→J.go i Hc
 da:∀i Hc x H',au H1 Hc→J.da i Hc x H'→H'=Hc∧(i<xs.length→xs[i]?=some x)
 stop:∀i Hc,au H1 Hc→xs.length≤i→J.stop i Hc
variable {H1:Hp}
theorem vi{lo:Int}{n:Nat}:mM (gm lo n) ((List.range n).map fun i:Nat=>V.int (lo+(i:Int))) H1 where
 go:=fun i Hc s hi=>by
  have hi:i<n:=by simpa using hi
  exact hi
 da:=fun i Hc x H' s y=>⟨y.1,fun hi=>by
  have hi:i<n:=by simpa using hi
  rw [y.2];simp [hi]⟩
 stop:=fun i Hc s hi=>by
  have hi:n≤i:=by simpa using hi
  exact hi
variable {H:Hp} {D:Addr}
theorem ic{H':Hp}{o:HO}(s:au H H')(n:H D=none):au H (upd H' D o):=fun b u e=>by rw [bt (gf e n)];exact s b u e
variable {xs:List V} {te:TE} {Q:VK}
theorem vj{J:It}{ρσ:St}(js:mM J xs H1)(nD:H1 D=none)(hn:xs.length<sizeLine)
  (P:Nat→V→Hp→Prop) (mono:∀i y H H' ys,P i y H→H D=some (.lst ys)→(∀b o,b≠D→H b=some o→H' b=some o)→P i y H')
  (step:∀i x,xs[i]?=some x→∀(Hc:Hp) (R:VK),au H1 Hc→(∃ys,Hc D=some (.lst ys))→(∀y H3,au Hc H3→P i y H3→R y H3)→te (some x::ρσ) Hc R)
  (fin:∀ys Hc,au H1 Hc→ys.length=xs.length→(∀i y,ys[i]?=some y→P i y Hc)→Hc D=some (.lst ys)→Q (.ref D) Hc) :
  ∃W:Nat→Nat→List V→Hp→Prop,(∃m,W 0 m [] (upd H1 D (.lst []))) ∧
   ∀i m ys Hc,W i m ys Hc→Hc D=some (.lst ys)∧((J.stop i Hc∧Q (.ref D) Hc)∨(J.go i Hc∧∀x H',J.da i Hc x H'→
    if true=true then te (some x::ρσ) H' fun y H3=>H3 D=some (.lst ys)∧ys.length<sizeLine∧∃m',m'<m∧W (i+1) m' (ys++[y]) (upd H3 D (.lst (ys++[y]))) else ∃m',m'<m∧W (i+1) m' ys H')):=by
 refine ⟨fun i m ys Hc=>m=xs.length-i∧i≤xs.length∧Hc D=some (.lst ys)∧au H1 Hc∧ys.length=i∧∀j y,ys[j]?=some y→P j y Hc,⟨_,rfl,cG _,aP,ic (au.refl H1) nD,rfl,fun j y e=>by simp at e⟩,?_⟩
 rintro i m ys Hc ⟨rfl,hi,eD,sH,el,hP⟩;refine ⟨eD,?_⟩;by_cases bT:i<xs.length
 ·refine .inr ⟨js.go i Hc sH bT,fun x H' hy=>?_⟩
  obtain ⟨rfl,hx⟩:=js.da i Hc x H' sH hy;rw [ae rfl];refine step i x (hx bT) _ _ sH ⟨ys,eD⟩ fun y H3 s3 hp=>?_;have e3:=s3 _ _ eD;refine ⟨e3,by omega,xs.length-(i+1),by omega,rfl,bT,aP,ic (sH.trans s3) nD,by simp [el],fun j y' e=>?_⟩
  have cW:∀b o,b≠D→H3 b=some o→upd H3 D (.lst (ys++[y])) b=some o:=fun b o nb e=>by rw [bt nb];exact e
  by_cases hj:j<i
  ·have e':ys[j]?=some y':=by rw [fW (by omega)] at e;exact e
   refine mono j y' H' _ ys (hP j y' e') eD fun b o nb e=>?_;exact cW b o nb (s3 _ _ e)
  ·have hj:j=i:=by have:=(cq.mp e).1;simp at this;omega
   subst hj;have e':y'=y:=by rw [fV (by omega),el,lW] at e;simpa using e.symm
   subst e';exact mono _ _ H3 _ ys hp e3 cW
 ·have e:i=xs.length:=by omega
  subst e;exact .inl ⟨js.stop _ Hc sH (aA _),fin ys Hc sH el hP eD⟩
variable {wi:TI} {ρ:St→St} {σ:St}
theorem Av(dr:∀R:It→Hp→Prop,(∀J H1,au H H1→mM J xs H1→R J H1)→wi σ H R)(hn:xs.length<sizeLine)
  (P:Addr→Nat→V→Hp→Prop) (mono:∀D i y H H' ys,P D i y H→H D=some (.lst ys)→(∀b o,b≠D→H b=some o→H' b=some o)→P D i y H')
  (step:∀D i x,xs[i]?=some x→∀(Hc:Hp) (R:VK),au H Hc→(∃ys,Hc D=some (.lst ys))→(∀y H3,au Hc H3→P D i y H3→R y H3)→te (some x::ρ σ) Hc R)
  (fin:∀D ys Hc,au H Hc→ys.length=xs.length→(∀i y,ys[i]?=some y→P D i y Hc)→Hc D=some (.lst ys)→Q (.ref D) Hc):fF wi ρ (fun _ H Q=>Q true H) te σ H Q:=by
 refine dr _ fun J H1 s1 js=>?_;intro D nD;exact vj (ρσ:=ρ σ) (te:=te) (Q:=Q) js nD hn (P D) (mono D) (fun i x hx Hc R sc=>step D i x hx Hc R (s1.trans sc)) (fun ys Hc sc=>fin D ys Hc (s1.trans sc))
theorem cm{g:TG}{D:Ends}(h:te σ H fun x H1=>g x σ H1 D.nx):jf te g D σ H:=h
theorem vk{a b:TS}{D:Ends}(h:a {D with nx:=fun σ H=>b D σ H} σ H):qv a b D σ H:=h
section
variable {X:Cx} {N:List Str} {scope:Scope} {cl:List (Str×Addr)} {x:Str} {px pos:Pos} {iter elt:Expr} {ifs:List Expr} {wi:TI} {ρ:St→St} {tt:TT} {te:TE}
theorem Aw{y:Str}{py vn:Pos}{i0:Nat}(B:qW X N scope cl x ρ)(hc:X.calm=true)(hN:X.N.Nodup)(Ax:X.N[i0]?=some y)(hy:Loc X.env.scope y)(hi:PI X (.Name x px) iter wi)(ht:∀s₃ H₃ fp,iO (X.a7 N scope cl s₃ H₃ fp) ifs tt)(he:∀s₃ H₃ fp,PE (X.a7 N scope cl s₃ H₃ fp) elt te)
  (Ay:swapsWith (.ListComp elt [⟨.Name x px,iter,ifs,0⟩] scope pos) (some (.Name y py)) vn.line X.env=pure true:=by rfl) (hf:X.fn y=true∨X.env.scope.names.lookup y=some .local:=by first | exact .inl rfl | exact .inr rfl | assumption)
  (hs:∀x,foldedSetIterable iter X.env x=pure x:=by intro _;rfl):PS X (.Assign [.Name y py] (.ListComp elt [⟨.Name x px,iter,ifs,0⟩] scope pos) vn) (jf (fF wi ρ tt te) (cT i0)):=by
 intro pins s σ H D0 I h
 have h:fF wi ρ tt te σ H (fun v H1=>D0.nx (σ.set i0 (some v)) H1):=h
 rw [exec_Assign_Name_used _ _ _ _ Ay]
 refine ak (lR (ak ?_))
 show wpAny _ X.A (do let _ ←comprehension (.ListComp elt [⟨.Name x px,iter,ifs,0⟩] scope pos) scope X.env _ (newList []) false (eval iter X.env) (some (assign (.Name y py) X.env))) _ _ s
 refine ak (bq (Q:=fun _ s'=>SP X pins D0 .next s') ?_ (fun _ s' hq=>aL (aL hq)) fun _ _ e=>e)
 refine qg (use:=some (assign (.Name y py) X.env)) rfl hs B.oG B.kind B.names (aE (hi pins s σ H _ I h) fun v s1 h1=>aE h1 fun mq s2 h2=>?_)
 obtain ⟨it,fp,tn,J,H2,rfl,I2,T,eF,f2,q2⟩:=h2
 have nD:H2 s2.heap.objs.size=none:=I2.ax.fresh (aA _)
 obtain ⟨W,⟨m0,w0⟩,turn⟩:=q2 _ nD
 refine fu (wpAny_newFunctionEnv B.oH (by intro y hy;simp at hy) (fun h₁ dY dZ=>?_) B.kind)
 dsimp only at dY dZ ⊢
 generalize hD:s2.heap.objs.size=D at nD w0 turn dY dZ ⊢
 generalize fG:({s2 with heap:=s2.heap.push {cls:=.type "list",dict:=none,data:=.seq ([]:List Value).toArray}}:Shared)=s3
 have I3:Inv X pins σ (upd H2 D (.lst [])) s3:=by
  subst hD fG
  exact I2.laid (t':=s2.toks) (fun b u e=>a_ _ e) (aA _) ⟨cG _,[],_,.nil,cu _ rfl⟩
 have e3:s3.heap=s2.heap.push {cls:=.type "list",dict:=none,data:=.seq ([]:List Value).toArray}:=by rw [←fG]
 have d4:∀b o,s2.heap.get? b=some o→s3.heap.get? b=some o:=fun b o e=>by rw [e3];exact a_ _ e
 rw [←e3] at dY dZ ⊢
 have below:∀b o,s3.heap.get? b=some o→b≠s3.heap.objs.size:=fun b o e=>b_ (aX e)
 have cK:∀b o,s3.heap.get? b=some o→h₁.get? b=some o:=fun b o e=>dZ.extBut b o (below b o e) (a_ _ e)
 have fH:∀b∈fp,∃o,s2.heap.get? b=some o∧∀v,o.data≠.cell v:=T.obj _ _ eF
 have mG:∀b∈fp,b≠D:=fun b hb z=>by
  obtain ⟨o,e,_⟩:=fH b hb
  rw [z,←hD] at e
  exact absurd (aX e) (ei _)
 have ck:∀y c,cl.lookup y=some c→X.env.cells.lookup y=some c:=fun y c e=>B.sub (y,c) (gP e)
 have mH:=I3.mf
 have gD:(X.a7 N scope cl s3 (upd H2 D (.lst [])) fp).Ok:=by
  refine ⟨I.ok.mod,B.kind,I.ok.glob,I.ok.blt,aA _,fun a b c e1 e2=>I.ok.inj a b c (ck a c e1) (ck b c e2),fun y hy=>B.has y hy,(fun _ _ z _=>absurd z bJ),(fun _=>I.ok.hd hc),I.ok.frames,.inl rfl,fun b hb=>⟨?_,fun y c e z=>?_⟩,fun b o e=>?_,cO I.ok.eV I3.sz,fun b o e hb=>?_,fun b hb z=>?_,I3.stack,mH⟩
  ·obtain ⟨o,e,_⟩:=fH b hb
   exact below b o (d4 b o e)
  ·exact (f2 b hb).2.2.2.2.1 y c (ck y c e) z
  ·exact I3.bs b o e
  ·rcases (f2 b hb).2.2.2.1 with z | z
   ·exact I.ok.i_ b o e z
   ·exact absurd (cY (aX e) (cO I.ok.eV z)) (ei _)
  ·rcases cp.mp (I3.me b z) with z | z
   ·exact (f2 b hb).2.1 z
   ·exact (f2 b hb).2.2.1 z
 have IB:∀tk:Nat,Inv (X.a7 N scope cl s3 (upd H2 D (.lst [])) fp) [] (none::ρ σ) (upd H2 D (.lst [])) {s3 with heap:=h₁,toks:=tk}:=fun tk=>by
  refine ⟨gD,rfl,I3.bare,Un.kept cK,⟨_,dY,fun j y v e1 e2 e3=>?_⟩,fun y c e=>?_,?_,fun y c e=>I3.eW y c (ck y c e),(fun p hp=>nomatch hp),I3.ax.kept cK,?_⟩
  ·cases j with
   | zero=>cases e2
   | succ j=>
    obtain ⟨i,y',a1,a2,a3,a4,a5,a6⟩:=B.oI σ j v e2
    have jv:N[j+1]?=some y:=e1
    rw [jv] at a1
    cases a1
    obtain ⟨m,hn,hl⟩:=I3.loc
    obtain ⟨u,r,l⟩:=hl i y v a2 a3 a4
    refine ⟨u,r,.inr ⟨a6,?_⟩⟩
    obtain ⟨c,ec⟩:=B.has y a6
    rcases l with ⟨k,_⟩ | ⟨_,c',iP,z⟩
    ·rcases a5 with q | q <;> (rw [k] at q;cases q)
    ·have:=ck y c ec
     rw [this] at iP
     cases iP
     obtain ⟨o,ho,hd⟩:=z
     exact ⟨c,ec,o,cK _ _ ho,hd⟩
  ·obtain ⟨v,o,ho,hd⟩:=I3.cell y c (ck y c e)
   exact ⟨v,o,cK _ _ ho,hd⟩
  ·exact I3.ax.fresh (aA _)
  ·show (none::ρ σ).length=N.length
   rw [dm]
   exact B.len σ I.len
 have q5:∀b o,s3.heap.get? b=some o→b≠s3.heap.objs.size:=below
 have fin:∀{σ':St} {H':Hp} {s':Shared},Inv (X.a7 N scope cl s3 (upd H2 D (.lst [])) fp) [] σ' H' s'→D0.nx (σ.set i0 (some (.ref D))) H'→compPost (model X.prog X.w) X.A X.xe (some (assign (.Name y py) X.env)) (fun _ s'=>SP X pins D0 .next s') (.ref D) s3.heap.objs.size (.ok .next) s':=fun{σ' H' s'} J q=>by
  obtain ⟨m,hn,_⟩:=J.loc
  have hn:s'.heap.Ns s3.heap.objs.size m:=hn
  have JC:H' s3.heap.objs.size=none:=J.free
  have u1:Un (bK X.stack) fp (upd H2 D (.lst [])) H' s3.heap s'.heap:=by
   refine ⟨fun b o e n hb hx=>J.base.keep b o e n hb hx,fun b o e n hb hx=>J.base.slot b o e n hb hx,J.base.free,fun b o e hx=>J.base.there b o e hx,J.base.eB,J.base.dR,J.base.eC⟩
  have IX:Inv X pins σ H' s':=I3.iF (ch:=fp) (J.os) u1 J.ax J.bare fun b hb=>by
   obtain ⟨g0,g1,g2,g3,g4,g5⟩:=f2 b hb
   exact ⟨g3,g1,g4,g5⟩
  have nl:X.env.locals≠s3.heap.objs.size:=by
   obtain ⟨m3,⟨o3,_,_,e3,_⟩,_⟩:=I3.loc
   exact q5 _ _ e3
  have nc:∀z c,X.env.cells.lookup z=some c→c≠s3.heap.objs.size:=fun z c e=>by
   obtain ⟨v3,o3,e3,_⟩:=I3.cell z c e
   exact q5 _ _ e3
  refine wpAny_assign_Name (tK (v:=.ref D) IX hN Ax hy rfl (fun gv q8 q_=>?_) hf)
  obtain ⟨a,q_,ha⟩:=q_
  have na:s3.heap.objs.size≠a:=by
   rcases ha with rfl | e
   ·exact fun z=>nl z.symm
   ·exact fun z=>nc _ _ e z.symm
  refine ⟨m,hn.sameBut q_ na,fun h' d5=>⟨σ.set i0 (some (.ref D)),H',?_,q⟩⟩
  have u2:Un (bK X.stack) [s3.heap.objs.size] H' H' gv.heap h':=by
   refine ⟨fun b o e n hb hx=>(d5.2 b (by simpa using hx)).trans e,fun b o e n hb hx=>⟨o.slots,(d5.2 b (by simpa using hx)).trans e⟩,fun b o e n hx=>n,fun b o e hx=>⟨o,(d5.2 b (by simpa using hx)).trans e⟩,fun b xs z=>z,fun b o u z=>z,fun b ps z=>⟨#[],by simpa using z⟩⟩
  have mI:bG X.prog X.w H' h':=fun b u e=>by
   refine (q8.ax b u e).eA (fun c v hc z=>(d5.2 c fun y=>?_).trans z) (fun _ z=>z) fun _ _ z=>z
   have y':c=s3.heap.objs.size:=y
   rcases hc with hc | hc
   ·rw [←hc,y',JC] at e
    cases e
   ·rw [y',JC] at hc
    cases hc
  refine q8.iF (s':={gv with heap:=h'}) (ch:=[s3.heap.objs.size]) rfl u2 mI q8.bare fun b hb=>?_
  have eb:b=s3.heap.objs.size:=by simpa using hb
  subst eb
  refine ⟨.inr I3.sz,fun z=>nl z.symm,fun z c e=>nc z c e,fun p hp=>?_⟩
  exact q5 _ _ (I3.pin p hp).1
 have dD:∀{H':Hp},(∀b∈fp,H' b=none)→∀b∈fp,g8 (X.a7 N scope cl s3 (upd H2 D (.lst [])) fp) [] H' b:=fun hn b hb=>by
  refine ⟨hn b hb,?_,?_,.inl hb,fun y c e z=>(f2 b hb).2.2.2.2.1 y c (ck y c e) z,fun p hp=>nomatch hp⟩
  ·obtain ⟨o,e,_⟩:=fH b hb
   exact below b o (d4 b o e)
  ·exact gD.ja b hb
 have loop:∀tk:Nat,codeAny (model X.prog X.w) X.A (.compLoop (.ListComp elt [⟨.Name x px,iter,ifs,0⟩] scope pos) 0 (.ref it) (.ref D) (compEnvC scope cl s3.heap.objs.size X.env))
   (compPost (model X.prog X.w) X.A X.xe (some (assign (.Name y py) X.env)) (fun _ s'=>SP X pins D0 .next s') (.ref D) s3.heap.objs.size) {s3 with heap:=h₁,toks:=tk}:=fun tk=>by
  refine codeAny_compLoop_tests (fun n s'=>∃i ys o H',Inv (X.a7 N scope cl s3 (upd H2 D (.lst [])) fp) [] (o::ρ σ) H' s'∧tn i s'.heap∧(∀b∈fp,H' b=none)∧W i n ys H') ?_ m0
   ⟨0,[],none,_,IB tk,T.keep _ _ _ eF fun b hb o e=>cK _ _ (d4 _ _ e),fun b hb=>by rw [bt (mG b hb)];exact (f2 b hb).1,w0⟩
  rintro n s4 ⟨i,ys,o,H4,I4,iQ,iR,w4⟩
  obtain ⟨ve,mJ⟩:=turn i n ys H4 w4
  rcases mJ with ⟨stop,qn⟩ | ⟨go,step⟩
  ·refine bq (T.done (X.a7 N scope cl s3 (upd H2 D (.lst [])) fp) rfl rfl rfl hc i [] s4 _ H4 (fun _ _=>False) I4 (dD iR) iQ stop) (fun r s5 ⟨hr,I5⟩=>?_) fun _ _ z=>z.elim
   subst hr
   exact fin I5 qn
  ·refine bq (T.item (X.a7 N scope cl s3 (upd H2 D (.lst [])) fp) rfl rfl rfl hc i [] s4 _ H4 (fun _ _=>False) I4 (dD iR) iQ go) (fun r s5 ⟨u,hr,h5⟩=>?_) fun _ _ z=>z.elim
   subst hr
   have z:letOwnedTupleGo (.Name x px) (.ref it) u=pure ():=rfl
   rw [z] at h5
   show wpAny _ _ ((pure ():Sem Unit) >>= fun _=>assign (.Name x px) (compEnvC scope cl s3.heap.objs.size X.env) u) _ _ s5
   refine ak (bq h5 (fun _ s5 ⟨y,H5,I5,r5,y5,dE,ji⟩=>?_) fun _ _ z=>z.elim)
   have jj:=I5.pinned (dD ji) (T.obj _ _ dE)
   have pg:PG (X.a7 N scope cl s3 (upd H2 D (.lst [])) fp) (.Name x px) (cT 0):=fC (i:=0) B.nd B.n0 (.inl (iA B.hx)) (.inr (iA B.hx))
   have again:∀{σ7:St} {H7:Hp} {s7:Shared},Inv (X.a7 N scope cl s3 (upd H2 D (.lst [])) fp) ([]++gq fp s5.heap) σ7 H7 s7→Inv (X.a7 N scope cl s3 (upd H2 D (.lst [])) fp) [] σ7 H7 s7∧tn (i+1) s7.heap∧∀b∈fp,H7 b=none:=fun{σ7 H7 s7} I7=>by
    refine ⟨I7.kn,T.keep _ _ _ dE fun b hb o e=>(I7.pin (b,o) (cP _ (cP _ (iH hb e)))).1,fun b hb=>?_⟩
    obtain ⟨o,e,d⟩:=T.obj _ _ dE b hb
    exact (I7.pin (b,o) (cP _ (cP _ (iH hb e)))).2.1
   refine bq (pg _ s5 _ H5 y u (fun σ2 H6=>σ2=some y::ρ σ∧H6=H5) jj r5 ⟨rfl,rfl⟩) (fun _ s6 ⟨σ6,H6,I6,q6⟩=>?_) fun _ _ z=>z.elim
   obtain ⟨rfl,rfl⟩:=q6
   have mK:=step y _ y5
   have tests:∀{fI:TT},iO (X.a7 N scope cl s3 (upd H2 D (.lst [])) fp) ifs fI→∀{R:Bool→Hp→Prop},fI (some y::ρ σ) H6 R→wpAny (model X.prog X.w) X.A
     (forIn ifs true fun c r=>if r=true then do let ok ←isTrue c (compEnvC scope cl s3.heap.objs.size X.env) (eval c (compEnvC scope cl s3.heap.objs.size X.env));pure (ForInStep.yield ok) else pure (ForInStep.yield r))
     (fun ok s7=>∃H7,Inv (X.a7 N scope cl s3 (upd H2 D (.lst [])) fp) ([]++gq fp s5.heap) (some y::ρ σ) H7 s7∧R ok H7) (fun _ _=>False) s6:=fun{fI} p {R} hR=>by
    cases p with
    | nil=>exact wpAny_tests_nil ⟨_,I6,hR⟩
    | one p=>exact wpAny_tests_one (p _ s6 _ _ _ I6 hR)
   refine bq (tests (ht s3 _ fp) mK) (fun ok s7 ⟨H7,I7,q7⟩=>?_) fun _ _ z=>z.elim
   cases ok with
   | false=>
    obtain ⟨m',fJ,w7⟩:=q7
    obtain ⟨a1,a2,a3⟩:=again I7
    exact ⟨m',fJ,i+1,ys,_,H7,a1,a2,a3,w7⟩
   | true=>
    refine bq (he s3 _ fp _ s7 _ H7 _ I7 q7) (fun ev s8 ⟨z,H8,I8,r8,mL,hz,m',fJ,w8⟩=>?_) fun _ _ z=>z.elim
    refine bq (oz (X:=X.a7 N scope cl s3 (upd H2 D (.lst [])) fp) _ s8 _ H8 (.ref D) [z] (.ref D) [ev] (fun _ H9=>H9=upd H8 D (.lst (ys++[z]))) I8 rfl (.cons r8 .nil) ⟨D,ys,z,rfl,rfl,mL,hz,rfl⟩) (fun _ s9 ⟨_,H9,I9,_,q9⟩=>?_) fun _ _ z=>z.elim
    subst q9
    obtain ⟨a1,a2,a3⟩:=again I9
    exact ⟨m',fJ,i+1,ys++[z],_,_,a1,a2,a3,w8⟩
 have start:=loop (s3.toks+([]:List (Str×Value)).length)
 have es:({s3 with heap:=h₁,toks:=s3.toks+([]:List (Str×Value)).length}:Shared)={s2 with heap:=h₁,toks:=s2.toks+([]:List (Str×Value)).length}:=by rw [←fG]
 rw [es] at start
 exact qh start (T.self _ 0 _ _ _ (T.keep _ _ _ eF fun b hb o e=>cK _ _ (d4 _ _ e)) start)
end
theorem boot_zip:bootBuiltins "zip"=some (.type "zip"):=by decide +kernel
section
variable {X:Cx}
end
section
variable {prog:Program} {w:World} {A:Around} {R:Result→Shared→Prop} {s:Shared}
theorem Az{elt target iter:Expr}{ifs:List Expr}{scope:Scope}{pos:Pos}{it acc:Value}{env:Env}(I:Nat→Shared→Prop)
  (turn:∀n s,I n s→wpAny (model prog w) A (pyNext it) (fun r s₁=>match r with
   | none=>R (.ok .next) s₁
   | some v=>wpAny (model prog w) A (letOwnedTupleGo target it v) (fun _ s₁=>wpAny (model prog w) A (assign target env v) (fun _ s₂=>
     wpAny (model prog w) A (forIn ifs true fun c r=>if r=true then do let ok ←isTrue c env (eval c env);pure (ForInStep.yield ok) else pure (ForInStep.yield r)) (fun ok s₃=>
      if ok=true then wpAny (model prog w) A (eval elt env) (fun x s₄=>
       wpAny (model prog w) A (call (.builtin "list.append") [acc,x]) (fun _ s₅=>∃m,m<n∧I m s₅) (notedBy (model prog w) A env fun e s'=>R (.error e) s') s₄) (notedBy (model prog w) A env fun e s'=>R (.error e) s') s₃
      else ∃m,m<n∧I m s₃) (notedBy (model prog w) A env fun e s'=>R (.error e) s') s₂) (notedBy (model prog w) A env fun e s'=>R (.error e) s') s₁) (notedBy (model prog w) A env fun e s'=>R (.error e) s') s₁) (notedBy (model prog w) A env fun e s'=>R (.error e) s') s)
  (n:Nat) (h:I n s):codeAny (model prog w) A (.compLoop (.ListComp elt [⟨target,iter,ifs,0⟩] scope pos) 0 it acc env) R s:=by
 refine codeAny_loop rfl I (fun n s hI=>?_) n h
 show wpAny _ A ((compTurn (.ListComp elt [⟨target,iter,ifs,0⟩] scope pos) 0 it acc env).onRaise (fun x=>do noteFrame x env;theTreesLotGoes x)) _ _ s
 refine wpAny_noted ?_
 rw [compTurn_list]
 refine ak (lR (ak (bq (turn n s hI) (fun r s₁ h₁=>?_) fun _ _ h'=>h')))
 cases r with
 | none=>exact aL h₁
 | some v=>
  refine ak (bq h₁ (fun _ s₁ h₁=>?_) fun _ _ h'=>h')
  refine ak (bq h₁ (fun _ s₂ h₂=>ak (bq h₂ (fun ok s₃ h₃=>?_) fun _ _ h'=>h')) fun _ _ h'=>h')
  cases ok with
  | false=>exact aL ⟨rfl,h₃⟩
  | true=>
   exact ak (ak (bq h₃ (fun x s₄ h₄=>ak (bq h₄ (fun _ s₅ h₅=>aL (aL ⟨rfl,h₅⟩)) fun _ _ h'=>h')) fun _ _ h'=>h'))
end
def vp(K:aB)(wi:TI)(ρ:St→St)(tt:TT)(te:TE):TE:=fun σ H Q=>wi σ H fun J H1=>∀D,H1 D=none→∃W:Nat→Nat→List V→Hp→Prop,(∃m,W 0 m [] (upd H1 D (.lst []))) ∧
 ∀i m ys Hc,W i m ys Hc→Hc D=some (.lst ys)∧((J.stop i Hc∧Q (.ref D) Hc)∨(J.go i Hc∧∀v H',J.da i Hc v H'→∃T x1 x2,v=.ref T∧bE K H' T [x1,x2]∧tt (some x1::some x2::ρ σ) H' fun b H2=>
  if b=true then te (some x1::some x2::ρ σ) H2 fun y H3=>H3 D=some (.lst ys)∧ys.length<sizeLine∧∃m',m'<m∧W (i+1) m' (ys++[y]) (upd H3 D (.lst (ys++[y]))) else ∃m',m'<m∧W (i+1) m' ys H2))
section
variable {X:Cx} {N:List Str} {scope:Scope} {cl:List (Str×Addr)} {x y:Str} {px py pos tp:Pos} {mO:Nat} {iter elt:Expr} {ifs:List Expr} {wi:TI} {ρ:St→St} {tt:TT} {te:TE}
structure vt (X:Cx) (N:List Str) (scope:Scope) (cl:List (Str×Addr)) (x y:Str) (ρ:St→St):Prop where
 oG:closureFor scope X.env=pure cl
 kind:scope.kind=.function
 oH:∀y∈scope.names,y.2≠.cell
 names:∀y∈scope.names,y.2=.local→scope.names.lookup y.1=some .local
 sub:∀p∈cl,X.env.cells.lookup p.1=some p.2
 has:∀y,((relabel scope X.env).names.lookup y=some .cell∨(relabel scope X.env).names.lookup y=some .free)→∃c,cl.lookup y=some c
 n0:N[0]?=some x
 n1:N[1]?=some y
 nd:N.Nodup
 hx:scope.names.lookup x=some .local
 hy:scope.names.lookup y=some .local
 oI:∀(σ:St) (j:Nat) (v:V),(ρ σ)[j]?=some (some v)→∃(i:Nat) (y:Str),N[j+1+1]?=some y∧X.N[i]?=some y∧σ[i]?=some (some v)∧i9 X.env.scope y∧(X.env.kindOf y=some .cell∨X.env.kindOf y=some .free)∧((relabel scope X.env).names.lookup y=some .cell∨(relabel scope X.env).names.lookup y=some .free)
 len:∀σ:St,σ.length=X.N.length→(ρ σ).length+1+1=N.length
theorem vv(is:List Nat)(h1:closureFor scope X.env=pure cl)(h:oJ X scope N.tail.tail is:=by repeat' first | exact True.intro | refine And.intro ⟨rfl,Or.inr (Or.inl rfl),.inl rfl,.inl rfl⟩ ?_)(h2:scope.kind=.function:=by rfl)(h3:∀y∈scope.names,y.2≠.cell:=by decide +kernel)(h4:∀y∈scope.names,y.2=.local→scope.names.lookup y.1=some .local:=by decide +kernel)(h5:∀p∈cl,X.env.cells.lookup p.1=some p.2:=by repeat' first | exact List.forall_mem_nil _ | refine List.forall_mem_cons.mpr ⟨rfl,?_⟩)(h6:((relabel scope X.env).names.all fun q=>(q.2 != .cell && q.2 != .free) || (cl.lookup q.1).isSome)=true:=by rfl)(h7:N[0]?=some x:=by rfl)(AA:N[1]?=some y:=by rfl)(h8:N.Nodup:=by decide +kernel)(h9:scope.names.lookup x=some .local:=by rfl)(AB:scope.names.lookup y=some .local:=by rfl)(hr:∀σ:St,ρ σ=is.map fun i=>σ[i]?.join:=by exact fun _=>rfl)(hl:is.length+1+1=N.length:=by rfl):vt X N scope cl x y ρ:=
 ⟨h1,h2,h3,h4,h5,vd h6,h7,AA,h8,h9,AB,fun σ j v e=>by rw [hr] at e;rw [←List.getElem?_tail,←List.getElem?_tail];exact qX h σ j v e,fun σ _=>by rw [hr,b8];exact hl⟩
theorem vw(B:vt X N scope cl x y ρ)(hc:X.calm=true)(hi:PI X (.Tuple [.Name x px,.Name y py] mO tp) iter wi)(ht:∀s₃ H₃ fp,iO (X.a7 N scope cl s₃ H₃ fp) ifs tt)(he:∀s₃ H₃ fp,PE (X.a7 N scope cl s₃ H₃ fp) elt te)
  (hs:∀x,foldedSetIterable iter X.env x=pure x:=by intro _;rfl):PE X (.ListComp elt [⟨.Tuple [.Name x px,.Name y py] mO tp,iter,ifs,0⟩] scope pos) (vp X.K wi ρ tt te):=by
 intro pins s σ H Q I h
 rw [eval_ListComp]
 refine qg (use:=none) rfl hs B.oG B.kind B.names (aE (hi pins s σ H _ I h) fun v s1 h1=>aE h1 fun mq s2 h2=>?_)
 obtain ⟨it,fp,tn,J,H2,rfl,I2,T,eF,f2,q2⟩:=h2
 have nD:H2 s2.heap.objs.size=none:=I2.ax.fresh (aA _)
 obtain ⟨W,⟨m0,w0⟩,turn⟩:=q2 _ nD
 refine fu (wpAny_newFunctionEnv B.oH (by intro y hy;simp at hy) (fun h₁ dY dZ=>?_) B.kind)
 dsimp only at dY dZ ⊢
 generalize hD:s2.heap.objs.size=D at nD w0 turn dY dZ ⊢
 generalize fG:({s2 with heap:=s2.heap.push {cls:=.type "list",dict:=none,data:=.seq ([]:List Value).toArray}}:Shared)=s3
 have I3:Inv X pins σ (upd H2 D (.lst [])) s3:=by
  subst hD fG
  exact I2.laid (t':=s2.toks) (fun b u e=>a_ _ e) (aA _) ⟨cG _,[],_,.nil,cu _ rfl⟩
 have e3:s3.heap=s2.heap.push {cls:=.type "list",dict:=none,data:=.seq ([]:List Value).toArray}:=by rw [←fG]
 have d4:∀b o,s2.heap.get? b=some o→s3.heap.get? b=some o:=fun b o e=>by rw [e3];exact a_ _ e
 rw [←e3] at dY dZ ⊢
 have below:∀b o,s3.heap.get? b=some o→b≠s3.heap.objs.size:=fun b o e=>b_ (aX e)
 have cK:∀b o,s3.heap.get? b=some o→h₁.get? b=some o:=fun b o e=>dZ.extBut b o (below b o e) (a_ _ e)
 have fH:∀b∈fp,∃o,s2.heap.get? b=some o∧∀v,o.data≠.cell v:=T.obj _ _ eF
 have mG:∀b∈fp,b≠D:=fun b hb z=>by
  obtain ⟨o,e,_⟩:=fH b hb
  rw [z,←hD] at e
  exact absurd (aX e) (ei _)
 have ck:∀y c,cl.lookup y=some c→X.env.cells.lookup y=some c:=fun y c e=>B.sub (y,c) (gP e)
 have mH:=I3.mf
 have gD:(X.a7 N scope cl s3 (upd H2 D (.lst [])) fp).Ok:=by
  refine ⟨I.ok.mod,B.kind,I.ok.glob,I.ok.blt,aA _,fun a b c e1 e2=>I.ok.inj a b c (ck a c e1) (ck b c e2),fun y hy=>B.has y hy,(fun _ _ z _=>absurd z bJ),(fun _=>I.ok.hd hc),I.ok.frames,.inl rfl,fun b hb=>⟨?_,fun y c e z=>?_⟩,fun b o e=>?_,cO I.ok.eV I3.sz,fun b o e hb=>?_,fun b hb z=>?_,I3.stack,mH⟩
  ·obtain ⟨o,e,_⟩:=fH b hb
   exact below b o (d4 b o e)
  ·exact (f2 b hb).2.2.2.2.1 y c (ck y c e) z
  ·exact I3.bs b o e
  ·rcases (f2 b hb).2.2.2.1 with z | z
   ·exact I.ok.i_ b o e z
   ·exact absurd (cY (aX e) (cO I.ok.eV z)) (ei _)
  ·rcases cp.mp (I3.me b z) with z | z
   ·exact (f2 b hb).2.1 z
   ·exact (f2 b hb).2.2.1 z
 have IB:∀tk:Nat,Inv (X.a7 N scope cl s3 (upd H2 D (.lst [])) fp) [] (none::none::ρ σ) (upd H2 D (.lst [])) {s3 with heap:=h₁,toks:=tk}:=fun tk=>by
  refine ⟨gD,rfl,I3.bare,Un.kept cK,⟨_,dY,fun j y v e1 e2 e3=>?_⟩,fun y c e=>?_,?_,fun y c e=>I3.eW y c (ck y c e),(fun p hp=>nomatch hp),I3.ax.kept cK,?_⟩
  ·cases j with
   | zero=>cases e2
   | succ j=>
   cases j with
   | zero=>cases e2
   | succ j=>
    obtain ⟨i,y',a1,a2,a3,a4,a5,a6⟩:=B.oI σ j v e2
    have jv:N[j+1+1]?=some y:=e1
    rw [jv] at a1
    cases a1
    obtain ⟨m,hn,hl⟩:=I3.loc
    obtain ⟨u,r,l⟩:=hl i y v a2 a3 a4
    refine ⟨u,r,.inr ⟨a6,?_⟩⟩
    obtain ⟨c,ec⟩:=B.has y a6
    rcases l with ⟨k,_⟩ | ⟨_,c',iP,z⟩
    ·rcases a5 with q | q <;> (rw [k] at q;cases q)
    ·have:=ck y c ec
     rw [this] at iP
     cases iP
     obtain ⟨o,ho,hd⟩:=z
     exact ⟨c,ec,o,cK _ _ ho,hd⟩
  ·obtain ⟨v,o,ho,hd⟩:=I3.cell y c (ck y c e)
   exact ⟨v,o,cK _ _ ho,hd⟩
  ·exact I3.ax.fresh (aA _)
  ·show (none::none::ρ σ).length=N.length
   rw [dm,dm]
   exact B.len σ I.len
 have fin:∀{σ':St} {H':Hp} {s':Shared},Inv (X.a7 N scope cl s3 (upd H2 D (.lst [])) fp) [] σ' H' s'→Q (.ref D) H'→compPost (model X.prog X.w) X.A X.xe none (EP X pins σ Q) (.ref D) s3.heap.objs.size (.ok .next) s':=fun{σ' H' s'} J q=>by
  obtain ⟨m,hn,_⟩:=J.loc
  refine ⟨m,hn,fun h' d5=>⟨.ref D,H',?_,rfl,q⟩⟩
  have old:∀b o,s3.heap.get? b=some o→b≠s3.heap.objs.size:=below
  have u1:Un (bK X.stack) fp (upd H2 D (.lst [])) H' s3.heap h':=by
   refine ⟨fun b o e n hb hx=>?_,fun b o e n hb hx=>?_,J.base.free,fun b o e hx=>?_,J.base.eB,J.base.dR,J.base.eC⟩
   ·exact (d5.2 b (old b o e)).trans (J.base.keep b o e n hb hx)
   ·obtain ⟨sl,z⟩:=J.base.slot b o e n hb hx
    exact ⟨sl,(d5.2 b (old b o e)).trans z⟩
   ·obtain ⟨o',z⟩:=J.base.there b o e hx
    exact ⟨o',(d5.2 b (old b o e)).trans z⟩
  have mI:bG X.prog X.w H' h':=fun b u e=>by
   refine (J.ax b u e).eA (fun c v hc z=>(d5.2 c fun y=>?_).trans z) (fun _ z=>z) fun _ _ z=>z
   have fr:=J.free
   have y':c=s3.heap.objs.size:=y
   rcases hc with hc | hc
   ·rw [←hc,y'] at e
    exact absurd (fr.symm.trans e) (by simp)
   ·rw [y'] at hc
    exact absurd (fr.symm.trans hc) (by simp)
  refine I3.iF (s':={s' with heap:=h'}) (ch:=fp) (J.os) u1 mI J.bare fun b hb=>?_
  obtain ⟨g0,g1,g2,g3,g4,g5⟩:=f2 b hb
  exact ⟨g3,g1,g4,g5⟩
 have dD:∀{H':Hp},(∀b∈fp,H' b=none)→∀b∈fp,g8 (X.a7 N scope cl s3 (upd H2 D (.lst [])) fp) [] H' b:=fun hn b hb=>by
  refine ⟨hn b hb,?_,?_,.inl hb,fun y c e z=>(f2 b hb).2.2.2.2.1 y c (ck y c e) z,fun p hp=>nomatch hp⟩
  ·obtain ⟨o,e,_⟩:=fH b hb
   exact below b o (d4 b o e)
  ·exact gD.ja b hb
 have loop:∀tk:Nat,codeAny (model X.prog X.w) X.A (.compLoop (.ListComp elt [⟨.Tuple [.Name x px,.Name y py] mO tp,iter,ifs,0⟩] scope pos) 0 (.ref it) (.ref D) (compEnvC scope cl s3.heap.objs.size X.env))
   (compPost (model X.prog X.w) X.A X.xe none (EP X pins σ Q) (.ref D) s3.heap.objs.size) {s3 with heap:=h₁,toks:=tk}:=fun tk=>by
  refine Az (fun n s'=>∃i ys o o2 H',Inv (X.a7 N scope cl s3 (upd H2 D (.lst [])) fp) [] (o::o2::ρ σ) H' s'∧tn i s'.heap∧(∀b∈fp,H' b=none)∧W i n ys H') ?_ m0
   ⟨0,[],none,none,_,IB tk,T.keep _ _ _ eF fun b hb o e=>cK _ _ (d4 _ _ e),fun b hb=>by rw [bt (mG b hb)];exact (f2 b hb).1,w0⟩
  rintro n s4 ⟨i,ys,o,o2,H4,I4,iQ,iR,w4⟩
  obtain ⟨ve,mJ⟩:=turn i n ys H4 w4
  rcases mJ with ⟨stop,qn⟩ | ⟨go,step⟩
  ·refine bq (T.done (X.a7 N scope cl s3 (upd H2 D (.lst [])) fp) rfl rfl rfl hc i [] s4 _ H4 (fun _ _=>False) I4 (dD iR) iQ stop) (fun r s5 ⟨hr,I5⟩=>?_) fun _ _ z=>z.elim
   subst hr
   exact fin I5 qn
  ·refine bq (T.item (X.a7 N scope cl s3 (upd H2 D (.lst [])) fp) rfl rfl rfl hc i [] s4 _ H4 (fun _ _=>False) I4 (dD iR) iQ go) (fun r s5 ⟨u,hr,h5⟩=>?_) fun _ _ z=>z.elim
   subst hr
   refine bq h5 (fun _ s5 ⟨y0,H5,I5,r5,y5,dE,ji⟩=>?_) fun _ _ z=>z.elim
   obtain ⟨Tt,x1,x2,e0,AD,mK⟩:=step y0 _ y5
   subst e0
   have jj:=I5.pinned (dD ji) (T.obj _ _ dE)
   have pg:PG (X.a7 N scope cl s3 (upd H2 D (.lst [])) fp) (.Tuple [.Name x px,.Name y py] mO tp) (tZ X.K 2 (qx (cT 0) (qx (cT 1) tX))):=
    x4 (X:=X.a7 N scope cl s3 (upd H2 D (.lst [])) fp) hc (tY (fC (i:=0) B.nd B.n0 (.inl (iA B.hx)) (.inr (iA B.hx))) (tY (fC (i:=1) B.nd B.n1 (.inl (iA B.hy)) (.inr (iA B.hy))) xZ))
   have again:∀{σ7:St} {H7:Hp} {s7:Shared},Inv (X.a7 N scope cl s3 (upd H2 D (.lst [])) fp) ([]++gq fp s5.heap) σ7 H7 s7→Inv (X.a7 N scope cl s3 (upd H2 D (.lst [])) fp) [] σ7 H7 s7∧tn (i+1) s7.heap∧∀b∈fp,H7 b=none:=fun{σ7 H7 s7} I7=>by
    refine ⟨I7.kn,T.keep _ _ _ dE fun b hb o e=>(I7.pin (b,o) (cP _ (cP _ (iH hb e)))).1,fun b hb=>?_⟩
    obtain ⟨o,e,d⟩:=T.obj _ _ dE b hb
    exact (I7.pin (b,o) (cP _ (cP _ (iH hb e)))).2.1
   refine bq (pg _ s5 _ H5 (.ref Tt) u (fun σ2 H6=>σ2=some x1::some x2::ρ σ∧H6=H5) jj r5 ⟨Tt,_,rfl,AD,rfl,_,_,rfl,_,_,rfl,rfl,rfl,rfl⟩) (fun _ s6 ⟨σ6,H6,I6,q6⟩=>?_) fun _ _ z=>z.elim
   obtain ⟨rfl,rfl⟩:=q6
   have tests:∀{fI:TT},iO (X.a7 N scope cl s3 (upd H2 D (.lst [])) fp) ifs fI→∀{R:Bool→Hp→Prop},fI (some x1::some x2::ρ σ) H6 R→wpAny (model X.prog X.w) X.A
     (forIn ifs true fun c r=>if r=true then do let ok ←isTrue c (compEnvC scope cl s3.heap.objs.size X.env) (eval c (compEnvC scope cl s3.heap.objs.size X.env));pure (ForInStep.yield ok) else pure (ForInStep.yield r))
     (fun ok s7=>∃H7,Inv (X.a7 N scope cl s3 (upd H2 D (.lst [])) fp) ([]++gq fp s5.heap) (some x1::some x2::ρ σ) H7 s7∧R ok H7) (fun _ _=>False) s6:=fun{fI} p {R} hR=>by
    cases p with
    | nil=>exact wpAny_tests_nil ⟨_,I6,hR⟩
    | one p=>exact wpAny_tests_one (p _ s6 _ _ _ I6 hR)
   refine bq (tests (ht s3 _ fp) mK) (fun ok s7 ⟨H7,I7,q7⟩=>?_) fun _ _ z=>z.elim
   cases ok with
   | false=>
    obtain ⟨m',fJ,w7⟩:=q7
    obtain ⟨a1,a2,a3⟩:=again I7
    exact ⟨m',fJ,i+1,ys,_,_,H7,a1,a2,a3,w7⟩
   | true=>
    refine bq (he s3 _ fp _ s7 _ H7 _ I7 q7) (fun ev s8 ⟨z,H8,I8,r8,mL,hz,m',fJ,w8⟩=>?_) fun _ _ z=>z.elim
    refine bq (oz (X:=X.a7 N scope cl s3 (upd H2 D (.lst [])) fp) _ s8 _ H8 (.ref D) [z] (.ref D) [ev] (fun _ H9=>H9=upd H8 D (.lst (ys++[z]))) I8 rfl (.cons r8 .nil) ⟨D,ys,z,rfl,rfl,mL,hz,rfl⟩) (fun _ s9 ⟨_,H9,I9,_,q9⟩=>?_) fun _ _ z=>z.elim
    subst q9
    obtain ⟨a1,a2,a3⟩:=again I9
    exact ⟨m',fJ,i+1,ys++[z],_,_,_,a1,a2,a3,w8⟩
 have start:=loop (s3.toks+([]:List (Str×Value)).length)
 have es:({s3 with heap:=h₁,toks:=s3.toks+([]:List (Str×Value)).length}:Shared)={s2 with heap:=h₁,toks:=s2.toks+([]:List (Str×Value)).length}:=by rw [←fG]
 rw [es] at start
 exact qh start (T.self _ 0 _ _ _ (T.keep _ _ _ eF fun b hb o e=>cK _ _ (d4 _ _ e)) start)
end
section
variable {X:Cx}
end
section
variable {M:Model} {A:Around} {E:ay} {s:Shared}
end
section
variable {X:Cx} {N:List Str} {scope:Scope} {cl:List (Str×Addr)} {x:Str} {px pos:Pos} {iter elt:Expr} {ifs:List Expr} {wi:TI} {ρ:St→St} {tt:TT} {te:TE}
end
section
variable {X:Cx} {pins:aD} {σ:St} {H:Hp} {s:Shared}
end
section
variable {X:Cx}
end
section
variable {X:Cx} {N:List Str} {scope:Scope} {cl:List (Str×Addr)} {x:Str} {px pos:Pos} {iter elt:Expr} {ifs:List Expr} {wi:TI} {ρ:St→St} {tt:TT} {te:TE}
end
structure ra (J:It) (zs:List (V×V)) (H1:Hp):Prop where
 go:∀i Hc,au H1 Hc→i<zs.length→J.go i Hc
 da:∀i Hc v H',au H1 Hc→J.da i Hc v H'→∃T x y,v=.ref T∧Hc T=none∧H'=upd Hc T (.tup [x,y])∧(i<zs.length→zs[i]?=some (x,y))
 stop:∀i Hc,au H1 Hc→zs.length≤i→J.stop i Hc
theorem vx{K:aB}{zs:List (V×V)}(dr:∀R:It→Hp→Prop,(∀J H1,au H H1→ra J zs H1→R J H1)→wi σ H R)(hn:zs.length<sizeLine)
  (P:Nat→V→Prop)
  (step:∀i x y,zs[i]?=some (x,y)→∀(Hc:Hp) (R:VK),au H Hc→(∀v H3,au Hc H3→P i v→R v H3)→te (some x::some y::ρ σ) Hc R)
  (fin:∀D vs Hc,au H Hc→vs.length=zs.length→(∀(i:Nat) (v:V),vs[i]?=some v→P i v)→Hc D=some (.lst vs)→Q (.ref D) Hc):vp K wi ρ (fun _ H Q=>Q true H) te σ H Q:=by
 refine dr _ fun J H1 s1 js=>?_;intro D nD;refine ⟨fun i m vs Hc=>m=zs.length-i∧i≤zs.length∧Hc D=some (.lst vs)∧au H1 Hc∧vs.length=i∧∀(j:Nat) (v:V),vs[j]?=some v→P j v,⟨_,rfl,cG _,aP,ic (au.refl H1) nD,rfl,fun j y e=>by simp at e⟩,?_⟩
 rintro i m vs Hc ⟨rfl,hi,eD,sH,el,hP⟩;refine ⟨eD,?_⟩;by_cases bT:i<zs.length
 ·refine .inr ⟨js.go i Hc sH bT,fun v H' hy=>?_⟩
  obtain ⟨T,x,y,ev,nT,eH,hx⟩:=js.da i Hc v H' sH hy;subst ev eH;refine ⟨T,x,y,rfl,.of aP,?_⟩;dsimp only;rw [ae rfl];have sT:au Hc (upd Hc T (.tup [x,y])):=fun b o e=>by rw [bt (gf e nT)];exact e
  refine step i x y (hx bT) _ _ (s1.trans (sH.trans sT)) fun w H3 s3 hp=>?_;have e3:=s3 _ _ (sT _ _ eD);refine ⟨e3,by omega,zs.length-(i+1),by omega,rfl,bT,aP,ic (sH.trans (sT.trans s3)) nD,by simp [el],fun j v' e=>?_⟩
  by_cases hj:j<i;·exact hP j v' (by rw [fW (by omega)] at e;exact e)
  ·have hj:j=i:=by have:=(cq.mp e).1;simp at this;omega
   subst hj;have e':v'=w:=by rw [fV (by omega),el,lW] at e;simpa using e.symm
   subst e';exact hp
 ·have e:i=zs.length:=by omega
  subst e;exact .inl ⟨js.stop _ Hc sH (aA _),fin D vs Hc (s1.trans sH) el hP eD⟩
theorem AE(dr:∀R:It→Hp→Prop,(∀J H1,au H H1→mM J xs H1→R J H1)→wi σ H R)(hn:xs.length<sizeLine)
  (P:Addr→Nat→V→Hp→Prop) (mono:∀D i y H H' ys,P D i y H→H D=some (.lst ys)→(∀b o,b≠D→H b=some o→H' b=some o)→P D i y H')
  (step:∀D i x,xs[i]?=some x→∀(Hc:Hp) (R:VK),au H Hc→(∃ys,Hc D=some (.lst ys))→(∀y H3,au Hc H3→P D i y H3→R y H3)→te (some x::ρ σ) Hc R)
  (fin:∀D ys Hc,H D=none→au H Hc→ys.length=xs.length→(∀(i:Nat) (y:V),ys[i]?=some y→P D i y Hc)→Hc D=some (.lst ys)→Q (.ref D) Hc):fF wi ρ (fun _ H Q=>Q true H) te σ H Q:=by
 refine dr _ fun J H1 s1 js=>?_;intro D nD;have hD:H D=none:=by
  cases e:H D with
  | none=>rfl
  | some o=>rw [s1 _ _ e] at nD;cases nD
 exact vj (ρσ:=ρ σ) (te:=te) (Q:=Q) js nD hn (P D) (mono D) (fun i x hx Hc R sc=>step D i x hx Hc R (s1.trans sc)) (fun ys Hc sc=>fin D ys Hc hD (s1.trans sc))
section
variable {X:Cx} {K:aB}
theorem vy(hK:X.K=K:=by rfl):my X (uR K):=by subst hK;exact aT
end
end L2
namespace My
open PySem L2
variable {te:TE} {σ:St} {H:Hp}
theorem rb{r:List V→Hp→VK→Prop}{Q:VK}(h:te σ H fun x H1=>r [x] H1 Q):oj r (jm te oh) σ H Q:=h
theorem rd{D:Ends}(h:te σ H D.rt):tV te D σ H:=h
theorem vz{vs:List V}{b:Bool}(h:∀(i:Nat) (v:V),vs[i]?=some v→v=.bl b):vs=(List.replicate vs.length b).map V.bl:=by
 refine List.ext_getElem? fun i=>?_;rw [dP];by_cases hi:i<vs.length
 ·rw [show vs[i]?=some vs[i] by simp [hi],h i vs[i] (by simp [hi])]
  simp [hi]
 ·rw [List.getElem?_eq_none (by omega),List.getElem?_eq_none (by simp;omega)]
  rfl
theorem vB(n:Nat):(List.replicate n true).all id=true:=by simp
theorem none_of{H':Hp}{b:Addr}(s:au H H')(h:H' b=none):H b=none:=by
 cases e:H b with
 | none=>rfl
 | some o=>rw [s _ _ e] at h;cases h
theorem getD_at{α:Type}{xs:List α}{d:α}{i:Nat}(hi:i<xs.length):xs.getD i d=xs[i]:=by
 rw [gS,show xs[i]?=some xs[i] by simp [hi]]
 rfl
end My
namespace L2
open PySem PySem.Spec PyProof.Rows
end L2
namespace My
open PySem L2
end My
namespace L2
open PySem PySem.Spec PyProof.Rows
end L2
namespace My
open PySem L2
end My
namespace L2
open PySem PySem.Spec PyProof.Rows
theorem boot_enumerate:bootBuiltins "enumerate"=some (.type "enumerate"):=by decide +kernel
section
variable {X:Cx}
end
end L2
namespace My
open PySem L2
end My
namespace L2
open PySem PySem.Spec PyProof.Rows
section
variable {X:Cx} {tg:Expr}
end
section
variable {X:Cx} {e:Expr} {te:TE} {pos p2:Pos}
end
end L2
namespace My
open PySem L2
end My
namespace L2
open PySem PySem.Spec PyProof.Rows
end L2
namespace My
open PySem L2
end My
namespace L2
open PySem PySem.Spec PyProof.Rows
end L2
namespace My
open PySem L2
end My
namespace L2
open PySem PySem.Spec PyProof.Rows
section
variable {X:Cx}
end
end L2
namespace My
open PySem L2
end My
namespace L2
open PySem PySem.Spec PyProof.Rows
end L2
namespace My
open PySem L2
end My
namespace L2
open PySem PySem.Spec PyProof.Rows
section
variable {X:Cx} {N:List Str} {scope:Scope} {cl:List (Str×Addr)} {x y:Str} {px py pos tp:Pos} {mO:Nat} {iter elt:Expr} {ifs:List Expr} {wi:TI} {ρ:St→St} {tt:TT} {te:TE}
end
section
variable {X:Cx} {pins:aD} {σ:St} {H:Hp} {s:Shared}
end
end L2
namespace My
open PySem PySem.W PyProof.Rows
section
variable {n:Nat} {c:Nat→Int}
def ie(n:Nat)(p:Array Nat):Prop:=p.Perm (List.toArray (List.range n))
theorem ie.size{p:Array Nat}(h:ie n p):p.size=n:=by rw [Array.Perm.size_eq h];simp
def vN(c:Nat→Int)(p:Array Nat)(i:Nat):Int:=c (p.getD i 0)
def jw(c:Nat→Int)(p:Array Nat)(k:Nat):Prop:=∀a b,a≤b→b<k→vN c p a≤vN c p b
end
end My
namespace Tm
open PySem PySem.W PyProof.Rows
def iS:Bool→Keyed→Array Keyed→Nat→Nat→Nat→StateT SortSt Sem (Option Nat):=sortPriv% PySem.Builtin.gallop
def mP:Nat→StateT SortSt Sem Unit:=sortPriv% PySem.Builtin.setMinGallop
def rf:Array Keyed→Array Keyed→StateT SortSt Sem (Array Keyed):=sortPriv% PySem.Builtin.mergeLo
def rg:Array Keyed→Array Keyed→StateT SortSt Sem (Array Keyed):=sortPriv% PySem.Builtin.mergeHi
def jx(left:Bool)(key:Keyed)(arr:Array Keyed)(base i:Nat):StateT SortSt Sem (Option Bool):=do
 let x ←elem' arr (base+i)
 if left then lt' x key else return (←lt' key x).map (!·)
theorem AF(left:Bool)(key:Keyed)(arr:Array Keyed)(base n hint:Nat):iS left key arr base n hint=(do
 let mut oO:=0
 let mut aU:=1
 let mut lo:=0
 let mut hi:=0
 let some right ←jx left key arr base hint | return none
 if right then
  let mQ:=n-hint
  for _ in [0:n] do
   if aU≥mQ then break
   let some more ←jx left key arr base (hint+aU) | return none
   if !more then break
   oO:=aU
   aU:=2*aU+1
  lo:=hint+oO+1
  hi:=hint+min aU mQ
 else
  let mQ:=hint+1
  for _ in [0:n] do
   if aU≥mQ then break
   let some found ←jx left key arr base (hint-aU) | return none
   if found then break
   oO:=aU
   aU:=2*aU+1
  lo:=hint+1-min aU mQ
  hi:=hint-oO
 for _ in [0:n] do
  if lo≥hi then break
  let m:=lo+(hi-lo) / 2
  let some more ←jx left key arr base m | return none
  if more then lo:=m+1 else hi:=m
 return some hi):=rfl
section
variable {prog:Program} {w:World} {A:Around} {E:ay} {s:Shared} {κ:SortKind} {key:Keyed→Int} {Ok:Keyed→Prop}
def e9(prog:Program)(w:World)(A:Around)(s:Shared)(κ:SortKind)(key:Keyed→Int)(Ok:Keyed→Prop):Prop:=
 ∀x y,Ok x→Ok y→∀C:Bool→Shared→Prop,C (decide (key x<key y)) s→wpAny (model prog w) A (keyLt' κ x.1 y.1) C (fun _ _=>False) s
variable {st:SortSt} {Q:Option Bool→SortSt→Prop}
theorem mR(h:e9 prog w A s κ key Ok){x y:Keyed}(ox:Ok x)(oy:Ok y)(hk:kindOf st=κ)(q:Q (some (decide (key x<key y))) st):wpS (model prog w) A E s (lt' x y) Q st:=by rw [lt'_eq];refine ai (en ?_);rw [hk];refine ai (wpS_lift (lY (bq (h x y ox oy (fun c s'=>s'=s∧wpS (model prog w) A E s (pure (some c)) Q st) ⟨rfl,ah q⟩) (fun c s' hc=>?_) fun _ _ hF=>hF.elim)));exact hc
def nn:Keyed:=(Value.none,Value.none)
variable {arr:Array Keyed} {i:Nat}
theorem aV(hi:i<arr.size){Q:Keyed→SortSt→Prop}(q:Q (arr.getD i nn) st):wpS (model prog w) A E s (elem' arr i) Q st:=by
 rw [elem'_eq];have e:arr[i]?=some (arr.getD i nn):=by simp [Array.getD,hi]
 rw [e];exact ah q
def cX(Ok:Keyed→Prop)(arr:Array Keyed):Prop:=∀i,i<arr.size→Ok (arr.getD i nn)
def bB(left:Bool)(k a:Int):Bool:=if left=true then decide (a<k) else !decide (k<a)
variable {left:Bool} {kx:Keyed} {base:Nat}
theorem d6(h:e9 prog w A s κ key Ok)(hi:base+i<arr.size)(ha:cX Ok arr)(ox:Ok kx)(hk:kindOf st=κ)(q:Q (some (bB left (key kx) (key (arr.getD (base+i) nn)))) st):wpS (model prog w) A E s (jx left kx arr base i) Q st:=by
 unfold jx;refine ai (aV hi ?_);unfold bB at q;cases left with
 | true=>rw [ae rfl] at q ⊢;exact mR h (ha _ hi) ox hk q
 | false=>
  rw [aa (by simp)] at q ⊢
  exact ai (mR h ox (ha _ hi) hk (ah q))
theorem d7{n hint:Nat}{f:Nat→Bool}
  (hb:∀i,i<n→∀Q:Option Bool→SortSt→Prop,Q (some (f i)) st→wpS (model prog w) A E s (jx left kx arr base i) Q st)
  (hh:hint<n) (mono:∀i j,i≤j→j<n→f j=true→f i=true) {Q:Option Nat→SortSt→Prop}
  (k:∀m,m≤n→(∀i,i<m→f i=true)→(∀i,m≤i→i<n→f i=false)→Q (some m) st):wpS (model prog w) A E s (iS left kx arr base n hint) Q st:=by
 rw [AF];refine ai (hb hint hh _ ?_);dsimp only;have rh:∀i j,i≤j→j<n→f i=false→f j=false:=fun i j h1 h2 h3=>by
  cases e:f j with
  | false=>rfl
  | true=>rw [mono i j h1 h2 e] at h3;cases h3
 have bs:∀(lo hi:Nat) (body:Nat→Option (Option Nat)×Nat×Nat→StateT SortSt Sem (ForInStep (Option (Option Nat)×Nat×Nat))) (R:Option (Option Nat)×Nat×Nat→SortSt→Prop),lo≤hi→hi≤n→(∀i,i<lo→f i=true)→(∀i,hi≤i→i<n→f i=false)→
   (∀x lo hi (R:ForInStep (Option (Option Nat)×Nat×Nat)→SortSt→Prop),lo≥hi→R (.done (none,lo,hi)) st→wpS (model prog w) A E s (body x (none,lo,hi)) R st)→
   (∀x lo hi (R:ForInStep (Option (Option Nat)×Nat×Nat)→SortSt→Prop),lo<hi→hi≤n→R (.yield (if f (lo+(hi-lo) / 2)=true then (none,lo+(hi-lo) / 2+1,hi) else (none,lo,lo+(hi-lo) / 2))) st→wpS (model prog w) A E s (body x (none,lo,hi)) R st)→
   (∀m,m≤n→(∀i,i<m→f i=true)→(∀i,m≤i→i<n→f i=false)→R (none,m,m) st)→
   wpS (model prog w) A E s (forIn [0:n] (none,lo,hi) body) R st:=fun lo hi body R h1 h2 h3 h4 b1 b2 kk=>by
  refine cZ (I:=fun x c ao=>ao=st∧∃lo hi,c=(none,lo,hi)∧lo≤hi∧hi≤n∧hi-lo+x≤n∧(∀i,i<lo→f i=true)∧(∀i,hi≤i→i<n→f i=false)) ?_ ?_ ⟨rfl,lo,hi,rfl,h1,h2,by omega,h3,h4⟩
  ·rintro x c ao _ hx ⟨rfl,lo,hi,rfl,g1,g2,g3,g4,g5⟩
   by_cases z:lo≥hi
   ·refine b1 x lo hi _ z ?_
    obtain rfl:lo=hi:=by omega
    exact kk lo g2 g4 g5
   ·refine b2 x lo hi _ (by omega) g2 ?_
    cases e:f (lo+(hi-lo) / 2) with
    | true=>rw [ae rfl];exact ⟨rfl,_,_,rfl,by omega,g2,by omega,fun i bh=>mono i (lo+(hi-lo) / 2) (by omega) (by omega) e,g5⟩
    | false=>
     rw [aa (by simp)]
     exact ⟨rfl,_,_,rfl,by omega,by omega,by omega,g4,fun i h1 h2=>rh (lo+(hi-lo) / 2) i h1 h2 e⟩
  ·rintro c ao ⟨rfl,lo,hi,rfl,g1,g2,g3,g4,g5⟩
   have:lo=hi:=by
    have:max 0 n=n:=by omega
    omega
   subst this;exact kk lo g2 g4 g5
 cases e:f hint with
 | true=>
  rw [ae rfl]
  refine ai (dg (cZ (I:=fun x c ao=>ao=st∧∃la aU,c=(none,la,aU)∧x+1≤aU∧la<aU∧la<n-hint∧f (hint+la)=true)
   (Q:=fun c ao=>ao=st∧∃la aU,c=(none,la,aU)∧la<aU∧la<n-hint∧f (hint+la)=true∧(aU≥n-hint∨f (hint+aU)=false)) ?_ ?_ ⟨rfl,0,1,rfl,aA _,by omega,by omega,by simpa using e⟩) ?_)
  ·rintro x c ao _ hx ⟨rfl,la,aU,rfl,g1,g2,g3,g4⟩
   dsimp only;by_cases z:aU≥n-hint
   ·rw [ae z]
    exact ah ⟨rfl,la,aU,rfl,g2,g3,g4,.inl z⟩
   ·rw [aa z]
    refine ai (hb _ (by omega) _ ?_)
    dsimp only;cases e':f (hint+aU) with
    | true=>
     rw [aa (by simp)]
     exact ah ⟨rfl,_,_,rfl,by omega,by omega,by omega,e'⟩
    | false=>
     rw [ae (by simp)]
     exact ah ⟨rfl,la,aU,rfl,g2,g3,g4,.inr e'⟩
  ·rintro c ao ⟨rfl,la,aU,rfl,g1,g2,g3,g4⟩
   have:max 0 n=n:=by omega
   exact ⟨rfl,la,aU,rfl,g2,g3,g4,.inl (by omega)⟩
  ·rintro c ao ⟨rfl,la,aU,rfl,g2,g3,g4,g5⟩
   refine ai (bs (hint+la+1) (hint+min aU (n-hint)) _ _ (by omega) (by omega) (fun i hi=>mono i (hint+la) (by omega) (by omega) g4) (fun i h1 h2=>?_) ?_ ?_ ?_)
   ·rcases g5 with g5 | g5
    ·omega
    ·by_cases z:aU≥n-hint
     ·omega
     ·exact rh (hint+aU) i (by omega) h2 g5
   ·intro x lo hi R z hR
    dsimp only;rw [ae z];exact ah hR
   ·intro x lo hi R z z2 hR
    dsimp only;rw [aa (by omega)]
    refine ai (hb _ (by omega) _ ?_)
    dsimp only;cases e:f (lo+(hi-lo) / 2) with
    | true=>rw [e,ae rfl] at hR;rw [ae rfl];exact ah hR
    | false=>
     rw [e,aa (by simp)] at hR
     rw [aa (by simp)]
     exact ah hR
   ·exact fun m m1 m2 m3=>ah (k m m1 m2 m3)
 | false=>
  rw [aa (by simp)]
  refine ai (dg (cZ (I:=fun x c ao=>ao=st∧∃la aU,c=(none,la,aU)∧x+1≤aU∧la<aU∧la≤hint∧f (hint-la)=false)
   (Q:=fun c ao=>ao=st∧∃la aU,c=(none,la,aU)∧la<aU∧la≤hint∧f (hint-la)=false∧(aU≥hint+1∨f (hint-aU)=true)) ?_ ?_ ⟨rfl,0,1,rfl,aA _,by omega,by omega,by simpa using e⟩) ?_)
  ·rintro x c ao _ hx ⟨rfl,la,aU,rfl,g1,g2,g3,g4⟩
   dsimp only;by_cases z:aU≥hint+1
   ·rw [ae z]
    exact ah ⟨rfl,la,aU,rfl,g2,g3,g4,.inl z⟩
   ·rw [aa z]
    refine ai (hb _ (by omega) _ ?_)
    dsimp only;cases e':f (hint-aU) with
    | true=>rw [ae rfl];exact ah ⟨rfl,la,aU,rfl,g2,g3,g4,.inr e'⟩
    | false=>
     rw [aa (by simp)]
     exact ah ⟨rfl,_,_,rfl,by omega,by omega,by omega,e'⟩
  ·rintro c ao ⟨rfl,la,aU,rfl,g1,g2,g3,g4⟩
   have:max 0 n=n:=by omega
   exact ⟨rfl,la,aU,rfl,g2,g3,g4,.inl (by omega)⟩
  ·rintro c ao ⟨rfl,la,aU,rfl,g2,g3,g4,g5⟩
   refine ai (bs (hint+1-min aU (hint+1)) (hint-la) _ _ (by omega) (by omega) (fun i hi=>?_) (fun i h1 h2=>rh (hint-la) i (by omega) h2 g4) ?_ ?_ ?_)
   ·rcases g5 with g5 | g5
    ·omega
    ·by_cases z:aU≥hint+1
     ·omega
     ·exact mono i (hint-aU) (by omega) (by omega) g5
   ·intro x lo hi R z hR
    dsimp only;rw [ae z];exact ah hR
   ·intro x lo hi R z z2 hR
    dsimp only;rw [aa (by omega)]
    refine ai (hb _ (by omega) _ ?_)
    dsimp only;cases e:f (lo+(hi-lo) / 2) with
    | true=>rw [e,ae rfl] at hR;rw [ae rfl];exact ah hR
    | false=>
     rw [e,aa (by simp)] at hR
     rw [aa (by simp)]
     exact ah hR
   ·exact fun m m1 m2 m3=>ah (k m m1 m2 m3)
end
def aR(K:Keyed→Int)(l:List Keyed):Prop:=l.Pairwise fun x y=>K x≤K y
variable {K:Keyed→Int} {l:List Keyed}
theorem aR.take(h:aR K l)(k:Nat):aR K (l.take k):=List.Pairwise.sublist (List.take_sublist k l) h
theorem aR.drop(h:aR K l)(k:Nat):aR K (l.drop k):=List.Pairwise.sublist (List.drop_sublist k l) h
variable {m:List Keyed}
theorem aR.app(h:aR K l)(h':aR K m)(k:∀x∈l,∀y∈m,K x≤K y):aR K (l++m):=List.pairwise_append.mpr ⟨h,h',k⟩
structure MI (K:Keyed→Int) (A B O:List Keyed) (i j:Nat):Prop where
 pm:O.Perm (A.take i++B.take j)
 so:aR K O
 ca:∀x∈O,∀y∈A.drop i,K x≤K y
 cb:∀x∈O,∀y∈B.drop j,K x≤K y
variable {A B O:List Keyed} {i j:Nat}
theorem MI.flip(h:MI K A B O i j):MI K B A O j i:=⟨h.pm.trans nH,h.so,h.cb,h.ca⟩
theorem MI.oP(h:MI K A B O i j)(sA:aR K A)(k:Nat)(hk:∀x∈(A.drop i).take k,∀y∈B.drop j,K x≤K y):MI K A B (O++(A.drop i).take k) (i+k) j:=by
 have e:A.take (i+k)=A.take i++(A.drop i).take k:=List.take_add;have d:A.drop (i+k)=(A.drop i).drop k:=by rw [List.drop_drop]
 have sd:=sA.drop i;have sp:(A.drop i).take k++(A.drop i).drop k=A.drop i:=ke ..;have cr:∀x∈(A.drop i).take k,∀y∈(A.drop i).drop k,K x≤K y:=by have:=sd;rw [←sp] at this;exact (List.pairwise_append.mp this).2.2
 refine ⟨?_,h.so.app (sd.take k) fun x hx y hy=>h.ca x hx y (List.mem_of_mem_take hy),fun x hx y hy=>?_,fun x hx y hy=>?_⟩
 ·rw [e]
  refine (h.pm.append_right _).trans ?_;rw [et,et];exact qi _ nH
 ·rw [d] at hy
  rcases fm.mp hx with hx | hx;·exact h.ca x hx y (List.mem_of_mem_drop hy)
  ·exact cr x hx y hy
 ·rcases fm.mp hx with hx | hx
  ·exact h.cb x hx y hy
  ·exact hk x hx y hy
theorem MI.rj(h:MI K A B O i j)(sB:aR K B)(k:Nat)(hk:∀x∈(B.drop j).take k,∀y∈A.drop i,K x≤K y):MI K A B (O++(B.drop j).take k) i (j+k):=(h.flip.oP sB k hk).flip
theorem MI.done(h:MI K A B O i j)(sA:aR K A)(sB:aR K B)(k:∀x∈A.drop i,∀y∈B.drop j,K x≤K y):(O++A.drop i++B.drop j).Perm (A++B)∧aR K (O++A.drop i++B.drop j):=by
 refine ⟨?_,(h.so.app (sA.drop i) h.ca).app (sB.drop j) fun x hx y hy=>?_⟩
 ·have e1:A.take i++A.drop i=A:=ke ..
  have e2:B.take j++B.drop j=B:=ke ..;have:(A.take i++B.take j++A.drop i++B.drop j).Perm ((A.take i++A.drop i)++(B.take j++B.drop j)):=by rw [et,et,et];refine qi _ ?_;rw [←et,←et];exact List.Perm.append_right _ nH
  rw [e1,e2] at this;exact ((h.pm.append_right _).append_right _).trans this
 ·rcases fm.mp hx with hx | hx
  ·exact h.cb x hx y hy
  ·exact k x hx y hy
theorem MI.vC(h:MI K A B O i j)(sA:aR K A)(sB:aR K B)(k:∀x∈A.drop i,∀y∈B.drop j,K y≤K x):(O++B.drop j++A.drop i).Perm (A++B)∧aR K (O++B.drop j++A.drop i):=by have:=h.flip.done sB sA fun x hx y hy=>k y hy x hx;exact ⟨this.1.trans nH,this.2⟩
theorem AG(a b:Array Keyed):rf a b=(do
 rule "list.sort.merge-lo"
 let total:=a.size+b.size
 let done (out:Array Keyed) (ia ib:Nat):=out++a.extract ia a.size++b.extract ib b.size
 let oQ (out:Array Keyed) (ia ib:Nat):=out++b.extract ib b.size++a.extract ia a.size
 let mut out:Array Keyed:=#[←elem' b 0]
 let mut ia:=0
 let mut ib:=1
 if ib == b.size then return done out ia ib
 if ia+1 == a.size then return oQ out ia ib
 let mut minGallop:=gallopOf (←get)
 for _ in [0:total] do
  let mut eJ:=0
  let mut eK:=0
  for _ in [0:total] do
   let some AH ←lt' (←elem' b ib) (←elem' a ia) | return done out ia ib
   if AH then
    out:=out.push (←elem' b ib);ib:=ib+1;eK:=eK+1;eJ:=0
    if ib == b.size then return done out ia ib
    if eK≥minGallop then break
   else
    out:=out.push (←elem' a ia);ia:=ia+1;eJ:=eJ+1;eK:=0
    if ia+1 == a.size then return oQ out ia ib
    if eJ≥minGallop then break
  rule "list.sort.gallop"
  minGallop:=minGallop+1
  for _ in [0:total] do
   if minGallop>1 then minGallop:=minGallop-1
   mP minGallop
   let some k ←iS false (←elem' b ib) a ia (a.size-ia) 0 | return done out ia ib
   eJ:=k
   if k>0 then
    out:=out++a.extract ia (ia+k);ia:=ia+k
    if ia+1 == a.size then return oQ out ia ib
    if ia == a.size then return done out ia ib
   out:=out.push (←elem' b ib);ib:=ib+1
   if ib == b.size then return done out ia ib
   let some k ←iS true (←elem' a ia) b ib (b.size-ib) 0 | return done out ia ib
   eK:=k
   if k>0 then
    out:=out++b.extract ib (ib+k);ib:=ib+k
    if ib == b.size then return done out ia ib
   out:=out.push (←elem' a ia);ia:=ia+1
   if ia+1 == a.size then return oQ out ia ib
   if eJ<7 && eK<7 then break
  minGallop:=minGallop+1
  mP minGallop
 unsupported "internal:list.sort.merge-bound"):=rfl
section
variable {prog:Program} {w:World} {A:Around} {E:ay} {s:Shared} {κ:SortKind} {key:Keyed→Int} {Ok:Keyed→Prop}
def setG(st:SortSt)(g:Nat):SortSt:=SortSt.mk' (kindOf st) (arrOf st) (pendingOf st) g (failedOf st)
variable {a:Array Keyed}
theorem mS(hi:i<a.size):(a.toList.drop i).take 1=[a.getD i nn]:=by
 have hl:i<a.toList.length:=by simpa using hi
 rw [List.drop_eq_getElem_cons hl];simp [Array.getD,hi]
theorem e_(a:Array Keyed)(i j:Nat):(a.extract i j).toList=(a.toList.drop i).take (j-i):=by rw [Array.toList_extract,List.extract_eq_take_drop]
theorem oR(a:Array Keyed)(i:Nat):(a.extract i a.size).toList=a.toList.drop i:=by rw [e_];refine List.take_of_length_le ?_;simp
variable {x:Keyed}
theorem jy(h:x∈a.toList.drop i):∃j,i≤j∧j<a.size∧x=a.getD j nn:=by
 obtain ⟨j,hj,rfl⟩:=List.getElem_of_mem h;have dc:i+j<a.size:=by simp at hj;omega
 refine ⟨i+j,by omega,dc,?_⟩
 rw [List.getElem_drop];simp [Array.getD,dc]
theorem rm{k:Nat}(h:x∈(a.toList.drop i).take k):∃j,j<k∧i+j<a.size∧x=a.getD (i+j) nn:=by
 obtain ⟨j,hj,rfl⟩:=List.getElem_of_mem h;have dc:i+j<a.size∧j<k:=by simp at hj;omega
 refine ⟨j,dc.2,dc.1,?_⟩;rw [List.getElem_take,List.getElem_drop];simp [Array.getD,dc.1]
theorem df(h:aR key a.toList)(vD:i≤j)(hj:j<a.size):key (a.getD i nn)≤key (a.getD j nn):=by
 have hi:i<a.size:=by omega
 by_cases e:i=j;·subst e;exact gT _
 ·have:=lZ.mp h i j (by simpa using hi) (by simpa using hj) (by omega)
  simpa [Array.getD,hi,hj] using this
variable {st:SortSt}
theorem cE{c:Prop}[Decidable c]{α:Type}{m1 m2:StateT SortSt Sem α}{Q:α→SortSt→Prop}(h1:c→wpS (model prog w) A E s m1 Q st)(h2:¬c→wpS (model prog w) A E s m2 Q st):wpS (model prog w) A E s (if c then m1 else m2) Q st:=by
 by_cases h:c;·rw [ae h];exact h1 h
 ·rw [aa h];exact h2 h
theorem kB{g:Nat}{Q:Unit→SortSt→Prop}(q:Q () (setG st g)):wpS (model prog w) A E s (mP g) Q st:=fv q
variable {k:Int}
theorem dH{a:Int}(h:bB true k a=true):a<k:=cR h
theorem d8{a:Int}(h:bB true k a=false):k≤a:=Int.not_lt.mp (of_decide_eq_false h)
theorem gE{a:Int}(h:bB false k a=true):a≤k:=by have:(!decide (k<a))=true:=h;simpa using this
theorem iT{a:Int}(h:bB false k a=false):k<a:=by have:(!decide (k<a))=false:=h;simpa using this
variable {b:Array Keyed} {o:Nat}
theorem iU(sb:aR key b.toList):∀i j,i≤j→j<b.size-o→bB true k (key (b.getD (o+j) nn))=true→bB true k (key (b.getD (o+i) nn))=true:=fun i j h1 h2 h3=>aG (Int.lt_of_le_of_lt (df sb (by omega) (by omega)) (dH h3))
theorem oS(sb:aR key b.toList):∀i j,i≤j→j<b.size-o→bB false k (key (b.getD (o+j) nn))=true→bB false k (key (b.getD (o+i) nn))=true:=fun i j h1 h2 h3=>by
 have:key (b.getD (o+i) nn)≤k:=bW (df sb (by omega) (by omega)) (gE h3)
 show (!decide (k<key (b.getD (o+i) nn)))=true;simpa using this
section
variable {a b:Array Keyed} (sa:aR key a.toList) (sb:aR key b.toList) {out:Array Keyed} {ia ib:Nat}
include sa sb
theorem kC(m:MI key a.toList b.toList out.toList ia ib)(hb:ib<b.size)(k:∀j,ia≤j→j<a.size→key (b.getD ib nn)≤key (a.getD j nn)):MI key a.toList b.toList (out.push (b.getD ib nn)).toList ia (ib+1):=by
 have:=m.rj sb 1 fun x hx y hy=>by rw [mS hb,iB] at hx;subst hx;obtain ⟨j,h1,h2,rfl⟩:=jy hy;exact k j h1 h2
 rw [mS hb] at this;rw [iC];exact this
theorem ig(m:MI key a.toList b.toList out.toList ia ib)(ha:ia<a.size)(k:∀j,ib≤j→j<b.size→key (a.getD ia nn)≤key (b.getD j nn)):MI key a.toList b.toList (out.push (a.getD ia nn)).toList (ia+1) ib:=by
 have:=m.oP sa 1 fun x hx y hy=>by rw [mS ha,iB] at hx;subst hx;obtain ⟨j,h1,h2,rfl⟩:=jy hy;exact k j h1 h2
 rw [mS ha] at this;rw [iC];exact this
variable {n:Nat}
theorem vE(m:MI key a.toList b.toList out.toList ia ib)(k:∀i j,i<n→ia+i<a.size→ib≤j→j<b.size→key (a.getD (ia+i) nn)≤key (b.getD j nn)):MI key a.toList b.toList (out++a.extract ia (ia+n)).toList (ia+n) ib:=by
 have:=m.oP sa n fun x hx y hy=>by obtain ⟨i,h3,h4,rfl⟩:=rm hx;obtain ⟨j,h1,h2,rfl⟩:=jy hy;exact k i j h3 h4 h1 h2
 rw [fY,e_,show ia+n-ia=n by omega]
 exact this
theorem oT(m:MI key a.toList b.toList out.toList ia ib)(k:∀i j,i<n→ib+i<b.size→ia≤j→j<a.size→key (b.getD (ib+i) nn)≤key (a.getD j nn)):MI key a.toList b.toList (out++b.extract ib (ib+n)).toList ia (ib+n):=by
 have:=m.rj sb n fun x hx y hy=>by obtain ⟨i,h3,h4,rfl⟩:=rm hx;obtain ⟨j,h1,h2,rfl⟩:=jy hy;exact k i j h3 h4 h1 h2
 rw [fY,e_,show ib+n-ib=n by omega]
 exact this
theorem fb(m:MI key a.toList b.toList out.toList ia ib)(e:ib=b.size∨ia=a.size):(out++a.extract ia a.size++b.extract ib b.size).toList.Perm (a.toList++b.toList)∧aR key (out++a.extract ia a.size++b.extract ib b.size).toList:=by rw [fY,fY,oR,oR];refine m.done sa sb fun x hx y hy=>?_;obtain ⟨i,h1,h2,_⟩:=jy hx;obtain ⟨j,h3,h4,_⟩:=jy hy;omega
theorem fc(m:MI key a.toList b.toList out.toList ia ib)(hl:∀y∈b.toList,key y≤key (a.getD (a.size-1) nn))(e:ia+1=a.size):(out++b.extract ib b.size++a.extract ia a.size).toList.Perm (a.toList++b.toList)∧aR key (out++b.extract ib b.size++a.extract ia a.size).toList:=by
 rw [fY,fY,oR,oR];refine m.vC sa sb fun x hx y hy=>?_;obtain ⟨i,h1,h2,rfl⟩:=jy hx;have:=hl y (List.mem_of_mem_drop hy);rw [show i=a.size-1 by omega]
 exact this
end
theorem AI(h:e9 prog w A s κ key Ok)(oa:cX Ok a)(ob:cX Ok b)(sa:aR key a.toList)(sb:aR key b.toList)(a1:1≤a.size)(b1:1≤b.size)
  (h0:∀x∈a.toList,key (b.getD 0 nn)≤key x) (hl:∀y∈b.toList,key y≤key (a.getD (a.size-1) nn)) (hk:kindOf st=κ) {Q:Array Keyed→SortSt→Prop}
  (q:∀m g,m.toList.Perm (a.toList++b.toList)→aR key m.toList→Q m (setG st g)):wpS (model prog w) A E s (rf a b) Q st:=by
 rw [AG];refine ai (wpS_lift (eS ⟨rfl,?_⟩));refine ai (aV (by omega) ?_)
 dsimp only;have m0:MI key a.toList b.toList (#[b.getD 0 nn]:Array Keyed).toList 0 1:=by
  have:MI key a.toList b.toList (#[]:Array Keyed).toList 0 0:=⟨by simp,List.Pairwise.nil,fun x hx=>by simp at hx,fun x hx=>by simp at hx⟩
  exact kC sa sb this (by omega) fun j _ hj=>h0 _ (by simp [Array.getD,hj])
 have di:∀g,kindOf (setG st g)=κ:=fun _=>hk;by_cases e1:(1 == b.size)=true
 ·rw [ae e1]
  have:=fb sa sb m0 (.inl (eq_of_beq e1));exact ah (q _ (gallopOf st) this.1 this.2)
 rw [aa e1];by_cases e2:(0+1 == a.size)=true
 ·rw [ae e2]
  have:=fc sa sb m0 hl (eq_of_beq e2);exact ah (q _ (gallopOf st) this.1 this.2)
 rw [aa e2];have b2:1<b.size:=by
  have:1≠b.size:=fun e=>e1 (by simp [←e])
  omega
 have a2:0+1<a.size:=by
  have:0+1≠a.size:=fun e=>e2 (by simp [←e])
  omega
 refine ai (en ?_)
 refine ai (dg (cZ (I:=fun x c ao=>∃out ia ib mg g,c=(none,out,ia,ib,mg)∧ao=setG st g∧MI key a.toList b.toList out.toList ia ib∧ia+1<a.size∧ib<b.size∧x≤ia+ib)
  (Q:=fun c ao=>∃m g,c.1=some m∧ao=setG st g∧m.toList.Perm (a.toList++b.toList)∧aR key m.toList) ?_ ?_ ⟨_,_,_,_,gallopOf st,rfl,rfl,m0,a2,b2,cG _⟩) ?_)
 ·rintro x c ao _ hx ⟨out,ia,ib,mg,g,rfl,rfl,mi,ha,hb,rn⟩
  dsimp only
  refine ai (dg (cZ (I:=fun y c ao=>∃out dv dI ac bc,c=(none,out,dv,dI,ac,bc)∧ao=setG st g∧MI key a.toList b.toList out.toList dv dI∧dv+1<a.size∧dI<b.size∧ia+ib+y≤dv+dI)
   (Q:=fun c ao=>ao=setG st g∧((∃m,c.1=some m∧m.toList.Perm (a.toList++b.toList)∧aR key m.toList)∨∃out dv dI ac bc,c=(none,out,dv,dI,ac,bc)∧MI key a.toList b.toList out.toList dv dI∧dv+1<a.size∧dI<b.size∧ia+ib+1≤dv+dI)) ?_ ?_ ⟨_,_,_,_,_,rfl,rfl,mi,ha,hb,aA _⟩) ?_)
  ·rintro y c ao _ hy ⟨out,dv,dI,ac,bc,rfl,rfl,mi,ha,hb,dJ⟩
   dsimp only;refine ai (aV hb (ai (aV (by omega) (ai (mR h (ob _ hb) (oa dv (by omega)) (di _) ?_)))))
   dsimp only;by_cases z:key (b.getD dI nn)<key (a.getD dv nn)
   ·rw [aG z,ae rfl]
    refine ai (aV hb ?_);have dM:=kC sa sb mi hb fun j h1 h2=>bW (bP z) (df sa h1 h2);by_cases z1:(dI+1 == b.size)=true
    ·rw [ae z1]
     exact ah ⟨rfl,.inl ⟨_,rfl,fb sa sb dM (.inl (eq_of_beq z1))⟩⟩
    ·rw [aa z1]
     have oU:dI+1≠b.size:=fun e=>z1 (by simp [←e])
     by_cases z2:bc+1≥mg
     ·rw [ae z2]
      exact ah ⟨rfl,.inr ⟨_,_,_,_,_,rfl,dM,ha,by omega,by omega⟩⟩
     ·rw [aa z2]
      exact ah ⟨_,_,_,_,_,rfl,rfl,dM,ha,by omega,by omega⟩
   ·rw [bp z,aa (by simp)]
    refine ai (aV (by omega) ?_)
    have dM:=ig sa sb mi (by omega) fun j h1 h2=>bW (Int.not_lt.mp z) (df sb h1 h2)
    by_cases z1:(dv+1+1 == a.size)=true
    ·rw [ae z1]
     exact ah ⟨rfl,.inl ⟨_,rfl,fc sa sb dM hl (eq_of_beq z1)⟩⟩
    ·rw [aa z1]
     have oU:dv+1+1≠a.size:=fun e=>z1 (by simp [←e])
     by_cases z2:ac+1≥mg
     ·rw [ae z2]
      exact ah ⟨rfl,.inr ⟨_,_,_,_,_,rfl,dM,by omega,hb,by omega⟩⟩
     ·rw [aa z2]
      exact ah ⟨_,_,_,_,_,rfl,rfl,dM,by omega,hb,by omega⟩
  ·rintro c ao ⟨out,dv,dI,ac,bc,rfl,rfl,mi,ha,hb,dJ⟩
   exact ⟨rfl,.inr ⟨_,_,_,_,_,rfl,mi,ha,hb,by omega⟩⟩
  ·rintro c ao ⟨rfl,⟨m,e,pm⟩ | ⟨out,dv,dI,ac,bc,rfl,mi,ha,hb,dJ⟩⟩
   ·obtain ⟨c1,c2⟩:=c
    dsimp only at e;subst e;exact ah ⟨m,g,rfl,rfl,pm⟩
   ·dsimp only
    refine ai (wpS_lift (eS ⟨rfl,?_⟩))
    refine ai (dg (cZ (I:=fun y c ao=>∃out i j mg ac bc g,c=(none,out,i,j,mg,ac,bc)∧ao=setG st g∧MI key a.toList b.toList out.toList i j∧i+1<a.size∧j<b.size∧x+1≤i+j)
     (Q:=fun c ao=>(∃m g,c.1=some m∧ao=setG st g∧m.toList.Perm (a.toList++b.toList)∧aR key m.toList)∨∃out i j mg ac bc g,c=(none,out,i,j,mg,ac,bc)∧ao=setG st g∧MI key a.toList b.toList out.toList i j∧i+1<a.size∧j<b.size∧x+1≤i+j) ?_ ?_ ⟨_,_,_,_,_,_,g,rfl,rfl,mi,ha,hb,by omega⟩) ?_)
    ·clear mi ha hb dJ
     rintro y c ao _ hy ⟨out,ia,ib,mg,ac,bc,g,rfl,rfl,mi,ha,hb,dJ⟩;dsimp only;rcases Nat.lt_or_ge 1 mg with zm | zm
     ·rw [ae zm]
      refine ai (kB ?_);refine ai (aV hb (ai (d7 (f:=fun i=>bB false (key (b.getD ib nn)) (key (a.getD (ia+i) nn))) (fun i hi Q q=>d6 h (by omega) oa (ob _ hb) (di _) q) (by omega) (oS sa) fun k k1 k2 k3=>?_)))
      dsimp only;by_cases zk:k>0
      ·rw [ae zk]
       have dN:=vE sa sb mi (n:=k) fun i j hi bh hj dc=>bW (gE (k2 i hi)) (df sb hj dc);by_cases w1:(ia+k+1 == a.size)=true
       ·rw [ae w1]
        exact ah (.inl ⟨_,_,rfl,rfl,fc sa sb dN hl (eq_of_beq w1)⟩)
       ·rw [aa w1]
        have rp:ia+k+1≠a.size:=fun e=>w1 (by simp [←e])
        by_cases w2:(ia+k == a.size)=true
        ·rw [ae w2]
         exact ah (.inl ⟨_,_,rfl,rfl,fb sa sb dN (.inr (eq_of_beq w2))⟩)
        ·rw [aa w2]
         have AJ:ia+k≠a.size:=fun e=>w2 (by simp [←e])
         refine ai (aV hb ?_);have bw:=kC sa sb dN hb fun j h1 h2=>by have:=iT (k3 (j-ia) (by omega) (by omega));rw [show ia+(j-ia)=j by omega] at this;exact bP this
         by_cases x1:(ib+1 == b.size)=true
         ·rw [ae x1]
          exact ah (.inl ⟨_,_,rfl,rfl,fb sa sb bw (.inl (eq_of_beq x1))⟩)
         ·rw [aa x1]
          have jz:ib+1≠b.size:=fun e=>x1 (by simp [←e])
          refine ai (aV (by omega) (ai (d7 (f:=fun i=>bB true (key (a.getD (ia+k) nn)) (key (b.getD (ib+1+i) nn))) (fun i hi Q q=>d6 h (by omega) ob (oa _ (by omega)) (di _) q) (by omega) (iU sb) fun k' q1 q2 q3=>?_)))
          dsimp only;by_cases cn:k'>0
          ·rw [ae cn]
           have b6:=oT sa sb bw (n:=k') fun i j hi bh hj dc=>bW (bP (dH (q2 i hi))) (df sa hj dc);by_cases x2:(ib+1+k' == b.size)=true
           ·rw [ae x2]
            exact ah (.inl ⟨_,_,rfl,rfl,fb sa sb b6 (.inl (eq_of_beq x2))⟩)
           ·rw [aa x2]
            have jA:ib+1+k'≠b.size:=fun e=>x2 (by simp [←e])
            refine ai (aV (by omega) ?_)
            have aI:=ig sa sb b6 (by omega) fun j h1 h2=>by have:=d8 (q3 (j-(ib+1)) (by omega) (by omega));rwa [show ib+1+(j-(ib+1))=j by omega] at this
            by_cases y1:(ia+k+1+1 == a.size)=true
            ·rw [ae y1]
             exact ah (.inl ⟨_,_,rfl,rfl,fc sa sb aI hl (eq_of_beq y1)⟩)
            ·rw [aa y1]
             have dO:ia+k+1+1≠a.size:=fun e=>y1 (by simp [←e])
             exact cE (fun _=>ah (.inr ⟨_,_,_,_,_,_,_,rfl,rfl,aI,by omega,by omega,by omega⟩)) (fun _=>ah ⟨_,_,_,_,_,_,_,rfl,rfl,aI,by omega,by omega,by omega⟩)
          ·rw [aa cn]
           obtain rfl:k'=0:=by omega
           refine ai (aV (by omega) ?_)
           have aI:=ig sa sb bw (by omega) fun j h1 h2=>by have:=d8 (q3 (j-(ib+1)) (by omega) (by omega));rwa [show ib+1+(j-(ib+1))=j by omega] at this
           by_cases y1:(ia+k+1+1 == a.size)=true
           ·rw [ae y1]
            exact ah (.inl ⟨_,_,rfl,rfl,fc sa sb aI hl (eq_of_beq y1)⟩)
           ·rw [aa y1]
            have dO:ia+k+1+1≠a.size:=fun e=>y1 (by simp [←e])
            exact cE (fun _=>ah (.inr ⟨_,_,_,_,_,_,_,rfl,rfl,aI,by omega,by omega,by omega⟩)) (fun _=>ah ⟨_,_,_,_,_,_,_,rfl,rfl,aI,by omega,by omega,by omega⟩)
      ·rw [aa zk]
       obtain rfl:k=0:=by omega
       refine ai (aV hb ?_);have bw:=kC sa sb mi hb fun j h1 h2=>by have:=iT (k3 (j-ia) (by omega) (by omega));rw [show ia+(j-ia)=j by omega] at this;exact bP this
       by_cases x1:(ib+1 == b.size)=true
       ·rw [ae x1]
        exact ah (.inl ⟨_,_,rfl,rfl,fb sa sb bw (.inl (eq_of_beq x1))⟩)
       ·rw [aa x1]
        have jz:ib+1≠b.size:=fun e=>x1 (by simp [←e])
        refine ai (aV (by omega) (ai (d7 (f:=fun i=>bB true (key (a.getD (ia) nn)) (key (b.getD (ib+1+i) nn))) (fun i hi Q q=>d6 h (by omega) ob (oa _ (by omega)) (di _) q) (by omega) (iU sb) fun k' q1 q2 q3=>?_)))
        dsimp only;by_cases cn:k'>0
        ·rw [ae cn]
         have b6:=oT sa sb bw (n:=k') fun i j hi bh hj dc=>bW (bP (dH (q2 i hi))) (df sa hj dc);by_cases x2:(ib+1+k' == b.size)=true
         ·rw [ae x2]
          exact ah (.inl ⟨_,_,rfl,rfl,fb sa sb b6 (.inl (eq_of_beq x2))⟩)
         ·rw [aa x2]
          have jA:ib+1+k'≠b.size:=fun e=>x2 (by simp [←e])
          refine ai (aV (by omega) ?_)
          have aI:=ig sa sb b6 (by omega) fun j h1 h2=>by have:=d8 (q3 (j-(ib+1)) (by omega) (by omega));rwa [show ib+1+(j-(ib+1))=j by omega] at this
          by_cases y1:(ia+1+1 == a.size)=true
          ·rw [ae y1]
           exact ah (.inl ⟨_,_,rfl,rfl,fc sa sb aI hl (eq_of_beq y1)⟩)
          ·rw [aa y1]
           have dO:ia+1+1≠a.size:=fun e=>y1 (by simp [←e])
           exact cE (fun _=>ah (.inr ⟨_,_,_,_,_,_,_,rfl,rfl,aI,by omega,by omega,by omega⟩)) (fun _=>ah ⟨_,_,_,_,_,_,_,rfl,rfl,aI,by omega,by omega,by omega⟩)
        ·rw [aa cn]
         obtain rfl:k'=0:=by omega
         refine ai (aV (by omega) ?_)
         have aI:=ig sa sb bw (by omega) fun j h1 h2=>by have:=d8 (q3 (j-(ib+1)) (by omega) (by omega));rwa [show ib+1+(j-(ib+1))=j by omega] at this
         by_cases y1:(ia+1+1 == a.size)=true
         ·rw [ae y1]
          exact ah (.inl ⟨_,_,rfl,rfl,fc sa sb aI hl (eq_of_beq y1)⟩)
         ·rw [aa y1]
          have dO:ia+1+1≠a.size:=fun e=>y1 (by simp [←e])
          exact cE (fun _=>ah (.inr ⟨_,_,_,_,_,_,_,rfl,rfl,aI,by omega,by omega,by omega⟩)) (fun _=>ah ⟨_,_,_,_,_,_,_,rfl,rfl,aI,by omega,by omega,by omega⟩)
     ·rw [aa (by omega)]
      refine ai (kB ?_);refine ai (aV hb (ai (d7 (f:=fun i=>bB false (key (b.getD ib nn)) (key (a.getD (ia+i) nn))) (fun i hi Q q=>d6 h (by omega) oa (ob _ hb) (di _) q) (by omega) (oS sa) fun k k1 k2 k3=>?_)))
      dsimp only;by_cases zk:k>0
      ·rw [ae zk]
       have dN:=vE sa sb mi (n:=k) fun i j hi bh hj dc=>bW (gE (k2 i hi)) (df sb hj dc);by_cases w1:(ia+k+1 == a.size)=true
       ·rw [ae w1]
        exact ah (.inl ⟨_,_,rfl,rfl,fc sa sb dN hl (eq_of_beq w1)⟩)
       ·rw [aa w1]
        have rp:ia+k+1≠a.size:=fun e=>w1 (by simp [←e])
        by_cases w2:(ia+k == a.size)=true
        ·rw [ae w2]
         exact ah (.inl ⟨_,_,rfl,rfl,fb sa sb dN (.inr (eq_of_beq w2))⟩)
        ·rw [aa w2]
         have AJ:ia+k≠a.size:=fun e=>w2 (by simp [←e])
         refine ai (aV hb ?_);have bw:=kC sa sb dN hb fun j h1 h2=>by have:=iT (k3 (j-ia) (by omega) (by omega));rw [show ia+(j-ia)=j by omega] at this;exact bP this
         by_cases x1:(ib+1 == b.size)=true
         ·rw [ae x1]
          exact ah (.inl ⟨_,_,rfl,rfl,fb sa sb bw (.inl (eq_of_beq x1))⟩)
         ·rw [aa x1]
          have jz:ib+1≠b.size:=fun e=>x1 (by simp [←e])
          refine ai (aV (by omega) (ai (d7 (f:=fun i=>bB true (key (a.getD (ia+k) nn)) (key (b.getD (ib+1+i) nn))) (fun i hi Q q=>d6 h (by omega) ob (oa _ (by omega)) (di _) q) (by omega) (iU sb) fun k' q1 q2 q3=>?_)))
          dsimp only;by_cases cn:k'>0
          ·rw [ae cn]
           have b6:=oT sa sb bw (n:=k') fun i j hi bh hj dc=>bW (bP (dH (q2 i hi))) (df sa hj dc);by_cases x2:(ib+1+k' == b.size)=true
           ·rw [ae x2]
            exact ah (.inl ⟨_,_,rfl,rfl,fb sa sb b6 (.inl (eq_of_beq x2))⟩)
           ·rw [aa x2]
            have jA:ib+1+k'≠b.size:=fun e=>x2 (by simp [←e])
            refine ai (aV (by omega) ?_)
            have aI:=ig sa sb b6 (by omega) fun j h1 h2=>by have:=d8 (q3 (j-(ib+1)) (by omega) (by omega));rwa [show ib+1+(j-(ib+1))=j by omega] at this
            by_cases y1:(ia+k+1+1 == a.size)=true
            ·rw [ae y1]
             exact ah (.inl ⟨_,_,rfl,rfl,fc sa sb aI hl (eq_of_beq y1)⟩)
            ·rw [aa y1]
             have dO:ia+k+1+1≠a.size:=fun e=>y1 (by simp [←e])
             exact cE (fun _=>ah (.inr ⟨_,_,_,_,_,_,_,rfl,rfl,aI,by omega,by omega,by omega⟩)) (fun _=>ah ⟨_,_,_,_,_,_,_,rfl,rfl,aI,by omega,by omega,by omega⟩)
          ·rw [aa cn]
           obtain rfl:k'=0:=by omega
           refine ai (aV (by omega) ?_)
           have aI:=ig sa sb bw (by omega) fun j h1 h2=>by have:=d8 (q3 (j-(ib+1)) (by omega) (by omega));rwa [show ib+1+(j-(ib+1))=j by omega] at this
           by_cases y1:(ia+k+1+1 == a.size)=true
           ·rw [ae y1]
            exact ah (.inl ⟨_,_,rfl,rfl,fc sa sb aI hl (eq_of_beq y1)⟩)
           ·rw [aa y1]
            have dO:ia+k+1+1≠a.size:=fun e=>y1 (by simp [←e])
            exact cE (fun _=>ah (.inr ⟨_,_,_,_,_,_,_,rfl,rfl,aI,by omega,by omega,by omega⟩)) (fun _=>ah ⟨_,_,_,_,_,_,_,rfl,rfl,aI,by omega,by omega,by omega⟩)
      ·rw [aa zk]
       obtain rfl:k=0:=by omega
       refine ai (aV hb ?_);have bw:=kC sa sb mi hb fun j h1 h2=>by have:=iT (k3 (j-ia) (by omega) (by omega));rw [show ia+(j-ia)=j by omega] at this;exact bP this
       by_cases x1:(ib+1 == b.size)=true
       ·rw [ae x1]
        exact ah (.inl ⟨_,_,rfl,rfl,fb sa sb bw (.inl (eq_of_beq x1))⟩)
       ·rw [aa x1]
        have jz:ib+1≠b.size:=fun e=>x1 (by simp [←e])
        refine ai (aV (by omega) (ai (d7 (f:=fun i=>bB true (key (a.getD (ia) nn)) (key (b.getD (ib+1+i) nn))) (fun i hi Q q=>d6 h (by omega) ob (oa _ (by omega)) (di _) q) (by omega) (iU sb) fun k' q1 q2 q3=>?_)))
        dsimp only;by_cases cn:k'>0
        ·rw [ae cn]
         have b6:=oT sa sb bw (n:=k') fun i j hi bh hj dc=>bW (bP (dH (q2 i hi))) (df sa hj dc);by_cases x2:(ib+1+k' == b.size)=true
         ·rw [ae x2]
          exact ah (.inl ⟨_,_,rfl,rfl,fb sa sb b6 (.inl (eq_of_beq x2))⟩)
         ·rw [aa x2]
          have jA:ib+1+k'≠b.size:=fun e=>x2 (by simp [←e])
          refine ai (aV (by omega) ?_)
          have aI:=ig sa sb b6 (by omega) fun j h1 h2=>by have:=d8 (q3 (j-(ib+1)) (by omega) (by omega));rwa [show ib+1+(j-(ib+1))=j by omega] at this
          by_cases y1:(ia+1+1 == a.size)=true
          ·rw [ae y1]
           exact ah (.inl ⟨_,_,rfl,rfl,fc sa sb aI hl (eq_of_beq y1)⟩)
          ·rw [aa y1]
           have dO:ia+1+1≠a.size:=fun e=>y1 (by simp [←e])
           exact cE (fun _=>ah (.inr ⟨_,_,_,_,_,_,_,rfl,rfl,aI,by omega,by omega,by omega⟩)) (fun _=>ah ⟨_,_,_,_,_,_,_,rfl,rfl,aI,by omega,by omega,by omega⟩)
        ·rw [aa cn]
         obtain rfl:k'=0:=by omega
         refine ai (aV (by omega) ?_)
         have aI:=ig sa sb bw (by omega) fun j h1 h2=>by have:=d8 (q3 (j-(ib+1)) (by omega) (by omega));rwa [show ib+1+(j-(ib+1))=j by omega] at this
         by_cases y1:(ia+1+1 == a.size)=true
         ·rw [ae y1]
          exact ah (.inl ⟨_,_,rfl,rfl,fc sa sb aI hl (eq_of_beq y1)⟩)
         ·rw [aa y1]
          have dO:ia+1+1≠a.size:=fun e=>y1 (by simp [←e])
          exact cE (fun _=>ah (.inr ⟨_,_,_,_,_,_,_,rfl,rfl,aI,by omega,by omega,by omega⟩)) (fun _=>ah ⟨_,_,_,_,_,_,_,rfl,rfl,aI,by omega,by omega,by omega⟩)
    ·rintro c ao ⟨out,i,j,mg,ac,bc,g,rfl,rfl,mi,ha,hb,dJ⟩
     exact .inr ⟨_,_,_,_,_,_,_,rfl,rfl,mi,ha,hb,dJ⟩
    ·rintro c ao (⟨m,g,e,rfl,pm⟩ | ⟨out,i,j,mg,ac,bc,g,rfl,rfl,mi,ha,hb,dJ⟩)
     ·obtain ⟨c1,c2⟩:=c
      dsimp only at e;subst e;exact ah ⟨m,g,rfl,rfl,pm⟩
     ·dsimp only
      exact ai (kB (ah ⟨_,_,_,_,_,rfl,rfl,mi,ha,hb,by omega⟩))
 ·rintro c ao ⟨out,ia,ib,mg,g,rfl,rfl,mi,ha,hb,rn⟩
  exfalso
  omega
 ·rintro c ao ⟨m,g,e,rfl,pm,sm⟩
  obtain ⟨c1,c2⟩:=c;dsimp only at e;subst e;exact ah (q m g pm sm)
end
theorem AK(a b:Array Keyed):rg a b=(do
 rule "list.sort.merge-hi"
 let total:=a.size+b.size
 let done (out:Array Keyed) (na nb:Nat):=a.extract 0 na++b.extract 0 nb++out.reverse
 let oV (out:Array Keyed) (na nb:Nat):=b.extract 0 nb++a.extract 0 na++out.reverse
 let mut na:=a.size-1
 let mut nb:=b.size
 let mut out:Array Keyed:=#[←elem' a na]
 if na == 0 then return done out na nb
 if nb == 1 then return oV out na nb
 let mut minGallop:=gallopOf (←get)
 for _ in [0:total] do
  let mut eJ:=0
  let mut eK:=0
  for _ in [0:total] do
   let some AL ←lt' (←elem' b (nb-1)) (←elem' a (na-1)) | return done out na nb
   if AL then
    na:=na-1;out:=out.push (←elem' a na);eJ:=eJ+1;eK:=0
    if na == 0 then return done out na nb
    if eJ≥minGallop then break
   else
    nb:=nb-1;out:=out.push (←elem' b nb);eK:=eK+1;eJ:=0
    if nb == 1 then return oV out na nb
    if eK≥minGallop then break
  rule "list.sort.gallop"
  minGallop:=minGallop+1
  for _ in [0:total] do
   if minGallop>1 then minGallop:=minGallop-1
   mP minGallop
   let some at_ ←iS false (←elem' b (nb-1)) a 0 na (na-1) | return done out na nb
   let k:=na-at_
   eJ:=k
   if k>0 then
    out:=out++(a.extract at_ na).reverse;na:=at_
    if na == 0 then return done out na nb
   nb:=nb-1;out:=out.push (←elem' b nb)
   if nb == 1 then return oV out na nb
   let some at_ ←iS true (←elem' a (na-1)) b 0 nb (nb-1) | return done out na nb
   let k:=nb-at_
   eK:=k
   if k>0 then
    out:=out++(b.extract at_ nb).reverse;nb:=at_
    if nb == 1 then return oV out na nb
    if nb == 0 then return done out na nb
   na:=na-1;out:=out.push (←elem' a na)
   if na == 0 then return done out na nb
   if eJ<7 && eK<7 then break
  minGallop:=minGallop+1
  mP minGallop
 unsupported "internal:list.sort.merge-bound"):=rfl
section
variable {key:Keyed→Int}
theorem kD(h:aR key l):aR (fun x=>-key x) l.reverse:=by unfold aR;rw [List.pairwise_reverse];exact List.Pairwise.imp (fun h=>Int.neg_le_neg h) h
theorem vF(h:aR (fun x=>-key x) l):aR key l.reverse:=by unfold aR;rw [List.pairwise_reverse];exact List.Pairwise.imp (fun h=>Int.le_of_neg_le_neg h) h
variable {a:Array Keyed} {n:Nat}
theorem fL(h:n≤a.size):a.toList.reverse.drop (a.size-n)=(a.extract 0 n).toList.reverse:=by rw [List.drop_reverse,e_,List.drop_zero,Nat.sub_zero,fq,show a.size-(a.size-n)=n by omega]
theorem oW{m:Nat}(h:n≤a.size)(hm:m≤n):(a.toList.reverse.drop (a.size-n)).take (n-m)=(a.extract m n).reverse.toList:=by rw [fL h,nI,e_,e_,List.drop_zero,Nat.sub_zero,List.take_reverse,nE,fq,show min n a.size-(n-m)=m by omega,List.drop_take]
theorem ik{m:Nat}(h:n≤a.size){x:Keyed}(hx:x∈(a.extract m n).toList):∃j,m≤j∧j<n∧x=a.getD j nn:=by rw [e_] at hx;obtain ⟨j,h1,h2,rfl⟩:=rm hx;exact ⟨m+j,by omega,by omega,rfl⟩
theorem vG(h:n≤a.size)(h1:1≤n):(a.extract (n-1) n).reverse.toList=[a.getD (n-1) nn]:=by
 rw [nI,e_,show n-(n-1)=1 by omega,mS (by omega)]
 rfl
def MH(key:Keyed→Int)(a b out:Array Keyed)(na nb:Nat):Prop:=MI (fun x=>-key x) a.toList.reverse b.toList.reverse out.toList (a.size-na) (b.size-nb)∧na≤a.size∧nb≤b.size
variable {a b:Array Keyed} (sa:aR key a.toList) (sb:aR key b.toList) {out:Array Keyed} {na nb:Nat}
include sa sb
variable {k:Nat}
theorem rq(m:MH key a b out na nb)(hk:k≤na)(c:∀i j,k≤i→i<na→j<nb→key (b.getD j nn)≤key (a.getD i nn)):MH key a b (out++(a.extract k na).reverse) k nb:=by
 obtain ⟨m,ha,hb⟩:=m;refine ⟨?_,by omega,hb⟩
 have:=m.oP (kD sa) (na-k) fun x hx y hy=>by rw [oW ha hk,nI,iD] at hx;rw [fL hb,iD] at hy;obtain ⟨i,i1,i2,rfl⟩:=ik ha hx;obtain ⟨j,j1,j2,rfl⟩:=ik hb hy;have:=c i j i1 i2 j2;omega
 rw [oW ha hk,show a.size-na+(na-k)=a.size-k by omega] at this
 rw [fY];exact this
theorem mT(m:MH key a b out na nb)(hk:k≤nb)(c:∀i j,k≤i→i<nb→j<na→key (a.getD j nn)≤key (b.getD i nn)):MH key a b (out++(b.extract k nb).reverse) na k:=by
 obtain ⟨m,ha,hb⟩:=m;refine ⟨?_,ha,by omega⟩
 have:=m.rj (kD sb) (nb-k) fun x hx y hy=>by rw [oW hb hk,nI,iD] at hx;rw [fL ha,iD] at hy;obtain ⟨i,i1,i2,rfl⟩:=ik hb hx;obtain ⟨j,j1,j2,rfl⟩:=ik ha hy;have:=c i j i1 i2 j2;omega
 rw [oW hb hk,show b.size-nb+(nb-k)=b.size-k by omega] at this
 rw [fY];exact this
theorem gF(m:MH key a b out na nb)(h1:1≤na)(c:∀j,j<nb→key (b.getD j nn)≤key (a.getD (na-1) nn)):MH key a b (out.push (a.getD (na-1) nn)) (na-1) nb:=by
 have:=rq sa sb m (k:=na-1) (by omega) fun i j i1 i2 j1=>by
  rw [show i=na-1 by omega]
  exact c j j1
 have e:out++(a.extract (na-1) na).reverse=out.push (a.getD (na-1) nn):=by apply Array.toList_inj.mp;rw [fY,vG m.2.1 h1,iC]
 rw [e] at this;exact this
theorem mU(m:MH key a b out na nb)(h1:1≤nb)(c:∀j,j<na→key (a.getD j nn)≤key (b.getD (nb-1) nn)):MH key a b (out.push (b.getD (nb-1) nn)) na (nb-1):=by
 have:=mT sa sb m (k:=nb-1) (by omega) fun i j i1 i2 j1=>by
  rw [show i=nb-1 by omega]
  exact c j j1
 have e:out++(b.extract (nb-1) nb).reverse=out.push (b.getD (nb-1) nn):=by apply Array.toList_inj.mp;rw [fY,vG m.2.2 h1,iC]
 rw [e] at this;exact this
theorem dw(m:MH key a b out na nb)(e:na=0∨nb=0):(a.extract 0 na++b.extract 0 nb++out.reverse).toList.Perm (a.toList++b.toList)∧aR key (a.extract 0 na++b.extract 0 nb++out.reverse).toList:=by
 obtain ⟨m,ha,hb⟩:=m;have:=m.vC (kD sa) (kD sb) fun x hx y hy=>by rw [fL ha,iD] at hx;rw [fL hb,iD] at hy;obtain ⟨i,i1,i2,_⟩:=ik ha hx;obtain ⟨j,j1,j2,_⟩:=ik hb hy;omega
 rw [fL ha,fL hb] at this;have er:(a.extract 0 na++b.extract 0 nb++out.reverse).toList=(out.toList++(b.extract 0 nb).toList.reverse++(a.extract 0 na).toList.reverse).reverse:=by simp
 rw [er];refine ⟨(kf _).trans (this.1.trans ?_),vF this.2⟩;exact (kf _).append (kf _)
theorem gG(m:MH key a b out na nb)(h0:∀x∈a.toList,key (b.getD 0 nn)≤key x)(e:nb=1):(b.extract 0 nb++a.extract 0 na++out.reverse).toList.Perm (a.toList++b.toList)∧aR key (b.extract 0 nb++a.extract 0 na++out.reverse).toList:=by
 obtain ⟨m,ha,hb⟩:=m;have:=m.done (kD sa) (kD sb) fun x hx y hy=>by
  rw [fL ha,iD] at hx;rw [fL hb,iD] at hy;obtain ⟨i,i1,i2,rfl⟩:=ik ha hx;obtain ⟨j,j1,j2,rfl⟩:=ik hb hy;have:=h0 (a.getD i nn) (by simp [Array.getD,show i<a.size by omega])
  rw [show j=0 by omega]
  omega
 rw [fL ha,fL hb] at this;have er:(b.extract 0 nb++a.extract 0 na++out.reverse).toList=(out.toList++(a.extract 0 na).toList.reverse++(b.extract 0 nb).toList.reverse).reverse:=by simp
 rw [er];refine ⟨(kf _).trans (this.1.trans ?_),vF this.2⟩;exact (kf _).append (kf _)
end
section
variable {prog:Program} {w:World} {A:Around} {E:ay} {s:Shared} {κ:SortKind} {key:Keyed→Int} {Ok:Keyed→Prop}
theorem AM(h:e9 prog w A s κ key Ok){a b:Array Keyed}(oa:cX Ok a)(ob:cX Ok b)(sa:aR key a.toList)(sb:aR key b.toList)(a1:1≤a.size)(b1:1≤b.size)
  (h0:∀x∈a.toList,key (b.getD 0 nn)≤key x) (hl:∀y∈b.toList,key y≤key (a.getD (a.size-1) nn)) {st:SortSt} (hk:kindOf st=κ) {Q:Array Keyed→SortSt→Prop}
  (q:∀m g,m.toList.Perm (a.toList++b.toList)→aR key m.toList→Q m (setG st g)):wpS (model prog w) A E s (rg a b) Q st:=by
 rw [AK];refine ai (wpS_lift (eS ⟨rfl,?_⟩));refine ai (aV (by omega) ?_)
 dsimp only;have m0:MH key a b (#[a.getD (a.size-1) nn]:Array Keyed) (a.size-1) b.size:=by
  have:MH key a b (#[]:Array Keyed) a.size b.size:=⟨⟨by simp,List.Pairwise.nil,fun x hx=>by simp at hx,fun x hx=>by simp at hx⟩,aA _,aA _⟩
  exact gF sa sb this a1 fun j hj=>hl _ (by simp [Array.getD,hj])
 have di:∀g,kindOf (setG st g)=κ:=fun _=>hk;by_cases e1:(a.size-1 == 0)=true
 ·rw [ae e1]
  have:=dw sa sb m0 (.inl (eq_of_beq e1));exact ah (q _ (gallopOf st) this.1 this.2)
 rw [aa e1];by_cases e2:(b.size == 1)=true
 ·rw [ae e2]
  have:=gG sa sb m0 h0 (eq_of_beq e2);exact ah (q _ (gallopOf st) this.1 this.2)
 rw [aa e2];have a2:1≤a.size-1:=by
  have:a.size-1≠0:=fun e=>e1 (by simp [e])
  omega
 have b2:2≤b.size:=by
  have:b.size≠1:=fun e=>e2 (by simp [e])
  omega
 refine ai (en ?_)
 refine ai (dg (cZ (I:=fun x c ao=>∃(out:Array Keyed) (na nb mg g:Nat),c=(none,na,nb,out,mg)∧ao=setG st g∧MH key a b out na nb∧1≤na∧2≤nb∧x+na+nb≤a.size+b.size)
  (Q:=fun c ao=>∃(m:Array Keyed) (g:Nat),c.1=some m∧ao=setG st g∧m.toList.Perm (a.toList++b.toList)∧aR key m.toList) ?_ ?_ ⟨_,a.size-1,b.size,_,gallopOf st,rfl,rfl,m0,a2,b2,show 0+(a.size-1)+b.size≤a.size+b.size by omega⟩) ?_)
 ·rintro x c ao _ hx ⟨out,na,nb,mg,g,rfl,rfl,mi,ha,hb,rn⟩
  dsimp only
  refine ai (dg (cZ (I:=fun y c ao=>∃(out:Array Keyed) (aS bo ac bc:Nat),c=(none,aS,bo,out,ac,bc)∧ao=setG st g∧MH key a b out aS bo∧1≤aS∧2≤bo∧y+aS+bo≤na+nb)
   (Q:=fun c ao=>ao=setG st g∧((∃m:Array Keyed,c.1=some m∧m.toList.Perm (a.toList++b.toList)∧aR key m.toList)∨∃(out:Array Keyed) (aS bo ac bc:Nat),c=(none,aS,bo,out,ac,bc)∧MH key a b out aS bo∧1≤aS∧2≤bo∧1+aS+bo≤na+nb)) ?_ ?_ ⟨_,na,nb,_,_,rfl,rfl,mi,ha,hb,show 0+na+nb≤na+nb by omega⟩) ?_)
  ·rintro y c ao _ hy ⟨out,aS,bo,ac,bc,rfl,rfl,mi,ha,hb,dJ⟩
   have AN:=mi.2.1;have jr:=mi.2.2;dsimp only;refine ai (aV (by omega) (ai (aV (by omega) (ai (mR h (ob (bo-1) (by omega)) (oa (aS-1) (by omega)) (di _) ?_)))))
   dsimp only;by_cases z:key (b.getD (bo-1) nn)<key (a.getD (aS-1) nn)
   ·rw [aG z,ae rfl]
    refine ai (aV (by omega) ?_)
    have dM:=gF sa sb mi ha fun j hj=>bW (df sb (by omega) (by omega)) (bP z)
    by_cases z1:(aS-1 == 0)=true
    ·rw [ae z1]
     exact ah ⟨rfl,.inl ⟨_,rfl,dw sa sb dM (.inl (eq_of_beq z1))⟩⟩
    ·rw [aa z1]
     have oU:aS-1≠0:=fun e=>z1 (by simp [e])
     exact cE (fun _=>ah ⟨rfl,.inr ⟨_,_,_,_,_,rfl,dM,by omega,hb,by omega⟩⟩) (fun _=>ah ⟨_,_,_,_,_,rfl,rfl,dM,by omega,hb,by omega⟩)
   ·rw [bp z,aa (by simp)]
    refine ai (aV (by omega) ?_)
    have dM:=mU sa sb mi (by omega) fun j hj=>bW (df sa (by omega) (by omega)) (Int.not_lt.mp z)
    by_cases z1:(bo-1 == 1)=true
    ·rw [ae z1]
     exact ah ⟨rfl,.inl ⟨_,rfl,gG sa sb dM h0 (eq_of_beq z1)⟩⟩
    ·rw [aa z1]
     have oU:bo-1≠1:=fun e=>z1 (by simp [e])
     exact cE (fun _=>ah ⟨rfl,.inr ⟨_,_,_,_,_,rfl,dM,ha,by omega,by omega⟩⟩) (fun _=>ah ⟨_,_,_,_,_,rfl,rfl,dM,ha,by omega,by omega⟩)
  ·rintro c ao ⟨out,aS,bo,ac,bc,rfl,rfl,mi,ha,hb,dJ⟩
   exact ⟨rfl,.inr ⟨_,_,_,_,_,rfl,mi,ha,hb,by omega⟩⟩
  ·rintro c ao ⟨rfl,⟨m,e,pm⟩ | ⟨out,aS,bo,ac,bc,rfl,mi,ha,hb,dJ⟩⟩
   ·obtain ⟨c1,c2⟩:=c
    dsimp only at e;subst e;exact ah ⟨m,g,rfl,rfl,pm⟩
   ·dsimp only
    refine ai (wpS_lift (eS ⟨rfl,?_⟩))
    refine ai (dg (cZ (I:=fun y c ao=>∃(out:Array Keyed) (i j mg ac bc g:Nat),c=(none,i,j,out,mg,ac,bc)∧ao=setG st g∧MH key a b out i j∧1≤i∧2≤j∧x+1+i+j≤a.size+b.size)
     (Q:=fun c ao=>(∃(m:Array Keyed) (g:Nat),c.1=some m∧ao=setG st g∧m.toList.Perm (a.toList++b.toList)∧aR key m.toList)∨∃(out:Array Keyed) (i j mg ac bc g:Nat),c=(none,i,j,out,mg,ac,bc)∧ao=setG st g∧MH key a b out i j∧1≤i∧2≤j∧x+1+i+j≤a.size+b.size) ?_ ?_ ⟨_,aS,bo,_,_,_,g,rfl,rfl,mi,ha,hb,by omega⟩) ?_)
    ·clear mi ha hb dJ
     rintro y c ao _ hy ⟨out,na,nb,mg,ac,bc,g,rfl,rfl,mi,ha,hb,dJ⟩;have AN:=mi.2.1;have jr:=mi.2.2;dsimp only;rcases Nat.lt_or_ge 1 mg with zm | zm
     ·rw [ae zm]
      refine ai (kB ?_);refine ai (aV (by omega) (ai (d7 (f:=fun i=>bB false (key (b.getD (nb-1) nn)) (key (a.getD (0+i) nn))) (fun i hi Q q=>d6 h (by omega) oa (ob _ (by omega)) (di _) q) (by omega) (fun i j h1 h2 h3=>oS sa (o:=0) i j h1 (by omega) h3) fun k k1 k2 k3=>?_)))
      dsimp only;by_cases zk:na-k>0
      ·rw [ae zk]
       have dN:=rq sa sb mi (k:=k) k1 fun i j hi bh hj=>by have:=iT (k3 i hi bh);rw [c0] at this;exact bW (df sb (by omega) (by omega)) (bP this)
       by_cases w1:(k == 0)=true
       ·rw [ae w1]
        exact ah (.inl ⟨_,_,rfl,rfl,dw sa sb dN (.inl (eq_of_beq w1))⟩)
       ·rw [aa w1]
        have rp:k≠0:=fun e=>w1 (by simp [e])
        refine ai (aV (by have:=dN.2.2;omega) ?_)
        have bw:=mU sa sb dN (by omega) fun j h1=>by have:=gE (k2 j h1);rw [c0] at this;exact this
        by_cases x1:(nb-1 == 1)=true
        ·rw [ae x1]
         exact ah (.inl ⟨_,_,rfl,rfl,gG sa sb bw h0 (eq_of_beq x1)⟩)
        ·rw [aa x1]
         have jz:nb-1≠1:=fun e=>x1 (by simp [e])
         have jr:=bw.2.2;refine ai (aV (by omega) (ai (d7 (f:=fun i=>bB true (key (a.getD (k-1) nn)) (key (b.getD (0+i) nn))) (fun i hi Q q=>d6 h (by omega) ob (oa _ (by omega)) (di _) q) (by omega) (fun i j h1 h2 h3=>iU sb (o:=0) i j h1 (by omega) h3) fun k' q1 q2 q3=>?_)))
         dsimp only;by_cases cn:nb-1-k'>0
         ·rw [ae cn]
          have b6:=mT sa sb bw (k:=k') q1 fun i j hi bh hj=>by have:=d8 (q3 i hi bh);rw [c0] at this;exact bW (df sa (by omega) (by omega)) this
          by_cases x2:(k' == 1)=true
          ·rw [ae x2]
           exact ah (.inl ⟨_,_,rfl,rfl,gG sa sb b6 h0 (eq_of_beq x2)⟩)
          ·rw [aa x2]
           have jA:k'≠1:=fun e=>x2 (by simp [e])
           by_cases x3:(k' == 0)=true
           ·rw [ae x3]
            exact ah (.inl ⟨_,_,rfl,rfl,dw sa sb b6 (.inr (eq_of_beq x3))⟩)
           ·rw [aa x3]
            have rz:k'≠0:=fun e=>x3 (by simp [e])
            refine ai (aV (by omega) ?_)
            have aI:=gF sa sb b6 (by omega) fun j h1=>by have:=dH (q2 j h1);rw [c0] at this;exact bP this
            by_cases y1:(k-1 == 0)=true
            ·rw [ae y1]
             exact ah (.inl ⟨_,_,rfl,rfl,dw sa sb aI (.inl (eq_of_beq y1))⟩)
            ·rw [aa y1]
             have dO:k-1≠0:=fun e=>y1 (by simp [e])
             exact cE (fun _=>ah (.inr ⟨_,_,_,_,_,_,_,rfl,rfl,aI,by omega,by omega,by omega⟩)) (fun _=>ah ⟨_,_,_,_,_,_,_,rfl,rfl,aI,by omega,by omega,by omega⟩)
         ·rw [aa cn]
          obtain rfl:k'=nb-1:=by omega
          refine ai (aV (by omega) ?_)
          have aI:=gF sa sb bw (by omega) fun j h1=>by have:=dH (q2 j h1);rw [c0] at this;exact bP this
          by_cases y1:(k-1 == 0)=true
          ·rw [ae y1]
           exact ah (.inl ⟨_,_,rfl,rfl,dw sa sb aI (.inl (eq_of_beq y1))⟩)
          ·rw [aa y1]
           have dO:k-1≠0:=fun e=>y1 (by simp [e])
           exact cE (fun _=>ah (.inr ⟨_,_,_,_,_,_,_,rfl,rfl,aI,by omega,by omega,by omega⟩)) (fun _=>ah ⟨_,_,_,_,_,_,_,rfl,rfl,aI,by omega,by omega,by omega⟩)
      ·rw [aa zk]
       obtain rfl:k=na:=by omega
       refine ai (aV (by have:=mi.2.2;omega) ?_)
       have bw:=mU sa sb mi (by omega) fun j h1=>by have:=gE (k2 j h1);rw [c0] at this;exact this
       by_cases x1:(nb-1 == 1)=true
       ·rw [ae x1]
        exact ah (.inl ⟨_,_,rfl,rfl,gG sa sb bw h0 (eq_of_beq x1)⟩)
       ·rw [aa x1]
        have jz:nb-1≠1:=fun e=>x1 (by simp [e])
        have jr:=bw.2.2;refine ai (aV (by omega) (ai (d7 (f:=fun i=>bB true (key (a.getD (k-1) nn)) (key (b.getD (0+i) nn))) (fun i hi Q q=>d6 h (by omega) ob (oa _ (by omega)) (di _) q) (by omega) (fun i j h1 h2 h3=>iU sb (o:=0) i j h1 (by omega) h3) fun k' q1 q2 q3=>?_)))
        dsimp only;by_cases cn:nb-1-k'>0
        ·rw [ae cn]
         have b6:=mT sa sb bw (k:=k') q1 fun i j hi bh hj=>by have:=d8 (q3 i hi bh);rw [c0] at this;exact bW (df sa (by omega) (by omega)) this
         by_cases x2:(k' == 1)=true
         ·rw [ae x2]
          exact ah (.inl ⟨_,_,rfl,rfl,gG sa sb b6 h0 (eq_of_beq x2)⟩)
         ·rw [aa x2]
          have jA:k'≠1:=fun e=>x2 (by simp [e])
          by_cases x3:(k' == 0)=true
          ·rw [ae x3]
           exact ah (.inl ⟨_,_,rfl,rfl,dw sa sb b6 (.inr (eq_of_beq x3))⟩)
          ·rw [aa x3]
           have rz:k'≠0:=fun e=>x3 (by simp [e])
           refine ai (aV (by omega) ?_)
           have aI:=gF sa sb b6 (by omega) fun j h1=>by have:=dH (q2 j h1);rw [c0] at this;exact bP this
           by_cases y1:(k-1 == 0)=true
           ·rw [ae y1]
            exact ah (.inl ⟨_,_,rfl,rfl,dw sa sb aI (.inl (eq_of_beq y1))⟩)
           ·rw [aa y1]
            have dO:k-1≠0:=fun e=>y1 (by simp [e])
            exact cE (fun _=>ah (.inr ⟨_,_,_,_,_,_,_,rfl,rfl,aI,by omega,by omega,by omega⟩)) (fun _=>ah ⟨_,_,_,_,_,_,_,rfl,rfl,aI,by omega,by omega,by omega⟩)
        ·rw [aa cn]
         obtain rfl:k'=nb-1:=by omega
         refine ai (aV (by omega) ?_)
         have aI:=gF sa sb bw (by omega) fun j h1=>by have:=dH (q2 j h1);rw [c0] at this;exact bP this
         by_cases y1:(k-1 == 0)=true
         ·rw [ae y1]
          exact ah (.inl ⟨_,_,rfl,rfl,dw sa sb aI (.inl (eq_of_beq y1))⟩)
         ·rw [aa y1]
          have dO:k-1≠0:=fun e=>y1 (by simp [e])
          exact cE (fun _=>ah (.inr ⟨_,_,_,_,_,_,_,rfl,rfl,aI,by omega,by omega,by omega⟩)) (fun _=>ah ⟨_,_,_,_,_,_,_,rfl,rfl,aI,by omega,by omega,by omega⟩)
     ·rw [aa (by omega)]
      refine ai (kB ?_);refine ai (aV (by omega) (ai (d7 (f:=fun i=>bB false (key (b.getD (nb-1) nn)) (key (a.getD (0+i) nn))) (fun i hi Q q=>d6 h (by omega) oa (ob _ (by omega)) (di _) q) (by omega) (fun i j h1 h2 h3=>oS sa (o:=0) i j h1 (by omega) h3) fun k k1 k2 k3=>?_)))
      dsimp only;by_cases zk:na-k>0
      ·rw [ae zk]
       have dN:=rq sa sb mi (k:=k) k1 fun i j hi bh hj=>by have:=iT (k3 i hi bh);rw [c0] at this;exact bW (df sb (by omega) (by omega)) (bP this)
       by_cases w1:(k == 0)=true
       ·rw [ae w1]
        exact ah (.inl ⟨_,_,rfl,rfl,dw sa sb dN (.inl (eq_of_beq w1))⟩)
       ·rw [aa w1]
        have rp:k≠0:=fun e=>w1 (by simp [e])
        refine ai (aV (by have:=dN.2.2;omega) ?_)
        have bw:=mU sa sb dN (by omega) fun j h1=>by have:=gE (k2 j h1);rw [c0] at this;exact this
        by_cases x1:(nb-1 == 1)=true
        ·rw [ae x1]
         exact ah (.inl ⟨_,_,rfl,rfl,gG sa sb bw h0 (eq_of_beq x1)⟩)
        ·rw [aa x1]
         have jz:nb-1≠1:=fun e=>x1 (by simp [e])
         have jr:=bw.2.2;refine ai (aV (by omega) (ai (d7 (f:=fun i=>bB true (key (a.getD (k-1) nn)) (key (b.getD (0+i) nn))) (fun i hi Q q=>d6 h (by omega) ob (oa _ (by omega)) (di _) q) (by omega) (fun i j h1 h2 h3=>iU sb (o:=0) i j h1 (by omega) h3) fun k' q1 q2 q3=>?_)))
         dsimp only;by_cases cn:nb-1-k'>0
         ·rw [ae cn]
          have b6:=mT sa sb bw (k:=k') q1 fun i j hi bh hj=>by have:=d8 (q3 i hi bh);rw [c0] at this;exact bW (df sa (by omega) (by omega)) this
          by_cases x2:(k' == 1)=true
          ·rw [ae x2]
           exact ah (.inl ⟨_,_,rfl,rfl,gG sa sb b6 h0 (eq_of_beq x2)⟩)
          ·rw [aa x2]
           have jA:k'≠1:=fun e=>x2 (by simp [e])
           by_cases x3:(k' == 0)=true
           ·rw [ae x3]
            exact ah (.inl ⟨_,_,rfl,rfl,dw sa sb b6 (.inr (eq_of_beq x3))⟩)
           ·rw [aa x3]
            have rz:k'≠0:=fun e=>x3 (by simp [e])
            refine ai (aV (by omega) ?_)
            have aI:=gF sa sb b6 (by omega) fun j h1=>by have:=dH (q2 j h1);rw [c0] at this;exact bP this
            by_cases y1:(k-1 == 0)=true
            ·rw [ae y1]
             exact ah (.inl ⟨_,_,rfl,rfl,dw sa sb aI (.inl (eq_of_beq y1))⟩)
            ·rw [aa y1]
             have dO:k-1≠0:=fun e=>y1 (by simp [e])
             exact cE (fun _=>ah (.inr ⟨_,_,_,_,_,_,_,rfl,rfl,aI,by omega,by omega,by omega⟩)) (fun _=>ah ⟨_,_,_,_,_,_,_,rfl,rfl,aI,by omega,by omega,by omega⟩)
         ·rw [aa cn]
          obtain rfl:k'=nb-1:=by omega
          refine ai (aV (by omega) ?_)
          have aI:=gF sa sb bw (by omega) fun j h1=>by have:=dH (q2 j h1);rw [c0] at this;exact bP this
          by_cases y1:(k-1 == 0)=true
          ·rw [ae y1]
           exact ah (.inl ⟨_,_,rfl,rfl,dw sa sb aI (.inl (eq_of_beq y1))⟩)
          ·rw [aa y1]
           have dO:k-1≠0:=fun e=>y1 (by simp [e])
           exact cE (fun _=>ah (.inr ⟨_,_,_,_,_,_,_,rfl,rfl,aI,by omega,by omega,by omega⟩)) (fun _=>ah ⟨_,_,_,_,_,_,_,rfl,rfl,aI,by omega,by omega,by omega⟩)
      ·rw [aa zk]
       obtain rfl:k=na:=by omega
       refine ai (aV (by have:=mi.2.2;omega) ?_)
       have bw:=mU sa sb mi (by omega) fun j h1=>by have:=gE (k2 j h1);rw [c0] at this;exact this
       by_cases x1:(nb-1 == 1)=true
       ·rw [ae x1]
        exact ah (.inl ⟨_,_,rfl,rfl,gG sa sb bw h0 (eq_of_beq x1)⟩)
       ·rw [aa x1]
        have jz:nb-1≠1:=fun e=>x1 (by simp [e])
        have jr:=bw.2.2;refine ai (aV (by omega) (ai (d7 (f:=fun i=>bB true (key (a.getD (k-1) nn)) (key (b.getD (0+i) nn))) (fun i hi Q q=>d6 h (by omega) ob (oa _ (by omega)) (di _) q) (by omega) (fun i j h1 h2 h3=>iU sb (o:=0) i j h1 (by omega) h3) fun k' q1 q2 q3=>?_)))
        dsimp only;by_cases cn:nb-1-k'>0
        ·rw [ae cn]
         have b6:=mT sa sb bw (k:=k') q1 fun i j hi bh hj=>by have:=d8 (q3 i hi bh);rw [c0] at this;exact bW (df sa (by omega) (by omega)) this
         by_cases x2:(k' == 1)=true
         ·rw [ae x2]
          exact ah (.inl ⟨_,_,rfl,rfl,gG sa sb b6 h0 (eq_of_beq x2)⟩)
         ·rw [aa x2]
          have jA:k'≠1:=fun e=>x2 (by simp [e])
          by_cases x3:(k' == 0)=true
          ·rw [ae x3]
           exact ah (.inl ⟨_,_,rfl,rfl,dw sa sb b6 (.inr (eq_of_beq x3))⟩)
          ·rw [aa x3]
           have rz:k'≠0:=fun e=>x3 (by simp [e])
           refine ai (aV (by omega) ?_)
           have aI:=gF sa sb b6 (by omega) fun j h1=>by have:=dH (q2 j h1);rw [c0] at this;exact bP this
           by_cases y1:(k-1 == 0)=true
           ·rw [ae y1]
            exact ah (.inl ⟨_,_,rfl,rfl,dw sa sb aI (.inl (eq_of_beq y1))⟩)
           ·rw [aa y1]
            have dO:k-1≠0:=fun e=>y1 (by simp [e])
            exact cE (fun _=>ah (.inr ⟨_,_,_,_,_,_,_,rfl,rfl,aI,by omega,by omega,by omega⟩)) (fun _=>ah ⟨_,_,_,_,_,_,_,rfl,rfl,aI,by omega,by omega,by omega⟩)
        ·rw [aa cn]
         obtain rfl:k'=nb-1:=by omega
         refine ai (aV (by omega) ?_)
         have aI:=gF sa sb bw (by omega) fun j h1=>by have:=dH (q2 j h1);rw [c0] at this;exact bP this
         by_cases y1:(k-1 == 0)=true
         ·rw [ae y1]
          exact ah (.inl ⟨_,_,rfl,rfl,dw sa sb aI (.inl (eq_of_beq y1))⟩)
         ·rw [aa y1]
          have dO:k-1≠0:=fun e=>y1 (by simp [e])
          exact cE (fun _=>ah (.inr ⟨_,_,_,_,_,_,_,rfl,rfl,aI,by omega,by omega,by omega⟩)) (fun _=>ah ⟨_,_,_,_,_,_,_,rfl,rfl,aI,by omega,by omega,by omega⟩)
    ·rintro c ao ⟨out,i,j,mg,ac,bc,g,rfl,rfl,mi,ha,hb,dJ⟩
     exact .inr ⟨_,_,_,_,_,_,_,rfl,rfl,mi,ha,hb,dJ⟩
    ·rintro c ao (⟨m,g,e,rfl,pm⟩ | ⟨out,i,j,mg,ac,bc,g,rfl,rfl,mi,ha,hb,dJ⟩)
     ·obtain ⟨c1,c2⟩:=c
      dsimp only at e;subst e;exact ah ⟨m,g,rfl,rfl,pm⟩
     ·dsimp only
      exact ai (kB (ah ⟨_,_,_,_,_,rfl,rfl,mi,ha,hb,by omega⟩))
 ·rintro c ao ⟨out,ia,ib,mg,g,rfl,rfl,mi,ha,hb,rn⟩
  exfalso
  omega
 ·rintro c ao ⟨m,g,e,rfl,pm,sm⟩
  obtain ⟨c1,c2⟩:=c;dsimp only at e;subst e;exact ah (q m g pm sm)
end
section
variable {prog:Program} {w:World} {A:Around} {E:ay} {s:Shared} {κ:SortKind} {key:Keyed→Int} {Ok:Keyed→Prop}
def vA(key:Keyed→Int)(arr:Array Keyed)(i:Nat):Int:=key (arr.getD i nn)
def bI(key:Keyed→Int)(arr:Array Keyed)(lo hi:Nat):Prop:=∀i j,lo≤i→i≤j→j<hi→vA key arr i≤vA key arr j
def fe(key:Keyed→Int)(arr:Array Keyed)(lo hi:Nat):Prop:=∀i j,lo≤i→i≤j→j<hi→vA key arr j≤vA key arr i
structure Rl (arr aF:Array Keyed) (lo hi:Nat):Prop where
 pm:aF.Perm arr
 out:∀k,k<lo∨hi≤k→aF[k]?=arr[k]?
theorem Rl.refl(arr:Array Keyed)(lo hi:Nat):Rl arr arr lo hi:=⟨Array.Perm.refl _,fun _ _=>rfl⟩
variable {arr aF:Array Keyed} {lo hi:Nat}
theorem Rl.trans{av:Array Keyed}(h:Rl arr aF lo hi)(h':Rl aF av lo hi):Rl arr av lo hi:=⟨h'.pm.trans h.pm,fun k hk=>(h'.out k hk).trans (h.out k hk)⟩
theorem Rl.size(h:Rl arr aF lo hi):aF.size=arr.size:=h.pm.size_eq
theorem Rl.wide{vH bh:Nat}(h:Rl arr aF lo hi)(h1:vH≤lo)(h2:hi≤bh):Rl arr aF vH bh:=⟨h.pm,fun k hk=>h.out k (by omega)⟩
theorem fM(arr:Array Keyed)(i:Nat):arr.getD i nn=arr[i]?.getD nn:=by by_cases z:i<arr.size <;> simp [Array.getD,z]
variable {k:Nat}
theorem Rl.v(h:Rl arr aF lo hi)(hk:k<lo∨hi≤k):vA key aF k=vA key arr k:=by unfold vA;rw [fM,fM,h.out k hk]
theorem kE(h:cX Ok arr)(p:aF.Perm arr):cX Ok aF:=fun i hi=>by
 have e:aF.getD i nn=aF[i]:=by simp [Array.getD,hi]
 rw [e];have m:aF[i]∈arr:=(Array.Perm.mem_iff p).mp (Array.getElem_mem hi);obtain ⟨j,hj,ej⟩:=Array.getElem_of_mem m;rw [←ej];have:=h j hj;simpa [Array.getD,hj] using this
theorem Rl.ok(h:Rl arr aF lo hi)(ok:cX Ok arr):cX Ok aF:=kE ok h.pm
theorem fN(hj:j≤arr.size):Rl arr (mirror arr i j ((j-i) / 2)) i j:=⟨mirror_perm ..,fun k hk=>by rw [getElem?_mirror_all hj,aa (by omega)]⟩
theorem oX(hj:j≤arr.size)(h1:i≤k)(h2:k<j):vA key (mirror arr i j ((j-i) / 2)) k=vA key arr (i+j-1-k):=by unfold vA;rw [fM,fM,getElem?_mirror_all hj,ae ⟨h1,h2⟩]
abbrev aO (κ:SortKind) (arr:Array Keyed) (pend:Array (Nat×Nat×Nat)) (g:Nat):SortSt:=SortSt.mk' κ arr pend g none
variable {arr:Array Keyed} {pend:Array (Nat×Nat×Nat)} {g:Nat}
theorem fO(h:e9 prog w A s κ key Ok)(ok:cX Ok arr)(hi:i<arr.size)(hj:j<arr.size){Q:Option Bool→SortSt→Prop}(q:Q (some (decide (vA key arr i<vA key arr j))) (aO κ arr pend g)):wpS (model prog w) A E s (ltAt' i j) Q (aO κ arr pend g):=by rw [ltAt'_eq];refine ai (en ?_);exact ai (aV hi (ai (aV hj (mR h (ok _ hi) (ok _ hj) rfl q))))
theorem il{Q:Unit→SortSt→Prop}(q:Q () (aO κ (mirror arr i j ((j-i) / 2)) pend g)):wpS (model prog w) A E s (reverseSlice' i j) Q (aO κ arr pend g):=by rw [reverseSlice'_eq];exact fv q
variable {n:Nat}
theorem bI.more(h:bI key arr lo (lo+n))(n1:1≤n)(c:vA key arr (lo+n-1)≤vA key arr (lo+n)):bI key arr lo (lo+(n+1)):=fun i j h1 h2 h3=>by
 by_cases z:j<lo+n;·exact h i j h1 h2 z
 ·obtain rfl:j=lo+n:=by omega
  by_cases y:i=lo+n;·rw [y];exact gT _
  ·exact bW (h i (lo+n-1) h1 (by omega) (by omega)) c
theorem fe.more(h:fe key arr lo (lo+n))(n1:1≤n)(c:vA key arr (lo+n)≤vA key arr (lo+n-1)):fe key arr lo (lo+(n+1)):=fun i j h1 h2 h3=>by
 by_cases z:j<lo+n;·exact h i j h1 h2 z
 ·obtain rfl:j=lo+n:=by omega
  by_cases y:i=lo+n;·rw [y];exact gT _
  ·exact bW c (h i (lo+n-1) h1 (by omega) (by omega))
def mV(key:Keyed→Int)(arr:Array Keyed)(lo n q:Nat):Prop:=q+1≤n∧∀i,lo+n-(q+1)≤i→i<lo+n→vA key arr i=vA key arr (lo+n-1)
theorem oY{q:Nat}(hz:lo+n≤arr.size)(d:fe key arr lo (lo+n))(e:mV key arr lo n q):fe key (mirror arr (lo+n-(q+1)) (lo+n) ((lo+n-(lo+n-(q+1))) / 2)) lo (lo+n)∧∀k,vA key (mirror arr (lo+n-(q+1)) (lo+n) ((lo+n-(lo+n-(q+1))) / 2)) k=vA key arr k:=by
 have hv:∀k,vA key (mirror arr (lo+n-(q+1)) (lo+n) ((lo+n-(lo+n-(q+1))) / 2)) k=vA key arr k:=fun k=>by
  by_cases z:lo+n-(q+1)≤k∧k<lo+n;·rw [oX hz z.1 z.2,e.2 _ (by have:=e.1;omega) (by omega),e.2 k z.1 z.2]
  ·exact (fN hz).v (by omega)
 refine ⟨fun i j h1 h2 h3=>?_,hv⟩;rw [hv,hv];exact d i j h1 h2 h3
theorem oZ(hz:lo+n≤arr.size)(d:fe key arr lo (lo+n)):bI key (mirror arr lo (lo+n) ((lo+n-lo) / 2)) lo (lo+n):=fun i j h1 h2 h3=>by
 rw [oX hz h1 (by omega),oX hz (by omega) h3]
 exact d _ _ (by omega) (by omega) (by omega)
end
section
variable {prog:Program} {w:World} {A:Around} {E:ay} {s:Shared} {κ:SortKind} {key:Keyed→Int} {Ok:Keyed→Prop} {arr:Array Keyed} {pend:Array (Nat×Nat×Nat)} {g:Nat}
variable {lo bx:Nat}
theorem mW(h:e9 prog w A s κ key Ok)(ok:cX Ok arr){m:Nat}(hz:lo+bx≤arr.size)(m1:1≤m)(mn:m≤bx)(sg:bI key arr lo (lo+m)){body:Nat→Option (Option Nat)×Nat→StateT SortSt Sem (ForInStep (Option (Option Nat)×Nat))}{R:Option (Option Nat)×Nat→SortSt→Prop}
  (hb:∀x n (R:ForInStep (Option (Option Nat)×Nat)→SortSt→Prop),1≤n→n<bx→R (if vA key arr (lo+n)<vA key arr (lo+n-1) then .done (none,n) else .yield (none,n+1)) (aO κ arr pend g)→wpS (model prog w) A E s (body x (none,n)) R (aO κ arr pend g))
  (k:∀n,m≤n→n≤bx→bI key arr lo (lo+n)→(n<bx→vA key arr (lo+n)<vA key arr (lo+n-1))→R (none,n) (aO κ arr pend g)) :
  wpS (model prog w) A E s (forIn [m:bx] (none,m) body) R (aO κ arr pend g):=by
 refine cZ (I:=fun x c ao=>ao=aO κ arr pend g∧c=(none,x)∧m≤x∧x≤bx∧bI key arr lo (lo+x)) ?_ ?_ ⟨rfl,rfl,aA _,mn,sg⟩
 ·rintro x c ao _ hx ⟨rfl,rfl,g1,g2,g3⟩
  refine hb x x _ (by omega) hx ?_
  by_cases z:vA key arr (lo+x)<vA key arr (lo+x-1)
  ·rw [ae z]
   exact k x g1 g2 g3 fun _=>z
  ·rw [aa z]
   exact ⟨rfl,rfl,by omega,by omega,g3.more (by omega) (Int.not_lt.mp z)⟩
 ·rintro c ao ⟨rfl,rfl,g1,g2,g3⟩
  have e:max m bx=bx:=by omega
  rw [e] at g3 ⊢;exact k bx mn (aA _) g3 fun z=>absurd z (ei _)
theorem AO(h:e9 prog w A s κ key Ok)(ok:cX Ok arr)(hz:lo+bx≤arr.size)(n1:1≤bx){Q:Option Nat→SortSt→Prop}
  (k:∀n aF,1≤n→n≤bx→Rl arr aF lo (lo+bx)→bI key aF lo (lo+n)→Q (some n) (aO κ aF pend g)):wpS (model prog w) A E s (countRun' lo bx) Q (aO κ arr pend g):=by
 rw [countRun'_eq];refine ai (mW h ok hz (aA 1) n1 (fun i j h1 h2 h3=>by rw [show i=j by omega];exact gT _) ?_ fun n m1 mn sg br=>?_)
 ·intro x n R a1 a2 r
  dsimp only;refine ai (fO h ok (by omega) (by omega) ?_)
  dsimp only;by_cases z:vA key arr (lo+n)<vA key arr (lo+n-1)
  ·rw [ae z] at r
   rw [aG z,ae rfl];exact ah r
  ·rw [aa z] at r
   rw [bp z,aa (by simp)]
   exact ah r
 dsimp only;by_cases e1:(n == bx)=true
 ·rw [ae e1]
  exact ah (k n arr m1 mn (Rl.refl ..) sg)
 rw [aa e1];have bT:n<bx:=by
  have:n≠bx:=fun e=>e1 (by simp [e])
  omega
 have vI:=br bT;by_cases e2:n>1
 ·rw [ae e2]
  refine ai (fO h ok (by omega) (by omega) ?_)
  dsimp only;by_cases z:vA key arr lo<vA key arr (lo+n-1)
  ·rw [aG z,ae rfl]
   exact ah (k n arr m1 mn (Rl.refl ..) sg)
  ·rw [bp z,aa (by simp)]
   refine ai (il ?_);have ev:∀i,lo≤i→i<lo+n→vA key arr i=vA key arr (lo+n-1):=fun i h1 h2=>by
    have a1:=sg lo i (aA _) h1 h2;have a2:=sg i (lo+n-1) h1 (by omega) (by omega)
    omega
   have hv:∀i,vA key (mirror arr lo (lo+n) ((lo+n-lo) / 2)) i=vA key arr i:=fun i=>by
    by_cases y:lo≤i∧i<lo+n;·rw [oX (by omega) y.1 y.2,ev _ (by omega) (by omega),ev i y.1 y.2]
    ·exact (fN (by omega)).v (by omega)
   have d1:fe key (mirror arr lo (lo+n) ((lo+n-lo) / 2)) lo (lo+n):=fun i j h1 h2 h3=>by
    rw [hv,hv,ev i h1 (by omega),ev j (by omega) h3]
    exact gT _
   have o5:Rl arr (mirror arr lo (lo+n) ((lo+n-lo) / 2)) lo (lo+bx):=(fN (by omega)).wide (aA _) (by omega)
   have vJ:vA key (mirror arr lo (lo+n) ((lo+n-lo) / 2)) (lo+n)<vA key (mirror arr lo (lo+n) ((lo+n-lo) / 2)) (lo+n-1):=by rw [hv,hv];exact vI
   generalize mirror arr lo (lo+n) ((lo+n-lo) / 2)=AQ at d1 o5 vJ ⊢;refine ai (wpS_lift (eS ⟨rfl,?_⟩))
   refine ai (dg (cZ (I:=fun x c ao=>∃(av:Array Keyed) (q:Nat),ao=aO κ av pend g∧c=(none,x,q)∧Rl arr av lo (lo+bx)∧fe key av lo (lo+x)∧mV key av lo x q∧x≤bx∧1≤x)
    (Q:=fun c ao=>∃(av:Array Keyed) (n q:Nat),ao=aO κ av pend g∧c=(none,n,q)∧Rl arr av lo (lo+bx)∧fe key av lo (lo+n)∧mV key av lo n q∧n≤bx∧1≤n) ?_ ?_ ⟨AQ,0,rfl,rfl,o5,d1.more (by omega) (bP vJ),⟨by omega,fun i h1 h2=>by rw [show i=lo+(n+1)-1 by omega]⟩,by omega,by omega⟩) ?_)
   ·rintro x c ao _ hx ⟨av,q,rfl,rfl,b9,d2,e2,x1,x2⟩
    have ip:=b9.ok ok;have z2:=b9.size;dsimp only;refine ai (fO h ip (by omega) (by omega) ?_)
    dsimp only;by_cases z:vA key av (lo+x)<vA key av (lo+x-1)
    ·rw [aG z,ae rfl]
     by_cases y:q>0
     ·rw [ae y]
      refine ai (il (ah ?_));obtain ⟨d3,hv⟩:=oY (by omega) d2 e2
      refine ⟨_,0,rfl,rfl,b9.trans ((fN (by omega)).wide (by have:=e2.1;omega) (by omega)),d3.more (by omega) (by rw [hv,hv];exact bP z),⟨by omega,fun i h1 h2=>by rw [show i=lo+(x+1)-1 by omega]⟩,by omega,by omega⟩
     ·rw [aa y]
      exact ah ⟨_,0,rfl,rfl,b9,d2.more (by omega) (bP z),⟨by omega,fun i h1 h2=>by rw [show i=lo+(x+1)-1 by omega]⟩,by omega,by omega⟩
    ·rw [bp z,aa (by simp)]
     refine ai (fO h ip (by omega) (by omega) ?_)
     dsimp only;by_cases y:vA key av (lo+x-1)<vA key av (lo+x)
     ·rw [aG y,ae rfl]
      exact ah ⟨_,_,_,rfl,rfl,b9,d2,e2,x1,x2⟩
     ·rw [bp y,aa (by simp)]
      have ev:vA key av (lo+x)=vA key av (lo+x-1):=by omega
      refine ah ⟨_,_,rfl,rfl,b9,d2.more (by omega) (by omega),⟨by have:=e2.1;omega,fun i h1 h2=>?_⟩,by omega,by omega⟩
      rw [show lo+(x+1)-1=lo+x by omega]
      by_cases w:i=lo+x;·rw [w]
      ·rw [ev]
       exact e2.2 i (by omega) (by omega)
   ·rintro c ao ⟨av,q,rfl,rfl,b9,d2,e2,x1,x2⟩
    exact ⟨av,_,q,rfl,rfl,b9,d2,e2,x1,x2⟩
   ·rintro c ao ⟨av,n2,q2,rfl,rfl,b9,d2,e2,x1,x2⟩
    have z2:=b9.size;dsimp only;by_cases y:q2>0
    ·rw [ae y]
     obtain ⟨d3,hv⟩:=oY (by omega) d2 e2
     refine ai (il (ai (il ?_)));have fP:=b9.trans ((fN (arr:=av) (i:=lo+n2-(q2+1)) (j:=lo+n2) (by omega)).wide (by have:=e2.1;omega) (show lo+n2≤lo+bx by omega))
     generalize mirror av (lo+n2-(q2+1)) (lo+n2) _=bC at d3 fP ⊢;have z3:=fP.size;have dj:=oZ (by omega) d3
     have ba:=fP.trans ((fN (arr:=bC) (i:=lo) (j:=lo+n2) (by omega)).wide (aA lo) (show lo+n2≤lo+bx by omega))
     generalize mirror bC lo (lo+n2) _=aJ at dj ba ⊢;have fQ:=Rl.ok ba ok;have z4:=Rl.size ba;refine ai (mW h fQ (by omega) (by omega) (by omega) dj ?_ fun m m1 mn jB _=>ah (k m aJ (by omega) mn ba jB))
     intro x n R a1 a2 r;dsimp only;refine ai (fO h fQ (by omega) (by omega) ?_)
     dsimp only;by_cases z:vA key aJ (lo+n)<vA key aJ (lo+n-1)
     ·rw [ae z] at r
      rw [aG z,ae rfl];exact ah r
     ·rw [aa z] at r
      rw [bp z,aa (by simp)]
      exact ah r
    ·rw [aa y]
     refine ai (il ?_);have dj:=oZ (by omega) d2
     have ba:=b9.trans ((fN (arr:=av) (i:=lo) (j:=lo+n2) (by omega)).wide (aA lo) (show lo+n2≤lo+bx by omega))
     generalize mirror av lo (lo+n2) _=aJ at dj ba ⊢;have fQ:=Rl.ok ba ok;have z4:=Rl.size ba;refine ai (mW h fQ (by omega) (by omega) (by omega) dj ?_ fun m m1 mn jB _=>ah (k m aJ (by omega) mn ba jB))
     intro x n R a1 a2 r;dsimp only;refine ai (fO h fQ (by omega) (by omega) ?_)
     dsimp only;by_cases z:vA key aJ (lo+n)<vA key aJ (lo+n-1)
     ·rw [ae z] at r
      rw [aG z,ae rfl];exact ah r
     ·rw [aa z] at r
      rw [bp z,aa (by simp)]
      exact ah r
 ·rw [aa e2]
  have d1:fe key arr lo (lo+n):=fun i j h1 h2 h3=>by
   rw [show i=j by omega]
   exact gT _
  have o5:Rl arr arr lo (lo+bx):=Rl.refl ..;refine ai (wpS_lift (eS ⟨rfl,?_⟩))
  refine ai (dg (cZ (I:=fun x c ao=>∃(av:Array Keyed) (q:Nat),ao=aO κ av pend g∧c=(none,x,q)∧Rl arr av lo (lo+bx)∧fe key av lo (lo+x)∧mV key av lo x q∧x≤bx∧1≤x)
   (Q:=fun c ao=>∃(av:Array Keyed) (n q:Nat),ao=aO κ av pend g∧c=(none,n,q)∧Rl arr av lo (lo+bx)∧fe key av lo (lo+n)∧mV key av lo n q∧n≤bx∧1≤n) ?_ ?_ ⟨arr,0,rfl,rfl,o5,d1.more (by omega) (bP vI),⟨by omega,fun i h1 h2=>by rw [show i=lo+(n+1)-1 by omega]⟩,by omega,by omega⟩) ?_)
  ·rintro x c ao _ hx ⟨av,q,rfl,rfl,b9,d2,e2,x1,x2⟩
   have ip:=b9.ok ok;have z2:=b9.size;dsimp only;refine ai (fO h ip (by omega) (by omega) ?_)
   dsimp only;by_cases z:vA key av (lo+x)<vA key av (lo+x-1)
   ·rw [aG z,ae rfl]
    by_cases y:q>0
    ·rw [ae y]
     refine ai (il (ah ?_));obtain ⟨d3,hv⟩:=oY (by omega) d2 e2
     refine ⟨_,0,rfl,rfl,b9.trans ((fN (by omega)).wide (by have:=e2.1;omega) (by omega)),d3.more (by omega) (by rw [hv,hv];exact bP z),⟨by omega,fun i h1 h2=>by rw [show i=lo+(x+1)-1 by omega]⟩,by omega,by omega⟩
    ·rw [aa y]
     exact ah ⟨_,0,rfl,rfl,b9,d2.more (by omega) (bP z),⟨by omega,fun i h1 h2=>by rw [show i=lo+(x+1)-1 by omega]⟩,by omega,by omega⟩
   ·rw [bp z,aa (by simp)]
    refine ai (fO h ip (by omega) (by omega) ?_)
    dsimp only;by_cases y:vA key av (lo+x-1)<vA key av (lo+x)
    ·rw [aG y,ae rfl]
     exact ah ⟨_,_,_,rfl,rfl,b9,d2,e2,x1,x2⟩
    ·rw [bp y,aa (by simp)]
     have ev:vA key av (lo+x)=vA key av (lo+x-1):=by omega
     refine ah ⟨_,_,rfl,rfl,b9,d2.more (by omega) (by omega),⟨by have:=e2.1;omega,fun i h1 h2=>?_⟩,by omega,by omega⟩
     rw [show lo+(x+1)-1=lo+x by omega]
     by_cases w:i=lo+x;·rw [w]
     ·rw [ev]
      exact e2.2 i (by omega) (by omega)
  ·rintro c ao ⟨av,q,rfl,rfl,b9,d2,e2,x1,x2⟩
   exact ⟨av,_,q,rfl,rfl,b9,d2,e2,x1,x2⟩
  ·rintro c ao ⟨av,n2,q2,rfl,rfl,b9,d2,e2,x1,x2⟩
   have z2:=b9.size;dsimp only;by_cases y:q2>0
   ·rw [ae y]
    obtain ⟨d3,hv⟩:=oY (by omega) d2 e2
    refine ai (il (ai (il ?_)));have fP:=b9.trans ((fN (arr:=av) (i:=lo+n2-(q2+1)) (j:=lo+n2) (by omega)).wide (by have:=e2.1;omega) (show lo+n2≤lo+bx by omega))
    generalize mirror av (lo+n2-(q2+1)) (lo+n2) _=bC at d3 fP ⊢;have z3:=fP.size;have dj:=oZ (by omega) d3
    have ba:=fP.trans ((fN (arr:=bC) (i:=lo) (j:=lo+n2) (by omega)).wide (aA lo) (show lo+n2≤lo+bx by omega))
    generalize mirror bC lo (lo+n2) _=aJ at dj ba ⊢;have fQ:=Rl.ok ba ok;have z4:=Rl.size ba;refine ai (mW h fQ (by omega) (by omega) (by omega) dj ?_ fun m m1 mn jB _=>ah (k m aJ (by omega) mn ba jB))
    intro x n R a1 a2 r;dsimp only;refine ai (fO h fQ (by omega) (by omega) ?_)
    dsimp only;by_cases z:vA key aJ (lo+n)<vA key aJ (lo+n-1)
    ·rw [ae z] at r
     rw [aG z,ae rfl];exact ah r
    ·rw [aa z] at r
     rw [bp z,aa (by simp)]
     exact ah r
   ·rw [aa y]
    refine ai (il ?_);have dj:=oZ (by omega) d2
    have ba:=b9.trans ((fN (arr:=av) (i:=lo) (j:=lo+n2) (by omega)).wide (aA lo) (show lo+n2≤lo+bx by omega))
    generalize mirror av lo (lo+n2) _=aJ at dj ba ⊢;have fQ:=Rl.ok ba ok;have z4:=Rl.size ba;refine ai (mW h fQ (by omega) (by omega) (by omega) dj ?_ fun m m1 mn jB _=>ah (k m aJ (by omega) mn ba jB))
    intro x n R a1 a2 r;dsimp only;refine ai (fO h fQ (by omega) (by omega) ?_)
    dsimp only;by_cases z:vA key aJ (lo+n)<vA key aJ (lo+n-1)
    ·rw [ae z] at r
     rw [aG z,ae rfl];exact ah r
    ·rw [aa z] at r
     rw [bp z,aa (by simp)]
     exact ah r
end
section
variable {prog:Program} {w:World} {A:Around} {E:ay} {s:Shared} {κ:SortKind} {key:Keyed→Int} {Ok:Keyed→Prop} {arr:Array Keyed} {pend:Array (Nat×Nat×Nat)} {g:Nat}
theorem AR{Q:Unit→SortSt→Prop}(q:Q () (aO κ (bubble arr i (i-j)) pend g)):wpS (model prog w) A E s (moveDown' i j) Q (aO κ arr pend g):=by rw [moveDown'_eq];exact fv q
variable {d:Nat}
theorem vK{k:Nat}(hi:i<arr.size)(hd:d≤i):vA key (bubble arr i d) k=if k=i-d then vA key arr i else if i-d<k∧k≤i then vA key arr (k-1) else vA key arr k:=by
 unfold vA;rw [fM,getElem?_bubble hi d hd,fM arr i,fM arr (k-1),fM arr k];by_cases a:k=i-d;·rw [ae a,ae a]
 ·rw [aa a,aa a]
  by_cases b:i-d<k∧k≤i;·rw [ae b,ae b]
  ·rw [aa b,aa b]
variable {lo:Nat}
theorem AS{hi:Nat}(h:i<arr.size)(hd:d≤i)(h1:lo≤i-d)(h2:i<hi):Rl arr (bubble arr i d) lo hi:=⟨bubble_perm ..,fun k hk=>by rw [getElem?_bubble h d hd,aa (by omega),aa (by omega)]⟩
theorem AU(h:e9 prog w A s κ key Ok)(ok:cX Ok arr){n m:Nat}(hz:lo+n≤arr.size)(m1:1≤m)(mn:m≤n)(sg:bI key arr lo (lo+m)){Q:Bool→SortSt→Prop}
  (k:∀aF,Rl arr aF lo (lo+n)→bI key aF lo (lo+n)→Q true (aO κ aF pend g)):wpS (model prog w) A E s (binarySort' lo n m) Q (aO κ arr pend g):=by
 rw [binarySort'_eq];have em:max m 1=m:=by omega
 rw [em]
 refine ai (dg (cZ (I:=fun x c ao=>∃av:Array Keyed,ao=aO κ av pend g∧c=(none,())∧Rl arr av lo (lo+n)∧bI key av lo (lo+x)∧m≤x∧x≤n)
  (Q:=fun c ao=>∃av:Array Keyed,ao=aO κ av pend g∧c=(none,())∧Rl arr av lo (lo+n)∧bI key av lo (lo+n)) ?_ ?_ ⟨arr,rfl,rfl,Rl.refl ..,sg,aA _,mn⟩) ?_)
 ·rintro x c ao _ hx ⟨av,rfl,rfl,rl,sg,x1,x2⟩
  have ip:=rl.ok ok;have z2:=rl.size;dsimp only
  refine ai (dg (cZ (I:=fun y c ao=>∃l r:Nat,ao=aO κ av pend g∧c=(none,l,r)∧l≤r∧r≤x∧r-l+y≤x∧(∀i,i<l→vA key av (lo+i)≤vA key av (lo+x))∧(∀i,r≤i→i<x→vA key av (lo+x)≤vA key av (lo+i)))
   (Q:=fun c ao=>∃l:Nat,ao=aO κ av pend g∧c=(none,l,l)∧l≤x∧(∀i,i<l→vA key av (lo+i)≤vA key av (lo+x))∧(∀i,l≤i→i<x→vA key av (lo+x)≤vA key av (lo+i))) ?_ ?_ ⟨0,x,rfl,rfl,by omega,aA _,show x-0+0≤x by omega,fun i hi=>absurd hi (Nat.not_lt_zero _),fun i h1 h2=>by omega⟩) ?_)
  ·rintro y c ao _ hy ⟨l,r,rfl,rfl,g1,g2,g3,g4,g5⟩
   dsimp only;by_cases z:l≥r
   ·rw [ae z]
    obtain rfl:l=r:=by omega
    exact ah ⟨l,rfl,rfl,g2,g4,g5⟩
   ·rw [aa z]
    refine ai (fO h ip (by omega) (by omega) ?_)
    dsimp only;by_cases w:vA key av (lo+x)<vA key av (lo+(l+r) / 2)
    ·rw [aG w,ae rfl]
     exact ah ⟨l,_,rfl,rfl,by omega,by omega,by omega,g4,fun i h1 h2=>bW (bP w) (sg _ _ (by omega) (by omega) (by omega))⟩
    ·rw [bp w,aa (by simp)]
     exact ah ⟨_,r,rfl,rfl,by omega,g2,by omega,fun i h1=>bW (sg _ _ (by omega) (by omega) (by omega)) (Int.not_lt.mp w),g5⟩
  ·rintro c ao ⟨l,r,rfl,rfl,g1,g2,g3,g4,g5⟩
   have:max 0 x=x:=by omega
   obtain rfl:l=r:=by omega
   exact ⟨l,rfl,rfl,g2,g4,g5⟩
  ·rintro c ao ⟨l,rfl,rfl,g2,g4,g5⟩
   dsimp only;refine ai (AR (ah ?_));have ed:lo+x-(lo+l)=x-l:=by omega
   rw [ed];refine ⟨_,rfl,rfl,rl.trans (AS (by omega) (by omega) (by omega) (by omega)),fun i j h1 h2 h3=>?_,by omega,by omega⟩
   have e0:lo+x-(x-l)=lo+l:=by omega
   rw [vK (by omega) (by omega),vK (by omega) (by omega),e0]
   have f4:∀i,lo≤i→i<lo+l→vA key av i≤vA key av (lo+x):=fun i a b=>by have:=g4 (i-lo) (by omega);rwa [show lo+(i-lo)=i by omega] at this
   have f5:∀i,lo+l≤i→i<lo+x→vA key av (lo+x)≤vA key av i:=fun i a b=>by have:=g5 (i-lo) (by omega) (by omega);rwa [show lo+(i-lo)=i by omega] at this
   by_cases a1:i=lo+l
   ·rw [ae a1]
    by_cases b1:j=lo+l;·rw [ae b1];exact gT _
    ·rw [aa b1,ae (by omega)]
     exact f5 _ (by omega) (by omega)
   ·rw [aa a1]
    by_cases a2:lo+l<i∧i≤lo+x
    ·rw [ae a2,aa (by omega),ae (by omega)]
     exact sg _ _ (by omega) (by omega) (by omega)
    ·rw [aa a2]
     by_cases b1:j=lo+l
     ·rw [ae b1]
      exact f4 i h1 (by omega)
     ·rw [aa b1]
      by_cases b2:lo+l<j∧j≤lo+x
      ·rw [ae b2]
       exact bW (f4 i h1 (by omega)) (f5 _ (by omega) (by omega))
      ·rw [aa b2]
       exact sg _ _ (by omega) (by omega) (by omega)
 ·rintro c ao ⟨av,rfl,rfl,rl,sg,x1,x2⟩
  have:max m n=n:=by omega
  rw [this] at sg;exact ⟨av,rfl,rfl,rl,sg⟩
 ·rintro c ao ⟨av,rfl,rfl,rl,sg⟩
  exact ah (k av rl sg)
end
theorem AV(i:Nat):mergeAt' i=(do
 let s ←get
 let (some (sa,na,power),some (sb,nb,_)):=((pendingOf s)[i]?,(pendingOf s)[i+1]?) | unsupported "internal:list.sort.pending"
 set (setPending s (((pendingOf s).setIfInBounds i (sa,na+nb,power)).eraseIdxIfInBounds (i+1)))
 let some k ←iS false (←elem' (arrOf s) sb) (arrOf s) sa na 0 | return false
 let (sa,na):=(sa+k,na-k)
 if na == 0 then return true
 let some nb ←iS true (←elem' (arrOf s) (sa+na-1)) (arrOf s) sb nb (nb-1) | return false
 if nb == 0 then return true
 let x:=(arrOf s).extract sa sb
 let y:=(arrOf s).extract sb (sb+nb)
 let merged ←if na≤nb then rf x y else rg x y
 modify fun s=>setArr s (merged.toList.zipIdx.foldl (fun a (p,j)=>a.setIfInBounds (sa+j) p) (arrOf s))
 return (failedOf (←get)).isNone):=rfl
def putL(m:List Keyed)(o:Nat)(arr:Array Keyed)(n:Nat):Array Keyed:=(m.zipIdx n).foldl (fun a (p,j)=>a.setIfInBounds (o+j) p) arr
theorem vL(m:List Keyed)(o:Nat):∀(arr:Array Keyed) (n k:Nat),o+n+m.length≤arr.size→(putL m o arr n)[k]?=if o+n≤k∧k<o+n+m.length then m[k-(o+n)]? else arr[k]?:=by
 induction m with
 | nil=>
  intro arr n k _;rw [aa (by simp)]
  rfl
 | cons x m ih=>
  intro arr n k hz;rw [dm] at hz ⊢;show (putL m o (arr.setIfInBounds (o+n) x) (n+1))[k]?=_;rw [ih _ _ _ (by simp;omega)]
  by_cases a:o+(n+1)≤k∧k<o+(n+1)+m.length
  ·rw [ae a,ae (by omega),show k-(o+n)=(k-(o+(n+1)))+1 by omega]
   rfl
  ·rw [aa a]
   by_cases b:k=o+n
   ·subst b
    rw [ae (by omega),lW]
    simp [show o+n<arr.size by omega]
   ·rw [aa (by omega)]
    rw [Array.getElem?_setIfInBounds_ne (by omega)]
theorem AW{o:Nat}{arr:Array Keyed}(hz:o+m.length≤arr.size):(putL m o arr 0).toList=arr.toList.take o++m++arr.toList.drop (o+m.length):=by
 refine List.ext_getElem? fun k=>?_;have e:(putL m o arr 0).toList[k]?=(putL m o arr 0)[k]?:=by simp
 rw [e,vL m o arr 0 k (by omega),Nat.add_zero]
 by_cases a:k<o
 ·rw [aa (by omega),et,fW (by simp;omega),List.getElem?_take_of_lt a]
  simp
 ·by_cases b:k<o+m.length
  ·rw [ae (by omega),et,fV (by simp;omega),fW (by simp;omega)]
   congr 1
   simp;omega
  ·rw [aa (by omega),fV (by simp;omega),List.getElem?_drop]
   have:o+m.length+(k-(arr.toList.take o++m).length)=k:=by simp;omega
   rw [this];simp
section
variable {prog:Program} {w:World} {A:Around} {E:ay} {s:Shared} {κ:SortKind} {key:Keyed→Int} {Ok:Keyed→Prop} {arr:Array Keyed} {pend:Array (Nat×Nat×Nat)} {g:Nat}
variable {lo hi:Nat}
theorem vM(h:bI key arr lo hi)(hz:hi≤arr.size):aR key (arr.extract lo hi).toList:=by
 unfold aR;rw [lZ];intro i j bh hj vD;have h1:i<hi-lo∧j<hi-lo:=by simp at bh hj;omega
 have:=h (lo+i) (lo+j) (by omega) (by omega) (by omega)
 unfold vA at this;simpa [Array.getD,show lo+i<arr.size by omega,show lo+j<arr.size by omega] using this
theorem rA(hz:hi≤arr.size)(bh:lo+i<hi):(arr.extract lo hi).getD i nn=arr.getD (lo+i) nn:=by simp [Array.getD,show lo+i<arr.size by omega,show i<min hi arr.size-lo by omega]
theorem vO(ok:cX Ok arr)(hz:hi≤arr.size):cX Ok (arr.extract lo hi):=fun i bh=>by
 have:lo+i<hi:=by simp at bh;omega
 rw [rA hz this];exact ok _ (by omega)
theorem ext_mem(hz:hi≤arr.size){x:Keyed}(hx:x∈(arr.extract lo hi).toList):∃j,lo≤j∧j<hi∧x=arr.getD j nn:=ik hz hx
theorem AX{σ:Type}{st ao:σ}{Q:PUnit→σ→Prop}{M:Model}(q:Q ⟨⟩ ao):wpS M A E s (set ao:StateT σ Sem PUnit) Q st:=by unfold wpS;rw [StateT.run_set];exact aL ⟨rfl,q⟩
variable {sa na nb:Nat}
theorem AY{sb aS bo:Nat}{m:Array Keyed}(hz:sb+nb≤arr.size)(h0:sa+na=sb)(hk:aS≤na)(hb:bo≤nb)(pm:m.toList.Perm ((arr.extract (sa+aS) sb).toList++(arr.extract sb (sb+bo)).toList))(sm:aR key m.toList)
  (s1:bI key arr sa sb) (s2:bI key arr sb (sb+nb)) (AZ:aS<na) (vP:1≤nb)
  (c1:∀i,i<aS→vA key arr (sa+i)≤vA key arr sb) (c2:∀i,bo≤i→i<nb→vA key arr (sb-1)≤vA key arr (sb+i)) :
  Rl arr (putL m.toList (sa+aS) arr 0) sa (sb+nb)∧bI key (putL m.toList (sa+aS) arr 0) sa (sb+nb):=by
 have lm:m.toList.length=(na-aS)+bo:=by rw [pm.length_eq,dz,e_,e_];simp;omega
 have gz:sa+aS+m.toList.length≤arr.size:=by omega
 have at':=vL m.toList (sa+aS) arr 0;have rl:Rl arr (putL m.toList (sa+aS) arr 0) sa (sb+nb):=by
  refine ⟨l5.mpr ?_,fun k di=>?_⟩
  ·rw [AW gz]
   have e:arr.toList=arr.toList.take (sa+aS)++((arr.extract (sa+aS) sb).toList++(arr.extract sb (sb+bo)).toList)++arr.toList.drop (sa+aS+m.toList.length):=by
    rw [e_,e_,show sa+aS+m.toList.length=sb+bo by omega,show sb+bo-sb=bo by omega]
    have t1:arr.toList.drop (sa+aS)=(arr.toList.drop (sa+aS)).take (sb-(sa+aS))++arr.toList.drop sb:=by
     have:=(ke (sb-(sa+aS)) (arr.toList.drop (sa+aS))).symm;rw [List.drop_drop,show sa+aS+(sb-(sa+aS))=sb by omega] at this
     exact this
    have t2:arr.toList.drop sb=(arr.toList.drop sb).take bo++arr.toList.drop (sb+bo):=by have:=(ke bo (arr.toList.drop sb)).symm;rw [List.drop_drop] at this;exact this
    have t0:=(ke (sa+aS) arr.toList).symm;rw [t1,t2] at t0;rw [et,et];exact t0
   refine List.Perm.trans ?_ (List.Perm.of_eq e.symm);exact List.Perm.append_right _ (qi _ pm)
  ·rw [at' k (by omega),aa (by omega)]
 have vo:∀k,k<sa+aS∨sb+bo≤k→vA key (putL m.toList (sa+aS) arr 0) k=vA key arr k:=fun k di=>by unfold vA;rw [fM,at' k (by omega),aa (by omega),fM]
 have vm:∀k,sa+aS≤k→k<sb+bo→∃hj:k-(sa+aS)<m.toList.length,vA key (putL m.toList (sa+aS) arr 0) k=key (m.toList[k-(sa+aS)]'hj):=fun k h1 h2=>by
  have hj:k-(sa+aS)<m.toList.length:=by omega
  refine ⟨hj,?_⟩;unfold vA;rw [fM,at' k (by omega),ae (by omega),Nat.add_zero,fZ hj]
  rfl
 have vq:∀k,sa+aS≤k→k<sb+bo→∃q,sa+aS≤q∧q<sb+bo∧vA key (putL m.toList (sa+aS) arr 0) k=vA key arr q:=fun k h1 h2=>by
  obtain ⟨hj,e⟩:=vm k h1 h2;have mm:=pm.mem_iff.mp (gU hj);rcases fm.mp mm with mm | mm
  ·obtain ⟨q,q1,q2,eq⟩:=ext_mem (by omega) mm
   exact ⟨q,q1,by omega,by rw [e,eq];rfl⟩
  ·obtain ⟨q,q1,q2,eq⟩:=ext_mem (by omega) mm
   exact ⟨q,by omega,q2,by rw [e,eq];rfl⟩
 have d1:∀i,sa≤i→i<sa+aS→vA key arr i≤vA key arr sb:=fun i a b=>by
  have:=c1 (i-sa) (by omega)
  rwa [show sa+(i-sa)=i by omega] at this
 have d2:∀j,sb+bo≤j→j<sb+nb→vA key arr (sb-1)≤vA key arr j:=fun j a b=>by
  have:=c2 (j-sb) (by omega) (by omega)
  rwa [show sb+(j-sb)=j by omega] at this
 refine ⟨rl,fun i j h1 h2 h3=>?_⟩;by_cases i1:i<sa+aS
 ·rw [vo i (.inl i1)]
  by_cases j1:j<sa+aS
  ·rw [vo j (.inl j1)]
   exact s1 i j h1 h2 (by omega)
  ·by_cases j2:j<sb+bo
   ·obtain ⟨q,q1,q2,e⟩:=vq j (by omega) j2
    rw [e];by_cases q3:q<sb;·exact s1 i q h1 (by omega) q3
    ·exact bW (d1 i h1 i1) (s2 sb q (aA _) (by omega) (by omega))
   ·rw [vo j (.inr (by omega))]
    exact bW (d1 i h1 i1) (s2 sb j (aA _) (by omega) h3)
 ·by_cases i2:i<sb+bo
  ·by_cases j2:j<sb+bo
   ·obtain ⟨x1,e1⟩:=vm i (by omega) i2
    obtain ⟨x2,e2⟩:=vm j (by omega) j2
    rw [e1,e2];by_cases z:i=j;·subst z;exact gT _
    ·exact lZ.mp sm _ _ x1 x2 (by omega)
   ·obtain ⟨q,q1,q2,e⟩:=vq i (by omega) i2
    rw [e,vo j (.inr (by omega))]
    by_cases q3:q<sb;·exact bW (s1 q (sb-1) (by omega) (by omega) (by omega)) (d2 j (by omega) h3)
    ·exact s2 q j (by omega) (by omega) h3
  ·rw [vo i (.inr (by omega)),vo j (.inr (by omega))]
   exact s2 i j (by omega) h2 h3
theorem A0(h:e9 prog w A s κ key Ok)(ok:cX Ok arr){pw iq:Nat}(e1:pend[i]?=some (sa,na,pw))(e2:pend[i+1]?=some (sa+na,nb,iq))(AZ:1≤na)(vP:1≤nb)(hz:sa+na+nb≤arr.size)
  (s1:bI key arr sa (sa+na)) (s2:bI key arr (sa+na) (sa+na+nb)) {Q:Bool→SortSt→Prop}
  (k:∀aF g',Rl arr aF sa (sa+na+nb)→bI key aF sa (sa+na+nb)→Q true (aO κ aF ((pend.setIfInBounds i (sa,na+nb,pw)).eraseIdxIfInBounds (i+1)) g')):wpS (model prog w) A E s (mergeAt' i) Q (aO κ arr pend g):=by
 rw [AV];refine ai (en ?_);have jv:(pendingOf (aO κ arr pend g))[i]?=some (sa,na,pw):=e1;have A1:(pendingOf (aO κ arr pend g))[i+1]?=some (sa+na,nb,iq):=e2;rw [jv,A1];dsimp only;refine ai (AX ?_);refine ai (aV (by show sa+na<arr.size;omega) ?_)
 refine ai (d7 (f:=fun j=>bB false (vA key arr (sa+na)) (vA key arr (sa+j))) (fun j hj Q q=>d6 (κ:=κ) h (by show sa+j<arr.size;omega) ok (ok _ (by omega)) rfl q) (by omega) ?_ fun t t1 t2 t3=>?_)
 ·intro i j h1 h2 h3
  have:vA key arr (sa+i)≤vA key arr (sa+na):=bW (s1 _ _ (by omega) (by omega) (by omega)) (gE h3)
  show (!decide (vA key arr (sa+na)<vA key arr (sa+i)))=true;simpa using this
 dsimp only;by_cases z1:(na-t == 0)=true
 ·rw [ae z1]
  have tz:t=na:=by have:=eq_of_beq z1;omega
  subst tz;refine ah (k arr g (Rl.refl ..) fun i j h1 h2 h3=>?_);by_cases i1:i<sa+t
  ·by_cases j1:j<sa+t
   ·exact s1 i j h1 h2 j1
   ·have:=gE (t2 (i-sa) (by omega))
    rw [show sa+(i-sa)=i by omega] at this
    exact bW this (s2 _ _ (aA _) (by omega) (by omega))
  ·exact s2 i j (by omega) h2 (by omega)
 rw [aa z1];have tn:t<na:=by
  have:na-t≠0:=fun e=>z1 (by simp [e])
  omega
 refine ai (aV (by show sa+t+(na-t)-1<arr.size;omega) ?_)
 have el:sa+t+(na-t)-1=sa+na-1:=by omega
 rw [el];refine ai (d7 (f:=fun j=>bB true (vA key arr (sa+na-1)) (vA key arr (sa+na+j))) (fun j hj Q q=>d6 (κ:=κ) h (by show sa+na+j<arr.size;omega) ok (ok _ (by omega)) rfl q) (by omega) ?_ fun u u1 u2 u3=>?_)
 ·intro i j h1 h2 h3
  exact aG (Int.lt_of_le_of_lt (s2 _ _ (by omega) (by omega) (by omega)) (dH h3))
 dsimp only;have A2:=iT (t3 (na-1) (by omega) (by omega))
 rw [show sa+(na-1)=sa+na-1 by omega] at A2
 by_cases z2:(u == 0)=true
 ·exfalso
  have:=d8 (u3 0 (by have:=eq_of_beq z2;omega) (by omega))
  rw [Nat.add_zero] at this;omega
 rw [aa z2];have un:1≤u:=by
  have:u≠0:=fun e=>z2 (by simp [e])
  omega
 have ox:=vO ok (lo:=sa+t) (hi:=sa+na) (by omega)
 have oy:=vO ok (lo:=sa+na) (hi:=sa+na+u) (by omega)
 have sx:aR key (arr.extract (sa+t) (sa+na)).toList:=vM (fun i j h1 h2 h3=>s1 i j (by omega) h2 h3) (by omega)
 have sy:aR key (arr.extract (sa+na) (sa+na+u)).toList:=vM (fun i j h1 h2 h3=>s2 i j h1 h2 (by omega)) (by omega)
 have zx:(arr.extract (sa+t) (sa+na)).size=na-t:=by simp;omega
 have zy:(arr.extract (sa+na) (sa+na+u)).size=u:=by simp;omega
 have h0:∀x∈(arr.extract (sa+t) (sa+na)).toList,key ((arr.extract (sa+na) (sa+na+u)).getD 0 nn)≤key x:=fun x hx=>by
  obtain ⟨j,j1,j2,rfl⟩:=ext_mem (by omega) hx
  rw [rA (by omega) (by omega),Nat.add_zero]
  have:=iT (t3 (j-sa) (by omega) (by omega))
  rw [show sa+(j-sa)=j by omega] at this
  exact bP this
 have hl:∀y∈(arr.extract (sa+na) (sa+na+u)).toList,key y≤key ((arr.extract (sa+t) (sa+na)).getD ((arr.extract (sa+t) (sa+na)).size-1) nn):=fun y hy=>by
  obtain ⟨j,j1,j2,rfl⟩:=ext_mem (by omega) hy
  rw [zx,rA (by omega) (by omega),show sa+t+(na-t-1)=sa+na-1 by omega]
  have:=dH (u2 (j-(sa+na)) (by omega))
  rw [show sa+na+(j-(sa+na))=j by omega] at this
  exact bP this
 have fin:∀(m:Array Keyed) (g':Nat),m.toList.Perm ((arr.extract (sa+t) (sa+na)).toList++(arr.extract (sa+na) (sa+na+u)).toList)→aR key m.toList→Q true (aO κ (putL m.toList (sa+t) arr 0) ((pend.setIfInBounds i (sa,na+nb,pw)).eraseIdxIfInBounds (i+1)) g'):=fun m g' pm sm=>by obtain ⟨rl,sg⟩:=AY (sb:=sa+na) hz rfl (j7 tn) u1 pm sm s1 s2 tn vP (fun i hi=>gE (t2 i hi)) (fun i h1 h2=>d8 (u3 i h1 h2));exact k _ g' rl sg
 refine cE (fun _=>?_) (fun _=>?_)
 ·refine ai (AI (κ:=κ) h ox oy sx sy (by omega) (by omega) h0 hl rfl fun m g' pm sm=>?_)
  exact ai (fv (ai (en (ah (fin m g' pm sm)))))
 ·refine ai (AM (κ:=κ) h ox oy sx sy (by omega) (by omega) h0 hl rfl fun m g' pm sm=>?_)
  exact ai (fv (ai (en (ah (fin m g' pm sm)))))
end
def bF(key:Keyed→Int)(arr:Array Keyed):List (Nat×Nat×Nat)→Nat→Nat→Prop
 | [],lo,hi=>lo=hi
 | p::r,lo,hi=>p.1=lo∧1≤p.2.1∧bI key arr lo (lo+p.2.1)∧bF key arr r (lo+p.2.1) hi
section
variable {key:Keyed→Int} {arr aF:Array Keyed}
theorem bF.le:∀{l:List (Nat×Nat×Nat)} {lo hi:Nat},bF key arr l lo hi→lo+l.length≤hi
 | [],lo,hi,h=>by have:lo=hi:=h;simp;omega
 | p::r,lo,hi,h=>by have:=bF.le h.2.2.2;have:=h.2.1;simp only [dm];omega
variable {hi:Nat}
theorem bI.cW{lo a b:Nat}(h:bI key arr lo hi)(rl:Rl arr aF a b)(d:hi≤a∨b≤lo):bI key aF lo hi:=fun i j h1 h2 h3=>by
 rw [rl.v (by omega),rl.v (by omega)]
 exact h i j h1 h2 h3
theorem bF.cW:∀{l:List (Nat×Nat×Nat)} {lo hi a b:Nat},bF key arr l lo hi→Rl arr aF a b→hi≤a∨b≤lo→bF key aF l lo hi
 | [],lo,hi,a,b,h,_,_=>h
 | p::r,lo,hi,a,b,h,rl,d=>by have:=h.2.2.2.le;refine ⟨h.1,h.2.1,h.2.2.1.cW rl (by omega),h.2.2.2.cW rl (by omega)⟩
theorem bF.snoc:∀{l:List (Nat×Nat×Nat)} {lo hi n pw:Nat},bF key arr l lo hi→1≤n→bI key arr hi (hi+n)→bF key arr (l++[(hi,n,pw)]) lo (hi+n)
 | [],lo,hi,n,pw,h,n1,s=>by obtain rfl:lo=hi:=h;exact ⟨rfl,n1,s,rfl⟩
 | p::r,lo,hi,n,pw,h,n1,s=>⟨h.1,h.2.1,h.2.2.1,h.2.2.2.snoc n1 s⟩
theorem bF.two:∀{l:List (Nat×Nat×Nat)} {lo hi i:Nat},bF key arr l lo hi→i+1<l.length→∃sa na pw nb iq,l[i]?=some (sa,na,pw)∧l[i+1]?=some (sa+na,nb,iq)∧1≤na∧1≤nb∧lo≤sa∧sa+na+nb≤hi∧bI key arr sa (sa+na)∧bI key arr (sa+na) (sa+na+nb) ∧
  ∀aF,Rl arr aF sa (sa+na+nb)→bI key aF sa (sa+na+nb)→bF key aF ((l.set i (sa,na+nb,pw)).eraseIdx (i+1)) lo hi
 | [],lo,hi,i,h,bh=>by simp at bh
 | [p],lo,hi,i,h,bh=>by simp at bh
 | p::q::r,lo,hi,0,h,_=>by
  obtain ⟨p1,p2,pw⟩:=p;obtain ⟨q1,q2,iq⟩:=q;obtain ⟨e1,n1,s1,e2,n2,s2,c⟩:=h;dsimp only at e1 n1 s1 e2 n2 s2 c;subst e1;subst e2;have:=c.le;refine ⟨p1,p2,pw,q2,iq,rfl,rfl,n1,n2,aA _,by omega,s1,s2,fun aF rl sg=>?_⟩
  show bF key aF ((p1,p2+q2,pw)::r) p1 hi;refine ⟨rfl,by show 1≤p2+q2;omega,by show bI key aF p1 (p1+(p2+q2));rw [←Nat.add_assoc];exact sg,?_⟩
  show bF key aF r (p1+(p2+q2)) hi;rw [←Nat.add_assoc];exact c.cW rl (.inr (aA _))
 | p::q::r,lo,hi,i+1,h,bh=>by
  obtain ⟨sa,na,pw,nb,iq,e1,e2,n1,n2,l1,l2,s1,s2,k⟩:=h.2.2.2.two (i:=i) (by simpa using bh)
  refine ⟨sa,na,pw,nb,iq,e1,e2,n1,n2,by omega,l2,s1,s2,fun aF rl sg=>?_⟩
  exact ⟨h.1,h.2.1,h.2.2.1.cW rl (.inl l1),k aF rl sg⟩
theorem bF.last:∀{l:List (Nat×Nat×Nat)} {lo hi pw:Nat},bF key arr l lo hi→bF key arr (l.modify (l.length-1) fun x=>(x.1,x.2.1,pw)) lo hi
 | [],lo,hi,pw,h=>h
 | [p],lo,hi,pw,h=>h
 | p::q::r,lo,hi,pw,h=>⟨h.1,h.2.1,h.2.2.1,h.2.2.2.last⟩
theorem bF.one{l:List (Nat×Nat×Nat)}(h:bF key arr l 0 hi)(hl:l.length≤1):bI key arr 0 hi:=by
 match l,h,hl with
 | [],h,_=>have:0=hi:=h;exact fun i j h1 h2 h3=>by omega
 | [p],h,_=>have:=h.2.2.1;have e:0+p.2.1=hi:=h.2.2.2;rw [←e];exact this
 | p::q::r,_,hl=>simp at hl
end
section
variable {prog:Program} {w:World} {A:Around} {E:ay} {s:Shared} {κ:SortKind} {key:Keyed→Int} {Ok:Keyed→Prop} {arr:Array Keyed} {pend:Array (Nat×Nat×Nat)} {g:Nat}
theorem rB(h:e9 prog w A s κ key Ok)(ok:cX Ok arr){hi:Nat}(c:bF key arr pend.toList 0 hi)(hz:hi≤arr.size)(bh:i+1<pend.size){Q:Bool→SortSt→Prop}
  (k:∀aF rC g',Rl arr aF 0 hi→bF key aF rC.toList 0 hi→rC.size+1=pend.size→Q true (aO κ aF rC g')):wpS (model prog w) A E s (mergeAt' i) Q (aO κ arr pend g):=by
 obtain ⟨sa,na,pw,nb,iq,e1,e2,n1,n2,l1,l2,s1,s2,kk⟩:=c.two (i:=i) (by simpa using bh)
 refine A0 h ok (by simpa using e1) (by simpa using e2) n1 n2 (by omega) s1 s2 fun aF g' rl sg=>?_
 refine k _ _ _ (rl.wide (cG _) l2) ?_ ?_
 ·have:=kk aF rl sg
  simpa using this
 ·rw [←fq,Array.toList_eraseIdxIfInBounds,List.length_eraseIdx,ae (by simpa using bh)]
  simp;omega
theorem A3(h:e9 prog w A s κ key Ok)(ok:cX Ok arr){Q:Unit→SortSt→Prop}
  (k:∀aF ao,aF.Perm arr→bI key aF 0 arr.size→arrOf ao=aF→failedOf ao=none→Q () ao):wpS (model prog w) A E s sortRuns' Q (aO κ arr #[] g):=by
 rw [sortRuns'_eq];refine ai (en ?_);dsimp only;have es:(arrOf (aO κ arr #[] g)).size=arr.size:=rfl;rw [es]
 refine ai (dg (cZ (I:=fun x c ao=>∃(av:Array Keyed) (cz:Array (Nat×Nat×Nat)) (g2 lo:Nat),ao=aO κ av cz g2∧c=(none,lo)∧av.Perm arr∧bF key av cz.toList 0 lo∧lo≤arr.size∧x≤lo)
  (Q:=fun c ao=>∃(av:Array Keyed) (cz:Array (Nat×Nat×Nat)) (g2:Nat),ao=aO κ av cz g2∧c=(none,arr.size)∧av.Perm arr∧bF key av cz.toList 0 arr.size) ?_ ?_ ⟨arr,#[],g,0,rfl,rfl,Array.Perm.refl _,rfl,cG _,aA _⟩) ?_)
 ·rintro x c ao _ hx ⟨av,cz,g2,lo,rfl,rfl,iV,jC,l1,l2⟩
  have ip:=kE ok iV;have z2:=iV.size_eq;dsimp only;by_cases z:lo≥arr.size
  ·rw [ae z]
   obtain rfl:lo=arr.size:=by omega
   exact ah ⟨av,cz,g2,rfl,rfl,iV,jC⟩
  rw [aa z];refine ai (AO h ip (by omega) (by omega) fun n bC n1 nn fP sg=>?_)
  have cA:=fP.pm.trans iV;have vQ:=kE ok cA;have z3:=cA.size_eq;have d9:=jC.cW fP (.inl (aA _));dsimp only;by_cases y:n<minRun' arr.size arr.size 0
  ·rw [ae y]
   refine ai (wpS_lift (eS ⟨rfl,?_⟩));refine ai (AU h vQ (n:=min (arr.size-lo) (minRun' arr.size arr.size 0)) (by omega) n1 (by omega) sg fun aJ ba dj=>?_)
   rw [aa (by simp)]
   have dk:=d9.cW ba (.inl (aA _));have rD:=ba.pm.trans cA;clear d9 cA vQ z3 sg fP ba;have f1:1≤min (arr.size-lo) (minRun' arr.size arr.size 0):=by omega
   have f2:lo+min (arr.size-lo) (minRun' arr.size arr.size 0)≤arr.size:=by omega
   generalize min (arr.size-lo) (minRun' arr.size arr.size 0)=fo at dj f1 f2 ⊢
   revert dk rD dj
   generalize aJ=bC;intro d9 cA dj;refine ai (en ?_);have eb:(pendingOf (aO κ bC cz g2)).back?=cz.back?:=rfl;rw [eb];cases cz.back? with
   | none=>dsimp only;exact ai (fv (ah ⟨bC,cz.push (lo,fo,0),g2,lo+fo,rfl,rfl,cA,by rw [iC];exact d9.snoc f1 dj,f2,by have:=f1;omega⟩))
   | some p=>
    obtain ⟨A4,A5,A6⟩:=p;dsimp only;have z3:=cA.size_eq
    refine ai (dg (cZ (I:=fun y c ao=>∃(aJ:Array Keyed) (aZ:Array (Nat×Nat×Nat)) (g4:Nat),ao=aO κ aJ aZ g4∧c=(none,())∧Rl bC aJ 0 lo∧bF key aJ aZ.toList 0 lo)
     (Q:=fun c ao=>∃(aJ:Array Keyed) (aZ:Array (Nat×Nat×Nat)) (g4:Nat),ao=aO κ aJ aZ g4∧c=(none,())∧Rl bC aJ 0 lo∧bF key aJ aZ.toList 0 lo) ?_ (fun c ao hh=>hh) ⟨bC,cz,g2,rfl,rfl,Rl.refl ..,d9⟩) ?_)
    ·rintro y c ao _ hy ⟨aJ,aZ,g4,rfl,rfl,ba,dk⟩
     have z4:=ba.size;refine ai (en ?_);have hx:∀o,o=(if (pendingOf (aO κ aJ aZ g4)).size>1 then (pendingOf (aO κ aJ aZ g4))[(pendingOf (aO κ aJ aZ g4)).size-2]? else none)→o.isSome=true→aZ.size>1:=fun o ho hs=>by
      by_cases z:aZ.size>1;·exact z
      ·rw [aa z] at ho
       rw [ho] at hs;cases hs
     generalize eo:(if (pendingOf (aO κ aJ aZ g4)).size>1 then (pendingOf (aO κ aJ aZ g4))[(pendingOf (aO κ aJ aZ g4)).size-2]? else none)=o
     cases o with
     | none=>exact ah ⟨aJ,aZ,g4,rfl,rfl,ba,dk⟩
     | some p=>
      have gt:=hx _ eo.symm rfl;obtain ⟨q1,q2,A7⟩:=p;dsimp only;refine cE (fun _=>ah ⟨aJ,aZ,g4,rfl,rfl,ba,dk⟩) (fun _=>?_);refine ai (rB h (kE ok (ba.pm.trans cA)) dk (by omega) (show aZ.size-2+1<aZ.size by omega) fun rE rF g5 rG rH _=>?_)
      rw [aa (by simp)]
      exact ah ⟨rE,rF,g5,rfl,rfl,ba.trans rG,rH⟩
    ·rintro c ao ⟨aJ,aZ,g4,rfl,rfl,ba,dk⟩
     dsimp only;refine ai (fv (ai (fv (ah ⟨aJ,_,g4,lo+fo,rfl,rfl,ba.pm.trans cA,?_,f2,by have:=f1;omega⟩))))
     rw [iC];refine bF.snoc ?_ f1 (bI.cW dj ba (.inr (aA _)));rw [Array.toList_modify];exact dk.last
  ·rw [aa y]
   have f2:lo+n≤arr.size:=by omega
   refine ai (en ?_);have eb:(pendingOf (aO κ bC cz g2)).back?=cz.back?:=rfl;rw [eb];cases cz.back? with
   | none=>dsimp only;exact ai (fv (ah ⟨bC,cz.push (lo,n,0),g2,lo+n,rfl,rfl,cA,by rw [iC];exact d9.snoc n1 sg,f2,by have:=n1;omega⟩))
   | some p=>
    obtain ⟨A4,A5,A6⟩:=p;dsimp only;have z3:=cA.size_eq
    refine ai (dg (cZ (I:=fun y c ao=>∃(aJ:Array Keyed) (aZ:Array (Nat×Nat×Nat)) (g4:Nat),ao=aO κ aJ aZ g4∧c=(none,())∧Rl bC aJ 0 lo∧bF key aJ aZ.toList 0 lo)
     (Q:=fun c ao=>∃(aJ:Array Keyed) (aZ:Array (Nat×Nat×Nat)) (g4:Nat),ao=aO κ aJ aZ g4∧c=(none,())∧Rl bC aJ 0 lo∧bF key aJ aZ.toList 0 lo) ?_ (fun c ao hh=>hh) ⟨bC,cz,g2,rfl,rfl,Rl.refl ..,d9⟩) ?_)
    ·rintro y c ao _ hy ⟨aJ,aZ,g4,rfl,rfl,ba,dk⟩
     have z4:=ba.size;refine ai (en ?_);have hx:∀o,o=(if (pendingOf (aO κ aJ aZ g4)).size>1 then (pendingOf (aO κ aJ aZ g4))[(pendingOf (aO κ aJ aZ g4)).size-2]? else none)→o.isSome=true→aZ.size>1:=fun o ho hs=>by
      by_cases z:aZ.size>1;·exact z
      ·rw [aa z] at ho
       rw [ho] at hs;cases hs
     generalize eo:(if (pendingOf (aO κ aJ aZ g4)).size>1 then (pendingOf (aO κ aJ aZ g4))[(pendingOf (aO κ aJ aZ g4)).size-2]? else none)=o
     cases o with
     | none=>exact ah ⟨aJ,aZ,g4,rfl,rfl,ba,dk⟩
     | some p=>
      have gt:=hx _ eo.symm rfl;obtain ⟨q1,q2,A7⟩:=p;dsimp only;refine cE (fun _=>ah ⟨aJ,aZ,g4,rfl,rfl,ba,dk⟩) (fun _=>?_);refine ai (rB h (kE ok (ba.pm.trans cA)) dk (by omega) (show aZ.size-2+1<aZ.size by omega) fun rE rF g5 rG rH _=>?_)
      rw [aa (by simp)]
      exact ah ⟨rE,rF,g5,rfl,rfl,ba.trans rG,rH⟩
    ·rintro c ao ⟨aJ,aZ,g4,rfl,rfl,ba,dk⟩
     dsimp only;refine ai (fv (ai (fv (ah ⟨aJ,_,g4,lo+n,rfl,rfl,ba.pm.trans cA,?_,f2,by have:=n1;omega⟩))))
     rw [iC];refine bF.snoc ?_ n1 (bI.cW sg ba (.inr (aA _)));rw [Array.toList_modify];exact dk.last
 ·rintro c ao ⟨av,cz,g2,lo,rfl,rfl,iV,jC,l1,l2⟩
  obtain rfl:lo=arr.size:=by omega
  exact ⟨av,cz,g2,rfl,rfl,iV,jC⟩
 ·rintro c ao ⟨av,cz,g2,rfl,rfl,iV,jC⟩
  dsimp only;have pz:=jC.le
  refine ai (dg (cZ (I:=fun x c ao=>∃(bC:Array Keyed) (cB:Array (Nat×Nat×Nat)) (g3:Nat),ao=aO κ bC cB g3∧c=(none,())∧bC.Perm arr∧bF key bC cB.toList 0 arr.size∧cB.size+x≤arr.size)
   (Q:=fun c ao=>∃(bC:Array Keyed) (cB:Array (Nat×Nat×Nat)) (g3:Nat),ao=aO κ bC cB g3∧c=(none,())∧bC.Perm arr∧bF key bC cB.toList 0 arr.size∧cB.size≤1) ?_ ?_ ⟨av,cz,g2,rfl,rfl,iV,jC,show cz.size+0≤arr.size by simpa using pz⟩) ?_)
  ·rintro x c ao _ hx ⟨bC,cB,g3,rfl,rfl,cA,d9,l3⟩
   have z3:=cA.size_eq;refine ai (en ?_);by_cases z:(pendingOf (aO κ bC cB g3)).size≤1
   ·rw [ae z]
    exact ah ⟨bC,cB,g3,rfl,rfl,cA,d9,z⟩
   ·rw [aa z]
    have z':1<cB.size:=Nat.lt_of_not_le z;have go:∀i,i+1<cB.size→wpS (model prog w) A E s (mergeAt' i) (fun b ao=>b=true∧∃(aJ:Array Keyed) (aZ:Array (Nat×Nat×Nat)) (g4:Nat),ao=aO κ aJ aZ g4∧aJ.Perm arr∧bF key aJ aZ.toList 0 arr.size∧aZ.size+(x+1)≤arr.size) (aO κ bC cB g3):=fun i hi=>by refine rB h (kE ok cA) d9 (by omega) hi fun aJ aZ g4 ba dk sz=>⟨rfl,aJ,aZ,g4,rfl,ba.pm.trans cA,dk,by omega⟩
    refine ai (dg (go _ ?_) ?_)
    ·show (if _ then _ else _)+1<cB.size
     have e:(pendingOf (aO κ bC cB g3)).size=cB.size:=rfl;rw [e];have:∀c:Bool,(if c=true then cB.size-2-1 else cB.size-2)+1<cB.size:=fun c=>by cases c <;> simp <;> omega
     exact this _
    ·rintro b ao ⟨rfl,aJ,aZ,g4,rfl,rD,dk,l4⟩
     rw [aa (by simp)]
     exact ah ⟨aJ,aZ,g4,rfl,rfl,rD,dk,l4⟩
  ·rintro c ao ⟨bC,cB,g3,rfl,rfl,cA,d9,l3⟩
   exact ⟨bC,cB,g3,rfl,rfl,cA,d9,by omega⟩
  ·rintro c ao ⟨bC,cB,g3,rfl,rfl,cA,d9,l3⟩
   exact ah (k bC _ cA (d9.one (by simpa using l3)) rfl rfl)
end
end Tm
namespace My
open PySem PySem.W PyProof.Rows Tm
section
variable {prog:Program} {w:World} {A:Around} {E:ay} {s:Shared}
def cL(h:Heap)(v:Value)(x y:Int):Prop:=∃a o t u e,v=.ref a∧h.get? a=some o∧o.cls=.type "tuple"∧o.data=.seq #[.int x t,.int y u] e
variable {x y x' y':Int}
theorem A8{v v':Value}(h1:cL s.heap v x y)(h2:cL s.heap v' x' y'){Q:Bool→Shared→Prop}(h:Q (decide (x<x'∨x=x'∧y<y')) s):wpAny (model prog w) A (keyLt' (tuples' true) v v') Q E s:=by
 obtain ⟨a,o,t,u,e,rfl,g,_,d⟩:=h1;obtain ⟨a',o',t',u',e',rfl,g',_,d'⟩:=h2;refine kat_lt g d g' d' ?_;show KatLex prog w A true (decide (2<2)) Q [(.int x t,.int x' t'),(.int y u,.int y' u')] 0 s;refine kat_cons (wpAny_eqBool_int ?_);by_cases z:x=x'
 ·subst z
  rw [show (x == x)=true by simp]
  refine kat_yes (kat_cons (wpAny_eqBool_int ?_));by_cases z2:y=y'
  ·subst z2
   rw [show (y == y)=true by simp]
   refine kat_yes (kat_nil ?_);rw [bp (by omega)] at h
   exact h
  ·rw [show (y == y')=false by simp [z2]]
   refine kat_no ?_;show wpAny (model prog w) A (oneLt' false (.int y u) (.int y' u')) Q _ s;refine kat_one _ _ (lt_int ?_);show Q (decide (y<y')) s;rw [show decide (y<y')=decide (x<x∨x=x∧y<y') from i7.mpr (by omega)]
   exact h
 ·rw [show (x == x')=false by simp [z]]
  refine kat_no ?_;show wpAny (model prog w) A (oneLt' true (.int x t) (.int x' t')) Q _ s;refine oneLt_int ?_;rw [show decide (x<x')=decide (x<x'∨x=x'∧y<y') from i7.mpr (by omega)]
  exact h
theorem vR{h:Heap}:∀{vs:List Value},(∀v∈vs,∃x y,cL h v x y)→∃fs:List Value,KatTups h vs fs∧fs.length=vs.length∧∀f∈fs,∃n t,f=.int n t
 | [],_=>⟨[],.nil,rfl,fun f hf=>by cases hf⟩
 | v::vs,hv=>by
  obtain ⟨fs,k,l,i⟩:=vR (vs:=vs) fun v h=>hv v (fU _ h);obtain ⟨x,y,a,o,t,u,e,rfl,g,c,d⟩:=hv v gN;refine ⟨.int x t::fs,.cons g c d rfl k,by rw [dm,dm,l],fun f hf=>?_⟩
  rcases cp.mp hf with rfl | hf;·exact ⟨x,t,rfl⟩
  ·exact i f hf
theorem perm_back{α β:Type}{f:α→β}{l m:List β}(h:l.Perm m):∀q:List α,m=q.map f→∃p:List α,p.Perm q∧l=p.map f:=by
 induction h with
 | nil=>intro q e;exact ⟨q,List.Perm.refl _,e⟩
 | cons x _ ih=>
  intro q e
  match q,e with
  | a::q,e=>obtain ⟨rfl,e'⟩:=List.cons.inj e;obtain ⟨p,hp,rfl⟩:=ih q e';exact ⟨a::p,hp.cons a,rfl⟩
 | swap x y _=>
  intro q e
  match q,e with
  | a::b::q,e=>obtain ⟨rfl,e'⟩:=List.cons.inj e;obtain ⟨rfl,rfl⟩:=List.cons.inj e';exact ⟨b::a::q,List.Perm.swap ..,rfl⟩
 | trans _ _ A9 A_=>intro q e;obtain ⟨p,hp,e1⟩:=A_ q e;obtain ⟨p',iW,e2⟩:=A9 p e1;exact ⟨p',iW.trans hp,e2⟩
variable {h:Heap}
theorem cL.uniq{v:Value}(h1:cL h v x y)(h2:cL h v x' y'):x=x'∧y=y':=by obtain ⟨a,o,t,u,e,rfl,g,_,d⟩:=h1;obtain ⟨a',o',t',u',e',ev,g',_,d'⟩:=h2;cases ev;rw [g] at g';cases g';rw [d] at d';simp at d';exact ⟨d'.1.1.1,d'.1.2.1⟩
open Classical in
noncomputable def rJ (h:Heap) (k:Keyed):Int:=if e:∃z:Int×Int,cL h k.1 z.1 z.2 then (choose e).1*1000+(choose e).2 else 0
theorem o7{v u:Value}(p:cL h v x y):rJ h (v,u)=x*1000+y:=by have e:∃z:Int×Int,cL h (v,u).1 z.1 z.2:=⟨(x,y),p⟩;unfold rJ;rw [dif_pos e];obtain ⟨a,b⟩:=(Classical.choose_spec e).uniq p;rw [a,b]
variable {vs:List Value}
theorem Ba{x y:Nat→Int}(h2:2≤vs.length)(hv:∀i v,vs[i]?=some v→cL s.heap v (x i) (y i)∧0≤y i∧y i<1000){Q:SortSt→Shared→Prop}
  (hQ:∀(p:Array Nat) (st:SortSt),ie vs.length p→jw (fun i=>x i*1000+y i) p vs.length→(arrOf st).map (·.2)=List.toArray (p.toList.map fun i=>vs.getD i Value.none)→failedOf st=none→Q st s) :
  wpAny (model prog w) A (sortRuns'.run (SortSt.mk' (tuples' true) (vs.toArray.zip vs.toArray) #[] 7 none)) (fun r s'=>Q r.2 s') E s:=by
 have az:(vs.toArray.zip vs.toArray).size=vs.length:=by simp
 have ag:∀i,i<vs.length→(vs.toArray.zip vs.toArray).getD i nn=(vs.getD i Value.none,vs.getD i Value.none):=fun i hi=>by simp [Array.getD,hi]
 have ga:∀i (hi:i<vs.length),cL s.heap (vs.getD i Value.none) (x i) (y i)∧0≤y i∧y i<1000:=fun i hi=>by refine hv i _ ?_;simp [hi]
 have lt:e9 prog w A s (tuples' true) (rJ s.heap) (fun k=>∃a b,cL s.heap k.1 a b∧0≤b∧b<1000):=by
  rintro ⟨u,u'⟩ ⟨v,v'⟩ ⟨a,b,p1,b0,b1⟩ ⟨c,d,p2,d0,d1⟩ C hC;refine A8 p1 p2 ?_;rw [o7 p1,o7 p2] at hC;rw [show decide (a<c∨a=c∧b<d)=decide (a*1000+b<c*1000+d) from i7.mpr (by omega)]
  exact hC
 have ok:cX (fun k=>∃a b,cL s.heap k.1 a b∧0≤b∧b<1000) (vs.toArray.zip vs.toArray):=fun i hi=>by rw [az] at hi;rw [ag i hi];exact ⟨_,_,ga i hi⟩
 refine bq (A3 (E:=E) (Q:=fun _ st=>Q st s) (g:=7) lt ok fun aF st pm sg ha hf=>?_) (fun r s' h'=>by obtain ⟨rfl,h'⟩:=h';exact h') fun _ _ e=>e
 have el:(vs.toArray.zip vs.toArray).toList=(List.range vs.length).map fun i=>(vs.getD i Value.none,vs.getD i Value.none):=by
  refine l6 (by simp) fun i h1 h2=>?_
  have hi:i<vs.length:=by simpa using h2
  simp [hi]
 obtain ⟨p,hp,ep⟩:=perm_back (l5.mp pm) _ el;have pl:p.length=vs.length:=by rw [hp.length_eq,l7]
 have Bb:∀i∈p,i<vs.length:=fun i hi=>cN.mp (hp.mem_iff.mp hi);have gz:aF.size=vs.length:=by rw [pm.size_eq,az]
 have gd:∀i,i<vs.length→aF.getD i nn=(vs.getD (p.toArray.getD i 0) Value.none,vs.getD (p.toArray.getD i 0) Value.none)∧p.toArray.getD i 0<vs.length:=fun i hi=>by
  have e1:aF.getD i nn=aF.toList[i]'(by simp;omega):=by simp [Array.getD,show i<aF.size by omega]
  have e2:p.toArray.getD i 0=p[i]'(by omega):=by simp [Array.getD,show i<p.length by omega]
  rw [e1,e2];refine ⟨?_,Bb _ (gU _)⟩;simp [ep]
 refine hQ p.toArray st (l5.mpr (by simpa using hp)) (fun i j h1 h3=>?_) ?_ hf
 ·have:=sg i j (cG _) h1 (by rw [az];exact h3)
  unfold vA at this;obtain ⟨e1,l1⟩:=gd i (by omega)
  obtain ⟨e2,l2⟩:=gd j h3;rw [e1,e2,o7 (ga _ l1).1,o7 (ga _ l2).1] at this;exact this
 ·rw [ha]
  apply Array.toList_inj.mp;rw [Array.toList_map,ep,List.map_map];rfl
theorem Bc{Q:SortKind→Shared→Prop}(h1:1≤vs.length)(hv:∀v∈vs,∃x y,cL s.heap v x y)(h:Q (tuples' true) s):wpAny (model prog w) A (keyKind' vs.toArray) Q E s:=by
 obtain ⟨fs,k,l,i⟩:=vR hv;refine kat_kind (T:=Value.type "int") k (by omega) (fun v hv=>?_) rfl h
 obtain ⟨n,t,rfl⟩:=i v hv;exact .now
theorem cL.mono{h':Heap}{v:Value}(k:∀b o,h.get? b=some o→h'.get? b=some o)(p:cL h v x y):cL h' v x y:=by obtain ⟨a,o,t,u,e,rfl,g,c,d⟩:=p;exact ⟨a,o,t,u,e,rfl,k _ _ g,c,d⟩
theorem Bd{a:Addr}{n:Nat}{x y:Nat→Int}{P:PySem.Fin→Shared→Prop}(ho:s.heap.get? a=some (seqObj "list" vs.toArray n))(rK:vs.length<1000)(hv:∀i v,vs[i]?=some v→cL s.heap v (x i) (y i)∧0≤y i∧y i<1000)
  (h:∀(p:Array Nat),ie vs.length p→jw (fun i=>x i*1000+y i) p vs.length→P (.done (.ret .none)) {s with heap:=sortedHeap s.heap a vs (List.toArray (p.toList.map fun i=>vs.getD i Value.none))}) :
  wpAny (model prog w) A (Builtin.«list.sort» ⟨[.ref a],[]⟩) P E s:=by
 have sl:vs.length≤sizeLine:=by rw [sizeLine_eq];omega
 have lt:=aX ho
 obtain ⟨e1,g1⟩:∃e,(s.heap.update a (Obj.mapSeq fun _=>#[])).get? a=some (seqObj "list" #[] e):=⟨_,get?_update_seq ho fun _=>#[]⟩
 have z1:(s.heap.update a (Obj.mapSeq fun _=>#[])).objs.size=s.heap.objs.size:=Heap.size_update _ _ _
 have up:∀b u,b<s.heap.objs.size→(s.heap.update a (Obj.mapSeq fun _=>#[])).get? b=some u→(((s.heap.update a (Obj.mapSeq fun _=>#[])).push (seqObj "tuple" vs.toArray 0)).push (seqObj "list" #[] 0)).get? b=some u:=fun b u hb hu=>by
  rw [kg _ _ _ (b_ (by rw [size_push',z1];exact nJ hb)),kg _ _ _ (b_ (by rw [z1];exact hb))]
  exact hu
 have g3:=up a _ lt g1
 have vS:∀i v,vs[i]?=some v→cL (((s.heap.update a (Obj.mapSeq fun _=>#[])).push (seqObj "tuple" vs.toArray 0)).push (seqObj "list" #[] 0)) v (x i) (y i)∧0≤y i∧y i<1000:=fun i v hi=>by
  obtain ⟨⟨b,o,t,u,e,rfl,g,cc,d⟩,y0⟩:=hv i v hi
  have nb:b≠a:=fun q=>by
   rw [q,ho] at g
   cases g
   exact absurd (Value.type.inj cc) (by decide)
  refine ⟨⟨b,o,t,u,e,rfl,up b o (aX g) ?_,cc,d⟩,y0⟩
  rw [nK _ _ _ _ nb]
  exact g
 rw [list_sort_plain]
 refine ak (listItems_at ho rfl (ak (listUpdate_at ho rfl ?_ (by rw [bO];omega) (cG _))))
 refine ak (seqEpoch_at g1 rfl (ak (wpAny_newTuple ?_ (by show vs.length≤_;omega))))
 refine ak (wpAny_newList (gO ?_) (cG _))
 show wpAny (model prog w) A _ P E {s with heap:=((s.heap.update a (Obj.mapSeq fun _=>#[])).push (seqObj "tuple" vs.toArray 0)).push (seqObj "list" #[] 0)}
 dsimp only
 have fin:∀(st:SortSt) (p:Array Nat),ie vs.length p→jw (fun i=>x i*1000+y i) p vs.length→(arrOf st).map (·.2)=List.toArray (p.toList.map fun i=>vs.getD i Value.none)→failedOf st=none→
   wpAny (model prog w) A (do
    let touched:=(←seqEpoch a) != e1
    Builtin.List.listUpdate (.ref a) fun _=>(arrOf st).map (·.2)
    if let some e:=failedOf st then rule "list.sort.comparison-raised";throw e
    if touched then rule "list.sort.modified";raiseError "ValueError" "list modified during sort"
    ret .none) P E {s with heap:=((s.heap.update a (Obj.mapSeq fun _=>#[])).push (seqObj "tuple" vs.toArray 0)).push (seqObj "list" #[] 0)}:=fun st p hp hu ha hf=>by
  refine ak (seqEpoch_at g3 rfl (ak (listUpdate_at g3 rfl ?_ (cG _) ?_)))
  ·rw [hf,ha]
   simp only [bne_self_eq_false,Bool.false_eq_true,if_false]
   exact aL (h p hp hu)
  ·rw [ha,bO,b8,fq,hp.size]
   omega
 by_cases z:vs.toArray.size<2
 ·rw [ae z,ae z]
  refine ak (aL ?_)
  rw [StateT.run_pure]
  refine ak (aL ?_)
  have len:vs.length<2:=by simpa using z
  refine fin _ (List.toArray (List.range vs.length)) (Array.Perm.refl _) (fun a b h1 h2=>by
   obtain rfl:a=b:=by omega
   exact gT _) ?_ rfl
  match vs,len with
  | [],_=>
   show Array.map (·.2) ((#[]:Array Value).zip #[])=_
   simp
  | [v],_=>
   show Array.map (·.2) (#[v].zip #[v])=_
   simp
 ·rw [aa z,aa z]
  have len:2≤vs.length:=by simpa using z
  refine ak (Bc (by omega) (fun v hm=>?_) ?_)
  ·obtain ⟨i,hi,rfl⟩:=List.getElem_of_mem hm
   exact ⟨_,_,(vS i _ (by simp [hi])).1⟩
  ·refine ak (bq (Ba (Q:=fun st s'=>s'={s with heap:=((s.heap.update a (Obj.mapSeq fun _=>#[])).push (seqObj "tuple" vs.toArray 0)).push (seqObj "list" #[] 0)}∧∃p,ie vs.length p∧jw (fun i=>x i*1000+y i) p vs.length∧(arrOf st).map (·.2)=List.toArray (p.toList.map fun i=>vs.getD i Value.none)∧failedOf st=none) len vS fun p st a1 a2 a3 a4=>⟨rfl,p,a1,a2,a3,a4⟩) ?_ fun _ _ e=>e)
   rintro ⟨⟨⟩,st⟩ s' ⟨rfl,p,a1,a2,a3,a4⟩
   exact fin st p a1 a2 a3 a4
end
open PySem PySem.W PyProof.Rows
section
variable {prog:Program} {w:World} {A:Around} {E:ay} {s:Shared}
theorem Be{l:Addr}{vs:List Value}{x y:Nat→Int}{Q:ay}(hl:s.heap.IsList l vs.toArray)(rK:vs.length<1000)(hv:∀i v,vs[i]?=some v→cL s.heap v (x i) (y i)∧0≤y i∧y i<1000)
  (h:∀(p:Array Nat) (h':Heap) (c:Nat),ie vs.length p→jw (fun i=>x i*1000+y i) p vs.length→(∀b o,s.heap.get? b=some o→h'.get? b=some o)→h'.get? (s.heap.objs.size+1)=some (seqObj "list" (List.toArray (p.toList.map fun i=>vs.getD i Value.none)) c)→Q (.ref (s.heap.objs.size+1)) {s with heap:=h'}) :
  wpAny (model prog w) A (call (.builtin "sorted") [.ref l]) Q E s:=by
 have sl:vs.length≤sizeLine:=by rw [sizeLine_eq];omega
 refine Calls.call_function_entry kind_sorted plain_sorted entry_sorted (args_sorted1 _) ?_;unfold Builtin.«sorted»;refine ak (m:=checkCount "sorted" 1 1 _) (aL (ak (collect_list hl (ak (wpAny_newList ?_ sl)) sl)));have zz:((s.heap.push (seqObj "list" #[] 0)).update s.heap.objs.size (Obj.mapSeq (·++vs.toArray))).objs.size=s.heap.objs.size+1:=by rw [Heap.size_update,size_push']
 have kp:∀b o,s.heap.get? b=some o→(((s.heap.push (seqObj "list" #[] 0)).update s.heap.objs.size (Obj.mapSeq (·++vs.toArray))).push (seqObj "list" vs.toArray 0)).get? b=some o:=fun b o g=>by
  have lt:=aX g;rw [kg _ _ _ (b_ (by rw [zz];exact nJ lt)),nK _ _ _ _ (b_ lt),kg _ _ _ (b_ lt)]
  exact g
 have gL:(((s.heap.push (seqObj "list" #[] 0)).update s.heap.objs.size (Obj.mapSeq (·++vs.toArray))).push (seqObj "list" vs.toArray 0)).get? (s.heap.objs.size+1)=some (seqObj "list" vs.toArray 0):=by rw [←zz];exact cu _ rfl
 show wpAny _ _ _ _ _ {s with heap:=((s.heap.push (seqObj "list" #[] 0)).update s.heap.objs.size (Obj.mapSeq (·++vs.toArray))).push (seqObj "list" vs.toArray 0)};rw [zz];generalize ((s.heap.push (seqObj "list" #[] 0)).update s.heap.objs.size (Obj.mapSeq (·++vs.toArray))).push (seqObj "list" vs.toArray 0)=h1 at kp gL;refine ak (gO (fX slot_list_sort ⟨_,gL,rfl⟩ entry_list_sort (Bd (s:={s with heap:=h1}) gL rK (fun i v hi=>⟨(hv i v hi).1.mono kp,(hv i v hi).2⟩) fun p hp hu=>⟨_,rfl,?_⟩) (args_list_sort _)));have Bf:=aX gL;have z1:(h1.update (s.heap.objs.size+1) (Obj.mapSeq fun _=>#[])).objs.size=h1.objs.size:=Heap.size_update _ _ _;obtain ⟨e1,g1⟩:∃e,(h1.update (s.heap.objs.size+1) (Obj.mapSeq fun _=>#[])).get? (s.heap.objs.size+1)=some (seqObj "list" #[] e):=⟨_,get?_update_seq gL fun _=>#[]⟩;have up:∀b u,b<h1.objs.size→(h1.update (s.heap.objs.size+1) (Obj.mapSeq fun _=>#[])).get? b=some u→(((h1.update (s.heap.objs.size+1) (Obj.mapSeq fun _=>#[])).push (seqObj "tuple" vs.toArray 0)).push (seqObj "list" #[] 0)).get? b=some u:=fun b u hb hu=>by
  rw [kg _ _ _ (b_ (by rw [size_push',z1];exact nJ hb)),kg _ _ _ (b_ (by rw [z1];exact hb))]
  exact hu
 have g3:=up _ _ Bf g1;refine aL ⟨_,rfl,h p _ _ hp hu (fun b o g=>?_) (get?_update_seq g3 fun _=>List.toArray (p.toList.map fun i=>vs.getD i Value.none))⟩;have g':=kp b o g;have ne:b≠s.heap.objs.size+1:=b_ (nJ (aX g));show (Heap.update _ _ _).get? b=some o;rw [nK _ _ _ _ ne];refine up b o (aX g') ?_;rw [nK _ _ _ _ ne];exact g'
end
end My
namespace L2
open PySem PySem.W PyProof.Rows My
def vT:List V→Hp→VK→Prop:=fun xs H Q=>∃(a:Addr) (vs:List V) (x y:Nat→Int),xs=[.ref a]∧H a=some (.lst vs)∧vs.length<1000∧(∀(i:Nat) (v:V),vs[i]?=some v→(∃b,v=.ref b∧H b=some (.tup [.int (x i),.int (y i)]))∧0≤y i∧y i<1000) ∧
 ∀(p:Array Nat) (l:Addr),ie vs.length p→jw (fun i=>x i*1000+y i) p vs.length→H l=none→Q (.ref l) (upd H l (.lst (p.toList.map fun i=>vs.getD i .aN)))
theorem vU{xs:List V}{us:List Value}(r:Vals xs us):∀(ns:List Nat),(∀i∈ns,i<xs.length)→Vals (ns.map fun i=>xs.getD i .aN) (ns.map fun i=>us.getD i Value.none)
 | [],_=>.nil
 | i::ns,h=>by
  have hi:=h i gN;obtain ⟨u,e,ru⟩:=r.get (i:=i) (x:=xs[i]) (by simp [hi])
  refine .cons ?_ (vU r ns fun j hj=>h j (fU _ hj));dsimp only;rw [show xs.getD i .aN=xs[i] by simp [hi],show us.getD i Value.none=u by rw [gS,e];rfl]
  exact ru
theorem Bg{X:Cx}:gr X (.builtin "sorted") vT:=by
 intro pins s σ H xs us Q I r h;obtain ⟨a,vs,x,y,rfl,ha,rK,hv,k⟩:=h;obtain ⟨u,rfl,ru⟩:=vals1 r;cases ru;obtain ⟨aj,rv,pl,hz⟩:=I.list (.of ha);have hl:=rv.length;refine Be (x:=x) (y:=y) pl.isList (by omega) (fun i v hi=>?_) fun p h' c hp hu kp g=>?_
 ·have bh:i<vs.length:=by have:=(cq.mp hi).1;omega
  have gi:vs[i]?=some vs[i]:=by simp [bh]
  obtain ⟨⟨b,eb,hb⟩,Bh⟩:=hv i _ gi;obtain ⟨u,eu,ru⟩:=rv.get gi;rw [hi] at eu;cases eu;rw [eb] at ru;cases ru;obtain ⟨_,gA,r2,o,g,cl,e,d⟩:=(show cx X.prog X.w H s.heap b (.tup [.int (x i),.int (y i)]) from I.ax b _ hb);obtain ⟨u1,u2,rfl,q1,q2⟩:=vals2 r2;obtain ⟨t1,rfl⟩:=q1;obtain ⟨t2,rfl⟩:=q2;exact ⟨⟨b,o,t1,t2,e,rfl,g,cl,d⟩,Bh⟩
 ·rw [←hl] at hp hu
  have sz:=hp.size;refine ⟨.ref (s.heap.objs.size+1),_,I.laid (t':=s.toks) (o:=.lst (p.toList.map fun i=>vs.getD i .aN)) kp (Nat.le_succ _) ⟨?_,p.toList.map fun i=>aj.getD i Value.none,c,?_,g⟩,rfl,k p _ hp hu (I.ax.fresh (Nat.le_succ _))⟩
  ·rw [b8,fq,sz]
   exact hz
  ·refine vU rv _ fun i hi=>?_
   have m:i∈List.toArray (List.range vs.length):=(Array.Perm.mem_iff hp).mp (Array.mem_toList_iff.mp hi);simpa using m
end L2
namespace My
open PySem L2
def a8(H:Hp)(vs:List V)(L:c_):Prop:=vs.length=L.length∧∀(k:Nat) (v:V) (p:Int×Int),vs[k]?=some v→L[k]?=some p→∃b,v=.ref b∧H b=some (.tup [.int p.1,.int p.2])
theorem a8.nil(H:Hp):a8 H [] []:=⟨rfl,fun k v p h=>by simp at h⟩
variable {H H':Hp} {vs:List V} {L:c_}
theorem a8.mono(h:a8 H vs L)(s:au H H'):a8 H' vs L:=⟨h.1,fun k v p h1 h2=>by obtain ⟨b,e,g⟩:=h.2 k v p h1 h2;exact ⟨b,e,s _ _ g⟩⟩
variable {xs:List V}
theorem a8.cW{r:Addr}(h:a8 H vs L)(e:H r=some (.lst xs))(k:∀b o,b≠r→H b=some o→H' b=some o):a8 H' vs L:=⟨h.1,fun i v p h1 h2=>by obtain ⟨b,eb,g⟩:=h.2 i v p h1 h2;refine ⟨b,eb,k b _ (fun z=>?_) g⟩;rw [z,e] at g;cases g⟩
def lexLt(p q:Int×Int):Prop:=p.1<q.1∨p.1=q.1∧p.2<q.2
variable {M:c_}
theorem Bj{p:Array Nat}(P:ie M.length p)(U:jw (fun i=>(M.getD i (0,0)).1*1000+(M.getD i (0,0)).2) p M.length)(nd:M.Nodup)(b:∀q∈M,0≤q.2∧q.2<1000) :
  (p.toList.map fun i=>M.getD i (0,0)).Perm M∧(p.toList.map fun i=>M.getD i (0,0)).Pairwise lexLt:=by
 have pm:p.toList.Perm (List.range M.length):=l5.mp P;have pn:p.toList.Nodup:=pm.nodup_iff.mpr List.nodup_range;have lt:∀i∈p.toList,i<M.length:=fun i hi=>cN.mp (pm.mem_iff.mp hi);refine ⟨?_,?_⟩
 ·have e:((List.range M.length).map fun i=>M.getD i (0,0))=M:=by
   refine l6 (by simp) fun i h1 h2=>?_
   rw [List.getElem_map,List.getElem_range,getD_at h2]
  have:=pm.map fun i=>M.getD i (0,0);rw [e] at this;exact this
 ·rw [lZ]
  intro i j hi hj vD;rw [b8] at hi hj;rw [List.getElem_map,List.getElem_map];have sz:=P.size;have li:p.toList[i]<M.length:=lt _ (gU _);have lj:p.toList[j]<M.length:=lt _ (gU _);have u:=U i j (by omega) (by rw [←sz,←fq];exact hj)
  unfold vN at u;have gi:p.getD i 0=p.toList[i]:=by
   have:i<p.size:=by rw [←fq];exact hi
   simp [Array.getD,this]
  have gj:p.getD j 0=p.toList[j]:=by
   have:j<p.size:=by rw [←fq];exact hj
   simp [Array.getD,this]
  rw [gi,gj] at u;dsimp only at u;rw [getD_at li,getD_at lj] at u;rw [getD_at li,getD_at lj];have ne:M[p.toList[i]]≠M[p.toList[j]]:=fun e=>by have e1:=(List.getElem_inj nd).mp e;have e2:=(List.getElem_inj pn).mp e1;omega
  have b1:=b _ (gU li);have b2:=b _ (gU lj);generalize M[p.toList[i]]=x at u ne b1;generalize M[p.toList[j]]=y at u ne b2;obtain ⟨x1,x2⟩:=x;obtain ⟨y1,y2⟩:=y;unfold lexLt;dsimp only at u b1 b2 ⊢;by_cases z:x1<y1;·exact .inl z
  ·right
   have e1:x1=y1:=by omega
   subst e1;refine ⟨rfl,?_⟩;by_cases y:x2=y2
   ·subst y
    exact absurd rfl ne
   ·omega
def ir(H:Hp)(t:Addr)(n:Nat)(L:c_):Prop:=∃(lt:Addr) (us:List V),H t=some (.tup [.int (n:Int),.ref lt])∧H lt=some (.tup us)∧a8 H us L
variable {us:List V}
theorem a8.pick(h:a8 H us M)(ns:List Nat)(hn:∀i∈ns,i<M.length):a8 H (ns.map fun i=>us.getD i .aN) (ns.map fun i=>M.getD i (0,0)):=⟨by simp,fun k v p h1 h2=>by
 have hl:=h.1;have hk:k<ns.length:=by have:=(cq.mp h1).1;simpa using this
 have hi:=hn ns[k] (gU hk);rw [dP,fZ hk] at h1 h2;cases h1;cases h2;dsimp only;have bh:ns[k]<us.length:=by omega
 rw [getD_at hi];have e:us.getD ns[k] .aN=us[ns[k]]:=by simp [bh]
 rw [e];exact h.2 ns[k] _ _ (by simp [bh]) (by simp [hi])⟩
theorem a8.cat{zs:List V}(h:a8 H us L)(g:a8 H zs M):a8 H (us++zs) (L++M):=⟨by simp [h.1,g.1],fun k v p h1 h2=>by
 have hl:=h.1;by_cases z:k<us.length
 ·rw [fW z] at h1
  rw [fW (by omega)] at h2
  exact h.2 k v p h1 h2
 ·rw [fV (by omega)] at h1
  rw [fV (by omega),show k-L.length=k-us.length by omega] at h2
  exact g.2 _ v p h1 h2⟩
variable {n:Nat}
theorem ir.mono{t:Addr}(h:ir H t n L)(s:au H H'):ir H' t n L:=by obtain ⟨lt,us,h1,h2,h3⟩:=h;exact ⟨lt,us,s _ _ h1,s _ _ h2,h3.mono s⟩
theorem Bk{wi:TI}{ρ:St→St}{tt:TT}{te:TE}{σ:St}{Q:VK}(pr:Nat→Bool)(dr:∀R:It→Hp→Prop,(∀J,mM J xs H→R J H)→wi σ H R)(hn:xs.length<sizeLine)
  (P:Addr→Nat→V→Hp→Prop) (mono:∀D i y H H' ys,P D i y H→H D=some (.lst ys)→(∀b o,b≠D→H b=some o→H' b=some o)→P D i y H')
  (test:∀(i:Nat) (x:V),xs[i]?=some x→∀(Hc:Hp) (R:Bool→Hp→Prop),au H Hc→R (pr i) Hc→tt (some x::ρ σ) Hc R)
  (step:∀D (i:Nat) (x:V),xs[i]?=some x→∀(Hc:Hp) (R:VK),au H Hc→(∃ys,Hc D=some (.lst ys))→(∀y H3,au Hc H3→P D i y H3→R y H3)→te (some x::ρ σ) Hc R)
  (fin:∀D ys Hc,H D=none→au H Hc→ys.length=((List.range xs.length).filter pr).length→(∀(k i:Nat) (y:V),ys[k]?=some y→((List.range xs.length).filter pr)[k]?=some i→P D i y Hc)→Hc D=some (.lst ys)→Q (.ref D) Hc):fF wi ρ tt te σ H Q:=by
 refine dr _ fun J js=>?_;intro D nD;refine ⟨fun i m ys Hc=>m=xs.length-i∧i≤xs.length∧Hc D=some (.lst ys)∧au H Hc∧ys.length=((List.range i).filter pr).length∧∀(k i':Nat) (y:V),ys[k]?=some y→((List.range i).filter pr)[k]?=some i'→P D i' y Hc,⟨_,rfl,cG _,aP,ic (au.refl H) nD,rfl,fun k i y h=>by simp at h⟩,?_⟩
 rintro i m ys Hc ⟨rfl,hi,eD,sH,ly,hP⟩;refine ⟨eD,?_⟩;by_cases bT:i<xs.length
 ·refine .inr ⟨js.go i Hc sH bT,fun x H' hy=>?_⟩
  obtain ⟨rfl,hx⟩:=js.da i Hc x H' sH hy;refine test i x (hx bT) _ _ sH ?_;have fs:(List.range (i+1)).filter pr=(List.range i).filter pr++(if pr i=true then [i] else []):=by
   rw [List.range_succ,List.filter_append]
   congr 1
   cases e:pr i <;> simp [e]
  have fl:((List.range i).filter pr).length≤i:=cO (List.length_filter_le _ _) (by simp)
  cases e:pr i with
  | true=>
   rw [ae rfl];refine step D i x (hx bT) _ _ sH ⟨_,eD⟩ fun y H3 s3 hp=>?_;have e3:=s3 _ _ eD;have cW:∀b o,b≠D→H3 b=some o→upd H3 D (.lst (ys++[y])) b=some o:=fun b o nb e=>by rw [bt nb];exact e
   refine ⟨e3,by omega,xs.length-(i+1),by omega,rfl,bT,aP,ic (sH.trans s3) nD,?_,fun k i' y' h1 h2=>?_⟩
   ·rw [fs,e,ae rfl,dz,dz,ly]
    rfl
   ·rw [fs,e,ae rfl] at h2
    by_cases z:k<ys.length
    ·rw [fW z] at h1
     rw [fW (by omega)] at h2
     refine mono D i' y' H' _ ys (hP k i' y' h1 h2) eD fun b o nb e=>cW b o nb (s3 _ _ e)
    ·have hk:=(cq.mp h1).1
     rw [dz,List.length_singleton] at hk;obtain rfl:k=ys.length:=by omega
     rw [fV (aA _),lW] at h1;rw [fV (by omega),show ys.length-((List.range i).filter pr).length=0 by omega] at h2
     cases h1;cases h2;exact mono D _ _ H3 _ ys hp e3 cW
  | false=>
   rw [aa (by simp)]
   refine ⟨xs.length-(i+1),by omega,rfl,bT,eD,sH,?_,fun k i' y' h1 h2=>?_⟩
   ·rw [fs,e,aa (by simp),i5]
    exact ly
   ·rw [fs,e,aa (by simp),i5] at h2
    exact hP k i' y' h1 h2
 ·have e:i=xs.length:=by omega
  subst e;exact .inl ⟨js.stop _ Hc sH (aA _),fin D ys Hc nD sH ly hP eD⟩
def fg(n:Nat)(f:Nat→Nat→Bool)(i:Nat):List (Int×Int):=((List.range (n-(i+1))).filter fun k=>f i (i+1+k)).map fun k=>((i:Int),((i+1+k:Nat):Int))
def d_(n:Nat)(f:Nat→Nat→Bool):Nat→List (Int×Int)
 | 0=>[]
 | i+1=>d_ n f i++fg n f i
variable {f:Nat→Nat→Bool} {i:Nat} {p:Int×Int}
theorem vV(h:p∈fg n f i):∃j,i<j∧j<n∧f i j=true∧p=((i:Int),(j:Int)):=by obtain ⟨k,hk,rfl⟩:=eT.mp h;obtain ⟨h1,h2⟩:=gM.mp hk;have:=cN.mp h1;exact ⟨i+1+k,by omega,by omega,h2,rfl⟩
theorem Bl{j:Nat}(h1:i<j)(h2:j<n)(h3:f i j=true):((i:Int),(j:Int))∈fg n f i:=by
 refine eT.mpr ⟨j-(i+1),gM.mpr ⟨cN.mpr (by omega),?_⟩,?_⟩
 ·show f i (i+1+(j-(i+1)))=true
  rw [show i+1+(j-(i+1))=j by omega]
  exact h3
 ·rw [show i+1+(j-(i+1))=j by omega]
theorem mem_of{n:Nat}{f:Nat→Nat→Bool}{p:Int×Int}:∀{k:Nat},p∈d_ n f k→∃i j,i<k∧i<j∧j<n∧f i j=true∧p=((i:Int),(j:Int))
 | 0,h=>by cases h
 | k+1,h=>by
  rcases fm.mp h with h | h
  ·obtain ⟨i,j,h1,h2⟩:=mem_of h
   exact ⟨i,j,by omega,h2⟩
  ·obtain ⟨j,h1⟩:=vV h
   exact ⟨k,j,by omega,h1⟩
theorem vW{n:Nat}{f:Nat→Nat→Bool}{i j:Nat}(h1:i<j)(h2:j<n)(h3:f i j=true):∀{k:Nat},i<k→((i:Int),(j:Int))∈d_ n f k
 | k+1,h=>by
  by_cases z:i=k
  ·subst z
   exact cP _ (Bl h1 h2 h3)
  ·exact List.mem_append_left _ (vW h1 h2 h3 (by omega))
theorem vX{n:Nat}{f:Nat→Nat→Bool}:∀k,(d_ n f k).Pairwise lexLt
 | 0=>List.Pairwise.nil
 | k+1=>by
  refine List.pairwise_append.mpr ⟨vX k,?_,fun p hp q hq=>?_⟩
  ·refine l8.mpr ((List.pairwise_lt_range.sublist nM).imp fun h=>?_)
   right;dsimp only;omega
  ·obtain ⟨i,j,h1,_,_,_,rfl⟩:=mem_of hp
   obtain ⟨j',_,_,_,rfl⟩:=vV hq;left;dsimp only;omega
theorem rL:¬lexLt p p:=fun h=>by unfold lexLt at h;omega
theorem Bm{q:Int×Int}(h1:lexLt p q)(h2:lexLt q p):False:=by unfold lexLt at h1 h2;omega
theorem vY:∀{A B:c_},A.Pairwise lexLt→B.Pairwise lexLt→(∀p,p∈A↔p∈B)→A=B
 | [],[],_,_,_=>rfl
 | [],b::B,_,_,h=>absurd ((h b).mpr gN) (by simp)
 | a::A,[],_,_,h=>absurd ((h a).mp gN) (by simp)
 | a::A,b::B,ha,hb,h=>by
  obtain ⟨a1,a2⟩:=l9.mp ha;obtain ⟨b1,b2⟩:=l9.mp hb;have e:a=b:=by
   rcases cp.mp ((h a).mp gN) with z | z;·exact z
   ·rcases cp.mp ((h b).mpr gN) with y | y
    ·exact y.symm
    ·exact (Bm (b1 a z) (a1 b y)).elim
  subst e;rw [vY a2 b2 fun p=>⟨fun m=>?_,fun m=>?_⟩]
  ·rcases cp.mp ((h p).mp (fU _ m)) with z | z
   ·subst z
    exact (rL (a1 _ m)).elim
   ·exact z
  ·rcases cp.mp ((h p).mpr (fU _ m)) with z | z
   ·subst z
    exact (rL (b1 _ m)).elim
   ·exact z
end My
namespace L2
open PySem PySem.Spec PyProof.Rows
end L2
namespace My
open PySem L2
end My
namespace L2
open PySem PySem.Spec PyProof.Rows
section
variable (P:Program) (w:World)
end
section
variable {P:Program} {w:World} {H H':Hp} {h h':Heap} {a:Addr} {o:HO}
end
section
variable {P:Program} {w:World} {H:Hp} {h h':Heap} {x e:Addr} {o':HO}
end
section
variable {fs qp ex qq:List Addr} {H H1 H2:Hp} {h h1 h2 h':Heap} {a x e:Addr} {o:HO}
end
section
variable {X:Cx} {pins:aD} {σ:List (Option V)} {H H':Hp} {s:Shared} {h':Heap}
end
section
variable {X:Cx}
variable {a b:Expr} {ta tb:TE} {pos:Pos}
variable {tA mj:TT} {rest:List Expr}
end
section
variable {X:Cx} {pins:aD} {σ:St} {H:Hp} {s:Shared} {a:Addr} {xs ys:List V}
end
section
variable {X:Cx} {pins:aD} {σ:St} {H:Hp} {s:Shared} {E:ay}
end
section
variable {X:Cx} {st:Stmt} {rest:List Stmt} {t u:TS} {e:Expr} {te:TE} {pos:Pos}
end
section
variable {X:Cx} {pos:Pos}
end
section
variable {X:Cx} {pos:Pos}
end
section
variable {X:Cx} {tg:Expr}
end
section
variable {X:Cx} {a b c:Expr} {ta tb tc:TE} {pos:Pos}
end
section
variable {X:Cx} {a b c:Expr} {ta tb tc:TE} {pos:Pos}
end
section
variable {prog:Program} {w:World} {A:Around} {E:ay} {s:Shared} {K:aB} {x dx C f:Addr} {mA:bQ} {name:Str} {v:Value}
end
section
variable {P:Program} {w:World} {H H':Hp} {h h':Heap} {a C dx:Addr} {fs qp:List (Str×V)}
end
section
variable {X:Cx} {pins:aD} {σ:St} {H:Hp} {s:Shared} {a C dx:Addr} {fs:List (Str×V)} {f:Str} {v:V} {A:Around} {E:ay}
end
section
variable {X:Cx} {o e value:Expr} {f:Str} {pos pos' kq:Pos} {ta tv:TE}
end
section
variable {X:Cx} {pins:aD} {σ:St} {H:Hp} {s:Shared} {A:Around} {E:ay} {Q:ay} {c:Value} {b:Bool}
end
section
variable {X:Cx} {e:Expr} {es:List Expr} {te:TE} {t:TA} {pos:Pos}
end
section
variable {X:Cx} {pins:aD} {σ:St} {H:Hp} {s s':Shared}
end
section
variable {X:Cx} {CX:dG} {k:Nat} {f C:Addr} {fd:FuncData} {ps:List Str} {sp:Sp} {gu:List V} {ds:List Value} {E:XK} {x m:Str} {p pos apos:Pos} {e o:Expr} {es:List Expr} {ta:TE} {t:TA}
end
section
variable {X:Cx} {CX:dG} {k:Nat} {f C:Addr} {fd:FuncData} {ps ks:List Str} {sp:Sp} {E:XK} {x m:Str} {p pos apos uw:Pos} {e o:Expr} {es:List Expr} {iM:List Keyword} {te ta:TE} {t tk:TA} {nm:Option Str}
variable {g:List Value→List Value→List Value} {gV:List V→List V→List V}
end
section
variable {X:Cx} {x:Str} {p pos:Pos} {e:Expr} {es:List Expr} {t:TA} {id T:String} {r:List V→Hp→VK→Prop}
end
section
variable {κ:Type} [DecidableEq κ]
end
section
variable {P:Program} {w:World} {H:Hp} {h:Heap} {a:Addr}
end
section
variable {X:Cx} {pins:aD} {σ:St} {H:Hp} {s:Shared} {a:Addr} {y v:V} {u r:Value} {o:Option V} {A:Around} {E:ay}
end
section
variable {X:Cx} {pins:aD} {σ:St} {H:Hp} {s:Shared} {a:Addr} {bR:List (Key×V)} {k:Key} {u:Value} {A:Around} {E:ay}
end
section
variable {X:Cx} {o i e value:Expr} {pos pos' kq:Pos} {td ty tv:TE}
end
section
variable {X:Cx} {pos:Pos}
end
section
variable {X:Cx} {pins:aD} {σ:St} {H:Hp} {s:Shared} {a:Addr} {y d:V} {u r:Value} {o:Option V} {A:Around} {E:ay}
end
section
variable {X:Cx} {o e f:Expr} {apos eI:Pos} {td ty tx:TE}
end
section
variable {X:Cx} {pins:aD} {σ:St} {H:Hp} {s:Shared} {a:Addr} {bR:List (Key×V)} {A:Around} {E:ay}
end
section
variable {X:Cx} {pins:aD} {σ:St} {H:Hp} {s:Shared} {a:Addr} {y:V} {u:Value} {A:Around} {E:ay}
end
end L2
namespace oA
open PySem PySem.W PySem.Calls PyProof.Rows
section
variable {prog:Program} {w:World} {A:Around} {E:ay} {s:Shared} {K:Frag}
end
end oA
namespace L2
open PySem PySem.Spec PyProof.Rows
section
variable {P:Program} {w:World} {K:aB} {mg:bQ} {base:Heap}
end
section
variable {X:Cx}
end
section
variable {κ:Type} [DecidableEq κ]
end
section
variable {X:Cx} {pins:aD} {σ:St} {H:Hp} {s:Shared}
end
section
variable {X:Cx} {tg:Expr}
end
end L2
namespace My
open PySem L2
end My
namespace L2
open PySem PySem.Spec PyProof.Rows
end L2
namespace My
open PySem L2
end My
namespace L2
open PySem PySem.Spec PyProof.Rows
section
variable {X:Cx} {pins:aD} {σ:St} {H:Hp} {s:Shared}
end
end L2
namespace My
open PySem L2
end My
namespace L2
open PySem PySem.Spec PyProof.Rows
theorem Bo{X:Cx}{E:XK}(L:oD X E):PassesOwn (model X.prog X.w) X.A X.env X.xe:=by rw [L.xe];exact PassesOwn.leaving
end L2
namespace My
open PySem L2
end My
namespace L2
open PySem PySem.Spec PyProof.Rows
end L2
namespace My
open PySem L2
end My
namespace L2
open PySem PySem.Spec PyProof.Rows
end L2
namespace My
open PySem L2
end My
namespace L2
open PySem PySem.Spec PyProof.Rows
end L2
namespace My
open PySem L2
variable {n:Nat} {Bp:Nat→Nat→Prop} {Bq:Nat→Prop} {s:Nat}
end My
namespace L2
open PySem PySem.Spec PyProof.Rows
end L2
namespace My
open PySem L2
end My
namespace L2
open PySem PySem.Spec PyProof.Rows
end L2
namespace My
open PySem L2
theorem Br{X:Cx}{pins:aD}{σ:St}{H:Hp}{s:Shared}(I:Inv X pins σ H s){A:Around}(hu:A.units<cLine){p q:Addr}{x y:Int×Int}(e:H p=some (.tup [.int x.1,.int x.2]))(e':H q=some (.tup [.int y.1,.int y.2])):SeqAt.EqAt A s (.ref p) (.ref q) (decide (x=y)):=by
 by_cases pq:p=q
 ·subst pq
  rw [e] at e';cases x;cases y;simp only [Option.some.injEq,HO.tup.injEq,List.cons.injEq,V.int.injEq,and_true] at e';rw [aG (Prod.ext e'.1 e'.2)];exact SeqAt.EqAt.same _
 obtain ⟨us,r1,t1,_⟩:=I.tuple (.of e);obtain ⟨vs,r2,t2,_⟩:=I.tuple (.of e');obtain ⟨a1,a2,rfl,rN,rO⟩:=vals2 r1;obtain ⟨b1,b2,rfl,rP,rQ⟩:=vals2 r2;have z:=SeqAt.RcAt.tuples (A:=A) (e:=fun j=>if j=0 then du (.int x.1) (.int y.1) else du (.int x.2) (.int y.2)) t1 t2 hu (fun j z1 z2=>by
  have:j<2:=z1
  match j with
  | 0=>exact ou rN rP rfl rfl
  | 1=>exact ou rO rQ rfl rfl)
 have ec:decide (x=y)=((List.range (min ([a1,a2]:List Value).toArray.size ([b1,b2]:List Value).toArray.size)).all (fun j=>if j=0 then du (.int x.1) (.int y.1) else du (.int x.2) (.int y.2)) && ([a1,a2]:List Value).toArray.size == ([b1,b2]:List Value).toArray.size):=by cases x;cases y;simp only [fz];show _=((List.range 2).all _ && true);simp [List.range_succ,du];rfl
 rw [ec];exact SeqAt.EqAt.of_refs pq z
def Bs:Sp:=fun vs H Q _=>∃(z:Int) (n:Nat),vs=[.int z,.int (n:Int)]∧Q (.bl (decide (0≤z∧z<n))) H
end My
namespace L2
open PySem PySem.Spec PyProof.Rows My
end L2
namespace My
open PySem L2
end My
namespace L2
open PySem PySem.Spec PyProof.Rows My
end L2
namespace My
open PySem L2
section
variable {Bp:Nat→Nat→Prop} {Bq F9:Nat→Prop} {s t:Nat}
end
def Bt:R2:=fun x y H Q=>∃(a b:Addr) (n:Nat) (L M:c_),x=.ref a∧y=.ref b∧ir H a n L∧ir H b n M∧Q (.bl (decide (L=M))) H
variable {X:Cx} {L M:c_}
theorem Bu{pins:aD}{σ:St}{H:Hp}{s:Shared}(I:L2.Inv X pins σ H s){A:Around}(hu:A.units<cLine){xs ys:List V}{us vs:List Value}(k1:a8 H xs L)(k2:a8 H ys M)(r1:Vals xs us)(r2:Vals ys vs):∀j (z1:j<us.toArray.size) (z2:j<vs.toArray.size),SeqAt.EqAt A s us.toArray[j] vs.toArray[j] (decide (L.getD j (0,0)=M.getD j (0,0))):=fun j z1 z2=>by
 have l1:=r1.length;have l2:=r2.length;have m1:=k1.1;have m2:=k2.1;have oU:j<us.length:=by simpa using z1
 have F_:j<vs.length:=by simpa using z2
 obtain ⟨p,ep,hp⟩:=k1.2 j xs[j] (L.getD j (0,0)) (by simp) (by simp [gS,show j<L.length by omega])
 obtain ⟨p',iE,iW⟩:=k2.2 j ys[j] (M.getD j (0,0)) (by simp) (by simp [gS,show j<M.length by omega])
 obtain ⟨x',qq,rx⟩:=r1.get (i:=j) (x:=xs[j]) (by simp)
 obtain ⟨y',Bv,ry⟩:=r2.get (i:=j) (x:=ys[j]) (by simp)
 have e1:us.toArray[j]=x':=by simpa using (cq.mp qq).2
 have e2:vs.toArray[j]=y':=by simpa using (cq.mp Bv).2
 rw [e1,e2];rw [ep] at rx;rw [iE] at ry;cases rx;cases ry;exact Br I hu hp iW
theorem Bw:((List.range (min L.length M.length)).all (fun j=>decide (L.getD j (0,0)=M.getD j (0,0))) && L.length == M.length)=decide (L=M):=by
 by_cases e:L=M
 ·subst e
  simp
 ·rw [bp e,nG]
  intro h;rw [i6,List.all_eq_true] at h;obtain ⟨h1,h2⟩:=h;have hl:L.length=M.length:=by simpa using h2
  refine e (l6 hl fun j g1 g2=>?_);have:=h1 j (cN.mpr (by omega))
  simpa [gS,g1,g2] using this
theorem Bx(hu:X.A.units+64<cLine):bZ X (compareOp .Eq) Bt:=by
 intro pins s σ H x y v u Q I rx ry h;obtain ⟨a,b,n,L,M,rfl,rfl,⟨la,ua,By,vZ,k1⟩,⟨lb,ub,Bz,rR,k2⟩,q⟩:=h;cases rx;cases ry;obtain ⟨us,r1,t1,_⟩:=I.tuple (.of By);obtain ⟨vs,r2,t2,_⟩:=I.tuple (.of Bz);obtain ⟨a1,a2,rfl,rN,rO⟩:=vals2 r1;obtain ⟨b1,b2,rfl,rP,rQ⟩:=vals2 r2;cases rO;cases rQ;have inner:SeqAt.EqAt X.A.in1 s (.ref la) (.ref lb) (decide (L=M)):=by
  by_cases pq:la=lb
  ·subst pq
   rw [vZ] at rR;cases rR;have:L=M:=by
    have m1:=k1.1;have m2:=k2.1;refine l6 (by omega) fun j g1 g2=>?_
    obtain ⟨p,ep,hp⟩:=k1.2 j (ua[j]'(by omega)) L[j] (by simp) (by simp [g1])
    obtain ⟨p',iE,iW⟩:=k2.2 j (ua[j]'(by omega)) M[j] (by simp) (by simp [g2])
    rw [ep] at iE;cases iE;rw [hp] at iW;simp only [Option.some.injEq,HO.tup.injEq,List.cons.injEq,V.int.injEq,and_true] at iW;exact Prod.ext iW.1 iW.2
   rw [aG this];exact SeqAt.EqAt.same _
  ·obtain ⟨us,r1,t1,_⟩:=I.tuple (.of vZ)
   obtain ⟨vs,r2,t2,_⟩:=I.tuple (.of rR);have z:=SeqAt.RcAt.tuples (A:=X.A.in1) t1 t2 (by rw [Around.in1_units];omega) (Bu I (by rw [Around.in1_units,Around.in1_units];omega) k1 k2 r1 r2)
   have e1:us.toArray.size=L.length:=by rw [bO,←r1.length];exact k1.1
   have e2:vs.toArray.size=M.length:=by rw [bO,←r2.length];exact k2.1
   rw [e1,e2,Bw] at z;exact SeqAt.EqAt.of_refs pq z
 refine SeqAt.eq_tupleAt (e:=fun j=>if j=0 then du (.int (n:Int)) (.int (n:Int)) else decide (L=M)) t1 t2 (by omega) (fun j z1 z2=>?_) ⟨.bl (decide (L=M)),H,I,?_,q⟩
 ·have:j<2:=z1
  match j with
  | 0=>exact ou rN rP rfl rfl
  | 1=>exact inner
 ·show RelV _ _
  have e:((List.range 2).all (fun j=>if j=0 then du (.int (n:Int)) (.int (n:Int)) else decide (L=M)) && true)=decide (L=M):=by simp [List.range_succ,du]
  exact bD Value.bool e.symm▸rfl
end My
namespace L2
open PySem PySem.Spec PyProof.Rows
section
variable {X:Cx} {a b:Expr} {rest:List Expr} {pos:Pos} {ta tb:TE}
end
end L2
namespace My
open PySem L2
theorem BA(xs:List V)(k:Nat):eY xs (some (k:Int)) none=xs.drop k:=by
 unfold eY;rw [HT.yS,HT.yR];by_cases h:k≤xs.length
 ·rw [Nat.min_eq_left h]
  exact List.take_of_length_le (by rw [List.length_drop];omega)
 ·rw [Nat.min_eq_right (by omega),List.drop_of_length_le (aA _),List.drop_of_length_le (by omega),List.take_nil]
end My
namespace L2
open PySem PySem.Spec PyProof.Rows
section
variable {prog:Program} {w:World} {A:Around} {E:ay} {s:Shared}
variable {k:Nat} {Q:ay}
theorem v5{j t:Addr}{aj:Array Value}(g:s.heap.IsTupleIter j t k)(b:s.heap.IsTuple t aj)
  (ok:∀x,aj[k]?=some x→∀h',h'.IsTupleIter j t (k+1)→Heap.SameBut j s.heap h'→Q x {s with heap:=h'})
  (no:aj[k]?=none→A.handled=none∧∀h' e,Heap.ExtBut j s.heap h'→(∃o,h'.get? e=some o∧o.cls=.type "StopIteration")→E (.ref e) {s with heap:=h'}):wpAny (model prog w) A (Builtin.SmallTypes.nextOf (.ref j)) Q E s:=by
 obtain ⟨o,a1,a2,a3⟩:=id g;obtain ⟨p,b1,_,m,b2⟩:=b;unfold Builtin.SmallTypes.nextOf;refine ak (gR (name:=Str.ofString "__next__") g.typeIs F.slot_tuple_iterator_next (fX F.slot_tuple_iterator_next g.typeIs F.entry_tuple_iterator_next ?_ (F.args_tuple_iterator_next_1 _)));show wpAny _ _ (field (.ref j) 0 >>= _) _ _ s;refine ak (cQ a1 a3 (x:=.ref t) rfl ?_);show wpAny _ _ (if (Value.ref t == Value.none)=true then _ else _) _ _ s;rw [aa (show ¬((Value.ref t == Value.none)=true) from bJ)]
 show wpAny _ _ (field (.ref j) 1 >>= _) _ _ s;refine ak (cQ a1 a3 (x:=.int k 0) rfl ?_);show wpAny _ _ (seqItems? (.ref t) >>= _) _ _ s;refine ak (i8 b1 b2 ?_);cases z:aj[k]? with
 | some x=>simp only [gQ,z];refine ak (wpAny_setField a1 a3 (by simp) (aL ⟨x,rfl,aL (ok x z _ ⟨_,qe _ a1 (Obj.isFreed_of_fields (nN a3 _)),(Obj.cls_mapFields ..).trans a2,by rw [nN a3];simp [rawInt]⟩ (nO ..))⟩))
 | none=>
  obtain ⟨hh,fin⟩:=no z;simp only [gQ,z];refine ak (eS (ak (wpAny_setField a1 a3 (by simp) ?_)))
  show wpAny _ _ (newExc (.type "StopIteration") [] >>= _) _ _ _;refine ak ?_;simp only [newExc,newTuple];refine ak (fu (ak (m:=firstArgMember _ _) (wpAny_of_eq (a:=Value.none) (by first | rfl | (simp only [firstArgMember];rfl)) (fu ?_ (by size_fits)))) (by size_fits))
  simp only [raiseNew];refine ak (wpAny_handled ?_)
  first | rw [show A.in1.handled=none from hh] | rw [hh]
  exact ak (aL (wpAny_throw (fin _ _ (((nO ..).extBut.push _).push _) ⟨_,cu _ rfl,rfl⟩)))
theorem v7{z TI TO i1 i2 l1 l2:Addr}{xs ys:Array Value}{a b:Value}(D:ZipApart z TI TO i1 i2 l1 l2)
  (hz:IsZip s.heap z TI TO .none) (hI:IsPair s.heap TI (.ref i1) (.ref i2)) (hO:IsPair s.heap TO a b) (g1:s.heap.IsTupleIter i1 l1 k) (g2:s.heap.IsTupleIter i2 l2 k) (t1:s.heap.IsTuple l1 xs) (t2:s.heap.IsTuple l2 ys)
  (ok:∀x y,xs[k]?=some x→ys[k]?=some y→∀h',IsZip h' z TI TO (rawInt s.heap.objs.size)→IsPair h' TO x y→h'.IsTupleIter i1 l1 (k+1)→h'.IsTupleIter i2 l2 (k+1)→IsPair h' s.heap.objs.size x y→
   (∀c o,c≠z→c≠TO→c≠i1→c≠i2→s.heap.get? c=some o→h'.get? c=some o)→Q (.ref s.heap.objs.size) {s with heap:=h'})
  (no:xs[k]?=none∨ys[k]?=none→A.handled=none∧∀h' e,(∀c o,c≠z→c≠TO→c≠i1→c≠i2→s.heap.get? c=some o→h'.get? c=some o)→(∃o,h'.get? e=some o∧o.cls=.type "StopIteration")→E (.ref e) {s with heap:=h'}) :
  wpAny (model prog w) A (Builtin.«zip.__next__» ⟨[.ref z],[]⟩) (fun fin s'=>∃v,fin=.done (.ret v)∧Q v s') E s:=by
 show wpAny _ _ (field (.ref z) 2 >>= _) _ _ _;refine ak (cQ hz rfl (x:=.bool false) rfl ?_);show wpAny _ _ (field (.ref z) 3 >>= _) _ _ _;refine ak (cQ hz rfl (x:=.ref TI) rfl (ak (i8 hI rfl ?_)));show wpAny _ _ (Builtin.SmallTypes.ownedTupleIsFree (.ref z) >>= _) _ _ _;refine ak ?_;unfold Builtin.SmallTypes.ownedTupleIsFree;refine ak (cQ hz rfl (x:=.none) rfl (aL ?_));simp only [if_true];refine ak (eS (ak (cQ hz rfl (x:=.ref TO) rfl (ak (f9 hz (by simp) fun ha za sa=>?_)))))
 replace za:IsZip ha z TI TO .ellipsis:=za
 refine ak ?_;simp only [List.zipIdx_cons,List.zipIdx_nil,List.forIn_cons,List.forIn_nil];refine ak (ak (wpAny_onRaise ?_));show wpAny _ _ (Builtin.SmallTypes.nextOf (.ref i1) >>= _) _ _ _;refine ak (v5 (g1.extBut sa.extBut D.i1z) (t1.extBut sa.extBut D.l1z) (fun x hx hb gb sb=>aL ?_) fun hx=>⟨(no (.inl hx)).1,fun hb e eb ⟨oe,e1,e2⟩=>?_⟩)
 ·have Ob:IsPair hb TO a b:=sb.extBut _ _ D.TOi1 (sa.extBut _ _ D.TOz hO)
  refine ak (i8 Ob rfl (ak (wpAny_updateSeq_pair Ob fun hc Oc sc=>?_)))
  replace Oc:IsPair hc TO x b:=Oc
  refine ak (wpAny_letGo (aL ?_));refine ak (ak (wpAny_onRaise ?_));show wpAny _ _ (Builtin.SmallTypes.nextOf (.ref i2) >>= _) _ _ _;refine ak (v5 (((g2.extBut sa.extBut D.i2z).extBut sb.extBut D.i12.symm).extBut sc.extBut D.TOi2.symm) (((t2.extBut sa.extBut D.l2z).extBut sb.extBut D.l2i1).extBut sc.extBut D.l2TO) (fun y hy hd gd sd=>aL ?_) fun hy=>⟨(no (.inr hy)).1,fun hd e ed ⟨oe,e1,e2⟩=>?_⟩)
  ·have Od:IsPair hd TO x b:=sd.extBut _ _ D.TOi2 Oc
   refine ak (i8 Od rfl (ak (wpAny_updateSeq_pair Od fun he Oe se=>?_)))
   replace Oe:IsPair he TO x y:=Oe
   refine ak (wpAny_letGo (aL (aL (ak (i8 Oe rfl (ak (wpAny_newTuple ?_)))))));have sz:he.objs.size=s.heap.objs.size:=by rw [se.1,sd.1,sc.1,sb.1,sa.1]
   have ze:IsZip he z TI TO .ellipsis:=se.extBut _ _ D.TOz.symm (sd.extBut _ _ D.i2z.symm (sc.extBut _ _ D.TOz.symm (sb.extBut _ _ D.i1z.symm za)));have kp:∀c o,c≠z→c≠TO→c≠i1→c≠i2→s.heap.get? c=some o→he.get? c=some o:=fun c o c1 c2 c3 c4 e=>se.extBut _ _ c2 (sd.extBut _ _ c4 (sc.extBut _ _ c2 (sb.extBut _ _ c3 (sa.extBut _ _ c1 e))));have ge1:he.IsTupleIter i1 l1 (k+1):=((gb.extBut sc.extBut D.TOi1.symm).extBut sd.extBut D.i12).extBut se.extBut D.TOi1.symm;have BB:he.IsTupleIter i2 l2 (k+1):=gd.extBut se.extBut D.TOi2.symm;have zl:z<he.objs.size:=aX ze;show wpAny _ _ (Builtin.SmallTypes.ownedTupleHandOut (.ref z) (.ref he.objs.size) >>= _) _ _ _;refine ak ?_;unfold Builtin.SmallTypes.ownedTupleHandOut;have zf:IsZip (he.push {cls:=.type "tuple",data:=.seq #[x,y]}) z TI TO .ellipsis:=a_ _ ze;refine ak (f9 zf (by simp) fun hg zg sg=>?_)
   replace zg:IsZip hg z TI TO (rawInt he.objs.size):=zg
   refine f9 zg (by simp) fun hm zm sm=>?_
   replace zm:IsZip hm z TI TO (rawInt he.objs.size):=zm
   have up:∀c o,c≠z→he.get? c=some o→hm.get? c=some o:=fun c o c1 e=>sm.extBut _ _ c1 (sg.extBut _ _ c1 (a_ _ e));have Tm:IsPair hm he.objs.size x y:=sm.extBut _ _ (j8 zl) (sg.extBut _ _ (j8 zl) (cu _ rfl));rw [sz] at zm Tm;refine aL ⟨_,rfl,?_⟩;show Q (.ref he.objs.size) _;rw [sz];exact ok x y hx hy hm zm (up _ _ D.TOz Oe) (ge1.extBut (fun c o c1 e=>up c o c1 e) D.i1z) (BB.extBut (fun c o c1 e=>up c o c1 e) D.i2z) Tm fun c o c1 c2 c3 c4 e=>up c o c1 (kp c o c1 c2 c3 c4 e)
  ·have zd:IsZip hd z TI TO .ellipsis:=ed _ _ D.i2z.symm (sc.extBut _ _ D.TOz.symm (sb.extBut _ _ D.i1z.symm za))
   have ez:e≠z:=fun q=>by subst q;rw [zd] at e1;cases e1;simp at e2
   exact f9 zd (by simp) fun he _ se=>(no (.inr hy)).2 he e (fun c o c1 c2 c3 c4 q=>se.extBut _ _ c1 (ed _ _ c4 (sc.extBut _ _ c2 (sb.extBut _ _ c3 (sa.extBut _ _ c1 q))))) ⟨oe,se.extBut _ _ ez e1,e2⟩
 ·have zb:IsZip hb z TI TO .ellipsis:=eb _ _ D.i1z.symm za
  have ez:e≠z:=fun q=>by subst q;rw [zb] at e1;cases e1;simp at e2
  exact f9 zb (by simp) fun hc _ sc=>(no (.inl hx)).2 hc e (fun c o c1 _ c3 _ q=>sc.extBut _ _ c1 (eb _ _ c3 (sa.extBut _ _ c1 q))) ⟨oe,sc.extBut _ _ ez e1,e2⟩
end
abbrev cM (h:Heap) (l:Addr):Heap:=h.push {cls:=.type "tuple_iterator",data:=.fields #[.ref l,.int 0 0]}
abbrev o9 (h:Heap) (l m:Addr):Heap:=((cM (cM h l) m).push {cls:=.type "tuple",data:=.seq #[.ref h.objs.size,.ref (cM h l).objs.size]}).push {cls:=.type "tuple",data:=.seq #[.none,.none]}
abbrev kF (h:Heap) (l m:Addr):Heap:=(o9 h l m).push {cls:=.type "zip",data:=.fields #[.none,.bool false,.bool false,.ref (cM (cM h l) m).objs.size,.ref ((cM (cM h l) m).push {cls:=.type "tuple",data:=.seq #[.ref h.objs.size,.ref (cM h l).objs.size]}).objs.size]}
theorem BC(l m:Addr)(xs ys:Array Value):Meets (Builtin.«zip.__new__» ⟨[.type "zip",.ref l,.ref m],[]⟩) (fun _ R s=>s.heap.IsTuple l xs∧s.heap.IsTuple m ys∧R (.ok (.ret (.ref (o9 s.heap l m).objs.size))) {s with heap:=kF s.heap l m}):=
 .of_wp fun prog w A R s h=>by
  obtain ⟨hp,g,d,tk,os⟩:=s;obtain ⟨a1,a2,h⟩:=h;have v8:=sub_zip;have b1:Heap.IsTuple (Shared.heap ⟨hp,g,d,tk,os⟩) l xs:=a1;have b2:Heap.IsTuple (Shared.heap ⟨hp.push {cls:=.type "tuple_iterator",data:=.fields #[.ref l,.int 0 0]},g,d,tk,os⟩) m ys:=Heap.IsTuple.push a2 _
  wp_walk using j9 b1,j9 b2
  exact ⟨_,rfl,h⟩
section
variable {prog:Program} {w:World} {A:Around} {E:ay} {s:Shared}
theorem BD{l m:Addr}{xs ys:Array Value}{Q:ay}(a1:s.heap.IsTuple l xs)(a2:s.heap.IsTuple m ys)
  (k:∀h',IsZip h' (s.heap.objs.size+4) (s.heap.objs.size+2) (s.heap.objs.size+3) .none→IsPair h' (s.heap.objs.size+2) (.ref s.heap.objs.size) (.ref (s.heap.objs.size+1))→IsPair h' (s.heap.objs.size+3) .none .none→
   h'.IsTupleIter s.heap.objs.size l 0→h'.IsTupleIter (s.heap.objs.size+1) m 0→(∀c o,s.heap.get? c=some o→h'.get? c=some o)→Q (.ref (s.heap.objs.size+4)) {s with heap:=h'}) :
  wpAny (model prog w) A (call (.type "zip") [.ref l,.ref m]) Q E s:=by
 refine callType_new F.called_zip (by decide) (F.typeCall_zip_2 _ _) (F.newCall_zip_2 _ _) (fun obj=>F.args_object_init_3 obj _ _) F.entry_zip_new (BC l m xs ys) ⟨a1,a2,?_⟩
 have z1:(cM s.heap l).objs.size=s.heap.objs.size+1:=kh ..;have z2:(cM (cM s.heap l) m).objs.size=s.heap.objs.size+2:=by rw [kh,z1]
 have z3:((cM (cM s.heap l) m).push {cls:=.type "tuple",data:=.seq #[.ref s.heap.objs.size,.ref (cM s.heap l).objs.size]}).objs.size=s.heap.objs.size+3:=by rw [kh,z2]
 have z4:(o9 s.heap l m).objs.size=s.heap.objs.size+4:=by rw [kh,z3]
 have f5:(kF s.heap l m).get? (o9 s.heap l m).objs.size=some _:=cu _ rfl;have f4:(kF s.heap l m).get? ((cM (cM s.heap l) m).push {cls:=.type "tuple",data:=.seq #[.ref s.heap.objs.size,.ref (cM s.heap l).objs.size]}).objs.size=some _:=a_ _ (cu _ rfl);have f3:(kF s.heap l m).get? (cM (cM s.heap l) m).objs.size=some _:=a_ _ (a_ _ (cu _ rfl));have f2:(kF s.heap l m).get? (cM s.heap l).objs.size=some _:=a_ _ (a_ _ (a_ _ (cu _ rfl)));have f1:(kF s.heap l m).get? s.heap.objs.size=some _:=a_ _ (a_ _ (a_ _ (a_ _ (cu _ rfl))));show _∧_;rw [z2,z3,z4] at f5;rw [z1,z2] at f3;rw [z3] at f4;rw [z1] at f2;rw [z4];exact ⟨⟨_,f5,rfl⟩,k _ f5 f3 f4 ⟨_,f1,rfl,rfl⟩ ⟨_,f2,rfl,rfl⟩ fun c o x=>a_ _ (a_ _ (a_ _ (a_ _ (a_ _ x))))⟩
end
def rS(K:aB)(l1 l2:Addr):It:=
  ⟨fun i H=>∃xs ys x y,bE K H l1 xs∧bE K H l2 ys∧xs[i]?=some x∧ys[i]?=some y,
   fun i H v H'=>∃T x y,H T=none∧v=.ref T∧H'=upd H T (.tup [x,y])∧∀xs ys,bE K H l1 xs→bE K H l2 ys→xs[i]?=some x∧ys[i]?=some y,
   fun i H=>∃xs ys,bE K H l1 xs∧bE K H l2 ys∧(xs.length≤i∨ys.length≤i)⟩
theorem BE{P:Program}{w:World}{K:aB}{elts:List Expr}{k:Nat}{pos:Pos}{z TI TO i1 i2 l1 l2:Addr}(D:ZipApart z TI TO i1 i2 l1 l2):Turn P w K (.Tuple elts k pos) (rS K l1 l2) [z,TI,TO,i1,i2] z
  (fun i h=>IsZip h z TI TO .none∧IsPair h TI (.ref i1) (.ref i2)∧(∃a b,IsPair h TO a b)∧h.IsTupleIter i1 l1 i∧h.IsTupleIter i2 l2 i) where
 mem:=by simp
 obj:=fun i h st b hb=>by
  obtain ⟨hz,iu,⟨a,c,iX⟩,h1,h2⟩:=st;simp only [cp,f_,gc] at hb;rcases hb with rfl | rfl | rfl | rfl | rfl;·exact ⟨_,hz,fun v z=>by cases z⟩
  ·exact ⟨_,iu,fun v z=>by cases z⟩
  ·exact ⟨_,iX,fun v z=>by cases z⟩
  ·obtain ⟨o,e,c,d⟩:=h1
   exact ⟨o,e,fun v z=>by rw [d] at z;cases z⟩
  ·obtain ⟨o,e,c,d⟩:=h2
   exact ⟨o,e,fun v z=>by rw [d] at z;cases z⟩
 keep:=fun i h h' st k=>by obtain ⟨hz,iu,⟨a,c,iX⟩,h1,h2⟩:=st;exact ⟨k _ (by simp) _ hz,k _ (by simp) _ iu,⟨a,c,k _ (by simp) _ iX⟩,h1.at fun o e=>k _ (by simp) o e,h2.at fun o e=>k _ (by simp) o e⟩
 item:=by
  intro X hP hw hK hc i pins s σ H E I hf st hg;subst hP hw hK;obtain ⟨hz,iu,⟨a,c,iX⟩,h1,h2⟩:=st;obtain ⟨xs,ys,x,y,eL,hW,hx,hy⟩:=hg;obtain ⟨aj,rv,p,_⟩:=I.tuple eL;obtain ⟨kG,o_,p',_⟩:=I.tuple hW;obtain ⟨u,hu,ru⟩:=rv.get hx;obtain ⟨u',BF,BG⟩:=o_.get hy;have v9:aj.toArray[i]?=some u:=by simpa using hu
  have v_:kG.toArray[i]?=some u':=by simpa using BF
  have hT:s.TypeIs (.ref z) "zip":=⟨_,hz,rfl⟩;unfold pyNext;refine ak (lY (gR (name:=Str.ofString "__next__") hT nQ (fX nQ hT F.entry_zip_next (v7 D hz iu iX h1 h2 (show s.heap.IsTuple l1 aj.toArray from p) (show s.heap.IsTuple l2 kG.toArray from p') (fun w1 w2 e1 e2 h' g1 g2 g3 g4 g5 g7=>aL ⟨_,rfl,?_⟩) fun q=>?_) (F.args_zip_next_1 _))))
  ·rw [v9] at e1
   rw [v_] at e2;cases e1;cases e2;refine wpAny_letOwnedTupleGo_zip g1 fun gH q1 sb=>?_;have mX:H s.heap.objs.size=none:=I.ax.fresh (aA _);have lt:∀b o,s.heap.get? b=some o→b≠s.heap.objs.size:=fun b o e=>b_ (aX e);have keep:∀b o,b∉[z,TI,TO,i1,i2]→s.heap.get? b=some o→gH.get? b=some o:=fun b o nb e=>by simp only [cp,f_,gc,not_or] at nb;exact sb.extBut _ _ nb.1 (g7 b o nb.1 nb.2.2.1 nb.2.2.2.1 nb.2.2.2.2 e)
   have BH:z≠s.heap.objs.size:=lt _ _ hz;have pT:IsPair gH s.heap.objs.size u u':=sb.extBut _ _ BH.symm g5;have fR:∀{b:Addr} {o:HO} (e:H b=some o),upd H s.heap.objs.size (.tup [x,y]) b=some o:=fun e=>by rw [bt (gf e mX)];exact e
   have ax:bG X.prog X.w (upd H s.heap.objs.size (.tup [x,y])) gH:=fun b o e=>by
    by_cases hb:b=s.heap.objs.size
    ·subst hb
     rw [aP] at e;cases e;exact ⟨by show 2≤sizeLine;decide,[u,u'],.cons ru (.cons BG .nil),⟨_,pT,rfl,_,rfl⟩⟩
    ·rw [bt hb] at e
     refine (I.ax b o e).eA (fun c v cy q=>keep c v (fun m=>?_) q) (fun c q=>fR q) fun c xs q=>fR q;have nn:=(hf c m).1;rcases cy with rfl | cy;·rw [nn] at e;cases e
     ·rw [nn] at cy;cases cy
   have u1:Un (bK X.stack) [z,TI,TO,i1,i2] H (upd H s.heap.objs.size (.tup [x,y])) s.heap gH:=
    ⟨fun b o e n _ hx=>keep b o hx e,fun b o e n _ hx=>⟨o.slots,keep b o hx e⟩,fun b o e n hx=>by rw [bt (lt b o e)];exact n,fun b o e hx=>⟨o,keep b o hx e⟩,fun b xs e=>fR e,fun b o u e=>fR e,fun b ps e=>⟨#[],by rw [fR e];simp⟩⟩
   refine ⟨.ref s.heap.objs.size,upd H s.heap.objs.size (.tup [x,y]),I.iF (s':={s with heap:=gH}) (ch:=[z,TI,TO,i1,i2]) rfl u1 ax I.bare (fun b hb=>?_),rfl,⟨_,x,y,mX,rfl,rfl,fun as bs ha hb=>⟨by rw [I.nY ha eL];exact hx,by rw [I.nY hb hW];exact hy⟩⟩,?_,fun b hb=>?_⟩
   ·obtain ⟨f0,f1,f2,f3,f4,f5⟩:=hf b hb
    exact ⟨f3,f1,f4,f5⟩
   ·exact ⟨q1,sb.extBut _ _ D.TIz (g7 _ _ D.TIz D.TITO D.TIi1 D.TIi2 iu),⟨_,_,sb.extBut _ _ D.TOz g2⟩,g3.extBut sb.extBut D.i1z,g4.extBut sb.extBut D.i2z⟩
   ·have nb:b≠s.heap.objs.size:=by
     simp only [cp,f_,gc] at hb;rcases hb with rfl | rfl | rfl | rfl | rfl;·exact lt _ _ hz
     ·exact lt _ _ iu
     ·exact lt _ _ iX
     ·obtain ⟨o,e,_⟩:=h1;exact lt _ _ e
     ·obtain ⟨o,e,_⟩:=h2;exact lt _ _ e
    rw [bt nb];exact (hf b hb).1
  ·exfalso
   rcases q with q | q;·rw [v9] at q;cases q
   ·rw [v_] at q;cases q
 done:=by
  intro X hP hw hK hc i pins s σ H E I hf st hg;subst hP hw hK;obtain ⟨hz,iu,⟨a,c,iX⟩,h1,h2⟩:=st;obtain ⟨xs,ys,eL,hW,hx⟩:=hg;obtain ⟨aj,rv,p,_⟩:=I.tuple eL;obtain ⟨kG,o_,p',_⟩:=I.tuple hW;have hl:=rv.length;have Ga:=o_.length;have hT:s.TypeIs (.ref z) "zip":=⟨_,hz,rfl⟩;unfold pyNext;refine ak (lY (gR (name:=Str.ofString "__next__") hT nQ (fX nQ hT F.entry_zip_next (v7 D hz iu iX h1 h2 (show s.heap.IsTuple l1 aj.toArray from p) (show s.heap.IsTuple l2 kG.toArray from p') (fun w1 w2 e1 e2=>?_) fun q=>⟨I.ok.hd hc,fun h' e g ⟨oe,ho,BI⟩=>?_⟩) (F.args_zip_next_1 _))))
  ·exfalso
   have q1:=(Array.getElem?_eq_some_iff.mp e1).1;have q2:=(Array.getElem?_eq_some_iff.mp e2).1;rw [bO] at q1 q2;omega
  refine ak (wpAny_isInstance (T:="StopIteration") (b:=true) ⟨oe,ho,BI⟩ isSubtype_stop (aL ⟨rfl,?_⟩));have keep:∀b o,b∉[z,TI,TO,i1,i2]→s.heap.get? b=some o→h'.get? b=some o:=fun b o nb e=>by simp only [cp,f_,gc,not_or] at nb;exact g b o nb.1 nb.2.2.1 nb.2.2.2.1 nb.2.2.2.2 e
  have ax:bG X.prog X.w H h':=fun b o e=>by
   refine (I.ax b o e).eA (fun c v cy q=>keep c v (fun m=>?_) q) (fun c q=>q) fun c xs q=>q;have nn:=(hf c m).1;rcases cy with rfl | cy;·rw [nn] at e;cases e
   ·rw [nn] at cy;cases cy
  have u1:Un (bK X.stack) [z,TI,TO,i1,i2] H H s.heap h':=
   ⟨fun b o e n _ hx=>keep b o hx e,fun b o e n _ hx=>⟨o.slots,keep b o hx e⟩,fun b o e n hx=>n,fun b o e hx=>⟨o,keep b o hx e⟩,fun b xs e=>e,fun b o u e=>e,fun b ps e=>⟨#[],by rw [e];simp⟩⟩
  refine I.iF (s':={s with heap:=h'}) (ch:=[z,TI,TO,i1,i2]) rfl u1 ax I.bare fun b hb=>?_;obtain ⟨f0,f1,f2,f3,f4,f5⟩:=hf b hb;exact ⟨f3,f1,f4,f5⟩
 self:=fun _ _ _ _ _ st h=>wpAny_pyIter_zip st.1 h
def BJ(K:aB)(ta:TA):TI:=fun σ H R=>ta σ H fun vs H1=>∃l1 l2,vs=[.ref l1,.ref l2]∧(∃xs,bE K H1 l1 xs)∧(∃ys,bE K H1 l2 ys)∧R (rS K l1 l2) H1
section
variable {X:Cx}
theorem BK{elts:List Expr}{k:Nat}{kq:Pos}{a b:Expr}{ta:TA}{p pos:Pos}(hg:Gl X "zip")(hm:X.mg "zip"=none)(ha:PA X [a,b] ta)(hs:starEach [a,b] X.env=[(false,eval a X.env),(false,eval b X.env)]:=by rfl)(jg:starEach [b] X.env=[(false,eval b X.env)]:=by rfl) :
  PI X (.Tuple elts k kq) (.Call (.Name "zip" p) [a,b] [] pos) (BJ X.K ta):=by
 intro pins s σ H R I h;refine Call_ (jd I hg hm boot_zip (nz (aE (ha pos pins s σ H _ I h) fun us s1 ⟨vs,H1,I1,r1,q1⟩=>?_) (by rw [hs,jg]) (by rw [jg];rfl)))
 obtain ⟨l1,l2,e,⟨xs,eL⟩,⟨ys,hW⟩,q⟩:=q1;subst e;cases r1 with
 | cons r rr=>
  cases rr with
  | cons r' rr=>
   cases rr;cases r;cases r';obtain ⟨aj,rv,p1,_⟩:=I1.tuple eL;obtain ⟨kG,o_,p2,_⟩:=I1.tuple hW;have b1:l1<s1.heap.objs.size:=p1.lt;have b2:l2<s1.heap.objs.size:=p2.lt;refine BD (show s1.heap.IsTuple l1 aj.toArray from p1) (show s1.heap.IsTuple l2 kG.toArray from p2) fun h' z1 z2 z3 z4 z5 z7=>?_;refine wpAny_pyIter_zip (s:={s1 with heap:=h'}) z1 ?_;refine ⟨_,_,_,_,H1,rfl,I1.kept (t':=s1.toks) z7,BE (zipApart_new b1 b2),⟨z1,z2,⟨_,_,z3⟩,z4,z5⟩,fun b hb=>?_,q⟩;have le:s1.heap.objs.size≤b:=by
    simp only [cp,f_,gc] at hb;rcases hb with rfl | rfl | rfl | rfl | rfl;·exact l_ ..
    ·exact l_ ..
    ·exact l_ ..
    ·exact aA _
    ·exact l_ ..
   exact I1.n5 le (I1.ax.fresh le)
end
section
variable {prog:Program} {w:World} {A:Around} {E:ay} {s:Shared}
theorem BL{t sl:Addr}{aj:Array Value}{vl vu:Value}{lo hi:Option Int}{Q:ay}(ht:IsTup s.heap t aj)(hs:s.heap.IsSliceOf sl vl vu .none)(pl:IsPart vl lo)(pu:IsPart vu hi)
  (hw:HT.aH aj.size 0 lo=0∧HT.aH aj.size aj.size hi=aj.size) (q:Q (.ref t) s):wpAny (model prog w) A (getItem (.ref t) (.ref sl)) Q E s:=by
 obtain ⟨os,b1,b2,_⟩:=id hs;have ty:s.TypeIs (.ref sl) "slice":=⟨os,b1,b2⟩;unfold getItem
 try with_reducible refine gO ?_
 first | refine ak (aL ?_) | skip
 refine ak (wpAny_sequenceKey ht.typeIs (by decide) (ak (gR (name:=Str.ofString "__getitem__") ht.typeIs ka (fX ka ht.typeIs entry_tuple_getitem ?_ (args_tuple_getitem _ _)))))
 show wpAny _ _ (Builtin.Tuple.tupleItemsOf (.ref t) >>= _) _ _ s;refine ak (tupleItemsOf_ ht (ak (wpAny_typeOf ty ?_)));rw [ae (by decide)]
 refine ak (HT.uJ hs pl pu ?_);have yes:((((HT.aH aj.size 0 lo:Nat):Int) == 0 && (1:Int) == 1 && (HT.aH aj.size aj.size hi-HT.aH aj.size 0 lo) == aj.size)=true):=by rw [hw.1,hw.2];simp
 show wpAny _ _ (if (((HT.aH aj.size 0 lo:Nat):Int) == 0 && (1:Int) == 1 && (HT.aH aj.size aj.size hi-HT.aH aj.size 0 lo) == aj.size)=true then _ else _) _ _ s
 rw [ae yes];refine ak ?_;unfold Builtin.Tuple.tupleIsExact;refine ak (wpAny_typeOf ht.typeIs (aL ?_));rw [ae (by decide)]
 exact ak (eS (aL ⟨_,rfl,aL q⟩))
end
def BM(K:aB):V→Option Int→Option Int→Hp→VK→Prop:=fun x lo hi H Q=>∃a xs,x=.ref a∧bE K H a xs∧∀p H',(H'=H∧p=a∧eY xs lo hi=xs)∨(H p=none∧H'=upd H p (.tup (eY xs lo hi)))→Q (.ref p) H'
theorem BN{X:Cx}:ot X (BM X.K):=by
 intro pins s σ H x v vl vu lo hi sl Q I rx hs pl pu h;obtain ⟨a,xs,rfl,hx,q⟩:=h;by_cases hw:HT.aH xs.length 0 lo=0∧HT.aH xs.length xs.length hi=xs.length
 ·cases rx
  obtain ⟨aj,r,ht,hz⟩:=I.tuple hx;have hlen:aj.toArray.size=xs.length:=by rw [bO];exact r.length.symm
  refine ⟨"tuple",_,ka.lookup,ht.typeIs,?_⟩;refine BL ht hs pl pu (by rw [hlen];exact hw) ⟨.ref a,H,I,rfl,q a H (.inl ⟨rfl,rfl,?_⟩)⟩
  unfold eY;rw [hw.1,hw.2,List.drop_zero,Nat.sub_zero];exact List.take_length
 ·exact zc pins s σ H (.ref a) v vl vu lo hi sl Q I rx hs pl pu ⟨a,xs,rfl,hx,hw,fun p np=>q p _ (.inr ⟨np,rfl⟩)⟩
end L2
namespace My
open PySem L2
theorem BO{X:Cx}{K:aB}(hu:X.A.units<cLine)(hk:X.K=K:=by rfl):bZ X (compareOp .Lt) (uN K):=by subst hk;exact zh hu
def BP:Sp:=fun vs H Q _=>∃(b:Addr) (x y:Int) (n:Nat),vs=[.ref b,.int (n:Int)]∧H b=some (.tup [.int x,.int y])∧Q (.bl (decide (0≤x∧x<n) && (decide (0≤y∧y<n) && decide (x<y)))) H
def BQ:Sp:=fun vs H Q _=>∃(lt:Addr) (us:List V) (L:c_),vs=[.ref lt]∧H lt=some (.tup us)∧a8 H us L∧L.length≤1000∧L.Pairwise lexLt∧∀H',au H H'→Q (.bl true) H'
def BR:Sp:=fun vs H Q _=>∃(lt:Addr) (n:Nat) (us:List V) (L:c_),vs=[.ref lt,.int (n:Int)]∧H lt=some (.tup us)∧a8 H us L∧L.length≤1000∧L.Pairwise lexLt∧(∀z∈L,0≤z.1∧z.1<z.2∧z.2<(n:Int))∧∀H',au H H'→Q (.bl true) H'
def BS:Sp:=fun vs H Q _=>∃(t:Addr) (n:Nat) (L:c_),vs=[.ref t]∧ir H t n L∧L.length≤1000∧L.Pairwise lexLt∧(∀z∈L,0≤z.1∧z.1<z.2∧z.2<(n:Int))∧1≤n∧n≤60∧∀H',au H H'→Q (.bl true) H'
end My
namespace L2
open PySem PySem.Spec PyProof.Rows
theorem wa{K:aB}{a b:Addr}{xs ys:List V}{H1:Hp}(h1:H1 a=some (.tup xs))(h2:H1 b=some (.tup ys)):ra (rS K a b) (xs.zip ys) H1 where
 go:=fun i Hc s hi=>by
  have hi:i<min xs.length ys.length:=by simpa using hi
  exact ⟨xs,ys,xs[i],ys[i],.of (s _ _ h1),.of (s _ _ h2),by simp [show i<xs.length by omega],by simp [show i<ys.length by omega]⟩
 da:=fun i Hc v H' s y=>by obtain ⟨T,x,y,nT,ev,eH,hx⟩:=y;obtain ⟨e1,e2⟩:=hx xs ys (.of (s _ _ h1)) (.of (s _ _ h2));exact ⟨T,x,y,ev,nT,eH,fun _=>by rw [qj];exact ⟨e1,e2⟩⟩
 stop:=fun i Hc s hi=>by
  have hi:min xs.length ys.length≤i:=by simpa using hi
  exact ⟨xs,ys,.of (s _ _ h1),.of (s _ _ h2),by omega⟩
end L2
namespace My
open PySem L2
theorem BU{p q:Int×Int}(h:lexLt p q):HT.lexLt [p.1,p.2] [q.1,q.2]=true:=by
 unfold lexLt at h;rw [HT.qI];by_cases e:p.1=q.1
 ·rw [ae e,HT.qI,aa (by omega)]
  exact aG (by omega)
 ·rw [aa e]
  exact aG (by omega)
theorem BV(xs:List V):eY xs (some 1) none=xs.drop 1:=BA xs 1
end My
namespace L2
open PySem PySem.Spec PyProof.Rows
section
variable {X:Cx}
end
end L2
namespace My
open PySem L2
end My
namespace L2
open PySem
section
variable {prog:Program} {w:World} {A:Around} {E:ay} {s:Shared}
end
end L2
namespace My
open PySem L2
end My
namespace L2
open PySem PySem.Spec PyProof.Rows My
end L2
namespace My
open PySem L2
section
variable {P a d:Addr} {H Hc:Hp} {n m:Nat} {L:c_}
end
section
variable {n:Nat} {E:Nat→Nat→Prop} {pos rk:Nat→Nat}
end
open PySem PySem.W PyProof.Rows Tm
section
variable {prog:Program} {w:World} {A:Around} {E:ay} {s:Shared}
end
open PySem PySem.W PyProof.Rows
section
variable {prog:Program} {w:World} {A:Around} {E:ay} {s:Shared}
end
end My
namespace L2
open PySem PySem.W PyProof.Rows My
end L2
namespace My
open PySem PySem.W PyProof.Rows
section
variable {prog:Program} {w:World} {A:Around} {E:ay} {s:Shared} {R:Result→Shared→Prop}
end
open PySem PySem.W PyProof.Rows L2
section
variable {prog:Program} {w:World} {A:Around} {s:Shared}
end
end My
namespace L2
open PySem PySem.W PyProof.Rows My
end L2
namespace My
open PySem L2
theorem wb{k:Nat}(h:k≤1000):k≤sizeLine:=cO h (by decide)
end My
namespace L2
open PySem PySem.Spec PyProof.Rows My
end L2
namespace My
open PySem L2
end My
namespace L2
open PySem
section
variable {prog:Program} {w:World} {A:Around} {E:ay} {s:Shared}
end
open PySem PySem.Spec PyProof.Rows My
end L2
namespace My
open PySem L2
end My
namespace L2
open PySem PySem.W PyProof.Rows
section
variable {prog:Program} {w:World} {A:Around} {E:ay} {s:Shared}
end
open AutoSeq1 (wpAny_loadPart')
section
variable {prog:Program} {w:World} {A:Around} {E:ay} {s:Shared}
end
end L2
namespace My
open PySem L2
end My
namespace L2
open PySem PySem.Spec PyProof.Rows My
end L2
namespace My
open PySem L2
open PySem L2 Classical
theorem aw{a b:TS}{D:Ends}{σ:St}{H:Hp}(h:∀R:St→Hp→Prop,(∀σ H,b D σ H→R σ H)→a {D with nx:=R} σ H):qv a b D σ H:=h _ fun _ _ h=>h
end My
namespace L2
open PySem PySem.Spec PyProof.Rows
end L2
namespace My
open PySem L2 Classical
open PySem L2
end My
namespace L2
open PySem PySem.Spec PyProof.Rows My
section
variable {X:Cx}
end
end L2
namespace My
open PySem L2
end My
namespace L2
open PySem PySem.Spec PyProof.Rows My
end L2
namespace My
open PySem L2
inductive aK where
 | band (n w:Nat)
 | bU (n w:Nat)
 | ring (n:Nat)
 | ee (m:Nat)
 | tree (as:List Nat)
def aK.sz:aK→Nat
 | .band n _=>n
 | .bU n _=>n
 | .ring n=>n
 | .ee m=>2*m
 | .tree as=>as.length+1
def aK.lk:aK→Nat→Nat→Bool
 | .band _ w,i,j=>decide (j≤i+w)
 | .bU n w,i,j=>decide (j≤i+w) || decide (j+1=n)
 | .ring n,i,j=>decide (j=i+1) || decide (j+1=i+n)
 | .ee _,i,j=>decide (j=i+2) || (decide (j=i+1) && decide (i % 2=0))
 | .tree as,i,j=>decide (as.getD (j-1) 0=i)
def aK.ok:aK→Prop
 | .band n w=>1≤n∧n≤60∧w<n
 | .bU n w=>1≤n∧n≤60∧w<n
 | .ring n=>3≤n∧n≤60
 | .ee m=>1≤m∧m≤30
 | .tree as=>as.length≤59∧∀i,i<as.length→as.getD i 0≤i
def aK.iY:aK→Prop
 | .band n w=>n≤20∨w<4
 | .bU n w=>n≤20∨w<4
 | _=>True
def sV(s:String):V:=.str (Str.ofString s)
def ToldN(H:Hp)(td:Addr):aK→Prop
 | .band n w=>H td=some (.tup [sV "band",.int (n:Int),.int (w:Int)])
 | .bU n w=>H td=some (.tup [sV "brim",.int (n:Int),.int (w:Int)])
 | .ring n=>H td=some (.tup [sV "ring",.int (n:Int)])
 | .ee m=>H td=some (.tup [sV "ladder",.int (m:Int)])
 | .tree as=>∃ta,H td=some (.tup [sV "tree",.ref ta])∧H ta=some (.tup (as.map fun k:Nat=>V.int (k:Int)))
variable {N:aK}
theorem ToldN.mono{H H':Hp}{td:Addr}(h:ToldN H td N)(s:au H H'):ToldN H' td N:=by
 cases N with
 | tree as=>obtain ⟨ta,h1,h2⟩:=h;exact ⟨ta,s _ _ h1,s _ _ h2⟩
 | _=>exact s _ _ h
def cC(N:aK):List (Int×Int):=d_ N.sz N.lk N.sz
theorem wc{a b:Nat}:((a:Int),(b:Int))∈cC N↔a<b∧b<N.sz∧N.lk a b=true:=by
 constructor
 ·intro h
  obtain ⟨i,j,_,h2,h3,h4,e⟩:=mem_of h;have e1:=bD Prod.fst e;have e2:=bD Prod.snd e;dsimp only at e1 e2;have:a=i:=by omega
  have:b=j:=by omega
  subst a b;exact ⟨h2,h3,h4⟩
 ·rintro ⟨h1,h2,h3⟩
  exact vW h1 h2 h3 (by omega)
theorem rT:∀z∈cC N,0≤z.1∧z.1<z.2∧z.2<(N.sz:Int):=fun z hz=>by obtain ⟨i,j,_,h2,h3,h4,rfl⟩:=mem_of hz;dsimp only;omega
theorem pb:(cC N).Pairwise lexLt:=vX _
theorem kH(h:N.ok):1≤N.sz∧N.sz≤60:=by
 cases N with
 | band n w=>exact ⟨h.1,h.2.1⟩
 | bU n w=>exact ⟨h.1,h.2.1⟩
 | ring n=>exact ⟨by have:=h.1;show 1≤n;omega,h.2⟩
 | ee m=>obtain ⟨h1,h2⟩:=h;constructor <;> show _≤_ <;> simp only [aK.sz] <;> omega
 | tree as=>have:=h.1;constructor <;> show _≤_ <;> simp only [aK.sz] <;> omega
variable {n:Nat}
theorem we{f:Nat→Nat→Bool}{i c:Nat}(h:∀l:List Nat,l.Pairwise (· < ·)→(∀j∈l,i<j∧j<n∧f i j=true)→l.length≤c):(fg n f i).length≤c:=by
 have:=h (((List.range (n-(i+1))).filter fun k=>f i (i+1+k)).map fun k=>i+1+k) ?_ fun j hj=>?_
 ·rw [b8] at this
  unfold fg;rw [b8];exact this
 ·rw [l8]
  exact (List.pairwise_lt_range.sublist nM).imp fun h=>by omega
 ·obtain ⟨k,hk,rfl⟩:=eT.mp hj
  obtain ⟨h1,h2⟩:=gM.mp hk;have:=cN.mp h1;exact ⟨by omega,by omega,h2⟩
theorem rU{n c:Nat}{f:Nat→Nat→Bool}(h:∀i,i<n→(fg n f i).length≤c):∀k,k≤n→(d_ n f k).length≤k*c
 | 0,_=>cG _
 | k+1,hk=>by
  have:=rU h k (by omega)
  have:=h k (by omega)
  show (d_ n f k++fg n f k).length≤_;rw [dz,Nat.succ_mul];omega
theorem kI{a:Nat}:∀(l:List Nat) (b:Nat),l.Pairwise (· < ·)→(∀j∈l,a<j∧j≤b)→l.length+a≤max a b
 | [],b,_,_=>by simp;omega
 | x::l,b,h,hl=>by
  obtain ⟨h1,h2⟩:=l9.mp h;have hx:=hl x (by simp)
  have:=kI (a:=x) l b h2 fun j hj=>⟨h1 j hj,(hl j (fU _ hj)).2⟩;rw [dm];omega
theorem BW{l:List Int}(nd:l.Nodup)(h:∀z∈l,0≤z∧z<(n:Int)):l.length≤n:=by
 have BX:(l.map Int.toNat).Nodup:=by rw [qk,l8];exact (qk.mp nd).imp_of_mem fun{a b} ha hb ne e=>ne (by have:=h a ha;have:=h b hb;omega)
 have h1:((List.range n).filter fun p=>decide (p∈l.map Int.toNat)).Perm (l.map Int.toNat):=(ql (List.nodup_range.filter _) BX).mpr fun x=>by rw [gM,cN,ki];refine ⟨fun h=>h.2,fun hx=>⟨?_,hx⟩⟩;obtain ⟨z,hz,rfl⟩:=eT.mp hx;have:=h z hz;omega
 have:=h1.length_eq;rw [b8] at this;rw [←this];exact cO (List.length_filter_le ..) (by simp)
theorem pd(ok:N.ok)(fw:N.iY):(cC N).length≤800:=by
 have cnt:∀c,c*60≤800→(∀i,i<N.sz→∀l:List Nat,l.Pairwise (· < ·)→(∀j∈l,i<j∧j<N.sz∧N.lk i j=true)→l.length≤c)→(cC N).length≤800:=fun c hc h=>by have h1:=rU (n:=N.sz) (f:=N.lk) (c:=c) (fun i hi=>we (h i hi)) N.sz (aA _);have h2:=(kH ok).2;have h3:N.sz*c≤60*c:=Nat.mul_le_mul_right _ h2;unfold cC;rw [Nat.mul_comm] at hc;omega
 have wg:N.sz≤20→(cC N).length≤800:=fun pe=>by
  have h1:=rU (n:=N.sz) (f:=N.lk) (c:=20) (fun i hi=>we fun l hp hl=>by
   have:=kI (a:=i) l (N.sz-1) hp fun j hj=>⟨(hl j hj).1,by have:=(hl j hj).2.1;omega⟩
   omega) N.sz (aA _)
  have h3:N.sz*20≤20*20:=Nat.mul_le_mul_right _ pe;unfold cC;omega
 cases N with
 | band n w=>
  rcases fw with h | h;·exact wg h
  ·refine cnt 4 (by decide) fun i _ l hp hl=>?_
   have:=kI (a:=i) l (i+w) hp fun j hj=>⟨(hl j hj).1,cR (hl j hj).2.2⟩;omega
 | bU n w=>
  rcases fw with h | h;·exact wg h
  ·refine cnt 5 (by decide) fun i _ l hp hl=>?_
   have hf:(l.filter fun j=>decide (j≤i+w)).length≤4:=by have:=kI (a:=i) (l.filter fun j=>decide (j≤i+w)) (i+w) (hp.sublist nM) fun j hj=>⟨(hl j (gM.mp hj).1).1,cR (gM.mp hj).2⟩;omega
   have hg:(l.filter fun j=>!decide (j≤i+w)).length≤1:=by
    have:=kI (a:=n-2) (l.filter fun j=>!decide (j≤i+w)) (n-1) (hp.sublist nM) fun j hj=>by
     obtain ⟨h1,h2⟩:=gM.mp hj;obtain ⟨h3,h4,h5⟩:=hl j h1;have h5:(decide (j≤i+w) || decide (j+1=n))=true:=h5;rw [show decide (j≤i+w)=false by simpa using h2,kd] at h5
     have:=cR h5;omega
    omega
   have hs:∀l:List Nat,l.length=(l.filter fun p=>decide (p≤i+w)).length+(l.filter fun p=>!decide (p≤i+w)).length:=fun l=>by
    induction l with
    | nil=>rfl
    | cons x l ih=>
     rw [List.filter_cons,List.filter_cons,dm];by_cases e:x≤i+w
     ·rw [aG e,ae rfl,Bool.not_true,aa (by simp),dm]
      omega
     ·rw [bp e,aa (by simp),Bool.not_false,ae rfl,dm]
      omega
   have:=hs l;omega
 | ring n=>
  refine cnt 13 (by decide) fun i _ l hp hl=>?_
  match l,hp,hl with
  | [],_,_=>exact cG _
  | [_],_,_=>simp
  | [_,_],_,_=>simp
  | x::y::z::l,hp,hl=>
   exfalso
   have e:∀j,j∈x::y::z::l→j=i+1∨j+1=i+n:=fun j hj=>by have:=(hl j hj).2.2;have this:(decide (j=i+1) || decide (j+1=i+n))=true:=this;simpa using this
   have h1:=e x (by simp)
   have h2:=e y (by simp)
   have h3:=e z (by simp)
   obtain ⟨p1,p2⟩:=l9.mp hp;have q1:=p1 y (by simp)
   have q2:=p1 z (by simp)
   have q3:=(l9.mp p2).1 z (by simp)
   omega
 | ee m=>
  refine cnt 2 (by decide) fun i _ l hp hl=>?_
  have:=kI (a:=i) l (i+2) hp fun j hj=>⟨(hl j hj).1,by have:=(hl j hj).2.2;have this:(decide (j=i+2) || (decide (j=i+1) && decide (i % 2=0)))=true:=this;simp at this;omega⟩
  omega
 | tree as=>
  have nd:((cC (.tree as)).map Prod.snd).Nodup:=by
   rw [qk,l8];refine (pb (N:=.tree as)).imp_of_mem fun{a b} ha hb h e=>?_;obtain ⟨i,j,_,_,_,h1,rfl⟩:=mem_of ha;obtain ⟨i',j',_,_,_,h2,rfl⟩:=mem_of hb;have h1:=cR (show decide (as.getD (j-1) 0=i)=true from h1);have h2:=cR (show decide (as.getD (j'-1) 0=i')=true from h2);dsimp only at e;have:j=j':=by omega
   subst this;have:i=i':=h1.symm.trans h2;subst this;unfold lexLt at h;omega
  have:=BW nd (n:=60) fun z hz=>by obtain ⟨q,hq,rfl⟩:=eT.mp hz;have:=rT q hq;have:=(kH ok).2;omega
  rw [b8] at this;omega
end My
namespace L2
open PySem PySem.Spec PyProof.Rows
section
variable {prog:Program} {w:World} {A:Around} {E:ay} {s:Shared}
variable {it l:Addr} {i:Nat} {x:Value} {Q:ay}
theorem BY{items}(hit:s.heap.IsTupleIter it l i)
  (hl:s.heap.IsTuple l items) (hx:items[i]?=some x)
  (hQ:∀h',h'.IsTupleIter it l (i+1)→Heap.SameBut it s.heap h'→Q x {s with heap:=h'}) :
  wpAny (model prog w) A (Builtin.SmallTypes.nextOf (.ref it)) Q E s:=by
 obtain ⟨o,ho,hc,hd⟩:=id hit;obtain ⟨ol,rV,_,nl,rW⟩:=hl;unfold Builtin.SmallTypes.nextOf
 refine ak (gR (name:=Str.ofString "__next__") hit.typeIs nR
  (fX nR hit.typeIs PySem.F.entry_tuple_iterator_next ?_ (PySem.F.args_tuple_iterator_next_1 _)))
 show wpAny _ _ (field (.ref it) 0 >>= _) _ _ s;refine ak (cQ ho hd (x:=.ref l) rfl ?_);show wpAny _ _ (if (Value.ref l == Value.none)=true then _ else _) _ _ s
 rw [aa (show ¬((Value.ref l == Value.none)=true) from bJ)];show wpAny _ _ (field (.ref it) 1 >>= _) _ _ s;refine ak (cQ ho hd (x:=.int i 0) rfl ?_);show wpAny _ _ (seqItems? (.ref l) >>= _) _ _ s;refine ak (i8 rV rW ?_);simp only [gQ,hx];refine ak (wpAny_setField ho hd (by simp) (aL ⟨x,rfl,aL (hQ _ ?_ (nO ..))⟩))
 exact ⟨_,qe _ ho (Obj.isFreed_of_fields (nN hd _)),(Obj.cls_mapFields ..).trans hc,by rw [nN hd];simp [rawInt]⟩
theorem BZ{items}(hh:A.handled=none)
  (hit:s.heap.IsTupleIter it l i) (hl:s.heap.IsTuple l items) (hx:items[i]?=none)
  (hE:∀h' e,Heap.ExtBut it s.heap h'→(∃o,h'.get? e=some o∧o.cls=.type "StopIteration")→E (.ref e) {s with heap:=h'}) :
  wpAny (model prog w) A (Builtin.SmallTypes.nextOf (.ref it)) Q E s:=by
 obtain ⟨o,ho,hc,hd⟩:=id hit;obtain ⟨ol,rV,_,nl,rW⟩:=hl;unfold Builtin.SmallTypes.nextOf
 refine ak (gR (name:=Str.ofString "__next__") hit.typeIs nR
  (fX nR hit.typeIs PySem.F.entry_tuple_iterator_next ?_ (PySem.F.args_tuple_iterator_next_1 _)))
 show wpAny _ _ (field (.ref it) 0 >>= _) _ _ s;refine ak (cQ ho hd (x:=.ref l) rfl ?_);show wpAny _ _ (if (Value.ref l == Value.none)=true then _ else _) _ _ s
 rw [aa (show ¬((Value.ref l == Value.none)=true) from bJ)];show wpAny _ _ (field (.ref it) 1 >>= _) _ _ s;refine ak (cQ ho hd (x:=.int i 0) rfl ?_);show wpAny _ _ (seqItems? (.ref l) >>= _) _ _ s;refine ak (i8 rV rW ?_);simp only [gQ,hx];refine ak (eS (ak (wpAny_setField ho hd (by simp) ?_)))
 show wpAny _ _ (newExc (.type "StopIteration") [] >>= _) _ _ _;refine ak ?_;simp only [newExc,newTuple];refine ak (fu ?_ (by size_fits))
 refine ak (m:=firstArgMember _ _) (wpAny_of_eq (a:=Value.none) (by first | rfl | (simp only [firstArgMember];rfl)) ?_)
 refine fu ?_ (by size_fits)
 simp only [raiseNew];refine ak (wpAny_handled ?_)
 first | rw [show A.in1.handled=none from hh] | rw [hh]
 refine ak (aL (wpAny_throw ?_));exact hE _ _ (((nO ..).extBut.push _).push _) ⟨_,cu _ rfl,rfl⟩
variable {e:Addr} {j:Int} {items:Array Value} {old:Value}
theorem B0(he:IsEnum s.heap e it j old)(hit:s.heap.IsTupleIter it l i)(hl:s.heap.IsTuple l items)(hx:items[i]?=some x)(fK:e≠it)
  (hQ:∀h',IsEnumOut h' e it (j+1) x s.heap.objs.size→h'.IsTupleIter it l (i+1)→
   h'.get? s.heap.objs.size=some {cls:=.type "tuple",data:=.seq #[.int j s.toks,x]}→h'.objs.size=s.heap.objs.size+1→
   (∀b o,b≠e→b≠it→s.heap.get? b=some o→h'.get? b=some o)→Q (.ref s.heap.objs.size) {s with heap:=h',toks:=s.toks+1}) :
  wpAny (model prog w) A (Builtin.«enumerate.__next__» ⟨[.ref e],[]⟩) (fun fin s'=>∃v,fin=.done (.ret v)∧Q v s') E s:=by
 obtain ⟨hp,g,d,tk,os⟩:=s;show wpAny _ _ (field (.ref e) 2 >>= _) _ _ _;refine ak (cQ he rfl (x:=.ref it) rfl ?_);refine ak (BY hit hl hx fun h₁ wj kJ=>?_)
 replace kJ:Heap.SameBut it hp h₁:=kJ
 have pf:IsEnum h₁ e it j old:=(kJ.2 e fK).trans he;show wpAny _ _ (field (.ref e) 3 >>= _) _ _ ⟨h₁,g,d,tk,os⟩;refine ak (cQ pf rfl (x:=rawInt j) rfl ?_);show wpAny _ _ (field (.ref e) 4 >>= _) _ _ ⟨h₁,g,d,tk,os⟩;refine ak (cQ pf rfl (x:=.none) rfl ?_);show wpAny _ _ (mkInt j >>= _) _ _ ⟨h₁,g,d,tk,os⟩;refine ak (wpAny_mkInt ?_);show wpAny _ _ (setField (.ref e) 3 (rawInt (j+1)) >>= _) _ _ ⟨h₁,g,d,tk+1,os⟩;refine ak (f9 pf (by simp) fun h₂ ph kK=>?_)
 replace kK:Heap.SameBut e h₁ h₂:=kK
 replace ph:IsEnum h₂ e it (j+1) old:=ph
 show wpAny _ _ (setField (.ref e) 4 .none >>= _) _ _ ⟨h₂,g,d,tk+1,os⟩;refine ak (f9 ph (by simp) fun h₃ pj kL=>?_)
 replace kL:Heap.SameBut e h₂ h₃:=kL
 replace pj:IsEnum h₃ e it (j+1) old:=pj
 show wpAny _ _ (newTuple [.int j tk,x] >>= _) _ _ ⟨h₃,g,d,tk+1,os⟩;refine ak (wpAny_newTuple ?_);have pk:IsEnum (h₃.push {cls:=.type "tuple",data:=.seq #[.int j tk,x]}) e it (j+1) old:=a_ _ pj;generalize mY:h₃.push {cls:=.type "tuple",data:=.seq #[.int j tk,x]}=h₄ at pk;have gz:h₃.objs.size=hp.objs.size:=by rw [kL.1,kK.1,kJ.1]
 have rX:e<hp.objs.size:=aX he;have B1:h₄.get? hp.objs.size=some {cls:=.type "tuple",data:=.seq #[.int j tk,x]}:=by rw [←mY,←gz];exact cu _ rfl
 have B2:h₄.objs.size=hp.objs.size+1:=by rw [←mY,kh,gz]
 have B3:∀b o,b≠e→b≠it→hp.get? b=some o→h₄.get? b=some o:=fun b o dA pA hb=>by rw [←mY];exact a_ _ (kL.extBut b o dA (kK.extBut b o dA (kJ.extBut b o pA hb)))
 have B4:h₄.IsTupleIter it l (i+1):=by rw [←mY];obtain ⟨o,ho,r⟩:=(wj.extBut kK.extBut (eR fK)).extBut kL.extBut (eR fK);exact ⟨o,a_ _ ho,r⟩
 show wpAny _ _ (Builtin.SmallTypes.ownedTupleIsFree (.ref e) >>= _) _ _ ⟨h₄,g,d,tk+1,os⟩;rw [gz];clear mY pj kL ph kK pf kJ wj gz h₃ h₂ h₁;refine ak ?_
 ·unfold Builtin.SmallTypes.ownedTupleIsFree
  refine ak (cQ pk rfl (x:=.none) rfl (aL ?_));simp only [if_true];refine ak (eS ?_);refine ak (cQ pk rfl (x:=old) rfl ?_);refine ak (f9 pk (by simp) fun h₅ rY kM=>?_)
  replace kM:Heap.SameBut e h₄ h₅:=kM
  replace rY:IsEnum h₅ e it (j+1) x:=rY
  show wpAny _ _ (Builtin.SmallTypes.ownedTupleHandOut (.ref e) (.ref hp.objs.size) >>= _) _ _ ⟨h₅,g,d,tk+1,os⟩;refine ak ?_
  ·unfold Builtin.SmallTypes.ownedTupleHandOut
   refine ak (f9 rY (by simp) fun h₆ rZ kN=>?_)
   replace kN:Heap.SameBut e h₅ h₆:=kN
   replace rZ:IsEnumOut h₆ e it (j+1) x hp.objs.size:=rZ
   refine f9 rZ (by simp) fun h₇ r0 kO=>?_
   replace kO:Heap.SameBut e h₆ h₇:=kO
   replace r0:IsEnumOut h₇ e it (j+1) x hp.objs.size:=r0
   refine ak (wpAny_letGo (aL ⟨_,rfl,hQ h₇ r0 ?_ ?_ ?_ ?_⟩));·exact ((B4.extBut kM.extBut (eR fK)).extBut kN.extBut (eR fK)).extBut kO.extBut (eR fK)
   ·exact kO.extBut _ _ (j8 rX) (kN.extBut _ _ (j8 rX) (kM.extBut _ _ (j8 rX) B1))
   ·rw [kO.1,kN.1,kM.1,B2]
   ·exact fun b o dA pA hb=>kO.extBut b o dA (kN.extBut b o dA (kM.extBut b o dA (B3 b o dA pA hb)))
theorem B5{Q:Option Value→Shared→Prop}
  (he:IsEnum s.heap e it j old) (hit:s.heap.IsTupleIter it l i) (hl:s.heap.IsTuple l items) (hx:items[i]?=some x) (fK:e≠it)
  (hQ:∀h',IsEnumOut h' e it (j+1) x s.heap.objs.size→h'.IsTupleIter it l (i+1)→
   h'.get? s.heap.objs.size=some {cls:=.type "tuple",data:=.seq #[.int j s.toks,x]}→h'.objs.size=s.heap.objs.size+1→
   (∀b o,b≠e→b≠it→s.heap.get? b=some o→h'.get? b=some o)→Q (some (.ref s.heap.objs.size)) {s with heap:=h',toks:=s.toks+1}) :
  wpAny (model prog w) A (pyNext (.ref e)) Q E s:=by
 have hT:s.TypeIs (.ref e) "enumerate":=⟨_,he,rfl⟩;unfold pyNext
 exact ak (lY (gR (name:=Str.ofString "__next__") hT nS
  (fX nS hT PySem.F.entry_enumerate_next
   (B0 he hit hl hx fK fun h' a b c d k=>aL (hQ h' a b c d k)) (PySem.F.args_enumerate_next_1 _))))
theorem B6{Q:Option Value→Shared→Prop}(hh:A.handled=none)
  (he:IsEnum s.heap e it j old) (hit:s.heap.IsTupleIter it l i) (hl:s.heap.IsTuple l items) (hx:items[i]?=none)
  (hQ:∀h',Heap.ExtBut it s.heap h'→Q none {s with heap:=h'}):wpAny (model prog w) A (pyNext (.ref e)) Q E s:=by
 have hT:s.TypeIs (.ref e) "enumerate":=⟨_,he,rfl⟩;unfold pyNext
 refine ak (lY (gR (name:=Str.ofString "__next__") hT nS
  (fX nS hT PySem.F.entry_enumerate_next ?_ (PySem.F.args_enumerate_next_1 _))))
 show wpAny _ _ (field (.ref e) 2 >>= _) _ _ _;refine ak (cQ he rfl (x:=.ref it) rfl ?_);refine ak (BZ hh hit hl hx fun h' x B7 B8=>?_);obtain ⟨o,ho,hc⟩:=B8;refine ak (wpAny_isInstance (T:="StopIteration") (b:=true) ⟨o,ho,hc⟩ isSubtype_stop ?_);exact aL (hQ _ B7)
end
open AutoSeq1 (wpAny_loadPart')
section
variable {prog:Program} {w:World} {A:Around} {E:ay} {s:Shared}
theorem B9{T newId mE:String}{Bn Bi:Builtin}{args:List Value}{kw:List (Str×Value)}{S:PySem.Spec}{Q Q₁:ay}(ft:TypeCalled T newId mE)(Gb:checkTypeCall T ⟨args,kw⟩=pure ())(B_:checkBuiltinCall newId ⟨.type T::args,kw⟩=pure ())
  (Ca:entryFor table newId=some Bn) (Cb:entryFor table mE=some Bi) (g:Meets (Bn ⟨.type T::args,kw⟩) S) (h:S A.in1 (wants Q₁ E) s)
  (Cc:∀obj s₁,Q₁ obj s₁→s₁.TypeIs obj T∧argsOk mE ⟨obj::args,kw⟩∧∃Si,Meets (Bi ⟨obj::args,kw⟩) Si∧Si A.in1 (wants (fun r s₂=>r=.none∧Q obj s₂) E) s₁) :
  wpAny (model prog w) A (call (.type T) args kw) Q E s:=by
 obtain ⟨c,tl,u_⟩:=ft.mro;have Gd:=ft.made;have v8:=ft.sub;refine wpAny_call (codeAny_of_tree (show wpAny _ _ (callAny (.type T) _) _ _ _ from aL ⟨Code.quiet_builtin _ (by decide +kernel),codeAny_builtin F.entry_type_call ?_⟩))
 rw [Around.under_plain (weight_type_call_type T args kw) (units_type_call_type T args kw)];have h1:=ft.notType;have h2:=ft.canCreate
 repeat (any_goals (first | assumption | wp_step))
 refine lU (nF ft.plain Ca (wpAny_of_eq B_ (g prog w A.in1 _ s h))) fun r s₁ hr=>?_;cases r with
 | error e=>exact hr
 | ok fl=>
  cases fl with
  | ret obj=>
   obtain ⟨hT,ax,Si,gi,Cd⟩:=Cc _ _ hr;have Ge:=ft.init.lookup;have pA:=ft.init.bind obj
   repeat (any_goals (first | assumption | wp_step))
   refine lU (nF ft.init.plain Cb (ft.init.check _ _ _ _ _ _ _ _ hT ax (gi prog w A.in1 _ s₁ Cd))) fun r₂ s₂ r6=>?_;cases r₂ with
   | error e=>exact r6
   | ok Ce=>
    cases Ce with
    | ret r=>
     obtain ⟨rfl,hq⟩:=r6
     repeat (any_goals (first | assumption | wp_step))
    | _=>exact r6.elim
  | _=>exact hr.elim
end
variable {T:String}
theorem Cf{newId:String}{self a:Value}{kw:List (Str×Value)}(hl:typeLookup (.type T) "__init__"=pure (some (.builtin "object.__init__")))(hm:Bind.madeBy (.type T)=pure (some newId))(fK:(some newId != some "object.__new__")=true) :
  Meets (Builtin.«object.__init__» ⟨[self,a],kw⟩) (fun _ R s=>s.TypeIs self T∧R (.ok (.ret .none)) s):=by
 refine Meets.of_wp fun prog w A R s hs=>?_;obtain ⟨hT,hq⟩:=hs
 repeat (any_goals (first | assumption | wp_step))
 exact ⟨_,rfl,hq⟩
theorem Cg(l:Addr)(items:Array Value)(n:Nat)(gC:Option Addr)(sl:Array (Option Value))(t:Tok) :
  Meets (Builtin.«enumerate.__new__» ⟨[.type "enumerate",.ref l],[(Str.ofString "start",.int 1 t)]⟩) (fun _ R s=>s.heap.get? l=some {cls:=.type "tuple",dict:=gC,data:=.seq items n,slots:=sl} ∧
   R (.ok (.ret (.ref (s.heap.push {cls:=.type "tuple_iterator",data:=.fields #[.ref l,.int 0 0]}).objs.size)))
    {s with heap:=(s.heap.push {cls:=.type "tuple_iterator",data:=.fields #[.ref l,.int 0 0]}).push {cls:=.type "enumerate",data:=.fields #[.none,.bool false,.ref s.heap.objs.size,rawInt 1,.none,.none]}}):=
 .of_wp fun prog w A R s h=>by
  obtain ⟨hp,g,d,tk,os⟩:=s;obtain ⟨hl,h⟩:=h;have v8:=sub_enumerate;have hL:Heap.IsTuple (Shared.heap ⟨hp,g,d,tk,os⟩) l items:=⟨_,hl,rfl,n,rfl⟩
  wp_walk using j_ hl
  refine wpAny_stack_any fun st=>aL ?_
  split
  ·rename_i c _ _ _ _ _
   cases (c == Value.type "enumerate")
   ·wp_walk using j_ hl,j9 hL
    exact ⟨_,rfl,h⟩
   ·wp_walk using j_ hl,j9 hL
    exact ⟨_,rfl,h⟩
  ·wp_walk using j_ hl,j9 hL
   exact ⟨_,rfl,h⟩
section
variable {prog:Program} {w:World} {A:Around} {E:ay} {s:Shared}
theorem Ci{l:Addr}{items:Array Value}{t:Tok}{Q:ay}(hL:s.heap.IsTuple l items)
  (h:∀h',IsEnum h' (s.heap.objs.size+1) s.heap.objs.size 1 .none→h'.IsTupleIter s.heap.objs.size l 0→(∀b o,s.heap.get? b=some o→h'.get? b=some o)→Q (.ref (s.heap.objs.size+1)) {s with heap:=h'}) :
  wpAny (model prog w) A (call (.type "enumerate") [.ref l] [(Str.ofString "start",.int 1 t)]) Q E s:=by
 obtain ⟨⟨c,gC,dt,sl⟩,hl,hc,n,hd⟩:=hL
 replace hc:c=.type "tuple":=hc
 replace hd:dt=.seq items n:=hd
 subst hc hd;have ft:=PySem.F.called_enumerate;refine B9 (Q₁:=fun obj s₁=>s₁.TypeIs obj "enumerate"∧Q obj s₁) ft (by kernel_rfl) (by kernel_rfl) PySem.F.entry_enumerate_new PySem.F.entry_object_init (Cg l items n gC sl t) ⟨hl,?_⟩ fun obj s₁ hq=>⟨hq.1,by unfold argsOk;kernel_rfl,_,Cf ft.init.lookup ft.made (by decide),hq.1,rfl,hq.2⟩
 have hz:(s.heap.push {cls:=.type "tuple_iterator",data:=.fields #[.ref l,.int 0 0]}).objs.size=s.heap.objs.size+1:=kh ..;show _∧_;rw [hz];have he:IsEnum ((s.heap.push {cls:=.type "tuple_iterator",data:=.fields #[.ref l,.int 0 0]}).push {cls:=.type "enumerate",data:=.fields #[.none,.bool false,.ref s.heap.objs.size,rawInt 1,.none,.none]}) (s.heap.objs.size+1) s.heap.objs.size 1 .none:=by have:=cu (s.heap.push {cls:=.type "tuple_iterator",data:=.fields #[.ref l,.int 0 0]}) (o:={cls:=.type "enumerate",data:=.fields #[.none,.bool false,.ref s.heap.objs.size,rawInt 1,.none,.none]}) rfl;rw [hz] at this;exact this
 exact ⟨⟨_,he,rfl⟩,h _ he ⟨_,a_ _ (cu _ rfl),rfl,rfl⟩ fun b o x=>a_ _ (a_ _ x)⟩
end
def r9(K:aB)(l:Addr):It:=
  ⟨fun i H=>∃xs x,bE K H l xs∧xs[i]?=some x,
   fun i H v H'=>∃T x,H T=none∧v=.ref T∧H'=upd H T (.tup [.int ((i:Int)+1),x])∧∀xs,bE K H l xs→xs[i]?=some x,
   fun i H=>∃xs,bE K H l xs∧xs.length≤i⟩
variable {K:aB} {pos:Pos} {l:Addr}
theorem Cj{P:Program}{w:World}{elts:List Expr}{k:Nat}{e it:Addr}(wk:e≠it):Turn P w K (.Tuple elts k pos) (r9 K l) [e,it] e
  (fun i h=>(∃old,IsEnum h e it ((i:Int)+1) old)∧h.IsTupleIter it l i) where
 mem:=by simp
 obj:=fun i h st b hb=>by
  obtain ⟨⟨old,he⟩,h1⟩:=st;simp only [cp,f_,gc] at hb;rcases hb with rfl | rfl;·exact ⟨_,he,fun v z=>by cases z⟩
  ·obtain ⟨o,e,c,d⟩:=h1
   exact ⟨o,e,fun v z=>by rw [d] at z;cases z⟩
 keep:=fun i h h' st k=>by obtain ⟨⟨old,he⟩,h1⟩:=st;exact ⟨⟨old,k _ (by simp) _ he⟩,h1.at fun o e=>k _ (by simp) o e⟩
 item:=by
  intro X hP hw hK hc i pins s σ H E I hf st hg;subst hP hw hK;obtain ⟨⟨old,he⟩,h1⟩:=st;obtain ⟨xs,x,eL,hx⟩:=hg;obtain ⟨aj,rv,p,_⟩:=I.tuple eL;obtain ⟨u,hu,ru⟩:=rv.get hx;refine B5 he h1 p (x:=u) (by simpa using hu) wk fun h' g1 g2 g3 g4 g5=>⟨_,rfl,?_⟩
  refine wpAny_letOwnedTupleGo_enum g1 fun gH q1 sb=>?_;have mX:H s.heap.objs.size=none:=I.ax.fresh (aA _);have lt:∀b o,s.heap.get? b=some o→b≠s.heap.objs.size:=fun b o e=>b_ (aX e);have keep:∀b o,b∉[e,it]→s.heap.get? b=some o→gH.get? b=some o:=fun b o nb e=>by simp only [cp,f_,gc,not_or] at nb;exact sb.extBut _ _ nb.1 (g5 b o nb.1 nb.2 e)
  have elt:e≠s.heap.objs.size:=lt _ _ he;have pT:=sb.extBut _ _ elt.symm g3;have fR:∀{b:Addr} {o:HO} (e:H b=some o),upd H s.heap.objs.size (.tup [.int ((i:Int)+1),x]) b=some o:=fun e=>by rw [bt (gf e mX)];exact e
  have ax:bG X.prog X.w (upd H s.heap.objs.size (.tup [.int ((i:Int)+1),x])) gH:=fun b o e=>by
   by_cases hb:b=s.heap.objs.size
   ·subst hb
    rw [aP] at e;cases e;exact ⟨by show 2≤sizeLine;decide,[.int ((i:Int)+1) s.toks,u],.cons ⟨_,rfl⟩ (.cons ru .nil),⟨_,pT,rfl,_,rfl⟩⟩
   ·rw [bt hb] at e
    refine (I.ax b o e).eA (fun c v cy q=>keep c v (fun m=>?_) q) (fun c q=>fR q) fun c xs q=>fR q;have nn:=(hf c m).1;rcases cy with rfl | cy;·rw [nn] at e;cases e
    ·rw [nn] at cy;cases cy
  have u1:Un (bK X.stack) [e,it] H (upd H s.heap.objs.size (.tup [.int ((i:Int)+1),x])) s.heap gH:=
   ⟨fun b o e n _ hx=>keep b o hx e,fun b o e n _ hx=>⟨o.slots,keep b o hx e⟩,fun b o e n hx=>by rw [bt (lt b o e)];exact n,fun b o e hx=>⟨o,keep b o hx e⟩,fun b xs e=>fR e,fun b o u e=>fR e,fun b ps e=>⟨#[],by rw [fR e];simp⟩⟩
  refine ⟨.ref s.heap.objs.size,upd H s.heap.objs.size (.tup [.int ((i:Int)+1),x]),I.iF (s':={s with heap:=gH,toks:=s.toks+1}) (ch:=[e,it]) rfl u1 ax I.bare (fun b hb=>?_),rfl,⟨_,x,mX,rfl,rfl,fun as ha=>by rw [I.nY ha eL];exact hx⟩,?_,fun b hb=>?_⟩
  ·obtain ⟨f0,f1,f2,f3,f4,f5⟩:=hf b hb
   exact ⟨f3,f1,f4,f5⟩
  ·refine ⟨⟨u,?_⟩,g2.extBut sb.extBut wk.symm⟩
   have z:((i+1:Nat):Int)+1=(i:Int)+1+1:=by omega
   rw [z];exact q1
  ·have nb:b≠s.heap.objs.size:=by
    simp only [cp,f_,gc] at hb;rcases hb with rfl | rfl;·exact lt _ _ he
    ·obtain ⟨o,e,_⟩:=h1;exact lt _ _ e
   rw [bt nb];exact (hf b hb).1
 done:=by
  intro X hP hw hK hc i pins s σ H E I hf st hg;subst hP hw hK;obtain ⟨⟨old,he⟩,h1⟩:=st;obtain ⟨xs,eL,hx⟩:=hg;obtain ⟨aj,rv,p,_⟩:=I.tuple eL;have hl:=rv.length;refine B6 (I.ok.hd hc) he h1 p (by simp;omega) fun h' g=>⟨rfl,?_⟩
  have keep:∀b o,b∉[e,it]→s.heap.get? b=some o→h'.get? b=some o:=fun b o nb e=>by simp only [cp,f_,gc,not_or] at nb;exact g b o nb.2 e
  have ax:bG X.prog X.w H h':=fun b o e=>by
   refine (I.ax b o e).eA (fun c v cy q=>keep c v (fun m=>?_) q) (fun c q=>q) fun c xs q=>q;have nn:=(hf c m).1;rcases cy with rfl | cy;·rw [nn] at e;cases e
   ·rw [nn] at cy;cases cy
  have u1:Un (bK X.stack) [e,it] H H s.heap h':=
   ⟨fun b o e n _ hx=>keep b o hx e,fun b o e n _ hx=>⟨o.slots,keep b o hx e⟩,fun b o e n hx=>n,fun b o e hx=>⟨o,keep b o hx e⟩,fun b xs e=>e,fun b o u e=>e,fun b ps e=>⟨#[],by rw [e];simp⟩⟩
  refine I.iF (s':={s with heap:=h'}) (ch:=[e,it]) rfl u1 ax I.bare fun b hb=>?_;obtain ⟨f0,f1,f2,f3,f4,f5⟩:=hf b hb;exact ⟨f3,f1,f4,f5⟩
 self:=fun _ _ _ _ _ st h=>by obtain ⟨⟨old,he⟩,_⟩:=st;exact wpAny_pyIter_enum he h
theorem Ck{M:Model}{A:Around}{E:ay}{s:Shared}{env:Env}{e:Expr}{iM:List Keyword}{Q:ay}
  (h:wpAny M A (spliced (backTo pos (starEach [e] env))) (fun vs s₁=>wpAny M A (evalAll ((backToKw pos (keywordEach iM env)).map (·.2))) (fun bR s₂=>wpAny M A (call (.type T) vs (((backToKw pos (keywordEach iM env)).filterMap (·.1)).zip bR)) Q E s₂) E s₁) E s)
  (he:backTo pos (starEach [e] env)=[(false,eval e env)]) (qS:(backToKw pos (keywordEach iM env)).all (·.1.isSome)=true) (Cm:(backToKw pos (keywordEach iM env)).any (·.1.isNone)=false) :
  wpAny M A (callWith pos (.type T) [] (backTo pos (starEach [e] env)) (backToKw pos (keywordEach iM env))) Q E s:=by
 unfold callWith;rw [he] at h ⊢;have h':wpAny M A (evalArgs (.type T) true [(false,eval e env)] (backToKw pos (keywordEach iM env))) (fun a s₁=>wpAny M A (call (.type T) ([]++a.pos) a.kw) Q E s₁) E s:=evalArgs_kwB qS h;refine ak (gO (bq h' (fun a s₁ h₁=>ak (lR ?_)) fun _ _ x=>x));simp only [Cm,List.any_cons,List.any_nil,Bool.or_false];exact ak (aL (ak (bq h₁ (fun r s₂ hr=>ak (gO (wpAny_point (aL hr)))) fun _ _ x=>x)))
def Cn(K:aB)(ta:TA)(td:TE):TI:=fun σ H R=>ta σ H fun vs H1=>td σ H1 fun y H2=>∃l,vs=[.ref l]∧y=.int 1∧(∃xs,bE K H2 l xs)∧R (r9 K l) H2
section
variable {X:Cx}
theorem Co{elts:List Expr}{k:Nat}{kq:Pos}{a de:Expr}{ta:TA}{td:TE}{p Cp:Pos}(hg:Gl X "enumerate")(hm:X.mg "enumerate"=none)(ha:PA X [a] ta)(hd:PE X de td)(he:backTo pos (starEach [a] X.env)=[(false,eval a X.env)]:=by rfl) :
  PI X (.Tuple elts k kq) (.Call (.Name "enumerate" p) [a] [⟨some (Str.ofString "start"),de,Cp⟩] pos) (Cn X.K ta td):=by
 intro pins s σ H R I h
 refine nB (jd I hg hm boot_enumerate ?_)
 refine Ck (aE (ha pos pins s σ H _ I h) fun us s1 ⟨vs,H1,I1,r1,q1⟩=>?_) he rfl rfl
 show wpAny _ _ (evalAll [(do let v ←eval de X.env;standAt pos;pure v)]) _ _ s1
 refine wpAny_evalAll_cons (ak (aE (hd pins s1 σ H1 _ I1 q1) fun u s2 ⟨y,H2,I2,r2,q2⟩=>ak (lR (aL (wpAny_evalAll_nil ?_)))))
 obtain ⟨l,rfl,rfl,⟨xs,eL⟩,q⟩:=q2
 obtain ⟨u',rfl,ru⟩:=vals1 r1
 cases ru
 obtain ⟨Cq,rfl⟩:=r2
 obtain ⟨aj,rv,p1,_⟩:=I2.tuple eL
 show wpAny _ _ (call (.type "enumerate") [.ref l] [(Str.ofString "start",.int 1 Cq)]) _ _ s2
 refine Ci (items:=aj.toArray) p1 fun h' z1 z2 z4=>?_
 refine wpAny_pyIter_enum (s:={s2 with heap:=h'}) z1 ?_
 refine ⟨_,_,_,_,H2,rfl,I2.kept (t':=s2.toks) z4,Cj (Nat.succ_ne_self _),⟨⟨_,z1⟩,z2⟩,fun b hb=>?_,q⟩
 have le:s2.heap.objs.size≤b:=by
  simp only [cp,f_,gc] at hb
  rcases hb with rfl | rfl
  ·exact l_ ..
  ·exact aA _
 exact I2.n5 le (I2.ax.fresh le)
end
open PySem PySem.Spec PyProof.Rows My
theorem Cr{xs:List V}{H1:Hp}(h:H1 l=some (.tup xs)):ra (r9 K l) ((List.range xs.length).zip xs |>.map fun p=>(V.int ((p.1:Int)+1),p.2)) H1 where
 go:=fun i Hc s hi=>by
  have hi:i<xs.length:=by simpa using hi
  exact ⟨xs,xs[i],.of (s _ _ h),by simp [hi]⟩
 da:=fun i Hc v H' s y=>by
  obtain ⟨T,x,nT,e1,e2,e3⟩:=y;refine ⟨T,.int ((i:Int)+1),x,e1,nT,e2,fun hi=>?_⟩;have hi:i<xs.length:=by simpa using hi
  have:=e3 xs (.of (s _ _ h));rw [dP,(qj (z:=(i,x))).mpr ⟨ma hi,this⟩];rfl
 stop:=fun i Hc s hi=>by
  have hi:xs.length≤i:=by simpa using hi
  exact ⟨xs,.of (s _ _ h),hi⟩
end L2
namespace My
open PySem L2
def Cs:Sp:=fun vs H Q _=>∃z:Int,vs=[.int z]∧Q (.bl (decide (1≤z∧z≤60))) H
def Ct:Sp:=fun vs H Q _=>∃(ta:Addr) (as:List Nat),vs=[.ref ta]∧H ta=some (.tup (as.map fun k:Nat=>V.int (k:Int)))∧(aK.tree as).ok∧∀H',au H H'→Q (.bl true) H'
def Cu:Sp:=fun vs H Q _=>∃(td:Addr) (N:aK),vs=[.ref td]∧ToldN H td N∧N.ok∧∀H',au H H'→Q (.bl true) H'
def Cv:Sp:=fun vs H Q _=>∃(td:Addr) (N:aK),vs=[.ref td]∧ToldN H td N∧N.ok∧Q (.int (N.sz:Int)) H
def Cw:Sp:=fun vs H Q _=>∃(td:Addr) (N:aK) (i j:Nat),vs=[.ref td,.int (i:Int),.int (j:Int)]∧ToldN H td N∧N.ok∧i<j∧j<N.sz∧Q (.bl (N.lk i j)) H
def wm:Sp:=fun vs H Q _=>∃(td:Addr) (N:aK),vs=[.ref td]∧ToldN H td N∧N.ok∧N.iY∧∀(t:Addr) (H':Hp),au H H'→ir H' t N.sz (cC N)→Q (.ref t) H'
def dy(H:Hp)(T:Addr):Prop:=∃x:Int,H T=some (.lst [.int x])
def bM(T:Addr)(H H':Hp):Prop:=∀b o,b≠T→H b=some o→H' b=some o
variable {T:Addr} {H H1:Hp}
theorem bM.trans{H2:Hp}(a:bM T H H1)(b:bM T H1 H2):bM T H H2:=fun c o n e=>b c o n (a c o n e)
theorem bM.of(a:au H H1):bM T H H1:=fun c o _ e=>a c o e
theorem bM.upd{o:HO}:bM T H (L2.upd H T o):=fun c u n e=>(bt n).trans e
theorem dy.mono(h:dy H T)(a:au H H1):dy H1 T:=let ⟨x,e⟩:=h;⟨x,a _ _ e⟩
theorem dy.ne{b:Addr}(h:dy H T)(n:H b=none):b≠T:=fun z=>by obtain ⟨x,e⟩:=h;rw [z,e] at n;cases n
def Cy(K:aB):Sp:=fun vs H Q _=>∃(a:Addr) (ns:List Int) (k:Nat),vs=[.ref a,.int (k:Int)]∧b7 K H a (ns.map V.int)∧∀z:Int,Q (.int z) H
def Cz(K:aB):Sp:=fun vs H Q _=>∃(a:Addr) (ns:List Int) (k:Nat),vs=[.ref a,.int (k:Int)]∧b7 K H a (ns.map V.int)∧k≤1000∧∀(T:Addr) (H':Hp),au H H'→H T=none→dy H' T→Q (.ref T) H'
def CA:Sp:=fun vs H Q _=>∃(T:Addr) (m:Nat),vs=[.ref T,.int (m:Int)]∧dy H T∧1≤m∧m≤1000∧∀(d:Nat) (H':Hp),d<m→bM T H H'→dy H' T→Q (.int (d:Int)) H'
def CB:Sp:=fun vs H Q _=>∃T:Addr,vs=[.ref T]∧dy H T∧∀(td:Addr) (N:aK) (H':Hp),bM T H H'→ToldN H' td N→N.ok→N.iY→Q (.ref td) H'
def CD:Sp:=fun vs H Q _=>∃(t u:Addr) (n:Nat) (L:c_),vs=[.ref t,.ref u]∧ir H t n L∧ir H u n L∧L.length≤1000∧∀H',au H H'→Q (.bl true) H'
theorem bM.refl(T:Addr)(H:Hp):bM T H H:=fun _ _ _ e=>e
theorem CF{wi:TI}{ρ:St→St}{te:TE}{σ:St}{Q:VK}{n:Nat}(hn:n<sizeLine)(hT:dy H T)(dr:∀R:It→Hp→Prop,R (gm 0 n) H→wi σ H R)(Pr:Nat→V→Prop)
  (step:∀i:Nat,i<n→∀(Hc:Hp) (R:VK),bM T H Hc→dy Hc T→(∀y H3,bM T Hc H3→dy H3 T→Pr i y→R y H3)→te (some (.int (0+(i:Int)))::ρ σ) Hc R)
  (fin:∀(D:Addr) (ys:List V) (Hc:Hp),D≠T→bM T H Hc→dy Hc T→ys.length=n→(∀(i:Nat) (y:V),ys[i]?=some y→Pr i y)→Hc D=some (.lst ys)→Q (.ref D) Hc):fF wi ρ (fun _ H Q=>Q true H) te σ H Q:=by
 refine dr _ ?_;intro D nD;have nP:=hT.ne nD;have up:∀{Hc:Hp} {o:HO},dy Hc T→dy (L2.upd Hc D o) T:=fun⟨x,e⟩=>⟨x,(bt (eR nP)).trans e⟩;have off:∀{Hc:Hp} {o:HO},bM T H Hc→bM T H (L2.upd Hc D o):=fun h b u ne e=>(bt (fun z=>by rw [z,nD] at e;cases e)).trans (h b u ne e)
 refine ⟨fun i m ys Hc=>m=n-i∧i≤n∧Hc D=some (.lst ys)∧bM T H Hc∧dy Hc T∧ys.length=i∧∀j y,ys[j]?=some y→Pr j y,⟨_,rfl,cG _,aP,off (bM.refl T H),up hT,rfl,fun j y e=>by simp at e⟩,?_⟩
 rintro i m ys Hc ⟨rfl,hi,eD,sH,pc,el,hP⟩;refine ⟨eD,?_⟩;by_cases bT:i<n
 ·refine .inr ⟨bT,fun x H' hy=>?_⟩
  obtain ⟨rfl,rfl⟩:=hy;rw [ae rfl];refine step i bT _ _ sH pc fun y H3 s3 p3 hp=>?_;have e3:=s3 _ _ nP eD;refine ⟨e3,by omega,n-(i+1),by omega,rfl,bT,aP,off (sH.trans s3),up p3,by simp [el],fun j y' e=>?_⟩
  by_cases hj:j<i;·exact hP j y' (by rw [fW (by omega)] at e;exact e)
  ·have hj:j=i:=by have:=(cq.mp e).1;simp at this;omega
   subst hj;have e':y'=y:=by rw [fV (by omega),el,lW] at e;simpa using e.symm
   subst e';exact hp
 ·have e:i=n:=by omega
  subst e;exact .inl ⟨aA _,fin D ys Hc nP sH pc el hP eD⟩
end My
namespace L2
open PySem
theorem CG{v:V}{r:List V→Hp→VK→Prop}{te:TE}{σ:St}{H:Hp}{Q:VK}(h:te σ H fun x H1=>r [x] H1 fun y H2=>qH (fun _ H Q=>Q [v,y] H) σ H2 Q):qH (jm (tC v) (jm (oj r (jm te oh)) oh)) σ H Q:=h
end L2
namespace My
open PySem L2
variable {Q:VK} {n:Nat}
theorem pB{wi:TI}{ρ:St→St}{te:TE}{σ:St}{H:Hp}(g:Nat→Int×Int)(hn:n≤500)(dr:∀R:It→Hp→Prop,R (gm 0 n) H→wi σ H R)
  (step:∀i:Nat,i<n→∀(Hc:Hp) (R:VK),au H Hc→(∀b H3,au Hc H3→H3 b=some (.tup [.int (g i).1,.int (g i).2])→R (.ref b) H3)→te (some (.int (0+(i:Int)))::ρ σ) Hc R)
  (fin:∀(D:Addr) (ys:List V) (Hc:Hp),H D=none→au H Hc→Hc D=some (.lst ys)→a8 Hc ys ((List.range n).map g)→Q (.ref D) Hc):fF wi ρ (fun _ H Q=>Q true H) te σ H Q:=by
 have lx:((List.range n).map fun i:Nat=>V.int (0+(i:Int))).length=n:=by simp
 refine AE (xs:=(List.range n).map fun i:Nat=>V.int (0+(i:Int))) (fun R h=>dr R (h _ _ (au.refl _) vi)) (hV (by omega)) (fun _ i y Hz=>∃b:Addr,y=.ref b∧Hz b=some (.tup [.int (g i).1,.int (g i).2])) (fun D i y Ha Hb ys ⟨b,h1,h2⟩ e f=>⟨b,h1,f b _ (fun z=>by rw [z,e] at h2;cases h2) h2⟩) ?_ ?_
 ·intro D i x hx Hc R sc _ kc
  have hi:i<n:=by have:=(cq.mp hx).1;omega
  rw [dP,ma hi] at hx;cases hx;exact step i hi Hc R sc fun b H3 s3 e=>kc _ _ s3 ⟨b,rfl,e⟩
 ·intro D ys Hc nD sc ly hP eD
  refine fin D ys Hc nD sc eD ⟨by rw [ly,lx];simp,fun i v p h1 h2=>?_⟩
  have hi:i<n:=by have:=(cq.mp h1).1;omega
  rw [dP,ma hi] at h2;cases h2;exact hP i v h1
variable {N:aK}
theorem wo:(cC N).Nodup:=(pb (N:=N)).imp fun h e=>by subst e;exact rL h
theorem mZ{K:aB}{Hc:Hp}{fd:Addr}{xs:List V}{M:c_}(ok:N.ok)(fw:N.iY)(ef:Hc fd=some (.lst xs))(hX:a8 Hc xs M)(nd:M.Nodup)(mm:∀z,z∈M↔z∈cC N)
  (kk:∀(lt:Addr) (zs:List V) (Hd:Hp),au Hc Hd→Hd lt=some (.tup zs)→a8 Hd zs (cC N)→Q (.ref lt) Hd) :
  vT [.ref fd] Hc (fun x H2=>∃p ys,[x]=[V.ref p]∧((b7 K H2 p ys∧∀l,H2 l=none→Q (.ref l) (upd H2 l (.tup ys)))∨(bE K H2 p ys∧Q (.ref p) H2))):=by
 have lX:=hX.1;have CH:M.Perm (cC N):=(ql nd wo).mpr mm;have iY:=pd ok fw;have lM:=CH.length_eq;have Gf:=kH ok;have small:∀q∈M,0≤q.2∧q.2<1000:=fun q hq=>by have:=rT q ((mm q).mp hq);omega
 refine ⟨fd,xs,fun i=>(M.getD i (0,0)).1,fun i=>(M.getD i (0,0)).2,rfl,ef,by omega,fun i v hv=>?_,fun p l' hp hu CI=>?_⟩
 ·have hi:i<M.length:=by rw [←lX];exact (cq.mp hv).1
  obtain ⟨b,rfl,eb⟩:=hX.2 i v M[i] hv (by simp [hi])
  dsimp only;rw [getD_at hi];exact ⟨⟨b,rfl,eb⟩,small _ (gU hi)⟩
 ·rw [lX] at hp hu
  obtain ⟨pm,pw⟩:=Bj hp hu nd small;have sl:au Hc (upd Hc l' (.lst (p.toList.map fun i=>xs.getD i .aN))):=a9 CI;have hP:a8 Hc (p.toList.map fun i=>xs.getD i .aN) (p.toList.map fun i=>M.getD i (0,0)):=hX.pick _ fun i hi=>by have:p.toList.Perm (List.range M.length):=l5.mp hp;exact cN.mp (this.mem_iff.mp hi)
  have eN:(p.toList.map fun i=>M.getD i (0,0))=cC N:=vY pw pb fun q=>(pm.mem_iff).trans (mm q);rw [eN] at hP;generalize (p.toList.map fun i=>xs.getD i .aN)=zs at sl hP ⊢;refine ⟨l',zs,rfl,.inl ⟨.of aP,fun lt r_=>?_⟩⟩;have kr:=sl.trans (a9 (o:=.tup zs) r_);exact kk lt zs _ kr aP (hP.mono kr)
def cD(f:Nat→Nat→Bool)(j:Nat):Nat→List (Int×Int)
 | 0=>[]
 | i+1=>cD f j i++if f i j then [((i:Int),(j:Int))] else []
def cf(f:Nat→Nat→Bool):Nat→List (Int×Int)
 | 0=>[]
 | j+1=>cf f j++cD f j j
theorem pC{f:Nat→Nat→Bool}{j:Nat}{z:Int×Int}:∀{k:Nat},z∈cD f j k↔∃i,i<k∧f i j=true∧z=((i:Int),(j:Int))
 | 0=>⟨(fun h=>by cases h),fun⟨i,h,_⟩=>by omega⟩
 | k+1=>by
  show z∈cD f j k++_↔_;rw [fm,pC (k:=k)];constructor
  ·rintro (⟨i,h1,h2,h3⟩ | h)
   ·exact ⟨i,by omega,h2,h3⟩
   ·by_cases q:f k j=true
    ·rw [ae q] at h
     exact ⟨k,by omega,q,iB.mp h⟩
    ·rw [aa q] at h
     cases h
  ·rintro ⟨i,h1,h2,h3⟩
   by_cases q:i<k;·exact .inl ⟨i,q,h2,h3⟩
   ·have:i=k:=by omega
    subst this;rw [ae h2];exact .inr (iB.mpr h3)
theorem sf{f:Nat→Nat→Bool}{z:Int×Int}:∀{k:Nat},z∈cf f k↔∃i j,i<j∧j<k∧f i j=true∧z=((i:Int),(j:Int))
 | 0=>⟨(fun h=>by cases h),fun⟨i,j,_,h,_⟩=>by omega⟩
 | k+1=>by
  show z∈cf f k++_↔_;rw [fm,sf (k:=k),pC];constructor
  ·rintro (⟨i,j,h1,h2,h3⟩ | ⟨i,h1,h2,h3⟩)
   ·exact ⟨i,j,h1,by omega,h3⟩
   ·exact ⟨i,k,h1,by omega,h2,h3⟩
  ·rintro ⟨i,j,h1,h2,h3,h4⟩
   by_cases q:j<k;·exact .inl ⟨i,j,h1,q,h3,h4⟩
   ·have:j=k:=by omega
    subst this;exact .inr ⟨i,h1,h3,h4⟩
theorem wq{f:Nat→Nat→Bool}{j:Nat}:∀k,(cD f j k).Nodup
 | 0=>List.nodup_nil
 | k+1=>by
  show (cD f j k++_).Nodup;refine nU.mpr ⟨wq k,by split <;> simp,fun a ha b hb e=>?_⟩
  obtain ⟨i,h1,_,rfl⟩:=pC.mp ha;by_cases q:f k j=true
  ·rw [ae q,iB] at hb
   rw [hb] at e;have:=bD Prod.fst e;dsimp only at this;omega
  ·rw [aa q] at hb
   cases hb
theorem pD{f:Nat→Nat→Bool}:∀k,(cf f k).Nodup
 | 0=>List.nodup_nil
 | k+1=>by show (cf f k++cD f k k).Nodup;refine nU.mpr ⟨pD k,wq k,fun a ha b hb e=>?_⟩;obtain ⟨i,j,_,h1,_,rfl⟩:=sf.mp ha;obtain ⟨i',_,_,rfl⟩:=pC.mp hb;have:=bD Prod.snd e;dsimp only at this;omega
variable {z:Int×Int}
theorem sh:z∈cf N.lk N.sz↔z∈cC N:=by
 rw [sf];constructor
 ·rintro ⟨i,j,h1,h2,h3,rfl⟩
  exact wc.mpr ⟨h1,h2,h3⟩
 ·intro h
  obtain ⟨i,j,_,h2,h3,h4,e⟩:=mem_of h;exact ⟨i,j,h2,h3,h4,e⟩
theorem wt(ok:N.ok)(fw:N.iY){k i:Nat}(hk:k<N.sz)(hi:i≤k):(cf N.lk k++cD N.lk k i).length≤800:=by
 have h1:∀d,(cD N.lk k i).length≤(cD N.lk k (i+d)).length:=fun d=>by
  induction d with
  | zero=>exact aA _
  | succ d ih=>show _≤(cD N.lk k (i+d)++_).length;rw [dz];omega
 have h2:∀d,(cf N.lk (k+1)).length≤(cf N.lk (k+1+d)).length:=fun d=>by
  induction d with
  | zero=>exact aA _
  | succ d ih=>show _≤(cf N.lk (k+1+d)++_).length;rw [dz];omega
 have a:=h1 (k-i);rw [show i+(k-i)=k by omega] at a
 have b:=h2 (N.sz-(k+1));rw [show k+1+(N.sz-(k+1))=N.sz by omega] at b
 have c:(cf N.lk (k+1)).length=(cf N.lk k).length+(cD N.lk k k).length:=dz;have d:=((ql (pD N.sz) (wo (N:=N))).mpr fun z=>sh).length_eq;have e:=pd ok fw;rw [dz];omega
theorem si:z∈cC N↔∃a b:Nat,z=((a:Int),(b:Int))∧a<b∧b<N.sz∧N.lk a b=true:=by
 constructor
 ·intro h
  obtain ⟨i,j,_,h2,h3,h4,e⟩:=mem_of h;exact ⟨i,j,e,h2,h3,h4⟩
 ·rintro ⟨a,b,rfl,h⟩
  exact wc.mpr h
theorem pE{g:Nat→Int×Int}(inj:∀i j,i<n→j<n→g i=g j→i=j):((List.range n).map g).Nodup:=by refine l8.mpr (List.Pairwise.imp_of_mem (fun{a b} ha hb h e=>h (inj a b (cN.mp ha) (cN.mp hb) e)) List.nodup_range)
def pF(n:Nat):List (Int×Int):=[((0:Int),(n:Int)-1)]++(List.range (n-1)).map fun k:Nat=>((k:Int),(k:Int)+1)
theorem CJ(h:3≤n):(pF n).Nodup∧∀z,z∈pF n↔z∈cC (.ring n):=by
 refine ⟨nU.mpr ⟨by simp,pE fun i j _ _ e=>by have:=bD Prod.fst e;dsimp only at this;omega,fun a ha b hb e=>?_⟩,fun z=>?_⟩
 ·rw [iB.mp ha] at e
  obtain ⟨k,_,rfl⟩:=eT.mp hb;have e1:=bD Prod.fst e;have e2:=bD Prod.snd e;dsimp only at e1 e2;omega
 ·rw [si,pF,fm,iB,eT]
  constructor
  ·rintro (rfl | ⟨k,hk,rfl⟩)
   ·refine ⟨0,n-1,by rw [fz];constructor <;> omega,by omega,by show n-1<n;omega,?_⟩
    show (decide (n-1=0+1) || decide (n-1+1=0+n))=true;rw [aG (show n-1+1=0+n by omega),Bool.or_true]
   ·have hk:=cN.mp hk
    refine ⟨k,k+1,by rw [fz];constructor <;> omega,by omega,by show k+1<n;omega,?_⟩
    show (decide (k+1=k+1) || _)=true;rw [aG rfl,Bool.true_or]
  ·rintro ⟨a,b,rfl,h1,h2,h3⟩
   have h2:b<n:=h2;have h3:(decide (b=a+1) || decide (b+1=a+n))=true:=h3;rw [Bool.or_eq_true,ki,ki] at h3;rcases h3 with h3 | h3;·exact .inr ⟨a,cN.mpr (by omega),by rw [fz];constructor <;> omega⟩
   ·exact .inl (by rw [fz];constructor <;> omega)
def pG(m:Nat):List (Int×Int):=((List.range m).map fun k:Nat=>(2*(k:Int),2*(k:Int)+1))++(List.range (2*m-2)).map fun k:Nat=>((k:Int),(k:Int)+2)
theorem CK{m:Nat}:(pG m).Nodup∧∀z,z∈pG m↔z∈cC (.ee m):=by
 refine ⟨nU.mpr ⟨pE fun i j _ _ e=>by have:=bD Prod.fst e;dsimp only at this;omega,pE fun i j _ _ e=>by have:=bD Prod.fst e;dsimp only at this;omega,fun a ha b hb e=>?_⟩,fun z=>?_⟩
 ·obtain ⟨i,_,rfl⟩:=eT.mp ha
  obtain ⟨k,_,rfl⟩:=eT.mp hb;have e1:=bD Prod.fst e;have e2:=bD Prod.snd e;dsimp only at e1 e2;omega
 ·rw [si,pG,fm,eT,eT]
  constructor
  ·rintro (⟨k,hk,rfl⟩ | ⟨k,hk,rfl⟩)
   ·have hk:=cN.mp hk
    refine ⟨2*k,2*k+1,by rw [fz];constructor <;> omega,by omega,by show 2*k+1<2*m;omega,?_⟩
    show (_ || (decide (2*k+1=2*k+1) && decide (2*k % 2=0)))=true;rw [aG rfl,aG (show 2*k % 2=0 by omega),Bool.and_true,Bool.or_true]
   ·have hk:=cN.mp hk
    refine ⟨k,k+2,by rw [fz];constructor <;> omega,by omega,by show k+2<2*m;omega,?_⟩
    show (decide (k+2=k+2) || _)=true;rw [aG rfl,Bool.true_or]
  ·rintro ⟨a,b,rfl,h1,h2,h3⟩
   have h2:b<2*m:=h2;have h3:(decide (b=a+2) || (decide (b=a+1) && decide (a % 2=0)))=true:=h3;rw [Bool.or_eq_true,i6,ki,ki,ki] at h3;rcases h3 with h3 | ⟨h3,h4⟩;·exact .inr ⟨a,cN.mpr (by omega),by rw [fz];constructor <;> omega⟩
   ·exact .inl ⟨a / 2,cN.mpr (by omega),by rw [fz];constructor <;> omega⟩
def sj(as:List Nat):List (Int×Int):=(List.range as.length).map fun k:Nat=>(((as.getD k 0:Nat):Int),(k:Int)+1)
theorem CL{as:List Nat}(h:∀i,i<as.length→as.getD i 0≤i):(sj as).Nodup∧∀z,z∈sj as↔z∈cC (.tree as):=by
 refine ⟨pE fun i j _ _ e=>by have:=bD Prod.snd e;dsimp only at this;omega,fun z=>?_⟩
 rw [si,sj,eT];constructor
 ·rintro ⟨k,hk,rfl⟩
  have hk:=cN.mp hk;have:=h k hk;refine ⟨as.getD k 0,k+1,by rw [fz];constructor <;> omega,by omega,by show k+1<as.length+1;omega,?_⟩
  show decide (as.getD (k+1-1) 0=as.getD k 0)=true;rw [Nat.add_sub_cancel];exact aG rfl
 ·rintro ⟨a,b,rfl,h1,h2,h3⟩
  have h2:b<as.length+1:=h2;have h3:as.getD (b-1) 0=a:=cR h3;refine ⟨b-1,cN.mpr (by omega),?_⟩
  rw [h3,fz];constructor <;> omega
end My
set_option maxRecDepth 100000
set_option maxHeartbeats 4000000
namespace My
open PySem L2
def top(i:Nat):Stmt:=PySem.Challenge.pw_bandwright_k44_named_shapes.main.body.getD i (.Pass ⟨0,0,0,0⟩)
abbrev pH:Stmt:=top 4
abbrev pI:Stmt:=top 5
abbrev pJ:Stmt:=top 8
abbrev pK:Stmt:=top 9
abbrev pL:Stmt:=top 10
abbrev pM:Stmt:=top 11
abbrev pN:Stmt:=top 13
abbrev pO:Stmt:=top 14
abbrev pP:Stmt:=top 15
abbrev pQ:Stmt:=top 16
abbrev pR:Stmt:=top 17
abbrev pS:Stmt:=top 18
abbrev pU:Stmt:=top 20
abbrev pV:Stmt:=top 21
abbrev pW:Stmt:=top 22
abbrev pX:Stmt:=top 23
abbrev pY:Stmt:=top 24
abbrev pZ:Stmt:=top 25
abbrev p4:Stmt:=top 26
abbrev p5:Stmt:=top 27
set_option genInjectivity false in
set_option genSizeOf false in
structure sk where
 jD:Addr
 kP:FuncData
 jE:Addr
 kS:FuncData
 jF:Addr
 kT:FuncData
 jG:Addr
 kU:FuncData
 jH:Addr
 kW:FuncData
 jI:Addr
 kX:FuncData
 jJ:Addr
 kY:FuncData
 jK:Addr
 kZ:FuncData
 jL:Addr
 k4:FuncData
 jM:Addr
 k6:FuncData
 jN:Addr
 k7:FuncData
 jO:Addr
 k8:FuncData
 jP:Addr
 k9:FuncData
 jQ:Addr
 k_:FuncData
 jR:Addr
 lg:FuncData
 jS:Addr
 lh:FuncData
 jT:Addr
 lp:FuncData
 jU:Addr
 lq:FuncData
 jV:Addr
 lr:FuncData
 iZ:Addr
 jW:FuncData
 lu:Addr
abbrev cF (mg:bQ) (x:Str) (f:Addr):Prop:=mg x=some (.ref f)
abbrev CM (K:aB) (a:Addr):Prop:=PySem.W.excIn K a [.type "ValueError",.type "Exception",.type "BaseException",.type "object"] "ValueError.__new__"=true
structure Txt (K:aB) (mg:bQ) (t:sk):Prop where
 iw:bg K "is_whole" pH t.jD t.kP
 m4:Binds K t.kP ["thing"] []
 m5:cF mg "is_whole" t.jD
 lA:bg K "is_rising" pI t.jE t.kS
 wu:Binds K t.kS ["things"] []
 wx:cF mg "is_rising" t.jE
 ix:bg K "is_place" pJ t.jF t.kT
 m6:Binds K t.kT ["thing","n"] []
 m7:cF mg "is_place" t.jF
 lB:bg K "is_link" pK t.jG t.kU
 wy:Binds K t.kU ["thing","n"] []
 wz:cF mg "is_link" t.jG
 lC:bg K "are_links" pL t.jH t.kW
 wA:Binds K t.kW ["thing","n"] []
 wB:cF mg "are_links" t.jH
 lD:bg K "is_shape" pM t.jI t.kX
 wC:Binds K t.kX ["thing"] []
 wD:cF mg "is_shape" t.jI
 iy:bg K "is_size" pN t.jJ t.kY
 m8:Binds K t.kY ["thing"] []
 m9:cF mg "is_size" t.jJ
 lE:bg K "are_aheads" pO t.jK t.kZ
 wF:Binds K t.kZ ["thing"] []
 wG:cF mg "are_aheads" t.jK
 lF:bg K "is_known" pP t.jL t.k4
 wH:Binds K t.k4 ["told"] []
 wI:cF mg "is_known" t.jL
 lG:bg K "size_of" pQ t.jM t.k6
 wJ:Binds K t.k6 ["told"] []
 wK:cF mg "size_of" t.jM
 lH:bg K "are_linked" pR t.jN t.k7
 wL:Binds K t.k7 ["told","i","j"] []
 wM:cF mg "are_linked" t.jN
 jX:bg K "named" pS t.jO t.k8
 sq:Binds K t.k8 ["told"] []
 sr:cF mg "named" t.jO
 lI:bg K "_law_acell" pU t.jP t.k9
 wN:Binds K t.k9 ["script","k"] []
 wO:cF mg "_law_acell" t.jP
 lJ:bg K "_law_atape" pV t.jQ t.k_
 wQ:Binds K t.k_ ["script","k"] []
 wR:cF mg "_law_atape" t.jQ
 fS:bg K "_law_adigit" pW t.jR t.lg
 jY:Binds K t.lg ["tape","many"] []
 jZ:cF mg "_law_adigit" t.jR
 i3:bg K "_law_awhole" pX t.jS t.lh
 p6:Binds K t.lh ["found"] []
 p7:cF mg "_law_awhole" t.jS
 lK:bg K "_law_aname" pY t.jT t.lp
 wU:Binds K t.lp ["tape"] []
 wV:cF mg "_law_aname" t.jT
 lL:bg K "_law_anamed" pZ t.jU t.lq
 wW:Binds K t.lq ["told"] []
 wX:cF mg "_law_anamed" t.jU
 lN:bg K "_law_ashape_right" p4 t.jV t.lr
 wY:Binds K t.lr ["found","due"] []
 wZ:cF mg "_law_ashape_right" t.jV
 lO:bg K "law" p5 t.iZ t.jW
 CN:Binds K t.jW ["script"] []
 w6:cF mg "law" t.iZ
 w9:cF mg "NoShape" t.lu
 CO:mg "ValueError"=none
 p8:mg "all"=none
 su:mg "bool"=none
 w_:mg "enumerate"=none
 p9:mg "int"=none
 eM:mg "isinstance"=none
 eO:mg "len"=none
 CP:mg "list"=none
 m_:mg "max"=none
 sv:mg "min"=none
 eP:mg "range"=none
 xa:mg "sorted"=none
 fh:mg "tuple"=none
 xb:mg "zip"=none
 sC:∃u,mg "MOST"=some u∧RelV (.int 60) u
 xc:CM K t.lu
section
variable {P:Program} {w:World} {K:aB} {mg:bQ} {base:Heap} {t:sk}
theorem CQ:b4 ["thing"] ["thing"] (bj pH):=cH
theorem p_(T:Txt K mg t):bH P w K mg base b5 1 t.jD t.kP ["thing"] vh:=by
 have S:=CQ;refine T.iw.cU S (fun _ _ _ _ H _ Q _ hr h=>?_);obtain ⟨v,rfl,ha,k⟩:=h;refine ⟨_,(aQ (bb (dh (bz (e7 (K:=K)) rfl T.eM boot_isinstance (af (pv 0) (af (eX (v:=.ty "int") rfl T.p9 boot_int rfl) ar))) (dC (tT (bz (e7 (K:=K)) rfl T.eM boot_isinstance (af (pv 0) (af (eX (v:=.ty "bool") rfl T.su boot_bool rfl) ar)))))))),?_⟩;obtain ⟨Ty,ty,k1,k2,_⟩:=ha.oF (K:=K);refine ⟨_,rfl,_,_,_,_,rfl,rfl,ty,k1,_,rfl,cV (fun h1=>?_) (fun h1=>?_)⟩
 ·refine ⟨_,rfl,_,_,_,_,rfl,rfl,ty,k2,_,rfl,?_⟩
  have e:(!h_ v)=hZ v:=by
   cases h2:h_ v with
   | true=>rw [vg h2];rfl
   | false=>rw [h2,Bool.or_false] at h1;rw [h1];rfl
  show Q (.bl (!h_ v)) H;rw [e];exact k
 ·have e:hZ v=false:=by
   cases h2:hZ v with
   | true=>rw [h2] at h1;exact absurd rfl h1
   | false=>rfl
  rw [e] at k;exact k
theorem CS:b4 ["thing","n"] ["thing","n"] (bj pJ):=cH
theorem qa(T:Txt K mg t):bH P w K mg base b5 2 t.jF t.kT ["thing","n"] Bs:=by
 have S:=CS;refine T.ix.cU S (fun _ _ _ _ H _ _ _ hr h=>?_);obtain ⟨z,n,rfl,k⟩:=h;refine ⟨_,(aQ (bb (dh (bu (p_ T) hr T.m5 T.iw.kp T.m4 bA (af (pv 0) ar)) (dC (qD jl n9 aq (pv 0) (pv 1)))))),?_⟩;refine ⟨_,rfl,.int z,rfl,.int z,true,rfl,bN ?_⟩;refine ⟨_,rfl,0,z,rfl,rfl,_,rfl,cV (fun h1=>?_) (fun h1=>?_)⟩
 ·refine ⟨_,rfl,z,(n:Int),rfl,rfl,?_⟩
  have j4:=cR h1;rw [show decide (0≤z∧z<(n:Int))=decide (z<(n:Int)) by simp [j4]] at k
  exact k
 ·have j4:¬(0≤z):=fun e=>h1 (aG e)
  rw [show decide (0≤z∧z<(n:Int))=false by simp [j4]] at k
  exact k
theorem CT:b4 ["thing"] ["thing"] (bj pN):=cH
theorem qb(T:Txt K mg t):bH P w K mg base b5 2 t.jJ t.kY ["thing"] Cs:=by
 have S:=CT;obtain ⟨uM,hM,rM⟩:=T.sC;refine T.iy.cU S (fun _ _ _ _ H _ _ _ hr h=>?_);obtain ⟨z,rfl,k⟩:=h;refine ⟨_,(aQ (bb (dh (bu (p_ T) hr T.m5 T.iw.kp T.m4 bA (af (pv 0) ar)) (dC (qD jl jl aq (pv 0) (tS (v:=.int 60) rfl hM rM)))))),?_⟩;refine ⟨_,rfl,.int z,rfl,.int z,true,rfl,bN ?_⟩;refine ⟨_,rfl,1,z,rfl,rfl,_,rfl,cV (fun h1=>?_) (fun h1=>?_)⟩
 ·refine ⟨z,60,rfl,rfl,?_⟩
  have j4:=cR h1;rw [show decide (1≤z∧z≤60)=decide (z≤60) by simp [j4]] at k
  exact k
 ·have j4:¬(1≤z):=fun e=>h1 (aG e)
  rw [show decide (1≤z∧z≤60)=false by simp [j4]] at k
  exact k
theorem CU:b4 ["thing"] ["thing"] (bj pO):=cH
theorem CV(T:Txt K mg t):bH P w K mg base b5 3 t.jK t.kZ ["thing"] Ct:=by
 have S:=CU;refine T.lE.cU S (fun _ _ _ _ H vs _ _ hr h=>?_);obtain ⟨ta,as,rfl,eta,ok,kk⟩:=h;obtain ⟨CW,hle⟩:=ok;have lm:(as.map fun k:Nat=>V.int (k:Int)).length=as.length:=b8 _
 refine ⟨_,(aW (bY (PW.pt (pw_or (eE (dU (bz (e7 (K:=K)) rfl T.eM boot_isinstance (af (pv 0) (af (eX (v:=.ty "tuple") rfl T.fh boot_tuple rfl) ar))))) (pw_or1 (eE (dU (bu (qb T) hr T.m9 T.iy.kp T.m8 bA (af (aY dF (bz eZ rfl T.eO eU (af (pv 0) ar)) aq) ar))))))) (aQ (bb gh)) bX)
  (aQ (bb (bz (qY (K:=K) rfl) rfl T.p8 boot_all (af (vw (N:=["place","ahead"]) (ρ:=(fun σ=>[])) (vv [] rfl) rfl (Co rfl T.w_ (af (pv 0) ar) aq) (fun _ _ _=>.nil) (fun _ _ _=>(bu (qa T) hr T.m7 T.ix.kp T.m6 bA (af (pv 1) (af (pv 0) ar))))) ar))))),?_⟩
 refine aw fun _ CY=>⟨_,rfl,_,_,_,_,rfl,rfl,.of (.tup eta),rfl,true,rfl,aC ?_⟩;refine ⟨_,rfl,ta,_,rfl,.inr (.of eta),_,_,rfl,rfl,_,rfl,true,by rw [lm];exact bD V.bl (aG (by omega)),aC ?_⟩
 refine CY _ _ ?_
 try dsimp only [nZ]
 have lz:((List.range (as.map fun k:Nat=>V.int (k:Int)).length).zip (as.map fun k:Nat=>V.int (k:Int)) |>.map fun p=>(V.int ((p.1:Int)+1),p.2)).length=as.length:=by simp
 refine rd (rb (vx (zs:=(List.range (as.map fun k:Nat=>V.int (k:Int)).length).zip (as.map fun k:Nat=>V.int (k:Int)) |>.map fun p=>(V.int ((p.1:Int)+1),p.2)) (fun R h=>⟨_,rfl,ta,rfl,rfl,⟨_,.of eta⟩,h _ _ (au.refl _) (Cr eta)⟩) (hV (by rw [lz];omega)) (fun i v=>v=.bl true) ?_ ?_))
 ·intro i x y qc Hc R sc kR
  have hi:i<as.length:=by have:=(cq.mp qc).1;rw [lz] at this;exact this
  have e:x=.int ((i+1:Nat):Int)∧y=.int ((as[i]:Nat):Int):=by
   have:=(cq.mp qc).2;simp at this;refine ⟨?_,this.2.symm⟩;rw [←this.1]
   congr 1
  obtain ⟨rfl,rfl⟩:=e;have:=hle i hi;rw [gS,fZ hi] at this;have this:as[i]≤i:=this;refine ⟨_,rfl,_,rfl,_,i+1,rfl,kR _ _ (au.refl _) ?_⟩;exact bD V.bl (aG (by omega))
 ·intro D vs Hc sc CZ hP eD
  have ev:vs=(List.replicate as.length true).map V.bl:=by rw [List.map_replicate];exact List.eq_replicate_iff.mpr ⟨by rw [CZ,lz],fun y hy=>by obtain ⟨i,hi⟩:=List.getElem?_of_mem hy;exact hP i y hi⟩
  subst ev;refine ⟨D,_,rfl,.of eD,?_⟩;rw [show (List.replicate as.length true).all id=true from List.all_eq_true.mpr fun x hx=>by rw [List.eq_of_mem_replicate hx];rfl]
  exact kk _ sc
theorem C0:b4 ["told"] ["told"] (bj pP):=cH
theorem C1(T:Txt K mg t):bH P w K mg base b5 4 t.jL t.k4 ["told"] Cu:=by
 have S:=C0;refine T.lF.cU S (fun _ _ _ _ H _ _ _ hr h=>?_);obtain ⟨td,N,rfl,tn,ok,kk⟩:=h
 refine ⟨_,(aW (bY (PW.pt (pw_or (eE (dU (bz (e7 (K:=K)) rfl T.eM boot_isinstance (af (pv 0) (af (eX (v:=.ty "tuple") rfl T.fh boot_tuple rfl) ar))))) (pw_or1 (b3 bV (bz eZ rfl T.eO eU (af (pv 0) ar)) aq)))) (aQ (bb gh)) bX)
  (aW (bY (PW.pt (pw_or (b3 bV (aM aT (pv 0) aq) cg) (pw_or1 (b3 bV (aM aT (pv 0) aq) cg)))) (aQ (bb (dh (dq bV (bz eZ rfl T.eO eU (af (pv 0) ar)) aq) (dh (bu (qb T) hr T.m9 T.iy.kp T.m8 bA (af (aM aT (pv 0) aq) ar)) (dC (bu (qa T) hr T.m7 T.ix.kp T.m6 bA (af (aM aT (pv 0) aq) (af (aM aT (pv 0) aq) ar)))))))) bX)
  (aW (bY (b3 mv (bz eZ rfl T.eO eU (af (pv 0) ar)) aq) (aQ (bb gh)) bX)
  (aW (bY (b3 bV (aM aT (pv 0) aq) cg) (aQ (bb (bu (CV T) hr T.wG T.lE.kp T.wF bA (af (aM aT (pv 0) aq) ar)))) bX)
  (aW (bY (b3 bV (aM aT (pv 0) aq) cg) (aQ (bb (dh (bu (qb T) hr T.m9 T.iy.kp T.m8 bA (af (aM aT (pv 0) aq) ar)) (dC (dq ym (aM aT (pv 0) aq) aq))))) bX)
  (aQ (bb (dh (dq bV (aM aT (pv 0) aq) cg) (dh (bu (p_ T) hr T.m5 T.iw.kp T.m4 bA (af (aM aT (pv 0) aq) ar)) (dC (bu (qb T) hr T.m9 T.iy.kp T.m8 bA (af (aY gs aq (aM aT (pv 0) aq)) ar)))))))))))),?_⟩
 cases N with
 | band n w=>
  have e:H td=some (.tup [sV "band",.int (n:Int),.int (w:Int)]):=tn;obtain ⟨n1,fi,wn⟩:=ok;refine aw fun _ hR=>⟨_,rfl,_,_,_,_,rfl,rfl,.of (.tup e),rfl,true,rfl,aC ⟨_,rfl,td,_,rfl,.inr (.of e),rfl,false,rfl,aC (hR _ _ ?_)⟩⟩;refine aw fun _ hR=>⟨_,rfl,td,_,_,_,rfl,rfl,.of e,rfl,rfl,true,by decide +kernel,bN ?_⟩
  refine ⟨_,rfl,td,_,rfl,.inr (.of e),rfl,true,rfl,bN ?_⟩;refine ⟨_,rfl,td,_,_,_,rfl,rfl,.of e,rfl,(n:Int),rfl,true,bD V.bl (aG (by omega)),bN ?_⟩
  refine ⟨_,rfl,td,_,_,_,rfl,rfl,.of e,rfl,_,rfl,td,_,_,_,rfl,rfl,.of e,rfl,(w:Int),n,rfl,?_⟩;rw [aG (show 0≤(w:Int)∧(w:Int)<(n:Int) by omega)]
  exact kk _ (au.refl _)
 | bU n w=>
  have e:H td=some (.tup [sV "brim",.int (n:Int),.int (w:Int)]):=tn;obtain ⟨n1,fi,wn⟩:=ok;refine aw fun _ hR=>⟨_,rfl,_,_,_,_,rfl,rfl,.of (.tup e),rfl,true,rfl,aC ⟨_,rfl,td,_,rfl,.inr (.of e),rfl,false,rfl,aC (hR _ _ ?_)⟩⟩;refine aw fun _ hR=>⟨_,rfl,td,_,_,_,rfl,rfl,.of e,rfl,rfl,false,by decide +kernel,aC ?_⟩
  refine ⟨_,rfl,td,_,_,_,rfl,rfl,.of e,rfl,rfl,true,by decide +kernel,bN ?_⟩
  refine ⟨_,rfl,td,_,rfl,.inr (.of e),rfl,true,rfl,bN ?_⟩;refine ⟨_,rfl,td,_,_,_,rfl,rfl,.of e,rfl,(n:Int),rfl,true,bD V.bl (aG (by omega)),bN ?_⟩
  refine ⟨_,rfl,td,_,_,_,rfl,rfl,.of e,rfl,_,rfl,td,_,_,_,rfl,rfl,.of e,rfl,(w:Int),n,rfl,?_⟩;rw [aG (show 0≤(w:Int)∧(w:Int)<(n:Int) by omega)]
  exact kk _ (au.refl _)
 | ring n=>
  have e:H td=some (.tup [sV "ring",.int (n:Int)]):=tn;obtain ⟨n3,fi⟩:=ok;refine aw fun _ hR=>⟨_,rfl,_,_,_,_,rfl,rfl,.of (.tup e),rfl,true,rfl,aC ⟨_,rfl,td,_,rfl,.inr (.of e),rfl,false,rfl,aC (hR _ _ ?_)⟩⟩;refine aw fun _ hR=>⟨_,rfl,td,_,_,_,rfl,rfl,.of e,rfl,rfl,false,by decide +kernel,aC ?_⟩
  refine ⟨_,rfl,td,_,_,_,rfl,rfl,.of e,rfl,rfl,false,by decide +kernel,aC (hR _ _ ?_)⟩
  refine aw fun _ hR=>⟨_,rfl,td,_,rfl,.inr (.of e),rfl,false,rfl,aC (hR _ _ ?_)⟩;refine aw fun _ hR=>⟨_,rfl,td,_,_,_,rfl,rfl,.of e,rfl,rfl,false,by decide +kernel,aC (hR _ _ ?_)⟩
  refine aw fun _ hR=>⟨_,rfl,td,_,_,_,rfl,rfl,.of e,rfl,rfl,true,by decide +kernel,bN ?_⟩
  refine ⟨_,rfl,td,_,_,_,rfl,rfl,.of e,rfl,(n:Int),rfl,true,bD V.bl (aG (by omega)),bN ?_⟩
  refine ⟨_,rfl,td,_,_,_,rfl,rfl,.of e,rfl,_,_,rfl,rfl,?_⟩;have g:decide ((n:Int)≥3)=true:=aG (by omega)
  dsimp only;rw [g];exact kk _ (au.refl _)
 | ee m=>
  have e:H td=some (.tup [sV "ladder",.int (m:Int)]):=tn;obtain ⟨n3,fi⟩:=ok;refine aw fun _ hR=>⟨_,rfl,_,_,_,_,rfl,rfl,.of (.tup e),rfl,true,rfl,aC ⟨_,rfl,td,_,rfl,.inr (.of e),rfl,false,rfl,aC (hR _ _ ?_)⟩⟩;refine aw fun _ hR=>⟨_,rfl,td,_,_,_,rfl,rfl,.of e,rfl,rfl,false,by decide +kernel,aC ?_⟩
  refine ⟨_,rfl,td,_,_,_,rfl,rfl,.of e,rfl,rfl,false,by decide +kernel,aC (hR _ _ ?_)⟩
  refine aw fun _ hR=>⟨_,rfl,td,_,rfl,.inr (.of e),rfl,false,rfl,aC (hR _ _ ?_)⟩;refine aw fun _ hR=>⟨_,rfl,td,_,_,_,rfl,rfl,.of e,rfl,rfl,false,by decide +kernel,aC (hR _ _ ?_)⟩
  refine aw fun _ hR=>⟨_,rfl,td,_,_,_,rfl,rfl,.of e,rfl,rfl,false,by decide +kernel,aC (hR _ _ ?_)⟩
  refine ⟨_,rfl,td,_,_,_,rfl,rfl,.of e,rfl,rfl,true,by decide +kernel,bN ?_⟩
  refine ⟨_,rfl,td,_,_,_,rfl,rfl,.of e,rfl,.int (m:Int),rfl,.int _,true,rfl,bN ?_⟩;refine ⟨_,rfl,td,_,_,_,rfl,rfl,.of e,rfl,_,_,rfl,rfl,.inl ⟨by decide,by decide⟩,2*(m:Int),rfl,?_⟩
  rw [aG (show 1≤2*(m:Int)∧2*(m:Int)≤60 by omega)]
  exact kk _ (au.refl _)
 | tree as=>
  obtain ⟨ta,e,eta⟩:=id tn;refine aw fun _ hR=>⟨_,rfl,_,_,_,_,rfl,rfl,.of (.tup e),rfl,true,rfl,aC ⟨_,rfl,td,_,rfl,.inr (.of e),rfl,false,rfl,aC (hR _ _ ?_)⟩⟩;refine aw fun _ hR=>⟨_,rfl,td,_,_,_,rfl,rfl,.of e,rfl,rfl,false,by decide +kernel,aC ?_⟩
  refine ⟨_,rfl,td,_,_,_,rfl,rfl,.of e,rfl,rfl,false,by decide +kernel,aC (hR _ _ ?_)⟩
  refine aw fun _ hR=>⟨_,rfl,td,_,rfl,.inr (.of e),rfl,false,rfl,aC (hR _ _ ?_)⟩;refine aw fun _ hR=>⟨_,rfl,td,_,_,_,rfl,rfl,.of e,rfl,rfl,true,by decide +kernel,bN ?_⟩
  exact ⟨_,rfl,td,_,_,_,rfl,rfl,.of e,rfl,ta,as,rfl,eta,ok,kk⟩
theorem C2:b4 ["told"] ["told"] (bj pQ):=cH
theorem C3(T:Txt K mg t):bH P w K mg base b5 1 t.jM t.k6 ["told"] Cv:=by
 have S:=C2;refine T.lG.cU S (fun _ _ _ _ H _ _ _ hr h=>?_);obtain ⟨td,N,rfl,tn,ok,kk⟩:=h
 refine ⟨_,(aW (bY (b3 bV (aM aT (pv 0) aq) cg) (aQ (bb (aY dF (bz eZ rfl T.eO eU (af (aM aT (pv 0) aq) ar)) aq))) bX)
  (aW (bY (b3 bV (aM aT (pv 0) aq) cg) (aQ (bb (aY gs aq (aM aT (pv 0) aq)))) bX)
  (aQ (bb (aM aT (pv 0) aq))))),?_⟩
 cases N with
 | band n w=>
  have e:H td=some (.tup [sV "band",.int (n:Int),.int (w:Int)]):=tn;refine aw fun _ hR=>⟨_,rfl,td,_,_,_,rfl,rfl,.of e,rfl,rfl,false,by decide +kernel,aC (hR _ _ ?_)⟩
  refine aw fun _ hR=>⟨_,rfl,td,_,_,_,rfl,rfl,.of e,rfl,rfl,false,by decide +kernel,aC (hR _ _ ?_)⟩
  exact ⟨_,rfl,td,_,_,_,rfl,rfl,.of e,rfl,kk⟩
 | bU n w=>
  have e:H td=some (.tup [sV "brim",.int (n:Int),.int (w:Int)]):=tn;refine aw fun _ hR=>⟨_,rfl,td,_,_,_,rfl,rfl,.of e,rfl,rfl,false,by decide +kernel,aC (hR _ _ ?_)⟩
  refine aw fun _ hR=>⟨_,rfl,td,_,_,_,rfl,rfl,.of e,rfl,rfl,false,by decide +kernel,aC (hR _ _ ?_)⟩
  exact ⟨_,rfl,td,_,_,_,rfl,rfl,.of e,rfl,kk⟩
 | ring n=>
  have e:H td=some (.tup [sV "ring",.int (n:Int)]):=tn;refine aw fun _ hR=>⟨_,rfl,td,_,_,_,rfl,rfl,.of e,rfl,rfl,false,by decide +kernel,aC (hR _ _ ?_)⟩
  refine aw fun _ hR=>⟨_,rfl,td,_,_,_,rfl,rfl,.of e,rfl,rfl,false,by decide +kernel,aC (hR _ _ ?_)⟩
  exact ⟨_,rfl,td,_,_,_,rfl,rfl,.of e,rfl,kk⟩
 | ee m=>
  have e:H td=some (.tup [sV "ladder",.int (m:Int)]):=tn;refine aw fun _ hR=>⟨_,rfl,td,_,_,_,rfl,rfl,.of e,rfl,rfl,false,by decide +kernel,aC (hR _ _ ?_)⟩
  refine aw fun _ hR=>⟨_,rfl,td,_,_,_,rfl,rfl,.of e,rfl,rfl,true,by decide +kernel,bN ?_⟩
  refine ⟨_,rfl,td,_,_,_,rfl,rfl,.of e,rfl,_,_,rfl,rfl,.inl ⟨by decide,by decide⟩,?_⟩
  have:((aK.ee m).sz:Int)=2*(m:Int):=by show ((2*m:Nat):Int)=_;omega
  rw [this] at kk;exact kk
 | tree as=>
  obtain ⟨ta,e,eta⟩:=id tn;refine aw fun _ hR=>⟨_,rfl,td,_,_,_,rfl,rfl,.of e,rfl,rfl,true,by decide +kernel,bN ?_⟩
  refine ⟨_,rfl,td,_,_,_,rfl,rfl,.of e,rfl,ta,_,rfl,.inr (.of eta),_,_,rfl,rfl,?_⟩;rw [b8];exact kk
theorem C4:b4 ["told","i","j","apart"] ["told","i","j"] (bj pR):=cH
theorem C5(T:Txt K mg t):bH P w K mg base b5 1 t.jN t.k7 ["told","i","j"] Cw:=by
 have S:=C4;refine T.lH.cU S (fun _ _ _ _ H _ Q _ hr h=>?_);obtain ⟨td,N,i,j,rfl,tn,ok,ij,jn,kk⟩:=h
 refine ⟨_,(aW (putL 3 S.nd (aY fD (pv 2) (pv 1)))
  (aW (bY (b3 bV (aM aT (pv 0) aq) cg) (aQ (bb (dq bV (aM aT (aM aT (pv 0) aq) (aY fD (pv 2) aq)) (pv 1)))) bX)
  (aW (bY (b3 bV (aM aT (pv 0) aq) cg) (aQ (bb (qu (dq bV (pv 3) aq) (dC (dq bV (pv 3) (aY fD (aM aT (pv 0) aq) aq)))))) bX)
  (aW (bY (b3 bV (aM aT (pv 0) aq) cg) (aQ (bb (qu (dq bV (pv 3) aq) (dC (dh (dq bV (pv 3) aq) (dC (dq bV (aY ko (pv 1) aq) aq))))))) bX)
  (aQ (bb (qu (dq jl (pv 3) (aM aT (pv 0) aq)) (dC (dh (dq bV (aM aT (pv 0) aq) cg) (dC (dq bV (pv 2) (aY fD (aM aT (pv 0) aq) aq)))))))))))),?_⟩
 refine aw fun _ hR=>cm ⟨_,rfl,_,rfl,_,_,rfl,rfl,hR _ _ ?_⟩;have fin:∀{b:Bool},N.lk i j=b→Q (.bl b) H:=fun h=>h▸kk;cases N with
 | band n w=>
  have e:H td=some (.tup [sV "band",.int (n:Int),.int (w:Int)]):=tn;refine aw fun _ hR=>⟨_,rfl,td,_,_,_,rfl,rfl,.of e,rfl,rfl,false,by decide +kernel,aC (hR _ _ ?_)⟩
  refine aw fun _ hR=>⟨_,rfl,td,_,_,_,rfl,rfl,.of e,rfl,rfl,false,by decide +kernel,aC (hR _ _ ?_)⟩
  refine aw fun _ hR=>⟨_,rfl,td,_,_,_,rfl,rfl,.of e,rfl,rfl,false,by decide +kernel,aC (hR _ _ ?_)⟩
  refine ⟨_,rfl,_,rfl,td,_,_,_,rfl,rfl,.of e,rfl,_,_,rfl,rfl,_,rfl,cV (fun hb=>?_) (fun hb=>?_)⟩
  ·have hb:=cR hb
   exact fin (aG (by omega))
  ·have hb:¬((j:Int)-(i:Int)≤(w:Int)):=fun z=>hb (aG z)
   exact ⟨_,rfl,td,_,_,_,rfl,rfl,.of e,rfl,rfl,false,by decide +kernel,aC (fin (bp (by omega)))⟩
 | bU n w=>
  have e:H td=some (.tup [sV "brim",.int (n:Int),.int (w:Int)]):=tn;refine aw fun _ hR=>⟨_,rfl,td,_,_,_,rfl,rfl,.of e,rfl,rfl,false,by decide +kernel,aC (hR _ _ ?_)⟩
  refine aw fun _ hR=>⟨_,rfl,td,_,_,_,rfl,rfl,.of e,rfl,rfl,false,by decide +kernel,aC (hR _ _ ?_)⟩
  refine aw fun _ hR=>⟨_,rfl,td,_,_,_,rfl,rfl,.of e,rfl,rfl,false,by decide +kernel,aC (hR _ _ ?_)⟩
  refine ⟨_,rfl,_,rfl,td,_,_,_,rfl,rfl,.of e,rfl,_,_,rfl,rfl,_,rfl,cV (fun hb=>?_) (fun hb=>?_)⟩
  ·have hb:=cR hb
   exact fin (by show (decide (j≤i+w) || _)=true;rw [aG (show j≤i+w by omega)];rfl)
  ·have hb:¬((j:Int)-(i:Int)≤(w:Int)):=fun z=>hb (aG z)
   refine ⟨_,rfl,td,_,_,_,rfl,rfl,.of e,rfl,rfl,true,by decide +kernel,bN ?_⟩
   refine ⟨_,rfl,_,rfl,td,_,_,_,rfl,rfl,.of e,rfl,_,_,rfl,rfl,rfl,fin ?_⟩;show (decide (j≤i+w) || decide (j+1=n))=_;rw [e8,bp (show ¬j≤i+w by omega),kd]
   exact i7.mpr (by omega)
 | ring n=>
  have e:H td=some (.tup [sV "ring",.int (n:Int)]):=tn;refine aw fun _ hR=>⟨_,rfl,td,_,_,_,rfl,rfl,.of e,rfl,rfl,false,by decide +kernel,aC (hR _ _ ?_)⟩
  refine aw fun _ hR=>⟨_,rfl,td,_,_,_,rfl,rfl,.of e,rfl,rfl,true,by decide +kernel,bN ?_⟩
  refine ⟨_,rfl,rfl,_,rfl,cV (fun hb=>?_) (fun hb=>?_)⟩
  ·rw [e8] at hb
   have hb:=cR hb;exact fin (by show (decide (j=i+1) || _)=true;rw [aG (show j=i+1 by omega)];rfl)
  ·have hb:¬((j:Int)-(i:Int)=1):=fun z=>hb (by rw [e8];exact aG z)
   refine ⟨_,rfl,_,rfl,td,_,_,_,rfl,rfl,.of e,rfl,_,_,rfl,rfl,rfl,fin ?_⟩;show (decide (j=i+1) || decide (j+1=i+n))=_;rw [e8,bp (show ¬j=i+1 by omega),kd]
   exact i7.mpr (by omega)
 | ee m=>
  have e:H td=some (.tup [sV "ladder",.int (m:Int)]):=tn;refine aw fun _ hR=>⟨_,rfl,td,_,_,_,rfl,rfl,.of e,rfl,rfl,false,by decide +kernel,aC (hR _ _ ?_)⟩
  refine aw fun _ hR=>⟨_,rfl,td,_,_,_,rfl,rfl,.of e,rfl,rfl,false,by decide +kernel,aC (hR _ _ ?_)⟩
  refine aw fun _ hR=>⟨_,rfl,td,_,_,_,rfl,rfl,.of e,rfl,rfl,true,by decide +kernel,bN ?_⟩
  refine ⟨_,rfl,rfl,_,rfl,cV (fun hb=>?_) (fun hb=>?_)⟩
  ·rw [e8] at hb
   have hb:=cR hb;exact fin (by show (decide (j=i+2) || _)=true;rw [aG (show j=i+2 by omega)];rfl)
  ·have hb:¬((j:Int)-(i:Int)=2):=fun z=>hb (by rw [e8];exact aG z)
   refine ⟨_,rfl,rfl,_,rfl,cV (fun hc=>?_) (fun hc=>?_)⟩
   ·rw [e8] at hc
    have hc:=cR hc;refine ⟨_,rfl,_,_,rfl,rfl,(by decide:(0:Int)<2),rfl,fin ?_⟩
    show (decide (j=i+2) || (decide (j=i+1) && decide (i % 2=0)))=_;rw [e8,bp (show ¬j=i+2 by omega),kd,aG (show j=i+1 by omega),Bool.true_and]
    exact i7.mpr (by omega)
   ·have hc:¬((j:Int)-(i:Int)=1):=fun z=>hc (by rw [e8];exact aG z)
    exact fin (by show (decide (j=i+2) || (decide (j=i+1) && decide (i % 2=0)))=false;rw [bp (show ¬j=i+2 by omega),bp (show ¬j=i+1 by omega)];rfl)
 | tree as=>
  obtain ⟨ta,e,eta⟩:=id tn;have jn:j<as.length+1:=jn;refine aw fun _ hR=>⟨_,rfl,td,_,_,_,rfl,rfl,.of e,rfl,rfl,true,by decide +kernel,bN ?_⟩
  have at':g_ (as.map fun k:Nat=>V.int (k:Int)) ((j:Int)-1)=some (.int ((as.getD (j-1) 0:Nat):Int)):=by
   have hj:j-1<as.length:=by omega
   rw [show (j:Int)-1=((j-1:Nat):Int) by omega,gS,fZ hj]
   exact qM (by rw [dP,fZ hj];rfl)
  refine ⟨_,rfl,td,_,_,_,rfl,rfl,.of e,rfl,_,rfl,_,_,rfl,rfl,ta,_,_,_,rfl,rfl,.of eta,at',_,rfl,rfl,fin ?_⟩;show decide (as.getD (j-1) 0=i)=_;rw [e8];exact i7.mpr (by omega)
theorem C6:b4 ["told","n","links","i"] ["told"] (bj pS):=cH
theorem xf(T:Txt K mg t):bH P w K mg base (gB P w) 5 t.jO t.k8 ["told"] wm:=by
 have S:=C6;refine T.jX.gD S (fun _ _ _ _ H _ _ _ hr h L=>?_);obtain ⟨td,N,rfl,tn,ok,fw,kk⟩:=h
 refine ⟨_,(aW (bY (eE (dU (bu (C1 T) hr T.wI T.lF.kp T.wH bA (af (pv 0) ar)))) (aQ (Ae L rfl PySem.F.excBase_ValueError T.xc rfl T.w9 (af cg ar))) bX)
  (aW (putL 1 S.nd (bu (C3 T) hr T.wK T.lG.kp T.wJ bA (af (pv 0) ar)))
  (aW (putL 2 S.nd (iK ar))
  (aW (jh (Bo L) rfl (gp rfl T.eP (af (pv 1) ar)) (fC (i:=3) S.nd rfl (Or.inr rfl))
   (aQ (tU (uV PySem.F.plainAttrs_list PySem.F.slot_list_extend PySem.F.type_list_extend zM (pv 2) (af (kA (N:=["j","i","told"]) (ρ:=(fun σ=>[σ[3]?.join,σ[0]?.join])) (ju [3,0] rfl) rfl (uc rfl T.eP (af (aY dF (pv 3) aq) (af (pv 1) ar))) (fun _ _ _=>(.one (dU (bu (C5 T) hr T.wM T.lH.kp T.wL bA (af (pv 2) (af (pv 1) (af (pv 0) ar))))))) (fun _ _ _=>(dW (af (pv 1) (af (pv 0) ar))))) ar)))))
  (aQ (bb (dW (af (pv 1) (af (om qQ rfl T.fh boot_tuple (af (pv 2) ar)) ar))))))))),?_⟩
 obtain ⟨n1,fi⟩:=kH ok;have len:=pd ok fw;have fl:∀i,i≤N.sz→(d_ N.sz N.lk i).length≤800:=fun i hi=>by
  have mon:∀k,(d_ N.sz N.lk i).length≤(d_ N.sz N.lk (i+k)).length:=fun k=>by
   induction k with
   | zero=>exact aA _
   | succ k ih=>show _≤(d_ N.sz N.lk (i+k)++fg N.sz N.lk (i+k)).length;rw [dz];omega
  have:=mon (N.sz-i);rw [show i+(N.sz-i)=N.sz by omega] at this
  exact cO this len
 refine aw fun _ hR=>⟨_,rfl,td,N,rfl,tn,ok,fun H1 s1=>⟨true,rfl,aC (hR _ _ ?_)⟩⟩;have eg:=tn.mono s1;refine aw fun _ hR=>cm ⟨_,rfl,td,N,rfl,eg,ok,hR _ _ ?_⟩;refine aw fun _ hR=>cm ⟨by show 0≤sizeLine;decide,fun fd xg=>hR _ _ ?_⟩
 have s2:au H1 (upd H1 fd (.lst [])):=a9 xg;have ef:upd H1 fd (.lst []) fd=some (.lst []):=aP;generalize upd H1 fd (.lst [])=H2 at s2 ef ⊢;have C7:=s1.trans s2;have C8:H fd=none:=none_of s1 xg;have gI:=eg.mono s2;refine aw fun _ hR=>⟨_,rfl,(N.sz:Int),rfl,by omega,by omega,?_⟩
 rw [gQ];refine iI (fun i σ Hc=>∃(us:List V) (v3:Option V),σ=[some (.ref td),some (.int (N.sz:Int)),some (.ref fd),v3]∧au H Hc∧Hc fd=some (.lst us)∧a8 Hc us (d_ N.sz N.lk i)) ⟨[],_,rfl,C7,ef,a8.nil _⟩ ?_ ?_
 ·rintro i σ Hc hi ⟨us,v3,rfl,sc,ng,hL⟩
  have C9:=tn.mono sc;dsimp only [cT];refine ⟨_,rfl,.inl ⟨rfl,_,.of ng⟩,Bk (xs:=(List.range (N.sz-(i+1))).map fun k:Nat=>V.int ((i:Int)+1+(k:Int))) (fun k=>N.lk i (i+1+k)) (fun R h=>⟨_,rfl,_,_,rfl,rfl,_,rfl,_,_,rfl,⟨by omega,by omega,by omega,by omega⟩,h _ ?_⟩) (by rw [b8,l7];exact hV (by omega)) (fun _ k y Hx=>∃b:Addr,y=.ref b∧Hx b=some (.tup [.int (i:Int),.int ((i+1+k:Nat):Int)])) (fun D k y Ha Hb ys ⟨b,h1,h2⟩ e f=>⟨b,h1,f b _ (fun z=>by rw [z,e] at h2;cases h2) h2⟩) ?_ ?_ ?_⟩
  ·rw [show ((N.sz:Int)-(0+(i:Int)+1)).toNat=N.sz-(i+1) by omega,show 0+(i:Int)+1=(i:Int)+1 by omega]
   exact vi
  ·intro k x hx Hd R sd hR
   have hk:k<N.sz-(i+1):=by have:=(cq.mp hx).1;simpa using this
   rw [dP,ma hk] at hx;cases hx;refine ⟨_,rfl,_,rfl,_,rfl,td,N,i,i+1+k,?_,C9.mono sd,ok,by omega,by omega,_,rfl,hR⟩
   show [V.ref td,V.int (0+(i:Int)),V.int ((i:Int)+1+(k:Int))]=_;rw [ey,show ((i+1+k:Nat):Int)=(i:Int)+1+(k:Int) by omega]
  ·intro D k x hx Hd R sd _ kc
   have hk:k<N.sz-(i+1):=by have:=(cq.mp hx).1;simpa using this
   rw [dP,ma hk] at hx;cases hx;refine ⟨_,rfl,_,rfl,by show 2≤sizeLine;decide,fun tp eQ=>?_⟩
   refine kc _ _ (a9 eQ) ⟨tp,rfl,?_⟩;rw [aP,ey,show ((i+1+k:Nat):Int)=(i:Int)+1+(k:Int) by omega]
  ·intro D ys Hd nD sd xh hP eD
   rw [b8,l7] at xh hP;have hR:a8 Hd ys (fg N.sz N.lk i):=⟨by unfold fg;rw [b8];exact xh,fun k v p h1 h2=>by
    unfold fg at h2;rw [dP] at h2;cases e:((List.range (N.sz-(i+1))).filter fun k=>N.lk i (i+1+k))[k]? with
    | none=>rw [e] at h2;cases h2
    | some k'=>rw [e] at h2;cases h2;exact hP k k' v h1 e⟩
   have l1:=hL.1;have l2:=hR.1;have l3:=fl (i+1) (by omega)
   have e3:d_ N.sz N.lk (i+1)=d_ N.sz N.lk i++fg N.sz N.lk i:=rfl;rw [e3,dz] at l3;refine ⟨fd,D,us,ys,rfl,rfl,sd _ _ ng,eD,cO (show _≤2000 by omega) (by decide),us++ys,_,rfl,ic (sc.trans sd) C8,aP,?_⟩
   rw [e3];exact ((hL.mono sd).cat hR).cW (sd _ _ ng) fun b o nb e=>by rw [bt nb];exact e
 ·rintro σ Hc ⟨us,v3,rfl,sc,ng,hL⟩
  refine hR _ _ ?_;refine ⟨_,rfl,_,rfl,fd,us,rfl,.inl ⟨.of ng,fun lt r_=>?_⟩⟩;have sl:au Hc (upd Hc lt (.tup us)):=a9 r_;have el:upd Hc lt (.tup us) lt=some (.tup us):=aP;generalize upd Hc lt (.tup us)=Hd at sl el ⊢;refine ⟨by show 2≤sizeLine;decide,fun tp eQ=>?_⟩
  have st:au Hd (upd Hd tp (.tup [.int (N.sz:Int),.ref lt])):=a9 eQ;exact kk tp _ (sc.trans (sl.trans st)) ⟨lt,us,aP,st _ _ el,(hL.mono sl).mono st⟩
theorem C_:b4 ["thing","n"] ["thing","n"] (bj pK):=cH
theorem Dc(T:Txt K mg t):bH P w K mg base b5 3 t.jG t.kU ["thing","n"] BP:=by
 have S:=C_;refine T.lB.cU S (fun _ _ _ _ H _ _ _ hr h=>?_);obtain ⟨b,x,y,n,rfl,eb,k⟩:=h
 refine ⟨_,(aW (bY (PW.pt (pw_or (eE (dU (bz (e7 (K:=K)) rfl T.eM boot_isinstance (af (pv 0) (af (eX (v:=.ty "tuple") rfl T.fh boot_tuple rfl) ar))))) (pw_or1 (b3 mv (bz eZ rfl T.eO eU (af (pv 0) ar)) aq)))) (aQ (bb gh)) bX)
  (aQ (bb (dh (bu (qa T) hr T.m7 T.ix.kp T.m6 bA (af (aM aT (pv 0) aq) (af (pv 1) ar))) (dh (bu (qa T) hr T.m7 T.ix.kp T.m6 bA (af (aM aT (pv 0) aq) (af (pv 1) ar))) (dC (dq n9 (aM aT (pv 0) aq) (aM aT (pv 0) aq)))))))),?_⟩
 refine vk ⟨_,rfl,_,_,_,true,rfl,rfl,.of (.tup eb),q0,true,rfl,aC ?_⟩;refine ⟨_,rfl,b,_,rfl,.inr (.of eb),rfl,false,rfl,aC ?_⟩;dsimp only [nZ];refine ⟨_,rfl,b,_,_,_,rfl,rfl,.of eb,rfl,_,rfl,x,n,rfl,_,rfl,cV (fun h1=>?_) (fun h1=>?_)⟩
 ·rw [h1,Bool.true_and] at k
  refine ⟨_,rfl,b,_,_,_,rfl,rfl,.of eb,rfl,_,rfl,y,n,rfl,_,rfl,cV (fun h2=>?_) (fun h2=>?_)⟩
  ·rw [h2,Bool.true_and] at k
   exact ⟨_,rfl,b,_,_,_,rfl,rfl,.of eb,rfl,_,rfl,b,_,_,_,rfl,rfl,.of eb,rfl,x,y,rfl,rfl,k⟩
  ·rw [nG.mpr h2,Bool.false_and] at k
   exact k
 ·rw [nG.mpr h1,Bool.false_and] at k
  exact k
theorem Dd:b4 ["things"] ["things"] (bj pI):=cH
theorem De(T:Txt K mg t):bH P w K mg base b5 1 t.jE t.kS ["things"] BQ:=by
 have S:=Dd;refine T.lA.cU S (fun _ _ _ _ H vs _ _ hr h=>?_);obtain ⟨lt,us,L,rfl,elt,hL,l1,pw,k⟩:=h;have Df:=hr.yv;refine ⟨_,(aQ (bb (bz (qY (K:=K) rfl) rfl T.p8 boot_all (af (vw (N:=["one","other"]) (ρ:=(fun σ=>[])) (vv [] rfl) rfl (BK rfl T.xb (af (pv 0) (af (y9 BN (pv 0) (y7 aq) y6) ar))) (fun _ _ _=>.nil) (fun _ _ _=>(dq (BO (K:=K) Df) (pv 0) (pv 1)))) ar)))),?_⟩;refine rd (rb (vx (zs:=us.zip (us.drop 1)) (fun R h=>?_) (hV (by rw [List.length_zip,hL.1];omega)) (fun _ v=>v=.bl true) ?_ ?_))
 ·refine ⟨_,rfl,_,rfl,1,rfl,lt,us,rfl,.of elt,fun p H' hp=>?_⟩
  rw [BV] at hp;rcases hp with ⟨rfl,rfl,e⟩ | ⟨np,rfl⟩
  ·refine ⟨p,p,rfl,⟨_,.of elt⟩,⟨_,.of elt⟩,h _ _ (au.refl _) ?_⟩
   rw [e];exact wa elt elt
  ·have el:=a9 np (o:=.tup (us.drop 1)) _ _ elt
   exact ⟨lt,p,rfl,⟨_,.of el⟩,⟨_,.of aP⟩,h _ _ (a9 np) (wa el aP)⟩
 ·intro i x y qc Hc R sc kR
  obtain ⟨hx,hy⟩:=qj.mp qc;rw [List.getElem?_drop] at hy;have xi:us[i+1]?=some y:=by rw [Nat.add_comm];exact hy
  have i1:i+1<L.length:=by rw [←hL.1];exact (cq.mp xi).1
  obtain ⟨a,rfl,ea⟩:=hL.2 i x L[i] hx (by simp [show i<L.length by omega])
  obtain ⟨b,rfl,eb⟩:=hL.2 (i+1) y L[i+1] xi (by simp [i1])
  have lx:lexLt L[i] L[i+1]:=lZ.mp pw i (i+1) (by omega) i1 (by omega)
  refine ⟨_,rfl,_,rfl,a,b,[L[i].1,L[i].2],[L[i+1].1,L[i+1].2],rfl,rfl,.of (sc _ _ ea),.of (sc _ _ eb),kR _ _ (au.refl _) ?_⟩;rw [BU lx]
 ·intro D vs Hc sc lv hP eD
  refine ⟨D,List.replicate vs.length true,rfl,.of (by rw [eD];exact bD _ (bD _ (vz hP))),?_⟩
  rw [vB];exact k _ sc
theorem Dg:b4 ["thing","n"] ["thing","n"] (bj pL):=cH
theorem Dh(T:Txt K mg t):bH P w K mg base b5 4 t.jH t.kW ["thing","n"] BR:=by
 have S:=Dg;refine T.lC.cU S (fun _ _ _ s H _ _ _ hr h=>?_);obtain ⟨lt,n,us,L,rfl,elt,hL,l1,pw,ok,k⟩:=h;refine ⟨_,(aQ (bb (dh (bz (e7 (K:=K)) rfl T.eM boot_isinstance (af (pv 0) (af (eX (v:=.ty "tuple") rfl T.fh boot_tuple rfl) ar))) (dh (bz (qY (K:=K) rfl) rfl T.p8 boot_all (af (kA (N:=["each","n"]) (ρ:=(fun σ=>[σ[1]?.join])) (ju [1] rfl) rfl (t9 (pv 0)) (fun _ _ _=>.nil) (fun _ _ _=>(bu (Dc T) hr T.wz T.lB.kp T.wy bA (af (pv 0) (af (pv 1) ar))))) ar)) (dC (bu (De T) hr T.wx T.lA.kp T.wu bA (af (pv 0) ar))))))),?_⟩;refine ⟨_,rfl,_,_,_,true,rfl,rfl,.of (.tup elt),q0,true,rfl,bN ?_⟩;refine rb (Av (xs:=us) (fun R h=>⟨_,rfl,lt,rfl,⟨_,.of elt⟩,h _ _ (au.refl _) ⟨fun i Hc s hi=>⟨us,us[i],.of (s _ _ elt),by simp [hi]⟩,fun i Hc x H' s y=>⟨y.1,fun _=>y.2 us (.of (s _ _ elt))⟩,fun i Hc s hi=>⟨us,.of (s _ _ elt),hi⟩⟩⟩) (hV (by rw [hL.1];omega)) (fun _ i y _=>y=.bl true) (fun _ _ _ _ _ _ h _ _=>h) ?_ ?_)
 ·intro D i v hi Hc R sc _ kc
  have i1:i<L.length:=by rw [←hL.1];exact (cq.mp hi).1
  obtain ⟨b,rfl,eb⟩:=hL.2 i v L[i] hi (by simp [i1])
  have o:=ok L[i] (gU _);refine ⟨_,rfl,_,rfl,b,L[i].1,L[i].2,n,rfl,sc _ _ eb,kc _ Hc (au.refl _) ?_⟩;rw [aG (show 0≤L[i].1∧L[i].1<(n:Int) by omega),aG (show 0≤L[i].2∧L[i].2<(n:Int) by omega),aG o.2.1]
  rfl
 ·intro D ys Hc sc Gg hP eD
  refine ⟨D,List.replicate ys.length true,rfl,.of (by rw [eD];exact bD _ (bD _ (vz hP))),?_⟩
  rw [vB];refine ⟨true,rfl,bN ?_⟩;exact ⟨_,rfl,lt,us,L,rfl,sc _ _ elt,hL.mono sc,l1,pw,fun H' s'=>k _ (sc.trans s')⟩
theorem Di:b4 ["thing"] ["thing"] (bj pM):=cH
theorem Dj(T:Txt K mg t):bH P w K mg base b5 5 t.jI t.kX ["thing"] BS:=by
 have S:=Di;obtain ⟨uM,hM,rM⟩:=T.sC;refine T.lD.cU S (fun _ _ _ _ H _ _ _ hr h=>?_);obtain ⟨tp,n,L,rfl,⟨lt,us,fj,elt,hL⟩,l1,pw,ok,n1,fi,k⟩:=h
 refine ⟨_,(aW (bY (PW.pt (pw_or (eE (dU (bz (e7 (K:=K)) rfl T.eM boot_isinstance (af (pv 0) (af (eX (v:=.ty "tuple") rfl T.fh boot_tuple rfl) ar))))) (pw_or1 (b3 mv (bz eZ rfl T.eO eU (af (pv 0) ar)) aq)))) (aQ (bb gh)) bX)
  (aQ (bb (dh (bu (p_ T) hr T.m5 T.iw.kp T.m4 bA (af (aM aT (pv 0) aq) ar)) (dh (qD jl jl aq (aM aT (pv 0) aq) (tS (v:=.int 60) rfl hM rM)) (dC (bu (Dh T) hr T.wB T.lC.kp T.wA bA (af (aM aT (pv 0) aq) (af (aM aT (pv 0) aq) ar))))))))),?_⟩
 refine vk ⟨_,rfl,_,_,_,true,rfl,rfl,.of (.tup fj),q0,true,rfl,aC ?_⟩;refine ⟨_,rfl,tp,_,rfl,.inr (.of fj),rfl,false,rfl,aC ?_⟩;dsimp only [nZ];refine ⟨_,rfl,tp,_,_,_,rfl,rfl,.of fj,rfl,.int (n:Int),rfl,.int _,true,rfl,bN ?_⟩;refine ⟨_,rfl,tp,_,_,_,rfl,rfl,.of fj,rfl,1,(n:Int),rfl,rfl,true,bD V.bl (aG (by omega)),bN ?_⟩
 refine ⟨(n:Int),60,rfl,rfl,true,bD V.bl (aG (by omega)),bN ?_⟩
 exact ⟨_,rfl,tp,_,_,_,rfl,rfl,.of fj,rfl,_,rfl,tp,_,_,_,rfl,rfl,.of fj,rfl,lt,n,us,L,rfl,elt,hL,l1,pw,ok,k⟩
theorem Dk:b4 ["script","k"] ["script","k"] (bj pU):=cH
theorem Dl(T:Txt K mg t):bH P w K mg base b5 1 t.jP t.k9 ["script","k"] (Cy K):=by
 have S:=Dk;refine T.lI.cU S (fun _ _ _ _ H _ _ _ hr h=>?_);obtain ⟨a,ns,k,rfl,hS,kk⟩:=h
 refine ⟨_,(aW (bY (b3 n9 (pv 1) (bz eZ rfl T.eO eU (af (pv 0) ar))) (aQ (bb (aM ky (pv 0) (pv 1)))) bX)
  (aQ (bb aq))),?_⟩
 refine aw fun _ hR=>⟨_,rfl,_,rfl,a,_,rfl,.inl hS,_,_,rfl,rfl,_,rfl,cV (fun hb=>?_) (fun hb=>hR _ _ (kk 0))⟩;have hb:=cR hb;rw [b8] at hb;have hk:k<ns.length:=by omega
 exact ⟨_,rfl,_,rfl,a,_,_,_,rfl,rfl,hS,qM (by rw [dP,fZ hk];rfl),kk _⟩
theorem Dm:b4 ["found"] ["found"] (bj pX):=cH
theorem sD(T:Txt K mg t):bH P w K mg base b5 1 t.jS t.lh ["found"] vh:=by
 have S:=Dm;refine T.i3.cU S (fun _ _ _ _ H _ Q _ hr h=>?_);obtain ⟨v,rfl,ha,k⟩:=h;refine ⟨_,(aQ (bb (dh (bz (e7 (K:=K)) rfl T.eM boot_isinstance (af (pv 0) (af (eX (v:=.ty "int") rfl T.p9 boot_int rfl) ar))) (dC (tT (bz (e7 (K:=K)) rfl T.eM boot_isinstance (af (pv 0) (af (eX (v:=.ty "bool") rfl T.su boot_bool rfl) ar)))))))),?_⟩;obtain ⟨Ty,ty,k1,k2,_⟩:=ha.oF (K:=K);refine ⟨_,rfl,_,_,_,_,rfl,rfl,ty,k1,_,rfl,cV (fun h1=>?_) (fun h1=>?_)⟩
 ·refine ⟨_,rfl,_,_,_,_,rfl,rfl,ty,k2,_,rfl,?_⟩
  have e:(!h_ v)=hZ v:=by
   cases h2:h_ v with
   | true=>rw [vg h2];rfl
   | false=>rw [h2,Bool.or_false] at h1;rw [h1];rfl
  show Q (.bl (!h_ v)) H;rw [e];exact k
 ·have e:hZ v=false:=by
   cases h2:hZ v with
   | true=>rw [h2] at h1;exact absurd rfl h1
   | false=>rfl
  rw [e] at k;exact k
theorem Dn:b4 ["tape","many","found"] ["tape","many"] (bj pW):=cH
theorem Dp(T:Txt K mg t):bH P w K mg base b5 1 t.jR t.lg ["tape","many"] CA:=by
 have S:=Dn;refine T.fS.cU S (fun _ _ _ _ H _ _ _ hr h=>?_);obtain ⟨Tp,m,rfl,⟨x,e⟩,m1,m2,kk⟩:=h
 refine ⟨_,(aW (putL 2 S.nd (aY ko (aM ky (pv 0) aq) (pv 1)))
  (aW (@x9 _ _ _ _ _ _ (aY qC (aM ky (pv 0) aq) (pv 1)) (x8 (pv 0) aq set_list) (by rfl) (by rfl) (by rfl))
  (aQ (bb (pv 2))))),?_⟩
 have p0:(0:Int)<(m:Int):=by omega
 refine aw fun _ hR=>cm ⟨_,rfl,Tp,_,_,_,rfl,rfl,.of e,rfl,_,rfl,_,_,rfl,rfl,p0,hR _ _ ?_⟩;refine aw fun _ hR=>⟨_,rfl,Tp,_,_,_,rfl,rfl,.of e,rfl,_,rfl,_,_,rfl,rfl,⟨p0,by omega⟩,_,rfl,Tp,_,0,0,rfl,rfl,e,rfl,hR _ _ ?_⟩
 have d0:=Int.emod_nonneg x (show (m:Int)≠0 by omega)
 have d1:=Int.emod_lt_of_pos x p0;obtain ⟨d,ed⟩:=Int.eq_ofNat_of_zero_le d0;refine ⟨_,rfl,?_⟩;dsimp only;rw [ed];exact kk d _ (by omega) bM.upd ⟨_,aP⟩
theorem Dq:b4 ["script","k","cell","p","number","last","turn"] ["script","k"] (bj pV):=cH
theorem Dr(T:Txt K mg t):bH P w K mg base b5 2 t.jQ t.k_ ["script","k"] (Cz K):=by
 have S:=Dq;refine T.lJ.cU S (fun _ _ _ _ H _ _ _ hr h=>?_);obtain ⟨a,ns,k,rfl,hS,k1,kk⟩:=h
 refine ⟨_,(aW (putL 2 S.nd (bu (Dl T) hr T.wO T.lI.kp T.wN bA (af (pv 0) (af (pv 1) ar))))
  (aW (bY (b3 bV (aY ko (pv 2) aq) aq) (aQ (bb (iK (af (aY qC (pv 2) aq) ar)))) bX)
  (aW (putL 3 S.nd aq)
  (aW (putL 4 S.nd aq)
  (aW (putL 5 S.nd (aY ko (aY dF (aY dF (aY gs (aY ko (pv 2) (pv 3)) aq) (aY gs aq (pv 1))) aq) (pv 3)))
  (aW (jh kj rfl (gp rfl T.eP (af aq ar)) (fC (i:=6) S.nd rfl (Or.inl rfl))
   (aW (putL 4 S.nd (aY dF (aY gs (pv 4) (pv 3)) (pv 5)))
  (aQ (putL 5 S.nd (aY ko (aY dF (aY dF (aY gs (pv 5) (pv 5)) (aY gs aq (pv 1))) (pv 6)) (pv 3))))))
  (aQ (bb (iK (af (pv 4) ar)))))))))),?_⟩
 have p2:(0:Int)<2:=by decide
 have pp:(0:Int)<2305843009213693951:=by decide
 refine aw fun _ hR=>cm ⟨_,rfl,_,rfl,a,ns,k,rfl,hS,fun z=>hR _ _ ?_⟩;refine aw fun _ hR=>⟨_,rfl,_,_,rfl,rfl,p2,rfl,_,rfl,cV (fun hb=>?_) (fun hb=>hR _ _ ?_)⟩
 ·refine ⟨_,rfl,_,_,rfl,rfl,⟨p2,by decide⟩,by show 1≤sizeLine;decide,fun Tp nh=>?_⟩
  exact kk Tp _ (a9 nh) nh ⟨_,aP⟩
 ·refine aw fun _ hR=>cm (hR _ _ ?_)
  refine aw fun _ hR=>cm (hR _ _ ?_);refine aw fun _ hR=>cm ⟨_,rfl,_,rfl,_,_,rfl,rfl,pp,_,_,rfl,rfl,.inr ⟨by decide,by decide⟩,_,rfl,_,_,rfl,rfl,.inl ⟨by decide,by decide⟩,_,_,rfl,rfl,_,_,rfl,rfl,_,rfl,_,_,rfl,rfl,pp,hR _ _ ?_⟩
  have l0:=Int.emod_nonneg (z % 2305843009213693951*48271+69621*(k:Int)+11) (show (2305843009213693951:Int)≠0 by decide)
  have l1:=Int.emod_lt_of_pos (z % 2305843009213693951*48271+69621*(k:Int)+11) pp;dsimp only;generalize (z % 2305843009213693951*48271+69621*(k:Int)+11) % 2305843009213693951=la at l0 l1 ⊢;refine aw fun _ hR=>⟨7,rfl,by decide,by decide,?_⟩
  refine iI (fun i σ Hc=>Hc=H∧∃(nu la:Int) (v6:Option V),σ=[some (.ref a),some (.int (k:Int)),some (.int z),some (.int 2305843009213693951),some (.int nu),some (.int la),v6]∧0≤la∧la<2305843009213693951) ⟨rfl,_,_,_,rfl,l0,l1⟩ ?_ ?_
  ·rintro i σ Hc hi ⟨rfl,nu,la,v6,rfl,l0,l1⟩
   dsimp only [cT];refine aw fun _ hR=>cm ⟨_,rfl,_,rfl,_,_,rfl,rfl,.inr ⟨by decide,by decide⟩,_,rfl,_,_,rfl,rfl,hR _ _ ?_⟩
   refine ⟨_,rfl,_,rfl,_,_,rfl,rfl,.inl ⟨by omega,by omega⟩,_,rfl,_,_,rfl,rfl,.inl ⟨by decide,by decide⟩,_,_,rfl,rfl,_,rfl,_,_,rfl,rfl,_,rfl,_,_,rfl,rfl,pp,?_⟩
   refine ⟨rfl,_,_,_,rfl,?_,?_⟩;·exact Int.emod_nonneg _ (by decide)
   ·exact Int.emod_lt_of_pos _ pp
  ·rintro σ Hc ⟨rfl,nu,la,v6,rfl,_,_⟩
   refine hR _ _ ?_;refine ⟨_,rfl,by show 1≤sizeLine;decide,fun Tp nh=>?_⟩
   exact kk Tp _ (a9 nh) nh ⟨_,aP⟩
theorem Ds:b4 ["tape","way","size","wide"] ["tape"] (bj pY):=cH
theorem Dt(T:Txt K mg t):bH P w K mg base b5 2 t.jT t.lp ["tape"] CB:=by
 have S:=Ds;have lP:=Dp (P:=P) (w:=w) (base:=base) T;refine T.lK.cU S (fun _ _ _ _ H _ _ _ hr h=>?_);obtain ⟨Tp,rfl,tc,kk⟩:=h
 refine ⟨_,(aW (putL 1 S.nd (bu lP hr T.jZ T.fS.kp T.jY bA (af (pv 0) (af aq ar))))
  (aW (putL 2 S.nd (aY dF aq (bu lP hr T.jZ T.fS.kp T.jY bA (af (pv 0) (af (aM ky (iK (af aq (af aq (af aq ar)))) (bu lP hr T.jZ T.fS.kp T.jY bA (af (pv 0) (af aq ar)))) ar)))))
  (aW (bY (b3 n9 (pv 1) aq) (aW (putL 3 S.nd (aM ky (iK (af (pv 2) (af (bz (ur rfl) rfl T.sv boot_min (af (pv 2) (af aq ar))) ar))) (bz (og rfl) rfl T.m_ boot_max (af (om yp rfl T.p9 boot_int (af (dq yl (pv 2) aq) ar)) (af (bu lP hr T.jZ T.fS.kp T.jY bA (af (pv 0) (af aq ar))) ar)))))
  (aQ (bb (dW (af (aM ky (iK (af cg (af cg ar))) (pv 1)) (af (pv 2) (af (bu lP hr T.jZ T.fS.kp T.jY bA (af (pv 0) (af (pv 3) ar))) ar))))))) bX)
  (aW (bY (b3 bV (pv 1) aq) (aQ (bb (dW (af cg (af (bz (og rfl) rfl T.m_ boot_max (af aq (af (pv 2) ar))) ar))))) bX)
  (aW (bY (b3 bV (pv 1) aq) (aQ (bb (dW (af cg (af (bz (og rfl) rfl T.m_ boot_max (af aq (af (aY qC (pv 2) aq) ar))) ar))))) bX)
  (aQ (bb (dW (af cg (af (om qQ rfl T.fh boot_tuple (af (kA (N:=["k","tape"]) (ρ:=(fun σ=>[σ[0]?.join])) (ju [0] rfl) rfl (gp rfl T.eP (af (aY fD (pv 2) aq) ar)) (fun _ _ _=>.nil) (fun _ _ _=>(bu lP hr T.jZ T.fS.kp T.jY bA (af (pv 1) (af (aY dF (pv 0) aq) ar))))) ar)) ar)))))))))),?_⟩
 refine aw fun _ hR=>cm ⟨_,rfl,Tp,5,rfl,tc,by decide,by decide,fun way H1 w5 o1 t1=>hR _ _ ?_⟩
 refine aw fun _ hR=>cm ⟨_,rfl,by show 3≤sizeLine;decide,fun l nl=>?_⟩
 have s2:au H1 (upd H1 l (.lst [.int 9,.int 20,.int 60])):=a9 nl;have el:upd H1 l (.lst [.int 9,.int 20,.int 60]) l=some (.lst [.int 9,.int 20,.int 60]):=aP;have lT:l≠Tp:=t1.ne nl;generalize upd H1 l (.lst [.int 9,.int 20,.int 60])=H2 at s2 el ⊢;refine ⟨_,rfl,Tp,3,rfl,t1.mono s2,by decide,by decide,fun d H3 d3 o3 t3=>?_⟩
 have hm:∃m:Nat,1≤m∧m≤60∧g_ [V.int 9,.int 20,.int 60] (d:Int)=some (.int (m:Int)):=by
  rcases (show d=0∨d=1∨d=2 by omega) with rfl | rfl | rfl
  ·exact ⟨9,by decide,by decide,rfl⟩
  ·exact ⟨20,by decide,by decide,rfl⟩
  ·exact ⟨60,by decide,by decide,rfl⟩
 obtain ⟨m,m1,Gh,em⟩:=hm;refine ⟨l,_,_,_,rfl,rfl,.of (o3 _ _ lT el),em,Tp,m,rfl,t3,m1,by omega,fun e H4 Gi o4 t4=>⟨_,_,rfl,rfl,hR _ _ ?_⟩⟩
 have qd:bM Tp H H4:=o1.trans ((bM.of s2).trans (o3.trans o4));have ni:(1:Int)+(e:Int)=((e+1:Nat):Int):=by omega
 dsimp only;rw [ni];have z1:1≤e+1:=by omega
 have sE:e+1≤60:=by omega
 generalize e+1=n at z1 sE ⊢;clear hR;refine aw fun _ hR=>⟨_,rfl,_,_,rfl,rfl,_,rfl,cV (fun hb=>?_) (fun hb=>hR _ _ ?_)⟩
 ·have hb:=cR hb
  have w2:way<2:=by omega
  refine aw fun _ hR=>cm ⟨_,rfl,_,rfl,_,_,rfl,by show 2≤sizeLine;decide,fun l2 lQ=>?_⟩
  have s5:au H4 (upd H4 l2 (.lst [.int (n:Int),.int (if (4:Int)<(n:Int) then 4 else (n:Int))])):=a9 lQ
  have gJ:upd H4 l2 (.lst [.int (n:Int),.int (if (4:Int)<(n:Int) then 4 else (n:Int))]) l2=some (.lst [.int (n:Int),.int (if (4:Int)<(n:Int) then 4 else (n:Int))]):=aP
  have Du:l2≠Tp:=t4.ne lQ;generalize upd H4 l2 (.lst [.int (n:Int),.int (if (4:Int)<(n:Int) then 4 else (n:Int))])=H5 at s5 gJ ⊢
  refine ⟨_,rfl,_,_,rfl,rfl,.inr ⟨_,rfl,_,rfl,Tp,2,rfl,t4.mono s5,by decide,by decide,fun d2 H6 Gj o6 t6=>⟨_,_,rfl,?_⟩⟩⟩
  have key:∃wd:Nat,1≤wd∧wd≤n∧(n≤20∨wd≤4)∧g_ [V.int (n:Int),.int (if (4:Int)<(n:Int) then 4 else (n:Int))] (if (d2:Int)>(if decide ((20:Int)<(n:Int))=true then 1 else 0) then (d2:Int) else (if decide ((20:Int)<(n:Int))=true then 1 else 0))=some (.int (wd:Int)):=by
   by_cases pe:(20:Int)<(n:Int)
   ·refine ⟨4,by decide,by omega,.inr (by decide),?_⟩
    rw [aG pe,ae rfl,aa (show ¬(d2:Int)>1 by omega),ae (show (4:Int)<(n:Int) by omega)]
    rfl
   ·rw [bp pe,aa bJ]
    rcases (show d2=0∨d2=1 by omega) with rfl | rfl
    ·exact ⟨n,by omega,aA _,.inl (by omega),rfl⟩
    ·by_cases h4:(4:Int)<(n:Int)
     ·refine ⟨4,by decide,by omega,.inr (by decide),?_⟩
      rw [ae h4];rfl
     ·refine ⟨n,by omega,aA _,.inl (by omega),?_⟩
      rw [aa h4];rfl
  obtain ⟨wd,xj,Gk,xk,ew⟩:=key;refine ⟨l2,_,_,_,rfl,rfl,.of (o6 _ _ Du gJ),ew,hR _ _ ?_⟩;have xl:bM Tp H H6:=qd.trans ((bM.of s5).trans o6);refine ⟨by show 2≤sizeLine;decide,fun l3 Dv=>?_⟩
  have s7:au H6 (upd H6 l3 (.lst [.str (Str.ofString "band"),.str (Str.ofString "brim")])):=a9 Dv;have sF:upd H6 l3 (.lst [.str (Str.ofString "band"),.str (Str.ofString "brim")]) l3=some (.lst [sV "band",sV "brim"]):=aP;have t7:=t6.mono s7;generalize upd H6 l3 (.lst [.str (Str.ofString "band"),.str (Str.ofString "brim")])=H7 at s7 sF t7 ⊢;rcases (show way=0∨way=1 by omega) with rfl | rfl
  ·refine ⟨_,rfl,l3,_,_,sV "band",rfl,rfl,.of sF,rfl,_,rfl,_,rfl,_,rfl,Tp,wd,rfl,t7,xj,by omega,fun ww H8 wl o8 t8=>⟨by show 3≤sizeLine;decide,fun td gK=>?_⟩⟩
   exact kk td (.band n ww) _ (xl.trans ((bM.of s7).trans (o8.trans (bM.of (a9 gK))))) aP ⟨z1,sE,by omega⟩ (by rcases xk with h | h;exact .inl h;exact .inr (by omega))
  ·refine ⟨_,rfl,l3,_,_,sV "brim",rfl,rfl,.of sF,rfl,_,rfl,_,rfl,_,rfl,Tp,wd,rfl,t7,xj,by omega,fun ww H8 wl o8 t8=>⟨by show 3≤sizeLine;decide,fun td gK=>?_⟩⟩
   exact kk td (.bU n ww) _ (xl.trans ((bM.of s7).trans (o8.trans (bM.of (a9 gK))))) aP ⟨z1,sE,by omega⟩ (by rcases xk with h | h;exact .inl h;exact .inr (by omega))
 ·have hb:¬((way:Int)<2):=fun z=>hb (aG z)
  refine aw fun _ hR=>⟨_,rfl,rfl,_,rfl,cV (fun Dw=>?_) (fun Dw=>hR _ _ ?_)⟩
  ·refine ⟨_,rfl,_,_,rfl,by show 2≤sizeLine;decide,fun td gK=>?_⟩
   have em:(if (3:Int)<(n:Int) then (n:Int) else 3)=((max 3 n:Nat):Int):=by split <;> omega
   rw [em];refine kk td (.ring (max 3 n)) _ (qd.trans (bM.of (a9 gK))) aP ⟨by omega,by omega⟩ trivial
  ·refine aw fun _ hR=>⟨_,rfl,rfl,_,rfl,cV (fun Dx=>?_) (fun Dx=>hR _ _ ?_)⟩
   ·refine ⟨_,rfl,_,_,rfl,rfl,⟨by decide,by decide⟩,_,_,rfl,by show 2≤sizeLine;decide,fun td gK=>?_⟩
    have em:(if (1:Int)<(n:Int) / 2 then (n:Int) / 2 else 1)=((max 1 (n / 2):Nat):Int):=by split <;> omega
    dsimp only;rw [em];refine kk td (.ee (max 1 (n / 2))) _ (qd.trans (bM.of (a9 gK))) aP ⟨by omega,by omega⟩ trivial
   ·refine rd (CG (CF (n:=n-1) (hV (by omega)) t4 (fun R h=>⟨_,rfl,_,_,rfl,rfl,_,rfl,by omega,by omega,?_⟩) (fun i y=>∃k:Nat,y=.int (k:Int)∧k≤i) (fun i hi Hc R oc xm kR=>?_) fun D ys Hc DT oc xm ly hP eD=>?_))
    ·rw [show ((n:Int)-1).toNat=n-1 by omega]
     exact h
    ·refine ⟨_,rfl,_,rfl,_,_,rfl,rfl,Tp,i+1,by rw [ey];rfl,xm,by omega,by omega,fun d Hd dl od Dy=>kR _ _ od Dy ⟨d,rfl,by omega⟩⟩
    ·have ex:∃as:List Nat,ys=as.map (fun k:Nat=>V.int (k:Int))∧as.length=n-1∧∀i,i<as.length→as.getD i 0≤i:=by
      refine ⟨(List.range ys.length).map fun i=>match ys.getD i .aN with | .int z=>z.toNat | _=>0,l6 (by simp) fun i h1 h2=>?_,by simp [ly],fun i hi=>?_⟩
      ·obtain ⟨k,e,_⟩:=hP i ys[i] (fZ h1)
       simp [h1,e]
      ·have h1:i<ys.length:=by simpa using hi
       obtain ⟨k,e,hk⟩:=hP i ys[i] (fZ h1);simp [h1,e];exact hk
     obtain ⟨as,rfl,la,hle⟩:=ex;refine ⟨D,_,rfl,.inl ⟨.of eD,fun ta Dz=>⟨by show 2≤sizeLine;decide,fun td gK=>?_⟩⟩⟩
     refine kk td (.tree as) _ (qd.trans (oc.trans (bM.of ((a9 Dz).trans (a9 gK))))) ⟨ta,aP,(a9 gK) _ _ aP⟩ ⟨by omega,hle⟩ trivial
theorem DA:b4 ["told","links","size","j","i"] ["told"] (bj pZ):=cH
theorem DB(T:Txt K mg t):bH P w K mg base b5 1 t.jU t.lq ["told"] wm:=by
 have S:=DA;refine T.lL.cU S (fun _ _ _ _ H _ Q _ hr h=>?_);obtain ⟨td,N,rfl,tn,ok,fw,kk⟩:=h
 refine ⟨_,(aW (putL 1 S.nd (iK ar))
  (aW (putL 2 S.nd aq)
  (aW (bY (uq zA (aM aT (pv 0) aq) (dW (af cg (af cg ar))) rfl) (aW (putL 2 S.nd (aM aT (pv 0) aq))
  (aQ (jh kj rfl (gp rfl T.eP (af (pv 2) ar)) (fC (i:=3) S.nd rfl (Or.inl rfl))
   (aQ (jh kj rfl (gp rfl T.eP (af (pv 3) ar)) (fC (i:=4) S.nd rfl (Or.inl rfl))
   (aQ (bY (PW.pt (pw_or (b3 jl (aY fD (pv 3) (pv 4)) (aM aT (pv 0) aq)) (pw_or1 (PW.pt (pw_and (b3 bV (aM aT (pv 0) aq) cg) (pw_and1 (b3 bV (pv 3) (aY fD (pv 2) aq)))))))) (aQ (tU (uV PySem.F.plainAttrs_list PySem.F.slot_list_append PySem.F.type_list_append oz (pv 1) (af (dW (af (pv 4) (af (pv 3) ar))) ar)))) bX))))))) bX)
  (aW (bY (b3 bV (aM aT (pv 0) aq) cg) (aW (putL 2 S.nd (aM aT (pv 0) aq))
  (aQ (putL 1 S.nd (aY uY (iK (af (dW (af aq (af (aY fD (pv 2) aq) ar))) ar)) (kA (N:=["k"]) (ρ:=(fun σ=>[])) (ju [] rfl) rfl (gp rfl T.eP (af (aY fD (pv 2) aq) ar)) (fun _ _ _=>.nil) (fun _ _ _=>(dW (af (pv 0) (af (aY dF (pv 0) aq) ar))))))))) bX)
  (aW (bY (b3 bV (aM aT (pv 0) aq) cg) (aW (putL 2 S.nd (aY gs aq (aM aT (pv 0) aq)))
  (aQ (putL 1 S.nd (aY uY (kA (N:=["k"]) (ρ:=(fun σ=>[])) (ju [] rfl) rfl (gp rfl T.eP (af (aM aT (pv 0) aq) ar)) (fun _ _ _=>.nil) (fun _ _ _=>(dW (af (aY gs aq (pv 0)) (af (aY dF (aY gs aq (pv 0)) aq) ar))))) (kA (N:=["k"]) (ρ:=(fun σ=>[])) (ju [] rfl) rfl (gp rfl T.eP (af (aY fD (pv 2) aq) ar)) (fun _ _ _=>.nil) (fun _ _ _=>(dW (af (pv 0) (af (aY dF (pv 0) aq) ar))))))))) bX)
  (aW (bY (b3 bV (aM aT (pv 0) aq) cg) (aW (putL 2 S.nd (aY dF (bz eZ rfl T.eO eU (af (aM aT (pv 0) aq) ar)) aq))
  (aQ (Aw (i0:=1) (N:=["k","told"]) (ρ:=(fun σ=>[σ[0]?.join])) (ju [0] rfl) rfl S.nd rfl (Or.inl rfl) (gp rfl T.eP (af (aY fD (pv 2) aq) ar)) (fun _ _ _=>.nil) (fun _ _ _=>(dW (af (aM (vy (K:=K)) (aM (vy (K:=K)) (pv 1) aq) (pv 0)) (af (aY dF (pv 0) aq) ar))))))) bX)
  (aQ (bb (dW (af (pv 2) (af (om qQ rfl T.fh boot_tuple (af (bz Bg rfl T.xa PyProof.Rows.boot_sorted (af (pv 1) ar)) ar)) ar))))))))))),?_⟩
 obtain ⟨n1,fi⟩:=kH ok;refine aw fun _ hR=>cm ⟨cG _,fun l0 sG=>hR _ _ ?_⟩;have s1:au H (upd H l0 (.lst [])):=a9 sG;have sI:upd H l0 (.lst []) l0=some (.lst []):=aP;have eg:=tn.mono s1;generalize upd H l0 (.lst [])=H1 at s1 sI eg ⊢;refine aw fun _ hR=>cm (hR _ _ ?_);cases N with
 | band n w=>
  have e:H1 td=some (.tup [sV "band",.int (n:Int),.int (w:Int)]):=eg;refine aw fun _ hR=>⟨_,rfl,td,_,_,_,rfl,rfl,.of e,rfl,by show 2≤sizeLine;decide,fun q nq=>?_⟩
  have s2:au H1 (upd H1 q (.tup [.str (Str.ofString "band"),.str (Str.ofString "brim")])):=a9 nq;have eh:upd H1 q (.tup [.str (Str.ofString "band"),.str (Str.ofString "brim")]) q=some (.tup [.str (Str.ofString "band"),.str (Str.ofString "brim")]):=aP;have gI:=eg.mono s2;generalize upd H1 q (.tup [.str (Str.ofString "band"),.str (Str.ofString "brim")])=H2 at s2 eh gI ⊢;have e2:=s2 _ _ e;refine ⟨q,_,rfl,.inr (.of eh),rfl,rfl,true,by decide +kernel,bN ?_⟩
  refine aw fun _ fT=>cm ⟨_,rfl,td,_,_,_,rfl,rfl,.of e2,rfl,fT _ _ ?_⟩;have hz:(aK.band n w).sz=n:=rfl;have n1:1≤n:=n1;have fi:n≤60:=fi;refine ⟨_,rfl,(n:Int),rfl,by omega,by omega,?_⟩
  rw [gQ];have e0:H td=some (.tup [sV "band",.int (n:Int),.int (w:Int)]):=tn;refine iI (fun j σ Hc=>∃(us:List V) (v3 v4:Option V),σ=[some (.ref td),some (.ref l0),some (.int (n:Int)),v3,v4]∧au H Hc∧Hc l0=some (.lst us)∧a8 Hc us (cf (aK.band n w).lk j)) ⟨[],_,_,rfl,s1.trans s2,s2 _ _ sI,a8.nil _⟩ ?_ ?_
  ·rintro j σ Hc hj ⟨us,v3,v4,rfl,sc,el,hL⟩
   dsimp only [cT];refine ⟨_,rfl,0+(j:Int),rfl,by omega,by omega,?_⟩
   rw [show (0+(j:Int)).toNat=j by omega]
   refine iI (fun i σ Hd=>∃(us:List V) (v4:Option V),σ=[some (.ref td),some (.ref l0),some (.int (n:Int)),some (.int (0+(j:Int))),v4]∧au H Hd∧Hd l0=some (.lst us)∧a8 Hd us (cf (aK.band n w).lk j++cD (aK.band n w).lk j i)) ⟨us,_,rfl,sc,el,by show a8 _ _ (_++[]);rw [i5];exact hL⟩ ?_ ?_
   ·clear hL el sc
    rintro i σ Hd hi ⟨us,v4,rfl,sd,el,hL⟩;have ed:=sd _ _ e0;dsimp only [cT];have len:=wt ok fw (show j<(aK.band n w).sz from hj) (j7 hi);have DC:=hL.1;have app:∀(R:St→Hp→Prop),(aK.band n w).lk i j=true→(∀σ' H',(∃(us:List V) (v4:Option V),σ'=[some (.ref td),some (.ref l0),some (.int (n:Int)),some (.int (0+(j:Int))),v4]∧au H H'∧H' l0=some (.lst us)∧a8 H' us (cf (aK.band n w).lk j++cD (aK.band n w).lk j (i+1)))→R σ' H')→∀tq,Hd tq=none→R [some (.ref td),some (.ref l0),some (.int (n:Int)),some (.int (0+(j:Int))),some (.int (0+(i:Int)))] (upd (upd Hd tq (.tup [.int (0+(i:Int)),.int (0+(j:Int))])) l0 (.lst (us++[.ref tq]))):=fun R hl kR tq fk=>by
     have st:au Hd (upd Hd tq (.tup [.int (0+(i:Int)),.int (0+(j:Int))])):=a9 fk;have nj:upd Hd tq (.tup [.int (0+(i:Int)),.int (0+(j:Int))]) tq=some (.tup [.int (i:Int),.int (j:Int)]):=by rw [aP,ey,ey]
     generalize upd Hd tq (.tup [.int (0+(i:Int)),.int (0+(j:Int))])=He at st nj ⊢;refine kR _ _ ⟨us++[.ref tq],_,rfl,ic (sd.trans st) sG,aP,?_⟩;have ec:cf (aK.band n w).lk j++cD (aK.band n w).lk j (i+1)=(cf (aK.band n w).lk j++cD (aK.band n w).lk j i)++[((i:Int),(j:Int))]:=by show _++(_++_)=_;rw [ae hl,et]
     rw [ec];exact ((hL.mono st).cat (show a8 He [.ref tq] [((i:Int),(j:Int))] from ⟨rfl,fun k v p h1 h2=>by
      match k,h1,h2 with
      | 0,h1,h2=>cases h1;cases h2;exact ⟨tq,rfl,nj⟩
      | k+1,h1,h2=>simp at h1⟩)).cW (st _ _ el) fun b o nb e=>by rw [bt nb];exact e
    have skip:(aK.band n w).lk i j=false→∃(nk:List V) (v4:Option V),[some (V.ref td),some (.ref l0),some (.int (n:Int)),some (.int (0+(j:Int))),some (.int (0+(i:Int)))]=[some (.ref td),some (.ref l0),some (.int (n:Int)),some (.int (0+(j:Int))),v4]∧au H Hd∧Hd l0=some (.lst nk)∧a8 Hd nk (cf (aK.band n w).lk j++cD (aK.band n w).lk j (i+1)):=fun hl=>⟨us,_,rfl,sd,el,by show a8 _ _ (_++(_++_));rw [hl,aa bJ,i5];exact hL⟩
    refine ⟨_,rfl,_,rfl,_,_,rfl,rfl,_,rfl,td,_,_,_,rfl,rfl,.of ed,rfl,_,_,rfl,rfl,_,rfl,cV (fun hb=>?_) (fun hb=>?_)⟩
    ·have hb:=cR hb
     refine ⟨_,rfl,.inl ⟨rfl,_,.of el⟩,_,rfl,_,rfl,by show 2≤sizeLine;decide,fun tq fk=>⟨l0,us,_,rfl,rfl,(a9 fk) _ _ el,hV (by omega),?_⟩⟩
     exact app _ (aG (by omega)) (fun _ _ h=>h) tq fk
    ·have hb:¬(0+(j:Int)-(0+(i:Int))≤(w:Int)):=fun z=>hb (aG z)
     exact ⟨_,rfl,td,_,_,_,rfl,rfl,.of ed,rfl,rfl,false,by decide +kernel,aC (skip (bp (by omega)))⟩
   ·rintro σ Hd ⟨us,v4,rfl,sd,el,hL⟩
    exact ⟨us,_,_,rfl,sd,el,hL⟩
  ·rintro σ Hc ⟨us,v3,v4,rfl,sc,el,hL⟩
   refine hR _ _ ?_;have e5:=sc _ _ e0;refine aw fun _ hR=>⟨_,rfl,td,_,_,_,rfl,rfl,.of e5,rfl,rfl,false,by decide +kernel,aC (hR _ _ ?_)⟩
   refine aw fun _ hR=>⟨_,rfl,td,_,_,_,rfl,rfl,.of e5,rfl,rfl,false,by decide +kernel,aC (hR _ _ ?_)⟩
   refine aw fun _ hR=>⟨_,rfl,td,_,_,_,rfl,rfl,.of e5,rfl,rfl,false,by decide +kernel,aC (hR _ _ ?_)⟩
   refine ⟨_,rfl,_,rfl,mZ (K:=K) (Q:=fun y H2=>[V.int (n:Int),y].length≤sizeLine∧∀q,H2 q=none→Q (.ref q) (upd H2 q (.tup [.int (n:Int),y]))) ok fw el hL (pD _) (fun z=>sh (N:=.band n w)) fun lt zs Hd sd elt hz=>⟨by show 2≤sizeLine;decide,fun tp eQ=>?_⟩⟩
   have st:au Hd (upd Hd tp (.tup [.int (n:Int),.ref lt])):=a9 eQ;exact kk tp _ (sc.trans (sd.trans st)) ⟨lt,zs,aP,st _ _ elt,hz.mono st⟩
 | bU n w=>
  have e:H1 td=some (.tup [sV "brim",.int (n:Int),.int (w:Int)]):=eg;refine aw fun _ hR=>⟨_,rfl,td,_,_,_,rfl,rfl,.of e,rfl,by show 2≤sizeLine;decide,fun q nq=>?_⟩
  have s2:au H1 (upd H1 q (.tup [.str (Str.ofString "band"),.str (Str.ofString "brim")])):=a9 nq;have eh:upd H1 q (.tup [.str (Str.ofString "band"),.str (Str.ofString "brim")]) q=some (.tup [.str (Str.ofString "band"),.str (Str.ofString "brim")]):=aP;have gI:=eg.mono s2;generalize upd H1 q (.tup [.str (Str.ofString "band"),.str (Str.ofString "brim")])=H2 at s2 eh gI ⊢;have e2:=s2 _ _ e;refine ⟨q,_,rfl,.inr (.of eh),rfl,rfl,true,by decide +kernel,bN ?_⟩
  refine aw fun _ fT=>cm ⟨_,rfl,td,_,_,_,rfl,rfl,.of e2,rfl,fT _ _ ?_⟩;have hz:(aK.bU n w).sz=n:=rfl;have n1:1≤n:=n1;have fi:n≤60:=fi;refine ⟨_,rfl,(n:Int),rfl,by omega,by omega,?_⟩
  rw [gQ];have e0:H td=some (.tup [sV "brim",.int (n:Int),.int (w:Int)]):=tn;refine iI (fun j σ Hc=>∃(us:List V) (v3 v4:Option V),σ=[some (.ref td),some (.ref l0),some (.int (n:Int)),v3,v4]∧au H Hc∧Hc l0=some (.lst us)∧a8 Hc us (cf (aK.bU n w).lk j)) ⟨[],_,_,rfl,s1.trans s2,s2 _ _ sI,a8.nil _⟩ ?_ ?_
  ·rintro j σ Hc hj ⟨us,v3,v4,rfl,sc,el,hL⟩
   dsimp only [cT];refine ⟨_,rfl,0+(j:Int),rfl,by omega,by omega,?_⟩
   rw [show (0+(j:Int)).toNat=j by omega]
   refine iI (fun i σ Hd=>∃(us:List V) (v4:Option V),σ=[some (.ref td),some (.ref l0),some (.int (n:Int)),some (.int (0+(j:Int))),v4]∧au H Hd∧Hd l0=some (.lst us)∧a8 Hd us (cf (aK.bU n w).lk j++cD (aK.bU n w).lk j i)) ⟨us,_,rfl,sc,el,by show a8 _ _ (_++[]);rw [i5];exact hL⟩ ?_ ?_
   ·clear hL el sc
    rintro i σ Hd hi ⟨us,v4,rfl,sd,el,hL⟩;have ed:=sd _ _ e0;dsimp only [cT];have len:=wt ok fw (show j<(aK.bU n w).sz from hj) (j7 hi);have DC:=hL.1;have app:∀(R:St→Hp→Prop),(aK.bU n w).lk i j=true→(∀σ' H',(∃(us:List V) (v4:Option V),σ'=[some (.ref td),some (.ref l0),some (.int (n:Int)),some (.int (0+(j:Int))),v4]∧au H H'∧H' l0=some (.lst us)∧a8 H' us (cf (aK.bU n w).lk j++cD (aK.bU n w).lk j (i+1)))→R σ' H')→∀tq,Hd tq=none→R [some (.ref td),some (.ref l0),some (.int (n:Int)),some (.int (0+(j:Int))),some (.int (0+(i:Int)))] (upd (upd Hd tq (.tup [.int (0+(i:Int)),.int (0+(j:Int))])) l0 (.lst (us++[.ref tq]))):=fun R hl kR tq fk=>by
     have st:au Hd (upd Hd tq (.tup [.int (0+(i:Int)),.int (0+(j:Int))])):=a9 fk;have nj:upd Hd tq (.tup [.int (0+(i:Int)),.int (0+(j:Int))]) tq=some (.tup [.int (i:Int),.int (j:Int)]):=by rw [aP,ey,ey]
     generalize upd Hd tq (.tup [.int (0+(i:Int)),.int (0+(j:Int))])=He at st nj ⊢;refine kR _ _ ⟨us++[.ref tq],_,rfl,ic (sd.trans st) sG,aP,?_⟩;have ec:cf (aK.bU n w).lk j++cD (aK.bU n w).lk j (i+1)=(cf (aK.bU n w).lk j++cD (aK.bU n w).lk j i)++[((i:Int),(j:Int))]:=by show _++(_++_)=_;rw [ae hl,et]
     rw [ec];exact ((hL.mono st).cat (show a8 He [.ref tq] [((i:Int),(j:Int))] from ⟨rfl,fun k v p h1 h2=>by
      match k,h1,h2 with
      | 0,h1,h2=>cases h1;cases h2;exact ⟨tq,rfl,nj⟩
      | k+1,h1,h2=>simp at h1⟩)).cW (st _ _ el) fun b o nb e=>by rw [bt nb];exact e
    have skip:(aK.bU n w).lk i j=false→∃(nk:List V) (v4:Option V),[some (V.ref td),some (.ref l0),some (.int (n:Int)),some (.int (0+(j:Int))),some (.int (0+(i:Int)))]=[some (.ref td),some (.ref l0),some (.int (n:Int)),some (.int (0+(j:Int))),v4]∧au H Hd∧Hd l0=some (.lst nk)∧a8 Hd nk (cf (aK.bU n w).lk j++cD (aK.bU n w).lk j (i+1)):=fun hl=>⟨us,_,rfl,sd,el,by show a8 _ _ (_++(_++_));rw [hl,aa bJ,i5];exact hL⟩
    refine ⟨_,rfl,_,rfl,_,_,rfl,rfl,_,rfl,td,_,_,_,rfl,rfl,.of ed,rfl,_,_,rfl,rfl,_,rfl,cV (fun hb=>?_) (fun hb=>?_)⟩
    ·have hb:=cR hb
     refine ⟨_,rfl,.inl ⟨rfl,_,.of el⟩,_,rfl,_,rfl,by show 2≤sizeLine;decide,fun tq fk=>⟨l0,us,_,rfl,rfl,(a9 fk) _ _ el,hV (by omega),?_⟩⟩
     exact app _ (by show (decide (j≤i+w) || _)=true;rw [aG (show j≤i+w by omega)];rfl) (fun _ _ h=>h) tq fk
    ·have hb:¬(0+(j:Int)-(0+(i:Int))≤(w:Int)):=fun z=>hb (aG z)
     have hl:(aK.bU n w).lk i j=decide (j+1=n):=by show (decide (j≤i+w) || decide (j+1=n))=_;rw [bp (show ¬j≤i+w by omega),kd]
     refine ⟨_,rfl,td,_,_,_,rfl,rfl,.of ed,rfl,rfl,true,by decide +kernel,bN ?_⟩
     refine ⟨_,rfl,_,rfl,_,_,rfl,rfl,rfl,_,rfl,cV (fun hc=>?_) (fun hc=>?_)⟩
     ·rw [e8] at hc
      have hc:=cR hc;refine ⟨_,rfl,.inl ⟨rfl,_,.of el⟩,_,rfl,_,rfl,by show 2≤sizeLine;decide,fun tq fk=>⟨l0,us,_,rfl,rfl,(a9 fk) _ _ el,hV (by omega),?_⟩⟩
      exact app _ (by rw [hl];exact aG (by omega)) (fun _ _ h=>h) tq fk
     ·have hc:¬(0+(j:Int)=(n:Int)-1):=fun z=>hc (by rw [e8];exact aG z)
      exact skip (by rw [hl];exact bp (by omega))
   ·rintro σ Hd ⟨us,v4,rfl,sd,el,hL⟩
    exact ⟨us,_,_,rfl,sd,el,hL⟩
  ·rintro σ Hc ⟨us,v3,v4,rfl,sc,el,hL⟩
   refine hR _ _ ?_;have e5:=sc _ _ e0;refine aw fun _ hR=>⟨_,rfl,td,_,_,_,rfl,rfl,.of e5,rfl,rfl,false,by decide +kernel,aC (hR _ _ ?_)⟩
   refine aw fun _ hR=>⟨_,rfl,td,_,_,_,rfl,rfl,.of e5,rfl,rfl,false,by decide +kernel,aC (hR _ _ ?_)⟩
   refine aw fun _ hR=>⟨_,rfl,td,_,_,_,rfl,rfl,.of e5,rfl,rfl,false,by decide +kernel,aC (hR _ _ ?_)⟩
   refine ⟨_,rfl,_,rfl,mZ (K:=K) (Q:=fun y H2=>[V.int (n:Int),y].length≤sizeLine∧∀q,H2 q=none→Q (.ref q) (upd H2 q (.tup [.int (n:Int),y]))) ok fw el hL (pD _) (fun z=>sh (N:=.bU n w)) fun lt zs Hd sd elt hz=>⟨by show 2≤sizeLine;decide,fun tp eQ=>?_⟩⟩
   have st:au Hd (upd Hd tp (.tup [.int (n:Int),.ref lt])):=a9 eQ;exact kk tp _ (sc.trans (sd.trans st)) ⟨lt,zs,aP,st _ _ elt,hz.mono st⟩
 | ring n=>
  have e:H1 td=some (.tup [sV "ring",.int (n:Int)]):=eg;obtain ⟨n3,_⟩:=id ok;obtain ⟨nd,mm⟩:=CJ n3;refine aw fun _ hR=>⟨_,rfl,td,_,_,_,rfl,rfl,.of e,rfl,by show 2≤sizeLine;decide,fun q nq=>?_⟩
  have s2:au H1 (upd H1 q (.tup [.str (Str.ofString "band"),.str (Str.ofString "brim")])):=a9 nq;have eh:upd H1 q (.tup [.str (Str.ofString "band"),.str (Str.ofString "brim")]) q=some (.tup [.str (Str.ofString "band"),.str (Str.ofString "brim")]):=aP;have gI:=eg.mono s2;generalize upd H1 q (.tup [.str (Str.ofString "band"),.str (Str.ofString "brim")])=H2 at s2 eh gI ⊢;have e2:=s2 _ _ e;refine ⟨q,_,rfl,.inr (.of eh),rfl,rfl,false,by decide +kernel,aC (hR _ _ ?_)⟩
  refine aw fun _ hR=>⟨_,rfl,td,_,_,_,rfl,rfl,.of e2,rfl,rfl,true,by decide +kernel,bN ?_⟩
  refine aw fun _ fT=>cm ⟨_,rfl,td,_,_,_,rfl,rfl,.of e2,rfl,fT _ _ ?_⟩;refine cm ⟨_,rfl,_,_,rfl,rfl,by show 2≤sizeLine;decide,fun b nb=>⟨by show 1≤sizeLine;decide,fun l1 xn=>?_⟩⟩
  have s3:au H2 (upd (upd H2 b (.tup [.int 0,.int ((n:Int)-1)])) l1 (.lst [.ref b])):=(a9 nb).trans (a9 xn);have eb:upd (upd H2 b (.tup [.int 0,.int ((n:Int)-1)])) l1 (.lst [.ref b]) b=some (.tup [.int 0,.int ((n:Int)-1)]):=(a9 xn) _ _ aP;have xo:upd (upd H2 b (.tup [.int 0,.int ((n:Int)-1)])) l1 (.lst [.ref b]) l1=some (.lst [.ref b]):=aP;generalize upd (upd H2 b (.tup [.int 0,.int ((n:Int)-1)])) l1 (.lst [.ref b])=H3 at s3 eb xo ⊢;refine pB (n:=n-1) (fun k:Nat=>((k:Int),(k:Int)+1)) (by omega) (fun R h=>⟨_,rfl,_,_,rfl,rfl,_,rfl,by omega,by omega,by rw [show ((n:Int)-1).toNat=n-1 by omega];exact h⟩) (fun i hi Hc R sc kR=>⟨_,rfl,_,rfl,_,_,rfl,rfl,by show 2≤sizeLine;decide,fun b nb=>kR b _ (a9 nb) (by rw [aP,ey])⟩) fun D ys H4 nD s4 eD hY=>?_
  refine ⟨l1,D,[.ref b],ys,rfl,rfl,s4 _ _ xo,eD,wb (by have:=hY.1;rw [b8,l7] at this;simp;omega),fun l2 lQ=>hR _ _ ?_⟩
  have s5:au H4 (upd H4 l2 (.lst ([.ref b]++ys))):=a9 lQ;have gJ:upd H4 l2 (.lst ([.ref b]++ys)) l2=some (.lst ([.ref b]++ys)):=aP;have hM:a8 H4 ([.ref b]++ys) (pF n):=(show a8 H4 [.ref b] [((0:Int),(n:Int)-1)] from ⟨rfl,fun k v p h1 h2=>by
   match k,h1,h2 with
   | 0,h1,h2=>cases h1;cases h2;exact ⟨b,rfl,s4 _ _ eb⟩
   | k+1,h1,h2=>simp at h1⟩).cat hY
  have j6:=hM.mono s5;generalize upd H4 l2 (.lst ([.ref b]++ys))=H5 at s5 gJ j6 ⊢;generalize [V.ref b]++ys=us at gJ j6;have nr:=s3.trans (s4.trans s5);have e5:=nr _ _ e2;refine aw fun _ hR=>⟨_,rfl,td,_,_,_,rfl,rfl,.of e5,rfl,rfl,false,by decide +kernel,aC (hR _ _ ?_)⟩
  refine aw fun _ hR=>⟨_,rfl,td,_,_,_,rfl,rfl,.of e5,rfl,rfl,false,by decide +kernel,aC (hR _ _ ?_)⟩
  refine ⟨_,rfl,_,rfl,mZ (K:=K) (Q:=fun y H2=>[V.int (n:Int),y].length≤sizeLine∧∀q,H2 q=none→Q (.ref q) (upd H2 q (.tup [.int (n:Int),y]))) ok fw gJ j6 nd mm fun lt zs Hd sd elt hz=>⟨by show 2≤sizeLine;decide,fun tp eQ=>?_⟩⟩
  have st:au Hd (upd Hd tp (.tup [.int (n:Int),.ref lt])):=a9 eQ;exact kk tp _ ((s1.trans (s2.trans nr)).trans (sd.trans st)) ⟨lt,zs,aP,st _ _ elt,hz.mono st⟩
 | ee m=>
  have e:H1 td=some (.tup [sV "ladder",.int (m:Int)]):=eg;refine aw fun _ hR=>⟨_,rfl,td,_,_,_,rfl,rfl,.of e,rfl,by show 2≤sizeLine;decide,fun q nq=>?_⟩
  have s2:au H1 (upd H1 q (.tup [.str (Str.ofString "band"),.str (Str.ofString "brim")])):=a9 nq;have eh:upd H1 q (.tup [.str (Str.ofString "band"),.str (Str.ofString "brim")]) q=some (.tup [.str (Str.ofString "band"),.str (Str.ofString "brim")]):=aP;have gI:=eg.mono s2;generalize upd H1 q (.tup [.str (Str.ofString "band"),.str (Str.ofString "brim")])=H2 at s2 eh gI ⊢;have e2:=s2 _ _ e;refine ⟨q,_,rfl,.inr (.of eh),rfl,rfl,false,by decide +kernel,aC (hR _ _ ?_)⟩
  refine aw fun _ hR=>⟨_,rfl,td,_,_,_,rfl,rfl,.of e2,rfl,rfl,false,by decide +kernel,aC (hR _ _ ?_)⟩
  refine aw fun _ hR=>⟨_,rfl,td,_,_,_,rfl,rfl,.of e2,rfl,rfl,true,by decide +kernel,bN ?_⟩
  obtain ⟨nd,mm⟩:=CK (m:=m);obtain ⟨m1,Gm⟩:=id ok;refine aw fun _ fT=>cm ⟨_,rfl,td,_,_,_,rfl,rfl,.of e2,rfl,_,_,rfl,rfl,.inl ⟨by decide,by decide⟩,fT _ _ ?_⟩
  refine cm (show fF _ _ _ _ _ _ _ from pB (n:=m) (fun k:Nat=>(2*(k:Int),2*(k:Int)+1)) (by omega) (fun R h=>⟨_,rfl,td,_,_,_,rfl,rfl,.of e2,rfl,_,rfl,by omega,by omega,by rw [gQ];exact h⟩) (fun i hi Hc R sc kR=>⟨_,rfl,_,_,rfl,rfl,.inl ⟨by decide,by decide⟩,_,rfl,_,_,rfl,rfl,.inl ⟨by decide,by decide⟩,_,_,rfl,rfl,by show 2≤sizeLine;decide,fun b nb=>kR b _ (a9 nb) (by rw [aP,ey])⟩) fun D1 i4 H3 Gn s3 DD xp=>?_)
  refine (show fF _ _ _ _ _ _ _ from pB (n:=2*m-2) (fun k:Nat=>((k:Int),(k:Int)+2)) (by omega) (fun R h=>⟨_,rfl,_,_,rfl,rfl,_,rfl,by omega,by omega,by rw [show (2*(m:Int)-2).toNat=2*m-2 by omega];exact h⟩) (fun i hi Hc R sc kR=>⟨_,rfl,_,rfl,_,_,rfl,rfl,by show 2≤sizeLine;decide,fun b nb=>kR b _ (a9 nb) (by rw [aP,ey])⟩) fun D2 ys H4 Gp s4 DE xq=>?_)
  refine ⟨D1,D2,i4,ys,rfl,rfl,s4 _ _ DD,DE,wb (by have:=xp.1;have:=xq.1;rw [b8,l7] at *;omega),fun l2 lQ=>hR _ _ ?_⟩
  have s5:au H4 (upd H4 l2 (.lst (i4++ys))):=a9 lQ;have gJ:upd H4 l2 (.lst (i4++ys)) l2=some (.lst (i4++ys)):=aP;have j6:a8 (upd H4 l2 (.lst (i4++ys))) (i4++ys) (pG m):=((xp.mono s4).cat xq).mono s5;generalize upd H4 l2 (.lst (i4++ys))=H5 at s5 gJ j6 ⊢;generalize i4++ys=us at gJ j6;have nr:=s3.trans (s4.trans s5);have e5:=nr _ _ e2;refine aw fun _ hR=>⟨_,rfl,td,_,_,_,rfl,rfl,.of e5,rfl,rfl,false,by decide +kernel,aC (hR _ _ ?_)⟩
  have ni:((aK.ee m).sz:Int)=2*(m:Int):=by show ((2*m:Nat):Int)=_;omega
  refine ⟨_,rfl,_,rfl,mZ (K:=K) (Q:=fun y H2=>[V.int (2*(m:Int)),y].length≤sizeLine∧∀q,H2 q=none→Q (.ref q) (upd H2 q (.tup [.int (2*(m:Int)),y]))) ok fw gJ j6 nd mm fun lt zs Hd sd elt hz=>⟨by show 2≤sizeLine;decide,fun tp eQ=>?_⟩⟩
  have st:au Hd (upd Hd tp (.tup [.int (2*(m:Int)),.ref lt])):=a9 eQ;exact kk tp _ ((s1.trans (s2.trans nr)).trans (sd.trans st)) ⟨lt,zs,by rw [aP,ni],st _ _ elt,hz.mono st⟩
 | tree as=>
  obtain ⟨ta,e,eta⟩:=id eg;refine aw fun _ hR=>⟨_,rfl,td,_,_,_,rfl,rfl,.of e,rfl,by show 2≤sizeLine;decide,fun q nq=>?_⟩
  have s2:au H1 (upd H1 q (.tup [.str (Str.ofString "band"),.str (Str.ofString "brim")])):=a9 nq;have eh:upd H1 q (.tup [.str (Str.ofString "band"),.str (Str.ofString "brim")]) q=some (.tup [.str (Str.ofString "band"),.str (Str.ofString "brim")]):=aP;have gI:=eg.mono s2;generalize upd H1 q (.tup [.str (Str.ofString "band"),.str (Str.ofString "brim")])=H2 at s2 eh gI ⊢;have e2:=s2 _ _ e;refine ⟨q,_,rfl,.inr (.of eh),rfl,rfl,false,by decide +kernel,aC (hR _ _ ?_)⟩
  refine aw fun _ hR=>⟨_,rfl,td,_,_,_,rfl,rfl,.of e2,rfl,rfl,false,by decide +kernel,aC (hR _ _ ?_)⟩
  refine aw fun _ hR=>⟨_,rfl,td,_,_,_,rfl,rfl,.of e2,rfl,rfl,false,by decide +kernel,aC (hR _ _ ?_)⟩
  refine aw fun _ hR=>⟨_,rfl,td,_,_,_,rfl,rfl,.of e2,rfl,rfl,true,by decide +kernel,bN ?_⟩
  obtain ⟨CW,hle⟩:=id ok;obtain ⟨nd,mm⟩:=CL hle;have xr:=s2 _ _ eta;refine aw fun _ fT=>cm ⟨_,rfl,td,_,_,_,rfl,rfl,.of e2,rfl,ta,_,rfl,.inr (.of xr),_,_,rfl,rfl,fT _ _ ?_⟩;refine (show fF _ _ _ _ _ _ _ from pB (n:=as.length) (fun k:Nat=>(((as.getD k 0:Nat):Int),(k:Int)+1)) (by omega) (fun R h=>⟨_,rfl,_,_,rfl,rfl,_,rfl,by rw [b8];omega,by rw [b8];omega,by rw [b8,show ((as.length:Int)+1-1).toNat=as.length by omega];exact h⟩) (fun i hi Hc R sc kR=>⟨_,rfl,td,_,_,_,rfl,rfl,.of (sc _ _ e2),rfl,_,rfl,ta,_,_,_,rfl,rfl,.of (sc _ _ xr),(by rw [ey];exact qM (by rw [dP,fZ hi];rfl)),_,rfl,_,_,rfl,rfl,by show 2≤sizeLine;decide,fun b nb=>kR b _ (a9 nb) (by rw [aP,ey,gS,fZ hi];rfl)⟩) fun D ys H3 nD s3 eD hY=>?_)
  refine hR _ _ ?_;have ni:((aK.tree as).sz:Int)=((as.map fun k:Nat=>V.int (k:Int)).length:Int)+1:=by rw [b8];rfl
  refine ⟨_,rfl,_,rfl,mZ (K:=K) (Q:=fun y H2=>[V.int (((as.map fun k:Nat=>V.int (k:Int)).length:Int)+1),y].length≤sizeLine∧∀q,H2 q=none→Q (.ref q) (upd H2 q (.tup [.int (((as.map fun k:Nat=>V.int (k:Int)).length:Int)+1),y]))) ok fw eD hY nd mm fun lt zs Hd sd elt hz=>⟨by show 2≤sizeLine;decide,fun tp eQ=>?_⟩⟩
  have st:au Hd (upd Hd tp (.tup [.int (((as.map fun k:Nat=>V.int (k:Int)).length:Int)+1),.ref lt])):=a9 eQ;exact kk tp _ ((s1.trans (s2.trans s3)).trans (sd.trans st)) ⟨lt,zs,by rw [aP,ni],st _ _ elt,hz.mono st⟩
theorem DF:b4 ["found","due","link"] ["found","due"] (bj p4):=cH
theorem DG(T:Txt K mg t):bH P w K mg base b5 2 t.jV t.lr ["found","due"] CD:=by
 have S:=DF;refine T.lN.cU S (fun _ _ _ _ H _ _ _ hr h=>?_);obtain ⟨tp,u,n,L,rfl,hT,hU,iY,kk⟩:=h;have xt:=hr.units
 refine ⟨_,(aW (bY (PW.pt (pw_or (eE (dU (bz (e7 (K:=K)) rfl T.eM boot_isinstance (af (pv 0) (af (eX (v:=.ty "tuple") rfl T.fh boot_tuple rfl) ar))))) (pw_or (b3 mv (bz eZ rfl T.eO eU (af (pv 0) ar)) aq) (pw_or (eE (dU (bu (sD T) hr T.p7 T.i3.kp T.p6 bA (af (aM aT (pv 0) aq) ar)))) (pw_or1 (eE (dU (bz (e7 (K:=K)) rfl T.eM boot_isinstance (af (aM aT (pv 0) aq) (af (eX (v:=.ty "tuple") rfl T.fh boot_tuple rfl) ar)))))))))) (aQ (bb gh)) bX)
  (aW (jh kj rfl (t9 (aM aT (pv 0) aq)) (fC (i:=2) S.nd rfl (Or.inl rfl))
   (aQ (bY (PW.pt (pw_or (eE (dU (bz (e7 (K:=K)) rfl T.eM boot_isinstance (af (pv 2) (af (eX (v:=.ty "tuple") rfl T.fh boot_tuple rfl) ar))))) (pw_or (b3 mv (bz eZ rfl T.eO eU (af (pv 2) ar)) aq) (pw_or (eE (dU (bu (sD T) hr T.p7 T.i3.kp T.p6 bA (af (aM aT (pv 2) aq) ar)))) (pw_or1 (eE (dU (bu (sD T) hr T.p7 T.i3.kp T.p6 bA (af (aM aT (pv 2) aq) ar))))))))) (aQ (bb gh)) bX)))
  (aQ (bb (dq (Bx xt) (pv 0) (pv 1)))))),?_⟩
 obtain ⟨lt,us,fj,elt,hL⟩:=id hT;refine aw fun _ hR=>⟨_,rfl,_,_,_,_,rfl,rfl,.of (.tup fj),rfl,true,rfl,aC ?_⟩;refine ⟨_,rfl,tp,_,rfl,.inr (.of fj),rfl,false,rfl,aC ?_⟩;refine ⟨_,rfl,tp,_,_,_,rfl,rfl,.of fj,rfl,.int (n:Int),rfl,.int _,true,rfl,aC ?_⟩;refine ⟨_,rfl,tp,_,_,_,rfl,rfl,.of fj,rfl,_,_,_,_,rfl,rfl,.of (.tup elt),rfl,true,rfl,aC (hR _ _ ?_)⟩;refine aw fun _ hS=>⟨_,rfl,tp,_,_,_,rfl,rfl,.of fj,rfl,lt,rfl,⟨_,.of elt⟩,?_⟩;refine yh (K:=K) (a:=lt) (xs:=us) (fun k σ Hc=>Hc=H∧∃v2:Option V,σ=[some (.ref tp),some (.ref u),v2]) ⟨rfl,_,rfl⟩ (fun k σ Hc _ ⟨e,_⟩=>e▸.of elt) ?_ ?_
 ·rintro k x σ Hc hx ⟨rfl,v2,rfl⟩
  have hk:k<L.length:=by rw [←hL.1];exact (cq.mp hx).1
  obtain ⟨b,rfl,eb⟩:=hL.2 k x L[k] hx (by simp [hk])
  dsimp only [cT];refine ⟨_,rfl,_,_,_,_,rfl,rfl,.of (.tup eb),rfl,true,rfl,aC ?_⟩;refine ⟨_,rfl,b,_,rfl,.inr (.of eb),rfl,false,rfl,aC ?_⟩;refine ⟨_,rfl,b,_,_,_,rfl,rfl,.of eb,rfl,.int _,rfl,.int _,true,rfl,aC ?_⟩;refine ⟨_,rfl,b,_,_,_,rfl,rfl,.of eb,rfl,.int _,rfl,.int _,true,rfl,aC ?_⟩;exact ⟨rfl,_,rfl⟩
 ·rintro σ Hc ⟨rfl,v2,rfl⟩
  refine hS _ _ ?_;refine ⟨_,rfl,_,rfl,tp,u,n,L,L,rfl,rfl,hT,hU,?_⟩;rw [aG rfl];exact kk _ (au.refl _)
theorem DH:b4 ["script","start","told","due","turn"] ["script"] (bj p5):=cH
theorem DI(T:Txt K mg t):bH P w K mg base b5 9 t.iZ t.jW ["script"] (oN K):=by
 have S:=DH;refine T.lO.cU S (fun _ _ _ _ H _ _ _ hr h=>?_);obtain ⟨a,ns,rfl,hS,hlen,kQ⟩:=h;have xt:=hr.units
 refine ⟨_,(aW (jh kj rfl (uc rfl T.eP (af aq (af (bz (og rfl) rfl T.m_ boot_max (af aq (af (bz (ur rfl) rfl T.sv boot_min (af aq (af (bz eZ rfl T.eO eU (af (pv 0) ar)) ar))) ar))) ar))) (fC (i:=1) S.nd rfl (Or.inl rfl))
   (aW (putL 2 S.nd (bu (Dt T) hr T.wV T.lK.kp T.wU bA (af (bu (Dr T) hr T.wR T.lJ.kp T.wQ bA (af (pv 0) (af (pv 1) ar))) ar)))
  (aW (putL 3 S.nd (bu (DB T) hr T.wX T.lL.kp T.wW bA (af (pv 2) ar)))
  (aQ (jh kj rfl (gp rfl T.eP (af aq ar)) (fC (i:=4) S.nd rfl (Or.inl rfl))
   (aQ (bY (PW.pt (pw_or (eE (dU (bu (DG T) hr T.wZ T.lN.kp T.wY bA (af (bu (xf T) hr T.sr T.jX.kp T.sq u9 (af (pv 2) ar)) (af (pv 3) ar))))) (pw_or1 (b3 Au (bu (Dj T) hr T.wD T.lD.kp T.wC bA (af (bu (xf T) hr T.sr T.jX.kp T.sq u9 (af (pv 2) ar)) ar)) gh)))) (aQ (bb gh)) bX)))))))
  (aQ (bb gh))),?_⟩
 refine aw fun _ hR=>⟨_,rfl,a,_,rfl,.inl hS,_,_,rfl,_,_,rfl,_,_,rfl,⟨by decide,by decide,?_,?_⟩,?_⟩
 ·split <;> split <;> omega
 ·split <;> split <;> omega
 have cnt:∃c:Nat,c≤20∧((if (if ((ns.map V.int).length:Int)<20 then ((ns.map V.int).length:Int) else 20)>1 then (if ((ns.map V.int).length:Int)<20 then ((ns.map V.int).length:Int) else 20) else 1)-0:Int).toNat=c:=⟨_,by split <;> split <;> omega,rfl⟩
 obtain ⟨c,Gq,ec⟩:=cnt;rw [ec];refine iI (fun i σ Hc=>∃(v1 v2 v3 v4:Option V),σ=[some (.ref a),v1,v2,v3,v4]∧au H Hc) ⟨_,_,_,_,rfl,au.refl _⟩ ?_ ?_
 ·rintro i σ Hc hi ⟨v1,v2,v3,v4,rfl,sc⟩
  have DJ:b7 K Hc a (ns.map V.int):=sc.seq hS;dsimp only [cT];refine aw fun _ DK=>cm ⟨_,rfl,_,rfl,a,ns,i,by rw [ey];rfl,DJ,by omega,fun Tp H1 s1 nT tc=>⟨Tp,rfl,tc,fun td N H2 o2 tn ok fw=>DK _ _ ?_⟩⟩
  have s2:au Hc H2:=fun b o e=>o2 b o (fun z=>by rw [z,nT] at e;cases e) (s1 _ _ e)
  refine aw fun _ fT=>cm ⟨_,rfl,td,N,rfl,tn,ok,fw,fun t0 H3 s3 DL=>fT _ _ ?_⟩;have DM:=(sc.trans s2).trans s3;have xu:=tn.mono s3;obtain ⟨n1,fi⟩:=kH ok;have iY:=pd ok fw;refine ⟨2,rfl,by decide,by decide,?_⟩
  refine iI (fun j σ Hd=>∃(v4:Option V),σ=[some (.ref a),some (.int (0+(i:Int))),some (.ref td),some (.ref t0),v4]∧au H3 Hd) ⟨_,rfl,au.refl _⟩ ?_ ?_
  ·rintro j σ Hd hj ⟨v4,rfl,sd⟩
   dsimp only [cT];refine ⟨_,rfl,td,N,rfl,xu.mono sd,ok,fw,fun t1 H4 s4 DN=>?_⟩;refine ⟨_,rfl,t1,t0,N.sz,cC N,rfl,DN,(DL.mono sd).mono s4,by omega,fun H5 s5=>⟨true,rfl,aC ?_⟩⟩
   refine ⟨_,rfl,td,N,rfl,((xu.mono sd).mono s4).mono s5,ok,fw,fun t2 H6 s6 DO=>?_⟩;refine ⟨t2,N.sz,cC N,rfl,DO,by omega,pb,rT,n1,fi,fun H7 s7=>?_⟩
   refine ⟨true,true,rfl,rfl,false,rfl,aC ?_⟩;exact ⟨_,rfl,sd.trans (s4.trans (s5.trans (s6.trans s7)))⟩
  ·rintro σ Hd ⟨v4,rfl,sd⟩
   exact ⟨_,_,_,_,rfl,DM.trans sd⟩
 ·rintro σ Hc ⟨v1,v2,v3,v4,rfl,sc⟩
  refine hR _ _ ?_;exact kQ _
theorem DP{l:PySem.W.OpenLaw}(T:Txt K mg t):∃fd:FuncData,(∀(s:Shared) (v:Value),BindsTo s fd ⟨[v],[]⟩ [("script",v)])∧∀base:Heap,K.In base→base.Ns mainGlobals mg→bH l.prog w K mg base b5 9 t.iZ fd ["script"] (oN K):=by obtain ⟨oc,od,kV,doc,pm,an,bf,ct,gw,e,lk,dS⟩:=T.lO.ex;refine ⟨t.jW,fun s v=>?_,fun base _ _=>DI T⟩;rw [e];exact .of_eq rfl
end
theorem walk{l:PySem.W.OpenLaw}{q:Program}{loose:List Str}{XP:(Str→Option Value)→Heap→Prop}{YP:World→Heap→Prop}{d:DefRec}{K:Params→PySem.W.Frag}(hn:l.most=some 63)(mB:d.params.defaults=[])
  (hY:∀(w:World) (h:Heap),YP w h→(K w.params).In h)
  (F:∀(w:World) (mg:bQ) (fa:Addr) (h:Heap),(K w.params).In h→h.Ns mainGlobals mg→mg d.name=some (.ref fa)→
   ∃fd:FuncData,(∀(s:Shared) (u:Value),BindsTo s fd ⟨[u],[]⟩ [("script",u)])∧∀base:Heap,(K w.params).In base→base.Ns mainGlobals mg→bH l.prog w (K w.params) mg base b5 9 fa fd ["script"] (oN (K w.params))) :
  PySem.W.WalkO q loose XP YP l.row.toRowW d [] (fun f vs=>PySem.call f vs):=
 L2.z6 (n:=63) (k:=9) (x:="script") (CX:=fun _=>b5) (sp:=fun w=>oN (K w.params)) hn (by decide) mB ⟨rfl,by decide,by decide⟩ hY F (fun _ _ a ns hl _ hS=>⟨a,ns,rfl,hS,hl,fun _=>rfl⟩) fun _ _ _ _ _ z=>z
theorem DQ{K:aB}{h:Heap}{mg:bQ}(X:K.In h)(G:h.Ns mainGlobals mg)
  {lu:Addr}
  {DR:Tok}
  {jD jE jF jG jH jI jJ jK jL jM jN jO jP jQ jR jS jT jU jV iZ:Addr} {kP kS kT kU kW kX kY kZ k4 k6 k7 k8 k9 k_ lg lh lp lq lr jW:FuncData}
  (sJ:PySem.W.nsIn K mainGlobals "NoShape"=some (some (.ref lu)))
  (DS:mg "is_whole"=some (.ref jD))
  (iw:bg K "is_whole" pH jD kP)
  (DU:mg "is_rising"=some (.ref jE))
  (lA:bg K "is_rising" pI jE kS)
  (DV:mg "is_place"=some (.ref jF))
  (ix:bg K "is_place" pJ jF kT)
  (DW:mg "is_link"=some (.ref jG))
  (lB:bg K "is_link" pK jG kU)
  (DX:mg "are_links"=some (.ref jH))
  (lC:bg K "are_links" pL jH kW)
  (DY:mg "is_shape"=some (.ref jI))
  (lD:bg K "is_shape" pM jI kX)
  (DZ:mg "is_size"=some (.ref jJ))
  (iy:bg K "is_size" pN jJ kY)
  (D3:mg "are_aheads"=some (.ref jK))
  (lE:bg K "are_aheads" pO jK kZ)
  (D4:mg "is_known"=some (.ref jL))
  (lF:bg K "is_known" pP jL k4)
  (D5:mg "size_of"=some (.ref jM))
  (lG:bg K "size_of" pQ jM k6)
  (D6:mg "are_linked"=some (.ref jN))
  (lH:bg K "are_linked" pR jN k7)
  (D7:mg "named"=some (.ref jO))
  (jX:bg K "named" pS jO k8)
  (D8:mg "_law_acell"=some (.ref jP))
  (lI:bg K "_law_acell" pU jP k9)
  (D9:mg "_law_atape"=some (.ref jQ))
  (lJ:bg K "_law_atape" pV jQ k_)
  (D_:mg "_law_adigit"=some (.ref jR))
  (fS:bg K "_law_adigit" pW jR lg)
  (Ea:mg "_law_awhole"=some (.ref jS))
  (i3:bg K "_law_awhole" pX jS lh)
  (Eb:mg "_law_aname"=some (.ref jT))
  (lK:bg K "_law_aname" pY jT lp)
  (Ec:mg "_law_anamed"=some (.ref jU))
  (lL:bg K "_law_anamed" pZ jU lq)
  (Ed:mg "_law_ashape_right"=some (.ref jV))
  (lN:bg K "_law_ashape_right" p4 jV lr)
  (Ee:mg "law"=some (.ref iZ))
  (lO:bg K "law" p5 iZ jW)
  (sL:PySem.W.nsIn K mainGlobals "ValueError"=some none)
  (sM:PySem.W.nsIn K mainGlobals "all"=some none)
  (sN:PySem.W.nsIn K mainGlobals "bool"=some none)
  (sO:PySem.W.nsIn K mainGlobals "enumerate"=some none)
  (sP:PySem.W.nsIn K mainGlobals "int"=some none)
  (sQ:PySem.W.nsIn K mainGlobals "isinstance"=some none)
  (sR:PySem.W.nsIn K mainGlobals "len"=some none)
  (sS:PySem.W.nsIn K mainGlobals "list"=some none)
  (sU:PySem.W.nsIn K mainGlobals "max"=some none)
  (sW:PySem.W.nsIn K mainGlobals "min"=some none)
  (sX:PySem.W.nsIn K mainGlobals "range"=some none)
  (sY:PySem.W.nsIn K mainGlobals "sorted"=some none)
  (sZ:PySem.W.nsIn K mainGlobals "tuple"=some none)
  (s_:PySem.W.nsIn K mainGlobals "zip"=some none)
  (tu:PySem.W.nsIn K mainGlobals "MOST"=some (some (.int 60 DR)))
  (tw:PySem.W.excIn K lu [.type "ValueError",.type "Exception",.type "BaseException",.type "object"] "ValueError.__new__"=true)
  : ∃t:sk,Txt K mg t:=by
 refine ⟨⟨jD,kP,jE,kS,jF,kT,jG,kU,jH,kW,jI,kX,jJ,kY,jK,kZ,jL,k4,jM,k6,jN,k7,jO,k8,jP,k9,jQ,k_,jR,lg,jS,lh,jT,lp,jU,lq,jV,lr,iZ,jW,lu⟩,?_⟩
 exact {
  iw:=iw
  m4:=iw.cI
  m5:=DS
  lA:=lA
  wu:=lA.cI
  wx:=DU
  ix:=ix
  m6:=ix.cI
  m7:=DV
  lB:=lB
  wy:=lB.cI
  wz:=DW
  lC:=lC
  wA:=lC.cI
  wB:=DX
  lD:=lD
  wC:=lD.cI
  wD:=DY
  iy:=iy
  m8:=iy.cI
  m9:=DZ
  lE:=lE
  wF:=lE.cI
  wG:=D3
  lF:=lF
  wH:=lF.cI
  wI:=D4
  lG:=lG
  wJ:=lG.cI
  wK:=D5
  lH:=lH
  wL:=lH.cI
  wM:=D6
  jX:=jX
  sq:=jX.cI
  sr:=D7
  lI:=lI
  wN:=lI.cI
  wO:=D8
  lJ:=lJ
  wQ:=lJ.cI
  wR:=D9
  fS:=fS
  jY:=fS.cI
  jZ:=D_
  i3:=i3
  p6:=i3.cI
  p7:=Ea
  lK:=lK
  wU:=lK.cI
  wV:=Eb
  lL:=lL
  wW:=lL.cI
  wX:=Ec
  lN:=lN
  wY:=lN.cI
  wZ:=Ed
  lO:=lO
  CN:=lO.cI
  w6:=Ee
  w9:=cw X G sJ
  CO:=dQ X G sL
  p8:=dQ X G sM
  su:=dQ X G sN
  w_:=dQ X G sO
  p9:=dQ X G sP
  eM:=dQ X G sQ
  eO:=dQ X G sR
  CP:=dQ X G sS
  m_:=dQ X G sU
  sv:=dQ X G sW
  eP:=dQ X G sX
  xa:=dQ X G sY
  fh:=dQ X G sZ
  xb:=dQ X G s_
  sC:=⟨_,cw X G tu,_,rfl⟩
  xc:=tw
 }
end My
namespace PySem.W.Fast
def tw7426711350318659202:Unit:=()
def tw1354195016866459466:Unit:=()
def tw14356482615945461141:Unit:=()
def tw14617378445222605361:Unit:=()
def tw10100919313307425265:Unit:=()
def tw10768325961686589159:Unit:=()
def tw14299885476448437083:Unit:=()
def tw17655650633071451137:Unit:=()
def tw18400797436201953798:Unit:=()
def tw15893582731758466547:Unit:=()
def tw2972126158658487687:Unit:=()
def tw8560210195634963707:Unit:=()
def tw18302710630447706730:Unit:=()
def tw15787713055904140535:Unit:=()
def tw15106347876874952770:Unit:=()
def tw427234123789744759:Unit:=()
def tw11017764479919644018:Unit:=()
def tw8434436933532117848:Unit:=()
def tw7361160548390285203:Unit:=()
def tw10174651648360792959:Unit:=()
def tw10988898892149524061:Unit:=()
def tw16699812521665772416:Unit:=()
def tw9203381768490358139:Unit:=()
def tw2757752305794774840:Unit:=()
def tw9810573190530861870:Unit:=()
def tw9748089807233151224:Unit:=()
def tw12279704474265739730:Unit:=()
def tw15870214308893886727:Unit:=()
def tw535555695202037466:Unit:=()
def tw17085710852340939197:Unit:=()
def tw13299081763602648020:Unit:=()
def tw10082829480759612813:Unit:=()
def tw12072184139630941595:Unit:=()
def tw13820866642877539529:Unit:=()
def tw8728639570006573572:Unit:=()
def tw7877263448044960429:Unit:=()
def tw1725402482608015906:Unit:=()
def tw6991261478828284615:Unit:=()
def tw3378916255792454269:Unit:=()
def tw7426071561926042108:Unit:=()
def tw13161064049598696408:Unit:=()
def tw5733349108754002649:Unit:=()
def tw11485122690794295071:Unit:=()
def tw5571051778596674782:Unit:=()
def tw14418542110863811472:Unit:=()
def tw5983908983071057066:Unit:=()
def tw8701935489520419678:Unit:=()
def tw10549016823998485791:Unit:=()
def tw15084440148963712323:Unit:=()
def tw15351792156185462510:Unit:=()
def tw3669124750240489698:Unit:=()
def tw3334573692243059587:Unit:=()
def tw1429038706665093292:Unit:=()
def tw280075788096142671:Unit:=()
def tw17673406045267057324:Unit:=()
def tw12584552470264040023:Unit:=()
def tw6847573464205839254:Unit:=()
def tw7426796859283060811:Unit:=()
def tw8604142552325708602:Unit:=()
def tw6984876892439474670:Unit:=()
def tw10894164633406327185:Unit:=()
def tw15731620841509767060:Unit:=()
def tw11281177969656265528:Unit:=()
def tw5507556826916347690:Unit:=()
def tw5175703142298062961:Unit:=()
def tw167283191735116448:Unit:=()
def tw12739742367737024039:Unit:=()
def tw14871193799161264002:Unit:=()
def tw9505690774942286100:Unit:=()
def tw8771223000336210639:Unit:=()
def tw17889111035328504440:Unit:=()
def tw9626021153789877966:Unit:=()
def tw4146570078969650001:Unit:=()
def tw15225791370216182096:Unit:=()
def tw13917533810235404791:Unit:=()
def tw4326747645707073631:Unit:=()
def tw13669026375132301577:Unit:=()
def tw11084625105700437532:Unit:=()
def tw2667936863508531246:Unit:=()
def tw8824217246262951382:Unit:=()
def tw16947137568562349514:Unit:=()
def tw2923698550924233604:Unit:=()
def tw9228981492405859266:Unit:=()
def tw8709713128220030423:Unit:=()
def tw2351588295213232675:Unit:=()
def tw3573864302109248137:Unit:=()
def tw2836061389330610318:Unit:=()
def tw8234044756457428058:Unit:=()
def tw13266661269428469853:Unit:=()
def tw6208061107779979401:Unit:=()
def tw8177779786377885005:Unit:=()
def tw7888042822786662989:Unit:=()
def tw4453027092730387370:Unit:=()
def tw18337371416109828776:Unit:=()
def tw12015175751052216377:Unit:=()
def tw5279674490913774826:Unit:=()
def tw18200521399229406787:Unit:=()
def tw6530146434573379188:Unit:=()
def tw12917613649460655698:Unit:=()
def tw9338107485411316858:Unit:=()
def tw11709216820968820548:Unit:=()
def tw13946282801160126266:Unit:=()
def tw434954219902682564:Unit:=()
def tw4977305997917296939:Unit:=()
def tw14675655284128855965:Unit:=()
def tw9416331993259488932:Unit:=()
def tw12196734763361308062:Unit:=()
def tw10245444413245208335:Unit:=()
def tw139007399339980670:Unit:=()
def tw4291819055448648830:Unit:=()
end PySem.W.Fast
open PySem PySem.W PyProof.Rows
set_option maxRecDepth 100000 in
set_option maxHeartbeats 0 in
theorem PySem.Challenge.cw_bandwright_k44_named_shapes_holds : PySem.Challenge.rw_bandwright_k44_named_shapes.Holds := by
 w_on;o_law;k_head;(case hw=>w_witness2)
 k_fill
 refine My.walk (l:=PySem.Challenge.rw_bandwright_k44_named_shapes) rfl rfl (fun w h Y=>PySem.W.kIn_of Y) ?F
 case F=>
  intro w mg fa h KX G mC
  have T:∃t,My.Txt (L2.u6 KX) mg t:=by
   dsimp only [L2.u6]
   refine' My.DQ KX G ?sJ (cw KX G ?Ef) (L2.cJ (st:=My.pH) ?Eg ?Eh ?Ei) (cw KX G ?Ej) (L2.cJ (st:=My.pI) ?Ek ?El ?Em) (cw KX G ?En) (L2.cJ (st:=My.pJ) ?Eo ?Ep ?Er) (cw KX G ?Es) (L2.cJ (st:=My.pK) ?Et ?Eu ?Ew) (cw KX G ?Ex) (L2.cJ (st:=My.pL) ?Ey ?Ez ?EA) (cw KX G ?EB) (L2.cJ (st:=My.pM) ?EC ?ED ?EE) (cw KX G ?EF) (L2.cJ (st:=My.pN) ?EG ?EH ?EI) (cw KX G ?EJ) (L2.cJ (st:=My.pO) ?EK ?EL ?EM) (cw KX G ?EN) (L2.cJ (st:=My.pP) ?EO ?ER ?ES) (cw KX G ?ET) (L2.cJ (st:=My.pQ) ?EU ?EV ?EW) (cw KX G ?EX) (L2.cJ (st:=My.pR) ?EY ?EZ ?E1) (cw KX G ?E2) (L2.cJ (st:=My.pS) ?E3 ?E4 ?E5) (cw KX G ?E6) (L2.cJ (st:=My.pU) ?E7 ?E8 ?E9) (cw KX G ?E_) (L2.cJ (st:=My.pV) ?Fb ?Fc ?Fd) (cw KX G ?Fe) (L2.cJ (st:=My.pW) ?Ff ?Fg ?Fi) (cw KX G ?Fj) (L2.cJ (st:=My.pX) ?Fl ?Fo ?Fp) (cw KX G ?Fq) (L2.cJ (st:=My.pY) ?Ft ?Fv ?Fw) (cw KX G ?Fx) (L2.cJ (st:=My.pZ) ?Fy ?Fz ?FA) (cw KX G ?FD) (L2.cJ (st:=My.p4) ?FE ?FF ?FG) (cw KX G ?FH) (L2.cJ (st:=My.p5) ?FI ?FJ ?FL) ?sL ?sM ?sN ?sO ?sP ?sQ ?sR ?sS ?sU ?sW ?sX ?sY ?sZ ?s_ ?tu ?tw
   (case sJ|Ef|Eg|Eh|Ei|Ej|Ek|El|Em|En|Eo|Ep|Er|Es|Et|Eu|Ew|Ex|Ey|Ez|EA|EB|EC|ED|EE|EF|EG|EH|EI|EJ|EK|EL|EM|EN|EO|ER|ES|ET|EU|EV|EW|EX|EY|EZ|E1|E2|E3|E4|E5|E6|E7|E8|E9|E_|Fb|Fc|Fd|Fe|Ff|Fg|Fi|Fj|Fl|Fo|Fp|Fq|Ft|Fv|Fw|Fx|Fy|Fz|FA|FD|FE|FF|FG|FH|FI|FJ|FL|sL|sM|sN|sO|sP|sQ|sR|sS|sU|sW|sX|sY|sZ|s_|tu=>k_is)
   (case tw=>k_exc)
  obtain ⟨t,T⟩:=T
  have e0:=mC.symm.trans T.w6
  cases e0
  exact My.DP T
#print axioms PySem.Challenge.cw_bandwright_k44_named_shapes_holds
