import PyProof.Rows.All
import Wide.All
import OpenK.AllK
import Wide.FinOn
import Lean
import PyProof.EqAt
import PyProof.EqKinds
import PyProof.TupleCall
import PySem.Challenge.RW_bandwright_k15_shapes_of_anything
set_option Elab.async false
set_option linter.all false
set_option maxRecDepth 100000
abbrev bp:=@decide_eq_false
abbrev aj:=@if_pos
abbrev ae:=@if_neg
abbrev a0:=@PySem.Heap.lt_size
abbrev di:=@Nat.lt_of_lt_of_le
abbrev d7:=@Nat.lt_irrefl
abbrev bV:=@Nat.ne_of_lt
abbrev oT:=@List.mem_filter
abbrev gN:=@List.mem_range
abbrev cf:=@Nat.le_trans
abbrev iT:=@Nat.le_of_lt
abbrev eZ:=@List.mem_cons_self
abbrev dN:=@List.mem_cons_of_mem
abbrev cE:=@List.mem_cons
abbrev fG:=@Ne.symm
abbrev d8:=@List.mem_append
abbrev cg:=@List.getElem?_eq_some_iff
abbrev rb:=@List.getElem_inj
abbrev bC:=@PySem.wpAny_mono
abbrev jF:=@PySem.wpAny_truthy_bool
abbrev e8:=@Array.length_toList
abbrev cy:=@congrArg
abbrev rf:=@PySem.wpAny_execs_nil
abbrev ao:=@PySem.wpAny_bind
abbrev ic:=@PySem.wpAny_holding
abbrev kD:=@PySem.wpAny_passesOwn
abbrev bW:=@Bool.false_ne_true
abbrev aH:=@PySem.wpAny_pure
abbrev a8:=@PySem.Heap.get?_push_of_some
abbrev bZ:=@PySem.Heap.get?_push_size
abbrev aC:=@Nat.le_refl
abbrev rg:=@PyProof.Rows.callWith_type1
abbrev dv:=@List.mem_append_right
abbrev bG:=@Nat.zero_le
abbrev oU:=@Bool.eq_iff_iff
abbrev jG:=@PySem.sizeLine_eq
abbrev fH:=@PySem.W.kia_one
abbrev oV:=@List.append_nil
abbrev iU:=@List.nodup_cons
abbrev iV:=@List.length_take
abbrev iW:=@PySem.mem_of_lookup
abbrev dO:=@List.getElem?_append_right
abbrev eG:=@List.getElem?_append_left
abbrev dj:=@List.getElem?_map
abbrev mJ:=@List.mem_of_getElem?
abbrev d9:=@List.length_append
abbrev ba:=@List.length_map
abbrev dm:=@List.length_cons
abbrev mK:=@List.length_nil
abbrev bg:=@decide_eq_true
abbrev vc:=@PySem.F.slot_tuple_add
abbrev vd:=@PySem.F.entry_tuple_add
abbrev ve:=@PySem.F.args_tuple_add_2
abbrev bK:=@List.size_toArray
abbrev cZ:=@Int.toNat_natCast
abbrev iX:=@if_false
abbrev iY:=@PySem.wpAny_field
abbrev jH:=@List.length_drop
abbrev kE:=@PySem.wpAny_callSpecial?_slot
abbrev mL:=@PyProof.Rows.slot_tuple_getitem
abbrev ie:=@PySem.wpAny_call_entry
abbrev oW:=@PySem.wpAny_typeOf
abbrev kF:=@Bool.and_eq_true
abbrev fI:=@PySem.wpAny_newObj_type
abbrev cR:=@List.map_cons
abbrev oX:=@PySem.Heap.get?_update_self
abbrev rh:=@PySem.Heap.get?_update_other
abbrev oY:=@List.length_singleton
abbrev vf:=@Array.getElem?_toList
abbrev cS:=@PySem.W.mg_of
abbrev mM:=@Nat.lt_of_le_of_lt
abbrev vg:=@PySem.F.typeOf_object_class
abbrev oZ:=@PySem.wpAny_loadPart_at
abbrev rj:=@List.all_eq_true
abbrev vh:=@PySem.wpAny_comprehension_free
abbrev jI:=@PySem.lookup_relabel_local
abbrev vi:=@PySem.codeAny_compStart_list
abbrev bS:=@Int.le_of_lt
abbrev jJ:=@List.getD_eq_getElem?_getD
abbrev e9:=@List.mem_singleton
abbrev rm:=@List.length_range
abbrev vj:=@Array.getElem?_eq_some_iff
abbrev dw:=@List.getElem_mem
abbrev mN:=@Nat.sub_self
abbrev o1:=@List.ext_getElem?
abbrev mO:=@List.getElem?_eq_none
abbrev jK:=@List.range_succ
abbrev iZ:=@List.map_append
abbrev mP:=@List.map_congr_left
abbrev o4:=@List.ext_getElem
abbrev ar:=@PyProof.Rows.wpS_bind
abbrev fJ:=@PyProof.Rows.wpS_get
abbrev o5:=@PySem.wpAny_attempt
abbrev aq:=@PyProof.Rows.wpS_pure
abbrev dy:=@PyProof.Rows.wpS_forRange
abbrev dP:=@PyProof.Rows.wpS_mono
abbrev kG:=@List.perm_append_comm
abbrev mQ:=@List.take_append_drop
abbrev o6:=@List.mem_of_mem_take
abbrev gm:=@List.append_assoc
abbrev vk:=@List.Perm.append_left
abbrev rn:=@List.mem_of_mem_drop
abbrev i3:=@Int.le_refl
abbrev o7:=@List.pairwise_iff_getElem
abbrev gO:=@PyProof.Rows.wpS_modify
abbrev e_:=@of_decide_eq_true
abbrev b6:=@Int.le_trans
abbrev jL:=@Array.toList_push
abbrev ig:=@Array.toList_append
abbrev gP:=@PySem.wpAny_rule
abbrev rp:=@Array.toList_reverse
abbrev jM:=@List.mem_reverse
abbrev mR:=@List.reverse_perm
abbrev dz:=@Nat.zero_add
abbrev o8:=@Nat.add_zero
abbrev mS:=@List.getElem?_drop
abbrev o9:=@Array.perm_iff_toList_perm
abbrev bX:=@List.getElem?_eq_getElem
abbrev rq:=@decide_eq_decide
abbrev o_:=@List.map_map
abbrev mT:=@PySem.Heap.get?_push_ne
abbrev pb:=@Nat.lt_succ_of_lt
abbrev rz:=@PySem.Heap.get?_update_ne
abbrev rA:=@Bool.false_eq_true
abbrev rB:=@List.length_eq_zero_iff
abbrev pd:=@List.nodup_range
abbrev rC:=@List.getElem_map
abbrev ph:=@List.nodup_nil
abbrev ik:=@List.mem_map
abbrev dQ:=@Int.eq_ofNat_of_zero_le
abbrev pj:=@List.take_succ
abbrev mU:=@List.take_length
abbrev mV:=@List.pairwise_cons
abbrev rD:=@Nat.add_sub_cancel
abbrev mW:=@List.find?_cons
abbrev jN:=@decide_eq_true_iff
abbrev pA:=@PySem.wpAny_seqItems
abbrev rE:=@PySem.Obj.data_mapFields
abbrev rF:=@PySem.Heap.SameBut.update
abbrev pC:=@PySem.wpAny_setField_rec
abbrev kH:=@List.not_mem_nil
abbrev rG:=@PySem.F.slot_zip_next
abbrev rH:=@Nat.le_add_right
abbrev pD:=@List.getElem?_zip_eq_some
abbrev il:=@List.sum_cons
abbrev pE:=@PySem.F.slot_dict_keyiterator_next
abbrev rJ:=@PySem.wpAny_typeNameOfWhole_keyiter
abbrev rK:=@PySem.wpAny_typeNameOf_keyiter
abbrev rN:=@Array.getElem?_eq_getElem
abbrev vn:=@Array.getElem?_eq_none
abbrev pF:=@Bool.or_false
abbrev vp:=@List.perm_ext_iff_of_nodup
abbrev mX:=@List.getElem?_of_mem
abbrev rO:=@List.sum_append
abbrev vt:=@List.filterMap_append
abbrev rP:=@List.nodup_iff_pairwise_ne
abbrev i4:=@PySem.boot_len
abbrev d_:=@PySem.PassesOwn.never
abbrev vv:=@PyProof.Rows.boot_sorted
abbrev eh:=@List.set_cons_zero
abbrev ei:=@List.set_cons_succ
abbrev jO:=@Int.zero_add
abbrev fK:=@PySem.F.plainAttrs_list
abbrev gQ:=@PySem.F.slot_list_append
abbrev gR:=@PySem.F.type_list_append
abbrev i5:=@Int.emod_nonneg
abbrev kI:=@Int.emod_lt_of_pos
abbrev rQ:=@Int.ediv_nonneg
abbrev pG:=@Nat.mul_le_mul
abbrev fL:=@PySem.W.mg_none_of
abbrev Nw:=List (List (Int×Int))
abbrev aK:=List (Int×Int)
abbrev NA:=Nat→Nat→Int
abbrev bY:=PySem.Str→Option PySem.Value
abbrev aF:=PySem.Value→PySem.Shared→Prop
abbrev aG:=PySem.W.Frag
abbrev aL:=List (PySem.Addr×PySem.Obj)
namespace L2
open PySem PySem.Spec PyProof.Rows
abbrev Key:=Sum Int Str
def jP:Key→Value→Bool
 | .inl k,v=>Value.isInt k v
 | .inr x,v=>Value.isStrOf x v
def C0(w:World):Key→Int
 | .inl k=>hashInt k
 | .inr x=>hashStr w x
theorem ip:∀{k:Key} {v:Value},jP k v=true→(∃i t,k=Sum.inl i∧v=Value.int i t)∨(∃x t,k=Sum.inr x∧v=Value.str x t)
 | .inl i,v,h=>by obtain ⟨t,e⟩:=Value.isInt_shape (k:=i) (v:=v) h;exact .inl ⟨i,t,rfl,e⟩
 | .inr x,v,h=>by obtain ⟨t,e⟩:=Value.isStrOf_shape (x:=x) (v:=v) h;exact .inr ⟨x,t,rfl,e⟩
theorem C1(i:Int)(t:Tok):jP (.inl i) (.int i t)=true:=by simp [jP,Value.isInt]
theorem C2(x:Str)(t:Tok):jP (.inr x) (.str x t)=true:=by simp [jP,Value.isStrOf]
theorem C3(a b:Int):decide ((Sum.inl a:Key)=Sum.inl b)=(a == b):=by
 by_cases e:a=b;·subst e;simp
 ·have h:¬(Sum.inl a:Key)=Sum.inl b:=fun q=>e (Sum.inl.inj q)
  rw [bp h];exact (beq_eq_false_iff_ne.mpr e).symm
theorem C4(a b:Str):decide ((Sum.inr a:Key)=Sum.inr b)=decide (a=b):=by
 by_cases e:a=b;·subst e;simp
 ·have h:¬(Sum.inr a:Key)=Sum.inr b:=fun q=>e (Sum.inr.inj q)
  rw [bp h,bp e]
theorem C5(a:Int)(b:Str):decide ((Sum.inl a:Key)=Sum.inr b)=false:=bp (fun q=>nomatch q)
theorem C6(a:Str)(b:Int):decide ((Sum.inr a:Key)=Sum.inl b)=false:=bp (fun q=>nomatch q)
def dR(prog:Program)(w:World):PySem.KeyKind prog w Key where
 is:=jP
 hash:=C0 w
 inj:=fun v a b ha hb=>by
  rcases ip ha with ⟨i,t,rfl,rfl⟩ | ⟨x,t,rfl,rfl⟩
  ·rcases ip hb with ⟨j,u,rfl,e⟩ | ⟨y,u,rfl,e⟩
   ·injection e with e1 _;rw [e1]
   ·exact nomatch e
  ·rcases ip hb with ⟨j,u,rfl,e⟩ | ⟨y,u,rfl,e⟩
   ·exact nomatch e
   ·injection e with e1 _;rw [e1]
 byValue:=fun k v h=>by
  rcases ip h with ⟨i,t,rfl,rfl⟩ | ⟨x,t,rfl,rfl⟩ <;> rfl
 pyHash:=fun hv h=>by
  rcases ip hv with ⟨i,t,rfl,rfl⟩ | ⟨x,t,rfl,rfl⟩
  ·exact wpAny_pyHash_int h
  ·exact wpAny_pyHash_str h
 eqBool:=fun hu hv h=>by
  rcases ip hu with ⟨i,t,rfl,rfl⟩ | ⟨x,t,rfl,rfl⟩
  ·rcases ip hv with ⟨j,u,rfl,rfl⟩ | ⟨y,u,rfl,rfl⟩
   ·rw [C3] at h;exact wpAny_eqBool_int h
   ·rw [C5] at h;exact SeqAt.EqAt.int_str i t y u _ _ _ _ h
  ·rcases ip hv with ⟨j,u,rfl,rfl⟩ | ⟨y,u,rfl,rfl⟩
   ·rw [C6] at h;exact SeqAt.EqAt.str_int x t j u _ _ _ _ h
   ·rw [C4] at h;exact wpAny_eqBool_str h
 «strs»:=fun k x t v h=>by
  rcases ip h with ⟨i,u,rfl,e⟩ | ⟨y,u,rfl,e⟩
  ·exact nomatch e
  ·injection e with e1 _
   subst e1
   cases v <;> rfl
theorem C7(prog:Program)(w:World)(i:Int)(t:Tok):(dR prog w).is (.inl i) (.int i t)=true:=C1 i t
theorem C8(prog:Program)(w:World)(x:Str)(t:Tok):(dR prog w).is (.inr x) (.str x t)=true:=C2 x t
inductive V where
 | aI | bl (b:Bool) | int (i:Int) | str (x:Str) | gS (b:Array UInt8) | mY (b:UInt64) | ref (a:Addr) | ty (n:String)
 deriving DecidableEq
def RelV:V→Value→Prop
 | .aI,u=>u=Value.none
 | .bl b,u=>u=Value.bool b
 | .int i,u=>∃t,u=Value.int i t
 | .str x,u=>∃t,u=Value.str x t
 | .gS b,u=>∃t,u=Value.bytes b t
 | .mY b,u=>∃t,u=Value.float b t
 | .ref a,u=>u=Value.ref a
 | .ty n,u=>u=Value.type n
abbrev Vals:List V→List Value→Prop:=Paired RelV
variable {xs:List V} {us:List Value}
theorem Vals.length(r:Vals xs us):xs.length=us.length:=Paired.length r
theorem Vals.get:∀{xs:List V} {us:List Value} {i:Nat} {x:V},Vals xs us→xs[i]?=some x→∃u,us[i]?=some u∧RelV x u
 | _,_,_,_,.nil,e=>by simp at e
 | _,_,0,_,.cons r _,e=>by simp at e;subst e;exact ⟨_,rfl,r⟩
 | _,_,i+1,x,.cons _ t,e=>by
  obtain ⟨u,h1,h2⟩:=Vals.get (i:=i) (x:=x) t (by simpa using e)
  exact ⟨u,by simpa using h1,h2⟩
theorem Vals.set{x:V}{u:Value}(r:RelV x u):∀{xs:List V} {us:List Value} (i:Nat),Vals xs us→Vals (xs.set i x) (us.set i u)
 | _,_,_,.nil=>.nil
 | _,_,0,.cons _ t=>.cons r t
 | _,_,i+1,.cons q t=>.cons q (Vals.set r i t)
theorem Vals.append:∀{xs ys:List V} {us ws:List Value},Vals xs us→Vals ys ws→Vals (xs++ys) (us++ws)
 | _,_,_,_,.nil,s=>s
 | _,_,_,_,.cons r t,s=>.cons r (Vals.append t s)
theorem Vals.take:∀{xs:List V} {us:List Value} (n:Nat),Vals xs us→Vals (xs.take n) (us.take n)
 | _,_,0,_=>.nil
 | _,_,_+1,.nil=>.nil
 | _,_,n+1,.cons r t=>.cons r (Vals.take n t)
theorem Vals.drop:∀{xs:List V} {us:List Value} (n:Nat),Vals xs us→Vals (xs.drop n) (us.drop n)
 | _,_,0,r=>r
 | _,_,_+1,.nil=>.nil
 | _,_,n+1,.cons _ t=>Vals.drop n t
theorem Vals.none_of:∀{xs:List V} {us:List Value} {i:Nat},Vals xs us→xs[i]?=none→us[i]?=none:=fun{xs us i} r e=>by have h1:=r.length;have h2:xs.length≤i:=List.getElem?_eq_none_iff.mp e;exact List.getElem?_eq_none_iff.mpr (by omega)
def kJ:Option V→Option Value→Prop
 | some v,some u=>RelV v u
 | none,none=>True
 | _,_=>False
def KV{κ:Type}:List (κ×V)→List (κ×Value)→Prop:=Paired fun(p:κ×V) (q:κ×Value)=>p.1=q.1∧RelV p.2 q.2
def kV:Key→V
 | .inl i=>.int i
 | .inr x=>.str x
inductive HO where
 | lst (xs:List V)
 | tup (xs:List V)
 | dK (kvs:List (Key×V)) | dT (kvs:List (List Key×V))
 | set (S:Int→Bool) (n:Nat)
 | ins (C dx:Addr) (fs:List (Str×V))
 | own (x:Addr)
 | xd (fs:List (Str×V))
 | met (f x:Addr)
 | iq (lo hi:Int)
 | bN (o:Obj) (u:HO)
 | kK (ps:Array Value)
 | ext (φ:Heap→Prop)
abbrev Hp:=Addr→Option HO
def upd(H:Hp)(a:Addr)(o:HO):Hp:=fun b=>if b=a then some o else H b
variable {H:Hp} {a:Addr} {o:HO}
theorem ax:upd H a o a=some o:=by unfold upd;rw [aj rfl]
variable {b:Addr}
theorem bf(h:b≠a):upd H a o b=H b:=by unfold upd;rw [ae h]
theorem C9{u:HO}(h:H a=some o)(h':H b=some u)(d:o≠u):a≠b:=by intro e;subst e;rw [h] at h';exact d (Option.some.inj h')
theorem gp(h:H a=some o)(h':H b=none):a≠b:=by intro e;subst e;rw [h] at h';cases h'
section
variable (P:Program) (w:World)
def bH(H:Hp)(h:Heap)(a:Addr):HO→Prop
 | .lst xs=>xs.length≤sizeLine∧∃(ak:List Value) (n:Nat),Vals xs ak∧h.get? a=some {cls:=.type "list",data:=.seq ak.toArray n}
 | .tup xs=>xs.length≤sizeLine∧∃ak:List Value,Vals xs ak∧IsTup h a ak.toArray
 | .dK kvs=>kvs.length≤sizeLine∧(a == sysModules)=false∧∃vs,KV kvs vs∧h.DictOf (dR P w) a vs
 | .dT kvs=>kvs.length≤sizeLine∧(a == sysModules)=false∧∃xs:List (List Key×Addr×Value),
   Paired (fun(p:List Key×V) (q:List Key×Addr×Value)=>p.1=q.1∧H q.2.1=some (.tup (p.1.map kV))∧RelV p.2 q.2.2) kvs xs ∧
   ∃o es ep,h.get? a=some o∧o.ExactDict∧o.data=.dict es ep∧es.toList=xs.map (entryOfKey (tupleKind (dR P w)))∧(xs.map (·.1)).Nodup
 | .set S n=>h.SetOf (intKind P w) a S n
 | .ins C dx fs=>H dx=some (.own a)∧fs.length≤1000∧dx≠a∧h.get? a=some (PySem.W.instObj C dx) ∧
   ∃mA,h.Ns1 dx mA∧(∀f,kJ (fs.lookup f) (mA f))∧PySem.Within mA (fs.map (·.1))
 | .own _=>∃o,h.get? a=some o
 | .xd fs=>∃mA,h.Ns1 a mA∧∀f,kJ (fs.lookup f) (mA f)
 | .iq lo hi=>∃t u v,h.get? a=some {cls:=.type "range",data:=.fields #[.int lo t,.int hi u,.int 1 v]}
 | .bN o u=>h.get? a=some o∧bH H h a u
 | .kK ps=>h.get? a=some {cls:=.none,data:=.fields ps}
 | .met f x=>h.get? a=some (PySem.W.methodObj (.ref f) (.ref x))
 | .ext φ=>φ h∧(∃o,h.get? a=some o)∧∀h1 h2:Heap,φ h1→(∀o,h1.get? a=some o→h2.get? a=some o)→φ h2
def bD(H:Hp)(h:Heap):Prop:=∀a o,H a=some o→bH P w H h a o
end
section
variable {P:Program} {w:World} {H H':Hp} {h h':Heap} {a:Addr} {o:HO}
theorem bH.lt(x:bH P w H h a o):a<h.objs.size:=by
 cases o with
 | lst xs=>obtain ⟨_,_,_,_,e⟩:=x;exact a0 e
 | tup xs=>obtain ⟨_,_,_,p⟩:=x;exact p.lt
 | dK kvs=>obtain ⟨_,_,_,_,o,_,_,e,_⟩:=x;exact a0 e
 | dT kvs=>obtain ⟨_,_,_,_,o,_,_,e,_⟩:=x;exact a0 e
 | set S n=>obtain ⟨o,_,_,_,e,_⟩:=x;exact a0 e
 | ins C dx fs=>obtain ⟨_,_,_,e,_⟩:=x;exact a0 e
 | own y=>obtain ⟨_,e⟩:=x;exact a0 e
 | xd fs=>obtain ⟨_,⟨_,_,_,e,_⟩,_⟩:=x;exact a0 e
 | iq lo hi=>obtain ⟨_,_,_,e⟩:=x;exact a0 e
 | bN ob u=>obtain ⟨e,_⟩:=x;exact a0 e
 | kK ps=>exact a0 (show h.get? a=some _ from x)
 | met f y=>exact a0 (show h.get? a=some _ from x)
 | ext φ=>obtain ⟨_,⟨_,e⟩,_⟩:=x;exact a0 e
theorem Paired.vw{α β:Type}{F G:α→β→Prop}:∀{l₁:List α} {l₂:List β},Paired F l₁ l₂→(∀a b,F a b→G a b)→Paired G l₁ l₂
 | _,_,.nil,_=>.nil
 | _,_,.cons r t,f=>.cons (f _ _ r) (Paired.vw t f)
theorem bH.ir(x:bH P w H h a o)(k:∀b u,(b=a∨H b=some (.own a))→h.get? b=some u→h'.get? b=some u)
  (ho:∀b,H b=some (.own a)→H' b=some (.own a)) (ht:∀b xs,H b=some (.tup xs)→H' b=some (.tup xs)):bH P w H' h' a o:=by
 induction o with
 | lst xs=>obtain ⟨z,ak,n,r,e⟩:=x;exact ⟨z,ak,n,r,k _ _ (.inl rfl) e⟩
 | tup xs=>obtain ⟨z,ak,r,ob,e,c⟩:=x;exact ⟨z,ak,r,ob,k _ _ (.inl rfl) e,c⟩
 | dK kvs=>obtain ⟨z,y,vs,r,ob,es,ep,e,c⟩:=x;exact ⟨z,y,vs,r,ob,es,ep,k _ _ (.inl rfl) e,c⟩
 | dT kvs=>obtain ⟨z,y,xs,r,ob,es,ep,e,c⟩:=x;exact ⟨z,y,xs,Paired.vw r fun p q z=>⟨z.1,ht _ _ z.2.1,z.2.2⟩,ob,es,ep,k _ _ (.inl rfl) e,c⟩
 | set S n=>obtain ⟨ob,es,ep,t,e,c⟩:=x;exact ⟨ob,es,ep,t,k _ _ (.inl rfl) e,c⟩
 | ins C dx fs=>obtain ⟨d,z,ne,e,mA,⟨od,es,ep,e2,c⟩,r⟩:=x;exact ⟨ho _ d,z,ne,k _ _ (.inl rfl) e,mA,⟨od,es,ep,k _ _ (.inr d) e2,c⟩,r⟩
 | own y=>obtain ⟨ob,e⟩:=x;exact ⟨ob,k _ _ (.inl rfl) e⟩
 | xd fs=>obtain ⟨mA,⟨od,es,ep,e,c⟩,r⟩:=x;exact ⟨mA,⟨od,es,ep,k _ _ (.inl rfl) e,c⟩,r⟩
 | iq lo hi=>obtain ⟨t,u,v,e⟩:=x;exact ⟨t,u,v,k _ _ (.inl rfl) e⟩
 | bN ob u ih=>obtain ⟨e,q⟩:=x;exact ⟨k _ _ (.inl rfl) e,ih q⟩
 | kK ps=>have e:h.get? a=some {cls:=.none,data:=.fields ps}:=x;show h'.get? a=some {cls:=.none,data:=.fields ps};exact k a _ (.inl rfl) e
 | met f y=>have e:h.get? a=some (PySem.W.methodObj (.ref f) (.ref y)):=x;show h'.get? a=some (PySem.W.methodObj (.ref f) (.ref y));exact k a _ (.inl rfl) e
 | ext φ=>obtain ⟨p,⟨o,e⟩,st⟩:=x;exact ⟨st _ _ p fun o q=>k _ _ (.inl rfl) q,⟨o,k _ _ (.inl rfl) e⟩,st⟩
theorem bD.lt(x:bD P w H h)(e:H a=some o):a<h.objs.size:=(x a o e).lt
theorem bD.fresh(x:bD P w H h)(e:h.objs.size≤a):H a=none:=by
 cases q:H a with
 | none=>rfl
 | some u=>exact absurd (di (x.lt q) e) (d7 _)
theorem bD.kept(x:bD P w H h)(k:∀b u,h.get? b=some u→h'.get? b=some u):bD P w H h':=fun a o e=>(x a o e).ir (fun b u _ q=>k b u q) (fun _ q=>q) fun _ _ q=>q
theorem bD.laid(x:bD P w H h)(k:∀b u,h.get? b=some u→h'.get? b=some u)(hp:h.objs.size≤a)(new:bH P w (upd H a o) h' a o):bD P w (upd H a o) h':=fun b u e=>by
 have hn:=x.fresh hp;by_cases hb:b=a;·subst hb;rw [ax] at e;cases e;exact new
 ·rw [bf hb] at e
  exact (x b u e).ir (fun c v _ q=>k c v q) (fun c q=>by rw [bf (gp q hn)];exact q) fun c xs q=>by rw [bf (gp q hn)];exact q
end
def Rd(H:Hp)(a:Addr)(u:HO):Prop:=H a=some u∨∃o,H a=some (.bN o u)
variable {P:Program} {w:World} {h:Heap}
theorem Rd.ok{u:HO}(r:Rd H a u)(x:bD P w H h):bH P w H h a u:=by
 rcases r with r | ⟨o,r⟩;·exact x a u r
 ·obtain ⟨_,q⟩:=x a _ r
  exact q
def pH:Option HO→Prop
 | some (.lst _)=>True
 | some (.dK _)=>True
 | some (.dT _)=>True
 | some (.set _ _)=>True
 | some (.ins _ _ _)=>True
 | some (.ext _)=>True
 | _=>False
section
variable {P:Program} {w:World} {H:Hp} {h h':Heap} {x e:Addr} {o':HO}
theorem bD.write(ok:bD P w H h)(mu:pH (H x))(he:e=x∨H e=some (.own x))(k:∀b u,b≠e→h.get? b=some u→h'.get? b=some u)(mZ:∃u,h'.get? e=some u)
  (new:bH P w (upd H x o') h' x o'):bD P w (upd H x o') h':=fun b u q=>by
 have yn:∀c y,H c=some (.own y)→c≠x:=fun c y r z=>by subst z;rw [r] at mu;exact mu
 have C_:∀c xs,H c=some (.tup xs)→c≠x:=fun c xs r z=>by subst z;rw [r] at mu;exact mu
 by_cases hb:b=x;·subst hb;rw [ax] at q;cases q;exact new
 ·rw [bf hb] at q
  by_cases kL:b=e
  ·have q':H b=some (.own x):=by
    rcases he with z | z;·exact absurd (kL.trans z) hb
    ·rw [kL];exact z
   rw [q] at q';cases q';obtain ⟨v,hv⟩:=mZ;exact ⟨v,by rw [kL];exact hv⟩
  ·refine (ok b u q).ir (fun c v hc r=>k c v ?_ r) (fun c r=>by rw [bf (yn c b r)];exact r) fun c xs r=>by rw [bf (C_ c xs r)];exact r
   rcases hc with rfl | hc;·exact kL
   ·rintro rfl
    rcases he with z | z;·exact yn c b hc z
    ·rw [hc] at z;cases z;exact hb rfl
end
structure Un (fs ex:List Addr) (H H':Hp) (h h':Heap):Prop where
 keep:∀b o,h.get? b=some o→H b=none→b∉fs→b∉ex→h'.get? b=some o
 slot:∀b o,h.get? b=some o→H b=none→b∈fs→b∉ex→∃sl,h'.get? b=some {o with slots:=sl}
 free:∀b o,h.get? b=some o→H b=none→b∉ex→H' b=none
 there:∀b o,h.get? b=some o→b∉ex→∃o',h'.get? b=some o'
 gT:∀b xs,H b=some (.tup xs)→H' b=some (.tup xs)
 gq:∀b o u,H b=some (.bN o u)→H' b=some (.bN o u)
 gU:∀b ps,H b=some (.kK ps)→∃more,H' b=some (.kK (ps++more))
section
variable {fs vx ex vy:List Addr} {H H1 H2:Hp} {h h1 h2 h':Heap} {a x e:Addr} {o:HO}
theorem Un.any(u:Un fs ex H H1 h h1){ob:Obj}(q:h.get? b=some ob)(n:H b=none)(hx:b∉ex):∃sl,h1.get? b=some {ob with slots:=sl}:=by
 by_cases hb:b∈fs;·exact u.slot b ob q n hb hx
 ·exact ⟨ob.slots,u.keep b ob q n hb hx⟩
theorem Un.kept(k:∀b u,h.get? b=some u→h'.get? b=some u):Un fs ex H H h h':=
 ⟨fun b ob q _ _ _=>k b ob q,fun b ob q _ _ _=>⟨ob.slots,k b ob q⟩,fun _ _ _ n _=>n,fun b ob q _=>⟨ob,k b ob q⟩,fun _ _ q=>q,fun _ _ _ q=>q,fun _ ps q=>⟨#[],by rw [q];simp⟩⟩
theorem Un.refl:Un fs ex H H h h:=Un.kept fun _ _ q=>q
theorem Un.laid(k:∀b u,h.get? b=some u→h'.get? b=some u)(hp:h.objs.size≤a)(hn:H a=none):Un fs ex H (upd H a o) h h' where
 keep:=fun b u q _ _ _=>k b u q
 slot:=fun b u q _ _ _=>⟨u.slots,k b u q⟩
 free:=fun b u q n _=>by rw [bf (bV (di (a0 q) hp))];exact n
 there:=fun b u q _=>⟨u,k b u q⟩
 gT:=fun b xs q=>by rw [bf (gp q hn)];exact q
 gq:=fun b u xs q=>by rw [bf (gp q hn)];exact q
 gU:=fun b ps q=>⟨#[],by rw [bf (gp q hn),q];simp⟩
theorem Un.write(mu:pH (H x))(he:e=x∨H e=some (.own x))(k:∀b u,b≠e→h.get? b=some u→h'.get? b=some u)(mZ:∃u,h'.get? e=some u):Un fs ex H (upd H x o) h h':=by
 have hx:∀b,H b=none→b≠x:=fun b n z=>by subst z;rw [n] at mu;exact mu
 have hb:∀b,H b=none→b≠e:=fun b n z=>by
  subst z;rcases he with r | r;·exact hx b n r
  ·rw [n] at r;cases r
 have hm:∀b u,H b=some u→¬pH (some u)→b≠x:=fun b u q nm z=>by subst z;rw [q] at mu;exact nm mu
 refine ⟨fun b u q n _ _=>k b u (hb b n) q,fun b u q n _ _=>⟨u.slots,k b u (hb b n) q⟩,fun b u q n _=>by rw [bf (hx b n)];exact n,fun b u q _=>?_,
  fun b xs q=>by rw [bf (hm b _ q fun z=>z)];exact q,fun b u xs q=>by rw [bf (hm b _ q fun z=>z)];exact q,fun b ps q=>⟨#[],by rw [bf (hm b _ q fun z=>z),q];simp⟩⟩
 by_cases kL:b=e;·subst kL;exact mZ
 ·exact ⟨u,k b u kL q⟩
end
def rR(h:Heap)(H:Hp):List Addr:=(List.range h.objs.size).filter fun a=>(H a).isSome
def i6(h:Heap)(H:Hp):Heap:=PySem.W.hideAll h (rR h H)
theorem Dc(h:Heap)(H:Hp):(i6 h H).objs.size=h.objs.size:=PySem.W.hideAll_size _ _
theorem De{o:Obj}(e:h.get? b=some o)(n:H b=none):(i6 h H).get? b=some o:=
 PySem.W.hideAll_get _ e fun hm=>by have q:(H b).isSome=true:=(oT.mp hm).2;rw [n] at q;simp at q
theorem Df{o:Obj}(e:(i6 h H).get? b=some o):h.get? b=some o∧H b=none:=by
 have e':h.get? b=some o:=PySem.W.of_hideAll (rR h H) e;refine ⟨e',?_⟩;cases q:H b with
 | none=>rfl
 | some x=>
  have hm:b∈rR h H:=oT.mpr ⟨gN.mpr (a0 e'),by simp [q]⟩
  have z:(i6 h H).get? b=none:=PySem.W.hideAll_none (rR h H) hm;rw [z] at e;cases e
structure Mod (K:aG) (mg:bY) (base:Heap):Prop where
 cF:K.In base
 glob:base.Ns mainGlobals mg
 blt:∃mb,base.Ns builtinsNs mb∧∀x:Str,x ≠ "__name__"→mb x=bootBuiltins x
 nolimit:base.NoLimit
structure Cx where
 prog:Program
 w:World
 K:PySem.W.Frag
 mg:Str→Option Value
 base:Heap
 A:Around
 N:List Str
 s₀:Shared
 H₀:Hp
 env:Env
 outer:List Env
 stack:List Env
 ex:List Addr
 fn:Str→Bool
 calm:Bool
 pn:List (Addr×Obj)
 xe:Value→Shared→Prop
def dS(l:List Env):List Addr:=l.filterMap (·.frame)
abbrev Cx.fs (X:Cx):List Addr:=dS X.outer
def jQ(sc:Scope)(x:Str):Prop:=sc.names.lookup x=some .local∨sc.names.lookup x=some .cell∨sc.names.lookup x=some .free
def Loc(sc:Scope)(x:Str):Prop:=sc.names.lookup x=some .local∨sc.names.lookup x=some .cell
def Look(env:Env)(h:Heap)(m:bY)(x:Str)(u:Value):Prop:=
 (env.kindOf x=some .local∧m x=some u)∨((env.kindOf x=some .cell∨env.kindOf x=some .free)∧∃c,env.cells.lookup x=some c∧h.IsCell c (some u))
structure Cx.Ok (X:Cx):Prop where
 mod:Mod X.K X.mg X.base
 kind:X.env.scope.kind=.function
 glob:X.env.globals=mainGlobals
 blt:X.env.builtins=builtinsNs
 above:X.s₀.heap.objs.size≤X.env.locals
 inj:∀x y c,X.env.cells.lookup x=some c→X.env.cells.lookup y=some c→x=y
 has:∀x,(X.env.kindOf x=some .cell∨X.env.kindOf x=some .free)→∃c,X.env.cells.lookup x=some c
 pI:∀x c,X.fn x=true→X.env.cells.lookup x=some c→X.s₀.heap.objs.size≤c
 hd:X.calm=true→X.A.handled=none
 frames:X.A.frames=some X.stack
 rS:X.stack=X.outer∨(X.stack=X.env::X.outer∧X.env.frame=some X.env.locals)
 yv:∀b∈X.ex,b≠X.env.locals∧∀x c,X.env.cells.lookup x=some c→c≠b
 bs:∀b o,X.base.get? b=some o→X.s₀.heap.get? b=some o∧X.H₀ b=none
 gr:X.base.objs.size≤X.s₀.heap.objs.size
 kM:∀b o,X.base.get? b=some o→b∉X.ex
 kN:∀b∈X.ex,b∉X.fs
 gW:X.s₀.heap.FunFrames X.base X.outer
 m4:∀b∈X.fs,X.H₀ b=none
structure Inv (X:Cx) (pins:aL) (σ:List (Option V)) (H:Hp) (s:Shared):Prop where
 ok:X.Ok
 os:s.os=X.s₀.os
 bare:AllBare s.gens
 base:Un X.fs X.ex X.H₀ H X.s₀.heap s.heap
 loc:∃m,s.heap.Ns X.env.locals m∧∀(i:Nat) (x:Str) (v:V),X.N[i]?=some x→σ[i]?=some (some v)→jQ X.env.scope x→∃u,RelV v u∧Look X.env s.heap m x u
 cell:∀x c,X.env.cells.lookup x=some c→∃v,s.heap.IsCell c v
 free:H X.env.locals=none
 gs:∀x c,X.env.cells.lookup x=some c→H c=none
 pin:∀p∈X.pn++pins,s.heap.get? p.1=some p.2∧H p.1=none∧p.1≠X.env.locals∧p.1∉X.fs∧∀v,p.2.data≠.cell v
 aA:bD X.prog X.w H s.heap
 len:σ.length=X.N.length
section
variable {X:Cx} {pins:aL} {σ:List (Option V)} {H H':Hp} {s:Shared} {h':Heap}
theorem Cx.Ok.Dg(ok:X.Ok){o:Obj}(e:X.base.get? b=some o):b∉X.fs:=fun hb=>by have:=(ok.gW.mem hb).1;rw [e] at this;cases this
theorem Inv.bs(I:Inv X pins σ H s):∀b o,X.base.get? b=some o→s.heap.get? b=some o∧H b=none:=fun b o e=>⟨I.base.keep b o (I.ok.bs b o e).1 (I.ok.bs b o e).2 (I.ok.Dg e) (I.ok.kM b o e),I.base.free b o (I.ok.bs b o e).1 (I.ok.bs b o e).2 (I.ok.kM b o e)⟩
theorem Inv.bk(I:Inv X pins σ H s):∀b o,X.base.get? b=some o→s.heap.get? b=some o:=fun b o e=>(I.bs b o e).1
theorem Inv.mod(I:Inv X pins σ H s):Mod X.K X.mg X.base:=I.ok.mod
theorem Inv.dn(I:Inv X pins σ H s):X.K.In s.heap:=I.ok.mod.cF.keeps I.bk
theorem Inv.lt(I:Inv X pins σ H s):X.env.locals<s.heap.objs.size:=let ⟨_,hn,_⟩:=I.loc;hn.lt
theorem Inv.sz(I:Inv X pins σ H s):X.s₀.heap.objs.size≤s.heap.objs.size:=cf I.ok.above (iT I.lt)
theorem Inv.Dh(I:Inv X pins σ H s)(h:s.heap.objs.size≤a):a∉X.fs:=fun hb=>by obtain ⟨_,o,ho,_⟩:=I.ok.gW.mem hb;exact absurd (di (a0 ho) (cf I.sz h)) (d7 _)
theorem Inv.kO(I:Inv X pins σ H s):∀x c,X.env.cells.lookup x=some c→c≠X.env.locals:=fun x c e z=>by obtain ⟨v,o,ho,hd⟩:=I.cell x c e;obtain ⟨m,⟨o',es,ep,i7,Di,_⟩,_⟩:=I.loc;rw [z,i7] at ho;cases ho;rw [Di] at hd;cases hd
theorem Inv.gW(I:Inv X pins σ H s):s.heap.FunFrames X.base X.outer:=by
 have all:∀(l:List Env),(∀b∈dS l,b∈X.fs)→X.s₀.heap.FunFrames X.base l→s.heap.FunFrames X.base l:=by
  intro l
  induction l with
  | nil=>intro _ _;trivial
  | cons env r ih=>
   intro hs hl;obtain ⟨hk,⟨L,o,hf,hn,ho,hd⟩,hr⟩:=hl;have hL:L∈X.fs:=hs L (by unfold dS;rw [List.filterMap_cons,hf];exact eZ)
   obtain ⟨sl,e⟩:=I.base.slot L o ho (I.ok.m4 L hL) hL fun z=>I.ok.kN L z hL;exact ⟨hk,⟨L,_,hf,hn,e,hd⟩,ih (fun b hb=>hs b (by unfold dS;rw [List.filterMap_cons,hf];exact dN _ hb)) hr⟩
 exact all X.outer (fun _ hb=>hb) I.ok.gW
theorem Inv.stack(I:Inv X pins σ H s):s.heap.FunFrames X.base X.stack:=by
 rcases I.ok.rS with e | ⟨e,hf⟩;·rw [e];exact I.gW
 ·rw [e]
  obtain ⟨m,hn,_⟩:=I.loc;refine .cons (by rw [I.ok.kind];decide) hf hn ?_ I.gW
  exact Heap.get?_none_of_le (cf I.ok.gr I.ok.above)
theorem Inv.pJ(I:Inv X pins σ H s):∀b∈dS X.stack,b∈X.env.locals::X.fs:=fun b hb=>by
 rcases I.ok.rS with e | ⟨e,hf⟩;·rw [e] at hb;exact dN _ hb
 ·rw [e] at hb
  unfold dS at hb;rw [List.filterMap_cons,hf] at hb;exact hb
theorem Inv.rT(I:Inv X pins σ H s):∀b∈dS X.stack,H b=none:=fun b hb=>by
 rcases cE.mp (I.pJ b hb) with e | hb;·rw [e];exact I.free
 ·obtain ⟨_,o,ho,_⟩:=I.ok.gW.mem hb
  exact I.base.free b o ho (I.ok.m4 b hb) fun z=>I.ok.kN b z hb
variable {g':Array GenState} {t':Nat} {d':Drawn} {ch:List Addr}
theorem Inv.step(I:Inv X pins σ H s)
  (iu:∀b∈ch,(b∈X.ex∨X.s₀.heap.objs.size≤b)∧b≠X.env.locals∧(∀x c,X.env.cells.lookup x=some c→c≠b)∧∀p∈X.pn++pins,p.1≠b)
  (keep:∀b o,b≠X.env.locals→b∉X.fs→b∉ch→s.heap.get? b=some o→H b=none→h'.get? b=some o)
  (slot:∀b o,b≠X.env.locals→b∈X.fs→b∉ch→s.heap.get? b=some o→H b=none→∃sl,h'.get? b=some {o with slots:=sl}) (free:∀b o,b∉ch→s.heap.get? b=some o→H b=none→H' b=none)
  (there:∀b o,b∉ch→s.heap.get? b=some o→∃o',h'.get? b=some o')
  (gT:∀b xs,H b=some (.tup xs)→H' b=some (.tup xs)) (gq:∀b o u,H b=some (.bN o u)→H' b=some (.bN o u)) (gU:∀b ps,H b=some (.kK ps)→∃more,H' b=some (.kK (ps++more)))
  (ns:∀m,s.heap.Ns X.env.locals m→h'.Ns X.env.locals m) (aA:bD X.prog X.w H' h') (hg:AllBare g') :
  Inv X pins σ H' {s with heap:=h',gens:=g',drawn:=d',toks:=t'}:=by
 have yw:∀b o,X.s₀.heap.get? b=some o→b≠X.env.locals:=fun b o e=>bV (di (a0 e) I.ok.above);have rV:∀b o,X.s₀.heap.get? b=some o→b∉X.ex→b∉ch:=fun b o e hx hb=>by
  rcases (iu b hb).1 with z | z;·exact hx z
  ·exact absurd (di (a0 e) z) (d7 _)
 have cellK:∀x c,X.env.cells.lookup x=some c→∀v,s.heap.IsCell c v→h'.IsCell c v:=fun x c e v ⟨o,ho,hd⟩=>by
  have pK:c∉ch:=fun z=>(iu c z).2.2.1 x c e rfl;by_cases hc:c∈X.fs
  ·obtain ⟨sl,q⟩:=slot c o (I.kO x c e) hc pK ho (I.gs x c e)
   exact ⟨_,q,hd⟩
  ·exact ⟨o,keep c o (I.kO x c e) hc pK ho (I.gs x c e),hd⟩
 refine ⟨I.ok,I.os,hg,⟨fun b o e n hb hx=>?_,fun b o e n hb hx=>?_,fun b o e n hx=>?_,fun b o e hx=>?_,fun b xs e=>gT b xs (I.base.gT b xs e),fun b o xs e=>gq b o xs (I.base.gq b o xs e),fun b ps e=>?_⟩,?_,fun x c e=>?_,?_,fun x c e=>?_,fun p hp=>?_,aA,I.len⟩;·exact keep b o (yw b o e) hb (rV b o e hx) (I.base.keep b o e n hb hx) (I.base.free b o e n hx)
 ·obtain ⟨sl,e1⟩:=I.base.slot b o e n hb hx
  obtain ⟨Dj,e2⟩:=slot b _ (yw b o e) hb (rV b o e hx) e1 (I.base.free b o e n hx);exact ⟨Dj,e2⟩
 ·obtain ⟨o',e1⟩:=I.base.there b o e hx
  exact free b o' (rV b o e hx) e1 (I.base.free b o e n hx)
 ·obtain ⟨o',e1⟩:=I.base.there b o e hx
  exact there b o' (rV b o e hx) e1
 ·obtain ⟨m1,e1⟩:=I.base.gU b ps e
  obtain ⟨m2,e2⟩:=gU b _ e1;exact ⟨m1++m2,by rw [e2,Array.append_assoc]⟩
 ·obtain ⟨m,hn,hl⟩:=I.loc
  refine ⟨m,ns m hn,fun i x v e1 e2 e3=>?_⟩;obtain ⟨u,r,l⟩:=hl i x v e1 e2 e3;refine ⟨u,r,?_⟩;rcases l with l | ⟨k,c,e,z⟩;·exact .inl l
  ·exact .inr ⟨k,c,e,cellK x c e _ z⟩
 ·obtain ⟨v,z⟩:=I.cell x c e
  exact ⟨v,cellK x c e v z⟩
 ·obtain ⟨m,⟨o,_,_,ho,_⟩,_⟩:=I.loc
  exact free _ o (fun z=>(iu _ z).2.1 rfl) ho I.free
 ·obtain ⟨v,o,ho,hd⟩:=I.cell x c e
  exact free c o (fun z=>(iu c z).2.2.1 x c e rfl) ho (I.gs x c e)
 ·obtain ⟨e,n,ne,nf,d⟩:=I.pin p hp
  have pK:p.1∉ch:=fun z=>(iu p.1 z).2.2.2 p hp rfl;exact ⟨keep p.1 p.2 ne nf pK e n,free p.1 p.2 pK e n,ne,nf,d⟩
theorem Inv.un(I:Inv X pins σ H s)(u:Un X.fs [] H H' s.heap h')(aA:bD X.prog X.w H' h'):Inv X pins σ H' {s with heap:=h',toks:=t'}:=by
 obtain ⟨m,⟨o,es,ep,ho,r⟩,_⟩:=id I.loc;obtain ⟨sl,hL⟩:=u.any ho I.free (by simp)
 exact I.step (g':=s.gens) (d':=s.drawn) (ch:=[]) (fun _ z=>nomatch z) (fun b o _ hb _ e n=>u.keep b o e n hb (by simp)) (fun b o _ hb _ e n=>u.slot b o e n hb (by simp)) (fun b o _ e n=>u.free b o e n (by simp)) (fun b o _ e=>u.there b o e (by simp)) u.gT u.gq u.gU (fun m' hm=>by obtain ⟨o',vz,vB,i7,r'⟩:=hm;rw [ho] at i7;cases i7;exact ⟨_,vz,vB,hL,r'⟩) aA I.bare
theorem Inv.call(I:Inv X pins σ H s)(u:Un (dS X.stack) ch H H' s.heap h')(aA:bD X.prog X.w H' h')(hg:AllBare g')
  (iu:∀b∈ch,(b∈X.ex∨X.s₀.heap.objs.size≤b)∧b≠X.env.locals∧(∀x c,X.env.cells.lookup x=some c→c≠b)∧∀p∈X.pn++pins,p.1≠b) :
  Inv X pins σ H' {s with heap:=h',gens:=g',drawn:=d',toks:=t'}:=by
 obtain ⟨m,⟨o,es,ep,ho,r⟩,_⟩:=id I.loc;obtain ⟨sl,hL⟩:=u.any ho I.free fun z=>(iu _ z).2.1 rfl;exact I.step (ch:=ch) iu (fun b o hL hb hc e n=>u.keep b o e n (fun z=>(cE.mp (I.pJ b z)).elim hL hb) hc) (fun b o _ _ hc e n=>u.any e n hc) (fun b o hc e n=>u.free b o e n hc) (fun b o hc e=>u.there b o e hc) u.gT u.gq u.gU (fun m' hm=>by obtain ⟨o',vz,vB,i7,r'⟩:=hm;rw [ho] at i7;cases i7;exact ⟨_,vz,vB,hL,r'⟩) aA hg
theorem Inv.turned{it:Addr}(I:Inv X pins σ H s)(k:∀b o,b≠it→s.heap.get? b=some o→h'.get? b=some o)(hn:H it=none)(hL:it≠X.env.locals)
  (h1:it∈X.ex∨X.s₀.heap.objs.size≤it) (h2:∀x c,X.env.cells.lookup x=some c→c≠it) (h3:∀p∈X.pn++pins,p.1≠it):Inv X pins σ H {s with heap:=h',toks:=t'}:=by
 have yx:∀b u,H b=some u→b≠it:=fun b u e z=>by rw [z,hn] at e;cases e
 refine I.step (g':=s.gens) (d':=s.drawn) (ch:=[it]) (fun b hb=>?_) (fun b o _ _ hc e _=>k b o (fun z=>hc (by simp [z])) e) (fun b o _ _ hc e _=>⟨o.slots,k b o (fun z=>hc (by simp [z])) e⟩) (fun _ _ _ _ n=>n)
  (fun b o hc e=>⟨o,k b o (fun z=>hc (by simp [z])) e⟩) (fun _ _ e=>e) (fun _ _ _ e=>e) (fun b ps e=>⟨#[],by rw [e];simp⟩) (fun m hm=>?_) (fun b u e=>?_) I.bare
 ·have e:b=it:=by simpa using hb
  subst e;exact ⟨h1,hL,h2,h3⟩
 ·obtain ⟨o,es,ep,ho,r⟩:=hm
  exact ⟨o,es,ep,k _ o (fG hL) ho,r⟩
 ·refine (I.aA b u e).ir (fun c v hc q=>k c v ?_ q) (fun _ q=>q) fun _ _ q=>q
  rcases hc with z | z;·rw [z];exact yx b u e
  ·exact yx c _ z
theorem Inv.tok(I:Inv X pins σ H s)(t:Nat):Inv X pins σ H {s with toks:=t}:=I.un (h':=s.heap) (t':=t) Un.refl I.aA
theorem Inv.kept(I:Inv X pins σ H s)(k:∀b u,s.heap.get? b=some u→h'.get? b=some u):Inv X pins σ H {s with heap:=h',toks:=t'}:=I.un (Un.kept k) (I.aA.kept k)
theorem Inv.laid(I:Inv X pins σ H s)(k:∀b u,s.heap.get? b=some u→h'.get? b=some u)(hp:s.heap.objs.size≤a)(new:bH X.prog X.w (upd H a o) h' a o) :
  Inv X pins σ (upd H a o) {s with heap:=h',toks:=t'}:=I.un (Un.laid k hp (I.aA.fresh hp)) (I.aA.laid k hp new)
theorem Inv.write{x e:Addr}(I:Inv X pins σ H s)(mu:pH (H x))(he:e=x∨H e=some (.own x))(k:∀b u,b≠e→s.heap.get? b=some u→h'.get? b=some u)(mZ:∃u,h'.get? e=some u)
  (new:bH X.prog X.w (upd H x o) h' x o):Inv X pins σ (upd H x o) {s with heap:=h',toks:=t'}:=I.un (Un.write mu he k mZ) (I.aA.write mu he k mZ new)
theorem Inv.yy{yz:aL}(I:Inv X pins σ H s)(h:∀p∈yz,s.heap.get? p.1=some p.2∧H p.1=none∧p.1≠X.env.locals∧p.1∉X.fs∧∀v,p.2.data≠.cell v):Inv X yz σ H s:=
 ⟨I.ok,I.os,I.bare,I.base,I.loc,I.cell,I.free,I.gs,fun p hp=>(d8.mp hp).elim (fun z=>I.pin p (List.mem_append_left _ z)) (h p),I.aA,I.len⟩
variable {i:Nat} {x:Str}
theorem yA{N:List Str}(hN:N.Nodup){j:Nat}(a:N[i]?=some x)(b:N[j]?=some x):i=j:=by obtain ⟨h1,e1⟩:=cg.mp a;obtain ⟨h2,e2⟩:=cg.mp b;exact (rb hN).mp (e1.trans e2.symm)
variable {M:Model} {A:Around} {E:aF} {u:Value} {Q:Unit→Shared→Prop}
theorem yB{v:V}(I:Inv X pins σ H s)(hN:X.N.Nodup)(hi:X.N[i]?=some x)(hx:Loc X.env.scope x)(r:RelV v u)
  (h:∀s',Inv X pins (σ.set i (some v)) H s'→(∃a,Heap.SameBut a s.heap s'.heap∧(a=X.env.locals∨X.env.cells.lookup x=some a))→Q () s') (hf:X.fn x=true∨X.env.scope.names.lookup x=some .local:=by first | exact .inl rfl | exact .inr rfl | assumption):wpAny M A (storeName X.env x u) Q E s:=by
 obtain ⟨m,hn,hl⟩:=id I.loc;have Dk:(X.env.scope.kind == .class || (X.env.scope.kind == .module && X.env.locals != X.env.globals))=false:=by rw [I.ok.kind];rfl
 have yC:i<σ.length:=by rw [I.len];exact (cg.mp hi).1
 have kO:=I.kO;have tracked:∀{a:Addr} {h':Heap},(∃o,s.heap.get? a=some o∧H a=none)→Heap.SameBut a s.heap h'→bD X.prog X.w H h':=fun{a h'} ha hs b ob e=>by
  obtain ⟨_,_,yE⟩:=ha;refine (I.aA b ob e).ir (fun c w' hc q=>(hs.2 c ?_).trans q) (fun _ q=>q) fun _ _ q=>q;rintro rfl;rcases hc with rfl | hc;·rw [yE] at e;cases e
  ·rw [yE] at hc;cases hc
 rcases hx with hk | hk
 ·refine wpAny_storeName_local hk hn (fun h' Dl hs=>?_) Dk
  obtain ⟨oL,_,_,Dm,_⟩:=id hn;refine h _ ⟨I.ok,I.os,I.bare,⟨fun b o e n hb hx=>?_,fun b o e n hb hx=>?_,I.base.free,fun b o e hx=>?_,I.base.gT,I.base.gq,I.base.gU⟩,⟨_,Dl,fun j y v' e1 e2 e3=>?_⟩,fun y c e=>?_,I.free,I.gs,fun p hp=>?_,tracked ⟨oL,Dm,I.free⟩ hs,by simpa using I.len⟩ ⟨_,hs,.inl rfl⟩
  ·exact (hs.2 b (bV (di (a0 e) I.ok.above))).trans (I.base.keep b o e n hb hx)
  ·obtain ⟨sl,e1⟩:=I.base.slot b o e n hb hx
   exact ⟨sl,(hs.2 b (bV (di (a0 e) I.ok.above))).trans e1⟩
  ·obtain ⟨o',e1⟩:=I.base.there b o e hx
   exact ⟨o',(hs.2 b (bV (di (a0 e) I.ok.above))).trans e1⟩
  ·by_cases hj:j=i
   ·subst hj
    rw [hi] at e1;cases e1;rw [List.getElem?_set_self yC] at e2;cases e2;exact ⟨u,r,.inl ⟨hk,by simp⟩⟩
   ·rw [List.getElem?_set_ne (fG hj)] at e2
    obtain ⟨u',r',q⟩:=hl j y v' e1 e2 e3;refine ⟨u',r',?_⟩;rcases q with ⟨k,e⟩ | ⟨k,c,e,z⟩
    ·refine .inl ⟨k,?_⟩
     have:y≠x:=fun e=>hj (yA hN e1 (e▸hi));simp [this,e]
    ·exact .inr ⟨k,c,e,z.sameBut hs (kO y c e)⟩
  ·obtain ⟨w',z⟩:=I.cell y c e
   exact ⟨w',z.sameBut hs (kO y c e)⟩
  ·obtain ⟨e,n,ne,nf,d⟩:=I.pin p hp
   exact ⟨(hs.2 p.1 ne).trans e,n,ne,nf,d⟩
 ·have vC:X.fn x=true:=by
   rcases hf with z | z;·exact z
   ·rw [z] at hk;cases hk
  obtain ⟨c,hc⟩:=I.ok.has x (.inl hk);obtain ⟨w',z⟩:=I.cell x c hc;refine wpAny_storeName_cell I.ok.kind hk hc z (fun h' gu hs=>?_);obtain ⟨oc,yF,Dn⟩:=id z;refine h {s with heap:=h'} ⟨I.ok,I.os,I.bare,⟨fun b o e n hb hx=>?_,fun b o e n hb hx=>?_,I.base.free,fun b o e hx=>?_,I.base.gT,I.base.gq,I.base.gU⟩,⟨m,hn.sameBut hs (fG (kO x c hc)),fun j y v' e1 e2 e3=>?_⟩,fun y c' e=>?_,I.free,I.gs,fun p hp=>?_,tracked ⟨oc,yF,I.gs x c hc⟩ hs,by simpa using I.len⟩ ⟨c,hs,.inr hc⟩
  ·exact (hs.2 b (bV (di (a0 e) (I.ok.pI x c vC hc)))).trans (I.base.keep b o e n hb hx)
  ·obtain ⟨sl,e1⟩:=I.base.slot b o e n hb hx
   exact ⟨sl,(hs.2 b (bV (di (a0 e) (I.ok.pI x c vC hc)))).trans e1⟩
  ·obtain ⟨o',e1⟩:=I.base.there b o e hx
   exact ⟨o',(hs.2 b (bV (di (a0 e) (I.ok.pI x c vC hc)))).trans e1⟩
  ·by_cases hj:j=i
   ·subst hj
    rw [hi] at e1;cases e1;rw [List.getElem?_set_self yC] at e2;cases e2;exact ⟨u,r,.inr ⟨.inl hk,c,hc,gu⟩⟩
   ·rw [List.getElem?_set_ne (fG hj)] at e2
    obtain ⟨u',r',q⟩:=hl j y v' e1 e2 e3;refine ⟨u',r',?_⟩;rcases q with q | ⟨k,c',e,z'⟩;·exact .inl q
    ·refine .inr ⟨k,c',e,z'.sameBut hs ?_⟩
     rintro rfl;exact hj (yA hN e1 (I.ok.inj _ _ _ e hc▸hi))
  ·by_cases yG:c'=c
   ·subst yG;exact ⟨_,gu⟩
   ·obtain ⟨w2,z2⟩:=I.cell y c' e
    exact ⟨w2,z2.sameBut hs yG⟩
  ·obtain ⟨e,n,ne,nf,d⟩:=I.pin p hp
   refine ⟨(hs.2 p.1 ?_).trans e,n,ne,nf,d⟩;intro q;rw [q,yF] at e;have q':oc=p.2:=Option.some.inj e;exact d w' (by rw [←q'];exact Dn)
theorem vD{v:V}(I:Inv X pins σ H s)(hN:X.N.Nodup)(hi:X.N[i]?=some x)(hx:Loc X.env.scope x)(r:RelV v u)
  (h:∀s',Inv X pins (σ.set i (some v)) H s'→Q () s') (hf:X.fn x=true∨X.env.scope.names.lookup x=some .local:=by first | exact .inl rfl | exact .inr rfl | assumption):wpAny M A (storeName X.env x u) Q E s:=
 yB I hN hi hx r (fun s' I' _=>h s' I') hf
theorem Inv.m5{s':Shared}(I:Inv X pins σ H s)(ho:s'.os=s.os)(u:Un (dS X.stack) ch H H' s.heap s'.heap)(aA:bD X.prog X.w H' s'.heap)(hg:AllBare s'.gens)
  (iu:∀b∈ch,(b∈X.ex∨X.s₀.heap.objs.size≤b)∧b≠X.env.locals∧(∀x c,X.env.cells.lookup x=some c→c≠b)∧∀p∈X.pn++pins,p.1≠b):Inv X pins σ H' s':=by
 obtain ⟨h',g',d',t',o'⟩:=s';have e:o'=s.os:=ho;subst e;exact I.call (g':=g') (t':=t') (d':=d') u aA hg iu
end
abbrev XK:=Value→Option Addr→Hp→Prop
abbrev St:=List (Option V)
abbrev VK:=V→Hp→Prop
abbrev TE:=St→Hp→VK→Prop
abbrev TT:=St→Hp→(Bool→Hp→Prop)→Prop
abbrev TA:=St→Hp→(List V→Hp→Prop)→Prop
structure Ends where
 nx:St→Hp→Prop
 rt:VK
 bk:St→Hp→Prop:=fun _ _=>False
 ct:St→Hp→Prop:=fun _ _=>False
abbrev TS:=Ends→St→Hp→Prop
def EP(X:Cx)(pins:aL)(σ:St)(Q:VK)(u:Value)(s':Shared):Prop:=∃v H',Inv X pins σ H' s'∧RelV v u∧Q v H'
def TP(X:Cx)(pins:aL)(σ:St)(Q:Bool→Hp→Prop)(b:Bool)(s':Shared):Prop:=∃H',Inv X pins σ H' s'∧Q b H'
def AP(X:Cx)(pins:aL)(σ:St)(Q:List V→Hp→Prop)(us:List Value)(s':Shared):Prop:=∃vs H',Inv X pins σ H' s'∧Vals vs us∧Q vs H'
def SP(X:Cx)(pins:aL)(D:Ends)(f:Flow)(s':Shared):Prop:=
 match f with
 | .next=>∃σ' H',Inv X pins σ' H' s'∧D.nx σ' H'
 | .brk=>∃σ' H',Inv X pins σ' H' s'∧D.bk σ' H'
 | .cont=>∃σ' H',Inv X pins σ' H' s'∧D.ct σ' H'
 | .ret u=>∃v σ' H',Inv X pins σ' H' s'∧RelV v u∧D.rt v H'
def PE(X:Cx)(e:Expr)(t:TE):Prop:=
 ∀(pins:aL) (s:Shared) (σ:St) (H:Hp) (Q:VK),Inv X pins σ H s→t σ H Q→wpAny (model X.prog X.w) X.A (eval e X.env) (EP X pins σ Q) X.xe s
def PT(X:Cx)(e:Expr)(t:TT):Prop:=
 ∀(pins:aL) (s:Shared) (σ:St) (H:Hp) (Q:Bool→Hp→Prop),Inv X pins σ H s→t σ H Q→wpAny (model X.prog X.w) X.A (isTrue e X.env (eval e X.env)) (TP X pins σ Q) X.xe s
def PW(X:Cx)(e:Expr)(t:TT):Prop:=
 ∀(whole:Sem Value) (pins:aL) (s:Shared) (σ:St) (H:Hp) (Q:Bool→Hp→Prop),Inv X pins σ H s→t σ H Q→wpAny (model X.prog X.w) X.A (isTrue e X.env whole) (TP X pins σ Q) X.xe s
variable {X:Cx}
theorem PW.pt{e:Expr}{t:TT}(h:PW X e t):PT X e t:=h _
def PA(X:Cx)(es:List Expr)(t:TA):Prop:=
 ∀(pos:Pos) (pins:aL) (s:Shared) (σ:St) (H:Hp) (Q:List V→Hp→Prop),Inv X pins σ H s→t σ H Q→wpAny (model X.prog X.w) X.A (spliced (backTo pos (starEach es X.env))) (AP X pins σ Q) X.xe s
def PS(X:Cx)(st:Stmt)(t:TS):Prop:=
 ∀(pins:aL) (s:Shared) (σ:St) (H:Hp) (D:Ends),Inv X pins σ H s→t D σ H→wpAny (model X.prog X.w) X.A (exec st X.env) (SP X pins D) X.xe s
def fb(X:Cx)(st:List Stmt)(t:TS):Prop:=
 ∀(pins:aL) (s:Shared) (σ:St) (H:Hp) (D:Ends),Inv X pins σ H s→t D σ H→wpAny (model X.prog X.w) X.A (execs st X.env) (SP X pins D) X.xe s
variable {M:Model} {A:Around} {E:aF} {s:Shared}
theorem aJ{α:Type}{t:Sem α}{Q Q':α→Shared→Prop}(h:wpAny M A t Q E s)(hQ:∀a s,Q a s→Q' a s):wpAny M A t Q' E s:=bC h hQ fun _ _ x=>x
section
variable {X:Cx}
variable {pins:aL} {σ:St}
theorem bin{a b:Expr}{ta tb:TE}(ha:PE X a ta)(hb:PE X b tb){R:V→V→Hp→Prop}(I:Inv X pins σ H s)(h:ta σ H fun x H1=>tb σ H1 fun y H2=>R x y H2)
  {α:Type} {Q:α→Shared→Prop} {f:Value→Value→Sem α}
  (hf:∀v u s2 x y H2,Inv X pins σ H2 s2→RelV x v→RelV y u→R x y H2→wpAny (model X.prog X.w) X.A (f v u) Q X.xe s2) :
  wpAny (model X.prog X.w) X.A (eval a X.env) (fun v s₁=>wpAny (model X.prog X.w) X.A (eval b X.env) (fun u s₂=>wpAny (model X.prog X.w) X.A (f v u) Q X.xe s₂) X.xe s₁) X.xe s:=by
 refine aJ (ha pins s σ H _ I h) fun v s1 ⟨x,H1,I1,r1,q1⟩=>?_;refine aJ (hb pins s1 σ H1 _ I1 q1) fun u s2 ⟨y,H2,I2,r2,q2⟩=>?_;exact hf v u s2 x y H2 I2 r1 r2 q2
def yH(i:Nat):TE:=fun σ H Q=>∃v,σ[i]?=some (some v)∧Q v H
def tC(v:V):TE:=fun _ H Q=>Q v H
variable {x:Str} {pos:Pos}
theorem Dp{i:Nat}(hN:X.N[i]?=some x)(hv:jQ X.env.scope x)(hd:(x == ("__debug__":Str))=false:=by decide)(ff:(x == ("__classdict__":Str))=false:=by decide):PE X (.Name x pos) (yH i):=by
 intro pins s σ H Q I h;obtain ⟨v,e,h⟩:=h;obtain ⟨m,hn,hl⟩:=I.loc;obtain ⟨u,r,l⟩:=hl i x v hN e hv;have fin:EP X pins σ Q u s:=⟨v,H,I,r,h⟩;rcases l with ⟨hk,hm⟩ | ⟨hk,c,hc,rW⟩;·exact wpAny_Name (wpAny_loadName_local I.ok.kind hk hn hm fin) hd
 ·rcases hk with hk | hk
  ·exact wpAny_Name (wpAny_loadName_cell I.ok.kind hk hc rW fin) hd
  ·exact wpAny_Name (wpAny_loadName_free I.ok.kind hk hc rW fin ff) hd
theorem ay{i j pos}:PE X (.Constant (.int i) j pos) (tC (.int i)):=fun _ _ _ H _ I h=>wpAny_Constant_int ⟨.int i,H,I.tok _,⟨_,rfl⟩,h⟩
theorem dq{b j pos}:PE X (.Constant (.bool b) j pos) (tC (.bl b)):=fun _ _ _ H _ I h=>Constant_bool ⟨.bl b,H,I,rfl,h⟩
theorem vE{j pos}:PE X (.Constant .none j pos) (tC .aI):=fun _ _ _ H _ I h=>Constant_none ⟨.aI,H,I,rfl,h⟩
theorem yI{x j pos}:PE X (.Constant (.str x) j pos) (tC (.str x)):=fun _ _ _ H _ I h=>Calls.Constant_str ⟨.str x,H,I.tok _,⟨_,rfl⟩,h⟩
def Gl(X:Cx)(x:Str):Prop:=X.env.kindOf x=some .globalImplicit
variable {u:Value} {Q:aF}
theorem yJ(I:Inv X pins σ H s)(hg:Gl X x)(hm:X.mg x=some u)(h:Q u s)
  (hd:(x == ("__debug__":Str))=false:=by decide):wpAny (model X.prog X.w) X.A (eval (.Name x pos) X.env) Q E s:=
 Calls.Name_function_global I.ok.kind hg (Calls.loadGlobal_global (by rw [I.ok.glob];exact I.mod.glob.keeps I.bk) hm h) hd
theorem m6(I:Inv X pins σ H s)(hg:Gl X x)(hm:X.mg x=none)(hv:bootBuiltins x=some u)(h:Q u s)
  (hn:x ≠ "__name__":=by decide) (hd:(x == ("__debug__":Str))=false:=by decide):wpAny (model X.prog X.w) X.A (eval (.Name x pos) X.env) Q E s:=by
 obtain ⟨mb,h1,h2⟩:=I.mod.blt;exact Calls.Name_function_global I.ok.kind hg (Calls.loadGlobal_builtin (by rw [I.ok.glob];exact I.mod.glob.keeps I.bk) hm (by rw [I.ok.blt];exact h1.keeps I.bk) ((h2 x hn).trans hv) h) hd
theorem Dq{v:V}(hg:Gl X x)(hm:X.mg x=some u)(r:RelV v u)(hd:(x == ("__debug__":Str))=false:=by decide):PE X (.Name x pos) (tC v):=
 fun _ _ _ H _ I h=>yJ I hg hm ⟨v,H,I,r,h⟩ hd
theorem kP{v:V}(hg:Gl X x)(hm:X.mg x=none)(hv:bootBuiltins x=some u)(r:RelV v u)(hn:x ≠ "__name__":=by decide)(hd:(x == ("__debug__":Str))=false:=by decide):PE X (.Name x pos) (tC v):=
 fun _ _ _ H _ I h=>m6 I hg hm hv ⟨v,H,I,r,h⟩ hn hd
variable {a b:Expr} {ta tb:TE} {pos:Pos}
def PC(X:Cx)(op:CmpOp)(a b:Expr)(t:TE):Prop:=
 ∀(pins:aL) (s:Shared) (σ:St) (H:Hp) (Q:VK),Inv X pins σ H s→t σ H Q→
  wpAny (model X.prog X.w) X.A (eval a X.env) (fun v s₁=>wpAny (model X.prog X.w) X.A (eval b X.env) (fun u s₂=>wpAny (model X.prog X.w) X.A (compareOp op v u) (EP X pins σ Q) X.xe s₂) X.xe s₁) X.xe s
def tB(t:TE):TT:=fun σ H Q=>t σ H fun x H1=>∃c,x=.bl c∧Q c H1
variable {t:TE}
theorem Dr{op:CmpOp}(h:PC X op a b t)(h1:behindInMarks op b=false:=by first | exact NM _ (by decide) (by decide) | rfl):PT X (.Compare a [op] [b] pos) (tB t):=by intro pins s σ H Q I hw;refine wpAny_isTrue_Compare1 (aJ (h pins s σ H _ I hw) fun v s1 h1=>aJ h1 fun u s2 h2=>aJ h2 fun c s3 ⟨x,H1,I1,r1,q1⟩=>?_) h1;obtain ⟨d,rfl,q⟩:=q1;cases r1;exact jF ⟨H1,I1,q⟩
theorem m7{e:Expr}(h:PE X e t)(he:∀whole,isTrue e X.env whole=(do let v ←whole;standAt e.pos;holding [v] (truthy v)):=by intro _;rfl):PT X e (tB t):=by
 intro pins s σ H Q I hw
 refine isTrue_plain (aJ (h pins s σ H _ I hw) fun v s1 ⟨x,H1,I1,r1,q1⟩=>?_) (he _)
 obtain ⟨d,rfl,q⟩:=q1
 cases r1
 exact jF ⟨H1,I1,q⟩
variable {tA pL:TT} {rest:List Expr}
def Ds(t u:TT):TT:=fun σ H Q=>t σ H fun c H1=>if c=true then u σ H1 Q else Q false H1
def Dt(t u:TT):TT:=fun σ H Q=>t σ H fun c H1=>if c=true then Q true H1 else u σ H1 Q
def Du(t:TT):TT:=fun σ H Q=>t σ H fun c H1=>Q (!c) H1
theorem pw_and1(ha:PT X a tA):PW X (.BoolOp .And [a] pos) tA:=by
 intro wh pins s σ H Q I h;refine isTrue_and (aJ (ha pins s σ H Q I h) fun c s1 e=>?_);cases c with
 | true=>exact isTrue_and_nil e
 | false=>exact e
theorem pw_or1(ha:PT X a tA):PW X (.BoolOp .Or [a] pos) tA:=by
 intro wh pins s σ H Q I h;refine isTrue_or (aJ (ha pins s σ H Q I h) fun c s1 e=>?_);cases c with
 | false=>exact isTrue_or_nil e
 | true=>exact e
theorem pw_and(ha:PT X a tA)(hb:PW X (.BoolOp .And (b::rest) pos) pL):PW X (.BoolOp .And (a::b::rest) pos) (Ds tA pL):=by
 intro wh pins s σ H Q I h;refine isTrue_and (aJ (ha pins s σ H _ I h) fun c s1 ⟨H1,I1,q1⟩=>?_);cases c with
 | true=>exact hb wh pins s1 σ H1 Q I1 q1
 | false=>exact ⟨H1,I1,q1⟩
theorem pw_or(ha:PT X a tA)(hb:PW X (.BoolOp .Or (b::rest) pos) pL):PW X (.BoolOp .Or (a::b::rest) pos) (Dt tA pL):=by
 intro wh pins s σ H Q I h;refine isTrue_or (aJ (ha pins s σ H _ I h) fun c s1 ⟨H1,I1,q1⟩=>?_);cases c with
 | true=>exact ⟨H1,I1,q1⟩
 | false=>exact hb wh pins s1 σ H1 Q I1 q1
theorem rX(ha:PT X a tA):PT X (.UnaryOp .Not a pos) (Du tA):=by intro pins s σ H Q I h;exact isTrue_not (ha pins s σ H (fun c H1=>Q (!c) H1) I h)
def Dv(ta tb:TE):TE:=fun σ H Q=>ta σ H fun x H1=>∃c,x=.bl c∧if c=true then tb σ H1 Q else Q (.bl false) H1
def Dw(ta tb:TE):TE:=fun σ H Q=>ta σ H fun x H1=>∃c,x=.bl c∧if c=true then Q (.bl true) H1 else tb σ H1 Q
def Dx(ta:TE):TE:=fun σ H Q=>ta σ H fun x H1=>∃c,x=.bl c∧Q (.bl (!c)) H1
theorem kS{op}{t:TE}(h:PE X a t):PE X (.BoolOp op [a] pos) t:=fun pins s σ H Q I hw=>BoolOp_one (h pins s σ H Q I hw)
theorem i8(ha:PE X a ta)(hb:PE X (.BoolOp .And (b::rest) pos) tb):PE X (.BoolOp .And (a::b::rest) pos) (Dv ta tb):=by
 intro pins s σ H Q I h;refine BoolOp_and (aJ (ha pins s σ H _ I h) fun v s1 ⟨x,H1,I1,r1,q1⟩=>?_);obtain ⟨c,rfl,q1⟩:=q1;cases r1;refine jF ?_;cases c with
 | true=>exact hb pins s1 σ H1 Q I1 q1
 | false=>exact ⟨.bl false,H1,I1,rfl,q1⟩
theorem Dy(ha:PE X a ta)(hb:PE X (.BoolOp .Or (b::rest) pos) tb):PE X (.BoolOp .Or (a::b::rest) pos) (Dw ta tb):=by
 intro pins s σ H Q I h;refine BoolOp_or (aJ (ha pins s σ H _ I h) fun v s1 ⟨x,H1,I1,r1,q1⟩=>?_);obtain ⟨c,rfl,q1⟩:=q1;cases r1;refine jF ?_;cases c with
 | false=>exact hb pins s1 σ H1 Q I1 q1
 | true=>exact ⟨.bl true,H1,I1,rfl,q1⟩
theorem Dz(ha:PE X a ta):PE X (.UnaryOp .Not a pos) (Dx ta):=by intro pins s σ H Q I h;refine UnaryOp_ (aJ (ha pins s σ H _ I h) fun v s1 ⟨x,H1,I1,r1,q1⟩=>?_);obtain ⟨c,rfl,q1⟩:=q1;cases r1;exact not_of (jF ⟨.bl (!c),H1,I1,rfl,q1⟩)
end
def bq(K:aG)(H:Hp)(a:Addr)(xs:List V):Prop:=
 Rd H a (.lst xs) ∨
  ∃(o:Obj) (ak:Array Value) (n:Nat),K.lookup a=some o∧o.cls=.type "list"∧o.dict=none∧o.data=.seq ak n∧ak.size≤sizeLine∧Vals xs ak.toList
def bx(K:aG)(H:Hp)(a:Addr)(xs:List V):Prop:=
 Rd H a (.tup xs) ∨
  ∃(o:Obj) (ak:Array Value) (n:Nat),K.lookup a=some o∧o.cls=.type "tuple"∧o.data=.seq ak n∧ak.size≤sizeLine∧Vals xs ak.toList
def DA:Value→Option V
 | .none=>some .aI
 | .bool b=>some (.bl b)
 | .int i _=>some (.int i)
 | .str x _=>some (.str x)
 | .bytes b _=>some (.gS b)
 | .float b _=>some (.mY b)
 | .ref a=>some (.ref a)
 | .type n=>some (.ty n)
 | _=>none
variable {x:V} {u:Value}
theorem RelV.abs(r:RelV x u):DA u=some x:=by
 cases x with
 | aI=>cases r;rfl
 | bl _=>cases r;rfl
 | int _=>obtain ⟨t,rfl⟩:=r;rfl
 | str _=>obtain ⟨t,rfl⟩:=r;rfl
 | gS _=>obtain ⟨t,rfl⟩:=r;rfl
 | mY _=>obtain ⟨t,rfl⟩:=r;rfl
 | ref _=>cases r;rfl
 | ty _=>cases r;rfl
theorem RelV.inj{y:V}(r:RelV x u)(q:RelV y u):x=y:=Option.some.inj (r.abs.symm.trans q.abs)
theorem Vals.inj:∀{xs ys:List V} {us:List Value},Vals xs us→Vals ys us→xs=ys
 | _,_,_,.nil,.nil=>rfl
 | _,_,_,.cons r t,.cons r' t'=>by rw [r.inj r',Vals.inj t t']
section
variable {X:Cx} {pins:aL} {σ:St} {H:Hp} {s:Shared} {a:Addr} {xs ys:List V}
variable {K:aG}
theorem bq.of(h:H a=some (.lst xs)):bq K H a xs:=.inl (.inl h)
theorem bx.of(h:H a=some (.tup xs)):bx K H a xs:=.inl (.inl h)
theorem Inv.list(I:Inv X pins σ H s)(h:bq X.K H a xs):∃ak:List Value,Vals xs ak∧PlainL s.heap a ak.toArray∧xs.length≤sizeLine:=by
 rcases h with h | ⟨o,ak,n,hk,hc,hd,hs,hz,r⟩
 ·obtain ⟨z,ak,n,r,e⟩:=h.ok I.aA
  exact ⟨ak,r,⟨_,n,e,rfl,rfl,rfl⟩,z⟩
 ·refine ⟨ak.toList,r,⟨o,n,I.dn a o hk,hc,hd,by simpa using hs⟩,?_⟩
  have e:=r.length;simp only [e8] at e;omega
theorem Inv.tuple(I:Inv X pins σ H s)(h:bx X.K H a xs):∃ak:List Value,Vals xs ak∧IsTup s.heap a ak.toArray∧xs.length≤sizeLine:=by
 rcases h with h | ⟨o,ak,n,hk,hc,hs,hz,r⟩
 ·obtain ⟨z,ak,r,p⟩:=h.ok I.aA
  exact ⟨ak,r,p,z⟩
 ·refine ⟨ak.toList,r,⟨o,I.dn a o hk,hc,n,by simpa using hs⟩,?_⟩
  have e:=r.length;simp only [e8] at e;omega
theorem Inv.DB(I:Inv X pins σ H s)(h:bq X.K H a xs)(h':bq X.K H a ys):xs=ys:=by
 obtain ⟨ak,r,⟨o,n,e,_,_,d⟩,_⟩:=I.list h;obtain ⟨its',r',⟨o',n',e',_,_,d'⟩,_⟩:=I.list h';rw [e] at e';cases e';rw [d] at d';injection d' with d1 _;have:ak=its':=by simpa using cy Array.toList d1
 subst this;exact r.inj r'
theorem Inv.vF(I:Inv X pins σ H s)(h:bx X.K H a xs)(h':bx X.K H a ys):xs=ys:=by
 obtain ⟨ak,r,⟨o,e,_,n,d⟩,_⟩:=I.tuple h;obtain ⟨its',r',⟨o',e',_,n',d'⟩,_⟩:=I.tuple h';rw [e] at e';cases e';rw [d] at d';injection d' with d1 _;have:ak=its':=by simpa using cy Array.toList d1
 subst this;exact r.inj r'
end
abbrev Cx.iw (X:Cx) (E:aF):Cx:={X with xe:=E}
abbrev Cx.pM (X:Cx):Cx:=X.iw fun _ _=>False
theorem Cx.Ok.iw(ok:X.Ok)(E:aF):(X.iw E).Ok:=
 ⟨ok.mod,ok.kind,ok.glob,ok.blt,ok.above,ok.inj,ok.has,ok.pI,ok.hd,ok.frames,ok.rS,ok.yv,ok.bs,ok.gr,ok.kM,ok.kN,ok.gW,ok.m4⟩
theorem Cx.Ok.jR(ok:(X.iw E).Ok):X.Ok:=
 ⟨ok.mod,ok.kind,ok.glob,ok.blt,ok.above,ok.inj,ok.has,ok.pI,ok.hd,ok.frames,ok.rS,ok.yv,ok.bs,ok.gr,ok.kM,ok.kN,ok.gW,ok.m4⟩
section
variable {X:Cx} {pins:aL} {σ:St} {H:Hp} {s:Shared} {E:aF}
theorem Inv.iw(I:Inv X pins σ H s)(E:aF):Inv (X.iw E) pins σ H s:=⟨I.ok.iw E,I.os,I.bare,I.base,I.loc,I.cell,I.free,I.gs,I.pin,I.aA,I.len⟩
theorem Inv.jR(I:Inv (X.iw E) pins σ H s):Inv X pins σ H s:=⟨I.ok.jR,I.os,I.bare,I.base,I.loc,I.cell,I.free,I.gs,I.pin,I.aA,I.len⟩
theorem SP.jR{D:Ends}{f:Flow}{s':Shared}(h:SP (X.iw E) pins D f s'):SP X pins D f s':=by
 cases f with
 | next=>obtain ⟨σ',H',I,q⟩:=h;exact ⟨σ',H',I.jR,q⟩
 | brk=>obtain ⟨σ',H',I,q⟩:=h;exact ⟨σ',H',I.jR,q⟩
 | cont=>obtain ⟨σ',H',I,q⟩:=h;exact ⟨σ',H',I.jR,q⟩
 | ret u=>obtain ⟨v,σ',H',I,r,q⟩:=h;exact ⟨v,σ',H',I.jR,r,q⟩
theorem fb.pM{st:List Stmt}{t:TS}(h:fb X.pM st t):fb X st t:=fun pins s σ H D I hw=>bC (h pins s σ H D (I.iw _) hw) (fun _ _ q=>q.jR) fun _ _ z=>False.elim z
end
section
variable {X:Cx} {st:Stmt} {rest:List Stmt} {t u:TS} {e:Expr} {te:TE} {pos:Pos}
def gv:TS:=fun D σ H=>D.nx σ H
def yK(t u:TS):TS:=fun D σ H=>t {D with nx:=u D} σ H
theorem cT:fb X [] gv:=fun _ _ σ H _ I h=>rf ⟨σ,H,I,h⟩
theorem aM(h1:PS X st t)(h2:fb X rest u):fb X (st::rest) (yK t u):=by
 intro pins s σ H D I h;refine wpAny_execs_cons (aJ (h1 pins s σ H {D with nx:=u D} I h) fun f s1 q=>?_);cases f with
 | next=>obtain ⟨σ',H',I',q⟩:=q;exact h2 pins s1 σ' H' D I' q
 | ret v=>exact q
 | brk=>exact q
 | cont=>exact q
theorem aR(h1:PS X st t):fb X [st] t:=by
 intro pins s σ H D I h;refine wpAny_execs_cons (aJ (h1 pins s σ H D I h) fun f s1 q=>?_);cases f with
 | next=>exact rf q
 | ret v=>exact q
 | brk=>exact q
 | cont=>exact q
theorem Inv.quiet{pins:aL}{σ:St}(I:Inv X pins σ H s):interactive X.env=false:=by simp [interactive,I.ok.kind]
def DC(te:TE):TS:=fun D σ H=>te σ H fun _ H1=>D.nx σ H1
theorem gw(he:PE X e te)(hs:swapsWith e none pos.line X.env=pure false:=by rfl):PS X (.Expr e pos) (DC te):=by intro pins s σ H D I h;exact wpAny_Expr_any (aJ (he pins s σ H _ I h) fun v s1 ⟨x,H1,I1,r1,q1⟩=>⟨σ,H1,I1,q1⟩) I.quiet hs
def yL(te:TE):TS:=fun D σ H=>te σ H D.rt
theorem bO(he:PE X e te):PS X (.Return (some e) pos) (yL te):=by intro pins s σ H D I h;exact wpAny_Return_some (aJ (he pins s σ H _ I h) fun v s1 ⟨x,H1,I1,r1,q1⟩=>⟨x,σ,H1,I1,r1,q1⟩)
def vG(c:TT)(t u:TS):TS:=fun D σ H=>c σ H fun b H1=>if b=true then t D σ H1 else u D σ H1
theorem cL{c:Expr}{a b:List Stmt}{tc:TT}(hc:PT X c tc)(ha:fb X a t)(hb:fb X b u):PS X (.If c a b pos) (vG tc t u):=by
 intro pins s σ H D I h;refine wpAny_If (aJ (hc pins s σ H _ I h) fun d s1 ⟨H1,I1,q1⟩=>?_);cases d with
 | true=>exact ha pins s1 σ H1 D I1 q1
 | false=>exact hb pins s1 σ H1 D I1 q1
end
abbrev TG:=V→St→Hp→(St→Hp→Prop)→Prop
abbrev kT:=List V→St→Hp→(St→Hp→Prop)→Prop
def PG(X:Cx)(target:Expr)(t:TG):Prop:=
 ∀(pins:aL) (s:Shared) (σ:St) (H:Hp) (v:V) (u:Value) (Q:St→Hp→Prop),Inv X pins σ H s→RelV v u→t v σ H Q→
  wpAny (model X.prog X.w) X.A (assign target X.env u) (fun _ s'=>∃σ' H',Inv X pins σ' H' s'∧Q σ' H') X.xe s
def rY(X:Cx)(ts:List Expr)(t:kT):Prop:=
 ∀(pins:aL) (s:Shared) (σ:St) (H:Hp) (vs:List V) (us:List Value) (Q:St→Hp→Prop),Inv X pins σ H s→Vals vs us→t vs σ H Q→
  wpAny (model X.prog X.w) X.A (assignInOrder ((assignEach ts X.env).map (·.2)) us) (fun _ s'=>∃σ' H',Inv X pins σ' H' s'∧Q σ' H') X.xe s
abbrev vH:=V→V→V→Hp→(Hp→Prop)→Prop
def yM(X:Cx)(t:vH):Prop:=
 ∀(pins:aL) (s:Shared) (σ:St) (H:Hp) (o i v:V) (ov iv u:Value) (Q:Hp→Prop),Inv X pins σ H s→RelV o ov→RelV i iv→RelV v u→t o i v H Q→
  wpAny (model X.prog X.w) X.A (setItem ov iv u) (fun _ s'=>∃H',Inv X pins σ H' s'∧Q H') X.xe s
abbrev rZ:=V→V→Hp→VK→Prop
def yN(X:Cx)(op:Operator)(t:rZ):Prop:=
 ∀(pins:aL) (s:Shared) (σ:St) (H:Hp) (x y:V) (v u:Value) (Q:VK),Inv X pins σ H s→RelV x v→RelV y u→t x y H Q→
  wpAny (model X.prog X.w) X.A (inplaceOp op v u) (EP X pins σ Q) X.xe s
section
variable {X:Cx} {pos:Pos}
def a7(i:Nat):TG:=fun v σ H Q=>Q (σ.set i (some v)) H
variable {i:Nat}
theorem cq{x:Str}(hN:X.N.Nodup)(hi:X.N[i]?=some x)(hx:Loc X.env.scope x)(hf:X.fn x=true∨X.env.scope.names.lookup x=some .local:=by first | exact .inl rfl | exact .inr rfl | assumption):PG X (.Name x pos) (a7 i):=by intro pins s σ H v u Q I r h;exact wpAny_assign_Name (vD I hN hi hx r (fun s' I'=>⟨_,H,I',h⟩) hf)
def yO:kT:=fun vs σ H Q=>vs=[]∧Q σ H
def vI(t:TG)(u:kT):kT:=fun vs σ H Q=>∃v r,vs=v::r∧t v σ H fun σ' H'=>u r σ' H' Q
theorem m8:rY X [] yO:=by intro pins s σ H vs us Q I r h;obtain ⟨e,h⟩:=h;subst e;cases r;exact assignInOrder_nil ⟨σ,H,I,h⟩
variable {e:Expr} {es:List Expr}
theorem gx{t:TG}{u:kT}(h1:PG X e t)(h2:rY X es u)
  (hs:(assignEach (e::es) X.env).map (·.2)=assign e X.env::(assignEach es X.env).map (·.2):=by rfl):rY X (e::es) (vI t u):=by
 intro pins s σ H vs us Q I r h;obtain ⟨v,vr,e1,h⟩:=h;subst e1;cases r with
 | cons r rr=>rw [hs];refine assignInOrder_cons (aJ (h1 pins s σ H _ _ _ I r h) fun _ s1 ⟨σ1,H1,I1,q1⟩=>?_);exact h2 pins s1 σ1 H1 _ _ Q I1 rr q1
def yP(K:aG)(n:Nat)(t:kT):TG:=fun v σ H Q=>∃a xs,v=.ref a∧bx K H a xs∧xs.length=n∧t xs σ H Q
theorem m9{k:Nat}{t:kT}{n:Nat}(hc:X.calm=true)(h:rY X es t)
  (hn:(assignEach es X.env).length=n:=by rfl) (DD:(assignEach es X.env).findIdx? (·.1)=none:=by rfl):PG X (.Tuple es k pos) (yP X.K n t):=by
 intro pins s σ H v u Q I r hw;obtain ⟨a,xs,e1,hq,hl,hw⟩:=hw;subst e1;cases r;obtain ⟨ak,rv,ht,hz⟩:=I.tuple hq;refine assign_Tuple_tuple (I.ok.hd hc) ht (by simp [hn,←hl,rv.length]) DD fun h' hx=>?_
 have I1:Inv X pins σ H {s with heap:=h'}:=I.kept (t':=s.toks) fun b o e=>hx b o (bV (a0 e)) e;exact h pins _ σ H xs _ Q I1 (by simpa using rv) hw
def DE(to ti:TE)(t:vH):TG:=fun v σ H Q=>to σ H fun o H1=>ti σ H1 fun i H2=>t o i v H2 fun H3=>Q σ H3
theorem vJ{o i:Expr}{to ti:TE}{t:vH}(ho:PE X o to)(hi:PE X i ti)(hs:yM X t)
  (ha:∀v,assign (.Subscript o i pos) X.env v=(do
   let ov ←holding [v] (eval o X.env)
   let iv ←holding [v,ov] (eval i X.env)
   standAt pos
   holding [v,ov,iv] (setItem ov iv v)
   release [v,ov,iv] []):=by intro _;rfl):PG X (.Subscript o i pos) (DE to ti t):=by
 intro pins s σ H v u Q I r h
 rw [ha]
 refine ao (ic (aJ (ho pins s σ H _ I h) fun ov s1 ⟨x,H1,I1,r1,q1⟩=>?_))
 refine ao (ic (aJ (hi pins s1 σ H1 _ I1 q1) fun iv s2 ⟨y,H2,I2,r2,q2⟩=>?_))
 refine ao (wpAny_standAt (ao (ic (aJ (hs pins s2 σ H2 x y v ov iv u _ I2 r1 r2 r q2) fun _ s3 ⟨H3,I3,q3⟩=>?_))))
 exact wpAny_release ⟨σ,H3,I3,q3⟩
def kU(te:TE)(g:TG):TS:=fun D σ H=>te σ H fun x H1=>g x σ H1 D.nx
theorem r6{tg e:Expr}{te:TE}{g:TG}(he:PE X e te)(hg:PG X tg g)(hs:swapsWithSole [tg] e pos.line X.env=pure false:=by rfl)(hw:swappedStores [tg] e X.env=pure none:=by rfl)
  (h1:(assignEach [tg] X.env).map (·.2)=[assign tg X.env]:=by rfl):PS X (.Assign [tg] e pos) (kU te g):=by
 intro pins s σ H D I h;refine wpAny_Assign_stores (aJ (he pins s σ H _ I h) fun v s1 ⟨x,H1,I1,r1,q1⟩=>?_) hs hw;rw [h1];exact aJ (hg pins s1 σ H1 x v _ I1 r1 q1) fun _ s2 q=>q
variable {te:TE} {pos':Pos}
theorem DF{x:Str}(hN:X.N.Nodup)(hi:X.N[i]?=some x)(hx:Loc X.env.scope x)(he:PE X e te)(hs:swapsWith e (some (.Name x pos')) pos.line X.env=pure false:=by rfl)(hf:X.fn x=true∨X.env.scope.names.lookup x=some .local:=by first | exact .inl rfl | exact .inr rfl | assumption) :
  PS X (.Assign [.Name x pos'] e pos) (kU te (a7 i)):=by
 intro pins s σ H D I h;refine wpAny_Assign_Name (aJ (he pins s σ H _ I h) fun v s1 ⟨y,H1,I1,r1,q1⟩=>?_) hs;exact vD I1 hN hi hx r1 (fun s2 I2=>⟨_,H1,I2,q1⟩) hf
def DG(i:Nat)(te:TE)(ti:rZ):TS:=fun D σ H=>∃x,σ[i]?=some (some x)∧te σ H fun y H1=>ti x y H1 fun z H2=>D.nx (σ.set i (some z)) H2
theorem DH{x:Str}{op:Operator}{ti:rZ}(hN:X.N.Nodup)(hi:X.N[i]?=some x)(hx:Loc X.env.scope x)(he:PE X e te)(ho:yN X op ti)(hf:X.fn x=true∨X.env.scope.names.lookup x=some .local:=by first | exact .inl rfl | exact .inr rfl | assumption) :
  PS X (.AugAssign (.Name x pos') op e pos) (DG i te ti):=by
 intro pins s σ H D I h;obtain ⟨v,e1,h⟩:=h;obtain ⟨m,hn,hl⟩:=I.loc;have DI:jQ X.env.scope x:=by rcases hx with k | k;exact .inl k;exact .inr (.inl k)
 obtain ⟨u,r,l⟩:=hl i x v hi e1 DI;refine wpAny_AugAssign_Name ?_;have go:wpAny (model X.prog X.w) X.A (eval e X.env) (fun w s₂=>wpAny (model X.prog X.w) X.A (inplaceOp op u w) (fun r s₃=>wpAny (model X.prog X.w) X.A (storeName X.env x r) (fun _=>SP X pins D .next) X.xe s₃) X.xe s₂) X.xe s:=by refine aJ (he pins s σ H _ I h) fun w s1 ⟨y,H1,I1,r1,q1⟩=>?_;refine aJ (ho pins s1 σ H1 v y u w _ I1 r r1 q1) fun z s2 ⟨zv,H2,I2,r2,q2⟩=>?_;exact vD I2 hN hi hx r2 (fun s3 I3=>⟨_,H2,I3,q2⟩) hf
 rcases l with ⟨hk,hm⟩ | ⟨hk,c,hc,rW⟩;·exact wpAny_loadName_local I.ok.kind hk hn hm go
 ·rcases hk with hk | hk
  ·exact wpAny_loadName_cell I.ok.kind hk hc rW go
  ·rcases hx with k | k
   ·have:X.env.scope.names.lookup x=some .free:=hk
    rw [k] at this;cases this
   ·have:X.env.scope.names.lookup x=some .free:=hk
    rw [k] at this;cases this
def DJ(f:Int→Int→Int):rZ:=fun x y H Q=>∃i j,x=.int i∧y=.int j∧Q (.int (f i j)) H
theorem DK:yN X .Add (DJ fun i j=>i+j):=by intro pins s σ H x y v u Q I r1 r2 h;obtain ⟨i,j,e1,e2,q⟩:=h;subst e1;subst e2;obtain ⟨t,rfl⟩:=r1;obtain ⟨t',rfl⟩:=r2;exact iadd_int ⟨.int _,H,I.tok _,⟨_,rfl⟩,q⟩
end
section
variable {X:Cx} {pos:Pos}
def DL(c:TT)(tb:TS):TS:=fun D σ H=>∃W:Nat→St→Hp→Prop,(∃m,W m σ H)∧∀m σ H,W m σ H→
 c σ H fun b H1=>if b=true then ∃N:St→Hp→Prop,(∀σ' H',N σ' H'→∃m',m'<m∧W m' σ' H')∧tb {D with nx:=N,ct:=N,bk:=D.nx} σ H1 else D.nx σ H1
theorem DM{c:Expr}{body:List Stmt}{tc:TT}{tb:TS}(hp:PassesOwn (model X.prog X.w) X.A X.env X.xe)(hc:PT X c tc)(hb:fb X body tb):PS X (.While c body [] pos) (DL tc tb):=by
 intro pins s σ H D I h;obtain ⟨W,⟨m0,w0⟩,turn⟩:=h;refine wpAny_While (codeAny_whileLoop (fun n s'=>∃σ' H',Inv X pins σ' H' s'∧W n σ' H') ?_ m0 ⟨σ,H,I,w0⟩);rintro n s1 ⟨σ1,H1,I1,w1⟩;refine kD hp (aJ (hc pins s1 σ1 H1 _ I1 (turn n σ1 H1 w1)) fun b s2 ⟨H2,I2,q2⟩=>?_);cases b with
 | true=>
  obtain ⟨N,hN,q2⟩:=q2;rw [aj rfl];refine kD hp (aJ (hb pins s2 σ1 H2 _ I2 q2) fun f s3 q3=>?_);cases f with
  | next=>obtain ⟨σ3,H3,I3,n3⟩:=q3;obtain ⟨m',hm,w3⟩:=hN σ3 H3 n3;exact ⟨m',hm,σ3,H3,I3,w3⟩
  | cont=>obtain ⟨σ3,H3,I3,n3⟩:=q3;obtain ⟨m',hm,w3⟩:=hN σ3 H3 n3;exact ⟨m',hm,σ3,H3,I3,w3⟩
  | brk=>exact q3
  | ret v=>exact q3
 | false=>rw [ae bW];exact rf ⟨σ1,H2,I2,q2⟩
end
structure It where
 go:Nat→Hp→Prop
 c5:Nat→Hp→V→Hp→Prop
 stop:Nat→Hp→Prop
def i9(X:Cx)(pins:aL)(H:Hp)(b:Addr):Prop:=
 H b=none∧b≠X.env.locals∧b∉X.fs∧(b∈X.ex∨X.s₀.heap.objs.size≤b)∧(∀x c,X.env.cells.lookup x=some c→c≠b)∧∀p∈X.pn++pins,p.1≠b
variable {σ:St}
theorem Inv.pN{pins:aL}{H':Hp}(I:Inv X pins σ H s)(hb:s.heap.objs.size≤b)(hn:H' b=none):i9 X pins H' b:=by
 refine ⟨hn,Nat.ne_of_gt (di I.lt hb),I.Dh hb,.inr (cf I.sz hb),fun x c e z=>?_,fun p hp z=>?_⟩
 ·obtain ⟨v,q⟩:=I.cell x c e
  exact absurd (di q.lt (by rw [z];exact hb)) (d7 _)
 ·exact absurd (di (a0 (I.pin p hp).1) (by rw [z];exact hb)) (d7 _)
structure Turn (P:Program) (w:World) (K:aG) (tg:Expr) (J:It) (fp:List Addr) (it:Addr) (tn:Nat→Heap→Prop):Prop where
 mem:it∈fp
 obj:∀i h,tn i h→∀b∈fp,∃o,h.get? b=some o∧∀v,o.data≠.cell v
 keep:∀i h h',tn i h→(∀b∈fp,∀o,h.get? b=some o→h'.get? b=some o)→tn i h'
 item:∀(X:Cx),X.prog=P→X.w=w→X.K=K→X.calm=true→∀(i:Nat) (pins:aL) (s:Shared) (σ:St) (H:Hp) (E:aF),Inv X pins σ H s→(∀b∈fp,i9 X pins H b)→tn i s.heap→J.go i H→
  wpAny (model P w) X.A (pyNext (.ref it)) (fun r s1=>∃u,r=some u ∧
   wpAny (model P w) X.A (letOwnedTupleGo tg (.ref it) u) (fun _ s2=>∃x H',Inv X pins σ H' s2∧RelV x u∧J.c5 i H x H'∧tn (i+1) s2.heap∧∀b∈fp,H' b=none) E s1) E s
 done:∀(X:Cx),X.prog=P→X.w=w→X.K=K→X.calm=true→∀(i:Nat) (pins:aL) (s:Shared) (σ:St) (H:Hp) (E:aF),Inv X pins σ H s→(∀b∈fp,i9 X pins H b)→tn i s.heap→J.stop i H→
  wpAny (model P w) X.A (pyNext (.ref it)) (fun r s1=>r=none∧Inv X pins σ H s1) E s
 self:∀(A:Around) (i:Nat) (s:Shared) (Q:aF) (E:aF),tn i s.heap→Q (.ref it) s→wpAny (model P w) A (pyIter (.ref it)) Q E s
abbrev TI:=St→Hp→(It→Hp→Prop)→Prop
def vK(X:Cx)(pins:aL)(σ:St)(tg:Expr)(R:It→Hp→Prop)(pO:Value)(s2:Shared):Prop:=
 ∃(it:Addr) (fp:List Addr) (tn:Nat→Heap→Prop) (J:It) (H':Hp),pO=.ref it∧Inv X pins σ H' s2∧Turn X.prog X.w X.K tg J fp it tn∧tn 0 s2.heap∧(∀b∈fp,i9 X pins H' b)∧R J H'
def PI(X:Cx)(tg iter:Expr)(wi:TI):Prop:=
 ∀(pins:aL) (s:Shared) (σ:St) (H:Hp) (R:It→Hp→Prop),Inv X pins σ H s→wi σ H R→
  wpAny (model X.prog X.w) X.A (eval iter X.env) (fun v s1=>wpAny (model X.prog X.w) X.A (pyIter v) (vK X pins σ tg R) X.xe s1) X.xe s
variable {tg:Expr}
theorem r_{it:Addr}{o:Obj}{n:String}{vs:Array Value}{Q:Unit→Shared→Prop}(ho:s.heap.get? it=some o)(hc:o.cls=.type n)(hd:o.data=.fields vs)
    (hn:["enumerate","zip","dict_itemiterator","dict_reverseitemiterator","odict_iterator","itertools.zip_longest","itertools.pairwise"].contains n=false) (hQ:Q () s):wpAny M A (letOwnedTupleGo tg (.ref it) u) Q E s:=by
  unfold letOwnedTupleGo
  cases tg <;> first
    | exact aH hQ
    | (cases u <;> first
        | exact aH hQ
        | (refine ao (wpAny_load ho ?_)
           rw [hc,hd];show wpAny M A (if (["enumerate","zip","dict_itemiterator","dict_reverseitemiterator","odict_iterator","itertools.zip_longest","itertools.pairwise"].contains n && vs[0]? == some (rawInt _))=true then _ else _) Q E s
           rw [ae (by intro h;rw [hn,Bool.false_and] at h;cases h)]
           exact aH hQ))
def kW(K:aG)(a:Addr):It:=
 ⟨fun i H=>∃xs x,bq K H a xs∧xs[i]?=some x,fun i H x H'=>H'=H∧∀xs,bq K H a xs→xs[i]?=some x,fun i H=>∃xs,bq K H a xs∧xs.length≤i⟩
def pP(K:aG)(a:Addr):It:=
 ⟨fun i H=>∃xs x,bx K H a xs∧xs[i]?=some x,fun i H x H'=>H'=H∧∀xs,bx K H a xs→xs[i]?=some x,fun i H=>∃xs,bx K H a xs∧xs.length≤i⟩
def jS(lo:Int)(n:Nat):It:=⟨fun i _=>i<n,fun i H x H'=>H'=H∧x=.int (lo+i),fun i _=>n≤i⟩
variable {K:aG}
theorem DN(a it:Addr):Turn P w K tg (kW K a) [it] it (fun i h=>h.IsListIter it a i) where
 mem:=by simp
 obj:=fun i h st b hb=>by
  have e:b=it:=by simpa using hb
  subst e;obtain ⟨o,e,c,d⟩:=st;exact ⟨o,e,fun v z=>by rw [d] at z;cases z⟩
 keep:=fun i h h' st k=>st.at fun o e=>k it (by simp) o e
 item:=by
  intro X hP hw hK hc i pins s σ H E I hf st hg;subst hP hw hK;obtain ⟨xs,x,hq,hx⟩:=hg;obtain ⟨ak,rv,p,hz⟩:=I.list hq;obtain ⟨u,hu,ru⟩:=rv.get hx;obtain ⟨f0,f1,f2,f3,f4,f5⟩:=hf it (by simp)
  refine wpAny_pyNext_list_item st p.isList (x:=u) (by simpa using hu) fun h' aw sb=>?_
  have I1:Inv X pins σ H {s with heap:=h'}:=I.turned (t':=s.toks) (fun b o hb e=>(sb.2 b hb).trans e) f0 f1 f3 f4 f5;obtain ⟨o,e,c,d⟩:=id aw;exact ⟨u,rfl,r_ (s:={s with heap:=h'}) e c d (by decide) ⟨x,H,I1,ru,⟨rfl,fun ys hy=>by rw [I.DB hy hq];exact hx⟩,aw,fun b hb=>(hf b hb).1⟩⟩
 done:=by
  intro X hP hw hK hc i pins s σ H E I hf st hg;subst hP hw hK;obtain ⟨xs,hq,hx⟩:=hg;obtain ⟨ak,rv,p,hz⟩:=I.list hq;obtain ⟨f0,f1,f2,f3,f4,f5⟩:=hf it (by simp)
  have hl:=rv.length;exact wpAny_pyNext_list_end (I.ok.hd hc) st p.isList (by simp;omega) fun h' eb=>⟨rfl,I.turned (t':=s.toks) (fun b o hb e=>eb b o hb e) f0 f1 f3 f4 f5⟩
 self:=fun _ _ _ _ _ st h=>wpAny_pyIter_listiter st h
theorem DO(a it:Addr):Turn P w K tg (pP K a) [it] it (fun i h=>h.IsTupleIter it a i) where
 mem:=by simp
 obj:=fun i h st b hb=>by
  have e:b=it:=by simpa using hb
  subst e;obtain ⟨o,e,c,d⟩:=st;exact ⟨o,e,fun v z=>by rw [d] at z;cases z⟩
 keep:=fun i h h' st k=>st.at fun o e=>k it (by simp) o e
 item:=by
  intro X hP hw hK hc i pins s σ H E I hf st hg;subst hP hw hK;obtain ⟨xs,x,hq,hx⟩:=hg;obtain ⟨ak,rv,p,hz⟩:=I.tuple hq;obtain ⟨u,hu,ru⟩:=rv.get hx;obtain ⟨f0,f1,f2,f3,f4,f5⟩:=hf it (by simp)
  refine wpAny_pyNext_tuple_item st (show s.heap.IsTuple a ak.toArray from p) (x:=u) (by simpa using hu) fun h' aw sb=>?_
  have I1:Inv X pins σ H {s with heap:=h'}:=I.turned (t':=s.toks) (fun b o hb e=>(sb.2 b hb).trans e) f0 f1 f3 f4 f5;obtain ⟨o,e,c,d⟩:=id aw;exact ⟨u,rfl,r_ (s:={s with heap:=h'}) e c d (by decide) ⟨x,H,I1,ru,⟨rfl,fun ys hy=>by rw [I.vF hy hq];exact hx⟩,aw,fun b hb=>(hf b hb).1⟩⟩
 done:=by
  intro X hP hw hK hc i pins s σ H E I hf st hg;subst hP hw hK;obtain ⟨xs,hq,hx⟩:=hg;obtain ⟨ak,rv,p,hz⟩:=I.tuple hq;obtain ⟨f0,f1,f2,f3,f4,f5⟩:=hf it (by simp)
  have hl:=rv.length;exact wpAny_pyNext_tuple_end (I.ok.hd hc) st (show s.heap.IsTuple a ak.toArray from p) (by simp;omega) fun h' eb=>⟨rfl,I.turned (t':=s.toks) (fun b o hb e=>eb b o hb e) f0 f1 f3 f4 f5⟩
 self:=fun _ _ _ _ _ st h=>wpAny_pyIter_tupleiter st h
theorem DP(it:Addr)(lo:Int)(n:Nat):Turn P w K tg (jS lo n) [it] it (fun i h=>IsRangeIter h it (lo+(i:Nat)*1) ((n:Int)-(i:Nat)) 1) where
 mem:=by simp
 obj:=fun i h st b hb=>by
  have e:b=it:=by simpa using hb
  subst e;exact ⟨_,st,fun v z=>by have z':Data.fields _=Data.cell v:=z;cases z'⟩
 keep:=fun i h h' st k=>k it (by simp) _ st
 item:=by
  intro X hP hw hK hc i pins s σ H E I hf st hg;subst hP hw hK;obtain ⟨f0,f1,f2,f3,f4,f5⟩:=hf it (by simp)
  have W:=Walks.range (prog:=X.prog) (w:=X.w) (I.ok.hd hc) it lo 1 n;refine W.item i s _ _ hg st fun v h' tk hv aw kk=>?_;obtain ⟨t,rfl⟩:=hv;have I1:Inv X pins σ H {s with heap:=h',toks:=tk}:=I.turned (fun b o hb e=>kk b o (by simpa using hb) e) f0 f1 f3 f4 f5
  refine ⟨_,rfl,r_ (s:={s with heap:=h',toks:=tk}) (n:="range_iterator") aw rfl rfl (by decide) ⟨.int (lo+i),H,I1,⟨t,?_⟩,⟨rfl,rfl⟩,aw,fun b hb=>(hf b hb).1⟩⟩
  rw [Int.mul_one]
 done:=by
  intro X hP hw hK hc i pins s σ H E I hf st hg;subst hP hw hK;obtain ⟨f0,f1,f2,f3,f4,f5⟩:=hf it (by simp)
  exact wpAny_pyNext_range_end (I.ok.hd hc) st (by have:n≤i:=hg;omega) fun h' eb=>⟨rfl,I.turned (t':=s.toks) (fun b o hb e=>eb b o hb e) f0 f1 f3 f4 f5⟩
 self:=fun _ _ _ _ _ st h=>wpAny_pyIter_rangeiter st h
section
variable {X:Cx} {tg:Expr}
def yQ(K:aG)(tl:TE):TI:=fun σ H R=>tl σ H fun x H1=>∃a,x=.ref a∧(∃xs,bq K H1 a xs)∧R (kW K a) H1
def DQ(K:aG)(tl:TE):TI:=fun σ H R=>tl σ H fun x H1=>∃a,x=.ref a∧(∃xs,bx K H1 a xs)∧R (pP K a) H1
theorem m_{l:Expr}{tl:TE}(hl:PE X l tl):PI X tg l (yQ X.K tl):=by
 intro pins s σ H R I h;refine aJ (hl pins s σ H _ I h) fun v s1 ⟨x,H1,I1,r1,q1⟩=>?_;obtain ⟨a,e,⟨xs,hq⟩,q⟩:=q1;subst e;cases r1;obtain ⟨ak,rv,p,hz⟩:=I1.list hq;refine wpAny_pyIter_list p.isList ?_;refine ⟨s1.heap.objs.size,[s1.heap.objs.size],_,_,H1,rfl,I1.kept (t':=s1.toks) fun b o e=>a8 _ e,DN a _,⟨_,bZ _ rfl,rfl,rfl⟩,fun b hb=>?_,q⟩;have e:b=s1.heap.objs.size:=by simpa using hb
 subst e;exact I1.pN (aC _) (I1.aA.fresh (aC _))
theorem si{l:Expr}{tl:TE}(hl:PE X l tl):PI X tg l (DQ X.K tl):=by
 intro pins s σ H R I h;refine aJ (hl pins s σ H _ I h) fun v s1 ⟨x,H1,I1,r1,q1⟩=>?_;obtain ⟨a,e,⟨xs,hq⟩,q⟩:=q1;subst e;cases r1;obtain ⟨ak,rv,p,hz⟩:=I1.tuple hq;refine wpAny_pyIter_tuple (show s1.heap.IsTuple a ak.toArray from p) ?_;refine ⟨s1.heap.objs.size,[s1.heap.objs.size],_,_,H1,rfl,I1.kept (t':=s1.toks) fun b o e=>a8 _ e,DO a _,⟨_,bZ _ rfl,rfl,rfl⟩,fun b hb=>?_,q⟩;have e:b=s1.heap.objs.size:=by simpa using hb
 subst e;exact I1.pN (aC _) (I1.aA.fresh (aC _))
variable {pins:aL}
theorem yR{R:It→Hp→Prop}{lo hi:Int}{t u v:Tok}{tk:Nat}(I:Inv X pins σ H s)(h1:-(2 ^ 62)≤lo)(h2:lo<2 ^ 62)(h3:-(2 ^ 62)≤hi)(h4:hi<2 ^ 62)
  (q:R (jS lo (hi-lo).toNat) H):wpAny (model X.prog X.w) X.A (pyIter (.ref s.heap.objs.size)) (vK X pins σ tg R) E {s with heap:=s.heap.push {cls:=.type "range",data:=.fields #[.int lo t,.int hi u,.int 1 v]},toks:=tk}:=by
 refine wpAny_pyIter_range (IsRange.new ..) (small_one h1 h2 h3 h4) ?_;have I1:Inv X pins σ H {s with heap:=s.heap.push {cls:=.type "range",data:=.fields #[.int lo t,.int hi u,.int 1 v]},toks:=tk}:=I.kept fun b o e=>a8 _ e
 refine ⟨(s.heap.push {cls:=.type "range",data:=.fields #[.int lo t,.int hi u,.int 1 v]}).objs.size,[(s.heap.push {cls:=.type "range",data:=.fields #[.int lo t,.int hi u,.int 1 v]}).objs.size],_,_,H,rfl,
  I1.kept (t':=tk) fun b o e=>a8 _ e,DP _ lo (hi-lo).toNat,?_,fun b hb=>?_,q⟩
 ·have e1:lo+((0:Nat):Int)*1=lo:=by simp
  have e2:(((hi-lo).toNat:Nat):Int)-((0:Nat):Int)=Builtin.Range.rangeSize lo hi 1:=by rw [rangeSize_one];split <;> omega
  show IsRangeIter _ _ (lo+((0:Nat):Int)*1) ((((hi-lo).toNat:Nat):Int)-((0:Nat):Int)) 1;rw [e1,e2];exact bZ _ rfl
 ·have e:b=(s.heap.push {cls:=.type "range",data:=.fields #[.int lo t,.int hi u,.int 1 v]}).objs.size:=by simpa using hb
  subst e;exact I1.pN (aC _) (I1.aA.fresh (aC _))
def DR(ta:TA):TI:=fun σ H R=>ta σ H fun vs H1=>∃j:Int,vs=[.int j]∧-(2 ^ 62)≤j∧j<2 ^ 62∧R (jS 0 j.toNat) H1
def DS(ta:TA):TI:=fun σ H R=>ta σ H fun vs H1=>∃i j:Int,vs=[.int i,.int j]∧(-(2 ^ 62)≤i∧i<2 ^ 62∧-(2 ^ 62)≤j∧j<2 ^ 62)∧R (jS i (j-i).toNat) H1
variable {ta:TA} {p pos:Pos}
theorem i_{a:Expr}(hg:Gl X "range")(hm:X.mg "range"=none)(ha:PA X [a] ta)(hs:starEach [a] X.env=[(false,eval a X.env)]:=by rfl):PI X tg (.Call (.Name "range" p) [a] [] pos) (DR ta):=by
 intro pins s σ H R I h;refine Call_ (m6 I hg hm boot_range (rg (aJ (ha pos pins s σ H _ I h) fun us s1 ⟨vs,H1,I1,r1,q1⟩=>?_) hs rfl));obtain ⟨j,e,q1,q2,q⟩:=q1;subst e;cases r1 with
 | cons r rr=>cases rr;obtain ⟨t,rfl⟩:=r;exact call_range_1 (yR I1 (by omega) (by omega) q1 q2 (by simpa using q))
theorem DT{a b:Expr}(hg:Gl X "range")(hm:X.mg "range"=none)(ha:PA X [a,b] ta)(hs:starEach [a,b] X.env=[(false,eval a X.env),(false,eval b X.env)]:=by rfl)(pQ:starEach [b] X.env=[(false,eval b X.env)]:=by rfl) :
  PI X tg (.Call (.Name "range" p) [a,b] [] pos) (DS ta):=by
 intro pins s σ H R I h;refine Call_ (m6 I hg hm boot_range (rg (aJ (ha pos pins s σ H _ I h) fun us s1 ⟨vs,H1,I1,r1,q1⟩=>?_) (by rw [hs,pQ]) (by rw [pQ];rfl)))
 obtain ⟨i,j,e,⟨q1,q2,q3,q4⟩,q⟩:=q1;subst e;cases r1 with
 | cons r rr=>
  cases rr with
  | cons r' rr=>cases rr;obtain ⟨t,rfl⟩:=r;obtain ⟨t',rfl⟩:=r';exact call_range_2 (yR I1 q1 q2 q3 q4 q)
def DU(wi:TI)(g:TG)(tb:TS):TS:=fun D σ H=>wi σ H fun J H1=>∃W:Nat→Nat→St→Hp→Prop,(∃m,W 0 m σ H1)∧∀i m σ H,W i m σ H→
 (J.stop i H∧D.nx σ H)∨(J.go i H∧∃N:St→Hp→Prop,(∀σ' H',N σ' H'→∃m',m'<m∧W (i+1) m' σ' H')∧∀x H',J.c5 i H x H'→g x σ H' fun σ2 H2=>tb {D with nx:=N,ct:=N,bk:=D.nx} σ2 H2)
def iy(fp:List Addr)(h:Heap):List (Addr×Obj):=fp.filterMap fun b=>(h.get? b).map fun o=>(b,o)
variable {fp:List Addr}
theorem jT{o:Obj}(hb:b∈fp)(e:h.get? b=some o):(b,o)∈iy fp h:=List.mem_filterMap.mpr ⟨b,hb,by rw [e];rfl⟩
theorem DV{p:Addr×Obj}(hp:p∈iy fp h):p.1∈fp∧h.get? p.1=some p.2:=by
 obtain ⟨b,hb,e⟩:=List.mem_filterMap.mp hp;cases q:h.get? b with
 | none=>rw [q] at e;cases e
 | some o=>rw [q] at e;have e':(b,o)=p:=Option.some.inj e;subst e';exact ⟨hb,q⟩
theorem Inv.pinned(I:Inv X pins σ H s)(hf:∀b∈fp,i9 X pins H b)(ho:∀b∈fp,∃o,s.heap.get? b=some o∧∀v,o.data≠.cell v):Inv X (pins++iy fp s.heap) σ H s:=
 I.yy fun p hp=>(d8.mp hp).elim (fun z=>I.pin p (dv _ z)) fun z=>by obtain ⟨hb,e⟩:=DV z;obtain ⟨f0,f1,f2,_⟩:=hf p.1 hb;obtain ⟨o,e',d⟩:=ho p.1 hb;rw [e] at e';cases e';exact ⟨e,f0,f1,f2,d⟩
theorem Inv.ng{pl:aL}(I:Inv X (pins++pl) σ H s):Inv X pins σ H s:=I.yy fun p hp=>I.pin p (dv _ (List.mem_append_left _ hp))
theorem eI{iter:Expr}{body:List Stmt}{wi:TI}{g:TG}{tb:TS}{pos:Pos}(hp:PassesOwn (model X.prog X.w) X.A X.env X.xe)(hc:X.calm=true)(hi:PI X tg iter wi)(hg:PG X tg g)(hb:fb X body tb)
  (hs:∀x,foldedSetIterable iter X.env x=pure x:=by intro _;rfl):PS X (.For tg iter body [] pos) (DU wi g tb):=by
 intro pins s σ H D I h;refine wpAny_For (aJ (hi pins s σ H _ I h) fun v s1 h1=>aJ h1 fun pO s2 h2=>?_) hs;obtain ⟨it,fp,tn,J,H2,e,I2,T,fM,f2,W,⟨m0,w0⟩,turn⟩:=h2;subst e;have eJ:∀{H':Hp},(∀b∈fp,H' b=none)→∀b∈fp,i9 X pins H' b:=fun hn b hb=>⟨hn b hb,(f2 b hb).2⟩;refine codeAny_forLoop_any (fun n s'=>∃i σ' H',Inv X pins σ' H' s'∧tn i s'.heap∧(∀b∈fp,H' b=none)∧W i n σ' H') ?_ m0 ⟨0,σ,H2,I2,fM,fun b hb=>(f2 b hb).1,w0⟩;rintro n s3 ⟨i,σ3,H3,I3,yS,yT,w3⟩;rcases turn i n σ3 H3 w3 with ⟨stop,qn⟩ | ⟨go,N,hN,step⟩
 ·refine kD hp (aJ (T.done X rfl rfl rfl hc i pins s3 σ3 H3 X.xe I3 (eJ yT) yS stop) fun r s4 ⟨hr,I4⟩=>?_)
  subst hr;exact rf ⟨σ3,H3,I4,qn⟩
 ·refine kD hp (aJ (T.item X rfl rfl rfl hc i pins s3 σ3 H3 X.xe I3 (eJ yT) yS go) fun r s4 ⟨u,hr,h4⟩=>?_)
  subst hr;refine kD hp (aJ h4 fun _ s5 ⟨x,H5,I5,r5,y5,eK,kX⟩=>?_);have kY:=I5.pinned (eJ kX) (T.obj _ _ eK);refine kD hp (aJ (hg _ s5 σ3 H5 x u _ kY r5 (step x H5 y5)) fun _ s6 ⟨σ6,H6,I6,q6⟩=>?_);refine kD hp (aJ (hb _ s6 σ6 H6 _ I6 q6) fun f s7 q7=>?_);have again:∀{σ7:St} {H7:Hp},Inv X (pins++iy fp s5.heap) σ7 H7 s7→N σ7 H7→∃m,m<n∧∃i σ' H',Inv X pins σ' H' s7∧tn i s7.heap∧(∀b∈fp,H' b=none)∧W i m σ' H':=fun{σ7 H7} I7 n7=>by obtain ⟨m',hm,w7⟩:=hN σ7 H7 n7;refine ⟨m',hm,i+1,σ7,H7,I7.ng,T.keep _ _ _ eK fun b hb o e=>(I7.pin (b,o) (dv _ (dv _ (jT hb e)))).1,fun b hb=>?_,w7⟩;obtain ⟨o,e,d⟩:=T.obj _ _ eK b hb;exact (I7.pin (b,o) (dv _ (dv _ (jT hb e)))).2.1
  cases f with
  | next=>obtain ⟨σ7,H7,I7,n7⟩:=q7;exact again I7 n7
  | cont=>obtain ⟨σ7,H7,I7,n7⟩:=q7;exact again I7 n7
  | brk=>obtain ⟨σ7,H7,I7,q7⟩:=q7;exact ⟨σ7,H7,I7.ng,q7⟩
  | ret v=>obtain ⟨x7,σ7,H7,I7,r7,q7⟩:=q7;exact ⟨x7,σ7,H7,I7.ng,r7,q7⟩
end
variable {g:TG} {tb:TS} {D:Ends}
theorem vL(Pv:Nat→St→Hp→Prop)(h0:Pv 0 σ H)(hl:∀i σ H,i≤xs.length→Pv i σ H→bq K H a xs)
  (hs:∀i x σ H,xs[i]?=some x→Pv i σ H→g x σ H fun σ2 H2=>tb {D with nx:=Pv (i+1),ct:=Pv (i+1),bk:=D.nx} σ2 H2) (hd:∀σ H,Pv xs.length σ H→D.nx σ H) :
  ∃W:Nat→Nat→St→Hp→Prop,(∃m,W 0 m σ H)∧∀i m σ H,W i m σ H→
   ((kW K a).stop i H∧D.nx σ H)∨((kW K a).go i H∧∃N:St→Hp→Prop,(∀σ' H',N σ' H'→∃m',m'<m∧W (i+1) m' σ' H')∧∀x H',(kW K a).c5 i H x H'→g x σ H' fun σ2 H2=>tb {D with nx:=N,ct:=N,bk:=D.nx} σ2 H2):=by
 refine ⟨fun i m σ H=>m=xs.length-i∧i≤xs.length∧Pv i σ H,⟨xs.length,by simp,bG _,h0⟩,?_⟩
 rintro i m σ H ⟨rfl,hi,p⟩;have q:=hl i σ H hi p;by_cases bL:i<xs.length
 ·refine .inr ⟨⟨xs,xs[i],q,by simp [bL]⟩,Pv (i+1),fun σ' H' p'=>⟨xs.length-(i+1),by omega,rfl,bL,p'⟩,fun x H' y=>?_⟩
  obtain ⟨e,y⟩:=y;subst e;exact hs i x σ _ (y xs q) p
 ·have e:i=xs.length:=by omega
  subst e;exact .inl ⟨⟨xs,q,aC _⟩,hd σ H p⟩
theorem vM(Pv:Nat→St→Hp→Prop)(h0:Pv 0 σ H)(hl:∀i σ H,i≤xs.length→Pv i σ H→bx K H a xs)
  (hs:∀i x σ H,xs[i]?=some x→Pv i σ H→g x σ H fun σ2 H2=>tb {D with nx:=Pv (i+1),ct:=Pv (i+1),bk:=D.nx} σ2 H2) (hd:∀σ H,Pv xs.length σ H→D.nx σ H) :
  ∃W:Nat→Nat→St→Hp→Prop,(∃m,W 0 m σ H)∧∀i m σ H,W i m σ H→
   ((pP K a).stop i H∧D.nx σ H)∨((pP K a).go i H∧∃N:St→Hp→Prop,(∀σ' H',N σ' H'→∃m',m'<m∧W (i+1) m' σ' H')∧∀x H',(pP K a).c5 i H x H'→g x σ H' fun σ2 H2=>tb {D with nx:=N,ct:=N,bk:=D.nx} σ2 H2):=by
 refine ⟨fun i m σ H=>m=xs.length-i∧i≤xs.length∧Pv i σ H,⟨xs.length,by simp,bG _,h0⟩,?_⟩
 rintro i m σ H ⟨rfl,hi,p⟩;have q:=hl i σ H hi p;by_cases bL:i<xs.length
 ·refine .inr ⟨⟨xs,xs[i],q,by simp [bL]⟩,Pv (i+1),fun σ' H' p'=>⟨xs.length-(i+1),by omega,rfl,bL,p'⟩,fun x H' y=>?_⟩
  obtain ⟨e,y⟩:=y;subst e;exact hs i x σ _ (y xs q) p
 ·have e:i=xs.length:=by omega
  subst e;exact .inl ⟨⟨xs,q,aC _⟩,hd σ H p⟩
variable {n:Nat}
theorem ja{lo:Int}(Pv:Nat→St→Hp→Prop)(h0:Pv 0 σ H)
  (hs:∀i σ H,i<n→Pv i σ H→g (.int (lo+i)) σ H fun σ2 H2=>tb {D with nx:=Pv (i+1),ct:=Pv (i+1),bk:=D.nx} σ2 H2) (hd:∀σ H,Pv n σ H→D.nx σ H) :
  ∃W:Nat→Nat→St→Hp→Prop,(∃m,W 0 m σ H)∧∀i m σ H,W i m σ H→
   ((jS lo n).stop i H∧D.nx σ H)∨((jS lo n).go i H∧∃N:St→Hp→Prop,(∀σ' H',N σ' H'→∃m',m'<m∧W (i+1) m' σ' H')∧∀x H',(jS lo n).c5 i H x H'→g x σ H' fun σ2 H2=>tb {D with nx:=N,ct:=N,bk:=D.nx} σ2 H2):=by
 refine ⟨fun i m σ H=>m=n-i∧i≤n∧Pv i σ H,⟨n,by simp,bG _,h0⟩,?_⟩
 rintro i m σ H ⟨rfl,hi,p⟩;by_cases bL:i<n
 ·refine .inr ⟨bL,Pv (i+1),fun σ' H' p'=>⟨n-(i+1),by omega,rfl,bL,p'⟩,fun x H' y=>?_⟩
  obtain ⟨e,y⟩:=y;subst e y;exact hs i σ _ bL p
 ·have e:i=n:=by omega
  subst e;exact .inl ⟨aC _,hd σ H p⟩
abbrev R2:=V→V→Hp→VK→Prop
def bI(X:Cx)(f:Value→Value→Sem Value)(r:R2):Prop:=
 ∀(pins:aL) (s:Shared) (σ:St) (H:Hp) (x y:V) (v u:Value) (Q:VK),Inv X pins σ H s→RelV x v→RelV y u→r x y H Q→
  wpAny (model X.prog X.w) X.A (f v u) (EP X pins σ Q) X.xe s
def vO(X:Cx)(f:Value→Sem Value)(r:V→Hp→VK→Prop):Prop:=
 ∀(pins:aL) (s:Shared) (σ:St) (H:Hp) (x:V) (v:Value) (Q:VK),Inv X pins σ H s→RelV x v→r x H Q→
  wpAny (model X.prog X.w) X.A (f v) (EP X pins σ Q) X.xe s
def en(X:Cx)(f:Value)(r:List V→Hp→VK→Prop):Prop:=
 ∀(pins:aL) (s:Shared) (σ:St) (H:Hp) (xs:List V) (us:List Value) (Q:VK),Inv X pins σ H s→Vals xs us→r xs H Q→
  wpAny (model X.prog X.w) X.A (call f us) (EP X pins σ Q) X.xe s
def jU(r:R2)(ta tb:TE):TE:=fun σ H Q=>ta σ H fun x H1=>tb σ H1 fun y H2=>r x y H2 Q
def DW(r:V→Hp→VK→Prop)(ta:TE):TE:=fun σ H Q=>ta σ H fun x H1=>r x H1 Q
def rI(C:Int→Int→Prop)(g:Int→Int→V):R2:=fun x y H Q=>∃i j,x=.int i∧y=.int j∧C i j∧Q (g i j) H
def jV(g:Int→Int→V):R2:=fun x y H Q=>∃i j,x=.int i∧y=.int j∧Q (g i j) H
def rU(g:Int→V):V→Hp→VK→Prop:=fun x H Q=>∃i,x=.int i∧Q (g i) H
section
variable {X:Cx} {a b c:Expr} {ta tb tc:TE} {pos:Pos}
variable {f:Value→Value→Sem Value}
theorem vP(ha:PE X a ta)(hb:PE X b tb){pins:aL}{R:V→V→Hp→Prop}(I:Inv X pins σ H s)
  (h:ta σ H fun x H1=>tb σ H1 fun y H2=>R x y H2) {Q:aF}
  (hf:∀v u s2 x y H2,Inv X pins σ H2 s2→RelV x v→RelV y u→R x y H2→wpAny (model X.prog X.w) X.A (f v u) Q X.xe s2) :
  wpAny (model X.prog X.w) X.A (eval a X.env) (fun v s₁=>wpAny (model X.prog X.w) X.A (eval b X.env) (fun u s₂=>wpAny (model X.prog X.w) X.A (f v u) Q X.xe s₂) X.xe s₁) X.xe s:=by
 refine aJ (ha pins s σ H _ I h) fun v s1 ⟨x,H1,I1,r1,q1⟩=>?_;refine aJ (hb pins s1 σ H1 _ I1 q1) fun u s2 ⟨y,H2,I2,r2,q2⟩=>?_;exact hf v u s2 x y H2 I2 r1 r2 q2
theorem bh{op:Operator}{r:R2}(ho:bI X (binaryOp op) r)(ha:PE X a ta)(hb:PE X b tb):PE X (.BinOp a op b pos) (jU r ta tb):=by intro pins s σ H Q I h;exact wpAny_BinOp (vP ha hb I h fun v u s2 x y H2 I2 rx ry q=>ho pins s2 σ H2 x y v u Q I2 rx ry q)
theorem vQ{op:UnaryOp}{r:V→Hp→VK→Prop}(ho:vO X (unaryOp op) r)(ha:PE X a ta):PE X (.UnaryOp op a pos) (DW r ta):=by intro pins s σ H Q I h;exact UnaryOp_ (aJ (ha pins s σ H _ I h) fun v s1 ⟨x,H1,I1,r1,q1⟩=>ho pins s1 σ H1 x v Q I1 r1 q1)
theorem sj{C:Int→Int→Prop}{g:Int→Int→Int}
  (rule:∀(i j:Int) (t u:Tok) (s:Shared) (Q:aF) (E:aF),C i j→Q (.int (g i j) s.toks) {s with toks:=s.toks+1}→wpAny (model X.prog X.w) X.A (f (.int i t) (.int j u)) Q E s) :
  bI X f (rI C fun i j=>.int (g i j)):=by
 intro pins s σ H x y v u Q I rx ry h;obtain ⟨i,j,rfl,rfl,hc,q⟩:=h;obtain ⟨t,rfl⟩:=rx;obtain ⟨t',rfl⟩:=ry;exact rule i j t t' s _ _ hc ⟨.int (g i j),H,I.tok _,⟨_,rfl⟩,q⟩
theorem yU{g:Int→Int→Int}
  (rule:∀(i j:Int) (t u:Tok) (s:Shared) (Q:aF) (E:aF),Q (.int (g i j) s.toks) {s with toks:=s.toks+1}→wpAny (model X.prog X.w) X.A (f (.int i t) (.int j u)) Q E s) :
  bI X f (jV fun i j=>.int (g i j)):=by
 intro pins s σ H x y v u Q I rx ry h;obtain ⟨i,j,rfl,rfl,q⟩:=h;obtain ⟨t,rfl⟩:=rx;obtain ⟨t',rfl⟩:=ry;exact rule i j t t' s _ _ ⟨.int (g i j),H,I.tok _,⟨_,rfl⟩,q⟩
theorem sk{g:Int→Int→Bool}
  (rule:∀(i j:Int) (t u:Tok) (s:Shared) (Q:aF) (E:aF),Q (.bool (g i j)) s→wpAny (model X.prog X.w) X.A (f (.int i t) (.int j u)) Q E s) :
  bI X f (jV fun i j=>.bl (g i j)):=by
 intro pins s σ H x y v u Q I rx ry h;obtain ⟨i,j,rfl,rfl,q⟩:=h;obtain ⟨t,rfl⟩:=rx;obtain ⟨t',rfl⟩:=ry;exact rule i j t t' s _ _ ⟨.bl (g i j),H,I,rfl,q⟩
def DX(i j:Int):Prop:=0≤j∧j≤1000000∧i.natAbs<2 ^ 64
def vR(i j:Int):Prop:=(-(2 ^ 64)<i∧i<2 ^ 64)∨(-(2 ^ 64)<j∧j<2 ^ 64)
theorem vR.ok{i j:Int}(h:vR i j):IntMulOk i j:=by
 rcases h with ⟨h1,h2⟩ | ⟨h1,h2⟩;·exact .of_left (intBits_le_64 h1 h2)
 ·exact .of_right (intBits_le_64 h1 h2)
theorem gX:bI X (binaryOp .Add) (jV fun i j=>.int (i+j)):=yU fun _ _ _ _ _ _ _ q=>add_int q
theorem pR:bI X (binaryOp .Sub) (jV fun i j=>.int (i-j)):=yU fun _ _ _ _ _ _ _ q=>sub_int q
theorem jb:bI X (binaryOp .Mult) (rI vR fun i j=>.int (i*j)):=sj fun _ _ _ _ _ _ _ hc q=>mul_int q hc.ok
theorem kZ:bI X (binaryOp .Mod) (rI (fun _ j=>0<j) fun i j=>.int (i % j)):=sj fun i j _ _ _ _ _ hc q=>by have h1:(0:Int)<j:=hc;exact mod_int' (by omega) (by rw [Int.fmod_eq_emod_of_nonneg i (by omega)];exact q)
theorem DY:bI X (binaryOp .Pow) (rI DX fun i j=>.int (i ^ j.toNat)):=sj fun _ _ _ _ _ _ _ hc q=>pow_int_small hc.1 hc.2.1 hc.2.2 q
theorem DZ{f:Value→Sem Value}{g:Int→Int}
  (rule:∀(i:Int) (t:Tok) (s:Shared) (Q:aF) (E:aF),Q (.int (g i) s.toks) {s with toks:=s.toks+1}→wpAny (model X.prog X.w) X.A (f (.int i t)) Q E s) :
  vO X f (rU fun i=>.int (g i)):=by
 intro pins s σ H x v Q I rx h;obtain ⟨i,rfl,q⟩:=h;obtain ⟨t,rfl⟩:=rx;exact rule i t s _ _ ⟨.int (g i),H,I.tok _,⟨_,rfl⟩,q⟩
theorem vS:vO X (unaryOp .USub) (rU fun i=>.int (-i)):=DZ fun _ _ _ _ _ q=>neg_int q
end
def yV:V→V→Bool
 | .aI,.aI=>true | .aI,.int _=>true | .int _,.aI=>true | .aI,.bl _=>true | .bl _,.aI=>true | .aI,.str _=>true | .str _,.aI=>true
 | .int _,.int _=>true | .bl _,.bl _=>true | .str _,.str _=>true | .gS _,.gS _=>true
 | .int _,.str _=>true | .str _,.int _=>true | .bl _,.str _=>true | .str _,.bl _=>true
 | _,_=>false
def D1:R2:=fun x y H Q=>yV x y=true∧Q (.bl (decide (x=y))) H
def D3:R2:=fun x y H Q=>yV x y=true∧Q (.bl (!decide (x=y))) H
theorem yW{i j:Int}:decide (V.int i=V.int j)=(i == j):=by rw [oU];simp
theorem yX{i j:Bool}:decide (V.bl i=V.bl j)=(i == j):=by rw [oU];simp
theorem yY{i j:Str}:decide (V.str i=V.str j)=(i == j):=by rw [oU];simp
theorem yZ{i j:Array UInt8}:decide (V.gS i=V.gS j)=(i.toList == j.toList):=by rw [oU];cases i;cases j;simp
section
variable {X:Cx} {a b c:Expr} {ta tb tc:TE} {pos:Pos}
theorem bP{pins:aL}{Q:VK}{k k':Bool}(I:Inv X pins σ H s)(q:Q (.bl k) H)(e:k=k'):EP X pins σ Q (.bool k') s:=by subst e;exact ⟨.bl k,H,I,rfl,q⟩
theorem gy:bI X (compareOp .Eq) D1:=by
 intro pins s σ H x y v u Q I rx ry h;obtain ⟨hs,q⟩:=h;cases x with
 | aI=>
  cases rx;cases y with
  | aI=>cases ry;exact PySem.EqNone.eq_none_none (bP I q (by simp))
  | bl j=>cases ry;exact PySem.EqNone.eq_none_bool (bP I q (by simp))
  | int j=>obtain ⟨t',rfl⟩:=ry;exact PySem.EqNone.eq_none_int (bP I q (by simp))
  | str j=>obtain ⟨t',rfl⟩:=ry;exact PySem.EqNone.eq_none_str (bP I q (by simp))
  | _=>exact absurd (show false=true from hs) bW
 | bl i=>
  cases rx;cases y with
  | aI=>cases ry;exact PySem.EqNone.eq_bool_none (bP I q (by simp))
  | bl j=>cases ry;exact eq_bool (bP I q yX)
  | str j=>obtain ⟨t',rfl⟩:=ry;exact PySem.EqMixed.eq_bool_str (bP I q (by simp))
  | _=>exact absurd (show false=true from hs) bW
 | int i=>
  obtain ⟨t,rfl⟩:=rx;cases y with
  | aI=>cases ry;exact PySem.EqNone.eq_int_none (bP I q (by simp))
  | int j=>obtain ⟨t',rfl⟩:=ry;exact eq_int (bP I q yW)
  | str j=>obtain ⟨t',rfl⟩:=ry;exact PySem.EqMixed.eq_int_str (bP I q (by simp))
  | _=>exact absurd (show false=true from hs) bW
 | str i=>
  obtain ⟨t,rfl⟩:=rx;cases y with
  | aI=>cases ry;exact PySem.EqNone.eq_str_none (bP I q (by simp))
  | bl j=>cases ry;exact PySem.EqMixed.eq_str_bool (bP I q (by simp))
  | int j=>obtain ⟨t',rfl⟩:=ry;exact PySem.EqMixed.eq_str_int (bP I q (by simp))
  | str j=>obtain ⟨t',rfl⟩:=ry;exact eq_str (bP I q yY)
  | _=>exact absurd (show false=true from hs) bW
 | gS i=>
  obtain ⟨t,rfl⟩:=rx;cases y with
  | gS j=>obtain ⟨t',rfl⟩:=ry;exact PySem.W.eq_bytes (bP I q yZ)
  | _=>exact absurd (show false=true from hs) bW
 | _=>cases y <;> exact absurd (show false=true from hs) bW
theorem vT:bI X (compareOp .NotEq) D3:=by
 intro pins s σ H x y v u Q I rx ry h;obtain ⟨hs,q⟩:=h;cases x with
 | aI=>
  cases rx;cases y with
  | aI=>cases ry;exact PySem.EqNone.ne_none_none (bP I q (by simp))
  | bl j=>cases ry;exact PySem.EqNone.ne_none_bool (bP I q (by simp))
  | int j=>obtain ⟨t',rfl⟩:=ry;exact PySem.EqNone.ne_none_int (bP I q (by simp))
  | str j=>obtain ⟨t',rfl⟩:=ry;exact PySem.EqNone.ne_none_str (bP I q (by simp))
  | _=>exact absurd (show false=true from hs) bW
 | bl i=>
  cases rx;cases y with
  | aI=>cases ry;exact PySem.EqNone.ne_bool_none (bP I q (by simp))
  | bl j=>cases ry;exact ne_bool (bP I q (cy not yX))
  | str j=>obtain ⟨t',rfl⟩:=ry;exact PySem.EqMixed.ne_bool_str (bP I q (by simp))
  | _=>exact absurd (show false=true from hs) bW
 | int i=>
  obtain ⟨t,rfl⟩:=rx;cases y with
  | aI=>cases ry;exact PySem.EqNone.ne_int_none (bP I q (by simp))
  | int j=>obtain ⟨t',rfl⟩:=ry;exact ne_int (bP I q (cy not yW))
  | str j=>obtain ⟨t',rfl⟩:=ry;exact PySem.EqMixed.ne_int_str (bP I q (by simp))
  | _=>exact absurd (show false=true from hs) bW
 | str i=>
  obtain ⟨t,rfl⟩:=rx;cases y with
  | aI=>cases ry;exact PySem.EqNone.ne_str_none (bP I q (by simp))
  | bl j=>cases ry;exact PySem.EqMixed.ne_str_bool (bP I q (by simp))
  | int j=>obtain ⟨t',rfl⟩:=ry;exact PySem.EqMixed.ne_str_int (bP I q (by simp))
  | str j=>obtain ⟨t',rfl⟩:=ry;exact ne_str (bP I q (cy not yY))
  | _=>exact absurd (show false=true from hs) bW
 | gS i=>
  obtain ⟨t,rfl⟩:=rx;cases y with
  | gS j=>obtain ⟨t',rfl⟩:=ry;exact PySem.W.ne_bytes (bP I q (cy not yZ))
  | _=>exact absurd (show false=true from hs) bW
 | _=>cases y <;> exact absurd (show false=true from hs) bW
theorem sr:bI X (compareOp .Lt) (jV fun i j=>.bl (decide (i<j))):=sk fun _ _ _ _ _ _ _ q=>lt_int q
theorem su:bI X (compareOp .LtE) (jV fun i j=>.bl (decide (i≤j))):=sk fun _ _ _ _ _ _ _ q=>le_int q
theorem pS:bI X (compareOp .Gt) (jV fun i j=>.bl (decide (j<i))):=sk fun _ _ _ _ _ _ _ q=>gt_int q
theorem D4:bI X (compareOp .GtE) (jV fun i j=>.bl (decide (j≤i))):=sk fun _ _ _ _ _ _ _ q=>ge_int q
variable {op:CmpOp}
theorem iz(b:Expr)(h:op≠.In:=by decide)(h2:op≠.NotIn:=by decide):behindInMarks op b=false:=by
 have e1:(op == CmpOp.In)=false:=by cases op <;> first | rfl | exact absurd rfl h
 have e2:(op == CmpOp.NotIn)=false:=by cases op <;> first | rfl | exact absurd rfl h2
 cases b <;> simp [behindInMarks,e1,e2]
theorem sC{op:CmpOp}{r:R2}(ho:bI X (compareOp op) r)(ha:PE X a ta)(hb:PE X b tb)(hm:behindInMarks op b=false):PE X (.Compare a [op] [b] pos) (jU r ta tb):=by intro pins s σ H Q I h;exact wpAny_Compare1 (vP ha hb I h fun v u s2 x y H2 I2 rx ry q=>ho pins s2 σ H2 x y v u Q I2 rx ry q) hm
variable {r:R2}
theorem jW(ho:bI X (compareOp op) r)(ha:PE X a ta)(hb:PE X b tb)(hm:behindInMarks op b=false:=by exact iz _):PE X (.Compare a [op] [b] pos) (jU r ta tb):=sC ho ha hb hm
def y4(t:TE):TT:=fun σ H Q=>t σ H fun x H'=>∃k,x=.bl k∧Q k H'
theorem k4{op:CmpOp}{r:R2}(ho:bI X (compareOp op) r)(ha:PE X a ta)(hb:PE X b tb)(hm:behindInMarks op b=false):PT X (.Compare a [op] [b] pos) (y4 (jU r ta tb)):=by intro pins s σ H Q I h;refine wpAny_isTrue_Compare1 (aJ (ha pins s σ H _ I h) fun v s1 ⟨x,H1,I1,r1,q1⟩=>aJ (hb pins s1 σ H1 _ I1 q1) fun u s2 ⟨y,H2,I2,r2,q2⟩=>aJ (ho pins s2 σ H2 x y v u _ I2 r1 r2 q2) fun c s3 ⟨z,H3,I3,r3,k,e,q3⟩=>?_) hm;subst e;cases r3;exact jF ⟨H3,I3,q3⟩
theorem dA(ho:bI X (compareOp op) r)(ha:PE X a ta)(hb:PE X b tb)(hm:behindInMarks op b=false:=by exact iz _):PT X (.Compare a [op] [b] pos) (y4 (jU r ta tb)):=k4 ho ha hb hm
def D5(r r':R2)(ta tb tc:TE):TE:=fun σ H Q=>ta σ H fun x H1=>tb σ H1 fun y H2=>r x y H2 fun z H3=>∃k,z=.bl k ∧
 (if k=true then tc σ H3 fun w' H4=>r' y w' H4 Q else Q (.bl false) H3)
theorem y6{vU:CmpOp}{r':R2}(ho:bI X (compareOp op) r)(i7:bI X (compareOp vU) r')(ha:PE X a ta)(hb:PE X b tb)(hc:PE X c tc)
  (hm:lastMarks [op,vU] [b,c]=false:=by with_unfolding_all rfl):PE X (.Compare a [op,vU] [b,c] pos) (D5 r r' ta tb tc):=by
 intro pins s σ H Q I h;refine Compare_chain (aJ (ha pins s σ H _ I h) fun v s1 ⟨x,H1,I1,r1,q1⟩=>chain_link (aJ (hb pins s1 σ H1 _ I1 q1) fun u s2 ⟨y,H2,I2,r2,q2⟩=>aJ (ho pins s2 σ H2 x y v u _ I2 r1 r2 q2) fun d s3 ⟨z,H3,I3,r3,k,e,q3⟩=>?_)) hm;subst e;cases r3;refine jF ?_;cases k with
 | false=>exact ite_ff ⟨.bl false,H3,I3,rfl,q3⟩
 | true=>exact ite_tt (chain_last (aJ (hc pins s3 σ H3 _ I3 q3) fun w' s4 ⟨z',H4,I4,r4,q4⟩=>i7 pins s4 σ H4 y z' u w' Q I4 r2 r4 q4))
theorem sD:(sizeLine:Nat)<2 ^ 63:=by rw [jG];decide
theorem vals1(r:Vals [x] us):∃u,us=[u]∧RelV x u:=by
 cases r with
 | cons r1 r2=>cases r2;exact ⟨_,rfl,r1⟩
theorem vals2{y:V}(r:Vals [x,y] us):∃u w',us=[u,w']∧RelV x u∧RelV y w':=by
 cases r with
 | cons r1 r2=>
  cases r2 with
  | cons r3 r4=>cases r4;exact ⟨_,_,rfl,r1,r3⟩
theorem D6(hc:X.calm=true):en X (.builtin "max") (fun xs H Q=>∃i j,xs=[.int i,.int j]∧Q (.int (if j>i then j else i)) H):=by
 intro pins s σ H xs us Q I r h;obtain ⟨i,j,rfl,q⟩:=h;obtain ⟨u,w',rfl,⟨t,rfl⟩,⟨t',rfl⟩⟩:=vals2 r;refine max_two_ints (I.ok.hd hc) fun h' tk k=>⟨_,H,I.kept k,?_,q⟩;by_cases hj:j>i;·rw [aj hj,aj hj];exact ⟨_,rfl⟩
 ·rw [ae hj,ae hj];exact ⟨_,rfl⟩
theorem D7(hc:X.calm=true):en X (.builtin "min") (fun xs H Q=>∃i j,xs=[.int i,.int j]∧Q (.int (if j<i then j else i)) H):=by
 intro pins s σ H xs us Q I r h;obtain ⟨i,j,rfl,q⟩:=h;obtain ⟨u,w',rfl,⟨t,rfl⟩,⟨t',rfl⟩⟩:=vals2 r;refine min_two_ints (I.ok.hd hc) fun h' tk k=>⟨_,H,I.kept k,?_,q⟩;by_cases hj:j<i;·rw [aj hj,aj hj];exact ⟨_,rfl⟩
 ·rw [ae hj,ae hj];exact ⟨_,rfl⟩
theorem D8:en X (.type "int") (fun xs H Q=>(∃i,xs=[.int i]∧Q (.int i) H)∨∃k,xs=[.bl k]∧Q (.int (if k then 1 else 0)) H):=by
 intro pins s σ H xs us Q I r h;rcases h with ⟨i,rfl,q⟩ | ⟨k,rfl,q⟩
 ·obtain ⟨u,rfl,t,rfl⟩:=vals1 r
  exact call_int_int ⟨.int i,H,I,⟨_,rfl⟩,q⟩
 ·obtain ⟨u,rfl,r1⟩:=vals1 r
  cases r1;exact call_int_bool ⟨.int (if k then 1 else 0),H,I.tok _,⟨_,rfl⟩,q⟩
theorem D9:en X (.type "str") (fun xs H Q=>∃i,xs=[.int i]∧i.natAbs.log2<1920∧Q (.str (toString i)) H):=by intro pins s σ H xs us Q I r h;obtain ⟨i,rfl,hz,q⟩:=h;obtain ⟨u,rfl,t,rfl⟩:=vals1 r;exact PySem.P.str_of_int hz ⟨.str _,H,I.tok _,⟨_,rfl⟩,q⟩
end
structure vV (h:Heap) (x dx C:Addr) (mA:bY):Prop where
 obj:h.get? x=some (PySem.W.instObj C dx)
 ns:h.Ns1 dx mA
 ne:dx≠x
variable {dx:Addr} {mA:bY}
theorem D_(n:h.Ns1 dx mA):∃od,h.get? dx=some od∧∀name,PySem.W.lookIn name od=some (mA name):=by
 obtain ⟨o,es,ep,ho,hd,hk,_,hm⟩:=n;refine ⟨o,ho,fun name=>?_⟩;have e:=hm name;unfold nsFind findBy at e;rw [←Array.find?_toList] at e;unfold PySem.W.lookIn;rw [hd];dsimp only
 split
 ·rename_i y q
  rw [q] at e;exact cy some e
 ·rename_i q
  rw [q] at e;have a:es.toList.any (·.refKey)=false:=by rw [List.any_eq_false];intro y hy;obtain ⟨z,t,Ea⟩:=hk y (Array.mem_toList_iff.mp hy);simp [DictEntry.refKey,Ea]
  have a':¬es.toList.any (·.refKey)=true:=by rw [a];exact bW
  rw [ae a'];exact cy some e
theorem vV.look{x C:Addr}(I:vV h x dx C mA):∃od,PySem.W.InstAt h x (PySem.W.instObj C dx) C (some od)∧∀name,PySem.W.lookIn name od=some (mA name):=
 let ⟨od,ho,hl⟩:=D_ I.ns
 ⟨od,⟨I.obj,rfl,rfl,ho⟩,hl⟩
section
variable {prog:Program} {w:World} {A:Around} {E:aF} {s:Shared} {K:aG} {x dx C f:Addr} {mA:bY} {name:Str} {v:Value}
end
section
variable {P:Program} {w:World} {H H':Hp} {h h':Heap} {a C dx:Addr} {fs vx:List (Str×V)}
theorem Eb(aA:bD P w H h)(e:H a=some (.ins C dx fs)):∃mA,vV h a dx C mA∧(∀f,kJ (fs.lookup f) (mA f))∧PySem.Within mA (fs.map (·.1))∧fs.length≤1000∧H dx=some (.own a):=by obtain ⟨d,z,ne,ob,mA,n,r,q⟩:=(show bH P w H h a (.ins C dx fs) from aA a _ e);exact ⟨mA,⟨ob,n,ne⟩,r,q,z,d⟩
end
structure vW (K:aG) (C:Addr):Prop where
 pg:PySem.W.plainGet K C Str.empty=true
 hd:PySem.W.hasDictIn K C=true
 po:PySem.W.plainOver K C=true
 sa:PySem.W.findIn K (.ref C) "__setattr__"=some (some (.builtin "object.__setattr__"))
theorem vW.get{K:aG}{C:Addr}(c:vW K C)(f:Str):PySem.W.plainGet K C f=true:=c.pg
section
variable {X:Cx} {pins:aL} {σ:St} {H:Hp} {s:Shared} {a C dx:Addr} {fs:List (Str×V)} {f:Str} {v:V} {A:Around} {E:aF}
end
section
variable {X:Cx} {o e value:Expr} {f:Str} {pos pos' sE:Pos} {ta tv:TE}
end
section
variable {X:Cx} {pins:aL} {σ:St} {H:Hp} {s:Shared} {A:Around} {E:aF} {Q:aF} {c:Value} {b:Bool}
inductive fN (K:aG) (H:Hp):V→Value→Prop where
 | aI:fN K H .aI (.type "NoneType")
 | bl (x:Bool):fN K H (.bl x) (.type "bool")
 | int (i:Int):fN K H (.int i) (.type "int")
 | str (x:Str):fN K H (.str x) (.type "str")
 | mY (x:UInt64):fN K H (.mY x) (.type "float")
 | lst {a:Addr} {xs:List V} (e:H a=some (.lst xs)):fN K H (.ref a) (.type "list")
 | bN {a:Addr} {o:Obj} {xs:List V} (e:H a=some (.bN o (.lst xs))):fN K H (.ref a) (.type "list")
 | tup {a:Addr} {xs:List V} (e:H a=some (.tup xs)):fN K H (.ref a) (.type "tuple")
 | dK {a:Addr} {kvs:List (Key×V)} (e:H a=some (.dK kvs)):fN K H (.ref a) (.type "dict")
 | dT {a:Addr} {kvs:List (List Key×V)} (e:H a=some (.dT kvs)):fN K H (.ref a) (.type "dict")
 | ins {a C dx:Addr} {fs:List (Str×V)} (e:H a=some (.ins C dx fs)) (cl:vW K C) (ha:PySem.W.findIn K (.ref C) "__class__"=some (some (.builtin "object.__class__")))
   (hn:PySem.W.specialIn K (.builtin "object.__class__") "__get__"=some (some (.builtin "getset_descriptor.__get__"))) (y7:PySem.W.takesIn K (.builtin "object.__class__")=some true)
   (hm:PySem.W.mroIn K C (.type "object")=some true):fN K H (.ref a) (.ref C)
theorem Ec{t:Value}(I:Inv X pins σ H s)(rx:RelV x u)(ty:fN X.K H x t)(e:PySem.W.kitOne X.K t c=some b)(h:∀tk,Q (.bool b) {s with toks:=tk}) :
  wpAny (model X.prog X.w) A (call (.builtin "isinstance") [u,c]) Q E s:=by
 cases ty with
 | aI=>cases (show u=Value.none from rx);exact fH PySem.W.kitx_none I.dn True.intro e (fun z=>nomatch z) h
 | bl y=>cases (show u=Value.bool y from rx);exact fH PySem.W.kitx_bool I.dn True.intro e (fun z=>nomatch z) h
 | int i=>obtain ⟨t,q⟩:=(show ∃t,u=Value.int i t from rx);cases q;exact fH PySem.W.kitx_int I.dn True.intro e (fun z=>nomatch z) h
 | str y=>obtain ⟨t,q⟩:=(show ∃t,u=Value.str y t from rx);cases q;exact fH PySem.W.kitx_str I.dn True.intro e (fun z=>nomatch z) h
 | mY y=>obtain ⟨t,q⟩:=(show ∃t,u=Value.float y t from rx);cases q;exact fH PySem.W.kitx_float I.dn True.intro e (fun z=>nomatch z) h
 | @lst a xs ea=>cases (show u=Value.ref a from rx);obtain ⟨_,_,n,_,h1⟩:=(show bH X.prog X.w H s.heap a (.lst xs) from I.aA a _ ea);exact fH PySem.W.kitx_list I.dn ⟨_,h1,rfl⟩ e (fun z=>nomatch z) h
 | @bN a ob xs ea=>cases (show u=Value.ref a from rx);obtain ⟨_,_,_,n,_,h1⟩:=(show bH X.prog X.w H s.heap a (.bN ob (.lst xs)) from I.aA a _ ea);exact fH PySem.W.kitx_list I.dn ⟨_,h1,rfl⟩ e (fun z=>nomatch z) h
 | @tup a xs ea=>cases (show u=Value.ref a from rx);obtain ⟨_,_,_,p⟩:=(show bH X.prog X.w H s.heap a (.tup xs) from I.aA a _ ea);obtain ⟨o,h1,h2,_⟩:=p;exact fH PySem.W.kitx_tuple I.dn ⟨o,h1,h2⟩ e (fun z=>nomatch z) h
 | @dK a kvs ea=>cases (show u=Value.ref a from rx);obtain ⟨_,_,vs,_,p⟩:=(show bH X.prog X.w H s.heap a (.dK kvs) from I.aA a _ ea);obtain ⟨o,es,ep,h1,h2,_⟩:=p;exact fH PySem.W.kitx_dict I.dn ⟨o,h1,h2.1⟩ e (fun z=>nomatch z) h
 | @dT a kvs ea=>cases (show u=Value.ref a from rx);obtain ⟨_,_,xs,_,o,es,ep,h1,h2,_⟩:=(show bH X.prog X.w H s.heap a (.dT kvs) from I.aA a _ ea);exact fH PySem.W.kitx_dict I.dn ⟨o,h1,h2.1⟩ e (fun z=>nomatch z) h
 | @ins a C dx fs ea cl ha hn y7 hm=>cases (show u=Value.ref a from rx);obtain ⟨mA,O,_⟩:=Eb I.aA ea;obtain ⟨od,J,_⟩:=O.look;exact fH (PySem.W.kitx_own (cl.get _) cl.hd ha hn y7 hm) I.dn J e (fun z=>nomatch z) h
end
structure cU (k:Nat) (A:Around):Prop where
 hd:A.handled=none
 dp:A.depth+3*k+5<recursionLimit
 un:A.units+16*k+200<cLine
variable {k:Nat}
theorem cU.mono{j:Nat}(r:cU k A)(h:j≤k):cU j A:=⟨r.hd,by have:=r.dp;omega,by have:=r.un;omega⟩
theorem cU.deeper(r:cU (k+1) A)(env:Env):cU k (A.deeper env):=
 ⟨r.hd,by have:=r.dp;show A.depth+1+3*k+5<_;omega,by have:=r.un;show A.units+3+16*k+200<_;omega⟩
theorem cU.depth(r:cU k A):A.depth<recursionLimit:=by have:=r.dp;omega
theorem cU.units(r:cU k A):A.units+64<cLine:=by have:=r.un;omega
theorem cU.Ed(r:cU k A):A.units<cLine:=by have:=r.un;omega
def y8:TA:=fun _ H Q=>Q [] H
def sF(ta:TE)(tr:TA):TA:=fun σ H Q=>ta σ H fun x H1=>tr σ H1 fun xs H2=>Q (x::xs) H2
section
variable {X:Cx} {e:Expr} {es:List Expr} {te:TE} {t:TA} {pos:Pos}
theorem au:PA X [] y8:=fun _ _ _ _ H Q I h=>Calls.spliced_nil ⟨[],H,I,.nil,h⟩
theorem Ee(ha:PE X e te)(hr:PA X es t)(hs:starEach (e::es) X.env=(false,eval e X.env)::starEach es X.env:=by rfl):PA X (e::es) (sF te t):=by intro pos pins s σ H Q I h;rw [hs];show wpAny _ _ (spliced ((false,eval e X.env)::backTo pos (starEach es X.env))) _ _ s;refine Calls.spliced_cons (aJ (ha pins s σ H _ I h) fun u s1 ⟨x,H1,I1,r1,q1⟩=>?_);exact aJ (hr pos pins s1 σ H1 _ I1 q1) fun us s2 ⟨xs,H2,I2,r2,q2⟩=>⟨x::xs,H2,I2,.cons r1 r2,q2⟩
def Ef(t:TA):TE:=fun σ H Q=>t σ H fun xs H1=>xs.length≤sizeLine∧∀p,H1 p=none→Q (.ref p) (upd H1 p (.tup xs))
def y9(t:TA):TE:=fun σ H Q=>t σ H fun xs H1=>xs.length≤sizeLine∧∀p,H1 p=none→Q (.ref p) (upd H1 p (.lst xs))
theorem aZ{x1}(h:PA X es t):PE X (.Tuple es x1 pos) (Ef t):=by
 intro pins s σ H Q I hq;refine wpAny_Tuple_spliced (aJ (h pos pins s σ H _ I hq) fun us s1 ⟨xs,H1,I1,r,z,q⟩=>⟨by rw [←r.length];exact z,?_⟩)
 have hf:H1 s1.heap.objs.size=none:=I1.aA.fresh (aC _);refine ⟨.ref s1.heap.objs.size,upd H1 s1.heap.objs.size (.tup xs),I1.laid (t':=s1.toks) (fun b u e=>a8 _ e) (aC _) ?_,rfl,q _ hf⟩;exact ⟨z,us,r,⟨_,bZ _ rfl,rfl,_,rfl⟩⟩
theorem dB(h:PA X es t):PE X (.List es pos) (y9 t):=by
 intro pins s σ H Q I hq;refine wpAny_List_spliced (aJ (h pos pins s σ H _ I hq) fun us s1 ⟨xs,H1,I1,r,z,q⟩=>⟨by rw [←r.length];exact z,?_⟩)
 have hf:H1 s1.heap.objs.size=none:=I1.aA.fresh (aC _);refine ⟨.ref s1.heap.objs.size,upd H1 s1.heap.objs.size (.lst xs),I1.laid (t':=s1.toks) (fun b u e=>a8 _ e) (aC _) ?_,rfl,q _ hf⟩;exact ⟨z,us,0,r,bZ _ rfl⟩
end
abbrev Sp:=List V→Hp→VK→XK→Prop
abbrev fg:=List Env→Hp→Shared→XK→Value→Shared→Prop
structure sG (P:Program) (w:World) (K:aG) (mg:bY) (base:Heap) (A:Around) (outer:List Env) (s:Shared) (H:Hp):Prop where
 frames:A.frames=some outer
 mod:Mod K mg base
 bs:∀b o,base.get? b=some o→s.heap.get? b=some o∧H b=none
 gr:base.objs.size≤s.heap.objs.size
 gW:s.heap.FunFrames base outer
 m4:∀b∈dS outer,H b=none
 aA:bD P w H s.heap
 bare:AllBare s.gens
def CE(outer:List Env)(P:Program)(w:World)(H:Hp)(s:Shared)(Q:VK)(u:Value)(s':Shared):Prop:=
 ∃v H',s'.os=s.os∧AllBare s'.gens∧Un (dS outer) [] H H' s.heap s'.heap∧bD P w H' s'.heap∧RelV v u∧Q v H'
def CR(CX:fg)(outer:List Env)(P:Program)(w:World)(H:Hp)(s:Shared)(Q:VK)(E:XK)(r:Result)(s':Shared):Prop:=
 match r with
 | .ok (.ret u)=>CE outer P w H s Q u s'
 | .ok _=>False
 | .error e=>CX outer H s E e s'
structure bT (P:Program) (w:World) (K:aG) (mg:bY) (base:Heap) (CX:fg) (k:Nat) (f:Addr) (fd:FuncData) (ps:List Str) (sp:Sp):Prop where
 len:∀vs H Q E,sp vs H Q E→vs.length=ps.length
 run:∀(A:Around) (outer:List Env) (s:Shared) (H:Hp) (args:Args) (us:List Value) (vs:List V) (Q:VK) (E:XK),cU k A→sG P w K mg base A outer s H→BindsTo s fd args (ps.zip us)→Vals vs us→sp vs H Q E→
  codeAny (model P w) A (.call (.ref f) args) (CR CX outer P w H s Q E) s
section
variable {X:Cx} {pins:aL} {σ:St} {H:Hp} {s s':Shared}
theorem Inv.Eg(I:Inv X pins σ H s):sG X.prog X.w X.K X.mg X.base X.A X.stack s H:=
 ⟨I.ok.frames,I.ok.mod,I.bs,cf I.ok.gr I.sz,I.stack,I.rT,I.aA,I.bare⟩
theorem Inv.after{Q:VK}(I:Inv X pins σ H s)(h:CE X.stack X.prog X.w H s Q u s'):EP X pins σ Q u s':=by obtain ⟨v,H',os,bare,un,aA,r,q⟩:=h;obtain ⟨hh,g,d,t,Eh⟩:=s';obtain rfl:Eh=s.os:=os;exact ⟨v,H',I.call (h':=hh) (g':=g) (d':=d) (t':=t) (ch:=[]) un aA bare (fun b z=>absurd z (by simp)),r,q⟩
end
def y_(sp:Sp)(iA:List V)(E:XK)(t:TA):TE:=fun σ H Q=>t σ H fun vs H1=>sp (vs++iA) H1 Q E
def Binds(K:aG)(fd:FuncData)(ps:List Str)(ds:List Value):Prop:=
 ∀(s:Shared) (us:List Value),K.In s.heap→(us++ds).length=ps.length→BindsTo s fd ⟨us,[]⟩ (ps.zip (us++ds))
variable {ps:List Str}
theorem Binds.all{fd:FuncData}(h:∀us:List Value,us.length=ps.length→bindArgs fd ⟨us,[]⟩=pure (ps.zip us)):Binds K fd ps []:=fun s us _ hl=>by rw [oV] at hl ⊢;exact .of_eq (h us hl)
def Passes(CX:fg)(X:Cx)(E:XK):Prop:=∀(pins:aL) (σ:St) (H:Hp) (s:Shared) (e:Value) (s':Shared),Inv X pins σ H s→CX X.stack H s E e s'→X.xe e s'
section
variable {X:Cx} {CX:fg} {k:Nat} {f C:Addr} {fd:FuncData} {ps:List Str} {sp:Sp} {iA:List V} {ds:List Value} {E:XK} {x m:Str} {p pos apos:Pos} {e o:Expr} {es:List Expr} {ta:TE} {t:TA}
theorem Ei{pins:aL}{Q:VK}{vs:List V}(F:bT X.prog X.w X.K X.mg X.base CX k f fd ps sp)(hr:cU k X.A)(hb:Binds X.K fd ps ds)(hd:Vals iA ds)(hx:Passes CX X E)
  (I:Inv X pins σ H s) (r:Vals vs us) (h:sp (vs++iA) H Q E):wpAny (model X.prog X.w) X.A (call (.ref f) us) (EP X pins σ Q) X.xe s:=by
 have r2:Vals (vs++iA) (us++ds):=r.append hd;have hl:(us++ds).length=ps.length:=by rw [←r2.length];exact F.len _ _ _ _ h
 refine wpAny_call (codeAny_mono (F.run X.A X.stack s H ⟨us,[]⟩ (us++ds) (vs++iA) Q E hr I.Eg (hb s us I.dn hl) r2 h) fun r s' hq=>?_);cases r with
 | error e=>exact hx pins σ H s e s' I hq
 | ok fl=>
  cases fl with
  | ret u=>exact I.after hq
  | next=>exact False.elim hq
  | brk=>exact False.elim hq
  | cont=>exact False.elim hq
theorem fO(F:bT X.prog X.w X.K X.mg X.base CX k f fd ps sp)(hr:cU k X.A)(hg:Gl X x)(hm:X.mg x=some (.ref f))(hk:PySem.W.keepIn X.K (.ref f)=true)(hb:Binds X.K fd ps ds)(hd:Vals iA ds)(hx:Passes CX X E)
  (ha:PA X (e::es) t) (k6:(x == ("__debug__":Str))=false:=by decide) (he:starEach (e::es) X.env=(false,eval e X.env)::starEach es X.env:=by rfl) (jX:(backTo pos (starEach es X.env)).any (·.1)=false:=by rfl) :
  PE X (.Call (.Name x p) (e::es) [] pos) (y_ sp iA E t):=by
 intro pins s σ H Q I h;refine wpAny_Call_Name_kw (yJ I hg hm ?_ k6);refine PySem.W.callWith_K (h₀:=X.base) I.ok.mod.cF hk (aJ (ha pos pins s σ H _ I h) fun us s1 ⟨vs,H1,I1,r,q⟩=>⟨I1.dn,?_⟩) he jX;exact Ei F hr hb hd hx I1 r q
theorem cu{j:Nat}(F:bT X.prog X.w X.K X.mg X.base CX k f fd ps sp)(hr:cU j X.A)(hm:X.mg x=some (.ref f))(hk:PySem.W.keepIn X.K (.ref f)=true)(hb:Binds X.K fd ps [])(hx:Passes CX X E)
  (ha:PA X (e::es) t) (hj:k≤j:=by decide) (hg:Gl X x:=by exact rfl) (k6:(x == ("__debug__":Str))=false:=by decide) (he:starEach (e::es) X.env=(false,eval e X.env)::starEach es X.env:=by rfl) (jX:(backTo pos (starEach es X.env)).any (·.1)=false:=by rfl) :
  PE X (.Call (.Name x p) (e::es) [] pos) (y_ sp [] E t):=fO F (hr.mono hj) hg hm hk hb .nil hx ha k6 he jX
end
section
variable {X:Cx} {CX:fg} {k:Nat} {f C:Addr} {fd:FuncData} {ps ks:List Str} {sp:Sp} {E:XK} {x m:Str} {p pos apos zc:Pos} {e o:Expr} {es:List Expr} {Ej:List Keyword} {te ta:TE} {t tk:TA} {nm:Option Str}
variable {g:List Value→List Value→List Value} {gV:List V→List V→List V}
end
structure cw (N P:List Str) (sc:Scope):Prop where
 kind:sc.kind=.function
 co:sc.isCoroutine=false
 gen:sc.isGenerator=false
 nd:N.Nodup
 pre:N.take P.length=P
 par:∀x∈P,sc.names.lookup x=some .local∨sc.names.lookup x=some .cell
 Ek:∀y∈sc.names,y.2≠.free
variable {N:List Str} {sc:Scope}
theorem c6{P:List Str}(h1:sc.kind=.function:=by rfl)(h2:sc.isCoroutine=false:=by rfl)(h3:sc.isGenerator=false:=by rfl)(h4:N.Nodup:=by decide +kernel)(h5:N.take P.length=P:=by rfl)(h6:∀x∈P,sc.names.lookup x=some .local∨sc.names.lookup x=some .cell:=by decide +kernel)(h7:∀y∈sc.names,y.2≠.free:=by decide +kernel):cw N P sc:=⟨h1,h2,h3,h4,h5,h6,h7⟩
theorem zh{kindOf:Str→Option NameKind}{x:Str}:∀{binds:List (Str×Value)} {m:bY},(∀v,(x,v)∉binds)→bindL kindOf binds m x=m x
 | [],_,_=>rfl
 | (n,v)::r,m,h=>by
  unfold bindL;rw [zh fun w hw=>h w (dN _ hw)]
  split
  ·have:x≠n:=by rintro rfl;exact h v eZ
   simp [this]
  ·rfl
theorem zi{kindOf:Str→Option NameKind}{x:Str}:∀{binds:List (Str×Value)} {m:bY},(∀v,(x,v)∉binds)→bindC kindOf binds m x=m x
 | [],_,_=>rfl
 | (n,v)::r,m,h=>by
  unfold bindC;rw [zi fun w hw=>h w (dN _ hw)]
  split
  ·rfl
  ·have:x≠n:=by rintro rfl;exact h v eZ
   simp [this]
theorem zj{kindOf:Str→Option NameKind}{x:Str}{v:Value}:∀{P:List Str} {vs:List Value} {i:Nat} {m:bY},P.Nodup→P[i]?=some x→vs[i]?=some v→kindOf x=some .local→
  bindL kindOf (P.zip vs) m x=some v
 | [],_,_,_,_,h,_,_=>by simp at h
 | _::_,[],_,_,_,_,h,_=>by simp at h
 | p::P,w::vs,0,m,nd,h1,h2,hk=>by simp at h1 h2;subst h1;subst h2;show bindL kindOf ((p,w)::P.zip vs) m p=_;unfold bindL;rw [zh fun v hv=>(iU.mp nd).1 (List.of_mem_zip hv).1,aj hk];simp
 | p::P,w::vs,i+1,m,nd,h1,h2,hk=>by show bindL kindOf ((p,w)::P.zip vs) m x=_;unfold bindL;exact zj (i:=i) (iU.mp nd).2 (by simpa using h1) (by simpa using h2) hk
theorem zo{kindOf:Str→Option NameKind}{x:Str}{v:Value}:∀{P:List Str} {vs:List Value} {i:Nat} {m:bY},P.Nodup→P[i]?=some x→vs[i]?=some v→kindOf x≠some .local→
  bindC kindOf (P.zip vs) m x=some v
 | [],_,_,_,_,h,_,_=>by simp at h
 | _::_,[],_,_,_,_,h,_=>by simp at h
 | p::P,w::vs,0,m,nd,h1,h2,hk=>by simp at h1 h2;subst h1;subst h2;show bindC kindOf ((p,w)::P.zip vs) m p=_;unfold bindC;rw [zi fun v hv=>(iU.mp nd).1 (List.of_mem_zip hv).1,ae hk];simp
 | p::P,w::vs,i+1,m,nd,h1,h2,hk=>by show bindC kindOf ((p,w)::P.zip vs) m x=_;unfold bindC;exact zo (i:=i) (iU.mp nd).2 (by simpa using h1) (by simpa using h2) hk
def start(N:List Str)(vs:List V):St:=vs.map some++List.replicate (N.length-vs.length) none
def k8(CX:fg)(P:Program)(w:World)(K:aG)(mg:bY)(base:Heap)(N:List Str)(qual:Str)(scope:Scope)(f:Addr)(cd:Value)(A:Around)(outer:List Env)(s:Shared)(H:Hp)(E:XK):Cx where
 prog:=P
 w:=w
 K:=K
 mg:=mg
 base:=base
 A:=A.deeper (envOfC qual scope s.heap.objs.size f cd)
 N:=N
 s₀:=s
 H₀:=H
 env:=envOfC qual scope s.heap.objs.size f cd
 outer:=outer
 stack:=envOfC qual scope s.heap.objs.size f cd::outer
 ex:=[]
 calm:=true
 fn:=fun _=>true
 pn:=[]
 xe:=fun e s'=>wpAny (model P w) (A.deeper (envOfC qual scope s.heap.objs.size f cd)) (leaving (envOfC qual scope s.heap.objs.size f cd) e) (fun _ jY=>CX outer H s E e jY) (fun e' jY=>CX outer H s E e' jY) s'
theorem zq{x:Str}(h:sc.names.lookup x=some .cell):∃c,(cellsFrom n sc.names []).lookup x=some c:=by have q:=PySem.W.cellsFrom_some sc.names n [] (.inl h);exact Option.isSome_iff_exists.mp q
variable {CX:fg} {mg:bY} {base:Heap} {qual:Str} {scope:Scope} {f:Addr}
theorem El{cd:Value}{outer:List Env}{s1:Shared}{E:XK}{vs:List V}
  (S:cw N ps scope) (hd:A.handled=none) (e0:sG P w K mg base A outer s H) (hl:vs.length=ps.length) (r:Vals vs us)
  (x:InCallC s s.heap.objs.size (bindL (envOfC qual scope s.heap.objs.size f cd).kindOf (ps.zip us) fun _=>none) (cellsFrom (s.heap.objs.size+1) scope.names []) (bindC (envOfC qual scope s.heap.objs.size f cd).kindOf (ps.zip us) fun _=>none) s1) :
  Inv (k8 CX P w K mg base N qual scope f cd A outer s H E) [] (start N vs) H s1:=by
 have jX:ps.length≤N.length:=by have:=cy List.length S.pre;rw [iV] at this;omega
 obtain ⟨h1,tk,rfl,hk⟩:=x.done;have pU:∀b:Addr,b∉(k8 CX P w K mg base N qual scope f cd A outer s H E).ex:=fun b z=>absurd (show b∈([]:List Addr) from z) (by simp)
 refine ⟨⟨e0.mod,S.kind,rfl,rfl,aC _,fun y z c h1 h2=>?_,fun y hy=>?_,fun y c _ h=>?_,fun _=>hd,Around.frames_deeper e0.frames,.inr ⟨rfl,rfl⟩,fun b z=>absurd z (pU b),e0.bs,e0.gr,fun b _ _=>pU b,fun b z=>absurd z (pU b),e0.gW,e0.m4⟩,
  rfl,e0.bare,Un.kept hk,⟨_,x.toInCall.ns,fun i y v h1 h2 h3=>?_⟩,fun y c h=>⟨_,x.cell y c h⟩,e0.aA.fresh (aC _),fun y c h=>?_,fun p hp=>absurd (show p∈([]:aL) from hp) (by simp),e0.aA.kept hk,?_⟩
 ·exact name_of_addr x.apart (iW h1) (iW h2)
 ·have hy:scope.names.lookup y=some .cell∨scope.names.lookup y=some .free:=hy
  rcases hy with hy | hy;·exact zq hy
  ·exact absurd rfl (S.Ek _ (iW hy))
 ·exact iT (x.above y c (iW h))
 ·have hi:i<vs.length:=by
   unfold start at h2;by_cases hi:i<vs.length;·exact hi
   ·rw [dO (by simpa using hi)] at h2
    rw [List.getElem?_replicate] at h2
    split at h2 <;> cases h2
  have ha:vs[i]?=some v:=by
   unfold start at h2;rw [eG (by simpa using hi),dj] at h2
   cases e:vs[i]? with
   | none=>rw [e] at h2;cases h2
   | some a=>rw [e] at h2;cases h2;rfl
  obtain ⟨u,hu,rv⟩:=r.get ha;have hp:ps[i]?=some y:=by rw [←S.pre,List.getElem?_take_of_lt (by omega)];exact h1
  have zr:ps.Nodup:=by rw [←S.pre];exact S.nd.sublist (List.take_sublist _ _)
  refine ⟨u,rv,?_⟩;rcases S.par y (mJ hp) with k | k;·exact .inl ⟨k,zj zr hp hu k⟩
  ·obtain ⟨c,e⟩:=zq (n:=s.heap.objs.size+1) k
   refine .inr ⟨.inl k,c,e,?_⟩;have q:=x.cell y c e;rw [zo zr hp hu (by show scope.names.lookup y≠_;rw [k];decide)] at q
   exact q
 ·exact e0.aA.fresh (iT (x.above y c (iW h)))
 ·unfold start
  show _=N.length;rw [d9,ba,List.length_replicate];omega
theorem Em{name:Str}{params:Arguments}{body:List Stmt}{dV kV doc pm bU ct oc:Value}{an od:Option Addr}
  {jc:Array (Option Value)} {sp:Sp} (lk:K.lookup f=some ⟨oc,od,.func (PySem.W.fnOf name qual params body scope dV kV doc pm an bU ct),jc⟩) (ff:PySem.W.codeIn K bU qual=true) (S:cw N ps scope)
  (len:∀vs H Q E,sp vs H Q E→vs.length=ps.length)
  (pV:∀(A:Around) (outer:List Env) (s:Shared) (H:Hp) (vs:List V) (Q:VK) (E:XK),cU k (A.deeper (envOfC qual scope s.heap.objs.size f bU))→sp vs H Q E→
   ∃t,fb (k8 CX P w K mg base N qual scope f bU A outer s H E) body t∧t {nx:=fun _ H'=>Q .aI H',rt:=Q} (start N vs) H) :
  bT P w K mg base CX (k+1) f (PySem.W.fnOf name qual params body scope dV kV doc pm an bU ct) ps sp:=by
 refine ⟨len,fun A outer s H args us vs Q E hr e0 hb r jZ=>?_⟩;have hl:=len _ _ _ _ jZ;have KX:K.In s.heap:=e0.mod.cF.keeps fun b o e=>(e0.bs b o e).1;have lim:s.heap.NoLimit:=e0.mod.nolimit.keeps fun b o e=>(e0.bs b o e).1;have En:∀y∈ps.zip us,scope.names.lookup y.1=some .local∨(scope.names.lookup y.1=some .cell∧((cellsFrom (s.heap.objs.size+1) scope.names []).lookup y.1).isSome=true):=fun⟨n,v⟩ hy=>by
  rcases S.par n (List.of_mem_zip hy).1 with q | q;·exact .inl q
  ·exact .inr ⟨q,PySem.W.cellsFrom_some _ _ _ (.inl q)⟩
 refine codeAny_call_function hr.depth (KX _ _ lk) rfl S.co S.gen rfl (PySem.W.codeRec_of KX ff) (hb _ _ _ _ ?_);refine wpAny_newFunctionEnv_cells S.kind En fun env he s1 x=>?_;subst he;refine ⟨lim.keeps x.toInCall.keep,codeAny_func ?_⟩;obtain ⟨t,ht,hq⟩:=pV A outer s H vs Q E (hr.deeper _) jZ;have I:Inv (k8 CX P w K mg base N qual scope f bU A outer s H E) [] (start N vs) H s1:=El S hr.hd e0 hl r x;refine bC (ht [] s1 (start N vs) H _ I hq) (fun fl s' hs=>?_) fun e s' hs=>hs;have fin:∀{σ':St} {H':Hp} {v:V} {u:Value},Inv (k8 CX P w K mg base N qual scope f bU A outer s H E) [] σ' H' s'→RelV v u→Q v H'→CE outer P w H s Q u s':=
  fun{σ' H' v u} J rv q=>⟨v,H',J.os,J.bare,J.base,J.aA,rv,q⟩
 cases fl with
 | ret u=>obtain ⟨v,σ',H',J,rv,q⟩:=hs;exact fin J rv q
 | next=>obtain ⟨σ',H',J,q⟩:=hs;exact fin (v:=V.aI) (u:=Value.none) J rfl q
 | brk=>obtain ⟨_,_,_,q⟩:=hs;exact False.elim q
 | cont=>obtain ⟨_,_,_,q⟩:=hs;exact False.elim q
section
variable {X:Cx} {x:Str} {p pos:Pos} {e:Expr} {es:List Expr} {t:TA} {id T:String} {r:List V→Hp→VK→Prop}
def vX(r:List V→Hp→VK→Prop)(t:TA):TE:=fun σ H Q=>t σ H fun vs H1=>r vs H1 Q
theorem cz(hc:en X (.builtin id) r)(hg:Gl X x)(hm:X.mg x=none)(hv:bootBuiltins x=some (.builtin id))(ha:PA X (e::es) t)(hn:x ≠ "__name__":=by decide)(k6:(x == ("__debug__":Str))=false:=by decide)
  (he:starEach (e::es) X.env=(false,eval e X.env)::starEach es X.env:=by rfl) (jX:(backTo pos (starEach es X.env)).any (·.1)=false:=by rfl):PE X (.Call (.Name x p) (e::es) [] pos) (vX r t):=by
 intro pins s σ H Q I h;refine wpAny_Call_Name_kw (m6 I hg hm hv ?_ hn k6);exact PyProof.Rows.callWith_builtin1 (aJ (ha pos pins s σ H _ I h) fun us s1 ⟨vs,H1,I1,r1,q1⟩=>hc pins s1 σ H1 vs us Q I1 r1 q1) he jX
theorem k_(hc:en X (.type T) r)(hg:Gl X x)(hm:X.mg x=none)(hv:bootBuiltins x=some (.type T))(ha:PA X (e::es) t)(hn:x ≠ "__name__":=by decide)(k6:(x == ("__debug__":Str))=false:=by decide)
  (he:starEach (e::es) X.env=(false,eval e X.env)::starEach es X.env:=by rfl) (jX:(backTo pos (starEach es X.env)).any (·.1)=false:=by rfl):PE X (.Call (.Name x p) (e::es) [] pos) (vX r t):=by
 intro pins s σ H Q I h;refine wpAny_Call_Name_kw (m6 I hg hm hv ?_ hn k6);exact rg (aJ (ha pos pins s σ H _ I h) fun us s1 ⟨vs,H1,I1,r1,q1⟩=>hc pins s1 σ H1 vs us Q I1 r1 q1) he jX
end
end L2
namespace HT
open PySem PyProof.Rows
def lexLt:List Int→List Int→Bool
 | [],[]=>false
 | [],_::_=>true
 | _::_,[]=>false
 | x::xs,y::ys=>if x=y then lexLt xs ys else decide (x<y)
theorem pW(x y:Int)(xs ys:List Int):lexLt (x::xs) (y::ys)=if x=y then lexLt xs ys else decide (x<y):=rfl
theorem Eo:lexLt [] []=false:=rfl
theorem Ep(y:Int)(ys:List Int):lexLt [] (y::ys)=true:=rfl
theorem Er(x:Int)(xs:List Int):lexLt (x::xs) []=false:=rfl
theorem Es(A:Around)(s:Shared)(a:Int)(t:Tok)(c:Int)(u:Tok):∃e,SeqAt.EqAt A s (.int a t) (.int c u) e∧(e=true↔a=c):=
 ⟨(a == c),SeqAt.EqAt.int_int a t c u,by simp⟩
theorem Et(A:Around)(s:Shared)(a:Int)(t:Tok)(c:Int)(u:Tok)(prog:Program)(w:World)(E:aF)(Q:aF)(h:Q (.bool (decide (a<c))) s) :
  wpAny (model prog w) A (richCompare .Lt (.int a t) (.int c u)) Q E s:=
 (PyProof.Rows.lt_int h:wpAny (model prog w) A (compareOp .Lt (.int a t) (.int c u)) Q E s)
section
open PySem.SeqAt
open PySem.AutoSeq1 (wpAny_loadPart')
open PySem.MeetsSeq PySem.MeetsSeq2 PySem.MeetsSeq3
theorem Eu(l b:Addr)(items iB:Array Value)(n n2:Nat)(dd j4:Option Addr)(sl fP:Array (Option Value))(ns ms:List Int)(hi:IntsAre items.toList ns)(hj:IntsAre iB.toList ms) :
  Meets (Builtin.«tuple.__lt__» ⟨[.ref l,.ref b],[]⟩)
   (fun _ R s=>s.heap.get? l=some {cls:=.type "tuple",dict:=dd,data:=.seq items n,slots:=sl}∧s.heap.get? b=some {cls:=.type "tuple",dict:=j4,data:=.seq iB n2,slots:=fP} ∧
    R (.ok (.ret (.bool (lexLt ns ms)))) s):=
 .of_wp fun prog w A R s h=>by
  obtain ⟨hp,g,d,tk,os⟩:=s;obtain ⟨hl,hb,h⟩:=h;have f2:=AutoSeq1.sub_tuple_tuple;have z1:items.size=ns.length:=by rw [←hi.length];simp
  have z2:iB.size=ms.length:=by rw [←hj.length];simp
  wp_walk using wpAny_loadPart' hl,wpAny_loadPart' hb,wpAny_forIn_list _ (fun rest b s'=>b.1=none∧s'=⟨hp,g,d,tk,os⟩∧∃(vs ws:List Value) (gz nh:List Int),rest=vs.zip ws ∧
   IntsAre vs gz∧IntsAre ws nh∧gz.length+iB.size=nh.length+items.size∧R (.ok (.ret (.bool (lexLt gz nh)))) ⟨hp,g,d,tk,os⟩) _
  case turn=>
   rintro ⟨y,x⟩ rest b s' ⟨fQ,rfl,vs,ws,gz,nh,hz,vY,eA,hlen,hR⟩;cases vY with
   | nil=>rw [List.zip_nil_left] at hz;cases hz
   | cons a t Ew=>
    cases eA with
    | nil=>rw [List.zip_nil_right] at hz;cases hz
    | cons c u Ex=>
     rw [List.zip_cons_cons] at hz;injection hz with Ey Ez;injection Ey with hy hx;subst hy hx;rw [pW] at hR;simp only [dm] at hlen;obtain ⟨e,he,zt⟩:=Es A.in1 ⟨hp,g,d,tk,os⟩ a t c u;refine ao (he prog w _ _ ?_);cases e with
     | true=>
      rw [aj (zt.mp rfl)] at hR
      wp_walk
      exact ⟨rfl,rfl,_,_,_,_,Ez,Ew,Ex,by omega,hR⟩
     | false=>
      rw [ae (fun q=>absurd (zt.mpr q) bW)] at hR;have EA:=Et A.in1 ⟨hp,g,d,tk,os⟩ a t c u prog w
      wp_walk using EA
      exact ⟨_,rfl,by simpa using hR⟩
  case fin=>
   rintro ⟨b1,b2⟩ s' ⟨fQ,rfl,vs,ws,gz,nh,hz,vY,eA,hlen,hR⟩;simp only at fQ;subst fQ;have hv:lexLt gz nh=decide (items.size<iB.size):=by
    cases vY with
    | nil=>
     cases eA with
     | nil=>simp only [mK] at hlen;rw [Eo];exact (bp (by omega)).symm
     | cons c u hw=>simp only [mK,dm] at hlen;rw [Ep];exact (bg (by omega)).symm
    | cons a t hv=>
     cases eA with
     | nil=>simp only [mK,dm] at hlen;rw [Er];exact (bp (by omega)).symm
     | cons c u hw=>rw [List.zip_cons_cons] at hz;cases hz
   rw [hv] at hR
   wp_walk
   exact ⟨_,rfl,by simpa [Builtin.Tuple.tupleCompareSizes] using hR⟩
  case h=>exact ⟨rfl,rfl,items.toList,iB.toList,ns,ms,rfl,hi,hj,by omega,h⟩
end
section
variable {prog:Program} {w:World} {A:Around} {E:aF} {s:Shared}
variable {b:Addr} {items:Array Value} {Q:aF}
theorem EB{l:Addr}{iB:Array Value}{ns ms:List Int}(hl:IsTup s.heap l items)(hb:IsTup s.heap b iB)(hi:IntsAre items.toList ns)(hj:IntsAre iB.toList ms)
  (hu:A.units<cLine) (h:Q (.bool (lexLt ns ms)) s):wpAny (model prog w) A (compareOp .Lt (.ref l) (.ref b)) Q E s:=by
 obtain ⟨⟨cls,dd,data,sl⟩,ho,hc,n,hd⟩:=id hl;obtain ⟨⟨zu,j4,data2,fP⟩,iC,j6,n2,hd2⟩:=id hb;simp only at hc hd j6 hd2;subst hc hd j6 hd2
 exact richCompare_meets_room (op:=.Lt) ⟨_,ho,rfl⟩ ⟨_,iC,rfl⟩ PySem.F.slot_tuple_lt PySem.F.entry_tuple_lt (PySem.F.args_tuple_lt_2 _ _) (Eu l b items iB n n2 dd j4 sl fP ns ms hi hj)
  ⟨ho,iC,show Value.bool (lexLt ns ms)≠Value.notImplemented∧Q (.bool (lexLt ns ms)) s from ⟨(fun x=>nomatch x),h⟩⟩ hu
variable {t:Addr}
theorem EC{vs ws:List Value}(ht:IsTup s.heap t vs.toArray)(hb:IsTup s.heap b ws.toArray)(hv:vs≠[])
  (h1:ws=[]→Q (.ref t) s) (h2:ws≠[]→Q (.ref s.heap.objs.size) {s with heap:=s.heap.push {cls:=.type "tuple",data:=.seq (vs++ws).toArray}})
  (hsz:vs.length+ws.length≤sizeLine):wpAny (model prog w) A (binaryOp .Add (.ref t) (.ref b)) Q E s:=by
 obtain ⟨⟨cls,dd,data,sl⟩,ho,hc,n,hd⟩:=id ht;obtain ⟨⟨zu,j4,data2,fP⟩,iC,j6,n2,hd2⟩:=id hb;simp only at hc hd j6 hd2;subst hc hd j6 hd2;have e:vs.toArray++ws.toArray=(vs++ws).toArray:=by simp
 by_cases hw:ws=[]
 ·exact concat_meets ⟨_,ho,rfl⟩ ⟨_,iC,rfl⟩ noFill_tuple_add seq_tuple_add vc vd (ve _ _)
   (tuple_addW1 t b vs.toArray ws.toArray n n2 dd j4 sl fP (by simpa using hv) (by simp [hw])) ⟨ho,iC,h1 hw⟩
 ·refine concat_meets ⟨_,ho,rfl⟩ ⟨_,iC,rfl⟩ noFill_tuple_add seq_tuple_add vc vd (ve _ _)
   (tuple_addW2 t b vs.toArray ws.toArray n n2 dd j4 sl fP (by simpa using hv) (by simpa using hw) (by rw [bK,bK];exact hsz)) ⟨ho,iC,?_⟩
  rw [e];exact h2 hw
def aO(n d:Nat):Option Int→Nat
 | none=>d
 | some v=>if v<0 then (v+(n:Int)).toNat else min v.toNat n
theorem zw(n d:Nat):aO n d none=d:=rfl
theorem zA(n d k:Nat):aO n d (some (k:Int))=min k n:=by
 show (if (k:Int)<0 then ((k:Int)+(n:Int)).toNat else min (k:Int).toNat n)=min k n
 rw [ae (by omega),cZ]
theorem ED(n d:Nat)(hd:d≤n)(o:Option Int):aO n d o≤n:=by
 cases o with
 | none=>exact hd
 | some v=>
  show (if v<0 then (v+(n:Int)).toNat else min v.toNat n)≤n
  by_cases hv:v<0;·rw [aj hv];omega
  ·rw [ae hv];exact Nat.min_le_right _ _
theorem zB(v:Int)(n d:Nat):(if v<0 then max (v+(n:Int)) 0 else min v (n:Int))=((aO n d (some v):Nat):Int):=by
 show (if v<0 then max (v+(n:Int)) 0 else min v (n:Int))=(((if v<0 then (v+(n:Int)).toNat else min v.toNat n):Nat):Int)
 by_cases hv:v<0;·simp only [aj hv];omega
 ·simp only [ae hv];omega
theorem EE(lo hi:Option Int)(n:Nat):Builtin.Slice.sliceAdjust lo hi 1 (n:Int)=(((aO n 0 lo:Nat):Int),((aO n n hi:Nat):Int)):=by
 have h1:¬((1:Int)<0):=by omega
 unfold Builtin.Slice.sliceAdjust;simp only [h1,iX];refine Prod.ext ?_ ?_
 ·cases lo with
  | none=>rfl
  | some v=>exact zB v n 0
 ·cases hi with
  | none=>rfl
  | some v=>exact zB v n n
theorem EF(i j:Nat):Builtin.Slice.slicePlaces (i:Int) (j:Int) 1=j-i:=by
 unfold Builtin.Slice.slicePlaces;have h1:(1:Int)>0:=by omega
 simp only [h1,if_true,Int.ediv_one]
 split <;> omega
theorem zC{v:Value}{o:Option Int}{Q:Option Int→Shared→Prop}(p:IsPart v o)(h:Q o s):wpAny (model prog w) A (Builtin.Slice.slicePartIndex v) Q E s:=by
 cases p with
 | none=>exact slicePart_none h
 | int i t=>exact slicePart_int h
variable {sl:Addr} {vl vu:Value} {lo hi:Option Int}
theorem zD{n:Nat}{Q:Int×Int×Nat→Shared→Prop}(hs:s.heap.IsSliceOf sl vl vu .none)(pl:IsPart vl lo)(pu:IsPart vu hi)
  (h:Q (((aO n 0 lo:Nat):Int),1,aO n n hi-aO n 0 lo) s):wpAny (model prog w) A (Builtin.Slice.sliceApplied (.ref sl) (pure (n:Int))) Q E s:=by
 obtain ⟨os,pX,zE,sI⟩:=id hs;unfold Builtin.Slice.sliceApplied Builtin.Slice.sliceFields;refine ao (ao (iY pX sI (x:=vl) rfl (ao (iY pX sI (x:=vu) rfl (ao (iY pX sI (x:=.none) rfl (aH ?_)))))));refine ao (slicePart_none ?_);show wpAny _ _ (if ((1:Int) == 0)=true then _ else _) _ _ s
 rw [ae (by decide)]
 refine ao (zC pl (ao (zC pu (ao (aH ?_)))));show wpAny _ _ (match Builtin.Slice.sliceAdjust lo hi 1 (n:Int) with | (lo,hi)=>pure (lo,(1:Int),Builtin.Slice.slicePlaces lo hi 1)) _ _ s
 rw [EE lo hi n];show wpAny _ _ (pure (((aO n 0 lo:Nat):Int),(1:Int),Builtin.Slice.slicePlaces ((aO n 0 lo:Nat):Int) ((aO n n hi:Nat):Int) 1)) _ _ s;rw [EF];exact aH h
theorem EG(xs:Array Value)(i k:Nat):((List.range k).filterMap fun(m:Nat)=>xs[((i:Int)+(m:Int)*1).toNat]?).toArray=((xs.toList.drop i).take k).toArray:=by
 have e:(fun(m:Nat)=>xs[((i:Int)+(m:Int)*1).toNat]?)=fun m=>xs[i+m]?:=by
  funext m
  have:((i:Int)+(m:Int)*1).toNat=i+m:=by omega
  rw [this]
 rw [e];have:=pick_run xs i k;rw [List.filterMap_map] at this;have e2:((fun x=>xs[x]?) ∘ fun x=>i+x)=fun m=>xs[i+m]?:=rfl;rw [e2] at this;rw [this]
theorem EH(ht:IsTup s.heap t items)(hs:s.heap.IsSliceOf sl vl vu .none)(pl:IsPart vl lo)(pu:IsPart vu hi)
  (hw:¬(aO items.size 0 lo=0∧aO items.size items.size hi=items.size))
  (h:Q (.ref s.heap.objs.size) {s with heap:=s.heap.push {cls:=.type "tuple",data:=.seq ((items.toList.drop (aO items.size 0 lo)).take (aO items.size items.size hi-aO items.size 0 lo)).toArray}})
  (hsz:items.size≤sizeLine):wpAny (model prog w) A (getItem (.ref t) (.ref sl)) Q E s:=by
 have sJ:sizeOk (.seq ((items.toList.drop (aO items.size 0 lo)).take (aO items.size items.size hi-aO items.size 0 lo)).toArray):=by show ((items.toList.drop (aO items.size 0 lo)).take (aO items.size items.size hi-aO items.size 0 lo)).toArray.size≤sizeLine;rw [bK,iV,jH,e8];omega
 have hj:aO items.size items.size hi≤items.size:=ED _ _ (aC _) hi;obtain ⟨os,pX,zE,sI⟩:=id hs;have EI:s.TypeIs (.ref sl) "slice":=⟨os,pX,zE⟩;unfold getItem
 try with_reducible refine ic ?_
 first | refine ao (aH ?_) | skip
 refine ao (wpAny_sequenceKey ht.typeIs (by decide) ?_)
 refine ao (kE (name:=Str.ofString "__getitem__") ht.typeIs mL
  (ie mL ht.typeIs entry_tuple_getitem ?_ (args_tuple_getitem _ _)))
 show wpAny _ _ (Builtin.Tuple.tupleItemsOf (.ref t) >>= _) _ _ s;refine ao (tupleItemsOf_ ht ?_);refine ao (oW EI ?_);rw [aj (by decide)]
 refine ao (zD hs pl pu ?_);have EJ:¬((((aO items.size 0 lo:Nat):Int) == 0 && (1:Int) == 1 && (aO items.size items.size hi-aO items.size 0 lo) == items.size)=true):=by intro q;rw [kF,kF] at q;have q1:((aO items.size 0 lo:Nat):Int)=0:=eq_of_beq q.1.1;have q2:aO items.size items.size hi-aO items.size 0 lo=items.size:=eq_of_beq q.2;exact hw ⟨by omega,by omega⟩
 show wpAny _ _ (if (((aO items.size 0 lo:Nat):Int) == 0 && (1:Int) == 1 && (aO items.size items.size hi-aO items.size 0 lo) == items.size)=true then _ else _) _ _ s
 rw [ae EJ,EG]
 first
  | exact ao (m:=Builtin.Tuple.tupleExact _) (fI (aH ⟨_,rfl,aH h⟩) sJ)
  | exact ao (m:=Builtin.Tuple.tupleExact _) (fI (ao (aH (aH ⟨_,rfl,aH h⟩))) sJ)
  | exact ao (ao (m:=Builtin.Tuple.tupleExact _) (fI (aH (aH ⟨_,rfl,aH h⟩)) sJ))
  | exact ao (ao (m:=Builtin.Tuple.tupleExact _) (fI (aH ⟨_,rfl,aH h⟩) sJ))
end
end HT
namespace L2
open PySem PySem.Spec PyProof.Rows
abbrev TO:=St→Hp→(Option Int→Hp→Prop)→Prop
def PO(X:Cx)(e:Option Expr)(t:TO):Prop:=
 ∀(pins:aL) (s:Shared) (σ:St) (H:Hp) (Q:Option Int→Hp→Prop),Inv X pins σ H s→t σ H Q→
  wpAny (model X.prog X.w) X.A (evalPart e X.env) (fun u s'=>∃o H',Inv X pins σ H' s'∧IsPart u o∧Q o H') X.xe s
def EK:TO:=fun _ H Q=>Q none H
def EL(t:TE):TO:=fun σ H Q=>t σ H fun x H1=>∃i,x=.int i∧Q (some i) H1
theorem intsAre_of{ns:List Int}:∀{us:List Value},Vals (ns.map V.int) us→IntsAre us ns:=by
 induction ns with
 | nil=>intro us r;rw [List.map_nil] at r;cases r;exact .nil
 | cons n ns ih=>
  intro us r;rw [cR] at r;cases r with
  | cons r1 r2=>obtain ⟨t,e⟩:=r1;subst e;exact .cons n t (ih r2)
section
variable {X:Cx} {e:Expr} {te:TE} {lo hi:Option Expr} {tl th:TO} {pos p2:Pos}
theorem jd:PO X none EK:=by intro pins s σ H Q I h;rw [evalPart_none];exact aH ⟨none,H,I,.none,h⟩
theorem lg(h:PE X e te):PO X (some e) (EL te):=by intro pins s σ H Q I hw;rw [evalPart_some];refine aJ (h pins s σ H _ I hw) fun u s1 ⟨x,H1,I1,r1,q1⟩=>?_;obtain ⟨i,rfl,q⟩:=q1;obtain ⟨t,rfl⟩:=r1;exact ⟨some i,H1,I1,.int i t,q⟩
def sL(X:Cx)(r:V→Option Int→Option Int→Hp→VK→Prop):Prop:=
 ∀(pins:aL) (s:Shared) (σ:St) (H:Hp) (x:V) (v vl vu:Value) (lo hi:Option Int) (sl:Addr) (Q:VK),Inv X pins σ H s→RelV x v→s.heap.IsSliceOf sl vl vu .none→IsPart vl lo→IsPart vu hi→r x lo hi H Q→
  ∃T id,typeLookup (.type T) "__getitem__"=pure (some (.builtin id))∧s.TypeIs v T∧wpAny (model X.prog X.w) X.A (getItem v (.ref sl)) (EP X pins σ Q) X.xe s
def EM(r:V→Option Int→Option Int→Hp→VK→Prop)(te:TE)(tl th:TO):TE:=fun σ H Q=>te σ H fun x H1=>tl σ H1 fun l H2=>th σ H2 fun u H3=>r x l u H3 Q
theorem j7{r:V→Option Int→Option Int→Hp→VK→Prop}(hr:sL X r)(he:PE X e te)(hl:PO X lo tl)(hu:PO X hi th):PE X (.Subscript e (.Slice lo hi none p2) pos) (EM r te tl th):=by intro pins s σ H Q I h;refine Subscript_ (aJ (he pins s σ H _ I h) fun v s1 ⟨x,H1,I1,r1,q1⟩=>?_);refine wpAny_Slice (aJ (hl pins s1 σ H1 _ I1 q1) fun vl s2 ⟨l,H2,I2,pl,q2⟩=>aJ (hu pins s2 σ H2 _ I2 q2) fun vu s3 ⟨u,H3,I3,pu,q3⟩=>?_);rw [evalPart_none];refine aH ?_;have I4:Inv X pins σ H3 {s3 with heap:=s3.heap.push {cls:=.type "slice",data:=.fields #[vl,vu,.none]}}:=I3.kept (t':=s3.toks) fun b ob q=>a8 _ q;obtain ⟨T,id,hT,ht,hg⟩:=hr pins {s3 with heap:=s3.heap.push {cls:=.type "slice",data:=.fields #[vl,vu,.none]}} σ H3 x v vl vu l u s3.heap.objs.size Q I4 r1 (Heap.IsSliceOf.new ..) pl pu q3;show wpAny (model X.prog X.w) X.A (subscriptTail e (.Slice lo hi none p2) v (.ref s3.heap.objs.size)) (EP X pins σ Q) X.xe {s3 with heap:=s3.heap.push {cls:=.type "slice",data:=.fields #[vl,vu,.none]}};exact tail_any (ops:=[.ref s3.heap.objs.size,v]) ht hT hg (by with_unfolding_all rfl)
def cM(xs:List V)(lo hi:Option Int):List V:=(xs.drop (HT.aO xs.length 0 lo)).take (HT.aO xs.length xs.length hi-HT.aO xs.length 0 lo)
theorem zF(xs:List V)(lo hi:Option Int):(cM xs lo hi).length≤xs.length:=by unfold cM;rw [iV,jH];omega
def EN(K:aG):V→Option Int→Option Int→Hp→VK→Prop:=fun x lo hi H Q=>∃a xs,x=.ref a∧bx K H a xs ∧
 ¬(HT.aO xs.length 0 lo=0∧HT.aO xs.length xs.length hi=xs.length)∧∀p,H p=none→Q (.ref p) (upd H p (.tup (cM xs lo hi)))
theorem EO:sL X (EN X.K):=by
 intro pins s σ H x v vl vu lo hi sl Q I rx hs pl pu h;obtain ⟨a,xs,rfl,hx,hw,q⟩:=h;cases rx;obtain ⟨ak,r,ht,hz⟩:=I.tuple hx;have hlen:ak.toArray.size=xs.length:=by rw [bK];exact r.length.symm
 refine ⟨"tuple",_,mL.lookup,ht.typeIs,?_⟩;refine HT.EH ht hs pl pu (by rw [hlen];exact hw) ?_ (by rw [hlen];exact hz)
 rw [hlen];refine ⟨.ref s.heap.objs.size,_,I.laid (t':=s.toks) (o:=.tup (cM xs lo hi)) (fun b ob q=>a8 _ q) (aC _) ?_,rfl,q _ (I.aA.fresh (aC _))⟩;exact ⟨cf (zF xs lo hi) hz,_,(r.drop (HT.aO xs.length 0 lo)).take (HT.aO xs.length xs.length hi-HT.aO xs.length 0 lo),IsTup.new _ _⟩
def zG(K:aG):R2:=fun x y H Q=>∃a b ns ms,x=.ref a∧y=.ref b∧bx K H a (ns.map V.int)∧bx K H b (ms.map V.int)∧Q (.bl (HT.lexLt ns ms)) H
theorem ER(hu:X.A.units<cLine):bI X (compareOp .Lt) (zG X.K):=by intro pins s σ H x y v u Q I rx ry h;obtain ⟨a,b,ns,ms,rfl,rfl,ha,hb,q⟩:=h;cases rx;cases ry;obtain ⟨ak,r1,p1,_⟩:=I.tuple ha;obtain ⟨fR,r2,p2,_⟩:=I.tuple hb;have i1:IntsAre ak.toArray.toList ns:=intsAre_of r1;have i2:IntsAre fR.toArray.toList ms:=intsAre_of r2;exact HT.EB p1 p2 i1 i2 hu ⟨.bl (HT.lexLt ns ms),H,I,rfl,q⟩
def ES(K:aG):R2:=fun x y H Q=>∃a b xs ys,x=.ref a∧y=.ref b∧bx K H a xs∧bx K H b ys∧xs≠[]∧xs.length+ys.length≤sizeLine ∧
 (ys=[]→Q (.ref a) H)∧(ys≠[]→∀p,H p=none→Q (.ref p) (upd H p (.tup (xs++ys))))
theorem Vals.sM{xs:List V}{us:List Value}(r:Vals xs us):us=[]↔xs=[]:=by
 cases r with
 | nil=>simp
 | cons _ _=>simp
theorem pY:bI X (binaryOp .Add) (ES X.K):=by
 intro pins s σ H x y v u Q I rx ry h;obtain ⟨a,b,xs,ys,rfl,rfl,ha,hb,hx,hz,q1,q2⟩:=h;cases rx;cases ry;obtain ⟨ak,r1,p1,_⟩:=I.tuple ha;obtain ⟨fR,r2,p2,_⟩:=I.tuple hb;refine HT.EC p1 p2 (fun z=>hx (r1.sM.mp z)) (fun z=>⟨.ref a,H,I,rfl,q1 (r2.sM.mp z)⟩) (fun z=>?_) (by rw [←r1.length,←r2.length];exact hz)
 refine ⟨.ref s.heap.objs.size,_,I.laid (t':=s.toks) (o:=.tup (xs++ys)) (fun b ob q=>a8 _ q) (aC _) ?_,rfl,q2 (fun w=>z (r2.sM.mpr w)) _ (I.aA.fresh (aC _))⟩;exact ⟨by rw [d9];exact hz,_,r1.append r2,IsTup.new _ _⟩
end
def je(n:Nat)(i:Int):Option Nat:=if 0≤i then (if i<n then some i.toNat else none) else if -(n:Int)≤i then some (i+n).toNat else none
def fh{α:Type}(xs:List α)(i:Int):Option α:=(je xs.length i).bind fun j=>xs[j]?
variable {i:Int} {j:Nat}
theorem zH{n:Nat}(h:je n i=some j):seqIndex? i n=some j∧j<n∧-(n:Int)≤i∧i<n:=by
 unfold je at h;by_cases h0:0≤i
 ·rw [aj h0] at h
  by_cases h1:i<n
  ·rw [aj h1] at h
   have e:i.toNat=j:=Option.some.inj h;exact ⟨by rw [seqIndex_of h0 h1,e],by omega,by omega,h1⟩
  ·rw [ae h1] at h;cases h
 ·rw [ae h0] at h
  by_cases h1:-(n:Int)≤i
  ·rw [aj h1] at h
   have e:(i+n).toNat=j:=Option.some.inj h;exact ⟨by rw [seqIndex_neg (by omega) h1,e],by omega,h1,by omega⟩
  ·rw [ae h1] at h;cases h
theorem zI{α:Type}{xs:List α}{v:α}(h:fh xs i=some v):∃j,seqIndex? i xs.length=some j∧xs[j]?=some v∧j<xs.length∧-(xs.length:Int)≤i∧i<xs.length:=by
 unfold fh at h;cases e:je xs.length i with
 | none=>rw [e] at h;cases h
 | some j=>rw [e] at h;obtain ⟨h1,h2,h3,h4⟩:=zH e;exact ⟨j,h1,h,h2,h3,h4⟩
theorem nj{α:Type}{xs:List α}{v:α}(h:xs[j]?=some v):fh xs (j:Int)=some v:=by
 have hj:j<xs.length:=(cg.mp h).1;have e:je xs.length (j:Int)=some j:=by unfold je;rw [aj (by omega),aj (by omega)];simp
 unfold fh;rw [e];exact h
def zJ(b:Expr):Prop:=∀o i,subscripted b false o i=operate [o,i] (getItem o i)
def nk(X:Cx)(r:R2):Prop:=
 ∀(value slice:Expr) (pins:aL) (s:Shared) (σ:St) (H:Hp) (x y:V) (v u:Value) (Q:VK),Inv X pins σ H s→RelV x v→RelV y u→r x y H Q→
  subscripted slice false v u=operate [v,u] (getItem v u)→wpAny (model X.prog X.w) X.A (subscriptTail value slice v u) (EP X pins σ Q) X.xe s
def ET(X:Cx)(id:String)(r:V→List V→Hp→VK→Prop):Prop:=
 ∀(pins:aL) (s:Shared) (σ:St) (H:Hp) (x:V) (xs:List V) (v:Value) (us:List Value) (Q:VK),Inv X pins σ H s→RelV x v→Vals xs us→r x xs H Q→
  wpAny (model X.prog X.w) X.A (call (.builtin id) (v::us)) (EP X pins σ Q) X.xe s
section
variable {X:Cx} {a b:Expr} {ta tb:TE} {pos:Pos}
theorem sN{r:R2}(hr:nk X r)(ha:PE X a ta)(hb:PE X b tb)(hs:zJ b):PE X (.Subscript a b pos) (jU r ta tb):=by intro pins s σ H Q I h;exact Subscript_ (vP ha hb I h fun v u s2 x y H2 I2 rx ry q=>hr a b pins s2 σ H2 x y v u Q I2 rx ry q (hs _ _))
theorem bz{r:R2}(hr:nk X r)(ha:PE X a ta)(hb:PE X b tb)(hs:zJ b:=by exact fun _ _=>rfl):PE X (.Subscript a b pos) (jU r ta tb):=sN hr ha hb hs
def zK(K:aG):R2:=fun x y H Q=>∃p xs i v,x=.ref p∧y=.int i∧bq K H p xs∧fh xs i=some v∧Q v H
def zL(K:aG):R2:=fun x y H Q=>∃p xs i v,x=.ref p∧y=.int i∧bx K H p xs∧fh xs i=some v∧Q v H
theorem cN:nk X (zK X.K):=by
 intro value slice pins s σ H x y v u Q I rx ry h hs;obtain ⟨p,xs,i,z,rfl,rfl,hq,he,q⟩:=h;cases rx;obtain ⟨t,rfl⟩:=ry;obtain ⟨ak,r,pl,hz⟩:=I.list hq;obtain ⟨j,h1,h2,h3,h4,h5⟩:=zI he;obtain ⟨w,ew,j8⟩:=r.get h2;have hl:=r.length;have hn:=sD;have fin:EP X pins σ Q w s:=⟨z,H,I,j8,q⟩;by_cases h0:0≤i
 ·have hj:i.toNat=j:=by rw [seqIndex_of h0 h5] at h1;exact Option.some.inj h1
  exact item_listR pl.isList h0 (by omega) (by rw [hj];simpa using ew) fin hs
 ·have hj:(i+(ak.toArray.size:Int)).toNat=j:=by
   rw [seqIndex_neg (by omega) h4] at h1
   rw [bK,←hl];exact Option.some.inj h1
  exact subscriptTail_builtinR (x:=w) pl.isList.typeIs slot_list_getitem.lookup
   (wpAny_getItem_list_neg (Q:=fun r s'=>r=w∧EP X pins σ Q r s') pl.isList (by omega) (by rw [bK] <;> omega) (by omega) (by rw [hj];simpa using ew) ⟨rfl,fin⟩) hs
theorem dU:nk X (zL X.K):=by
 intro value slice pins s σ H x y v u Q I rx ry h hs;obtain ⟨p,xs,i,z,rfl,rfl,hq,he,q⟩:=h;cases rx;obtain ⟨t,rfl⟩:=ry;obtain ⟨ak,r,pl,hz⟩:=I.tuple hq;obtain ⟨j,h1,h2,h3,h4,h5⟩:=zI he;obtain ⟨w,ew,j8⟩:=r.get h2;have hl:=r.length;have hn:=sD;have fin:EP X pins σ Q w s:=⟨z,H,I,j8,q⟩
 exact subscriptTail_builtinR (x:=w) pl.typeIs slot_tuple_getitem.lookup
  (getItem_tuple (j:=j) (Q:=fun r s'=>r=w∧EP X pins σ Q r s') pl (by omega) (by omega) (by rw [bK,←hl];exact h1) (by simpa using ew) ⟨rfl,fin⟩) hs
theorem EU(ak:List Value)(n j:Nat)(u:Value):Obj.mapSeq (·.setIfInBounds j u) {cls:=.type "list",data:=.seq ak.toArray n}={cls:=.type "list",data:=.seq (ak.set j u).toArray n}:=by simp [Obj.mapSeq]
theorem Inv.lst{pins:aL}{σ:St}{H:Hp}{s:Shared}{p:Addr}{xs:List V}(I:Inv X pins σ H s)(h:H p=some (.lst xs)) :
  ∃(ak:List Value) (n:Nat),Vals xs ak∧s.heap.get? p=some {cls:=.type "list",data:=.seq ak.toArray n}∧xs.length≤sizeLine:=by
 obtain ⟨z,ak,n,r,e⟩:=I.aA p _ h;exact ⟨ak,n,r,e,z⟩
variable {pins:aL} {σ:St} {H:Hp} {s:Shared}
theorem Inv.EV{p:Addr}{xs ys:List V}{ak its':List Value}{n n':Nat}{f:Obj→Obj}(I:Inv X pins σ H s)(h:H p=some (.lst xs))
  (ho:s.heap.get? p=some {cls:=.type "list",data:=.seq ak.toArray n}) (hf:f {cls:=.type "list",data:=.seq ak.toArray n}={cls:=.type "list",data:=.seq its'.toArray n'}) (r:Vals ys its') (hz:ys.length≤sizeLine) (t:Nat) :
  Inv X pins σ (upd H p (.lst ys)) {s with heap:=s.heap.update p f,toks:=t}:=by
 have e:(s.heap.update p f).get? p=some {cls:=.type "list",data:=.seq its'.toArray n'}:=by rw [oX f ho (by rw [hf] <;> rfl),hf]
 refine I.write (x:=p) (e:=p) (by rw [h];trivial) (.inl rfl) (fun b u hb q=>(rh _ _ (fG hb)).trans q) ⟨_,e⟩ ?_
 exact ⟨hz,its',n',r,e⟩
def EW:V→V→V→Hp→(Hp→Prop)→Prop:=fun o i v H Q=>∃p xs k j,o=.ref p∧i=.int k∧H p=some (.lst xs)∧je xs.length k=some j∧Q (upd H p (.lst (xs.set j v)))
theorem set_list:yM X EW:=by
 intro pins s σ H o i v ov iv u Q I ro ri rv h;obtain ⟨p,xs,k,j,rfl,rfl,hp,hj,q⟩:=h;cases ro;obtain ⟨t,rfl⟩:=ri;obtain ⟨ak,n,r,ho,hz⟩:=I.lst hp;obtain ⟨h1,h2,h3,h4⟩:=zH hj;have hl:=r.length;have hn:=sD;have I':Inv X pins σ (upd H p (.lst (xs.set j v))) {s with heap:=s.heap.update p (Obj.mapSeq (·.setIfInBounds j u))}:=
  I.EV hp ho (EU ak n j u) (r.set rv j) (by rw [List.length_set];exact hz) s.toks
 by_cases h0:0≤k
 ·have hk:k.toNat=j:=by rw [seqIndex_of h0 h4] at h1;exact Option.some.inj h1
  exact PySem.W.ki_setAt ho h0 (by omega) (by rw [bK,←hl];exact h4) (by rw [hk];exact ⟨_,I',q⟩)
 ·have hk:(k+(ak.toArray.size:Int)).toNat=j:=by
   rw [seqIndex_neg (by omega) h3] at h1
   rw [bK,←hl];exact Option.some.inj h1
  exact PySem.W.ki_setBack ho (by omega) (by rw [bK,←hl];exact h3) (by omega) (by rw [hk];exact ⟨_,I',q⟩)
theorem EX(lo hi:Option Int)(n:Nat):(sliceBounds lo hi none n).1=((HT.aO n 0 lo:Nat):Int)∧(sliceBounds lo hi none n).2.1=((HT.aO n n hi:Nat):Int)∧(sliceBounds lo hi none n).2.2=1:=by
 refine ⟨?_,?_,rfl⟩
 ·cases lo with
  | none=>simp [sliceBounds,HT.aO]
  | some i=>
   simp only [sliceBounds,HT.aO,Option.getD_none,show (1:Int)>0 by decide,if_true]
   by_cases h:i<0;·simp only [h,if_true] <;> omega
   ·simp only [h,iX] <;> omega
 ·cases hi with
  | none=>simp [sliceBounds,HT.aO]
  | some i=>
   simp only [sliceBounds,HT.aO,Option.getD_none,show (1:Int)>0 by decide,if_true]
   by_cases h:i<0;·simp only [h,if_true] <;> omega
   ·simp only [h,iX] <;> omega
theorem EY(ak:List Value)(lo hi:Option Int):slicePick ak.toArray lo hi none=((ak.drop (HT.aO ak.length 0 lo)).take (HT.aO ak.length ak.length hi-HT.aO ak.length 0 lo)).toArray:=by obtain ⟨h1,h2,h3⟩:=EX lo hi ak.toArray.size;unfold slicePick;rw [h1,h2,h3];simp only [sliceRange_one,pick_run,bK] <;> rfl
def EZ(K:aG):V→Option Int→Option Int→Hp→VK→Prop:=fun x lo hi H Q=>∃a xs,x=.ref a∧bq K H a xs∧∀p,H p=none→Q (.ref p) (upd H p (.lst (cM xs lo hi)))
theorem N0:sL X (EZ X.K):=by
 intro pins s σ H x v vl vu lo hi sl Q I rx hs pl pu h;obtain ⟨a,xs,rfl,hx,q⟩:=h;cases rx;obtain ⟨ak,r,ht,hz⟩:=I.list hx;have hlen:=r.length;refine ⟨"list",_,slot_list_getitem.lookup,ht.isList.typeIs,?_⟩;refine wpAny_getItem_list_slice ht.isList hs pl pu .none (by simp) ?_ (by rw [bK] <;> omega)
 rw [EY,←hlen];refine ⟨.ref s.heap.objs.size,_,I.laid (t':=s.toks) (o:=.lst (cM xs lo hi)) (fun b ob q=>a8 _ q) (aC _) ?_,rfl,q _ (I.aA.fresh (aC _))⟩;exact ⟨cf (zF xs lo hi) hz,_,0,(r.drop (HT.aO xs.length 0 lo)).take (HT.aO xs.length xs.length hi-HT.aO xs.length 0 lo),bZ _ rfl⟩
def vZ:V→Bool
 | .aI=>true
 | .bl _=>true
 | .int _=>true
 | .str _=>true
 | _=>false
def iD:V→V→Bool
 | .aI,.aI=>true
 | .bl a,.bl b=>a == b
 | .bl a,.int b=>(if a then 1 else 0) == b
 | .int a,.bl b=>a == (if b then 1 else 0)
 | .int a,.int b=>a == b
 | .str a,.str b=>a == b
 | _,_=>false
variable {x:V}
theorem v8{A:Around}{y:V}{u v:Value}(ry:RelV y u)(rx:RelV x v)(fy:vZ y=true)(fx:vZ x=true):SeqAt.EqAt A s u v (iD y x):=by
 cases y with
 | aI=>
  cases ry;cases x with
  | aI=>cases rx;exact SeqAt.EqAt.same _
  | bl b=>cases rx;exact SeqAt.EqAt.none_bool b
  | int b=>obtain ⟨t,rfl⟩:=rx;exact SeqAt.EqAt.none_int b t
  | str b=>obtain ⟨t,rfl⟩:=rx;exact SeqAt.EqAt.none_str b t
  | _=>exact absurd (show false=true from fx) bW
 | bl a=>
  cases ry;cases x with
  | aI=>cases rx;exact SeqAt.EqAt.bool_none a
  | bl b=>cases rx;exact SeqAt.EqAt.bool_bool a b
  | int b=>obtain ⟨t,rfl⟩:=rx;exact SeqAt.EqAt.bool_int a b t
  | str b=>obtain ⟨t,rfl⟩:=rx;exact SeqAt.EqAt.bool_str a b t
  | _=>exact absurd (show false=true from fx) bW
 | int a=>
  obtain ⟨t',rfl⟩:=ry;cases x with
  | aI=>cases rx;exact SeqAt.EqAt.int_none a t'
  | bl b=>cases rx;exact SeqAt.EqAt.int_bool a t' b
  | int b=>obtain ⟨t,rfl⟩:=rx;exact SeqAt.EqAt.int_int a t' b t
  | str b=>obtain ⟨t,rfl⟩:=rx;exact SeqAt.EqAt.int_str a t' b t
  | _=>exact absurd (show false=true from fx) bW
 | str a=>
  obtain ⟨t',rfl⟩:=ry;cases x with
  | aI=>cases rx;exact SeqAt.EqAt.str_none a t'
  | bl b=>cases rx;exact SeqAt.EqAt.str_bool a t' b
  | int b=>obtain ⟨t,rfl⟩:=rx;exact SeqAt.EqAt.str_int a t' b t
  | str b=>obtain ⟨t,rfl⟩:=rx;exact SeqAt.EqAt.str_str a t' b t
  | _=>exact absurd (show false=true from fx) bW
 | _=>exact absurd (show false=true from fy) bW
theorem jf:en X (.builtin "len") (fun xs H Q=>∃p ys,xs=[.ref p]∧(bq X.K H p ys∨bx X.K H p ys)∧Q (.int ys.length) H):=by
 intro pins s σ H xs us Q I r h;obtain ⟨p,ys,rfl,hq,q⟩:=h;obtain ⟨u,rfl,rx⟩:=vals1 r;cases rx;have hn:=sD;rcases hq with hq | hq
 ·obtain ⟨ak,r',pl,hz⟩:=I.list hq
  have hlen:=r'.length;exact Calls.call_len_list pl.isList (by simp only [bK] <;> omega) ⟨.int ys.length,H,I.tok _,⟨s.toks+1,by rw [bK,hlen]⟩,q⟩
 ·obtain ⟨ak,r',pl,hz⟩:=I.tuple hq
  have hlen:=r'.length;exact len_tuple pl (by simp only [bK] <;> omega) ⟨.int ys.length,H,I.tok _,⟨s.toks+1,by rw [bK,hlen]⟩,q⟩
theorem zM:en X (.type "list") (fun xs H Q=>∃p ys,xs=[.ref p]∧(bq X.K H p ys∨bx X.K H p ys)∧∀l,H l=none→Q (.ref l) (upd H l (.lst ys))):=by
 intro pins s σ H xs us Q I r h;obtain ⟨p,ys,rfl,hq,q⟩:=h;obtain ⟨u,rfl,rx⟩:=vals1 r;cases rx
 have fin:∀(ak:List Value),Vals ys ak→ys.length≤sizeLine→∀(h':Heap) (c':Nat),(∀b o',s.heap.get? b=some o'→h'.get? b=some o')→
   h'.get? s.heap.objs.size=some {cls:=.type "list",dict:=none,data:=.seq ak.toArray c',slots:=#[]}→EP X pins σ Q (.ref s.heap.objs.size) {s with heap:=h'}:=fun ak r' hz h' c' kp e=>
  ⟨.ref s.heap.objs.size,_,I.laid (t':=s.toks) kp (aC _) (show bH X.prog X.w _ h' _ (.lst ys) from ⟨hz,ak,c',r',e⟩),rfl,q _ (I.aA.fresh (aC _))⟩
 rcases hq with hq | hq
 ·obtain ⟨ak,r',pl,hz⟩:=I.list hq
  have hlen:=r'.length;obtain ⟨o,ho,hc,n,hd⟩:=pl.isList;exact call_list_seq p (.inl rfl) ho hc hd (fun h' c' kp e=>fin ak r' hz h' c' kp e) (by simp only [bK] <;> omega)
 ·obtain ⟨ak,r',pl,hz⟩:=I.tuple hq
  have hlen:=r'.length;obtain ⟨o,ho,hc,n,hd⟩:=pl;exact call_list_seq p (.inr rfl) ho hc hd (fun h' c' kp e=>fin ak r' hz h' c' kp e) (by simp only [bK] <;> omega)
theorem E1:en X (.type "tuple") (fun xs H Q=>∃p ys,xs=[.ref p]∧((bq X.K H p ys∧∀l,H l=none→Q (.ref l) (upd H l (.tup ys)))∨(bx X.K H p ys∧Q (.ref p) H))):=by
 intro pins s σ H xs us Q I r h;obtain ⟨p,ys,rfl,h⟩:=h;obtain ⟨u,rfl,rx⟩:=vals1 r;cases rx;rcases h with ⟨hq,q⟩ | ⟨hq,q⟩
 ·obtain ⟨ak,r',pl,hz⟩:=I.list hq
  have hlen:=r'.length;refine call_tuple_list pl.isList (fun h' kp=>?_) (by simp only [bK] <;> omega)
  have I1:Inv X pins σ H {s with heap:=h'}:=I.kept (t':=s.toks) kp;have I2:Inv X pins σ (upd H h'.objs.size (.tup ys)) {s with heap:=h'.push {cls:=.type "tuple",data:=.seq ak.toArray}}:=
   I1.laid (t':=s.toks) (fun b o e=>a8 _ e) (aC _) (show bH X.prog X.w _ _ _ (.tup ys) from ⟨hz,ak,r',IsTup.new _ _⟩)
  exact ⟨.ref h'.objs.size,_,I2,rfl,q _ (I1.aA.fresh (aC _))⟩
 ·obtain ⟨ak,r',pl,hz⟩:=I.tuple hq
  exact call_tuple_same pl ⟨.ref p,H,I,rfl,q⟩
def zN(K:aG)(T:String)(x:V)(H:Hp):Prop:=match x with
 | .str _=>T="str"
 | .int _=>T="int"
 | .ref p=>(T="list"∧∃xs,bq K H p xs)∨(T="tuple"∧∃o,K.lookup p=some o∧o.cls=.type "tuple"∧o.dict=none) ∨
   (T="dict"∧((∃kvs,H p=some (.dK kvs))∨∃kvs,H p=some (.dT kvs)))∨(T="set"∧∃S n,H p=some (.set S n))
 | _=>False
theorem E2{T:String}{v:Value}(I:Inv X pins σ H s)(r:RelV x v)(ty:zN X.K T x H) :
  s.TypeIs v T∧∀a,v=.ref a→∃ob,s.heap.get? a=some ob∧ob.dict=none:=by
 cases x with
 | str z=>obtain ⟨t,rfl⟩:=r;cases (show T="str" from ty);exact ⟨typeIs_str s z t,fun _ e=>nomatch e⟩
 | int i=>obtain ⟨t,rfl⟩:=r;cases (show T="int" from ty);exact ⟨typeIs_int s i t,fun _ e=>nomatch e⟩
 | ref p=>
  cases r;rcases ty with ⟨rfl,xs,hq⟩ | ⟨rfl,o,hk,hc,hd⟩ | ⟨rfl,hk⟩ | ⟨rfl,S,n,hk⟩
  ·obtain ⟨ak,_,pl,_⟩:=I.list hq
   refine ⟨pl.isList.typeIs,fun a e=>?_⟩;cases e;obtain ⟨o,n,e,c,hd,_⟩:=pl;exact ⟨o,e,hd⟩
  ·refine ⟨⟨o,I.dn p o hk,hc⟩,fun a e=>?_⟩
   cases e;exact ⟨o,I.dn _ o hk,hd⟩
  ·have z:∃o,s.heap.get? p=some o∧o.ExactDict:=by
    rcases hk with ⟨kvs,hk⟩ | ⟨kvs,hk⟩
    ·obtain ⟨_,_,_,_,o,_,_,e,ex,_⟩:=I.aA p _ hk
     exact ⟨o,e,ex⟩
    ·obtain ⟨_,_,_,_,o,_,_,e,ex,_⟩:=I.aA p _ hk
     exact ⟨o,e,ex⟩
   obtain ⟨o,e,ex⟩:=z;refine ⟨⟨o,e,ex.1⟩,fun a e2=>?_⟩;cases e2;exact ⟨o,e,ex.2.1⟩
  ·obtain ⟨o,_,_,_,e,ex,_⟩:=I.aA p _ hk
   refine ⟨⟨o,e,ex.1⟩,fun a e2=>?_⟩;cases e2;exact ⟨o,e,ex.2.1⟩
 | _=>exact False.elim ty
def E3(K:aG)(T:String)(r:V→List V→Hp→VK→Prop)(to:TE)(t:TA):TE:=fun σ H Q=>to σ H fun x H1=>zN K T x H1∧t σ H1 fun xs H2=>r x xs H2 Q
variable {o e:Expr} {es:List Expr} {to:TE} {t:TA} {name:Str} {apos jg:Pos} {T id:String} {r:V→List V→Hp→VK→Prop}
theorem fS(pa:PlainAttrs T)(slot:Slot T name id)(E4:typeOf (.builtin id)=pure (.type "method_descriptor"))(hm:ET X id r)(ho:PE X o to)(ha:PA X (e::es) t)
  (E5:attributeBase o name X.env (eval o X.env)=eval o X.env:=by rfl)
  (E6:((backTo jg (starEach (e::es) X.env)).all (fun x=>!x.1) && (backToKw jg (keywordEach [] X.env)).all (fun x=>x.1.isSome)
   && decide ((e::es).length+([]:List Keyword).length+(if ([]:List Keyword).isEmpty then 0 else 1)<30))=true:=by rfl)
  (E7:(apos.endLine == jg.line)=true:=by rfl) (hs:starEach (e::es) X.env=(false,eval e X.env)::starEach es X.env:=by rfl) (E8:(backTo jg (starEach es X.env)).any (·.1)=false:=by rfl) :
  PE X (.Call (.Attribute o name apos) (e::es) [] jg) (E3 X.K T r to t):=by
 intro pins s σ H Q I h;refine wpAny_Call_method_late E5 E6 E7 rfl (aJ (ho pins s σ H _ I h) fun v s1 ⟨x,H1,I1,r1,ty,q1⟩=>?_);obtain ⟨h1,h2⟩:=E2 I1 r1 ty;refine ⟨T,id,pa,slot,E4,h1,h2,?_⟩;have hA:=ha jg pins s1 σ H1 _ I1 q1;rw [hs] at hA ⊢;refine Calls.callWith_builtin (by show (false || (backTo jg (starEach es X.env)).any (·.1))=false;rw [E8] <;> rfl) (Calls.evalArgs_plain ?_)
 exact aJ hA fun us s2 ⟨vs,H2,I2,r2,q2⟩=>hm pins s2 σ H2 x vs v us Q I2 r1 r2 q2
end
def v9(X:Cx)(id:String)(r:V→List V→Hp→VK→Prop):Prop:=
 ∀(pins:aL) (s:Shared) (σ:St) (H:Hp) (x:V) (xs:List V) (v:Value) (us:List Value) (Q:VK),Inv X pins σ H s→RelV x v→Vals xs us→r x xs H Q→
  wpAny (model X.prog X.w) X.A (call (.builtin id) (v::us)) (EP X pins σ Q) X.xe s
theorem Vals.one:∀{x:V} {us:List Value},Vals [x] us→∃u,us=[u]∧RelV x u
 | _,_,.cons r .nil=>⟨_,rfl,r⟩
theorem Vals.eraseIdx:∀{xs:List V} {us:List Value} (i:Nat),Vals xs us→Vals (xs.eraseIdx i) (us.eraseIdx i)
 | _,_,_,.nil=>.nil
 | _,_,0,.cons _ t=>t
 | _,_,i+1,.cons r t=>.cons r (Vals.eraseIdx i t)
theorem zO{α:Type}:∀(l:List α) (i:Nat),(l.eraseIdx i).length≤l.length
 | [],_=>aC _
 | _::_,0=>Nat.le_succ _
 | _::r,i+1=>Nat.succ_le_succ (zO r i)
section
variable {X:Cx} {pins:aL} {σ:St} {H:Hp} {s:Shared} {l b:Addr} {xs ys zs:List V}
variable {ak:List Value} {n t':Nat}
theorem Inv.v_{its':List Value}{f:Array Value→Array Value}(I:Inv X pins σ H s)(hH:H l=some (.lst xs))
  (e:s.heap.get? l=some {cls:=.type "list",data:=.seq ak.toArray n}) (hf:f ak.toArray=its'.toArray) (hv:Vals ys its') (hz:ys.length≤sizeLine) :
  Inv X pins σ (upd H l (.lst ys)) {s with heap:=s.heap.update l (Obj.mapSeq f),toks:=t'}:=by
 have q:=PySem.IsL.update e f;rw [hf] at q;refine I.write (x:=l) (e:=l) (by rw [hH];exact trivial) (.inl rfl) (fun b' u hb hu=>(rh s.heap (Obj.mapSeq f) (fG hb)).trans hu) ⟨_,q⟩ ?_
 exact ⟨hz,its',_,hv,q⟩
theorem Inv.E9(I:Inv X pins σ H s)(hv:Vals ys ak)(hz:ys.length≤sizeLine) :
  Inv X pins σ (upd H s.heap.objs.size (.lst ys)) {s with heap:=s.heap.push {cls:=.type "list",data:=.seq ak.toArray},toks:=t'}:=
 I.laid (fun _ _ q=>a8 _ q) (aC _) ⟨hz,ak,0,hv,bZ _ rfl⟩
theorem Inv.fresh(I:Inv X pins σ H s):H s.heap.objs.size=none:=I.aA.fresh (aC _)
theorem Inv.nq(I:Inv X pins σ H s)(hH:H l=some (.lst xs)):xs.length≤sizeLine∧∃(ak:List Value) (n:Nat),Vals xs ak∧xs.length=ak.length∧s.heap.get? l=some {cls:=.type "list",data:=.seq ak.toArray n}:=by obtain ⟨z,ak,n,r,e⟩:=I.aA l _ hH;exact ⟨z,ak,n,r,r.length,e⟩
theorem E_(h:n≤sizeLine):Builtin.List.listTooLong n=false:=by unfold Builtin.List.listTooLong;exact bp (by omega)
end
section
variable {X:Cx}
def Fb:V→List V→Hp→VK→Prop:=fun x vs H Q=>∃l xs y,x=.ref l∧vs=[y]∧H l=some (.lst xs)∧xs.length<sizeLine∧Q .aI (upd H l (.lst (xs++[y])))
theorem fi:v9 X "list.append" Fb:=by
 intro pins s σ H x vs v us Q I rx rv h;obtain ⟨l,xs,y,rfl,rfl,hH,hz,q⟩:=h;cases rx;obtain ⟨u,rfl,ru⟩:=rv.one;obtain ⟨z,ak,n,r,hl,e⟩:=I.nq hH;refine call_meets F.slot_list_append ⟨_,e,rfl⟩ F.entry_list_append (F.args_list_append_2 _ _) (PySem.list_append l ak.toArray n u (by rw [bK];omega)) ⟨e,?_⟩
 refine ⟨.aI,_,I.v_ (its':=ak++[u]) hH e (by simp) (r.append (.cons ru .nil)) ?_,rfl,q⟩
 rw [d9,oY];omega
def Fc:V→List V→Hp→VK→Prop:=fun x vs H Q=>∃l b xs zs,x=.ref l∧vs=[.ref b]∧H l=some (.lst xs)∧H b=some (.lst zs)∧xs.length+zs.length≤sizeLine∧Q .aI (upd H l (.lst (xs++zs)))
theorem Fd:v9 X "list.extend" Fc:=by
 intro pins s σ H x vs v us Q I rx rv h;obtain ⟨l,b,xs,zs,rfl,rfl,hH,hB,hz,q⟩:=h;cases rx;obtain ⟨u,rfl,ru⟩:=rv.one;cases ru;obtain ⟨z,ak,n,r,hl,e⟩:=I.nq hH;obtain ⟨z2,fR,n2,r2,Fe,e2⟩:=I.nq hB;have hsz:ak.toArray.size+fR.toArray.size≤sizeLine:=by rw [bK,bK];omega
 have Ff:¬(!ak.toArray.isEmpty && Builtin.List.listTooLong (ak.toArray.size+fR.toArray.size))=true:=by rw [E_ hsz,Bool.and_false];exact bW
 refine call_meets F.slot_list_extend ⟨_,e,rfl⟩ F.entry_list_extend (F.args_list_extend_2 _ _)
  (AutoSeq1.list_extend_list_list_0 l ak.toArray n b fR.toArray n2 Ff (by rw [bK];omega) (by omega)) ⟨e,e2,?_⟩
 refine ⟨.aI,_,I.v_ (its':=ak++fR) hH e (by simp) (r.append r2) ?_,rfl,q⟩
 rw [d9];omega
def Fg:V→List V→Hp→VK→Prop:=fun x vs H Q=>∃l xs i k y,x=.ref l∧vs=[.int i]∧H l=some (.lst xs)∧-(2 ^ 63)≤i∧i<2 ^ 63∧seqIndex? i xs.length=some k∧xs[k]?=some y∧Q y (upd H l (.lst (xs.eraseIdx k)))
theorem Fh:v9 X "list.pop" Fg:=by
 intro pins s σ H x vs v us Q I rx rv h;obtain ⟨l,xs,i,k,y,rfl,rfl,hH,h1,h2,hk,hy,q⟩:=h;cases rx;obtain ⟨u,rfl,ru⟩:=rv.one;obtain ⟨t,rfl⟩:=ru;obtain ⟨z,ak,n,r,hl,e⟩:=I.nq hH;obtain ⟨w,hw,j8⟩:=r.get hy
 refine call_meets F.slot_list_pop ⟨_,e,rfl⟩ F.entry_list_pop (F.args_list_pop_2 _ _)
  (MeetsSeq.list_pop_at l ak.toArray n i t k w (fitsIndex_both h1 h2) (by rw [bK,←hl];exact hk) (by rw [←vf];exact hw) (by rw [bK];omega)) ⟨e,?_⟩
 refine ⟨y,_,I.v_ (its':=ak.eraseIdx k) hH e ?_ (r.eraseIdx k) ?_,j8,q⟩
 ·show ak.toArray.eraseIdxIfInBounds k=(ak.eraseIdx k).toArray
  rw [List.eraseIdxIfInBounds_toArray]
 ·have:=zO xs k
  omega
def Fi:R2:=fun x y H Q=>∃l b xs zs,x=.ref l∧y=.ref b∧H l=some (.lst xs)∧H b=some (.lst zs)∧xs.length+zs.length≤sizeLine∧∀p,H p=none→Q (.ref p) (upd H p (.lst (xs++zs)))
theorem Fj:bI X (binaryOp .Add) Fi:=by
 intro pins s σ H x y v u Q I rx ry h;obtain ⟨l,b,xs,zs,rfl,rfl,hH,hB,hz,q⟩:=h;cases rx;cases ry;obtain ⟨z,ak,n,r,hl,e⟩:=I.nq hH;obtain ⟨z2,fR,n2,r2,Fe,e2⟩:=I.nq hB;refine PySem.P.add_list e e2 ?_ (by rw [bK,bK];omega)
 have ea:ak.toArray++fR.toArray=(ak++fR).toArray:=by simp
 rw [ea];exact ⟨.ref _,_,I.E9 (t':=s.toks) (r.append r2) (by rw [d9];omega),rfl,q _ I.fresh⟩
end
section
variable {prog:Program} {w:World} {A:Around} {E:aF} {s:Shared}
end
section
variable {X:Cx}
end
end L2
namespace sO
open PySem PySem.W PySem.Calls PyProof.Rows
variable {P:Params} {h:Heap}
theorem Fl:∀(ns:List Int) (vs:List Value),WellAll P h vs (ns.map WData.int)→IntsAre vs ns:=by
 intro ns
 induction ns with
 | nil=>intro vs w;rw [List.map_nil] at w;cases w;exact .nil
 | cons n ns ih=>
  intro vs w;rw [cR] at w;cases w with
  | cons a b=>cases a;exact .cons _ _ (ih _ b)
variable {l:OpenLaw} {n:Nat}
theorem Fm(hn:l.most=some n){args:List WData}{vals:List Value}
  (sP:l.row.toRowW.claim.pre args=true) (wa:WellAll P h vals args) :
  ∃a vs ns,vals=[Value.ref a]∧args=[WData.list (ns.map WData.int)]∧h.get? a=some {cls:=.type "list",data:=.seq vs.toArray}∧IntsAre vs ns∧ns.length≤n:=by
 have Fn:WShape.hasAll [] args [.list .int]=true:=(pre_splitW sP).1;have hc:l.pre.holds [] {args:=args}=true:=(pre_splitW sP).2;obtain ⟨d,r,rfl,h1,h2⟩:=hasAllW_cons Fn;obtain rfl:=hasAllW_nil h2;obtain ⟨xs,rfl,h3⟩:=hasW_list h1;obtain ⟨ns,rfl⟩:=items_int h3;have hlen:ns.length≤n:=by
  unfold OpenLaw.pre at hc;have h4:(WTm.not (.lt (.lit (.int (n:Int))) (.len (.arg 0)))).holds [] {args:=[.list (ns.map .int)]}=true:=by have h4:=(holds_andW hc).1;rw [hn] at h4;exact h4
  have h5:=condW_of h4 (w_not (w_lt w_lit (w_len_list (w_arg rfl))));rw [ba] at h5;refine Nat.le_of_not_lt fun q=>?_;have q':(n:Int)<((ns.length:Nat):Int):=by omega
  first
   | (rw [bg q'] at h5;exact absurd h5 (by decide))
   | (simp at h5;omega)
 cases wa with
 | cons w1 w2=>
  cases w2;cases w1 with
  | list ho Fo=>exact ⟨_,_,ns,rfl,rfl,ho,Fl ns _ Fo,hlen⟩
theorem Fp(l:OpenLaw)(args:List WData):l.row.toRowW.claim.post args (.bool true) args=true:=
 postW_of (r:=l.row.toRowW) (X:=(true == true))
  (show WShape.has [] (.bool true) .bool=true by first | rfl | decide | simp [WShape.has,WShape.arms,WShape.armsAll])
  (show (WTm.eq .res (.lit (.bool true))).value [] {args:=args,res:=some (.bool true),after:=args}=some (.bool (true == true)) from w_eq_bool (w_res rfl) w_lit) rfl
theorem Fq{q:Program}{loose:List Str}{XP:(Str→Option Value)→Heap→Prop}{YP:World→Heap→Prop}{d:DefRec}
  (hn:l.most=some n) (pZ:d.params.defaults=[])
  (call:∀(w:World) (s₀ s₁:Shared) (mg mb:bY) (fa:Addr) (o:Obj) (pm cd doc:Value) (a:Addr) (vs:List Value) (ns:List Int),
   Ground q loose [] XP w s₀ mg mb s₁.heap→YP w s₁.heap→
   s₁.heap.get? fa=some o→o.data=.func (docDef d.name d.params d.body d.scope pm cd doc)→s₁.heap.CodeRec cd d.name→mg d.name=some (.ref fa)→
   s₁.heap.get? a=some {cls:=.type "list",data:=.seq vs.toArray}→IntsAre vs ns→ns.length≤n→s₁.gens = #[]→
   codeAny (model l.prog w) callerA (.call (.ref fa) ⟨[.ref a],[]⟩) (fun r s'=>r=.ok (.ret (.bool true))∧OldK s₁.heap s'.heap∧s'.os=s₁.os∧AllBare s'.gens) s₁) :
  WalkO q loose XP YP l.row.toRowW d [] (fun f vs=>PySem.call f vs):=by
 intro w s₀ s₁ mg mb G Y fa o pm cd doc dV kV ho hd ff hD p9 hg args vals as sP Oo Oq wa Ot;obtain rfl:dV=.none:=Dflts.none hD pZ;obtain rfl:kV=.none:=Dflts.noKw hD;obtain ⟨a,vs,ns,rfl,rfl,wb,hints,hlen⟩:=Fm hn sP wa;refine enter_call (codeAny_mono (call w s₀ s₁ mg mb fa o pm cd doc a vs ns G Y ho (fd_plain hd) ff p9 wb hints hlen hg) fun r s' hq=>?_);obtain ⟨rfl,h2,h3,h4⟩:=hq;exact ⟨.inl ⟨.bool true,.bool true,[],rfl,fun _=>rfl,.bool true,Fp l _,fun _=>⟨List.Pairwise.nil,fun _ hm=>(nomatch hm)⟩⟩,h2,h3,h4⟩
section
variable {prog:Program} {w:World} {A:Around} {E:aF} {s:Shared} {K:Frag}
end
end sO
namespace L2
open PySem PySem.Spec PyProof.Rows
theorem zP:∀{vs:List Value} {ns:List Int},IntsAre vs ns→Vals (ns.map V.int) vs
 | _,_,.nil=>.nil
 | _,_,.cons n t h=>.cons ⟨t,rfl⟩ (zP h)
def wc(H:Hp):Prop:=∀b,H b=none∨∃o xs,H b=some (.bN o (.lst xs))
variable {K:aG} {k:Nat} {a:Addr} {x:Str}
theorem Fs{P:Program}{w:World}{mg mb:bY}{CX:fg}{fa:Addr}{fd:FuncData}{sp:Sp}{s₁:Shared}{vs:List Value}{ns:List Int}
  (KX:K.In s₁.heap) (zQ:s₁.heap.Ns mainGlobals mg) (hb:s₁.heap.Ns builtinsNs mb) (lh:∀x:Str,x ≠ "__name__"→mb x=bootBuiltins x) (Ft:s₁.heap.NoLimit) (hg:s₁.gens = #[])
  (ha:s₁.heap.get? a=some {cls:=.type "list",data:=.seq vs.toArray}) (hi:IntsAre vs ns) (hl:ns.length≤sizeLine) (hr:cU k callerA)
  (F:∀base:Heap,K.In base→base.Ns mainGlobals mg→bT P w K mg base CX k fa fd [x] sp) (Fu:∀(s:Shared) (u:Value),BindsTo s fd ⟨[u],[]⟩ [(x,u)])
  (jZ:∀H:Hp,wc H→bq K H a (ns.map V.int)→sp [.ref a] H (fun v _=>v=.bl true) fun _ _ _=>False)
  (wd:∀H e s',CX [] H s₁ (fun _ _ _=>False) e s'→False) :
  codeAny (model P w) callerA (.call (.ref fa) ⟨[.ref a],[]⟩) (fun r s'=>r=.ok (.ret (.bool true))∧OldK s₁.heap s'.heap∧s'.os=s₁.os∧AllBare s'.gens) s₁:=by
 have rv:=zP hi;have Fv:=hi.length
 have core:∀H:Hp,wc H→bq K H a (ns.map V.int)→bD P w H s₁.heap→(∀b,H b≠none→b=a)→(H a≠none→K.lookup a=none)→
   codeAny (model P w) callerA (.call (.ref fa) ⟨[.ref a],[]⟩) (fun r s'=>r=.ok (.ret (.bool true))∧OldK s₁.heap s'.heap∧s'.os=s₁.os∧AllBare s'.gens) s₁:=by
  intro H hO hS aA hA hK;have zR:∀{b:Addr} {o:Obj},s₁.heap.get? b=some o→H b=none→(i6 s₁.heap H).get? b=some o:=fun e n=>De e n;have pU:∀{b:Addr} {o:Obj} {es:Array DictEntry} {ep:Nat},s₁.heap.get? b=some o→o.data=.dict es ep→H b=none:=fun{b o es ep} e d=>by
   cases q:H b with
   | none=>rfl
   | some u=>
    have e':b=a:=hA b (by rw [q];simp)
    subst e';rw [ha] at e;cases e;have d':Data.seq vs.toArray _=Data.dict es ep:=d;cases d'
  have sQ:∀{b:Addr} {m:bY},s₁.heap.Ns b m→(i6 s₁.heap H).Ns b m:=fun{b m} ⟨o,es,ep,e,d,r⟩=>⟨o,es,ep,zR e (pU e d),d,r⟩;have zS:K.In (i6 s₁.heap H):=fun b o e=>zR (KX b o e) (by
   cases q:H b with
   | none=>rfl
   | some u=>
    have e':b=a:=hA b (by rw [q];simp)
    subst e';rw [hK (by rw [q];simp)] at e;cases e)
  have hM:Mod K mg (i6 s₁.heap H):=⟨zS,sQ zQ,⟨mb,sQ hb,lh⟩,let ⟨mc,h1,h2⟩:=Ft;⟨mc,sQ h1,h2⟩⟩
  have e0:sG P w K mg (i6 s₁.heap H) callerA [] s₁ H:=⟨rfl,hM,fun b o e=>Df e,Nat.le_of_eq (Dc _ _),trivial,fun b hb=>absurd (show b∈([]:List Addr) from hb) (by simp),aA,.of_eq hg⟩
  refine codeAny_mono ((F _ zS (sQ zQ)).run callerA [] s₁ H ⟨[.ref a],[]⟩ [.ref a] [.ref a] _ _ hr e0 (Fu s₁ (.ref a)) (.cons rfl .nil) (jZ H hO hS)) fun r s' h=>?_;cases r with
  | error e=>exact (wd H e s' h).elim
  | ok fl=>
   cases fl with
   | next=>exact False.elim h
   | brk=>exact False.elim h
   | cont=>exact False.elim h
   | ret u=>
    obtain ⟨v,H',os,bare,un,Fw,r',q⟩:=h;have q':v=.bl true:=q;subst q';obtain rfl:u=Value.bool true:=r';refine ⟨rfl,OldK.of_keep fun b o e=>?_,os,bare⟩;cases q:H b with
    | none=>exact un.keep b o e q (by intro z;exact absurd (show b∈([]:List Addr) from z) (by simp)) (by simp)
    | some u=>
     rcases hO b with z | ⟨ob,xs,z⟩;·rw [q] at z;cases z
     ·have z2:=un.gq b ob _ z
      obtain ⟨e1,_⟩:=aA b _ z;obtain ⟨e2,_⟩:=Fw b _ z2;rw [e] at e1;cases e1;exact e2
 cases hk:K.lookup a with
 | some o=>have e:=KX a o hk;rw [ha] at e;cases e;refine core (fun _=>none) (fun _=>.inl rfl) (.inr ⟨_,vs.toArray,_,hk,rfl,rfl,rfl,by rw [bK,Fv];exact hl,by simpa using rv⟩) (fun b u z=>by have z':(none:Option HO)=some u:=z;cases z') (fun b z=>absurd rfl z) fun z=>absurd rfl z
 | none=>
  refine core (fun b=>if b=a then some (.bN {cls:=.type "list",data:=.seq vs.toArray} (.lst (ns.map V.int))) else none) (fun b=>?_) (.inl (.inr ⟨{cls:=.type "list",data:=.seq vs.toArray},aj rfl⟩)) (fun b u z=>?_) (fun b z=>?_) fun _=>hk
  ·by_cases hb:b=a
   ·exact .inr ⟨_,_,aj hb⟩
   ·exact .inl (ae hb)
  ·by_cases hb:b=a
   ·have z':=(aj hb).symm.trans z
    cases z';subst hb;exact ⟨ha,by rw [ba];exact hl,vs,_,rv,ha⟩
   ·have z':=(ae hb).symm.trans z
    cases z'
  ·by_cases hb:b=a
   ·exact hb
   ·exact absurd (ae hb) z
abbrev zT {K:aG} {h:Heap} (_:K.In h):PySem.W.Frag:=K
variable {n:Nat}
theorem Fx{l:PySem.W.OpenLaw}{q:Program}{loose:List Str}{XP:(Str→Option Value)→Heap→Prop}{YP:World→Heap→Prop}{d:DefRec}{K:Params→PySem.W.Frag}{CX:World→fg}{sp:World→Sp}
  (hn:l.most=some n) (Fy:n≤sizeLine) (pZ:d.params.defaults=[]) (hr:cU k callerA)
  (hY:∀(w:World) (h:Heap),YP w h→(K w.params).In h)
  (F:∀(w:World) (mg:bY) (fa:Addr) (h:Heap),(K w.params).In h→h.Ns mainGlobals mg→mg d.name=some (.ref fa)→
   ∃fd:FuncData,(∀(s:Shared) (u:Value),BindsTo s fd ⟨[u],[]⟩ [(x,u)]) ∧
    ∀base:Heap,(K w.params).In base→base.Ns mainGlobals mg→bT l.prog w (K w.params) mg base (CX w) k fa fd [x] (sp w))
  (jZ:∀(w:World) (H:Hp) (a:Addr) (ns:List Int),ns.length≤n→wc H→bq (K w.params) H a (ns.map V.int)→sp w [.ref a] H (fun v _=>v=.bl true) fun _ _ _=>False)
  (wd:∀(w:World) (H:Hp) (s:Shared) (e:Value) (s':Shared),CX w [] H s (fun _ _ _=>False) e s'→False) :
  PySem.W.WalkO q loose XP YP l.row.toRowW d [] (fun f vs=>PySem.call f vs):=by
 refine sO.Fq hn pZ fun w s₀ s₁ mg mb fa o pm cd doc a vs ns G Y ho hd ff p9 wb hints hlen hg=>?_;have KX:=hY w _ Y;obtain ⟨fd,hb,hF⟩:=F w mg fa _ KX G.T.g p9;exact Fs KX G.T.g G.T.b G.T.builtins G.T.nolimit hg wb hints (cf hlen Fy) hr hF hb (fun H hO hS=>jZ w H a ns hlen hO hS) fun H e s'=>wd w H s₁ e s'
def p_(s:Stmt):Arguments:=match s with
 | .FunctionDef _ a _ _ _ _ _ _ _ _=>a
 | _=>{posonlyargs:=[],args:=[],vararg:=none,kwonlyargs:=[],kw_defaults:=[],kwarg:=none,defaults:=[]}
def lq(s:Stmt):List Stmt:=match s with
 | .FunctionDef _ _ b _ _ _ _ _ _ _=>b
 | _=>[]
def bR(s:Stmt):Scope:=match s with
 | .FunctionDef _ _ _ _ _ _ sc _ _ _=>sc
 | _=>{kind:=.function,names:=[],isGenerator:=false,isCoroutine:=false}
abbrev b_:fg:=fun _ _ _ _ _ _=>False
abbrev E0:XK:=fun _ _ _=>False
theorem bt{X:Cx}:Passes b_ X E0:=fun _ _ _ _ _ _ _ h=>h.elim
structure iE (K:aG) (x qual:Str) (st:Stmt) (f:Addr) (fd:FuncData):Prop where
 ex:∃(oc:Value) (od:Option Addr) (kV doc pm:Value) (an:Option Addr) (bU ct:Value) (jc:Array (Option Value)),
  fd=PySem.W.fnOf x qual (p_ st) (lq st) (bR st) .none kV doc pm an bU ct∧K.lookup f=some ⟨oc,od,.func fd,jc⟩∧PySem.W.codeIn K bU qual=true
 kp:PySem.W.keepIn K (.ref f)=true
abbrev bj (K:aG) (x:Str) (st:Stmt) (f:Addr) (fd:FuncData):Prop:=iE K x x st f fd
section
variable {P:Program} {w:World} {K:aG} {mg:bY} {base:Heap}
variable {qual:Str} {st:Stmt} {f:Addr} {fd:FuncData} {N ps:List Str} {sp:Sp}
theorem iE.ok(F:iE K x qual st f fd)(S:cw N ps (bR st))(len:∀vs H Q E,sp vs H Q E→vs.length=ps.length)
  (pV:∀(bU:Value) (A:Around) (outer:List Env) (s:Shared) (H:Hp) (vs:List V) (Q:VK) (E:XK),cU k (A.deeper (envOfC qual (bR st) s.heap.objs.size f bU))→sp vs H Q E→
   ∃t,fb (k8 b_ P w K mg base N qual (bR st) f bU A outer s H E).pM (lq st) t∧t {nx:=fun _ H'=>Q .aI H',rt:=Q} (start N vs) H):bT P w K mg base b_ (k+1) f fd ps sp:=by
 obtain ⟨oc,od,kV,doc,pm,an,bU,ct,jc,rfl,lk,ff⟩:=F.ex;refine Em lk ff S len fun A outer s H vs Q E hr jZ=>?_;obtain ⟨t,h,q⟩:=pV bU A outer s H vs Q E hr jZ;exact ⟨t,h.pM,q⟩
theorem iE.c7(F:iE K x qual st f fd)(S:cw N ps (bR st))
  (pV:∀(bU:Value) (A:Around) (outer:List Env) (s:Shared) (H:Hp) (vs:List V) (Q:VK) (E:XK),cU k (A.deeper (envOfC qual (bR st) s.heap.objs.size f bU))→sp vs H Q E→
   ∃t,fb (k8 b_ P w K mg base N qual (bR st) f bU A outer s H E).pM (lq st) t∧t {nx:=fun _ H'=>Q .aI H',rt:=Q} (start N vs) H)
  (len:∀vs H Q E,sp vs H Q E→vs.length=ps.length:=by intro vs H Q E h;repeat first | (obtain ⟨rfl,_⟩:=h;rfl) | (subst h;rfl) | obtain ⟨_,h⟩:=h):bT P w K mg base b_ (k+1) f fd ps sp:=F.ok S len pV
theorem iE.binds(F:iE K x qual st f fd)
  (h:∀(kV doc pm:Value) (an:Option Addr) (bU ct:Value) (us:List Value),us.length=ps.length→bindArgs (PySem.W.fnOf x qual (p_ st) (lq st) (bR st) .none kV doc pm an bU ct) ⟨us,[]⟩=pure (ps.zip us)):Binds K fd ps []:=by
 obtain ⟨oc,od,kV,doc,pm,an,bU,ct,jc,rfl,lk,ff⟩:=F.ex;exact .all (h kV doc pm an bU ct)
theorem iE.c8(F:iE K x qual st f fd)
  (h:∀(kV doc pm:Value) (an:Option Addr) (bU ct:Value) (us:List Value),us.length=ps.length→bindArgs (PySem.W.fnOf x qual (p_ st) (lq st) (bR st) .none kV doc pm an bU ct) ⟨us,[]⟩=pure (ps.zip us):=by intro _ _ _ _ _ _ us hl;rcases us with _ | ⟨_,_ | ⟨_,_ | ⟨_,_ | ⟨_,_ | ⟨_,_ | ⟨_,_ | ⟨_,_⟩⟩⟩⟩⟩⟩⟩ <;> first | rfl | (simp at hl;done)):Binds K fd ps []:=F.binds h
theorem c9{oc:Value}{od an:Option Addr}{jc:Array (Option Value)}{kV doc pm bU ct:Value}(l:K.lookup f=some ⟨oc,od,.func (PySem.W.fnOf x qual (p_ st) (lq st) (bR st) .none kV doc pm an bU ct),jc⟩)
  (c:PySem.W.codeIn K bU qual=true) (k:PySem.W.keepIn K (.ref f)=true):iE K x qual st f (PySem.W.fnOf x qual (p_ st) (lq st) (bR st) .none kV doc pm an bU ct):=⟨⟨oc,od,kV,doc,pm,an,bU,ct,jc,rfl,l,c⟩,k⟩
end
theorem cA(h:n≤1000):n<sizeLine:=mM h (by decide)
section
variable {X:Cx}
theorem pv(i:Nat){pos:Pos}(hN:X.N[i]?=some x:=by rfl)(hv:jQ X.env.scope x:=by first | exact Or.inl rfl | exact Or.inr (Or.inl rfl) | exact Or.inr (Or.inr rfl))(hd:(x == ("__debug__":Str))=false:=by decide)
  (ff:(x == ("__classdict__":Str))=false:=by decide):PE X (.Name x pos) (yH i):=Dp hN hv hd ff
end
variable {A B:Prop}
theorem cB(h:B):if false=true then A else B:=by rw [ae bW];exact h
theorem fT(h:A):if true=true then A else B:=by rw [aj rfl];exact h
theorem cG{c:Prop}[Decidable c](h1:c→A)(h2:¬c→B):if c then A else B:=by
 by_cases h:c
 ·rw [aj h]
  exact h1 h
 ·rw [ae h]
  exact h2 h
def ai(H H':Hp):Prop:=∀b o,H b=some o→H' b=some o
theorem ai.refl(H:Hp):ai H H:=fun _ _ h=>h
variable {H:Hp}
theorem ai.trans{H1 H2:Hp}(a:ai H H1)(b:ai H1 H2):ai H H2:=fun c o h=>b c o (a c o h)
theorem ai.seq{H':Hp}{xs:List V}(e:ai H H')(h:bq K H a xs):bq K H' a xs:=by
 rcases h with (h | ⟨o,h⟩) | h;·exact .inl (.inl (e _ _ h))
 ·exact .inl (.inr ⟨o,e _ _ h⟩)
 ·exact .inr h
end L2
set_option maxHeartbeats 4000000
namespace L2
open PySem PySem.Spec PyProof.Rows
section
variable {P:Program} {w:World} {outer:List Env} {H H':Hp} {s s':Shared} {ea C t:Addr} {B:Heap}
def ExcAt(ea C:Addr)(h:Heap):Prop:=∃oe,h.get? ea=some oe∧oe.cls=.ref C∧PySem.W.notCls oe=true
def Fz(ea C:Addr):HO:=.ext (ExcAt ea C)
end
section
variable {X:Cx} {pins:aL} {σ:St} {H H':Hp} {s s':Shared} {ea C t:Addr} {B:Heap}
end
section
variable {X:Cx} {E:XK} {x:Str} {C:Addr} {np jg pos:Pos} {e:Expr} {es:List Expr} {ta:TA} {B newId Ou:String} {FA:List Value}
end
section
variable {X:Cx} {k:Nat} {f C:Addr} {fd:FuncData} {ps:List Str} {sp:Sp} {iA:List V} {ds:List Value} {x m:Str} {p pos apos:Pos} {e o:Expr} {es:List Expr} {ta:TE} {t:TA}
variable {te:TX} {i:Nat} {pos':Pos}
end
section
variable {X:Cx} {pins:aL} {σ:St} {H:Hp} {s:Shared} {ea:Addr}
end
section
variable {M:Model} {A:Around} {E:aF} {h:Heap} {g:Array GenState} {d:Drawn} {t:Nat} {os:OsState} {e:Addr} {oe:Obj} {Q:Bool→Shared→Prop}
variable {nm q Ov q':Str} {C N D N':Addr} {bs bm Ow Ox:List Value} {Oy Oz:Bool} {sn OA:List Str} {sub zU:List Value} {ab OB:Bool} {col OC:Option Bool} {dd qa:Option Addr} {k0 k1 k2 k3 k5 j0 j1 j2 j3 j5:Option Value} {newId OD:String}
end
section
variable {X:Cx} {body:List Stmt} {b₀:Stmt} {OE:List Stmt} {np OF pos:Pos} {x n:Str} {D:Addr} {tb:OG} {ts:TS} {FA:List Value} {newId:String} {i:Nat}
end
section
variable {P:Program} {w:World} {K:aG} {mg:bY} {base:Heap}
end
structure lA (K:aG) (C:Addr):Prop where
 ci:PySem.W.hasDictIn K C=true
 ga:PySem.W.findIn K (.ref C) "__getattribute__"=some (some (.builtin "BaseException.__getattribute__"))
 gn:PySem.W.findIn K (.ref C) "__getattr__"=some none
 ca:PySem.W.findIn K (.ref C) "__class__"=some (some (.builtin "object.__class__"))
 mo:PySem.W.mroIn K C (.type "object")=some true
 mb:PySem.W.mroIn K C (.type "BaseException")=some true
section
variable {prog:Program} {w:World} {A:Around} {E:aF} {h:Heap} {g:Array GenState} {d:Drawn} {t:Nat} {os:OsState} {K:aG} {a C:Addr} {o:Obj}
theorem FC{R:Result→Shared→Prop}(cF:K.In h)(c:lA K C)(hx:h.get? a=some o)(hc:o.cls=.ref C)(hq:R (.ok (.ret (.ref C))) ⟨h,g,d,t,os⟩) :
  codeAny (model prog w) A (.call (.builtin "getset_descriptor.__get__") ⟨[.builtin "object.__class__",.ref a,.ref C],[]⟩) R ⟨h,g,d,t,os⟩:=by
 have zV:(⟨h,g,d,t,os⟩:Shared).TypeIs (.builtin "object.__class__") "getset_descriptor":=vg;have L1:=PySem.W.looks_mroIn (M:=model prog w) cF c.mo;have ow:=F.owner_object_class;refine codeAny_call_builtin F.slot_gs_get.plain F.entry_gs_get (F.slot_gs_get.check _ _ _ _ _ _ _ _ zV (F.args_gs_get _ _ _) ?_)
 repeat (any_goals (first | assumption | (with_reducible refine oZ hx ?_;rw [hc]) | (rw [ow];with_reducible refine L1.at ?_) | wp_step))
 refine ⟨Code.quiet_builtin _ (by decide +kernel),codeAny_builtin F.entry_object_class ?_⟩
 repeat (any_goals (first | assumption | (with_reducible refine oZ hx ?_;rw [hc]) | wp_step))
theorem FD{tk:Tok}{Q:Fin→Shared→Prop}(cF:K.In h)(c:lA K C)(hx:h.get? a=some o)(hc:o.cls=.ref C)(hq:Q (.done (.ret (.ref C))) ⟨h,g,d,t,os⟩) :
  wpAny (model prog w) A (Builtin.«object.__getattribute__» ⟨[.ref a,.str "__class__" tk],[]⟩) Q E ⟨h,g,d,t,os⟩:=by
 have zV:(⟨h,g,d,t,os⟩:Shared).TypeIs (.builtin "object.__class__") "getset_descriptor":=vg;have L1:=PySem.W.looks_findIn (M:=model prog w) cF c.ca;have f5:=vg;have f6:=F.slot_gs_get.lookup;have f7:=F.slot_gs_set.lookup
 repeat (any_goals (first | assumption | (with_reducible refine oZ hx ?_;rw [hc]) | with_reducible refine L1.at ?_ | wp_step))
 refine FC cF c hx hc ?_
 repeat (any_goals (first | assumption | wp_step))
theorem FE{M:Model}{nv:Value}{Q:Unit→Shared→Prop}(cF:K.In h)(c:lA K C)(hx:h.get? a=some o)(hc:o.cls=.ref C)(hq:Q () ⟨h,g,d,t,os⟩) :
  wpAny M A (checkBuiltinCall "BaseException.__getattribute__" ⟨[.ref a,nv],[]⟩) Q E ⟨h,g,d,t,os⟩:=by
 have hk:builtinKind "BaseException.__getattribute__"=some .slot:=by decide +kernel
 have hs:splitId "BaseException.__getattribute__"=some ("BaseException","__getattribute__"):=by decide +kernel
 have L1:=PySem.W.looks_mroIn (M:=M) cF c.mb;have ha:=F.args_bexc_ga (.ref a) nv;simp only [checkBuiltinCall,hk,hs];refine ao ?_;unfold isInstance
 repeat (first | (with_reducible refine oZ hx ?_;rw [hc]) | with_reducible refine L1.at ?_ | wp_step)
 exact hq
theorem FF{tk:Tok}{fill expr:Bool}{Q:aF}(cF:K.In h)(c:lA K C)(hx:h.get? a=some o)(hc:o.cls=.ref C)(hq:Q (.ref C) ⟨h,g,d,t,os⟩) :
  wpAny (model prog w) A (getAttrBy (.ref a) (.str "__class__" tk) fill expr) Q E ⟨h,g,d,t,os⟩:=by
 have f3:=F.attrBase_ValueError.ga.bind (.ref a);have z0:(expr && onTheHeap (Value.builtin "BaseException.__getattribute__"))=false:=by cases expr <;> rfl
 have z2:(Value.builtin "BaseException.__getattribute__" == Value.builtin "object.__getattribute__")=false:=by decide +kernel
 have z1:(onTheHeap (Value.ref C) && Value.builtin "BaseException.__getattribute__" == Value.builtin "object.__getattribute__")=false:=by rw [z2];rfl
 have L1:=PySem.W.looks_findIn (M:=model prog w) cF c.ga;have L2:=PySem.W.looks_findIn (M:=model prog w) cF c.gn
 repeat (any_goals (first | assumption | (with_reducible refine oZ hx ?_;rw [hc]) | with_reducible refine L1.at ?_ | with_reducible refine L2.at ?_ | wp_step))
 refine codeAny_call_builtin F.attrBase_ValueError.ga.plain F.entry_bexc_ga (FE cF c hx hc (FD cF c hx hc ?_))
 repeat (any_goals (first | assumption | wp_step))
theorem FG{Q:Option Value→Shared→Prop}(cF:K.In h)(c:lA K C)(hx:h.get? a=some o)(hc:o.cls=.ref C)(hq:Q (some (.ref C)) ⟨h,g,d,t+1,os⟩) :
  wpAny (model prog w) A (getAttr? (.ref a) "__class__") Q E ⟨h,g,d,t,os⟩:=by
 unfold getAttr? getAttrBy?
 repeat (any_goals (first | assumption | with_reducible apply FF cF c hx hc | wp_step))
theorem FH(c:lA K C):PySem.W.KitX K (.ref a) (.ref C) (ExcAt a C) where
 ty:=fun M h _ k=>by obtain ⟨oe,e1,e2,_⟩:=k;exact e2▸(PySem.W.Looks.ld e1).andThen .now
 it:=fun M h cF _=>by
  obtain ⟨cd,hc,_⟩:=PySem.W.any_some c.ci;unfold PySem.W.clsIn at hc
  split at hc
  ·rename_i look
   intro A' Q' E' s' k q;unfold isType loadHead;exact ao (wpAny_loadPart (k _ _ (cF _ _ look)) (aH q))
  ·cases hc
 ne:=fun h tp dd ak n sl cF FI=>by
  obtain ⟨cd,hc,_⟩:=PySem.W.any_some c.ci;refine Bool.eq_false_iff.mpr fun q=>?_;have e:C=tp:=Value.ref.inj (beq_iff_eq.mp q);subst e;unfold PySem.W.clsIn at hc
  split at hc
  ·rename_i look
   have z:=(cF _ _ look).symm.trans FI;cases z
  ·cases hc
 ca:=fun{prog w A E Q s} cF k z=>by obtain ⟨oe,e1,e2,_⟩:=k;obtain ⟨h,g,d,t,os⟩:=s;exact FG cF c e1 e2 z
end
def sR(a:Addr)(h:Heap):Prop:=∃o ep,h.get? a=some o∧o.ExactDict∧o.data=.dict #[] ep∧(a == sysModules)=false
theorem sR.lB{a:Addr}{h:Heap}(e:sR a h):PySem.W.KitAt a "dict" h:=by obtain ⟨o,_,e,c,_⟩:=e;exact ⟨o,e,c.1⟩
def j9(a:Addr):HO:=.ext (sR a)
def FJ:TE:=fun _ H Q=>∀p,H p=none→Q (.ref p) (upd H p (j9 p))
variable {X:Cx}
theorem FK{pos:Pos}:PE X (.Dict [] [] pos) FJ:=fun pins s σ H Q I h=>
 wpAny_Dict_empty ⟨.ref s.heap.objs.size,_,I.laid (a:=s.heap.objs.size) (o:=j9 s.heap.objs.size) (t':=s.toks) (fun _ _ q=>a8 _ q) (aC _)
  ⟨⟨_,_,bZ _ rfl,⟨rfl,rfl,rfl⟩,rfl,beq_eq_false_iff_ne.mpr (fG (bV (Nat.lt_trans (show sysModules<mainGlobals by decide) (I.mod.glob.keeps I.bk).lt)))⟩,⟨_,bZ _ rfl⟩,fun h1 h2 ⟨o,ep,e,c⟩ k=>⟨o,ep,k o e,c⟩⟩,rfl,h _ (I.aA.fresh (aC _))⟩
inductive qb (K:aG) (H:Hp):V→Value→Prop where
 | of {x:V} {t:Value} (h:fN K H x t):qb K H x t
 | exc {a C:Addr} (e:H a=some (Fz a C)) (c:lA K C):qb K H (.ref a) (.ref C)
 | fj {a:Addr} (e:H a=some (j9 a)):qb K H (.ref a) (.type "dict")
def zW:V→Value
 | .ty n=>.type n
 | .ref a=>.ref a
 | _=>.none
def FL:V→Bool
 | .ty _=>true
 | .ref _=>true
 | _=>false
def FN(K:aG):List V→Hp→VK→Prop:=fun xs H Q=>∃x c t b,xs=[x,c]∧FL c=true∧qb K H x t∧PySem.W.kitOne K t (zW c)=some b∧Q (.bl b) H
theorem lC{K:aG}(hK:X.K=K:=by rfl):en X (.builtin "isinstance") (FN K):=by
 intro pins s σ H xs us Q I r h;subst hK;obtain ⟨x,c,t,b,rfl,hc,ty,e,q⟩:=h;obtain ⟨u,cv,rfl,rx,rc⟩:=vals2 r;have ec:cv=zW c:=by
  cases c with
  | ty n=>exact rc
  | ref a=>exact rc
  | _=>cases hc
 subst ec;cases ty with
 | of ty=>exact Ec I rx ty e fun tk=>⟨.bl b,H,I.tok tk,rfl,q⟩
 | @fj a ea=>cases rx;obtain ⟨k,_,_⟩:=(show bH X.prog X.w H s.heap a (.ext (sR a)) from I.aA a _ ea);exact fH PySem.W.kitx_dict I.dn k.lB e (fun z=>nomatch z) fun tk=>⟨.bl b,H,I.tok tk,rfl,q⟩
 | @exc a C ea cc=>cases rx;obtain ⟨k,_,_⟩:=(show bH X.prog X.w H s.heap a (.ext (ExcAt a C)) from I.aA a _ ea);exact fH (FH cc) I.dn k e (fun z=>nomatch z) fun tk=>⟨.bl b,H,I.tok tk,rfl,q⟩
theorem boot_isinstance:bootBuiltins "isinstance"=some (.builtin "isinstance"):=by decide +kernel
theorem boot_min:bootBuiltins "min"=some (.builtin "min"):=by decide +kernel
theorem boot_max:bootBuiltins "max"=some (.builtin "max"):=by decide +kernel
theorem boot_int:bootBuiltins "int"=some (.type "int"):=by decide +kernel
theorem boot_bool:bootBuiltins "bool"=some (.type "bool"):=by decide +kernel
theorem boot_tuple:bootBuiltins "tuple"=some (.type "tuple"):=by decide +kernel
theorem boot_list:bootBuiltins "list"=some (.type "list"):=by decide +kernel
end L2
namespace My
open PySem L2
end My
namespace L2
open PySem PySem.Spec PyProof.Rows
abbrev Cx.a_ (X:Cx) (N:List Str) (scope:Scope) (cl:List (Str×Addr)) (s₃:Shared) (H₃:Hp) (fp:List Addr):Cx:=
 {X with N:=N,s₀:=s₃,H₀:=H₃,env:=compEnvC scope cl s₃.heap.objs.size X.env,outer:=X.stack,stack:=X.stack,ex:=fp,fn:=fun _=>false,pn:=[],xe:=fun _ _=>False}
inductive j_ (X:Cx):List Expr→TT→Prop where
 | nil:j_ X [] (fun _ H Q=>Q true H)
 | one {c:Expr} {t:TT} (h:PT X c t):j_ X [c] t
def gY(wi:TI)(ρ:St→St)(tt:TT)(te:TE):TE:=fun σ H Q=>wi σ H fun J H1=>∀D,H1 D=none→∃W:Nat→Nat→List V→Hp→Prop,(∃m,W 0 m [] (upd H1 D (.lst []))) ∧
 ∀i m ys Hc,W i m ys Hc→Hc D=some (.lst ys)∧((J.stop i Hc∧Q (.ref D) Hc)∨(J.go i Hc∧∀x H',J.c5 i Hc x H'→tt (some x::ρ σ) H' fun b H2=>
  if b=true then te (some x::ρ σ) H2 fun y H3=>H3 D=some (.lst ys)∧ys.length<sizeLine∧∃m',m'<m∧W (i+1) m' (ys++[y]) (upd H3 D (.lst (ys++[y]))) else ∃m',m'<m∧W (i+1) m' ys H2))
section
variable {X:Cx} {N:List Str} {scope:Scope} {cl:List (Str×Addr)} {x:Str} {px pos:Pos} {iter elt:Expr} {ifs:List Expr} {wi:TI} {ρ:St→St} {tt:TT} {te:TE}
structure we (X:Cx) (N:List Str) (scope:Scope) (cl:List (Str×Addr)) (x:Str) (ρ:St→St):Prop where
 sS:closureFor scope X.env=pure cl
 kind:scope.kind=.function
 sU:∀y∈scope.names,y.2≠.cell
 names:∀y∈scope.names,y.2=.local→scope.names.lookup y.1=some .local
 sub:∀p∈cl,X.env.cells.lookup p.1=some p.2
 has:∀y,((relabel scope X.env).names.lookup y=some .cell∨(relabel scope X.env).names.lookup y=some .free)→∃c,cl.lookup y=some c
 n0:N[0]?=some x
 nd:N.Nodup
 hx:scope.names.lookup x=some .local
 sV:∀(σ:St) (j:Nat) (v:V),(ρ σ)[j]?=some (some v)→∃(i:Nat) (y:Str),N[j+1]?=some y∧X.N[i]?=some y∧σ[i]?=some (some v)∧jQ X.env.scope y∧(X.env.kindOf y=some .cell∨X.env.kindOf y=some .free)∧((relabel scope X.env).names.lookup y=some .cell∨(relabel scope X.env).names.lookup y=some .free)
 len:∀σ:St,σ.length=X.N.length→(ρ σ).length+1=N.length
theorem zX{names:List (Str×NameKind)}(h:(names.all fun q=>(q.2 != .cell && q.2 != .free) || (cl.lookup q.1).isSome)=true) :
  ∀y,(names.lookup y=some .cell∨names.lookup y=some .free)→∃c,cl.lookup y=some c:=fun y hy=>by
 have key:∀k:NameKind,(k != .cell && k != .free)=false→names.lookup y=some k→∃c,cl.lookup y=some c:=fun k hk e=>by have z:=rj.mp h (y,k) (iW e);rw [hk,Bool.false_or] at z;exact Option.isSome_iff_exists.mp z
 rcases hy with e | e;·exact key .cell rfl e
 ·exact key .free rfl e
theorem join_some{o:Option (Option V)}{v:V}(h:some o.join=some (some v)):o=some (some v):=by
 cases o with
 | none=>cases h
 | some o=>cases h;rfl
def sW(X:Cx)(sc:Scope):List Str→List Nat→Prop
 | n::ns,i::is=>(X.N[i]?=some n∧jQ X.env.scope n∧(X.env.kindOf n=some .cell∨X.env.kindOf n=some .free)∧((relabel sc X.env).names.lookup n=some .cell∨(relabel sc X.env).names.lookup n=some .free))∧sW X sc ns is
 | _,[]=>True
 | [],_::_=>False
theorem wg{X:Cx}{sc:Scope}:∀{ns:List Str} {is:List Nat},sW X sc ns is→∀(σ:St) (j:Nat) (v:V),(is.map fun i=>σ[i]?.join)[j]?=some (some v)→∃(i:Nat) (n:Str),ns[j]?=some n∧X.N[i]?=some n∧σ[i]?=some (some v)∧jQ X.env.scope n∧(X.env.kindOf n=some .cell∨X.env.kindOf n=some .free)∧((relabel sc X.env).names.lookup n=some .cell∨(relabel sc X.env).names.lookup n=some .free)
 | _,[],_,_,_,_,e=>by cases e
 | [],_::_,h,_,_,_,_=>h.elim
 | n::_,i::_,h,_,0,_,e=>⟨i,n,rfl,h.1.1,join_some e,h.1.2⟩
 | _::_,_::_,h,σ,j+1,v,e=>wg h.2 σ j v e
theorem nu(is:List Nat)(h1:closureFor scope X.env=pure cl)(h:sW X scope N.tail is:=by repeat' first | exact True.intro | refine And.intro ⟨rfl,Or.inr (Or.inl rfl),.inl rfl,.inl rfl⟩ ?_)(h2:scope.kind=.function:=by rfl)(h3:∀y∈scope.names,y.2≠.cell:=by decide +kernel)(h4:∀y∈scope.names,y.2=.local→scope.names.lookup y.1=some .local:=by decide +kernel)(h5:∀p∈cl,X.env.cells.lookup p.1=some p.2:=by repeat' first | exact List.forall_mem_nil _ | refine List.forall_mem_cons.mpr ⟨rfl,?_⟩)(h6:((relabel scope X.env).names.all fun q=>(q.2 != .cell && q.2 != .free) || (cl.lookup q.1).isSome)=true:=by rfl)(h7:N[0]?=some x:=by rfl)(h8:N.Nodup:=by decide +kernel)(h9:scope.names.lookup x=some .local:=by rfl)(hr:∀σ:St,ρ σ=is.map fun i=>σ[i]?.join:=by exact fun _=>rfl)(hl:is.length+1=N.length:=by rfl):we X N scope cl x ρ:=
 ⟨h1,h2,h3,h4,h5,zX h6,h7,h8,h9,fun σ j v e=>by rw [hr] at e;rw [←List.getElem?_tail];exact wg h σ j v e,fun σ _=>by rw [hr,ba];exact hl⟩
theorem qc(B:we X N scope cl x ρ)(hc:X.calm=true)(hi:PI X (.Name x px) iter wi)(ht:∀s₃ H₃ fp,j_ (X.a_ N scope cl s₃ H₃ fp) ifs tt)(he:∀s₃ H₃ fp,PE (X.a_ N scope cl s₃ H₃ fp) elt te)
  (hs:∀x,foldedSetIterable iter X.env x=pure x:=by intro _;rfl):PE X (.ListComp elt [⟨.Name x px,iter,ifs,0⟩] scope pos) (gY wi ρ tt te):=by
 intro pins s σ H Q I h
 rw [eval_ListComp]
 refine vh (use:=none) rfl hs B.sS B.kind B.names (aJ (hi pins s σ H _ I h) fun v s1 h1=>aJ h1 fun pO s2 h2=>?_)
 obtain ⟨it,fp,tn,J,H2,rfl,I2,T,fM,f2,q2⟩:=h2
 have nD:H2 s2.heap.objs.size=none:=I2.aA.fresh (aC _)
 obtain ⟨W,⟨m0,w0⟩,turn⟩:=q2 _ nD
 refine fI (wpAny_newFunctionEnv B.sU (by intro y hy;simp at hy) (fun h₁ fk fm=>?_) B.kind)
 dsimp only at fk fm ⊢
 generalize hD:s2.heap.objs.size=D at nD w0 turn fk fm ⊢
 generalize gZ:({s2 with heap:=s2.heap.push {cls:=.type "list",dict:=none,data:=.seq ([]:List Value).toArray}}:Shared)=s3
 have I3:Inv X pins σ (upd H2 D (.lst [])) s3:=by
  subst hD gZ
  exact I2.laid (t':=s2.toks) (fun b u e=>a8 _ e) (aC _) ⟨bG _,[],_,.nil,bZ _ rfl⟩
 have e3:s3.heap=s2.heap.push {cls:=.type "list",dict:=none,data:=.seq ([]:List Value).toArray}:=by rw [←gZ]
 have fq:∀b o,s2.heap.get? b=some o→s3.heap.get? b=some o:=fun b o e=>by rw [e3];exact a8 _ e
 rw [←e3] at fk fm ⊢
 have below:∀b o,s3.heap.get? b=some o→b≠s3.heap.objs.size:=fun b o e=>bV (a0 e)
 have c_:∀b o,s3.heap.get? b=some o→h₁.get? b=some o:=fun b o e=>fm.extBut b o (below b o e) (a8 _ e)
 have g6:∀b∈fp,∃o,s2.heap.get? b=some o∧∀v,o.data≠.cell v:=T.obj _ _ fM
 have qd:∀b∈fp,b≠D:=fun b hb z=>by
  obtain ⟨o,e,_⟩:=g6 b hb
  rw [z,←hD] at e
  exact absurd (a0 e) (d7 _)
 have cH:∀y c,cl.lookup y=some c→X.env.cells.lookup y=some c:=fun y c e=>B.sub (y,c) (iW e)
 have qe:=I3.rT
 have ka:(X.a_ N scope cl s3 (upd H2 D (.lst [])) fp).Ok:=by
  refine ⟨I.ok.mod,B.kind,I.ok.glob,I.ok.blt,aC _,fun a b c e1 e2=>I.ok.inj a b c (cH a c e1) (cH b c e2),fun y hy=>B.has y hy,(fun _ _ z _=>absurd z bW),(fun _=>I.ok.hd hc),I.ok.frames,.inl rfl,fun b hb=>⟨?_,fun y c e z=>?_⟩,fun b o e=>?_,cf I.ok.gr I3.sz,fun b o e hb=>?_,fun b hb z=>?_,I3.stack,qe⟩
  ·obtain ⟨o,e,_⟩:=g6 b hb
   exact below b o (fq b o e)
  ·exact (f2 b hb).2.2.2.2.1 y c (cH y c e) z
  ·exact I3.bs b o e
  ·rcases (f2 b hb).2.2.2.1 with z | z
   ·exact I.ok.kM b o e z
   ·exact absurd (di (a0 e) (cf I.ok.gr z)) (d7 _)
  ·rcases cE.mp (I3.pJ b z) with z | z
   ·exact (f2 b hb).2.1 z
   ·exact (f2 b hb).2.2.1 z
 have IB:∀tk:Nat,Inv (X.a_ N scope cl s3 (upd H2 D (.lst [])) fp) [] (none::ρ σ) (upd H2 D (.lst [])) {s3 with heap:=h₁,toks:=tk}:=fun tk=>by
  refine ⟨ka,rfl,I3.bare,Un.kept c_,⟨_,fk,fun j y v e1 e2 e3=>?_⟩,fun y c e=>?_,?_,fun y c e=>I3.gs y c (cH y c e),(fun p hp=>nomatch hp),I3.aA.kept c_,?_⟩
  ·cases j with
   | zero=>cases e2
   | succ j=>
    obtain ⟨i,y',a1,a2,a3,a4,a5,a6⟩:=B.sV σ j v e2
    have eL:N[j+1]?=some y:=e1
    rw [eL] at a1
    cases a1
    obtain ⟨m,hn,hl⟩:=I3.loc
    obtain ⟨u,r,l⟩:=hl i y v a2 a3 a4
    refine ⟨u,r,.inr ⟨a6,?_⟩⟩
    obtain ⟨c,ec⟩:=B.has y a6
    rcases l with ⟨k,_⟩ | ⟨_,c',kb,z⟩
    ·rcases a5 with q | q <;> (rw [k] at q;cases q)
    ·have:=cH y c ec
     rw [this] at kb
     cases kb
     obtain ⟨o,ho,hd⟩:=z
     exact ⟨c,ec,o,c_ _ _ ho,hd⟩
  ·obtain ⟨v,o,ho,hd⟩:=I3.cell y c (cH y c e)
   exact ⟨v,o,c_ _ _ ho,hd⟩
  ·exact I3.aA.fresh (aC _)
  ·show (none::ρ σ).length=N.length
   rw [dm]
   exact B.len σ I.len
 have fin:∀{σ':St} {H':Hp} {s':Shared},Inv (X.a_ N scope cl s3 (upd H2 D (.lst [])) fp) [] σ' H' s'→Q (.ref D) H'→compPost (model X.prog X.w) X.A X.xe none (EP X pins σ Q) (.ref D) s3.heap.objs.size (.ok .next) s':=fun{σ' H' s'} J q=>by
  obtain ⟨m,hn,_⟩:=J.loc
  refine ⟨m,hn,fun h' ft=>⟨.ref D,H',?_,rfl,q⟩⟩
  have old:∀b o,s3.heap.get? b=some o→b≠s3.heap.objs.size:=below
  have u1:Un (dS X.stack) fp (upd H2 D (.lst [])) H' s3.heap h':=by
   refine ⟨fun b o e n hb hx=>?_,fun b o e n hb hx=>?_,J.base.free,fun b o e hx=>?_,J.base.gT,J.base.gq,J.base.gU⟩
   ·exact (ft.2 b (old b o e)).trans (J.base.keep b o e n hb hx)
   ·obtain ⟨sl,z⟩:=J.base.slot b o e n hb hx
    exact ⟨sl,(ft.2 b (old b o e)).trans z⟩
   ·obtain ⟨o',z⟩:=J.base.there b o e hx
    exact ⟨o',(ft.2 b (old b o e)).trans z⟩
  have qf:bD X.prog X.w H' h':=fun b u e=>by
   refine (J.aA b u e).ir (fun c v hc z=>(ft.2 c fun y=>?_).trans z) (fun _ z=>z) fun _ _ z=>z
   have fr:=J.free
   have y':c=s3.heap.objs.size:=y
   rcases hc with hc | hc
   ·rw [←hc,y'] at e
    exact absurd (fr.symm.trans e) (by simp)
   ·rw [y'] at hc
    exact absurd (fr.symm.trans hc) (by simp)
  refine I3.m5 (s':={s' with heap:=h'}) (ch:=fp) (J.os) u1 qf J.bare fun b hb=>?_
  obtain ⟨g0,g1,g2,g3,g4,g5⟩:=f2 b hb
  exact ⟨g3,g1,g4,g5⟩
 have eJ:∀{H':Hp},(∀b∈fp,H' b=none)→∀b∈fp,i9 (X.a_ N scope cl s3 (upd H2 D (.lst [])) fp) [] H' b:=fun hn b hb=>by
  refine ⟨hn b hb,?_,?_,.inl hb,fun y c e z=>(f2 b hb).2.2.2.2.1 y c (cH y c e) z,fun p hp=>nomatch hp⟩
  ·obtain ⟨o,e,_⟩:=g6 b hb
   exact below b o (fq b o e)
  ·exact ka.kN b hb
 have loop:∀tk:Nat,codeAny (model X.prog X.w) X.A (.compLoop (.ListComp elt [⟨.Name x px,iter,ifs,0⟩] scope pos) 0 (.ref it) (.ref D) (compEnvC scope cl s3.heap.objs.size X.env))
   (compPost (model X.prog X.w) X.A X.xe none (EP X pins σ Q) (.ref D) s3.heap.objs.size) {s3 with heap:=h₁,toks:=tk}:=fun tk=>by
  refine codeAny_compLoop_tests (fun n s'=>∃i ys o H',Inv (X.a_ N scope cl s3 (upd H2 D (.lst [])) fp) [] (o::ρ σ) H' s'∧tn i s'.heap∧(∀b∈fp,H' b=none)∧W i n ys H') ?_ m0
   ⟨0,[],none,_,IB tk,T.keep _ _ _ fM fun b hb o e=>c_ _ _ (fq _ _ e),fun b hb=>by rw [bf (qd b hb)];exact (f2 b hb).1,w0⟩
  rintro n s4 ⟨i,ys,o,H4,I4,kd,ke,w4⟩
  obtain ⟨zY,qg⟩:=turn i n ys H4 w4
  rcases qg with ⟨stop,qn⟩ | ⟨go,step⟩
  ·refine bC (T.done (X.a_ N scope cl s3 (upd H2 D (.lst [])) fp) rfl rfl rfl hc i [] s4 _ H4 (fun _ _=>False) I4 (eJ ke) kd stop) (fun r s5 ⟨hr,I5⟩=>?_) fun _ _ z=>z.elim
   subst hr
   exact fin I5 qn
  ·refine bC (T.item (X.a_ N scope cl s3 (upd H2 D (.lst [])) fp) rfl rfl rfl hc i [] s4 _ H4 (fun _ _=>False) I4 (eJ ke) kd go) (fun r s5 ⟨u,hr,h5⟩=>?_) fun _ _ z=>z.elim
   subst hr
   have z:letOwnedTupleGo (.Name x px) (.ref it) u=pure ():=rfl
   rw [z] at h5
   show wpAny _ _ ((pure ():Sem Unit) >>= fun _=>assign (.Name x px) (compEnvC scope cl s3.heap.objs.size X.env) u) _ _ s5
   refine ao (bC h5 (fun _ s5 ⟨y,H5,I5,r5,y5,eK,kX⟩=>?_) fun _ _ z=>z.elim)
   have kY:=I5.pinned (eJ kX) (T.obj _ _ eK)
   have pg:PG (X.a_ N scope cl s3 (upd H2 D (.lst [])) fp) (.Name x px) (a7 0):=cq (i:=0) B.nd B.n0 (.inl (jI B.hx)) (.inr (jI B.hx))
   have again:∀{σ7:St} {H7:Hp} {s7:Shared},Inv (X.a_ N scope cl s3 (upd H2 D (.lst [])) fp) ([]++iy fp s5.heap) σ7 H7 s7→Inv (X.a_ N scope cl s3 (upd H2 D (.lst [])) fp) [] σ7 H7 s7∧tn (i+1) s7.heap∧∀b∈fp,H7 b=none:=fun{σ7 H7 s7} I7=>by
    refine ⟨I7.ng,T.keep _ _ _ eK fun b hb o e=>(I7.pin (b,o) (dv _ (dv _ (jT hb e)))).1,fun b hb=>?_⟩
    obtain ⟨o,e,d⟩:=T.obj _ _ eK b hb
    exact (I7.pin (b,o) (dv _ (dv _ (jT hb e)))).2.1
   refine bC (pg _ s5 _ H5 y u (fun σ2 H6=>σ2=some y::ρ σ∧H6=H5) kY r5 ⟨rfl,rfl⟩) (fun _ s6 ⟨σ6,H6,I6,q6⟩=>?_) fun _ _ z=>z.elim
   obtain ⟨rfl,rfl⟩:=q6
   have qh:=step y _ y5
   have tests:∀{g8:TT},j_ (X.a_ N scope cl s3 (upd H2 D (.lst [])) fp) ifs g8→∀{R:Bool→Hp→Prop},g8 (some y::ρ σ) H6 R→wpAny (model X.prog X.w) X.A
     (forIn ifs true fun c r=>if r=true then do let ok ←isTrue c (compEnvC scope cl s3.heap.objs.size X.env) (eval c (compEnvC scope cl s3.heap.objs.size X.env));pure (ForInStep.yield ok) else pure (ForInStep.yield r))
     (fun ok s7=>∃H7,Inv (X.a_ N scope cl s3 (upd H2 D (.lst [])) fp) ([]++iy fp s5.heap) (some y::ρ σ) H7 s7∧R ok H7) (fun _ _=>False) s6:=fun{g8} p {R} hR=>by
    cases p with
    | nil=>exact wpAny_tests_nil ⟨_,I6,hR⟩
    | one p=>exact wpAny_tests_one (p _ s6 _ _ _ I6 hR)
   refine bC (tests (ht s3 _ fp) qh) (fun ok s7 ⟨H7,I7,q7⟩=>?_) fun _ _ z=>z.elim
   cases ok with
   | false=>
    obtain ⟨m',g9,w7⟩:=q7
    obtain ⟨a1,a2,a3⟩:=again I7
    exact ⟨m',g9,i+1,ys,_,H7,a1,a2,a3,w7⟩
   | true=>
    refine bC (he s3 _ fp _ s7 _ H7 _ I7 q7) (fun ev s8 ⟨z,H8,I8,r8,qi,hz,m',g9,w8⟩=>?_) fun _ _ z=>z.elim
    refine bC (fi (X:=X.a_ N scope cl s3 (upd H2 D (.lst [])) fp) _ s8 _ H8 (.ref D) [z] (.ref D) [ev] (fun _ H9=>H9=upd H8 D (.lst (ys++[z]))) I8 rfl (.cons r8 .nil) ⟨D,ys,z,rfl,rfl,qi,hz,rfl⟩) (fun _ s9 ⟨_,H9,I9,_,q9⟩=>?_) fun _ _ z=>z.elim
    subst q9
    obtain ⟨a1,a2,a3⟩:=again I9
    exact ⟨m',g9,i+1,ys++[z],_,_,a1,a2,a3,w8⟩
 have start:=loop (s3.toks+([]:List (Str×Value)).length)
 have es:({s3 with heap:=h₁,toks:=s3.toks+([]:List (Str×Value)).length}:Shared)={s2 with heap:=h₁,toks:=s2.toks+([]:List (Str×Value)).length}:=by rw [←gZ]
 rw [es] at start
 exact vi start (T.self _ 0 _ _ _ (T.keep _ _ _ fM fun b hb o e=>c_ _ _ (fq _ _ e)) start)
end
def dC(i:Int):Prop:=i.natAbs<2 ^ 2048
theorem dC.log{i:Int}(h:dC i):i.natAbs.log2<2048:=by
 by_cases z:i.natAbs=0;·rw [z];decide
 ·exact (Nat.log2_lt z).mpr h
theorem zZ:∀{xs:List V} {us:List Value},xs.length=us.length→(∀(i:Nat) (x:V) (u:Value),xs[i]?=some x→us[i]?=some u→RelV x u)→Vals xs us
 | [],[],_,_=>.nil
 | [],_::_,h,_=>by simp at h
 | _::_,[],h,_=>by simp at h
 | x::xs,u::us,h,k=>.cons (k 0 x u rfl rfl) (zZ (by simpa using h) fun i a b h1 h2=>k (i+1) a b (by simpa using h1) (by simpa using h2))
section
variable {X:Cx}
def FO(i j:Int):Prop:=0<j∧dC j
theorem FP:bI X (binaryOp .FloorDiv) (rI FO fun i j=>.int (i / j)):=sj fun i j _ _ _ _ _ hc q=>floordiv_int (Int.ne_of_gt hc.1) (by rw [Int.fdiv_eq_ediv_of_nonneg i (bS hc.1)];exact q) (.inl (PyProof.noPylong_of_log2 (di hc.2.log (by decide))))
def allR(K:aG):List V→Hp→VK→Prop:=fun xs H Q=>∃(p:Addr) (bs:List Bool),xs=[.ref p]∧bq K H p (bs.map V.bl)∧Q (.bl (bs.all id)) H
theorem wj{K:aG}(hc:X.calm=true)(hK:X.K=K:=by rfl):en X (.builtin "all") (allR K):=by
 intro pins s σ H xs us Q I r h;subst hK;obtain ⟨p,bs,rfl,hq,q⟩:=h;obtain ⟨u,rfl,ru⟩:=vals1 r;cases ru;obtain ⟨ak,rv,pl,hz⟩:=I.list hq;have wk:p≠s.heap.objs.size:=by obtain ⟨o,e,_⟩:=pl.isList;exact bV (a0 e)
 have hl:ak.length=bs.length:=by rw [←rv.length,ba]
 refine call_all_walk (wpAny_pyIter_list pl.isList ?_);refine ⟨s.heap.objs.size,_,_,_,_,_,fun i=>bs.getD i true,rfl,Walks.list (A:=X.A.in1) (show X.A.in1.handled=none from I.ok.hd hc) s.heap.objs.size p wk ak.toArray,⟨⟨_,bZ _ rfl,rfl,rfl⟩,pl.isList.push _⟩,fun i v s' Q' E' hv FQ=>?_,fun h' tk hk=>?_⟩
 ·have sX:ak[i]?=some v:=by simpa using hv
  cases eb:bs[i]? with
  | none=>
   have:=rv.none_of (i:=i) (by rw [dj,eb];rfl)
   rw [this] at sX;cases sX
  | some b=>
   obtain ⟨u,hu,ru⟩:=rv.get (i:=i) (x:=V.bl b) (by rw [dj,eb];rfl)
   rw [hu] at sX;cases sX;cases ru;have e:bs.getD i true=b:=by rw [jJ,eb];rfl
   have jh:Q' (bs.getD i true) s':=FQ;rw [e] at jh;exact jF jh
 ·refine ⟨.bl (bs.all id),H,I.kept fun b o e=>hk b o (fun z=>?_) (a8 _ e),?_,q⟩
  ·exact absurd (a0 e) (by rw [e9.mp z];exact d7 _)
  ·show Value.bool _=Value.bool _
   congr 1
   rw [bK,hl];clear hk q rv pl hz hl hq
   induction bs with
   | nil=>rfl
   | cons b bs ih=>rw [dm,List.range_succ_eq_map,List.all_cons,List.all_map,List.all_cons];show (b && (List.range bs.length).all fun i=>bs.getD i true)=(b && bs.all id);rw [ih]
def FR:List V→Hp→VK→Prop:=fun xs H Q=>∃j:Int,xs=[.int j]∧∀p,H p=none→Q (.ref p) (upd H p (.iq 0 j))
theorem FT:en X (.type "range") FR:=by intro pins s σ H xs us Q I r h;obtain ⟨j,rfl,q⟩:=h;obtain ⟨u,rfl,ru⟩:=vals1 r;obtain ⟨t,rfl⟩:=ru;refine call_range_1 ⟨.ref s.heap.objs.size,_,I.laid (o:=.iq 0 j) (fun b o e=>a8 _ e) (aC _) ⟨_,_,_,bZ _ rfl⟩,rfl,q _ (I.aA.fresh (aC _))⟩
def eB(n:Nat):List V:=(List.range n).map fun i:Nat=>V.int (i:Int)
def FU:List V→Hp→VK→Prop:=fun xs H Q=>∃p n,xs=[.ref p]∧H p=some (.iq 0 (n:Nat))∧n≤10000∧∀l,H l=none→Q (.ref l) (upd H l (.lst (eB n)))
theorem FV(hc:X.calm=true):en X (.type "list") FU:=by
 intro pins s σ H xs us Q I r h;obtain ⟨p,n,rfl,hp,hn,q⟩:=h;obtain ⟨u,rfl,ru⟩:=vals1 r;cases ru;obtain ⟨t,u,v,e⟩:=(show bH X.prog X.w H s.heap p (.iq 0 n) from I.aA p _ hp);refine call_list_range (n:=n) (I.ok.hd hc) e (small_one (by omega) (by omega) (by omega) (by omega)) (by rw [rangeSize_one];split <;> omega) (by omega) fun h' tk acc c hk hD hit=>?_
 refine ⟨.ref s.heap.objs.size,_,I.laid (o:=.lst (eB n)) (fun b o e=>hk b o e) (aC _) ⟨?_,acc.toList,c,?_,?_⟩,rfl,q _ (I.aA.fresh (aC _))⟩
 ·unfold eB
  rw [ba,rm];exact cf hn (by decide)
 ·refine zZ ?_ fun i x u h1 h2=>?_
  ·unfold eB
   rw [ba,rm,e8,hit.1]
  ·have z6:acc[i]?=some u:=by simpa using h2
   obtain ⟨FW,e'⟩:=hit.2 i u z6;unfold eB at h1;rw [dj] at h1;have hi:i<n:=by have z:=(vj.mp z6).1;rw [hit.1] at z;exact z
   rw [List.getElem?_range hi] at h1;cases h1;exact ⟨FW,by rw [e'];simp⟩
 ·rw [hD]
end
theorem boot_all:bootBuiltins "all"=some (.builtin "all"):=by decide +kernel
theorem FX:bootBuiltins "range"=some (.type "range"):=by decide +kernel
def wm:Expr→Bool
 | .Starred _ _=>false
 | _=>true
variable {e:Expr} {es:List Expr}
theorem FY{env:Env}(h:wm e=true):starEach (e::es) env=(false,eval e env)::starEach es env:=by cases e <;> first | rfl | cases h
theorem aa{X:Cx}{e:Expr}{es:List Expr}{te:TE}{t:TA}(hs:wm e=true)(ha:PE X e te)(hr:PA X es t):PA X (e::es) (sF te t):=
 Ee ha hr (FY hs)
variable {X:Cx} {te:TE}
theorem OH{t:TA}(ha:PE X e te)(hr:PA X es t)(hs:wm e=true:=by rfl):PA X (e::es) (sF te t):=aa hs ha hr
theorem iF{X:Cx}{pos:Pos}{i:Nat}{x:Str}{e:Expr}{te:TE}{pos':Pos}(hs:swapsWith e (some (.Name x pos')) pos.line X.env=pure false)(hf:X.fn x=true∨X.env.scope.names.lookup x=some .local)(hN:X.N.Nodup)(hi:X.N[i]?=some x)(hx:Loc X.env.scope x)(he:PE X e te) :
  PS X (.Assign [.Name x pos'] e pos) (kU te (a7 i)):=DF hN hi hx he hs hf
variable {pos pos':Pos} {x:Str}
theorem putL(i:Nat)(hN:X.N.Nodup)(he:PE X e te)(hs:swapsWith e (some (.Name x pos')) pos.line X.env=pure false:=by rfl)(hi:X.N[i]?=some x:=by rfl)(hx:X.env.scope.names.lookup x=some .local:=by rfl) :
  PS X (.Assign [.Name x pos'] e pos) (kU te (a7 i)):=iF hs (.inr hx) hN hi (.inl hx) he
theorem FZ(i:Nat)(hN:X.N.Nodup)(he:PE X e te)(hs:swapsWith e (some (.Name x pos')) pos.line X.env=pure false:=by rfl)(hf:X.fn x=true∨X.env.scope.names.lookup x=some .local:=by first | exact .inl rfl | exact .inr rfl | assumption)(hi:X.N[i]?=some x:=by rfl)(hx:X.env.scope.names.lookup x=some .cell:=by rfl) :
  PS X (.Assign [.Name x pos'] e pos) (kU te (a7 i)):=iF hs hf hN hi (.inr hx) he
end L2
namespace My
open PySem L2
theorem nz(a b:Int):decide (V.int a=V.int b)=decide (a=b):=by
 by_cases h:a=b;·subst h;simp
 ·rw [bp h];exact bp fun e=>h (V.int.inj e)
variable {K:aG}
theorem ji{T:String}:PySem.W.kitOne K (.type T) (.type T)=some true:=by unfold PySem.W.kitOne;rw [aj (beq_self_eq_true _)]
variable {H:Hp}
theorem aD{p:Addr}{o:HO}(h:H p=none):ai H (upd H p o):=fun b u e=>by rw [bf (gp e h)];exact e
variable {i:Int}
theorem z8{α:Type}{xs:List α}(h0:0≤i)(h1:i<xs.length):∃v,fh xs i=some v∧v∈xs:=by
 obtain ⟨k,rfl⟩:∃k:Nat,i=(k:Int):=⟨i.toNat,by omega⟩
 have hk:k<xs.length:=by omega
 exact ⟨xs[k],nj (by simp [hk]),dw _⟩
inductive Any (H:Hp):V→Prop where
 | aI:Any H .aI
 | bl (b:Bool):Any H (.bl b)
 | int (i:Int):Any H (.int i)
 | str (x:Str):Any H (.str x)
 | lst {a:Addr} {xs:List V} (e:H a=some (.lst xs)):Any H (.ref a)
 | tup {a:Addr} {xs:List V} (e:H a=some (.tup xs)):Any H (.ref a)
 | fj {a:Addr} (e:H a=some (j9 a)):Any H (.ref a)
theorem Any.mono{H':Hp}{v:V}(h:Any H v)(s:ai H H'):Any H' v:=by
 cases h with
 | aI=>exact .aI
 | bl b=>exact .bl b
 | int i=>exact .int i
 | str x=>exact .str x
 | lst e=>exact .lst (s _ _ e)
 | tup e=>exact .tup (s _ _ e)
 | fj e=>exact .fj (s _ _ e)
def jj:V→Bool
 | .int _=>true
 | _=>false
def nB:V→Bool
 | .bl _=>true
 | _=>false
def kf(H:Hp):V→Bool
 | .ref a=>(match H a with | some (.tup _)=>true | _=>false)
 | _=>false
theorem Any.lB{v:V}(h:Any H v):∃T:String,qb K H v (.type T)∧PySem.W.kitOne K (.type T) (.type "int")=some (jj v || nB v)∧PySem.W.kitOne K (.type T) (.type "bool")=some (nB v) ∧
  PySem.W.kitOne K (.type T) (.type "tuple")=some (kf H v):=by
 cases h with
 | aI=>exact ⟨"NoneType",.of .aI,rfl,rfl,rfl⟩
 | bl b=>exact ⟨"bool",.of (.bl b),rfl,rfl,rfl⟩
 | int i=>exact ⟨"int",.of (.int i),rfl,rfl,rfl⟩
 | str x=>exact ⟨"str",.of (.str x),rfl,rfl,rfl⟩
 | lst e=>exact ⟨"list",.of (.lst e),rfl,rfl,by unfold kf;dsimp only;rw [e];rfl⟩
 | tup e=>exact ⟨"tuple",.of (.tup e),rfl,rfl,by unfold kf;dsimp only;rw [e];rfl⟩
 | fj e=>exact ⟨"dict",.fj e,rfl,rfl,by unfold kf;dsimp only;rw [e];rfl⟩
theorem F0{v:V}(h:nB v=true):jj v=false:=by cases v <;> first | rfl | cases h
theorem dC.of_lt(h1:-(10 ^ 70)<i)(h2:i<10 ^ 70):dC i:=by
 have h3:i.natAbs<2 ^ 240:=by omega
 exact di h3 (Nat.pow_le_pow_right (by decide) (by decide))
def F1:Sp:=fun vs H Q _=>∃v:V,vs=[v]∧Any H v∧Q (.bl (jj v)) H
def sY(K:aG):Sp:=fun vs H Q _=>∃(a:Addr) (ns:List Int),vs=[.ref a]∧bq K H a (ns.map V.int)∧ns.length≤63∧∀H',Q (.bl true) H'
theorem sZ(xs:List V)(k:Nat):cM xs none (some (k:Int))=xs.take k:=by unfold cM;rw [HT.zw,HT.zA,List.drop_zero,Nat.sub_zero];rw [List.take_eq_take_iff];omega
end My
namespace L2
open PySem PySem.Spec PyProof.Rows
end L2
namespace My
open PySem L2
end My
namespace L2
open PySem PySem.Spec PyProof.Rows
section
variable {P:Program} {w:World} {K:aG} {mg:bY} {base:Heap}
end
section
variable {X:Cx} {CX:fg} {k:Nat} {f C:Addr} {fd:FuncData} {ps:List Str} {y:Str} {sp:Sp} {E:XK} {m:Str} {pos apos zc:Pos} {e e' o:Expr} {ta:TE} {t tk:TA}
end
end L2
namespace My
open PySem L2
end My
namespace L2
open PySem PySem.Spec PyProof.Rows
section
variable {X:Cx}
theorem z9:bI X (compareOp .Is) (fun x y H Q=>∃a b,x=.bl a∧y=.bl b∧Q (.bl (a == b)) H):=by intro pins s σ H x y v u Q I rx ry h;obtain ⟨a,b,rfl,rfl,q⟩:=h;cases rx;cases ry;exact aH (bP I q (by cases a <;> cases b <;> rfl))
theorem wo:bI X (compareOp .IsNot) (fun x y H Q=>∃a b,x=.bl a∧y=.bl b∧Q (.bl (!(a == b))) H):=by intro pins s σ H x y v u Q I rx ry h;obtain ⟨a,b,rfl,rfl,q⟩:=h;cases rx;cases ry;exact aH (bP I q (by cases a <;> cases b <;> rfl))
end
end L2
namespace My
open PySem L2
section
variable {C N z:Addr} {q:Int} {v u:V} {t b t' b':Int} {H:Hp} {Q:VK} {E:XK}
end
end My
namespace L2
open PySem PySem.Spec PyProof.Rows
structure kg (J:It) (xs:List V) (H1:Hp):Prop where
 go:∀i Hc,ai H1 Hc→i<xs.length→J.go i Hc
 c5:∀i Hc x H',ai H1 Hc→J.c5 i Hc x H'→H'=Hc∧(i<xs.length→xs[i]?=some x)
 stop:∀i Hc,ai H1 Hc→xs.length≤i→J.stop i Hc
variable {K:aG} {xs:List V} {H1:Hp}
theorem z_{a:Addr}(h:bq K H1 a xs):kg (kW K a) xs H1 where
 go:=fun i Hc s hi=>⟨xs,xs[i],s.seq h,by simp [hi]⟩
 c5:=fun i Hc x H' s y=>⟨y.1,fun _=>y.2 xs (s.seq h)⟩
 stop:=fun i Hc s hi=>⟨xs,s.seq h,hi⟩
theorem F2{lo:Int}{n:Nat}:kg (jS lo n) ((List.range n).map fun i:Nat=>V.int (lo+(i:Int))) H1 where
 go:=fun i Hc s hi=>by
  have hi:i<n:=by simpa using hi
  exact hi
 c5:=fun i Hc x H' s y=>⟨y.1,fun hi=>by
  have hi:i<n:=by simpa using hi
  rw [y.2];simp [hi]⟩
 stop:=fun i Hc s hi=>by
  have hi:n≤i:=by simpa using hi
  exact hi
variable {H:Hp} {D:Addr}
theorem fu{H':Hp}{o:HO}(s:ai H H')(n:H D=none):ai H (upd H' D o):=fun b u e=>by rw [bf (gp e n)];exact s b u e
variable {te:TE} {Q:VK}
theorem Aa{J:It}{ρσ:St}(js:kg J xs H1)(nD:H1 D=none)(hn:xs.length<sizeLine)
  (P:Nat→V→Hp→Prop) (mono:∀i y H H' ys,P i y H→H D=some (.lst ys)→(∀b o,b≠D→H b=some o→H' b=some o)→P i y H')
  (step:∀i x,xs[i]?=some x→∀(Hc:Hp) (R:VK),ai H1 Hc→(∃ys,Hc D=some (.lst ys))→(∀y H3,ai Hc H3→P i y H3→R y H3)→te (some x::ρσ) Hc R)
  (fin:∀ys Hc,ai H1 Hc→ys.length=xs.length→(∀i y,ys[i]?=some y→P i y Hc)→Hc D=some (.lst ys)→Q (.ref D) Hc) :
  ∃W:Nat→Nat→List V→Hp→Prop,(∃m,W 0 m [] (upd H1 D (.lst []))) ∧
   ∀i m ys Hc,W i m ys Hc→Hc D=some (.lst ys)∧((J.stop i Hc∧Q (.ref D) Hc)∨(J.go i Hc∧∀x H',J.c5 i Hc x H'→
    if true=true then te (some x::ρσ) H' fun y H3=>H3 D=some (.lst ys)∧ys.length<sizeLine∧∃m',m'<m∧W (i+1) m' (ys++[y]) (upd H3 D (.lst (ys++[y]))) else ∃m',m'<m∧W (i+1) m' ys H')):=by
 refine ⟨fun i m ys Hc=>m=xs.length-i∧i≤xs.length∧Hc D=some (.lst ys)∧ai H1 Hc∧ys.length=i∧∀j y,ys[j]?=some y→P j y Hc,⟨_,rfl,bG _,ax,fu (ai.refl H1) nD,rfl,fun j y e=>by simp at e⟩,?_⟩
 rintro i m ys Hc ⟨rfl,hi,eD,sH,el,hP⟩;refine ⟨eD,?_⟩;by_cases bL:i<xs.length
 ·refine .inr ⟨js.go i Hc sH bL,fun x H' hy=>?_⟩
  obtain ⟨rfl,hx⟩:=js.c5 i Hc x H' sH hy;rw [aj rfl];refine step i x (hx bL) _ _ sH ⟨ys,eD⟩ fun y H3 s3 hp=>?_;have e3:=s3 _ _ eD;refine ⟨e3,by omega,xs.length-(i+1),by omega,rfl,bL,ax,fu (sH.trans s3) nD,by simp [el],fun j y' e=>?_⟩
  have ck:∀b o,b≠D→H3 b=some o→upd H3 D (.lst (ys++[y])) b=some o:=fun b o nb e=>by rw [bf nb];exact e
  by_cases hj:j<i
  ·have e':ys[j]?=some y':=by rw [eG (by omega)] at e;exact e
   refine mono j y' H' _ ys (hP j y' e') eD fun b o nb e=>?_;exact ck b o nb (s3 _ _ e)
  ·have hj:j=i:=by have:=(cg.mp e).1;simp at this;omega
   subst hj;have e':y'=y:=by rw [dO (by omega),el,mN] at e;simpa using e.symm
   subst e';exact mono _ _ H3 _ ys hp e3 ck
 ·have e:i=xs.length:=by omega
  subst e;exact .inl ⟨js.stop _ Hc sH (aC _),fin ys Hc sH el hP eD⟩
variable {wi:TI} {ρ:St→St} {σ:St}
theorem Ab(eA:∀R:It→Hp→Prop,(∀J H1,ai H H1→kg J xs H1→R J H1)→wi σ H R)(hn:xs.length<sizeLine)
  (P:Addr→Nat→V→Hp→Prop) (mono:∀D i y H H' ys,P D i y H→H D=some (.lst ys)→(∀b o,b≠D→H b=some o→H' b=some o)→P D i y H')
  (step:∀D i x,xs[i]?=some x→∀(Hc:Hp) (R:VK),ai H Hc→(∃ys,Hc D=some (.lst ys))→(∀y H3,ai Hc H3→P D i y H3→R y H3)→te (some x::ρ σ) Hc R)
  (fin:∀D ys Hc,ai H Hc→ys.length=xs.length→(∀i y,ys[i]?=some y→P D i y Hc)→Hc D=some (.lst ys)→Q (.ref D) Hc):gY wi ρ (fun _ H Q=>Q true H) te σ H Q:=by
 refine eA _ fun J H1 s1 js=>?_;intro D nD;exact Aa (ρσ:=ρ σ) (te:=te) (Q:=Q) js nD hn (P D) (mono D) (fun i x hx Hc R sc=>step D i x hx Hc R (s1.trans sc)) (fun ys Hc sc=>fin D ys Hc (s1.trans sc))
theorem Ac{g:TG}{D:Ends}(h:te σ H fun x H1=>g x σ H1 D.nx):kU te g D σ H:=h
theorem bo{a b:TS}{D:Ends}(h:a {D with nx:=fun σ H=>b D σ H} σ H):yK a b D σ H:=h
section
variable {X:Cx} {N:List Str} {scope:Scope} {cl:List (Str×Addr)} {x:Str} {px pos:Pos} {iter elt:Expr} {ifs:List Expr} {wi:TI} {ρ:St→St} {tt:TT} {te:TE}
theorem F3{y:Str}{py Ad:Pos}{i0:Nat}(B:we X N scope cl x ρ)(hc:X.calm=true)(hN:X.N.Nodup)(F4:X.N[i0]?=some y)(hy:Loc X.env.scope y)(hi:PI X (.Name x px) iter wi)(ht:∀s₃ H₃ fp,j_ (X.a_ N scope cl s₃ H₃ fp) ifs tt)(he:∀s₃ H₃ fp,PE (X.a_ N scope cl s₃ H₃ fp) elt te)
  (F5:swapsWith (.ListComp elt [⟨.Name x px,iter,ifs,0⟩] scope pos) (some (.Name y py)) Ad.line X.env=pure true:=by rfl) (hf:X.fn y=true∨X.env.scope.names.lookup y=some .local:=by first | exact .inl rfl | exact .inr rfl | assumption)
  (hs:∀x,foldedSetIterable iter X.env x=pure x:=by intro _;rfl):PS X (.Assign [.Name y py] (.ListComp elt [⟨.Name x px,iter,ifs,0⟩] scope pos) Ad) (kU (gY wi ρ tt te) (a7 i0)):=by
 intro pins s σ H D0 I h
 have h:gY wi ρ tt te σ H (fun v H1=>D0.nx (σ.set i0 (some v)) H1):=h
 rw [exec_Assign_Name_used _ _ _ _ F5]
 refine ao (wpAny_standAt (ao ?_))
 show wpAny _ X.A (do let _ ←comprehension (.ListComp elt [⟨.Name x px,iter,ifs,0⟩] scope pos) scope X.env _ (newList []) false (eval iter X.env) (some (assign (.Name y py) X.env))) _ _ s
 refine ao (bC (Q:=fun _ s'=>SP X pins D0 .next s') ?_ (fun _ s' hq=>aH (aH hq)) fun _ _ e=>e)
 refine vh (use:=some (assign (.Name y py) X.env)) rfl hs B.sS B.kind B.names (aJ (hi pins s σ H _ I h) fun v s1 h1=>aJ h1 fun pO s2 h2=>?_)
 obtain ⟨it,fp,tn,J,H2,rfl,I2,T,fM,f2,q2⟩:=h2
 have nD:H2 s2.heap.objs.size=none:=I2.aA.fresh (aC _)
 obtain ⟨W,⟨m0,w0⟩,turn⟩:=q2 _ nD
 refine fI (wpAny_newFunctionEnv B.sU (by intro y hy;simp at hy) (fun h₁ fk fm=>?_) B.kind)
 dsimp only at fk fm ⊢
 generalize hD:s2.heap.objs.size=D at nD w0 turn fk fm ⊢
 generalize gZ:({s2 with heap:=s2.heap.push {cls:=.type "list",dict:=none,data:=.seq ([]:List Value).toArray}}:Shared)=s3
 have I3:Inv X pins σ (upd H2 D (.lst [])) s3:=by
  subst hD gZ
  exact I2.laid (t':=s2.toks) (fun b u e=>a8 _ e) (aC _) ⟨bG _,[],_,.nil,bZ _ rfl⟩
 have e3:s3.heap=s2.heap.push {cls:=.type "list",dict:=none,data:=.seq ([]:List Value).toArray}:=by rw [←gZ]
 have fq:∀b o,s2.heap.get? b=some o→s3.heap.get? b=some o:=fun b o e=>by rw [e3];exact a8 _ e
 rw [←e3] at fk fm ⊢
 have below:∀b o,s3.heap.get? b=some o→b≠s3.heap.objs.size:=fun b o e=>bV (a0 e)
 have c_:∀b o,s3.heap.get? b=some o→h₁.get? b=some o:=fun b o e=>fm.extBut b o (below b o e) (a8 _ e)
 have g6:∀b∈fp,∃o,s2.heap.get? b=some o∧∀v,o.data≠.cell v:=T.obj _ _ fM
 have qd:∀b∈fp,b≠D:=fun b hb z=>by
  obtain ⟨o,e,_⟩:=g6 b hb
  rw [z,←hD] at e
  exact absurd (a0 e) (d7 _)
 have cH:∀y c,cl.lookup y=some c→X.env.cells.lookup y=some c:=fun y c e=>B.sub (y,c) (iW e)
 have qe:=I3.rT
 have ka:(X.a_ N scope cl s3 (upd H2 D (.lst [])) fp).Ok:=by
  refine ⟨I.ok.mod,B.kind,I.ok.glob,I.ok.blt,aC _,fun a b c e1 e2=>I.ok.inj a b c (cH a c e1) (cH b c e2),fun y hy=>B.has y hy,(fun _ _ z _=>absurd z bW),(fun _=>I.ok.hd hc),I.ok.frames,.inl rfl,fun b hb=>⟨?_,fun y c e z=>?_⟩,fun b o e=>?_,cf I.ok.gr I3.sz,fun b o e hb=>?_,fun b hb z=>?_,I3.stack,qe⟩
  ·obtain ⟨o,e,_⟩:=g6 b hb
   exact below b o (fq b o e)
  ·exact (f2 b hb).2.2.2.2.1 y c (cH y c e) z
  ·exact I3.bs b o e
  ·rcases (f2 b hb).2.2.2.1 with z | z
   ·exact I.ok.kM b o e z
   ·exact absurd (di (a0 e) (cf I.ok.gr z)) (d7 _)
  ·rcases cE.mp (I3.pJ b z) with z | z
   ·exact (f2 b hb).2.1 z
   ·exact (f2 b hb).2.2.1 z
 have IB:∀tk:Nat,Inv (X.a_ N scope cl s3 (upd H2 D (.lst [])) fp) [] (none::ρ σ) (upd H2 D (.lst [])) {s3 with heap:=h₁,toks:=tk}:=fun tk=>by
  refine ⟨ka,rfl,I3.bare,Un.kept c_,⟨_,fk,fun j y v e1 e2 e3=>?_⟩,fun y c e=>?_,?_,fun y c e=>I3.gs y c (cH y c e),(fun p hp=>nomatch hp),I3.aA.kept c_,?_⟩
  ·cases j with
   | zero=>cases e2
   | succ j=>
    obtain ⟨i,y',a1,a2,a3,a4,a5,a6⟩:=B.sV σ j v e2
    have eL:N[j+1]?=some y:=e1
    rw [eL] at a1
    cases a1
    obtain ⟨m,hn,hl⟩:=I3.loc
    obtain ⟨u,r,l⟩:=hl i y v a2 a3 a4
    refine ⟨u,r,.inr ⟨a6,?_⟩⟩
    obtain ⟨c,ec⟩:=B.has y a6
    rcases l with ⟨k,_⟩ | ⟨_,c',kb,z⟩
    ·rcases a5 with q | q <;> (rw [k] at q;cases q)
    ·have:=cH y c ec
     rw [this] at kb
     cases kb
     obtain ⟨o,ho,hd⟩:=z
     exact ⟨c,ec,o,c_ _ _ ho,hd⟩
  ·obtain ⟨v,o,ho,hd⟩:=I3.cell y c (cH y c e)
   exact ⟨v,o,c_ _ _ ho,hd⟩
  ·exact I3.aA.fresh (aC _)
  ·show (none::ρ σ).length=N.length
   rw [dm]
   exact B.len σ I.len
 have wq:∀b o,s3.heap.get? b=some o→b≠s3.heap.objs.size:=below
 have fin:∀{σ':St} {H':Hp} {s':Shared},Inv (X.a_ N scope cl s3 (upd H2 D (.lst [])) fp) [] σ' H' s'→D0.nx (σ.set i0 (some (.ref D))) H'→compPost (model X.prog X.w) X.A X.xe (some (assign (.Name y py) X.env)) (fun _ s'=>SP X pins D0 .next s') (.ref D) s3.heap.objs.size (.ok .next) s':=fun{σ' H' s'} J q=>by
  obtain ⟨m,hn,_⟩:=J.loc
  have hn:s'.heap.Ns s3.heap.objs.size m:=hn
  have JC:H' s3.heap.objs.size=none:=J.free
  have u1:Un (dS X.stack) fp (upd H2 D (.lst [])) H' s3.heap s'.heap:=by
   refine ⟨fun b o e n hb hx=>J.base.keep b o e n hb hx,fun b o e n hb hx=>J.base.slot b o e n hb hx,J.base.free,fun b o e hx=>J.base.there b o e hx,J.base.gT,J.base.gq,J.base.gU⟩
  have IX:Inv X pins σ H' s':=I3.m5 (ch:=fp) (J.os) u1 J.aA J.bare fun b hb=>by
   obtain ⟨g0,g1,g2,g3,g4,g5⟩:=f2 b hb
   exact ⟨g3,g1,g4,g5⟩
  have nl:X.env.locals≠s3.heap.objs.size:=by
   obtain ⟨m3,⟨o3,_,_,e3,_⟩,_⟩:=I3.loc
   exact wq _ _ e3
  have nc:∀z c,X.env.cells.lookup z=some c→c≠s3.heap.objs.size:=fun z c e=>by
   obtain ⟨v3,o3,e3,_⟩:=I3.cell z c e
   exact wq _ _ e3
  refine wpAny_assign_Name (yB (v:=.ref D) IX hN F4 hy rfl (fun jY wt wu=>?_) hf)
  obtain ⟨a,wu,ha⟩:=wu
  have na:s3.heap.objs.size≠a:=by
   rcases ha with rfl | e
   ·exact fun z=>nl z.symm
   ·exact fun z=>nc _ _ e z.symm
  refine ⟨m,hn.sameBut wu na,fun h' ft=>⟨σ.set i0 (some (.ref D)),H',?_,q⟩⟩
  have u2:Un (dS X.stack) [s3.heap.objs.size] H' H' jY.heap h':=by
   refine ⟨fun b o e n hb hx=>(ft.2 b (by simpa using hx)).trans e,fun b o e n hb hx=>⟨o.slots,(ft.2 b (by simpa using hx)).trans e⟩,fun b o e n hx=>n,fun b o e hx=>⟨o,(ft.2 b (by simpa using hx)).trans e⟩,fun b xs z=>z,fun b o u z=>z,fun b ps z=>⟨#[],by simpa using z⟩⟩
  have qf:bD X.prog X.w H' h':=fun b u e=>by
   refine (wt.aA b u e).ir (fun c v hc z=>(ft.2 c fun y=>?_).trans z) (fun _ z=>z) fun _ _ z=>z
   have y':c=s3.heap.objs.size:=y
   rcases hc with hc | hc
   ·rw [←hc,y',JC] at e
    cases e
   ·rw [y',JC] at hc
    cases hc
  refine wt.m5 (s':={jY with heap:=h'}) (ch:=[s3.heap.objs.size]) rfl u2 qf wt.bare fun b hb=>?_
  have eb:b=s3.heap.objs.size:=by simpa using hb
  subst eb
  refine ⟨.inr I3.sz,fun z=>nl z.symm,fun z c e=>nc z c e,fun p hp=>?_⟩
  exact wq _ _ (I3.pin p hp).1
 have eJ:∀{H':Hp},(∀b∈fp,H' b=none)→∀b∈fp,i9 (X.a_ N scope cl s3 (upd H2 D (.lst [])) fp) [] H' b:=fun hn b hb=>by
  refine ⟨hn b hb,?_,?_,.inl hb,fun y c e z=>(f2 b hb).2.2.2.2.1 y c (cH y c e) z,fun p hp=>nomatch hp⟩
  ·obtain ⟨o,e,_⟩:=g6 b hb
   exact below b o (fq b o e)
  ·exact ka.kN b hb
 have loop:∀tk:Nat,codeAny (model X.prog X.w) X.A (.compLoop (.ListComp elt [⟨.Name x px,iter,ifs,0⟩] scope pos) 0 (.ref it) (.ref D) (compEnvC scope cl s3.heap.objs.size X.env))
   (compPost (model X.prog X.w) X.A X.xe (some (assign (.Name y py) X.env)) (fun _ s'=>SP X pins D0 .next s') (.ref D) s3.heap.objs.size) {s3 with heap:=h₁,toks:=tk}:=fun tk=>by
  refine codeAny_compLoop_tests (fun n s'=>∃i ys o H',Inv (X.a_ N scope cl s3 (upd H2 D (.lst [])) fp) [] (o::ρ σ) H' s'∧tn i s'.heap∧(∀b∈fp,H' b=none)∧W i n ys H') ?_ m0
   ⟨0,[],none,_,IB tk,T.keep _ _ _ fM fun b hb o e=>c_ _ _ (fq _ _ e),fun b hb=>by rw [bf (qd b hb)];exact (f2 b hb).1,w0⟩
  rintro n s4 ⟨i,ys,o,H4,I4,kd,ke,w4⟩
  obtain ⟨zY,qg⟩:=turn i n ys H4 w4
  rcases qg with ⟨stop,qn⟩ | ⟨go,step⟩
  ·refine bC (T.done (X.a_ N scope cl s3 (upd H2 D (.lst [])) fp) rfl rfl rfl hc i [] s4 _ H4 (fun _ _=>False) I4 (eJ ke) kd stop) (fun r s5 ⟨hr,I5⟩=>?_) fun _ _ z=>z.elim
   subst hr
   exact fin I5 qn
  ·refine bC (T.item (X.a_ N scope cl s3 (upd H2 D (.lst [])) fp) rfl rfl rfl hc i [] s4 _ H4 (fun _ _=>False) I4 (eJ ke) kd go) (fun r s5 ⟨u,hr,h5⟩=>?_) fun _ _ z=>z.elim
   subst hr
   have z:letOwnedTupleGo (.Name x px) (.ref it) u=pure ():=rfl
   rw [z] at h5
   show wpAny _ _ ((pure ():Sem Unit) >>= fun _=>assign (.Name x px) (compEnvC scope cl s3.heap.objs.size X.env) u) _ _ s5
   refine ao (bC h5 (fun _ s5 ⟨y,H5,I5,r5,y5,eK,kX⟩=>?_) fun _ _ z=>z.elim)
   have kY:=I5.pinned (eJ kX) (T.obj _ _ eK)
   have pg:PG (X.a_ N scope cl s3 (upd H2 D (.lst [])) fp) (.Name x px) (a7 0):=cq (i:=0) B.nd B.n0 (.inl (jI B.hx)) (.inr (jI B.hx))
   have again:∀{σ7:St} {H7:Hp} {s7:Shared},Inv (X.a_ N scope cl s3 (upd H2 D (.lst [])) fp) ([]++iy fp s5.heap) σ7 H7 s7→Inv (X.a_ N scope cl s3 (upd H2 D (.lst [])) fp) [] σ7 H7 s7∧tn (i+1) s7.heap∧∀b∈fp,H7 b=none:=fun{σ7 H7 s7} I7=>by
    refine ⟨I7.ng,T.keep _ _ _ eK fun b hb o e=>(I7.pin (b,o) (dv _ (dv _ (jT hb e)))).1,fun b hb=>?_⟩
    obtain ⟨o,e,d⟩:=T.obj _ _ eK b hb
    exact (I7.pin (b,o) (dv _ (dv _ (jT hb e)))).2.1
   refine bC (pg _ s5 _ H5 y u (fun σ2 H6=>σ2=some y::ρ σ∧H6=H5) kY r5 ⟨rfl,rfl⟩) (fun _ s6 ⟨σ6,H6,I6,q6⟩=>?_) fun _ _ z=>z.elim
   obtain ⟨rfl,rfl⟩:=q6
   have qh:=step y _ y5
   have tests:∀{g8:TT},j_ (X.a_ N scope cl s3 (upd H2 D (.lst [])) fp) ifs g8→∀{R:Bool→Hp→Prop},g8 (some y::ρ σ) H6 R→wpAny (model X.prog X.w) X.A
     (forIn ifs true fun c r=>if r=true then do let ok ←isTrue c (compEnvC scope cl s3.heap.objs.size X.env) (eval c (compEnvC scope cl s3.heap.objs.size X.env));pure (ForInStep.yield ok) else pure (ForInStep.yield r))
     (fun ok s7=>∃H7,Inv (X.a_ N scope cl s3 (upd H2 D (.lst [])) fp) ([]++iy fp s5.heap) (some y::ρ σ) H7 s7∧R ok H7) (fun _ _=>False) s6:=fun{g8} p {R} hR=>by
    cases p with
    | nil=>exact wpAny_tests_nil ⟨_,I6,hR⟩
    | one p=>exact wpAny_tests_one (p _ s6 _ _ _ I6 hR)
   refine bC (tests (ht s3 _ fp) qh) (fun ok s7 ⟨H7,I7,q7⟩=>?_) fun _ _ z=>z.elim
   cases ok with
   | false=>
    obtain ⟨m',g9,w7⟩:=q7
    obtain ⟨a1,a2,a3⟩:=again I7
    exact ⟨m',g9,i+1,ys,_,H7,a1,a2,a3,w7⟩
   | true=>
    refine bC (he s3 _ fp _ s7 _ H7 _ I7 q7) (fun ev s8 ⟨z,H8,I8,r8,qi,hz,m',g9,w8⟩=>?_) fun _ _ z=>z.elim
    refine bC (fi (X:=X.a_ N scope cl s3 (upd H2 D (.lst [])) fp) _ s8 _ H8 (.ref D) [z] (.ref D) [ev] (fun _ H9=>H9=upd H8 D (.lst (ys++[z]))) I8 rfl (.cons r8 .nil) ⟨D,ys,z,rfl,rfl,qi,hz,rfl⟩) (fun _ s9 ⟨_,H9,I9,_,q9⟩=>?_) fun _ _ z=>z.elim
    subst q9
    obtain ⟨a1,a2,a3⟩:=again I9
    exact ⟨m',g9,i+1,ys++[z],_,_,a1,a2,a3,w8⟩
 have start:=loop (s3.toks+([]:List (Str×Value)).length)
 have es:({s3 with heap:=h₁,toks:=s3.toks+([]:List (Str×Value)).length}:Shared)={s2 with heap:=h₁,toks:=s2.toks+([]:List (Str×Value)).length}:=by rw [←gZ]
 rw [es] at start
 exact vi start (T.self _ 0 _ _ _ (T.keep _ _ _ fM fun b hb o e=>c_ _ _ (fq _ _ e)) start)
end
theorem boot_zip:bootBuiltins "zip"=some (.type "zip"):=by decide +kernel
section
variable {X:Cx}
end
section
variable {prog:Program} {w:World} {A:Around} {R:Result→Shared→Prop} {s:Shared}
theorem F6{elt target iter:Expr}{ifs:List Expr}{scope:Scope}{pos:Pos}{it acc:Value}{env:Env}(I:Nat→Shared→Prop)
  (turn:∀n s,I n s→wpAny (model prog w) A (pyNext it) (fun r s₁=>match r with
   | none=>R (.ok .next) s₁
   | some v=>wpAny (model prog w) A (letOwnedTupleGo target it v) (fun _ s₁=>wpAny (model prog w) A (assign target env v) (fun _ s₂=>
     wpAny (model prog w) A (forIn ifs true fun c r=>if r=true then do let ok ←isTrue c env (eval c env);pure (ForInStep.yield ok) else pure (ForInStep.yield r)) (fun ok s₃=>
      if ok=true then wpAny (model prog w) A (eval elt env) (fun x s₄=>
       wpAny (model prog w) A (call (.builtin "list.append") [acc,x]) (fun _ s₅=>∃m,m<n∧I m s₅) (notedBy (model prog w) A env fun e s'=>R (.error e) s') s₄) (notedBy (model prog w) A env fun e s'=>R (.error e) s') s₃
      else ∃m,m<n∧I m s₃) (notedBy (model prog w) A env fun e s'=>R (.error e) s') s₂) (notedBy (model prog w) A env fun e s'=>R (.error e) s') s₁) (notedBy (model prog w) A env fun e s'=>R (.error e) s') s₁) (notedBy (model prog w) A env fun e s'=>R (.error e) s') s)
  (n:Nat) (h:I n s):codeAny (model prog w) A (.compLoop (.ListComp elt [⟨target,iter,ifs,0⟩] scope pos) 0 it acc env) R s:=by
 refine codeAny_loop rfl I (fun n s hI=>?_) n h
 show wpAny _ A ((compTurn (.ListComp elt [⟨target,iter,ifs,0⟩] scope pos) 0 it acc env).onRaise (fun x=>do noteFrame x env;theTreesLotGoes x)) _ _ s
 refine wpAny_noted ?_
 rw [compTurn_list]
 refine ao (wpAny_standAt (ao (bC (turn n s hI) (fun r s₁ h₁=>?_) fun _ _ h'=>h')))
 cases r with
 | none=>exact aH h₁
 | some v=>
  refine ao (bC h₁ (fun _ s₁ h₁=>?_) fun _ _ h'=>h')
  refine ao (bC h₁ (fun _ s₂ h₂=>ao (bC h₂ (fun ok s₃ h₃=>?_) fun _ _ h'=>h')) fun _ _ h'=>h')
  cases ok with
  | false=>exact aH ⟨rfl,h₃⟩
  | true=>
   exact ao (ao (bC h₃ (fun x s₄ h₄=>ao (bC h₄ (fun _ s₅ h₅=>aH (aH ⟨rfl,h₅⟩)) fun _ _ h'=>h')) fun _ _ h'=>h'))
end
def Ae(K:aG)(wi:TI)(ρ:St→St)(tt:TT)(te:TE):TE:=fun σ H Q=>wi σ H fun J H1=>∀D,H1 D=none→∃W:Nat→Nat→List V→Hp→Prop,(∃m,W 0 m [] (upd H1 D (.lst []))) ∧
 ∀i m ys Hc,W i m ys Hc→Hc D=some (.lst ys)∧((J.stop i Hc∧Q (.ref D) Hc)∨(J.go i Hc∧∀v H',J.c5 i Hc v H'→∃T x1 x2,v=.ref T∧bx K H' T [x1,x2]∧tt (some x1::some x2::ρ σ) H' fun b H2=>
  if b=true then te (some x1::some x2::ρ σ) H2 fun y H3=>H3 D=some (.lst ys)∧ys.length<sizeLine∧∃m',m'<m∧W (i+1) m' (ys++[y]) (upd H3 D (.lst (ys++[y]))) else ∃m',m'<m∧W (i+1) m' ys H2))
section
variable {X:Cx} {N:List Str} {scope:Scope} {cl:List (Str×Addr)} {x y:Str} {px py pos tp:Pos} {qj:Nat} {iter elt:Expr} {ifs:List Expr} {wi:TI} {ρ:St→St} {tt:TT} {te:TE}
structure Af (X:Cx) (N:List Str) (scope:Scope) (cl:List (Str×Addr)) (x y:Str) (ρ:St→St):Prop where
 sS:closureFor scope X.env=pure cl
 kind:scope.kind=.function
 sU:∀y∈scope.names,y.2≠.cell
 names:∀y∈scope.names,y.2=.local→scope.names.lookup y.1=some .local
 sub:∀p∈cl,X.env.cells.lookup p.1=some p.2
 has:∀y,((relabel scope X.env).names.lookup y=some .cell∨(relabel scope X.env).names.lookup y=some .free)→∃c,cl.lookup y=some c
 n0:N[0]?=some x
 n1:N[1]?=some y
 nd:N.Nodup
 hx:scope.names.lookup x=some .local
 hy:scope.names.lookup y=some .local
 sV:∀(σ:St) (j:Nat) (v:V),(ρ σ)[j]?=some (some v)→∃(i:Nat) (y:Str),N[j+1+1]?=some y∧X.N[i]?=some y∧σ[i]?=some (some v)∧jQ X.env.scope y∧(X.env.kindOf y=some .cell∨X.env.kindOf y=some .free)∧((relabel scope X.env).names.lookup y=some .cell∨(relabel scope X.env).names.lookup y=some .free)
 len:∀σ:St,σ.length=X.N.length→(ρ σ).length+1+1=N.length
theorem F7(is:List Nat)(h1:closureFor scope X.env=pure cl)(h:sW X scope N.tail.tail is:=by repeat' first | exact True.intro | refine And.intro ⟨rfl,Or.inr (Or.inl rfl),.inl rfl,.inl rfl⟩ ?_)(h2:scope.kind=.function:=by rfl)(h3:∀y∈scope.names,y.2≠.cell:=by decide +kernel)(h4:∀y∈scope.names,y.2=.local→scope.names.lookup y.1=some .local:=by decide +kernel)(h5:∀p∈cl,X.env.cells.lookup p.1=some p.2:=by repeat' first | exact List.forall_mem_nil _ | refine List.forall_mem_cons.mpr ⟨rfl,?_⟩)(h6:((relabel scope X.env).names.all fun q=>(q.2 != .cell && q.2 != .free) || (cl.lookup q.1).isSome)=true:=by rfl)(h7:N[0]?=some x:=by rfl)(F8:N[1]?=some y:=by rfl)(h8:N.Nodup:=by decide +kernel)(h9:scope.names.lookup x=some .local:=by rfl)(F9:scope.names.lookup y=some .local:=by rfl)(hr:∀σ:St,ρ σ=is.map fun i=>σ[i]?.join:=by exact fun _=>rfl)(hl:is.length+1+1=N.length:=by rfl):Af X N scope cl x y ρ:=
 ⟨h1,h2,h3,h4,h5,zX h6,h7,F8,h8,h9,F9,fun σ j v e=>by rw [hr] at e;rw [←List.getElem?_tail,←List.getElem?_tail];exact wg h σ j v e,fun σ _=>by rw [hr,ba];exact hl⟩
theorem F_(B:Af X N scope cl x y ρ)(hc:X.calm=true)(hi:PI X (.Tuple [.Name x px,.Name y py] qj tp) iter wi)(ht:∀s₃ H₃ fp,j_ (X.a_ N scope cl s₃ H₃ fp) ifs tt)(he:∀s₃ H₃ fp,PE (X.a_ N scope cl s₃ H₃ fp) elt te)
  (hs:∀x,foldedSetIterable iter X.env x=pure x:=by intro _;rfl):PE X (.ListComp elt [⟨.Tuple [.Name x px,.Name y py] qj tp,iter,ifs,0⟩] scope pos) (Ae X.K wi ρ tt te):=by
 intro pins s σ H Q I h
 rw [eval_ListComp]
 refine vh (use:=none) rfl hs B.sS B.kind B.names (aJ (hi pins s σ H _ I h) fun v s1 h1=>aJ h1 fun pO s2 h2=>?_)
 obtain ⟨it,fp,tn,J,H2,rfl,I2,T,fM,f2,q2⟩:=h2
 have nD:H2 s2.heap.objs.size=none:=I2.aA.fresh (aC _)
 obtain ⟨W,⟨m0,w0⟩,turn⟩:=q2 _ nD
 refine fI (wpAny_newFunctionEnv B.sU (by intro y hy;simp at hy) (fun h₁ fk fm=>?_) B.kind)
 dsimp only at fk fm ⊢
 generalize hD:s2.heap.objs.size=D at nD w0 turn fk fm ⊢
 generalize gZ:({s2 with heap:=s2.heap.push {cls:=.type "list",dict:=none,data:=.seq ([]:List Value).toArray}}:Shared)=s3
 have I3:Inv X pins σ (upd H2 D (.lst [])) s3:=by
  subst hD gZ
  exact I2.laid (t':=s2.toks) (fun b u e=>a8 _ e) (aC _) ⟨bG _,[],_,.nil,bZ _ rfl⟩
 have e3:s3.heap=s2.heap.push {cls:=.type "list",dict:=none,data:=.seq ([]:List Value).toArray}:=by rw [←gZ]
 have fq:∀b o,s2.heap.get? b=some o→s3.heap.get? b=some o:=fun b o e=>by rw [e3];exact a8 _ e
 rw [←e3] at fk fm ⊢
 have below:∀b o,s3.heap.get? b=some o→b≠s3.heap.objs.size:=fun b o e=>bV (a0 e)
 have c_:∀b o,s3.heap.get? b=some o→h₁.get? b=some o:=fun b o e=>fm.extBut b o (below b o e) (a8 _ e)
 have g6:∀b∈fp,∃o,s2.heap.get? b=some o∧∀v,o.data≠.cell v:=T.obj _ _ fM
 have qd:∀b∈fp,b≠D:=fun b hb z=>by
  obtain ⟨o,e,_⟩:=g6 b hb
  rw [z,←hD] at e
  exact absurd (a0 e) (d7 _)
 have cH:∀y c,cl.lookup y=some c→X.env.cells.lookup y=some c:=fun y c e=>B.sub (y,c) (iW e)
 have qe:=I3.rT
 have ka:(X.a_ N scope cl s3 (upd H2 D (.lst [])) fp).Ok:=by
  refine ⟨I.ok.mod,B.kind,I.ok.glob,I.ok.blt,aC _,fun a b c e1 e2=>I.ok.inj a b c (cH a c e1) (cH b c e2),fun y hy=>B.has y hy,(fun _ _ z _=>absurd z bW),(fun _=>I.ok.hd hc),I.ok.frames,.inl rfl,fun b hb=>⟨?_,fun y c e z=>?_⟩,fun b o e=>?_,cf I.ok.gr I3.sz,fun b o e hb=>?_,fun b hb z=>?_,I3.stack,qe⟩
  ·obtain ⟨o,e,_⟩:=g6 b hb
   exact below b o (fq b o e)
  ·exact (f2 b hb).2.2.2.2.1 y c (cH y c e) z
  ·exact I3.bs b o e
  ·rcases (f2 b hb).2.2.2.1 with z | z
   ·exact I.ok.kM b o e z
   ·exact absurd (di (a0 e) (cf I.ok.gr z)) (d7 _)
  ·rcases cE.mp (I3.pJ b z) with z | z
   ·exact (f2 b hb).2.1 z
   ·exact (f2 b hb).2.2.1 z
 have IB:∀tk:Nat,Inv (X.a_ N scope cl s3 (upd H2 D (.lst [])) fp) [] (none::none::ρ σ) (upd H2 D (.lst [])) {s3 with heap:=h₁,toks:=tk}:=fun tk=>by
  refine ⟨ka,rfl,I3.bare,Un.kept c_,⟨_,fk,fun j y v e1 e2 e3=>?_⟩,fun y c e=>?_,?_,fun y c e=>I3.gs y c (cH y c e),(fun p hp=>nomatch hp),I3.aA.kept c_,?_⟩
  ·cases j with
   | zero=>cases e2
   | succ j=>
   cases j with
   | zero=>cases e2
   | succ j=>
    obtain ⟨i,y',a1,a2,a3,a4,a5,a6⟩:=B.sV σ j v e2
    have eL:N[j+1+1]?=some y:=e1
    rw [eL] at a1
    cases a1
    obtain ⟨m,hn,hl⟩:=I3.loc
    obtain ⟨u,r,l⟩:=hl i y v a2 a3 a4
    refine ⟨u,r,.inr ⟨a6,?_⟩⟩
    obtain ⟨c,ec⟩:=B.has y a6
    rcases l with ⟨k,_⟩ | ⟨_,c',kb,z⟩
    ·rcases a5 with q | q <;> (rw [k] at q;cases q)
    ·have:=cH y c ec
     rw [this] at kb
     cases kb
     obtain ⟨o,ho,hd⟩:=z
     exact ⟨c,ec,o,c_ _ _ ho,hd⟩
  ·obtain ⟨v,o,ho,hd⟩:=I3.cell y c (cH y c e)
   exact ⟨v,o,c_ _ _ ho,hd⟩
  ·exact I3.aA.fresh (aC _)
  ·show (none::none::ρ σ).length=N.length
   rw [dm,dm]
   exact B.len σ I.len
 have fin:∀{σ':St} {H':Hp} {s':Shared},Inv (X.a_ N scope cl s3 (upd H2 D (.lst [])) fp) [] σ' H' s'→Q (.ref D) H'→compPost (model X.prog X.w) X.A X.xe none (EP X pins σ Q) (.ref D) s3.heap.objs.size (.ok .next) s':=fun{σ' H' s'} J q=>by
  obtain ⟨m,hn,_⟩:=J.loc
  refine ⟨m,hn,fun h' ft=>⟨.ref D,H',?_,rfl,q⟩⟩
  have old:∀b o,s3.heap.get? b=some o→b≠s3.heap.objs.size:=below
  have u1:Un (dS X.stack) fp (upd H2 D (.lst [])) H' s3.heap h':=by
   refine ⟨fun b o e n hb hx=>?_,fun b o e n hb hx=>?_,J.base.free,fun b o e hx=>?_,J.base.gT,J.base.gq,J.base.gU⟩
   ·exact (ft.2 b (old b o e)).trans (J.base.keep b o e n hb hx)
   ·obtain ⟨sl,z⟩:=J.base.slot b o e n hb hx
    exact ⟨sl,(ft.2 b (old b o e)).trans z⟩
   ·obtain ⟨o',z⟩:=J.base.there b o e hx
    exact ⟨o',(ft.2 b (old b o e)).trans z⟩
  have qf:bD X.prog X.w H' h':=fun b u e=>by
   refine (J.aA b u e).ir (fun c v hc z=>(ft.2 c fun y=>?_).trans z) (fun _ z=>z) fun _ _ z=>z
   have fr:=J.free
   have y':c=s3.heap.objs.size:=y
   rcases hc with hc | hc
   ·rw [←hc,y'] at e
    exact absurd (fr.symm.trans e) (by simp)
   ·rw [y'] at hc
    exact absurd (fr.symm.trans hc) (by simp)
  refine I3.m5 (s':={s' with heap:=h'}) (ch:=fp) (J.os) u1 qf J.bare fun b hb=>?_
  obtain ⟨g0,g1,g2,g3,g4,g5⟩:=f2 b hb
  exact ⟨g3,g1,g4,g5⟩
 have eJ:∀{H':Hp},(∀b∈fp,H' b=none)→∀b∈fp,i9 (X.a_ N scope cl s3 (upd H2 D (.lst [])) fp) [] H' b:=fun hn b hb=>by
  refine ⟨hn b hb,?_,?_,.inl hb,fun y c e z=>(f2 b hb).2.2.2.2.1 y c (cH y c e) z,fun p hp=>nomatch hp⟩
  ·obtain ⟨o,e,_⟩:=g6 b hb
   exact below b o (fq b o e)
  ·exact ka.kN b hb
 have loop:∀tk:Nat,codeAny (model X.prog X.w) X.A (.compLoop (.ListComp elt [⟨.Tuple [.Name x px,.Name y py] qj tp,iter,ifs,0⟩] scope pos) 0 (.ref it) (.ref D) (compEnvC scope cl s3.heap.objs.size X.env))
   (compPost (model X.prog X.w) X.A X.xe none (EP X pins σ Q) (.ref D) s3.heap.objs.size) {s3 with heap:=h₁,toks:=tk}:=fun tk=>by
  refine F6 (fun n s'=>∃i ys o o2 H',Inv (X.a_ N scope cl s3 (upd H2 D (.lst [])) fp) [] (o::o2::ρ σ) H' s'∧tn i s'.heap∧(∀b∈fp,H' b=none)∧W i n ys H') ?_ m0
   ⟨0,[],none,none,_,IB tk,T.keep _ _ _ fM fun b hb o e=>c_ _ _ (fq _ _ e),fun b hb=>by rw [bf (qd b hb)];exact (f2 b hb).1,w0⟩
  rintro n s4 ⟨i,ys,o,o2,H4,I4,kd,ke,w4⟩
  obtain ⟨zY,qg⟩:=turn i n ys H4 w4
  rcases qg with ⟨stop,qn⟩ | ⟨go,step⟩
  ·refine bC (T.done (X.a_ N scope cl s3 (upd H2 D (.lst [])) fp) rfl rfl rfl hc i [] s4 _ H4 (fun _ _=>False) I4 (eJ ke) kd stop) (fun r s5 ⟨hr,I5⟩=>?_) fun _ _ z=>z.elim
   subst hr
   exact fin I5 qn
  ·refine bC (T.item (X.a_ N scope cl s3 (upd H2 D (.lst [])) fp) rfl rfl rfl hc i [] s4 _ H4 (fun _ _=>False) I4 (eJ ke) kd go) (fun r s5 ⟨u,hr,h5⟩=>?_) fun _ _ z=>z.elim
   subst hr
   refine bC h5 (fun _ s5 ⟨y0,H5,I5,r5,y5,eK,kX⟩=>?_) fun _ _ z=>z.elim
   obtain ⟨Tt,x1,x2,e0,Ga,qh⟩:=step y0 _ y5
   subst e0
   have kY:=I5.pinned (eJ kX) (T.obj _ _ eK)
   have pg:PG (X.a_ N scope cl s3 (upd H2 D (.lst [])) fp) (.Tuple [.Name x px,.Name y py] qj tp) (yP X.K 2 (vI (a7 0) (vI (a7 1) yO))):=
    m9 (X:=X.a_ N scope cl s3 (upd H2 D (.lst [])) fp) hc (gx (cq (i:=0) B.nd B.n0 (.inl (jI B.hx)) (.inr (jI B.hx))) (gx (cq (i:=1) B.nd B.n1 (.inl (jI B.hy)) (.inr (jI B.hy))) m8))
   have again:∀{σ7:St} {H7:Hp} {s7:Shared},Inv (X.a_ N scope cl s3 (upd H2 D (.lst [])) fp) ([]++iy fp s5.heap) σ7 H7 s7→Inv (X.a_ N scope cl s3 (upd H2 D (.lst [])) fp) [] σ7 H7 s7∧tn (i+1) s7.heap∧∀b∈fp,H7 b=none:=fun{σ7 H7 s7} I7=>by
    refine ⟨I7.ng,T.keep _ _ _ eK fun b hb o e=>(I7.pin (b,o) (dv _ (dv _ (jT hb e)))).1,fun b hb=>?_⟩
    obtain ⟨o,e,d⟩:=T.obj _ _ eK b hb
    exact (I7.pin (b,o) (dv _ (dv _ (jT hb e)))).2.1
   refine bC (pg _ s5 _ H5 (.ref Tt) u (fun σ2 H6=>σ2=some x1::some x2::ρ σ∧H6=H5) kY r5 ⟨Tt,_,rfl,Ga,rfl,_,_,rfl,_,_,rfl,rfl,rfl,rfl⟩) (fun _ s6 ⟨σ6,H6,I6,q6⟩=>?_) fun _ _ z=>z.elim
   obtain ⟨rfl,rfl⟩:=q6
   have tests:∀{g8:TT},j_ (X.a_ N scope cl s3 (upd H2 D (.lst [])) fp) ifs g8→∀{R:Bool→Hp→Prop},g8 (some x1::some x2::ρ σ) H6 R→wpAny (model X.prog X.w) X.A
     (forIn ifs true fun c r=>if r=true then do let ok ←isTrue c (compEnvC scope cl s3.heap.objs.size X.env) (eval c (compEnvC scope cl s3.heap.objs.size X.env));pure (ForInStep.yield ok) else pure (ForInStep.yield r))
     (fun ok s7=>∃H7,Inv (X.a_ N scope cl s3 (upd H2 D (.lst [])) fp) ([]++iy fp s5.heap) (some x1::some x2::ρ σ) H7 s7∧R ok H7) (fun _ _=>False) s6:=fun{g8} p {R} hR=>by
    cases p with
    | nil=>exact wpAny_tests_nil ⟨_,I6,hR⟩
    | one p=>exact wpAny_tests_one (p _ s6 _ _ _ I6 hR)
   refine bC (tests (ht s3 _ fp) qh) (fun ok s7 ⟨H7,I7,q7⟩=>?_) fun _ _ z=>z.elim
   cases ok with
   | false=>
    obtain ⟨m',g9,w7⟩:=q7
    obtain ⟨a1,a2,a3⟩:=again I7
    exact ⟨m',g9,i+1,ys,_,_,H7,a1,a2,a3,w7⟩
   | true=>
    refine bC (he s3 _ fp _ s7 _ H7 _ I7 q7) (fun ev s8 ⟨z,H8,I8,r8,qi,hz,m',g9,w8⟩=>?_) fun _ _ z=>z.elim
    refine bC (fi (X:=X.a_ N scope cl s3 (upd H2 D (.lst [])) fp) _ s8 _ H8 (.ref D) [z] (.ref D) [ev] (fun _ H9=>H9=upd H8 D (.lst (ys++[z]))) I8 rfl (.cons r8 .nil) ⟨D,ys,z,rfl,rfl,qi,hz,rfl⟩) (fun _ s9 ⟨_,H9,I9,_,q9⟩=>?_) fun _ _ z=>z.elim
    subst q9
    obtain ⟨a1,a2,a3⟩:=again I9
    exact ⟨m',g9,i+1,ys++[z],_,_,_,a1,a2,a3,w8⟩
 have start:=loop (s3.toks+([]:List (Str×Value)).length)
 have es:({s3 with heap:=h₁,toks:=s3.toks+([]:List (Str×Value)).length}:Shared)={s2 with heap:=h₁,toks:=s2.toks+([]:List (Str×Value)).length}:=by rw [←gZ]
 rw [es] at start
 exact vi start (T.self _ 0 _ _ _ (T.keep _ _ _ fM fun b hb o e=>c_ _ _ (fq _ _ e)) start)
end
section
variable {X:Cx}
end
section
variable {M:Model} {A:Around} {E:aF} {s:Shared}
end
section
variable {X:Cx} {N:List Str} {scope:Scope} {cl:List (Str×Addr)} {x:Str} {px pos:Pos} {iter elt:Expr} {ifs:List Expr} {wi:TI} {ρ:St→St} {tt:TT} {te:TE}
end
theorem Gb{v:V}(h:vZ v=true):iD v v=true:=by
 cases v with
 | aI=>rfl
 | bl b=>show (b == b)=true;simp
 | int i=>show (i == i)=true;simp
 | str x=>show (x == x)=true;simp
 | _=>cases h
theorem all_range(n:Nat):(List.range n).all (fun _=>true)=true:=by simp
section
variable {X:Cx} {pins:aL} {σ:St} {H:Hp} {s:Shared}
end
section
variable {X:Cx}
end
section
variable {X:Cx} {N:List Str} {scope:Scope} {cl:List (Str×Addr)} {x:Str} {px pos:Pos} {iter elt:Expr} {ifs:List Expr} {wi:TI} {ρ:St→St} {tt:TT} {te:TE}
end
structure Ag (J:It) (zs:List (V×V)) (H1:Hp):Prop where
 go:∀i Hc,ai H1 Hc→i<zs.length→J.go i Hc
 c5:∀i Hc v H',ai H1 Hc→J.c5 i Hc v H'→∃T x y,v=.ref T∧Hc T=none∧H'=upd Hc T (.tup [x,y])∧(i<zs.length→zs[i]?=some (x,y))
 stop:∀i Hc,ai H1 Hc→zs.length≤i→J.stop i Hc
theorem Gd{zs:List (V×V)}(eA:∀R:It→Hp→Prop,(∀J H1,ai H H1→Ag J zs H1→R J H1)→wi σ H R)(hn:zs.length<sizeLine)
  (P:Nat→V→Prop)
  (step:∀i x y,zs[i]?=some (x,y)→∀(Hc:Hp) (R:VK),ai H Hc→(∀v H3,ai Hc H3→P i v→R v H3)→te (some x::some y::ρ σ) Hc R)
  (fin:∀D vs Hc,ai H Hc→vs.length=zs.length→(∀(i:Nat) (v:V),vs[i]?=some v→P i v)→Hc D=some (.lst vs)→Q (.ref D) Hc):Ae K wi ρ (fun _ H Q=>Q true H) te σ H Q:=by
 refine eA _ fun J H1 s1 js=>?_;intro D nD;refine ⟨fun i m vs Hc=>m=zs.length-i∧i≤zs.length∧Hc D=some (.lst vs)∧ai H1 Hc∧vs.length=i∧∀(j:Nat) (v:V),vs[j]?=some v→P j v,⟨_,rfl,bG _,ax,fu (ai.refl H1) nD,rfl,fun j y e=>by simp at e⟩,?_⟩
 rintro i m vs Hc ⟨rfl,hi,eD,sH,el,hP⟩;refine ⟨eD,?_⟩;by_cases bL:i<zs.length
 ·refine .inr ⟨js.go i Hc sH bL,fun v H' hy=>?_⟩
  obtain ⟨T,x,y,ev,nT,eH,hx⟩:=js.c5 i Hc v H' sH hy;subst ev eH;refine ⟨T,x,y,rfl,.of ax,?_⟩;dsimp only;rw [aj rfl];have sT:ai Hc (upd Hc T (.tup [x,y])):=fun b o e=>by rw [bf (gp e nT)];exact e
  refine step i x y (hx bL) _ _ (s1.trans (sH.trans sT)) fun w H3 s3 hp=>?_;have e3:=s3 _ _ (sT _ _ eD);refine ⟨e3,by omega,zs.length-(i+1),by omega,rfl,bL,ax,fu (sH.trans (sT.trans s3)) nD,by simp [el],fun j v' e=>?_⟩
  by_cases hj:j<i;·exact hP j v' (by rw [eG (by omega)] at e;exact e)
  ·have hj:j=i:=by have:=(cg.mp e).1;simp at this;omega
   subst hj;have e':v'=w:=by rw [dO (by omega),el,mN] at e;simpa using e.symm
   subst e';exact hp
 ·have e:i=zs.length:=by omega
  subst e;exact .inl ⟨js.stop _ Hc sH (aC _),fin D vs Hc (s1.trans sH) el hP eD⟩
theorem Ah(eA:∀R:It→Hp→Prop,(∀J H1,ai H H1→kg J xs H1→R J H1)→wi σ H R)(hn:xs.length<sizeLine)
  (P:Addr→Nat→V→Hp→Prop) (mono:∀D i y H H' ys,P D i y H→H D=some (.lst ys)→(∀b o,b≠D→H b=some o→H' b=some o)→P D i y H')
  (step:∀D i x,xs[i]?=some x→∀(Hc:Hp) (R:VK),ai H Hc→(∃ys,Hc D=some (.lst ys))→(∀y H3,ai Hc H3→P D i y H3→R y H3)→te (some x::ρ σ) Hc R)
  (fin:∀D ys Hc,H D=none→ai H Hc→ys.length=xs.length→(∀(i:Nat) (y:V),ys[i]?=some y→P D i y Hc)→Hc D=some (.lst ys)→Q (.ref D) Hc):gY wi ρ (fun _ H Q=>Q true H) te σ H Q:=by
 refine eA _ fun J H1 s1 js=>?_;intro D nD;have hD:H D=none:=by
  cases e:H D with
  | none=>rfl
  | some o=>rw [s1 _ _ e] at nD;cases nD
 exact Aa (ρσ:=ρ σ) (te:=te) (Q:=Q) js nD hn (P D) (mono D) (fun i x hx Hc R sc=>step D i x hx Hc R (s1.trans sc)) (fun ys Hc sc=>fin D ys Hc hD (s1.trans sc))
section
variable {X:Cx} {K:aG}
theorem Ge(hK:X.K=K:=by rfl):nk X (zL K):=by subst hK;exact dU
theorem Gf(hK:X.K=K:=by rfl):nk X (zK K):=by subst hK;exact cN
end
end L2
namespace My
open PySem L2
variable {te:TE} {σ:St} {H:Hp} {Q:VK}
theorem nC{r:List V→Hp→VK→Prop}(h:te σ H fun x H1=>r [x] H1 Q):vX r (sF te y8) σ H Q:=h
theorem Gg{D:Ends}(h:te σ H D.rt):yL te D σ H:=h
theorem Gh{vs:List V}{b:Bool}(h:∀(i:Nat) (v:V),vs[i]?=some v→v=.bl b):vs=(List.replicate vs.length b).map V.bl:=by
 refine o1 fun i=>?_;rw [dj];by_cases hi:i<vs.length
 ·rw [show vs[i]?=some vs[i] by simp [hi],h i vs[i] (by simp [hi])]
  simp [hi]
 ·rw [mO (by omega),mO (by simp;omega)]
  rfl
theorem Gi(n:Nat):(List.replicate n true).all id=true:=by simp
theorem wx{r:R2}{ta tb:TE}(h:ta σ H fun x H1=>tb σ H1 fun y H2=>r x y H2 Q):jU r ta tb σ H Q:=h
variable {H':Hp} {b:Addr}
theorem none_of(s:ai H H')(h:H' b=none):H b=none:=by
 cases e:H b with
 | none=>rfl
 | some o=>rw [s _ _ e] at h;cases h
theorem getD_at{α:Type}{xs:List α}{d:α}{i:Nat}(hi:i<xs.length):xs.getD i d=xs[i]:=by
 rw [jJ,show xs[i]?=some xs[i] by simp [hi]]
 rfl
def er(P:Addr)(H:Hp):Hp:=fun b=>if b=P then none else H b
variable {P:Addr}
theorem lE:ai (er P H) H:=fun b o e=>by
 unfold er at e
 split at e
 ·cases e
 ·exact e
theorem cV(h:b≠P):er P H b=H b:=ae h
variable {o:HO}
theorem qk(h:b≠P)(e:H b=some o):er P H b=some o:=by rw [cV h];exact e
theorem s_(s:ai H H'):ai (er P H) (er P H'):=fun b o e=>by
 unfold er at e ⊢
 split at e
 ·cases e
 ·rename_i h
  rw [ae h];exact s _ _ e
theorem wy:er P (upd H P o)=er P H:=funext fun b=>by
 unfold er
 split
 ·rfl
 ·rename_i h
  exact bf h
def bu(H:Hp)(P a:Addr):Prop:=∃x y:Int,H P=some (.lst [.ref a,.int x,.int y])∧0≤x∧0≤y
variable {a:Addr}
theorem bu.mono(h:bu H P a)(s:ai H H'):bu H' P a:=by obtain ⟨x,y,e,h1,h2⟩:=h;exact ⟨x,y,s _ _ e,h1,h2⟩
variable {D:Addr}
theorem bu.upd(h:bu H P a)(n:D≠P):bu (L2.upd H D o) P a:=by obtain ⟨x,y,e,h1,h2⟩:=h;exact ⟨x,y,by rw [bf n.symm];exact e,h1,h2⟩
theorem bu.ne(h:bu H P a)(n:H D=none):D≠P:=fun z=>by obtain ⟨x,y,e,_⟩:=h;rw [z,e] at n;cases n
def aE(P:Addr)(H H':Hp):Prop:=ai (er P H) (er P H')
theorem aE.refl(H:Hp):aE P H H:=ai.refl _
theorem aE.trans{H2:Hp}(s:aE P H H')(t:aE P H' H2):aE P H H2:=ai.trans s t
theorem aE.of(s:ai H H'):aE P H H':=s_ s
theorem aE.eM:aE P H (upd H P o):=by unfold aE;rw [wy];exact ai.refl _
theorem aE.but(s:aE P H H')(n:H D=none):aE P H (upd H' D o):=fun b u e=>by
 have e0:=s b u e;have nb:b≠P:=fun z=>by unfold er at e;rw [aj z] at e;cases e
 rw [cV nb] at e e0 ⊢;rw [bf (gp e n)];exact e0
theorem aE.at(s:aE P H H')(nb:b≠P)(e:H b=some o):H' b=some o:=by have z:=s b o (qk nb e);rw [cV nb] at z;exact z
end My
namespace L2
open PySem PySem.Spec PyProof.Rows
end L2
namespace My
open PySem L2
def Gj:Sp:=fun vs H Q _=>∃c a:Int,vs=[.int c,.int a]∧0≤a∧∀r:Int,0≤r→Q (.int r) H
def Gk(K:aG):Sp:=fun vs H Q _=>∃(P a:Addr) (ns:List Int) (many:Int),vs=[.ref P,.int many]∧bu H P a∧bq K (er P H) a (ns.map V.int)∧1≤many∧dC many∧∀(r:Int) (H':Hp),0≤r→r<many→aE P H H'→bu H' P a→Q (.int r) H'
end My
namespace L2
open PySem PySem.Spec PyProof.Rows
end L2
namespace My
open PySem L2
end My
namespace L2
open PySem PySem.Spec PyProof.Rows
section
variable {X:Cx}
end
end L2
namespace My
open PySem L2
end My
namespace L2
open PySem PySem.Spec PyProof.Rows
section
variable {X:Cx} {tg:Expr}
end
section
variable {X:Cx} {e:Expr} {te:TE} {pos p2:Pos}
end
end L2
namespace My
open PySem L2
theorem Gm{wi:TI}{ρ:St→St}{te:TE}{σ:St}{H:Hp}{Q:VK}{xs:List V}{n:Nat}(hl:xs.length=n)(eA:∀R:It→Hp→Prop,(∀J H1,ai H H1→kg J xs H1→R J H1)→wi σ H R)(hn:n<sizeLine)
  (P:Addr→Nat→Addr→Hp→Prop) (mono:∀D i y H H' ys,P D i y H→y≠D→H D=some (.lst ys)→(∀b o,b≠D→H b=some o→H' b=some o)→P D i y H')
  (step:∀D (i:Nat) (x:V),xs[i]?=some x→∀(Hc:Hp) (R:VK),ai H Hc→(∃ys,Hc D=some (.lst ys))→(∀y H3,ai Hc H3→Hc y=none→(∃o,H3 y=some o)→P D i y H3→R (.ref y) H3)→te (some x::ρ σ) Hc R)
  (fin:∀D (A:Nat→Addr) Hc,H D=none→ai H Hc→(∀i j,i<n→j<n→A i=A j→i=j)→(∀i,i<n→P D i (A i) Hc∧A i≠D)→Hc D=some (.lst ((List.range n).map fun i=>V.ref (A i)))→Q (.ref D) Hc):gY wi ρ (fun _ H Q=>Q true H) te σ H Q:=by
 refine eA _ fun J H1 s1 js=>?_;intro D nD;have hD:H D=none:=by
  cases e:H D with
  | none=>rfl
  | some o=>rw [s1 _ _ e] at nD;cases nD
 refine ⟨fun i m ys Hc=>m=n-i∧i≤n∧Hc D=some (.lst ys)∧ai H1 Hc∧∃A:Nat→Addr,ys=(List.range i).map (fun j=>V.ref (A j))∧(∀a b,a<i→b<i→A a=A b→a=b)∧∀j,j<i→P D j (A j) Hc∧A j≠D∧∃o,Hc (A j)=some o,⟨_,rfl,bG _,ax,fu (ai.refl H1) nD,fun _=>D,rfl,(fun a b h=>by omega),fun j h=>by omega⟩,?_⟩
 rintro i m ys Hc ⟨rfl,hi,eD,sH,A,rfl,inj,hA⟩;refine ⟨eD,?_⟩;by_cases bL:i<n
 ·refine .inr ⟨js.go i Hc sH (by omega),fun x H' hy=>?_⟩
  obtain ⟨rfl,hx⟩:=js.c5 i Hc x H' sH hy;rw [aj rfl];refine step D i x (hx (by omega)) _ _ (s1.trans sH) ⟨_,eD⟩ fun y H3 s3 ny ⟨o,ho⟩ hp=>?_
  have e3:=s3 _ _ eD;have yD:y≠D:=fun e=>by rw [e,eD] at ny;cases ny
  have ck:∀b o,b≠D→H3 b=some o→upd H3 D (.lst ((List.range i).map (fun j=>V.ref (A j))++[.ref y])) b=some o:=fun b o nb e=>by rw [bf nb];exact e
  have nA:∀j,j<i→A j≠y:=fun j hj e=>by obtain ⟨_,_,o',h'⟩:=hA j hj;rw [e,ny] at h';cases h'
  refine ⟨e3,by simp;omega,n-(i+1),by omega,rfl,bL,ax,fu (sH.trans s3) nD,fun j=>if j=i then y else A j,?_,fun a b ha hb e=>?_,fun j hj=>?_⟩
  ·rw [jK,iZ]
   congr 1
   ·refine mP fun j hj=>?_
    dsimp only;rw [ae (by have:=gN.mp hj;omega)]
   ·simp
  ·dsimp only at e
   by_cases z1:a=i
   ·by_cases z2:b=i
    ·omega
    ·rw [aj z1,ae z2] at e
     exact absurd e.symm (nA b (by omega))
   ·by_cases z2:b=i
    ·rw [ae z1,aj z2] at e
     exact absurd e (nA a (by omega))
    ·rw [ae z1,ae z2] at e
     exact inj a b (by omega) (by omega) e
  ·dsimp only
   by_cases z:j=i
   ·rw [aj z,z]
    exact ⟨mono D i y H3 _ _ hp yD e3 ck,yD,o,ck _ _ yD ho⟩
   ·rw [ae z]
    obtain ⟨h1,h2,o',h3⟩:=hA j (by omega)
    exact ⟨mono D j (A j) H' _ _ h1 h2 eD (fun b o nb e=>ck b o nb (s3 _ _ e)),h2,o',ck _ _ h2 (s3 _ _ h3)⟩
 ·have e:i=n:=by omega
  subst e;exact .inl ⟨js.stop _ Hc sH (by omega),fin D A Hc hD (s1.trans sH) inj (fun j hj=>⟨(hA j hj).1,(hA j hj).2.1⟩) eD⟩
end My
namespace L2
open PySem PySem.Spec PyProof.Rows
def Gn(K:aG):R2:=fun x y H Q=>∃(a b:Addr) (xs ys:List Int),x=.ref a∧y=.ref b∧bq K H a (xs.map V.int)∧bq K H b (ys.map V.int)∧Q (.bl (!decide (xs=ys))) H
theorem Gp{xs ys:List Int}(h:xs.length=ys.length):((List.range xs.length).all fun j=>iD (.int (xs.getD j 0)) (.int (ys.getD j 0)))=decide (xs=ys):=by
 by_cases e:xs=ys
 ·subst e
  rw [bg rfl,rj];intro j _;exact Gb rfl
 ·rw [bp e]
  cases z:((List.range xs.length).all fun j=>iD (.int (xs.getD j 0)) (.int (ys.getD j 0))) with
  | false=>rfl
  | true=>refine absurd (o4 h fun j h1 h2=>?_) e;have:=rj.mp z j (gN.mpr h1);have this:(xs.getD j 0 == ys.getD j 0)=true:=this;rw [beq_iff_eq,jJ,jJ] at this;simpa [h1,h2] using this
theorem Gq{X:Cx}(hu:X.A.units+64<cLine):bI X (compareOp .NotEq) (Gn X.K):=by
 intro pins s σ H x y v u Q I rx ry h;obtain ⟨a,b,xs,ys,rfl,rfl,h1,h2,q⟩:=h;cases rx;cases ry;obtain ⟨us,r1,t1,_⟩:=I.list h1;obtain ⟨vs,r2,t2,_⟩:=I.list h2;have l1:=r1.length;have l2:=r2.length;rw [ba] at l1 l2;by_cases hl:xs.length=ys.length
 ·refine SeqAt.RcNeAt.lists (e:=fun j=>iD (.int (xs.getD j 0)) (.int (ys.getD j 0))) t1.isList t2.isList (by simp;omega) (by omega) (fun j z1 z2=>?_) _ _ _ _ ?_
  ·have tf:j<us.length:=by simpa using z1
   have OI:j<vs.length:=by simpa using z2
   have ex:(xs.map V.int)[j]?=some (.int (xs.getD j 0)):=by rw [dj,jJ];simp [show j<xs.length by omega]
   have ey:(ys.map V.int)[j]?=some (.int (ys.getD j 0)):=by rw [dj,jJ];simp [show j<ys.length by omega]
   obtain ⟨x',vy,rx⟩:=r1.get ex;obtain ⟨y',Gr,ry⟩:=r2.get ey;have e1:us.toArray[j]=x':=by simpa using (cg.mp vy).2
   have e2:vs.toArray[j]=y':=by simpa using (cg.mp Gr).2
   rw [e1,e2];exact v8 rx ry rfl rfl
  ·rw [show us.toArray.size=xs.length by simp;omega,Gp hl]
   exact ⟨.bl (!decide (xs=ys)),H,I,rfl,q⟩
 ·rw [bp (fun e=>hl (by rw [e]))] at q
  refine SeqAt.RcNeAt.lists_lengths t1.isList t2.isList ?_ (by omega) _ _ _ _ ⟨.bl true,H,I,rfl,q⟩
  simp;omega
end L2
namespace My
open PySem L2
end My
namespace L2
open PySem PySem.Spec PyProof.Rows
end L2
namespace My
open PySem L2
end My
namespace L2
open PySem PySem.Spec PyProof.Rows
section
variable {X:Cx}
end
end L2
namespace My
open PySem L2
end My
namespace L2
open PySem PySem.Spec PyProof.Rows
end L2
namespace My
open PySem L2
end My
namespace L2
open PySem PySem.Spec PyProof.Rows
section
variable {X:Cx} {N:List Str} {scope:Scope} {cl:List (Str×Addr)} {x y:Str} {px py pos tp:Pos} {qj:Nat} {iter elt:Expr} {ifs:List Expr} {wi:TI} {ρ:St→St} {tt:TT} {te:TE}
end
section
variable {X:Cx} {pins:aL} {σ:St} {H:Hp} {s:Shared}
end
end L2
namespace My
open PySem PySem.W PyProof.Rows
section
variable {n:Nat} {c:Nat→Int}
def jl(n:Nat)(p:Array Nat):Prop:=p.Perm (List.toArray (List.range n))
theorem jl.size{p:Array Nat}(h:jl n p):p.size=n:=by rw [Array.Perm.size_eq h];simp
def vN(c:Nat→Int)(p:Array Nat)(i:Nat):Int:=c (p.getD i 0)
def lF(c:Nat→Int)(p:Array Nat)(k:Nat):Prop:=∀a b,a≤b→b<k→vN c p a≤vN c p b
end
end My
namespace Tm
open PySem PySem.W PyProof.Rows
def kh:Bool→Keyed→Array Keyed→Nat→Nat→Nat→StateT SortSt Sem (Option Nat):=sortPriv% PySem.Builtin.gallop
def ql:Nat→StateT SortSt Sem Unit:=sortPriv% PySem.Builtin.setMinGallop
def wz:Array Keyed→Array Keyed→StateT SortSt Sem (Array Keyed):=sortPriv% PySem.Builtin.mergeLo
def wA:Array Keyed→Array Keyed→StateT SortSt Sem (Array Keyed):=sortPriv% PySem.Builtin.mergeHi
def lG(left:Bool)(key:Keyed)(arr:Array Keyed)(base i:Nat):StateT SortSt Sem (Option Bool):=do
 let x ←elem' arr (base+i)
 if left then lt' x key else return (←lt' key x).map (!·)
theorem Gs(left:Bool)(key:Keyed)(arr:Array Keyed)(base n hint:Nat):kh left key arr base n hint=(do
 let mut tj:=0
 let mut aX:=1
 let mut lo:=0
 let mut hi:=0
 let some right ←lG left key arr base hint | return none
 if right then
  let qm:=n-hint
  for _ in [0:n] do
   if aX≥qm then break
   let some more ←lG left key arr base (hint+aX) | return none
   if !more then break
   tj:=aX
   aX:=2*aX+1
  lo:=hint+tj+1
  hi:=hint+min aX qm
 else
  let qm:=hint+1
  for _ in [0:n] do
   if aX≥qm then break
   let some found ←lG left key arr base (hint-aX) | return none
   if found then break
   tj:=aX
   aX:=2*aX+1
  lo:=hint+1-min aX qm
  hi:=hint-tj
 for _ in [0:n] do
  if lo≥hi then break
  let m:=lo+(hi-lo) / 2
  let some more ←lG left key arr base m | return none
  if more then lo:=m+1 else hi:=m
 return some hi):=rfl
section
variable {prog:Program} {w:World} {A:Around} {E:aF} {s:Shared} {κ:SortKind} {key:Keyed→Int} {Ok:Keyed→Prop}
def gA(prog:Program)(w:World)(A:Around)(s:Shared)(κ:SortKind)(key:Keyed→Int)(Ok:Keyed→Prop):Prop:=
 ∀x y,Ok x→Ok y→∀C:Bool→Shared→Prop,C (decide (key x<key y)) s→wpAny (model prog w) A (keyLt' κ x.1 y.1) C (fun _ _=>False) s
variable {st:SortSt} {Q:Option Bool→SortSt→Prop}
theorem qo(h:gA prog w A s κ key Ok){x y:Keyed}(ox:Ok x)(oy:Ok y)(hk:kindOf st=κ)(q:Q (some (decide (key x<key y))) st):wpS (model prog w) A E s (lt' x y) Q st:=by rw [lt'_eq];refine ar (fJ ?_);rw [hk];refine ar (wpS_lift (o5 (bC (h x y ox oy (fun c s'=>s'=s∧wpS (model prog w) A E s (pure (some c)) Q st) ⟨rfl,aq q⟩) (fun c s' hc=>?_) fun _ _ hF=>hF.elim)));exact hc
def nn:Keyed:=(Value.none,Value.none)
variable {arr:Array Keyed} {i:Nat}
theorem aY(hi:i<arr.size){Q:Keyed→SortSt→Prop}(q:Q (arr.getD i nn) st):wpS (model prog w) A E s (elem' arr i) Q st:=by
 rw [elem'_eq];have e:arr[i]?=some (arr.getD i nn):=by simp [Array.getD,hi]
 rw [e];exact aq q
def dr(Ok:Keyed→Prop)(arr:Array Keyed):Prop:=∀i,i<arr.size→Ok (arr.getD i nn)
def bB(left:Bool)(k a:Int):Bool:=if left=true then decide (a<k) else !decide (k<a)
variable {left:Bool} {kx:Keyed} {base:Nat}
theorem fv(h:gA prog w A s κ key Ok)(hi:base+i<arr.size)(ha:dr Ok arr)(ox:Ok kx)(hk:kindOf st=κ)(q:Q (some (bB left (key kx) (key (arr.getD (base+i) nn)))) st):wpS (model prog w) A E s (lG left kx arr base i) Q st:=by
 unfold lG;refine ar (aY hi ?_);unfold bB at q;cases left with
 | true=>rw [aj rfl] at q ⊢;exact qo h (ha _ hi) ox hk q
 | false=>
  rw [ae (by simp)] at q ⊢
  exact ar (qo h ox (ha _ hi) hk (aq q))
theorem fw{n hint:Nat}{f:Nat→Bool}
  (hb:∀i,i<n→∀Q:Option Bool→SortSt→Prop,Q (some (f i)) st→wpS (model prog w) A E s (lG left kx arr base i) Q st)
  (hh:hint<n) (mono:∀i j,i≤j→j<n→f j=true→f i=true) {Q:Option Nat→SortSt→Prop}
  (k:∀m,m≤n→(∀i,i<m→f i=true)→(∀i,m≤i→i<n→f i=false)→Q (some m) st):wpS (model prog w) A E s (kh left kx arr base n hint) Q st:=by
 rw [Gs];refine ar (hb hint hh _ ?_);dsimp only;have wB:∀i j,i≤j→j<n→f i=false→f j=false:=fun i j h1 h2 h3=>by
  cases e:f j with
  | false=>rfl
  | true=>rw [mono i j h1 h2 e] at h3;cases h3
 have bs:∀(lo hi:Nat) (body:Nat→Option (Option Nat)×Nat×Nat→StateT SortSt Sem (ForInStep (Option (Option Nat)×Nat×Nat))) (R:Option (Option Nat)×Nat×Nat→SortSt→Prop),lo≤hi→hi≤n→(∀i,i<lo→f i=true)→(∀i,hi≤i→i<n→f i=false)→
   (∀x lo hi (R:ForInStep (Option (Option Nat)×Nat×Nat)→SortSt→Prop),lo≥hi→R (.done (none,lo,hi)) st→wpS (model prog w) A E s (body x (none,lo,hi)) R st)→
   (∀x lo hi (R:ForInStep (Option (Option Nat)×Nat×Nat)→SortSt→Prop),lo<hi→hi≤n→R (.yield (if f (lo+(hi-lo) / 2)=true then (none,lo+(hi-lo) / 2+1,hi) else (none,lo,lo+(hi-lo) / 2))) st→wpS (model prog w) A E s (body x (none,lo,hi)) R st)→
   (∀m,m≤n→(∀i,i<m→f i=true)→(∀i,m≤i→i<n→f i=false)→R (none,m,m) st)→
   wpS (model prog w) A E s (forIn [0:n] (none,lo,hi) body) R st:=fun lo hi body R h1 h2 h3 h4 b1 b2 kk=>by
  refine dy (I:=fun x c aw=>aw=st∧∃lo hi,c=(none,lo,hi)∧lo≤hi∧hi≤n∧hi-lo+x≤n∧(∀i,i<lo→f i=true)∧(∀i,hi≤i→i<n→f i=false)) ?_ ?_ ⟨rfl,lo,hi,rfl,h1,h2,by omega,h3,h4⟩
  ·rintro x c aw _ hx ⟨rfl,lo,hi,rfl,g1,g2,g3,g4,g5⟩
   by_cases z:lo≥hi
   ·refine b1 x lo hi _ z ?_
    obtain rfl:lo=hi:=by omega
    exact kk lo g2 g4 g5
   ·refine b2 x lo hi _ (by omega) g2 ?_
    cases e:f (lo+(hi-lo) / 2) with
    | true=>rw [aj rfl];exact ⟨rfl,_,_,rfl,by omega,g2,by omega,fun i aS=>mono i (lo+(hi-lo) / 2) (by omega) (by omega) e,g5⟩
    | false=>
     rw [ae (by simp)]
     exact ⟨rfl,_,_,rfl,by omega,by omega,by omega,g4,fun i h1 h2=>wB (lo+(hi-lo) / 2) i h1 h2 e⟩
  ·rintro c aw ⟨rfl,lo,hi,rfl,g1,g2,g3,g4,g5⟩
   have:lo=hi:=by
    have:max 0 n=n:=by omega
    omega
   subst this;exact kk lo g2 g4 g5
 cases e:f hint with
 | true=>
  rw [aj rfl]
  refine ar (dP (dy (I:=fun x c aw=>aw=st∧∃la aX,c=(none,la,aX)∧x+1≤aX∧la<aX∧la<n-hint∧f (hint+la)=true)
   (Q:=fun c aw=>aw=st∧∃la aX,c=(none,la,aX)∧la<aX∧la<n-hint∧f (hint+la)=true∧(aX≥n-hint∨f (hint+aX)=false)) ?_ ?_ ⟨rfl,0,1,rfl,aC _,by omega,by omega,by simpa using e⟩) ?_)
  ·rintro x c aw _ hx ⟨rfl,la,aX,rfl,g1,g2,g3,g4⟩
   dsimp only;by_cases z:aX≥n-hint
   ·rw [aj z]
    exact aq ⟨rfl,la,aX,rfl,g2,g3,g4,.inl z⟩
   ·rw [ae z]
    refine ar (hb _ (by omega) _ ?_)
    dsimp only;cases e':f (hint+aX) with
    | true=>
     rw [ae (by simp)]
     exact aq ⟨rfl,_,_,rfl,by omega,by omega,by omega,e'⟩
    | false=>
     rw [aj (by simp)]
     exact aq ⟨rfl,la,aX,rfl,g2,g3,g4,.inr e'⟩
  ·rintro c aw ⟨rfl,la,aX,rfl,g1,g2,g3,g4⟩
   have:max 0 n=n:=by omega
   exact ⟨rfl,la,aX,rfl,g2,g3,g4,.inl (by omega)⟩
  ·rintro c aw ⟨rfl,la,aX,rfl,g2,g3,g4,g5⟩
   refine ar (bs (hint+la+1) (hint+min aX (n-hint)) _ _ (by omega) (by omega) (fun i hi=>mono i (hint+la) (by omega) (by omega) g4) (fun i h1 h2=>?_) ?_ ?_ ?_)
   ·rcases g5 with g5 | g5
    ·omega
    ·by_cases z:aX≥n-hint
     ·omega
     ·exact wB (hint+aX) i (by omega) h2 g5
   ·intro x lo hi R z hR
    dsimp only;rw [aj z];exact aq hR
   ·intro x lo hi R z z2 hR
    dsimp only;rw [ae (by omega)]
    refine ar (hb _ (by omega) _ ?_)
    dsimp only;cases e:f (lo+(hi-lo) / 2) with
    | true=>rw [e,aj rfl] at hR;rw [aj rfl];exact aq hR
    | false=>
     rw [e,ae (by simp)] at hR
     rw [ae (by simp)]
     exact aq hR
   ·exact fun m m1 m2 m3=>aq (k m m1 m2 m3)
 | false=>
  rw [ae (by simp)]
  refine ar (dP (dy (I:=fun x c aw=>aw=st∧∃la aX,c=(none,la,aX)∧x+1≤aX∧la<aX∧la≤hint∧f (hint-la)=false)
   (Q:=fun c aw=>aw=st∧∃la aX,c=(none,la,aX)∧la<aX∧la≤hint∧f (hint-la)=false∧(aX≥hint+1∨f (hint-aX)=true)) ?_ ?_ ⟨rfl,0,1,rfl,aC _,by omega,by omega,by simpa using e⟩) ?_)
  ·rintro x c aw _ hx ⟨rfl,la,aX,rfl,g1,g2,g3,g4⟩
   dsimp only;by_cases z:aX≥hint+1
   ·rw [aj z]
    exact aq ⟨rfl,la,aX,rfl,g2,g3,g4,.inl z⟩
   ·rw [ae z]
    refine ar (hb _ (by omega) _ ?_)
    dsimp only;cases e':f (hint-aX) with
    | true=>rw [aj rfl];exact aq ⟨rfl,la,aX,rfl,g2,g3,g4,.inr e'⟩
    | false=>
     rw [ae (by simp)]
     exact aq ⟨rfl,_,_,rfl,by omega,by omega,by omega,e'⟩
  ·rintro c aw ⟨rfl,la,aX,rfl,g1,g2,g3,g4⟩
   have:max 0 n=n:=by omega
   exact ⟨rfl,la,aX,rfl,g2,g3,g4,.inl (by omega)⟩
  ·rintro c aw ⟨rfl,la,aX,rfl,g2,g3,g4,g5⟩
   refine ar (bs (hint+1-min aX (hint+1)) (hint-la) _ _ (by omega) (by omega) (fun i hi=>?_) (fun i h1 h2=>wB (hint-la) i (by omega) h2 g4) ?_ ?_ ?_)
   ·rcases g5 with g5 | g5
    ·omega
    ·by_cases z:aX≥hint+1
     ·omega
     ·exact mono i (hint-aX) (by omega) (by omega) g5
   ·intro x lo hi R z hR
    dsimp only;rw [aj z];exact aq hR
   ·intro x lo hi R z z2 hR
    dsimp only;rw [ae (by omega)]
    refine ar (hb _ (by omega) _ ?_)
    dsimp only;cases e:f (lo+(hi-lo) / 2) with
    | true=>rw [e,aj rfl] at hR;rw [aj rfl];exact aq hR
    | false=>
     rw [e,ae (by simp)] at hR
     rw [ae (by simp)]
     exact aq hR
   ·exact fun m m1 m2 m3=>aq (k m m1 m2 m3)
end
def aV(K:Keyed→Int)(l:List Keyed):Prop:=l.Pairwise fun x y=>K x≤K y
variable {K:Keyed→Int} {l:List Keyed}
theorem aV.take(h:aV K l)(k:Nat):aV K (l.take k):=List.Pairwise.sublist (List.take_sublist k l) h
theorem aV.drop(h:aV K l)(k:Nat):aV K (l.drop k):=List.Pairwise.sublist (List.drop_sublist k l) h
variable {m:List Keyed}
theorem aV.app(h:aV K l)(h':aV K m)(k:∀x∈l,∀y∈m,K x≤K y):aV K (l++m):=List.pairwise_append.mpr ⟨h,h',k⟩
structure MI (K:Keyed→Int) (A B O:List Keyed) (i j:Nat):Prop where
 pm:O.Perm (A.take i++B.take j)
 so:aV K O
 ca:∀x∈O,∀y∈A.drop i,K x≤K y
 cb:∀x∈O,∀y∈B.drop j,K x≤K y
variable {A B O:List Keyed} {i j:Nat}
theorem MI.flip(h:MI K A B O i j):MI K B A O j i:=⟨h.pm.trans kG,h.so,h.cb,h.ca⟩
theorem MI.tm(h:MI K A B O i j)(sA:aV K A)(k:Nat)(hk:∀x∈(A.drop i).take k,∀y∈B.drop j,K x≤K y):MI K A B (O++(A.drop i).take k) (i+k) j:=by
 have e:A.take (i+k)=A.take i++(A.drop i).take k:=List.take_add;have d:A.drop (i+k)=(A.drop i).drop k:=by rw [List.drop_drop]
 have sd:=sA.drop i;have sp:(A.drop i).take k++(A.drop i).drop k=A.drop i:=mQ ..;have cr:∀x∈(A.drop i).take k,∀y∈(A.drop i).drop k,K x≤K y:=by have:=sd;rw [←sp] at this;exact (List.pairwise_append.mp this).2.2
 refine ⟨?_,h.so.app (sd.take k) fun x hx y hy=>h.ca x hx y (o6 hy),fun x hx y hy=>?_,fun x hx y hy=>?_⟩
 ·rw [e]
  refine (h.pm.append_right _).trans ?_;rw [gm,gm];exact vk _ kG
 ·rw [d] at hy
  rcases d8.mp hx with hx | hx;·exact h.ca x hx y (rn hy)
  ·exact cr x hx y hy
 ·rcases d8.mp hx with hx | hx
  ·exact h.cb x hx y hy
  ·exact hk x hx y hy
theorem MI.wC(h:MI K A B O i j)(sB:aV K B)(k:Nat)(hk:∀x∈(B.drop j).take k,∀y∈A.drop i,K x≤K y):MI K A B (O++(B.drop j).take k) i (j+k):=(h.flip.tm sB k hk).flip
theorem MI.done(h:MI K A B O i j)(sA:aV K A)(sB:aV K B)(k:∀x∈A.drop i,∀y∈B.drop j,K x≤K y):(O++A.drop i++B.drop j).Perm (A++B)∧aV K (O++A.drop i++B.drop j):=by
 refine ⟨?_,(h.so.app (sA.drop i) h.ca).app (sB.drop j) fun x hx y hy=>?_⟩
 ·have e1:A.take i++A.drop i=A:=mQ ..
  have e2:B.take j++B.drop j=B:=mQ ..;have:(A.take i++B.take j++A.drop i++B.drop j).Perm ((A.take i++A.drop i)++(B.take j++B.drop j)):=by rw [gm,gm,gm];refine vk _ ?_;rw [←gm,←gm];exact List.Perm.append_right _ kG
  rw [e1,e2] at this;exact ((h.pm.append_right _).append_right _).trans this
 ·rcases d8.mp hx with hx | hx
  ·exact h.cb x hx y hy
  ·exact k x hx y hy
theorem MI.Ai(h:MI K A B O i j)(sA:aV K A)(sB:aV K B)(k:∀x∈A.drop i,∀y∈B.drop j,K y≤K x):(O++B.drop j++A.drop i).Perm (A++B)∧aV K (O++B.drop j++A.drop i):=by have:=h.flip.done sB sA fun x hx y hy=>k y hy x hx;exact ⟨this.1.trans kG,this.2⟩
theorem Gu(a b:Array Keyed):wz a b=(do
 rule "list.sort.merge-lo"
 let total:=a.size+b.size
 let done (out:Array Keyed) (ia ib:Nat):=out++a.extract ia a.size++b.extract ib b.size
 let tq (out:Array Keyed) (ia ib:Nat):=out++b.extract ib b.size++a.extract ia a.size
 let mut out:Array Keyed:=#[←elem' b 0]
 let mut ia:=0
 let mut ib:=1
 if ib == b.size then return done out ia ib
 if ia+1 == a.size then return tq out ia ib
 let mut minGallop:=gallopOf (←get)
 for _ in [0:total] do
  let mut fU:=0
  let mut fV:=0
  for _ in [0:total] do
   let some Gv ←lt' (←elem' b ib) (←elem' a ia) | return done out ia ib
   if Gv then
    out:=out.push (←elem' b ib);ib:=ib+1;fV:=fV+1;fU:=0
    if ib == b.size then return done out ia ib
    if fV≥minGallop then break
   else
    out:=out.push (←elem' a ia);ia:=ia+1;fU:=fU+1;fV:=0
    if ia+1 == a.size then return tq out ia ib
    if fU≥minGallop then break
  rule "list.sort.gallop"
  minGallop:=minGallop+1
  for _ in [0:total] do
   if minGallop>1 then minGallop:=minGallop-1
   ql minGallop
   let some k ←kh false (←elem' b ib) a ia (a.size-ia) 0 | return done out ia ib
   fU:=k
   if k>0 then
    out:=out++a.extract ia (ia+k);ia:=ia+k
    if ia+1 == a.size then return tq out ia ib
    if ia == a.size then return done out ia ib
   out:=out.push (←elem' b ib);ib:=ib+1
   if ib == b.size then return done out ia ib
   let some k ←kh true (←elem' a ia) b ib (b.size-ib) 0 | return done out ia ib
   fV:=k
   if k>0 then
    out:=out++b.extract ib (ib+k);ib:=ib+k
    if ib == b.size then return done out ia ib
   out:=out.push (←elem' a ia);ia:=ia+1
   if ia+1 == a.size then return tq out ia ib
   if fU<7 && fV<7 then break
  minGallop:=minGallop+1
  ql minGallop
 unsupported "internal:list.sort.merge-bound"):=rfl
section
variable {prog:Program} {w:World} {A:Around} {E:aF} {s:Shared} {κ:SortKind} {key:Keyed→Int} {Ok:Keyed→Prop}
def setG(st:SortSt)(g:Nat):SortSt:=SortSt.mk' (kindOf st) (arrOf st) (pendingOf st) g (failedOf st)
variable {a:Array Keyed}
theorem qp(hi:i<a.size):(a.toList.drop i).take 1=[a.getD i nn]:=by
 have hl:i<a.toList.length:=by simpa using hi
 rw [List.drop_eq_getElem_cons hl];simp [Array.getD,hi]
theorem gB(a:Array Keyed)(i j:Nat):(a.extract i j).toList=(a.toList.drop i).take (j-i):=by rw [Array.toList_extract,List.extract_eq_take_drop]
theorem tu(a:Array Keyed)(i:Nat):(a.extract i a.size).toList=a.toList.drop i:=by rw [gB];refine List.take_of_length_le ?_;simp
variable {x:Keyed}
theorem lH(h:x∈a.toList.drop i):∃j,i≤j∧j<a.size∧x=a.getD j nn:=by
 obtain ⟨j,hj,rfl⟩:=List.getElem_of_mem h;have da:i+j<a.size:=by simp at hj;omega
 refine ⟨i+j,by omega,da,?_⟩
 rw [List.getElem_drop];simp [Array.getD,da]
theorem wD{k:Nat}(h:x∈(a.toList.drop i).take k):∃j,j<k∧i+j<a.size∧x=a.getD (i+j) nn:=by
 obtain ⟨j,hj,rfl⟩:=List.getElem_of_mem h;have da:i+j<a.size∧j<k:=by simp at hj;omega
 refine ⟨j,da.2,da.1,?_⟩;rw [List.getElem_take,List.getElem_drop];simp [Array.getD,da.1]
theorem dD(h:aV key a.toList)(Aj:i≤j)(hj:j<a.size):key (a.getD i nn)≤key (a.getD j nn):=by
 have hi:i<a.size:=by omega
 by_cases e:i=j;·subst e;exact i3 _
 ·have:=o7.mp h i j (by simpa using hi) (by simpa using hj) (by omega)
  simpa [Array.getD,hi,hj] using this
variable {st:SortSt}
theorem cW{c:Prop}[Decidable c]{α:Type}{m1 m2:StateT SortSt Sem α}{Q:α→SortSt→Prop}(h1:c→wpS (model prog w) A E s m1 Q st)(h2:¬c→wpS (model prog w) A E s m2 Q st):wpS (model prog w) A E s (if c then m1 else m2) Q st:=by
 by_cases h:c;·rw [aj h];exact h1 h
 ·rw [ae h];exact h2 h
theorem nE{g:Nat}{Q:Unit→SortSt→Prop}(q:Q () (setG st g)):wpS (model prog w) A E s (ql g) Q st:=gO q
variable {k:Int}
theorem eN{a:Int}(h:bB true k a=true):a<k:=e_ h
theorem fz{a:Int}(h:bB true k a=false):k≤a:=Int.not_lt.mp (of_decide_eq_false h)
theorem iG{a:Int}(h:bB false k a=true):a≤k:=by have:(!decide (k<a))=true:=h;simpa using this
theorem ki{a:Int}(h:bB false k a=false):k<a:=by have:(!decide (k<a))=false:=h;simpa using this
variable {b:Array Keyed} {o:Nat}
theorem kj(sb:aV key b.toList):∀i j,i≤j→j<b.size-o→bB true k (key (b.getD (o+j) nn))=true→bB true k (key (b.getD (o+i) nn))=true:=fun i j h1 h2 h3=>bg (Int.lt_of_le_of_lt (dD sb (by omega) (by omega)) (eN h3))
theorem tw(sb:aV key b.toList):∀i j,i≤j→j<b.size-o→bB false k (key (b.getD (o+j) nn))=true→bB false k (key (b.getD (o+i) nn))=true:=fun i j h1 h2 h3=>by
 have:key (b.getD (o+i) nn)≤k:=b6 (dD sb (by omega) (by omega)) (iG h3)
 show (!decide (k<key (b.getD (o+i) nn)))=true;simpa using this
section
variable {a b:Array Keyed} (sa:aV key a.toList) (sb:aV key b.toList) {out:Array Keyed} {ia ib:Nat}
include sa sb
theorem nF(m:MI key a.toList b.toList out.toList ia ib)(hb:ib<b.size)(k:∀j,ia≤j→j<a.size→key (b.getD ib nn)≤key (a.getD j nn)):MI key a.toList b.toList (out.push (b.getD ib nn)).toList ia (ib+1):=by
 have:=m.wC sb 1 fun x hx y hy=>by rw [qp hb,e9] at hx;subst hx;obtain ⟨j,h1,h2,rfl⟩:=lH hy;exact k j h1 h2
 rw [qp hb] at this;rw [jL];exact this
theorem jm(m:MI key a.toList b.toList out.toList ia ib)(ha:ia<a.size)(k:∀j,ib≤j→j<b.size→key (a.getD ia nn)≤key (b.getD j nn)):MI key a.toList b.toList (out.push (a.getD ia nn)).toList (ia+1) ib:=by
 have:=m.tm sa 1 fun x hx y hy=>by rw [qp ha,e9] at hx;subst hx;obtain ⟨j,h1,h2,rfl⟩:=lH hy;exact k j h1 h2
 rw [qp ha] at this;rw [jL];exact this
variable {n:Nat}
theorem Ak(m:MI key a.toList b.toList out.toList ia ib)(k:∀i j,i<n→ia+i<a.size→ib≤j→j<b.size→key (a.getD (ia+i) nn)≤key (b.getD j nn)):MI key a.toList b.toList (out++a.extract ia (ia+n)).toList (ia+n) ib:=by
 have:=m.tm sa n fun x hx y hy=>by obtain ⟨i,h3,h4,rfl⟩:=wD hx;obtain ⟨j,h1,h2,rfl⟩:=lH hy;exact k i j h3 h4 h1 h2
 rw [ig,gB,show ia+n-ia=n by omega]
 exact this
theorem tD(m:MI key a.toList b.toList out.toList ia ib)(k:∀i j,i<n→ib+i<b.size→ia≤j→j<a.size→key (b.getD (ib+i) nn)≤key (a.getD j nn)):MI key a.toList b.toList (out++b.extract ib (ib+n)).toList ia (ib+n):=by
 have:=m.wC sb n fun x hx y hy=>by obtain ⟨i,h3,h4,rfl⟩:=wD hx;obtain ⟨j,h1,h2,rfl⟩:=lH hy;exact k i j h3 h4 h1 h2
 rw [ig,gB,show ib+n-ib=n by omega]
 exact this
theorem gC(m:MI key a.toList b.toList out.toList ia ib)(e:ib=b.size∨ia=a.size):(out++a.extract ia a.size++b.extract ib b.size).toList.Perm (a.toList++b.toList)∧aV key (out++a.extract ia a.size++b.extract ib b.size).toList:=by rw [ig,ig,tu,tu];refine m.done sa sb fun x hx y hy=>?_;obtain ⟨i,h1,h2,_⟩:=lH hx;obtain ⟨j,h3,h4,_⟩:=lH hy;omega
theorem gD(m:MI key a.toList b.toList out.toList ia ib)(hl:∀y∈b.toList,key y≤key (a.getD (a.size-1) nn))(e:ia+1=a.size):(out++b.extract ib b.size++a.extract ia a.size).toList.Perm (a.toList++b.toList)∧aV key (out++b.extract ib b.size++a.extract ia a.size).toList:=by
 rw [ig,ig,tu,tu];refine m.Ai sa sb fun x hx y hy=>?_;obtain ⟨i,h1,h2,rfl⟩:=lH hx;have:=hl y (rn hy);rw [show i=a.size-1 by omega]
 exact this
end
theorem Gw(h:gA prog w A s κ key Ok)(oa:dr Ok a)(ob:dr Ok b)(sa:aV key a.toList)(sb:aV key b.toList)(a1:1≤a.size)(b1:1≤b.size)
  (h0:∀x∈a.toList,key (b.getD 0 nn)≤key x) (hl:∀y∈b.toList,key y≤key (a.getD (a.size-1) nn)) (hk:kindOf st=κ) {Q:Array Keyed→SortSt→Prop}
  (q:∀m g,m.toList.Perm (a.toList++b.toList)→aV key m.toList→Q m (setG st g)):wpS (model prog w) A E s (wz a b) Q st:=by
 rw [Gu];refine ar (wpS_lift (gP ⟨rfl,?_⟩));refine ar (aY (by omega) ?_)
 dsimp only;have m0:MI key a.toList b.toList (#[b.getD 0 nn]:Array Keyed).toList 0 1:=by
  have:MI key a.toList b.toList (#[]:Array Keyed).toList 0 0:=⟨by simp,List.Pairwise.nil,fun x hx=>by simp at hx,fun x hx=>by simp at hx⟩
  exact nF sa sb this (by omega) fun j _ hj=>h0 _ (by simp [Array.getD,hj])
 have dW:∀g,kindOf (setG st g)=κ:=fun _=>hk;by_cases e1:(1 == b.size)=true
 ·rw [aj e1]
  have:=gC sa sb m0 (.inl (eq_of_beq e1));exact aq (q _ (gallopOf st) this.1 this.2)
 rw [ae e1];by_cases e2:(0+1 == a.size)=true
 ·rw [aj e2]
  have:=gD sa sb m0 hl (eq_of_beq e2);exact aq (q _ (gallopOf st) this.1 this.2)
 rw [ae e2];have b2:1<b.size:=by
  have:1≠b.size:=fun e=>e1 (by simp [←e])
  omega
 have a2:0+1<a.size:=by
  have:0+1≠a.size:=fun e=>e2 (by simp [←e])
  omega
 refine ar (fJ ?_)
 refine ar (dP (dy (I:=fun x c aw=>∃out ia ib mg g,c=(none,out,ia,ib,mg)∧aw=setG st g∧MI key a.toList b.toList out.toList ia ib∧ia+1<a.size∧ib<b.size∧x≤ia+ib)
  (Q:=fun c aw=>∃m g,c.1=some m∧aw=setG st g∧m.toList.Perm (a.toList++b.toList)∧aV key m.toList) ?_ ?_ ⟨_,_,_,_,gallopOf st,rfl,rfl,m0,a2,b2,bG _⟩) ?_)
 ·rintro x c aw _ hx ⟨out,ia,ib,mg,g,rfl,rfl,mi,ha,hb,wF⟩
  dsimp only
  refine ar (dP (dy (I:=fun y c aw=>∃out eC eO ac bc,c=(none,out,eC,eO,ac,bc)∧aw=setG st g∧MI key a.toList b.toList out.toList eC eO∧eC+1<a.size∧eO<b.size∧ia+ib+y≤eC+eO)
   (Q:=fun c aw=>aw=setG st g∧((∃m,c.1=some m∧m.toList.Perm (a.toList++b.toList)∧aV key m.toList)∨∃out eC eO ac bc,c=(none,out,eC,eO,ac,bc)∧MI key a.toList b.toList out.toList eC eO∧eC+1<a.size∧eO<b.size∧ia+ib+1≤eC+eO)) ?_ ?_ ⟨_,_,_,_,_,rfl,rfl,mi,ha,hb,aC _⟩) ?_)
  ·rintro y c aw _ hy ⟨out,eC,eO,ac,bc,rfl,rfl,mi,ha,hb,eQ⟩
   dsimp only;refine ar (aY hb (ar (aY (by omega) (ar (qo h (ob _ hb) (oa eC (by omega)) (dW _) ?_)))))
   dsimp only;by_cases z:key (b.getD eO nn)<key (a.getD eC nn)
   ·rw [bg z,aj rfl]
    refine ar (aY hb ?_);have eR:=nF sa sb mi hb fun j h1 h2=>b6 (bS z) (dD sa h1 h2);by_cases z1:(eO+1 == b.size)=true
    ·rw [aj z1]
     exact aq ⟨rfl,.inl ⟨_,rfl,gC sa sb eR (.inl (eq_of_beq z1))⟩⟩
    ·rw [ae z1]
     have tf:eO+1≠b.size:=fun e=>z1 (by simp [←e])
     by_cases z2:bc+1≥mg
     ·rw [aj z2]
      exact aq ⟨rfl,.inr ⟨_,_,_,_,_,rfl,eR,ha,by omega,by omega⟩⟩
     ·rw [ae z2]
      exact aq ⟨_,_,_,_,_,rfl,rfl,eR,ha,by omega,by omega⟩
   ·rw [bp z,ae (by simp)]
    refine ar (aY (by omega) ?_)
    have eR:=jm sa sb mi (by omega) fun j h1 h2=>b6 (Int.not_lt.mp z) (dD sb h1 h2)
    by_cases z1:(eC+1+1 == a.size)=true
    ·rw [aj z1]
     exact aq ⟨rfl,.inl ⟨_,rfl,gD sa sb eR hl (eq_of_beq z1)⟩⟩
    ·rw [ae z1]
     have tf:eC+1+1≠a.size:=fun e=>z1 (by simp [←e])
     by_cases z2:ac+1≥mg
     ·rw [aj z2]
      exact aq ⟨rfl,.inr ⟨_,_,_,_,_,rfl,eR,by omega,hb,by omega⟩⟩
     ·rw [ae z2]
      exact aq ⟨_,_,_,_,_,rfl,rfl,eR,by omega,hb,by omega⟩
  ·rintro c aw ⟨out,eC,eO,ac,bc,rfl,rfl,mi,ha,hb,eQ⟩
   exact ⟨rfl,.inr ⟨_,_,_,_,_,rfl,mi,ha,hb,by omega⟩⟩
  ·rintro c aw ⟨rfl,⟨m,e,pm⟩ | ⟨out,eC,eO,ac,bc,rfl,mi,ha,hb,eQ⟩⟩
   ·obtain ⟨c1,c2⟩:=c
    dsimp only at e;subst e;exact aq ⟨m,g,rfl,rfl,pm⟩
   ·dsimp only
    refine ar (wpS_lift (gP ⟨rfl,?_⟩))
    refine ar (dP (dy (I:=fun y c aw=>∃out i j mg ac bc g,c=(none,out,i,j,mg,ac,bc)∧aw=setG st g∧MI key a.toList b.toList out.toList i j∧i+1<a.size∧j<b.size∧x+1≤i+j)
     (Q:=fun c aw=>(∃m g,c.1=some m∧aw=setG st g∧m.toList.Perm (a.toList++b.toList)∧aV key m.toList)∨∃out i j mg ac bc g,c=(none,out,i,j,mg,ac,bc)∧aw=setG st g∧MI key a.toList b.toList out.toList i j∧i+1<a.size∧j<b.size∧x+1≤i+j) ?_ ?_ ⟨_,_,_,_,_,_,g,rfl,rfl,mi,ha,hb,by omega⟩) ?_)
    ·clear mi ha hb eQ
     rintro y c aw _ hy ⟨out,ia,ib,mg,ac,bc,g,rfl,rfl,mi,ha,hb,eQ⟩;dsimp only;rcases Nat.lt_or_ge 1 mg with zm | zm
     ·rw [aj zm]
      refine ar (nE ?_);refine ar (aY hb (ar (fw (f:=fun i=>bB false (key (b.getD ib nn)) (key (a.getD (ia+i) nn))) (fun i hi Q q=>fv h (by omega) oa (ob _ hb) (dW _) q) (by omega) (tw sa) fun k k1 k2 k3=>?_)))
      dsimp only;by_cases zk:k>0
      ·rw [aj zk]
       have eS:=Ak sa sb mi (n:=k) fun i j hi aS hj da=>b6 (iG (k2 i hi)) (dD sb hj da);by_cases w1:(ia+k+1 == a.size)=true
       ·rw [aj w1]
        exact aq (.inl ⟨_,_,rfl,rfl,gD sa sb eS hl (eq_of_beq w1)⟩)
       ·rw [ae w1]
        have wG:ia+k+1≠a.size:=fun e=>w1 (by simp [←e])
        by_cases w2:(ia+k == a.size)=true
        ·rw [aj w2]
         exact aq (.inl ⟨_,_,rfl,rfl,gC sa sb eS (.inr (eq_of_beq w2))⟩)
        ·rw [ae w2]
         have Gx:ia+k≠a.size:=fun e=>w2 (by simp [←e])
         refine ar (aY hb ?_);have bE:=nF sa sb eS hb fun j h1 h2=>by have:=ki (k3 (j-ia) (by omega) (by omega));rw [show ia+(j-ia)=j by omega] at this;exact bS this
         by_cases x1:(ib+1 == b.size)=true
         ·rw [aj x1]
          exact aq (.inl ⟨_,_,rfl,rfl,gC sa sb bE (.inl (eq_of_beq x1))⟩)
         ·rw [ae x1]
          have lI:ib+1≠b.size:=fun e=>x1 (by simp [←e])
          refine ar (aY (by omega) (ar (fw (f:=fun i=>bB true (key (a.getD (ia+k) nn)) (key (b.getD (ib+1+i) nn))) (fun i hi Q q=>fv h (by omega) ob (oa _ (by omega)) (dW _) q) (by omega) (kj sb) fun k' q1 q2 q3=>?_)))
          dsimp only;by_cases cI:k'>0
          ·rw [aj cI]
           have cj:=tD sa sb bE (n:=k') fun i j hi aS hj da=>b6 (bS (eN (q2 i hi))) (dD sa hj da);by_cases x2:(ib+1+k' == b.size)=true
           ·rw [aj x2]
            exact aq (.inl ⟨_,_,rfl,rfl,gC sa sb cj (.inl (eq_of_beq x2))⟩)
           ·rw [ae x2]
            have lJ:ib+1+k'≠b.size:=fun e=>x2 (by simp [←e])
            refine ar (aY (by omega) ?_)
            have aP:=jm sa sb cj (by omega) fun j h1 h2=>by have:=fz (q3 (j-(ib+1)) (by omega) (by omega));rwa [show ib+1+(j-(ib+1))=j by omega] at this
            by_cases y1:(ia+k+1+1 == a.size)=true
            ·rw [aj y1]
             exact aq (.inl ⟨_,_,rfl,rfl,gD sa sb aP hl (eq_of_beq y1)⟩)
            ·rw [ae y1]
             have eT:ia+k+1+1≠a.size:=fun e=>y1 (by simp [←e])
             exact cW (fun _=>aq (.inr ⟨_,_,_,_,_,_,_,rfl,rfl,aP,by omega,by omega,by omega⟩)) (fun _=>aq ⟨_,_,_,_,_,_,_,rfl,rfl,aP,by omega,by omega,by omega⟩)
          ·rw [ae cI]
           obtain rfl:k'=0:=by omega
           refine ar (aY (by omega) ?_)
           have aP:=jm sa sb bE (by omega) fun j h1 h2=>by have:=fz (q3 (j-(ib+1)) (by omega) (by omega));rwa [show ib+1+(j-(ib+1))=j by omega] at this
           by_cases y1:(ia+k+1+1 == a.size)=true
           ·rw [aj y1]
            exact aq (.inl ⟨_,_,rfl,rfl,gD sa sb aP hl (eq_of_beq y1)⟩)
           ·rw [ae y1]
            have eT:ia+k+1+1≠a.size:=fun e=>y1 (by simp [←e])
            exact cW (fun _=>aq (.inr ⟨_,_,_,_,_,_,_,rfl,rfl,aP,by omega,by omega,by omega⟩)) (fun _=>aq ⟨_,_,_,_,_,_,_,rfl,rfl,aP,by omega,by omega,by omega⟩)
      ·rw [ae zk]
       obtain rfl:k=0:=by omega
       refine ar (aY hb ?_);have bE:=nF sa sb mi hb fun j h1 h2=>by have:=ki (k3 (j-ia) (by omega) (by omega));rw [show ia+(j-ia)=j by omega] at this;exact bS this
       by_cases x1:(ib+1 == b.size)=true
       ·rw [aj x1]
        exact aq (.inl ⟨_,_,rfl,rfl,gC sa sb bE (.inl (eq_of_beq x1))⟩)
       ·rw [ae x1]
        have lI:ib+1≠b.size:=fun e=>x1 (by simp [←e])
        refine ar (aY (by omega) (ar (fw (f:=fun i=>bB true (key (a.getD (ia) nn)) (key (b.getD (ib+1+i) nn))) (fun i hi Q q=>fv h (by omega) ob (oa _ (by omega)) (dW _) q) (by omega) (kj sb) fun k' q1 q2 q3=>?_)))
        dsimp only;by_cases cI:k'>0
        ·rw [aj cI]
         have cj:=tD sa sb bE (n:=k') fun i j hi aS hj da=>b6 (bS (eN (q2 i hi))) (dD sa hj da);by_cases x2:(ib+1+k' == b.size)=true
         ·rw [aj x2]
          exact aq (.inl ⟨_,_,rfl,rfl,gC sa sb cj (.inl (eq_of_beq x2))⟩)
         ·rw [ae x2]
          have lJ:ib+1+k'≠b.size:=fun e=>x2 (by simp [←e])
          refine ar (aY (by omega) ?_)
          have aP:=jm sa sb cj (by omega) fun j h1 h2=>by have:=fz (q3 (j-(ib+1)) (by omega) (by omega));rwa [show ib+1+(j-(ib+1))=j by omega] at this
          by_cases y1:(ia+1+1 == a.size)=true
          ·rw [aj y1]
           exact aq (.inl ⟨_,_,rfl,rfl,gD sa sb aP hl (eq_of_beq y1)⟩)
          ·rw [ae y1]
           have eT:ia+1+1≠a.size:=fun e=>y1 (by simp [←e])
           exact cW (fun _=>aq (.inr ⟨_,_,_,_,_,_,_,rfl,rfl,aP,by omega,by omega,by omega⟩)) (fun _=>aq ⟨_,_,_,_,_,_,_,rfl,rfl,aP,by omega,by omega,by omega⟩)
        ·rw [ae cI]
         obtain rfl:k'=0:=by omega
         refine ar (aY (by omega) ?_)
         have aP:=jm sa sb bE (by omega) fun j h1 h2=>by have:=fz (q3 (j-(ib+1)) (by omega) (by omega));rwa [show ib+1+(j-(ib+1))=j by omega] at this
         by_cases y1:(ia+1+1 == a.size)=true
         ·rw [aj y1]
          exact aq (.inl ⟨_,_,rfl,rfl,gD sa sb aP hl (eq_of_beq y1)⟩)
         ·rw [ae y1]
          have eT:ia+1+1≠a.size:=fun e=>y1 (by simp [←e])
          exact cW (fun _=>aq (.inr ⟨_,_,_,_,_,_,_,rfl,rfl,aP,by omega,by omega,by omega⟩)) (fun _=>aq ⟨_,_,_,_,_,_,_,rfl,rfl,aP,by omega,by omega,by omega⟩)
     ·rw [ae (by omega)]
      refine ar (nE ?_);refine ar (aY hb (ar (fw (f:=fun i=>bB false (key (b.getD ib nn)) (key (a.getD (ia+i) nn))) (fun i hi Q q=>fv h (by omega) oa (ob _ hb) (dW _) q) (by omega) (tw sa) fun k k1 k2 k3=>?_)))
      dsimp only;by_cases zk:k>0
      ·rw [aj zk]
       have eS:=Ak sa sb mi (n:=k) fun i j hi aS hj da=>b6 (iG (k2 i hi)) (dD sb hj da);by_cases w1:(ia+k+1 == a.size)=true
       ·rw [aj w1]
        exact aq (.inl ⟨_,_,rfl,rfl,gD sa sb eS hl (eq_of_beq w1)⟩)
       ·rw [ae w1]
        have wG:ia+k+1≠a.size:=fun e=>w1 (by simp [←e])
        by_cases w2:(ia+k == a.size)=true
        ·rw [aj w2]
         exact aq (.inl ⟨_,_,rfl,rfl,gC sa sb eS (.inr (eq_of_beq w2))⟩)
        ·rw [ae w2]
         have Gx:ia+k≠a.size:=fun e=>w2 (by simp [←e])
         refine ar (aY hb ?_);have bE:=nF sa sb eS hb fun j h1 h2=>by have:=ki (k3 (j-ia) (by omega) (by omega));rw [show ia+(j-ia)=j by omega] at this;exact bS this
         by_cases x1:(ib+1 == b.size)=true
         ·rw [aj x1]
          exact aq (.inl ⟨_,_,rfl,rfl,gC sa sb bE (.inl (eq_of_beq x1))⟩)
         ·rw [ae x1]
          have lI:ib+1≠b.size:=fun e=>x1 (by simp [←e])
          refine ar (aY (by omega) (ar (fw (f:=fun i=>bB true (key (a.getD (ia+k) nn)) (key (b.getD (ib+1+i) nn))) (fun i hi Q q=>fv h (by omega) ob (oa _ (by omega)) (dW _) q) (by omega) (kj sb) fun k' q1 q2 q3=>?_)))
          dsimp only;by_cases cI:k'>0
          ·rw [aj cI]
           have cj:=tD sa sb bE (n:=k') fun i j hi aS hj da=>b6 (bS (eN (q2 i hi))) (dD sa hj da);by_cases x2:(ib+1+k' == b.size)=true
           ·rw [aj x2]
            exact aq (.inl ⟨_,_,rfl,rfl,gC sa sb cj (.inl (eq_of_beq x2))⟩)
           ·rw [ae x2]
            have lJ:ib+1+k'≠b.size:=fun e=>x2 (by simp [←e])
            refine ar (aY (by omega) ?_)
            have aP:=jm sa sb cj (by omega) fun j h1 h2=>by have:=fz (q3 (j-(ib+1)) (by omega) (by omega));rwa [show ib+1+(j-(ib+1))=j by omega] at this
            by_cases y1:(ia+k+1+1 == a.size)=true
            ·rw [aj y1]
             exact aq (.inl ⟨_,_,rfl,rfl,gD sa sb aP hl (eq_of_beq y1)⟩)
            ·rw [ae y1]
             have eT:ia+k+1+1≠a.size:=fun e=>y1 (by simp [←e])
             exact cW (fun _=>aq (.inr ⟨_,_,_,_,_,_,_,rfl,rfl,aP,by omega,by omega,by omega⟩)) (fun _=>aq ⟨_,_,_,_,_,_,_,rfl,rfl,aP,by omega,by omega,by omega⟩)
          ·rw [ae cI]
           obtain rfl:k'=0:=by omega
           refine ar (aY (by omega) ?_)
           have aP:=jm sa sb bE (by omega) fun j h1 h2=>by have:=fz (q3 (j-(ib+1)) (by omega) (by omega));rwa [show ib+1+(j-(ib+1))=j by omega] at this
           by_cases y1:(ia+k+1+1 == a.size)=true
           ·rw [aj y1]
            exact aq (.inl ⟨_,_,rfl,rfl,gD sa sb aP hl (eq_of_beq y1)⟩)
           ·rw [ae y1]
            have eT:ia+k+1+1≠a.size:=fun e=>y1 (by simp [←e])
            exact cW (fun _=>aq (.inr ⟨_,_,_,_,_,_,_,rfl,rfl,aP,by omega,by omega,by omega⟩)) (fun _=>aq ⟨_,_,_,_,_,_,_,rfl,rfl,aP,by omega,by omega,by omega⟩)
      ·rw [ae zk]
       obtain rfl:k=0:=by omega
       refine ar (aY hb ?_);have bE:=nF sa sb mi hb fun j h1 h2=>by have:=ki (k3 (j-ia) (by omega) (by omega));rw [show ia+(j-ia)=j by omega] at this;exact bS this
       by_cases x1:(ib+1 == b.size)=true
       ·rw [aj x1]
        exact aq (.inl ⟨_,_,rfl,rfl,gC sa sb bE (.inl (eq_of_beq x1))⟩)
       ·rw [ae x1]
        have lI:ib+1≠b.size:=fun e=>x1 (by simp [←e])
        refine ar (aY (by omega) (ar (fw (f:=fun i=>bB true (key (a.getD (ia) nn)) (key (b.getD (ib+1+i) nn))) (fun i hi Q q=>fv h (by omega) ob (oa _ (by omega)) (dW _) q) (by omega) (kj sb) fun k' q1 q2 q3=>?_)))
        dsimp only;by_cases cI:k'>0
        ·rw [aj cI]
         have cj:=tD sa sb bE (n:=k') fun i j hi aS hj da=>b6 (bS (eN (q2 i hi))) (dD sa hj da);by_cases x2:(ib+1+k' == b.size)=true
         ·rw [aj x2]
          exact aq (.inl ⟨_,_,rfl,rfl,gC sa sb cj (.inl (eq_of_beq x2))⟩)
         ·rw [ae x2]
          have lJ:ib+1+k'≠b.size:=fun e=>x2 (by simp [←e])
          refine ar (aY (by omega) ?_)
          have aP:=jm sa sb cj (by omega) fun j h1 h2=>by have:=fz (q3 (j-(ib+1)) (by omega) (by omega));rwa [show ib+1+(j-(ib+1))=j by omega] at this
          by_cases y1:(ia+1+1 == a.size)=true
          ·rw [aj y1]
           exact aq (.inl ⟨_,_,rfl,rfl,gD sa sb aP hl (eq_of_beq y1)⟩)
          ·rw [ae y1]
           have eT:ia+1+1≠a.size:=fun e=>y1 (by simp [←e])
           exact cW (fun _=>aq (.inr ⟨_,_,_,_,_,_,_,rfl,rfl,aP,by omega,by omega,by omega⟩)) (fun _=>aq ⟨_,_,_,_,_,_,_,rfl,rfl,aP,by omega,by omega,by omega⟩)
        ·rw [ae cI]
         obtain rfl:k'=0:=by omega
         refine ar (aY (by omega) ?_)
         have aP:=jm sa sb bE (by omega) fun j h1 h2=>by have:=fz (q3 (j-(ib+1)) (by omega) (by omega));rwa [show ib+1+(j-(ib+1))=j by omega] at this
         by_cases y1:(ia+1+1 == a.size)=true
         ·rw [aj y1]
          exact aq (.inl ⟨_,_,rfl,rfl,gD sa sb aP hl (eq_of_beq y1)⟩)
         ·rw [ae y1]
          have eT:ia+1+1≠a.size:=fun e=>y1 (by simp [←e])
          exact cW (fun _=>aq (.inr ⟨_,_,_,_,_,_,_,rfl,rfl,aP,by omega,by omega,by omega⟩)) (fun _=>aq ⟨_,_,_,_,_,_,_,rfl,rfl,aP,by omega,by omega,by omega⟩)
    ·rintro c aw ⟨out,i,j,mg,ac,bc,g,rfl,rfl,mi,ha,hb,eQ⟩
     exact .inr ⟨_,_,_,_,_,_,_,rfl,rfl,mi,ha,hb,eQ⟩
    ·rintro c aw (⟨m,g,e,rfl,pm⟩ | ⟨out,i,j,mg,ac,bc,g,rfl,rfl,mi,ha,hb,eQ⟩)
     ·obtain ⟨c1,c2⟩:=c
      dsimp only at e;subst e;exact aq ⟨m,g,rfl,rfl,pm⟩
     ·dsimp only
      exact ar (nE (aq ⟨_,_,_,_,_,rfl,rfl,mi,ha,hb,by omega⟩))
 ·rintro c aw ⟨out,ia,ib,mg,g,rfl,rfl,mi,ha,hb,wF⟩
  exfalso
  omega
 ·rintro c aw ⟨m,g,e,rfl,pm,sm⟩
  obtain ⟨c1,c2⟩:=c;dsimp only at e;subst e;exact aq (q m g pm sm)
end
theorem Gy(a b:Array Keyed):wA a b=(do
 rule "list.sort.merge-hi"
 let total:=a.size+b.size
 let done (out:Array Keyed) (na nb:Nat):=a.extract 0 na++b.extract 0 nb++out.reverse
 let tE (out:Array Keyed) (na nb:Nat):=b.extract 0 nb++a.extract 0 na++out.reverse
 let mut na:=a.size-1
 let mut nb:=b.size
 let mut out:Array Keyed:=#[←elem' a na]
 if na == 0 then return done out na nb
 if nb == 1 then return tE out na nb
 let mut minGallop:=gallopOf (←get)
 for _ in [0:total] do
  let mut fU:=0
  let mut fV:=0
  for _ in [0:total] do
   let some Gz ←lt' (←elem' b (nb-1)) (←elem' a (na-1)) | return done out na nb
   if Gz then
    na:=na-1;out:=out.push (←elem' a na);fU:=fU+1;fV:=0
    if na == 0 then return done out na nb
    if fU≥minGallop then break
   else
    nb:=nb-1;out:=out.push (←elem' b nb);fV:=fV+1;fU:=0
    if nb == 1 then return tE out na nb
    if fV≥minGallop then break
  rule "list.sort.gallop"
  minGallop:=minGallop+1
  for _ in [0:total] do
   if minGallop>1 then minGallop:=minGallop-1
   ql minGallop
   let some at_ ←kh false (←elem' b (nb-1)) a 0 na (na-1) | return done out na nb
   let k:=na-at_
   fU:=k
   if k>0 then
    out:=out++(a.extract at_ na).reverse;na:=at_
    if na == 0 then return done out na nb
   nb:=nb-1;out:=out.push (←elem' b nb)
   if nb == 1 then return tE out na nb
   let some at_ ←kh true (←elem' a (na-1)) b 0 nb (nb-1) | return done out na nb
   let k:=nb-at_
   fV:=k
   if k>0 then
    out:=out++(b.extract at_ nb).reverse;nb:=at_
    if nb == 1 then return tE out na nb
    if nb == 0 then return done out na nb
   na:=na-1;out:=out.push (←elem' a na)
   if na == 0 then return done out na nb
   if fU<7 && fV<7 then break
  minGallop:=minGallop+1
  ql minGallop
 unsupported "internal:list.sort.merge-bound"):=rfl
section
variable {key:Keyed→Int}
theorem nG(h:aV key l):aV (fun x=>-key x) l.reverse:=by unfold aV;rw [List.pairwise_reverse];exact List.Pairwise.imp (fun h=>Int.neg_le_neg h) h
theorem Al(h:aV (fun x=>-key x) l):aV key l.reverse:=by unfold aV;rw [List.pairwise_reverse];exact List.Pairwise.imp (fun h=>Int.le_of_neg_le_neg h) h
variable {a:Array Keyed} {n:Nat}
theorem g_(h:n≤a.size):a.toList.reverse.drop (a.size-n)=(a.extract 0 n).toList.reverse:=by rw [List.drop_reverse,gB,List.drop_zero,Nat.sub_zero,e8,show a.size-(a.size-n)=n by omega]
theorem tF{m:Nat}(h:n≤a.size)(hm:m≤n):(a.toList.reverse.drop (a.size-n)).take (n-m)=(a.extract m n).reverse.toList:=by rw [g_ h,rp,gB,gB,List.drop_zero,Nat.sub_zero,List.take_reverse,iV,e8,show min n a.size-(n-m)=m by omega,List.drop_take]
theorem jn{m:Nat}(h:n≤a.size){x:Keyed}(hx:x∈(a.extract m n).toList):∃j,m≤j∧j<n∧x=a.getD j nn:=by rw [gB] at hx;obtain ⟨j,h1,h2,rfl⟩:=wD hx;exact ⟨m+j,by omega,by omega,rfl⟩
theorem Am(h:n≤a.size)(h1:1≤n):(a.extract (n-1) n).reverse.toList=[a.getD (n-1) nn]:=by
 rw [rp,gB,show n-(n-1)=1 by omega,qp (by omega)]
 rfl
def MH(key:Keyed→Int)(a b out:Array Keyed)(na nb:Nat):Prop:=MI (fun x=>-key x) a.toList.reverse b.toList.reverse out.toList (a.size-na) (b.size-nb)∧na≤a.size∧nb≤b.size
variable {a b:Array Keyed} (sa:aV key a.toList) (sb:aV key b.toList) {out:Array Keyed} {na nb:Nat}
include sa sb
variable {k:Nat}
theorem wH(m:MH key a b out na nb)(hk:k≤na)(c:∀i j,k≤i→i<na→j<nb→key (b.getD j nn)≤key (a.getD i nn)):MH key a b (out++(a.extract k na).reverse) k nb:=by
 obtain ⟨m,ha,hb⟩:=m;refine ⟨?_,by omega,hb⟩
 have:=m.tm (nG sa) (na-k) fun x hx y hy=>by rw [tF ha hk,rp,jM] at hx;rw [g_ hb,jM] at hy;obtain ⟨i,i1,i2,rfl⟩:=jn ha hx;obtain ⟨j,j1,j2,rfl⟩:=jn hb hy;have:=c i j i1 i2 j2;omega
 rw [tF ha hk,show a.size-na+(na-k)=a.size-k by omega] at this
 rw [ig];exact this
theorem qq(m:MH key a b out na nb)(hk:k≤nb)(c:∀i j,k≤i→i<nb→j<na→key (a.getD j nn)≤key (b.getD i nn)):MH key a b (out++(b.extract k nb).reverse) na k:=by
 obtain ⟨m,ha,hb⟩:=m;refine ⟨?_,ha,by omega⟩
 have:=m.wC (nG sb) (nb-k) fun x hx y hy=>by rw [tF hb hk,rp,jM] at hx;rw [g_ ha,jM] at hy;obtain ⟨i,i1,i2,rfl⟩:=jn hb hx;obtain ⟨j,j1,j2,rfl⟩:=jn ha hy;have:=c i j i1 i2 j2;omega
 rw [tF hb hk,show b.size-nb+(nb-k)=b.size-k by omega] at this
 rw [ig];exact this
theorem iH(m:MH key a b out na nb)(h1:1≤na)(c:∀j,j<nb→key (b.getD j nn)≤key (a.getD (na-1) nn)):MH key a b (out.push (a.getD (na-1) nn)) (na-1) nb:=by
 have:=wH sa sb m (k:=na-1) (by omega) fun i j i1 i2 j1=>by
  rw [show i=na-1 by omega]
  exact c j j1
 have e:out++(a.extract (na-1) na).reverse=out.push (a.getD (na-1) nn):=by apply Array.toList_inj.mp;rw [ig,Am m.2.1 h1,jL]
 rw [e] at this;exact this
theorem qr(m:MH key a b out na nb)(h1:1≤nb)(c:∀j,j<na→key (a.getD j nn)≤key (b.getD (nb-1) nn)):MH key a b (out.push (b.getD (nb-1) nn)) na (nb-1):=by
 have:=qq sa sb m (k:=nb-1) (by omega) fun i j i1 i2 j1=>by
  rw [show i=nb-1 by omega]
  exact c j j1
 have e:out++(b.extract (nb-1) nb).reverse=out.push (b.getD (nb-1) nn):=by apply Array.toList_inj.mp;rw [ig,Am m.2.2 h1,jL]
 rw [e] at this;exact this
theorem eE(m:MH key a b out na nb)(e:na=0∨nb=0):(a.extract 0 na++b.extract 0 nb++out.reverse).toList.Perm (a.toList++b.toList)∧aV key (a.extract 0 na++b.extract 0 nb++out.reverse).toList:=by
 obtain ⟨m,ha,hb⟩:=m;have:=m.Ai (nG sa) (nG sb) fun x hx y hy=>by rw [g_ ha,jM] at hx;rw [g_ hb,jM] at hy;obtain ⟨i,i1,i2,_⟩:=jn ha hx;obtain ⟨j,j1,j2,_⟩:=jn hb hy;omega
 rw [g_ ha,g_ hb] at this;have er:(a.extract 0 na++b.extract 0 nb++out.reverse).toList=(out.toList++(b.extract 0 nb).toList.reverse++(a.extract 0 na).toList.reverse).reverse:=by simp
 rw [er];refine ⟨(mR _).trans (this.1.trans ?_),Al this.2⟩;exact (mR _).append (mR _)
theorem iI(m:MH key a b out na nb)(h0:∀x∈a.toList,key (b.getD 0 nn)≤key x)(e:nb=1):(b.extract 0 nb++a.extract 0 na++out.reverse).toList.Perm (a.toList++b.toList)∧aV key (b.extract 0 nb++a.extract 0 na++out.reverse).toList:=by
 obtain ⟨m,ha,hb⟩:=m;have:=m.done (nG sa) (nG sb) fun x hx y hy=>by
  rw [g_ ha,jM] at hx;rw [g_ hb,jM] at hy;obtain ⟨i,i1,i2,rfl⟩:=jn ha hx;obtain ⟨j,j1,j2,rfl⟩:=jn hb hy;have:=h0 (a.getD i nn) (by simp [Array.getD,show i<a.size by omega])
  rw [show j=0 by omega]
  omega
 rw [g_ ha,g_ hb] at this;have er:(b.extract 0 nb++a.extract 0 na++out.reverse).toList=(out.toList++(a.extract 0 na).toList.reverse++(b.extract 0 nb).toList.reverse).reverse:=by simp
 rw [er];refine ⟨(mR _).trans (this.1.trans ?_),Al this.2⟩;exact (mR _).append (mR _)
end
section
variable {prog:Program} {w:World} {A:Around} {E:aF} {s:Shared} {κ:SortKind} {key:Keyed→Int} {Ok:Keyed→Prop}
theorem GA(h:gA prog w A s κ key Ok){a b:Array Keyed}(oa:dr Ok a)(ob:dr Ok b)(sa:aV key a.toList)(sb:aV key b.toList)(a1:1≤a.size)(b1:1≤b.size)
  (h0:∀x∈a.toList,key (b.getD 0 nn)≤key x) (hl:∀y∈b.toList,key y≤key (a.getD (a.size-1) nn)) {st:SortSt} (hk:kindOf st=κ) {Q:Array Keyed→SortSt→Prop}
  (q:∀m g,m.toList.Perm (a.toList++b.toList)→aV key m.toList→Q m (setG st g)):wpS (model prog w) A E s (wA a b) Q st:=by
 rw [Gy];refine ar (wpS_lift (gP ⟨rfl,?_⟩));refine ar (aY (by omega) ?_)
 dsimp only;have m0:MH key a b (#[a.getD (a.size-1) nn]:Array Keyed) (a.size-1) b.size:=by
  have:MH key a b (#[]:Array Keyed) a.size b.size:=⟨⟨by simp,List.Pairwise.nil,fun x hx=>by simp at hx,fun x hx=>by simp at hx⟩,aC _,aC _⟩
  exact iH sa sb this a1 fun j hj=>hl _ (by simp [Array.getD,hj])
 have dW:∀g,kindOf (setG st g)=κ:=fun _=>hk;by_cases e1:(a.size-1 == 0)=true
 ·rw [aj e1]
  have:=eE sa sb m0 (.inl (eq_of_beq e1));exact aq (q _ (gallopOf st) this.1 this.2)
 rw [ae e1];by_cases e2:(b.size == 1)=true
 ·rw [aj e2]
  have:=iI sa sb m0 h0 (eq_of_beq e2);exact aq (q _ (gallopOf st) this.1 this.2)
 rw [ae e2];have a2:1≤a.size-1:=by
  have:a.size-1≠0:=fun e=>e1 (by simp [e])
  omega
 have b2:2≤b.size:=by
  have:b.size≠1:=fun e=>e2 (by simp [e])
  omega
 refine ar (fJ ?_)
 refine ar (dP (dy (I:=fun x c aw=>∃(out:Array Keyed) (na nb mg g:Nat),c=(none,na,nb,out,mg)∧aw=setG st g∧MH key a b out na nb∧1≤na∧2≤nb∧x+na+nb≤a.size+b.size)
  (Q:=fun c aw=>∃(m:Array Keyed) (g:Nat),c.1=some m∧aw=setG st g∧m.toList.Perm (a.toList++b.toList)∧aV key m.toList) ?_ ?_ ⟨_,a.size-1,b.size,_,gallopOf st,rfl,rfl,m0,a2,b2,show 0+(a.size-1)+b.size≤a.size+b.size by omega⟩) ?_)
 ·rintro x c aw _ hx ⟨out,na,nb,mg,g,rfl,rfl,mi,ha,hb,wF⟩
  dsimp only
  refine ar (dP (dy (I:=fun y c aw=>∃(out:Array Keyed) (aW bw ac bc:Nat),c=(none,aW,bw,out,ac,bc)∧aw=setG st g∧MH key a b out aW bw∧1≤aW∧2≤bw∧y+aW+bw≤na+nb)
   (Q:=fun c aw=>aw=setG st g∧((∃m:Array Keyed,c.1=some m∧m.toList.Perm (a.toList++b.toList)∧aV key m.toList)∨∃(out:Array Keyed) (aW bw ac bc:Nat),c=(none,aW,bw,out,ac,bc)∧MH key a b out aW bw∧1≤aW∧2≤bw∧1+aW+bw≤na+nb)) ?_ ?_ ⟨_,na,nb,_,_,rfl,rfl,mi,ha,hb,show 0+na+nb≤na+nb by omega⟩) ?_)
  ·rintro y c aw _ hy ⟨out,aW,bw,ac,bc,rfl,rfl,mi,ha,hb,eQ⟩
   have GB:=mi.2.1;have lh:=mi.2.2;dsimp only;refine ar (aY (by omega) (ar (aY (by omega) (ar (qo h (ob (bw-1) (by omega)) (oa (aW-1) (by omega)) (dW _) ?_)))))
   dsimp only;by_cases z:key (b.getD (bw-1) nn)<key (a.getD (aW-1) nn)
   ·rw [bg z,aj rfl]
    refine ar (aY (by omega) ?_)
    have eR:=iH sa sb mi ha fun j hj=>b6 (dD sb (by omega) (by omega)) (bS z)
    by_cases z1:(aW-1 == 0)=true
    ·rw [aj z1]
     exact aq ⟨rfl,.inl ⟨_,rfl,eE sa sb eR (.inl (eq_of_beq z1))⟩⟩
    ·rw [ae z1]
     have tf:aW-1≠0:=fun e=>z1 (by simp [e])
     exact cW (fun _=>aq ⟨rfl,.inr ⟨_,_,_,_,_,rfl,eR,by omega,hb,by omega⟩⟩) (fun _=>aq ⟨_,_,_,_,_,rfl,rfl,eR,by omega,hb,by omega⟩)
   ·rw [bp z,ae (by simp)]
    refine ar (aY (by omega) ?_)
    have eR:=qr sa sb mi (by omega) fun j hj=>b6 (dD sa (by omega) (by omega)) (Int.not_lt.mp z)
    by_cases z1:(bw-1 == 1)=true
    ·rw [aj z1]
     exact aq ⟨rfl,.inl ⟨_,rfl,iI sa sb eR h0 (eq_of_beq z1)⟩⟩
    ·rw [ae z1]
     have tf:bw-1≠1:=fun e=>z1 (by simp [e])
     exact cW (fun _=>aq ⟨rfl,.inr ⟨_,_,_,_,_,rfl,eR,ha,by omega,by omega⟩⟩) (fun _=>aq ⟨_,_,_,_,_,rfl,rfl,eR,ha,by omega,by omega⟩)
  ·rintro c aw ⟨out,aW,bw,ac,bc,rfl,rfl,mi,ha,hb,eQ⟩
   exact ⟨rfl,.inr ⟨_,_,_,_,_,rfl,mi,ha,hb,by omega⟩⟩
  ·rintro c aw ⟨rfl,⟨m,e,pm⟩ | ⟨out,aW,bw,ac,bc,rfl,mi,ha,hb,eQ⟩⟩
   ·obtain ⟨c1,c2⟩:=c
    dsimp only at e;subst e;exact aq ⟨m,g,rfl,rfl,pm⟩
   ·dsimp only
    refine ar (wpS_lift (gP ⟨rfl,?_⟩))
    refine ar (dP (dy (I:=fun y c aw=>∃(out:Array Keyed) (i j mg ac bc g:Nat),c=(none,i,j,out,mg,ac,bc)∧aw=setG st g∧MH key a b out i j∧1≤i∧2≤j∧x+1+i+j≤a.size+b.size)
     (Q:=fun c aw=>(∃(m:Array Keyed) (g:Nat),c.1=some m∧aw=setG st g∧m.toList.Perm (a.toList++b.toList)∧aV key m.toList)∨∃(out:Array Keyed) (i j mg ac bc g:Nat),c=(none,i,j,out,mg,ac,bc)∧aw=setG st g∧MH key a b out i j∧1≤i∧2≤j∧x+1+i+j≤a.size+b.size) ?_ ?_ ⟨_,aW,bw,_,_,_,g,rfl,rfl,mi,ha,hb,by omega⟩) ?_)
    ·clear mi ha hb eQ
     rintro y c aw _ hy ⟨out,na,nb,mg,ac,bc,g,rfl,rfl,mi,ha,hb,eQ⟩;have GB:=mi.2.1;have lh:=mi.2.2;dsimp only;rcases Nat.lt_or_ge 1 mg with zm | zm
     ·rw [aj zm]
      refine ar (nE ?_);refine ar (aY (by omega) (ar (fw (f:=fun i=>bB false (key (b.getD (nb-1) nn)) (key (a.getD (0+i) nn))) (fun i hi Q q=>fv h (by omega) oa (ob _ (by omega)) (dW _) q) (by omega) (fun i j h1 h2 h3=>tw sa (o:=0) i j h1 (by omega) h3) fun k k1 k2 k3=>?_)))
      dsimp only;by_cases zk:na-k>0
      ·rw [aj zk]
       have eS:=wH sa sb mi (k:=k) k1 fun i j hi aS hj=>by have:=ki (k3 i hi aS);rw [dz] at this;exact b6 (dD sb (by omega) (by omega)) (bS this)
       by_cases w1:(k == 0)=true
       ·rw [aj w1]
        exact aq (.inl ⟨_,_,rfl,rfl,eE sa sb eS (.inl (eq_of_beq w1))⟩)
       ·rw [ae w1]
        have wG:k≠0:=fun e=>w1 (by simp [e])
        refine ar (aY (by have:=eS.2.2;omega) ?_)
        have bE:=qr sa sb eS (by omega) fun j h1=>by have:=iG (k2 j h1);rw [dz] at this;exact this
        by_cases x1:(nb-1 == 1)=true
        ·rw [aj x1]
         exact aq (.inl ⟨_,_,rfl,rfl,iI sa sb bE h0 (eq_of_beq x1)⟩)
        ·rw [ae x1]
         have lI:nb-1≠1:=fun e=>x1 (by simp [e])
         have lh:=bE.2.2;refine ar (aY (by omega) (ar (fw (f:=fun i=>bB true (key (a.getD (k-1) nn)) (key (b.getD (0+i) nn))) (fun i hi Q q=>fv h (by omega) ob (oa _ (by omega)) (dW _) q) (by omega) (fun i j h1 h2 h3=>kj sb (o:=0) i j h1 (by omega) h3) fun k' q1 q2 q3=>?_)))
         dsimp only;by_cases cI:nb-1-k'>0
         ·rw [aj cI]
          have cj:=qq sa sb bE (k:=k') q1 fun i j hi aS hj=>by have:=fz (q3 i hi aS);rw [dz] at this;exact b6 (dD sa (by omega) (by omega)) this
          by_cases x2:(k' == 1)=true
          ·rw [aj x2]
           exact aq (.inl ⟨_,_,rfl,rfl,iI sa sb cj h0 (eq_of_beq x2)⟩)
          ·rw [ae x2]
           have lJ:k'≠1:=fun e=>x2 (by simp [e])
           by_cases x3:(k' == 0)=true
           ·rw [aj x3]
            exact aq (.inl ⟨_,_,rfl,rfl,eE sa sb cj (.inr (eq_of_beq x3))⟩)
           ·rw [ae x3]
            have wI:k'≠0:=fun e=>x3 (by simp [e])
            refine ar (aY (by omega) ?_)
            have aP:=iH sa sb cj (by omega) fun j h1=>by have:=eN (q2 j h1);rw [dz] at this;exact bS this
            by_cases y1:(k-1 == 0)=true
            ·rw [aj y1]
             exact aq (.inl ⟨_,_,rfl,rfl,eE sa sb aP (.inl (eq_of_beq y1))⟩)
            ·rw [ae y1]
             have eT:k-1≠0:=fun e=>y1 (by simp [e])
             exact cW (fun _=>aq (.inr ⟨_,_,_,_,_,_,_,rfl,rfl,aP,by omega,by omega,by omega⟩)) (fun _=>aq ⟨_,_,_,_,_,_,_,rfl,rfl,aP,by omega,by omega,by omega⟩)
         ·rw [ae cI]
          obtain rfl:k'=nb-1:=by omega
          refine ar (aY (by omega) ?_)
          have aP:=iH sa sb bE (by omega) fun j h1=>by have:=eN (q2 j h1);rw [dz] at this;exact bS this
          by_cases y1:(k-1 == 0)=true
          ·rw [aj y1]
           exact aq (.inl ⟨_,_,rfl,rfl,eE sa sb aP (.inl (eq_of_beq y1))⟩)
          ·rw [ae y1]
           have eT:k-1≠0:=fun e=>y1 (by simp [e])
           exact cW (fun _=>aq (.inr ⟨_,_,_,_,_,_,_,rfl,rfl,aP,by omega,by omega,by omega⟩)) (fun _=>aq ⟨_,_,_,_,_,_,_,rfl,rfl,aP,by omega,by omega,by omega⟩)
      ·rw [ae zk]
       obtain rfl:k=na:=by omega
       refine ar (aY (by have:=mi.2.2;omega) ?_)
       have bE:=qr sa sb mi (by omega) fun j h1=>by have:=iG (k2 j h1);rw [dz] at this;exact this
       by_cases x1:(nb-1 == 1)=true
       ·rw [aj x1]
        exact aq (.inl ⟨_,_,rfl,rfl,iI sa sb bE h0 (eq_of_beq x1)⟩)
       ·rw [ae x1]
        have lI:nb-1≠1:=fun e=>x1 (by simp [e])
        have lh:=bE.2.2;refine ar (aY (by omega) (ar (fw (f:=fun i=>bB true (key (a.getD (k-1) nn)) (key (b.getD (0+i) nn))) (fun i hi Q q=>fv h (by omega) ob (oa _ (by omega)) (dW _) q) (by omega) (fun i j h1 h2 h3=>kj sb (o:=0) i j h1 (by omega) h3) fun k' q1 q2 q3=>?_)))
        dsimp only;by_cases cI:nb-1-k'>0
        ·rw [aj cI]
         have cj:=qq sa sb bE (k:=k') q1 fun i j hi aS hj=>by have:=fz (q3 i hi aS);rw [dz] at this;exact b6 (dD sa (by omega) (by omega)) this
         by_cases x2:(k' == 1)=true
         ·rw [aj x2]
          exact aq (.inl ⟨_,_,rfl,rfl,iI sa sb cj h0 (eq_of_beq x2)⟩)
         ·rw [ae x2]
          have lJ:k'≠1:=fun e=>x2 (by simp [e])
          by_cases x3:(k' == 0)=true
          ·rw [aj x3]
           exact aq (.inl ⟨_,_,rfl,rfl,eE sa sb cj (.inr (eq_of_beq x3))⟩)
          ·rw [ae x3]
           have wI:k'≠0:=fun e=>x3 (by simp [e])
           refine ar (aY (by omega) ?_)
           have aP:=iH sa sb cj (by omega) fun j h1=>by have:=eN (q2 j h1);rw [dz] at this;exact bS this
           by_cases y1:(k-1 == 0)=true
           ·rw [aj y1]
            exact aq (.inl ⟨_,_,rfl,rfl,eE sa sb aP (.inl (eq_of_beq y1))⟩)
           ·rw [ae y1]
            have eT:k-1≠0:=fun e=>y1 (by simp [e])
            exact cW (fun _=>aq (.inr ⟨_,_,_,_,_,_,_,rfl,rfl,aP,by omega,by omega,by omega⟩)) (fun _=>aq ⟨_,_,_,_,_,_,_,rfl,rfl,aP,by omega,by omega,by omega⟩)
        ·rw [ae cI]
         obtain rfl:k'=nb-1:=by omega
         refine ar (aY (by omega) ?_)
         have aP:=iH sa sb bE (by omega) fun j h1=>by have:=eN (q2 j h1);rw [dz] at this;exact bS this
         by_cases y1:(k-1 == 0)=true
         ·rw [aj y1]
          exact aq (.inl ⟨_,_,rfl,rfl,eE sa sb aP (.inl (eq_of_beq y1))⟩)
         ·rw [ae y1]
          have eT:k-1≠0:=fun e=>y1 (by simp [e])
          exact cW (fun _=>aq (.inr ⟨_,_,_,_,_,_,_,rfl,rfl,aP,by omega,by omega,by omega⟩)) (fun _=>aq ⟨_,_,_,_,_,_,_,rfl,rfl,aP,by omega,by omega,by omega⟩)
     ·rw [ae (by omega)]
      refine ar (nE ?_);refine ar (aY (by omega) (ar (fw (f:=fun i=>bB false (key (b.getD (nb-1) nn)) (key (a.getD (0+i) nn))) (fun i hi Q q=>fv h (by omega) oa (ob _ (by omega)) (dW _) q) (by omega) (fun i j h1 h2 h3=>tw sa (o:=0) i j h1 (by omega) h3) fun k k1 k2 k3=>?_)))
      dsimp only;by_cases zk:na-k>0
      ·rw [aj zk]
       have eS:=wH sa sb mi (k:=k) k1 fun i j hi aS hj=>by have:=ki (k3 i hi aS);rw [dz] at this;exact b6 (dD sb (by omega) (by omega)) (bS this)
       by_cases w1:(k == 0)=true
       ·rw [aj w1]
        exact aq (.inl ⟨_,_,rfl,rfl,eE sa sb eS (.inl (eq_of_beq w1))⟩)
       ·rw [ae w1]
        have wG:k≠0:=fun e=>w1 (by simp [e])
        refine ar (aY (by have:=eS.2.2;omega) ?_)
        have bE:=qr sa sb eS (by omega) fun j h1=>by have:=iG (k2 j h1);rw [dz] at this;exact this
        by_cases x1:(nb-1 == 1)=true
        ·rw [aj x1]
         exact aq (.inl ⟨_,_,rfl,rfl,iI sa sb bE h0 (eq_of_beq x1)⟩)
        ·rw [ae x1]
         have lI:nb-1≠1:=fun e=>x1 (by simp [e])
         have lh:=bE.2.2;refine ar (aY (by omega) (ar (fw (f:=fun i=>bB true (key (a.getD (k-1) nn)) (key (b.getD (0+i) nn))) (fun i hi Q q=>fv h (by omega) ob (oa _ (by omega)) (dW _) q) (by omega) (fun i j h1 h2 h3=>kj sb (o:=0) i j h1 (by omega) h3) fun k' q1 q2 q3=>?_)))
         dsimp only;by_cases cI:nb-1-k'>0
         ·rw [aj cI]
          have cj:=qq sa sb bE (k:=k') q1 fun i j hi aS hj=>by have:=fz (q3 i hi aS);rw [dz] at this;exact b6 (dD sa (by omega) (by omega)) this
          by_cases x2:(k' == 1)=true
          ·rw [aj x2]
           exact aq (.inl ⟨_,_,rfl,rfl,iI sa sb cj h0 (eq_of_beq x2)⟩)
          ·rw [ae x2]
           have lJ:k'≠1:=fun e=>x2 (by simp [e])
           by_cases x3:(k' == 0)=true
           ·rw [aj x3]
            exact aq (.inl ⟨_,_,rfl,rfl,eE sa sb cj (.inr (eq_of_beq x3))⟩)
           ·rw [ae x3]
            have wI:k'≠0:=fun e=>x3 (by simp [e])
            refine ar (aY (by omega) ?_)
            have aP:=iH sa sb cj (by omega) fun j h1=>by have:=eN (q2 j h1);rw [dz] at this;exact bS this
            by_cases y1:(k-1 == 0)=true
            ·rw [aj y1]
             exact aq (.inl ⟨_,_,rfl,rfl,eE sa sb aP (.inl (eq_of_beq y1))⟩)
            ·rw [ae y1]
             have eT:k-1≠0:=fun e=>y1 (by simp [e])
             exact cW (fun _=>aq (.inr ⟨_,_,_,_,_,_,_,rfl,rfl,aP,by omega,by omega,by omega⟩)) (fun _=>aq ⟨_,_,_,_,_,_,_,rfl,rfl,aP,by omega,by omega,by omega⟩)
         ·rw [ae cI]
          obtain rfl:k'=nb-1:=by omega
          refine ar (aY (by omega) ?_)
          have aP:=iH sa sb bE (by omega) fun j h1=>by have:=eN (q2 j h1);rw [dz] at this;exact bS this
          by_cases y1:(k-1 == 0)=true
          ·rw [aj y1]
           exact aq (.inl ⟨_,_,rfl,rfl,eE sa sb aP (.inl (eq_of_beq y1))⟩)
          ·rw [ae y1]
           have eT:k-1≠0:=fun e=>y1 (by simp [e])
           exact cW (fun _=>aq (.inr ⟨_,_,_,_,_,_,_,rfl,rfl,aP,by omega,by omega,by omega⟩)) (fun _=>aq ⟨_,_,_,_,_,_,_,rfl,rfl,aP,by omega,by omega,by omega⟩)
      ·rw [ae zk]
       obtain rfl:k=na:=by omega
       refine ar (aY (by have:=mi.2.2;omega) ?_)
       have bE:=qr sa sb mi (by omega) fun j h1=>by have:=iG (k2 j h1);rw [dz] at this;exact this
       by_cases x1:(nb-1 == 1)=true
       ·rw [aj x1]
        exact aq (.inl ⟨_,_,rfl,rfl,iI sa sb bE h0 (eq_of_beq x1)⟩)
       ·rw [ae x1]
        have lI:nb-1≠1:=fun e=>x1 (by simp [e])
        have lh:=bE.2.2;refine ar (aY (by omega) (ar (fw (f:=fun i=>bB true (key (a.getD (k-1) nn)) (key (b.getD (0+i) nn))) (fun i hi Q q=>fv h (by omega) ob (oa _ (by omega)) (dW _) q) (by omega) (fun i j h1 h2 h3=>kj sb (o:=0) i j h1 (by omega) h3) fun k' q1 q2 q3=>?_)))
        dsimp only;by_cases cI:nb-1-k'>0
        ·rw [aj cI]
         have cj:=qq sa sb bE (k:=k') q1 fun i j hi aS hj=>by have:=fz (q3 i hi aS);rw [dz] at this;exact b6 (dD sa (by omega) (by omega)) this
         by_cases x2:(k' == 1)=true
         ·rw [aj x2]
          exact aq (.inl ⟨_,_,rfl,rfl,iI sa sb cj h0 (eq_of_beq x2)⟩)
         ·rw [ae x2]
          have lJ:k'≠1:=fun e=>x2 (by simp [e])
          by_cases x3:(k' == 0)=true
          ·rw [aj x3]
           exact aq (.inl ⟨_,_,rfl,rfl,eE sa sb cj (.inr (eq_of_beq x3))⟩)
          ·rw [ae x3]
           have wI:k'≠0:=fun e=>x3 (by simp [e])
           refine ar (aY (by omega) ?_)
           have aP:=iH sa sb cj (by omega) fun j h1=>by have:=eN (q2 j h1);rw [dz] at this;exact bS this
           by_cases y1:(k-1 == 0)=true
           ·rw [aj y1]
            exact aq (.inl ⟨_,_,rfl,rfl,eE sa sb aP (.inl (eq_of_beq y1))⟩)
           ·rw [ae y1]
            have eT:k-1≠0:=fun e=>y1 (by simp [e])
            exact cW (fun _=>aq (.inr ⟨_,_,_,_,_,_,_,rfl,rfl,aP,by omega,by omega,by omega⟩)) (fun _=>aq ⟨_,_,_,_,_,_,_,rfl,rfl,aP,by omega,by omega,by omega⟩)
        ·rw [ae cI]
         obtain rfl:k'=nb-1:=by omega
         refine ar (aY (by omega) ?_)
         have aP:=iH sa sb bE (by omega) fun j h1=>by have:=eN (q2 j h1);rw [dz] at this;exact bS this
         by_cases y1:(k-1 == 0)=true
         ·rw [aj y1]
          exact aq (.inl ⟨_,_,rfl,rfl,eE sa sb aP (.inl (eq_of_beq y1))⟩)
         ·rw [ae y1]
          have eT:k-1≠0:=fun e=>y1 (by simp [e])
          exact cW (fun _=>aq (.inr ⟨_,_,_,_,_,_,_,rfl,rfl,aP,by omega,by omega,by omega⟩)) (fun _=>aq ⟨_,_,_,_,_,_,_,rfl,rfl,aP,by omega,by omega,by omega⟩)
    ·rintro c aw ⟨out,i,j,mg,ac,bc,g,rfl,rfl,mi,ha,hb,eQ⟩
     exact .inr ⟨_,_,_,_,_,_,_,rfl,rfl,mi,ha,hb,eQ⟩
    ·rintro c aw (⟨m,g,e,rfl,pm⟩ | ⟨out,i,j,mg,ac,bc,g,rfl,rfl,mi,ha,hb,eQ⟩)
     ·obtain ⟨c1,c2⟩:=c
      dsimp only at e;subst e;exact aq ⟨m,g,rfl,rfl,pm⟩
     ·dsimp only
      exact ar (nE (aq ⟨_,_,_,_,_,rfl,rfl,mi,ha,hb,by omega⟩))
 ·rintro c aw ⟨out,ia,ib,mg,g,rfl,rfl,mi,ha,hb,wF⟩
  exfalso
  omega
 ·rintro c aw ⟨m,g,e,rfl,pm,sm⟩
  obtain ⟨c1,c2⟩:=c;dsimp only at e;subst e;exact aq (q m g pm sm)
end
section
variable {prog:Program} {w:World} {A:Around} {E:aF} {s:Shared} {κ:SortKind} {key:Keyed→Int} {Ok:Keyed→Prop}
def vA(key:Keyed→Int)(arr:Array Keyed)(i:Nat):Int:=key (arr.getD i nn)
def bQ(key:Keyed→Int)(arr:Array Keyed)(lo hi:Nat):Prop:=∀i j,lo≤i→i≤j→j<hi→vA key arr i≤vA key arr j
def gE(key:Keyed→Int)(arr:Array Keyed)(lo hi:Nat):Prop:=∀i j,lo≤i→i≤j→j<hi→vA key arr j≤vA key arr i
structure Rl (arr aN:Array Keyed) (lo hi:Nat):Prop where
 pm:aN.Perm arr
 out:∀k,k<lo∨hi≤k→aN[k]?=arr[k]?
theorem Rl.refl(arr:Array Keyed)(lo hi:Nat):Rl arr arr lo hi:=⟨Array.Perm.refl _,fun _ _=>rfl⟩
variable {arr aN:Array Keyed} {lo hi:Nat}
theorem Rl.trans{aB:Array Keyed}(h:Rl arr aN lo hi)(h':Rl aN aB lo hi):Rl arr aB lo hi:=⟨h'.pm.trans h.pm,fun k hk=>(h'.out k hk).trans (h.out k hk)⟩
theorem Rl.size{arr aN:Array Keyed}{lo hi:Nat}(h:Rl arr aN lo hi):aN.size=arr.size:=h.pm.size_eq
theorem Rl.wide{An aS:Nat}(h:Rl arr aN lo hi)(h1:An≤lo)(h2:hi≤aS):Rl arr aN An aS:=⟨h.pm,fun k hk=>h.out k (by omega)⟩
theorem hE(arr:Array Keyed)(i:Nat):arr.getD i nn=arr[i]?.getD nn:=by by_cases z:i<arr.size <;> simp [Array.getD,z]
variable {k:Nat}
theorem Rl.v(h:Rl arr aN lo hi)(hk:k<lo∨hi≤k):vA key aN k=vA key arr k:=by unfold vA;rw [hE,hE,h.out k hk]
theorem nH(h:dr Ok arr)(p:aN.Perm arr):dr Ok aN:=fun i hi=>by
 have e:aN.getD i nn=aN[i]:=by simp [Array.getD,hi]
 rw [e];have m:aN[i]∈arr:=(Array.Perm.mem_iff p).mp (Array.getElem_mem hi);obtain ⟨j,hj,ej⟩:=Array.getElem_of_mem m;rw [←ej];have:=h j hj;simpa [Array.getD,hj] using this
theorem Rl.ok(h:Rl arr aN lo hi)(ok:dr Ok arr):dr Ok aN:=nH ok h.pm
theorem hG(hj:j≤arr.size):Rl arr (mirror arr i j ((j-i) / 2)) i j:=⟨mirror_perm ..,fun k hk=>by rw [getElem?_mirror_all hj,ae (by omega)]⟩
theorem tG(hj:j≤arr.size)(h1:i≤k)(h2:k<j):vA key (mirror arr i j ((j-i) / 2)) k=vA key arr (i+j-1-k):=by unfold vA;rw [hE,hE,getElem?_mirror_all hj,aj ⟨h1,h2⟩]
abbrev aU (κ:SortKind) (arr:Array Keyed) (pend:Array (Nat×Nat×Nat)) (g:Nat):SortSt:=SortSt.mk' κ arr pend g none
variable {arr:Array Keyed} {pend:Array (Nat×Nat×Nat)} {g:Nat}
theorem hJ(h:gA prog w A s κ key Ok)(ok:dr Ok arr)(hi:i<arr.size)(hj:j<arr.size){Q:Option Bool→SortSt→Prop}(q:Q (some (decide (vA key arr i<vA key arr j))) (aU κ arr pend g)):wpS (model prog w) A E s (ltAt' i j) Q (aU κ arr pend g):=by rw [ltAt'_eq];refine ar (fJ ?_);exact ar (aY hi (ar (aY hj (qo h (ok _ hi) (ok _ hj) rfl q))))
theorem jo{Q:Unit→SortSt→Prop}(q:Q () (aU κ (mirror arr i j ((j-i) / 2)) pend g)):wpS (model prog w) A E s (reverseSlice' i j) Q (aU κ arr pend g):=by rw [reverseSlice'_eq];exact gO q
variable {n:Nat}
theorem bQ.more(h:bQ key arr lo (lo+n))(n1:1≤n)(c:vA key arr (lo+n-1)≤vA key arr (lo+n)):bQ key arr lo (lo+(n+1)):=fun i j h1 h2 h3=>by
 by_cases z:j<lo+n;·exact h i j h1 h2 z
 ·obtain rfl:j=lo+n:=by omega
  by_cases y:i=lo+n;·rw [y];exact i3 _
  ·exact b6 (h i (lo+n-1) h1 (by omega) (by omega)) c
theorem gE.more(h:gE key arr lo (lo+n))(n1:1≤n)(c:vA key arr (lo+n)≤vA key arr (lo+n-1)):gE key arr lo (lo+(n+1)):=fun i j h1 h2 h3=>by
 by_cases z:j<lo+n;·exact h i j h1 h2 z
 ·obtain rfl:j=lo+n:=by omega
  by_cases y:i=lo+n;·rw [y];exact i3 _
  ·exact b6 c (h i (lo+n-1) h1 (by omega) (by omega))
def qt(key:Keyed→Int)(arr:Array Keyed)(lo n q:Nat):Prop:=q+1≤n∧∀i,lo+n-(q+1)≤i→i<lo+n→vA key arr i=vA key arr (lo+n-1)
theorem tH{q:Nat}(hz:lo+n≤arr.size)(d:gE key arr lo (lo+n))(e:qt key arr lo n q):gE key (mirror arr (lo+n-(q+1)) (lo+n) ((lo+n-(lo+n-(q+1))) / 2)) lo (lo+n)∧∀k,vA key (mirror arr (lo+n-(q+1)) (lo+n) ((lo+n-(lo+n-(q+1))) / 2)) k=vA key arr k:=by
 have hv:∀k,vA key (mirror arr (lo+n-(q+1)) (lo+n) ((lo+n-(lo+n-(q+1))) / 2)) k=vA key arr k:=fun k=>by
  by_cases z:lo+n-(q+1)≤k∧k<lo+n;·rw [tG hz z.1 z.2,e.2 _ (by have:=e.1;omega) (by omega),e.2 k z.1 z.2]
  ·exact (hG hz).v (by omega)
 refine ⟨fun i j h1 h2 h3=>?_,hv⟩;rw [hv,hv];exact d i j h1 h2 h3
theorem tI(hz:lo+n≤arr.size)(d:gE key arr lo (lo+n)):bQ key (mirror arr lo (lo+n) ((lo+n-lo) / 2)) lo (lo+n):=fun i j h1 h2 h3=>by
 rw [tG hz h1 (by omega),tG hz (by omega) h3]
 exact d _ _ (by omega) (by omega) (by omega)
end
section
variable {prog:Program} {w:World} {A:Around} {E:aF} {s:Shared} {κ:SortKind} {key:Keyed→Int} {Ok:Keyed→Prop} {arr:Array Keyed} {pend:Array (Nat×Nat×Nat)} {g:Nat}
variable {lo bF:Nat}
theorem qu(h:gA prog w A s κ key Ok)(ok:dr Ok arr){m:Nat}(hz:lo+bF≤arr.size)(m1:1≤m)(mn:m≤bF)(sg:bQ key arr lo (lo+m)){body:Nat→Option (Option Nat)×Nat→StateT SortSt Sem (ForInStep (Option (Option Nat)×Nat))}{R:Option (Option Nat)×Nat→SortSt→Prop}
  (hb:∀x n (R:ForInStep (Option (Option Nat)×Nat)→SortSt→Prop),1≤n→n<bF→R (if vA key arr (lo+n)<vA key arr (lo+n-1) then .done (none,n) else .yield (none,n+1)) (aU κ arr pend g)→wpS (model prog w) A E s (body x (none,n)) R (aU κ arr pend g))
  (k:∀n,m≤n→n≤bF→bQ key arr lo (lo+n)→(n<bF→vA key arr (lo+n)<vA key arr (lo+n-1))→R (none,n) (aU κ arr pend g)) :
  wpS (model prog w) A E s (forIn [m:bF] (none,m) body) R (aU κ arr pend g):=by
 refine dy (I:=fun x c aw=>aw=aU κ arr pend g∧c=(none,x)∧m≤x∧x≤bF∧bQ key arr lo (lo+x)) ?_ ?_ ⟨rfl,rfl,aC _,mn,sg⟩
 ·rintro x c aw _ hx ⟨rfl,rfl,g1,g2,g3⟩
  refine hb x x _ (by omega) hx ?_
  by_cases z:vA key arr (lo+x)<vA key arr (lo+x-1)
  ·rw [aj z]
   exact k x g1 g2 g3 fun _=>z
  ·rw [ae z]
   exact ⟨rfl,rfl,by omega,by omega,g3.more (by omega) (Int.not_lt.mp z)⟩
 ·rintro c aw ⟨rfl,rfl,g1,g2,g3⟩
  have e:max m bF=bF:=by omega
  rw [e] at g3 ⊢;exact k bF mn (aC _) g3 fun z=>absurd z (d7 _)
theorem GC(h:gA prog w A s κ key Ok)(ok:dr Ok arr)(hz:lo+bF≤arr.size)(n1:1≤bF){Q:Option Nat→SortSt→Prop}
  (k:∀n aN,1≤n→n≤bF→Rl arr aN lo (lo+bF)→bQ key aN lo (lo+n)→Q (some n) (aU κ aN pend g)):wpS (model prog w) A E s (countRun' lo bF) Q (aU κ arr pend g):=by
 rw [countRun'_eq];refine ar (qu h ok hz (aC 1) n1 (fun i j h1 h2 h3=>by rw [show i=j by omega];exact i3 _) ?_ fun n m1 mn sg br=>?_)
 ·intro x n R a1 a2 r
  dsimp only;refine ar (hJ h ok (by omega) (by omega) ?_)
  dsimp only;by_cases z:vA key arr (lo+n)<vA key arr (lo+n-1)
  ·rw [aj z] at r
   rw [bg z,aj rfl];exact aq r
  ·rw [ae z] at r
   rw [bp z,ae (by simp)]
   exact aq r
 dsimp only;by_cases e1:(n == bF)=true
 ·rw [aj e1]
  exact aq (k n arr m1 mn (Rl.refl ..) sg)
 rw [ae e1];have bL:n<bF:=by
  have:n≠bF:=fun e=>e1 (by simp [e])
  omega
 have Ao:=br bL;by_cases e2:n>1
 ·rw [aj e2]
  refine ar (hJ h ok (by omega) (by omega) ?_)
  dsimp only;by_cases z:vA key arr lo<vA key arr (lo+n-1)
  ·rw [bg z,aj rfl]
   exact aq (k n arr m1 mn (Rl.refl ..) sg)
  ·rw [bp z,ae (by simp)]
   refine ar (jo ?_);have ev:∀i,lo≤i→i<lo+n→vA key arr i=vA key arr (lo+n-1):=fun i h1 h2=>by
    have a1:=sg lo i (aC _) h1 h2;have a2:=sg i (lo+n-1) h1 (by omega) (by omega)
    omega
   have hv:∀i,vA key (mirror arr lo (lo+n) ((lo+n-lo) / 2)) i=vA key arr i:=fun i=>by
    by_cases y:lo≤i∧i<lo+n;·rw [tG (by omega) y.1 y.2,ev _ (by omega) (by omega),ev i y.1 y.2]
    ·exact (hG (by omega)).v (by omega)
   have d1:gE key (mirror arr lo (lo+n) ((lo+n-lo) / 2)) lo (lo+n):=fun i j h1 h2 h3=>by
    rw [hv,hv,ev i h1 (by omega),ev j (by omega) h3]
    exact i3 _
   have tJ:Rl arr (mirror arr lo (lo+n) ((lo+n-lo) / 2)) lo (lo+bF):=(hG (by omega)).wide (aC _) (by omega)
   have Ap:vA key (mirror arr lo (lo+n) ((lo+n-lo) / 2)) (lo+n)<vA key (mirror arr lo (lo+n) ((lo+n-lo) / 2)) (lo+n-1):=by rw [hv,hv];exact Ao
   generalize mirror arr lo (lo+n) ((lo+n-lo) / 2)=GF at d1 tJ Ap ⊢;refine ar (wpS_lift (gP ⟨rfl,?_⟩))
   refine ar (dP (dy (I:=fun x c aw=>∃(aB:Array Keyed) (q:Nat),aw=aU κ aB pend g∧c=(none,x,q)∧Rl arr aB lo (lo+bF)∧gE key aB lo (lo+x)∧qt key aB lo x q∧x≤bF∧1≤x)
    (Q:=fun c aw=>∃(aB:Array Keyed) (n q:Nat),aw=aU κ aB pend g∧c=(none,n,q)∧Rl arr aB lo (lo+bF)∧gE key aB lo (lo+n)∧qt key aB lo n q∧n≤bF∧1≤n) ?_ ?_ ⟨GF,0,rfl,rfl,tJ,d1.more (by omega) (bS Ap),⟨by omega,fun i h1 h2=>by rw [show i=lo+(n+1)-1 by omega]⟩,by omega,by omega⟩) ?_)
   ·rintro x c aw _ hx ⟨aB,q,rfl,rfl,cx,d2,e2,x1,x2⟩
    have jq:=cx.ok ok;have z2:=cx.size;dsimp only;refine ar (hJ h jq (by omega) (by omega) ?_)
    dsimp only;by_cases z:vA key aB (lo+x)<vA key aB (lo+x-1)
    ·rw [bg z,aj rfl]
     by_cases y:q>0
     ·rw [aj y]
      refine ar (jo (aq ?_));obtain ⟨d3,hv⟩:=tH (by omega) d2 e2
      refine ⟨_,0,rfl,rfl,cx.trans ((hG (by omega)).wide (by have:=e2.1;omega) (by omega)),d3.more (by omega) (by rw [hv,hv];exact bS z),⟨by omega,fun i h1 h2=>by rw [show i=lo+(x+1)-1 by omega]⟩,by omega,by omega⟩
     ·rw [ae y]
      exact aq ⟨_,0,rfl,rfl,cx,d2.more (by omega) (bS z),⟨by omega,fun i h1 h2=>by rw [show i=lo+(x+1)-1 by omega]⟩,by omega,by omega⟩
    ·rw [bp z,ae (by simp)]
     refine ar (hJ h jq (by omega) (by omega) ?_)
     dsimp only;by_cases y:vA key aB (lo+x-1)<vA key aB (lo+x)
     ·rw [bg y,aj rfl]
      exact aq ⟨_,_,_,rfl,rfl,cx,d2,e2,x1,x2⟩
     ·rw [bp y,ae (by simp)]
      have ev:vA key aB (lo+x)=vA key aB (lo+x-1):=by omega
      refine aq ⟨_,_,rfl,rfl,cx,d2.more (by omega) (by omega),⟨by have:=e2.1;omega,fun i h1 h2=>?_⟩,by omega,by omega⟩
      rw [show lo+(x+1)-1=lo+x by omega]
      by_cases w:i=lo+x;·rw [w]
      ·rw [ev]
       exact e2.2 i (by omega) (by omega)
   ·rintro c aw ⟨aB,q,rfl,rfl,cx,d2,e2,x1,x2⟩
    exact ⟨aB,_,q,rfl,rfl,cx,d2,e2,x1,x2⟩
   ·rintro c aw ⟨aB,n2,q2,rfl,rfl,cx,d2,e2,x1,x2⟩
    have z2:=cx.size;dsimp only;by_cases y:q2>0
    ·rw [aj y]
     obtain ⟨d3,hv⟩:=tH (by omega) d2 e2
     refine ar (jo (ar (jo ?_)));have hU:=cx.trans ((hG (arr:=aB) (i:=lo+n2-(q2+1)) (j:=lo+n2) (by omega)).wide (by have:=e2.1;omega) (show lo+n2≤lo+bF by omega))
     generalize mirror aB (lo+n2-(q2+1)) (lo+n2) _=bJ at d3 hU ⊢;have z3:=hU.size;have dX:=tI (by omega) d3
     have bb:=hU.trans ((hG (arr:=bJ) (i:=lo) (j:=lo+n2) (by omega)).wide (aC lo) (show lo+n2≤lo+bF by omega))
     generalize mirror bJ lo (lo+n2) _=aQ at dX bb ⊢;have hV:=Rl.ok bb ok;have z4:=Rl.size bb;refine ar (qu h hV (by omega) (by omega) (by omega) dX ?_ fun m m1 mn lK _=>aq (k m aQ (by omega) mn bb lK))
     intro x n R a1 a2 r;dsimp only;refine ar (hJ h hV (by omega) (by omega) ?_)
     dsimp only;by_cases z:vA key aQ (lo+n)<vA key aQ (lo+n-1)
     ·rw [aj z] at r
      rw [bg z,aj rfl];exact aq r
     ·rw [ae z] at r
      rw [bp z,ae (by simp)]
      exact aq r
    ·rw [ae y]
     refine ar (jo ?_);have dX:=tI (by omega) d2
     have bb:=cx.trans ((hG (arr:=aB) (i:=lo) (j:=lo+n2) (by omega)).wide (aC lo) (show lo+n2≤lo+bF by omega))
     generalize mirror aB lo (lo+n2) _=aQ at dX bb ⊢;have hV:=Rl.ok bb ok;have z4:=Rl.size bb;refine ar (qu h hV (by omega) (by omega) (by omega) dX ?_ fun m m1 mn lK _=>aq (k m aQ (by omega) mn bb lK))
     intro x n R a1 a2 r;dsimp only;refine ar (hJ h hV (by omega) (by omega) ?_)
     dsimp only;by_cases z:vA key aQ (lo+n)<vA key aQ (lo+n-1)
     ·rw [aj z] at r
      rw [bg z,aj rfl];exact aq r
     ·rw [ae z] at r
      rw [bp z,ae (by simp)]
      exact aq r
 ·rw [ae e2]
  have d1:gE key arr lo (lo+n):=fun i j h1 h2 h3=>by
   rw [show i=j by omega]
   exact i3 _
  have tJ:Rl arr arr lo (lo+bF):=Rl.refl ..;refine ar (wpS_lift (gP ⟨rfl,?_⟩))
  refine ar (dP (dy (I:=fun x c aw=>∃(aB:Array Keyed) (q:Nat),aw=aU κ aB pend g∧c=(none,x,q)∧Rl arr aB lo (lo+bF)∧gE key aB lo (lo+x)∧qt key aB lo x q∧x≤bF∧1≤x)
   (Q:=fun c aw=>∃(aB:Array Keyed) (n q:Nat),aw=aU κ aB pend g∧c=(none,n,q)∧Rl arr aB lo (lo+bF)∧gE key aB lo (lo+n)∧qt key aB lo n q∧n≤bF∧1≤n) ?_ ?_ ⟨arr,0,rfl,rfl,tJ,d1.more (by omega) (bS Ao),⟨by omega,fun i h1 h2=>by rw [show i=lo+(n+1)-1 by omega]⟩,by omega,by omega⟩) ?_)
  ·rintro x c aw _ hx ⟨aB,q,rfl,rfl,cx,d2,e2,x1,x2⟩
   have jq:=cx.ok ok;have z2:=cx.size;dsimp only;refine ar (hJ h jq (by omega) (by omega) ?_)
   dsimp only;by_cases z:vA key aB (lo+x)<vA key aB (lo+x-1)
   ·rw [bg z,aj rfl]
    by_cases y:q>0
    ·rw [aj y]
     refine ar (jo (aq ?_));obtain ⟨d3,hv⟩:=tH (by omega) d2 e2
     refine ⟨_,0,rfl,rfl,cx.trans ((hG (by omega)).wide (by have:=e2.1;omega) (by omega)),d3.more (by omega) (by rw [hv,hv];exact bS z),⟨by omega,fun i h1 h2=>by rw [show i=lo+(x+1)-1 by omega]⟩,by omega,by omega⟩
    ·rw [ae y]
     exact aq ⟨_,0,rfl,rfl,cx,d2.more (by omega) (bS z),⟨by omega,fun i h1 h2=>by rw [show i=lo+(x+1)-1 by omega]⟩,by omega,by omega⟩
   ·rw [bp z,ae (by simp)]
    refine ar (hJ h jq (by omega) (by omega) ?_)
    dsimp only;by_cases y:vA key aB (lo+x-1)<vA key aB (lo+x)
    ·rw [bg y,aj rfl]
     exact aq ⟨_,_,_,rfl,rfl,cx,d2,e2,x1,x2⟩
    ·rw [bp y,ae (by simp)]
     have ev:vA key aB (lo+x)=vA key aB (lo+x-1):=by omega
     refine aq ⟨_,_,rfl,rfl,cx,d2.more (by omega) (by omega),⟨by have:=e2.1;omega,fun i h1 h2=>?_⟩,by omega,by omega⟩
     rw [show lo+(x+1)-1=lo+x by omega]
     by_cases w:i=lo+x;·rw [w]
     ·rw [ev]
      exact e2.2 i (by omega) (by omega)
  ·rintro c aw ⟨aB,q,rfl,rfl,cx,d2,e2,x1,x2⟩
   exact ⟨aB,_,q,rfl,rfl,cx,d2,e2,x1,x2⟩
  ·rintro c aw ⟨aB,n2,q2,rfl,rfl,cx,d2,e2,x1,x2⟩
   have z2:=cx.size;dsimp only;by_cases y:q2>0
   ·rw [aj y]
    obtain ⟨d3,hv⟩:=tH (by omega) d2 e2
    refine ar (jo (ar (jo ?_)));have hU:=cx.trans ((hG (arr:=aB) (i:=lo+n2-(q2+1)) (j:=lo+n2) (by omega)).wide (by have:=e2.1;omega) (show lo+n2≤lo+bF by omega))
    generalize mirror aB (lo+n2-(q2+1)) (lo+n2) _=bJ at d3 hU ⊢;have z3:=hU.size;have dX:=tI (by omega) d3
    have bb:=hU.trans ((hG (arr:=bJ) (i:=lo) (j:=lo+n2) (by omega)).wide (aC lo) (show lo+n2≤lo+bF by omega))
    generalize mirror bJ lo (lo+n2) _=aQ at dX bb ⊢;have hV:=Rl.ok bb ok;have z4:=Rl.size bb;refine ar (qu h hV (by omega) (by omega) (by omega) dX ?_ fun m m1 mn lK _=>aq (k m aQ (by omega) mn bb lK))
    intro x n R a1 a2 r;dsimp only;refine ar (hJ h hV (by omega) (by omega) ?_)
    dsimp only;by_cases z:vA key aQ (lo+n)<vA key aQ (lo+n-1)
    ·rw [aj z] at r
     rw [bg z,aj rfl];exact aq r
    ·rw [ae z] at r
     rw [bp z,ae (by simp)]
     exact aq r
   ·rw [ae y]
    refine ar (jo ?_);have dX:=tI (by omega) d2
    have bb:=cx.trans ((hG (arr:=aB) (i:=lo) (j:=lo+n2) (by omega)).wide (aC lo) (show lo+n2≤lo+bF by omega))
    generalize mirror aB lo (lo+n2) _=aQ at dX bb ⊢;have hV:=Rl.ok bb ok;have z4:=Rl.size bb;refine ar (qu h hV (by omega) (by omega) (by omega) dX ?_ fun m m1 mn lK _=>aq (k m aQ (by omega) mn bb lK))
    intro x n R a1 a2 r;dsimp only;refine ar (hJ h hV (by omega) (by omega) ?_)
    dsimp only;by_cases z:vA key aQ (lo+n)<vA key aQ (lo+n-1)
    ·rw [aj z] at r
     rw [bg z,aj rfl];exact aq r
    ·rw [ae z] at r
     rw [bp z,ae (by simp)]
     exact aq r
end
section
variable {prog:Program} {w:World} {A:Around} {E:aF} {s:Shared} {κ:SortKind} {key:Keyed→Int} {Ok:Keyed→Prop} {arr:Array Keyed} {pend:Array (Nat×Nat×Nat)} {g:Nat}
theorem GG{Q:Unit→SortSt→Prop}(q:Q () (aU κ (bubble arr i (i-j)) pend g)):wpS (model prog w) A E s (moveDown' i j) Q (aU κ arr pend g):=by rw [moveDown'_eq];exact gO q
variable {d:Nat}
theorem Aq{k:Nat}(hi:i<arr.size)(hd:d≤i):vA key (bubble arr i d) k=if k=i-d then vA key arr i else if i-d<k∧k≤i then vA key arr (k-1) else vA key arr k:=by
 unfold vA;rw [hE,getElem?_bubble hi d hd,hE arr i,hE arr (k-1),hE arr k];by_cases a:k=i-d;·rw [aj a,aj a]
 ·rw [ae a,ae a]
  by_cases b:i-d<k∧k≤i;·rw [aj b,aj b]
  ·rw [ae b,ae b]
variable {lo:Nat}
theorem GH{hi:Nat}(h:i<arr.size)(hd:d≤i)(h1:lo≤i-d)(h2:i<hi):Rl arr (bubble arr i d) lo hi:=⟨bubble_perm ..,fun k hk=>by rw [getElem?_bubble h d hd,ae (by omega),ae (by omega)]⟩
theorem GI(h:gA prog w A s κ key Ok)(ok:dr Ok arr){n m:Nat}(hz:lo+n≤arr.size)(m1:1≤m)(mn:m≤n)(sg:bQ key arr lo (lo+m)){Q:Bool→SortSt→Prop}
  (k:∀aN,Rl arr aN lo (lo+n)→bQ key aN lo (lo+n)→Q true (aU κ aN pend g)):wpS (model prog w) A E s (binarySort' lo n m) Q (aU κ arr pend g):=by
 rw [binarySort'_eq];have em:max m 1=m:=by omega
 rw [em]
 refine ar (dP (dy (I:=fun x c aw=>∃aB:Array Keyed,aw=aU κ aB pend g∧c=(none,())∧Rl arr aB lo (lo+n)∧bQ key aB lo (lo+x)∧m≤x∧x≤n)
  (Q:=fun c aw=>∃aB:Array Keyed,aw=aU κ aB pend g∧c=(none,())∧Rl arr aB lo (lo+n)∧bQ key aB lo (lo+n)) ?_ ?_ ⟨arr,rfl,rfl,Rl.refl ..,sg,aC _,mn⟩) ?_)
 ·rintro x c aw _ hx ⟨aB,rfl,rfl,rl,sg,x1,x2⟩
  have jq:=rl.ok ok;have z2:=rl.size;dsimp only
  refine ar (dP (dy (I:=fun y c aw=>∃l r:Nat,aw=aU κ aB pend g∧c=(none,l,r)∧l≤r∧r≤x∧r-l+y≤x∧(∀i,i<l→vA key aB (lo+i)≤vA key aB (lo+x))∧(∀i,r≤i→i<x→vA key aB (lo+x)≤vA key aB (lo+i)))
   (Q:=fun c aw=>∃l:Nat,aw=aU κ aB pend g∧c=(none,l,l)∧l≤x∧(∀i,i<l→vA key aB (lo+i)≤vA key aB (lo+x))∧(∀i,l≤i→i<x→vA key aB (lo+x)≤vA key aB (lo+i))) ?_ ?_ ⟨0,x,rfl,rfl,by omega,aC _,show x-0+0≤x by omega,fun i hi=>absurd hi (Nat.not_lt_zero _),fun i h1 h2=>by omega⟩) ?_)
  ·rintro y c aw _ hy ⟨l,r,rfl,rfl,g1,g2,g3,g4,g5⟩
   dsimp only;by_cases z:l≥r
   ·rw [aj z]
    obtain rfl:l=r:=by omega
    exact aq ⟨l,rfl,rfl,g2,g4,g5⟩
   ·rw [ae z]
    refine ar (hJ h jq (by omega) (by omega) ?_)
    dsimp only;by_cases w:vA key aB (lo+x)<vA key aB (lo+(l+r) / 2)
    ·rw [bg w,aj rfl]
     exact aq ⟨l,_,rfl,rfl,by omega,by omega,by omega,g4,fun i h1 h2=>b6 (bS w) (sg _ _ (by omega) (by omega) (by omega))⟩
    ·rw [bp w,ae (by simp)]
     exact aq ⟨_,r,rfl,rfl,by omega,g2,by omega,fun i h1=>b6 (sg _ _ (by omega) (by omega) (by omega)) (Int.not_lt.mp w),g5⟩
  ·rintro c aw ⟨l,r,rfl,rfl,g1,g2,g3,g4,g5⟩
   have:max 0 x=x:=by omega
   obtain rfl:l=r:=by omega
   exact ⟨l,rfl,rfl,g2,g4,g5⟩
  ·rintro c aw ⟨l,rfl,rfl,g2,g4,g5⟩
   dsimp only;refine ar (GG (aq ?_));have ed:lo+x-(lo+l)=x-l:=by omega
   rw [ed];refine ⟨_,rfl,rfl,rl.trans (GH (by omega) (by omega) (by omega) (by omega)),fun i j h1 h2 h3=>?_,by omega,by omega⟩
   have e0:lo+x-(x-l)=lo+l:=by omega
   rw [Aq (by omega) (by omega),Aq (by omega) (by omega),e0]
   have f4:∀i,lo≤i→i<lo+l→vA key aB i≤vA key aB (lo+x):=fun i a b=>by have:=g4 (i-lo) (by omega);rwa [show lo+(i-lo)=i by omega] at this
   have f5:∀i,lo+l≤i→i<lo+x→vA key aB (lo+x)≤vA key aB i:=fun i a b=>by have:=g5 (i-lo) (by omega) (by omega);rwa [show lo+(i-lo)=i by omega] at this
   by_cases a1:i=lo+l
   ·rw [aj a1]
    by_cases b1:j=lo+l;·rw [aj b1];exact i3 _
    ·rw [ae b1,aj (by omega)]
     exact f5 _ (by omega) (by omega)
   ·rw [ae a1]
    by_cases a2:lo+l<i∧i≤lo+x
    ·rw [aj a2,ae (by omega),aj (by omega)]
     exact sg _ _ (by omega) (by omega) (by omega)
    ·rw [ae a2]
     by_cases b1:j=lo+l
     ·rw [aj b1]
      exact f4 i h1 (by omega)
     ·rw [ae b1]
      by_cases b2:lo+l<j∧j≤lo+x
      ·rw [aj b2]
       exact b6 (f4 i h1 (by omega)) (f5 _ (by omega) (by omega))
      ·rw [ae b2]
       exact sg _ _ (by omega) (by omega) (by omega)
 ·rintro c aw ⟨aB,rfl,rfl,rl,sg,x1,x2⟩
  have:max m n=n:=by omega
  rw [this] at sg;exact ⟨aB,rfl,rfl,rl,sg⟩
 ·rintro c aw ⟨aB,rfl,rfl,rl,sg⟩
  exact aq (k aB rl sg)
end
theorem GJ(i:Nat):mergeAt' i=(do
 let s ←get
 let (some (sa,na,power),some (sb,nb,_)):=((pendingOf s)[i]?,(pendingOf s)[i+1]?) | unsupported "internal:list.sort.pending"
 set (setPending s (((pendingOf s).setIfInBounds i (sa,na+nb,power)).eraseIdxIfInBounds (i+1)))
 let some k ←kh false (←elem' (arrOf s) sb) (arrOf s) sa na 0 | return false
 let (sa,na):=(sa+k,na-k)
 if na == 0 then return true
 let some nb ←kh true (←elem' (arrOf s) (sa+na-1)) (arrOf s) sb nb (nb-1) | return false
 if nb == 0 then return true
 let x:=(arrOf s).extract sa sb
 let y:=(arrOf s).extract sb (sb+nb)
 let merged ←if na≤nb then wz x y else wA x y
 modify fun s=>setArr s (merged.toList.zipIdx.foldl (fun a (p,j)=>a.setIfInBounds (sa+j) p) (arrOf s))
 return (failedOf (←get)).isNone):=rfl
def putL(m:List Keyed)(o:Nat)(arr:Array Keyed)(n:Nat):Array Keyed:=(m.zipIdx n).foldl (fun a (p,j)=>a.setIfInBounds (o+j) p) arr
theorem Ar(m:List Keyed)(o:Nat):∀(arr:Array Keyed) (n k:Nat),o+n+m.length≤arr.size→(putL m o arr n)[k]?=if o+n≤k∧k<o+n+m.length then m[k-(o+n)]? else arr[k]?:=by
 induction m with
 | nil=>
  intro arr n k _;rw [ae (by simp)]
  rfl
 | cons x m ih=>
  intro arr n k hz;rw [dm] at hz ⊢;show (putL m o (arr.setIfInBounds (o+n) x) (n+1))[k]?=_;rw [ih _ _ _ (by simp;omega)]
  by_cases a:o+(n+1)≤k∧k<o+(n+1)+m.length
  ·rw [aj a,aj (by omega),show k-(o+n)=(k-(o+(n+1)))+1 by omega]
   rfl
  ·rw [ae a]
   by_cases b:k=o+n
   ·subst b
    rw [aj (by omega),mN]
    simp [show o+n<arr.size by omega]
   ·rw [ae (by omega)]
    rw [Array.getElem?_setIfInBounds_ne (by omega)]
theorem GK{o:Nat}{arr:Array Keyed}(hz:o+m.length≤arr.size):(putL m o arr 0).toList=arr.toList.take o++m++arr.toList.drop (o+m.length):=by
 refine o1 fun k=>?_;have e:(putL m o arr 0).toList[k]?=(putL m o arr 0)[k]?:=by simp
 rw [e,Ar m o arr 0 k (by omega),o8]
 by_cases a:k<o
 ·rw [ae (by omega),gm,eG (by simp;omega),List.getElem?_take_of_lt a]
  simp
 ·by_cases b:k<o+m.length
  ·rw [aj (by omega),gm,dO (by simp;omega),eG (by simp;omega)]
   congr 1
   simp;omega
  ·rw [ae (by omega),dO (by simp;omega),mS]
   have:o+m.length+(k-(arr.toList.take o++m).length)=k:=by simp;omega
   rw [this];simp
section
variable {prog:Program} {w:World} {A:Around} {E:aF} {s:Shared} {κ:SortKind} {key:Keyed→Int} {Ok:Keyed→Prop} {arr:Array Keyed} {pend:Array (Nat×Nat×Nat)} {g:Nat}
variable {lo hi:Nat}
theorem As(h:bQ key arr lo hi)(hz:hi≤arr.size):aV key (arr.extract lo hi).toList:=by
 unfold aV;rw [o7];intro i j aS hj Aj;have h1:i<hi-lo∧j<hi-lo:=by simp at aS hj;omega
 have:=h (lo+i) (lo+j) (by omega) (by omega) (by omega)
 unfold vA at this;simpa [Array.getD,show lo+i<arr.size by omega,show lo+j<arr.size by omega] using this
theorem wJ(hz:hi≤arr.size)(aS:lo+i<hi):(arr.extract lo hi).getD i nn=arr.getD (lo+i) nn:=by simp [Array.getD,show lo+i<arr.size by omega,show i<min hi arr.size-lo by omega]
theorem Au(ok:dr Ok arr)(hz:hi≤arr.size):dr Ok (arr.extract lo hi):=fun i aS=>by
 have:lo+i<hi:=by simp at aS;omega
 rw [wJ hz this];exact ok _ (by omega)
theorem ext_mem(hz:hi≤arr.size){x:Keyed}(hx:x∈(arr.extract lo hi).toList):∃j,lo≤j∧j<hi∧x=arr.getD j nn:=jn hz hx
theorem GL{σ:Type}{st aw:σ}{Q:PUnit→σ→Prop}{M:Model}(q:Q ⟨⟩ aw):wpS M A E s (set aw:StateT σ Sem PUnit) Q st:=by unfold wpS;rw [StateT.run_set];exact aH ⟨rfl,q⟩
variable {sa na nb:Nat}
theorem GN{sb aW bw:Nat}{m:Array Keyed}(hz:sb+nb≤arr.size)(h0:sa+na=sb)(hk:aW≤na)(hb:bw≤nb)(pm:m.toList.Perm ((arr.extract (sa+aW) sb).toList++(arr.extract sb (sb+bw)).toList))(sm:aV key m.toList)
  (s1:bQ key arr sa sb) (s2:bQ key arr sb (sb+nb)) (GO:aW<na) (tK:1≤nb)
  (c1:∀i,i<aW→vA key arr (sa+i)≤vA key arr sb) (c2:∀i,bw≤i→i<nb→vA key arr (sb-1)≤vA key arr (sb+i)) :
  Rl arr (putL m.toList (sa+aW) arr 0) sa (sb+nb)∧bQ key (putL m.toList (sa+aW) arr 0) sa (sb+nb):=by
 have lm:m.toList.length=(na-aW)+bw:=by rw [pm.length_eq,d9,gB,gB];simp;omega
 have hsz:sa+aW+m.toList.length≤arr.size:=by omega
 have at':=Ar m.toList (sa+aW) arr 0;have rl:Rl arr (putL m.toList (sa+aW) arr 0) sa (sb+nb):=by
  refine ⟨o9.mpr ?_,fun k dW=>?_⟩
  ·rw [GK hsz]
   have e:arr.toList=arr.toList.take (sa+aW)++((arr.extract (sa+aW) sb).toList++(arr.extract sb (sb+bw)).toList)++arr.toList.drop (sa+aW+m.toList.length):=by
    rw [gB,gB,show sa+aW+m.toList.length=sb+bw by omega,show sb+bw-sb=bw by omega]
    have t1:arr.toList.drop (sa+aW)=(arr.toList.drop (sa+aW)).take (sb-(sa+aW))++arr.toList.drop sb:=by
     have:=(mQ (sb-(sa+aW)) (arr.toList.drop (sa+aW))).symm;rw [List.drop_drop,show sa+aW+(sb-(sa+aW))=sb by omega] at this
     exact this
    have t2:arr.toList.drop sb=(arr.toList.drop sb).take bw++arr.toList.drop (sb+bw):=by have:=(mQ bw (arr.toList.drop sb)).symm;rw [List.drop_drop] at this;exact this
    have t0:=(mQ (sa+aW) arr.toList).symm;rw [t1,t2] at t0;rw [gm,gm];exact t0
   refine List.Perm.trans ?_ (List.Perm.of_eq e.symm);exact List.Perm.append_right _ (vk _ pm)
  ·rw [at' k (by omega),ae (by omega)]
 have vo:∀k,k<sa+aW∨sb+bw≤k→vA key (putL m.toList (sa+aW) arr 0) k=vA key arr k:=fun k dW=>by unfold vA;rw [hE,at' k (by omega),ae (by omega),hE]
 have vm:∀k,sa+aW≤k→k<sb+bw→∃hj:k-(sa+aW)<m.toList.length,vA key (putL m.toList (sa+aW) arr 0) k=key (m.toList[k-(sa+aW)]'hj):=fun k h1 h2=>by
  have hj:k-(sa+aW)<m.toList.length:=by omega
  refine ⟨hj,?_⟩;unfold vA;rw [hE,at' k (by omega),aj (by omega),o8,bX hj]
  rfl
 have vq:∀k,sa+aW≤k→k<sb+bw→∃q,sa+aW≤q∧q<sb+bw∧vA key (putL m.toList (sa+aW) arr 0) k=vA key arr q:=fun k h1 h2=>by
  obtain ⟨hj,e⟩:=vm k h1 h2;have mm:=pm.mem_iff.mp (dw hj);rcases d8.mp mm with mm | mm
  ·obtain ⟨q,q1,q2,eq⟩:=ext_mem (by omega) mm
   exact ⟨q,q1,by omega,by rw [e,eq];rfl⟩
  ·obtain ⟨q,q1,q2,eq⟩:=ext_mem (by omega) mm
   exact ⟨q,by omega,q2,by rw [e,eq];rfl⟩
 have d1:∀i,sa≤i→i<sa+aW→vA key arr i≤vA key arr sb:=fun i a b=>by
  have:=c1 (i-sa) (by omega)
  rwa [show sa+(i-sa)=i by omega] at this
 have d2:∀j,sb+bw≤j→j<sb+nb→vA key arr (sb-1)≤vA key arr j:=fun j a b=>by
  have:=c2 (j-sb) (by omega) (by omega)
  rwa [show sb+(j-sb)=j by omega] at this
 refine ⟨rl,fun i j h1 h2 h3=>?_⟩;by_cases i1:i<sa+aW
 ·rw [vo i (.inl i1)]
  by_cases j1:j<sa+aW
  ·rw [vo j (.inl j1)]
   exact s1 i j h1 h2 (by omega)
  ·by_cases j2:j<sb+bw
   ·obtain ⟨q,q1,q2,e⟩:=vq j (by omega) j2
    rw [e];by_cases q3:q<sb;·exact s1 i q h1 (by omega) q3
    ·exact b6 (d1 i h1 i1) (s2 sb q (aC _) (by omega) (by omega))
   ·rw [vo j (.inr (by omega))]
    exact b6 (d1 i h1 i1) (s2 sb j (aC _) (by omega) h3)
 ·by_cases i2:i<sb+bw
  ·by_cases j2:j<sb+bw
   ·obtain ⟨x1,e1⟩:=vm i (by omega) i2
    obtain ⟨x2,e2⟩:=vm j (by omega) j2
    rw [e1,e2];by_cases z:i=j;·subst z;exact i3 _
    ·exact o7.mp sm _ _ x1 x2 (by omega)
   ·obtain ⟨q,q1,q2,e⟩:=vq i (by omega) i2
    rw [e,vo j (.inr (by omega))]
    by_cases q3:q<sb;·exact b6 (s1 q (sb-1) (by omega) (by omega) (by omega)) (d2 j (by omega) h3)
    ·exact s2 q j (by omega) (by omega) h3
  ·rw [vo i (.inr (by omega)),vo j (.inr (by omega))]
   exact s2 i j (by omega) h2 h3
theorem GP(h:gA prog w A s κ key Ok)(ok:dr Ok arr){pw jr:Nat}(e1:pend[i]?=some (sa,na,pw))(e2:pend[i+1]?=some (sa+na,nb,jr))(GO:1≤na)(tK:1≤nb)(hz:sa+na+nb≤arr.size)
  (s1:bQ key arr sa (sa+na)) (s2:bQ key arr (sa+na) (sa+na+nb)) {Q:Bool→SortSt→Prop}
  (k:∀aN g',Rl arr aN sa (sa+na+nb)→bQ key aN sa (sa+na+nb)→Q true (aU κ aN ((pend.setIfInBounds i (sa,na+nb,pw)).eraseIdxIfInBounds (i+1)) g')):wpS (model prog w) A E s (mergeAt' i) Q (aU κ arr pend g):=by
 rw [GJ];refine ar (fJ ?_);have eL:(pendingOf (aU κ arr pend g))[i]?=some (sa,na,pw):=e1;have GQ:(pendingOf (aU κ arr pend g))[i+1]?=some (sa+na,nb,jr):=e2;rw [eL,GQ];dsimp only;refine ar (GL ?_);refine ar (aY (by show sa+na<arr.size;omega) ?_)
 refine ar (fw (f:=fun j=>bB false (vA key arr (sa+na)) (vA key arr (sa+j))) (fun j hj Q q=>fv (κ:=κ) h (by show sa+j<arr.size;omega) ok (ok _ (by omega)) rfl q) (by omega) ?_ fun t t1 t2 t3=>?_)
 ·intro i j h1 h2 h3
  have:vA key arr (sa+i)≤vA key arr (sa+na):=b6 (s1 _ _ (by omega) (by omega) (by omega)) (iG h3)
  show (!decide (vA key arr (sa+na)<vA key arr (sa+i)))=true;simpa using this
 dsimp only;by_cases z1:(na-t == 0)=true
 ·rw [aj z1]
  have tz:t=na:=by have:=eq_of_beq z1;omega
  subst tz;refine aq (k arr g (Rl.refl ..) fun i j h1 h2 h3=>?_);by_cases i1:i<sa+t
  ·by_cases j1:j<sa+t
   ·exact s1 i j h1 h2 j1
   ·have:=iG (t2 (i-sa) (by omega))
    rw [show sa+(i-sa)=i by omega] at this
    exact b6 this (s2 _ _ (aC _) (by omega) (by omega))
  ·exact s2 i j (by omega) h2 (by omega)
 rw [ae z1];have tn:t<na:=by
  have:na-t≠0:=fun e=>z1 (by simp [e])
  omega
 refine ar (aY (by show sa+t+(na-t)-1<arr.size;omega) ?_)
 have el:sa+t+(na-t)-1=sa+na-1:=by omega
 rw [el];refine ar (fw (f:=fun j=>bB true (vA key arr (sa+na-1)) (vA key arr (sa+na+j))) (fun j hj Q q=>fv (κ:=κ) h (by show sa+na+j<arr.size;omega) ok (ok _ (by omega)) rfl q) (by omega) ?_ fun u u1 u2 u3=>?_)
 ·intro i j h1 h2 h3
  exact bg (Int.lt_of_le_of_lt (s2 _ _ (by omega) (by omega) (by omega)) (eN h3))
 dsimp only;have GR:=ki (t3 (na-1) (by omega) (by omega))
 rw [show sa+(na-1)=sa+na-1 by omega] at GR
 by_cases z2:(u == 0)=true
 ·exfalso
  have:=fz (u3 0 (by have:=eq_of_beq z2;omega) (by omega))
  rw [o8] at this;omega
 rw [ae z2];have un:1≤u:=by
  have:u≠0:=fun e=>z2 (by simp [e])
  omega
 have ox:=Au ok (lo:=sa+t) (hi:=sa+na) (by omega)
 have oy:=Au ok (lo:=sa+na) (hi:=sa+na+u) (by omega)
 have sx:aV key (arr.extract (sa+t) (sa+na)).toList:=As (fun i j h1 h2 h3=>s1 i j (by omega) h2 h3) (by omega)
 have sy:aV key (arr.extract (sa+na) (sa+na+u)).toList:=As (fun i j h1 h2 h3=>s2 i j h1 h2 (by omega)) (by omega)
 have zx:(arr.extract (sa+t) (sa+na)).size=na-t:=by simp;omega
 have zy:(arr.extract (sa+na) (sa+na+u)).size=u:=by simp;omega
 have h0:∀x∈(arr.extract (sa+t) (sa+na)).toList,key ((arr.extract (sa+na) (sa+na+u)).getD 0 nn)≤key x:=fun x hx=>by
  obtain ⟨j,j1,j2,rfl⟩:=ext_mem (by omega) hx
  rw [wJ (by omega) (by omega),o8]
  have:=ki (t3 (j-sa) (by omega) (by omega))
  rw [show sa+(j-sa)=j by omega] at this
  exact bS this
 have hl:∀y∈(arr.extract (sa+na) (sa+na+u)).toList,key y≤key ((arr.extract (sa+t) (sa+na)).getD ((arr.extract (sa+t) (sa+na)).size-1) nn):=fun y hy=>by
  obtain ⟨j,j1,j2,rfl⟩:=ext_mem (by omega) hy
  rw [zx,wJ (by omega) (by omega),show sa+t+(na-t-1)=sa+na-1 by omega]
  have:=eN (u2 (j-(sa+na)) (by omega))
  rw [show sa+na+(j-(sa+na))=j by omega] at this
  exact bS this
 have fin:∀(m:Array Keyed) (g':Nat),m.toList.Perm ((arr.extract (sa+t) (sa+na)).toList++(arr.extract (sa+na) (sa+na+u)).toList)→aV key m.toList→Q true (aU κ (putL m.toList (sa+t) arr 0) ((pend.setIfInBounds i (sa,na+nb,pw)).eraseIdxIfInBounds (i+1)) g'):=fun m g' pm sm=>by obtain ⟨rl,sg⟩:=GN (sb:=sa+na) hz rfl (iT tn) u1 pm sm s1 s2 tn tK (fun i hi=>iG (t2 i hi)) (fun i h1 h2=>fz (u3 i h1 h2));exact k _ g' rl sg
 refine cW (fun _=>?_) (fun _=>?_)
 ·refine ar (Gw (κ:=κ) h ox oy sx sy (by omega) (by omega) h0 hl rfl fun m g' pm sm=>?_)
  exact ar (gO (ar (fJ (aq (fin m g' pm sm)))))
 ·refine ar (GA (κ:=κ) h ox oy sx sy (by omega) (by omega) h0 hl rfl fun m g' pm sm=>?_)
  exact ar (gO (ar (fJ (aq (fin m g' pm sm)))))
end
def bM(key:Keyed→Int)(arr:Array Keyed):List (Nat×Nat×Nat)→Nat→Nat→Prop
 | [],lo,hi=>lo=hi
 | p::r,lo,hi=>p.1=lo∧1≤p.2.1∧bQ key arr lo (lo+p.2.1)∧bM key arr r (lo+p.2.1) hi
section
variable {key:Keyed→Int} {arr aN:Array Keyed}
theorem bM.le:∀{l:List (Nat×Nat×Nat)} {lo hi:Nat},bM key arr l lo hi→lo+l.length≤hi
 | [],lo,hi,h=>by have:lo=hi:=h;simp;omega
 | p::r,lo,hi,h=>by have:=bM.le h.2.2.2;have:=h.2.1;simp only [dm];omega
variable {hi:Nat}
theorem bQ.ck{lo a b:Nat}(h:bQ key arr lo hi)(rl:Rl arr aN a b)(d:hi≤a∨b≤lo):bQ key aN lo hi:=fun i j h1 h2 h3=>by
 rw [rl.v (by omega),rl.v (by omega)]
 exact h i j h1 h2 h3
theorem bM.ck:∀{l:List (Nat×Nat×Nat)} {lo hi a b:Nat},bM key arr l lo hi→Rl arr aN a b→hi≤a∨b≤lo→bM key aN l lo hi
 | [],lo,hi,a,b,h,_,_=>h
 | p::r,lo,hi,a,b,h,rl,d=>by have:=h.2.2.2.le;refine ⟨h.1,h.2.1,h.2.2.1.ck rl (by omega),h.2.2.2.ck rl (by omega)⟩
theorem bM.snoc:∀{l:List (Nat×Nat×Nat)} {lo hi n pw:Nat},bM key arr l lo hi→1≤n→bQ key arr hi (hi+n)→bM key arr (l++[(hi,n,pw)]) lo (hi+n)
 | [],lo,hi,n,pw,h,n1,s=>by obtain rfl:lo=hi:=h;exact ⟨rfl,n1,s,rfl⟩
 | p::r,lo,hi,n,pw,h,n1,s=>⟨h.1,h.2.1,h.2.2.1,h.2.2.2.snoc n1 s⟩
theorem bM.two:∀{l:List (Nat×Nat×Nat)} {lo hi i:Nat},bM key arr l lo hi→i+1<l.length→∃sa na pw nb jr,l[i]?=some (sa,na,pw)∧l[i+1]?=some (sa+na,nb,jr)∧1≤na∧1≤nb∧lo≤sa∧sa+na+nb≤hi∧bQ key arr sa (sa+na)∧bQ key arr (sa+na) (sa+na+nb) ∧
  ∀aN,Rl arr aN sa (sa+na+nb)→bQ key aN sa (sa+na+nb)→bM key aN ((l.set i (sa,na+nb,pw)).eraseIdx (i+1)) lo hi
 | [],lo,hi,i,h,aS=>by simp at aS
 | [p],lo,hi,i,h,aS=>by simp at aS
 | p::q::r,lo,hi,0,h,_=>by
  obtain ⟨p1,p2,pw⟩:=p;obtain ⟨q1,q2,jr⟩:=q;obtain ⟨e1,n1,s1,e2,n2,s2,c⟩:=h;dsimp only at e1 n1 s1 e2 n2 s2 c;subst e1;subst e2;have:=c.le;refine ⟨p1,p2,pw,q2,jr,rfl,rfl,n1,n2,aC _,by omega,s1,s2,fun aN rl sg=>?_⟩
  show bM key aN ((p1,p2+q2,pw)::r) p1 hi;refine ⟨rfl,by show 1≤p2+q2;omega,by show bQ key aN p1 (p1+(p2+q2));rw [←Nat.add_assoc];exact sg,?_⟩
  show bM key aN r (p1+(p2+q2)) hi;rw [←Nat.add_assoc];exact c.ck rl (.inr (aC _))
 | p::q::r,lo,hi,i+1,h,aS=>by
  obtain ⟨sa,na,pw,nb,jr,e1,e2,n1,n2,l1,l2,s1,s2,k⟩:=h.2.2.2.two (i:=i) (by simpa using aS)
  refine ⟨sa,na,pw,nb,jr,e1,e2,n1,n2,by omega,l2,s1,s2,fun aN rl sg=>?_⟩
  exact ⟨h.1,h.2.1,h.2.2.1.ck rl (.inl l1),k aN rl sg⟩
theorem bM.last:∀{l:List (Nat×Nat×Nat)} {lo hi pw:Nat},bM key arr l lo hi→bM key arr (l.modify (l.length-1) fun x=>(x.1,x.2.1,pw)) lo hi
 | [],lo,hi,pw,h=>h
 | [p],lo,hi,pw,h=>h
 | p::q::r,lo,hi,pw,h=>⟨h.1,h.2.1,h.2.2.1,h.2.2.2.last⟩
theorem bM.one{l:List (Nat×Nat×Nat)}(h:bM key arr l 0 hi)(hl:l.length≤1):bQ key arr 0 hi:=by
 match l,h,hl with
 | [],h,_=>have:0=hi:=h;exact fun i j h1 h2 h3=>by omega
 | [p],h,_=>have:=h.2.2.1;have e:0+p.2.1=hi:=h.2.2.2;rw [←e];exact this
 | p::q::r,_,hl=>simp at hl
end
section
variable {prog:Program} {w:World} {A:Around} {E:aF} {s:Shared} {κ:SortKind} {key:Keyed→Int} {Ok:Keyed→Prop} {arr:Array Keyed} {pend:Array (Nat×Nat×Nat)} {g:Nat}
theorem wK(h:gA prog w A s κ key Ok)(ok:dr Ok arr){hi:Nat}(c:bM key arr pend.toList 0 hi)(hz:hi≤arr.size)(aS:i+1<pend.size){Q:Bool→SortSt→Prop}
  (k:∀aN wL g',Rl arr aN 0 hi→bM key aN wL.toList 0 hi→wL.size+1=pend.size→Q true (aU κ aN wL g')):wpS (model prog w) A E s (mergeAt' i) Q (aU κ arr pend g):=by
 obtain ⟨sa,na,pw,nb,jr,e1,e2,n1,n2,l1,l2,s1,s2,kk⟩:=c.two (i:=i) (by simpa using aS)
 refine GP h ok (by simpa using e1) (by simpa using e2) n1 n2 (by omega) s1 s2 fun aN g' rl sg=>?_
 refine k _ _ _ (rl.wide (bG _) l2) ?_ ?_
 ·have:=kk aN rl sg
  simpa using this
 ·rw [←e8,Array.toList_eraseIdxIfInBounds,List.length_eraseIdx,aj (by simpa using aS)]
  simp;omega
theorem GS(h:gA prog w A s κ key Ok)(ok:dr Ok arr){Q:Unit→SortSt→Prop}
  (k:∀aN aw,aN.Perm arr→bQ key aN 0 arr.size→arrOf aw=aN→failedOf aw=none→Q () aw):wpS (model prog w) A E s sortRuns' Q (aU κ arr #[] g):=by
 rw [sortRuns'_eq];refine ar (fJ ?_);dsimp only;have es:(arrOf (aU κ arr #[] g)).size=arr.size:=rfl;rw [es]
 refine ar (dP (dy (I:=fun x c aw=>∃(aB:Array Keyed) (cO:Array (Nat×Nat×Nat)) (g2 lo:Nat),aw=aU κ aB cO g2∧c=(none,lo)∧aB.Perm arr∧bM key aB cO.toList 0 lo∧lo≤arr.size∧x≤lo)
  (Q:=fun c aw=>∃(aB:Array Keyed) (cO:Array (Nat×Nat×Nat)) (g2:Nat),aw=aU κ aB cO g2∧c=(none,arr.size)∧aB.Perm arr∧bM key aB cO.toList 0 arr.size) ?_ ?_ ⟨arr,#[],g,0,rfl,rfl,Array.Perm.refl _,rfl,bG _,aC _⟩) ?_)
 ·rintro x c aw _ hx ⟨aB,cO,g2,lo,rfl,rfl,km,lN,l1,l2⟩
  have jq:=nH ok km;have z2:=km.size_eq;dsimp only;by_cases z:lo≥arr.size
  ·rw [aj z]
   obtain rfl:lo=arr.size:=by omega
   exact aq ⟨aB,cO,g2,rfl,rfl,km,lN⟩
  rw [ae z];refine ar (GC h jq (by omega) (by omega) fun n bJ n1 nn hU sg=>?_)
  have cP:=hU.pm.trans km;have Av:=nH ok cP;have z3:=cP.size_eq;have fA:=lN.ck hU (.inl (aC _));dsimp only;by_cases y:n<minRun' arr.size arr.size 0
  ·rw [aj y]
   refine ar (wpS_lift (gP ⟨rfl,?_⟩));refine ar (GI h Av (n:=min (arr.size-lo) (minRun' arr.size arr.size 0)) (by omega) n1 (by omega) sg fun aQ bb dX=>?_)
   rw [ae (by simp)]
   have dY:=fA.ck bb (.inl (aC _));have wM:=bb.pm.trans cP;clear fA cP Av z3 sg hU bb;have f1:1≤min (arr.size-lo) (minRun' arr.size arr.size 0):=by omega
   have f2:lo+min (arr.size-lo) (minRun' arr.size arr.size 0)≤arr.size:=by omega
   generalize min (arr.size-lo) (minRun' arr.size arr.size 0)=fo at dX f1 f2 ⊢
   revert dY wM dX
   generalize aQ=bJ;intro fA cP dX;refine ar (fJ ?_);have eb:(pendingOf (aU κ bJ cO g2)).back?=cO.back?:=rfl;rw [eb];cases cO.back? with
   | none=>dsimp only;exact ar (gO (aq ⟨bJ,cO.push (lo,fo,0),g2,lo+fo,rfl,rfl,cP,by rw [jL];exact fA.snoc f1 dX,f2,by have:=f1;omega⟩))
   | some p=>
    obtain ⟨hW,tL,GU⟩:=p;dsimp only;have z3:=cP.size_eq
    refine ar (dP (dy (I:=fun y c aw=>∃(aQ:Array Keyed) (a9:Array (Nat×Nat×Nat)) (g4:Nat),aw=aU κ aQ a9 g4∧c=(none,())∧Rl bJ aQ 0 lo∧bM key aQ a9.toList 0 lo)
     (Q:=fun c aw=>∃(aQ:Array Keyed) (a9:Array (Nat×Nat×Nat)) (g4:Nat),aw=aU κ aQ a9 g4∧c=(none,())∧Rl bJ aQ 0 lo∧bM key aQ a9.toList 0 lo) ?_ (fun c aw hh=>hh) ⟨bJ,cO,g2,rfl,rfl,Rl.refl ..,fA⟩) ?_)
    ·rintro y c aw _ hy ⟨aQ,a9,g4,rfl,rfl,bb,dY⟩
     have z4:=bb.size;refine ar (fJ ?_);have hx:∀o,o=(if (pendingOf (aU κ aQ a9 g4)).size>1 then (pendingOf (aU κ aQ a9 g4))[(pendingOf (aU κ aQ a9 g4)).size-2]? else none)→o.isSome=true→a9.size>1:=fun o ho hs=>by
      by_cases z:a9.size>1;·exact z
      ·rw [ae z] at ho
       rw [ho] at hs;cases hs
     generalize eo:(if (pendingOf (aU κ aQ a9 g4)).size>1 then (pendingOf (aU κ aQ a9 g4))[(pendingOf (aU κ aQ a9 g4)).size-2]? else none)=o
     cases o with
     | none=>exact aq ⟨aQ,a9,g4,rfl,rfl,bb,dY⟩
     | some p=>
      have gt:=hx _ eo.symm rfl;obtain ⟨q1,q2,GV⟩:=p;dsimp only;refine cW (fun _=>aq ⟨aQ,a9,g4,rfl,rfl,bb,dY⟩) (fun _=>?_);refine ar (wK h (nH ok (bb.pm.trans cP)) dY (by omega) (show a9.size-2+1<a9.size by omega) fun wN wO g5 wQ wR _=>?_)
      rw [ae (by simp)]
      exact aq ⟨wN,wO,g5,rfl,rfl,bb.trans wQ,wR⟩
    ·rintro c aw ⟨aQ,a9,g4,rfl,rfl,bb,dY⟩
     dsimp only;refine ar (gO (ar (gO (aq ⟨aQ,_,g4,lo+fo,rfl,rfl,bb.pm.trans cP,?_,f2,by have:=f1;omega⟩))))
     rw [jL];refine bM.snoc ?_ f1 (bQ.ck dX bb (.inr (aC _)));rw [Array.toList_modify];exact dY.last
  ·rw [ae y]
   have f2:lo+n≤arr.size:=by omega
   refine ar (fJ ?_);have eb:(pendingOf (aU κ bJ cO g2)).back?=cO.back?:=rfl;rw [eb];cases cO.back? with
   | none=>dsimp only;exact ar (gO (aq ⟨bJ,cO.push (lo,n,0),g2,lo+n,rfl,rfl,cP,by rw [jL];exact fA.snoc n1 sg,f2,by have:=n1;omega⟩))
   | some p=>
    obtain ⟨hW,tL,GU⟩:=p;dsimp only;have z3:=cP.size_eq
    refine ar (dP (dy (I:=fun y c aw=>∃(aQ:Array Keyed) (a9:Array (Nat×Nat×Nat)) (g4:Nat),aw=aU κ aQ a9 g4∧c=(none,())∧Rl bJ aQ 0 lo∧bM key aQ a9.toList 0 lo)
     (Q:=fun c aw=>∃(aQ:Array Keyed) (a9:Array (Nat×Nat×Nat)) (g4:Nat),aw=aU κ aQ a9 g4∧c=(none,())∧Rl bJ aQ 0 lo∧bM key aQ a9.toList 0 lo) ?_ (fun c aw hh=>hh) ⟨bJ,cO,g2,rfl,rfl,Rl.refl ..,fA⟩) ?_)
    ·rintro y c aw _ hy ⟨aQ,a9,g4,rfl,rfl,bb,dY⟩
     have z4:=bb.size;refine ar (fJ ?_);have hx:∀o,o=(if (pendingOf (aU κ aQ a9 g4)).size>1 then (pendingOf (aU κ aQ a9 g4))[(pendingOf (aU κ aQ a9 g4)).size-2]? else none)→o.isSome=true→a9.size>1:=fun o ho hs=>by
      by_cases z:a9.size>1;·exact z
      ·rw [ae z] at ho
       rw [ho] at hs;cases hs
     generalize eo:(if (pendingOf (aU κ aQ a9 g4)).size>1 then (pendingOf (aU κ aQ a9 g4))[(pendingOf (aU κ aQ a9 g4)).size-2]? else none)=o
     cases o with
     | none=>exact aq ⟨aQ,a9,g4,rfl,rfl,bb,dY⟩
     | some p=>
      have gt:=hx _ eo.symm rfl;obtain ⟨q1,q2,GV⟩:=p;dsimp only;refine cW (fun _=>aq ⟨aQ,a9,g4,rfl,rfl,bb,dY⟩) (fun _=>?_);refine ar (wK h (nH ok (bb.pm.trans cP)) dY (by omega) (show a9.size-2+1<a9.size by omega) fun wN wO g5 wQ wR _=>?_)
      rw [ae (by simp)]
      exact aq ⟨wN,wO,g5,rfl,rfl,bb.trans wQ,wR⟩
    ·rintro c aw ⟨aQ,a9,g4,rfl,rfl,bb,dY⟩
     dsimp only;refine ar (gO (ar (gO (aq ⟨aQ,_,g4,lo+n,rfl,rfl,bb.pm.trans cP,?_,f2,by have:=n1;omega⟩))))
     rw [jL];refine bM.snoc ?_ n1 (bQ.ck sg bb (.inr (aC _)));rw [Array.toList_modify];exact dY.last
 ·rintro c aw ⟨aB,cO,g2,lo,rfl,rfl,km,lN,l1,l2⟩
  obtain rfl:lo=arr.size:=by omega
  exact ⟨aB,cO,g2,rfl,rfl,km,lN⟩
 ·rintro c aw ⟨aB,cO,g2,rfl,rfl,km,lN⟩
  dsimp only;have pz:=lN.le
  refine ar (dP (dy (I:=fun x c aw=>∃(bJ:Array Keyed) (cQ:Array (Nat×Nat×Nat)) (g3:Nat),aw=aU κ bJ cQ g3∧c=(none,())∧bJ.Perm arr∧bM key bJ cQ.toList 0 arr.size∧cQ.size+x≤arr.size)
   (Q:=fun c aw=>∃(bJ:Array Keyed) (cQ:Array (Nat×Nat×Nat)) (g3:Nat),aw=aU κ bJ cQ g3∧c=(none,())∧bJ.Perm arr∧bM key bJ cQ.toList 0 arr.size∧cQ.size≤1) ?_ ?_ ⟨aB,cO,g2,rfl,rfl,km,lN,show cO.size+0≤arr.size by simpa using pz⟩) ?_)
  ·rintro x c aw _ hx ⟨bJ,cQ,g3,rfl,rfl,cP,fA,l3⟩
   have z3:=cP.size_eq;refine ar (fJ ?_);by_cases z:(pendingOf (aU κ bJ cQ g3)).size≤1
   ·rw [aj z]
    exact aq ⟨bJ,cQ,g3,rfl,rfl,cP,fA,z⟩
   ·rw [ae z]
    have z':1<cQ.size:=Nat.lt_of_not_le z;have go:∀i,i+1<cQ.size→wpS (model prog w) A E s (mergeAt' i) (fun b aw=>b=true∧∃(aQ:Array Keyed) (a9:Array (Nat×Nat×Nat)) (g4:Nat),aw=aU κ aQ a9 g4∧aQ.Perm arr∧bM key aQ a9.toList 0 arr.size∧a9.size+(x+1)≤arr.size) (aU κ bJ cQ g3):=fun i hi=>by refine wK h (nH ok cP) fA (by omega) hi fun aQ a9 g4 bb dY sz=>⟨rfl,aQ,a9,g4,rfl,bb.pm.trans cP,dY,by omega⟩
    refine ar (dP (go _ ?_) ?_)
    ·show (if _ then _ else _)+1<cQ.size
     have e:(pendingOf (aU κ bJ cQ g3)).size=cQ.size:=rfl;rw [e];have:∀c:Bool,(if c=true then cQ.size-2-1 else cQ.size-2)+1<cQ.size:=fun c=>by cases c <;> simp <;> omega
     exact this _
    ·rintro b aw ⟨rfl,aQ,a9,g4,rfl,wM,dY,l4⟩
     rw [ae (by simp)]
     exact aq ⟨aQ,a9,g4,rfl,rfl,wM,dY,l4⟩
  ·rintro c aw ⟨bJ,cQ,g3,rfl,rfl,cP,fA,l3⟩
   exact ⟨bJ,cQ,g3,rfl,rfl,cP,fA,by omega⟩
  ·rintro c aw ⟨bJ,cQ,g3,rfl,rfl,cP,fA,l3⟩
   exact aq (k bJ _ cP (fA.one (by simpa using l3)) rfl rfl)
end
end Tm
namespace My
open PySem PySem.W PyProof.Rows Tm
section
variable {prog:Program} {w:World} {A:Around} {E:aF} {s:Shared}
def dc(h:Heap)(v:Value)(x y:Int):Prop:=∃a o t u e,v=.ref a∧h.get? a=some o∧o.cls=.type "tuple"∧o.data=.seq #[.int x t,.int y u] e
variable {x y x' y':Int}
theorem GW{v v':Value}(h1:dc s.heap v x y)(h2:dc s.heap v' x' y'){Q:Bool→Shared→Prop}(h:Q (decide (x<x'∨x=x'∧y<y')) s):wpAny (model prog w) A (keyLt' (tuples' true) v v') Q E s:=by
 obtain ⟨a,o,t,u,e,rfl,g,_,d⟩:=h1;obtain ⟨a',o',t',u',e',rfl,g',_,d'⟩:=h2;refine kat_lt g d g' d' ?_;show KatLex prog w A true (decide (2<2)) Q [(.int x t,.int x' t'),(.int y u,.int y' u')] 0 s;refine kat_cons (wpAny_eqBool_int ?_);by_cases z:x=x'
 ·subst z
  rw [show (x == x)=true by simp]
  refine kat_yes (kat_cons (wpAny_eqBool_int ?_));by_cases z2:y=y'
  ·subst z2
   rw [show (y == y)=true by simp]
   refine kat_yes (kat_nil ?_);rw [bp (by omega)] at h
   exact h
  ·rw [show (y == y')=false by simp [z2]]
   refine kat_no ?_;show wpAny (model prog w) A (oneLt' false (.int y u) (.int y' u')) Q _ s;refine kat_one _ _ (lt_int ?_);show Q (decide (y<y')) s;rw [show decide (y<y')=decide (x<x∨x=x∧y<y') from rq.mpr (by omega)]
   exact h
 ·rw [show (x == x')=false by simp [z]]
  refine kat_no ?_;show wpAny (model prog w) A (oneLt' true (.int x t) (.int x' t')) Q _ s;refine oneLt_int ?_;rw [show decide (x<x')=decide (x<x'∨x=x'∧y<y') from rq.mpr (by omega)]
  exact h
theorem Aw{h:Heap}:∀{vs:List Value},(∀v∈vs,∃x y,dc h v x y)→∃fs:List Value,KatTups h vs fs∧fs.length=vs.length∧∀f∈fs,∃n t,f=.int n t
 | [],_=>⟨[],.nil,rfl,fun f hf=>by cases hf⟩
 | v::vs,hv=>by
  obtain ⟨fs,k,l,i⟩:=Aw (vs:=vs) fun v h=>hv v (dN _ h);obtain ⟨x,y,a,o,t,u,e,rfl,g,c,d⟩:=hv v eZ;refine ⟨.int x t::fs,.cons g c d rfl k,by rw [dm,dm,l],fun f hf=>?_⟩
  rcases cE.mp hf with rfl | hf;·exact ⟨x,t,rfl⟩
  ·exact i f hf
theorem perm_back{α β:Type}{f:α→β}{l m:List β}(h:l.Perm m):∀q:List α,m=q.map f→∃p:List α,p.Perm q∧l=p.map f:=by
 induction h with
 | nil=>intro q e;exact ⟨q,List.Perm.refl _,e⟩
 | cons x _ ih=>
  intro q e
  match q,e with
  | a::q,e=>obtain ⟨rfl,e'⟩:=List.cons.inj e;obtain ⟨p,hp,rfl⟩:=ih q e';exact ⟨a::p,hp.cons a,rfl⟩
 | swap x y _=>
  intro q e
  match q,e with
  | a::b::q,e=>obtain ⟨rfl,e'⟩:=List.cons.inj e;obtain ⟨rfl,rfl⟩:=List.cons.inj e';exact ⟨b::a::q,List.Perm.swap ..,rfl⟩
 | trans _ _ GX GY=>intro q e;obtain ⟨p,hp,e1⟩:=GY q e;obtain ⟨p',GZ,e2⟩:=GX p e1;exact ⟨p',GZ.trans hp,e2⟩
variable {h:Heap}
theorem dc.uniq{v:Value}(h1:dc h v x y)(h2:dc h v x' y'):x=x'∧y=y':=by obtain ⟨a,o,t,u,e,rfl,g,_,d⟩:=h1;obtain ⟨a',o',t',u',e',ev,g',_,d'⟩:=h2;cases ev;rw [g] at g';cases g';rw [d] at d';simp at d';exact ⟨d'.1.1.1,d'.1.2.1⟩
open Classical in
noncomputable def wU (h:Heap) (k:Keyed):Int:=if e:∃z:Int×Int,dc h k.1 z.1 z.2 then (choose e).1*1000+(choose e).2 else 0
theorem tM{v u:Value}(p:dc h v x y):wU h (v,u)=x*1000+y:=by have e:∃z:Int×Int,dc h (v,u).1 z.1 z.2:=⟨(x,y),p⟩;unfold wU;rw [dif_pos e];obtain ⟨a,b⟩:=(Classical.choose_spec e).uniq p;rw [a,b]
variable {vs:List Value}
theorem G0{x y:Nat→Int}(h2:2≤vs.length)(hv:∀i v,vs[i]?=some v→dc s.heap v (x i) (y i)∧0≤y i∧y i<1000){Q:SortSt→Shared→Prop}
  (hQ:∀(p:Array Nat) (st:SortSt),jl vs.length p→lF (fun i=>x i*1000+y i) p vs.length→(arrOf st).map (·.2)=List.toArray (p.toList.map fun i=>vs.getD i Value.none)→failedOf st=none→Q st s) :
  wpAny (model prog w) A (sortRuns'.run (SortSt.mk' (tuples' true) (vs.toArray.zip vs.toArray) #[] 7 none)) (fun r s'=>Q r.2 s') E s:=by
 have az:(vs.toArray.zip vs.toArray).size=vs.length:=by simp
 have ag:∀i,i<vs.length→(vs.toArray.zip vs.toArray).getD i nn=(vs.getD i Value.none,vs.getD i Value.none):=fun i hi=>by simp [Array.getD,hi]
 have ga:∀i (hi:i<vs.length),dc s.heap (vs.getD i Value.none) (x i) (y i)∧0≤y i∧y i<1000:=fun i hi=>by refine hv i _ ?_;simp [hi]
 have lt:gA prog w A s (tuples' true) (wU s.heap) (fun k=>∃a b,dc s.heap k.1 a b∧0≤b∧b<1000):=by
  rintro ⟨u,u'⟩ ⟨v,v'⟩ ⟨a,b,p1,b0,b1⟩ ⟨c,d,p2,d0,d1⟩ C hC;refine GW p1 p2 ?_;rw [tM p1,tM p2] at hC;rw [show decide (a<c∨a=c∧b<d)=decide (a*1000+b<c*1000+d) from rq.mpr (by omega)]
  exact hC
 have ok:dr (fun k=>∃a b,dc s.heap k.1 a b∧0≤b∧b<1000) (vs.toArray.zip vs.toArray):=fun i hi=>by rw [az] at hi;rw [ag i hi];exact ⟨_,_,ga i hi⟩
 refine bC (GS (E:=E) (Q:=fun _ st=>Q st s) (g:=7) lt ok fun aN st pm sg ha hf=>?_) (fun r s' h'=>by obtain ⟨rfl,h'⟩:=h';exact h') fun _ _ e=>e
 have el:(vs.toArray.zip vs.toArray).toList=(List.range vs.length).map fun i=>(vs.getD i Value.none,vs.getD i Value.none):=by
  refine o4 (by simp) fun i h1 h2=>?_
  have hi:i<vs.length:=by simpa using h2
  simp [hi]
 obtain ⟨p,hp,ep⟩:=perm_back (o9.mp pm) _ el;have pl:p.length=vs.length:=by rw [hp.length_eq,rm]
 have G_:∀i∈p,i<vs.length:=fun i hi=>gN.mp (hp.mem_iff.mp hi);have hsz:aN.size=vs.length:=by rw [pm.size_eq,az]
 have gd:∀i,i<vs.length→aN.getD i nn=(vs.getD (p.toArray.getD i 0) Value.none,vs.getD (p.toArray.getD i 0) Value.none)∧p.toArray.getD i 0<vs.length:=fun i hi=>by
  have e1:aN.getD i nn=aN.toList[i]'(by simp;omega):=by simp [Array.getD,show i<aN.size by omega]
  have e2:p.toArray.getD i 0=p[i]'(by omega):=by simp [Array.getD,show i<p.length by omega]
  rw [e1,e2];refine ⟨?_,G_ _ (dw _)⟩;simp [ep]
 refine hQ p.toArray st (o9.mpr (by simpa using hp)) (fun i j h1 h3=>?_) ?_ hf
 ·have:=sg i j (bG _) h1 (by rw [az];exact h3)
  unfold vA at this;obtain ⟨e1,l1⟩:=gd i (by omega)
  obtain ⟨e2,l2⟩:=gd j h3;rw [e1,e2,tM (ga _ l1).1,tM (ga _ l2).1] at this;exact this
 ·rw [ha]
  apply Array.toList_inj.mp;rw [Array.toList_map,ep,o_];rfl
theorem Hh{Q:SortKind→Shared→Prop}(h1:1≤vs.length)(hv:∀v∈vs,∃x y,dc s.heap v x y)(h:Q (tuples' true) s):wpAny (model prog w) A (keyKind' vs.toArray) Q E s:=by
 obtain ⟨fs,k,l,i⟩:=Aw hv;refine kat_kind (T:=Value.type "int") k (by omega) (fun v hv=>?_) rfl h
 obtain ⟨n,t,rfl⟩:=i v hv;exact .now
theorem dc.mono{h':Heap}{v:Value}(k:∀b o,h.get? b=some o→h'.get? b=some o)(p:dc h v x y):dc h' v x y:=by obtain ⟨a,o,t,u,e,rfl,g,c,d⟩:=p;exact ⟨a,o,t,u,e,rfl,k _ _ g,c,d⟩
theorem Hi{a:Addr}{n:Nat}{x y:Nat→Int}{P:PySem.Fin→Shared→Prop}(ho:s.heap.get? a=some (seqObj "list" vs.toArray n))(qv:vs.length<1000)(hv:∀i v,vs[i]?=some v→dc s.heap v (x i) (y i)∧0≤y i∧y i<1000)
  (h:∀(p:Array Nat),jl vs.length p→lF (fun i=>x i*1000+y i) p vs.length→P (.done (.ret .none)) {s with heap:=sortedHeap s.heap a vs (List.toArray (p.toList.map fun i=>vs.getD i Value.none))}) :
  wpAny (model prog w) A (Builtin.«list.sort» ⟨[.ref a],[]⟩) P E s:=by
 have sl:vs.length≤sizeLine:=by rw [jG];omega
 have lt:=a0 ho
 obtain ⟨e1,g1⟩:∃e,(s.heap.update a (Obj.mapSeq fun _=>#[])).get? a=some (seqObj "list" #[] e):=⟨_,get?_update_seq ho fun _=>#[]⟩
 have z1:(s.heap.update a (Obj.mapSeq fun _=>#[])).objs.size=s.heap.objs.size:=Heap.size_update _ _ _
 have up:∀b u,b<s.heap.objs.size→(s.heap.update a (Obj.mapSeq fun _=>#[])).get? b=some u→(((s.heap.update a (Obj.mapSeq fun _=>#[])).push (seqObj "tuple" vs.toArray 0)).push (seqObj "list" #[] 0)).get? b=some u:=fun b u hb hu=>by
  rw [mT _ _ _ (bV (by rw [size_push',z1];exact pb hb)),mT _ _ _ (bV (by rw [z1];exact hb))]
  exact hu
 have g3:=up a _ lt g1
 have Ax:∀i v,vs[i]?=some v→dc (((s.heap.update a (Obj.mapSeq fun _=>#[])).push (seqObj "tuple" vs.toArray 0)).push (seqObj "list" #[] 0)) v (x i) (y i)∧0≤y i∧y i<1000:=fun i v hi=>by
  obtain ⟨⟨b,o,t,u,e,rfl,g,cc,d⟩,y0⟩:=hv i v hi
  have nb:b≠a:=fun q=>by
   rw [q,ho] at g
   cases g
   exact absurd (Value.type.inj cc) (by decide)
  refine ⟨⟨b,o,t,u,e,rfl,up b o (a0 g) ?_,cc,d⟩,y0⟩
  rw [rz _ _ _ _ nb]
  exact g
 rw [list_sort_plain]
 refine ao (listItems_at ho rfl (ao (listUpdate_at ho rfl ?_ (by rw [bK];omega) (bG _))))
 refine ao (seqEpoch_at g1 rfl (ao (wpAny_newTuple ?_ (by show vs.length≤_;omega))))
 refine ao (wpAny_newList (ic ?_) (bG _))
 show wpAny (model prog w) A _ P E {s with heap:=((s.heap.update a (Obj.mapSeq fun _=>#[])).push (seqObj "tuple" vs.toArray 0)).push (seqObj "list" #[] 0)}
 dsimp only
 have fin:∀(st:SortSt) (p:Array Nat),jl vs.length p→lF (fun i=>x i*1000+y i) p vs.length→(arrOf st).map (·.2)=List.toArray (p.toList.map fun i=>vs.getD i Value.none)→failedOf st=none→
   wpAny (model prog w) A (do
    let touched:=(←seqEpoch a) != e1
    Builtin.List.listUpdate (.ref a) fun _=>(arrOf st).map (·.2)
    if let some e:=failedOf st then rule "list.sort.comparison-raised";throw e
    if touched then rule "list.sort.modified";raiseError "ValueError" "list modified during sort"
    ret .none) P E {s with heap:=((s.heap.update a (Obj.mapSeq fun _=>#[])).push (seqObj "tuple" vs.toArray 0)).push (seqObj "list" #[] 0)}:=fun st p hp hu ha hf=>by
  refine ao (seqEpoch_at g3 rfl (ao (listUpdate_at g3 rfl ?_ (bG _) ?_)))
  ·rw [hf,ha]
   simp only [bne_self_eq_false,rA,iX]
   exact aH (h p hp hu)
  ·rw [ha,bK,ba,e8,hp.size]
   omega
 by_cases z:vs.toArray.size<2
 ·rw [aj z,aj z]
  refine ao (aH ?_)
  rw [StateT.run_pure]
  refine ao (aH ?_)
  have len:vs.length<2:=by simpa using z
  refine fin _ (List.toArray (List.range vs.length)) (Array.Perm.refl _) (fun a b h1 h2=>by
   obtain rfl:a=b:=by omega
   exact i3 _) ?_ rfl
  match vs,len with
  | [],_=>
   show Array.map (·.2) ((#[]:Array Value).zip #[])=_
   simp
  | [v],_=>
   show Array.map (·.2) (#[v].zip #[v])=_
   simp
 ·rw [ae z,ae z]
  have len:2≤vs.length:=by simpa using z
  refine ao (Hh (by omega) (fun v hm=>?_) ?_)
  ·obtain ⟨i,hi,rfl⟩:=List.getElem_of_mem hm
   exact ⟨_,_,(Ax i _ (by simp [hi])).1⟩
  ·refine ao (bC (G0 (Q:=fun st s'=>s'={s with heap:=((s.heap.update a (Obj.mapSeq fun _=>#[])).push (seqObj "tuple" vs.toArray 0)).push (seqObj "list" #[] 0)}∧∃p,jl vs.length p∧lF (fun i=>x i*1000+y i) p vs.length∧(arrOf st).map (·.2)=List.toArray (p.toList.map fun i=>vs.getD i Value.none)∧failedOf st=none) len Ax fun p st a1 a2 a3 a4=>⟨rfl,p,a1,a2,a3,a4⟩) ?_ fun _ _ e=>e)
   rintro ⟨⟨⟩,st⟩ s' ⟨rfl,p,a1,a2,a3,a4⟩
   exact fin st p a1 a2 a3 a4
end
open PySem PySem.W PyProof.Rows
section
variable {prog:Program} {w:World} {A:Around} {E:aF} {s:Shared}
theorem Hj{l:Addr}{vs:List Value}{x y:Nat→Int}{Q:aF}(hl:s.heap.IsList l vs.toArray)(qv:vs.length<1000)(hv:∀i v,vs[i]?=some v→dc s.heap v (x i) (y i)∧0≤y i∧y i<1000)
  (h:∀(p:Array Nat) (h':Heap) (c:Nat),jl vs.length p→lF (fun i=>x i*1000+y i) p vs.length→(∀b o,s.heap.get? b=some o→h'.get? b=some o)→h'.get? (s.heap.objs.size+1)=some (seqObj "list" (List.toArray (p.toList.map fun i=>vs.getD i Value.none)) c)→Q (.ref (s.heap.objs.size+1)) {s with heap:=h'}) :
  wpAny (model prog w) A (call (.builtin "sorted") [.ref l]) Q E s:=by
 have sl:vs.length≤sizeLine:=by rw [jG];omega
 refine Calls.call_function_entry kind_sorted plain_sorted entry_sorted (args_sorted1 _) ?_;unfold Builtin.«sorted»;refine ao (m:=checkCount "sorted" 1 1 _) (aH (ao (collect_list hl (ao (wpAny_newList ?_ sl)) sl)));have zz:((s.heap.push (seqObj "list" #[] 0)).update s.heap.objs.size (Obj.mapSeq (·++vs.toArray))).objs.size=s.heap.objs.size+1:=by rw [Heap.size_update,size_push']
 have kp:∀b o,s.heap.get? b=some o→(((s.heap.push (seqObj "list" #[] 0)).update s.heap.objs.size (Obj.mapSeq (·++vs.toArray))).push (seqObj "list" vs.toArray 0)).get? b=some o:=fun b o g=>by
  have lt:=a0 g;rw [mT _ _ _ (bV (by rw [zz];exact pb lt)),rz _ _ _ _ (bV lt),mT _ _ _ (bV lt)]
  exact g
 have gL:(((s.heap.push (seqObj "list" #[] 0)).update s.heap.objs.size (Obj.mapSeq (·++vs.toArray))).push (seqObj "list" vs.toArray 0)).get? (s.heap.objs.size+1)=some (seqObj "list" vs.toArray 0):=by rw [←zz];exact bZ _ rfl
 show wpAny _ _ _ _ _ {s with heap:=((s.heap.push (seqObj "list" #[] 0)).update s.heap.objs.size (Obj.mapSeq (·++vs.toArray))).push (seqObj "list" vs.toArray 0)};rw [zz];generalize ((s.heap.push (seqObj "list" #[] 0)).update s.heap.objs.size (Obj.mapSeq (·++vs.toArray))).push (seqObj "list" vs.toArray 0)=h1 at kp gL;refine ao (ic (ie slot_list_sort ⟨_,gL,rfl⟩ entry_list_sort (Hi (s:={s with heap:=h1}) gL qv (fun i v hi=>⟨(hv i v hi).1.mono kp,(hv i v hi).2⟩) fun p hp hu=>⟨_,rfl,?_⟩) (args_list_sort _)));have Hk:=a0 gL;have z1:(h1.update (s.heap.objs.size+1) (Obj.mapSeq fun _=>#[])).objs.size=h1.objs.size:=Heap.size_update _ _ _;obtain ⟨e1,g1⟩:∃e,(h1.update (s.heap.objs.size+1) (Obj.mapSeq fun _=>#[])).get? (s.heap.objs.size+1)=some (seqObj "list" #[] e):=⟨_,get?_update_seq gL fun _=>#[]⟩;have up:∀b u,b<h1.objs.size→(h1.update (s.heap.objs.size+1) (Obj.mapSeq fun _=>#[])).get? b=some u→(((h1.update (s.heap.objs.size+1) (Obj.mapSeq fun _=>#[])).push (seqObj "tuple" vs.toArray 0)).push (seqObj "list" #[] 0)).get? b=some u:=fun b u hb hu=>by
  rw [mT _ _ _ (bV (by rw [size_push',z1];exact pb hb)),mT _ _ _ (bV (by rw [z1];exact hb))]
  exact hu
 have g3:=up _ _ Hk g1;refine aH ⟨_,rfl,h p _ _ hp hu (fun b o g=>?_) (get?_update_seq g3 fun _=>List.toArray (p.toList.map fun i=>vs.getD i Value.none))⟩;have g':=kp b o g;have ne:b≠s.heap.objs.size+1:=bV (pb (a0 g));show (Heap.update _ _ _).get? b=some o;rw [rz _ _ _ _ ne];refine up b o (a0 g') ?_;rw [rz _ _ _ _ ne];exact g'
end
end My
namespace L2
open PySem PySem.W PyProof.Rows My
def Hl:List V→Hp→VK→Prop:=fun xs H Q=>∃(a:Addr) (vs:List V) (x y:Nat→Int),xs=[.ref a]∧H a=some (.lst vs)∧vs.length<1000∧(∀(i:Nat) (v:V),vs[i]?=some v→(∃b,v=.ref b∧H b=some (.tup [.int (x i),.int (y i)]))∧0≤y i∧y i<1000) ∧
 ∀(p:Array Nat) (l:Addr),jl vs.length p→lF (fun i=>x i*1000+y i) p vs.length→H l=none→Q (.ref l) (upd H l (.lst (p.toList.map fun i=>vs.getD i .aI)))
theorem Ay{xs:List V}{us:List Value}(r:Vals xs us):∀(ns:List Nat),(∀i∈ns,i<xs.length)→Vals (ns.map fun i=>xs.getD i .aI) (ns.map fun i=>us.getD i Value.none)
 | [],_=>.nil
 | i::ns,h=>by
  have hi:=h i eZ;obtain ⟨u,e,ru⟩:=r.get (i:=i) (x:=xs[i]) (by simp [hi])
  refine .cons ?_ (Ay r ns fun j hj=>h j (dN _ hj));dsimp only;rw [show xs.getD i .aI=xs[i] by simp [hi],show us.getD i Value.none=u by rw [jJ,e];rfl]
  exact ru
theorem Hm{X:Cx}:en X (.builtin "sorted") Hl:=by
 intro pins s σ H xs us Q I r h;obtain ⟨a,vs,x,y,rfl,ha,qv,hv,k⟩:=h;obtain ⟨u,rfl,ru⟩:=vals1 r;cases ru;obtain ⟨ak,rv,pl,hz⟩:=I.list (.of ha);have hl:=rv.length;refine Hj (x:=x) (y:=y) pl.isList (by omega) (fun i v hi=>?_) fun p h' c hp hu kp g=>?_
 ·have aS:i<vs.length:=by have:=(cg.mp hi).1;omega
  have gi:vs[i]?=some vs[i]:=by simp [aS]
  obtain ⟨⟨b,eb,hb⟩,Ho⟩:=hv i _ gi;obtain ⟨u,eu,ru⟩:=rv.get gi;rw [hi] at eu;cases eu;rw [eb] at ru;cases ru;obtain ⟨_,fR,r2,o,g,cl,e,d⟩:=(show bH X.prog X.w H s.heap b (.tup [.int (x i),.int (y i)]) from I.aA b _ hb);obtain ⟨u1,u2,rfl,q1,q2⟩:=vals2 r2;obtain ⟨t1,rfl⟩:=q1;obtain ⟨t2,rfl⟩:=q2;exact ⟨⟨b,o,t1,t2,e,rfl,g,cl,d⟩,Ho⟩
 ·rw [←hl] at hp hu
  have sz:=hp.size;refine ⟨.ref (s.heap.objs.size+1),_,I.laid (t':=s.toks) (o:=.lst (p.toList.map fun i=>vs.getD i .aI)) kp (Nat.le_succ _) ⟨?_,p.toList.map fun i=>ak.getD i Value.none,c,?_,g⟩,rfl,k p _ hp hu (I.aA.fresh (Nat.le_succ _))⟩
  ·rw [ba,e8,sz]
   exact hz
  ·refine Ay rv _ fun i hi=>?_
   have m:i∈List.toArray (List.range vs.length):=(Array.Perm.mem_iff hp).mp (Array.mem_toList_iff.mp hi);simpa using m
end L2
namespace My
open PySem L2
def Hq(K:aG):R2:=fun x y H Q=>∃a b xs,x=.ref a∧y=.ref b∧bq K H a xs∧H b=some (.lst [])∧Q (.bl (!xs.isEmpty)) H
theorem Hr{X:Cx}(hu:X.A.units+64<cLine):bI X (compareOp .NotEq) (Hq X.K):=by
 intro pins s σ H x y v u Q I rx ry h;obtain ⟨a,b,xs,rfl,rfl,h1,h2,q⟩:=h;cases rx;cases ry;obtain ⟨us,r1,t1,_⟩:=I.list h1;obtain ⟨vs,r2,t2,_⟩:=I.list (bq.of h2);have l1:=r1.length;have l2:=r2.length;cases xs with
 | nil=>
  refine SeqAt.RcNeAt.lists (e:=fun _=>true) t1.isList t2.isList (by simp at l1 l2 ⊢;omega) (by omega) (fun j z1 z2=>?_) _ _ _ _ ?_
  ·simp at l1
   have:us=[]:=rB.mp l1.symm;subst this;simp at z1
  ·rw [all_range]
   exact ⟨.bl false,H,I,rfl,q⟩
 | cons w ws=>
  refine SeqAt.RcNeAt.lists_lengths t1.isList t2.isList ?_ (by omega) _ _ _ _ ⟨.bl true,H,I,rfl,q⟩
  simp at l1 l2 ⊢;omega
variable {σ:St} {H:Hp}
theorem qw{c:TT}{t u:TS}{D:Ends}(M:St→Hp→Prop)(hM:∀σ H,M σ H→D.nx σ H)(k:∀R:St→Hp→Prop,(∀σ H,M σ H→R σ H)→vG c t u {D with nx:=R} σ H):vG c t u D σ H:=k D.nx hM
def Hs(K:aG):Sp:=fun vs H Q _=>∃(P a l:Addr) (ns:List Int) (xs:List V),vs=[.ref P,.ref l]∧bu H P a∧bq K (er P H) a (ns.map V.int)∧l≠P∧H l=some (.lst xs)∧xs.length≤100 ∧
 ∀(r:Addr) (ys:List V) (H':Hp),aE P H H'→bu H' P a→er P H r=none→r≠P→H' r=some (.lst ys)→ys.Perm xs→Q (.ref r) H'
def Ht(K:aG):Sp:=fun vs H Q _=>∃(P a:Addr) (ns:List Int) (way size wide i j:Int),vs=[.ref P,.int way,.int size,.int wide,.int i,.int j]∧bu H P a∧bq K (er P H) a (ns.map V.int) ∧
 ∀(b:Bool) (H':Hp),aE P H H'→bu H' P a→Q (.bl b) H'
theorem Az{α:Type}:∀(zs:List α) (k:Nat) (h:k<zs.length),(zs[k]::zs.eraseIdx k).Perm zs
 | _::_,0,_=>.refl _
 | z::zs,k+1,h=>(List.Perm.swap _ _ _).trans ((Az zs k (by simpa using h)).cons z)
def aT(H:Hp)(vs:List V)(L:aK):Prop:=vs.length=L.length∧∀(k:Nat) (v:V) (p:Int×Int),vs[k]?=some v→L[k]?=some p→∃b,v=.ref b∧H b=some (.tup [.int p.1,.int p.2])
theorem aT.nil(H:Hp):aT H [] []:=⟨rfl,fun k v p h=>by simp at h⟩
variable {H':Hp} {vs:List V} {L:aK}
theorem aT.mono(h:aT H vs L)(s:ai H H'):aT H' vs L:=⟨h.1,fun k v p h1 h2=>by obtain ⟨b,e,g⟩:=h.2 k v p h1 h2;exact ⟨b,e,s _ _ g⟩⟩
variable {r:Addr} {xs:List V}
theorem aT.ck(h:aT H vs L)(e:H r=some (.lst xs))(k:∀b o,b≠r→H b=some o→H' b=some o):aT H' vs L:=⟨h.1,fun i v p h1 h2=>by obtain ⟨b,eb,g⟩:=h.2 i v p h1 h2;refine ⟨b,eb,k b _ (fun z=>?_) g⟩;rw [z,e] at g;cases g⟩
variable {b:Addr}
theorem aT.push{p:Int×Int}(h:aT H vs L)(e:H b=some (.tup [.int p.1,.int p.2])):aT H (vs++[.ref b]) (L++[p]):=⟨by simp [h.1],fun k v q h1 h2=>by
 have hl:=h.1;by_cases z:k<vs.length
 ·rw [eG z] at h1
  rw [eG (by omega)] at h2
  exact h.2 k v q h1 h2
 ·have hk:=(cg.mp h1).1
  rw [d9,oY] at hk;obtain rfl:k=vs.length:=by omega
  rw [dO (aC _),mN] at h1;rw [dO (by omega),show vs.length-L.length=0 by omega] at h2
  cases h1;cases h2;exact ⟨b,rfl,e⟩⟩
structure gF (n:Nat) (L:aK):Prop where
 nd:L.Nodup
 lt:∀p∈L,0≤p.1∧p.1<p.2∧p.2<n
 bA:L.length≤n*n / 2
def lexLt(p q:Int×Int):Prop:=p.1<q.1∨p.1=q.1∧p.2<q.2
variable {M:aK}
theorem Hu{p:Array Nat}(P:jl M.length p)(U:lF (fun i=>(M.getD i (0,0)).1*1000+(M.getD i (0,0)).2) p M.length)(nd:M.Nodup)(b:∀q∈M,0≤q.2∧q.2<1000) :
  (p.toList.map fun i=>M.getD i (0,0)).Perm M∧(p.toList.map fun i=>M.getD i (0,0)).Pairwise lexLt:=by
 have pm:p.toList.Perm (List.range M.length):=o9.mp P;have pn:p.toList.Nodup:=pm.nodup_iff.mpr pd;have lt:∀i∈p.toList,i<M.length:=fun i hi=>gN.mp (pm.mem_iff.mp hi);refine ⟨?_,?_⟩
 ·have e:((List.range M.length).map fun i=>M.getD i (0,0))=M:=by
   refine o4 (by simp) fun i h1 h2=>?_
   rw [rC,List.getElem_range,getD_at h2]
  have:=pm.map fun i=>M.getD i (0,0);rw [e] at this;exact this
 ·rw [o7]
  intro i j hi hj Aj;rw [ba] at hi hj;rw [rC,rC];have sz:=P.size;have li:p.toList[i]<M.length:=lt _ (dw _);have lj:p.toList[j]<M.length:=lt _ (dw _);have u:=U i j (by omega) (by rw [←sz,←e8];exact hj)
  unfold vN at u;have gi:p.getD i 0=p.toList[i]:=by
   have:i<p.size:=by rw [←e8];exact hi
   simp [Array.getD,this]
  have gj:p.getD j 0=p.toList[j]:=by
   have:j<p.size:=by rw [←e8];exact hj
   simp [Array.getD,this]
  rw [gi,gj] at u;dsimp only at u;rw [getD_at li,getD_at lj] at u;rw [getD_at li,getD_at lj];have ne:M[p.toList[i]]≠M[p.toList[j]]:=fun e=>by have e1:=(rb nd).mp e;have e2:=(rb pn).mp e1;omega
  have b1:=b _ (dw li);have b2:=b _ (dw lj);generalize M[p.toList[i]]=x at u ne b1;generalize M[p.toList[j]]=y at u ne b2;obtain ⟨x1,x2⟩:=x;obtain ⟨y1,y2⟩:=y;unfold lexLt;dsimp only at u b1 b2 ⊢;by_cases z:x1<y1;·exact .inl z
  ·right
   have e1:x1=y1:=by omega
   subst e1;refine ⟨rfl,?_⟩;by_cases y:x2=y2
   ·subst y
    exact absurd rfl ne
   ·omega
theorem tN{α β:Type}{f:α→β}:∀{L:List α},L.Nodup→(∀p q,p∈L→q∈L→f p=f q→p=q)→(L.map f).Nodup
 | [],_,_=>ph
 | x::L,h,k=>by obtain ⟨h1,h2⟩:=iU.mp h;refine iU.mpr ⟨fun m=>?_,tN h2 fun p q hp hq=>k p q (dN _ hp) (dN _ hq)⟩;obtain ⟨y,hy,e⟩:=ik.mp m;have:=k y x (dN _ hy) eZ e;rw [this] at hy;exact h1 hy
def eU(nm:Nat→Int)(p:Int×Int):Int×Int:=(min (nm p.1.toNat) (nm p.2.toNat),max (nm p.1.toNat) (nm p.2.toNat))
structure wV (n:Nat) (nm:Nat→Int):Prop where
 lt:∀i,i<n→0≤nm i∧nm i<n
 inj:∀i j,i<n→j<n→nm i=nm j→i=j
variable {n:Nat}
theorem HA{nm:Nat→Int}(h:gF n L)(N:wV n nm):gF n (L.map (eU nm)) where
 nd:=by
  refine tN h.nd fun p q hp hq e=>?_;have a:=h.lt p hp;have b:=h.lt q hq;obtain ⟨p1,p2⟩:=p;obtain ⟨q1,q2⟩:=q;obtain ⟨i,rfl⟩:=dQ (show 0≤p1 by dsimp only at a;omega)
  obtain ⟨j,rfl⟩:=dQ (show 0≤p2 by dsimp only at a;omega)
  obtain ⟨k,rfl⟩:=dQ (show 0≤q1 by dsimp only at b;omega)
  obtain ⟨l,rfl⟩:=dQ (show 0≤q2 by dsimp only at b;omega)
  dsimp only at a b;have e1:=cy Prod.fst e;have e2:=cy Prod.snd e;unfold eU at e1 e2;simp only [cZ] at e1 e2;have ij:nm i≠nm j:=fun z=>by have:=N.inj i j (by omega) (by omega) z;omega
  have kl:nm k≠nm l:=fun z=>by have:=N.inj k l (by omega) (by omega) z;omega
  by_cases z:nm i=nm k
  ·have e3:nm j=nm l:=by omega
   have i1:=N.inj i k (by omega) (by omega) z
   have i2:=N.inj j l (by omega) (by omega) e3
   rw [i1,i2]
  ·have e3:nm i=nm l:=by omega
   have e4:nm j=nm k:=by omega
   have i1:=N.inj i l (by omega) (by omega) e3
   have i2:=N.inj j k (by omega) (by omega) e4
   omega
 lt:=fun p hp=>by
  obtain ⟨q,hq,rfl⟩:=ik.mp hp;have a:=h.lt q hq;have n1:=N.lt q.1.toNat (by omega)
  have n2:=N.lt q.2.toNat (by omega)
  have ne:nm q.1.toNat≠nm q.2.toNat:=fun z=>by have:=N.inj _ _ (by omega) (by omega) z;omega
  unfold eU;dsimp only;omega
 bA:=by rw [ba];exact h.bA
theorem gF.perm{L':aK}(h:gF n L)(p:L'.Perm L):gF n L':=⟨p.nodup_iff.mpr h.nd,fun q hq=>h.lt q (p.mem_iff.mp hq),by rw [p.length_eq];exact h.bA⟩
def fB(H:Hp)(t:Addr)(n:Nat)(L:aK):Prop:=∃(lt:Addr) (us:List V),H t=some (.tup [.int (n:Int),.ref lt])∧H lt=some (.tup us)∧aT H us L
def HB:Sp:=fun vs H Q _=>∃(l r:Addr) (n:Nat) (us ws:List V) (L:aK) (nm:Nat→Int),vs=[.int (n:Int),.ref l,.ref r]∧H l=some (.lst us)∧aT H us L∧gF n L∧n≤30∧H r=some (.lst ws)∧ws.length=n∧(∀i,i<n→ws[i]?=some (.int (nm i)))∧wV n nm ∧
 ∀(t:Addr) (L':aK) (H':Hp),ai H H'→H t=none→fB H' t n L'→gF n L'→L'.Pairwise lexLt→L'.Perm (L.map (eU nm))→Q (.ref t) H'
variable {us:List V}
theorem aT.pick(h:aT H us M)(ns:List Nat)(hn:∀i∈ns,i<M.length):aT H (ns.map fun i=>us.getD i .aI) (ns.map fun i=>M.getD i (0,0)):=⟨by simp,fun k v p h1 h2=>by
 have hl:=h.1;have hk:k<ns.length:=by have:=(cg.mp h1).1;simpa using this
 have hi:=hn ns[k] (dw hk);rw [dj,bX hk] at h1 h2;cases h1;cases h2;dsimp only;have aS:ns[k]<us.length:=by omega
 rw [getD_at hi];have e:us.getD ns[k] .aI=us[ns[k]]:=by simp [aS]
 rw [e];exact h.2 ns[k] _ _ (by simp [aS]) (by simp [hi])⟩
variable {wi:TI} {ρ:St→St} {tt:TT} {te:TE} {Q:VK} {P a:Addr}
theorem HC{K:aG}{l:Addr}(hn:xs.length<sizeLine)(nl:l≠P)(el:H l=some (.lst xs))(pc:bu H P a)
  (eA:∀R:It→Hp→Prop,R (kW K l) H→wi σ H R)
  (test:∀(i:Nat) (x:V),xs[i]?=some x→∀(Hc:Hp) (R:Bool→Hp→Prop),aE P H Hc→bu Hc P a→(∀b H3,aE P Hc H3→bu H3 P a→R b H3)→tt (some x::ρ σ) Hc R)
  (elem:∀(x:V) (Hc:Hp) (R:VK),R x Hc→te (some x::ρ σ) Hc R)
  (fin:∀(D:Addr) (ys:List V) (Hc:Hp),D≠P→er P H D=none→aE P H Hc→bu Hc P a→ys.Sublist xs→Hc D=some (.lst ys)→Q (.ref D) Hc):gY wi ρ tt te σ H Q:=by
 refine eA _ fun D nD=>?_;have nP:=pc.ne nD;have lD:l≠D:=fun e=>by rw [e,nD] at el;cases el
 refine ⟨fun i m ys Hc=>m=xs.length-i∧i≤xs.length∧Hc D=some (.lst ys)∧aE P H Hc∧bu Hc P a∧ys.Sublist (xs.take i),⟨_,rfl,bG _,ax,(aE.refl H).but nD,pc.upd nP,by simp⟩,?_⟩
 rintro i m ys Hc ⟨rfl,hi,eD,sH,AA,sub⟩;refine ⟨eD,?_⟩;have wW:=sH.at nl el;by_cases bL:i<xs.length
 ·refine .inr ⟨⟨xs,xs[i],.of wW,by simp [bL]⟩,fun x H' hy=>?_⟩
  obtain ⟨rfl,hx⟩:=hy;have ex:=hx xs (.of wW);refine test i x ex _ _ sH AA fun b H3 s3 p3=>?_;have tk:xs.take (i+1)=xs.take i++[x]:=by rw [pj,ex];rfl
  have e3:=s3.at nP eD;cases b with
  | true=>
   rw [aj rfl];refine elem x H3 _ ⟨e3,?_,xs.length-(i+1),by omega,rfl,bL,ax,(sH.trans s3).but nD,p3.upd nP,?_⟩
   ·have:=sub.length_le
    rw [iV] at this;omega
   ·rw [tk]
    exact sub.append (List.Sublist.refl _)
  | false=>
   rw [ae (by simp)]
   refine ⟨xs.length-(i+1),by omega,rfl,bL,e3,sH.trans s3,p3,?_⟩
   rw [tk];exact sub.trans (List.sublist_append_left _ _)
 ·have e:i=xs.length:=by omega
  subst e;rw [mU] at sub;exact .inl ⟨⟨xs,.of wW,by omega⟩,fin D ys Hc nP (by rw [cV nP];exact nD) sH AA sub eD⟩
def dE(k:Nat)(d:List Nat):Prop:=d.Pairwise (fun a b=>b<a)∧∀x∈d,x<k
theorem dE.len:∀{d:List Nat} {k:Nat},dE k d→d.length≤k
 | [],_,_=>bG _
 | x::d,k,h=>by obtain ⟨h1,h2⟩:=mV.mp h.1;have:=dE.len (k:=x) ⟨h2,fun y hy=>h1 y hy⟩;have:=h.2 x eZ;rw [dm];omega
theorem dE.nil(k:Nat):dE k []:=⟨List.Pairwise.nil,fun x hx=>by cases hx⟩
variable {k:Nat} {d:List Nat}
theorem dE.sub{e:List Nat}(h:dE k d)(s:e.Sublist d):dE k e:=⟨h.1.sublist s,fun x hx=>h.2 x (s.subset hx)⟩
variable {j:Nat}
theorem dE.put(h:dE k d)(hk:k<j):dE j (k::d):=⟨mV.mpr ⟨h.2,h.1⟩,fun x hx=>by
 rcases cE.mp hx with rfl | hx;·exact hk
 ·have:=h.2 x hx
  omega⟩
theorem dE.nd(h:dE k d):d.Nodup:=h.1.imp fun h=>by omega
def de(d:List Nat):List V:=d.map fun(x:Nat)=>V.int (x:Int)
theorem wX:∀{d:List Nat} {ys:List V},ys.Sublist (de d)→∃e:List Nat,e.Sublist d∧ys=de e
 | [],ys,h=>⟨[],List.Sublist.refl _,by have h:ys.Sublist []:=h;rw [List.sublist_nil.mp h];rfl⟩
 | x::d,ys,h=>by
  have h:ys.Sublist (V.int (x:Int)::de d):=h;cases h with
  | cons _ h=>obtain ⟨e,h1,h2⟩:=wX h;exact ⟨e,h1.cons _,h2⟩
  | cons_cons _ h=>obtain ⟨e,h1,h2⟩:=wX h;exact ⟨x::e,.cons_cons _ h1,by rw [h2];rfl⟩
structure jt (j:Nat) (L:aK):Prop where
 nd:L.Nodup
 lt:∀p∈L,0≤p.1∧p.1<p.2∧p.2<j
 bA:2*L.length≤j*(j-1)
theorem jt.nil:jt 1 []:=⟨ph,(fun p hp=>by cases hp),by simp⟩
theorem jt.ok(h:jt n L):gF n L:=⟨h.nd,h.lt,by
 have:=h.bA;have:n*(n-1)≤n*n:=Nat.mul_le_mul_left _ (by omega)
 omega⟩
theorem jt.more(h:jt j L)(hd:dE j d):jt (j+1) (L++d.map fun(x:Nat)=>((x:Int),(j:Int))) where
 nd:=by
  refine List.nodup_append.mpr ⟨h.nd,tN hd.nd fun p q _ _ e=>by have:=cy Prod.fst e;dsimp only at this;omega,fun p hp q hq e=>?_⟩
  obtain ⟨x,_,rfl⟩:=ik.mp hq;have:=h.lt p hp;rw [e] at this;dsimp only at this;omega
 lt:=fun p hp=>by
  rcases d8.mp hp with hp | hp
  ·have:=h.lt p hp
   omega
  ·obtain ⟨x,hx,rfl⟩:=ik.mp hp
   have:=hd.2 x hx;dsimp only;omega
 bA:=by
  have a:=h.bA;have b:=hd.len;rw [d9,ba,rD];cases j with
  | zero=>rw [Nat.zero_mul] at a;rw [Nat.mul_zero];omega
  | succ j=>
   rw [rD] at a;have e:(j+1+1)*(j+1)=(j+1)*j+2*(j+1):=by grind
   rw [e];omega
def HD(K:aG):Sp:=fun vs H Q _=>∃(P a:Addr) (ns:List Int) (n:Nat),vs=[.ref P,.int (n:Int)]∧bu H P a∧bq K (er P H) a (ns.map V.int)∧1≤n∧n≤30 ∧
 ∀(r:Addr) (us:List V) (L:aK) (H':Hp),aE P H H'→bu H' P a→er P H r=none→r≠P→H' r=some (.lst us)→aT (er P H') us L→gF n L→Q (.ref r) H'
def HE(H:Hp)(vs:List V)(j:Nat)(D:Nat→List Nat):Prop:=vs.length=j∧∀k,k<j→dE k (D k)∧∃b,vs[k]?=some (.ref b)∧H b=some (.lst (de (D k)))
theorem wY{o:HO}:∀b o',b≠r→er P H b=some o'→er P (upd H r o) b=some o':=fun b o' nb e=>by
 by_cases z:b=P
 ·subst z
  unfold er at e;rw [aj rfl] at e;cases e
 ·rw [cV z] at e ⊢
  rw [bf nb];exact e
theorem aT.cat{zs:List V}(h:aT H us L)(g:aT H zs M):aT H (us++zs) (L++M):=⟨by simp [h.1,g.1],fun k v p h1 h2=>by
 have hl:=h.1;by_cases z:k<us.length
 ·rw [eG z] at h1
  rw [eG (by omega)] at h2
  exact h.2 k v p h1 h2
 ·rw [dO (by omega)] at h1
  rw [dO (by omega),show k-L.length=k-us.length by omega] at h2
  exact g.2 _ v p h1 h2⟩
variable {i:Nat}
theorem HF{x:V}(h:(de d)[i]?=some x):∃y,d[i]?=some y∧x=.int (y:Int):=by
 unfold de at h;rw [dj] at h;cases e:d[i]? with
 | none=>rw [e] at h;cases h
 | some y=>rw [e] at h;cases h;exact ⟨y,rfl,rfl⟩
theorem qx(p:bu H P a)(e:H b=some (.tup xs)):er P H b=some (.tup xs):=by refine qk (fun z=>?_) e;obtain ⟨x,y,eP,_⟩:=p;rw [z,eP] at e;cases e
structure eF (j i:Nat) (L:aK):Prop where
 nd:L.Nodup
 lt:∀p∈L,0≤p.1∧p.1<p.2∧(p.2<j∨p.2=j∧p.1<i)
 bA:2*L.length≤j*(j-1)+2*i
theorem eF.start:eF 0 0 []:=⟨ph,(fun p hp=>by cases hp),by simp⟩
theorem eF.skip(h:eF j i L):eF j (i+1) L:=⟨h.nd,fun p hp=>by
 have:=h.lt p hp;omega,by
 have:=h.bA;omega⟩
theorem eF.push(h:eF j i L)(hi:i<j):eF j (i+1) (L++[((i:Int),(j:Int))]) where
 nd:=by
  refine List.nodup_append.mpr ⟨h.nd,by simp,fun p hp q hq e=>?_⟩
  rw [e9.mp hq] at e;have:=h.lt p hp;rw [e] at this;dsimp only at this;omega
 lt:=fun p hp=>by
  rcases d8.mp hp with hp | hp
  ·have:=h.lt p hp
   omega
  ·rw [e9.mp hp]
   dsimp only;omega
 bA:=by have:=h.bA;rw [d9,oY];omega
theorem eF.next(h:eF j j L):eF (j+1) 0 L:=⟨h.nd,fun p hp=>by
 have:=h.lt p hp;omega,by
 have a:=h.bA;rw [rD];cases j with
 | zero=>omega
 | succ j=>
  rw [rD] at a;have e:(j+1+1)*(j+1)=(j+1)*j+2*(j+1):=by grind
  rw [e];omega⟩
theorem eF.ok(h:eF n 0 L):gF n L:=⟨h.nd,fun p hp=>by
 have:=h.lt p hp;omega,by
 have:=h.bA;have:n*(n-1)≤n*n:=Nat.mul_le_mul_left _ (by omega)
 omega⟩
theorem HG(n:Nat):(eB n).Nodup:=tN pd fun p q _ _ e=>by have:=V.int.inj e;omega
theorem HH{ys:List V}(h:ys.Perm (eB n)):∃nm:Nat→Int,ys.length=n∧(∀i,i<n→ys[i]?=some (.int (nm i)))∧wV n nm:=by
 have ln:ys.length=n:=by rw [h.length_eq];unfold eB;simp
 have nd:ys.Nodup:=h.nodup_iff.mpr (HG n);have each:∀i,∃x:Int,i<n→ys[i]?=some (.int x)∧0≤x∧x<n:=fun i=>by
  by_cases hi:i<n
  ·have aS:i<ys.length:=by omega
   have m:ys[i]∈eB n:=h.mem_iff.mp (dw aS);obtain ⟨k,hk,e⟩:=ik.mp m;have:=gN.mp hk;exact ⟨(k:Int),fun _=>⟨by rw [e];simp [aS],by omega,by omega⟩⟩
  ·exact ⟨0,fun z=>absurd z hi⟩
 obtain ⟨nm,hn⟩:=Classical.axiomOfChoice each;refine ⟨nm,ln,fun i hi=>(hn i hi).1,fun i hi=>(hn i hi).2,fun i j hi hj e=>?_⟩;have a:=(hn i hi).1;have b:=(hn j hj).1;rw [e] at a;have aS:i<ys.length:=by omega
 have da:j<ys.length:=by omega
 rw [bX aS] at a;rw [bX da] at b;exact (rb nd).mp ((Option.some.inj a).trans (Option.some.inj b).symm)
def HI(K:aG):Sp:=fun vs H Q _=>∃(P a:Addr) (ns:List Int) (most:Nat),vs=[.ref P,.int (most:Int)]∧bu H P a∧bq K (er P H) a (ns.map V.int)∧1≤most∧most≤30 ∧
 ∀(t:Addr) (n:Nat) (L:aK) (H':Hp),aE P H H'→bu H' P a→er P H t=none→t≠P→fB (er P H') t n L→gF n L→L.Pairwise lexLt→1≤n→n≤most→Q (.ref t) H'
theorem aT.er(h:aT H us L)(p:bu H P a):aT (er P H) us L:=⟨h.1,fun k v q h1 h2=>by obtain ⟨b,e,g⟩:=h.2 k v q h1 h2;exact ⟨b,e,qx p g⟩⟩
variable {t:Addr}
theorem fB.er(h:fB H t n L)(p:bu H P a):fB (er P H) t n L:=by obtain ⟨lt,us,h1,h2,h3⟩:=h;exact ⟨lt,us,qx p h1,qx p h2,h3.er p⟩
theorem fB.mono(h:fB H t n L)(s:ai H H'):fB H' t n L:=by obtain ⟨lt,us,h1,h2,h3⟩:=h;exact ⟨lt,us,s _ _ h1,s _ _ h2,h3.mono s⟩
theorem HJ(pr:Nat→Bool)(eA:∀R:It→Hp→Prop,(∀J,kg J xs H→R J H)→wi σ H R)(hn:xs.length<sizeLine)
  (P:Addr→Nat→V→Hp→Prop) (mono:∀D i y H H' ys,P D i y H→H D=some (.lst ys)→(∀b o,b≠D→H b=some o→H' b=some o)→P D i y H')
  (test:∀(i:Nat) (x:V),xs[i]?=some x→∀(Hc:Hp) (R:Bool→Hp→Prop),ai H Hc→R (pr i) Hc→tt (some x::ρ σ) Hc R)
  (step:∀D (i:Nat) (x:V),xs[i]?=some x→∀(Hc:Hp) (R:VK),ai H Hc→(∃ys,Hc D=some (.lst ys))→(∀y H3,ai Hc H3→P D i y H3→R y H3)→te (some x::ρ σ) Hc R)
  (fin:∀D ys Hc,H D=none→ai H Hc→ys.length=((List.range xs.length).filter pr).length→(∀(k i:Nat) (y:V),ys[k]?=some y→((List.range xs.length).filter pr)[k]?=some i→P D i y Hc)→Hc D=some (.lst ys)→Q (.ref D) Hc):gY wi ρ tt te σ H Q:=by
 refine eA _ fun J js=>?_;intro D nD;refine ⟨fun i m ys Hc=>m=xs.length-i∧i≤xs.length∧Hc D=some (.lst ys)∧ai H Hc∧ys.length=((List.range i).filter pr).length∧∀(k i':Nat) (y:V),ys[k]?=some y→((List.range i).filter pr)[k]?=some i'→P D i' y Hc,⟨_,rfl,bG _,ax,fu (ai.refl H) nD,rfl,fun k i y h=>by simp at h⟩,?_⟩
 rintro i m ys Hc ⟨rfl,hi,eD,sH,ly,hP⟩;refine ⟨eD,?_⟩;by_cases bL:i<xs.length
 ·refine .inr ⟨js.go i Hc sH bL,fun x H' hy=>?_⟩
  obtain ⟨rfl,hx⟩:=js.c5 i Hc x H' sH hy;refine test i x (hx bL) _ _ sH ?_;have fs:(List.range (i+1)).filter pr=(List.range i).filter pr++(if pr i=true then [i] else []):=by
   rw [jK,List.filter_append]
   congr 1
   cases e:pr i <;> simp [e]
  have fl:((List.range i).filter pr).length≤i:=cf (List.length_filter_le _ _) (by simp)
  cases e:pr i with
  | true=>
   rw [aj rfl];refine step D i x (hx bL) _ _ sH ⟨_,eD⟩ fun y H3 s3 hp=>?_;have e3:=s3 _ _ eD;have ck:∀b o,b≠D→H3 b=some o→upd H3 D (.lst (ys++[y])) b=some o:=fun b o nb e=>by rw [bf nb];exact e
   refine ⟨e3,by omega,xs.length-(i+1),by omega,rfl,bL,ax,fu (sH.trans s3) nD,?_,fun k i' y' h1 h2=>?_⟩
   ·rw [fs,e,aj rfl,d9,d9,ly]
    rfl
   ·rw [fs,e,aj rfl] at h2
    by_cases z:k<ys.length
    ·rw [eG z] at h1
     rw [eG (by omega)] at h2
     refine mono D i' y' H' _ ys (hP k i' y' h1 h2) eD fun b o nb e=>ck b o nb (s3 _ _ e)
    ·have hk:=(cg.mp h1).1
     rw [d9,oY] at hk;obtain rfl:k=ys.length:=by omega
     rw [dO (aC _),mN] at h1;rw [dO (by omega),show ys.length-((List.range i).filter pr).length=0 by omega] at h2
     cases h1;cases h2;exact mono D _ _ H3 _ ys hp e3 ck
  | false=>
   rw [ae (by simp)]
   refine ⟨xs.length-(i+1),by omega,rfl,bL,eD,sH,?_,fun k i' y' h1 h2=>?_⟩
   ·rw [fs,e,ae (by simp),oV]
    exact ly
   ·rw [fs,e,ae (by simp),oV] at h2
    exact hP k i' y' h1 h2
 ·have e:i=xs.length:=by omega
  subst e;exact .inl ⟨js.stop _ Hc sH (aC _),fin D ys Hc nD sH ly hP eD⟩
end My
namespace L2
open PySem PySem.Spec PyProof.Rows
end L2
namespace My
open PySem L2
theorem AB{te:TE}{σ:St}{H:Hp}{R:VK}(M:V→Hp→Prop)(h1:∀R':VK,(∀x H,M x H→R' x H)→te σ H R')(h2:∀x H,M x H→R x H):te σ H R:=h1 R h2
end My
namespace L2
open PySem PySem.Spec PyProof.Rows
section
variable (P:Program) (w:World)
end
section
variable {P:Program} {w:World} {H H':Hp} {h h':Heap} {a:Addr} {o:HO}
end
section
variable {P:Program} {w:World} {H:Hp} {h h':Heap} {x e:Addr} {o':HO}
end
section
variable {fs vx ex vy:List Addr} {H H1 H2:Hp} {h h1 h2 h':Heap} {a x e:Addr} {o:HO}
end
section
variable {X:Cx} {pins:aL} {σ:List (Option V)} {H H':Hp} {s:Shared} {h':Heap}
end
section
variable {X:Cx}
variable {a b:Expr} {ta tb:TE} {pos:Pos}
variable {tA pL:TT} {rest:List Expr}
end
section
variable {X:Cx} {pins:aL} {σ:St} {H:Hp} {s:Shared} {a:Addr} {xs ys:List V}
end
section
variable {X:Cx} {pins:aL} {σ:St} {H:Hp} {s:Shared} {E:aF}
end
section
variable {X:Cx} {st:Stmt} {rest:List Stmt} {t u:TS} {e:Expr} {te:TE} {pos:Pos}
end
section
variable {X:Cx} {pos:Pos}
end
section
variable {X:Cx} {pos:Pos}
end
section
variable {X:Cx} {tg:Expr}
end
section
variable {X:Cx} {a b c:Expr} {ta tb tc:TE} {pos:Pos}
end
section
variable {X:Cx} {a b c:Expr} {ta tb tc:TE} {pos:Pos}
end
section
variable {prog:Program} {w:World} {A:Around} {E:aF} {s:Shared} {K:aG} {x dx C f:Addr} {mA:bY} {name:Str} {v:Value}
end
section
variable {P:Program} {w:World} {H H':Hp} {h h':Heap} {a C dx:Addr} {fs vx:List (Str×V)}
end
section
variable {X:Cx} {pins:aL} {σ:St} {H:Hp} {s:Shared} {a C dx:Addr} {fs:List (Str×V)} {f:Str} {v:V} {A:Around} {E:aF}
end
section
variable {X:Cx} {o e value:Expr} {f:Str} {pos pos' sE:Pos} {ta tv:TE}
end
section
variable {X:Cx} {pins:aL} {σ:St} {H:Hp} {s:Shared} {A:Around} {E:aF} {Q:aF} {c:Value} {b:Bool}
end
section
variable {X:Cx} {e:Expr} {es:List Expr} {te:TE} {t:TA} {pos:Pos}
end
section
variable {X:Cx} {pins:aL} {σ:St} {H:Hp} {s s':Shared}
end
section
variable {X:Cx} {CX:fg} {k:Nat} {f C:Addr} {fd:FuncData} {ps:List Str} {sp:Sp} {iA:List V} {ds:List Value} {E:XK} {x m:Str} {p pos apos:Pos} {e o:Expr} {es:List Expr} {ta:TE} {t:TA}
end
section
variable {X:Cx} {CX:fg} {k:Nat} {f C:Addr} {fd:FuncData} {ps ks:List Str} {sp:Sp} {E:XK} {x m:Str} {p pos apos zc:Pos} {e o:Expr} {es:List Expr} {Ej:List Keyword} {te ta:TE} {t tk:TA} {nm:Option Str}
variable {g:List Value→List Value→List Value} {gV:List V→List V→List V}
end
section
variable {X:Cx} {x:Str} {p pos:Pos} {e:Expr} {es:List Expr} {t:TA} {id T:String} {r:List V→Hp→VK→Prop}
end
section
variable {κ:Type} [DecidableEq κ]
def fW(kvs:List (κ×V))(k:κ):Option V:=(kvs.find? fun kv=>decide (kv.1=k)).map (·.2)
def putK(kvs:List (κ×V))(k:κ)(v:V):List (κ×V):=
 if (kvs.any fun kv=>decide (kv.1=k))=true then kvs.map (fun kv=>if kv.1=k then (kv.1,v) else kv) else kvs++[(k,v)]
variable {p:κ×V} {r:List (κ×V)} {k:κ}
theorem tO(e:p.1=k):fW (p::r) k=some p.2:=by simp [fW,mW,e]
theorem tP(e:¬p.1=k):fW (p::r) k=fW r k:=by simp [fW,mW,e]
theorem AD(k:κ):∀kvs:List (κ×V),(kvs.any fun kv=>decide (kv.1=k))=(fW kvs k).isSome
 | []=>rfl
 | p::r=>by
  rw [List.any_cons];by_cases e:p.1=k;·simp only [tO e,bg e,Bool.true_or,Option.isSome_some]
  ·rw [tP e,bp e,Bool.false_or];exact AD k r
theorem AE(kvs:List (κ×V))(k:κ)(v:V):(putK kvs k v).length≤kvs.length+1:=by
 unfold putK
 split
 ·rw [ba];omega
 ·rw [d9,dm,mK];omega
theorem kJ.wZ{o:Option V}{u:Option Value}(r:kJ o u):o.isSome=u.isSome:=by
 cases o with
 | none=>cases u with
  | none=>rfl
  | some _=>exact (show False from r).elim
 | some _=>cases u with
  | none=>exact (show False from r).elim
  | some _=>rfl
variable {kvs:List (κ×V)} {vs:List (κ×Value)}
theorem KV.val(r:KV kvs vs)(k:κ):kJ (fW kvs k) (valueAt vs k):=by
 unfold KV at r
 induction r with
 | nil=>exact True.intro
 | @cons p q ps qs h t ih=>
  obtain ⟨h1,h2⟩:=h;by_cases e:p.1=k
  ·have e':q.1=k:=h1.symm.trans e
   have b:valueAt (q::qs) k=some q.2:=by simp [valueAt,mW,e']
   rw [tO e,b];exact h2
  ·have e':¬q.1=k:=fun z=>e (h1.trans z)
   have b:valueAt (q::qs) k=valueAt qs k:=by simp [valueAt,mW,e']
   rw [tP e,b];exact ih
theorem KV.any(r:KV kvs vs)(k:κ):(kvs.any fun kv=>decide (kv.1=k))=vs.any fun kv=>decide (kv.1=k):=by
 unfold KV at r
 induction r with
 | nil=>rfl
 | cons h t ih=>rw [List.any_cons,List.any_cons,ih,h.1]
variable {y:V} {u:Value}
theorem KV.w5(r:KV kvs vs)(k:κ)(ry:RelV y u) :
  KV (kvs.map fun kv=>if kv.1=k then (kv.1,y) else kv) (vs.map fun kv=>if kv.1=k then (kv.1,u) else kv):=by
 unfold KV at r ⊢
 induction r with
 | nil=>exact .nil
 | @cons p q ps qs h t ih=>
  rw [cR,cR];refine .cons ?_ ih;obtain ⟨h1,h2⟩:=h;by_cases e:p.1=k;·rw [aj e,aj (h1.symm.trans e)];exact ⟨h1,ry⟩
  ·rw [ae e,ae (fun z=>e (h1.trans z))];exact ⟨h1,h2⟩
theorem KV.put(r:KV kvs vs)(k:κ)(ry:RelV y u):KV (putK kvs k y) (stored vs k u):=by
 unfold putK stored;rw [r.any k];by_cases e:(vs.any fun kv=>decide (kv.1=k))=true;·rw [aj e,aj e];exact r.w5 k ry
 ·rw [ae e,ae e];exact Paired.snoc r ⟨rfl,ry⟩
theorem KV.length(r:KV kvs vs):kvs.length=vs.length:=Paired.length r
end
variable {P:Program} {w:World} {u:Value}
theorem w6{k:Key}(r:RelV (kV k) u):(dR P w).is k u=true:=by
 cases k with
 | inl i=>obtain ⟨t,e⟩:=(show ∃t,u=Value.int i t from r);subst e;exact C7 P w i t
 | inr x=>obtain ⟨t,e⟩:=(show ∃t,u=Value.str x t from r);subst e;exact C8 P w x t
theorem AF{P:Program}{w:World}:∀{ks:List Key} {us:List Value},Vals (ks.map kV) us→ItemsAre (dR P w) ks us
 | [],_,r=>by rw [List.map_nil] at r;cases r;exact .nil
 | k::ks,_,r=>by
  rw [cR] at r;cases r with
  | cons h t=>exact .cons (w6 h) (AF t)
abbrev KT (H:Hp):List (List Key×V)→List (List Key×Addr×Value)→Prop:=Paired fun p q=>p.1=q.1∧H q.2.1=some (.tup (p.1.map kV))∧RelV p.2 q.2.2
variable {H:Hp} {kvs:List (List Key×V)} {xs:List (List Key×Addr×Value)}
theorem KT.val(r:KT H kvs xs)(k:List Key):kJ (fW kvs k) ((atKey xs k).map (·.2)):=by
 induction r with
 | nil=>exact True.intro
 | @cons p q ps qs h t ih=>
  obtain ⟨h1,_,h2⟩:=h;by_cases e:p.1=k
  ·have e':q.1=k:=h1.symm.trans e
   have b:atKey (q::qs) k=some q.2:=by simp [atKey,mW,e']
   rw [tO e,b];exact h2
  ·have e':¬q.1=k:=fun z=>e (h1.trans z)
   have b:atKey (q::qs) k=atKey qs k:=by simp [atKey,mW,e']
   rw [tP e,b];exact ih
variable {y:V}
theorem KT.w5(r:KT H kvs xs)(k:List Key)(ry:RelV y u) :
  KT H (kvs.map fun kv=>if kv.1=k then (kv.1,y) else kv) (xs.map (putAt k u)):=by
 induction r with
 | nil=>exact .nil
 | @cons p q ps qs h t ih=>
  rw [cR,cR];refine .cons ?_ ih;obtain ⟨h1,h2,h3⟩:=h;unfold putAt;by_cases e:p.1=k;·rw [aj e,aj (h1.symm.trans e)];exact ⟨h1,h2,ry⟩
  ·rw [ae e,ae (fun z=>e (h1.trans z))];exact ⟨h1,h2,h3⟩
theorem KT.put(r:KT H kvs xs)(k:List Key){b:Addr}(hb:H b=some (.tup (k.map kV)))(ry:RelV y u) :
  KT H (putK kvs k y) (storedH xs k b u):=by
 have e:(kvs.any fun kv=>decide (kv.1=k))=(atKey xs k).isSome:=by rw [AD,(r.val k).wZ,Option.isSome_map]
 unfold putK storedH;rw [e];by_cases q:(atKey xs k).isSome=true;·rw [aj q,aj q];exact r.w5 k ry
 ·rw [ae q,ae q];exact Paired.snoc r ⟨rfl,hb,ry⟩
theorem KT.keeps{H':Hp}(r:KT H kvs xs)(ht:∀b ys,H b=some (.tup ys)→H' b=some (.tup ys)):KT H' kvs xs:=
 Paired.vw r fun _ _ z=>⟨z.1,ht _ _ z.2.1,z.2.2⟩
section
variable {P:Program} {w:World} {H:Hp} {h:Heap} {a:Addr}
theorem AG{u:HO}(ok:bD P w H h)(e:Rd H a u):bH P w H h a u:=e.ok ok
theorem AH{kvs:List (Key×V)}(ok:bD P w H h)(e:Rd H a (.dK kvs)):kvs.length≤sizeLine∧(a == sysModules)=false∧∃vs,KV kvs vs∧h.DictOf (dR P w) a vs:=
 show bH P w H h a (.dK kvs) from AG ok e
theorem AI{kvs:List (Key×V)}(ok:bD P w H h)(e:H a=some (.dK kvs)):kvs.length≤sizeLine∧(a == sysModules)=false∧∃vs,KV kvs vs∧h.DictOf (dR P w) a vs:=AH ok (.inl e)
theorem w9{ks:List Key}(ok:bD P w H h)(e:H a=some (.tup (ks.map kV))):(tupleKind (dR P w)).is h ks a:=by obtain ⟨_,ak,r,o,h1,h2,n,h3⟩:=(show bH P w H h a (.tup (ks.map kV)) from ok a _ e);exact ⟨o,ak.toArray,n,h1,h2,h3,by simpa using AF r⟩
theorem AJ(ok:bD P w H h)(e:Rd H a (.dT kvs)):kvs.length≤sizeLine∧(a == sysModules)=false ∧
  ∃xs,KT H kvs xs∧h.DictOfH (tupleKind (dR P w)) a xs:=by
 obtain ⟨z,y,xs,r,o,es,ep,h1,h2,h3,h4,h5⟩:=(show bH P w H h a (.dT kvs) from AG ok e);refine ⟨z,y,xs,r,o,es,ep,h1,h2,h3,h4,fun x hx=>?_,h5⟩;have all:∀{l:List (List Key×V)} {m:List (List Key×Addr×Value)},KT H l m→∀x∈m,(tupleKind (dR P w)).is h x.1 x.2.1:=by
  intro l m q
  induction q with
  | nil=>intro x hx;exact nomatch hx
  | @cons p q ps qs hq t ih=>
   intro x hx;rcases cE.mp hx with e | hx
   ·subst e
    exact w9 ok (by rw [←hq.1];exact hq.2.1)
   ·exact ih x hx
 exact all r x hx
theorem HK(ok:bD P w H h)(e:H a=some (.dT kvs)):kvs.length≤sizeLine∧(a == sysModules)=false ∧
  ∃xs,KT H kvs xs∧h.DictOfH (tupleKind (dR P w)) a xs:=AJ ok (.inl e)
end
def AK(H:Hp)(a:Addr)(y:V)(r:Option V):Prop:=
 (∃kvs k,Rd H a (.dK kvs)∧y=kV k∧r=fW kvs k)∨∃kvs k b,Rd H a (.dT kvs)∧y=.ref b∧H b=some (.tup (k.map kV))∧r=fW kvs k
def w_(H:Hp)(a:Addr)(y v:V)(H':Hp):Prop:=
 (∃kvs k,H a=some (.dK kvs)∧y=kV k∧kvs.length<sizeLine∧H'=upd H a (.dK (putK kvs k v))) ∨
 ∃kvs k b,H a=some (.dT kvs)∧y=.ref b∧H b=some (.tup (k.map kV))∧kvs.length<sizeLine∧H'=upd H a (.dT (putK kvs k v))
section
variable {X:Cx} {pins:aL} {σ:St} {H:Hp} {s:Shared} {a:Addr} {y v:V} {u r:Value} {o:Option V} {A:Around} {E:aF}
theorem Inv.big(I:Inv X pins σ H s):sysModules<s.heap.objs.size:=by have h:mainGlobals<s.heap.objs.size:=(I.mod.glob.keeps I.bk).lt;exact Nat.lt_trans (by decide) h
theorem HL{Q:aF}(hu:A.units+1<cLine)(I:Inv X pins σ H s)(g:AK H a y o)(ry:RelV y u)(h:∀s',Inv X pins σ H s'→Q (.bool o.isSome) s') :
  wpAny (model X.prog X.w) A (compareOp .In u (.ref a)) Q E s:=by
 rcases g with ⟨kvs,k,e,ey,l⟩ | ⟨kvs,k,b,e,ey,eb,l⟩
 ·subst ey
  obtain ⟨z,hd,vs,rel,dd⟩:=AH I.aA e;refine wpAny_in_of (w6 ry) hd dd.mapOf ?_;rw [←(rel.val k).wZ,←l];exact h _ (I.tok _)
 ·subst ey
  cases (show u=Value.ref b from ry);obtain ⟨z,hd,xs,rel,dd⟩:=AJ I.aA e;refine wpAny_in_heap (tupleKind_room_in1 hu) (w9 I.aA eb) hd dd ?_;have q:=(rel.val k).wZ;rw [Option.isSome_map] at q;rw [←q,←l];exact h _ (I.tok _)
variable {h':Heap}
theorem AL{t':Nat}{ob:HO}(I:Inv X pins σ H s)(mu:pH (H a))(hs:Heap.SameBut a s.heap h')(he:∃q,h'.get? a=some q)(new:bH X.prog X.w (upd H a ob) h' a ob) :
  Inv X pins σ (upd H a ob) {s with heap:=h',toks:=t'}:=
 I.write (x:=a) (e:=a) mu (.inl rfl) (fun b q hb z=>(hs.2 b hb).trans z) he new
variable {H':Hp}
theorem HM{kvs:List (Key×V)}{vs:List (Key×Value)}(z:kvs.length≤sizeLine)(hd:(a == sysModules)=false)(rel:KV kvs vs)(dd:h'.DictOf (dR P w) a vs) :
  bH P w H' h' a (.dK kvs):=⟨z,hd,vs,rel,dd⟩
theorem HN{Q:Unit→Shared→Prop}(hu:A.units+1<cLine)(I:Inv X pins σ H s)(g:w_ H a y v H')(ry:RelV y u)(rv:RelV v r)(h:∀s',Inv X pins σ H' s'→Q () s') :
  wpAny (model X.prog X.w) A (setItem (.ref a) u r) Q E s:=by
 rcases g with ⟨kvs,k,e,ey,l,eH⟩ | ⟨kvs,k,b,e,ey,eb,l,eH⟩
 ·subst ey eH
  obtain ⟨z,hd,vs,rel,dd⟩:=AI I.aA e;have hz:vs.length≤sizeLine:=by rw [←rel.length];exact z
  have hl:(putK kvs k v).length≤sizeLine:=by have:=AE kvs k v;omega
  refine wpAny_setItem_pairs (hsz:=hz) (w6 ry) dd fun h' qa hs=>h _ ?_;have he:∃q,h'.get? a=some q:=let ⟨q,_,_,hq,_⟩:=qa;⟨q,hq⟩
  exact AL I (by rw [e];exact True.intro) hs he (HM hl hd (rel.put k rv) qa)
 ·subst ey eH
  cases (show u=Value.ref b from ry);obtain ⟨z,hd,xs,rel,dd⟩:=HK I.aA e;have hz:xs.length≤sizeLine:=by rw [←Paired.length rel];exact z
  have hl:(putK kvs k v).length≤sizeLine:=by have:=AE kvs k v;omega
  refine wpAny_setItem_heap (hsz:=hz) (tupleKind_room_in1 hu) (w9 I.aA eb) dd fun h' qa hs=>h _ ?_;obtain ⟨q,es,ep,hq,h2,h3,h4,_,h5⟩:=qa;refine AL I (by rw [e];exact True.intro) hs ⟨q,hq⟩ ⟨hl,hd,_,(rel.put k eb rv).keeps fun c ys ec=>?_,q,es,ep,hq,h2,h3,h4,h5⟩
  rw [bf (C9 ec e (fun z=>nomatch z))];exact ec
end
section
variable {X:Cx} {pins:aL} {σ:St} {H:Hp} {s:Shared} {a:Addr} {kvs:List (Key×V)} {k:Key} {u:Value} {A:Around} {E:aF}
end
def HP(ty td:TE):TE:=fun σ H Q=>ty σ H fun y H1=>td σ H1 fun x H2=>∃a o,x=.ref a∧AK H2 a y o∧Q (.bl o.isSome) H2
def HQ(td ty tv:TE):TS:=fun D σ H=>tv σ H fun v H1=>td σ H1 fun x H2=>ty σ H2 fun y H3=>∃a H4,x=.ref a∧w_ H3 a y v H4∧D.nx σ H4
section
variable {X:Cx} {o i e value:Expr} {pos pos' sE:Pos} {td ty tv:TE}
theorem HR(hu:X.A.units+1<cLine)(hi:PE X i ty)(ho:PE X o td):PC X .In i o (HP ty td):=by intro pins s σ H Q I h;refine aJ (hi pins s σ H _ I h) fun iv s1 ⟨y,H1,I1,ry,q1⟩=>aJ (ho pins s1 σ H1 _ I1 q1) fun u s2 ⟨x,H2,I2,rx,a,ov,ex,g,q2⟩=>?_;subst ex;obtain rfl:u=Value.ref a:=rx;exact HL hu I2 g ry fun s3 I3=>⟨.bl ov.isSome,H2,I3,rfl,q2⟩
theorem AM(hu:X.A.units+1<cLine)(ho:PE X o td)(hi:PE X i ty)(hv:PE X value tv)(hs:swapsWith value (some (.Subscript o i pos')) pos.line X.env=pure false) :
  PS X (.Assign [.Subscript o i pos'] value pos) (HQ td ty tv):=by
 intro pins s σ H D I h;refine wpAny_Assign_Subscript (aJ (hv pins s σ H _ I h) fun r s1 ⟨v,H1,I1,rv,q1⟩=>aJ (ho pins s1 σ H1 _ I1 q1) fun u s2 ⟨x,H2,I2,rx,q2⟩=>aJ (hi pins s2 σ H2 _ I2 q2) fun iv s3 ⟨y,H3,I3,ry,a,H4,ex,g,q3⟩=>?_) hs;subst ex;obtain rfl:u=Value.ref a:=rx;exact HN hu I3 g ry rv fun s4 I4=>⟨σ,H4,I4,q3⟩
end
theorem HS(h:Heap)(hb:sysModules<h.objs.size):bH P w H (h.push {cls:=.type "dict",data:=.dict #[]}) h.objs.size (.dK []):=
 ⟨bG _,beq_eq_false_iff_ne.mpr (fG (bV hb)),[],.nil,Heap.DictOf.new h⟩
def HU:TE:=fun _ H Q=>∀p,H p=none→Q (.ref p) (upd H p (.dK []))
section
variable {X:Cx} {pos:Pos}
theorem HV:PE X (.Dict [] [] pos) HU:=fun pins s σ H Q I h=>wpAny_Dict_empty ⟨.ref s.heap.objs.size,_,I.laid (a:=s.heap.objs.size) (o:=.dK []) (t':=s.toks) (fun _ _ q=>a8 _ q) (aC _) (HS s.heap I.big),rfl,h _ (I.aA.fresh (aC _))⟩
end
section
variable {X:Cx} {pins:aL} {σ:St} {H:Hp} {s:Shared} {a:Addr} {y d:V} {u r:Value} {o:Option V} {A:Around} {E:aF}
end
section
variable {X:Cx} {o e f:Expr} {apos jg:Pos} {td ty tx:TE}
end
section
variable {X:Cx} {pins:aL} {σ:St} {H:Hp} {s:Shared} {a:Addr} {kvs:List (Key×V)} {A:Around} {E:aF}
end
section
variable {X:Cx} {pins:aL} {σ:St} {H:Hp} {s:Shared} {a:Addr} {y:V} {u:Value} {A:Around} {E:aF}
end
end L2
namespace sO
open PySem PySem.W PySem.Calls PyProof.Rows
section
variable {prog:Program} {w:World} {A:Around} {E:aF} {s:Shared} {K:Frag}
end
end sO
namespace L2
open PySem PySem.Spec PyProof.Rows
section
variable {P:Program} {w:World} {K:aG} {mg:bY} {base:Heap}
end
section
variable {X:Cx}
end
section
variable {κ:Type} [DecidableEq κ]
end
def xb(o:Obj):Nat:=match o.data with
 | .dict _ ep=>ep
 | _=>0
def iJ(a:Addr)(o:Obj)(kvs:List (Key×V)):It:=
 ⟨fun i H=>H a=some (.bN o (.dK kvs))∧i<kvs.length,fun i H x H'=>H'=H∧∃kv,kvs[i]?=some kv∧x=kV kv.1,fun i H=>H a=some (.bN o (.dK kvs))∧kvs.length≤i⟩
theorem HW{k:Key}{v:Value}(h:jP k v=true):RelV (kV k) v:=by
 rcases ip h with ⟨i,t,rfl,rfl⟩ | ⟨x,t,rfl,rfl⟩;·exact ⟨t,rfl⟩
 ·exact ⟨t,rfl⟩
theorem AN{kvs:List (Key×V)}{vs:List (Key×Value)}:∀{i:Nat} {kv:Key×V},KV kvs vs→kvs[i]?=some kv→∃v,vs[i]?=some (kv.1,v)
 | _,_,.nil,h=>by simp at h
 | 0,kv,.cons (b:=b) r _,h=>by simp at h;subst h;obtain ⟨k,v⟩:=b;have e:_=k:=r.1;exact ⟨v,by rw [e];rfl⟩
 | i+1,kv,.cons _ t,h=>by simp at h;obtain ⟨v,e⟩:=AN t h;exact ⟨v,by simpa using e⟩
section
variable {X:Cx} {pins:aL} {σ:St} {H:Hp} {s:Shared}
theorem Inv.xc{a:Addr}{o:Obj}{kvs:List (Key×V)}(I:Inv X pins σ H s)(h:H a=some (.bN o (.dK kvs))):∃vs,KV kvs vs∧s.heap.DictAt (dR X.prog X.w) a vs (xb o):=by obtain ⟨g,_,_,vs,r,o',es,ep,g',c,d,rest⟩:=(show bH X.prog X.w H s.heap a (.bN o (.dK kvs)) from I.aA a _ h);rw [g] at g';cases g';refine ⟨vs,r,o,es,g,c,?_,rest⟩;rw [d];unfold xb;rw [d]
end
theorem HX{P:Program}{w:World}{K:aG}{tg:Expr}(a it:Addr)(o:Obj)(kvs:List (Key×V)):Turn P w K tg (iJ a o kvs) [it] it (fun i h=>h.IsKeyIter it a i kvs.length (xb o)) where
 mem:=by simp
 obj:=fun i h st b hb=>by
  have e:b=it:=by simpa using hb
  subst e;obtain ⟨o,e,c,d⟩:=st;exact ⟨o,e,fun v z=>by rw [d] at z;cases z⟩
 keep:=fun i h h' st k=>by obtain ⟨o,e,c,d⟩:=st;exact ⟨o,k it (by simp) o e,c,d⟩
 item:=by
  intro X hP hw hK hc i pins s σ H E I hf st hg;subst hP hw hK;obtain ⟨eH,hi⟩:=hg;obtain ⟨vs,r,hm⟩:=I.xc eH;have lr:kvs.length=vs.length:=Paired.length r;have ek:kvs[i]?=some kvs[i]:=by simp [hi]
  obtain ⟨v,ev⟩:=AN r ek;obtain ⟨f0,f1,f2,f3,f4,f5⟩:=hf it (by simp)
  rw [lr] at st;refine wpAny_pyNext_dict_item st hm ev fun key h' hk aw sb=>?_;have I1:Inv X pins σ H {s with heap:=h'}:=I.turned (t':=s.toks) (fun b o hb e=>(sb.2 b hb).trans e) f0 f1 f3 f4 f5;obtain ⟨o',e,c,d⟩:=id aw;rw [←lr] at aw;exact ⟨key,rfl,r_ (s:={s with heap:=h'}) e c d (by decide) ⟨kV kvs[i].1,H,I1,HW hk,⟨rfl,_,ek,rfl⟩,aw,fun b hb=>(hf b hb).1⟩⟩
 done:=by
  intro X hP hw hK hc i pins s σ H E I hf st hg;subst hP hw hK;obtain ⟨eH,hi⟩:=hg;obtain ⟨vs,r,hm⟩:=I.xc eH;have lr:kvs.length=vs.length:=Paired.length r;obtain ⟨f0,f1,f2,f3,f4,f5⟩:=hf it (by simp)
  rw [lr] at st;exact wpAny_pyNext_dict_end (I.ok.hd hc) st hm (by simp;omega) fun h' eb=>⟨rfl,I.turned (t':=s.toks) (fun b o hb e=>eb b o hb e) f0 f1 f3 f4 f5⟩
 self:=fun _ _ _ _ _ st h=>wpAny_pyIter_keyiter st h
section
variable {X:Cx} {tg:Expr}
def AO(tl:TE):TI:=fun σ H R=>tl σ H fun x H1=>∃a kvs,x=.ref a∧((H1 a=some (.dK kvs)∧∀o,R (iJ a o kvs) (upd H1 a (.bN o (.dK kvs))))∨∃o,H1 a=some (.bN o (.dK kvs))∧R (iJ a o kvs) H1)
theorem HY{l:Expr}{tl:TE}(hl:PE X l tl):PI X tg l (AO tl):=by
 intro pins s σ H R I h;refine aJ (hl pins s σ H _ I h) fun v s1 ⟨x,H1,I1,r1,q1⟩=>?_;obtain ⟨a,kvs,e,q⟩:=q1;subst e;cases r1;have main:∀{H2:Hp} {o:Obj},Inv X pins σ H2 s1→H2 a=some (.bN o (.dK kvs))→R (iJ a o kvs) H2→wpAny (model X.prog X.w) X.A (pyIter (.ref a)) (vK X pins σ tg R) X.xe s1:=fun{H2 o} I2 eH q=>by
  obtain ⟨vs,r,hm⟩:=I2.xc eH;obtain ⟨_,_,sys,_⟩:=(show bH X.prog X.w H2 s1.heap a (.bN o (.dK kvs)) from I2.aA a _ eH);have lr:kvs.length=vs.length:=Paired.length r;refine wpAny_pyIter_dict sys hm ?_;refine ⟨s1.heap.objs.size,[s1.heap.objs.size],_,_,H2,rfl,I2.kept (t':=s1.toks) fun b o e=>a8 _ e,HX a _ o kvs,⟨_,bZ _ rfl,rfl,by rw [lr];rfl⟩,fun b hb=>?_,q⟩
  have e:b=s1.heap.objs.size:=by simpa using hb
  subst e;exact I2.pN (aC _) (I2.aA.fresh (aC _))
 rcases q with ⟨eH,q⟩ | ⟨o,eH,q⟩
 ·obtain ⟨hz,sys,vs,r,o,es,ep,g,c,d,rest⟩:=(show bH X.prog X.w H1 s1.heap a (.dK kvs) from I1.aA a _ eH)
  refine main (H2:=upd H1 a (.bN o (.dK kvs))) ?_ ax (q o);exact I1.write (t':=s1.toks) (x:=a) (e:=a) (by rw [eH];exact trivial) (.inl rfl) (fun b u _ e=>e) ⟨o,g⟩ ⟨g,hz,sys,vs,r,o,es,ep,g,c,d,rest⟩
 ·exact main I1 eH q
end
theorem xf:∀{us:List Value} {ns:List Int},IntsAre us ns→Vals (ns.map V.int) us
 | _,_,.nil=>.nil
 | _,_,.cons a u r=>.cons ⟨u,rfl⟩ (xf r)
def HZ:List V→Hp→VK→Prop:=fun xs H Q=>∃(a:Addr) (zs:List Int),xs=[.ref a]∧H a=some (.lst (zs.map V.int))∧zs.length<64∧∀(ws:List Int) (D:Addr),ws.Perm zs→ws.Pairwise (·≤·)→H D=none→Q (.ref D) (upd H D (.lst (ws.map V.int)))
theorem H_{X:Cx}:en X (.builtin "sorted") HZ:=by
 intro pins s σ H xs us Q I r h;obtain ⟨a,zs,rfl,ha,qv,k⟩:=h;obtain ⟨u,rfl,ru⟩:=vals1 r;cases ru;obtain ⟨ak,rv,pl,hz⟩:=I.list (.of ha);have hl:=rv.length;rw [ba] at hl;refine sorted_ints pl.isList (intsAre_of rv) (by omega) fun out gz a1 a2 a3=>?_
 obtain ⟨e,he⟩:=sortedAll_at s.heap ak out;refine ⟨.ref (s.heap.objs.size+1),_,I.laid (t':=s.toks) (o:=.lst (gz.map .int)) (fun _ _=>sortedAll_old) (Nat.le_succ _) ⟨?_,out.toList,e,xf a1,?_⟩,rfl,k gz _ a2 a3 (I.aA.fresh (Nat.le_succ _))⟩
 ·rw [ba,a2.length_eq]
  rw [jG];omega
 ·simpa using he
end L2
namespace My
open PySem L2
def dk(ks:List Nat):List (Key×V):=ks.map fun k:Nat=>((Sum.inl (k:Int):Key),V.bl true)
def dF(ks:List Nat)(k:Nat):List Nat:=if k∈ks then ks else ks++[k]
theorem AQ{a b:Nat}:((Sum.inl (a:Int):Key)=Sum.inl (b:Int))↔a=b:=by
 constructor
 ·intro h
  have:=Sum.inl.inj h;omega
 ·rintro rfl;rfl
theorem Ia(ks:List Nat):(dk ks).length=ks.length:=ba _
theorem Ib(ks:List Nat)(k:Nat):((dk ks).any fun kv=>decide (kv.1=(Sum.inl (k:Int):Key)))=decide (k∈ks):=by
 rw [oU,List.any_eq_true,jN];constructor
 ·rintro ⟨kv,h1,h2⟩
  obtain ⟨j,hj,rfl⟩:=ik.mp h1;have:=AQ.mp (e_ h2);subst this;exact hj
 ·intro h
  exact ⟨_,ik.mpr ⟨k,h,rfl⟩,bg rfl⟩
theorem Ic(ks:List Nat)(k:Nat):putK (dk ks) (Sum.inl (k:Int):Key) (V.bl true)=dk (dF ks k):=by
 unfold putK dF;rw [Ib];by_cases h:k∈ks
 ·rw [aj (bg h),aj h]
  unfold dk;rw [o_];refine mP fun j _=>?_;show (if _ then _ else _)=_
  split <;> rfl
 ·rw [ae (by rw [jN];exact h),ae h]
  unfold dk;rw [iZ];rfl
theorem Ie(ks:List Nat)(k:Nat):fW (dk ks) (Sum.inl (k:Int):Key)=if k∈ks then some (V.bl true) else none:=by
 induction ks with
 | nil=>simp [dk,fW]
 | cons j r ih=>
  by_cases h:j=k
  ·subst h
   rw [aj (eZ ..)];exact tO rfl
  ·show fW ((Sum.inl (j:Int),V.bl true)::dk r) _=_
   rw [tP (fun e=>h (AQ.mp e)),ih];by_cases m:k∈r;·rw [aj m,aj (dN _ m)]
   ·rw [ae m,ae (fun x=>by rcases cE.mp x with e | e;exact h e.symm;exact m e)]
variable {ks:List Nat} {k j:Nat}
theorem xg:j∈dF ks k↔j∈ks∨j=k:=by
 unfold dF;by_cases h:k∈ks
 ·rw [aj h]
  constructor;·exact .inl
  ·rintro (e | rfl)
   ·exact e
   ·exact h
 ·rw [ae h,d8,e9]
theorem Ig(h:ks.Nodup):(dF ks k).Nodup:=by
 unfold dF;by_cases m:k∈ks;·rw [aj m];exact h
 ·rw [ae m]
  refine List.nodup_append.mpr ⟨h,(by simp),fun a ha b hb=>?_⟩
  rw [e9] at hb;subst hb;rintro rfl;exact m ha
def gG(n:Nat)(ks:List Nat):Prop:=ks.Nodup∧∀k∈ks,k<n
theorem gG.nil(n:Nat):gG n []:=⟨ph,fun _ h=>by cases h⟩
variable {n:Nat}
theorem gG.add(h:gG n ks)(hk:k<n):gG n (dF ks k):=⟨Ig h.1,fun j hj=>by
 rcases xg.mp hj with e | rfl;·exact h.2 j e
 ·exact hk⟩
theorem AR:∀{n:Nat} {ks:List Nat},ks.Nodup→(∀k∈ks,k<n)→ks.length≤n
 | 0,ks,_,h=>by
  cases ks with
  | nil=>exact aC _
  | cons a r=>exact absurd (h a (eZ ..)) (Nat.not_lt_zero _)
 | n+1,ks,nd,h=>by
  have e:=AR (n:=n) (ks:=ks.erase n) (nd.erase n) (fun k hk=>by have m:=(List.Nodup.mem_erase_iff nd).mp hk;have:=h k m.2;have:=m.1;omega)
  by_cases hm:n∈ks
  ·have:=List.length_erase_of_mem hm
   omega
  ·rw [List.erase_of_not_mem hm] at e
   omega
theorem gG.len(h:gG n ks):ks.length≤n:=AR h.1 h.2
structure iK (H:Hp) (D:Addr) (n:Nat) (ds:Nat→Addr) (un:Nat→Prop) (f:Nat→List Nat):Prop where
 lst:H D=some (.lst ((List.range n).map fun i=>V.ref (ds i)))
 inj:∀i j,i<n→j<n→ds i=ds j→i=j
 ne:∀i,i<n→ds i≠D
 at':∀i,i<n→un i→H (ds i)=some (.dK (dk (f i)))
 pl:∀i,i<n→gG n (f i)
def fX(f:Nat→List Nat)(i:Nat)(ks:List Nat):Nat→List Nat:=fun j=>if j=i then ks else f j
variable {H:Hp} {D:Addr} {ds:Nat→Addr} {f:Nat→List Nat} {i:Nat}
theorem iK.put{un:Nat→Prop}(h:iK H D n ds un f)(hi:i<n)(hj:j<n)(ui:un i)(hn:n≤1000) :
  w_ H (ds i) (.int (j:Int)) (.bl true) (upd H (ds i) (.dK (dk (dF (f i) j))))∧iK (upd H (ds i) (.dK (dk (dF (f i) j)))) D n ds un (fX f i (dF (f i) j)):=by
 refine ⟨.inl ⟨dk (f i),Sum.inl (j:Int),h.at' i hi ui,rfl,?_,by rw [Ic]⟩,?_,h.inj,h.ne,fun k hk uk=>?_,fun k hk=>?_⟩
 ·rw [Ia]
  have:=(h.pl i hi).len;exact mM this (mM hn (by rw [jG];decide))
 ·rw [bf (fG (h.ne i hi))]
  exact h.lst
 ·unfold fX
  by_cases e:k=i
  ·subst e
   rw [aj rfl,ax]
  ·rw [ae e,bf (fun z=>e (h.inj k i hk hi z))]
   exact h.at' k hk uk
 ·unfold fX
  by_cases e:k=i;·rw [aj e];exact (h.pl i hi).add hj
  ·rw [ae e];exact h.pl k hk
theorem iK.ix{un:Nat→Prop}(h:iK H D n ds un f)(hi:i<n):fh ((List.range n).map fun i=>V.ref (ds i)) (i:Int)=some (V.ref (ds i)):=
 nj (by rw [dj,List.getElem?_range hi];rfl)
def tQ(n:Nat)(L:aK):Prop:=∀p∈L,0≤p.1∧p.1<(n:Int)∧0≤p.2∧p.2<(n:Int)
def ju(n:Nat)(L:aK)(f:Nat→List Nat):Prop:=∀i j:Nat,i<n→(j∈f i↔((i:Int),(j:Int))∈L∨((j:Int),(i:Int))∈L)
theorem ju.nil(n:Nat):ju n [] (fun _=>[]):=fun i j _=>by simp
theorem ju.more{L:aK}(h:ju n L f)(hi:i<n)(hj:j<n):ju n (L++[((i:Int),(j:Int))]) (fX (fX f i (dF (f i) j)) j (dF (fX f i (dF (f i) j) j) i)):=fun a b ha=>by
 have e1:∀x y:Nat,y∈fX f i (dF (f i) j) x↔y∈f x∨(x=i∧y=j):=fun x y=>by
  unfold fX;by_cases e:x=i
  ·subst e
   rw [aj rfl,xg];simp
  ·rw [ae e]
   simp [e]
 have e2:b∈fX (fX f i (dF (f i) j)) j (dF (fX f i (dF (f i) j) j) i) a↔b∈fX f i (dF (f i) j) a∨(a=j∧b=i):=by
  unfold fX;by_cases e:a=j
  ·subst e
   rw [aj rfl,xg];simp
  ·rw [ae e]
   simp [e]
 rw [e2,e1,h a b ha];simp only [d8,e9,Prod.mk.injEq];constructor
 ·rintro ((e | e) | ⟨rfl,rfl⟩)
  ·rcases e with e | e
   ·exact .inl (.inl e)
   ·exact .inr (.inl e)
  ·exact .inl (.inr ⟨by omega,by omega⟩)
  ·exact .inr (.inr ⟨rfl,rfl⟩)
 ·rintro ((e | ⟨e1,e2⟩) | (e | ⟨e1,e2⟩))
  ·exact .inl (.inl (.inl e))
  ·exact .inl (.inr ⟨by omega,by omega⟩)
  ·exact .inl (.inl (.inr e))
  ·exact .inr ⟨by omega,by omega⟩
def Ih:Sp:=fun vs H Q _=>∃(t:Addr) (n:Nat) (L:aK),vs=[.ref t]∧fB H t n L∧tQ n L∧n≤1000 ∧
 ∀(H':Hp) (D:Addr) (ds:Nat→Addr) (f:Nat→List Nat),ai H H'→H D=none→(∀i,i<n→H (ds i)=none)→iK H' D n ds (fun _=>True) f→ju n L f→Q (.ref D) H'
end My
namespace L2
open PySem PySem.Spec PyProof.Rows
end L2
namespace My
open PySem L2
variable {a:Addr}
theorem Ii{o:Obj}{kvs:List (Key×V)}{H1:Hp}(h:H1 a=some (.bN o (.dK kvs))):kg (iJ a o kvs) (kvs.map fun kv=>kV kv.1) H1 where
 go:=fun i Hc s hi=>⟨s _ _ h,by simpa using hi⟩
 c5:=fun i Hc x H' s y=>⟨y.1,fun _=>by obtain ⟨kv,e,rfl⟩:=y.2;rw [dj,e];rfl⟩
 stop:=fun i Hc s hi=>⟨s _ _ h,by simpa using hi⟩
theorem Ij(ks:List Nat):(dk ks).map (fun kv=>kV kv.1)=ks.map fun k:Nat=>V.int (k:Int):=by unfold dk;rw [o_];rfl
theorem Ik(ks:List Nat):(List.range ks.length).map (fun i=>ks.getD i 0)=ks:=by
 refine o4 (by simp) fun i h1 h2=>?_
 simp [jJ,h2]
theorem Il(ks:List Nat)(pr:Nat→Bool):((List.range ks.length).filter fun i=>pr (ks.getD i 0)).map (fun i=>ks.getD i 0)=ks.filter pr:=by have e:=List.filter_map (f:=fun i=>ks.getD i 0) (l:=List.range ks.length) (p:=pr);rw [Ik] at e;exact e.symm
variable {ρ:St→St} {tt:TT} {te:TE} {σ:St} {H:Hp} {Q:VK}
theorem Im{ks:List Nat}{ob:Obj}(h:H a=some (.bN ob (.dK (dk ks))))(pr:Nat→Bool)(hl:ks.length<sizeLine)
  (test:∀k∈ks,∀(Hc:Hp) (R:Bool→Hp→Prop),ai H Hc→R (pr k) Hc→tt (some (.int (k:Int))::ρ σ) Hc R)
  (step:∀k∈ks,∀(Hc:Hp) (R:VK),R (.int (k:Int)) Hc→te (some (.int (k:Int))::ρ σ) Hc R)
  (fin:∀D Hc,H D=none→ai H Hc→Hc D=some (.lst ((ks.filter pr).map fun k:Nat=>V.int (k:Int)))→Q (.ref D) Hc):gY (fun _ H R=>R (iJ a ob (dk ks)) H) ρ tt te σ H Q:=by
 have at':∀{i:Nat} {x:V},(ks.map fun k:Nat=>V.int (k:Int))[i]?=some x→i<ks.length∧x=.int ((ks.getD i 0:Nat):Int)∧ks.getD i 0∈ks:=fun{i x} hx=>by
  have hi:i<ks.length:=by have:=(cg.mp hx).1;simpa using this
  rw [dj] at hx;simp [hi] at hx;rw [getD_at hi];exact ⟨hi,hx.symm,dw hi⟩
 refine HJ (xs:=ks.map fun k:Nat=>V.int (k:Int)) (fun i=>pr (ks.getD i 0)) (fun R k=>k _ (by rw [←Ij];exact Ii h)) (by rw [ba];exact hl) (fun _ i y _=>y=.int ((ks.getD i 0:Nat):Int)) (fun _ _ _ _ _ _ h _ _=>h) ?_ ?_ ?_
 ·intro i x hx Hc R sc hR
  obtain ⟨_,rfl,m⟩:=at' hx;exact test _ m Hc R sc hR
 ·intro D i x hx Hc R sc _ kc
  obtain ⟨_,rfl,m⟩:=at' hx;exact step _ m Hc R (kc _ Hc (ai.refl _) rfl)
 ·intro D ys Hc nD sc ly hP eD
  refine fin D Hc nD sc ?_;rw [eD,←Il ks pr,o_];rw [ba] at ly hP
  congr 2
  refine o4 (by simpa using ly) fun k h1 h2=>?_
  have h3:k<((List.range ks.length).filter fun i=>pr (ks.getD i 0)).length:=by simpa using h2
  rw [rC];exact hP k _ _ (bX h1) (bX h3)
theorem xh{n:Nat}{g:Nat→V}{p:Nat}(h:p<n):fh ((List.range n).map g) (p:Int)=some (g p):=nj (by rw [dj,List.getElem?_range h];rfl)
theorem Io{wi:TI}(h:wi σ H fun J H1=>gY (fun _ H R=>R J H) ρ tt te σ H1 Q):gY wi ρ tt te σ H Q:=h
end My
namespace L2
open PySem PySem.Spec PyProof.Rows
section
variable {X:Cx} {pins:aL} {σ:St} {H:Hp} {s:Shared}
end
end L2
namespace My
open PySem L2
theorem aT.app{H:Hp}{xs ys:List V}{M N:aK}(h:aT H xs M)(h':aT H ys N):aT H (xs++ys) (M++N):=by
 have l1:=h.1;have l2:=h'.1;refine ⟨by simp [l1,l2],fun k v p h1 h2=>?_⟩
 by_cases e:k<xs.length
 ·rw [eG e] at h1
  rw [eG (by omega)] at h2
  exact h.2 k v p h1 h2
 ·rw [dO (by omega)] at h1
  rw [dO (by omega),←l1] at h2
  exact h'.2 _ v p h1 h2
end My
namespace L2
open PySem PySem.Spec PyProof.Rows
end L2
namespace My
open PySem L2
end My
namespace L2
open PySem PySem.Spec PyProof.Rows
def Ip(K:aG):R2:=fun x y H Q=>∃a b xs ys,x=.ref a∧y=.ref b∧bx K H a xs∧bx K H b ys∧ys≠[]∧xs.length+ys.length≤sizeLine ∧
 (xs=[]→Q (.ref b) H)∧(xs≠[]→∀p,H p=none→Q (.ref p) (upd H p (.tup (xs++ys))))
theorem Iq{X:Cx}:bI X (binaryOp .Add) (Ip X.K):=by
 intro pins s σ H x y v u Q I rx ry h;by_cases hx:∃a b xs ys,x=.ref a∧y=.ref b∧bx X.K H a xs∧bx X.K H b ys∧xs=[]∧Q (.ref b) H
 ·obtain ⟨a,b,xs,ys,rfl,rfl,ha,hb,rfl,q⟩:=hx
  cases rx;cases ry;obtain ⟨ak,r1,p1,_⟩:=I.tuple ha;obtain ⟨fR,r2,p2,_⟩:=I.tuple hb;have e0:ak=[]:=r1.sM.mpr rfl;subst e0;obtain ⟨⟨cls,dd,data,sl⟩,ho,hc,n,hd⟩:=id p1;obtain ⟨⟨zu,j4,data2,fP⟩,iC,j6,n2,hd2⟩:=id p2;simp only at hc hd j6 hd2;subst hc hd j6 hd2
  exact concat_meets ⟨_,ho,rfl⟩ ⟨_,iC,rfl⟩ noFill_tuple_add seq_tuple_add vc vd (ve _ _)
   (tuple_addW0 a b _ fR.toArray n n2 dd j4 sl fP (by simp)) ⟨ho,iC,⟨.ref b,H,I,rfl,q⟩⟩
 ·obtain ⟨a,b,xs,ys,rfl,rfl,ha,hb,hy,hz,q1,q2⟩:=h
  have ne:xs≠[]:=fun z=>hx ⟨a,b,xs,ys,rfl,rfl,ha,hb,z,q1 z⟩;exact pY pins s σ H _ _ v u Q I rx ry ⟨a,b,xs,ys,rfl,rfl,ha,hb,ne,hz,fun z=>absurd z hy,fun _=>q2 ne⟩
end L2
namespace My
open PySem L2
end My
namespace L2
open PySem PySem.Spec PyProof.Rows
end L2
namespace My
open PySem L2
end My
namespace L2
open PySem PySem.Spec PyProof.Rows
end L2
namespace My
open PySem L2
variable {n:Nat} {Ir:Nat→Nat→Prop} {Iu:Nat→Prop} {s:Nat}
end My
namespace L2
open PySem PySem.Spec PyProof.Rows
end L2
namespace My
open PySem L2
structure tR (H:Hp) (D:Addr) (n:Nat) (ds:Nat→Addr) (f:Nat→List Nat):Prop where
 lst:H D=some (.lst ((List.range n).map fun i=>V.ref (ds i)))
 at':∀i,i<n→H (ds i)=some (.dK (dk (f i)))∨∃ob,H (ds i)=some (.bN ob (.dK (dk (f i))))
variable {H:Hp}
theorem iK.fr{D:Addr}{n:Nat}{ds:Nat→Addr}{f:Nat→List Nat}(h:iK H D n ds (fun _=>True) f):tR H D n ds f:=⟨h.lst,fun i hi=>.inl (h.at' i hi trivial)⟩
variable {a:Addr} {kvs:List (Key×V)} {R:It→Hp→Prop}
theorem Iv(h:H a=some (.dK kvs)∨∃ob,H a=some (.bN ob (.dK kvs)))(k:∀(ob:Obj) (Hf:Hp),Hf a=some (.bN ob (.dK kvs))→(∀b u,b≠a→H b=some u→Hf b=some u)→R (iJ a ob kvs) Hf) :
  (H a=some (.dK kvs)∧∀o,R (iJ a o kvs) (upd H a (.bN o (.dK kvs))))∨∃o,H a=some (.bN o (.dK kvs))∧R (iJ a o kvs) H:=by
 rcases h with e | ⟨ob,e⟩;·exact .inl ⟨e,fun o=>k o _ ax fun b u ne hb=>by rw [bf ne];exact hb⟩
 ·exact .inr ⟨ob,e,k ob H e fun _ _ _ h=>h⟩
theorem Iw{tl:TE}{σ:St}(hp:∀Q:VK,Q (.ref a) H→tl σ H Q)(h:H a=some (.dK kvs)∨∃ob,H a=some (.bN ob (.dK kvs)))(k:∀(ob:Obj) (Hf:Hp),Hf a=some (.bN ob (.dK kvs))→(∀b u,b≠a→H b=some u→Hf b=some u)→R (iJ a ob kvs) Hf):AO tl σ H R:=hp _ ⟨a,kvs,rfl,Iv h k⟩
end My
namespace L2
open PySem PySem.Spec PyProof.Rows
end L2
namespace My
open PySem L2
theorem Iy{X:Cx}{pins:aL}{σ:St}{H:Hp}{s:Shared}(I:Inv X pins σ H s){A:Around}(hu:A.units<cLine){p q:Addr}{x y:Int×Int}(e:H p=some (.tup [.int x.1,.int x.2]))(e':H q=some (.tup [.int y.1,.int y.2])):SeqAt.EqAt A s (.ref p) (.ref q) (decide (x=y)):=by
 by_cases pq:p=q
 ·subst pq
  rw [e] at e';cases x;cases y;simp only [Option.some.injEq,HO.tup.injEq,List.cons.injEq,V.int.injEq,and_true] at e';rw [bg (Prod.ext e'.1 e'.2)];exact SeqAt.EqAt.same _
 obtain ⟨us,r1,t1,_⟩:=I.tuple (.of e);obtain ⟨vs,r2,t2,_⟩:=I.tuple (.of e');obtain ⟨a1,a2,rfl,Iz,IA⟩:=vals2 r1;obtain ⟨b1,b2,rfl,IC,ID⟩:=vals2 r2;have z:=SeqAt.RcAt.tuples (A:=A) (e:=fun j=>if j=0 then iD (.int x.1) (.int y.1) else iD (.int x.2) (.int y.2)) t1 t2 hu (fun j z1 z2=>by
  have:j<2:=z1
  match j with
  | 0=>exact v8 Iz IC rfl rfl
  | 1=>exact v8 IA ID rfl rfl)
 have ec:decide (x=y)=((List.range (min ([a1,a2]:List Value).toArray.size ([b1,b2]:List Value).toArray.size)).all (fun j=>if j=0 then iD (.int x.1) (.int y.1) else iD (.int x.2) (.int y.2)) && ([a1,a2]:List Value).toArray.size == ([b1,b2]:List Value).toArray.size):=by cases x;cases y;simp only [Prod.mk.injEq];show _=((List.range 2).all _ && true);simp [jK,iD];rfl
 rw [ec];exact SeqAt.EqAt.of_refs pq z
end My
namespace L2
open PySem PySem.Spec PyProof.Rows My
end L2
namespace My
open PySem L2
end My
namespace L2
open PySem PySem.Spec PyProof.Rows My
end L2
namespace My
open PySem L2
theorem IE{xs:List V}{v:V}(h1:1≤xs.length)(h:xs[xs.length-1]?=some v):fh xs (-1)=some v:=by
 unfold fh;have e:je xs.length (-1)=some (xs.length-1):=by
  unfold je
  split
  ·rename_i hh;omega
  ·split
   ·congr 1
    omega
   ·rename_i h2 h3
    omega
 rw [e];exact h
section
variable {Ir:Nat→Nat→Prop} {Iu OJ:Nat→Prop} {s t:Nat}
end
end My
namespace L2
open PySem PySem.Spec PyProof.Rows
section
variable {X:Cx} {a b:Expr} {rest:List Expr} {pos:Pos} {ta tb:TE}
end
end L2
namespace My
open PySem L2
theorem AS(xs:List V)(k:Nat):cM xs (some (k:Int)) none=xs.drop k:=by
 unfold cM;rw [HT.zA,HT.zw];by_cases h:k≤xs.length
 ·rw [Nat.min_eq_left h]
  exact List.take_of_length_le (by rw [jH];omega)
 ·rw [Nat.min_eq_right (by omega),List.drop_of_length_le (aC _),List.drop_of_length_le (by omega),List.take_nil]
end My
namespace L2
open PySem PySem.Spec PyProof.Rows
section
variable {prog:Program} {w:World} {A:Around} {E:aF} {s:Shared}
variable {k:Nat} {Q:aF}
theorem AU{j t:Addr}{ak:Array Value}(g:s.heap.IsTupleIter j t k)(b:s.heap.IsTuple t ak)
  (ok:∀x,ak[k]?=some x→∀h',h'.IsTupleIter j t (k+1)→Heap.SameBut j s.heap h'→Q x {s with heap:=h'})
  (no:ak[k]?=none→A.handled=none∧∀h' e,Heap.ExtBut j s.heap h'→(∃o,h'.get? e=some o∧o.cls=.type "StopIteration")→E (.ref e) {s with heap:=h'}):wpAny (model prog w) A (Builtin.SmallTypes.nextOf (.ref j)) Q E s:=by
 obtain ⟨o,a1,a2,a3⟩:=id g;obtain ⟨p,b1,_,m,b2⟩:=b;unfold Builtin.SmallTypes.nextOf;refine ao (kE (name:=Str.ofString "__next__") g.typeIs F.slot_tuple_iterator_next (ie F.slot_tuple_iterator_next g.typeIs F.entry_tuple_iterator_next ?_ (F.args_tuple_iterator_next_1 _)));show wpAny _ _ (field (.ref j) 0 >>= _) _ _ s;refine ao (iY a1 a3 (x:=.ref t) rfl ?_);show wpAny _ _ (if (Value.ref t == Value.none)=true then _ else _) _ _ s;rw [ae (show ¬((Value.ref t == Value.none)=true) from bW)]
 show wpAny _ _ (field (.ref j) 1 >>= _) _ _ s;refine ao (iY a1 a3 (x:=.int k 0) rfl ?_);show wpAny _ _ (seqItems? (.ref t) >>= _) _ _ s;refine ao (pA b1 b2 ?_);cases z:ak[k]? with
 | some x=>simp only [cZ,z];refine ao (wpAny_setField a1 a3 (by simp) (aH ⟨x,rfl,aH (ok x z _ ⟨_,oX _ a1 (Obj.isFreed_of_fields (rE a3 _)),(Obj.cls_mapFields ..).trans a2,by rw [rE a3];simp [rawInt]⟩ (rF ..))⟩))
 | none=>
  obtain ⟨hh,fin⟩:=no z;simp only [cZ,z];refine ao (gP (ao (wpAny_setField a1 a3 (by simp) ?_)))
  show wpAny _ _ (newExc (.type "StopIteration") [] >>= _) _ _ _;refine ao ?_;simp only [newExc,newTuple];refine ao (fI (ao (m:=firstArgMember _ _) (wpAny_of_eq (a:=Value.none) (by first | rfl | (simp only [firstArgMember];rfl)) (fI ?_ (by size_fits)))) (by size_fits))
  simp only [raiseNew];refine ao (wpAny_handled ?_)
  first | rw [show A.in1.handled=none from hh] | rw [hh]
  exact ao (aH (wpAny_throw (fin _ _ (((rF ..).extBut.push _).push _) ⟨_,bZ _ rfl,rfl⟩)))
theorem AV{z TI TO i1 i2 l1 l2:Addr}{xs ys:Array Value}{a b:Value}(D:ZipApart z TI TO i1 i2 l1 l2)
  (hz:IsZip s.heap z TI TO .none) (hI:IsPair s.heap TI (.ref i1) (.ref i2)) (hO:IsPair s.heap TO a b) (g1:s.heap.IsTupleIter i1 l1 k) (g2:s.heap.IsTupleIter i2 l2 k) (t1:s.heap.IsTuple l1 xs) (t2:s.heap.IsTuple l2 ys)
  (ok:∀x y,xs[k]?=some x→ys[k]?=some y→∀h',IsZip h' z TI TO (rawInt s.heap.objs.size)→IsPair h' TO x y→h'.IsTupleIter i1 l1 (k+1)→h'.IsTupleIter i2 l2 (k+1)→IsPair h' s.heap.objs.size x y→
   (∀c o,c≠z→c≠TO→c≠i1→c≠i2→s.heap.get? c=some o→h'.get? c=some o)→Q (.ref s.heap.objs.size) {s with heap:=h'})
  (no:xs[k]?=none∨ys[k]?=none→A.handled=none∧∀h' e,(∀c o,c≠z→c≠TO→c≠i1→c≠i2→s.heap.get? c=some o→h'.get? c=some o)→(∃o,h'.get? e=some o∧o.cls=.type "StopIteration")→E (.ref e) {s with heap:=h'}) :
  wpAny (model prog w) A (Builtin.«zip.__next__» ⟨[.ref z],[]⟩) (fun fin s'=>∃v,fin=.done (.ret v)∧Q v s') E s:=by
 show wpAny _ _ (field (.ref z) 2 >>= _) _ _ _;refine ao (iY hz rfl (x:=.bool false) rfl ?_);show wpAny _ _ (field (.ref z) 3 >>= _) _ _ _;refine ao (iY hz rfl (x:=.ref TI) rfl (ao (pA hI rfl ?_)));show wpAny _ _ (Builtin.SmallTypes.ownedTupleIsFree (.ref z) >>= _) _ _ _;refine ao ?_;unfold Builtin.SmallTypes.ownedTupleIsFree;refine ao (iY hz rfl (x:=.none) rfl (aH ?_));simp only [if_true];refine ao (gP (ao (iY hz rfl (x:=.ref TO) rfl (ao (pC hz (by simp) fun ha za sa=>?_)))))
 replace za:IsZip ha z TI TO .ellipsis:=za
 refine ao ?_;simp only [List.zipIdx_cons,List.zipIdx_nil,List.forIn_cons,List.forIn_nil];refine ao (ao (wpAny_onRaise ?_));show wpAny _ _ (Builtin.SmallTypes.nextOf (.ref i1) >>= _) _ _ _;refine ao (AU (g1.extBut sa.extBut D.i1z) (t1.extBut sa.extBut D.l1z) (fun x hx hb gb sb=>aH ?_) fun hx=>⟨(no (.inl hx)).1,fun hb e eb ⟨oe,e1,e2⟩=>?_⟩)
 ·have Ob:IsPair hb TO a b:=sb.extBut _ _ D.TOi1 (sa.extBut _ _ D.TOz hO)
  refine ao (pA Ob rfl (ao (wpAny_updateSeq_pair Ob fun hc Oc sc=>?_)))
  replace Oc:IsPair hc TO x b:=Oc
  refine ao (wpAny_letGo (aH ?_));refine ao (ao (wpAny_onRaise ?_));show wpAny _ _ (Builtin.SmallTypes.nextOf (.ref i2) >>= _) _ _ _;refine ao (AU (((g2.extBut sa.extBut D.i2z).extBut sb.extBut D.i12.symm).extBut sc.extBut D.TOi2.symm) (((t2.extBut sa.extBut D.l2z).extBut sb.extBut D.l2i1).extBut sc.extBut D.l2TO) (fun y hy hd gd sd=>aH ?_) fun hy=>⟨(no (.inr hy)).1,fun hd e ed ⟨oe,e1,e2⟩=>?_⟩)
  ·have Od:IsPair hd TO x b:=sd.extBut _ _ D.TOi2 Oc
   refine ao (pA Od rfl (ao (wpAny_updateSeq_pair Od fun he Oe se=>?_)))
   replace Oe:IsPair he TO x y:=Oe
   refine ao (wpAny_letGo (aH (aH (ao (pA Oe rfl (ao (wpAny_newTuple ?_)))))));have sz:he.objs.size=s.heap.objs.size:=by rw [se.1,sd.1,sc.1,sb.1,sa.1]
   have ze:IsZip he z TI TO .ellipsis:=se.extBut _ _ D.TOz.symm (sd.extBut _ _ D.i2z.symm (sc.extBut _ _ D.TOz.symm (sb.extBut _ _ D.i1z.symm za)));have kp:∀c o,c≠z→c≠TO→c≠i1→c≠i2→s.heap.get? c=some o→he.get? c=some o:=fun c o c1 c2 c3 c4 e=>se.extBut _ _ c2 (sd.extBut _ _ c4 (sc.extBut _ _ c2 (sb.extBut _ _ c3 (sa.extBut _ _ c1 e))));have ge1:he.IsTupleIter i1 l1 (k+1):=((gb.extBut sc.extBut D.TOi1.symm).extBut sd.extBut D.i12).extBut se.extBut D.TOi1.symm;have IF:he.IsTupleIter i2 l2 (k+1):=gd.extBut se.extBut D.TOi2.symm;have zl:z<he.objs.size:=a0 ze;show wpAny _ _ (Builtin.SmallTypes.ownedTupleHandOut (.ref z) (.ref he.objs.size) >>= _) _ _ _;refine ao ?_;unfold Builtin.SmallTypes.ownedTupleHandOut;have zf:IsZip (he.push {cls:=.type "tuple",data:=.seq #[x,y]}) z TI TO .ellipsis:=a8 _ ze;refine ao (pC zf (by simp) fun hg zg sg=>?_)
   replace zg:IsZip hg z TI TO (rawInt he.objs.size):=zg
   refine pC zg (by simp) fun hm zm sm=>?_
   replace zm:IsZip hm z TI TO (rawInt he.objs.size):=zm
   have up:∀c o,c≠z→he.get? c=some o→hm.get? c=some o:=fun c o c1 e=>sm.extBut _ _ c1 (sg.extBut _ _ c1 (a8 _ e));have Tm:IsPair hm he.objs.size x y:=sm.extBut _ _ (Nat.ne_of_gt zl) (sg.extBut _ _ (Nat.ne_of_gt zl) (bZ _ rfl));rw [sz] at zm Tm;refine aH ⟨_,rfl,?_⟩;show Q (.ref he.objs.size) _;rw [sz];exact ok x y hx hy hm zm (up _ _ D.TOz Oe) (ge1.extBut (fun c o c1 e=>up c o c1 e) D.i1z) (IF.extBut (fun c o c1 e=>up c o c1 e) D.i2z) Tm fun c o c1 c2 c3 c4 e=>up c o c1 (kp c o c1 c2 c3 c4 e)
  ·have zd:IsZip hd z TI TO .ellipsis:=ed _ _ D.i2z.symm (sc.extBut _ _ D.TOz.symm (sb.extBut _ _ D.i1z.symm za))
   have ez:e≠z:=fun q=>by subst q;rw [zd] at e1;cases e1;simp at e2
   exact pC zd (by simp) fun he _ se=>(no (.inr hy)).2 he e (fun c o c1 c2 c3 c4 q=>se.extBut _ _ c1 (ed _ _ c4 (sc.extBut _ _ c2 (sb.extBut _ _ c3 (sa.extBut _ _ c1 q))))) ⟨oe,se.extBut _ _ ez e1,e2⟩
 ·have zb:IsZip hb z TI TO .ellipsis:=eb _ _ D.i1z.symm za
  have ez:e≠z:=fun q=>by subst q;rw [zb] at e1;cases e1;simp at e2
  exact pC zb (by simp) fun hc _ sc=>(no (.inl hx)).2 hc e (fun c o c1 _ c3 _ q=>sc.extBut _ _ c1 (eb _ _ c3 (sa.extBut _ _ c1 q))) ⟨oe,sc.extBut _ _ ez e1,e2⟩
end
abbrev df (h:Heap) (l:Addr):Heap:=h.push {cls:=.type "tuple_iterator",data:=.fields #[.ref l,.int 0 0]}
abbrev tS (h:Heap) (l m:Addr):Heap:=((df (df h l) m).push {cls:=.type "tuple",data:=.seq #[.ref h.objs.size,.ref (df h l).objs.size]}).push {cls:=.type "tuple",data:=.seq #[.none,.none]}
abbrev nI (h:Heap) (l m:Addr):Heap:=(tS h l m).push {cls:=.type "zip",data:=.fields #[.none,.bool false,.bool false,.ref (df (df h l) m).objs.size,.ref ((df (df h l) m).push {cls:=.type "tuple",data:=.seq #[.ref h.objs.size,.ref (df h l).objs.size]}).objs.size]}
theorem IG(l m:Addr)(xs ys:Array Value):Meets (Builtin.«zip.__new__» ⟨[.type "zip",.ref l,.ref m],[]⟩) (fun _ R s=>s.heap.IsTuple l xs∧s.heap.IsTuple m ys∧R (.ok (.ret (.ref (tS s.heap l m).objs.size))) {s with heap:=nI s.heap l m}):=
 .of_wp fun prog w A R s h=>by
  obtain ⟨hp,g,d,tk,os⟩:=s;obtain ⟨a1,a2,h⟩:=h;have OK:=sub_zip;have b1:Heap.IsTuple (Shared.heap ⟨hp,g,d,tk,os⟩) l xs:=a1;have b2:Heap.IsTuple (Shared.heap ⟨hp.push {cls:=.type "tuple_iterator",data:=.fields #[.ref l,.int 0 0]},g,d,tk,os⟩) m ys:=Heap.IsTuple.push a2 _
  wp_walk using wpAny_pyIter_tuple b1,wpAny_pyIter_tuple b2
  exact ⟨_,rfl,h⟩
section
variable {prog:Program} {w:World} {A:Around} {E:aF} {s:Shared}
theorem IH{l m:Addr}{xs ys:Array Value}{Q:aF}(a1:s.heap.IsTuple l xs)(a2:s.heap.IsTuple m ys)
  (k:∀h',IsZip h' (s.heap.objs.size+4) (s.heap.objs.size+2) (s.heap.objs.size+3) .none→IsPair h' (s.heap.objs.size+2) (.ref s.heap.objs.size) (.ref (s.heap.objs.size+1))→IsPair h' (s.heap.objs.size+3) .none .none→
   h'.IsTupleIter s.heap.objs.size l 0→h'.IsTupleIter (s.heap.objs.size+1) m 0→(∀c o,s.heap.get? c=some o→h'.get? c=some o)→Q (.ref (s.heap.objs.size+4)) {s with heap:=h'}) :
  wpAny (model prog w) A (call (.type "zip") [.ref l,.ref m]) Q E s:=by
 refine callType_new F.called_zip (by decide) (F.typeCall_zip_2 _ _) (F.newCall_zip_2 _ _) (fun obj=>F.args_object_init_3 obj _ _) F.entry_zip_new (IG l m xs ys) ⟨a1,a2,?_⟩
 have z1:(df s.heap l).objs.size=s.heap.objs.size+1:=Heap.size_push ..;have z2:(df (df s.heap l) m).objs.size=s.heap.objs.size+2:=by rw [Heap.size_push,z1]
 have z3:((df (df s.heap l) m).push {cls:=.type "tuple",data:=.seq #[.ref s.heap.objs.size,.ref (df s.heap l).objs.size]}).objs.size=s.heap.objs.size+3:=by rw [Heap.size_push,z2]
 have z4:(tS s.heap l m).objs.size=s.heap.objs.size+4:=by rw [Heap.size_push,z3]
 have f5:(nI s.heap l m).get? (tS s.heap l m).objs.size=some _:=bZ _ rfl;have f4:(nI s.heap l m).get? ((df (df s.heap l) m).push {cls:=.type "tuple",data:=.seq #[.ref s.heap.objs.size,.ref (df s.heap l).objs.size]}).objs.size=some _:=a8 _ (bZ _ rfl);have f3:(nI s.heap l m).get? (df (df s.heap l) m).objs.size=some _:=a8 _ (a8 _ (bZ _ rfl));have f2:(nI s.heap l m).get? (df s.heap l).objs.size=some _:=a8 _ (a8 _ (a8 _ (bZ _ rfl)));have f1:(nI s.heap l m).get? s.heap.objs.size=some _:=a8 _ (a8 _ (a8 _ (a8 _ (bZ _ rfl))));show _∧_;rw [z2,z3,z4] at f5;rw [z1,z2] at f3;rw [z3] at f4;rw [z1] at f2;rw [z4];exact ⟨⟨_,f5,rfl⟩,k _ f5 f3 f4 ⟨_,f1,rfl,rfl⟩ ⟨_,f2,rfl,rfl⟩ fun c o x=>a8 _ (a8 _ (a8 _ (a8 _ (a8 _ x))))⟩
end
def xi(K:aG)(l1 l2:Addr):It:=
  ⟨fun i H=>∃xs ys x y,bx K H l1 xs∧bx K H l2 ys∧xs[i]?=some x∧ys[i]?=some y,
   fun i H v H'=>∃T x y,H T=none∧v=.ref T∧H'=upd H T (.tup [x,y])∧∀xs ys,bx K H l1 xs→bx K H l2 ys→xs[i]?=some x∧ys[i]?=some y,
   fun i H=>∃xs ys,bx K H l1 xs∧bx K H l2 ys∧(xs.length≤i∨ys.length≤i)⟩
theorem II{P:Program}{w:World}{K:aG}{elts:List Expr}{k:Nat}{pos:Pos}{z TI TO i1 i2 l1 l2:Addr}(D:ZipApart z TI TO i1 i2 l1 l2):Turn P w K (.Tuple elts k pos) (xi K l1 l2) [z,TI,TO,i1,i2] z
  (fun i h=>IsZip h z TI TO .none∧IsPair h TI (.ref i1) (.ref i2)∧(∃a b,IsPair h TO a b)∧h.IsTupleIter i1 l1 i∧h.IsTupleIter i2 l2 i) where
 mem:=by simp
 obj:=fun i h st b hb=>by
  obtain ⟨hz,jv,⟨a,c,kn⟩,h1,h2⟩:=st;simp only [cE,kH,or_false] at hb;rcases hb with rfl | rfl | rfl | rfl | rfl;·exact ⟨_,hz,fun v z=>by cases z⟩
  ·exact ⟨_,jv,fun v z=>by cases z⟩
  ·exact ⟨_,kn,fun v z=>by cases z⟩
  ·obtain ⟨o,e,c,d⟩:=h1
   exact ⟨o,e,fun v z=>by rw [d] at z;cases z⟩
  ·obtain ⟨o,e,c,d⟩:=h2
   exact ⟨o,e,fun v z=>by rw [d] at z;cases z⟩
 keep:=fun i h h' st k=>by obtain ⟨hz,jv,⟨a,c,kn⟩,h1,h2⟩:=st;exact ⟨k _ (by simp) _ hz,k _ (by simp) _ jv,⟨a,c,k _ (by simp) _ kn⟩,h1.at fun o e=>k _ (by simp) o e,h2.at fun o e=>k _ (by simp) o e⟩
 item:=by
  intro X hP hw hK hc i pins s σ H E I hf st hg;subst hP hw hK;obtain ⟨hz,jv,⟨a,c,kn⟩,h1,h2⟩:=st;obtain ⟨xs,ys,x,y,nJ,jh,hx,hy⟩:=hg;obtain ⟨ak,rv,p,_⟩:=I.tuple nJ;obtain ⟨nK,tT,p',_⟩:=I.tuple jh;obtain ⟨u,hu,ru⟩:=rv.get hx;obtain ⟨u',IJ,IK⟩:=tT.get hy;have AW:ak.toArray[i]?=some u:=by simpa using hu
  have AX:nK.toArray[i]?=some u':=by simpa using IJ
  have hT:s.TypeIs (.ref z) "zip":=⟨_,hz,rfl⟩;unfold pyNext;refine ao (o5 (kE (name:=Str.ofString "__next__") hT rG (ie rG hT F.entry_zip_next (AV D hz jv kn h1 h2 (show s.heap.IsTuple l1 ak.toArray from p) (show s.heap.IsTuple l2 nK.toArray from p') (fun w1 w2 e1 e2 h' g1 g2 g3 g4 g5 g7=>aH ⟨_,rfl,?_⟩) fun q=>?_) (F.args_zip_next_1 _))))
  ·rw [AW] at e1
   rw [AX] at e2;cases e1;cases e2;refine wpAny_letOwnedTupleGo_zip g1 fun qy q1 sb=>?_;have AY:H s.heap.objs.size=none:=I.aA.fresh (aC _);have lt:∀b o,s.heap.get? b=some o→b≠s.heap.objs.size:=fun b o e=>bV (a0 e);have keep:∀b o,b∉[z,TI,TO,i1,i2]→s.heap.get? b=some o→qy.get? b=some o:=fun b o nb e=>by simp only [cE,kH,or_false,not_or] at nb;exact sb.extBut _ _ nb.1 (g7 b o nb.1 nb.2.2.1 nb.2.2.2.1 nb.2.2.2.2 e)
   have IL:z≠s.heap.objs.size:=lt _ _ hz;have pT:IsPair qy s.heap.objs.size u u':=sb.extBut _ _ IL.symm g5;have qz:∀{b:Addr} {o:HO} (e:H b=some o),upd H s.heap.objs.size (.tup [x,y]) b=some o:=fun e=>by rw [bf (gp e AY)];exact e
   have aA:bD X.prog X.w (upd H s.heap.objs.size (.tup [x,y])) qy:=fun b o e=>by
    by_cases hb:b=s.heap.objs.size
    ·subst hb
     rw [ax] at e;cases e;exact ⟨by show 2≤sizeLine;decide,[u,u'],.cons ru (.cons IK .nil),⟨_,pT,rfl,_,rfl⟩⟩
    ·rw [bf hb] at e
     refine (I.aA b o e).ir (fun c v gu q=>keep c v (fun m=>?_) q) (fun c q=>qz q) fun c xs q=>qz q;have nn:=(hf c m).1;rcases gu with rfl | gu;·rw [nn] at e;cases e
     ·rw [nn] at gu;cases gu
   have u1:Un (dS X.stack) [z,TI,TO,i1,i2] H (upd H s.heap.objs.size (.tup [x,y])) s.heap qy:=
    ⟨fun b o e n _ hx=>keep b o hx e,fun b o e n _ hx=>⟨o.slots,keep b o hx e⟩,fun b o e n hx=>by rw [bf (lt b o e)];exact n,fun b o e hx=>⟨o,keep b o hx e⟩,fun b xs e=>qz e,fun b o u e=>qz e,fun b ps e=>⟨#[],by rw [qz e];simp⟩⟩
   refine ⟨.ref s.heap.objs.size,upd H s.heap.objs.size (.tup [x,y]),I.m5 (s':={s with heap:=qy}) (ch:=[z,TI,TO,i1,i2]) rfl u1 aA I.bare (fun b hb=>?_),rfl,⟨_,x,y,AY,rfl,rfl,fun as bs ha hb=>⟨by rw [I.vF ha nJ];exact hx,by rw [I.vF hb jh];exact hy⟩⟩,?_,fun b hb=>?_⟩
   ·obtain ⟨f0,f1,f2,f3,f4,f5⟩:=hf b hb
    exact ⟨f3,f1,f4,f5⟩
   ·exact ⟨q1,sb.extBut _ _ D.TIz (g7 _ _ D.TIz D.TITO D.TIi1 D.TIi2 jv),⟨_,_,sb.extBut _ _ D.TOz g2⟩,g3.extBut sb.extBut D.i1z,g4.extBut sb.extBut D.i2z⟩
   ·have nb:b≠s.heap.objs.size:=by
     simp only [cE,kH,or_false] at hb;rcases hb with rfl | rfl | rfl | rfl | rfl;·exact lt _ _ hz
     ·exact lt _ _ jv
     ·exact lt _ _ kn
     ·obtain ⟨o,e,_⟩:=h1;exact lt _ _ e
     ·obtain ⟨o,e,_⟩:=h2;exact lt _ _ e
    rw [bf nb];exact (hf b hb).1
  ·exfalso
   rcases q with q | q;·rw [AW] at q;cases q
   ·rw [AX] at q;cases q
 done:=by
  intro X hP hw hK hc i pins s σ H E I hf st hg;subst hP hw hK;obtain ⟨hz,jv,⟨a,c,kn⟩,h1,h2⟩:=st;obtain ⟨xs,ys,nJ,jh,hx⟩:=hg;obtain ⟨ak,rv,p,_⟩:=I.tuple nJ;obtain ⟨nK,tT,p',_⟩:=I.tuple jh;have hl:=rv.length;have OL:=tT.length;have hT:s.TypeIs (.ref z) "zip":=⟨_,hz,rfl⟩;unfold pyNext;refine ao (o5 (kE (name:=Str.ofString "__next__") hT rG (ie rG hT F.entry_zip_next (AV D hz jv kn h1 h2 (show s.heap.IsTuple l1 ak.toArray from p) (show s.heap.IsTuple l2 nK.toArray from p') (fun w1 w2 e1 e2=>?_) fun q=>⟨I.ok.hd hc,fun h' e g ⟨oe,ho,IM⟩=>?_⟩) (F.args_zip_next_1 _))))
  ·exfalso
   have q1:=(vj.mp e1).1;have q2:=(vj.mp e2).1;rw [bK] at q1 q2;omega
  refine ao (wpAny_isInstance (T:="StopIteration") (b:=true) ⟨oe,ho,IM⟩ isSubtype_stop (aH ⟨rfl,?_⟩));have keep:∀b o,b∉[z,TI,TO,i1,i2]→s.heap.get? b=some o→h'.get? b=some o:=fun b o nb e=>by simp only [cE,kH,or_false,not_or] at nb;exact g b o nb.1 nb.2.2.1 nb.2.2.2.1 nb.2.2.2.2 e
  have aA:bD X.prog X.w H h':=fun b o e=>by
   refine (I.aA b o e).ir (fun c v gu q=>keep c v (fun m=>?_) q) (fun c q=>q) fun c xs q=>q;have nn:=(hf c m).1;rcases gu with rfl | gu;·rw [nn] at e;cases e
   ·rw [nn] at gu;cases gu
  have u1:Un (dS X.stack) [z,TI,TO,i1,i2] H H s.heap h':=
   ⟨fun b o e n _ hx=>keep b o hx e,fun b o e n _ hx=>⟨o.slots,keep b o hx e⟩,fun b o e n hx=>n,fun b o e hx=>⟨o,keep b o hx e⟩,fun b xs e=>e,fun b o u e=>e,fun b ps e=>⟨#[],by rw [e];simp⟩⟩
  refine I.m5 (s':={s with heap:=h'}) (ch:=[z,TI,TO,i1,i2]) rfl u1 aA I.bare fun b hb=>?_;obtain ⟨f0,f1,f2,f3,f4,f5⟩:=hf b hb;exact ⟨f3,f1,f4,f5⟩
 self:=fun _ _ _ _ _ st h=>wpAny_pyIter_zip st.1 h
def IP(K:aG)(ta:TA):TI:=fun σ H R=>ta σ H fun vs H1=>∃l1 l2,vs=[.ref l1,.ref l2]∧(∃xs,bx K H1 l1 xs)∧(∃ys,bx K H1 l2 ys)∧R (xi K l1 l2) H1
section
variable {X:Cx}
theorem IQ{elts:List Expr}{k:Nat}{sE:Pos}{a b:Expr}{ta:TA}{p pos:Pos}(hg:Gl X "zip")(hm:X.mg "zip"=none)(ha:PA X [a,b] ta)(hs:starEach [a,b] X.env=[(false,eval a X.env),(false,eval b X.env)]:=by rfl)(pQ:starEach [b] X.env=[(false,eval b X.env)]:=by rfl) :
  PI X (.Tuple elts k sE) (.Call (.Name "zip" p) [a,b] [] pos) (IP X.K ta):=by
 intro pins s σ H R I h;refine Call_ (m6 I hg hm boot_zip (rg (aJ (ha pos pins s σ H _ I h) fun us s1 ⟨vs,H1,I1,r1,q1⟩=>?_) (by rw [hs,pQ]) (by rw [pQ];rfl)))
 obtain ⟨l1,l2,e,⟨xs,nJ⟩,⟨ys,jh⟩,q⟩:=q1;subst e;cases r1 with
 | cons r rr=>
  cases rr with
  | cons r' rr=>
   cases rr;cases r;cases r';obtain ⟨ak,rv,p1,_⟩:=I1.tuple nJ;obtain ⟨nK,tT,p2,_⟩:=I1.tuple jh;have b1:l1<s1.heap.objs.size:=p1.lt;have b2:l2<s1.heap.objs.size:=p2.lt;refine IH (show s1.heap.IsTuple l1 ak.toArray from p1) (show s1.heap.IsTuple l2 nK.toArray from p2) fun h' z1 z2 z3 z4 z5 z7=>?_;refine wpAny_pyIter_zip (s:={s1 with heap:=h'}) z1 ?_;refine ⟨_,_,_,_,H1,rfl,I1.kept (t':=s1.toks) z7,II (zipApart_new b1 b2),⟨z1,z2,⟨_,_,z3⟩,z4,z5⟩,fun b hb=>?_,q⟩;have le:s1.heap.objs.size≤b:=by
    simp only [cE,kH,or_false] at hb;rcases hb with rfl | rfl | rfl | rfl | rfl;·exact rH ..
    ·exact rH ..
    ·exact rH ..
    ·exact aC _
    ·exact rH ..
   exact I1.pN le (I1.aA.fresh le)
end
section
variable {prog:Program} {w:World} {A:Around} {E:aF} {s:Shared}
theorem IS{t sl:Addr}{ak:Array Value}{vl vu:Value}{lo hi:Option Int}{Q:aF}(ht:IsTup s.heap t ak)(hs:s.heap.IsSliceOf sl vl vu .none)(pl:IsPart vl lo)(pu:IsPart vu hi)
  (hw:HT.aO ak.size 0 lo=0∧HT.aO ak.size ak.size hi=ak.size) (q:Q (.ref t) s):wpAny (model prog w) A (getItem (.ref t) (.ref sl)) Q E s:=by
 obtain ⟨os,b1,b2,_⟩:=id hs;have ty:s.TypeIs (.ref sl) "slice":=⟨os,b1,b2⟩;unfold getItem
 try with_reducible refine ic ?_
 first | refine ao (aH ?_) | skip
 refine ao (wpAny_sequenceKey ht.typeIs (by decide) (ao (kE (name:=Str.ofString "__getitem__") ht.typeIs mL (ie mL ht.typeIs entry_tuple_getitem ?_ (args_tuple_getitem _ _)))))
 show wpAny _ _ (Builtin.Tuple.tupleItemsOf (.ref t) >>= _) _ _ s;refine ao (tupleItemsOf_ ht (ao (oW ty ?_)));rw [aj (by decide)]
 refine ao (HT.zD hs pl pu ?_);have yes:((((HT.aO ak.size 0 lo:Nat):Int) == 0 && (1:Int) == 1 && (HT.aO ak.size ak.size hi-HT.aO ak.size 0 lo) == ak.size)=true):=by rw [hw.1,hw.2];simp
 show wpAny _ _ (if (((HT.aO ak.size 0 lo:Nat):Int) == 0 && (1:Int) == 1 && (HT.aO ak.size ak.size hi-HT.aO ak.size 0 lo) == ak.size)=true then _ else _) _ _ s
 rw [aj yes];refine ao ?_;unfold Builtin.Tuple.tupleIsExact;refine ao (oW ht.typeIs (aH ?_));rw [aj (by decide)]
 exact ao (gP (aH ⟨_,rfl,aH q⟩))
end
def IT(K:aG):V→Option Int→Option Int→Hp→VK→Prop:=fun x lo hi H Q=>∃a xs,x=.ref a∧bx K H a xs∧∀p H',(H'=H∧p=a∧cM xs lo hi=xs)∨(H p=none∧H'=upd H p (.tup (cM xs lo hi)))→Q (.ref p) H'
theorem ko{X:Cx}:sL X (IT X.K):=by
 intro pins s σ H x v vl vu lo hi sl Q I rx hs pl pu h;obtain ⟨a,xs,rfl,hx,q⟩:=h;by_cases hw:HT.aO xs.length 0 lo=0∧HT.aO xs.length xs.length hi=xs.length
 ·cases rx
  obtain ⟨ak,r,ht,hz⟩:=I.tuple hx;have hlen:ak.toArray.size=xs.length:=by rw [bK];exact r.length.symm
  refine ⟨"tuple",_,mL.lookup,ht.typeIs,?_⟩;refine IS ht hs pl pu (by rw [hlen];exact hw) ⟨.ref a,H,I,rfl,q a H (.inl ⟨rfl,rfl,?_⟩)⟩
  unfold cM;rw [hw.1,hw.2,List.drop_zero,Nat.sub_zero];exact mU
 ·exact EO pins s σ H (.ref a) v vl vu lo hi sl Q I rx hs pl pu ⟨a,xs,rfl,hx,hw,fun p np=>q p _ (.inr ⟨np,rfl⟩)⟩
end L2
namespace My
open PySem L2
theorem IU{X:Cx}{K:aG}(hu:X.A.units<cLine)(hk:X.K=K:=by rfl):bI X (compareOp .Lt) (zG K):=by subst hk;exact ER hu
end My
namespace L2
open PySem PySem.Spec PyProof.Rows
theorem AZ{K:aG}{a b:Addr}{xs ys:List V}{H1:Hp}(h1:H1 a=some (.tup xs))(h2:H1 b=some (.tup ys)):Ag (xi K a b) (xs.zip ys) H1 where
 go:=fun i Hc s hi=>by
  have hi:i<min xs.length ys.length:=by simpa using hi
  exact ⟨xs,ys,xs[i],ys[i],.of (s _ _ h1),.of (s _ _ h2),by simp [show i<xs.length by omega],by simp [show i<ys.length by omega]⟩
 c5:=fun i Hc v H' s y=>by obtain ⟨T,x,y,nT,ev,eH,hx⟩:=y;obtain ⟨e1,e2⟩:=hx xs ys (.of (s _ _ h1)) (.of (s _ _ h2));exact ⟨T,x,y,ev,nT,eH,fun _=>by rw [pD];exact ⟨e1,e2⟩⟩
 stop:=fun i Hc s hi=>by
  have hi:min xs.length ys.length≤i:=by simpa using hi
  exact ⟨xs,ys,.of (s _ _ h1),.of (s _ _ h2),by omega⟩
end L2
namespace My
open PySem L2
theorem IV{p q:Int×Int}(h:lexLt p q):HT.lexLt [p.1,p.2] [q.1,q.2]=true:=by
 unfold lexLt at h;rw [HT.pW];by_cases e:p.1=q.1
 ·rw [aj e,HT.pW,ae (by omega)]
  exact bg (by omega)
 ·rw [ae e]
  exact bg (by omega)
theorem A0(xs:List V):cM xs (some 1) none=xs.drop 1:=AS xs 1
end My
namespace L2
open PySem PySem.Spec PyProof.Rows
section
variable {X:Cx}
end
end L2
namespace My
open PySem L2
def p2(g:Nat→Nat→Nat):List Nat→Nat
 | []=>0
 | x::l=>(l.map (g x)).sum+p2 g l
def p3(f:Nat→Nat→Nat→Nat):List Nat→Nat
 | []=>0
 | x::l=>p2 (f x) l+p3 f l
variable {g:Nat→Nat→Nat} {l l':List Nat}
theorem A1(sy:∀x y,g x y=g y x)(p:l.Perm l'):p2 g l=p2 g l':=by
 induction p with
 | nil=>rfl
 | cons x p ih=>simp only [p2,ih];rw [(p.map (g x)).sum_nat]
 | swap x y l=>simp only [p2,cR,il];rw [sy x y];omega
 | trans _ _ h1 h2=>exact h1.trans h2
theorem IW{f:Nat→Nat→Nat→Nat}(s1:∀x y z,f x y z=f y x z)(s2:∀x y z,f x y z=f x z y)(p:l.Perm l'):p3 f l=p3 f l':=by
 induction p with
 | nil=>rfl
 | cons x p ih=>simp only [p3,ih];rw [A1 (s2 x) p]
 | swap x y l=>simp only [p3,p2];rw [show l.map (f y x)=l.map (f x y) from mP fun z _=>s1 y x z];omega
 | trans _ _ h1 h2=>exact h1.trans h2
variable {f:Nat→Nat}
theorem kq{g:Nat→Nat}(h:∀x∈l,f x=g x):(l.map f).sum=(l.map g).sum:=cy List.sum (mP h)
theorem tU(h:∀x∈l,f x=0):(l.map f).sum=0:=by
 induction l with
 | nil=>rfl
 | cons x l ih=>rw [cR,il,h x eZ,ih fun y hy=>h y (dN _ hy)]
theorem IY{g:Nat→Nat}:(l.map fun x=>f x+g x).sum=(l.map f).sum+(l.map g).sum:=by
 induction l with
 | nil=>rfl
 | cons x l ih=>simp only [cR,il,ih];omega
variable {b c:Nat}
theorem IZ(nd:l.Nodup)(hb:b∈l):(l.map fun y=>if y=b then c else 0).sum=c:=by
 induction l with
 | nil=>cases hb
 | cons x l ih=>
  rw [cR,il];obtain ⟨n1,n2⟩:=iU.mp nd;rcases cE.mp hb with rfl | h
  ·rw [aj rfl,tU fun y hy=>ae (fun e:y=b=>n1 (e▸hy))]
   omega
  ·rw [ae (fun e:x=b=>n1 (e▸h)),ih n2 h]
   omega
variable {g':Nat→Nat→Nat}
theorem A2(nd:l.Nodup)(h:∀x∈l,∀y∈l,x≠y→g x y=g' x y):p2 g l=p2 g' l:=by
 induction l with
 | nil=>rfl
 | cons x l ih=>obtain ⟨n1,n2⟩:=iU.mp nd;show (l.map (g x)).sum+p2 g l=(l.map (g' x)).sum+p2 g' l;rw [kq fun y hy=>h x eZ y (dN _ hy) fun e=>n1 (e▸hy),ih n2 fun a ha b hb=>h a (dN _ ha) b (dN _ hb)]
theorem I0:p2 (fun x y=>g x y+g' x y) l=p2 g l+p2 g' l:=by
 induction l with
 | nil=>rfl
 | cons x l ih=>simp only [p2,ih,IY];omega
theorem A3(h:∀x∈l,∀y,g x y=0):p2 g l=0:=by
 induction l with
 | nil=>rfl
 | cons x l ih=>show (l.map (g x)).sum+p2 g l=0;rw [tU fun y _=>h x eZ y,ih fun a ha=>h a (dN _ ha)]
variable {a:Nat}
theorem I_(pw:l.Pairwise (· < ·))(ha:a∈l)(hb:b∈l)(ab:a<b):p2 (fun i j=>if i=a∧j=b then c else 0) l=c:=by
 induction l with
 | nil=>cases ha
 | cons x l ih=>
  obtain ⟨n1,n2⟩:=mV.mp pw;have nd:l.Nodup:=n2.imp fun h=>bV h;show (l.map fun j=>if x=a∧j=b then c else 0).sum+p2 _ l=c
  rcases cE.mp ha with rfl | h
  ·have fQ:b∈l:=by
    rcases cE.mp hb with rfl | h;·omega
    ·exact h
   rw [show (l.map fun j=>if a=a∧j=b then c else 0).sum=(l.map fun y=>if y=b then c else 0).sum from kq fun y _=>by simp,IZ nd fQ,A3 fun i hi j=>ae fun e=>by have:=n1 i hi;omega]
   omega
  ·have xa:=n1 a h
   have fQ:b∈l:=by
    rcases cE.mp hb with rfl | h;·omega
    ·exact h
   rw [tU fun y _=>ae fun e=>by omega,ih n2 h fQ]
   omega
theorem xj(pw:l.Pairwise (· < ·)):p2 g l=(l.map fun y=>(l.map fun z=>if y<z then g y z else 0).sum).sum:=by
 induction l with
 | nil=>rfl
 | cons x l ih=>
  obtain ⟨n1,n2⟩:=mV.mp pw;show (l.map (g x)).sum+p2 g l=_;rw [cR,il,cR,il,ae (d7 x),ih n2];rw [show (l.map fun z=>if x<z then g x z else 0).sum=(l.map (g x)).sum from kq fun z hz=>aj (n1 z hz)]
  rw [show (l.map fun y=>((x::l).map fun z=>if y<z then g y z else 0).sum).sum=(l.map fun y=>(l.map fun z=>if y<z then g y z else 0).sum).sum from kq fun y hy=>by
   rw [cR,il,ae (by have:=n1 y hy;omega)]
   omega]
  omega
theorem Ja{f:Nat→Nat→Nat→Nat}(pw:l.Pairwise (· < ·)):p3 f l=p2 (fun x y=>(l.map fun z=>if y<z then f x y z else 0).sum) l:=by
 induction l with
 | nil=>rfl
 | cons x l ih=>
  obtain ⟨n1,n2⟩:=mV.mp pw;have nd:l.Nodup:=n2.imp fun h=>bV h;have one:∀u,∀y∈l,((x::l).map fun z=>if y<z then f u y z else 0).sum=(l.map fun z=>if y<z then f u y z else 0).sum:=fun u y hy=>by
   rw [cR,il,ae (by have:=n1 y hy;omega)]
   omega
  show p2 (f x) l+p3 f l=(l.map fun y=>((x::l).map fun z=>if y<z then f x y z else 0).sum).sum+p2 (fun u y=>((x::l).map fun z=>if y<z then f u y z else 0).sum) l
  rw [ih n2,xj n2,kq (one x),A2 nd fun u _ y hy _=>one u y hy]
theorem tV(n:Nat):(List.range n).Pairwise (· < ·):=List.pairwise_lt_range
theorem A4{n:Nat}{W:Nat→Nat→Nat}:∀{M:aK},M.Nodup→(∀z∈M,0≤z.1∧z.1<z.2∧z.2<(n:Int))→(M.map fun z=>W z.1.toNat z.2.toNat).sum=p2 (fun i j=>if ((i:Int),(j:Int))∈M then W i j else 0) (List.range n)
 | [],_,_=>by rw [A3 fun i _ j=>ae fun h=>nomatch h];rfl
 | z::M,nd,lt=>by
  obtain ⟨n1,n2⟩:=iU.mp nd;obtain ⟨z0,z1,z2⟩:=lt z eZ;rw [cR,il,A4 n2 fun y hy=>lt y (dN _ hy)];have d:=I_ (c:=W z.1.toNat z.2.toNat) (tV n) (a:=z.1.toNat) (b:=z.2.toNat) (gN.mpr (by omega)) (gN.mpr (by omega)) (by omega)
  rw [←d,←I0];refine A2 pd fun i _ j _ _=>?_;by_cases e:i=z.1.toNat∧j=z.2.toNat
  ·have ez:((i:Int),(j:Int))=z:=by obtain ⟨e1,e2⟩:=e;subst e1;subst e2;rw [Int.toNat_of_nonneg z0,Int.toNat_of_nonneg (by omega)]
   obtain ⟨e1,e2⟩:=e;have hm:((i:Int),(j:Int))∈z::M:=ez.symm▸eZ;have hn:¬((i:Int),(j:Int))∈M:=fun h=>n1 (ez▸h);rw [aj ⟨e1,e2⟩,aj hm,ae hn,←e1,←e2,o8]
  ·rw [ae e]
   have:((i:Int),(j:Int))≠z:=fun h=>e (by subst h;exact ⟨(cZ i).symm,(cZ j).symm⟩)
   by_cases h:((i:Int),(j:Int))∈M
   ·rw [aj h,aj (dN _ h)]
    omega
   ·rw [ae h,ae fun h'=>(cE.mp h').elim this h]
def rL(M:aK)(a b:Nat):Bool:=decide (((a:Int),(b:Int))∈M) || decide (((b:Int),(a:Int))∈M)
variable {M:aK}
theorem tW:rL M a b=true↔((a:Int),(b:Int))∈M∨((b:Int),(a:Int))∈M:=by unfold rL;rw [Bool.or_eq_true,jN,jN]
theorem nL(M:aK)(a b:Nat):rL M a b=rL M b a:=Bool.or_comm ..
def cm(r:Nat→Nat→Bool)(x y z:Nat):Nat:=if r x y && r x z && r y z then 1 else 0
def qA(n:Nat)(M:aK):Nat:=p3 (cm (rL M)) (List.range n)
theorem Jb{n:Nat}(nd:M.Nodup)(lt:∀z∈M,0≤z.1∧z.1<z.2∧z.2<(n:Int)) :
  (M.map fun z=>((List.range n).filter fun k=>decide (z.2.toNat<k) && rL M z.1.toNat k && rL M z.2.toNat k).length).sum=qA n M:=by
 have:=A4 (n:=n) (W:=fun i j=>((List.range n).filter fun k=>decide (j<k) && rL M i k && rL M j k).length) nd lt;rw [this];unfold qA;rw [Ja (tV n),xj (tV n),xj (tV n)];refine kq fun i _=>kq fun j _=>?_;by_cases ij:i<j
 ·rw [aj ij,aj ij]
  have fl:∀(l:List Nat) (c:Nat→Bool),(l.filter c).length=(l.map fun k=>if c k then 1 else 0).sum:=fun l c=>by
   induction l with
   | nil=>rfl
   | cons x l ih=>
    rw [List.filter_cons,cR,il];by_cases h:c x;·rw [aj h,aj h,dm,ih];omega
    ·rw [ae h,ae h,ih];omega
  by_cases h:((i:Int),(j:Int))∈M
  ·rw [aj h,fl]
   refine kq fun k _=>?_;unfold cm;by_cases jk:j<k;·rw [aj jk,bg jk,tW.mpr (.inl h)]
   ·rw [ae jk,bp jk]
    rfl
  ·rw [ae h,tU fun k _=>?_]
   by_cases jk:j<k
   ·rw [aj jk]
    unfold cm;rw [ae fun h'=>?_];rw [kF,kF] at h';rcases tW.mp h'.1.1 with h' | h';·exact h h'
    ·have:=lt _ h'
     omega
   ·rw [ae jk]
 ·rw [ae ij,ae ij]
theorem Jc(M:aK)(x y z:Nat):cm (rL M) x y z=cm (rL M) y x z:=by unfold cm;rw [nL M y x];cases rL M x y <;> cases rL M x z <;> cases rL M y z <;> rfl
theorem Jd(M:aK)(x y z:Nat):cm (rL M) x y z=cm (rL M) x z y:=by unfold cm;rw [nL M z y];cases rL M x y <;> cases rL M x z <;> cases rL M y z <;> rfl
def A5:Sp:=fun vs H Q _=>∃(t:Addr) (n:Nat) (L:aK),vs=[.ref t]∧fB H t n L∧L.Nodup∧(∀z∈L,0≤z.1∧z.1<z.2∧z.2<(n:Int))∧n≤30∧L.length≤500 ∧
 ∀H':Hp,ai H H'→Q (.int (qA n L:Int)) H'
end My
namespace L2
open PySem
section
variable {prog:Program} {w:World} {A:Around} {E:aF} {s:Shared}
def fC(h:Heap)(d:Addr)(es:Array DictEntry)(ep:Nat):Prop:=∃o,h.get? d=some o∧o.ExactDict∧o.data=.dict es ep
variable {d:Addr} {es:Array DictEntry} {ep:Nat}
theorem fC.ty(h:fC s.heap d es ep):s.TypeIs (.ref d) "dict":=let ⟨o,ho,hc,_⟩:=h;⟨o,ho,hc.1⟩
theorem fC.to{h h':Heap}(x:fC h d es ep)(e:∀o,h.get? d=some o→h'.get? d=some o):fC h' d es ep:=let ⟨o,ho,r⟩:=x;⟨o,e _ ho,r⟩
theorem Je{Q:aF}(hd:(d == sysModules)=false)(hm:fC s.heap d es ep)
  (hQ:∀h',h'=s.heap.push {cls:=.type "dict_keyiterator",data:=.fields #[.ref d,.int 0 0,.int es.size 0,.int ep 0]}→Q (.ref s.heap.objs.size) {s with heap:=h'}):wpAny (model prog w) A (pyIter (.ref d)) Q E s:=by
 have hT:=hm.ty;obtain ⟨o,ho,hc,tX⟩:=hm;refine wpAny_pyIter_slot hT F.slot_dict_iter (ie F.slot_dict_iter hT F.entry_dict_iter ?_ (F.args_dict_iter_1 _));unfold Builtin.«dict.__iter__»;refine ao ?_;unfold Builtin.Dict.dictSlotNone;refine ao (wpAny_notOrdered_dict hT (aH ?_));show wpAny _ _ (Builtin.Dict.showsAll d >>= _) _ _ s;unfold Builtin.Dict.showsAll;rw [ae (by rw [hd];exact bW)]
 refine ao (aH (ao (wpAny_dictEntries ho tX (ao (wpAny_dictEpoch ho tX ?_)))));refine ao (fI (aH ⟨_,rfl,"dict_keyiterator",_,⟨_,bZ _ rfl,rfl⟩,pE.lookup,?_⟩));exact hQ _ rfl
variable {it:Addr} {Q:Option Value→Shared→Prop}
theorem Jf{i:Nat}(hit:s.heap.IsKeyIter it d i es.size ep)(hm:fC s.heap d es ep)(hi:i<es.size)
  (hQ:∀h',h'.IsKeyIter it d (i+1) es.size ep→Heap.SameBut it s.heap h'→Q (some es[i].key) {s with heap:=h'}):wpAny (model prog w) A (pyNext (.ref it)) Q E s:=by
 have hT:=hit.typeIs;obtain ⟨o,ho,hc,hd⟩:=id hit;obtain ⟨od,qB,ff,qC⟩:=hm;unfold pyNext;refine ao (o5 (kE (name:=Str.ofString "__next__") hT pE (ie pE hT F.entry_dict_keyiterator_next ?_ (F.args_dict_keyiterator_next_1 _))));refine ao (aH (ao (ao ?_)))
 first | refine ao (rJ hT (aH ?_)) | refine ao (rK hT (aH ?_))
 refine ao (wpAny_fieldsOf ho hd ?_);simp only [show Builtin.Dict_items.ownsTuple "dict_keyiterator"=false from by decide,rA,iX]
 show wpAny _ _ (if (Value.ref d == Value.none)=true then _ else _) _ _ s
 rw [ae (show ¬((Value.ref d == Value.none)=true) from bW)];refine ao (aH (ao (wpAny_dictEntries qB qC ?_)));rw [ae (by simp)]
 refine ao (aH (ao (wpAny_dictEpoch qB qC ?_)));rw [ae (by simp)]
 refine aH ?_;simp only [show ¬((i:Int)<0) from by omega,iX,cZ,rN hi]
 refine ao ?_
 first | refine ao (rJ hT (aH ?_)) | refine ao (rK hT (aH ?_))
 refine ao (wpAny_isOneOf_keyiter hT ?_);show wpAny _ _ (setField (.ref it) 1 (rawInt ((i:Int)+1)) >>= _) _ _ s;refine ao (wpAny_setField ho hd (by simp) ?_)
 have A6:(s.heap.update it (Obj.mapFields (·.setIfInBounds 1 (rawInt ((i:Int)+1))))).IsKeyIter it d (i+1) es.size ep:=
  ⟨_,oX _ ho (Obj.isFreed_of_fields (rE hd _)),(Obj.cls_mapFields ..).trans hc,by rw [rE hd];simp [rawInt]⟩
 refine ao (ic ?_);refine ao (wpAny_isOneOf_keyiter (s:={s with heap:=s.heap.update it (Obj.mapFields (·.setIfInBounds 1 (rawInt ((i:Int)+1))))}) A6.typeIs ?_);show wpAny _ _ (pure es[i].key) _ _ _;exact aH (aH ⟨_,rfl,aH (hQ _ A6 (rF ..))⟩)
theorem Jg(hh:A.handled=none)(hit:s.heap.IsKeyIter it d es.size es.size ep)(hm:fC s.heap d es ep)
  (hQ:∀h',Heap.ExtBut it s.heap h'→Q none {s with heap:=h'}):wpAny (model prog w) A (pyNext (.ref it)) Q E s:=by
 have hT:=hit.typeIs;obtain ⟨o,ho,hc,hd⟩:=id hit;obtain ⟨od,qB,ff,qC⟩:=hm;unfold pyNext;refine ao (o5 (kE (name:=Str.ofString "__next__") hT pE (ie pE hT F.entry_dict_keyiterator_next ?_ (F.args_dict_keyiterator_next_1 _))));refine ao (aH (ao (ao ?_)))
 first | refine ao (rJ hT (aH ?_)) | refine ao (rK hT (aH ?_))
 refine ao (wpAny_fieldsOf ho hd ?_);simp only [show Builtin.Dict_items.ownsTuple "dict_keyiterator"=false from by decide,rA,iX]
 show wpAny _ _ (if (Value.ref d == Value.none)=true then _ else _) _ _ s
 rw [ae (show ¬((Value.ref d == Value.none)=true) from bW)];refine ao (aH (ao (wpAny_dictEntries qB qC ?_)));rw [ae (by simp)]
 refine ao (aH (ao (wpAny_dictEpoch qB qC ?_)));rw [ae (by simp)]
 refine aH ?_;simp only [show ¬((es.size:Int)<0) from by omega,iX,cZ,vn (aC es.size)]
 refine ao ?_
 first | refine ao (rJ hT (aH ?_)) | refine ao (rK hT (aH ?_))
 show wpAny _ _ (setField (.ref it) 0 .none >>= _) _ _ s;refine ao (wpAny_setField ho hd (by simp) ?_)
 show wpAny _ _ (newExc (.type "StopIteration") [] >>= _) _ _ _;refine ao ?_;simp only [newExc,newTuple];refine ao (fI ?_ (by size_fits))
 refine ao (m:=firstArgMember _ _) (wpAny_of_eq (a:=Value.none) (by first | rfl | (simp only [firstArgMember];rfl)) ?_)
 refine fI ?_ (by size_fits)
 simp only [raiseNew];refine ao (wpAny_handled ?_);rw [show A.in1.handled=none from hh];refine ao (aH (wpAny_throw ?_));refine ao (wpAny_isInstance (T:="StopIteration") (b:=true) ⟨_,bZ _ rfl,rfl⟩ isSubtype_stop ?_);exact aH (hQ _ (((rF ..).extBut.push _).push _))
theorem Jh(hh:A.handled=none)(I d:Addr)(wk:d≠I)(es:Array DictEntry)(ep:Nat) :
  Walks prog w A I [I,d] [I] es.size (fun i v=>∃e,es[i]?=some e∧v=e.key) (fun i h=>h.IsKeyIter I d i es.size ep∧fC h d es ep) where
 sub:=fun b hb=>by simp at hb;simp [hb]
 frame:=fun _ _ _ st hk=>⟨st.1.at fun o e=>hk I (by simp) o e,st.2.to fun o e=>hk d (by simp) o e⟩
 item:=fun i s Q E hi st hQ=>Jf st.1 st.2 hi fun h' Ji sb=>hQ _ h' s.toks ⟨_,rN hi,rfl⟩ ⟨Ji,st.2.to fun o e=>sb.extBut d o wk e⟩ fun b o hb e=>sb.extBut b o (fun h=>hb (by simp [h])) e
 done:=fun s Q E st hQ=>Jg hh st.1 st.2 fun h' Jj=>hQ h' s.toks fun b o hb e=>Jj b o (fun h=>hb (by simp [h])) e
 self:=fun _ _ _ _ st hQ=>wpAny_pyIter_keyiter st.1 hQ
theorem Jk{Q:Bool→Shared→Prop}(hm:fC s.heap d es ep)(h:Q false s):wpAny (model prog w) A (Builtin.List.listLengthHint (.ref d)) Q E s:=by
 unfold Builtin.List.listLengthHint;refine ao (wpAny_specialOf hm.ty F.slot_dict_len.lookup ?_);generalize A7:("dict.__len__":String)=Jl
 wp_delta
 rw [show splitId Jl=some ("dict","__len__") from by subst A7;decide +kernel]
 subst A7;refine ao (wpAny_isInstance (T:="dict") (b:=true) hm.ty (by rw [isSubtype_type];kernel_rfl) ?_)
 refine wpAny_ite_split (fun xk=>absurd xk (by decide)) (fun _=>?_)
 refine wpAny_ite_split (fun _=>?_) (fun xk=>absurd (by decide +kernel) xk)
 exact ao (oW hm.ty (aH h))
def KeysAre(es:Array DictEntry)(acc:Array Value):Prop:=acc.toList=es.toList.map (·.key)
theorem Jm{acc:Array Value}(h:ItemsOf (fun i v=>∃e,es[i]?=some e∧v=e.key) acc es.size):KeysAre es acc:=by
 refine o1 fun i=>?_;rw [dj,vf,vf];by_cases hi:i<acc.size
 ·obtain ⟨e,e1,e2⟩:=h.2 i _ (rN hi)
  rw [rN hi,e1,e2];rfl
 ·rw [vn (by omega),vn (by have:=h.1;omega)]
  rfl
theorem Jn{R:Result→Shared→Prop}(hh:A.handled=none)(hd:(d == sysModules)=false)(hm:fC s.heap d es ep)(hlen:es.size≤2 ^ 24)(S:Addr)(res:Value)(c₀:Nat)
  (hS:s.heap.get? S=some {cls:=.type "list",data:=.seq #[] c₀})
  (hR:∀h' tk tY c',(∀b o,b≠S→s.heap.get? b=some o→h'.get? b=some o)→h'.get? S=some {cls:=.type "list",dict:=none,data:=.seq tY c',slots:=#[]}→KeysAre es tY→R (.ok (.ret res)) {s with heap:=h',toks:=tk}) :
  wpAny (model prog w) A.in1 (Builtin.List.listExtendWith (.ref S) (.ref d) res)
   (fun fin s'=>match fin with | .done f=>R (.ok f) s' | .again c'=>c'.quiet=true∧codeAny (model prog w) A c' R s') (fun e s'=>R (.error e) s') s:=by
 have hT:=hm.ty;have xl:S≠d:=fun e=>by obtain ⟨o,ho,hc,tX⟩:=hm;rw [e,ho] at hS;cases hS;cases tX
 have Jo:S<s.heap.objs.size:=a0 hS;have A8:S≠s.heap.objs.size:=bV Jo;have Jp:d≠s.heap.objs.size:=fun e=>by obtain ⟨o,ho,_⟩:=hm;exact d7 _ (e▸a0 ho)
 have Jq:S∉[s.heap.objs.size,d]:=fun Jr=>by
  rcases cE.mp Jr with e | e;·exact A8 e
  ·exact xl (e9.mp e)
 have W:=(Jh (prog:=prog) (w:=w) (A:=A.in1) hh s.heap.objs.size d Jp es ep).toS
 have key:∀(h:Heap) (c₁ tk:Nat),h.IsKeyIter s.heap.objs.size d 0 es.size ep∧fC h d es ep→(∀b o,b≠S→s.heap.get? b=some o→h.get? b=some o)→
   h.get? S=some {cls:=.type "list",data:=.seq #[] c₁}→codeAny (model prog w) A (.builtin "list.extend.loop" ⟨[.ref S,.ref s.heap.objs.size,res],[]⟩) R {s with heap:=h,toks:=tk}:=by
  intro h c₁ tk hit hk qD;refine codeAny_extend_loopS W (by rw [jG];omega) S Jq res es.size 0 _ #[] c₁ rfl (bG _) hit qD (ItemsOf.nil _) fun s' tY c' A9 nM Js=>?_
  rw [Moved.eq_with A9];refine hR s'.heap s'.toks tY c' (fun b o hb e=>A9.heap b o (fun xm=>?_) (hk b o hb e)) nM (Jm Js);rcases cE.mp xm with e' | xm;·exact hb e'
  ·exact absurd (a0 e) (by rw [e9.mp xm];exact d7 _)
 unfold Builtin.List.listExtendWith;refine ao (oW (T:="dict") hT ?_);simp only [show Builtin.List.listSameRef (.ref S) (.ref d)=false from by simp [Builtin.List.listSameRef,xl],show (Value.type "dict" == Value.type "list")=false from by decide,show (Value.type "dict" == Value.type "tuple")=false from by decide,pF,rA,iX]
 refine ao (Je hd hm fun h1 e1=>?_);have k1:∀b o,s.heap.get? b=some o→h1.get? b=some o:=fun b o e=>by rw [e1];exact a8 _ e
 have A_:h1.IsKeyIter s.heap.objs.size d 0 es.size ep:=⟨_,by rw [e1];exact bZ _ rfl,rfl,rfl⟩
 have qE:fC h1 d es ep:=hm.to fun o e=>k1 _ _ e;have qD:=k1 _ _ hS;refine ao (ic (Jk (s:={s with heap:=h1}) qE ?_));refine wpAny_ite_split (fun _=>?_) (fun _=>aH ⟨plainId_quiet F.plain_extend_loop _,key _ c₀ _ ⟨A_,qE⟩ (fun b o _ e=>k1 b o e) qD⟩);refine ao (gP (ao ?_));show wpAny _ _ (updateSeq S (·.push .none) >>= fun _=>updateSeq S (·.pop)) _ _ _;refine ao (wpAny_updateSeq qD rfl ?_);have Ba:=oX (Obj.mapSeq (·.push Value.none)) qD rfl;refine wpAny_updateSeq (hz:=by seq_fits) Ba rfl ?_
 have Jt:=oX (Obj.mapSeq (·.pop)) Ba rfl;have xn:∀b o,b≠S→h1.get? b=some o→((h1.update S (Obj.mapSeq (·.push Value.none))).update S (Obj.mapSeq (·.pop))).get? b=some o:=fun b o hb e=>(rh _ _ (fG hb)).trans ((rh _ _ (fG hb)).trans e);exact aH ⟨plainId_quiet F.plain_extend_loop _,key _ _ _ ⟨A_.at fun o e=>xn _ o (fG A8) e,qE.to fun o e=>xn _ o (fG xl) e⟩ (fun b o hb e=>xn b o hb (k1 b o e)) Jt⟩
end
end L2
namespace My
open PySem L2
end My
namespace L2
open PySem PySem.Spec PyProof.Rows My
end L2
namespace My
open PySem L2
def tZ(n:Nat)(L:aK)(z:Int×Int):Nat:=((List.range n).filter fun k=>decide (z.2.toNat<k) && rL L z.1.toNat k && rL L z.2.toNat k).length
def Bb(j:Nat)(m:List Nat):V→Bool
 | .int z=>decide ((j:Int)<z) && decide (z.toNat∈m)
 | _=>false
theorem Ju{n:Nat}{L:aK}{g:Nat→List Nat}(nb:ju n L g)(gn:∀a,(g a).Nodup){i j:Nat}(hi:i<n)(hj:j<n)(gl:∀k∈g i,k<n):tZ n L ((i:Int),(j:Int))=(((g i).map fun k:Nat=>V.int (k:Int)).filter (Bb j (g j))).length:=by
 rw [List.filter_map,ba];unfold tZ;refine ((vp (pd.filter _) ((gn i).filter _)).mpr fun k=>?_).length_eq;rw [oT,oT,gN];show (k<n∧(decide (((j:Nat):Int).toNat<k) && rL L ((i:Nat):Int).toNat k && rL L ((j:Nat):Int).toNat k)=true)↔k∈g i∧(decide ((j:Int)<(k:Int)) && decide (((k:Nat):Int).toNat∈g j))=true;rw [cZ,cZ,cZ,kF,kF,kF,jN,jN,jN,tW,tW,nb i k hi,nb j k hj];constructor
 ·rintro ⟨h1,⟨h2,h3⟩,h4⟩
  exact ⟨h3,by omega,h4⟩
 ·rintro ⟨h1,h2,h3⟩
  exact ⟨gl k ((nb i k hi).mpr h1),⟨by omega,h1⟩,h3⟩
section
variable {P a d:Addr} {H Hc:Hp} {n m:Nat} {L:aK}
end
section
variable {n:Nat} {E:Nat→Nat→Prop} {pos rk:Nat→Nat}
end
open PySem PySem.W PyProof.Rows Tm
section
variable {prog:Program} {w:World} {A:Around} {E:aF} {s:Shared}
end
open PySem PySem.W PyProof.Rows
section
variable {prog:Program} {w:World} {A:Around} {E:aF} {s:Shared}
end
end My
namespace L2
open PySem PySem.W PyProof.Rows My
end L2
namespace My
open PySem PySem.W PyProof.Rows
section
variable {prog:Program} {w:World} {A:Around} {E:aF} {s:Shared} {R:Result→Shared→Prop}
end
open PySem PySem.W PyProof.Rows L2
section
variable {prog:Program} {w:World} {A:Around} {s:Shared}
end
end My
namespace L2
open PySem PySem.W PyProof.Rows My
end L2
namespace My
open PySem L2
end My
namespace L2
open PySem PySem.Spec PyProof.Rows My
end L2
namespace My
open PySem L2
end My
namespace L2
open PySem
section
variable {prog:Program} {w:World} {A:Around} {E:aF} {s:Shared}
end
open PySem PySem.Spec PyProof.Rows My
end L2
namespace My
open PySem L2
end My
namespace L2
open PySem PySem.W PyProof.Rows
section
variable {prog:Program} {w:World} {A:Around} {E:aF} {s:Shared}
end
open AutoSeq1 (wpAny_loadPart')
section
variable {prog:Program} {w:World} {A:Around} {E:aF} {s:Shared}
end
end L2
namespace My
open PySem L2
end My
namespace L2
open PySem PySem.Spec PyProof.Rows My
end L2
namespace My
open PySem L2
open PySem L2 Classical
end My
namespace L2
open PySem PySem.Spec PyProof.Rows
end L2
namespace My
open PySem L2 Classical
open PySem L2
end My
namespace L2
open PySem PySem.Spec PyProof.Rows My
section
variable {X:Cx}
end
end L2
namespace My
open PySem L2
end My
namespace L2
open PySem PySem.Spec PyProof.Rows My
end L2
namespace My
open PySem L2
end My
namespace L2
open PySem PySem.W PyProof.Rows My
section
variable {prog:Program} {w:World} {A:Around} {E:aF} {s:Shared}
theorem Jv{Q:List Value→Shared→Prop}{d:Addr}{es:Array DictEntry}{ep:Nat}(hh:A.handled=none)(hd:(d == sysModules)=false)(hm:fC s.heap d es ep)(hlen:es.size≤2 ^ 24)
  (hQ:∀h' tk (acc:Array Value),(∀b o',s.heap.get? b=some o'→h'.get? b=some o')→KeysAre es acc→Q acc.toList {s with heap:=h',toks:=tk}):wpAny (model prog w) A (collect (.ref d)) Q E s:=by
 unfold collect
 refine ao (wpAny_runValue (codeAny_builtin F.entry_proto_collect ?_))
 rw [Around.under_plainId F.plain_proto_collect _]
 show wpAny _ A.in1 (newList [] >>= fun l=>again (.builtin "list.__iadd__" ⟨[l,.ref d],[]⟩)) _ _ s
 refine ao (fI ?_)
 refine aH ⟨plainId_quiet F.plain_list_iadd _,codeAny_builtin F.entry_list_iadd ?_⟩
 rw [Around.under_plainId F.plain_list_iadd _]
 show wpAny _ A.in1 (Builtin.List.listExtendWith (.ref s.heap.objs.size) (.ref d) (.ref s.heap.objs.size)) _ _ _
 have hS:(s.heap.push {cls:=.type "list",data:=.seq ([]:List Value).toArray}).get? s.heap.objs.size=some {cls:=.type "list",data:=.seq #[] 0}:=bZ _ rfl
 refine bC (Jn (A:=A) (R:=fun r' s'=>∃h' tk acc c,r'=.ok (.ret (.ref s.heap.objs.size))∧s'={s with heap:=h',toks:=tk}∧(∀b o',s.heap.get? b=some o'→h'.get? b=some o')∧h'.get? s.heap.objs.size=some {cls:=.type "list",dict:=none,data:=.seq acc c,slots:=#[]}∧KeysAre es acc)
  (s:={s with heap:=s.heap.push {cls:=.type "list",data:=.seq ([]:List Value).toArray}}) hh hd (hm.to fun o e=>a8 _ e) hlen _ _ 0 hS fun h' tk acc c k g it=>⟨h',tk,acc,c,rfl,rfl,fun b o' hb=>k b o' (bV (a0 hb)) (a8 _ hb),g,it⟩) (fun fin s' h=>?_) (fun e s' h=>?_)
 ·have done:∀s',(∃h' tk acc c,s'={s with heap:=h',toks:=tk}∧(∀b o',s.heap.get? b=some o'→h'.get? b=some o')∧h'.get? s.heap.objs.size=some {cls:=.type "list",dict:=none,data:=.seq acc c,slots:=#[]}∧KeysAre es acc)→wpAny (model prog w) A (match Value.ref s.heap.objs.size with
    | Value.ref a=>do
     match (←load a).data with
      | Data.seq xs _=>pure xs.toList
      | _=>unsupported "internal:collect"
    | _=>unsupported "internal:collect") Q E s':=fun s' ⟨h',tk,acc,c,e,k,g,it⟩=>by
   subst e
   show wpAny _ A (load s.heap.objs.size >>= _) _ _ _
   exact ao (wpAny_load g (aH (hQ h' tk acc k it)))
  cases fin with
  | done f=>
   obtain ⟨h',tk,acc,c,e,es,k,g,it⟩:=h
   cases e
   exact done s' ⟨h',tk,acc,c,es,k,g,it⟩
  | again c'=>exact ⟨h.1,codeAny_mono h.2 fun r jY hr=>by
    obtain ⟨h',tk,acc,c,e,es,k,g,it⟩:=hr
    subst e
    exact done jY ⟨h',tk,acc,c,es,k,g,it⟩⟩
 ·obtain ⟨_,_,_,_,e,_⟩:=h
  exact absurd e (by simp)
end
theorem Jw{P:Program}{w:World}:∀{es:List DictEntry} {kvs:List (Key×Value)} {ks:List Nat},Pairs (dR P w) es kvs→kvs.map (·.1)=ks.map (fun k:Nat=>(Sum.inl (k:Int):Key))→IntsAre (es.map (·.key)) (ks.map fun k:Nat=>(k:Int)):=fun{es kvs ks} h=>by
 induction h generalizing ks with
 | nil=>
  intro e;cases ks with
  | nil=>exact .nil
  | cons k ks=>cases e
 | @cons e kv es kvs h1 h2 t ih=>
  intro q;cases ks with
  | nil=>cases q
  | cons k ks=>
   have q1:=(List.cons.inj q).1;have q2:=(List.cons.inj q).2;dsimp only at q1;rw [q1] at h1;have:∃t,e.key=Value.int (k:Int) t:=by
    cases ek:e.key with
    | int n t=>
     rw [ek] at h1;have:(n:Int)=(k:Int):=by have h1:(n == (k:Int))=true:=h1;exact beq_iff_eq.mp h1
     exact ⟨t,by rw [this]⟩
    | _=>rw [ek] at h1;exact absurd h1 (by simp [dR,jP,Value.isInt])
   obtain ⟨t,ht⟩:=this;rw [cR,cR,ht];exact .cons _ _ (ih q2)
def Jx:List V→Hp→VK→Prop:=fun xs H Q=>∃(a:Addr) (ks:List Nat),xs=[.ref a]∧H a=some (.dK (dk ks))∧ks.length<64∧∀(ws:List Int) (D:Addr),ws.Perm (ks.map fun k:Nat=>(k:Int))→ws.Pairwise (·≤·)→H D=none→Q (.ref D) (upd H D (.lst (ws.map V.int)))
theorem Jy{X:Cx}(hc:X.calm=true):en X (.builtin "sorted") Jx:=by
 intro pins s σ H xs us Q I r h;obtain ⟨a,ks,rfl,ha,qv,k⟩:=h;obtain ⟨u,rfl,ru⟩:=vals1 r;cases ru;obtain ⟨_,sys,vs,kv,o,es,ep,g,c,dd,e4,e5,e6⟩:=AI I.aA ha;have Bc:vs.map (·.1)=ks.map (fun k:Nat=>(Sum.inl (k:Int):Key)):=by
  have:∀{l:List (Key×V)} {m:List (Key×Value)},KV l m→m.map (·.1)=l.map (·.1):=fun{l m} q=>by
   induction q with
   | nil=>rfl
   | cons hq t ih=>rw [cR,cR,ih,hq.1]
  rw [this kv];unfold dk;rw [o_];rfl
 have ia:=Jw e5 Bc;have OM:es.size=ks.length:=by
  have h1:=cy List.length Bc;rw [ba,ba] at h1;have:∀{l:List DictEntry} {m:List (Key×Value)},Pairs (dR X.prog X.w) l m→l.length=m.length:=fun{l m} q=>by
   induction q with
   | nil=>rfl
   | cons _ _ _ ih=>rw [dm,dm,ih]
  have:=this e5;rw [e8] at this;omega
 refine Calls.call_function_entry kind_sorted plain_sorted entry_sorted (args_sorted1 _) ?_;unfold Builtin.«sorted»;refine ao (m:=checkCount "sorted" 1 1 _) (aH (ao (Jv (I.ok.hd hc) sys ⟨o,g,c,dd⟩ (by omega) fun h1 tk acc k1 hk=>?_)))
 have Bd:acc.toList=es.toList.map (·.key):=hk;rw [←Bd] at ia;have sl:acc.toList.length≤sizeLine:=by rw [Bd,ba,e8,jG];omega
 refine ao (wpAny_newList ?_ sl);have I1:Inv X pins σ H {s with heap:=h1,toks:=tk}:=I.kept (t':=tk) k1;generalize acc.toList=ak at ia sl;have gL:(h1.push (seqObj "list" ak.toArray 0)).get? h1.objs.size=some (seqObj "list" ak.toArray 0):=bZ _ rfl;show wpAny _ _ _ _ _ {s with heap:=h1.push (seqObj "list" ak.toArray 0),toks:=tk};have hl:ak.length=ks.length:=by
  have:∀{u:List Value} {m:List Int},IntsAre u m→u.length=m.length:=fun{u m} q=>by
   induction q with
   | nil=>rfl
   | cons _ _ _ ih=>rw [dm,dm,ih]
  have:=this ia;rw [ba] at this;exact this
 refine ao (ic (ie slot_list_sort ⟨_,gL,rfl⟩ entry_list_sort (list_sort_tree (s:={s with heap:=h1.push (seqObj "list" ak.toArray 0),toks:=tk}) gL ia (by omega) fun out gz a1 a2 a3=>⟨_,rfl,?_⟩) (args_list_sort _)))
 obtain ⟨e,he⟩:=sortedHeap_at (out:=out) gL;refine aH ⟨_,rfl,.ref h1.objs.size,_,I1.laid (t':=tk) (o:=.lst (gz.map .int)) (fun b u gb=>?_) (aC _) ⟨?_,out.toList,e,xf a1,?_⟩,rfl,k gz _ a2 a3 (I1.aA.fresh (aC _))⟩
 ·have lt:=a0 gb
  rw [sortedHeap_old (bV lt) (by rw [size_push'];exact pb lt)]
  exact a8 _ gb
 ·rw [ba,a2.length_eq,ba]
  rw [jG];omega
 ·simpa using he
end L2
namespace My
open PySem L2 Classical
def Be:R2:=fun x y H Q=>∃(b lt:Addr) (us:List V) (L:aK) (p:Int×Int),x=.ref b∧y=.ref lt∧H b=some (.tup [.int p.1,.int p.2])∧H lt=some (.tup us)∧aT H us L∧Q (.bl (decide (p∈L))) H
variable {X:Cx}
theorem Jz(hu:X.A.units+64<cLine):bI X (compareOp .In) Be:=by
 intro pins s σ H x y v u Q I rx ry h;obtain ⟨b,lt,us,L,p,rfl,rfl,hb,hl,hL,q⟩:=h;cases rx;cases ry;obtain ⟨ak,rv,t1,_⟩:=I.tuple (.of hl);have at':∀(i:Nat) (v:Value),ak[i]?=some v→∃b' q',v=.ref b'∧H b'=some (.tup [.int (q':Int×Int).1,.int q'.2])∧L[i]?=some q':=fun i v hi=>by
  have hlen:=rv.length;have aS:=(cg.mp hi).1;have xo:i<L.length:=by rw [←hL.1];omega
  have Bf:us[i]?=some us[i]:=bX (by omega)
  obtain ⟨b',e1,e2⟩:=hL.2 i us[i] L[i] Bf (bX xo);obtain ⟨w',ew,j8⟩:=rv.get Bf;rw [hi] at ew;cases ew;rw [e1] at j8;exact ⟨b',L[i],j8,e2,bX xo⟩
 let e:Value→Bool:=fun v=>decide (∃b',v=.ref b'∧H b'=some (.tup [.int p.1,.int p.2]))
 have ev:∀{b':Addr} {q':Int×Int},H b'=some (.tup [.int q'.1,.int q'.2])→e (.ref b')=decide (q'=p):=fun{b' q'} h=>by
  show decide _=decide _;refine rq.mpr ⟨fun⟨b2,e1,e2⟩=>?_,fun h'=>⟨b',rfl,by rw [h,h']⟩⟩
  cases e1;rw [h] at e2;simp only [Option.some.injEq,HO.tup.injEq,List.cons.injEq,V.int.injEq,and_true] at e2;exact Prod.ext e2.1 e2.2
 refine SeqAt.in_tupleAt e t1 (fun y hy=>?_) ?_
 ·obtain ⟨i,hi⟩:=mX (by simpa using hy)
  obtain ⟨b',q',rfl,e2,_⟩:=at' i y hi;rw [ev e2];exact Iy I (by rw [Around.in1_units];omega) e2 hb
 ·have:ak.toArray.any e=decide (p∈L):=by
   rw [List.any_toArray];cases hd:decide (p∈L) with
   | true=>
    obtain ⟨i,hi⟩:=mX (e_ hd);have xo:=(cg.mp hi).1;have Bg:i<ak.length:=by have:=rv.length;have:=hL.1;omega
    obtain ⟨b',q',e1,e2,e3⟩:=at' i ak[i] (bX Bg);rw [hi] at e3;cases e3;refine List.any_eq_true.mpr ⟨ak[i],dw Bg,?_⟩;rw [e1,ev e2];exact bg rfl
   | false=>rw [List.any_eq_false];intro v hv;obtain ⟨i,hi⟩:=mX hv;obtain ⟨b',q',rfl,e2,e3⟩:=at' i v hi;rw [ev e2];intro h;have:=e_ h;subst this;exact of_decide_eq_false hd (mJ e3)
  rw [this];exact ⟨.bl _,H,I,rfl,q⟩
theorem JA{K:aG}(hu:X.A.units+64<cLine)(ON:X.K=K:=by rfl):bI X (compareOp .In) Be:=Jz hu
def JB(K:aG):R2:=fun x y H Q=>∃a b xs,x=.ref a∧y=.ref b∧bx K H a xs∧H b=some (.tup [])∧Q (.bl (!xs.isEmpty)) H
theorem JD(hu:X.A.units+64<cLine):bI X (compareOp .NotEq) (JB X.K):=by
 intro pins s σ H x y v u Q I rx ry h;obtain ⟨a,b,xs,rfl,rfl,h1,h2,q⟩:=h;cases rx;cases ry;obtain ⟨us,r1,t1,_⟩:=I.tuple h1;obtain ⟨vs,r2,t2,_⟩:=I.tuple (bx.of h2);have l1:=r1.length;have l2:=r2.length;have v0:vs=[]:=rB.mp (by simpa using l2.symm)
 subst v0;refine SeqAt.RcNeAt.tuples (e:=fun _=>true) t1 t2 (by omega) (fun j z1 z2=>?_) _ _ _ _ ?_
 ·simp at z2
 ·have:(!((List.range (min us.toArray.size ([]:List Value).toArray.size)).all (fun _=>true) && us.toArray.size == ([]:List Value).toArray.size)) = !xs.isEmpty:=by
   cases xs with
   | nil=>
    have:us=[]:=rB.mp (by simpa using l1.symm)
    subst this;rfl
   | cons w ws=>
    cases us with
    | nil=>simp at l1
    | cons u us=>simp
  rw [this];exact ⟨.bl _,H,I,rfl,q⟩
open PySem L2
def cC(n:Nat):V→Bool
 | .int z=>decide (0≤z∧z<(n:Int))
 | _=>false
def JE:Sp:=fun vs H Q _=>∃(v:V) (n:Nat),vs=[v,.int (n:Int)]∧Any H v∧Q (.bl (cC n v)) H
variable {n:Nat}
theorem Bh{v:V}(h:cC n v=true):∃z:Int,v=.int z∧0≤z∧z<(n:Int):=by
 cases v with
 | int z=>exact ⟨z,rfl,e_ h⟩
 | _=>cases h
inductive gH (H:Hp):V→Prop where
 | other {v:V} (h:Any H v) (t:kf H v=false):gH H v
 | many {a:Addr} {xs:List V} (e:H a=some (.tup xs)) (l:xs.length≠2):gH H (.ref a)
 | two {a:Addr} {x y:V} (e:H a=some (.tup [x,y])) (hx:Any H x) (hy:Any H y):gH H (.ref a)
variable {H:Hp} {a:Addr} {o:HO} {b:Bool}
theorem fD(e:H a=some o)(h:(match some o with | some (.tup _)=>true | _=>false)=b):kf H (.ref a)=b:=by
 show (match H a with | some (.tup _)=>true | _=>false)=b
 rw [e];exact h
variable {H':Hp}
theorem gH.mono{v:V}(h:gH H v)(s:ai H H'):gH H' v:=by
 cases h with
 | other h t=>
  refine .other (h.mono s) ?_;cases h with
  | lst e=>exact fD (s _ _ e) rfl
  | tup e=>rw [fD e rfl] at t;cases t
  | fj e=>exact fD (s _ _ e) rfl
  | _=>rfl
 | many e l=>exact .many (s _ _ e) l
 | two e hx hy=>exact .two (s _ _ e) (hx.mono s) (hy.mono s)
def ltV:V→V→Bool
 | .int i,.int j=>decide (i<j)
 | _,_=>false
def eV(H:Hp)(n:Nat):V→Bool
 | .ref a=>(match H a with | some (.tup [x,y])=>cC n x && (cC n y && ltV x y) | _=>false)
 | _=>false
def JF:Sp:=fun vs H Q _=>∃(v:V) (n:Nat),vs=[v,.int (n:Int)]∧gH H v∧Q (.bl (eV H n v)) H
theorem t_(e:H' a=some o)(e':H a=some o):eV H' n (.ref a)=eV H n (.ref a):=by
 show (match H' a with | some (.tup [x,y])=>cC n x && (cC n y && ltV x y) | _=>false)=(match H a with | some (.tup [x,y])=>cC n x && (cC n y && ltV x y) | _=>false)
 rw [e,e']
theorem dG(e:H a=some o)(h:(match some o with | some (.tup [x,y])=>cC n x && (cC n y && ltV x y) | _=>false)=b):eV H n (.ref a)=b:=by
 show (match H a with | some (.tup [x,y])=>cC n x && (cC n y && ltV x y) | _=>false)=b
 rw [e];exact h
theorem Bi{v:V}(h:gH H v)(s:ai H H'):eV H' n v=eV H n v:=by
 cases h with
 | other h t=>
  cases h with
  | lst e=>exact t_ (s _ _ e) e
  | tup e=>rw [fD e rfl] at t;cases t
  | fj e=>exact t_ (s _ _ e) e
  | _=>rfl
 | many e l=>exact t_ (s _ _ e) e
 | two e hx hy=>exact t_ (s _ _ e) e
def iL(L:aK):Bool:=(L.zip (L.drop 1)).all fun z=>HT.lexLt [z.1.1,z.1.2] [z.2.1,z.2.2]
def JG:Sp:=fun vs H Q _=>∃(lt:Addr) (us:List V) (L:aK),vs=[.ref lt]∧H lt=some (.tup us)∧aT H us L∧L.length≤1000∧∀H',ai H H'→Q (.bl (iL L)) H'
variable {q:Int×Int}
theorem JH{p:Int×Int}(h:¬lexLt p q):HT.lexLt [p.1,p.2] [q.1,q.2]=false:=by
 unfold lexLt at h;rw [HT.pW];by_cases e:p.1=q.1
 ·rw [aj e,HT.pW]
  by_cases e2:p.2=q.2
  ·rw [aj e2]
   rfl
  ·rw [ae e2]
   exact bp (by omega)
 ·rw [ae e]
  exact bp (by omega)
theorem ua{A B:aK}{p:Int×Int}(h:¬lexLt p q):iL (A++p::q::B)=false:=by
 unfold iL;rw [List.all_eq_false];refine ⟨(p,q),?_,by rw [JH h];simp⟩
 refine mJ (i:=A.length) (pD.mpr ⟨?_,?_⟩)
 ·rw [dO (aC _),mN]
  rfl
 ·rw [mS,dO (by omega),show 1+A.length-A.length=1 by omega]
  rfl
variable {L:aK}
theorem JI(h:L.Pairwise lexLt):iL L=true:=by unfold iL;rw [rj];intro z hz;obtain ⟨i,hi⟩:=mX hz;obtain ⟨h1,h2⟩:=pD.mp hi;rw [mS] at h2;have i1:=(cg.mp h2);have i0:=(cg.mp h1);rw [←i0.2,←i1.2];exact IV (o7.mp h i (1+i) i0.1 i1.1 (by omega))
inductive cX (H:Hp) (n:Nat):V→Bool→Prop where
 | other {v:V} (h:Any H v) (t:kf H v=false):cX H n v false
 | bad {a:Addr} {us:List V} (e:H a=some (.tup us)) (l:us.length≤1000) (h:∀v∈us,gH H v) {w:V} (hw:w∈us) (b:eV H n w=false):cX H n (.ref a) false
 | links {a:Addr} {us:List V} {L:aK} (e:H a=some (.tup us)) (hL:aT H us L) (l:L.length≤1000) (ok:∀z∈L,0≤z.1∧z.1<z.2∧z.2<(n:Int)):cX H n (.ref a) (iL L)
def JJ:Sp:=fun vs H Q _=>∃(v:V) (n:Nat) (r:Bool),vs=[v,.int (n:Int)]∧cX H n v r∧∀H',ai H H'→Q (.bl r) H'
inductive dH (H:Hp):V→Bool→Prop where
 | other {v:V} (h:Any H v) (t:kf H v=false):dH H v false
 | many {a:Addr} {xs:List V} (e:H a=some (.tup xs)) (l:xs.length≠2):dH H (.ref a) false
 | whole {a:Addr} {x y:V} (e:H a=some (.tup [x,y])) (hx:Any H x) (hi:jj x=false):dH H (.ref a) false
 | size {a:Addr} {z:Int} {y:V} (e:H a=some (.tup [.int z,y])) (hz:¬(1≤z∧z≤60)):dH H (.ref a) false
 | links {a:Addr} {n:Nat} {y:V} {r:Bool} (e:H a=some (.tup [.int (n:Int),y])) (n1:1≤n) (xp:n≤60) (h:cX H n y r):dH H (.ref a) r
def JK:Sp:=fun vs H Q _=>∃(v:V) (r:Bool),vs=[v]∧dH H v r∧∀H',ai H H'→Q (.bl r) H'
theorem cX.mono{v:V}{r:Bool}(h:cX H n v r)(s:ai H H'):cX H' n v r:=by
 cases h with
 | other h t=>
  have:=(gH.other h t).mono s;cases this with
  | other h' t'=>exact .other h' t'
  | many e l=>
   cases h with
   | lst e'=>rw [s _ _ e'] at e;cases e
   | tup e'=>rw [fD e' rfl] at t;cases t
   | fj e'=>rw [s _ _ e'] at e;cases e
  | two e _ _=>
   cases h with
   | lst e'=>rw [s _ _ e'] at e;cases e
   | tup e'=>rw [fD e' rfl] at t;cases t
   | fj e'=>rw [s _ _ e'] at e;cases e
 | bad e l h hw b=>exact .bad (s _ _ e) l (fun v hv=>(h v hv).mono s) hw (by rw [Bi (h _ hw) s];exact b)
 | links e hL l ok=>exact .links (s _ _ e) (hL.mono s) l ok
def JL:Sp:=fun vs H Q _=>∃(t:Addr) (n:Nat) (L:aK) (p:Nat),vs=[.ref t,.int (p:Int)]∧fB H t n L∧tQ n L∧n≤30∧p<n ∧
 ∀(H':Hp) (D:Addr) (ws:List Int) (f:List Nat),ai H H'→H D=none→H' D=some (.lst (ws.map V.int))→ws.Perm (f.map fun k:Nat=>(k:Int))→ws.Pairwise (·≤·)→gG n f→(∀q,q∈f↔((p:Int),(q:Int))∈L∨((q:Int),(p:Int))∈L)→Q (.ref D) H'
variable {f:List Nat}
theorem xq(h:gG n f):f.length≤n:=by
 have h1:((List.range n).filter fun p=>decide (p∈f)).Perm f:=(vp (pd.filter _) h.1).mpr fun x=>by rw [oT,gN,jN];exact ⟨fun h=>h.2,fun hx=>⟨h.2 x hx,hx⟩⟩
 rw [←h1.length_eq];exact cf (List.length_filter_le ..) (by simp)
theorem Bj{g:Nat→Nat→Nat}(h:∀x y,g x y=g y x):∀j,p2 g (List.range j)=((List.range j).map fun b=>((List.range b).map fun a=>g b a).sum).sum
 | 0=>rfl
 | j+1=>by
  have pm:(List.range (j+1)).Perm (j::List.range j):=by rw [jK];exact kG
  rw [A1 h pm,jK,iZ,rO,←Bj h j];show ((List.range j).map (g j)).sum+p2 g (List.range j)=_;simp [Nat.add_comm]
theorem JM(L:aK)(k:Nat):p3 (cm (rL L)) (List.range (k+1))=p3 (cm (rL L)) (List.range k)+((List.range k).map fun b=>((List.range b).map fun a=>cm (rL L) a b k).sum).sum:=by
 have pm:(List.range (k+1)).Perm (k::List.range k):=by rw [jK];exact kG
 rw [IW (Jc L) (Jd L) pm];show p2 (cm (rL L) k) (List.range k)+p3 (cm (rL L)) (List.range k)=_;have sy:∀x y z,cm (rL L) x y z=cm (rL L) z y x:=fun x y z=>by unfold cm;rw [nL L x y,nL L x z,nL L y z];cases rL L y x <;> cases rL L z x <;> cases rL L z y <;> rfl
 rw [Bj (fun x y=>by unfold cm;rw [nL L x y];cases rL L k x <;> cases rL L k y <;> rfl) k,Nat.add_comm]
 congr 2
 exact mP fun b _=>by
  congr 1
  exact mP fun a _=>sy k b a
variable {k:Nat}
theorem JN(lt:∀z∈L,0≤z.1∧z.1<z.2∧z.2<(n:Int)){i j:Nat}(ij:i<j)(jk:j<k):((cm (rL L) i j k:Nat):Int)=if (decide (((i:Int),(j:Int))∈L) && (decide (((i:Int),(k:Int))∈L) && decide (((j:Int),(k:Int))∈L)))=true then 1 else 0:=by
 have no:∀a b:Nat,a<b→decide (((b:Int),(a:Int))∈L)=false:=fun a b h=>bp fun hm=>by have:=lt _ hm;dsimp only at this;omega
 unfold cm rL;rw [no i j ij,no i k (by omega),no j k jk,pF,pF,pF,Bool.and_assoc]
 split <;> rfl
def JO:Sp:=fun vs H Q _=>∃(t:Addr) (n:Nat) (L:aK),vs=[.ref t]∧fB H t n L∧L.Nodup∧(∀z∈L,0≤z.1∧z.1<z.2∧z.2<(n:Int))∧n≤30∧L.length≤500∧∀H',ai H H'→Q (.bl true) H'
structure dt (L:aK) (p k:Nat) (zs:List Int):Prop where
 bA:zs.length≤k
 is:zs=(L.take k).filterMap fun z=>if z.1=(p:Int) then some z.2 else if z.2=(p:Int) then some z.1 else none
variable {p:Nat}
theorem dt.start:dt L p 0 []:=⟨aC _,rfl⟩
theorem dt.take(hk:k<L.length):L.take (k+1)=L.take k++[L[k]]:=by rw [pj,bX hk];rfl
variable {zs:List Int}
theorem dt.fst(h:dt L p k zs)(hk:k<L.length)(e:L[k].1=(p:Int)):dt L p (k+1) (zs++[L[k].2]):=by
 refine ⟨by simp;exact h.bA,?_⟩
 rw [dt.take hk,vt,←h.is];simp [e]
theorem dt.snd(h:dt L p k zs)(hk:k<L.length)(e:L[k].2=(p:Int))(ne:L[k].1≠(p:Int)):dt L p (k+1) (zs++[L[k].1]):=by
 refine ⟨by simp;exact h.bA,?_⟩
 rw [dt.take hk,vt,←h.is];simp [e,ne]
theorem dt.skip(h:dt L p k zs)(hk:k<L.length)(e:L[k].1≠(p:Int))(e2:L[k].2≠(p:Int)):dt L p (k+1) zs:=by refine ⟨Nat.le_succ_of_le h.bA,?_⟩;rw [dt.take hk,vt,←h.is];simp [e,e2]
theorem dt.perm(h:dt L p L.length zs)(lt:∀z∈L,0≤z.1∧z.1<z.2∧z.2<(n:Int))(nd:L.Nodup)(pl:gG n f)(nb:∀q,q∈f↔((p:Int),(q:Int))∈L∨((q:Int),(p:Int))∈L):zs.Perm (f.map fun k:Nat=>(k:Int)):=by
 have hz:=h.is;rw [mU] at hz;have JP:zs.Nodup:=by
  rw [hz,rP,List.pairwise_filterMap];refine (rP.mp nd).imp_of_mem fun{a b} ha hb ne x hx y hy e=>?_;have la:=lt a ha;have lb:=lt b hb;subst e;have sp:∀{z:Int×Int},(if z.1=(p:Int) then some z.2 else if z.2=(p:Int) then some z.1 else none)=some x→(z=((p:Int),x))∨z=(x,(p:Int)):=fun{z} hz=>by
   by_cases c:z.1=(p:Int)
   ·rw [aj c] at hz
    exact .inl (Prod.ext c (Option.some.inj hz))
   ·rw [ae c] at hz
    by_cases c2:z.2=(p:Int)
    ·rw [aj c2] at hz
     exact .inr (Prod.ext (Option.some.inj hz) c2)
    ·rw [ae c2] at hz
     cases hz
  rcases sp hx with h1 | h1 <;> rcases sp hy with h2 | h2;·exact ne (h1.trans h2.symm)
  ·subst h1 h2
   dsimp only at la lb;omega
  ·subst h1 h2
   dsimp only at la lb;omega
  ·exact ne (h1.trans h2.symm)
 have JQ:(f.map fun k:Nat=>(k:Int)).Nodup:=by rw [rP,List.pairwise_map];exact (rP.mp pl.1).imp fun ne e=>ne (by omega)
 refine (vp JP JQ).mpr fun x=>?_;rw [hz,List.mem_filterMap,ik];constructor
 ·rintro ⟨z,hz,e⟩
  have lz:=lt z hz;by_cases c:z.1=(p:Int)
  ·rw [aj c] at e
   have e:=Option.some.inj e;obtain ⟨q,hq⟩:=dQ (show 0≤x by omega)
   refine ⟨q,(nb q).mpr (.inl ?_),hq.symm⟩;rw [show ((p:Int),(q:Int))=z from Prod.ext c.symm (by dsimp only;omega)]
   exact hz
  ·rw [ae c] at e
   by_cases c2:z.2=(p:Int)
   ·rw [aj c2] at e
    have e:=Option.some.inj e;obtain ⟨q,hq⟩:=dQ (show 0≤x by omega)
    refine ⟨q,(nb q).mpr (.inr ?_),hq.symm⟩;rw [show ((q:Int),(p:Int))=z from Prod.ext (by dsimp only;omega) c2.symm]
    exact hz
   ·rw [ae c2] at e
    cases e
 ·rintro ⟨q,hq,rfl⟩
  rcases (nb q).mp hq with h | h;·exact ⟨_,h,by simp⟩
  ·have:=lt _ h
   dsimp only at this;exact ⟨_,h,by rw [ae (by dsimp only;omega),aj rfl]⟩
end My
namespace L2
open PySem PySem.Spec PyProof.Rows
theorem boot_str:bootBuiltins "str"=some (.type "str"):=by decide +kernel
end L2
namespace My
open PySem L2
variable {H H':Hp}
theorem dH.mono{v:V}{r:Bool}(h:dH H v r)(s:ai H H'):dH H' v r:=by
 cases h with
 | other h t=>
  have:=(cX.other (n:=0) h t).mono s;generalize hb:false=b at this;cases this with
  | other h' t'=>exact hb▸.other h' t'
  | bad e l _ _ _=>
   cases h with
   | lst e'=>rw [s _ _ e'] at e;cases e
   | tup e'=>rw [fD e' rfl] at t;cases t
   | fj e'=>rw [s _ _ e'] at e;cases e
  | links e _ _ _=>
   cases h with
   | lst e'=>rw [s _ _ e'] at e;cases e
   | tup e'=>rw [fD e' rfl] at t;cases t
   | fj e'=>rw [s _ _ e'] at e;cases e
 | many e l=>exact .many (s _ _ e) l
 | whole e hx hi=>exact .whole (s _ _ e) (hx.mono s) hi
 | size e hz=>exact .size (s _ _ e) hz
 | links e n1 xp h=>exact .links (s _ _ e) n1 xp (h.mono s)
def JR(K:aG):Sp:=fun vs H Q _=>∃(P a tp:Addr) (ns:List Int) (n:Nat) (L:aK),vs=[.ref P,.ref tp]∧bu H P a∧bq K (er P H) a (ns.map V.int)∧tp≠P∧fB H tp n L∧L.Pairwise lexLt∧(∀z∈L,0≤z.1∧z.1<z.2∧z.2<(n:Int))∧1≤n∧n≤14∧L.length≤200 ∧
 ∀(l:Addr) (xs:List V) (H':Hp),aE P H H'→bu H' P a→l≠P→H' l=some (.lst xs)→xs.length≤20→(∀v∈xs,dH H' v false)→Q (.ref l) H'
variable {n k:Nat} {r:Addr} {us:List V} {L:aK}
theorem cX.among{v:V}(e:H r=some (.tup (us.take k++[v]++us.drop k)))(hL:aT H us L)(l:L.length≤200)(hv:gH H v)(b:eV H n v=false):cX H n (.ref r) false:=by
 have lu:=hL.1;refine .bad e (by simp;omega) (fun w hw=>?_) (w:=v) (by simp) b
 have:w=v∨w∈us:=by
  rw [d8,d8,e9] at hw;rcases hw with (h | h) | h;·exact .inr (o6 h)
  ·exact .inl h
  ·exact .inr (rn h)
 rcases this with rfl | hw;·exact hv
 ·obtain ⟨i,hi⟩:=mX hw
  have aS:i<L.length:=by rw [←lu];exact (cg.mp hi).1
  obtain ⟨c,rfl,ec⟩:=hL.2 i w L[i] hi (bX aS);exact .two ec (.int _) (.int _)
theorem cX.xr(e:H r=some (.tup us))(hL:aT H us L)(l:L.length≤1000)(ok:∀z∈L,0≤z.1∧z.1<z.2∧z.2<(n:Int))(f:iL L=false):cX H n (.ref r) false:=f▸.links e hL l ok
theorem JS(pw:L.Pairwise lexLt)(ne:L≠[]):iL (L++L.take 1)=false:=by
 obtain ⟨A,q,rfl⟩:∃A q,L=A++[q]:=⟨L.dropLast,L.getLast ne,(List.dropLast_concat_getLast ne).symm⟩;cases A with
 | nil=>exact ua (A:=[]) (B:=[]) (fun h=>by unfold lexLt at h;omega)
 | cons x A=>
  have h1:lexLt x q:=(List.pairwise_append.mp pw).2.2 x (by simp) q (by simp)
  have:(x::A++[q])++(x::A++[q]).take 1=(x::A)++q::x::[]:=by simp
  rw [this];exact ua (fun h=>by unfold lexLt at h h1;omega)
theorem JT(ne:L≠[]):iL (L.take 1++L)=false:=by
 cases L with
 | nil=>exact absurd rfl ne
 | cons x L=>exact ua (A:=[]) (B:=L) (fun h=>by unfold lexLt at h;omega)
theorem JU(pw:L.Pairwise lexLt)(l:1<L.length):iL (L.drop 1++L.take 1)=false:=by
 match L,l with
 | x::y::L,_=>
  obtain ⟨A,q,e⟩:∃A q,y::L=A++[q]:=⟨(y::L).dropLast,(y::L).getLast (by simp),(List.dropLast_concat_getLast (by simp)).symm⟩
  have h1:lexLt x q:=(mV.mp pw).1 q (by rw [e];simp)
  have:(x::y::L).drop 1++(x::y::L).take 1=A++q::x::[]:=by show (y::L)++[x]=_;rw [e];simp
  rw [this];exact ua (fun h=>by unfold lexLt at h h1;omega)
variable {fd:Addr} {xs ys:List V}
theorem jw{b:Addr}(e:H b=some (.tup xs))(f:H fd=some (.lst ys)):er fd H b=some (.tup xs):=qk (fun z=>by rw [z,f] at e;cases e) e
theorem aT.ub(h:aT H us L)(f:H fd=some (.lst ys)):aT (My.er fd H) us L:=⟨h.1,fun k v p h1 h2=>by obtain ⟨b,e1,e2⟩:=h.2 k v p h1 h2;exact ⟨b,e1,jw e2 f⟩⟩
theorem JV(s:ai H H'):ai (er fd H) (er fd H'):=fun b o q=>by
 by_cases z:b=fd
 ·rw [z] at q
  unfold er at q;rw [aj rfl] at q;cases q
 ·rw [cV z] at q ⊢
  exact s _ _ q
theorem aT.tk(h:aT H us L)(k:Nat):aT H (us.take k) (L.take k):=⟨by rw [iV,iV,h.1],fun i v p h1 h2=>by
 rw [List.getElem?_take] at h1 h2;by_cases e:i<k
 ·rw [aj e] at h1 h2
  exact h.2 i v p h1 h2
 ·rw [ae e] at h1
  cases h1⟩
theorem aT.dp(h:aT H us L)(k:Nat):aT H (us.drop k) (L.drop k):=⟨by rw [jH,jH,h.1],fun i v p h1 h2=>by rw [mS] at h1 h2;exact h.2 _ v p h1 h2⟩
theorem cX.last(e:H r=some (.tup us))(hL:aT H us L)(l:L.length≤200)(ne:L≠[])(h0:0≤(L.getLast ne).2):cX H (L.getLast ne).2.toNat (.ref r) false:=by
 have lu:=hL.1;have lp:0<L.length:=List.length_pos_iff.mpr ne;have two:∀(i:Nat) (w:V),us[i]?=some w→∃c,w=.ref c∧∃h:i<L.length,H c=some (.tup [.int L[i].1,.int L[i].2]):=fun i w hi=>by
  have aS:i<L.length:=by rw [←lu];exact (cg.mp hi).1
  obtain ⟨c,rfl,ec⟩:=hL.2 i w L[i] hi (bX aS);exact ⟨c,rfl,aS,ec⟩
 have JW:us[L.length-1]?=some us[L.length-1]:=bX (by omega)
 refine .bad e (by omega) (fun w hw=>?_) (w:=us[L.length-1]) (dw _) ?_
 ·obtain ⟨i,hi⟩:=mX hw
  obtain ⟨c,rfl,_,ec⟩:=two i w hi;exact .two ec (.int _) (.int _)
 ·obtain ⟨c,ew,_,ec⟩:=two _ _ JW
  rw [ew];refine dG ec ?_;have eg:L[L.length-1]=L.getLast ne:=(List.getLast_eq_getElem ne).symm;rw [eg];show (cC _ _ && (decide (0≤(L.getLast ne).2∧(L.getLast ne).2<(((L.getLast ne).2.toNat:Nat):Int)) && _))=false;rw [bp (show ¬(0≤(L.getLast ne).2∧(L.getLast ne).2<(((L.getLast ne).2.toNat:Nat):Int)) by omega)]
  simp
theorem JX(xs:List V):cM xs none none=xs:=by unfold cM;simp [HT.aO]
structure iM (P a:Addr) (I:Hp) (fd:Addr) (H:Hp) (m:Nat) (xs:List V):Prop where
 same:ai I H
 eM:bu H P a
 at':H fd=some (.lst xs)
 bA:xs.length≤m
 all:∀v∈xs,dH (er fd H) v false
variable {P a:Addr} {I:Hp} {m:Nat}
theorem iM.push{v:V}(h:iM P a I fd H m xs)(s:ai H H')(cJ:I fd=none)(lO:fd≠P)(e:dH (er fd H') v false):iM P a I fd (upd H' fd (.lst (xs++[v]))) (m+1) (xs++[v]):=by
 have es:ai (er fd H) (er fd H'):=fun b o q=>by
  by_cases z:b=fd
  ·rw [z] at q
   unfold er at q;rw [aj rfl] at q;cases q
  ·rw [cV z] at q ⊢
   exact s _ _ q
 refine ⟨fu (h.same.trans s) cJ,(h.eM.mono s).upd lO,ax,by simp;exact h.bA,fun w hw=>?_⟩
 rw [wy];rcases d8.mp hw with q | q;·exact (h.all w q).mono es
 ·rw [e9.mp q]
  exact e
theorem iM.weak(h:iM P a I fd H m xs)(mk:m≤k):iM P a I fd H k xs:=⟨h.same,h.eM,h.at',cf h.bA mk,h.all⟩
end My
set_option maxRecDepth 100000
set_option maxHeartbeats 4000000
namespace My
open PySem L2
def top(i:Nat):Stmt:=PySem.Challenge.pw_bandwright_k15_shapes_of_anything.main.body.getD i (.Pass ⟨0,0,0,0⟩)
abbrev uc:Stmt:=top 1
abbrev ud:Stmt:=top 2
abbrev ue:Stmt:=top 5
abbrev uf:Stmt:=top 6
abbrev ug:Stmt:=top 7
abbrev uh:Stmt:=top 8
abbrev uj:Stmt:=top 9
abbrev um:Stmt:=top 10
abbrev uo:Stmt:=top 11
abbrev uq:Stmt:=top 13
abbrev ur:Stmt:=top 14
abbrev uu:Stmt:=top 15
abbrev uv:Stmt:=top 16
abbrev uw:Stmt:=top 17
abbrev ux:Stmt:=top 18
abbrev uy:Stmt:=top 19
abbrev uz:Stmt:=top 20
abbrev uA:Stmt:=top 21
abbrev uB:Stmt:=top 22
abbrev uC:Stmt:=top 23
set_option genInjectivity false in
set_option genSizeOf false in
structure xt where
 lQ:Addr
 nN:FuncData
 lR:Addr
 nO:FuncData
 lS:Addr
 nQ:FuncData
 lT:Addr
 nR:FuncData
 lU:Addr
 nS:FuncData
 lW:Addr
 nU:FuncData
 lY:Addr
 nV:FuncData
 lZ:Addr
 nW:FuncData
 l6:Addr
 nX:FuncData
 l7:Addr
 nY:FuncData
 l8:Addr
 nZ:FuncData
 l9:Addr
 n4:FuncData
 l_:Addr
 n5:FuncData
 ma:Addr
 n6:FuncData
 md:Addr
 n8:FuncData
 me:Addr
 n_:FuncData
 mf:Addr
 og:FuncData
 mh:Addr
 oh:FuncData
 mj:Addr
 oi:FuncData
 kr:Addr
 ml:FuncData
abbrev dg (mg:bY) (x:Str) (f:Addr):Prop:=mg x=some (.ref f)
abbrev OO (K:aG) (a:Addr):Prop:=PySem.W.excIn K a [.type "ValueError",.type "Exception",.type "BaseException",.type "object"] "ValueError.__new__"=true
structure Txt (K:aG) (mg:bY) (t:xt):Prop where
 mq:bj K "is_whole" uc t.lQ t.nN
 xu:Binds K t.nN ["thing"] []
 xv:dg mg "is_whole" t.lQ
 oj:bj K "is_rising" ud t.lR t.nO
 Bk:Binds K t.nO ["things"] []
 Bl:dg mg "is_rising" t.lR
 mr:bj K "is_place" ue t.lS t.nQ
 xw:Binds K t.nQ ["thing","n"] []
 xx:dg mg "is_place" t.lS
 om:bj K "is_link" uf t.lT t.nR
 Bm:Binds K t.nR ["thing","n"] []
 Bn:dg mg "is_link" t.lT
 oo:bj K "are_links" ug t.lU t.nS
 Bo:Binds K t.nS ["thing","n"] []
 Bp:dg mg "are_links" t.lU
 iN:bj K "is_shape" uh t.lW t.nU
 oq:Binds K t.nU ["thing"] []
 ot:dg mg "is_shape" t.lW
 mw:bj K "neighbours" uj t.lY t.nV
 xy:Binds K t.nV ["shape"] []
 xA:dg mg "neighbours" t.lY
 ou:bj K "near" um t.lZ t.nW
 Bq:Binds K t.nW ["shape","place"] []
 Br:dg mg "near" t.lZ
 oz:bj K "triangles" uo t.l6 t.nX
 Bs:Binds K t.nX ["shape"] []
 Bt:dg mg "triangles" t.l6
 oA:bj K "_law_fill" uq t.l7 t.nY
 Bu:Binds K t.nY ["_law_cell","_law_at"] []
 Bv:dg mg "_law_fill" t.l7
 dZ:bj K "_law_next" ur t.l8 t.nZ
 fY:Binds K t.nZ ["_law_pen","_law_many"] []
 fZ:dg mg "_law_next" t.l8
 oB:bj K "_law_turned" uu t.l9 t.n4
 Bw:Binds K t.n4 ["_law_pen","_law_some"] []
 Bx:dg mg "_law_turned" t.l9
 oC:bj K "_law_tied_by" uv t.l_ t.n5
 By:Binds K t.n5 ["_law_pen","_law_way","_law_size","_law_wide","_law_i","_law_j"] []
 Bz:dg mg "_law_tied_by" t.l_
 oD:bj K "_law_grown_links" uw t.ma t.n6
 BA:Binds K t.n6 ["_law_pen","_law_size"] []
 BB:dg mg "_law_grown_links" t.ma
 oE:bj K "_law_drawn" ux t.md t.n8
 BC:Binds K t.n8 ["_law_pen","_law_most"] []
 BD:dg mg "_law_drawn" t.md
 oF:bj K "_law_named" uy t.me t.n_
 BE:Binds K t.n_ ["_law_size","_law_links","_law_names"] []
 BF:dg mg "_law_named" t.me
 oG:bj K "_law_spoilt" uz t.mf t.og
 BG:Binds K t.og ["_law_pen","_law_shape"] []
 BH:dg mg "_law_spoilt" t.mf
 oH:bj K "_law_threes" uA t.mh t.oh
 BI:Binds K t.oh ["_law_shape"] []
 BJ:dg mg "_law_threes" t.mh
 oI:bj K "_law_near_right" uB t.mj t.oi
 BK:Binds K t.oi ["_law_shape"] []
 BL:dg mg "_law_near_right" t.mj
 oJ:bj K "law" uC t.kr t.ml
 JY:Binds K t.ml ["script"] []
 BM:dg mg "law" t.kr
 iO:mg "len"=none
 ku:mg "isinstance"=none
 xB:mg "int"=none
 xC:mg "bool"=none
 qF:mg "tuple"=none
 qG:mg "list"=none
 gI:mg "range"=none
 uD:mg "all"=none
 BN:mg "min"=none
 BO:mg "max"=none
 uE:mg "sorted"=none
 BP:mg "zip"=none
 BQ:mg "str"=none
 BR:∃u,mg "MOST"=some u∧RelV (.int 60) u
section
variable {P:Program} {w:World} {K:aG} {mg:bY} {base:Heap} {t:xt}
theorem JZ:cw ["thing"] ["thing"] (bR uc):=c6
theorem BS(T:Txt K mg t):bT P w K mg base b_ 1 t.lQ t.nN ["thing"] F1:=by
 have S:=JZ;refine T.mq.c7 S (fun _ _ _ _ H _ Q _ hr h=>?_);obtain ⟨v,rfl,ha,k⟩:=h;refine ⟨_,(@aR _ _ _ (@bO _ _ _ _ (@i8 _ _ _ _ _ _ _ (cz (lC (K:=K)) rfl T.ku boot_isinstance (@aa _ _ _ _ _ (by rfl) (pv 0) (@aa _ _ _ _ _ (by rfl) (kP (v:=.ty "int") rfl T.xB boot_int rfl) au))) (@kS _ _ _ _ _ (@Dz _ _ _ _ (cz (lC (K:=K)) rfl T.ku boot_isinstance (@aa _ _ _ _ _ (by rfl) (pv 0) (@aa _ _ _ _ _ (by rfl) (kP (v:=.ty "bool") rfl T.xC boot_bool rfl) au)))))))),?_⟩
 obtain ⟨Ty,ty,k1,k2,_⟩:=ha.lB (K:=K);refine ⟨_,rfl,_,_,_,_,rfl,rfl,ty,k1,_,rfl,cG (fun h1=>?_) (fun h1=>?_)⟩
 ·refine ⟨_,rfl,_,_,_,_,rfl,rfl,ty,k2,_,rfl,?_⟩
  have e:(!nB v)=jj v:=by
   cases h2:nB v with
   | true=>rw [F0 h2];rfl
   | false=>rw [h2,pF] at h1;rw [h1];rfl
  show Q (.bl (!nB v)) H;rw [e];exact k
 ·have e:jj v=false:=by
   cases h2:jj v with
   | true=>rw [h2] at h1;exact absurd rfl h1
   | false=>rfl
  rw [e] at k;exact k
theorem J3:cw ["thing","n"] ["thing","n"] (bR ue):=c6
theorem BU(T:Txt K mg t):bT P w K mg base b_ 2 t.lS t.nQ ["thing","n"] JE:=by
 have S:=J3;refine T.mr.c7 S (fun _ _ _ _ H _ Q _ hr h=>?_);obtain ⟨v,n,rfl,av,k⟩:=h;refine ⟨_,(@aR _ _ _ (@bO _ _ _ _ (@i8 _ _ _ _ _ _ _ (cu (BS T) hr T.xv T.mq.kp T.xu bt (@aa _ _ _ _ _ (by rfl) (pv 0) au)) (@kS _ _ _ _ _ (y6 su sr ay (pv 0) (pv 1)))))),?_⟩
 refine ⟨_,rfl,v,rfl,av,_,rfl,cG (fun hi=>?_) (fun hi=>?_)⟩
 ·obtain ⟨z,rfl⟩:∃z:Int,v=.int z:=by
   cases v with
   | int z=>exact ⟨z,rfl⟩
   | _=>cases hi
  have k:Q (.bl (decide (0≤z∧z<(n:Int)))) H:=k;refine ⟨_,rfl,0,z,rfl,rfl,_,rfl,cG (fun h1=>?_) (fun h1=>?_)⟩
  ·refine ⟨_,rfl,z,(n:Int),rfl,rfl,?_⟩
   have xD:=e_ h1;rw [show decide (0≤z∧z<(n:Int))=decide (z<(n:Int)) by simp [xD]] at k
   exact k
  ·have xD:¬(0≤z):=fun e=>h1 (bg e)
   rw [show decide (0≤z∧z<(n:Int))=false by simp [xD]] at k
   exact k
 ·have e:jj v=false:=by
   cases h:jj v with
   | true=>exact absurd h hi
   | false=>rfl
  have e2:cC n v=false:=by
   cases v with
   | int z=>cases e
   | _=>rfl
  rw [e2] at k;exact k
theorem J4:cw ["thing","n"] ["thing","n"] (bR uf):=c6
theorem J5(T:Txt K mg t):bT P w K mg base b_ 3 t.lT t.nR ["thing","n"] JF:=by
 have S:=J4;refine T.om.c7 S (fun _ _ _ _ H _ Q _ hr h=>?_);obtain ⟨v,n,rfl,hv,k⟩:=h
 refine ⟨_,(@aM _ _ _ _ _ (@cL _ _ _ _ _ _ _ _ (PW.pt (@pw_or _ _ _ _ _ _ _ (@rX _ _ _ _ (m7 (cz (lC (K:=K)) rfl T.ku boot_isinstance (@aa _ _ _ _ _ (by rfl) (pv 0) (@aa _ _ _ _ _ (by rfl) (kP (v:=.ty "tuple") rfl T.qF boot_tuple rfl) au))))) (@pw_or1 _ _ _ _ (dA vT (cz jf rfl T.iO i4 (@aa _ _ _ _ _ (by rfl) (pv 0) au)) ay)))) (@aR _ _ _ (@bO _ _ _ _ dq)) cT)
  (@aR _ _ _ (@bO _ _ _ _ (@i8 _ _ _ _ _ _ _ (cu (BU T) hr T.xx T.mr.kp T.xw bt (@aa _ _ _ _ _ (by rfl) (bz dU (pv 0) ay) (@aa _ _ _ _ _ (by rfl) (pv 1) au))) (@i8 _ _ _ _ _ _ _ (cu (BU T) hr T.xx T.mr.kp T.xw bt (@aa _ _ _ _ _ (by rfl) (bz dU (pv 0) ay) (@aa _ _ _ _ _ (by rfl) (pv 1) au))) (@kS _ _ _ _ _ (jW sr (bz dU (pv 0) ay) (bz dU (pv 0) ay)))))))),?_⟩
 cases hv with
 | other av tv=>
  obtain ⟨Ty,ty,_,_,k3⟩:=av.lB (K:=K);rw [tv] at k3;refine bo ⟨_,rfl,_,_,_,_,rfl,rfl,ty,k3,false,rfl,fT ?_⟩;have e:eV H n v=false:=by
   cases av with
   | lst e=>exact dG e rfl
   | tup e=>rw [fD e rfl] at tv;cases tv
   | fj e=>exact dG e rfl
   | _=>rfl
  rw [e] at k;exact k
 | @many b xs eb l=>
  refine bo ⟨_,rfl,_,_,_,true,rfl,rfl,.of (.tup eb),ji,true,rfl,cB ?_⟩;have ne:(!decide (V.int (xs.length:Int)=V.int 2))=true:=by
   rw [nz,bp (by omega)]
   rfl
  refine ⟨_,rfl,b,_,rfl,.inr (.of eb),rfl,true,cy V.bl ne,fT ?_⟩;have e:eV H n (.ref b)=false:=dG eb (by
   match xs,l with
   | [],_=>rfl
   | [_],_=>rfl
   | [_,_],l=>exact absurd rfl l
   | _::_::_::_,_=>rfl)
  rw [e] at k;exact k
 | @two b x y eb hx hy=>
  rw [dG eb rfl] at k;refine bo ⟨_,rfl,_,_,_,true,rfl,rfl,.of (.tup eb),ji,true,rfl,cB ?_⟩;refine ⟨_,rfl,b,_,rfl,.inr (.of eb),rfl,false,rfl,cB ?_⟩;dsimp only [gv];refine ⟨_,rfl,b,_,_,_,rfl,rfl,.of eb,rfl,_,rfl,x,n,rfl,hx,_,rfl,cG (fun h1=>?_) (fun h1=>?_)⟩
  ·obtain ⟨zx,rfl,_⟩:=Bh h1
   have k:Q (.bl (cC n (.int zx) && (cC n y && ltV (.int zx) y))) H:=k;rw [h1,Bool.true_and] at k;refine ⟨_,rfl,b,_,_,_,rfl,rfl,.of eb,rfl,_,rfl,y,n,rfl,hy,_,rfl,cG (fun h2=>?_) (fun h2=>?_)⟩
   ·obtain ⟨zy,rfl,_⟩:=Bh h2
    rw [h2,Bool.true_and] at k;exact ⟨_,rfl,b,_,_,_,rfl,rfl,.of eb,rfl,_,rfl,b,_,_,_,rfl,rfl,.of eb,rfl,zx,zy,rfl,rfl,k⟩
   ·rw [Bool.eq_false_iff.mpr h2,Bool.false_and] at k
    exact k
  ·have k:Q (.bl (cC n x && (cC n y && ltV x y))) H:=k
   rw [Bool.eq_false_iff.mpr h1,Bool.false_and] at k;exact k
theorem J6:cw ["things"] ["things"] (bR ud):=c6
theorem J7(T:Txt K mg t):bT P w K mg base b_ 1 t.lR t.nO ["things"] JG:=by
 have S:=J6;refine T.oj.c7 S (fun _ _ _ _ H vs _ _ hr h=>?_);obtain ⟨lt,us,L,rfl,elt,hL,l1,k⟩:=h;have J8:=hr.Ed;refine ⟨_,(@aR _ _ _ (@bO _ _ _ _ (cz (wj (K:=K) rfl) rfl T.uD boot_all (@aa _ _ _ _ _ (by rfl) (F_ (N:=["one","other"]) (ρ:=(fun σ=>[])) (F7 [] rfl) rfl (IQ rfl T.BP (@aa _ _ _ _ _ (by rfl) (pv 0) (@aa _ _ _ _ _ (by rfl) (@j7 _ _ _ _ _ _ _ _ _ _ ko (pv 0) (lg ay) jd) au))) (fun _ _ _=>.nil) (fun _ _ _=>(jW (IU (K:=K) J8) (pv 0) (pv 1)))) au)))),?_⟩
 refine Gg (nC (Gd (zs:=us.zip (us.drop 1)) (fun R h=>?_) (cA (by rw [List.length_zip,hL.1];omega)) (fun i v=>∀z,(L.zip (L.drop 1))[i]?=some z→v=.bl (HT.lexLt [z.1.1,z.1.2] [z.2.1,z.2.2])) ?_ ?_))
 ·refine ⟨_,rfl,_,rfl,1,rfl,lt,us,rfl,.of elt,fun p H' hp=>?_⟩
  rw [A0] at hp;rcases hp with ⟨rfl,rfl,e⟩ | ⟨np,rfl⟩
  ·refine ⟨p,p,rfl,⟨_,.of elt⟩,⟨_,.of elt⟩,h _ _ (ai.refl _) ?_⟩
   rw [e];exact AZ elt elt
  ·have el:=aD np (o:=.tup (us.drop 1)) _ _ elt
   exact ⟨lt,p,rfl,⟨_,.of el⟩,⟨_,.of ax⟩,h _ _ (aD np) (AZ el ax)⟩
 ·intro i x y J9 Hc R sc kR
  obtain ⟨hx,hy⟩:=pD.mp J9;rw [mS] at hy;have BV:us[i+1]?=some y:=by rw [Nat.add_comm];exact hy
  have i1:i+1<L.length:=by rw [←hL.1];exact (cg.mp BV).1
  obtain ⟨a,rfl,ea⟩:=hL.2 i x L[i] hx (by simp [show i<L.length by omega])
  obtain ⟨b,rfl,eb⟩:=hL.2 (i+1) y L[i+1] BV (by simp [i1])
  refine ⟨_,rfl,_,rfl,a,b,[L[i].1,L[i].2],[L[i+1].1,L[i+1].2],rfl,rfl,.of (sc _ _ ea),.of (sc _ _ eb),kR _ _ (ai.refl _) fun z hz=>?_⟩;obtain ⟨z1,z2⟩:=pD.mp hz;rw [mS,Nat.add_comm,bX i1] at z2;rw [bX (by omega)] at z1
  rw [←Option.some.inj z1,←Option.some.inj z2]
 ·intro D vs Hc sc lv hP eD
  have ev:vs=((L.zip (L.drop 1)).map fun z=>HT.lexLt [z.1.1,z.1.2] [z.2.1,z.2.2]).map V.bl:=by
   have ll:vs.length=(L.zip (L.drop 1)).length:=by rw [lv,List.length_zip,List.length_zip,jH,jH,hL.1]
   refine o1 fun i=>?_;rcases Nat.lt_or_ge i vs.length with h | h
   ·rw [bX h,hP i _ (bX h) _ (bX (by omega)),dj,dj,bX (by omega)]
    rfl
   ·rw [mO h,mO (by rw [ba,ba];omega)]
  refine ⟨D,_,rfl,.of (by rw [eD,ev]),?_⟩
  rw [List.all_map];exact k _ sc
theorem J_:cw ["thing","n"] ["thing","n"] (bR ug):=c6
theorem Ka(T:Txt K mg t):bT P w K mg base b_ 4 t.lU t.nS ["thing","n"] JJ:=by
 have S:=J_;refine T.oo.c7 S (fun _ _ _ s H _ _ _ hr h=>?_);obtain ⟨v,n,r,rfl,hv,k⟩:=h;refine ⟨_,(@aR _ _ _ (@bO _ _ _ _ (@i8 _ _ _ _ _ _ _ (cz (lC (K:=K)) rfl T.ku boot_isinstance (@aa _ _ _ _ _ (by rfl) (pv 0) (@aa _ _ _ _ _ (by rfl) (kP (v:=.ty "tuple") rfl T.qF boot_tuple rfl) au))) (@i8 _ _ _ _ _ _ _ (cz (wj (K:=K) rfl) rfl T.uD boot_all (@aa _ _ _ _ _ (by rfl) (qc (N:=["each","n"]) (ρ:=(fun σ=>[σ[1]?.join])) (nu [1] rfl) rfl (si (pv 0)) (fun _ _ _=>.nil) (fun _ _ _=>(cu (J5 T) hr T.Bn T.om.kp T.Bm bt (@aa _ _ _ _ _ (by rfl) (pv 0) (@aa _ _ _ _ _ (by rfl) (pv 1) au))))) au)) (@kS _ _ _ _ _ (cu (J7 T) hr T.Bl T.oj.kp T.Bk bt (@aa _ _ _ _ _ (by rfl) (pv 0) au))))))),?_⟩
 cases hv with
 | other av tv=>obtain ⟨Ty,ty,_,_,k3⟩:=av.lB (K:=K);rw [tv] at k3;exact ⟨_,rfl,_,_,_,_,rfl,rfl,ty,k3,false,rfl,cB (k _ (ai.refl _))⟩
 | @bad lt us elt l hu w' hw b=>
  refine ⟨_,rfl,_,_,_,true,rfl,rfl,.of (.tup elt),ji,true,rfl,fT ?_⟩;refine nC (Ab (xs:=us) (fun R h=>⟨_,rfl,lt,rfl,⟨_,.of elt⟩,h _ _ (ai.refl _) ⟨fun i Hc s hi=>⟨us,us[i],.of (s _ _ elt),by simp [hi]⟩,fun i Hc x H' s y=>⟨y.1,fun _=>y.2 us (.of (s _ _ elt))⟩,fun i Hc s hi=>⟨us,.of (s _ _ elt),hi⟩⟩⟩) (cA l) (fun _ i y _=>∀v,us[i]?=some v→y=.bl (eV H n v)) (fun _ _ _ _ _ _ h _ _=>h) ?_ ?_)
  ·intro D i v hi Hc R sc _ kc
   have hv:=hu v (mJ hi);exact ⟨_,rfl,_,rfl,v,n,rfl,hv.mono sc,kc _ Hc (ai.refl _) fun v' h'=>by rw [hi] at h';cases h';rw [Bi hv sc]⟩
  ·intro D ys Hc sc Kb hP eD
   have ey:ys=(us.map (eV H n)).map V.bl:=by
    refine o1 fun i=>?_;rcases Nat.lt_or_ge i us.length with h | h
    ·rw [bX (by omega),hP i _ (bX (by omega)) _ (bX h),dj,dj,bX h]
     rfl
    ·rw [mO (by omega),mO (by rw [ba,ba];omega)]
   have ea:(us.map (eV H n)).all id=false:=by rw [List.all_map,List.all_eq_false];exact ⟨w',hw,by show ¬eV H n w'=true;rw [b];simp⟩
   refine ⟨D,_,rfl,.of (by rw [eD,ey]),?_⟩
   rw [ea];exact ⟨false,rfl,cB (k _ sc)⟩
 | @links lt us L elt hL l1 ok=>
  refine ⟨_,rfl,_,_,_,true,rfl,rfl,.of (.tup elt),ji,true,rfl,fT ?_⟩;refine nC (Ab (xs:=us) (fun R h=>⟨_,rfl,lt,rfl,⟨_,.of elt⟩,h _ _ (ai.refl _) ⟨fun i Hc s hi=>⟨us,us[i],.of (s _ _ elt),by simp [hi]⟩,fun i Hc x H' s y=>⟨y.1,fun _=>y.2 us (.of (s _ _ elt))⟩,fun i Hc s hi=>⟨us,.of (s _ _ elt),hi⟩⟩⟩) (cA (by rw [hL.1];omega)) (fun _ i y _=>y=.bl true) (fun _ _ _ _ _ _ h _ _=>h) ?_ ?_)
  ·intro D i v hi Hc R sc _ kc
   have i1:i<L.length:=by rw [←hL.1];exact (cg.mp hi).1
   obtain ⟨b,rfl,eb⟩:=hL.2 i v L[i] hi (by simp [i1])
   have o:=ok L[i] (dw _);refine ⟨_,rfl,_,rfl,.ref b,n,rfl,.two (sc _ _ eb) (.int _) (.int _),kc _ Hc (ai.refl _) ?_⟩;rw [dG (sc _ _ eb) rfl];show V.bl (decide (0≤L[i].1∧L[i].1<(n:Int)) && (decide (0≤L[i].2∧L[i].2<(n:Int)) && decide (L[i].1<L[i].2)))=_;rw [bg (show 0≤L[i].1∧L[i].1<(n:Int) by omega),bg (show 0≤L[i].2∧L[i].2<(n:Int) by omega),bg o.2.1]
   rfl
  ·intro D ys Hc sc Kb hP eD
   refine ⟨D,List.replicate ys.length true,rfl,.of (by rw [eD];exact cy _ (cy _ (Gh hP))),?_⟩
   rw [Gi];refine ⟨true,rfl,fT ?_⟩;exact ⟨_,rfl,lt,us,L,rfl,sc _ _ elt,hL.mono sc,l1,fun H' s'=>k _ (sc.trans s')⟩
theorem Kc:cw ["thing"] ["thing"] (bR uh):=c6
theorem Kd(T:Txt K mg t):bT P w K mg base b_ 5 t.lW t.nU ["thing"] JK:=by
 have S:=Kc;obtain ⟨uM,hM,rM⟩:=T.BR;refine T.iN.c7 S (fun _ _ _ _ H _ _ _ hr h=>?_);obtain ⟨v,r,rfl,hv,k⟩:=h
 refine ⟨_,(@aM _ _ _ _ _ (@cL _ _ _ _ _ _ _ _ (PW.pt (@pw_or _ _ _ _ _ _ _ (@rX _ _ _ _ (m7 (cz (lC (K:=K)) rfl T.ku boot_isinstance (@aa _ _ _ _ _ (by rfl) (pv 0) (@aa _ _ _ _ _ (by rfl) (kP (v:=.ty "tuple") rfl T.qF boot_tuple rfl) au))))) (@pw_or1 _ _ _ _ (dA vT (cz jf rfl T.iO i4 (@aa _ _ _ _ _ (by rfl) (pv 0) au)) ay)))) (@aR _ _ _ (@bO _ _ _ _ dq)) cT)
  (@aR _ _ _ (@bO _ _ _ _ (@i8 _ _ _ _ _ _ _ (cu (BS T) hr T.xv T.mq.kp T.xu bt (@aa _ _ _ _ _ (by rfl) (bz dU (pv 0) ay) au)) (@i8 _ _ _ _ _ _ _ (y6 su su ay (bz dU (pv 0) ay) (Dq (v:=.int 60) rfl hM rM)) (@kS _ _ _ _ _ (cu (Ka T) hr T.Bp T.oo.kp T.Bo bt (@aa _ _ _ _ _ (by rfl) (bz dU (pv 0) ay) (@aa _ _ _ _ _ (by rfl) (bz dU (pv 0) ay) au))))))))),?_⟩
 cases hv with
 | other av tv=>obtain ⟨Ty,ty,_,_,k3⟩:=av.lB (K:=K);rw [tv] at k3;exact bo ⟨_,rfl,_,_,_,_,rfl,rfl,ty,k3,false,rfl,fT (k _ (ai.refl _))⟩
 | @many b xs eb l=>
  refine bo ⟨_,rfl,_,_,_,true,rfl,rfl,.of (.tup eb),ji,true,rfl,cB ?_⟩;have ne:(!decide (V.int (xs.length:Int)=V.int 2))=true:=by
   rw [nz,bp (by omega)]
   rfl
  exact ⟨_,rfl,b,_,rfl,.inr (.of eb),rfl,true,cy V.bl ne,fT (k _ (ai.refl _))⟩
 | @whole b x y eb hx hi=>refine bo ⟨_,rfl,_,_,_,true,rfl,rfl,.of (.tup eb),ji,true,rfl,cB ?_⟩;refine ⟨_,rfl,b,_,rfl,.inr (.of eb),rfl,false,rfl,cB ?_⟩;dsimp only [gv];exact ⟨_,rfl,b,_,_,_,rfl,rfl,.of eb,rfl,x,rfl,hx,false,cy V.bl hi,cB (k _ (ai.refl _))⟩
 | @size b z y eb hz=>
  refine bo ⟨_,rfl,_,_,_,true,rfl,rfl,.of (.tup eb),ji,true,rfl,cB ?_⟩;refine ⟨_,rfl,b,_,rfl,.inr (.of eb),rfl,false,rfl,cB ?_⟩;dsimp only [gv];refine ⟨_,rfl,b,_,_,_,rfl,rfl,.of eb,rfl,.int z,rfl,.int _,true,rfl,fT ?_⟩;refine ⟨_,rfl,b,_,_,_,rfl,rfl,.of eb,rfl,1,z,rfl,rfl,_,rfl,cG (fun h1=>?_) (fun h1=>?_)⟩
  ·have h1:=e_ h1
   have h2:decide (z≤60)=false:=bp (by omega)
   refine ⟨z,60,rfl,rfl,false,cy V.bl h2,cB ?_⟩;exact k _ (ai.refl _)
  ·exact ⟨false,rfl,cB (k _ (ai.refl _))⟩
 | @links b n y r eb n1 xp hl=>
  refine bo ⟨_,rfl,_,_,_,true,rfl,rfl,.of (.tup eb),ji,true,rfl,cB ?_⟩;refine ⟨_,rfl,b,_,rfl,.inr (.of eb),rfl,false,rfl,cB ?_⟩;dsimp only [gv];refine ⟨_,rfl,b,_,_,_,rfl,rfl,.of eb,rfl,.int (n:Int),rfl,.int _,true,rfl,fT ?_⟩;refine ⟨_,rfl,b,_,_,_,rfl,rfl,.of eb,rfl,1,(n:Int),rfl,rfl,true,cy V.bl (bg (by omega)),fT ?_⟩
  refine ⟨(n:Int),60,rfl,rfl,true,cy V.bl (bg (by omega)),fT ?_⟩
  exact ⟨_,rfl,b,_,_,_,rfl,rfl,.of eb,rfl,_,rfl,b,_,_,_,rfl,rfl,.of eb,rfl,y,n,r,rfl,hl,k⟩
theorem Ke:cw ["shape","linked","i","j"] ["shape"] (bR uj):=c6
theorem BW(T:Txt K mg t):bT P w K mg base b_ 1 t.lY t.nV ["shape"] Ih:=by
 have S:=Ke;refine T.mw.c7 S (fun _ _ _ _ H _ _ _ hr h=>?_);obtain ⟨tp,n,L,rfl,⟨lt,us,d4,elt,hL⟩,ok,n9,kk⟩:=h;have hu:=mM (Nat.add_le_add_left (show 1≤64 by decide) _) hr.units
 have Kf:((List.range n).map fun i:Nat=>V.int (0+(i:Int))).length=n:=by rw [ba,rm]
 refine ⟨_,(@aM _ _ _ _ _ (F3 (i0:=1) (N:=["place"]) (ρ:=(fun σ=>[])) (nu [] rfl) rfl S.nd rfl (Or.inl rfl) (i_ rfl T.gI (@aa _ _ _ _ _ (by rfl) (bz dU (pv 0) ay) au)) (fun _ _ _=>.nil) (fun _ _ _=>HV))
  (@aM _ _ _ _ _ (eI d_ rfl (si (bz dU (pv 0) ay)) (m9 rfl (gx (cq (i:=2) S.nd rfl (Or.inl rfl)) (gx (cq (i:=3) S.nd rfl (Or.inl rfl)) m8)))
   (@aM _ _ _ _ _ (AM hu (bz cN (pv 1) (pv 2)) (pv 3) dq rfl)
  (@aR _ _ _ (AM hu (bz cN (pv 1) (pv 3)) (pv 2) dq rfl))))
  (@aR _ _ _ (@bO _ _ _ _ (pv 1))))),?_⟩
 refine bo (Ac (Gm (xs:=(List.range n).map fun i:Nat=>V.int (0+(i:Int))) (n:=n) Kf (fun R h=>⟨_,rfl,tp,_,_,_,rfl,rfl,.of d4,rfl,(n:Int),rfl,by omega,by omega,h _ _ (ai.refl _) (by rw [cZ];exact F2)⟩) (cA (by omega)) (fun _ i y Hx=>Hx y=some (.dK (dk []))∧H y=none) ?_ ?_ ?_))
 ·intro D i y Ha Hb ys ⟨h1,h2⟩ hy e f
  exact ⟨f y _ hy h1,h2⟩
 ·intro D i x hx Hc R sc _ kc
  refine fun p np=>kc p _ (fu (ai.refl _) np) np ⟨_,ax⟩ ⟨ax,?_⟩;cases e:H p with
  | none=>rfl
  | some o=>rw [sc _ _ e] at np;cases np
 ·intro D ds H1 nD s1 inj hA eD
  have K0:iK H1 D n ds (fun _=>True) (fun _=>[]):=⟨eD,inj,fun i hi=>(hA i hi).2,fun i hi _=>(hA i hi).1.1,fun i _=>gG.nil n⟩;have fr:∀i,i<n→H (ds i)=none:=fun i hi=>(hA i hi).1.2;dsimp only [a7];refine bo ⟨_,rfl,tp,_,_,_,rfl,rfl,.of (s1 _ _ d4),rfl,lt,rfl,⟨_,.of (s1 _ _ elt)⟩,?_⟩;refine vM (K:=K) (a:=lt) (xs:=us) (fun k σ Hc=>∃(f:Nat→List Nat) (v2 v3:Option V),σ=[some (.ref tp),some (.ref D),v2,v3]∧ai H Hc∧iK Hc D n ds (fun _=>True) f∧ju n (L.take k) f) ⟨_,_,_,rfl,s1,K0,ju.nil n⟩ (fun k σ Hc _ ⟨_,_,_,_,sc,_⟩=>.of (sc _ _ elt)) ?_ ?_
  ·rintro k x σ Hc hx ⟨f,v2,v3,rfl,sc,KL,nb⟩
   have hk:k<L.length:=by rw [←hL.1];exact (cg.mp hx).1
   obtain ⟨b,rfl,eb⟩:=hL.2 k x L[k] hx (by simp [hk])
   have pk:=ok L[k] (dw hk);have tk:L.take (k+1)=L.take k++[L[k]]:=by rw [pj,bX hk];rfl
   generalize L[k]=p at eb pk tk;obtain ⟨p1,p2⟩:=p;dsimp only at pk eb;obtain ⟨i,rfl⟩:=dQ pk.1;obtain ⟨j,rfl⟩:=dQ pk.2.2.1;have hi:i<n:=by omega
   have hj:j<n:=by omega
   refine ⟨b,_,rfl,.of (sc _ _ eb),rfl,_,_,rfl,_,_,rfl,rfl,?_⟩;obtain ⟨q1,K1⟩:=KL.put hi hj trivial n9;obtain ⟨q2,K2⟩:=K1.put hj hi trivial n9;refine ⟨_,rfl,_,rfl,D,_,_,_,rfl,rfl,.of KL.lst,KL.ix hi,_,rfl,_,_,rfl,q1,?_⟩;refine ⟨_,rfl,_,rfl,D,_,_,_,rfl,rfl,.of K1.lst,K1.ix hj,_,rfl,_,_,rfl,q2,?_⟩;have off:∀(Hx:Hp) (i:Nat) (o:HO),i<n→ai H Hx→ai H (upd Hx (ds i) o):=fun Hx i o hi sx a u e=>by
    rw [bf (fun z=>by rw [z,fr i hi] at e;cases e)]
    exact sx _ _ e
   exact ⟨_,_,_,rfl,off _ _ _ hj (off _ _ _ hi sc),K2,by rw [tk];exact nb.more hi hj⟩
  ·rintro σ Hc ⟨f,v2,v3,rfl,sc,KL,nb⟩
   rw [hL.1,mU] at nb;exact ⟨_,rfl,kk _ _ _ _ sc nD fr KL nb⟩
theorem Kg:cw ["shape","place"] ["shape","place"] (bR um):=c6
theorem Kh(T:Txt K mg t):bT P w K mg base b_ 2 t.lZ t.nW ["shape","place"] JL:=by
 have S:=Kg;refine T.ou.c7 S (fun _ _ _ _ H _ _ _ hr h=>?_);obtain ⟨tp,n,L,p,rfl,f9,qH,uF,pn,kk⟩:=h;refine ⟨_,(@aR _ _ _ (@bO _ _ _ _ (cz (Jy rfl) rfl T.uE vv (@aa _ _ _ _ _ (by rfl) (bz cN (cu (BW T) hr T.xA T.mw.kp T.xy bt (@aa _ _ _ _ _ (by rfl) (pv 0) au)) (pv 1)) au)))),?_⟩
 refine ⟨_,rfl,tp,n,L,rfl,f9,qH,by omega,fun H1 D ds f s1 nD BX KL nb=>?_⟩
 have e1:=KL.at' p pn trivial;have pl:=KL.pl p pn;have lf:(f p).length≤n:=xq pl;refine ⟨_,rfl,D,_,_,_,rfl,rfl,.of KL.lst,xh pn,ds p,f p,rfl,e1,by omega,fun ws D2 pm so xE=>?_⟩
 exact kk _ D2 ws (f p) (s1.trans (aD xE)) (none_of s1 xE) ax pm so pl fun q=>nb p q pn
theorem Ki:cw ["shape","linked","count","i","j"] ["shape"] (bR uo):=c6
theorem Kj(T:Txt K mg t):bT P w K mg base b_ 2 t.l6 t.nX ["shape"] A5:=by
 have S:=Ki;refine T.oz.c7 S (fun _ _ _ _ H _ Q _ hr h=>?_);obtain ⟨tp,n,L,rfl,f9,nd,lt,uF,l5,kk⟩:=h;have hu:=mM (Nat.add_le_add_left (show 1≤64 by decide) _) hr.units
 have qH:tQ n L:=fun p hp=>by have:=lt p hp;exact ⟨this.1,by omega,by omega,this.2.2⟩
 refine ⟨_,(@aM _ _ _ _ _ (FZ 1 S.nd (cu (BW T) hr T.xA T.mw.kp T.xy bt (@aa _ _ _ _ _ (by rfl) (pv 0) au)))
  (@aM _ _ _ _ _ (putL 2 S.nd ay)
  (@aM _ _ _ _ _ (eI d_ rfl (si (bz dU (pv 0) ay)) (m9 rfl (gx (cq (i:=3) S.nd rfl (Or.inl rfl)) (gx (cq (i:=4) S.nd rfl (Or.inr rfl)) m8)))
   (@aR _ _ _ (DH (i:=2) S.nd rfl (Or.inl rfl) (cz jf rfl T.iO i4 (@aa _ _ _ _ _ (by rfl) (qc (N:=["k","j","linked"]) (ρ:=(fun σ=>[σ[4]?.join,σ[1]?.join])) (nu [4,1] rfl) rfl (HY (bz cN (pv 1) (pv 3))) (fun _ _ _=>(.one (PW.pt (pw_and (dA pS (pv 0) (pv 1)) (pw_and1 (Dr (HR hu (pv 0) (bz (Gf (K:=K)) (pv 2) (pv 1))) rfl)))))) (fun _ _ _=>(pv 0))) au)) DK)))
  (@aR _ _ _ (@bO _ _ _ _ (pv 2)))))),?_⟩
 refine bo ⟨_,rfl,tp,n,L,rfl,f9,qH,by omega,fun H1 D ds f s1 nD BX KL nb=>?_⟩
 obtain ⟨lk,us,d4,elt,hL⟩:=id f9;dsimp only [a7];refine bo ⟨_,rfl,tp,_,_,_,rfl,rfl,.of (s1 _ _ d4),rfl,lk,rfl,⟨_,.of (s1 _ _ elt)⟩,?_⟩;refine vM (K:=K) (a:=lk) (xs:=us) (fun k σ Hc=>∃(v3 v4:Option V),σ=[some (.ref tp),some (.ref D),some (.int (((L.take k).map (tZ n L)).sum:Nat)),v3,v4]∧ai H Hc∧tR Hc D n ds f) ⟨_,_,rfl,s1,KL.fr⟩ (fun k σ Hc _ ⟨_,_,_,sc,_⟩=>.of (sc _ _ elt)) ?_ ?_
 ·rintro k x σ Hc hx ⟨v3,v4,rfl,sc,KF⟩
  have hk:k<L.length:=by rw [←hL.1];exact (cg.mp hx).1
  obtain ⟨b,rfl,eb⟩:=hL.2 k x L[k] hx (by simp [hk])
  have pk:=lt L[k] (dw hk);have tk:L.take (k+1)=L.take k++[L[k]]:=by rw [pj,bX hk];rfl
  generalize L[k]=p at eb pk tk;obtain ⟨p1,p2⟩:=p;dsimp only at pk eb;obtain ⟨i,rfl⟩:=dQ pk.1;obtain ⟨j,rfl⟩:=dQ (show 0≤p2 by omega)
  have hi:i<n:=by omega
  have hj:j<n:=by omega
  refine ⟨b,_,rfl,.of (sc _ _ eb),rfl,_,_,rfl,_,_,rfl,rfl,?_⟩;refine ⟨_,rfl,nC (Io (Iw (a:=ds i) (kvs:=dk (f i)) (fun Q q=>⟨_,rfl,_,rfl,D,_,_,_,rfl,rfl,.of KF.lst,xh hi,q⟩) (KF.at' i hi) fun ob Hf BY off=>?_))⟩;have sf:ai H Hf:=fun b u e=>off b u (fun z=>by rw [z,BX i hi] at e;cases e) (sc _ _ e)
  have uG:tR Hf D n ds f:=⟨off D _ (fun z=>KL.ne i hi z.symm) KF.lst,fun i' aS=>by
   by_cases e:i'=i
   ·subst e
    exact .inr ⟨ob,BY⟩
   ·rcases KF.at' i' aS with h | ⟨qI,h⟩
    ·exact .inl (off _ _ (fun z=>e (KL.inj i' i aS hi z)) h)
    ·exact .inr ⟨qI,off _ _ (fun z=>e (KL.inj i' i aS hi z)) h⟩⟩
  refine Im BY (fun q=>decide (j<q) && decide (q∈f j)) (cA (by have:=xq (KL.pl i hi);omega)) ?_ (fun q hq Hd R h=>⟨_,rfl,h⟩) ?_
  ·intro q hq Hd R sd kR
   refine ⟨_,rfl,_,rfl,_,_,rfl,rfl,_,rfl,cG (fun hc=>?_) (fun hc=>?_)⟩
   ·have hc:(j:Int)<(q:Int):=e_ hc
    rw [bg (show j<q by omega),Bool.true_and] at kR
    have rd:Rd Hd (ds j) (.dK (dk (f j))):=by
     rcases uG.at' j hj with h | ⟨qI,h⟩;·exact .inl (sd _ _ h)
     ·exact .inr ⟨qI,sd _ _ h⟩
    refine ⟨_,rfl,_,rfl,_,rfl,D,_,_,_,rfl,rfl,.of (sd _ _ uG.lst),xh hj,ds j,_,rfl,.inl ⟨_,(Sum.inl (q:Int):Key),rd,rfl,rfl⟩,_,rfl,?_⟩;rw [Ie];by_cases hm:q∈f j
    ·rw [bg hm] at kR
     rw [aj hm];exact kR
    ·rw [bp hm] at kR
     rw [ae hm];exact kR
   ·have hc:¬j<q:=fun z=>hc (bg (show (j:Int)<(q:Int) by omega))
    rw [bp hc,Bool.false_and] at kR;exact kR
  ·intro D2 H2 xE s2 Kk
   have Kl:ai H H2:=sf.trans s2;have Km:tR H2 D n ds f:=⟨s2 _ _ uG.lst,fun i' aS=>(uG.at' i' aS).imp (fun h=>s2 _ _ h) fun⟨qI,h⟩=>⟨qI,s2 _ _ h⟩⟩;refine ⟨D2,_,rfl,.inl (.of Kk),_,_,rfl,rfl,some (.int (i:Int)),some (.int (j:Int)),?_,Kl,Km⟩;have te:=Ju (n:=n) (L:=L) (g:=fun a=>if a<n then f a else []) (fun a q ha=>by show q∈(if a<n then f a else [])↔_;rw [aj ha];exact nb a q ha) (fun a=>by split;exact (KL.pl a (by assumption)).1;exact ph) hi hj (fun q hq=>by rw [aj hi] at hq;exact (KL.pl i hi).2 q hq)
   rw [aj hi,aj hj,List.filter_map,ba] at te;rw [tk,iZ,rO,List.map_singleton,List.sum_singleton,te,ba];have ef:(f i).filter (Bb j (f j) ∘ fun k:Nat=>V.int (k:Int))=(f i).filter fun q=>decide (j<q) && decide (q∈f j):=List.filter_congr fun q _=>by
    show (decide ((j:Int)<(q:Int)) && decide (((q:Nat):Int).toNat∈f j))=_;rw [cZ];by_cases z:j<q;·rw [bg z,bg (show (j:Int)<(q:Int) by omega)]
    ·rw [bp z,bp (show ¬(j:Int)<(q:Int) by omega)]
   rw [ef]
   push_cast
   rfl
 ·rintro σ Hc ⟨v3,v4,rfl,sc,KF⟩
  rw [hL.1,mU,show (L.map (tZ n L)).sum=qA n L from Jb nd lt];exact ⟨_,rfl,kk _ sc⟩
theorem Kn:cw ["_law_shape","_law_many","_law_k","_law_j","_law_i","_law_some"] ["_law_shape"] (bR uA):=c6
theorem Ko(T:Txt K mg t):bT P w K mg base b_ 1 t.mh t.oh ["_law_shape"] A5:=by
 have S:=Kn;refine T.oH.c7 S (fun _ _ _ _ H _ _ _ hr h=>?_);obtain ⟨tp,n,L,rfl,f9,nd,lt,uF,l5,kk⟩:=h;have jx:=hr.units;obtain ⟨lk,us,d4,elt,hL⟩:=id f9
 refine ⟨_,(@aM _ _ _ _ _ (putL 1 S.nd ay)
  (@aM _ _ _ _ _ (eI d_ rfl (i_ rfl T.gI (@aa _ _ _ _ _ (by rfl) (bz dU (pv 0) ay) au)) (cq (i:=2) S.nd rfl (Or.inl rfl))
   (@aR _ _ _ (eI d_ rfl (i_ rfl T.gI (@aa _ _ _ _ _ (by rfl) (pv 2) au)) (cq (i:=3) S.nd rfl (Or.inl rfl))
   (@aR _ _ _ (eI d_ rfl (i_ rfl T.gI (@aa _ _ _ _ _ (by rfl) (pv 3) au)) (cq (i:=4) S.nd rfl (Or.inl rfl))
   (@aM _ _ _ _ _ (putL 5 S.nd (@dB _ _ _ _ (@aa _ _ _ _ _ (by rfl) (@aZ _ _ _ _ _ (@aa _ _ _ _ _ (by rfl) (pv 4) (@aa _ _ _ _ _ (by rfl) (pv 3) au))) (@aa _ _ _ _ _ (by rfl) (@aZ _ _ _ _ _ (@aa _ _ _ _ _ (by rfl) (pv 4) (@aa _ _ _ _ _ (by rfl) (pv 2) au))) (@aa _ _ _ _ _ (by rfl) (@aZ _ _ _ _ _ (@aa _ _ _ _ _ (by rfl) (pv 3) (@aa _ _ _ _ _ (by rfl) (pv 2) au))) au)))))
  (@aR _ _ _ (putL 1 S.nd (@bh _ _ _ _ _ _ _ _ gX (pv 1) (k_ D8 rfl T.xB boot_int (@aa _ _ _ _ _ (by rfl) (cz (wj (K:=K) rfl) rfl T.uD boot_all (@aa _ _ _ _ _ (by rfl) (qc (N:=["_law_link","_law_shape"]) (ρ:=(fun σ=>[σ[0]?.join])) (nu [0] rfl) rfl (m_ (pv 5)) (fun _ _ _=>.nil) (fun _ _ _=>(@sC _ _ _ _ _ _ _ _ (JA (K:=K) jx) (pv 0) (bz (Ge (K:=K)) (pv 1) ay) rfl))) au)) au)))))))))))
  (@aR _ _ _ (@bO _ _ _ _ (pv 1))))),?_⟩
 dsimp only [a7];refine bo ⟨_,rfl,tp,_,_,_,rfl,rfl,.of d4,rfl,(n:Int),rfl,by omega,by omega,?_⟩
 rw [cZ];refine ja (fun k σ Hc=>∃(v2 v3 v4 v5:Option V),σ=[some (.ref tp),some (.int ((p3 (cm (rL L)) (List.range k):Nat):Int)),v2,v3,v4,v5]∧ai H Hc) ⟨_,_,_,_,rfl,ai.refl _⟩ ?_ ?_
 ·rintro k σ Hc hk ⟨v2,v3,v4,v5,rfl,sc⟩
  dsimp only [a7];simp only [eh,ei];refine ⟨_,rfl,(k:Int),by rw [jO],by omega,by omega,?_⟩
  rw [cZ];refine ja (fun j σ Hd=>∃(v3 v4 v5:Option V),σ=[some (.ref tp),some (.int ((p3 (cm (rL L)) (List.range k)+((List.range j).map fun b=>((List.range b).map fun a=>cm (rL L) a b k).sum).sum:Nat):Int)),some (.int (0+(k:Int))),v3,v4,v5]∧ai H Hd) ⟨v3,v4,v5,by simp,sc⟩ ?_ ?_
  ·rintro j σ Hd hj ⟨v3,v4,v5,rfl,sd⟩
   dsimp only [a7];simp only [eh,ei];refine ⟨_,rfl,(j:Int),by rw [jO],by omega,by omega,?_⟩
   rw [cZ];refine ja (fun i σ He=>∃(v4 v5:Option V),σ=[some (.ref tp),some (.int ((p3 (cm (rL L)) (List.range k)+((List.range j).map fun b=>((List.range b).map fun a=>cm (rL L) a b k).sum).sum+((List.range i).map fun a=>cm (rL L) a j k).sum:Nat):Int)),some (.int (0+(k:Int))),some (.int (0+(j:Int))),v4,v5]∧ai H He) ⟨v4,v5,by simp,sd⟩ ?_ ?_
   ·rintro i σ He hi ⟨v4,v5,rfl,se⟩
    dsimp only [a7];simp only [eh,ei,jO];refine bo ⟨_,rfl,_,rfl,by show 2≤sizeLine;decide,fun t1 n1=>?_⟩
    have w1:ai He (upd He t1 (.tup [.int (i:Int),.int (j:Int)])):=aD n1;have e1:upd He t1 (.tup [.int (i:Int),.int (j:Int)]) t1=some (.tup [.int (i:Int),.int (j:Int)]):=ax;generalize upd He t1 (.tup [.int (i:Int),.int (j:Int)])=Ha at w1 e1 ⊢;refine ⟨_,rfl,_,rfl,by show 2≤sizeLine;decide,fun t2 n2=>?_⟩
    have w2:ai Ha (upd Ha t2 (.tup [.int (i:Int),.int (k:Int)])):=aD n2;have e2:upd Ha t2 (.tup [.int (i:Int),.int (k:Int)]) t2=some (.tup [.int (i:Int),.int (k:Int)]):=ax;generalize upd Ha t2 (.tup [.int (i:Int),.int (k:Int)])=Hb at w2 e2 ⊢;refine ⟨_,rfl,_,rfl,by show 2≤sizeLine;decide,fun t3 n3=>?_⟩
    have w3:ai Hb (upd Hb t3 (.tup [.int (j:Int),.int (k:Int)])):=aD n3;have e3:upd Hb t3 (.tup [.int (j:Int),.int (k:Int)]) t3=some (.tup [.int (j:Int),.int (k:Int)]):=ax;generalize upd Hb t3 (.tup [.int (j:Int),.int (k:Int)])=uH at w3 e3 ⊢;refine ⟨by show 3≤sizeLine;decide,fun fl Kp=>?_⟩
    have w4:ai uH (upd uH fl (.lst [.ref t1,.ref t2,.ref t3])):=aD Kp;have e4:upd uH fl (.lst [.ref t1,.ref t2,.ref t3]) fl=some (.lst [.ref t1,.ref t2,.ref t3]):=ax;dsimp only [a7];generalize upd uH fl (.lst [.ref t1,.ref t2,.ref t3])=Hg at w4 e4 ⊢;have seg:=se.trans (w1.trans (w2.trans (w3.trans w4)));have Kq:∀(q:Nat) (v:V),([.ref t1,.ref t2,.ref t3]:List V)[q]?=some v→∃b p,v=.ref b∧Hg b=some (.tup [.int (p:Int×Int).1,.int p.2])∧[((i:Int),(j:Int)),((i:Int),(k:Int)),((j:Int),(k:Int))][q]?=some p:=fun q v h=>by
     match q,h with
     | 0,h=>cases h;exact ⟨t1,((i:Int),(j:Int)),rfl,(w2.trans (w3.trans w4)) _ _ e1,rfl⟩
     | 1,h=>cases h;exact ⟨t2,((i:Int),(k:Int)),rfl,(w3.trans w4) _ _ e2,rfl⟩
     | 2,h=>cases h;exact ⟨t3,((j:Int),(k:Int)),rfl,w4 _ _ e3,rfl⟩
     | q+3,h=>simp at h
    refine Ac (wx ⟨_,rfl,nC (nC (Ah (xs:=[.ref t1,.ref t2,.ref t3]) (fun R h=>⟨_,rfl,fl,rfl,⟨_,.of e4⟩,h _ _ (ai.refl _) (z_ (.of e4))⟩) (cA (by simp)) (fun _ q y _=>∀p,[((i:Int),(j:Int)),((i:Int),(k:Int)),((j:Int),(k:Int))][q]?=some p→y=.bl (decide (p∈L))) (fun _ _ _ _ _ _ h _ _=>h) ?_ ?_))⟩)
    ·intro D q v hv Hx R sx _ kR
     obtain ⟨b,p,rfl,eb,ep⟩:=Kq q v hv;have xF:=seg.trans sx;refine ⟨_,rfl,_,rfl,tp,_,_,_,rfl,rfl,.of (xF _ _ d4),rfl,b,lk,us,L,p,rfl,rfl,sx _ _ eb,xF _ _ elt,hL.mono xF,kR _ _ (ai.refl _) fun p' h'=>?_⟩;rw [ep] at h';cases h';rfl
    ·intro D ys Hx nD sx ly hy eD
     have ey:ys=([decide (((i:Int),(j:Int))∈L),decide (((i:Int),(k:Int))∈L),decide (((j:Int),(k:Int))∈L)]:List Bool).map V.bl:=by
      match ys,ly,hy with
      | [y1,y2,y3],_,hy=>have h1:=hy 0 y1 rfl _ rfl;have h2:=hy 1 y2 rfl _ rfl;have h3:=hy 2 y3 rfl _ rfl;rw [h1,h2,h3];rfl
     refine ⟨D,_,rfl,.of (by rw [eD,ey]),.inr ⟨_,rfl,_,_,rfl,rfl,?_⟩⟩
     dsimp only [a7];refine ⟨some (.int (i:Int)),some (.ref fl),?_,seg.trans sx⟩;have Kr:=JN lt (show i<j by omega) (show j<k by omega)
     simp only [eh,ei,List.all_cons,List.all_nil,Bool.and_true,id];rw [←Kr,jK,iZ,rO,List.map_singleton,List.sum_singleton]
     push_cast
     simp [Int.add_assoc]
   ·rintro σ He ⟨v4,v5,rfl,se⟩
    refine ⟨some (.int (0+(j:Int))),v4,v5,?_,se⟩;rw [jK,iZ,rO];simp [Int.add_assoc]
  ·rintro σ Hd ⟨v3,v4,v5,rfl,sd⟩
   refine ⟨some (.int (k:Int)),v3,v4,v5,?_,sd⟩;rw [JM,jO]
 ·rintro σ Hc ⟨v2,v3,v4,v5,rfl,sc⟩
  exact ⟨_,rfl,kk _ sc⟩
theorem Ks:cw ["_law_shape","_law_place","_law_due","_law_i","_law_j","_law_turn","_law_found"] ["_law_shape"] (bR uB):=c6
theorem Kt(T:Txt K mg t):bT P w K mg base b_ 3 t.mj t.oi ["_law_shape"] JO:=by
 have S:=Ks;refine T.oI.c7 S (fun _ _ _ _ H _ _ _ hr h=>?_);obtain ⟨tp,n,L,rfl,f9,nd,lt,uF,l5,kk⟩:=h;have jx:=hr.units;have qH:tQ n L:=fun p hp=>by have:=lt p hp;exact ⟨this.1,by omega,by omega,this.2.2⟩
 obtain ⟨lk,us,d4,elt,hL⟩:=id f9
 refine ⟨_,(@aM _ _ _ _ _ (eI d_ rfl (i_ rfl T.gI (@aa _ _ _ _ _ (by rfl) (bz dU (pv 0) ay) au)) (cq (i:=1) S.nd rfl (Or.inl rfl))
   (@aM _ _ _ _ _ (putL 2 S.nd (@dB _ _ _ _ au))
  (@aM _ _ _ _ _ (eI d_ rfl (si (bz dU (pv 0) ay)) (m9 rfl (gx (cq (i:=3) S.nd rfl (Or.inl rfl)) (gx (cq (i:=4) S.nd rfl (Or.inl rfl)) m8)))
   (@aM _ _ _ _ _ (@cL _ _ _ _ _ _ _ _ (dA gy (pv 1) (pv 3)) (@aR _ _ _ (gw (fS fK gQ gR fi (pv 2) (@aa _ _ _ _ _ (by rfl) (pv 4) au)))) cT)
  (@aR _ _ _ (@cL _ _ _ _ _ _ _ _ (dA gy (pv 1) (pv 4)) (@aR _ _ _ (gw (fS fK gQ gR fi (pv 2) (@aa _ _ _ _ _ (by rfl) (pv 3) au)))) cT))))
  (@aR _ _ _ (eI d_ rfl (i_ rfl T.gI (@aa _ _ _ _ _ (by rfl) ay au)) (cq (i:=5) S.nd rfl (Or.inl rfl))
   (@aM _ _ _ _ _ (putL 6 S.nd (cu (Kh T) hr T.Br T.ou.kp T.Bq bt (@aa _ _ _ _ _ (by rfl) (pv 0) (@aa _ _ _ _ _ (by rfl) (pv 1) au))))
  (@aM _ _ _ _ _ (@cL _ _ _ _ _ _ _ _ (PW.pt (@pw_or _ _ _ _ _ _ _ (@rX _ _ _ _ (m7 (cz (lC (K:=K)) rfl T.ku boot_isinstance (@aa _ _ _ _ _ (by rfl) (pv 6) (@aa _ _ _ _ _ (by rfl) (kP (v:=.ty "list") rfl T.qG boot_list rfl) au))))) (@pw_or1 _ _ _ _ (dA (Gq jx) (pv 6) (cz H_ rfl T.uE vv (@aa _ _ _ _ _ (by rfl) (pv 2) au)))))) (@aR _ _ _ (@bO _ _ _ _ dq)) cT)
  (@aR _ _ _ (gw (fS fK gQ gR fi (pv 6) (@aa _ _ _ _ _ (by rfl) (@vQ _ _ _ _ _ _ vS ay) au)))))))))))
  (@aR _ _ _ (@bO _ _ _ _ dq))),?_⟩
 refine bo ⟨_,rfl,tp,_,_,_,rfl,rfl,.of d4,rfl,(n:Int),rfl,by omega,by omega,?_⟩
 rw [cZ];refine ja (fun p σ Hc=>∃(v1 v2 v3 v4 v5 v6:Option V),σ=[some (.ref tp),v1,v2,v3,v4,v5,v6]∧ai H Hc) ⟨_,_,_,_,_,_,rfl,ai.refl _⟩ ?_ ?_
 ·rintro p σ Hc hp ⟨v1,v2,v3,v4,v5,v6,rfl,sc⟩
  dsimp only [a7];simp only [eh,ei,jO];refine bo ⟨bG _,fun du BZ=>?_⟩;have s1:ai Hc (upd Hc du (.lst [])):=aD BZ;have e1:upd Hc du (.lst []) du=some (.lst (([]:List Int).map V.int)):=ax;dsimp only [a7];generalize upd Hc du (.lst [])=H1 at s1 e1 ⊢;have B0:H du=none:=none_of sc BZ;refine bo ⟨_,rfl,tp,_,_,_,rfl,rfl,.of ((sc.trans s1) _ _ d4),rfl,lk,rfl,⟨_,.of ((sc.trans s1) _ _ elt)⟩,?_⟩;refine vM (K:=K) (a:=lk) (xs:=us) (fun k σ Hd=>∃(zs:List Int) (v3 v4 v5 v6:Option V),σ=[some (.ref tp),some (.int (p:Int)),some (.ref du),v3,v4,v5,v6]∧ai H Hd∧Hd du=some (.lst (zs.map V.int))∧dt L p k zs) ⟨[],_,_,_,_,rfl,sc.trans s1,e1,dt.start⟩ (fun k σ Hd _ ⟨_,_,_,_,_,_,sd,_⟩=>.of (sd _ _ elt)) ?_ ?_
  ·rintro k x σ Hd hx ⟨zs,v3,v4,v5,v6,rfl,sd,ed,ni⟩
   have hk:k<L.length:=by rw [←hL.1];exact (cg.mp hx).1
   obtain ⟨b,rfl,eb⟩:=hL.2 k x L[k] hx (by simp [hk])
   have pk:=lt L[k] (dw hk);refine ⟨b,_,rfl,.of (sd _ _ eb),rfl,_,_,rfl,_,_,rfl,rfl,?_⟩;dsimp only [a7];simp only [eh,ei];have lz:=ni.bA;refine bo (qw (fun σ Hx=>∃mx:List Int,σ=[some (.ref tp),some (.int (p:Int)),some (.ref du),some (.int L[k].1),some (.int L[k].2),v5,v6]∧ai H Hx∧Hx du=some (.lst (mx.map V.int))∧mx.length≤1000∧(L[k].1=(p:Int)→mx=zs++[L[k].2])∧(L[k].1≠(p:Int)→mx=zs)) ?_ ?_)
   ·rintro σ Hx ⟨mx,rfl,sx,ex,OP,h1,h2⟩
    dsimp only;refine ⟨_,rfl,_,rfl,rfl,_,rfl,cG (fun hc=>?_) (fun hc=>?_)⟩
    ·have hc:(p:Int)=L[k].2:=by have:decide (V.int (p:Int)=V.int L[k].2)=true:=hc;rw [nz] at this;exact e_ this
     refine ⟨_,rfl,.inl ⟨rfl,_,.of ex⟩,_,rfl,du,_,_,rfl,rfl,ex,cA (by rw [ba];omega),mx++[L[k].1],_,_,_,_,rfl,fu sx B0,?_,?_⟩
     ·rw [ax,iZ]
      rfl
     ·rw [h2 (by omega)]
      exact ni.snd hk hc.symm (by omega)
    ·have hc:(p:Int)≠L[k].2:=fun z=>hc (by rw [nz];exact bg z)
     refine ⟨mx,_,_,_,_,rfl,sx,ex,?_⟩;by_cases e:L[k].1=(p:Int)
     ·rw [h1 e]
      exact ni.fst hk e
     ·rw [h2 e]
      exact ni.skip hk e hc.symm
   ·intro R hR
    refine ⟨_,rfl,_,rfl,rfl,_,rfl,cG (fun hc=>?_) (fun hc=>?_)⟩
    ·have hc:(p:Int)=L[k].1:=by have:decide (V.int (p:Int)=V.int L[k].1)=true:=hc;rw [nz] at this;exact e_ this
     refine ⟨_,rfl,.inl ⟨rfl,_,.of ed⟩,_,rfl,du,_,_,rfl,rfl,ed,cA (by rw [ba];omega),hR _ _ ⟨zs++[L[k].2],rfl,fu sd B0,?_,by simp;omega,fun _=>rfl,fun h=>absurd hc.symm h⟩⟩
     rw [ax,iZ];rfl
    ·have hc:(p:Int)≠L[k].1:=fun z=>hc (by rw [nz];exact bg z)
     exact hR _ _ ⟨zs,rfl,sd,ed,by omega,fun h=>absurd h.symm hc,fun _=>rfl⟩
  ·rintro σ Hd ⟨zs,v3,v4,v5,v6,rfl,sd,ed,ni⟩
   rw [hL.1] at ni;dsimp only;refine ⟨2,rfl,by decide,by decide,?_⟩
   refine ja (fun j σ He=>∃(v3 v4 v5 v6:Option V),σ=[some (.ref tp),some (.int (p:Int)),some (.ref du),v3,v4,v5,v6]∧ai H He∧He du=some (.lst (zs.map V.int))) ⟨_,_,_,_,rfl,sd,ed⟩ ?_ ?_
   ·rintro j σ He hj ⟨v3,v4,v5,v6,rfl,se,ee⟩
    dsimp only [a7];refine bo ⟨_,rfl,_,rfl,tp,n,L,p,rfl,f9.mono se,qH,uF,hp,fun H5 D ws f s5 nD eD pm so pl nb=>?_⟩;dsimp only [a7];refine bo ⟨_,rfl,_,_,_,true,rfl,rfl,.of (.lst eD),ji,true,rfl,cB ?_⟩;have lf:=xq pl;have zp:zs.Perm (f.map fun k:Nat=>(k:Int)):=ni.perm lt nd pl nb;have B1:zs.length≤n:=by rw [zp.length_eq,ba];exact lf
    refine ⟨_,rfl,_,rfl,du,zs,rfl,s5 _ _ ee,by omega,fun uI D2 uJ o2 n2=>?_⟩
    have e:ws=uI:=(pm.trans (zp.symm.trans uJ.symm)).eq_of_pairwise (fun a b _ _ h1 h2=>by omega) so o2
    refine ⟨D,D2,ws,uI,rfl,rfl,.of ((aD n2) _ _ eD),.of ax,false,by rw [bg e];rfl,cB ?_⟩
    dsimp only [gv];have s6:ai H5 (upd H5 D2 (.lst (uI.map V.int))):=aD n2;generalize upd H5 D2 (.lst (uI.map V.int))=H6 at s6 ⊢;have B2:=s6 _ _ eD;have Ku:H D=none:=none_of se nD;refine ⟨_,rfl,.inl ⟨rfl,_,.of B2⟩,_,rfl,D,_,_,rfl,rfl,B2,cA (by rw [ba,pm.length_eq,ba];omega),_,_,_,_,rfl,fu (se.trans (s5.trans s6)) Ku,?_⟩
    rw [bf (fun z=>by rw [←z,ee] at nD;cases nD)]
    exact (s5.trans s6) _ _ ee
   ·rintro σ He ⟨v3,v4,v5,v6,rfl,se,ee⟩
    exact ⟨_,_,_,_,_,_,rfl,se⟩
 ·rintro σ Hc ⟨v1,v2,v3,v4,v5,v6,rfl,sc⟩
  exact kk _ sc
theorem Kv:cw ["_law_cell","_law_at","_law_x"] ["_law_cell","_law_at"] (bR uq):=c6
theorem Kw(T:Txt K mg t):bT P w K mg base b_ 1 t.l7 t.nY ["_law_cell","_law_at"] Gj:=by
 have S:=Kv;refine T.oA.c7 S (fun _ _ _ _ H _ _ _ hr h=>?_);obtain ⟨c,a,rfl,ha,k⟩:=h
 refine ⟨_,(@aM _ _ _ _ _ (@cL _ _ _ _ _ _ _ _ (dA D4 (pv 0) (@bh _ _ _ _ _ _ _ _ DY ay ay)) (@aR _ _ _ (@bO _ _ _ _ (pv 0))) cT)
  (@aM _ _ _ _ _ (putL 2 S.nd (@bh _ _ _ _ _ _ _ _ kZ (@bh _ _ _ _ _ _ _ _ gX (@bh _ _ _ _ _ _ _ _ gX (@bh _ _ _ _ _ _ _ _ jb (@bh _ _ _ _ _ _ _ _ kZ (pv 0) ay) ay) (@bh _ _ _ _ _ _ _ _ jb (pv 1) ay)) ay) ay))
  (@aM _ _ _ _ _ (putL 2 S.nd (@bh _ _ _ _ _ _ _ _ kZ (@bh _ _ _ _ _ _ _ _ gX (@bh _ _ _ _ _ _ _ _ gX (@bh _ _ _ _ _ _ _ _ jb (pv 2) (pv 2)) (@bh _ _ _ _ _ _ _ _ jb ay (pv 2))) (pv 1)) ay))
  (@aR _ _ _ (@bO _ _ _ _ (@bh _ _ _ _ _ _ _ _ gX (@bh _ _ _ _ _ _ _ _ jb (pv 2) ay) (@bh _ _ _ _ _ _ _ _ kZ (@bh _ _ _ _ _ _ _ _ gX (@bh _ _ _ _ _ _ _ _ jb (pv 2) (pv 2)) (@bh _ _ _ _ _ _ _ _ jb ay (pv 1))) ay))))))),?_⟩
 refine ⟨_,rfl,_,_,rfl,rfl,⟨by decide,by decide,by decide⟩,_,_,rfl,rfl,_,rfl,cG (fun h=>?_) (fun h=>?_)⟩
 ·have h:=e_ h
  exact ⟨_,rfl,k _ (b6 (by decide) h)⟩
 ·refine ⟨_,rfl,_,_,rfl,rfl,(by show (0:Int)<2147483647;decide),_,_,rfl,rfl,.inr ⟨by decide,by decide⟩,_,rfl,_,_,rfl,rfl,.inr ⟨by decide,by decide⟩,_,_,rfl,rfl,_,_,rfl,rfl,_,_,rfl,rfl,(by show (0:Int)<2147483629;decide),?_⟩
  have b0:=i5 (c % 2147483647*48271+a*69621+11) (show (2147483629:Int)≠0 by decide)
  have b1:=kI (c % 2147483647*48271+a*69621+11) (show (0:Int)<2147483629 by decide)
  generalize (c % 2147483647*48271+a*69621+11) % 2147483629=x at b0 b1 ⊢;refine ⟨_,rfl,_,rfl,_,_,rfl,rfl,.inl ⟨by omega,by omega⟩,_,rfl,_,_,rfl,rfl,.inl ⟨by decide,by decide⟩,_,_,rfl,rfl,_,rfl,_,_,rfl,rfl,_,_,rfl,rfl,(by show (0:Int)<2147483587;decide),?_⟩
  have c0:=i5 (x*x+48271*x+a) (show (2147483587:Int)≠0 by decide)
  have c1:=kI (x*x+48271*x+a) (show (0:Int)<2147483587 by decide)
  generalize (x*x+48271*x+a) % 2147483587=y at c0 c1 ⊢;refine ⟨_,rfl,_,_,rfl,rfl,.inr ⟨by decide,by decide⟩,_,rfl,_,rfl,_,_,rfl,rfl,.inl ⟨by omega,by omega⟩,_,rfl,_,_,rfl,rfl,.inl ⟨by decide,by decide⟩,_,_,rfl,rfl,_,_,rfl,rfl,(by show (0:Int)<2147483579;decide),_,_,rfl,rfl,k _ (Int.add_nonneg (Int.mul_nonneg (i5 _ (by decide)) (by decide)) (i5 _ (by decide)))⟩
theorem Kx:cw ["_law_pen","_law_many","_law_at","_law_cell","_law_found"] ["_law_pen","_law_many"] (bR ur):=c6
theorem hZ(T:Txt K mg t):bT P w K mg base b_ 2 t.l8 t.nZ ["_law_pen","_law_many"] (Gk K):=by
 have S:=Kx;refine T.dZ.c7 S (fun _ _ _ _ H _ _ _ hr h=>?_);obtain ⟨P0,a,ns,many,rfl,⟨x,y,eP,hx,hy⟩,hS,m1,mm,k⟩:=h;have jx:=hr.units
 refine ⟨_,(@aM _ _ _ _ _ (@cL _ _ _ _ _ _ _ _ (dA sr (bz cN (pv 0) ay) (pv 1)) (@aM _ _ _ _ _ (putL 2 S.nd (bz cN (pv 0) ay))
  (@aM _ _ _ _ _ (putL 3 S.nd ay)
  (@aM _ _ _ _ _ (@cL _ _ _ _ _ _ _ _ (dA sr (pv 2) (cz jf rfl T.iO i4 (@aa _ _ _ _ _ (by rfl) (bz cN (pv 0) ay) au))) (@aR _ _ _ (putL 3 S.nd (bz cN (bz cN (pv 0) ay) (pv 2)))) (@aR _ _ _ (@cL _ _ _ _ _ _ _ _ (dA pS (cz jf rfl T.iO i4 (@aa _ _ _ _ _ (by rfl) (bz cN (pv 0) ay) au)) ay) (@aR _ _ _ (putL 3 S.nd (@bh _ _ _ _ _ _ _ _ gX (@bh _ _ _ _ _ _ _ _ kZ (bz cN (bz cN (pv 0) ay) (@bh _ _ _ _ _ _ _ _ kZ (@bh _ _ _ _ _ _ _ _ jb (pv 2) ay) (cz jf rfl T.iO i4 (@aa _ _ _ _ _ (by rfl) (bz cN (pv 0) ay) au)))) ay) (@bh _ _ _ _ _ _ _ _ jb (pv 2) ay)))) cT)))
  (@aM _ _ _ _ _ (@r6 _ _ _ _ _ _ (@bh _ _ _ _ _ _ _ _ gX (pv 2) ay) (vJ (pv 0) ay set_list) (by rfl) (by rfl) (by rfl))
  (@aR _ _ _ (@r6 _ _ _ _ _ _ (cu (Kw T) hr T.Bv T.oA.kp T.Bu bt (@aa _ _ _ _ _ (by rfl) (pv 3) (@aa _ _ _ _ _ (by rfl) (pv 2) au))) (vJ (pv 0) ay set_list) (by rfl) (by rfl) (by rfl))))))) cT)
  (@aM _ _ _ _ _ (putL 4 S.nd (@bh _ _ _ _ _ _ _ _ kZ (bz cN (pv 0) ay) (pv 1)))
  (@aM _ _ _ _ _ (@r6 _ _ _ _ _ _ (@bh _ _ _ _ _ _ _ _ FP (bz cN (pv 0) ay) (pv 1)) (vJ (pv 0) ay set_list) (by rfl) (by rfl) (by rfl))
  (@aR _ _ _ (@bO _ _ _ _ (pv 4)))))),?_⟩
 have nM:=lE.seq hS;refine ⟨_,rfl,P0,_,_,_,rfl,rfl,.of eP,rfl,_,rfl,_,_,rfl,rfl,_,rfl,cG (fun bL=>?_) (fun bL=>?_)⟩
 ·refine ⟨_,rfl,P0,_,_,_,rfl,rfl,.of eP,rfl,?_⟩
  refine ⟨_,rfl,_,rfl,P0,_,_,_,rfl,rfl,.of eP,rfl,a,ns.map V.int,rfl,.inl nM,_,_,rfl,rfl,_,rfl,cG (fun h1=>?_) (fun h1=>?_)⟩
  ·have h1:x<((ns.map V.int).length:Int):=e_ h1
   obtain ⟨v,hv,mv⟩:=z8 (xs:=ns.map V.int) hx h1;obtain ⟨c,_,rfl⟩:=ik.mp mv;refine ⟨_,rfl,P0,_,_,_,rfl,rfl,.of eP,rfl,_,rfl,a,ns.map V.int,_,_,rfl,rfl,nM,hv,?_⟩;refine ⟨_,rfl,_,_,rfl,rfl,_,rfl,P0,_,1,1,rfl,rfl,eP,rfl,?_⟩;refine ⟨_,rfl,_,rfl,c,x,rfl,hx,fun r qJ=>⟨_,rfl,P0,_,2,2,rfl,rfl,ax,rfl,?_⟩⟩;have q0:=i5 (r) (show many≠0 by omega)
   have q1:=kI (r) (show 0<many by omega)
   have q2:=rQ (qJ) (show 0≤many by omega)
   refine ⟨_,rfl,P0,_,_,_,rfl,rfl,.of ax,rfl,_,rfl,_,_,rfl,rfl,(show 0<many by omega),?_⟩
   refine ⟨_,rfl,P0,_,_,_,rfl,rfl,.of ax,rfl,_,rfl,_,_,rfl,rfl,⟨show 0<many by omega,mm⟩,_,rfl,P0,_,2,2,rfl,rfl,ax,rfl,?_⟩
   exact ⟨_,rfl,k _ _ q0 q1 (((aE.refl H).trans aE.eM).trans (aE.eM.trans aE.eM)) ⟨x+1,r / many,ax,by omega,q2⟩⟩
  ·refine ⟨_,rfl,P0,_,_,_,rfl,rfl,.of eP,rfl,a,ns.map V.int,rfl,.inl nM,_,_,rfl,rfl,_,rfl,?_⟩
   have uK:=eP;have B3:=nM;have sl:=ai.refl H;refine cG (fun h2=>?_) (fun h2=>?_)
   ·have hl:0<(ns.map V.int).length:=by have:=e_ h2;omega
    have Ky:=i5 (x*7) (show ((ns.map V.int).length:Int)≠0 by omega)
    have qE:=kI (x*7) (show (0:Int)<((ns.map V.int).length:Int) by omega)
    obtain ⟨v,hv,mv⟩:=z8 (xs:=ns.map V.int) Ky qE;obtain ⟨c,_,rfl⟩:=ik.mp mv;refine ⟨_,rfl,P0,_,_,_,rfl,rfl,.of uK,rfl,_,rfl,_,_,rfl,rfl,.inr ⟨by decide,by decide⟩,_,rfl,P0,_,_,_,rfl,rfl,.of uK,rfl,a,ns.map V.int,rfl,.inl B3,_,_,rfl,rfl,(show (0:Int)<((ns.map V.int).length:Int) by omega),a,ns.map V.int,_,_,rfl,rfl,B3,hv,_,_,rfl,rfl,(show (0:Int)<1000003 by decide),_,rfl,_,_,rfl,rfl,.inr ⟨by decide,by decide⟩,_,_,rfl,rfl,?_⟩
    refine ⟨_,rfl,_,_,rfl,rfl,_,rfl,P0,_,1,1,rfl,rfl,uK,rfl,?_⟩;refine ⟨_,rfl,_,rfl,_,x,rfl,hx,fun r qJ=>⟨_,rfl,P0,_,2,2,rfl,rfl,ax,rfl,?_⟩⟩;have q0:=i5 (r) (show many≠0 by omega)
    have q1:=kI (r) (show 0<many by omega)
    have q2:=rQ (qJ) (show 0≤many by omega)
    refine ⟨_,rfl,P0,_,_,_,rfl,rfl,.of ax,rfl,_,rfl,_,_,rfl,rfl,(show 0<many by omega),?_⟩
    refine ⟨_,rfl,P0,_,_,_,rfl,rfl,.of ax,rfl,_,rfl,_,_,rfl,rfl,⟨show 0<many by omega,mm⟩,_,rfl,P0,_,2,2,rfl,rfl,ax,rfl,?_⟩
    exact ⟨_,rfl,k _ _ q0 q1 (((aE.of sl).trans aE.eM).trans (aE.eM.trans aE.eM)) ⟨x+1,r / many,ax,by omega,q2⟩⟩
   ·
    refine ⟨_,rfl,_,_,rfl,rfl,_,rfl,P0,_,1,1,rfl,rfl,uK,rfl,?_⟩;refine ⟨_,rfl,_,rfl,0,x,rfl,hx,fun r qJ=>⟨_,rfl,P0,_,2,2,rfl,rfl,ax,rfl,?_⟩⟩;have q0:=i5 (r) (show many≠0 by omega)
    have q1:=kI (r) (show 0<many by omega)
    have q2:=rQ (qJ) (show 0≤many by omega)
    refine ⟨_,rfl,P0,_,_,_,rfl,rfl,.of ax,rfl,_,rfl,_,_,rfl,rfl,(show 0<many by omega),?_⟩
    refine ⟨_,rfl,P0,_,_,_,rfl,rfl,.of ax,rfl,_,rfl,_,_,rfl,rfl,⟨show 0<many by omega,mm⟩,_,rfl,P0,_,2,2,rfl,rfl,ax,rfl,?_⟩
    exact ⟨_,rfl,k _ _ q0 q1 (((aE.of sl).trans aE.eM).trans (aE.eM.trans aE.eM)) ⟨x+1,r / many,ax,by omega,q2⟩⟩
 ·dsimp only [gv]
  have q0:=i5 (y) (show many≠0 by omega)
  have q1:=kI (y) (show 0<many by omega)
  have q2:=rQ (hy) (show 0≤many by omega)
  refine ⟨_,rfl,P0,_,_,_,rfl,rfl,.of eP,rfl,_,rfl,_,_,rfl,rfl,(show 0<many by omega),?_⟩
  refine ⟨_,rfl,P0,_,_,_,rfl,rfl,.of eP,rfl,_,rfl,_,_,rfl,rfl,⟨show 0<many by omega,mm⟩,_,rfl,P0,_,2,2,rfl,rfl,eP,rfl,?_⟩
  exact ⟨_,rfl,k _ _ q0 q1 (aE.eM) ⟨x,y / many,ax,hx,q2⟩⟩
theorem Kz:cw ["_law_pen","_law_shape","_law_size","_law_links","_law_last","_law_bad","_law_at","_law_found"] ["_law_pen","_law_shape"] (bR uz):=c6
theorem KA(T:Txt K mg t):bT P w K mg base b_ 3 t.mf t.og ["_law_pen","_law_shape"] (JR K):=by
 have S:=Kz;have B4:=hZ (P:=P) (w:=w) (base:=base) T;refine T.oG.c7 S (fun _ _ _ _ H _ _ _ hr h=>?_);obtain ⟨P0,a,tp,ns,n,Lk,rfl,pc,hS,B5,f9,pw,lt,n1,B6,l2,kk⟩:=h;have jx:=hr.units;obtain ⟨lk,us,d4,xG,hL⟩:=id f9;have lu:=hL.1
 refine ⟨_,(@aM _ _ _ _ _ (@r6 _ _ _ _ _ _ (pv 1) (m9 rfl (gx (cq (i:=2) S.nd rfl (Or.inl rfl)) (gx (cq (i:=3) S.nd rfl (Or.inl rfl)) m8))) (by rfl) (by rfl) (by rfl))
   (@aM _ _ _ _ _ (@iF _ _ 4 _ _ _ _ (by rfl) (by first | exact .inl rfl | exact .inr rfl | assumption) S.nd rfl (Or.inl rfl) (@aZ _ _ _ _ _ (@aa _ _ _ _ _ (by rfl) (@bh _ _ _ _ _ _ _ _ pR (pv 2) ay) (@aa _ _ _ _ _ (by rfl) (pv 2) au))))
   (@aM _ _ _ _ _ (@iF _ _ 5 _ _ _ _ (by rfl) (by first | exact .inl rfl | exact .inr rfl | assumption) S.nd rfl (Or.inl rfl) (@dB _ _ _ _ (@aa _ _ _ _ _ (by rfl) (@aZ _ _ _ _ _ au) (@aa _ _ _ _ _ (by rfl) (@aZ _ _ _ _ _ (@aa _ _ _ _ _ (by rfl) ay au)) (@aa _ _ _ _ _ (by rfl) (@aZ _ _ _ _ _ (@aa _ _ _ _ _ (by rfl) ay (@aa _ _ _ _ _ (by rfl) ay (@aa _ _ _ _ _ (by rfl) ay au)))) (@aa _ _ _ _ _ (by rfl) (@aZ _ _ _ _ _ (@aa _ _ _ _ _ (by rfl) ay (@aa _ _ _ _ _ (by rfl) ay au))) (@aa _ _ _ _ _ (by rfl) (@aZ _ _ _ _ _ (@aa _ _ _ _ _ (by rfl) ay (@aa _ _ _ _ _ (by rfl) ay au))) (@aa _ _ _ _ _ (by rfl) (@aZ _ _ _ _ _ (@aa _ _ _ _ _ (by rfl) (@vQ _ _ _ _ _ _ vS ay) (@aa _ _ _ _ _ (by rfl) ay au))) (@aa _ _ _ _ _ (by rfl) (pv 4) (@aa _ _ _ _ _ (by rfl) (@aZ _ _ _ _ _ (@aa _ _ _ _ _ (by rfl) dq (@aa _ _ _ _ _ (by rfl) ay au))) (@aa _ _ _ _ _ (by rfl) (@aZ _ _ _ _ _ (@aa _ _ _ _ _ (by rfl) ay (@aa _ _ _ _ _ (by rfl) dq au))) (@aa _ _ _ _ _ (by rfl) (@dB _ _ _ _ (@aa _ _ _ _ _ (by rfl) ay (@aa _ _ _ _ _ (by rfl) ay au))) (@aa _ _ _ _ _ (by rfl) vE (@aa _ _ _ _ _ (by rfl) (@aZ _ _ _ _ _ (@aa _ _ _ _ _ (by rfl) ay (@aa _ _ _ _ _ (by rfl) yI au))) au))))))))))))))
   (@aM _ _ _ _ _ (@iF _ _ 5 _ _ _ _ (by rfl) (by first | exact .inl rfl | exact .inr rfl | assumption) S.nd rfl (Or.inl rfl) (@sN _ _ _ _ _ _ _ cN (pv 5) (fO B4 (hr.mono (by decide)) rfl T.fZ T.dZ.kp T.fY .nil bt (@aa _ _ _ _ _ (by rfl) (pv 0) (@aa _ _ _ _ _ (by rfl) ay au))) (fun _ _=>rfl)))
   (@aM _ _ _ _ _ (@iF _ _ 6 _ _ _ _ (by rfl) (by first | exact .inl rfl | exact .inr rfl | assumption) S.nd rfl (Or.inl rfl) (fO B4 (hr.mono (by decide)) rfl T.fZ T.dZ.kp T.fY .nil bt (@aa _ _ _ _ _ (by rfl) (pv 0) (@aa _ _ _ _ _ (by rfl) (@bh _ _ _ _ _ _ _ _ gX (cz jf rfl T.iO i4 (@aa _ _ _ _ _ (by rfl) (pv 3) au)) ay) au))))
   (@aM _ _ _ _ _ (@iF _ _ 7 _ _ _ _ (by rfl) (by first | exact .inl rfl | exact .inr rfl | assumption) S.nd rfl (Or.inl rfl) (@dB _ _ _ _ (@aa _ _ _ _ _ (by rfl) (@aZ _ _ _ _ _ (@aa _ _ _ _ _ (by rfl) (pv 2) (@aa _ _ _ _ _ (by rfl) (@bh _ _ _ _ _ _ _ _ pY (@bh _ _ _ _ _ _ _ _ Iq (@j7 _ _ _ _ _ _ _ _ _ _ ko (pv 3) jd (lg (pv 6))) (@aZ _ _ _ _ _ (@aa _ _ _ _ _ (by rfl) (pv 5) au))) (@j7 _ _ _ _ _ _ _ _ _ _ ko (pv 3) (lg (pv 6)) jd)) au))) (@aa _ _ _ _ _ (by rfl) (@aZ _ _ _ _ _ (@aa _ _ _ _ _ (by rfl) ay (@aa _ _ _ _ _ (by rfl) (@aZ _ _ _ _ _ au) au))) (@aa _ _ _ _ _ (by rfl) (@aZ _ _ _ _ _ (@aa _ _ _ _ _ (by rfl) ay (@aa _ _ _ _ _ (by rfl) (@aZ _ _ _ _ _ au) au))) (@aa _ _ _ _ _ (by rfl) (@aZ _ _ _ _ _ (@aa _ _ _ _ _ (by rfl) dq (@aa _ _ _ _ _ (by rfl) (@aZ _ _ _ _ _ au) au))) (@aa _ _ _ _ _ (by rfl) (@aZ _ _ _ _ _ (@aa _ _ _ _ _ (by rfl) (pv 2) (@aa _ _ _ _ _ (by rfl) (k_ zM rfl T.qG boot_list (@aa _ _ _ _ _ (by rfl) (pv 3) au)) au))) (@aa _ _ _ _ _ (by rfl) (@dB _ _ _ _ (@aa _ _ _ _ _ (by rfl) (pv 2) (@aa _ _ _ _ _ (by rfl) (pv 3) au))) (@aa _ _ _ _ _ (by rfl) (@aZ _ _ _ _ _ (@aa _ _ _ _ _ (by rfl) (pv 2) au)) (@aa _ _ _ _ _ (by rfl) (@aZ _ _ _ _ _ (@aa _ _ _ _ _ (by rfl) (pv 2) (@aa _ _ _ _ _ (by rfl) (pv 3) (@aa _ _ _ _ _ (by rfl) (@aZ _ _ _ _ _ au) au)))) (@aa _ _ _ _ _ (by rfl) (@aZ _ _ _ _ _ (@aa _ _ _ _ _ (by rfl) (k_ D9 rfl T.BQ boot_str (@aa _ _ _ _ _ (by rfl) (pv 2) au)) (@aa _ _ _ _ _ (by rfl) (pv 3) au))) (@aa _ _ _ _ _ (by rfl) (@aZ _ _ _ _ _ (@aa _ _ _ _ _ (by rfl) (pv 3) (@aa _ _ _ _ _ (by rfl) (pv 2) au))) au))))))))))))
   (@aM _ _ _ _ _ (@cL _ _ _ _ _ _ _ _ (@k4 _ _ _ _ _ _ _ _ (JD jx) (pv 3) (@aZ _ _ _ _ _ au) (iz _)) (@aM _ _ _ _ _ (gw (fS fK gQ gR fi (pv 7) (@aa _ _ _ _ _ (by rfl) (@aZ _ _ _ _ _ (@aa _ _ _ _ _ (by rfl) (pv 2) (@aa _ _ _ _ _ (by rfl) (@bh _ _ _ _ _ _ _ _ pY (pv 3) (@j7 _ _ _ _ _ _ _ _ _ _ ko (pv 3) jd (lg ay))) au))) au)))
   (@aM _ _ _ _ _ (gw (fS fK gQ gR fi (pv 7) (@aa _ _ _ _ _ (by rfl) (@aZ _ _ _ _ _ (@aa _ _ _ _ _ (by rfl) (pv 2) (@aa _ _ _ _ _ (by rfl) (@bh _ _ _ _ _ _ _ _ pY (@j7 _ _ _ _ _ _ _ _ _ _ ko (pv 3) jd (lg ay)) (pv 3)) au))) au)))
   (@aR _ _ _ (gw (fS fK gQ gR fi (pv 7) (@aa _ _ _ _ _ (by rfl) (@aZ _ _ _ _ _ (@aa _ _ _ _ _ (by rfl) (@sN _ _ _ _ _ _ _ dU (@sN _ _ _ _ _ _ _ dU (pv 3) (@vQ _ _ _ _ _ _ vS ay) (fun _ _=>rfl)) ay (fun _ _=>rfl)) (@aa _ _ _ _ _ (by rfl) (@j7 _ _ _ _ _ _ _ _ _ _ ko (pv 3) jd jd) au))) au)))))) cT)
   (@aM _ _ _ _ _ (@cL _ _ _ _ _ _ _ _ (@k4 _ _ _ _ _ _ _ _ pS (cz jf rfl T.iO i4 (@aa _ _ _ _ _ (by rfl) (pv 3) au)) ay (iz _)) (@aR _ _ _ (gw (fS fK gQ gR fi (pv 7) (@aa _ _ _ _ _ (by rfl) (@aZ _ _ _ _ _ (@aa _ _ _ _ _ (by rfl) (pv 2) (@aa _ _ _ _ _ (by rfl) (@bh _ _ _ _ _ _ _ _ pY (@j7 _ _ _ _ _ _ _ _ _ _ ko (pv 3) (lg ay) jd) (@j7 _ _ _ _ _ _ _ _ _ _ ko (pv 3) jd (lg ay))) au))) au)))) cT)
   (@aR _ _ _ (@bO _ _ _ _ (pv 7))))))))))),?_⟩
 refine bo ⟨_,rfl,tp,_,rfl,.of d4,rfl,_,_,rfl,_,_,rfl,rfl,?_⟩;dsimp only [a7];simp only [L2.start,eh,ei];refine bo ⟨_,rfl,_,_,rfl,rfl,_,rfl,by show 2≤sizeLine;decide,fun la my=>?_⟩
 have xH:ai H (upd H la (.tup [.int ((n:Int)-1),.int (n:Int)])):=aD my;have mz:upd H la (.tup [.int ((n:Int)-1),.int (n:Int)]) la=some (.tup [.int ((n:Int)-1),.int (n:Int)]):=ax;generalize upd H la (.tup [.int ((n:Int)-1),.int (n:Int)])=G1 at xH mz ⊢;dsimp only [a7]
 try simp only [eh,ei]
 refine bo ⟨bG _,fun b0 KC=>?_⟩;have uL:ai G1 (upd G1 b0 (.tup [])):=aD KC;have B7:upd G1 b0 (.tup []) b0=some (.tup []):=ax;generalize upd G1 b0 (.tup [])=G2 at uL B7 ⊢;refine ⟨by show 1≤sizeLine;decide,fun b1 tK=>?_⟩
 have qK:ai G2 (upd G2 b1 (.tup [.int 0])):=aD tK;have B8:upd G2 b1 (.tup [.int 0]) b1=some (.tup [.int 0]):=ax;generalize upd G2 b1 (.tup [.int 0])=G3 at qK B8 ⊢;refine ⟨by show 3≤sizeLine;decide,fun b2 KD=>?_⟩
 have oK:ai G3 (upd G3 b2 (.tup [.int 0,.int 1,.int 2])):=aD KD;have B9:upd G3 b2 (.tup [.int 0,.int 1,.int 2]) b2=some (.tup [.int 0,.int 1,.int 2]):=ax;generalize upd G3 b2 (.tup [.int 0,.int 1,.int 2])=G4 at oK B9 ⊢;refine ⟨by show 2≤sizeLine;decide,fun b3 KG=>?_⟩
 have mB:ai G4 (upd G4 b3 (.tup [.int 1,.int 0])):=aD KG;have B_:upd G4 b3 (.tup [.int 1,.int 0]) b3=some (.tup [.int 1,.int 0]):=ax;generalize upd G4 b3 (.tup [.int 1,.int 0])=G5 at mB B_ ⊢;refine ⟨by show 2≤sizeLine;decide,fun b4 KH=>?_⟩
 have ky:ai G5 (upd G5 b4 (.tup [.int 0,.int 0])):=aD KH;have qL:upd G5 b4 (.tup [.int 0,.int 0]) b4=some (.tup [.int 0,.int 0]):=ax;generalize upd G5 b4 (.tup [.int 0,.int 0])=G6 at ky qL ⊢;refine ⟨1,rfl,by show 2≤sizeLine;decide,fun b5 KI=>?_⟩
 have jy:ai G6 (upd G6 b5 (.tup [.int (-1),.int 0])):=aD KI;have Ca:upd G6 b5 (.tup [.int (-1),.int 0]) b5=some (.tup [.int (-1),.int 0]):=ax;generalize upd G6 b5 (.tup [.int (-1),.int 0])=G7 at jy Ca ⊢;refine ⟨_,rfl,by show 2≤sizeLine;decide,fun b7 KJ=>?_⟩
 have iP:ai G7 (upd G7 b7 (.tup [.bl false,.int 1])):=aD KJ;have Cb:upd G7 b7 (.tup [.bl false,.int 1]) b7=some (.tup [.bl false,.int 1]):=ax;generalize upd G7 b7 (.tup [.bl false,.int 1])=G8 at iP Cb ⊢;refine ⟨by show 2≤sizeLine;decide,fun b8 KN=>?_⟩
 have h_:ai G8 (upd G8 b8 (.tup [.int 0,.bl true])):=aD KN;have Cc:upd G8 b8 (.tup [.int 0,.bl true]) b8=some (.tup [.int 0,.bl true]):=ax;generalize upd G8 b8 (.tup [.int 0,.bl true])=G9 at h_ Cc ⊢;refine ⟨by show 2≤sizeLine;decide,fun b9 KO=>?_⟩
 have gJ:ai G9 (upd G9 b9 (.lst [.int 0,.int 1])):=aD KO;have Cd:upd G9 b9 (.lst [.int 0,.int 1]) b9=some (.lst [.int 0,.int 1]):=ax;generalize upd G9 b9 (.lst [.int 0,.int 1])=jz at gJ Cd ⊢;refine ⟨by show 2≤sizeLine;decide,fun iQ KP=>?_⟩
 have f_:ai jz (upd jz iQ (.tup [.int 0,.str (Str.ofString "1")])):=aD KP;have Ce:upd jz iQ (.tup [.int 0,.str (Str.ofString "1")]) iQ=some (.tup [.int 0,.str (Str.ofString "1")]):=ax;generalize upd jz iQ (.tup [.int 0,.str (Str.ofString "1")])=jA at f_ Ce ⊢;refine ⟨by show 12≤sizeLine;decide,fun lb Cf=>?_⟩
 have gc:ai jA (upd jA lb (.lst [.ref b0,.ref b1,.ref b2,.ref b3,.ref b4,.ref b5,.ref la,.ref b7,.ref b8,.ref b9,.aI,.ref iQ])):=aD Cf;have Cg:upd jA lb (.lst [.ref b0,.ref b1,.ref b2,.ref b3,.ref b4,.ref b5,.ref la,.ref b7,.ref b8,.ref b9,.aI,.ref iQ]) lb=some (.lst [.ref b0,.ref b1,.ref b2,.ref b3,.ref b4,.ref b5,.ref la,.ref b7,.ref b8,.ref b9,.aI,.ref iQ]):=ax;generalize upd jA lb (.lst [.ref b0,.ref b1,.ref b2,.ref b3,.ref b4,.ref b5,.ref la,.ref b7,.ref b8,.ref b9,.aI,.ref iQ])=kA at gc Cg ⊢;dsimp only [a7]
 try simp only [eh,ei]
 have sB:ai H kA:=(xH.trans (uL.trans (qK.trans (oK.trans (mB.trans (ky.trans (jy.trans (iP.trans (h_.trans (gJ.trans (f_.trans gc)))))))))));have pB:=pc.mono sB;have KQ:lb≠P0:=(pc.mono (xH.trans (uL.trans (qK.trans (oK.trans (mB.trans (ky.trans (jy.trans (iP.trans (h_.trans (gJ.trans f_))))))))))).ne Cf;have fla:=(uL.trans (qK.trans (oK.trans (mB.trans (ky.trans (jy.trans (iP.trans (h_.trans (gJ.trans (f_.trans gc)))))))))) _ _ mz;have Ci:=(qK.trans (oK.trans (mB.trans (ky.trans (jy.trans (iP.trans (h_.trans (gJ.trans (f_.trans gc))))))))) _ _ B7;have Cj:=(oK.trans (mB.trans (ky.trans (jy.trans (iP.trans (h_.trans (gJ.trans (f_.trans gc)))))))) _ _ B8;have Ck:=(mB.trans (ky.trans (jy.trans (iP.trans (h_.trans (gJ.trans (f_.trans gc))))))) _ _ B9;have Cm:=(ky.trans (jy.trans (iP.trans (h_.trans (gJ.trans (f_.trans gc)))))) _ _ B_;have Cn:=(jy.trans (iP.trans (h_.trans (gJ.trans (f_.trans gc))))) _ _ qL;have Co:=(iP.trans (h_.trans (gJ.trans (f_.trans gc)))) _ _ Ca;have Cp:=(h_.trans (gJ.trans (f_.trans gc))) _ _ Cb;have Cq:=(gJ.trans (f_.trans gc)) _ _ Cc;have xI:=(f_.trans gc) _ _ Cd;have Cr:=gc _ _ Ce;refine bo ⟨_,rfl,_,rfl,P0,a,ns,12,rfl,pB,ai.seq (aE.of sB) hS,by decide,dC.of_lt (by decide) (by decide),fun c I1 c0 c1 sc p1=>?_⟩
 have up:∀{b:Addr} {xs:List V},kA b=some (.tup xs)→I1 b=some (.tup xs):=fun{b xs} e=>sc.at (fun z=>by obtain ⟨x,y,e',_⟩:=pB;rw [z,e'] at e;cases e) e
 have dI:I1 b9=some (.lst [.int 0,.int 1]):=sc.at (fun z=>by obtain ⟨x,y,e',_⟩:=pB;rw [z,e'] at xI;simp at xI) xI
 have hv:∃v,fh [.ref b0,.ref b1,.ref b2,.ref b3,.ref b4,.ref b5,.ref la,.ref b7,.ref b8,.ref b9,.aI,.ref iQ] c=some v∧∀J:Hp,(∀b xs,kA b=some (.tup xs)→J b=some (.tup xs))→J b9=some (.lst [.int 0,.int 1])→gH J v∧eV J n v=false:=by
  obtain ⟨q,rfl⟩:=dQ c0;have hq:q<12:=by omega
  match q,hq with
  | 0,_=>exact ⟨.ref b0,rfl,fun J up dI=>⟨.many (up _ _ Ci) (by simp),dG (up _ _ Ci) rfl⟩⟩
  | 1,_=>exact ⟨.ref b1,rfl,fun J up dI=>⟨.many (up _ _ Cj) (by simp),dG (up _ _ Cj) rfl⟩⟩
  | 2,_=>exact ⟨.ref b2,rfl,fun J up dI=>⟨.many (up _ _ Ck) (by simp),dG (up _ _ Ck) rfl⟩⟩
  | 3,_=>exact ⟨.ref b3,rfl,fun J up dI=>⟨.two (up _ _ Cm) (.int _) (.int _),dG (up _ _ Cm) (by simp [cC,ltV])⟩⟩
  | 4,_=>exact ⟨.ref b4,rfl,fun J up dI=>⟨.two (up _ _ Cn) (.int _) (.int _),dG (up _ _ Cn) (by simp [cC,ltV])⟩⟩
  | 5,_=>exact ⟨.ref b5,rfl,fun J up dI=>⟨.two (up _ _ Co) (.int _) (.int _),dG (up _ _ Co) (by simp [cC,ltV])⟩⟩
  | 6,_=>exact ⟨.ref la,rfl,fun J up dI=>⟨.two (up _ _ fla) (.int _) (.int _),dG (up _ _ fla) (by simp [cC,ltV])⟩⟩
  | 7,_=>exact ⟨.ref b7,rfl,fun J up dI=>⟨.two (up _ _ Cp) (.bl _) (.int _),dG (up _ _ Cp) rfl⟩⟩
  | 8,_=>exact ⟨.ref b8,rfl,fun J up dI=>⟨.two (up _ _ Cq) (.int _) (.bl _),dG (up _ _ Cq) (by simp [cC])⟩⟩
  | 9,_=>exact ⟨.ref b9,rfl,fun J up dI=>⟨.other (.lst dI) (fD dI rfl),dG dI rfl⟩⟩
  | 10,_=>exact ⟨.aI,rfl,fun J up dI=>⟨.other .aI rfl,rfl⟩⟩
  | 11,_=>exact ⟨.ref iQ,rfl,fun J up dI=>⟨.two (up _ _ Cr) (.int _) (.str _),dG (up _ _ Cr) (by simp [cC])⟩⟩
 obtain ⟨bd,KR,KS⟩:=hv;refine ⟨lb,_,_,bd,rfl,rfl,.of (sc.at KQ Cg),KR,?_⟩;dsimp only [a7]
 try simp only [eh,ei]
 have Cs:I1 lk=some (.tup us):=up (sB _ _ xG);have KU:aT I1 us Lk:=(((hL.mono sB).er pB).mono sc).mono lE;refine bo ⟨_,rfl,_,rfl,lk,us,rfl,.inr (.of Cs),_,_,rfl,rfl,P0,a,ns,_,rfl,p1,ai.seq ((aE.of sB).trans sc) hS,by omega,dC.of_lt (by omega) (by omega),fun at' I2 KW xJ sd p2=>?_⟩
 obtain ⟨k,rfl⟩:=dQ KW;have KY:aE P0 H I2:=(aE.of sB).trans (sc.trans sd);have Ct:∀{b:Addr} {xs:List V},I1 b=some (.tup xs)→I2 b=some (.tup xs):=fun{b xs} e=>sd.at (fun z=>by obtain ⟨x,y,e',_⟩:=p1;rw [z,e'] at e;cases e) e
 have d5:=Ct Cs;have oM:aT I2 us Lk:=((KU.er p1).mono sd).mono lE;dsimp only [a7]
 try simp only [eh,ei]
 have big:us.length≤200:=by omega
 refine bo ⟨_,rfl,AB (fun x Hx=>∃r,x=.ref r∧ai I2 Hx∧Hx r=some (.tup (us.take k++[bd]++us.drop k))) (fun R hR=>?_) ?_⟩
 ·refine wx (AB (fun x Hx=>∃r,x=.ref r∧ai I2 Hx∧Hx r=some (.tup (us.take k++[bd]))) (fun R1 xK=>?_) ?_)
  ·refine wx ⟨_,rfl,_,rfl,_,rfl,lk,us,rfl,.of d5,fun gf J1 h1=>?_⟩
   have f1:ai I2 J1∧J1 gf=some (.tup (us.take k)):=by
    rw [sZ] at h1;rcases h1 with ⟨rfl,rfl,e⟩ | ⟨np,rfl⟩;·exact ⟨ai.refl _,by rw [e];exact d5⟩
    ·exact ⟨aD np,ax⟩
   refine ⟨_,rfl,by show 1≤sizeLine;decide,fun tb KZ=>?_⟩
   have xM:ai J1 (upd J1 tb (.tup [bd])):=aD KZ;refine ⟨gf,tb,us.take k,[bd],rfl,rfl,.of (xM _ _ f1.2),.of ax,by simp,iT (cA (by simp;omega)),fun h=>?_,fun h p np=>?_⟩
   ·rw [h,List.nil_append] at xK
    exact xK _ _ ⟨tb,rfl,f1.1.trans xM,ax⟩
   ·exact xK _ _ ⟨p,rfl,f1.1.trans (xM.trans (aD np)),ax⟩
  ·rintro x J1 ⟨r1,rfl,uN,iR⟩
   refine ⟨_,rfl,_,rfl,_,rfl,lk,us,rfl,.of (uN _ _ d5),fun uJ J2 h2=>?_⟩;have f2:ai J1 J2∧J2 uJ=some (.tup (us.drop k)):=by
    rw [AS] at h2;rcases h2 with ⟨rfl,rfl,e⟩ | ⟨np,rfl⟩;·exact ⟨ai.refl _,by rw [e];exact uN _ _ d5⟩
    ·exact ⟨aD np,ax⟩
   refine ⟨r1,uJ,us.take k++[bd],us.drop k,rfl,rfl,.of (f2.1 _ _ iR),.of f2.2,by simp,iT (cA (by simp;omega)),fun h=>?_,fun h p np=>?_⟩
   ·rw [h,oV] at hR
    exact hR _ _ ⟨r1,rfl,uN.trans f2.1,f2.1 _ _ iR⟩
   ·exact hR _ _ ⟨p,rfl,(uN.trans f2.1).trans (aD np),ax⟩
 rintro x J0 ⟨r0,rfl,Cu,K3⟩;refine ⟨by show 2≤sizeLine;decide,fun t0 xN=>?_⟩
 have kB:ai J0 (upd J0 t0 (.tup [.int (n:Int),.ref r0])):=aD xN;have qM:upd J0 t0 (.tup [.int (n:Int),.ref r0]) t0=some (.tup [.int (n:Int),.ref r0]):=ax;generalize upd J0 t0 (.tup [.int (n:Int),.ref r0])=mC at kB qM ⊢;refine ⟨bG _,fun z1 K4=>?_⟩;have qN:ai mC (upd mC z1 (.tup [])):=aD K4;have K5:upd mC z1 (.tup []) z1=some (.tup []):=ax;generalize upd mC z1 (.tup [])=jB at qN K5 ⊢;refine ⟨by show 2≤sizeLine;decide,fun t1 xO=>?_⟩
 have gK:ai jB (upd jB t1 (.tup [.int 0,.ref z1])):=aD xO;have qO:upd jB t1 (.tup [.int 0,.ref z1]) t1=some (.tup [.int 0,.ref z1]):=ax;generalize upd jB t1 (.tup [.int 0,.ref z1])=oN at gK qO ⊢;refine ⟨bG _,fun z2 K6=>?_⟩;have oO:ai oN (upd oN z2 (.tup [])):=aD K6;have K7:upd oN z2 (.tup []) z2=some (.tup []):=ax;generalize upd oN z2 (.tup [])=uO at oO K7 ⊢;refine ⟨by show 2≤sizeLine;decide,fun t2 xP=>?_⟩
 have fE:ai uO (upd uO t2 (.tup [.int 61,.ref z2])):=aD xP;have uP:upd uO t2 (.tup [.int 61,.ref z2]) t2=some (.tup [.int 61,.ref z2]):=ax;generalize upd uO t2 (.tup [.int 61,.ref z2])=uQ at fE uP ⊢;refine ⟨bG _,fun z3 K8=>?_⟩;have mD:ai uQ (upd uQ z3 (.tup [])):=aD K8;have K9:upd uQ z3 (.tup []) z3=some (.tup []):=ax;generalize upd uQ z3 (.tup [])=uR at mD K9 ⊢;refine ⟨by show 2≤sizeLine;decide,fun t3 xQ=>?_⟩
 have eW:ai uR (upd uR t3 (.tup [.bl true,.ref z3])):=aD xQ;have qP:upd uR t3 (.tup [.bl true,.ref z3]) t3=some (.tup [.bl true,.ref z3]):=ax;generalize upd uR t3 (.tup [.bl true,.ref z3])=uS at eW qP ⊢;refine ⟨_,rfl,_,rfl,lk,us,rfl,.inr (.of ((Cu.trans (kB.trans (qN.trans (gK.trans (oO.trans (fE.trans (mD.trans eW))))))) _ _ d5)),fun z4 K_=>?_⟩;have mE:ai uS (upd uS z4 (.lst us)):=aD K_;have qQ:upd uS z4 (.lst us) z4=some (.lst us):=ax;generalize upd uS z4 (.lst us)=uT at mE qQ ⊢;refine ⟨by show 2≤sizeLine;decide,fun t4 xR=>?_⟩
 have dJ:ai uT (upd uT t4 (.tup [.int (n:Int),.ref z4])):=aD xR;have qR:upd uT t4 (.tup [.int (n:Int),.ref z4]) t4=some (.tup [.int (n:Int),.ref z4]):=ax;generalize upd uT t4 (.tup [.int (n:Int),.ref z4])=uU at dJ qR ⊢;refine ⟨_,rfl,_,rfl,by show 2≤sizeLine;decide,fun t5 xS=>?_⟩
 have dh:ai uU (upd uU t5 (.lst [.int (n:Int),.ref lk])):=aD xS;have mF:upd uU t5 (.lst [.int (n:Int),.ref lk]) t5=some (.lst [.int (n:Int),.ref lk]):=ax;generalize upd uU t5 (.lst [.int (n:Int),.ref lk])=uV at dh mF ⊢;refine ⟨_,rfl,by show 1≤sizeLine;decide,fun t6 xT=>?_⟩
 have cD:ai uV (upd uV t6 (.tup [.int (n:Int)])):=aD xT;have qS:upd uV t6 (.tup [.int (n:Int)]) t6=some (.tup [.int (n:Int)]):=ax;generalize upd uV t6 (.tup [.int (n:Int)])=uW at cD qS ⊢;refine ⟨_,rfl,_,rfl,bG _,fun z7 La=>?_⟩;have gg:ai uW (upd uW z7 (.tup [])):=aD La;have Lb:upd uW z7 (.tup []) z7=some (.tup []):=ax;generalize upd uW z7 (.tup [])=uX at gg Lb ⊢;refine ⟨by show 3≤sizeLine;decide,fun t7 xU=>?_⟩
 have cn:ai uX (upd uX t7 (.tup [.int (n:Int),.ref lk,.ref z7])):=aD xU;have qT:upd uX t7 (.tup [.int (n:Int),.ref lk,.ref z7]) t7=some (.tup [.int (n:Int),.ref lk,.ref z7]):=ax;generalize upd uX t7 (.tup [.int (n:Int),.ref lk,.ref z7])=uY at cn qT ⊢;refine ⟨_,rfl,(n:Int),rfl,by rw [Int.natAbs_natCast];exact mM (Nat.log2_le_self n) (by omega),_,rfl,by show 2≤sizeLine;decide,fun t8 Lc=>?_⟩
 have fF:ai uY (upd uY t8 (.tup [.str (toString (n:Int)),.ref lk])):=aD Lc;have Cv:upd uY t8 (.tup [.str (toString (n:Int)),.ref lk]) t8=some (.tup [.str (toString (n:Int)),.ref lk]):=ax;generalize upd uY t8 (.tup [.str (toString (n:Int)),.ref lk])=uZ at fF Cv ⊢;refine ⟨_,rfl,_,rfl,by show 2≤sizeLine;decide,fun t9 Ld=>?_⟩
 have eX:ai uZ (upd uZ t9 (.tup [.ref lk,.int (n:Int)])):=aD Ld;have Cw:upd uZ t9 (.tup [.ref lk,.int (n:Int)]) t9=some (.tup [.ref lk,.int (n:Int)]):=ax;generalize upd uZ t9 (.tup [.ref lk,.int (n:Int)])=mG at eX Cw ⊢;have mH:ai I2 mG:=(Cu.trans (kB.trans (qN.trans (gK.trans (oO.trans (fE.trans (mD.trans (eW.trans (mE.trans (dJ.trans (dh.trans (cD.trans (gg.trans (cn.trans (fF.trans eX)))))))))))))));have Le:=(kB.trans (qN.trans (gK.trans (oO.trans (fE.trans (mD.trans (eW.trans (mE.trans (dJ.trans (dh.trans (cD.trans (gg.trans (cn.trans (fF.trans eX)))))))))))))) _ _ K3;have Lf:b9≠P0:=fun z=>by obtain ⟨x,y,e',_⟩:=p1;rw [z,e'] at dI;simp at dI
 obtain ⟨Lg,Lh⟩:=KS mG (fun b xs e=>mH _ _ (Ct (up e))) (mH _ _ (sd.at Lf dI));have Li:=oM.mono mH;have Lj:=mH _ _ d5;have Cy:∀v∈([.ref t0,.ref t1,.ref t2,.ref t3,.ref t4,.ref t5,.ref t6,.ref t7,.ref t8,.ref t9]:List V),dH mG v false:=by
  intro v hv;simp only [cE,kH,or_false] at hv;rcases hv with rfl | rfl | rfl | rfl | rfl | rfl | rfl | rfl | rfl | rfl;·exact .links ((qN.trans (gK.trans (oO.trans (fE.trans (mD.trans (eW.trans (mE.trans (dJ.trans (dh.trans (cD.trans (gg.trans (cn.trans (fF.trans eX))))))))))))) _ _ qM) n1 (by omega) (cX.among Le Li l2 Lg Lh)
  ·exact .size ((oO.trans (fE.trans (mD.trans (eW.trans (mE.trans (dJ.trans (dh.trans (cD.trans (gg.trans (cn.trans (fF.trans eX))))))))))) _ _ qO) (by omega)
  ·exact .size ((mD.trans (eW.trans (mE.trans (dJ.trans (dh.trans (cD.trans (gg.trans (cn.trans (fF.trans eX))))))))) _ _ uP) (by omega)
  ·exact .whole ((mE.trans (dJ.trans (dh.trans (cD.trans (gg.trans (cn.trans (fF.trans eX))))))) _ _ qP) (.bl _) rfl
  ·exact .links ((dh.trans (cD.trans (gg.trans (cn.trans (fF.trans eX))))) _ _ qR) n1 (by omega) (.other (.lst ((dJ.trans (dh.trans (cD.trans (gg.trans (cn.trans (fF.trans eX)))))) _ _ qQ)) (fD ((dJ.trans (dh.trans (cD.trans (gg.trans (cn.trans (fF.trans eX)))))) _ _ qQ) rfl))
  ·exact .other (.lst ((cD.trans (gg.trans (cn.trans (fF.trans eX)))) _ _ mF)) (fD ((cD.trans (gg.trans (cn.trans (fF.trans eX)))) _ _ mF) rfl)
  ·exact .many ((gg.trans (cn.trans (fF.trans eX))) _ _ qS) (by simp)
  ·exact .many ((fF.trans eX) _ _ qT) (by simp)
  ·exact .whole (eX _ _ Cv) (.str _) rfl
  ·exact .whole Cw (.tup Lj) rfl
 refine ⟨by show 10≤sizeLine;decide,fun fd cJ=>?_⟩
 have mI:ai mG (upd mG fd (.lst [.ref t0,.ref t1,.ref t2,.ref t3,.ref t4,.ref t5,.ref t6,.ref t7,.ref t8,.ref t9])):=aD cJ;have cK:upd mG fd (.lst [.ref t0,.ref t1,.ref t2,.ref t3,.ref t4,.ref t5,.ref t6,.ref t7,.ref t8,.ref t9]) fd=some (.lst [.ref t0,.ref t1,.ref t2,.ref t3,.ref t4,.ref t5,.ref t6,.ref t7,.ref t8,.ref t9]):=ax;generalize upd mG fd (.lst [.ref t0,.ref t1,.ref t2,.ref t3,.ref t4,.ref t5,.ref t6,.ref t7,.ref t8,.ref t9])=oP at mI cK ⊢;dsimp only [a7]
 try simp only [eh,ei]
 have Cz:=p2.mono mH;have lO:fd≠P0:=Cz.ne cJ;have u0:I2 fd=none:=none_of mH cJ;have dM:iM P0 a I2 fd oP 10 [.ref t0,.ref t1,.ref t2,.ref t3,.ref t4,.ref t5,.ref t6,.ref t7,.ref t8,.ref t9]:=⟨mH.trans mI,Cz.mono mI,cK,by simp,fun v hv=>(Cy v hv).mono fun b o e=>qk (gp e cJ) (mI _ _ e)⟩
 generalize ([.ref t0,.ref t1,.ref t2,.ref t3,.ref t4,.ref t5,.ref t6,.ref t7,.ref t8,.ref t9]:List V)=qU at dM;clear Cy;have slice:∀{Hx Hy:Hp} {p:Addr} {lo hi:Option Int} {ys:List V},ai I2 Hx→cM us lo hi=ys→(Hy=Hx∧p=lk∧cM us lo hi=us)∨(Hx p=none∧Hy=upd Hx p (.tup (cM us lo hi)))→ai Hx Hy∧Hy p=some (.tup ys):=fun{Hx Hy p lo hi ys} sx ec hp=>by
  rcases hp with ⟨rfl,rfl,e⟩ | ⟨np,rfl⟩;·exact ⟨ai.refl _,by rw [←ec,e];exact sx _ _ d5⟩
  ·exact ⟨aD np,by rw [ax,ec]⟩
 refine bo (qw (fun σ Hx=>∃xs,σ=[some (.ref P0),some (.ref tp),some (.int (n:Int)),some (.ref lk),some (.ref la),some bd,some (.int (k:Int)),some (.ref fd)]∧iM P0 a I2 fd Hx 13 xs) ?_ ?_)
 ·rintro σ Hx ⟨xs,rfl,sp⟩
  dsimp only;refine bo (qw (fun σ Hx=>∃xs,σ=[some (.ref P0),some (.ref tp),some (.int (n:Int)),some (.ref lk),some (.ref la),some bd,some (.int (k:Int)),some (.ref fd)]∧iM P0 a I2 fd Hx 14 xs) ?_ ?_)
  ·rintro σ Hy ⟨ys,rfl,sq⟩
   exact ⟨_,rfl,kk _ _ _ (KY.trans (aE.of sq.same)) sq.eM lO sq.at' (cf sq.bA (by decide)) fun v hv=>(sq.all v hv).mono lE⟩
  ·intro R hR
   refine ⟨_,rfl,lk,us,rfl,.inr (.of (sp.same _ _ d5)),_,_,rfl,rfl,_,rfl,cG (fun h1=>?_) (fun _=>hR _ _ ⟨xs,rfl,sp.weak (by decide)⟩)⟩
   have h1:(1:Int)<(us.length:Int):=e_ h1;have Ll:1<Lk.length:=by omega
   refine ⟨_,rfl,.inl ⟨rfl,_,.of sp.at'⟩,_,rfl,_,rfl,1,rfl,lk,us,rfl,.of (sp.same _ _ d5),fun Lm OQ jC=>?_⟩;obtain ⟨xV,Ln⟩:=slice sp.same (A0 us) jC;refine ⟨_,rfl,1,rfl,lk,us,rfl,.of ((sp.same.trans xV) _ _ d5),fun gf J1 jC=>?_⟩;obtain ⟨CA,eL⟩:=slice (sp.same.trans xV) (show cM us none (some 1)=us.take 1 from sZ us 1) jC;have hW:=xV.trans CA;refine ⟨Lm,gf,us.drop 1,us.take 1,rfl,rfl,.of (CA _ _ Ln),.of eL,fun h=>by have:=cy List.length h;rw [jH,mK] at this;omega,iT (cA (by simp;omega)),fun h=>by have:=cy List.length h;rw [iV,mK] at this;omega,fun _ rr qV=>?_⟩
   have kC:ai J1 (upd J1 rr (.tup (us.drop 1++us.take 1))):=aD qV;have err:upd J1 rr (.tup (us.drop 1++us.take 1)) rr=some (.tup (us.drop 1++us.take 1)):=ax;generalize upd J1 rr (.tup (us.drop 1++us.take 1))=J2 at kC err ⊢;refine ⟨by show 2≤sizeLine;decide,fun tn jD=>?_⟩
   have eY:ai J2 (upd J2 tn (.tup [.int (n:Int),.ref rr])):=aD jD;have gh:upd J2 tn (.tup [.int (n:Int),.ref rr]) tn=some (.tup [.int (n:Int),.ref rr]):=ax;generalize upd J2 tn (.tup [.int (n:Int),.ref rr])=Hn at eY gh ⊢;have d6:ai Hx Hn:=hW.trans (kC.trans eY);have cY:=d6 _ _ sp.at';have xW:=sp.bA;have iS:=oM.mono (sp.same.trans d6);have cp:=sp.push (v:=.ref tn) d6 u0 lO (.links (jw gh cY) n1 (by omega) (cX.xr (jw (eY _ _ err) cY) (((iS.dp 1).app (iS.tk 1)).ub cY) (by simp;omega) (fun z hz=>by rcases d8.mp hz with h | h;exact lt z (rn h);exact lt z (o6 h)) (JU pw Ll)))
   refine ⟨fd,xs,_,rfl,rfl,cY,cA (by omega),?_⟩
   exact hR _ _ ⟨_,rfl,cp⟩
 ·intro R hR
  refine ⟨_,rfl,bG _,fun ze Lo=>?_⟩;have u4:ai oP (upd oP ze (.tup [])):=aD Lo;have dM:iM P0 a I2 fd (upd oP ze (.tup [])) 10 qU:=⟨dM.same.trans u4,dM.eM.mono u4,u4 _ _ dM.at',dM.bA,fun v hv=>(dM.all v hv).mono (JV u4)⟩;have CB:upd oP ze (.tup []) ze=some (.tup []):=ax;generalize upd oP ze (.tup [])=Hz at dM CB ⊢;refine ⟨lk,ze,us,rfl,rfl,.of (dM.same _ _ d5),CB,_,rfl,cG (fun h1=>?_) (fun _=>hR _ _ ⟨qU,rfl,dM.weak (by decide)⟩)⟩
  have qW:us≠[]:=fun e=>by rw [e] at h1;cases h1
  have gM:Lk≠[]:=fun e=>qW (rB.mp (by rw [lu,e];rfl))
  refine bo ⟨_,rfl,.inl ⟨rfl,_,.of dM.at'⟩,_,rfl,_,rfl,_,rfl,1,rfl,lk,us,rfl,.of (dM.same _ _ d5),fun gf J1 jC=>?_⟩;obtain ⟨hW,eL⟩:=slice dM.same (show cM us none (some 1)=us.take 1 from sZ us 1) jC;refine ⟨lk,gf,us,us.take 1,rfl,rfl,.of ((dM.same.trans hW) _ _ d5),.of eL,qW,iT (cA (by simp;omega)),fun h=>absurd h (by simp [qW]),fun _ rr qV=>?_⟩
  have kC:ai J1 (upd J1 rr (.tup (us++us.take 1))):=aD qV;have err:upd J1 rr (.tup (us++us.take 1)) rr=some (.tup (us++us.take 1)):=ax;generalize upd J1 rr (.tup (us++us.take 1))=J2 at kC err ⊢;refine ⟨by show 2≤sizeLine;decide,fun tn jD=>?_⟩
  have eY:ai J2 (upd J2 tn (.tup [.int (n:Int),.ref rr])):=aD jD;have gh:upd J2 tn (.tup [.int (n:Int),.ref rr]) tn=some (.tup [.int (n:Int),.ref rr]):=ax;generalize upd J2 tn (.tup [.int (n:Int),.ref rr])=Hn at eY gh ⊢;have d6:ai Hz Hn:=hW.trans (kC.trans eY);have cY:=d6 _ _ dM.at';have xW:=dM.bA;have iS:=oM.mono (dM.same.trans d6);have cp:=dM.push (v:=.ref tn) d6 u0 lO (.links (jw gh cY) n1 (by omega) (cX.xr (jw (eY _ _ err) cY) ((iS.app (iS.tk 1)).ub cY) (by simp;omega) (fun z hz=>by rcases d8.mp hz with h | h;exact lt z h;exact lt z (o6 h)) (JS pw gM)))
  refine ⟨fd,qU,_,rfl,rfl,cY,cA (by omega),?_⟩
  dsimp only;generalize upd Hn fd (.lst (qU++[.ref tn]))=Lp at cp ⊢;generalize qU++[.ref tn]=xX at cp;clear d6 cY gh jD;refine bo ⟨_,rfl,.inl ⟨rfl,_,.of cp.at'⟩,_,rfl,_,rfl,1,rfl,lk,us,rfl,.of (cp.same _ _ d5),fun gf J1 jC=>?_⟩;obtain ⟨hW,eL⟩:=slice cp.same (show cM us none (some 1)=us.take 1 from sZ us 1) jC;refine ⟨_,rfl,gf,lk,us.take 1,us,rfl,rfl,.of eL,.of ((cp.same.trans hW) _ _ d5),by simp [qW],iT (cA (by simp;omega)),fun h=>absurd h qW,fun _ rr qV=>?_⟩
  have kC:ai J1 (upd J1 rr (.tup (us.take 1++us))):=aD qV;have err:upd J1 rr (.tup (us.take 1++us)) rr=some (.tup (us.take 1++us)):=ax;generalize upd J1 rr (.tup (us.take 1++us))=J2 at kC err ⊢;refine ⟨by show 2≤sizeLine;decide,fun tn jD=>?_⟩
  have eY:ai J2 (upd J2 tn (.tup [.int (n:Int),.ref rr])):=aD jD;have gh:upd J2 tn (.tup [.int (n:Int),.ref rr]) tn=some (.tup [.int (n:Int),.ref rr]):=ax;generalize upd J2 tn (.tup [.int (n:Int),.ref rr])=Hn at eY gh ⊢;have d6:ai Lp Hn:=hW.trans (kC.trans eY);have cY:=d6 _ _ cp.at';have xW:=cp.bA;have iS:=oM.mono (cp.same.trans d6);have cp:=cp.push (v:=.ref tn) d6 u0 lO (.links (jw gh cY) n1 (by omega) (cX.xr (jw (eY _ _ err) cY) (((iS.tk 1).app iS).ub cY) (by simp;omega) (fun z hz=>by rcases d8.mp hz with h | h;exact lt z (o6 h);exact lt z h) (JT gM)))
  refine ⟨fd,xX,_,rfl,rfl,cY,cA (by omega),?_⟩
  dsimp only;generalize upd Hn fd (.lst (xX++[.ref tn]))=Lq at cp ⊢;generalize xX++[.ref tn]=Lr at cp;clear d6 cY gh jD;have OR:0<Lk.length:=List.length_pos_iff.mpr gM;have CC:us[Lk.length-1]?=some us[Lk.length-1]:=bX (by omega)
  obtain ⟨bl,Ls,CD⟩:=(oM.mono cp.same).2 (Lk.length-1) _ Lk[Lk.length-1] CC (bX (by omega))
  have eg:Lk[Lk.length-1]=Lk.getLast gM:=(List.getLast_eq_getElem gM).symm;have OS:=lt (Lk.getLast gM) (List.getLast_mem gM);rw [eg] at CD;refine ⟨_,rfl,.inl ⟨rfl,_,.of cp.at'⟩,_,rfl,1,rfl,lk,us,_,.ref bl,rfl,rfl,.of (cp.same _ _ d5),IE (by omega) (by rw [lu,CC,Ls]),bl,_,_,_,rfl,rfl,.of CD,rfl,_,rfl,lk,us,rfl,.of (cp.same _ _ d5),fun gf J1 jC=>?_⟩
  obtain ⟨hW,eL⟩:=slice cp.same (JX us) jC;refine ⟨by show 2≤sizeLine;decide,fun tn jD=>?_⟩
  have eY:ai J1 (upd J1 tn (.tup [.int (Lk.getLast gM).2,.ref gf])):=aD jD;have gh:upd J1 tn (.tup [.int (Lk.getLast gM).2,.ref gf]) tn=some (.tup [.int (((Lk.getLast gM).2.toNat:Nat):Int),.ref gf]):=by rw [ax,Int.toNat_of_nonneg (by omega)]
  generalize upd J1 tn (.tup [.int (Lk.getLast gM).2,.ref gf])=Hn at eY gh ⊢;have d6:ai Lq Hn:=hW.trans eY;have cY:=d6 _ _ cp.at';have xW:=cp.bA;have iS:=oM.mono (cp.same.trans d6);have cp:=cp.push (v:=.ref tn) d6 u0 lO (.links (jw gh cY) (by omega) (by omega) (cX.last (jw (eY _ _ eL) cY) (iS.ub cY) l2 gM (by omega)))
  refine ⟨fd,Lr,_,rfl,rfl,cY,cA (by omega),?_⟩
  exact hR _ _ ⟨_,rfl,cp⟩
theorem Lu:cw ["_law_pen","_law_some","_law_left","_law_found"] ["_law_pen","_law_some"] (bR uu):=c6
theorem Lv(T:Txt K mg t):bT P w K mg base b_ 3 t.l9 t.n4 ["_law_pen","_law_some"] (Hs K):=by
 have S:=Lu;refine T.oB.c7 S (fun _ _ _ _ H _ _ _ hr h=>?_);obtain ⟨P0,a,l,ns,xs,rfl,pc,hS,nl,el,OT,kk⟩:=h;have jx:=hr.units
 refine ⟨_,(@aM _ _ _ _ _ (putL 2 S.nd (k_ zM rfl T.qG boot_list (@aa _ _ _ _ _ (by rfl) (pv 1) au)))
  (@aM _ _ _ _ _ (putL 3 S.nd (@dB _ _ _ _ au))
  (@aM _ _ _ _ _ (@DM _ _ _ _ _ _ d_ (dA (Hr jx) (pv 2) (@dB _ _ _ _ au)) (@aR _ _ _ (gw (fS fK gQ gR fi (pv 3) (@aa _ _ _ _ _ (by rfl) (fS fK PySem.F.slot_list_pop PySem.F.type_list_pop Fh (pv 2) (@aa _ _ _ _ _ (by rfl) (cu (hZ T) hr T.fZ T.dZ.kp T.fY bt (@aa _ _ _ _ _ (by rfl) (pv 0) (@aa _ _ _ _ _ (by rfl) (cz jf rfl T.iO i4 (@aa _ _ _ _ _ (by rfl) (pv 2) au)) au))) au)) au)))))
  (@aR _ _ _ (@bO _ _ _ _ (pv 3)))))),?_⟩
 refine ⟨_,rfl,l,xs,rfl,.inl (.of el),fun l1 n1=>?_⟩;have s1:ai H (upd H l1 (.lst xs)):=aD n1;have e1:upd H l1 (.lst xs) l1=some (.lst xs):=ax;dsimp only [a7];generalize upd H l1 (.lst xs)=H1 at s1 e1 ⊢;refine ⟨by show 0≤sizeLine;decide,fun l2 n2=>?_⟩
 have s2:ai H1 (upd H1 l2 (.lst [])):=aD n2;have e2:upd H1 l2 (.lst []) l2=some (.lst []):=ax;dsimp only [a7];generalize upd H1 l2 (.lst [])=H2 at s2 e2 ⊢;have CF:l1≠P0:=pc.ne n1;have u5:l2≠P0:=(pc.mono s1).ne n2;have CG:H l2=none:=none_of s1 n2;have CH:l1≠l2:=fun e=>by rw [e,n2] at e1;cases e1
 refine bo ⟨fun m σ Hc=>∃zs ys:List V,σ=[some (.ref P0),some (.ref l),some (.ref l1),some (.ref l2)]∧m=zs.length∧Hc l1=some (.lst zs)∧Hc l2=some (.lst ys)∧(zs++ys).Perm xs∧aE P0 H Hc∧bu Hc P0 a,⟨_,xs,[],rfl,rfl,s2 _ _ e1,e2,by rw [oV],aE.of (s1.trans s2),(pc.mono s1).mono s2⟩,?_⟩
 rintro m σ Hc ⟨zs,ys,rfl,rfl,ez,ey,pm,sc,p1⟩;have lz:zs.length≤100:=by have:=pm.length_eq;rw [d9] at this;omega
 have ly:ys.length≤100:=by have:=pm.length_eq;rw [d9] at this;omega
 refine ⟨_,rfl,by show 0≤sizeLine;decide,fun le Lw=>?_⟩
 have s3:ai Hc (upd Hc le (.lst [])):=aD Lw;have e3:upd Hc le (.lst []) le=some (.lst []):=ax;generalize upd Hc le (.lst [])=H3 at s3 e3 ⊢;refine ⟨l1,le,zs,rfl,rfl,.of (s3 _ _ ez),e3,_,rfl,cG (fun hz=>?_) (fun hz=>?_)⟩
 ·have z0:1≤zs.length:=by
   cases zs with
   | nil=>cases hz
   | cons=>simp
  have CI:=sc.trans (aE.of s3);refine ⟨_,fun _ _ h=>h,?_⟩;refine ⟨_,rfl,.inl ⟨rfl,_,.of (s3 _ _ ey)⟩,_,rfl,.inl ⟨rfl,_,.of (s3 _ _ ez)⟩,_,rfl,_,rfl,l1,zs,rfl,.inl (.of (s3 _ _ ez)),P0,a,ns,(zs.length:Int),rfl,p1.mono s3,ai.seq CI hS,by omega,dC.of_lt (by omega) (by omega),fun c H4 c0 c1 s4 p4=>?_⟩
  obtain ⟨k,rfl⟩:=dQ c0;have hk:k<zs.length:=by omega
  have qQ:=s4.at CF (s3 _ _ ez);have Lx:=s4.at u5 (s3 _ _ ey);have sx:seqIndex? (k:Int) zs.length=some k:=by unfold seqIndex?;simp;omega
  refine ⟨l1,zs,(k:Int),k,zs[k],rfl,rfl,qQ,by omega,by omega,sx,by simp [hk],?_⟩
  have nn:l2≠l1:=fun e=>CH e.symm;refine ⟨l2,ys,zs[k],rfl,rfl,by rw [bf nn];exact Lx,cA (by omega),?_⟩
  refine ⟨_,?_,zs.eraseIdx k,ys++[zs[k]],rfl,rfl,by rw [bf CH,ax],ax,?_,?_,?_⟩
  ·rw [List.length_eraseIdx_of_lt hk]
   omega
  ·refine List.Perm.trans ?_ pm
   rw [←gm];refine (kG).trans ?_;show (zs[k]::(zs.eraseIdx k++ys)).Perm (zs++ys);exact (Az zs k hk).append_right ys
  ·exact ((CI.trans s4).but n1).but CG
  ·exact ((p4.upd CF).upd u5)
 ·have z0:zs=[]:=by
   cases zs with
   | nil=>rfl
   | cons=>exact absurd rfl hz
  subst z0;refine ⟨_,rfl,kk l2 ys H3 (sc.trans (aE.of s3)) (p1.mono s3) ?_ u5 (s3 _ _ ey) pm⟩;rw [cV u5];exact CG
theorem Ly:cw ["_law_pen","_law_way","_law_size","_law_wide","_law_i","_law_j"] ["_law_pen","_law_way","_law_size","_law_wide","_law_i","_law_j"] (bR uv):=c6
theorem Lz(T:Txt K mg t):bT P w K mg base b_ 3 t.l_ t.n5 ["_law_pen","_law_way","_law_size","_law_wide","_law_i","_law_j"] (Ht K):=by
 have S:=Ly;refine T.oC.c7 S (fun _ _ _ _ H _ _ _ hr h=>?_);obtain ⟨P0,a,ns,way,size,wide,i,j,rfl,pc,hS,kk⟩:=h
 refine ⟨_,(@aM _ _ _ _ _ (@cL _ _ _ _ _ _ _ _ (dA gy (pv 1) ay) (@aR _ _ _ (@bO _ _ _ _ (jW gy (cu (hZ T) hr T.fZ T.dZ.kp T.fY bt (@aa _ _ _ _ _ (by rfl) (pv 0) (@aa _ _ _ _ _ (by rfl) ay au))) ay))) cT)
  (@aM _ _ _ _ _ (@cL _ _ _ _ _ _ _ _ (dA gy (pv 1) ay) (@aR _ _ _ (@bO _ _ _ _ (jW gy (cu (hZ T) hr T.fZ T.dZ.kp T.fY bt (@aa _ _ _ _ _ (by rfl) (pv 0) (@aa _ _ _ _ _ (by rfl) ay au))) ay))) cT)
  (@aM _ _ _ _ _ (@cL _ _ _ _ _ _ _ _ (dA gy (pv 1) ay) (@aR _ _ _ (@bO _ _ _ _ (jW pS (cu (hZ T) hr T.fZ T.dZ.kp T.fY bt (@aa _ _ _ _ _ (by rfl) (pv 0) (@aa _ _ _ _ _ (by rfl) ay au))) ay))) cT)
  (@aM _ _ _ _ _ (@cL _ _ _ _ _ _ _ _ (dA gy (pv 1) ay) (@aR _ _ _ (@bO _ _ _ _ (Dy (jW gy (@bh _ _ _ _ _ _ _ _ pR (pv 5) (pv 4)) ay) (@kS _ _ _ _ _ (jW gy (@bh _ _ _ _ _ _ _ _ pR (pv 5) (pv 4)) (@bh _ _ _ _ _ _ _ _ pR (pv 2) ay)))))) cT)
  (@aR _ _ _ (@bO _ _ _ _ (jW su (@bh _ _ _ _ _ _ _ _ pR (pv 5) (pv 4)) (pv 3)))))))),?_⟩
 refine ⟨_,rfl,rfl,_,rfl,cG (fun _=>?_) (fun _=>?_)⟩;·exact ⟨_,rfl,P0,a,ns,2,rfl,pc,hS,by decide,dC.of_lt (by decide) (by decide),fun c H1 _ _ s1 p1=>⟨rfl,kk _ H1 s1 p1⟩⟩
 dsimp only [gv];refine ⟨_,rfl,rfl,_,rfl,cG (fun _=>?_) (fun _=>?_)⟩;·exact ⟨_,rfl,P0,a,ns,4,rfl,pc,hS,by decide,dC.of_lt (by decide) (by decide),fun c H1 _ _ s1 p1=>⟨rfl,kk _ H1 s1 p1⟩⟩
 dsimp only [gv];refine ⟨_,rfl,rfl,_,rfl,cG (fun _=>?_) (fun _=>?_)⟩;·exact ⟨_,rfl,P0,a,ns,4,rfl,pc,hS,by decide,dC.of_lt (by decide) (by decide),fun c H1 _ _ s1 p1=>⟨_,_,rfl,rfl,kk _ H1 s1 p1⟩⟩
 dsimp only [gv];refine ⟨_,rfl,rfl,_,rfl,cG (fun _=>?_) (fun _=>?_)⟩
 ·refine ⟨_,rfl,_,rfl,_,_,rfl,rfl,rfl,_,rfl,cG (fun _=>?_) (fun _=>?_)⟩
  ·exact kk _ H (aE.refl _) pc
  ·exact ⟨_,rfl,_,rfl,_,_,rfl,rfl,_,rfl,_,_,rfl,rfl,rfl,kk _ H (aE.refl _) pc⟩
 dsimp only [gv];exact ⟨_,rfl,_,rfl,_,_,rfl,rfl,_,rfl,_,_,rfl,rfl,kk _ H (aE.refl _) pc⟩
theorem LA:cw ["_law_size","_law_links","_law_names","_law_found","_law_i","_law_j","_law_one"] ["_law_size","_law_links","_law_names"] (bR uy):=c6
theorem LB(T:Txt K mg t):bT P w K mg base b_ 3 t.me t.n_ ["_law_size","_law_links","_law_names"] HB:=by
 have S:=LA;refine T.oF.c7 S (fun _ _ _ _ H _ _ _ hr h=>?_);obtain ⟨l,r,n,us,ws,L,nm,rfl,el,hL,ok,qX,qY,lw,hw,N,kk⟩:=h
 refine ⟨_,(@aM _ _ _ _ _ (putL 3 S.nd (@dB _ _ _ _ au))
  (@aM _ _ _ _ _ (eI d_ rfl (m_ (pv 1)) (m9 rfl (gx (cq (i:=4) S.nd rfl (Or.inl rfl)) (gx (cq (i:=5) S.nd rfl (Or.inl rfl)) m8)))
   (@aM _ _ _ _ _ (putL 6 S.nd (cz (D7 rfl) rfl T.BN boot_min (@aa _ _ _ _ _ (by rfl) (bz cN (pv 2) (pv 4)) (@aa _ _ _ _ _ (by rfl) (bz cN (pv 2) (pv 5)) au))))
  (@aR _ _ _ (gw (fS fK gQ gR fi (pv 3) (@aa _ _ _ _ _ (by rfl) (@aZ _ _ _ _ _ (@aa _ _ _ _ _ (by rfl) (pv 6) (@aa _ _ _ _ _ (by rfl) (cz (D6 rfl) rfl T.BO boot_max (@aa _ _ _ _ _ (by rfl) (bz cN (pv 2) (pv 4)) (@aa _ _ _ _ _ (by rfl) (bz cN (pv 2) (pv 5)) au))) au))) au))))))
  (@aR _ _ _ (@bO _ _ _ _ (@aZ _ _ _ _ _ (@aa _ _ _ _ _ (by rfl) (pv 0) (@aa _ _ _ _ _ (by rfl) (k_ E1 rfl T.qF boot_tuple (@aa _ _ _ _ _ (by rfl) (cz Hm rfl T.uE vv (@aa _ _ _ _ _ (by rfl) (pv 3) au)) au)) au))))))),?_⟩
 refine ⟨by show 0≤sizeLine;decide,fun fd cJ=>?_⟩
 have s0:ai H (upd H fd (.lst [])):=aD cJ;have CJ:upd H fd (.lst []) fd=some (.lst []):=ax;dsimp only [a7];generalize upd H fd (.lst [])=H1 at s0 CJ ⊢;refine ⟨_,rfl,l,rfl,⟨_,.of (s0 _ _ el)⟩,?_⟩;refine vL (K:=K) (a:=l) (xs:=us) (fun k σ Hc=>∃(xs:List V) (v4 v5 v6:Option V),σ=[some (.int (n:Int)),some (.ref l),some (.ref r),some (.ref fd),v4,v5,v6]∧ai H Hc∧Hc fd=some (.lst xs)∧aT Hc xs ((L.take k).map (eU nm))) ⟨[],_,_,_,rfl,s0,CJ,aT.nil _⟩ (fun k σ Hc _ ⟨_,_,_,_,_,sc,_⟩=>.of (sc _ _ el)) ?_ ?_
 ·rintro k x σ Hc hx ⟨xs,v4,v5,v6,rfl,sc,ef,hX⟩
  have hk:k<L.length:=by rw [←hL.1];exact (cg.mp hx).1
  obtain ⟨b,rfl,eb⟩:=(hL.mono sc).2 k x L[k] hx (by simp [hk])
  have pk:=ok.lt L[k] (dw hk);have tk:(L.take (k+1)).map (eU nm)=(L.take k).map (eU nm)++[eU nm L[k]]:=by rw [pj,bX hk,iZ];rfl
  have lX:=hX.1;rw [ba,iV] at lX;have bA:L.length≤450:=cf ok.bA (by have:n*n≤30*30:=pG qX qX;omega)
  generalize L[k]=p at eb pk tk;obtain ⟨p1,p2⟩:=p;dsimp only at pk;obtain ⟨i,rfl⟩:=dQ pk.1;obtain ⟨j,rfl⟩:=dQ (show 0≤p2 by omega)
  have xJ:fh ws (i:Int)=some (.int (nm i)):=nj (hw i (by omega))
  have at2:fh ws (j:Int)=some (.int (nm j)):=nj (hw j (by omega))
  have iR:=sc _ _ qY;refine ⟨b,_,rfl,.of eb,rfl,_,_,rfl,_,_,rfl,rfl,?_⟩;refine ⟨_,rfl,_,rfl,r,ws,_,.int (nm i),rfl,rfl,.of iR,xJ,_,rfl,_,rfl,r,ws,_,.int (nm j),rfl,rfl,.of iR,at2,nm i,nm j,rfl,?_⟩;dsimp only [a7];refine ⟨_,rfl,.inl ⟨rfl,_,.of ef⟩,_,rfl,_,rfl,_,rfl,r,ws,_,.int (nm i),rfl,rfl,.of iR,xJ,_,rfl,_,rfl,r,ws,_,.int (nm j),rfl,rfl,.of iR,at2,nm i,nm j,rfl,by show 2≤sizeLine;decide,fun tp jE=>?_⟩
  have eq:eU nm ((i:Int),(j:Int))=(if nm j<nm i then nm j else nm i,if nm j>nm i then nm j else nm i):=by
   unfold eU;simp only [cZ];refine Prod.ext ?_ ?_
   ·show min (nm i) (nm j)=_
    split <;> omega
   ·show max (nm i) (nm j)=_
    split <;> omega
  have st:ai Hc (upd Hc tp (.tup [.int (if nm j<nm i then nm j else nm i),.int (if nm j>nm i then nm j else nm i)])):=aD jE
  have d4:upd Hc tp (.tup [.int (if nm j<nm i then nm j else nm i),.int (if nm j>nm i then nm j else nm i)]) tp=some (.tup [.int (eU nm ((i:Int),(j:Int))).1,.int (eU nm ((i:Int),(j:Int))).2]):=by rw [ax,eq]
  generalize upd Hc tp (.tup [.int (if nm j<nm i then nm j else nm i),.int (if nm j>nm i then nm j else nm i)])=Hd at st d4 ⊢
  have cK:=st _ _ ef;refine ⟨fd,xs,_,rfl,rfl,cK,cA (by omega),xs++[.ref tp],_,_,_,rfl,fu (sc.trans st) cJ,ax,?_⟩
  rw [tk];exact ((hX.mono st).push d4).ck cK fun b o nb e=>by rw [bf nb];exact e
 ·rintro σ Hc ⟨xs,v4,v5,v6,rfl,sc,ef,hX⟩
  rw [hL.1,mU] at hX;have u6:=HA ok N;have lX:=hX.1;have bA:L.length≤450:=cf ok.bA (by have:n*n≤30*30:=pG qX qX;omega)
  have lM:(L.map (eU nm)).length=L.length:=ba ..;have small:∀q∈L.map (eU nm),0≤q.2∧q.2<1000:=fun q hq=>by have:=u6.lt q hq;omega
  generalize hM:L.map (eU nm)=M at hX u6 lX lM small kk;dsimp only;refine ⟨_,rfl,_,rfl,fd,xs,fun i=>(M.getD i (0,0)).1,fun i=>(M.getD i (0,0)).2,rfl,ef,by omega,fun i v hv=>?_,fun p l' hp hu LC=>?_⟩
  ·have hi:i<M.length:=by rw [←lX];exact (cg.mp hv).1
   obtain ⟨b,rfl,eb⟩:=hX.2 i v M[i] hv (by simp [hi])
   dsimp only;rw [getD_at hi];exact ⟨⟨b,rfl,eb⟩,small _ (dw hi)⟩
  rw [lX] at hp hu;obtain ⟨pm,pw⟩:=Hu hp hu u6.nd small;have sl:ai Hc (upd Hc l' (.lst (p.toList.map fun i=>xs.getD i .aI))):=aD LC;have hP:aT Hc (p.toList.map fun i=>xs.getD i .aI) (p.toList.map fun i=>M.getD i (0,0)):=hX.pick _ fun i hi=>by have:p.toList.Perm (List.range M.length):=o9.mp hp;exact gN.mp (this.mem_iff.mp hi)
  generalize (p.toList.map fun i=>xs.getD i .aI)=zs at sl hP ⊢;refine ⟨l',zs,rfl,.inl ⟨.of ax,fun lt LD=>?_⟩⟩;have fP:=sl.trans (aD (o:=.tup zs) LD);have elt:upd (upd Hc l' (.lst zs)) lt (.tup zs) lt=some (.tup zs):=ax;generalize upd (upd Hc l' (.lst zs)) lt (.tup zs)=Hd at fP elt ⊢;refine ⟨by show 2≤sizeLine;decide,fun tp jE=>?_⟩
  have st:ai Hd (upd Hd tp (.tup [.int (n:Int),.ref lt])):=aD jE;have sT:=sc.trans (fP.trans st);exact kk tp _ _ sT (none_of (sc.trans fP) jE) ⟨lt,zs,ax,st _ _ elt,(hP.mono fP).mono st⟩ (u6.perm pm) pw pm
theorem LF:cw ["_law_pen","_law_size","_law_ahead","_law_found","_law_j","_law_at","_law_some"] ["_law_pen","_law_size"] (bR uw):=c6
theorem LG(T:Txt K mg t):bT P w K mg base b_ 3 t.ma t.n6 ["_law_pen","_law_size"] (HD K):=by
 have S:=LF;refine T.oD.c7 S (fun _ _ _ _ H vs _ _ hr h=>?_);obtain ⟨P0,a,ns,n,rfl,pc,hS,n1,qX,kk⟩:=h
 refine ⟨_,(@aM _ _ _ _ _ (putL 2 S.nd (@dB _ _ _ _ (@aa _ _ _ _ _ (by rfl) (@dB _ _ _ _ au) au)))
  (@aM _ _ _ _ _ (putL 3 S.nd (@dB _ _ _ _ au))
  (@aM _ _ _ _ _ (eI d_ rfl (DT rfl T.gI (@aa _ _ _ _ _ (by rfl) ay (@aa _ _ _ _ _ (by rfl) (pv 1) au))) (cq (i:=4) S.nd rfl (Or.inr rfl))
   (@aM _ _ _ _ _ (putL 5 S.nd (cu (hZ T) hr T.fZ T.dZ.kp T.fY bt (@aa _ _ _ _ _ (by rfl) (pv 0) (@aa _ _ _ _ _ (by rfl) (pv 4) au))))
  (@aM _ _ _ _ _ (putL 6 S.nd (@bh _ _ _ _ _ _ _ _ Fj (@dB _ _ _ _ (@aa _ _ _ _ _ (by rfl) (pv 5) au)) (qc (N:=["_law_i","_law_pen"]) (ρ:=(fun σ=>[σ[0]?.join])) (nu [0] rfl) rfl (m_ (bz cN (pv 2) (pv 5))) (fun _ _ _=>(.one (dA pS (cu (hZ T) hr T.fZ T.dZ.kp T.fY bt (@aa _ _ _ _ _ (by rfl) (pv 1) (@aa _ _ _ _ _ (by rfl) ay au))) ay))) (fun _ _ _=>(pv 0)))))
  (@aM _ _ _ _ _ (@cL _ _ _ _ _ _ _ _ (dA gy (cu (hZ T) hr T.fZ T.dZ.kp T.fY bt (@aa _ _ _ _ _ (by rfl) (pv 0) (@aa _ _ _ _ _ (by rfl) ay au))) ay) (@aR _ _ _ (putL 6 S.nd (@dB _ _ _ _ au))) cT)
  (@aM _ _ _ _ _ (gw (fS fK gQ gR fi (pv 2) (@aa _ _ _ _ _ (by rfl) (pv 6) au)))
  (@aR _ _ _ (gw (fS fK PySem.F.slot_list_extend PySem.F.type_list_extend Fd (pv 3) (@aa _ _ _ _ _ (by rfl) (qc (N:=["_law_i","_law_j"]) (ρ:=(fun σ=>[σ[4]?.join])) (nu [4] rfl) rfl (m_ (pv 6)) (fun _ _ _=>.nil) (fun _ _ _=>(@aZ _ _ _ _ _ (@aa _ _ _ _ _ (by rfl) (pv 0) (@aa _ _ _ _ _ (by rfl) (pv 1) au))))) au)))))))))
  (@aR _ _ _ (@bO _ _ _ _ (pv 3)))))),?_⟩
 refine ⟨by show 0≤sizeLine;decide,fun l0 oQ=>⟨by show 1≤sizeLine;decide,fun la my=>?_⟩⟩
 have s1:ai H (upd H l0 (.lst [])):=aD oQ;have e0:upd H l0 (.lst []) l0=some (.lst []):=ax;generalize upd H l0 (.lst [])=H1 at s1 e0 my ⊢;have s2:ai H1 (upd H1 la (.lst [.ref l0])):=aD my;have ea:upd H1 la (.lst [.ref l0]) la=some (.lst [.ref l0]):=ax;dsimp only [a7];generalize upd H1 la (.lst [.ref l0])=H2 at s2 ea ⊢;refine ⟨by show 0≤sizeLine;decide,fun fd cJ=>?_⟩
 have s3:ai H2 (upd H2 fd (.lst [])):=aD cJ;have ef:upd H2 fd (.lst []) fd=some (.lst []):=ax;dsimp only [a7];generalize upd H2 fd (.lst [])=H3 at s3 ef ⊢;have qZ:=s1.trans (s2.trans s3);have q5:la≠P0:=(pc.mono s1).ne my;have gk:fd≠P0:=((pc.mono s1).mono s2).ne cJ;have LH:l0≠P0:=pc.ne oQ;have LI:H la=none:=none_of s1 my;have u7:H fd=none:=none_of (s1.trans s2) cJ;have af:la≠fd:=fun e=>by rw [e,cJ] at ea;cases ea
 refine ⟨_,rfl,_,_,rfl,⟨by decide,by decide,by omega,by omega⟩,?_⟩
 rw [show ((n:Int)-1).toNat=n-1 by omega]
 refine ja (fun k σ Hc=>∃(vs us:List V) (L:aK) (D:Nat→List Nat) (v4 v5 v6:Option V),σ=[some (.ref P0),some (.int (n:Int)),some (.ref la),some (.ref fd),v4,v5,v6]∧aE P0 H Hc∧bu Hc P0 a∧Hc la=some (.lst vs)∧HE (er P0 Hc) vs (k+1) D∧(∀(i:Nat) (b:Addr),vs[i]?=some (V.ref b)→b≠la∧b≠fd)∧Hc fd=some (.lst us)∧aT (er P0 Hc) us L∧jt (k+1) L) ?_ ?_ ?_
 ·refine ⟨[.ref l0],[],[],fun _=>[],_,_,_,rfl,aE.of qZ,pc.mono qZ,s3 _ _ ea,⟨rfl,fun k hk=>⟨dE.nil k,l0,by rw [show k=0 by omega];rfl,?_⟩⟩,fun i b hb=>?_,ef,aT.nil _,jt.nil⟩
  ·rw [cV LH]
   exact s3 _ _ (s2 _ _ e0)
  ·match i,hb with
   | 0,hb=>cases hb;exact ⟨(fun e=>by rw [e,my] at e0;cases e0),(fun e=>by rw [←e] at cJ;rw [s2 _ _ e0] at cJ;cases cJ)⟩
   | i+1,hb=>simp at hb
 ·rintro k σ Hc hk ⟨vs,us,L,D,v4,v5,v6,rfl,sc,p1,mz,ah,ap,cK,hL,ok⟩
  refine ⟨_,rfl,_,rfl,P0,a,ns,1+(k:Int),rfl,p1,ai.seq sc hS,by omega,dC.of_lt (by omega) (by omega),fun c H4 c0 c1 s4 p4=>?_⟩
  obtain ⟨c,rfl⟩:=dQ c0;have hc:c<k+1:=by omega
  obtain ⟨fc,b,LJ,q8⟩:=ah.2 c hc;have LK:b≠P0:=fun z=>by rw [z] at q8;unfold er at q8;rw [aj rfl] at q8;cases q8
  have LL:=ah.1;have LM:=sc.trans s4;have LN:=s4.at q5 mz;have qL:H4 b=some (.lst (de (D c))):=lE _ _ (s4 _ _ q8);dsimp only [a7];simp only [eh,ei];refine ⟨_,rfl,by show 1≤sizeLine;decide,fun oR tL=>?_⟩
  have s5:ai H4 (upd H4 oR (.lst [.int (c:Int)])):=aD tL;have e5:upd H4 oR (.lst [.int (c:Int)]) oR=some (.lst [.int (c:Int)]):=ax;have LO:oR≠P0:=p4.ne tL;generalize upd H4 oR (.lst [.int (c:Int)])=H5 at s5 e5 ⊢;have lD:(D c).length≤30:=cf fc.len (by omega)
  have lV:(de (D c)).length≤30:=by unfold de;rw [ba];exact lD
  have CK:=LM.trans (aE.of s5);refine HC (K:=K) (l:=b) (xs:=de (D c)) (cA (by omega)) LK (s5 _ _ qL) (p4.mono s5) (fun R h=>⟨_,rfl,_,rfl,la,vs,_,.ref b,rfl,rfl,.of (s5 _ _ LN),nj LJ,b,rfl,⟨_,.of (s5 _ _ qL)⟩,h⟩) (fun i x hx Hx R sx px k=>⟨_,rfl,P0,a,ns,3,rfl,px,ai.seq (CK.trans sx) hS,by decide,dC.of_lt (by decide) (by decide),fun c' H' _ _ s' p'=>⟨_,_,rfl,rfl,_,rfl,k _ H' s' p'⟩⟩) (fun x Hx R h=>⟨_,rfl,h⟩) fun D' ys Hx OU OV sx px sub LP=>?_
  obtain ⟨e,zU,rfl⟩:=wX sub;have fe:=(fc.sub zU).put hc;have OW:(de e).length≤30:=cf sub.length_le lV;refine ⟨oR,D',_,_,rfl,rfl,sx.at LO e5,LP,cf (show _≤900 by simp;omega) (by decide),fun c2 n2=>?_⟩
  have s6:ai Hx (upd Hx c2 (.lst ([.int (c:Int)]++de e))):=aD n2;have e6:upd Hx c2 (.lst ([.int (c:Int)]++de e)) c2=some (.lst (de (c::e))):=ax;have CL:=(CK.trans sx).trans (aE.of s6);have p6:=px.mono s6;have xY:aE P0 H4 (upd Hx c2 (.lst ([.int (c:Int)]++de e))):=(aE.of s5).trans (sx.trans (aE.of s6));have xZ:c2≠P0:=px.ne n2;have f2:er P0 Hc c2=none:=none_of (s4.trans ((aE.of s5).trans sx)) (by rw [cV xZ];exact n2)
  dsimp only [a7];generalize upd Hx c2 (.lst ([.int (c:Int)]++de e))=H6 at s6 e6 CL p6 xY ⊢;simp only [eh,ei];refine bo (qw (fun σ Hy=>∃(lc:Addr) (d:List Nat),σ=[some (.ref P0),some (.int (n:Int)),some (.ref la),some (.ref fd),some (.int (1+(k:Int))),some (.int (c:Int)),some (.ref lc)]∧aE P0 Hc Hy∧bu Hy P0 a∧Hy lc=some (.lst (de d))∧dE (k+1) d∧lc≠P0∧er P0 Hc lc=none) ?_ ?_)
  ·rintro σ Hy ⟨lc,d,rfl,sy,py,LQ,x4,oS,u9⟩
   have ly:lc≠la:=fun z=>by rw [z,cV q5,mz] at u9;cases u9
   have lf:lc≠fd:=fun z=>by rw [z,cV gk,cK] at u9;cases u9
   have x5:=sy.at q5 mz;have LR:=sy.at gk cK;have OX:d.length≤30:=cf x4.len (by omega)
   dsimp only;refine ⟨_,rfl,.inl ⟨rfl,_,.of x5⟩,_,rfl,la,vs,_,rfl,rfl,x5,cA (by omega),?_⟩
   have e7:upd Hy la (.lst (vs++[.ref lc])) la=some (.lst (vs++[.ref lc])):=ax;have k7:∀b o,b≠la→Hy b=some o→upd Hy la (.lst (vs++[.ref lc])) b=some o:=fun b o nb e=>by rw [bf nb];exact e
   have p7:=py.upd (o:=.lst (vs++[.ref lc])) q5;have r7:=wY (P:=P0) (H:=Hy) (r:=la) (o:=.lst (vs++[.ref lc]));have CM:aE P0 H (upd Hy la (.lst (vs++[.ref lc]))):=(sc.trans sy).but LI;generalize upd Hy la (.lst (vs++[.ref lc]))=H7 at e7 k7 p7 r7 CM ⊢;have x6:=k7 fd _ (fun z=>af z.symm) LR;have x8:=k7 lc _ ly LQ;have LS:(de d).length=d.length:=by unfold de;rw [ba]
   refine ⟨_,rfl,.inl ⟨rfl,_,.of x6⟩,Ah (xs:=de d) (fun R h=>⟨_,rfl,lc,rfl,⟨_,.of x8⟩,h _ _ (ai.refl _) (z_ (.of x8))⟩) (cA (by omega)) (fun _ i y Hz=>∃(b:Addr) (x:Nat),y=.ref b∧d[i]?=some x∧Hz b=some (.tup [.int (x:Int),.int (1+(k:Int))])) (fun Dd i y Ha Hb ys ⟨b,x,h1,h2,h3⟩ e f=>⟨b,x,h1,h2,f b _ (fun z=>by rw [z,e] at h3;cases h3) h3⟩) ?_ ?_⟩
   ·intro Dd i x hx Hz R sz _ kz
    obtain ⟨y,hy,rfl⟩:=HF hx;refine ⟨_,rfl,_,rfl,by show 2≤sizeLine;decide,fun tp jE=>?_⟩
    exact kz _ _ (aD jE) ⟨tp,y,rfl,hy,ax⟩
   ·intro Dd zs H8 OY s8 B1 LU LV
    have lL:=hL.1;have l2:us.length≤450:=by
     have:=ok.bA;have:(k+1)*(k+1-1)≤30*30:=pG (by omega) (by omega)
     omega
    refine ⟨fd,Dd,us,zs,rfl,rfl,s8 _ _ x6,LV,cf (show _≤900 by omega) (by decide),?_⟩
    have k9:∀b o,b≠fd→H8 b=some o→upd H8 fd (.lst (us++zs)) b=some o:=fun b o nb e=>by rw [bf nb];exact e
    have p8:=p7.mono s8;have r9:=wY (P:=P0) (H:=H8) (r:=fd) (o:=.lst (us++zs));have CN:er P0 H8 fd=some (.lst us):=by rw [cV gk];exact s8 _ _ x6
    have LW:er P0 Hy la=some (.lst vs):=by rw [cV q5];exact x5
    refine ⟨vs++[.ref lc],us++zs,L++d.map fun(x:Nat)=>((x:Int),((k+1:Nat):Int)),fun i=>if i=k+1 then d else D i,_,_,_,rfl,(CM.trans (aE.of s8)).but u7,p8.upd gk,k9 la _ af (s8 _ _ e7),⟨by simp [LL],fun i hi=>?_⟩,fun i b' fQ=>?_,ax,?_,ok.more x4⟩
    ·dsimp only
     by_cases z:i=k+1
     ·subst z
      rw [aj rfl];refine ⟨x4,lc,by rw [dO (by omega),show k+1-vs.length=0 by omega];rfl,?_⟩
      exact r9 _ _ lf (by rw [cV oS];exact s8 _ _ x8)
     ·rw [ae z]
      obtain ⟨f1,b1,v1,h1⟩:=ah.2 i (by omega)
      obtain ⟨a1,a2⟩:=ap i b1 v1;refine ⟨f1,b1,by rw [eG (by omega)];exact v1,?_⟩
      exact r9 _ _ a2 (s_ s8 _ _ (r7 _ _ a1 (sy _ _ h1)))
    ·by_cases z:i<vs.length
     ·rw [eG z] at fQ
      exact ap i b' fQ
     ·have aS:=(cg.mp fQ).1
      rw [d9,oY] at aS;rw [dO (by omega),show i-vs.length=0 by omega] at fQ
      cases fQ;exact ⟨ly,lf⟩
    ·refine aT.cat ?_ ?_
     ·exact (((hL.mono sy).ck LW r7).mono (s_ s8)).ck CN r9
     ·refine aT.ck (H:=er P0 H8) ⟨by rw [B1,LS,ba],fun i v p h1 h2=>?_⟩ CN r9
      obtain ⟨b',x,rfl,hx,e'⟩:=LU i v h1;rw [dj,hx] at h2;cases h2;refine ⟨b',rfl,?_⟩;rw [show (((k+1:Nat):Int))=1+(k:Int) by omega]
      exact qx p8 e'
  ·intro R hR
   refine ⟨_,rfl,P0,a,ns,9,rfl,p6,ai.seq CL hS,by decide,dC.of_lt (by decide) (by decide),fun c' H7 _ _ s7 p7=>⟨rfl,_,rfl,cG (fun _=>?_) (fun _=>?_)⟩⟩
   ·refine ⟨by show 0≤sizeLine;decide,fun lc oS=>?_⟩
    have nP:=p7.ne oS;have q_:=s4.trans (xY.trans s7);exact hR _ _ ⟨lc,[],rfl,q_.trans (aE.of (aD oS)),p7.mono (aD oS),ax,dE.nil _,nP,none_of q_ (by rw [cV nP];exact oS)⟩
   ·exact hR _ _ ⟨c2,c::e,rfl,s4.trans (xY.trans s7),p7,s7.at xZ e6,fe,xZ,f2⟩
 ·rintro σ Hc ⟨vs,us,L,D,v4,v5,v6,rfl,sc,p1,mz,ah,ap,cK,hL,ok⟩
  rw [show n-1+1=n by omega] at ok
  exact ⟨_,rfl,kk fd us L Hc sc p1 (by rw [cV gk];exact u7) gk cK hL ok.ok⟩
theorem LX:cw ["_law_pen","_law_most","_law_size","_law_way","_law_wide","_law_links","_law_j","_law_i"] ["_law_pen","_law_most"] (bR ux):=c6
theorem LY(T:Txt K mg t):bT P w K mg base b_ 4 t.md t.n8 ["_law_pen","_law_most"] (HI K):=by
 have S:=LX;refine T.oE.c7 S (fun _ _ _ _ H _ _ _ hr h=>?_);obtain ⟨P0,a,ns,most,rfl,pc,hS,m1,OZ,kk⟩:=h
 refine ⟨_,(@aM _ _ _ _ _ (putL 2 S.nd (@bh _ _ _ _ _ _ _ _ gX ay (cu (hZ T) hr T.fZ T.dZ.kp T.fY bt (@aa _ _ _ _ _ (by rfl) (pv 0) (@aa _ _ _ _ _ (by rfl) (pv 1) au)))))
  (@aM _ _ _ _ _ (putL 3 S.nd (cu (hZ T) hr T.fZ T.dZ.kp T.fY bt (@aa _ _ _ _ _ (by rfl) (pv 0) (@aa _ _ _ _ _ (by rfl) ay au))))
  (@aM _ _ _ _ _ (putL 4 S.nd (cu (hZ T) hr T.fZ T.dZ.kp T.fY bt (@aa _ _ _ _ _ (by rfl) (pv 0) (@aa _ _ _ _ _ (by rfl) (pv 2) au))))
  (@aM _ _ _ _ _ (putL 5 S.nd (@dB _ _ _ _ au))
  (@aM _ _ _ _ _ (eI d_ rfl (i_ rfl T.gI (@aa _ _ _ _ _ (by rfl) (pv 2) au)) (cq (i:=6) S.nd rfl (Or.inl rfl))
   (@aR _ _ _ (eI d_ rfl (i_ rfl T.gI (@aa _ _ _ _ _ (by rfl) (pv 6) au)) (cq (i:=7) S.nd rfl (Or.inl rfl))
   (@aR _ _ _ (@cL _ _ _ _ _ _ _ _ (m7 (cu (Lz T) hr T.Bz T.oC.kp T.By bt (@aa _ _ _ _ _ (by rfl) (pv 0) (@aa _ _ _ _ _ (by rfl) (pv 3) (@aa _ _ _ _ _ (by rfl) (pv 2) (@aa _ _ _ _ _ (by rfl) (pv 4) (@aa _ _ _ _ _ (by rfl) (pv 7) (@aa _ _ _ _ _ (by rfl) (pv 6) au)))))))) (@aR _ _ _ (gw (fS fK gQ gR fi (pv 5) (@aa _ _ _ _ _ (by rfl) (@aZ _ _ _ _ _ (@aa _ _ _ _ _ (by rfl) (pv 7) (@aa _ _ _ _ _ (by rfl) (pv 6) au))) au)))) cT)))))
  (@aM _ _ _ _ _ (@cL _ _ _ _ _ _ _ _ (dA gy (pv 3) ay) (@aR _ _ _ (putL 5 S.nd (cu (LG T) hr T.BB T.oD.kp T.BA bt (@aa _ _ _ _ _ (by rfl) (pv 0) (@aa _ _ _ _ _ (by rfl) (pv 2) au))))) cT)
  (@aR _ _ _ (@bO _ _ _ _ (cu (LB T) hr T.BF T.oF.kp T.BE bt (@aa _ _ _ _ _ (by rfl) (pv 2) (@aa _ _ _ _ _ (by rfl) (pv 5) (@aa _ _ _ _ _ (by rfl) (cu (Lv T) hr T.Bx T.oB.kp T.Bw bt (@aa _ _ _ _ _ (by rfl) (pv 0) (@aa _ _ _ _ _ (by rfl) (k_ (FV rfl) rfl T.qG boot_list (@aa _ _ _ _ _ (by rfl) (k_ FT rfl T.gI FX (@aa _ _ _ _ _ (by rfl) (pv 2) au)) au)) au))) au)))))))))))),?_⟩
 refine ⟨_,rfl,_,rfl,P0,a,ns,(most:Int),rfl,pc,hS,by omega,dC.of_lt (by omega) (by omega),fun c H1 c0 c1 s1 p1=>⟨_,_,rfl,rfl,?_⟩⟩
 obtain ⟨c,rfl⟩:=dQ c0;dsimp only [a7];rw [show 1+(c:Int)=((c+1:Nat):Int) by omega]
 have n1:1≤c+1:=by omega
 have nm:c+1≤most:=by omega
 generalize c+1=n at n1 nm ⊢;have LZ:bq K (er P0 H1) a (ns.map V.int):=ai.seq s1 hS;refine ⟨_,rfl,P0,a,ns,6,rfl,p1,LZ,by decide,dC.of_lt (by decide) (by decide),fun way H2 _ _ s2 p2=>?_⟩
 have CO:=s1.trans s2;dsimp only [a7];refine ⟨_,rfl,_,rfl,P0,a,ns,(n:Int),rfl,p2,ai.seq CO hS,by omega,dC.of_lt (by omega) (by omega),fun wide H3 _ _ s3 p3=>?_⟩
 have qZ:=CO.trans s3;dsimp only [a7];refine ⟨by show 0≤sizeLine;decide,fun fd cJ=>?_⟩
 have s4:ai H3 (upd H3 fd (.lst [])):=aD cJ;have ef:upd H3 fd (.lst []) fd=some (.lst []):=ax;dsimp only [a7];generalize upd H3 fd (.lst [])=H4 at s4 ef ⊢;have L0:=qZ.trans (aE.of s4);have p4:=p3.mono s4;have gk:fd≠P0:=p3.ne cJ;have CP:er P0 H fd=none:=none_of qZ (by rw [cV gk];exact cJ)
 have u7:H fd=none:=by rw [cV gk] at CP;exact CP
 refine ⟨_,rfl,(n:Int),rfl,by omega,by omega,?_⟩
 rw [cZ];refine ja (fun j σ Hc=>∃(us:List V) (L:aK) (v6 v7:Option V),σ=[some (.ref P0),some (.int (most:Int)),some (.int (n:Int)),some (.int way),some (.int wide),some (.ref fd),v6,v7]∧aE P0 H Hc∧bu Hc P0 a∧Hc fd=some (.lst us)∧aT (er P0 Hc) us L∧eF j 0 L) ⟨[],[],_,_,rfl,L0,p4,ef,aT.nil _,eF.start⟩ ?_ ?_
 ·rintro j σ Hc hj ⟨us,L,v6,v7,rfl,sc,p5,cK,hL,ok⟩
  dsimp only [a7];simp only [eh,ei];refine ⟨_,rfl,(j:Int),by rw [jO],by omega,by omega,?_⟩
  rw [cZ];refine ja (fun i σ Hd=>∃(us:List V) (L:aK) (v7:Option V),σ=[some (.ref P0),some (.int (most:Int)),some (.int (n:Int)),some (.int way),some (.int wide),some (.ref fd),some (.int (0+(j:Int))),v7]∧aE P0 H Hd∧bu Hd P0 a∧Hd fd=some (.lst us)∧aT (er P0 Hd) us L∧eF j i L) ⟨us,L,_,rfl,sc,p5,cK,hL,ok⟩ ?_ ?_
  ·rintro i σ Hd hi ⟨us,L,v7,rfl,sd,p6,cK,hL,ok⟩
   refine ⟨_,rfl,_,rfl,_,rfl,_,rfl,_,rfl,_,rfl,P0,a,ns,way,(n:Int),wide,0+(i:Int),0+(j:Int),rfl,p6,ai.seq sd hS,fun b He se pe=>?_⟩;have x9:=se.at gk cK;have CQ:=hL.mono se;have lL:=hL.1;have l2:us.length≤900:=by
    have:=ok.bA;have:j*(j-1)≤30*30:=pG (by omega) (by omega)
    omega
   cases b with
   | true=>
    refine ⟨true,rfl,fT ?_⟩;refine ⟨_,rfl,.inl ⟨rfl,_,.of x9⟩,_,rfl,_,rfl,by show 2≤sizeLine;decide,fun tp jE=>?_⟩
    have st:ai He (upd He tp (.tup [.int (0+(i:Int)),.int (0+(j:Int))])):=aD jE;have et:upd He tp (.tup [.int (0+(i:Int)),.int (0+(j:Int))]) tp=some (.tup [.int (i:Int),.int (j:Int)]):=by rw [ax,jO,jO]
    generalize upd He tp (.tup [.int (0+(i:Int)),.int (0+(j:Int))])=Hf at st et ⊢;have pf:=pe.mono st;have CS:=st _ _ x9;refine ⟨fd,us,_,rfl,rfl,CS,cA (by omega),us++[.ref tp],L++[((i:Int),(j:Int))],_,rfl,((sd.trans se).trans (aE.of st)).but u7,pf.upd gk,ax,?_,ok.push hi⟩
    refine aT.ck (H:=er P0 Hf) ((CQ.mono (s_ st)).push (qx pf et)) (by rw [cV gk];exact CS) wY
   | false=>exact ⟨false,rfl,cB ⟨us,L,_,rfl,sd.trans se,pe,x9,CQ,ok.skip⟩⟩
  ·rintro σ Hd ⟨us,L,v7,rfl,sd,p6,cK,hL,ok⟩
   exact ⟨us,L,_,_,rfl,sd,p6,cK,hL,ok.next⟩
 ·rintro σ Hc ⟨us,L,v6,v7,rfl,sc,p5,cK,hL,ok⟩
  dsimp only;refine bo (qw (fun σ Hy=>∃(lk:Addr) (us:List V) (L:aK),σ=[some (.ref P0),some (.int (most:Int)),some (.int (n:Int)),some (.int way),some (.int wide),some (.ref lk),v6,v7]∧aE P0 H Hy∧bu Hy P0 a∧lk≠P0∧Hy lk=some (.lst us)∧aT (er P0 Hy) us L∧gF n L) ?_ ?_)
  ·rintro σ Hy ⟨lk,us,L,rfl,sy,py,L3,xG,hL,ok⟩
   dsimp only;refine ⟨_,rfl,_,rfl,_,rfl,_,rfl,(n:Int),rfl,fun pr L4=>?_⟩;have s6:ai Hy (upd Hy pr (.iq 0 (n:Int))):=aD L4;refine ⟨pr,n,rfl,ax,by omega,fun l0 n0=>?_⟩
   have s7:=s6.trans (aD (o:=.lst (eB n)) n0);have e0:upd (upd Hy pr (.iq 0 (n:Int))) l0 (.lst (eB n)) l0=some (.lst (eB n)):=ax;have oQ:l0≠P0:=(py.mono s6).ne n0;generalize upd (upd Hy pr (.iq 0 (n:Int))) l0 (.lst (eB n))=Hz at s7 e0 ⊢;have lu:(eB n).length=n:=by unfold eB;simp
   refine ⟨P0,a,l0,ns,eB n,rfl,py.mono s7,ai.seq (sy.trans (aE.of s7)) hS,oQ,e0,by omega,fun r ys Hw sw pw fr nr qY pm=>?_⟩
   obtain ⟨L5,ly,hy,NO⟩:=HH pm;have u_:=(aE.of s7).trans sw;refine ⟨lk,r,n,us,ys,L,L5,rfl,u_.at L3 xG,(hL.mono u_).mono lE,ok,by omega,qY,ly,hy,NO,fun tt L' Hv sv CT sh x_ L6 O0=>?_⟩
   have nt:tt≠P0:=pw.ne CT;exact kk tt n L' Hv ((sy.trans u_).trans (aE.of sv)) (pw.mono sv) (none_of (sy.trans u_) (by rw [cV nt];exact CT)) nt (sh.er (pw.mono sv)) x_ L6 n1 nm
  ·intro R hR
   refine ⟨_,rfl,rfl,_,rfl,cG (fun _=>?_) (fun _=>?_)⟩
   ·refine ⟨_,rfl,_,rfl,P0,a,ns,n,rfl,p5,ai.seq sc hS,n1,by omega,fun r L7 L' Hy sy py fr nr qY L8 x_=>?_⟩
    exact hR _ _ ⟨r,L7,L',rfl,sc.trans sy,py,nr,qY,L8,x_⟩
   ·exact hR _ _ ⟨fd,us,L,rfl,sc,p5,gk,cK,hL,ok.ok⟩
theorem L9{es:List Expr}{p:Pos}{env:Env}:∀x,foldedSetIterable (.List es p) env x=pure x:=fun _=>rfl
theorem L_:cw ["script","_law_pen","_law_k","_law_shape","_law_thing","_law_many"] ["script"] (bR uC):=c6
theorem Ma(T:Txt K mg t):bT P w K mg base b_ 9 t.kr t.ml ["script"] (sY K):=by
 have S:=L_;have Mb:=LY (P:=P) (w:=w) (base:=base) T;have ra:=Kd (P:=P) (w:=w) (base:=base) T;have Mc:=KA (P:=P) (w:=w) (base:=base) T;have Md:=Kj (P:=P) (w:=w) (base:=base) T;have Me:=Ko (P:=P) (w:=w) (base:=base) T;have Mf:=Kt (P:=P) (w:=w) (base:=base) T;refine T.oJ.c7 S (fun _ _ _ _ H _ _ _ hr h=>?_);obtain ⟨a,ns,rfl,hS,hlen,kQ⟩:=h;have jx:=hr.units
 refine ⟨_,(@aM _ _ _ _ _ (@iF _ _ 1 _ _ _ _ (by rfl) (by first | exact .inl rfl | exact .inr rfl | assumption) S.nd rfl (Or.inl rfl) (@dB _ _ _ _ (@aa _ _ _ _ _ (by rfl) (pv 0) (@aa _ _ _ _ _ (by rfl) ay (@aa _ _ _ _ _ (by rfl) ay au)))))
   (@aM _ _ _ _ _ (eI d_ rfl (i_ rfl T.gI (@aa _ _ _ _ _ (by rfl) ay au)) (cq (i:=2) S.nd rfl (Or.inl rfl))
    (@aM _ _ _ _ _ (@iF _ _ 3 _ _ _ _ (by rfl) (by first | exact .inl rfl | exact .inr rfl | assumption) S.nd rfl (Or.inl rfl) (fO Mb (hr.mono (by decide)) rfl T.BD T.oE.kp T.BC .nil bt (@aa _ _ _ _ _ (by rfl) (pv 1) (@aa _ _ _ _ _ (by rfl) ay au))))
   (@aM _ _ _ _ _ (@cL _ _ _ _ _ _ _ _ (@k4 _ _ _ _ _ _ _ _ wo (fO ra (hr.mono (by decide)) rfl T.ot T.iN.kp T.oq .nil bt (@aa _ _ _ _ _ (by rfl) (pv 3) au)) dq (iz _)) (@aR _ _ _ (@bO _ _ _ _ dq)) cT)
   (@aM _ _ _ _ _ (eI d_ rfl (m_ (fO Mc (hr.mono (by decide)) rfl T.BH T.oG.kp T.BG .nil bt (@aa _ _ _ _ _ (by rfl) (pv 1) (@aa _ _ _ _ _ (by rfl) (pv 3) au)))) (cq (i:=4) S.nd rfl (Or.inl rfl))
    (@aR _ _ _ (@cL _ _ _ _ _ _ _ _ (@k4 _ _ _ _ _ _ _ _ wo (fO ra (hr.mono (by decide)) rfl T.ot T.iN.kp T.oq .nil bt (@aa _ _ _ _ _ (by rfl) (pv 4) au)) dq (iz _)) (@aR _ _ _ (@bO _ _ _ _ dq)) cT)))
   (@aM _ _ _ _ _ (@iF _ _ 5 _ _ _ _ (by rfl) (by first | exact .inl rfl | exact .inr rfl | assumption) S.nd rfl (Or.inl rfl) (fO Md (hr.mono (by decide)) rfl T.Bt T.oz.kp T.Bs .nil bt (@aa _ _ _ _ _ (by rfl) (pv 3) au)))
   (@aR _ _ _ (@cL _ _ _ _ _ _ _ _ (PW.pt (@pw_or _ _ _ _ _ _ _ (m7 (cz (lC (K:=K)) rfl T.ku boot_isinstance (@aa _ _ _ _ _ (by rfl) (pv 5) (@aa _ _ _ _ _ (by rfl) (kP (v:=.ty "bool") rfl T.xC boot_bool rfl) au)))) (@pw_or _ _ _ _ _ _ _ (@k4 _ _ _ _ _ _ _ _ vT (pv 5) (fO Me (hr.mono (by decide)) rfl T.BJ T.oH.kp T.BI .nil bt (@aa _ _ _ _ _ (by rfl) (pv 3) au)) (iz _)) (@pw_or1 _ _ _ _ (@rX _ _ _ _ (m7 (fO Mf (hr.mono (by decide)) rfl T.BL T.oI.kp T.BK .nil bt (@aa _ _ _ _ _ (by rfl) (pv 3) au)))))))) (@aR _ _ _ (@bO _ _ _ _ dq)) cT)))))))
   (@aM _ _ _ _ _ (@eI _ _ _ _ (yQ K (y9 _)) _ _ _ d_ rfl (@m_ _ _ _ _ (@dB _ _ _ _ (@aa _ _ _ _ _ (by rfl) vE (@aa _ _ _ _ _ (by rfl) dq (@aa _ _ _ _ _ (by rfl) ay (@aa _ _ _ _ _ (by rfl) yI (@aa _ _ _ _ _ (by rfl) (@dB _ _ _ _ au) (@aa _ _ _ _ _ (by rfl) (@aZ _ _ _ _ _ au) (@aa _ _ _ _ _ (by rfl) FK (@aa _ _ _ _ _ (by rfl) (@aZ _ _ _ _ _ (@aa _ _ _ _ _ (by rfl) (@aZ _ _ _ _ _ au) (@aa _ _ _ _ _ (by rfl) (@aZ _ _ _ _ _ au) au))) (@aa _ _ _ _ _ (by rfl) (@aZ _ _ _ _ _ (@aa _ _ _ _ _ (by rfl) ay (@aa _ _ _ _ _ (by rfl) vE au))) (@aa _ _ _ _ _ (by rfl) (@aZ _ _ _ _ _ (@aa _ _ _ _ _ (by rfl) ay (@aa _ _ _ _ _ (by rfl) (@aZ _ _ _ _ _ (@aa _ _ _ _ _ (by rfl) (@aZ _ _ _ _ _ au) au)) au))) au)))))))))))) (cq (i:=4) S.nd rfl (Or.inl rfl))
    (@aR _ _ _ (@cL _ _ _ _ _ _ _ _ (@k4 _ _ _ _ _ _ _ _ wo (fO ra (hr.mono (by decide)) rfl T.ot T.iN.kp T.oq .nil bt (@aa _ _ _ _ _ (by rfl) (pv 4) au)) dq (iz _)) (@aR _ _ _ (@bO _ _ _ _ dq)) cT)) L9)
   (@aR _ _ _ (@bO _ _ _ _ (@i8 _ _ _ _ _ _ _ (@sC _ _ _ _ _ _ _ _ z9 (fO ra (hr.mono (by decide)) rfl T.ot T.iN.kp T.oq .nil bt (@aa _ _ _ _ _ (by rfl) (@aZ _ _ _ _ _ (@aa _ _ _ _ _ (by rfl) ay (@aa _ _ _ _ _ (by rfl) (@aZ _ _ _ _ _ (@aa _ _ _ _ _ (by rfl) (@aZ _ _ _ _ _ (@aa _ _ _ _ _ (by rfl) ay (@aa _ _ _ _ _ (by rfl) ay au))) (@aa _ _ _ _ _ (by rfl) (@aZ _ _ _ _ _ (@aa _ _ _ _ _ (by rfl) ay (@aa _ _ _ _ _ (by rfl) ay au))) au))) au))) au)) dq (iz _)) (@kS _ _ _ _ _ (@sC _ _ _ _ _ _ _ _ z9 (fO ra (hr.mono (by decide)) rfl T.ot T.iN.kp T.oq .nil bt (@aa _ _ _ _ _ (by rfl) (@aZ _ _ _ _ _ (@aa _ _ _ _ _ (by rfl) ay (@aa _ _ _ _ _ (by rfl) (@aZ _ _ _ _ _ au) au))) au)) dq (iz _))))))))),?_⟩
 refine bo ⟨_,rfl,by show 3≤sizeLine;decide,fun P0 nP=>?_⟩
 have p0:bu (upd H P0 (.lst [.ref a,.int 0,.int 0])) P0 a:=⟨0,0,ax,by decide,by decide⟩
 have CU:bq K (er P0 (upd H P0 (.lst [.ref a,.int 0,.int 0]))) a (ns.map V.int):=by rw [wy];exact ai.seq (fun b o e=>qk (gp e nP) e) hS
 dsimp only [a7];generalize upd H P0 (.lst [.ref a,.int 0,.int 0])=H0 at p0 CU ⊢;simp only [L2.start,eh,ei];refine bo ⟨4,rfl,by decide,by decide,?_⟩
 refine ja (fun i σ Hc=>∃(v2 v3 v4 v5:Option V),σ=[some (.ref a),some (.ref P0),v2,v3,v4,v5]∧aE P0 H0 Hc∧bu Hc P0 a) ⟨_,_,_,_,rfl,aE.refl _,p0⟩ ?_ ?_
 ·rintro i σ Hc hi ⟨v2,v3,v4,v5,rfl,sT,pc⟩
  have CV:bq K (er P0 Hc) a (ns.map V.int):=ai.seq sT CU;dsimp only [a7];refine bo ⟨_,rfl,P0,a,ns,14,rfl,pc,CV,by decide,by decide,fun tp n Lk H1 s1 p1 jE B5 f9 ok pw n1 B6=>?_⟩
  dsimp only [a7];have bA:Lk.length≤200:=cf ok.bA (by
   have:n*n≤14*14:=pG (by omega) (by omega)
   omega)
  have lt:∀z∈Lk,0≤z.1∧z.1<z.2∧z.2<(n:Int):=fun z hz=>by have:=ok.lt z hz;omega
  have nd:Lk.Nodup:=pw.imp fun{p q} h e=>by subst e;unfold lexLt at h;omega
  have ya:∀{Hx:Hp},aE P0 H1 Hx→fB Hx tp n Lk:=fun sx=>(f9.mono sx).mono lE;obtain ⟨tl,us,d4,Mg,hL⟩:=id (ya (aE.refl _));have yes:dH H1 (.ref tp) true:=by
   have:=dH.links d4 n1 (by omega) (cX.links Mg hL (by omega) lt)
   rw [JI pw] at this;exact this
  refine bo ⟨_,rfl,.ref tp,true,rfl,yes,fun H2 s2=>⟨true,true,rfl,rfl,false,rfl,cB ?_⟩⟩;dsimp only [gv];have p2:=p1.mono s2;refine bo ⟨_,rfl,_,rfl,P0,a,tp,ns,n,Lk,rfl,p2,ai.seq (s1.trans (aE.of s2)) CV,B5,ya (aE.of s2),pw,lt,n1,B6,bA,fun l xs H3 s3 p3 lP el lx all=>?_⟩;have t3:aE P0 H1 H3:=(aE.of s2).trans s3;refine ⟨l,rfl,⟨_,.of el⟩,?_⟩;refine vL (K:=K) (a:=l) (xs:=xs) (fun j σ Hd=>∃v4:Option V,σ=[some (.ref a),some (.ref P0),some (.int (0+(i:Int))),some (.ref tp),v4,v5]∧ai H3 Hd) ⟨_,rfl,ai.refl _⟩ (fun j σ Hd _ ⟨_,_,sd⟩=>.of (sd _ _ el)) ?_ ?_
  ·rintro j v σ Hd hv ⟨v4,rfl,sd⟩
   dsimp only [a7];exact ⟨_,rfl,v,false,rfl,(all v (mJ hv)).mono sd,fun He se=>⟨false,false,rfl,rfl,false,rfl,cB ⟨_,rfl,sd.trans se⟩⟩⟩
  rintro σ H4 ⟨Mh,rfl,s4⟩;dsimp only;have t4:=t3.trans (aE.of s4);have yb:=ya t4;refine bo ⟨_,rfl,tp,n,Lk,rfl,yb,nd,lt,by omega,by omega,fun H5 s5=>?_⟩
  dsimp only [a7];obtain ⟨Ty,ty,_,k2,_⟩:=(Any.int (H:=H5) (qA n Lk:Int)).lB (K:=K);refine ⟨_,rfl,_,_,_,_,rfl,rfl,ty,k2,false,rfl,cB ?_⟩;refine ⟨_,rfl,_,rfl,tp,n,Lk,rfl,yb.mono s5,nd,lt,by omega,by omega,fun H6 s6=>⟨rfl,false,by rw [bg rfl];rfl,cB ?_⟩⟩
  refine ⟨_,rfl,tp,n,Lk,rfl,(yb.mono s5).mono s6,nd,lt,by omega,by omega,fun H7 s7=>⟨true,rfl,cB ?_⟩⟩
  have q_:=s4.trans (s5.trans (s6.trans s7));exact ⟨_,_,_,_,rfl,sT.trans (s1.trans ((aE.of s2).trans (s3.trans (aE.of q_)))),p3.mono q_⟩
 rintro σ Ha ⟨v2,v3,v4,v5,rfl,-,-⟩;dsimp only;refine bo ⟨bG _,fun l0 oQ=>?_⟩;have Mi:ai Ha (upd Ha l0 (.lst [])):=aD oQ;have yc:upd Ha l0 (.lst []) l0=some (.lst []):=ax;generalize upd Ha l0 (.lst [])=G1 at Mi yc ⊢;refine ⟨bG _,fun t0 xN=>?_⟩;have kB:ai G1 (upd G1 t0 (.tup [])):=aD xN;have qM:upd G1 t0 (.tup []) t0=some (.tup []):=ax;generalize upd G1 t0 (.tup [])=G2 at kB qM ⊢;refine fun d0 Mj=>?_;have va:ai G2 (upd G2 d0 (j9 d0)):=aD Mj;have yd:upd G2 d0 (j9 d0) d0=some (j9 d0):=ax;generalize upd G2 d0 (j9 d0)=GD at va yd ⊢;refine ⟨bG _,fun t1 xO=>?_⟩;have gK:ai GD (upd GD t1 (.tup [])):=aD xO;have qO:upd GD t1 (.tup []) t1=some (.tup []):=ax;generalize upd GD t1 (.tup [])=G3 at gK qO ⊢;refine ⟨bG _,fun t2 xP=>?_⟩;have fE:ai G3 (upd G3 t2 (.tup [])):=aD xP;have uP:upd G3 t2 (.tup []) t2=some (.tup []):=ax;generalize upd G3 t2 (.tup [])=G4 at fE uP ⊢;refine ⟨by show 2≤sizeLine;decide,fun t3 xQ=>?_⟩
 have eW:ai G4 (upd G4 t3 (.tup [.ref t1,.ref t2])):=aD xQ;have qP:upd G4 t3 (.tup [.ref t1,.ref t2]) t3=some (.tup [.ref t1,.ref t2]):=ax;generalize upd G4 t3 (.tup [.ref t1,.ref t2])=G5 at eW qP ⊢;refine ⟨by show 2≤sizeLine;decide,fun t4 xR=>?_⟩
 have dJ:ai G5 (upd G5 t4 (.tup [.int 1,.aI])):=aD xR;have qR:upd G5 t4 (.tup [.int 1,.aI]) t4=some (.tup [.int 1,.aI]):=ax;generalize upd G5 t4 (.tup [.int 1,.aI])=G6 at dJ qR ⊢;refine ⟨bG _,fun t5 xS=>?_⟩;have dh:ai G6 (upd G6 t5 (.tup [])):=aD xS;have mF:upd G6 t5 (.tup []) t5=some (.tup []):=ax;generalize upd G6 t5 (.tup [])=G7 at dh mF ⊢;refine ⟨by show 1≤sizeLine;decide,fun t6 xT=>?_⟩
 have cD:ai G7 (upd G7 t6 (.tup [.ref t5])):=aD xT;have qS:upd G7 t6 (.tup [.ref t5]) t6=some (.tup [.ref t5]):=ax;generalize upd G7 t6 (.tup [.ref t5])=G8 at cD qS ⊢;refine ⟨by show 2≤sizeLine;decide,fun t7 xU=>?_⟩
 have cn:ai G8 (upd G8 t7 (.tup [.int 1,.ref t6])):=aD xU;have qT:upd G8 t7 (.tup [.int 1,.ref t6]) t7=some (.tup [.int 1,.ref t6]):=ax;generalize upd G8 t7 (.tup [.int 1,.ref t6])=G9 at cn qT ⊢;refine ⟨by show 10≤sizeLine;decide,fun fd cJ=>?_⟩
 have all:∀v∈([.aI,.bl true,.int 0,.str (Str.ofString "shape"),.ref l0,.ref t0,.ref d0,.ref t3,.ref t4,.ref t7]:List V),dH G9 v false:=fun v hv=>by
  simp only [cE,kH,or_false] at hv;rcases hv with rfl | rfl | rfl | rfl | rfl | rfl | rfl | rfl | rfl | rfl;·exact .other .aI rfl
  ·exact .other (.bl _) rfl
  ·exact .other (.int _) rfl
  ·exact .other (.str _) rfl
  ·exact .other (.lst ((kB.trans (va.trans (gK.trans (fE.trans (eW.trans (dJ.trans (dh.trans (cD.trans cn)))))))) _ _ yc)) (fD ((kB.trans (va.trans (gK.trans (fE.trans (eW.trans (dJ.trans (dh.trans (cD.trans cn)))))))) _ _ yc) rfl)
  ·exact .many ((va.trans (gK.trans (fE.trans (eW.trans (dJ.trans (dh.trans (cD.trans cn))))))) _ _ qM) (by decide)
  ·exact .other (.fj ((gK.trans (fE.trans (eW.trans (dJ.trans (dh.trans (cD.trans cn)))))) _ _ yd)) (fD ((gK.trans (fE.trans (eW.trans (dJ.trans (dh.trans (cD.trans cn)))))) _ _ yd) rfl)
  ·exact .whole ((dJ.trans (dh.trans (cD.trans cn))) _ _ qP) (.tup ((fE.trans (eW.trans (dJ.trans (dh.trans (cD.trans cn))))) _ _ qO)) (by first | rfl | exact O1)
  ·exact .links (n:=1) ((dh.trans (cD.trans cn)) _ _ qR) (by decide) (by decide) (.other .aI rfl)
  ·exact .links (n:=1) qT (by decide) (by decide) (.bad (cn _ _ qS) (by show 1≤1000;decide) (fun v hv=>by rw [e9.mp hv];exact .many ((cD.trans cn) _ _ mF) (by decide)) (w:=.ref t5) (e9.mpr rfl) (dG ((cD.trans cn) _ _ mF) rfl))
 have mI:ai G9 (upd G9 fd (.lst [.aI,.bl true,.int 0,.str (Str.ofString "shape"),.ref l0,.ref t0,.ref d0,.ref t3,.ref t4,.ref t7])):=aD cJ;have cK:upd G9 fd (.lst [.aI,.bl true,.int 0,.str (Str.ofString "shape"),.ref l0,.ref t0,.ref d0,.ref t3,.ref t4,.ref t7]) fd=some (.lst [.aI,.bl true,.int 0,.str (Str.ofString "shape"),.ref l0,.ref t0,.ref d0,.ref t3,.ref t4,.ref t7]):=ax;refine ⟨fd,rfl,⟨_,.of cK⟩,?_⟩;generalize upd G9 fd (.lst [.aI,.bl true,.int 0,.str (Str.ofString "shape"),.ref l0,.ref t0,.ref d0,.ref t3,.ref t4,.ref t7])=Hf at mI cK ⊢;generalize ([.aI,.bl true,.int 0,.str (Str.ofString "shape"),.ref l0,.ref t0,.ref d0,.ref t3,.ref t4,.ref t7]:List V)=xs at all cK;refine vL (K:=K) (a:=fd) (xs:=xs) (fun j σ Hd=>∃v4:Option V,σ=[some (.ref a),some (.ref P0),v2,v3,v4,v5]∧ai Hf Hd) ⟨_,rfl,ai.refl _⟩ (fun j σ Hd _ ⟨_,_,sd⟩=>.of (sd _ _ cK)) ?_ ?_
 ·rintro j v σ Hd hv ⟨v4,rfl,sd⟩
  dsimp only [a7];exact ⟨_,rfl,v,false,rfl,(all v (mJ hv)).mono (mI.trans sd),fun He se=>⟨false,false,rfl,rfl,false,rfl,cB ⟨_,rfl,sd.trans se⟩⟩⟩
 rintro σ Hb ⟨Mh,rfl,-⟩;dsimp only;refine ⟨by show 2≤sizeLine;decide,fun q1 Mk=>?_⟩
 have Ml:ai Hb (upd Hb q1 (.tup [.int 0,.int 59])):=aD Mk;have eq1:upd Hb q1 (.tup [.int 0,.int 59]) q1=some (.tup [.int 0,.int 59]):=ax;generalize upd Hb q1 (.tup [.int 0,.int 59])=jz at Ml eq1 ⊢;refine ⟨by show 2≤sizeLine;decide,fun q2 Mm=>?_⟩
 have CW:ai jz (upd jz q2 (.tup [.int 58,.int 59])):=aD Mm;have eq2:upd jz q2 (.tup [.int 58,.int 59]) q2=some (.tup [.int 58,.int 59]):=ax;generalize upd jz q2 (.tup [.int 58,.int 59])=jA at CW eq2 ⊢;refine ⟨by show 2≤sizeLine;decide,fun q3 Mn=>?_⟩
 have ye:ai jA (upd jA q3 (.tup [.ref q1,.ref q2])):=aD Mn;have eq3:upd jA q3 (.tup [.ref q1,.ref q2]) q3=some (.tup [.ref q1,.ref q2]):=ax;generalize upd jA q3 (.tup [.ref q1,.ref q2])=kA at ye eq3 ⊢;refine ⟨by show 2≤sizeLine;decide,fun q4 Mo=>?_⟩
 have vb:ai kA (upd kA q4 (.tup [.int 60,.ref q3])):=aD Mo;have eq4:upd kA q4 (.tup [.int 60,.ref q3]) q4=some (.tup [.int 60,.ref q3]):=ax;generalize upd kA q4 (.tup [.int 60,.ref q3])=mC at vb eq4 ⊢;have hL:aT mC [.ref q1,.ref q2] [((0:Int),(59:Int)),(58,59)]:=⟨rfl,fun k v q h1 h2=>by
  match k,h1,h2 with
  | 0,h1,h2=>cases h1;cases h2;exact ⟨q1,rfl,((CW.trans (ye.trans vb)) _ _ eq1)⟩
  | 1,h1,h2=>cases h1;cases h2;exact ⟨q2,rfl,((ye.trans vb) _ _ eq2)⟩
  | k+2,h1,h2=>cases h1⟩
 have y1:dH mC (.ref q4) true:=.links (n:=60) eq4 (by decide) (by decide) (.links (vb _ _ eq3) hL (by decide) (by decide))
 refine ⟨.ref q4,true,rfl,y1,fun Hc sc=>⟨true,true,rfl,rfl,?_⟩⟩;refine ⟨true,rfl,fT ?_⟩;refine ⟨bG _,fun r1 Mp=>?_⟩;have Mq:ai Hc (upd Hc r1 (.tup [])):=aD Mp;have iR:upd Hc r1 (.tup []) r1=some (.tup []):=ax;generalize upd Hc r1 (.tup [])=jB at Mq iR ⊢;refine ⟨by show 2≤sizeLine;decide,fun r2 Mr=>?_⟩
 have CY:ai jB (upd jB r2 (.tup [.int 1,.ref r1])):=aD Mr;have CZ:upd jB r2 (.tup [.int 1,.ref r1]) r2=some (.tup [.int 1,.ref r1]):=ax;generalize upd jB r2 (.tup [.int 1,.ref r1])=oN at CY CZ ⊢;have y2:dH oN (.ref r2) true:=.links (n:=1) CZ (by decide) (by decide) (.links (CY _ _ iR) (aT.nil _) (by decide) (fun z hz=>by cases hz))
 exact ⟨.ref r2,true,rfl,y2,fun He se=>⟨true,true,rfl,rfl,kQ _⟩⟩
theorem Ms{l:PySem.W.OpenLaw}(T:Txt K mg t):∃fd:FuncData,(∀(s:Shared) (v:Value),BindsTo s fd ⟨[v],[]⟩ [("script",v)])∧∀base:Heap,K.In base→base.Ns mainGlobals mg→bT l.prog w K mg base b_ 9 t.kr fd ["script"] (sY K):=by obtain ⟨oc,od,kV,doc,pm,an,bU,ct,jc,e,lk,ff⟩:=T.oJ.ex;refine ⟨t.ml,fun s v=>?_,fun base _ _=>Ma T⟩;rw [e];exact .of_eq rfl
end
theorem walk{l:PySem.W.OpenLaw}{q:Program}{loose:List Str}{XP:(Str→Option Value)→Heap→Prop}{YP:World→Heap→Prop}{d:DefRec}{K:Params→PySem.W.Frag}(hn:l.most=some 63)(pZ:d.params.defaults=[])
  (hY:∀(w:World) (h:Heap),YP w h→(K w.params).In h)
  (F:∀(w:World) (mg:bY) (fa:Addr) (h:Heap),(K w.params).In h→h.Ns mainGlobals mg→mg d.name=some (.ref fa)→
   ∃fd:FuncData,(∀(s:Shared) (u:Value),BindsTo s fd ⟨[u],[]⟩ [("script",u)])∧∀base:Heap,(K w.params).In base→base.Ns mainGlobals mg→bT l.prog w (K w.params) mg base b_ 9 fa fd ["script"] (sY (K w.params))) :
  PySem.W.WalkO q loose XP YP l.row.toRowW d [] (fun f vs=>PySem.call f vs):=
 L2.Fx (n:=63) (k:=9) (x:="script") (CX:=fun _=>b_) (sp:=fun w=>sY (K w.params)) hn (by decide) pZ ⟨rfl,by decide,by decide⟩ hY F (fun _ _ a ns hl _ hS=>⟨a,ns,rfl,hS,hl,fun _=>rfl⟩) fun _ _ _ _ _ z=>z
theorem Mt{K:aG}{h:Heap}{mg:bY}(X:K.In h)(G:h.Ns mainGlobals mg)
  {Mu:Tok}
  {lQ lR lS lT lU lW lY lZ l6 l7 l8 l9 l_ ma md me mf mh mj kr:Addr} {nN nO nQ nR nS nU nV nW nX nY nZ n4 n5 n6 n8 n_ og oh oi ml:FuncData}
  (Mv:mg "is_whole"=some (.ref lQ))
  (mq:bj K "is_whole" uc lQ nN)
  (Mw:mg "is_rising"=some (.ref lR))
  (oj:bj K "is_rising" ud lR nO)
  (Mx:mg "is_place"=some (.ref lS))
  (mr:bj K "is_place" ue lS nQ)
  (Mz:mg "is_link"=some (.ref lT))
  (om:bj K "is_link" uf lT nR)
  (MA:mg "are_links"=some (.ref lU))
  (oo:bj K "are_links" ug lU nS)
  (MB:mg "is_shape"=some (.ref lW))
  (iN:bj K "is_shape" uh lW nU)
  (MC:mg "neighbours"=some (.ref lY))
  (mw:bj K "neighbours" uj lY nV)
  (MD:mg "near"=some (.ref lZ))
  (ou:bj K "near" um lZ nW)
  (ME:mg "triangles"=some (.ref l6))
  (oz:bj K "triangles" uo l6 nX)
  (MF:mg "_law_fill"=some (.ref l7))
  (oA:bj K "_law_fill" uq l7 nY)
  (MG:mg "_law_next"=some (.ref l8))
  (dZ:bj K "_law_next" ur l8 nZ)
  (MJ:mg "_law_turned"=some (.ref l9))
  (oB:bj K "_law_turned" uu l9 n4)
  (MK:mg "_law_tied_by"=some (.ref l_))
  (oC:bj K "_law_tied_by" uv l_ n5)
  (ML:mg "_law_grown_links"=some (.ref ma))
  (oD:bj K "_law_grown_links" uw ma n6)
  (MM:mg "_law_drawn"=some (.ref md))
  (oE:bj K "_law_drawn" ux md n8)
  (MN:mg "_law_named"=some (.ref me))
  (oF:bj K "_law_named" uy me n_)
  (MO:mg "_law_spoilt"=some (.ref mf))
  (oG:bj K "_law_spoilt" uz mf og)
  (MP:mg "_law_threes"=some (.ref mh))
  (oH:bj K "_law_threes" uA mh oh)
  (MQ:mg "_law_near_right"=some (.ref mj))
  (oI:bj K "_law_near_right" uB mj oi)
  (MR:mg "law"=some (.ref kr))
  (oJ:bj K "law" uC kr ml)
  (yf:PySem.W.nsIn K mainGlobals "len"=some none)
  (yg:PySem.W.nsIn K mainGlobals "isinstance"=some none)
  (yh:PySem.W.nsIn K mainGlobals "int"=some none)
  (yi:PySem.W.nsIn K mainGlobals "bool"=some none)
  (yj:PySem.W.nsIn K mainGlobals "tuple"=some none)
  (yk:PySem.W.nsIn K mainGlobals "list"=some none)
  (yl:PySem.W.nsIn K mainGlobals "range"=some none)
  (ym:PySem.W.nsIn K mainGlobals "all"=some none)
  (yo:PySem.W.nsIn K mainGlobals "min"=some none)
  (yp:PySem.W.nsIn K mainGlobals "max"=some none)
  (yq:PySem.W.nsIn K mainGlobals "sorted"=some none)
  (yr:PySem.W.nsIn K mainGlobals "zip"=some none)
  (yt:PySem.W.nsIn K mainGlobals "str"=some none)
  (yu:PySem.W.nsIn K mainGlobals "MOST"=some (some (.int 60 Mu)))
  : ∃t:xt,Txt K mg t:=by
 refine ⟨⟨lQ,nN,lR,nO,lS,nQ,lT,nR,lU,nS,lW,nU,lY,nV,lZ,nW,l6,nX,l7,nY,l8,nZ,l9,n4,l_,n5,ma,n6,md,n8,me,n_,mf,og,mh,oh,mj,oi,kr,ml⟩,?_⟩
 exact {
  mq:=mq
  xu:=mq.c8
  xv:=Mv
  oj:=oj
  Bk:=oj.c8
  Bl:=Mw
  mr:=mr
  xw:=mr.c8
  xx:=Mx
  om:=om
  Bm:=om.c8
  Bn:=Mz
  oo:=oo
  Bo:=oo.c8
  Bp:=MA
  iN:=iN
  oq:=iN.c8
  ot:=MB
  mw:=mw
  xy:=mw.c8
  xA:=MC
  ou:=ou
  Bq:=ou.c8
  Br:=MD
  oz:=oz
  Bs:=oz.c8
  Bt:=ME
  oA:=oA
  Bu:=oA.c8
  Bv:=MF
  dZ:=dZ
  fY:=dZ.c8
  fZ:=MG
  oB:=oB
  Bw:=oB.c8
  Bx:=MJ
  oC:=oC
  By:=oC.c8
  Bz:=MK
  oD:=oD
  BA:=oD.c8
  BB:=ML
  oE:=oE
  BC:=oE.c8
  BD:=MM
  oF:=oF
  BE:=oF.c8
  BF:=MN
  oG:=oG
  BG:=oG.c8
  BH:=MO
  oH:=oH
  BI:=oH.c8
  BJ:=MP
  oI:=oI
  BK:=oI.c8
  BL:=MQ
  oJ:=oJ
  JY:=oJ.c8
  BM:=MR
  iO:=fL X G yf
  ku:=fL X G yg
  xB:=fL X G yh
  xC:=fL X G yi
  qF:=fL X G yj
  qG:=fL X G yk
  gI:=fL X G yl
  uD:=fL X G ym
  BN:=fL X G yo
  BO:=fL X G yp
  uE:=fL X G yq
  BP:=fL X G yr
  BQ:=fL X G yt
  BR:=⟨_,cS X G yu,_,rfl⟩
 }
end My
namespace PySem.W.Fast
def tw4214059866972519229:Unit:=()
def tw12997816368425462034:Unit:=()
def tw6758215480130526223:Unit:=()
def tw17999464585112309014:Unit:=()
def tw891206264634373297:Unit:=()
def tw17884892650469263467:Unit:=()
def tw481555124590145678:Unit:=()
def tw5914711993547887416:Unit:=()
def tw5364135827867697128:Unit:=()
def tw9135137472903148950:Unit:=()
def tw1791094811884064058:Unit:=()
def tw10764642326345835404:Unit:=()
def tw11776235912590249603:Unit:=()
def tw10557281759342809105:Unit:=()
def tw10439195328184916379:Unit:=()
def tw9132529022773601136:Unit:=()
def tw3860257276562315764:Unit:=()
def tw2570823783371638602:Unit:=()
def tw8495639505111096422:Unit:=()
def tw2132040421292380477:Unit:=()
def tw17324018940619560155:Unit:=()
def tw14775213697040750172:Unit:=()
def tw14610798792731487627:Unit:=()
def tw10195803249966562224:Unit:=()
def tw3805776666621500280:Unit:=()
def tw15572768282210425161:Unit:=()
def tw4277168832932217644:Unit:=()
def tw9513581884851524088:Unit:=()
def tw16389217026692107178:Unit:=()
def tw10008272427373283742:Unit:=()
def tw7516504158786476444:Unit:=()
def tw7210055820410082700:Unit:=()
def tw6625478338914010594:Unit:=()
def tw10685916131955943245:Unit:=()
def tw11968500663960315422:Unit:=()
def tw2690144081070429366:Unit:=()
def tw15410737373865294959:Unit:=()
def tw5621704478350240179:Unit:=()
def tw7784928657551901956:Unit:=()
def tw17483045278157613542:Unit:=()
def tw10806434981365249659:Unit:=()
def tw2979372284363033923:Unit:=()
def tw17838443459402318586:Unit:=()
def tw9705675985849648577:Unit:=()
def tw2979989866348302050:Unit:=()
def tw12438992837422573638:Unit:=()
def tw1374911545282437430:Unit:=()
def tw2069803500412651547:Unit:=()
def tw15553820739536151415:Unit:=()
def tw12718786272836734631:Unit:=()
def tw4817421223108032981:Unit:=()
def tw3326321351326373558:Unit:=()
def tw11740374742285346871:Unit:=()
def tw18126202476452941126:Unit:=()
def tw4487300019054918869:Unit:=()
def tw18252711577290676638:Unit:=()
def tw219541275663967415:Unit:=()
def tw17835653884531337317:Unit:=()
def tw7493227557362533469:Unit:=()
def tw4106976664609177541:Unit:=()
def tw8664129907388715427:Unit:=()
def tw1461277921533696955:Unit:=()
def tw16146621734806753601:Unit:=()
def tw13185891660778743881:Unit:=()
def tw15903972987156297905:Unit:=()
def tw12439398091564907635:Unit:=()
def tw6961143021165840411:Unit:=()
def tw4180764492752626763:Unit:=()
def tw4427557644099331275:Unit:=()
def tw10949183989048893631:Unit:=()
def tw7958966439469172962:Unit:=()
def tw8997715357846853784:Unit:=()
def tw17677971531391221423:Unit:=()
def tw14038071059841202626:Unit:=()
def tw18226015749752584792:Unit:=()
def tw10285865373717701035:Unit:=()
def tw4249220254026441050:Unit:=()
def tw6904687946269842469:Unit:=()
def tw8208728127392379342:Unit:=()
def tw13944037534189528014:Unit:=()
def tw16342649431774667614:Unit:=()
def tw17912749762223727655:Unit:=()
def tw5835071589461027797:Unit:=()
def tw17985090243601893594:Unit:=()
def tw17362018018314258522:Unit:=()
def tw7441242925442057004:Unit:=()
def tw7823164655764441599:Unit:=()
def tw12347467596189001756:Unit:=()
def tw2412563565514214392:Unit:=()
def tw11073722628607959061:Unit:=()
end PySem.W.Fast
open PySem PySem.W PyProof.Rows
set_option maxRecDepth 100000 in
set_option maxHeartbeats 0 in
theorem PySem.Challenge.cw_bandwright_k15_shapes_of_anything_holds : PySem.Challenge.rw_bandwright_k15_shapes_of_anything.Holds := by
 w_on;o_law;k_head;(case hw=>w_witness2)
 k_fill
 refine My.walk (l:=PySem.Challenge.rw_bandwright_k15_shapes_of_anything) rfl rfl (fun w h Y=>PySem.W.kIn_of Y) ?F
 case F=>
  intro w mg fa h KX G p9
  have T:∃t,My.Txt (L2.zT KX) mg t:=by
   dsimp only [L2.zT]
   refine' My.Mt KX G (cS KX G ?MS) (L2.c9 (st:=My.uc) ?MT ?MU ?MV) (cS KX G ?MW) (L2.c9 (st:=My.ud) ?MX ?MY ?MZ) (cS KX G ?M0) (L2.c9 (st:=My.ue) ?M1 ?M3 ?M4) (cS KX G ?M5) (L2.c9 (st:=My.uf) ?M6 ?M7 ?M8) (cS KX G ?M9) (L2.c9 (st:=My.ug) ?M_ ?Na ?Nb) (cS KX G ?Nc) (L2.c9 (st:=My.uh) ?Nd ?Nf ?Ng) (cS KX G ?Nh) (L2.c9 (st:=My.uj) ?Ni ?Nj ?Nk) (cS KX G ?Nl) (L2.c9 (st:=My.um) ?Nm ?Nn ?Np) (cS KX G ?Nq) (L2.c9 (st:=My.uo) ?Nr ?Nt ?Nu) (cS KX G ?Nv) (L2.c9 (st:=My.uq) ?Nx ?Ny ?Nz) (cS KX G ?NB) (L2.c9 (st:=My.ur) ?NC ?ND ?NF) (cS KX G ?NG) (L2.c9 (st:=My.uu) ?NH ?NI ?NJ) (cS KX G ?NK) (L2.c9 (st:=My.uv) ?NL ?NN ?NP) (cS KX G ?NQ) (L2.c9 (st:=My.uw) ?NR ?NS ?NT) (cS KX G ?NU) (L2.c9 (st:=My.ux) ?NV ?NW ?NX) (cS KX G ?NY) (L2.c9 (st:=My.uy) ?NZ ?N1 ?N2) (cS KX G ?N3) (L2.c9 (st:=My.uz) ?N4 ?N5 ?N6) (cS KX G ?N7) (L2.c9 (st:=My.uA) ?N8 ?N9 ?N_) (cS KX G ?Oa) (L2.c9 (st:=My.uB) ?Of ?Og ?Oh) (cS KX G ?Oi) (L2.c9 (st:=My.uC) ?Oj ?Ol ?Om) ?yf ?yg ?yh ?yi ?yj ?yk ?yl ?ym ?yo ?yp ?yq ?yr ?yt ?yu
   (case MS|MT|MU|MV|MW|MX|MY|MZ|M0|M1|M3|M4|M5|M6|M7|M8|M9|M_|Na|Nb|Nc|Nd|Nf|Ng|Nh|Ni|Nj|Nk|Nl|Nm|Nn|Np|Nq|Nr|Nt|Nu|Nv|Nx|Ny|Nz|NB|NC|ND|NF|NG|NH|NI|NJ|NK|NL|NN|NP|NQ|NR|NS|NT|NU|NV|NW|NX|NY|NZ|N1|N2|N3|N4|N5|N6|N7|N8|N9|N_|Oa|Of|Og|Oh|Oi|Oj|Ol|Om|yf|yg|yh|yi|yj|yk|yl|ym|yo|yp|yq|yr|yt|yu=>k_is)
  obtain ⟨t,T⟩:=T
  have e0:=p9.symm.trans T.BM
  cases e0
  exact My.Ms T
#print axioms PySem.Challenge.cw_bandwright_k15_shapes_of_anything_holds
