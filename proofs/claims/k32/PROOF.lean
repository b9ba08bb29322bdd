import PyProof.Rows.All
import Wide.All
import OpenK.AllK
import Wide.FinOn
import Lean
import PyProof.EqAt
import PyProof.EqKinds
import PyProof.TupleCall
import PySem.Challenge.RW_bandwright_k32_whole_names_turn_nothing
set_option Elab.async false
set_option linter.all false
set_option maxRecDepth 100000
abbrev bO:=@decide_eq_false
abbrev y7:=@beq_eq_false_iff_ne
abbrev FD:=@List.getElem?_eq_none_iff
abbrev ae:=@if_pos
abbrev aa:=@if_neg
abbrev a9:=@PySem.Heap.lt_size
abbrev d7:=@Nat.lt_of_lt_of_le
abbrev eW:=@Nat.lt_irrefl
abbrev bW:=@Nat.ne_of_lt
abbrev BW:=@PySem.W.hideAll_get
abbrev b_:=@List.mem_filter
abbrev aU:=@List.mem_range
abbrev b8:=@Nat.le_trans
abbrev nE:=@Nat.le_of_lt
abbrev BX:=@List.filterMap_cons
abbrev cG:=@List.mem_cons_self
abbrev cx:=@List.mem_cons_of_mem
abbrev bw:=@List.mem_cons
abbrev dW:=@List.mem_append
abbrev nF:=@List.mem_append_left
abbrev bJ:=@List.getElem?_eq_some_iff
abbrev sr:=@List.getElem_inj
abbrev cL:=@PySem.wpAny_mono
abbrev oO:=@PySem.wpAny_truthy_bool
abbrev fh:=@Array.length_toList
abbrev dM:=@congrArg
abbrev BY:=@PySem.wpAny_execs_nil
abbrev au:=@PySem.wpAny_bind
abbrev kM:=@PySem.wpAny_holding
abbrev qo:=@PySem.wpAny_standAt
abbrev su:=@PySem.wpAny_passesOwn
abbrev dN:=@Bool.false_ne_true
abbrev sC:=@Nat.ne_of_gt
abbrev a8:=@PySem.wpAny_pure
abbrev y8:=@Bool.false_and
abbrev y9:=@PySem.wpAny_pyIter_list
abbrev bX:=@PySem.Heap.get?_push_of_some
abbrev dE:=@PySem.Heap.get?_push_size
abbrev aC:=@Nat.le_refl
abbrev vD:=@PyProof.Rows.callWith_type1
abbrev BZ:=@List.mem_filterMap
abbrev fA:=@List.mem_append_right
abbrev cf:=@Nat.zero_le
abbrev qp:=@Bool.eq_iff_iff
abbrev iZ:=@PySem.sizeLine_eq
abbrev jZ:=@PySem.W.kia_one
abbrev oP:=@List.append_nil
abbrev vE:=@PySem.wpAny_Call_Name_kw
abbrev i3:=@List.nodup_cons
abbrev qq:=@List.length_take
abbrev oQ:=@PySem.mem_of_lookup
abbrev iz:=@List.getElem?_append_right
abbrev iC:=@List.getElem?_append_left
abbrev bo:=@List.getElem?_map
abbrev j4:=@List.mem_of_getElem?
abbrev dO:=@List.length_append
abbrev aD:=@List.length_map
abbrev d8:=@List.length_cons
abbrev vF:=@List.length_nil
abbrev bA:=@decide_eq_true
abbrev FE:=@PySem.F.slot_tuple_add
abbrev FF:=@PySem.F.entry_tuple_add
abbrev FG:=@PySem.F.args_tuple_add_2
abbrev b9:=@List.size_toArray
abbrev cZ:=@Int.toNat_natCast
abbrev y_:=@List.map_nil
abbrev du:=@List.map_cons
abbrev B0:=@List.length_drop
abbrev FH:=@PySem.Heap.get?_update_other
abbrev j6:=@if_true
abbrev oR:=@if_false
abbrev kO:=@Bool.and_eq_true
abbrev za:=@List.any_cons
abbrev FI:=@PySem.Calls.callWith_builtin
abbrev qr:=@List.replicate_succ
abbrev vG:=@List.flatten_cons
abbrev oS:=@Nat.le_succ
abbrev g_:=@List.append_assoc
abbrev sD:=@PySem.call_meets
abbrev qt:=@List.length_singleton
abbrev vH:=@Array.getElem?_toList
abbrev FJ:=@List.eraseIdxIfInBounds_toArray
abbrev oT:=@Nat.not_lt_zero
abbrev FK:=@Option.map_eq_some_iff
abbrev cH:=@PySem.W.mg_of
abbrev i4:=@Nat.lt_of_le_of_lt
abbrev FL:=@PySem.F.typeOf_object_class
abbrev zb:=@PySem.wpAny_loadPart_at
abbrev zc:=@PySem.codeAny_builtin
abbrev B1:=@Bool.eq_false_iff
abbrev oU:=@List.all_eq_true
abbrev FN:=@PySem.wpAny_comprehension_free
abbrev sE:=@PySem.wpAny_newObj_type
abbrev B2:=@PySem.wpAny_newFunctionEnv
abbrev qu:=@PySem.lookup_relabel_local
abbrev FO:=@PySem.codeAny_compStart_list
abbrev dX:=@Int.le_of_lt
abbrev cg:=@List.getD_eq_getElem?_getD
abbrev cy:=@List.mem_singleton
abbrev c_:=@List.length_range
abbrev jy:=@List.getElem?_range
abbrev B3:=@beq_self_eq_true
abbrev cB:=@List.getElem_mem
abbrev vI:=@Nat.sub_self
abbrev gp:=@List.not_mem_nil
abbrev j7:=@or_false
abbrev zd:=@Nat.le_add_right
abbrev B4:=@List.sum_append
abbrev iD:=@List.take_length
abbrev B5:=@Nat.lt_succ_self
abbrev nG:=@Nat.lt_succ_of_lt
abbrev ze:=@List.ext_getElem?
abbrev B6:=@List.getElem?_eq_none
abbrev vJ:=@List.range_succ
abbrev eX:=@List.map_append
abbrev hE:=@List.map_congr_left
abbrev fT:=@List.ext_getElem
abbrev l6:=@List.nodup_nil
abbrev vK:=@PySem.SeqAt.EqAt.of_refs
abbrev qv:=@PySem.Around.in1_units
abbrev aw:=@PyProof.Rows.wpS_bind
abbrev j8:=@PyProof.Rows.wpS_get
abbrev av:=@PyProof.Rows.wpS_pure
abbrev gO:=@PyProof.Rows.wpS_forRange
abbrev hG:=@PyProof.Rows.wpS_mono
abbrev zf:=@List.pairwise_append
abbrev vL:=@List.perm_append_comm
abbrev qw:=@List.take_append_drop
abbrev FP:=@List.Perm.append_left
abbrev FQ:=@List.drop_eq_getElem_cons
abbrev zg:=@List.take_of_length_le
abbrev nH:=@List.getElem_of_mem
abbrev l7:=@Int.le_refl
abbrev qy:=@List.pairwise_iff_getElem
abbrev l8:=@PyProof.Rows.wpS_modify
abbrev fB:=@of_decide_eq_true
abbrev dY:=@Int.le_trans
abbrev qz:=@Array.toList_push
abbrev nI:=@Array.toList_append
abbrev nJ:=@PySem.wpAny_rule
abbrev FR:=@List.pairwise_reverse
abbrev vM:=@Array.toList_reverse
abbrev nK:=@List.mem_reverse
abbrev l_:=@List.reverse_perm
abbrev e9:=@Nat.zero_add
abbrev zh:=@Nat.add_zero
abbrev qA:=@Array.perm_iff_toList_perm
abbrev bP:=@List.getElem?_eq_getElem
abbrev vO:=@decide_eq_decide
abbrev FT:=@Classical.choose_spec
abbrev cM:=@List.map_map
abbrev qB:=@PyProof.Rows.get?_update_seq
abbrev zi:=@PySem.Heap.size_update
abbrev qC:=@PySem.Heap.get?_push_ne
abbrev sF:=@PyProof.Rows.size_push'
abbrev vP:=@PySem.Heap.get?_update_ne
abbrev vQ:=@PyProof.Rows.listUpdate_at
abbrev vR:=@PySem.wpAny_newList
abbrev zl:=@Bool.false_eq_true
abbrev sI:=@PySem.wpAny_call_entry
abbrev FU:=@List.length_eq_zero_iff
abbrev fU:=@List.nodup_range
abbrev e_:=@List.getElem_map
abbrev nM:=@List.getElem_range
abbrev bG:=@List.mem_map
abbrev gq:=@Int.eq_ofNat_of_zero_le
abbrev nN:=@List.take_succ
abbrev ma:=@List.pairwise_cons
abbrev jz:=@List.nodup_append
abbrev B7:=@Nat.add_sub_cancel
abbrev vS:=@List.filter_append
abbrev vT:=@List.length_filter_le
abbrev jA:=@List.pairwise_map
abbrev B8:=@List.pairwise_lt_range
abbrev sJ:=@List.find?_cons
abbrev zo:=@Option.isSome_map
abbrev B9:=@PySem.tupleKind_room_in1
abbrev zp:=@List.any_eq_true
abbrev eY:=@decide_eq_true_iff
abbrev FV:=@List.length_erase_of_mem
abbrev oW:=@List.idxOf_lt_length_of_mem
abbrev zq:=@Option.some.injEq
abbrev B_:=@List.filter_map
abbrev qD:=@List.map_id
abbrev nO:=@List.nodup_iff_pairwise_ne
abbrev Ca:=@List.Pairwise.imp_of_mem
abbrev fC:=@List.sum_cons
abbrev kP:=@List.perm_ext_iff_of_nodup
abbrev Cb:=@List.mem_take_iff_getElem
abbrev zr:=@Nat.mod_eq_of_lt
abbrev zt:=@Nat.mod_self
abbrev vU:=@List.idxOf_cons_self
abbrev zu:=@List.idxOf_cons
abbrev sL:=@Int.toNat_of_nonneg
abbrev qE:=@List.filter_cons
abbrev kT:=@List.idxOf_append
abbrev hJ:=@Classical.byContradiction
abbrev zw:=@Array.getElem?_eq_getElem
abbrev FW:=@List.pairwise_singleton
abbrev qF:=@PySem.Heap.SameBut.update
abbrev zA:=@Nat.le_of_eq
abbrev sM:=@PySem.wpAny_letGo
abbrev Cc:=@PySem.wpAny_evalAll_cons
abbrev Cd:=@PySem.wpAny_evalAll_nil
abbrev Ce:=@PySem.F.entry_min_loop
abbrev Cf:=@PySem.Around.under_plainId
abbrev qG:=@PySem.F.plain_min_loop
abbrev zB:=@PySem.wpAny_seqItems
abbrev zC:=@PySem.wpAny_tryCatch
abbrev Cg:=@PySem.wpAny_updateSeq
abbrev zD:=@PySem.plainId_quiet
abbrev qH:=@Int.zero_add
abbrev vV:=@Int.min_eq_left
abbrev vW:=@Int.min_eq_right
abbrev vX:=@PySem.wpAny_ite_split
abbrev FX:=@List.getElem_cons_zero
abbrev zE:=@List.getElem_cons_succ
abbrev zF:=@Int.max_eq_right
abbrev zG:=@Int.max_eq_left
abbrev vY:=@PySem.F.slot_dict_itemiterator_next
abbrev Ci:=@PySem.wpAny_typeNameOfWhole_itemiter
abbrev Cj:=@PySem.wpAny_typeNameOf_itemiter
abbrev FY:=@PySem.wpAny_isOneOf_itemiter
abbrev zH:=@PySem.wpAny_setField_rec
abbrev md:=@Nat.add_le_add_left
abbrev eQ:=@PySem.PassesOwn.never
abbrev oX:=@PyProof.Rows.boot_sorted
abbrev iE:=@PySem.boot_len
abbrev jB:=@PySem.F.plainAttrs_list
abbrev oY:=@PySem.F.slot_list_append
abbrev oZ:=@PySem.F.type_list_append
abbrev Ck:=@Option.map_some
abbrev o9:=@Int.emod_nonneg
abbrev sN:=@Int.emod_lt_of_pos
abbrev Cm:=@Int.ediv_nonneg
abbrev vZ:=@Nat.mul_le_mul
abbrev gP:=@PySem.W.mg_none_of
abbrev TLL:=List (List (Int×Int))
abbrev ar:=List (Int×Int)
abbrev TNN:=Nat→Nat→Int
abbrev dh:=PySem.Str→Option PySem.Value
abbrev aO:=PySem.Value→PySem.Shared→Prop
abbrev aF:=PySem.W.Frag
abbrev aV:=List (PySem.Addr×PySem.Obj)
namespace L2
open PySem PySem.Spec PyProof.Rows
abbrev Key:=Sum Int Str
def sO:Key→Value→Bool
 | .inl k,v=>Value.isInt k v
 | .inr x,v=>Value.isStrOf x v
def Sn(w:World):Key→Int
 | .inl k=>hashInt k
 | .inr x=>hashStr w x
theorem nQ:∀{k:Key} {v:Value},sO k v=true→(∃i t,k=Sum.inl i∧v=Value.int i t)∨(∃x t,k=Sum.inr x∧v=Value.str x t)
 | .inl i,v,h=>by obtain ⟨t,e⟩:=Value.isInt_shape (k:=i) (v:=v) h;exact .inl ⟨i,t,rfl,e⟩
 | .inr x,v,h=>by obtain ⟨t,e⟩:=Value.isStrOf_shape (x:=x) (v:=v) h;exact .inr ⟨x,t,rfl,e⟩
theorem So(i:Int)(t:Tok):sO (.inl i) (.int i t)=true:=by simp [sO,Value.isInt]
theorem Sq(x:Str)(t:Tok):sO (.inr x) (.str x t)=true:=by simp [sO,Value.isStrOf]
theorem Sr(a b:Int):decide ((Sum.inl a:Key)=Sum.inl b)=(a == b):=by
 by_cases e:a=b;·subst e;simp
 ·have h:¬(Sum.inl a:Key)=Sum.inl b:=fun q=>e (Sum.inl.inj q)
  rw [bO h];exact (y7.mpr e).symm
theorem Ss(a b:Str):decide ((Sum.inr a:Key)=Sum.inr b)=decide (a=b):=by
 by_cases e:a=b;·subst e;simp
 ·have h:¬(Sum.inr a:Key)=Sum.inr b:=fun q=>e (Sum.inr.inj q)
  rw [bO h,bO e]
theorem Su(a:Int)(b:Str):decide ((Sum.inl a:Key)=Sum.inr b)=false:=bO (fun q=>nomatch q)
theorem Sv(a:Str)(b:Int):decide ((Sum.inr a:Key)=Sum.inl b)=false:=bO (fun q=>nomatch q)
def gr(prog:Program)(w:World):PySem.KeyKind prog w Key where
 is:=sO
 hash:=Sn w
 inj:=fun v a b ha hb=>by
  rcases nQ ha with ⟨i,t,rfl,rfl⟩ | ⟨x,t,rfl,rfl⟩
  ·rcases nQ hb with ⟨j,u,rfl,e⟩ | ⟨y,u,rfl,e⟩
   ·injection e with e1 _;rw [e1]
   ·exact nomatch e
  ·rcases nQ hb with ⟨j,u,rfl,e⟩ | ⟨y,u,rfl,e⟩
   ·exact nomatch e
   ·injection e with e1 _;rw [e1]
 byValue:=fun k v h=>by
  rcases nQ h with ⟨i,t,rfl,rfl⟩ | ⟨x,t,rfl,rfl⟩ <;> rfl
 pyHash:=fun hv h=>by
  rcases nQ hv with ⟨i,t,rfl,rfl⟩ | ⟨x,t,rfl,rfl⟩
  ·exact wpAny_pyHash_int h
  ·exact wpAny_pyHash_str h
 eqBool:=fun hu hv h=>by
  rcases nQ hu with ⟨i,t,rfl,rfl⟩ | ⟨x,t,rfl,rfl⟩
  ·rcases nQ hv with ⟨j,u,rfl,rfl⟩ | ⟨y,u,rfl,rfl⟩
   ·rw [Sr] at h;exact wpAny_eqBool_int h
   ·rw [Su] at h;exact SeqAt.EqAt.int_str i t y u _ _ _ _ h
  ·rcases nQ hv with ⟨j,u,rfl,rfl⟩ | ⟨y,u,rfl,rfl⟩
   ·rw [Sv] at h;exact SeqAt.EqAt.str_int x t j u _ _ _ _ h
   ·rw [Ss] at h;exact wpAny_eqBool_str h
 «strs»:=fun k x t v h=>by
  rcases nQ h with ⟨i,u,rfl,e⟩ | ⟨y,u,rfl,e⟩
  ·exact nomatch e
  ·injection e with e1 _
   subst e1
   cases v <;> rfl
theorem Sw(prog:Program)(w:World)(i:Int)(t:Tok):(gr prog w).is (.inl i) (.int i t)=true:=So i t
theorem Sx(prog:Program)(w:World)(x:Str)(t:Tok):(gr prog w).is (.inr x) (.str x t)=true:=Sq x t
inductive V where
 | aR | bl (b:Bool) | int (i:Int) | str (x:Str) | me (b:Array UInt8) | qI (b:UInt64) | ref (a:Addr) | ty (n:String)
 deriving DecidableEq
def RelV:V→Value→Prop
 | .aR,u=>u=Value.none
 | .bl b,u=>u=Value.bool b
 | .int i,u=>∃t,u=Value.int i t
 | .str x,u=>∃t,u=Value.str x t
 | .me b,u=>∃t,u=Value.bytes b t
 | .qI b,u=>∃t,u=Value.float b t
 | .ref a,u=>u=Value.ref a
 | .ty n,u=>u=Value.type n
abbrev Vals:List V→List Value→Prop:=Paired RelV
variable {xs:List V} {us:List Value}
theorem Vals.length(r:Vals xs us):xs.length=us.length:=Paired.length r
theorem Vals.get:∀{xs:List V} {us:List Value} {i:Nat} {x:V},Vals xs us→xs[i]?=some x→∃u,us[i]?=some u∧RelV x u
 | _,_,_,_,.nil,e=>by simp at e
 | _,_,0,_,.cons r _,e=>by simp at e;subst e;exact ⟨_,rfl,r⟩
 | _,_,i+1,x,.cons _ t,e=>by
  obtain ⟨u,h1,h2⟩:=Vals.get (i:=i) (x:=x) t (by simpa using e)
  exact ⟨u,by simpa using h1,h2⟩
theorem Vals.set{x:V}{u:Value}(r:RelV x u):∀{xs:List V} {us:List Value} (i:Nat),Vals xs us→Vals (xs.set i x) (us.set i u)
 | _,_,_,.nil=>.nil
 | _,_,0,.cons _ t=>.cons r t
 | _,_,i+1,.cons q t=>.cons q (Vals.set r i t)
theorem Vals.append:∀{xs ys:List V} {us ws:List Value},Vals xs us→Vals ys ws→Vals (xs++ys) (us++ws)
 | _,_,_,_,.nil,s=>s
 | _,_,_,_,.cons r t,s=>.cons r (Vals.append t s)
theorem Vals.take:∀{xs:List V} {us:List Value} (n:Nat),Vals xs us→Vals (xs.take n) (us.take n)
 | _,_,0,_=>.nil
 | _,_,_+1,.nil=>.nil
 | _,_,n+1,.cons r t=>.cons r (Vals.take n t)
theorem Vals.drop:∀{xs:List V} {us:List Value} (n:Nat),Vals xs us→Vals (xs.drop n) (us.drop n)
 | _,_,0,r=>r
 | _,_,_+1,.nil=>.nil
 | _,_,n+1,.cons _ t=>Vals.drop n t
theorem Vals.none_of:∀{xs:List V} {us:List Value} {i:Nat},Vals xs us→xs[i]?=none→us[i]?=none:=fun{xs us i} r e=>by have h1:=r.length;have h2:xs.length≤i:=FD.mp e;exact FD.mpr (by lia)
def mf:Option V→Option Value→Prop
 | some v,some u=>RelV v u
 | none,none=>True
 | _,_=>False
def KV{κ:Type}:List (κ×V)→List (κ×Value)→Prop:=Paired fun(p:κ×V) (q:κ×Value)=>p.1=q.1∧RelV p.2 q.2
def kV:Key→V
 | .inl i=>.int i
 | .inr x=>.str x
inductive HO where
 | lst (xs:List V)
 | tup (xs:List V)
 | dK (kvs:List (Key×V)) | dT (kvs:List (List Key×V))
 | set (S:Int→Bool) (n:Nat)
 | ins (C dx:Addr) (fs:List (Str×V))
 | own (x:Addr)
 | xd (fs:List (Str×V))
 | met (f x:Addr)
 | gu (lo hi:Int)
 | bg (o:Obj) (u:HO)
 | dZ (ps:Array Value)
 | ext (φ:Heap→Prop)
abbrev Hp:=Addr→Option HO
def upd(H:Hp)(a:Addr)(o:HO):Hp:=fun b=>if b=a then some o else H b
variable {H:Hp} {a:Addr} {o:HO}
theorem ax:upd H a o a=some o:=by unfold upd;rw [ae rfl]
variable {b:Addr}
theorem aH(h:b≠a):upd H a o b=H b:=by unfold upd;rw [aa h]
theorem Sy{u:HO}(h:H a=some o)(h':H b=some u)(d:o≠u):a≠b:=by intro e;subst e;rw [h] at h';exact d (Option.some.inj h')
theorem gv(h:H a=some o)(h':H b=none):a≠b:=by intro e;subst e;rw [h] at h';cases h'
section
variable (P:Program) (w:World)
def cj(H:Hp)(h:Heap)(a:Addr):HO→Prop
 | .lst xs=>xs.length≤sizeLine∧∃(its:List Value) (n:Nat),Vals xs its∧h.get? a=some {cls:=.type "list",data:=.seq its.toArray n}
 | .tup xs=>xs.length≤sizeLine∧∃its:List Value,Vals xs its∧IsTup h a its.toArray
 | .dK kvs=>kvs.length≤sizeLine∧(a == sysModules)=false∧∃vs,KV kvs vs∧h.DictOf (gr P w) a vs
 | .dT kvs=>kvs.length≤sizeLine∧(a == sysModules)=false∧∃xs:List (List Key×Addr×Value),
   Paired (fun(p:List Key×V) (q:List Key×Addr×Value)=>p.1=q.1∧H q.2.1=some (.tup (p.1.map kV))∧RelV p.2 q.2.2) kvs xs ∧
   ∃o es ep,h.get? a=some o∧o.ExactDict∧o.data=.dict es ep∧es.toList=xs.map (entryOfKey (tupleKind (gr P w)))∧(xs.map (·.1)).Nodup
 | .set S n=>h.SetOf (intKind P w) a S n
 | .ins C dx fs=>H dx=some (.own a)∧fs.length≤1000∧dx≠a∧h.get? a=some (PySem.W.instObj C dx) ∧
   ∃mA,h.Ns1 dx mA∧(∀f,mf (fs.lookup f) (mA f))∧PySem.Within mA (fs.map (·.1))
 | .own _=>∃o,h.get? a=some o
 | .xd fs=>∃mA,h.Ns1 a mA∧∀f,mf (fs.lookup f) (mA f)
 | .gu lo hi=>∃t u v,h.get? a=some {cls:=.type "range",data:=.fields #[.int lo t,.int hi u,.int 1 v]}
 | .bg o u=>h.get? a=some o∧cj H h a u
 | .dZ ps=>h.get? a=some {cls:=.none,data:=.fields ps}
 | .met f x=>h.get? a=some (PySem.W.methodObj (.ref f) (.ref x))
 | .ext φ=>φ h∧(∃o,h.get? a=some o)∧∀h1 h2:Heap,φ h1→(∀o,h1.get? a=some o→h2.get? a=some o)→φ h2
def cS(H:Hp)(h:Heap):Prop:=∀a o,H a=some o→cj P w H h a o
end
section
variable {P:Program} {w:World} {H H':Hp} {h h':Heap} {a:Addr} {o:HO}
theorem cj.lt(x:cj P w H h a o):a<h.objs.size:=by
 cases o with
 | lst xs=>obtain ⟨_,_,_,_,e⟩:=x;exact a9 e
 | tup xs=>obtain ⟨_,_,_,p⟩:=x;exact p.lt
 | dK kvs=>obtain ⟨_,_,_,_,o,_,_,e,_⟩:=x;exact a9 e
 | dT kvs=>obtain ⟨_,_,_,_,o,_,_,e,_⟩:=x;exact a9 e
 | set S n=>obtain ⟨o,_,_,_,e,_⟩:=x;exact a9 e
 | ins C dx fs=>obtain ⟨_,_,_,e,_⟩:=x;exact a9 e
 | own y=>obtain ⟨_,e⟩:=x;exact a9 e
 | xd fs=>obtain ⟨_,⟨_,_,_,e,_⟩,_⟩:=x;exact a9 e
 | gu lo hi=>obtain ⟨_,_,_,e⟩:=x;exact a9 e
 | bg ob u=>obtain ⟨e,_⟩:=x;exact a9 e
 | dZ ps=>exact a9 (show h.get? a=some _ from x)
 | met f y=>exact a9 (show h.get? a=some _ from x)
 | ext φ=>obtain ⟨_,⟨_,e⟩,_⟩:=x;exact a9 e
theorem Paired.Cn{α β:Type}{F G:α→β→Prop}:∀{l₁:List α} {l₂:List β},Paired F l₁ l₂→(∀a b,F a b→G a b)→Paired G l₁ l₂
 | _,_,.nil,_=>.nil
 | _,_,.cons r t,f=>.cons (f _ _ r) (Paired.Cn t f)
theorem cj.iF(x:cj P w H h a o)(k:∀b u,(b=a∨H b=some (.own a))→h.get? b=some u→h'.get? b=some u)
  (ho:∀b,H b=some (.own a)→H' b=some (.own a)) (ht:∀b xs,H b=some (.tup xs)→H' b=some (.tup xs)):cj P w H' h' a o:=by
 induction o with
 | lst xs=>obtain ⟨z,its,n,r,e⟩:=x;exact ⟨z,its,n,r,k _ _ (.inl rfl) e⟩
 | tup xs=>obtain ⟨z,its,r,ob,e,c⟩:=x;exact ⟨z,its,r,ob,k _ _ (.inl rfl) e,c⟩
 | dK kvs=>obtain ⟨z,y,vs,r,ob,es,ep,e,c⟩:=x;exact ⟨z,y,vs,r,ob,es,ep,k _ _ (.inl rfl) e,c⟩
 | dT kvs=>obtain ⟨z,y,xs,r,ob,es,ep,e,c⟩:=x;exact ⟨z,y,xs,Paired.Cn r fun p q z=>⟨z.1,ht _ _ z.2.1,z.2.2⟩,ob,es,ep,k _ _ (.inl rfl) e,c⟩
 | set S n=>obtain ⟨ob,es,ep,t,e,c⟩:=x;exact ⟨ob,es,ep,t,k _ _ (.inl rfl) e,c⟩
 | ins C dx fs=>obtain ⟨d,z,ne,e,mA,⟨od,es,ep,e2,c⟩,r⟩:=x;exact ⟨ho _ d,z,ne,k _ _ (.inl rfl) e,mA,⟨od,es,ep,k _ _ (.inr d) e2,c⟩,r⟩
 | own y=>obtain ⟨ob,e⟩:=x;exact ⟨ob,k _ _ (.inl rfl) e⟩
 | xd fs=>obtain ⟨mA,⟨od,es,ep,e,c⟩,r⟩:=x;exact ⟨mA,⟨od,es,ep,k _ _ (.inl rfl) e,c⟩,r⟩
 | gu lo hi=>obtain ⟨t,u,v,e⟩:=x;exact ⟨t,u,v,k _ _ (.inl rfl) e⟩
 | bg ob u ih=>obtain ⟨e,q⟩:=x;exact ⟨k _ _ (.inl rfl) e,ih q⟩
 | dZ ps=>have e:h.get? a=some {cls:=.none,data:=.fields ps}:=x;show h'.get? a=some {cls:=.none,data:=.fields ps};exact k a _ (.inl rfl) e
 | met f y=>have e:h.get? a=some (PySem.W.methodObj (.ref f) (.ref y)):=x;show h'.get? a=some (PySem.W.methodObj (.ref f) (.ref y));exact k a _ (.inl rfl) e
 | ext φ=>obtain ⟨p,⟨o,e⟩,st⟩:=x;exact ⟨st _ _ p fun o q=>k _ _ (.inl rfl) q,⟨o,k _ _ (.inl rfl) e⟩,st⟩
theorem cS.lt(x:cS P w H h)(e:H a=some o):a<h.objs.size:=(x a o e).lt
theorem cS.fresh(x:cS P w H h)(e:h.objs.size≤a):H a=none:=by
 cases q:H a with
 | none=>rfl
 | some u=>exact absurd (d7 (x.lt q) e) (eW _)
theorem cS.kept(x:cS P w H h)(k:∀b u,h.get? b=some u→h'.get? b=some u):cS P w H h':=fun a o e=>(x a o e).iF (fun b u _ q=>k b u q) (fun _ q=>q) fun _ _ q=>q
theorem cS.laid(x:cS P w H h)(k:∀b u,h.get? b=some u→h'.get? b=some u)(hp:h.objs.size≤a)(new:cj P w (upd H a o) h' a o):cS P w (upd H a o) h':=fun b u e=>by
 have hn:=x.fresh hp;by_cases hb:b=a;·subst hb;rw [ax] at e;cases e;exact new
 ·rw [aH hb] at e
  exact (x b u e).iF (fun c v _ q=>k c v q) (fun c q=>by rw [aH (gv q hn)];exact q) fun c xs q=>by rw [aH (gv q hn)];exact q
end
def Rd(H:Hp)(a:Addr)(u:HO):Prop:=H a=some u∨∃o,H a=some (.bg o u)
variable {P:Program} {w:World} {h:Heap}
theorem Rd.ok{u:HO}(r:Rd H a u)(x:cS P w H h):cj P w H h a u:=by
 rcases r with r | ⟨o,r⟩;·exact x a u r
 ·obtain ⟨_,q⟩:=x a _ r
  exact q
def zI:Option HO→Prop
 | some (.lst _)=>True
 | some (.dK _)=>True
 | some (.dT _)=>True
 | some (.set _ _)=>True
 | some (.ins _ _ _)=>True
 | some (.ext _)=>True
 | _=>False
section
variable {P:Program} {w:World} {H:Hp} {h h':Heap} {x e:Addr} {o':HO}
theorem cS.write(ok:cS P w H h)(mu:zI (H x))(he:e=x∨H e=some (.own x))(k:∀b u,b≠e→h.get? b=some u→h'.get? b=some u)(v9:∃u,h'.get? e=some u)
  (new:cj P w (upd H x o') h' x o'):cS P w (upd H x o') h':=fun b u q=>by
 have Lr:∀c y,H c=some (.own y)→c≠x:=fun c y r z=>by subst z;rw [r] at mu;exact mu
 have Sz:∀c xs,H c=some (.tup xs)→c≠x:=fun c xs r z=>by subst z;rw [r] at mu;exact mu
 by_cases hb:b=x;·subst hb;rw [ax] at q;cases q;exact new
 ·rw [aH hb] at q
  by_cases sP:b=e
  ·have q':H b=some (.own x):=by
    rcases he with z | z;·exact absurd (sP.trans z) hb
    ·rw [sP];exact z
   rw [q] at q';cases q';obtain ⟨v,hv⟩:=v9;exact ⟨v,by rw [sP];exact hv⟩
  ·refine (ok b u q).iF (fun c v hc r=>k c v ?_ r) (fun c r=>by rw [aH (Lr c b r)];exact r) fun c xs r=>by rw [aH (Sz c xs r)];exact r
   rcases hc with rfl | hc;·exact sP
   ·rintro rfl
    rcases he with z | z;·exact Lr c b hc z
    ·rw [hc] at z;cases z;exact hb rfl
end
structure Un (fs ex:List Addr) (H H':Hp) (h h':Heap):Prop where
 keep:∀b o,h.get? b=some o→H b=none→b∉fs→b∉ex→h'.get? b=some o
 slot:∀b o,h.get? b=some o→H b=none→b∈fs→b∉ex→∃sl,h'.get? b=some {o with slots:=sl}
 free:∀b o,h.get? b=some o→H b=none→b∉ex→H' b=none
 there:∀b o,h.get? b=some o→b∉ex→∃o',h'.get? b=some o'
 i5:∀b xs,H b=some (.tup xs)→H' b=some (.tup xs)
 iG:∀b o u,H b=some (.bg o u)→H' b=some (.bg o u)
 iH:∀b ps,H b=some (.dZ ps)→∃more,H' b=some (.dZ (ps++more))
section
variable {fs FZ ex mh:List Addr} {H H1 H2:Hp} {h h1 h2 h':Heap} {a x e:Addr} {o:HO}
theorem Un.any(u:Un fs ex H H1 h h1){ob:Obj}(q:h.get? b=some ob)(n:H b=none)(hx:b∉ex):∃sl,h1.get? b=some {ob with slots:=sl}:=by
 by_cases hb:b∈fs;·exact u.slot b ob q n hb hx
 ·exact ⟨ob.slots,u.keep b ob q n hb hx⟩
theorem Un.kept(k:∀b u,h.get? b=some u→h'.get? b=some u):Un fs ex H H h h':=
 ⟨fun b ob q _ _ _=>k b ob q,fun b ob q _ _ _=>⟨ob.slots,k b ob q⟩,fun _ _ _ n _=>n,fun b ob q _=>⟨ob,k b ob q⟩,fun _ _ q=>q,fun _ _ _ q=>q,fun _ ps q=>⟨#[],by rw [q];simp⟩⟩
theorem Un.refl:Un fs ex H H h h:=Un.kept fun _ _ q=>q
theorem Un.laid(k:∀b u,h.get? b=some u→h'.get? b=some u)(hp:h.objs.size≤a)(hn:H a=none):Un fs ex H (upd H a o) h h' where
 keep:=fun b u q _ _ _=>k b u q
 slot:=fun b u q _ _ _=>⟨u.slots,k b u q⟩
 free:=fun b u q n _=>by rw [aH (bW (d7 (a9 q) hp))];exact n
 there:=fun b u q _=>⟨u,k b u q⟩
 i5:=fun b xs q=>by rw [aH (gv q hn)];exact q
 iG:=fun b u xs q=>by rw [aH (gv q hn)];exact q
 iH:=fun b ps q=>⟨#[],by rw [aH (gv q hn),q];simp⟩
theorem Un.write(mu:zI (H x))(he:e=x∨H e=some (.own x))(k:∀b u,b≠e→h.get? b=some u→h'.get? b=some u)(v9:∃u,h'.get? e=some u):Un fs ex H (upd H x o) h h':=by
 have hx:∀b,H b=none→b≠x:=fun b n z=>by subst z;rw [n] at mu;exact mu
 have hb:∀b,H b=none→b≠e:=fun b n z=>by
  subst z;rcases he with r | r;·exact hx b n r
  ·rw [n] at r;cases r
 have hm:∀b u,H b=some u→¬zI (some u)→b≠x:=fun b u q nm z=>by subst z;rw [q] at mu;exact nm mu
 refine ⟨fun b u q n _ _=>k b u (hb b n) q,fun b u q n _ _=>⟨u.slots,k b u (hb b n) q⟩,fun b u q n _=>by rw [aH (hx b n)];exact n,fun b u q _=>?_,
  fun b xs q=>by rw [aH (hm b _ q fun z=>z)];exact q,fun b u xs q=>by rw [aH (hm b _ q fun z=>z)];exact q,fun b ps q=>⟨#[],by rw [aH (hm b _ q fun z=>z),q];simp⟩⟩
 by_cases sP:b=e;·subst sP;exact v9
 ·exact ⟨u,k b u sP q⟩
end
def Co(h:Heap)(H:Hp):List Addr:=(List.range h.objs.size).filter fun a=>(H a).isSome
def nS(h:Heap)(H:Hp):Heap:=PySem.W.hideAll h (Co h H)
theorem SA(h:Heap)(H:Hp):(nS h H).objs.size=h.objs.size:=PySem.W.hideAll_size _ _
theorem SD{o:Obj}(e:h.get? b=some o)(n:H b=none):(nS h H).get? b=some o:=
 BW _ e fun hm=>by have q:(H b).isSome=true:=(b_.mp hm).2;rw [n] at q;simp at q
theorem SE{o:Obj}(e:(nS h H).get? b=some o):h.get? b=some o∧H b=none:=by
 have e':h.get? b=some o:=PySem.W.of_hideAll (Co h H) e;refine ⟨e',?_⟩;cases q:H b with
 | none=>rfl
 | some x=>
  have hm:b∈Co h H:=b_.mpr ⟨aU.mpr (a9 e'),by simp [q]⟩
  have z:(nS h H).get? b=none:=PySem.W.hideAll_none (Co h H) hm;rw [z] at e;cases e
structure Mod (K:aF) (mg:dh) (base:Heap):Prop where
 d9:K.In base
 glob:base.Ns mainGlobals mg
 blt:∃mb,base.Ns builtinsNs mb∧∀x:Str,x ≠ "__name__"→mb x=bootBuiltins x
 nolimit:base.NoLimit
structure Cx where
 prog:Program
 w:World
 K:PySem.W.Frag
 mg:Str→Option Value
 base:Heap
 A:Around
 N:List Str
 s₀:Shared
 H₀:Hp
 env:Env
 outer:List Env
 stack:List Env
 ex:List Addr
 fn:Str→Bool
 calm:Bool
 pn:List (Addr×Obj)
 xe:Value→Shared→Prop
def di(l:List Env):List Addr:=l.filterMap (·.frame)
abbrev Cx.fs (X:Cx):List Addr:=di X.outer
def qJ(sc:Scope)(x:Str):Prop:=sc.names.lookup x=some .local∨sc.names.lookup x=some .cell∨sc.names.lookup x=some .free
def Loc(sc:Scope)(x:Str):Prop:=sc.names.lookup x=some .local∨sc.names.lookup x=some .cell
def Look(env:Env)(h:Heap)(m:dh)(x:Str)(u:Value):Prop:=
 (env.kindOf x=some .local∧m x=some u)∨((env.kindOf x=some .cell∨env.kindOf x=some .free)∧∃c,env.cells.lookup x=some c∧h.IsCell c (some u))
structure Cx.Ok (X:Cx):Prop where
 mod:Mod X.K X.mg X.base
 kind:X.env.scope.kind=.function
 glob:X.env.globals=mainGlobals
 blt:X.env.builtins=builtinsNs
 above:X.s₀.heap.objs.size≤X.env.locals
 inj:∀x y c,X.env.cells.lookup x=some c→X.env.cells.lookup y=some c→x=y
 has:∀x,(X.env.kindOf x=some .cell∨X.env.kindOf x=some .free)→∃c,X.env.cells.lookup x=some c
 zJ:∀x c,X.fn x=true→X.env.cells.lookup x=some c→X.s₀.heap.objs.size≤c
 hd:X.calm=true→X.A.handled=none
 frames:X.A.frames=some X.stack
 j9:X.stack=X.outer∨(X.stack=X.env::X.outer∧X.env.frame=some X.env.locals)
 Ls:∀b∈X.ex,b≠X.env.locals∧∀x c,X.env.cells.lookup x=some c→c≠b
 bs:∀b o,X.base.get? b=some o→X.s₀.heap.get? b=some o∧X.H₀ b=none
 j_:X.base.objs.size≤X.s₀.heap.objs.size
 sQ:∀b o,X.base.get? b=some o→b∉X.ex
 sS:∀b∈X.ex,b∉X.fs
 mj:X.s₀.heap.FunFrames X.base X.outer
 qK:∀b∈X.fs,X.H₀ b=none
structure Inv (X:Cx) (pins:aV) (σ:List (Option V)) (H:Hp) (s:Shared):Prop where
 ok:X.Ok
 os:s.os=X.s₀.os
 bare:AllBare s.gens
 base:Un X.fs X.ex X.H₀ H X.s₀.heap s.heap
 loc:∃m,s.heap.Ns X.env.locals m∧∀(i:Nat) (x:Str) (v:V),X.N[i]?=some x→σ[i]?=some (some v)→qJ X.env.scope x→∃u,RelV v u∧Look X.env s.heap m x u
 cell:∀x c,X.env.cells.lookup x=some c→∃v,s.heap.IsCell c v
 free:H X.env.locals=none
 kU:∀x c,X.env.cells.lookup x=some c→H c=none
 pin:∀p∈X.pn++pins,s.heap.get? p.1=some p.2∧H p.1=none∧p.1≠X.env.locals∧p.1∉X.fs∧∀v,p.2.data≠.cell v
 ay:cS X.prog X.w H s.heap
 len:σ.length=X.N.length
section
variable {X:Cx} {pins:aV} {σ:List (Option V)} {H H':Hp} {s:Shared} {h':Heap}
theorem Cx.Ok.SF(ok:X.Ok){o:Obj}(e:X.base.get? b=some o):b∉X.fs:=fun hb=>by have:=(ok.mj.mem hb).1;rw [e] at this;cases this
theorem Inv.bs(I:Inv X pins σ H s):∀b o,X.base.get? b=some o→s.heap.get? b=some o∧H b=none:=fun b o e=>⟨I.base.keep b o (I.ok.bs b o e).1 (I.ok.bs b o e).2 (I.ok.SF e) (I.ok.sQ b o e),I.base.free b o (I.ok.bs b o e).1 (I.ok.bs b o e).2 (I.ok.sQ b o e)⟩
theorem Inv.bk(I:Inv X pins σ H s):∀b o,X.base.get? b=some o→s.heap.get? b=some o:=fun b o e=>(I.bs b o e).1
theorem Inv.mod(I:Inv X pins σ H s):Mod X.K X.mg X.base:=I.ok.mod
theorem Inv.fV(I:Inv X pins σ H s):X.K.In s.heap:=I.ok.mod.d9.keeps I.bk
theorem Inv.lt(I:Inv X pins σ H s):X.env.locals<s.heap.objs.size:=let ⟨_,hn,_⟩:=I.loc;hn.lt
theorem Inv.sz(I:Inv X pins σ H s):X.s₀.heap.objs.size≤s.heap.objs.size:=b8 I.ok.above (nE I.lt)
theorem Inv.SG(I:Inv X pins σ H s)(h:s.heap.objs.size≤a):a∉X.fs:=fun hb=>by obtain ⟨_,o,ho,_⟩:=I.ok.mj.mem hb;exact absurd (d7 (a9 ho) (b8 I.sz h)) (eW _)
theorem Inv.sU(I:Inv X pins σ H s):∀x c,X.env.cells.lookup x=some c→c≠X.env.locals:=fun x c e z=>by obtain ⟨v,o,ho,hd⟩:=I.cell x c e;obtain ⟨m,⟨o',es,ep,gQ,F0,_⟩,_⟩:=I.loc;rw [z,gQ] at ho;cases ho;rw [F0] at hd;cases hd
theorem Inv.mj(I:Inv X pins σ H s):s.heap.FunFrames X.base X.outer:=by
 have all:∀(l:List Env),(∀b∈di l,b∈X.fs)→X.s₀.heap.FunFrames X.base l→s.heap.FunFrames X.base l:=by
  intro l
  induction l with
  | nil=>intro _ _;trivial
  | cons env r ih=>
   intro hs hl;obtain ⟨hk,⟨L,o,hf,hn,ho,hd⟩,hr⟩:=hl;have hL:L∈X.fs:=hs L (by unfold di;rw [BX,hf];exact cG)
   obtain ⟨sl,e⟩:=I.base.slot L o ho (I.ok.qK L hL) hL fun z=>I.ok.sS L z hL;exact ⟨hk,⟨L,_,hf,hn,e,hd⟩,ih (fun b hb=>hs b (by unfold di;rw [BX,hf];exact cx _ hb)) hr⟩
 exact all X.outer (fun _ hb=>hb) I.ok.mj
theorem Inv.stack(I:Inv X pins σ H s):s.heap.FunFrames X.base X.stack:=by
 rcases I.ok.j9 with e | ⟨e,hf⟩;·rw [e];exact I.mj
 ·rw [e]
  obtain ⟨m,hn,_⟩:=I.loc;refine .cons (by rw [I.ok.kind];decide) hf hn ?_ I.mj
  exact Heap.get?_none_of_le (b8 I.ok.j_ I.ok.above)
theorem Inv.zK(I:Inv X pins σ H s):∀b∈di X.stack,b∈X.env.locals::X.fs:=fun b hb=>by
 rcases I.ok.j9 with e | ⟨e,hf⟩;·rw [e] at hb;exact cx _ hb
 ·rw [e] at hb
  unfold di at hb;rw [BX,hf] at hb;exact hb
theorem Inv.zL(I:Inv X pins σ H s):∀b∈di X.stack,H b=none:=fun b hb=>by
 rcases bw.mp (I.zK b hb) with e | hb;·rw [e];exact I.free
 ·obtain ⟨_,o,ho,_⟩:=I.ok.mj.mem hb
  exact I.base.free b o ho (I.ok.qK b hb) fun z=>I.ok.sS b z hb
theorem Inv.step{g':Array GenState}{t':Nat}{d':Drawn}{ch:List Addr}(I:Inv X pins σ H s)
  (nU:∀b∈ch,(b∈X.ex∨X.s₀.heap.objs.size≤b)∧b≠X.env.locals∧(∀x c,X.env.cells.lookup x=some c→c≠b)∧∀p∈X.pn++pins,p.1≠b)
  (keep:∀b o,b≠X.env.locals→b∉X.fs→b∉ch→s.heap.get? b=some o→H b=none→h'.get? b=some o)
  (slot:∀b o,b≠X.env.locals→b∈X.fs→b∉ch→s.heap.get? b=some o→H b=none→∃sl,h'.get? b=some {o with slots:=sl}) (free:∀b o,b∉ch→s.heap.get? b=some o→H b=none→H' b=none)
  (there:∀b o,b∉ch→s.heap.get? b=some o→∃o',h'.get? b=some o')
  (i5:∀b xs,H b=some (.tup xs)→H' b=some (.tup xs)) (iG:∀b o u,H b=some (.bg o u)→H' b=some (.bg o u)) (iH:∀b ps,H b=some (.dZ ps)→∃more,H' b=some (.dZ (ps++more)))
  (ns:∀m,s.heap.Ns X.env.locals m→h'.Ns X.env.locals m) (ay:cS X.prog X.w H' h') (hg:AllBare g') :
  Inv X pins σ H' {s with heap:=h',gens:=g',drawn:=d',toks:=t'}:=by
 have nV:∀b o,X.s₀.heap.get? b=some o→b≠X.env.locals:=fun b o e=>bW (d7 (a9 e) I.ok.above);have Cp:∀b o,X.s₀.heap.get? b=some o→b∉X.ex→b∉ch:=fun b o e hx hb=>by
  rcases (nU b hb).1 with z | z;·exact hx z
  ·exact absurd (d7 (a9 e) z) (eW _)
 have cellK:∀x c,X.env.cells.lookup x=some c→∀v,s.heap.IsCell c v→h'.IsCell c v:=fun x c e v ⟨o,ho,hd⟩=>by
  have zM:c∉ch:=fun z=>(nU c z).2.2.1 x c e rfl;by_cases hc:c∈X.fs
  ·obtain ⟨sl,q⟩:=slot c o (I.sU x c e) hc zM ho (I.kU x c e)
   exact ⟨_,q,hd⟩
  ·exact ⟨o,keep c o (I.sU x c e) hc zM ho (I.kU x c e),hd⟩
 refine ⟨I.ok,I.os,hg,⟨fun b o e n hb hx=>?_,fun b o e n hb hx=>?_,fun b o e n hx=>?_,fun b o e hx=>?_,fun b xs e=>i5 b xs (I.base.i5 b xs e),fun b o xs e=>iG b o xs (I.base.iG b o xs e),fun b ps e=>?_⟩,?_,fun x c e=>?_,?_,fun x c e=>?_,fun p hp=>?_,ay,I.len⟩;·exact keep b o (nV b o e) hb (Cp b o e hx) (I.base.keep b o e n hb hx) (I.base.free b o e n hx)
 ·obtain ⟨sl,e1⟩:=I.base.slot b o e n hb hx
  obtain ⟨SH,e2⟩:=slot b _ (nV b o e) hb (Cp b o e hx) e1 (I.base.free b o e n hx);exact ⟨SH,e2⟩
 ·obtain ⟨o',e1⟩:=I.base.there b o e hx
  exact free b o' (Cp b o e hx) e1 (I.base.free b o e n hx)
 ·obtain ⟨o',e1⟩:=I.base.there b o e hx
  exact there b o' (Cp b o e hx) e1
 ·obtain ⟨m1,e1⟩:=I.base.iH b ps e
  obtain ⟨m2,e2⟩:=iH b _ e1;exact ⟨m1++m2,by rw [e2,Array.append_assoc]⟩
 ·obtain ⟨m,hn,hl⟩:=I.loc
  refine ⟨m,ns m hn,fun i x v e1 e2 e3=>?_⟩;obtain ⟨u,r,l⟩:=hl i x v e1 e2 e3;refine ⟨u,r,?_⟩;rcases l with l | ⟨k,c,e,z⟩;·exact .inl l
  ·exact .inr ⟨k,c,e,cellK x c e _ z⟩
 ·obtain ⟨v,z⟩:=I.cell x c e
  exact ⟨v,cellK x c e v z⟩
 ·obtain ⟨m,⟨o,_,_,ho,_⟩,_⟩:=I.loc
  exact free _ o (fun z=>(nU _ z).2.1 rfl) ho I.free
 ·obtain ⟨v,o,ho,hd⟩:=I.cell x c e
  exact free c o (fun z=>(nU c z).2.2.1 x c e rfl) ho (I.kU x c e)
 ·obtain ⟨e,n,ne,nf,d⟩:=I.pin p hp
  have zM:p.1∉ch:=fun z=>(nU p.1 z).2.2.2 p hp rfl;exact ⟨keep p.1 p.2 ne nf zM e n,free p.1 p.2 zM e n,ne,nf,d⟩
variable {t':Nat}
theorem Inv.un(I:Inv X pins σ H s)(u:Un X.fs [] H H' s.heap h')(ay:cS X.prog X.w H' h'):Inv X pins σ H' {s with heap:=h',toks:=t'}:=by
 obtain ⟨m,⟨o,es,ep,ho,r⟩,_⟩:=id I.loc;obtain ⟨sl,hL⟩:=u.any ho I.free (by simp)
 exact I.step (g':=s.gens) (d':=s.drawn) (ch:=[]) (fun _ z=>nomatch z) (fun b o _ hb _ e n=>u.keep b o e n hb (by simp)) (fun b o _ hb _ e n=>u.slot b o e n hb (by simp)) (fun b o _ e n=>u.free b o e n (by simp)) (fun b o _ e=>u.there b o e (by simp)) u.i5 u.iG u.iH (fun m' hm=>by obtain ⟨o',F1,jC,gQ,r'⟩:=hm;rw [ho] at gQ;cases gQ;exact ⟨_,F1,jC,hL,r'⟩) ay I.bare
variable {ch:List Addr}
theorem Inv.call{g':Array GenState}{d':Drawn}(I:Inv X pins σ H s)(u:Un (di X.stack) ch H H' s.heap h')(ay:cS X.prog X.w H' h')(hg:AllBare g')
  (nU:∀b∈ch,(b∈X.ex∨X.s₀.heap.objs.size≤b)∧b≠X.env.locals∧(∀x c,X.env.cells.lookup x=some c→c≠b)∧∀p∈X.pn++pins,p.1≠b) :
  Inv X pins σ H' {s with heap:=h',gens:=g',drawn:=d',toks:=t'}:=by
 obtain ⟨m,⟨o,es,ep,ho,r⟩,_⟩:=id I.loc;obtain ⟨sl,hL⟩:=u.any ho I.free fun z=>(nU _ z).2.1 rfl;exact I.step (ch:=ch) nU (fun b o hL hb hc e n=>u.keep b o e n (fun z=>(bw.mp (I.zK b z)).elim hL hb) hc) (fun b o _ _ hc e n=>u.any e n hc) (fun b o hc e n=>u.free b o e n hc) (fun b o hc e=>u.there b o e hc) u.i5 u.iG u.iH (fun m' hm=>by obtain ⟨o',F1,jC,gQ,r'⟩:=hm;rw [ho] at gQ;cases gQ;exact ⟨_,F1,jC,hL,r'⟩) ay hg
theorem Inv.turned{it:Addr}(I:Inv X pins σ H s)(k:∀b o,b≠it→s.heap.get? b=some o→h'.get? b=some o)(hn:H it=none)(hL:it≠X.env.locals)
  (h1:it∈X.ex∨X.s₀.heap.objs.size≤it) (h2:∀x c,X.env.cells.lookup x=some c→c≠it) (h3:∀p∈X.pn++pins,p.1≠it):Inv X pins σ H {s with heap:=h',toks:=t'}:=by
 have Lu:∀b u,H b=some u→b≠it:=fun b u e z=>by rw [z,hn] at e;cases e
 refine I.step (g':=s.gens) (d':=s.drawn) (ch:=[it]) (fun b hb=>?_) (fun b o _ _ hc e _=>k b o (fun z=>hc (by simp [z])) e) (fun b o _ _ hc e _=>⟨o.slots,k b o (fun z=>hc (by simp [z])) e⟩) (fun _ _ _ _ n=>n)
  (fun b o hc e=>⟨o,k b o (fun z=>hc (by simp [z])) e⟩) (fun _ _ e=>e) (fun _ _ _ e=>e) (fun b ps e=>⟨#[],by rw [e];simp⟩) (fun m hm=>?_) (fun b u e=>?_) I.bare
 ·have e:b=it:=by simpa using hb
  subst e;exact ⟨h1,hL,h2,h3⟩
 ·obtain ⟨o,es,ep,ho,r⟩:=hm
  exact ⟨o,es,ep,k _ o (Ne.symm hL) ho,r⟩
 ·refine (I.ay b u e).iF (fun c v hc q=>k c v ?_ q) (fun _ q=>q) fun _ _ q=>q
  rcases hc with z | z;·rw [z];exact Lu b u e
  ·exact Lu c _ z
theorem Inv.tok(I:Inv X pins σ H s)(t:Nat):Inv X pins σ H {s with toks:=t}:=I.un (h':=s.heap) (t':=t) Un.refl I.ay
theorem Inv.kept(I:Inv X pins σ H s)(k:∀b u,s.heap.get? b=some u→h'.get? b=some u):Inv X pins σ H {s with heap:=h',toks:=t'}:=I.un (Un.kept k) (I.ay.kept k)
theorem Inv.laid(I:Inv X pins σ H s)(k:∀b u,s.heap.get? b=some u→h'.get? b=some u)(hp:s.heap.objs.size≤a)(new:cj X.prog X.w (upd H a o) h' a o) :
  Inv X pins σ (upd H a o) {s with heap:=h',toks:=t'}:=I.un (Un.laid k hp (I.ay.fresh hp)) (I.ay.laid k hp new)
theorem Inv.write{x e:Addr}(I:Inv X pins σ H s)(mu:zI (H x))(he:e=x∨H e=some (.own x))(k:∀b u,b≠e→s.heap.get? b=some u→h'.get? b=some u)(v9:∃u,h'.get? e=some u)
  (new:cj X.prog X.w (upd H x o) h' x o):Inv X pins σ (upd H x o) {s with heap:=h',toks:=t'}:=I.un (Un.write mu he k v9) (I.ay.write mu he k v9 new)
theorem Inv.Lv{Lw:aV}(I:Inv X pins σ H s)(h:∀p∈Lw,s.heap.get? p.1=some p.2∧H p.1=none∧p.1≠X.env.locals∧p.1∉X.fs∧∀v,p.2.data≠.cell v):Inv X Lw σ H s:=
 ⟨I.ok,I.os,I.bare,I.base,I.loc,I.cell,I.free,I.kU,fun p hp=>(dW.mp hp).elim (fun z=>I.pin p (nF _ z)) (h p),I.ay,I.len⟩
variable {i:Nat} {x:Str}
theorem Lx{N:List Str}(hN:N.Nodup){j:Nat}(a:N[i]?=some x)(b:N[j]?=some x):i=j:=by obtain ⟨h1,e1⟩:=bJ.mp a;obtain ⟨h2,e2⟩:=bJ.mp b;exact (sr hN).mp (e1.trans e2.symm)
variable {M:Model} {A:Around} {E:aO} {u:Value} {Q:Unit→Shared→Prop}
theorem Ly{v:V}(I:Inv X pins σ H s)(hN:X.N.Nodup)(hi:X.N[i]?=some x)(hx:Loc X.env.scope x)(r:RelV v u)
  (h:∀s',Inv X pins (σ.set i (some v)) H s'→(∃a,Heap.SameBut a s.heap s'.heap∧(a=X.env.locals∨X.env.cells.lookup x=some a))→Q () s') (hf:X.fn x=true∨X.env.scope.names.lookup x=some .local:=by first | exact .inl rfl | exact .inr rfl | assumption):wpAny M A (storeName X.env x u) Q E s:=by
 obtain ⟨m,hn,hl⟩:=id I.loc;have SI:(X.env.scope.kind == .class || (X.env.scope.kind == .module && X.env.locals != X.env.globals))=false:=by rw [I.ok.kind];rfl
 have Lz:i<σ.length:=by rw [I.len];exact (bJ.mp hi).1
 have sU:=I.sU;have tracked:∀{a:Addr} {h':Heap},(∃o,s.heap.get? a=some o∧H a=none)→Heap.SameBut a s.heap h'→cS X.prog X.w H h':=fun{a h'} ha hs b ob e=>by
  obtain ⟨_,_,LA⟩:=ha;refine (I.ay b ob e).iF (fun c w' hc q=>(hs.2 c ?_).trans q) (fun _ q=>q) fun _ _ q=>q;rintro rfl;rcases hc with rfl | hc;·rw [LA] at e;cases e
  ·rw [LA] at hc;cases hc
 rcases hx with hk | hk
 ·refine wpAny_storeName_local hk hn (fun h' SJ hs=>?_) SI
  obtain ⟨oL,_,_,SK,_⟩:=id hn;refine h _ ⟨I.ok,I.os,I.bare,⟨fun b o e n hb hx=>?_,fun b o e n hb hx=>?_,I.base.free,fun b o e hx=>?_,I.base.i5,I.base.iG,I.base.iH⟩,⟨_,SJ,fun j y v' e1 e2 e3=>?_⟩,fun y c e=>?_,I.free,I.kU,fun p hp=>?_,tracked ⟨oL,SK,I.free⟩ hs,by simpa using I.len⟩ ⟨_,hs,.inl rfl⟩
  ·exact (hs.2 b (bW (d7 (a9 e) I.ok.above))).trans (I.base.keep b o e n hb hx)
  ·obtain ⟨sl,e1⟩:=I.base.slot b o e n hb hx
   exact ⟨sl,(hs.2 b (bW (d7 (a9 e) I.ok.above))).trans e1⟩
  ·obtain ⟨o',e1⟩:=I.base.there b o e hx
   exact ⟨o',(hs.2 b (bW (d7 (a9 e) I.ok.above))).trans e1⟩
  ·by_cases hj:j=i
   ·subst hj
    rw [hi] at e1;cases e1;rw [List.getElem?_set_self Lz] at e2;cases e2;exact ⟨u,r,.inl ⟨hk,by simp⟩⟩
   ·rw [List.getElem?_set_ne (Ne.symm hj)] at e2
    obtain ⟨u',r',q⟩:=hl j y v' e1 e2 e3;refine ⟨u',r',?_⟩;rcases q with ⟨k,e⟩ | ⟨k,c,e,z⟩
    ·refine .inl ⟨k,?_⟩
     have:y≠x:=fun e=>hj (Lx hN e1 (e▸hi));simp [this,e]
    ·exact .inr ⟨k,c,e,z.sameBut hs (sU y c e)⟩
  ·obtain ⟨w',z⟩:=I.cell y c e
   exact ⟨w',z.sameBut hs (sU y c e)⟩
  ·obtain ⟨e,n,ne,nf,d⟩:=I.pin p hp
   exact ⟨(hs.2 p.1 ne).trans e,n,ne,nf,d⟩
 ·have F2:X.fn x=true:=by
   rcases hf with z | z;·exact z
   ·rw [z] at hk;cases hk
  obtain ⟨c,hc⟩:=I.ok.has x (.inl hk);obtain ⟨w',z⟩:=I.cell x c hc;refine wpAny_storeName_cell I.ok.kind hk hc z (fun h' d5 hs=>?_);obtain ⟨oc,LB,SM⟩:=id z;refine h {s with heap:=h'} ⟨I.ok,I.os,I.bare,⟨fun b o e n hb hx=>?_,fun b o e n hb hx=>?_,I.base.free,fun b o e hx=>?_,I.base.i5,I.base.iG,I.base.iH⟩,⟨m,hn.sameBut hs (Ne.symm (sU x c hc)),fun j y v' e1 e2 e3=>?_⟩,fun y c' e=>?_,I.free,I.kU,fun p hp=>?_,tracked ⟨oc,LB,I.kU x c hc⟩ hs,by simpa using I.len⟩ ⟨c,hs,.inr hc⟩
  ·exact (hs.2 b (bW (d7 (a9 e) (I.ok.zJ x c F2 hc)))).trans (I.base.keep b o e n hb hx)
  ·obtain ⟨sl,e1⟩:=I.base.slot b o e n hb hx
   exact ⟨sl,(hs.2 b (bW (d7 (a9 e) (I.ok.zJ x c F2 hc)))).trans e1⟩
  ·obtain ⟨o',e1⟩:=I.base.there b o e hx
   exact ⟨o',(hs.2 b (bW (d7 (a9 e) (I.ok.zJ x c F2 hc)))).trans e1⟩
  ·by_cases hj:j=i
   ·subst hj
    rw [hi] at e1;cases e1;rw [List.getElem?_set_self Lz] at e2;cases e2;exact ⟨u,r,.inr ⟨.inl hk,c,hc,d5⟩⟩
   ·rw [List.getElem?_set_ne (Ne.symm hj)] at e2
    obtain ⟨u',r',q⟩:=hl j y v' e1 e2 e3;refine ⟨u',r',?_⟩;rcases q with q | ⟨k,c',e,z'⟩;·exact .inl q
    ·refine .inr ⟨k,c',e,z'.sameBut hs ?_⟩
     rintro rfl;exact hj (Lx hN e1 (I.ok.inj _ _ _ e hc▸hi))
  ·by_cases zN:c'=c
   ·subst zN;exact ⟨_,d5⟩
   ·obtain ⟨w2,z2⟩:=I.cell y c' e
    exact ⟨w2,z2.sameBut hs zN⟩
  ·obtain ⟨e,n,ne,nf,d⟩:=I.pin p hp
   refine ⟨(hs.2 p.1 ?_).trans e,n,ne,nf,d⟩;intro q;rw [q,LB] at e;have q':oc=p.2:=Option.some.inj e;exact d w' (by rw [←q'];exact SM)
theorem F3{v:V}(I:Inv X pins σ H s)(hN:X.N.Nodup)(hi:X.N[i]?=some x)(hx:Loc X.env.scope x)(r:RelV v u)
  (h:∀s',Inv X pins (σ.set i (some v)) H s'→Q () s') (hf:X.fn x=true∨X.env.scope.names.lookup x=some .local:=by first | exact .inl rfl | exact .inr rfl | assumption):wpAny M A (storeName X.env x u) Q E s:=
 Ly I hN hi hx r (fun s' I' _=>h s' I') hf
theorem Inv.o_{s':Shared}(I:Inv X pins σ H s)(ho:s'.os=s.os)(u:Un (di X.stack) ch H H' s.heap s'.heap)(ay:cS X.prog X.w H' s'.heap)(hg:AllBare s'.gens)
  (nU:∀b∈ch,(b∈X.ex∨X.s₀.heap.objs.size≤b)∧b≠X.env.locals∧(∀x c,X.env.cells.lookup x=some c→c≠b)∧∀p∈X.pn++pins,p.1≠b):Inv X pins σ H' s':=by
 obtain ⟨h',g',d',t',o'⟩:=s';have e:o'=s.os:=ho;subst e;exact I.call (g':=g') (t':=t') (d':=d') u ay hg nU
end
abbrev XK:=Value→Option Addr→Hp→Prop
abbrev St:=List (Option V)
abbrev VK:=V→Hp→Prop
abbrev TE:=St→Hp→VK→Prop
abbrev TT:=St→Hp→(Bool→Hp→Prop)→Prop
abbrev TA:=St→Hp→(List V→Hp→Prop)→Prop
structure Ends where
 nx:St→Hp→Prop
 rt:VK
 bk:St→Hp→Prop:=fun _ _=>False
 ct:St→Hp→Prop:=fun _ _=>False
abbrev TS:=Ends→St→Hp→Prop
def EP(X:Cx)(pins:aV)(σ:St)(Q:VK)(u:Value)(s':Shared):Prop:=∃v H',Inv X pins σ H' s'∧RelV v u∧Q v H'
def TP(X:Cx)(pins:aV)(σ:St)(Q:Bool→Hp→Prop)(b:Bool)(s':Shared):Prop:=∃H',Inv X pins σ H' s'∧Q b H'
def AP(X:Cx)(pins:aV)(σ:St)(Q:List V→Hp→Prop)(us:List Value)(s':Shared):Prop:=∃vs H',Inv X pins σ H' s'∧Vals vs us∧Q vs H'
def SP(X:Cx)(pins:aV)(D:Ends)(f:Flow)(s':Shared):Prop:=
 match f with
 | .next=>∃σ' H',Inv X pins σ' H' s'∧D.nx σ' H'
 | .brk=>∃σ' H',Inv X pins σ' H' s'∧D.bk σ' H'
 | .cont=>∃σ' H',Inv X pins σ' H' s'∧D.ct σ' H'
 | .ret u=>∃v σ' H',Inv X pins σ' H' s'∧RelV v u∧D.rt v H'
def PE(X:Cx)(e:Expr)(t:TE):Prop:=
 ∀(pins:aV) (s:Shared) (σ:St) (H:Hp) (Q:VK),Inv X pins σ H s→t σ H Q→wpAny (model X.prog X.w) X.A (eval e X.env) (EP X pins σ Q) X.xe s
def PT(X:Cx)(e:Expr)(t:TT):Prop:=
 ∀(pins:aV) (s:Shared) (σ:St) (H:Hp) (Q:Bool→Hp→Prop),Inv X pins σ H s→t σ H Q→wpAny (model X.prog X.w) X.A (isTrue e X.env (eval e X.env)) (TP X pins σ Q) X.xe s
def PW(X:Cx)(e:Expr)(t:TT):Prop:=
 ∀(whole:Sem Value) (pins:aV) (s:Shared) (σ:St) (H:Hp) (Q:Bool→Hp→Prop),Inv X pins σ H s→t σ H Q→wpAny (model X.prog X.w) X.A (isTrue e X.env whole) (TP X pins σ Q) X.xe s
variable {X:Cx}
theorem PW.pt{e:Expr}{t:TT}(h:PW X e t):PT X e t:=h _
def PA(X:Cx)(es:List Expr)(t:TA):Prop:=
 ∀(pos:Pos) (pins:aV) (s:Shared) (σ:St) (H:Hp) (Q:List V→Hp→Prop),Inv X pins σ H s→t σ H Q→wpAny (model X.prog X.w) X.A (spliced (backTo pos (starEach es X.env))) (AP X pins σ Q) X.xe s
def PS(X:Cx)(st:Stmt)(t:TS):Prop:=
 ∀(pins:aV) (s:Shared) (σ:St) (H:Hp) (D:Ends),Inv X pins σ H s→t D σ H→wpAny (model X.prog X.w) X.A (exec st X.env) (SP X pins D) X.xe s
def gx(X:Cx)(st:List Stmt)(t:TS):Prop:=
 ∀(pins:aV) (s:Shared) (σ:St) (H:Hp) (D:Ends),Inv X pins σ H s→t D σ H→wpAny (model X.prog X.w) X.A (execs st X.env) (SP X pins D) X.xe s
variable {M:Model} {A:Around} {E:aO} {s:Shared}
theorem aK{α:Type}{t:Sem α}{Q Q':α→Shared→Prop}(h:wpAny M A t Q E s)(hQ:∀a s,Q a s→Q' a s):wpAny M A t Q' E s:=cL h hQ fun _ _ x=>x
section
variable {X:Cx}
variable {pins:aV} {σ:St}
theorem bin{a b:Expr}{ta tb:TE}(ha:PE X a ta)(hb:PE X b tb){R:V→V→Hp→Prop}(I:Inv X pins σ H s)(h:ta σ H fun x H1=>tb σ H1 fun y H2=>R x y H2)
  {α:Type} {Q:α→Shared→Prop} {f:Value→Value→Sem α}
  (hf:∀v u s2 x y H2,Inv X pins σ H2 s2→RelV x v→RelV y u→R x y H2→wpAny (model X.prog X.w) X.A (f v u) Q X.xe s2) :
  wpAny (model X.prog X.w) X.A (eval a X.env) (fun v s₁=>wpAny (model X.prog X.w) X.A (eval b X.env) (fun u s₂=>wpAny (model X.prog X.w) X.A (f v u) Q X.xe s₂) X.xe s₁) X.xe s:=by
 refine aK (ha pins s σ H _ I h) fun v s1 ⟨x,H1,I1,r1,q1⟩=>?_;refine aK (hb pins s1 σ H1 _ I1 q1) fun u s2 ⟨y,H2,I2,r2,q2⟩=>?_;exact hf v u s2 x y H2 I2 r1 r2 q2
def Cq(i:Nat):TE:=fun σ H Q=>∃v,σ[i]?=some (some v)∧Q v H
def tC(v:V):TE:=fun _ H Q=>Q v H
variable {x:Str} {pos:Pos}
theorem SN{i:Nat}(hN:X.N[i]?=some x)(hv:qJ X.env.scope x)(hd:(x == ("__debug__":Str))=false:=by decide)(fb:(x == ("__classdict__":Str))=false:=by decide):PE X (.Name x pos) (Cq i):=by
 intro pins s σ H Q I h;obtain ⟨v,e,h⟩:=h;obtain ⟨m,hn,hl⟩:=I.loc;obtain ⟨u,r,l⟩:=hl i x v hN e hv;have fin:EP X pins σ Q u s:=⟨v,H,I,r,h⟩;rcases l with ⟨hk,hm⟩ | ⟨hk,c,hc,mq⟩;·exact wpAny_Name (wpAny_loadName_local I.ok.kind hk hn hm fin) hd
 ·rcases hk with hk | hk
  ·exact wpAny_Name (wpAny_loadName_cell I.ok.kind hk hc mq fin) hd
  ·exact wpAny_Name (wpAny_loadName_free I.ok.kind hk hc mq fin fb) hd
theorem aN{i j pos}:PE X (.Constant (.int i) j pos) (tC (.int i)):=fun _ _ _ H _ I h=>wpAny_Constant_int ⟨.int i,H,I.tok _,⟨_,rfl⟩,h⟩
theorem hU{b j pos}:PE X (.Constant (.bool b) j pos) (tC (.bl b)):=fun _ _ _ H _ I h=>Constant_bool ⟨.bl b,H,I,rfl,h⟩
theorem v_{j pos}:PE X (.Constant .none j pos) (tC .aR):=fun _ _ _ H _ I h=>Constant_none ⟨.aR,H,I,rfl,h⟩
theorem zO{x j pos}:PE X (.Constant (.str x) j pos) (tC (.str x)):=fun _ _ _ H _ I h=>Calls.Constant_str ⟨.str x,H,I.tok _,⟨_,rfl⟩,h⟩
def Gl(X:Cx)(x:Str):Prop:=X.env.kindOf x=some .globalImplicit
variable {u:Value} {Q:aO}
theorem F4(I:Inv X pins σ H s)(hg:Gl X x)(hm:X.mg x=some u)(h:Q u s)
  (hd:(x == ("__debug__":Str))=false:=by decide):wpAny (model X.prog X.w) X.A (eval (.Name x pos) X.env) Q E s:=
 Calls.Name_function_global I.ok.kind hg (Calls.loadGlobal_global (by rw [I.ok.glob];exact I.mod.glob.keeps I.bk) hm h) hd
theorem kd(I:Inv X pins σ H s)(hg:Gl X x)(hm:X.mg x=none)(hv:bootBuiltins x=some u)(h:Q u s)
  (hn:x ≠ "__name__":=by decide) (hd:(x == ("__debug__":Str))=false:=by decide):wpAny (model X.prog X.w) X.A (eval (.Name x pos) X.env) Q E s:=by
 obtain ⟨mb,h1,h2⟩:=I.mod.blt;exact Calls.Name_function_global I.ok.kind hg (Calls.loadGlobal_builtin (by rw [I.ok.glob];exact I.mod.glob.keeps I.bk) hm (by rw [I.ok.blt];exact h1.keeps I.bk) ((h2 x hn).trans hv) h) hd
theorem SO{v:V}(hg:Gl X x)(hm:X.mg x=some u)(r:RelV v u)(hd:(x == ("__debug__":Str))=false:=by decide):PE X (.Name x pos) (tC v):=
 fun _ _ _ H _ I h=>F4 I hg hm ⟨v,H,I,r,h⟩ hd
theorem F5{v:V}(hg:Gl X x)(hm:X.mg x=none)(hv:bootBuiltins x=some u)(r:RelV v u)(hn:x ≠ "__name__":=by decide)(hd:(x == ("__debug__":Str))=false:=by decide):PE X (.Name x pos) (tC v):=
 fun _ _ _ H _ I h=>kd I hg hm hv ⟨v,H,I,r,h⟩ hn hd
variable {a b:Expr} {ta tb:TE} {pos:Pos}
def PC(X:Cx)(op:CmpOp)(a b:Expr)(t:TE):Prop:=
 ∀(pins:aV) (s:Shared) (σ:St) (H:Hp) (Q:VK),Inv X pins σ H s→t σ H Q→
  wpAny (model X.prog X.w) X.A (eval a X.env) (fun v s₁=>wpAny (model X.prog X.w) X.A (eval b X.env) (fun u s₂=>wpAny (model X.prog X.w) X.A (compareOp op v u) (EP X pins σ Q) X.xe s₂) X.xe s₁) X.xe s
def tB(t:TE):TT:=fun σ H Q=>t σ H fun x H1=>∃c,x=.bl c∧Q c H1
theorem zP{op:CmpOp}{t:TE}(h:PC X op a b t)(h1:behindInMarks op b=false:=by first | exact ahB _ (by decide) (by decide) | rfl):PT X (.Compare a [op] [b] pos) (tB t):=by intro pins s σ H Q I hw;refine wpAny_isTrue_Compare1 (aK (h pins s σ H _ I hw) fun v s1 h1=>aK h1 fun u s2 h2=>aK h2 fun c s3 ⟨x,H1,I1,r1,q1⟩=>?_) h1;obtain ⟨d,rfl,q⟩:=q1;cases r1;exact oO ⟨H1,I1,q⟩
theorem sV{e:Expr}{t:TE}(h:PE X e t)(he:∀whole,isTrue e X.env whole=(do let v ←whole;standAt e.pos;holding [v] (truthy v)):=by intro _;rfl):PT X e (tB t):=by
 intro pins s σ H Q I hw
 refine isTrue_plain (aK (h pins s σ H _ I hw) fun v s1 ⟨x,H1,I1,r1,q1⟩=>?_) (he _)
 obtain ⟨d,rfl,q⟩:=q1
 cases r1
 exact oO ⟨H1,I1,q⟩
variable {tA zQ:TT} {rest:List Expr}
def SQ(t u:TT):TT:=fun σ H Q=>t σ H fun c H1=>if c=true then u σ H1 Q else Q false H1
def SR(t u:TT):TT:=fun σ H Q=>t σ H fun c H1=>if c=true then Q true H1 else u σ H1 Q
def F6(t:TT):TT:=fun σ H Q=>t σ H fun c H1=>Q (!c) H1
theorem pw_and1(ha:PT X a tA):PW X (.BoolOp .And [a] pos) tA:=by
 intro wh pins s σ H Q I h;refine isTrue_and (aK (ha pins s σ H Q I h) fun c s1 e=>?_);cases c with
 | true=>exact isTrue_and_nil e
 | false=>exact e
theorem pw_or1(ha:PT X a tA):PW X (.BoolOp .Or [a] pos) tA:=by
 intro wh pins s σ H Q I h;refine isTrue_or (aK (ha pins s σ H Q I h) fun c s1 e=>?_);cases c with
 | false=>exact isTrue_or_nil e
 | true=>exact e
theorem pw_and(ha:PT X a tA)(hb:PW X (.BoolOp .And (b::rest) pos) zQ):PW X (.BoolOp .And (a::b::rest) pos) (SQ tA zQ):=by
 intro wh pins s σ H Q I h;refine isTrue_and (aK (ha pins s σ H _ I h) fun c s1 ⟨H1,I1,q1⟩=>?_);cases c with
 | true=>exact hb wh pins s1 σ H1 Q I1 q1
 | false=>exact ⟨H1,I1,q1⟩
theorem pw_or(ha:PT X a tA)(hb:PW X (.BoolOp .Or (b::rest) pos) zQ):PW X (.BoolOp .Or (a::b::rest) pos) (SR tA zQ):=by
 intro wh pins s σ H Q I h;refine isTrue_or (aK (ha pins s σ H _ I h) fun c s1 ⟨H1,I1,q1⟩=>?_);cases c with
 | true=>exact ⟨H1,I1,q1⟩
 | false=>exact hb wh pins s1 σ H1 Q I1 q1
theorem zR(ha:PT X a tA):PT X (.UnaryOp .Not a pos) (F6 tA):=by intro pins s σ H Q I h;exact isTrue_not (ha pins s σ H (fun c H1=>Q (!c) H1) I h)
def SS(ta tb:TE):TE:=fun σ H Q=>ta σ H fun x H1=>∃c,x=.bl c∧if c=true then tb σ H1 Q else Q (.bl false) H1
def SU(ta tb:TE):TE:=fun σ H Q=>ta σ H fun x H1=>∃c,x=.bl c∧if c=true then Q (.bl true) H1 else tb σ H1 Q
def SW(ta:TE):TE:=fun σ H Q=>ta σ H fun x H1=>∃c,x=.bl c∧Q (.bl (!c)) H1
theorem F7{op}{t:TE}(h:PE X a t):PE X (.BoolOp op [a] pos) t:=fun pins s σ H Q I hw=>BoolOp_one (h pins s σ H Q I hw)
theorem LC(ha:PE X a ta)(hb:PE X (.BoolOp .And (b::rest) pos) tb):PE X (.BoolOp .And (a::b::rest) pos) (SS ta tb):=by
 intro pins s σ H Q I h;refine BoolOp_and (aK (ha pins s σ H _ I h) fun v s1 ⟨x,H1,I1,r1,q1⟩=>?_);obtain ⟨c,rfl,q1⟩:=q1;cases r1;refine oO ?_;cases c with
 | true=>exact hb pins s1 σ H1 Q I1 q1
 | false=>exact ⟨.bl false,H1,I1,rfl,q1⟩
theorem SX(ha:PE X a ta)(hb:PE X (.BoolOp .Or (b::rest) pos) tb):PE X (.BoolOp .Or (a::b::rest) pos) (SU ta tb):=by
 intro pins s σ H Q I h;refine BoolOp_or (aK (ha pins s σ H _ I h) fun v s1 ⟨x,H1,I1,r1,q1⟩=>?_);obtain ⟨c,rfl,q1⟩:=q1;cases r1;refine oO ?_;cases c with
 | false=>exact hb pins s1 σ H1 Q I1 q1
 | true=>exact ⟨.bl true,H1,I1,rfl,q1⟩
theorem SY(ha:PE X a ta):PE X (.UnaryOp .Not a pos) (SW ta):=by intro pins s σ H Q I h;refine UnaryOp_ (aK (ha pins s σ H _ I h) fun v s1 ⟨x,H1,I1,r1,q1⟩=>?_);obtain ⟨c,rfl,q1⟩:=q1;cases r1;exact not_of (oO ⟨.bl (!c),H1,I1,rfl,q1⟩)
end
def aZ(K:aF)(H:Hp)(a:Addr)(xs:List V):Prop:=
 Rd H a (.lst xs) ∨
  ∃(o:Obj) (its:Array Value) (n:Nat),K.lookup a=some o∧o.cls=.type "list"∧o.dict=none∧o.data=.seq its n∧its.size≤sizeLine∧Vals xs its.toList
def eG(K:aF)(H:Hp)(a:Addr)(xs:List V):Prop:=
 Rd H a (.tup xs) ∨
  ∃(o:Obj) (its:Array Value) (n:Nat),K.lookup a=some o∧o.cls=.type "tuple"∧o.data=.seq its n∧its.size≤sizeLine∧Vals xs its.toList
def S0:Value→Option V
 | .none=>some .aR
 | .bool b=>some (.bl b)
 | .int i _=>some (.int i)
 | .str x _=>some (.str x)
 | .bytes b _=>some (.me b)
 | .float b _=>some (.qI b)
 | .ref a=>some (.ref a)
 | .type n=>some (.ty n)
 | _=>none
variable {x:V} {u:Value}
theorem RelV.abs(r:RelV x u):S0 u=some x:=by
 cases x with
 | aR=>cases r;rfl
 | bl _=>cases r;rfl
 | int _=>obtain ⟨t,rfl⟩:=r;rfl
 | str _=>obtain ⟨t,rfl⟩:=r;rfl
 | me _=>obtain ⟨t,rfl⟩:=r;rfl
 | qI _=>obtain ⟨t,rfl⟩:=r;rfl
 | ref _=>cases r;rfl
 | ty _=>cases r;rfl
theorem RelV.inj{y:V}(r:RelV x u)(q:RelV y u):x=y:=Option.some.inj (r.abs.symm.trans q.abs)
theorem Vals.inj:∀{xs ys:List V} {us:List Value},Vals xs us→Vals ys us→xs=ys
 | _,_,_,.nil,.nil=>rfl
 | _,_,_,.cons r t,.cons r' t'=>by rw [r.inj r',Vals.inj t t']
section
variable {X:Cx} {pins:aV} {σ:St} {H:Hp} {s:Shared} {a:Addr} {xs ys:List V}
variable {K:aF}
theorem aZ.of(h:H a=some (.lst xs)):aZ K H a xs:=.inl (.inl h)
theorem eG.of(h:H a=some (.tup xs)):eG K H a xs:=.inl (.inl h)
theorem Inv.list(I:Inv X pins σ H s)(h:aZ X.K H a xs):∃its:List Value,Vals xs its∧PlainL s.heap a its.toArray∧xs.length≤sizeLine:=by
 rcases h with h | ⟨o,its,n,hk,hc,hd,hs,hz,r⟩
 ·obtain ⟨z,its,n,r,e⟩:=h.ok I.ay
  exact ⟨its,r,⟨_,n,e,rfl,rfl,rfl⟩,z⟩
 ·refine ⟨its.toList,r,⟨o,n,I.fV a o hk,hc,hd,by simpa using hs⟩,?_⟩
  have e:=r.length;simp only [fh] at e;lia
theorem Inv.tuple(I:Inv X pins σ H s)(h:eG X.K H a xs):∃its:List Value,Vals xs its∧IsTup s.heap a its.toArray∧xs.length≤sizeLine:=by
 rcases h with h | ⟨o,its,n,hk,hc,hs,hz,r⟩
 ·obtain ⟨z,its,r,p⟩:=h.ok I.ay
  exact ⟨its,r,p,z⟩
 ·refine ⟨its.toList,r,⟨o,I.fV a o hk,hc,n,by simpa using hs⟩,?_⟩
  have e:=r.length;simp only [fh] at e;lia
theorem Inv.Cr(I:Inv X pins σ H s)(h:aZ X.K H a xs)(h':aZ X.K H a ys):xs=ys:=by
 obtain ⟨its,r,⟨o,n,e,_,_,d⟩,_⟩:=I.list h;obtain ⟨its',r',⟨o',n',e',_,_,d'⟩,_⟩:=I.list h';rw [e] at e';cases e';rw [d] at d';injection d' with d1 _;have:its=its':=by simpa using dM Array.toList d1
 subst this;exact r.inj r'
theorem Inv.S1(I:Inv X pins σ H s)(h:eG X.K H a xs)(h':eG X.K H a ys):xs=ys:=by
 obtain ⟨its,r,⟨o,e,_,n,d⟩,_⟩:=I.tuple h;obtain ⟨its',r',⟨o',e',_,n',d'⟩,_⟩:=I.tuple h';rw [e] at e';cases e';rw [d] at d';injection d' with d1 _;have:its=its':=by simpa using dM Array.toList d1
 subst this;exact r.inj r'
end
abbrev Cx.nW (X:Cx) (E:aO):Cx:={X with xe:=E}
abbrev Cx.pb (X:Cx):Cx:=X.nW fun _ _=>False
theorem Cx.Ok.nW(ok:X.Ok)(E:aO):(X.nW E).Ok:=
 ⟨ok.mod,ok.kind,ok.glob,ok.blt,ok.above,ok.inj,ok.has,ok.zJ,ok.hd,ok.frames,ok.j9,ok.Ls,ok.bs,ok.j_,ok.sQ,ok.sS,ok.mj,ok.qK⟩
theorem Cx.Ok.qL(ok:(X.nW E).Ok):X.Ok:=
 ⟨ok.mod,ok.kind,ok.glob,ok.blt,ok.above,ok.inj,ok.has,ok.zJ,ok.hd,ok.frames,ok.j9,ok.Ls,ok.bs,ok.j_,ok.sQ,ok.sS,ok.mj,ok.qK⟩
section
variable {X:Cx} {pins:aV} {σ:St} {H:Hp} {s:Shared} {E:aO}
theorem Inv.nW(I:Inv X pins σ H s)(E:aO):Inv (X.nW E) pins σ H s:=⟨I.ok.nW E,I.os,I.bare,I.base,I.loc,I.cell,I.free,I.kU,I.pin,I.ay,I.len⟩
theorem Inv.qL(I:Inv (X.nW E) pins σ H s):Inv X pins σ H s:=⟨I.ok.qL,I.os,I.bare,I.base,I.loc,I.cell,I.free,I.kU,I.pin,I.ay,I.len⟩
theorem SP.qL{D:Ends}{f:Flow}{s':Shared}(h:SP (X.nW E) pins D f s'):SP X pins D f s':=by
 cases f with
 | next=>obtain ⟨σ',H',I,q⟩:=h;exact ⟨σ',H',I.qL,q⟩
 | brk=>obtain ⟨σ',H',I,q⟩:=h;exact ⟨σ',H',I.qL,q⟩
 | cont=>obtain ⟨σ',H',I,q⟩:=h;exact ⟨σ',H',I.qL,q⟩
 | ret u=>obtain ⟨v,σ',H',I,r,q⟩:=h;exact ⟨v,σ',H',I.qL,r,q⟩
theorem gx.pb{st:List Stmt}{t:TS}(h:gx X.pb st t):gx X st t:=fun pins s σ H D I hw=>cL (h pins s σ H D (I.nW _) hw) (fun _ _ q=>q.qL) fun _ _ z=>False.elim z
end
section
variable {X:Cx} {st:Stmt} {rest:List Stmt} {t u:TS} {e:Expr} {te:TE} {pos:Pos}
def i6:TS:=fun D σ H=>D.nx σ H
def F8(t u:TS):TS:=fun D σ H=>t {D with nx:=u D} σ H
theorem dP:gx X [] i6:=fun _ _ σ H _ I h=>BY ⟨σ,H,I,h⟩
theorem aE(h1:PS X st t)(h2:gx X rest u):gx X (st::rest) (F8 t u):=by
 intro pins s σ H D I h;refine wpAny_execs_cons (aK (h1 pins s σ H {D with nx:=u D} I h) fun f s1 q=>?_);cases f with
 | next=>obtain ⟨σ',H',I',q⟩:=q;exact h2 pins s1 σ' H' D I' q
 | ret v=>exact q
 | brk=>exact q
 | cont=>exact q
theorem aI(h1:PS X st t):gx X [st] t:=by
 intro pins s σ H D I h;refine wpAny_execs_cons (aK (h1 pins s σ H D I h) fun f s1 q=>?_);cases f with
 | next=>exact BY q
 | ret v=>exact q
 | brk=>exact q
 | cont=>exact q
theorem Inv.quiet{pins:aV}{σ:St}(I:Inv X pins σ H s):interactive X.env=false:=by simp [interactive,I.ok.kind]
def S2(te:TE):TS:=fun D σ H=>te σ H fun _ H1=>D.nx σ H1
theorem iI(he:PE X e te)(hs:swapsWith e none pos.line X.env=pure false:=by rfl):PS X (.Expr e pos) (S2 te):=by intro pins s σ H D I h;exact wpAny_Expr_any (aK (he pins s σ H _ I h) fun v s1 ⟨x,H1,I1,r1,q1⟩=>⟨σ,H1,I1,q1⟩) I.quiet hs
def LD(te:TE):TS:=fun D σ H=>te σ H D.rt
theorem bK(he:PE X e te):PS X (.Return (some e) pos) (LD te):=by intro pins s σ H D I h;exact wpAny_Return_some (aK (he pins s σ H _ I h) fun v s1 ⟨x,H1,I1,r1,q1⟩=>⟨x,σ,H1,I1,r1,q1⟩)
def F9(c:TT)(t u:TS):TS:=fun D σ H=>c σ H fun b H1=>if b=true then t D σ H1 else u D σ H1
theorem dF{c:Expr}{a b:List Stmt}{tc:TT}(hc:PT X c tc)(ha:gx X a t)(hb:gx X b u):PS X (.If c a b pos) (F9 tc t u):=by
 intro pins s σ H D I h;refine wpAny_If (aK (hc pins s σ H _ I h) fun d s1 ⟨H1,I1,q1⟩=>?_);cases d with
 | true=>exact ha pins s1 σ H1 D I1 q1
 | false=>exact hb pins s1 σ H1 D I1 q1
end
abbrev TG:=V→St→Hp→(St→Hp→Prop)→Prop
abbrev sW:=List V→St→Hp→(St→Hp→Prop)→Prop
def PG(X:Cx)(target:Expr)(t:TG):Prop:=
 ∀(pins:aV) (s:Shared) (σ:St) (H:Hp) (v:V) (u:Value) (Q:St→Hp→Prop),Inv X pins σ H s→RelV v u→t v σ H Q→
  wpAny (model X.prog X.w) X.A (assign target X.env u) (fun _ s'=>∃σ' H',Inv X pins σ' H' s'∧Q σ' H') X.xe s
def Cs(X:Cx)(ts:List Expr)(t:sW):Prop:=
 ∀(pins:aV) (s:Shared) (σ:St) (H:Hp) (vs:List V) (us:List Value) (Q:St→Hp→Prop),Inv X pins σ H s→Vals vs us→t vs σ H Q→
  wpAny (model X.prog X.w) X.A (assignInOrder ((assignEach ts X.env).map (·.2)) us) (fun _ s'=>∃σ' H',Inv X pins σ' H' s'∧Q σ' H') X.xe s
abbrev zS:=V→V→V→Hp→(Hp→Prop)→Prop
def F_(X:Cx)(t:zS):Prop:=
 ∀(pins:aV) (s:Shared) (σ:St) (H:Hp) (o i v:V) (ov iv u:Value) (Q:Hp→Prop),Inv X pins σ H s→RelV o ov→RelV i iv→RelV v u→t o i v H Q→
  wpAny (model X.prog X.w) X.A (setItem ov iv u) (fun _ s'=>∃H',Inv X pins σ H' s'∧Q H') X.xe s
abbrev wa:=V→V→Hp→VK→Prop
def Ga(X:Cx)(op:Operator)(t:wa):Prop:=
 ∀(pins:aV) (s:Shared) (σ:St) (H:Hp) (x y:V) (v u:Value) (Q:VK),Inv X pins σ H s→RelV x v→RelV y u→t x y H Q→
  wpAny (model X.prog X.w) X.A (inplaceOp op v u) (EP X pins σ Q) X.xe s
section
variable {X:Cx} {pos:Pos}
def a7(i:Nat):TG:=fun v σ H Q=>Q (σ.set i (some v)) H
variable {i:Nat}
theorem df{x:Str}(hN:X.N.Nodup)(hi:X.N[i]?=some x)(hx:Loc X.env.scope x)(hf:X.fn x=true∨X.env.scope.names.lookup x=some .local:=by first | exact .inl rfl | exact .inr rfl | assumption):PG X (.Name x pos) (a7 i):=by intro pins s σ H v u Q I r h;exact wpAny_assign_Name (F3 I hN hi hx r (fun s' I'=>⟨_,H,I',h⟩) hf)
def LF:sW:=fun vs σ H Q=>vs=[]∧Q σ H
def Gb(t:TG)(u:sW):sW:=fun vs σ H Q=>∃v r,vs=v::r∧t v σ H fun σ' H'=>u r σ' H' Q
theorem ph:Cs X [] LF:=by intro pins s σ H vs us Q I r h;obtain ⟨e,h⟩:=h;subst e;cases r;exact assignInOrder_nil ⟨σ,H,I,h⟩
variable {e:Expr} {es:List Expr}
theorem gR{t:TG}{u:sW}(h1:PG X e t)(h2:Cs X es u)
  (hs:(assignEach (e::es) X.env).map (·.2)=assign e X.env::(assignEach es X.env).map (·.2):=by rfl):Cs X (e::es) (Gb t u):=by
 intro pins s σ H vs us Q I r h;obtain ⟨v,vr,e1,h⟩:=h;subst e1;cases r with
 | cons r rr=>rw [hs];refine assignInOrder_cons (aK (h1 pins s σ H _ _ _ I r h) fun _ s1 ⟨σ1,H1,I1,q1⟩=>?_);exact h2 pins s1 σ1 H1 _ _ Q I1 rr q1
def LG(K:aF)(n:Nat)(t:sW):TG:=fun v σ H Q=>∃a xs,v=.ref a∧eG K H a xs∧xs.length=n∧t xs σ H Q
theorem pj{k:Nat}{t:sW}{n:Nat}(hc:X.calm=true)(h:Cs X es t)
  (hn:(assignEach es X.env).length=n:=by rfl) (S3:(assignEach es X.env).findIdx? (·.1)=none:=by rfl):PG X (.Tuple es k pos) (LG X.K n t):=by
 intro pins s σ H v u Q I r hw;obtain ⟨a,xs,e1,hq,hl,hw⟩:=hw;subst e1;cases r;obtain ⟨its,rv,ht,hz⟩:=I.tuple hq;refine assign_Tuple_tuple (I.ok.hd hc) ht (by simp [hn,←hl,rv.length]) S3 fun h' hx=>?_
 have I1:Inv X pins σ H {s with heap:=h'}:=I.kept (t':=s.toks) fun b o e=>hx b o (bW (a9 e)) e;exact h pins _ σ H xs _ Q I1 (by simpa using rv) hw
def S4(to ti:TE)(t:zS):TG:=fun v σ H Q=>to σ H fun o H1=>ti σ H1 fun i H2=>t o i v H2 fun H3=>Q σ H3
theorem zT{o i:Expr}{to ti:TE}{t:zS}(ho:PE X o to)(hi:PE X i ti)(hs:F_ X t)
  (ha:∀v,assign (.Subscript o i pos) X.env v=(do
   let ov ←holding [v] (eval o X.env)
   let iv ←holding [v,ov] (eval i X.env)
   standAt pos
   holding [v,ov,iv] (setItem ov iv v)
   release [v,ov,iv] []):=by intro _;rfl):PG X (.Subscript o i pos) (S4 to ti t):=by
 intro pins s σ H v u Q I r h
 rw [ha]
 refine au (kM (aK (ho pins s σ H _ I h) fun ov s1 ⟨x,H1,I1,r1,q1⟩=>?_))
 refine au (kM (aK (hi pins s1 σ H1 _ I1 q1) fun iv s2 ⟨y,H2,I2,r2,q2⟩=>?_))
 refine au (qo (au (kM (aK (hs pins s2 σ H2 x y v ov iv u _ I2 r1 r2 r q2) fun _ s3 ⟨H3,I3,q3⟩=>?_))))
 exact wpAny_release ⟨σ,H3,I3,q3⟩
def sX(te:TE)(g:TG):TS:=fun D σ H=>te σ H fun x H1=>g x σ H1 D.nx
theorem wb{tg e:Expr}{te:TE}{g:TG}(he:PE X e te)(hg:PG X tg g)(hs:swapsWithSole [tg] e pos.line X.env=pure false:=by rfl)(hw:swappedStores [tg] e X.env=pure none:=by rfl)
  (h1:(assignEach [tg] X.env).map (·.2)=[assign tg X.env]:=by rfl):PS X (.Assign [tg] e pos) (sX te g):=by
 intro pins s σ H D I h;refine wpAny_Assign_stores (aK (he pins s σ H _ I h) fun v s1 ⟨x,H1,I1,r1,q1⟩=>?_) hs hw;rw [h1];exact aK (hg pins s1 σ H1 x v _ I1 r1 q1) fun _ s2 q=>q
variable {te:TE} {pos':Pos}
theorem S5{x:Str}(hN:X.N.Nodup)(hi:X.N[i]?=some x)(hx:Loc X.env.scope x)(he:PE X e te)(hs:swapsWith e (some (.Name x pos')) pos.line X.env=pure false:=by rfl)(hf:X.fn x=true∨X.env.scope.names.lookup x=some .local:=by first | exact .inl rfl | exact .inr rfl | assumption) :
  PS X (.Assign [.Name x pos'] e pos) (sX te (a7 i)):=by
 intro pins s σ H D I h;refine wpAny_Assign_Name (aK (he pins s σ H _ I h) fun v s1 ⟨y,H1,I1,r1,q1⟩=>?_) hs;exact F3 I1 hN hi hx r1 (fun s2 I2=>⟨_,H1,I2,q1⟩) hf
def S6(i:Nat)(te:TE)(ti:wa):TS:=fun D σ H=>∃x,σ[i]?=some (some x)∧te σ H fun y H1=>ti x y H1 fun z H2=>D.nx (σ.set i (some z)) H2
theorem S7{x:Str}{op:Operator}{ti:wa}(hN:X.N.Nodup)(hi:X.N[i]?=some x)(hx:Loc X.env.scope x)(he:PE X e te)(ho:Ga X op ti)(hf:X.fn x=true∨X.env.scope.names.lookup x=some .local:=by first | exact .inl rfl | exact .inr rfl | assumption) :
  PS X (.AugAssign (.Name x pos') op e pos) (S6 i te ti):=by
 intro pins s σ H D I h;obtain ⟨v,e1,h⟩:=h;obtain ⟨m,hn,hl⟩:=I.loc;have S8:qJ X.env.scope x:=by rcases hx with k | k;exact .inl k;exact .inr (.inl k)
 obtain ⟨u,r,l⟩:=hl i x v hi e1 S8;refine wpAny_AugAssign_Name ?_;have go:wpAny (model X.prog X.w) X.A (eval e X.env) (fun w s₂=>wpAny (model X.prog X.w) X.A (inplaceOp op u w) (fun r s₃=>wpAny (model X.prog X.w) X.A (storeName X.env x r) (fun _=>SP X pins D .next) X.xe s₃) X.xe s₂) X.xe s:=by refine aK (he pins s σ H _ I h) fun w s1 ⟨y,H1,I1,r1,q1⟩=>?_;refine aK (ho pins s1 σ H1 v y u w _ I1 r r1 q1) fun z s2 ⟨zv,H2,I2,r2,q2⟩=>?_;exact F3 I2 hN hi hx r2 (fun s3 I3=>⟨_,H2,I3,q2⟩) hf
 rcases l with ⟨hk,hm⟩ | ⟨hk,c,hc,mq⟩;·exact wpAny_loadName_local I.ok.kind hk hn hm go
 ·rcases hk with hk | hk
  ·exact wpAny_loadName_cell I.ok.kind hk hc mq go
  ·rcases hx with k | k
   ·have:X.env.scope.names.lookup x=some .free:=hk
    rw [k] at this;cases this
   ·have:X.env.scope.names.lookup x=some .free:=hk
    rw [k] at this;cases this
def S9(to ti te:TE)(Ct:V→V→Hp→VK→Prop)(Cu:wa)(Cv:zS):TS:=fun D σ H=>to σ H fun o H1=>ti σ H1 fun i H2=>Ct o i H2 fun x H3=>te σ H3 fun y H4=>Cu x y H4 fun z H5=>Cv o i z H5 fun H6=>D.nx σ H6
def LH(X:Cx)(t:V→V→Hp→VK→Prop):Prop:=
 ∀(pins:aV) (s:Shared) (σ:St) (H:Hp) (o i:V) (ov iv:Value) (Q:VK),Inv X pins σ H s→RelV o ov→RelV i iv→t o i H Q→
  wpAny (model X.prog X.w) X.A (getItem ov iv) (EP X pins σ Q) X.xe s
theorem S_{o i e:Expr}{to ti te:TE}{Ct:V→V→Hp→VK→Prop}{Cu:wa}{Cv:zS}{op:Operator}{nX:Pos}(ho:PE X o to)(hi:PE X i ti)(hg:LH X Ct)(he:PE X e te)(hp:Ga X op Cu)(hs:F_ X Cv)
  (ha:∀ov iv new,augStore i ov iv new=(do holding [new,ov,iv] (setItem ov iv new);release [new,ov,iv] [];pure .next):=by intros;rfl):PS X (.AugAssign (.Subscript o i nX) op e pos) (S9 to ti te Ct Cu Cv):=by
 intro pins s σ H D I h
 refine wpAny_AugAssign_SubscriptAny (aK (ho pins s σ H _ I h) fun ov s1 ⟨x1,H1,I1,r1,q1⟩=>?_) ha
 refine aK (hi pins s1 σ H1 _ I1 q1) fun iv s2 ⟨x2,H2,I2,r2,q2⟩=>?_
 refine aK (hg pins s2 σ H2 x1 x2 ov iv _ I2 r1 r2 q2) fun old s3 ⟨x3,H3,I3,r3,q3⟩=>?_
 refine aK (he pins s3 σ H3 _ I3 q3) fun v s4 ⟨x4,H4,I4,r4,q4⟩=>?_
 refine aK (hp pins s4 σ H4 x3 x4 old v _ I4 r3 r4 q4) fun new s5 ⟨x5,H5,I5,r5,q5⟩=>?_
 exact aK (hs pins s5 σ H5 x1 x2 x5 ov iv new _ I5 r1 r2 r5 q5) fun _ s6 ⟨H6,I6,q6⟩=>⟨σ,H6,I6,q6⟩
def Ta(f:Int→Int→Int):wa:=fun x y H Q=>∃i j,x=.int i∧y=.int j∧Q (.int (f i j)) H
theorem LI:Ga X .Add (Ta fun i j=>i+j):=by intro pins s σ H x y v u Q I r1 r2 h;obtain ⟨i,j,e1,e2,q⟩:=h;subst e1;subst e2;obtain ⟨t,rfl⟩:=r1;obtain ⟨t',rfl⟩:=r2;exact iadd_int ⟨.int _,H,I.tok _,⟨_,rfl⟩,q⟩
end
section
variable {X:Cx} {pos:Pos}
def Tb(c:TT)(tb:TS):TS:=fun D σ H=>∃W:Nat→St→Hp→Prop,(∃m,W m σ H)∧∀m σ H,W m σ H→
 c σ H fun b H1=>if b=true then ∃N:St→Hp→Prop,(∀σ' H',N σ' H'→∃m',m'<m∧W m' σ' H')∧tb {D with nx:=N,ct:=N,bk:=D.nx} σ H1 else D.nx σ H1
theorem wc{c:Expr}{body:List Stmt}{tc:TT}{tb:TS}(hp:PassesOwn (model X.prog X.w) X.A X.env X.xe)(hc:PT X c tc)(hb:gx X body tb):PS X (.While c body [] pos) (Tb tc tb):=by
 intro pins s σ H D I h;obtain ⟨W,⟨m0,w0⟩,turn⟩:=h;refine wpAny_While (codeAny_whileLoop (fun n s'=>∃σ' H',Inv X pins σ' H' s'∧W n σ' H') ?_ m0 ⟨σ,H,I,w0⟩);rintro n s1 ⟨σ1,H1,I1,w1⟩;refine su hp (aK (hc pins s1 σ1 H1 _ I1 (turn n σ1 H1 w1)) fun b s2 ⟨H2,I2,q2⟩=>?_);cases b with
 | true=>
  obtain ⟨N,hN,q2⟩:=q2;rw [ae rfl];refine su hp (aK (hb pins s2 σ1 H2 _ I2 q2) fun f s3 q3=>?_);cases f with
  | next=>obtain ⟨σ3,H3,I3,n3⟩:=q3;obtain ⟨m',hm,w3⟩:=hN σ3 H3 n3;exact ⟨m',hm,σ3,H3,I3,w3⟩
  | cont=>obtain ⟨σ3,H3,I3,n3⟩:=q3;obtain ⟨m',hm,w3⟩:=hN σ3 H3 n3;exact ⟨m',hm,σ3,H3,I3,w3⟩
  | brk=>exact q3
  | ret v=>exact q3
 | false=>rw [aa dN];exact BY ⟨σ1,H2,I2,q2⟩
end
structure It where
 go:Nat→Hp→Prop
 d_:Nat→Hp→V→Hp→Prop
 stop:Nat→Hp→Prop
def pA(X:Cx)(pins:aV)(H:Hp)(b:Addr):Prop:=
 H b=none∧b≠X.env.locals∧b∉X.fs∧(b∈X.ex∨X.s₀.heap.objs.size≤b)∧(∀x c,X.env.cells.lookup x=some c→c≠b)∧∀p∈X.pn++pins,p.1≠b
variable {σ:St}
theorem Inv.pB{pins:aV}{H':Hp}(I:Inv X pins σ H s)(hb:s.heap.objs.size≤b)(hn:H' b=none):pA X pins H' b:=by
 refine ⟨hn,sC (d7 I.lt hb),I.SG hb,.inr (b8 I.sz hb),fun x c e z=>?_,fun p hp z=>?_⟩
 ·obtain ⟨v,q⟩:=I.cell x c e
  exact absurd (d7 q.lt (by rw [z];exact hb)) (eW _)
 ·exact absurd (d7 (a9 (I.pin p hp).1) (by rw [z];exact hb)) (eW _)
structure Turn (P:Program) (w:World) (K:aF) (tg:Expr) (J:It) (fp:List Addr) (it:Addr) (tn:Nat→Heap→Prop):Prop where
 mem:it∈fp
 obj:∀i h,tn i h→∀b∈fp,∃o,h.get? b=some o∧∀v,o.data≠.cell v
 keep:∀i h h',tn i h→(∀b∈fp,∀o,h.get? b=some o→h'.get? b=some o)→tn i h'
 item:∀(X:Cx),X.prog=P→X.w=w→X.K=K→X.calm=true→∀(i:Nat) (pins:aV) (s:Shared) (σ:St) (H:Hp) (E:aO),Inv X pins σ H s→(∀b∈fp,pA X pins H b)→tn i s.heap→J.go i H→
  wpAny (model P w) X.A (pyNext (.ref it)) (fun r s1=>∃u,r=some u ∧
   wpAny (model P w) X.A (letOwnedTupleGo tg (.ref it) u) (fun _ s2=>∃x H',Inv X pins σ H' s2∧RelV x u∧J.d_ i H x H'∧tn (i+1) s2.heap∧∀b∈fp,H' b=none) E s1) E s
 done:∀(X:Cx),X.prog=P→X.w=w→X.K=K→X.calm=true→∀(i:Nat) (pins:aV) (s:Shared) (σ:St) (H:Hp) (E:aO),Inv X pins σ H s→(∀b∈fp,pA X pins H b)→tn i s.heap→J.stop i H→
  wpAny (model P w) X.A (pyNext (.ref it)) (fun r s1=>r=none∧Inv X pins σ H s1) E s
 self:∀(A:Around) (i:Nat) (s:Shared) (Q:aO) (E:aO),tn i s.heap→Q (.ref it) s→wpAny (model P w) A (pyIter (.ref it)) Q E s
abbrev TI:=St→Hp→(It→Hp→Prop)→Prop
def Gd(X:Cx)(pins:aV)(σ:St)(tg:Expr)(R:It→Hp→Prop)(zU:Value)(s2:Shared):Prop:=
 ∃(it:Addr) (fp:List Addr) (tn:Nat→Heap→Prop) (J:It) (H':Hp),zU=.ref it∧Inv X pins σ H' s2∧Turn X.prog X.w X.K tg J fp it tn∧tn 0 s2.heap∧(∀b∈fp,pA X pins H' b)∧R J H'
def PI(X:Cx)(tg iter:Expr)(wi:TI):Prop:=
 ∀(pins:aV) (s:Shared) (σ:St) (H:Hp) (R:It→Hp→Prop),Inv X pins σ H s→wi σ H R→
  wpAny (model X.prog X.w) X.A (eval iter X.env) (fun v s1=>wpAny (model X.prog X.w) X.A (pyIter v) (Gd X pins σ tg R) X.xe s1) X.xe s
variable {tg:Expr}
theorem Cw{it:Addr}{o:Obj}{n:String}{vs:Array Value}{Q:Unit→Shared→Prop}(ho:s.heap.get? it=some o)(hc:o.cls=.type n)(hd:o.data=.fields vs)
    (hn:["enumerate","zip","dict_itemiterator","dict_reverseitemiterator","odict_iterator","itertools.zip_longest","itertools.pairwise"].contains n=false) (hQ:Q () s):wpAny M A (letOwnedTupleGo tg (.ref it) u) Q E s:=by
  unfold letOwnedTupleGo
  cases tg <;> first
    | exact a8 hQ
    | (cases u <;> first
        | exact a8 hQ
        | (refine au (wpAny_load ho ?_)
           rw [hc,hd];show wpAny M A (if (["enumerate","zip","dict_itemiterator","dict_reverseitemiterator","odict_iterator","itertools.zip_longest","itertools.pairwise"].contains n && vs[0]? == some (rawInt _))=true then _ else _) Q E s
           rw [aa (by intro h;rw [hn,y8] at h;cases h)]
           exact a8 hQ))
def mr(K:aF)(a:Addr):It:=
 ⟨fun i H=>∃xs x,aZ K H a xs∧xs[i]?=some x,fun i H x H'=>H'=H∧∀xs,aZ K H a xs→xs[i]?=some x,fun i H=>∃xs,aZ K H a xs∧xs.length≤i⟩
def pC(K:aF)(a:Addr):It:=
 ⟨fun i H=>∃xs x,eG K H a xs∧xs[i]?=some x,fun i H x H'=>H'=H∧∀xs,eG K H a xs→xs[i]?=some x,fun i H=>∃xs,eG K H a xs∧xs.length≤i⟩
def qM(lo:Int)(n:Nat):It:=⟨fun i _=>i<n,fun i H x H'=>H'=H∧x=.int (lo+i),fun i _=>n≤i⟩
variable {K:aF}
theorem LJ(a it:Addr):Turn P w K tg (mr K a) [it] it (fun i h=>h.IsListIter it a i) where
 mem:=by simp
 obj:=fun i h st b hb=>by
  have e:b=it:=by simpa using hb
  subst e;obtain ⟨o,e,c,d⟩:=st;exact ⟨o,e,fun v z=>by rw [d] at z;cases z⟩
 keep:=fun i h h' st k=>st.at fun o e=>k it (by simp) o e
 item:=by
  intro X hP hw hK hc i pins s σ H E I hf st hg;subst hP hw hK;obtain ⟨xs,x,hq,hx⟩:=hg;obtain ⟨its,rv,p,hz⟩:=I.list hq;obtain ⟨u,hu,ru⟩:=rv.get hx;obtain ⟨f0,f1,f2,f3,f4,f5⟩:=hf it (by simp)
  refine wpAny_pyNext_list_item st p.isList (x:=u) (by simpa using hu) fun h' aB sb=>?_
  have I1:Inv X pins σ H {s with heap:=h'}:=I.turned (t':=s.toks) (fun b o hb e=>(sb.2 b hb).trans e) f0 f1 f3 f4 f5;obtain ⟨o,e,c,d⟩:=id aB;exact ⟨u,rfl,Cw (s:={s with heap:=h'}) e c d (by decide) ⟨x,H,I1,ru,⟨rfl,fun ys hy=>by rw [I.Cr hy hq];exact hx⟩,aB,fun b hb=>(hf b hb).1⟩⟩
 done:=by
  intro X hP hw hK hc i pins s σ H E I hf st hg;subst hP hw hK;obtain ⟨xs,hq,hx⟩:=hg;obtain ⟨its,rv,p,hz⟩:=I.list hq;obtain ⟨f0,f1,f2,f3,f4,f5⟩:=hf it (by simp)
  have hl:=rv.length;exact wpAny_pyNext_list_end (I.ok.hd hc) st p.isList (by simp;lia) fun h' eb=>⟨rfl,I.turned (t':=s.toks) (fun b o hb e=>eb b o hb e) f0 f1 f3 f4 f5⟩
 self:=fun _ _ _ _ _ st h=>wpAny_pyIter_listiter st h
theorem LK(a it:Addr):Turn P w K tg (pC K a) [it] it (fun i h=>h.IsTupleIter it a i) where
 mem:=by simp
 obj:=fun i h st b hb=>by
  have e:b=it:=by simpa using hb
  subst e;obtain ⟨o,e,c,d⟩:=st;exact ⟨o,e,fun v z=>by rw [d] at z;cases z⟩
 keep:=fun i h h' st k=>st.at fun o e=>k it (by simp) o e
 item:=by
  intro X hP hw hK hc i pins s σ H E I hf st hg;subst hP hw hK;obtain ⟨xs,x,hq,hx⟩:=hg;obtain ⟨its,rv,p,hz⟩:=I.tuple hq;obtain ⟨u,hu,ru⟩:=rv.get hx;obtain ⟨f0,f1,f2,f3,f4,f5⟩:=hf it (by simp)
  refine wpAny_pyNext_tuple_item st (show s.heap.IsTuple a its.toArray from p) (x:=u) (by simpa using hu) fun h' aB sb=>?_
  have I1:Inv X pins σ H {s with heap:=h'}:=I.turned (t':=s.toks) (fun b o hb e=>(sb.2 b hb).trans e) f0 f1 f3 f4 f5;obtain ⟨o,e,c,d⟩:=id aB;exact ⟨u,rfl,Cw (s:={s with heap:=h'}) e c d (by decide) ⟨x,H,I1,ru,⟨rfl,fun ys hy=>by rw [I.S1 hy hq];exact hx⟩,aB,fun b hb=>(hf b hb).1⟩⟩
 done:=by
  intro X hP hw hK hc i pins s σ H E I hf st hg;subst hP hw hK;obtain ⟨xs,hq,hx⟩:=hg;obtain ⟨its,rv,p,hz⟩:=I.tuple hq;obtain ⟨f0,f1,f2,f3,f4,f5⟩:=hf it (by simp)
  have hl:=rv.length;exact wpAny_pyNext_tuple_end (I.ok.hd hc) st (show s.heap.IsTuple a its.toArray from p) (by simp;lia) fun h' eb=>⟨rfl,I.turned (t':=s.toks) (fun b o hb e=>eb b o hb e) f0 f1 f3 f4 f5⟩
 self:=fun _ _ _ _ _ st h=>wpAny_pyIter_tupleiter st h
theorem Tc(it:Addr)(lo:Int)(n:Nat):Turn P w K tg (qM lo n) [it] it (fun i h=>IsRangeIter h it (lo+(i:Nat)*1) ((n:Int)-(i:Nat)) 1) where
 mem:=by simp
 obj:=fun i h st b hb=>by
  have e:b=it:=by simpa using hb
  subst e;exact ⟨_,st,fun v z=>by have z':Data.fields _=Data.cell v:=z;cases z'⟩
 keep:=fun i h h' st k=>k it (by simp) _ st
 item:=by
  intro X hP hw hK hc i pins s σ H E I hf st hg;subst hP hw hK;obtain ⟨f0,f1,f2,f3,f4,f5⟩:=hf it (by simp)
  have W:=Walks.range (prog:=X.prog) (w:=X.w) (I.ok.hd hc) it lo 1 n;refine W.item i s _ _ hg st fun v h' tk hv aB kk=>?_;obtain ⟨t,rfl⟩:=hv;have I1:Inv X pins σ H {s with heap:=h',toks:=tk}:=I.turned (fun b o hb e=>kk b o (by simpa using hb) e) f0 f1 f3 f4 f5
  refine ⟨_,rfl,Cw (s:={s with heap:=h',toks:=tk}) (n:="range_iterator") aB rfl rfl (by decide) ⟨.int (lo+i),H,I1,⟨t,?_⟩,⟨rfl,rfl⟩,aB,fun b hb=>(hf b hb).1⟩⟩
  rw [Int.mul_one]
 done:=by
  intro X hP hw hK hc i pins s σ H E I hf st hg;subst hP hw hK;obtain ⟨f0,f1,f2,f3,f4,f5⟩:=hf it (by simp)
  exact wpAny_pyNext_range_end (I.ok.hd hc) st (by have:n≤i:=hg;lia) fun h' eb=>⟨rfl,I.turned (t':=s.toks) (fun b o hb e=>eb b o hb e) f0 f1 f3 f4 f5⟩
 self:=fun _ _ _ _ _ st h=>wpAny_pyIter_rangeiter st h
section
variable {X:Cx} {tg:Expr}
def Td(K:aF)(tl:TE):TI:=fun σ H R=>tl σ H fun x H1=>∃a,x=.ref a∧(∃xs,aZ K H1 a xs)∧R (mr K a) H1
def Te(K:aF)(tl:TE):TI:=fun σ H R=>tl σ H fun x H1=>∃a,x=.ref a∧(∃xs,eG K H1 a xs)∧R (pC K a) H1
variable {l:Expr} {tl:TE}
theorem fW(hl:PE X l tl):PI X tg l (Td X.K tl):=by
 intro pins s σ H R I h;refine aK (hl pins s σ H _ I h) fun v s1 ⟨x,H1,I1,r1,q1⟩=>?_;obtain ⟨a,e,⟨xs,hq⟩,q⟩:=q1;subst e;cases r1;obtain ⟨its,rv,p,hz⟩:=I1.list hq;refine y9 p.isList ?_;refine ⟨s1.heap.objs.size,[s1.heap.objs.size],_,_,H1,rfl,I1.kept (t':=s1.toks) fun b o e=>bX _ e,LJ a _,⟨_,dE _ rfl,rfl,rfl⟩,fun b hb=>?_,q⟩;have e:b=s1.heap.objs.size:=by simpa using hb
 subst e;exact I1.pB (aC _) (I1.ay.fresh (aC _))
theorem Cy(hl:PE X l tl):PI X tg l (Te X.K tl):=by
 intro pins s σ H R I h;refine aK (hl pins s σ H _ I h) fun v s1 ⟨x,H1,I1,r1,q1⟩=>?_;obtain ⟨a,e,⟨xs,hq⟩,q⟩:=q1;subst e;cases r1;obtain ⟨its,rv,p,hz⟩:=I1.tuple hq;refine wpAny_pyIter_tuple (show s1.heap.IsTuple a its.toArray from p) ?_;refine ⟨s1.heap.objs.size,[s1.heap.objs.size],_,_,H1,rfl,I1.kept (t':=s1.toks) fun b o e=>bX _ e,LK a _,⟨_,dE _ rfl,rfl,rfl⟩,fun b hb=>?_,q⟩;have e:b=s1.heap.objs.size:=by simpa using hb
 subst e;exact I1.pB (aC _) (I1.ay.fresh (aC _))
variable {pins:aV}
theorem LL{R:It→Hp→Prop}{lo hi:Int}{t u v:Tok}{tk:Nat}(I:Inv X pins σ H s)(h1:-(2 ^ 62)≤lo)(h2:lo<2 ^ 62)(h3:-(2 ^ 62)≤hi)(h4:hi<2 ^ 62)
  (q:R (qM lo (hi-lo).toNat) H):wpAny (model X.prog X.w) X.A (pyIter (.ref s.heap.objs.size)) (Gd X pins σ tg R) E {s with heap:=s.heap.push {cls:=.type "range",data:=.fields #[.int lo t,.int hi u,.int 1 v]},toks:=tk}:=by
 refine wpAny_pyIter_range (IsRange.new ..) (small_one h1 h2 h3 h4) ?_;have I1:Inv X pins σ H {s with heap:=s.heap.push {cls:=.type "range",data:=.fields #[.int lo t,.int hi u,.int 1 v]},toks:=tk}:=I.kept fun b o e=>bX _ e
 refine ⟨(s.heap.push {cls:=.type "range",data:=.fields #[.int lo t,.int hi u,.int 1 v]}).objs.size,[(s.heap.push {cls:=.type "range",data:=.fields #[.int lo t,.int hi u,.int 1 v]}).objs.size],_,_,H,rfl,
  I1.kept (t':=tk) fun b o e=>bX _ e,Tc _ lo (hi-lo).toNat,?_,fun b hb=>?_,q⟩
 ·have e1:lo+((0:Nat):Int)*1=lo:=by simp
  have e2:(((hi-lo).toNat:Nat):Int)-((0:Nat):Int)=Builtin.Range.rangeSize lo hi 1:=by rw [rangeSize_one];split <;> lia
  show IsRangeIter _ _ (lo+((0:Nat):Int)*1) ((((hi-lo).toNat:Nat):Int)-((0:Nat):Int)) 1;rw [e1,e2];exact dE _ rfl
 ·have e:b=(s.heap.push {cls:=.type "range",data:=.fields #[.int lo t,.int hi u,.int 1 v]}).objs.size:=by simpa using hb
  subst e;exact I1.pB (aC _) (I1.ay.fresh (aC _))
def Tf(ta:TA):TI:=fun σ H R=>ta σ H fun vs H1=>∃j:Int,vs=[.int j]∧-(2 ^ 62)≤j∧j<2 ^ 62∧R (qM 0 j.toNat) H1
def Tg(ta:TA):TI:=fun σ H R=>ta σ H fun vs H1=>∃i j:Int,vs=[.int i,.int j]∧(-(2 ^ 62)≤i∧i<2 ^ 62∧-(2 ^ 62)≤j∧j<2 ^ 62)∧R (qM i (j-i).toNat) H1
variable {ta:TA} {p pos:Pos}
theorem qN{a:Expr}(hg:Gl X "range")(hm:X.mg "range"=none)(ha:PA X [a] ta)(hs:starEach [a] X.env=[(false,eval a X.env)]:=by rfl):PI X tg (.Call (.Name "range" p) [a] [] pos) (Tf ta):=by
 intro pins s σ H R I h;refine Call_ (kd I hg hm boot_range (vD (aK (ha pos pins s σ H _ I h) fun us s1 ⟨vs,H1,I1,r1,q1⟩=>?_) hs rfl));obtain ⟨j,e,q1,q2,q⟩:=q1;subst e;cases r1 with
 | cons r rr=>cases rr;obtain ⟨t,rfl⟩:=r;exact call_range_1 (LL I1 (by lia) (by lia) q1 q2 (by simpa using q))
theorem Th{a b:Expr}(hg:Gl X "range")(hm:X.mg "range"=none)(ha:PA X [a,b] ta)(hs:starEach [a,b] X.env=[(false,eval a X.env),(false,eval b X.env)]:=by rfl)(nY:starEach [b] X.env=[(false,eval b X.env)]:=by rfl) :
  PI X tg (.Call (.Name "range" p) [a,b] [] pos) (Tg ta):=by
 intro pins s σ H R I h;refine Call_ (kd I hg hm boot_range (vD (aK (ha pos pins s σ H _ I h) fun us s1 ⟨vs,H1,I1,r1,q1⟩=>?_) (by rw [hs,nY]) (by rw [nY];rfl)))
 obtain ⟨i,j,e,⟨q1,q2,q3,q4⟩,q⟩:=q1;subst e;cases r1 with
 | cons r rr=>
  cases rr with
  | cons r' rr=>cases rr;obtain ⟨t,rfl⟩:=r;obtain ⟨t',rfl⟩:=r';exact call_range_2 (LL I1 q1 q2 q3 q4 q)
def Ti(wi:TI)(g:TG)(tb:TS):TS:=fun D σ H=>wi σ H fun J H1=>∃W:Nat→Nat→St→Hp→Prop,(∃m,W 0 m σ H1)∧∀i m σ H,W i m σ H→
 (J.stop i H∧D.nx σ H)∨(J.go i H∧∃N:St→Hp→Prop,(∀σ' H',N σ' H'→∃m',m'<m∧W (i+1) m' σ' H')∧∀x H',J.d_ i H x H'→g x σ H' fun σ2 H2=>tb {D with nx:=N,ct:=N,bk:=D.nx} σ2 H2)
def nZ(fp:List Addr)(h:Heap):List (Addr×Obj):=fp.filterMap fun b=>(h.get? b).map fun o=>(b,o)
variable {fp:List Addr}
theorem qO{o:Obj}(hb:b∈fp)(e:h.get? b=some o):(b,o)∈nZ fp h:=BZ.mpr ⟨b,hb,by rw [e];rfl⟩
theorem Tj{p:Addr×Obj}(hp:p∈nZ fp h):p.1∈fp∧h.get? p.1=some p.2:=by
 obtain ⟨b,hb,e⟩:=BZ.mp hp;cases q:h.get? b with
 | none=>rw [q] at e;cases e
 | some o=>rw [q] at e;have e':(b,o)=p:=Option.some.inj e;subst e';exact ⟨hb,q⟩
theorem Inv.pinned(I:Inv X pins σ H s)(hf:∀b∈fp,pA X pins H b)(ho:∀b∈fp,∃o,s.heap.get? b=some o∧∀v,o.data≠.cell v):Inv X (pins++nZ fp s.heap) σ H s:=
 I.Lv fun p hp=>(dW.mp hp).elim (fun z=>I.pin p (fA _ z)) fun z=>by obtain ⟨hb,e⟩:=Tj z;obtain ⟨f0,f1,f2,_⟩:=hf p.1 hb;obtain ⟨o,e',d⟩:=ho p.1 hb;rw [e] at e';cases e';exact ⟨e,f0,f1,f2,d⟩
theorem Inv.we{pl:aV}(I:Inv X (pins++pl) σ H s):Inv X pins σ H s:=I.Lv fun p hp=>I.pin p (fA _ (nF _ hp))
theorem fi{iter:Expr}{body:List Stmt}{wi:TI}{g:TG}{tb:TS}(hp:PassesOwn (model X.prog X.w) X.A X.env X.xe)(hc:X.calm=true)(hi:PI X tg iter wi)(hg:PG X tg g)(hb:gx X body tb)
  (hs:∀x,foldedSetIterable iter X.env x=pure x:=by intro _;rfl):PS X (.For tg iter body [] pos) (Ti wi g tb):=by
 intro pins s σ H D I h;refine wpAny_For (aK (hi pins s σ H _ I h) fun v s1 h1=>aK h1 fun zU s2 h2=>?_) hs;obtain ⟨it,fp,tn,J,H2,e,I2,T,ke,f2,W,⟨m0,w0⟩,turn⟩:=h2;subst e;have i7:∀{H':Hp},(∀b∈fp,H' b=none)→∀b∈fp,pA X pins H' b:=fun hn b hb=>⟨hn b hb,(f2 b hb).2⟩;refine codeAny_forLoop_any (fun n s'=>∃i σ' H',Inv X pins σ' H' s'∧tn i s'.heap∧(∀b∈fp,H' b=none)∧W i n σ' H') ?_ m0 ⟨0,σ,H2,I2,ke,fun b hb=>(f2 b hb).1,w0⟩;rintro n s3 ⟨i,σ3,H3,I3,LM,LN,w3⟩;rcases turn i n σ3 H3 w3 with ⟨stop,qn⟩ | ⟨go,N,hN,step⟩
 ·refine su hp (aK (T.done X rfl rfl rfl hc i pins s3 σ3 H3 X.xe I3 (i7 LN) LM stop) fun r s4 ⟨hr,I4⟩=>?_)
  subst hr;exact BY ⟨σ3,H3,I4,qn⟩
 ·refine su hp (aK (T.item X rfl rfl rfl hc i pins s3 σ3 H3 X.xe I3 (i7 LN) LM go) fun r s4 ⟨u,hr,h4⟩=>?_)
  subst hr;refine su hp (aK h4 fun _ s5 ⟨x,H5,I5,r5,y5,i8,sY⟩=>?_);have sZ:=I5.pinned (i7 sY) (T.obj _ _ i8);refine su hp (aK (hg _ s5 σ3 H5 x u _ sZ r5 (step x H5 y5)) fun _ s6 ⟨σ6,H6,I6,q6⟩=>?_);refine su hp (aK (hb _ s6 σ6 H6 _ I6 q6) fun f s7 q7=>?_);have again:∀{σ7:St} {H7:Hp},Inv X (pins++nZ fp s5.heap) σ7 H7 s7→N σ7 H7→∃m,m<n∧∃i σ' H',Inv X pins σ' H' s7∧tn i s7.heap∧(∀b∈fp,H' b=none)∧W i m σ' H':=fun{σ7 H7} I7 n7=>by obtain ⟨m',hm,w7⟩:=hN σ7 H7 n7;refine ⟨m',hm,i+1,σ7,H7,I7.we,T.keep _ _ _ i8 fun b hb o e=>(I7.pin (b,o) (fA _ (fA _ (qO hb e)))).1,fun b hb=>?_,w7⟩;obtain ⟨o,e,d⟩:=T.obj _ _ i8 b hb;exact (I7.pin (b,o) (fA _ (fA _ (qO hb e)))).2.1
  cases f with
  | next=>obtain ⟨σ7,H7,I7,n7⟩:=q7;exact again I7 n7
  | cont=>obtain ⟨σ7,H7,I7,n7⟩:=q7;exact again I7 n7
  | brk=>obtain ⟨σ7,H7,I7,q7⟩:=q7;exact ⟨σ7,H7,I7.we,q7⟩
  | ret v=>obtain ⟨x7,σ7,H7,I7,r7,q7⟩:=q7;exact ⟨x7,σ7,H7,I7.we,r7,q7⟩
end
variable {g:TG} {tb:TS} {D:Ends}
theorem s_(Pv:Nat→St→Hp→Prop)(h0:Pv 0 σ H)(hl:∀i σ H,i≤xs.length→Pv i σ H→aZ K H a xs)
  (hs:∀i x σ H,xs[i]?=some x→Pv i σ H→g x σ H fun σ2 H2=>tb {D with nx:=Pv (i+1),ct:=Pv (i+1),bk:=D.nx} σ2 H2) (hd:∀σ H,Pv xs.length σ H→D.nx σ H) :
  ∃W:Nat→Nat→St→Hp→Prop,(∃m,W 0 m σ H)∧∀i m σ H,W i m σ H→
   ((mr K a).stop i H∧D.nx σ H)∨((mr K a).go i H∧∃N:St→Hp→Prop,(∀σ' H',N σ' H'→∃m',m'<m∧W (i+1) m' σ' H')∧∀x H',(mr K a).d_ i H x H'→g x σ H' fun σ2 H2=>tb {D with nx:=N,ct:=N,bk:=D.nx} σ2 H2):=by
 refine ⟨fun i m σ H=>m=xs.length-i∧i≤xs.length∧Pv i σ H,⟨xs.length,by simp,cf _,h0⟩,?_⟩
 rintro i m σ H ⟨rfl,hi,p⟩;have q:=hl i σ H hi p;by_cases bh:i<xs.length
 ·refine .inr ⟨⟨xs,xs[i],q,by simp [bh]⟩,Pv (i+1),fun σ' H' p'=>⟨xs.length-(i+1),by lia,rfl,bh,p'⟩,fun x H' y=>?_⟩
  obtain ⟨e,y⟩:=y;subst e;exact hs i x σ _ (y xs q) p
 ·have e:i=xs.length:=by lia
  subst e;exact .inl ⟨⟨xs,q,aC _⟩,hd σ H p⟩
theorem Ge(Pv:Nat→St→Hp→Prop)(h0:Pv 0 σ H)(hl:∀i σ H,i≤xs.length→Pv i σ H→eG K H a xs)
  (hs:∀i x σ H,xs[i]?=some x→Pv i σ H→g x σ H fun σ2 H2=>tb {D with nx:=Pv (i+1),ct:=Pv (i+1),bk:=D.nx} σ2 H2) (hd:∀σ H,Pv xs.length σ H→D.nx σ H) :
  ∃W:Nat→Nat→St→Hp→Prop,(∃m,W 0 m σ H)∧∀i m σ H,W i m σ H→
   ((pC K a).stop i H∧D.nx σ H)∨((pC K a).go i H∧∃N:St→Hp→Prop,(∀σ' H',N σ' H'→∃m',m'<m∧W (i+1) m' σ' H')∧∀x H',(pC K a).d_ i H x H'→g x σ H' fun σ2 H2=>tb {D with nx:=N,ct:=N,bk:=D.nx} σ2 H2):=by
 refine ⟨fun i m σ H=>m=xs.length-i∧i≤xs.length∧Pv i σ H,⟨xs.length,by simp,cf _,h0⟩,?_⟩
 rintro i m σ H ⟨rfl,hi,p⟩;have q:=hl i σ H hi p;by_cases bh:i<xs.length
 ·refine .inr ⟨⟨xs,xs[i],q,by simp [bh]⟩,Pv (i+1),fun σ' H' p'=>⟨xs.length-(i+1),by lia,rfl,bh,p'⟩,fun x H' y=>?_⟩
  obtain ⟨e,y⟩:=y;subst e;exact hs i x σ _ (y xs q) p
 ·have e:i=xs.length:=by lia
  subst e;exact .inl ⟨⟨xs,q,aC _⟩,hd σ H p⟩
variable {n:Nat}
theorem tj{lo:Int}(Pv:Nat→St→Hp→Prop)(h0:Pv 0 σ H)
  (hs:∀i σ H,i<n→Pv i σ H→g (.int (lo+i)) σ H fun σ2 H2=>tb {D with nx:=Pv (i+1),ct:=Pv (i+1),bk:=D.nx} σ2 H2) (hd:∀σ H,Pv n σ H→D.nx σ H) :
  ∃W:Nat→Nat→St→Hp→Prop,(∃m,W 0 m σ H)∧∀i m σ H,W i m σ H→
   ((qM lo n).stop i H∧D.nx σ H)∨((qM lo n).go i H∧∃N:St→Hp→Prop,(∀σ' H',N σ' H'→∃m',m'<m∧W (i+1) m' σ' H')∧∀x H',(qM lo n).d_ i H x H'→g x σ H' fun σ2 H2=>tb {D with nx:=N,ct:=N,bk:=D.nx} σ2 H2):=by
 refine ⟨fun i m σ H=>m=n-i∧i≤n∧Pv i σ H,⟨n,by simp,cf _,h0⟩,?_⟩
 rintro i m σ H ⟨rfl,hi,p⟩;by_cases bh:i<n
 ·refine .inr ⟨bh,Pv (i+1),fun σ' H' p'=>⟨n-(i+1),by lia,rfl,bh,p'⟩,fun x H' y=>?_⟩
  obtain ⟨e,y⟩:=y;subst e y;exact hs i σ _ bh p
 ·have e:i=n:=by lia
  subst e;exact .inl ⟨aC _,hd σ H p⟩
abbrev R2:=V→V→Hp→VK→Prop
def cX(X:Cx)(f:Value→Value→Sem Value)(r:R2):Prop:=
 ∀(pins:aV) (s:Shared) (σ:St) (H:Hp) (x y:V) (v u:Value) (Q:VK),Inv X pins σ H s→RelV x v→RelV y u→r x y H Q→
  wpAny (model X.prog X.w) X.A (f v u) (EP X pins σ Q) X.xe s
def gy(X:Cx)(f:Value)(r:List V→Hp→VK→Prop):Prop:=
 ∀(pins:aV) (s:Shared) (σ:St) (H:Hp) (xs:List V) (us:List Value) (Q:VK),Inv X pins σ H s→Vals xs us→r xs H Q→
  wpAny (model X.prog X.w) X.A (call f us) (EP X pins σ Q) X.xe s
def pD(r:R2)(ta tb:TE):TE:=fun σ H Q=>ta σ H fun x H1=>tb σ H1 fun y H2=>r x y H2 Q
def rI(C:Int→Int→Prop)(g:Int→Int→V):R2:=fun x y H Q=>∃i j,x=.int i∧y=.int j∧C i j∧Q (g i j) H
def qP(g:Int→Int→V):R2:=fun x y H Q=>∃i j,x=.int i∧y=.int j∧Q (g i j) H
section
variable {X:Cx} {a b c:Expr} {ta tb tc:TE} {pos:Pos}
variable {f:Value→Value→Sem Value}
theorem Gf(ha:PE X a ta)(hb:PE X b tb){pins:aV}{R:V→V→Hp→Prop}(I:Inv X pins σ H s)
  (h:ta σ H fun x H1=>tb σ H1 fun y H2=>R x y H2) {Q:aO}
  (hf:∀v u s2 x y H2,Inv X pins σ H2 s2→RelV x v→RelV y u→R x y H2→wpAny (model X.prog X.w) X.A (f v u) Q X.xe s2) :
  wpAny (model X.prog X.w) X.A (eval a X.env) (fun v s₁=>wpAny (model X.prog X.w) X.A (eval b X.env) (fun u s₂=>wpAny (model X.prog X.w) X.A (f v u) Q X.xe s₂) X.xe s₁) X.xe s:=by
 refine aK (ha pins s σ H _ I h) fun v s1 ⟨x,H1,I1,r1,q1⟩=>?_;refine aK (hb pins s1 σ H1 _ I1 q1) fun u s2 ⟨y,H2,I2,r2,q2⟩=>?_;exact hf v u s2 x y H2 I2 r1 r2 q2
theorem cC{op:Operator}{r:R2}(ho:cX X (binaryOp op) r)(ha:PE X a ta)(hb:PE X b tb):PE X (.BinOp a op b pos) (pD r ta tb):=by intro pins s σ H Q I h;exact wpAny_BinOp (Gf ha hb I h fun v u s2 x y H2 I2 rx ry q=>ho pins s2 σ H2 x y v u Q I2 rx ry q)
theorem Cz{C:Int→Int→Prop}{g:Int→Int→Int}
  (rule:∀(i j:Int) (t u:Tok) (s:Shared) (Q:aO) (E:aO),C i j→Q (.int (g i j) s.toks) {s with toks:=s.toks+1}→wpAny (model X.prog X.w) X.A (f (.int i t) (.int j u)) Q E s) :
  cX X f (rI C fun i j=>.int (g i j)):=by
 intro pins s σ H x y v u Q I rx ry h;obtain ⟨i,j,rfl,rfl,hc,q⟩:=h;obtain ⟨t,rfl⟩:=rx;obtain ⟨t',rfl⟩:=ry;exact rule i j t t' s _ _ hc ⟨.int (g i j),H,I.tok _,⟨_,rfl⟩,q⟩
theorem LO{g:Int→Int→Int}
  (rule:∀(i j:Int) (t u:Tok) (s:Shared) (Q:aO) (E:aO),Q (.int (g i j) s.toks) {s with toks:=s.toks+1}→wpAny (model X.prog X.w) X.A (f (.int i t) (.int j u)) Q E s) :
  cX X f (qP fun i j=>.int (g i j)):=by
 intro pins s σ H x y v u Q I rx ry h;obtain ⟨i,j,rfl,rfl,q⟩:=h;obtain ⟨t,rfl⟩:=rx;obtain ⟨t',rfl⟩:=ry;exact rule i j t t' s _ _ ⟨.int (g i j),H,I.tok _,⟨_,rfl⟩,q⟩
theorem CA{g:Int→Int→Bool}
  (rule:∀(i j:Int) (t u:Tok) (s:Shared) (Q:aO) (E:aO),Q (.bool (g i j)) s→wpAny (model X.prog X.w) X.A (f (.int i t) (.int j u)) Q E s) :
  cX X f (qP fun i j=>.bl (g i j)):=by
 intro pins s σ H x y v u Q I rx ry h;obtain ⟨i,j,rfl,rfl,q⟩:=h;obtain ⟨t,rfl⟩:=rx;obtain ⟨t',rfl⟩:=ry;exact rule i j t t' s _ _ ⟨.bl (g i j),H,I,rfl,q⟩
def Tn(i j:Int):Prop:=0≤j∧j≤1000000∧i.natAbs<2 ^ 64
def Gg(i j:Int):Prop:=(-(2 ^ 64)<i∧i<2 ^ 64)∨(-(2 ^ 64)<j∧j<2 ^ 64)
theorem Gg.ok{i j:Int}(h:Gg i j):IntMulOk i j:=by
 rcases h with ⟨h1,h2⟩ | ⟨h1,h2⟩;·exact .of_left (intBits_le_64 h1 h2)
 ·exact .of_right (intBits_le_64 h1 h2)
theorem kW:cX X (binaryOp .Add) (qP fun i j=>.int (i+j)):=LO fun _ _ _ _ _ _ _ q=>add_int q
theorem CB:cX X (binaryOp .Sub) (qP fun i j=>.int (i-j)):=LO fun _ _ _ _ _ _ _ q=>sub_int q
theorem mw:cX X (binaryOp .Mult) (rI Gg fun i j=>.int (i*j)):=Cz fun _ _ _ _ _ _ _ hc q=>mul_int q hc.ok
theorem tw:cX X (binaryOp .Mod) (rI (fun _ j=>0<j) fun i j=>.int (i % j)):=Cz fun i j _ _ _ _ _ hc q=>by have h1:(0:Int)<j:=hc;exact mod_int' (by lia) (by rw [Int.fmod_eq_emod_of_nonneg i (by lia)];exact q)
theorem To:cX X (binaryOp .Pow) (rI Tn fun i j=>.int (i ^ j.toNat)):=Cz fun _ _ _ _ _ _ _ hc q=>pow_int_small hc.1 hc.2.1 hc.2.2 q
end
def Gh:V→V→Bool
 | .aR,.aR=>true | .aR,.int _=>true | .int _,.aR=>true | .aR,.bl _=>true | .bl _,.aR=>true | .aR,.str _=>true | .str _,.aR=>true
 | .int _,.int _=>true | .bl _,.bl _=>true | .str _,.str _=>true | .me _,.me _=>true
 | .int _,.str _=>true | .str _,.int _=>true | .bl _,.str _=>true | .str _,.bl _=>true
 | _,_=>false
def Tp:R2:=fun x y H Q=>Gh x y=true∧Q (.bl (decide (x=y))) H
def Tq:R2:=fun x y H Q=>Gh x y=true∧Q (.bl (!decide (x=y))) H
theorem LP{i j:Int}:decide (V.int i=V.int j)=(i == j):=by rw [qp];simp
theorem LQ{i j:Bool}:decide (V.bl i=V.bl j)=(i == j):=by rw [qp];simp
theorem LR{i j:Str}:decide (V.str i=V.str j)=(i == j):=by rw [qp];simp
theorem LS{i j:Array UInt8}:decide (V.me i=V.me j)=(i.toList == j.toList):=by rw [qp];cases i;cases j;simp
section
variable {X:Cx} {a b c:Expr} {ta tb tc:TE} {pos:Pos}
theorem dQ{pins:aV}{Q:VK}{k k':Bool}(I:Inv X pins σ H s)(q:Q (.bl k) H)(e:k=k'):EP X pins σ Q (.bool k') s:=by subst e;exact ⟨.bl k,H,I,rfl,q⟩
theorem my:cX X (compareOp .Eq) Tp:=by
 intro pins s σ H x y v u Q I rx ry h;obtain ⟨hs,q⟩:=h;cases x with
 | aR=>
  cases rx;cases y with
  | aR=>cases ry;exact PySem.EqNone.eq_none_none (dQ I q (by simp))
  | bl j=>cases ry;exact PySem.EqNone.eq_none_bool (dQ I q (by simp))
  | int j=>obtain ⟨t',rfl⟩:=ry;exact PySem.EqNone.eq_none_int (dQ I q (by simp))
  | str j=>obtain ⟨t',rfl⟩:=ry;exact PySem.EqNone.eq_none_str (dQ I q (by simp))
  | _=>exact absurd (show false=true from hs) dN
 | bl i=>
  cases rx;cases y with
  | aR=>cases ry;exact PySem.EqNone.eq_bool_none (dQ I q (by simp))
  | bl j=>cases ry;exact eq_bool (dQ I q LQ)
  | str j=>obtain ⟨t',rfl⟩:=ry;exact PySem.EqMixed.eq_bool_str (dQ I q (by simp))
  | _=>exact absurd (show false=true from hs) dN
 | int i=>
  obtain ⟨t,rfl⟩:=rx;cases y with
  | aR=>cases ry;exact PySem.EqNone.eq_int_none (dQ I q (by simp))
  | int j=>obtain ⟨t',rfl⟩:=ry;exact eq_int (dQ I q LP)
  | str j=>obtain ⟨t',rfl⟩:=ry;exact PySem.EqMixed.eq_int_str (dQ I q (by simp))
  | _=>exact absurd (show false=true from hs) dN
 | str i=>
  obtain ⟨t,rfl⟩:=rx;cases y with
  | aR=>cases ry;exact PySem.EqNone.eq_str_none (dQ I q (by simp))
  | bl j=>cases ry;exact PySem.EqMixed.eq_str_bool (dQ I q (by simp))
  | int j=>obtain ⟨t',rfl⟩:=ry;exact PySem.EqMixed.eq_str_int (dQ I q (by simp))
  | str j=>obtain ⟨t',rfl⟩:=ry;exact eq_str (dQ I q LR)
  | _=>exact absurd (show false=true from hs) dN
 | me i=>
  obtain ⟨t,rfl⟩:=rx;cases y with
  | me j=>obtain ⟨t',rfl⟩:=ry;exact PySem.W.eq_bytes (dQ I q LS)
  | _=>exact absurd (show false=true from hs) dN
 | _=>cases y <;> exact absurd (show false=true from hs) dN
theorem n4:cX X (compareOp .NotEq) Tq:=by
 intro pins s σ H x y v u Q I rx ry h;obtain ⟨hs,q⟩:=h;cases x with
 | aR=>
  cases rx;cases y with
  | aR=>cases ry;exact PySem.EqNone.ne_none_none (dQ I q (by simp))
  | bl j=>cases ry;exact PySem.EqNone.ne_none_bool (dQ I q (by simp))
  | int j=>obtain ⟨t',rfl⟩:=ry;exact PySem.EqNone.ne_none_int (dQ I q (by simp))
  | str j=>obtain ⟨t',rfl⟩:=ry;exact PySem.EqNone.ne_none_str (dQ I q (by simp))
  | _=>exact absurd (show false=true from hs) dN
 | bl i=>
  cases rx;cases y with
  | aR=>cases ry;exact PySem.EqNone.ne_bool_none (dQ I q (by simp))
  | bl j=>cases ry;exact ne_bool (dQ I q (dM not LQ))
  | str j=>obtain ⟨t',rfl⟩:=ry;exact PySem.EqMixed.ne_bool_str (dQ I q (by simp))
  | _=>exact absurd (show false=true from hs) dN
 | int i=>
  obtain ⟨t,rfl⟩:=rx;cases y with
  | aR=>cases ry;exact PySem.EqNone.ne_int_none (dQ I q (by simp))
  | int j=>obtain ⟨t',rfl⟩:=ry;exact ne_int (dQ I q (dM not LP))
  | str j=>obtain ⟨t',rfl⟩:=ry;exact PySem.EqMixed.ne_int_str (dQ I q (by simp))
  | _=>exact absurd (show false=true from hs) dN
 | str i=>
  obtain ⟨t,rfl⟩:=rx;cases y with
  | aR=>cases ry;exact PySem.EqNone.ne_str_none (dQ I q (by simp))
  | bl j=>cases ry;exact PySem.EqMixed.ne_str_bool (dQ I q (by simp))
  | int j=>obtain ⟨t',rfl⟩:=ry;exact PySem.EqMixed.ne_str_int (dQ I q (by simp))
  | str j=>obtain ⟨t',rfl⟩:=ry;exact ne_str (dQ I q (dM not LR))
  | _=>exact absurd (show false=true from hs) dN
 | me i=>
  obtain ⟨t,rfl⟩:=rx;cases y with
  | me j=>obtain ⟨t',rfl⟩:=ry;exact PySem.W.ne_bytes (dQ I q (dM not LS))
  | _=>exact absurd (show false=true from hs) dN
 | _=>cases y <;> exact absurd (show false=true from hs) dN
theorem zW:cX X (compareOp .Lt) (qP fun i j=>.bl (decide (i<j))):=CA fun _ _ _ _ _ _ _ q=>lt_int q
theorem LU:cX X (compareOp .LtE) (qP fun i j=>.bl (decide (i≤j))):=CA fun _ _ _ _ _ _ _ q=>le_int q
theorem pE:cX X (compareOp .Gt) (qP fun i j=>.bl (decide (j<i))):=CA fun _ _ _ _ _ _ _ q=>gt_int q
theorem Ts:cX X (compareOp .GtE) (qP fun i j=>.bl (decide (j≤i))):=CA fun _ _ _ _ _ _ _ q=>ge_int q
theorem LV:cX X (compareOp .IsNot) (fun x y H Q=>y=.aR∧Q (.bl (!decide (x=.aR))) H):=by
 intro pins s σ H x y v u Q I rx ry h;obtain ⟨rfl,q⟩:=h;cases ry;refine isnot_none_gen (dQ I q ?_)
 cases x <;> first
  | (cases rx;rfl)
  | (obtain ⟨t,rfl⟩:=rx;rfl)
variable {op:CmpOp}
theorem LW(b:Expr)(h:op≠.In:=by decide)(h2:op≠.NotIn:=by decide):behindInMarks op b=false:=by
 have e1:(op == CmpOp.In)=false:=by cases op <;> first | rfl | exact absurd rfl h
 have e2:(op == CmpOp.NotIn)=false:=by cases op <;> first | rfl | exact absurd rfl h2
 cases b <;> simp [behindInMarks,e1,e2]
variable {r:R2}
theorem Tu(ho:cX X (compareOp op) r)(ha:PE X a ta)(hb:PE X b tb)(hm:behindInMarks op b=false):PE X (.Compare a [op] [b] pos) (pD r ta tb):=by intro pins s σ H Q I h;exact wpAny_Compare1 (Gf ha hb I h fun v u s2 x y H2 I2 rx ry q=>ho pins s2 σ H2 x y v u Q I2 rx ry q) hm
theorem pF(ho:cX X (compareOp op) r)(ha:PE X a ta)(hb:PE X b tb)(hm:behindInMarks op b=false:=by exact LW _):PE X (.Compare a [op] [b] pos) (pD r ta tb):=Tu ho ha hb hm
def LX(t:TE):TT:=fun σ H Q=>t σ H fun x H'=>∃k,x=.bl k∧Q k H'
theorem wg(ho:cX X (compareOp op) r)(ha:PE X a ta)(hb:PE X b tb)(hm:behindInMarks op b=false):PT X (.Compare a [op] [b] pos) (LX (pD r ta tb)):=by intro pins s σ H Q I h;refine wpAny_isTrue_Compare1 (aK (ha pins s σ H _ I h) fun v s1 ⟨x,H1,I1,r1,q1⟩=>aK (hb pins s1 σ H1 _ I1 q1) fun u s2 ⟨y,H2,I2,r2,q2⟩=>aK (ho pins s2 σ H2 x y v u _ I2 r1 r2 q2) fun c s3 ⟨z,H3,I3,r3,k,e,q3⟩=>?_) hm;subst e;cases r3;exact oO ⟨H3,I3,q3⟩
theorem dv(ho:cX X (compareOp op) r)(ha:PE X a ta)(hb:PE X b tb)(hm:behindInMarks op b=false:=by exact LW _):PT X (.Compare a [op] [b] pos) (LX (pD r ta tb)):=wg ho ha hb hm
def Tv(r r':R2)(ta tb tc:TE):TE:=fun σ H Q=>ta σ H fun x H1=>tb σ H1 fun y H2=>r x y H2 fun z H3=>∃k,z=.bl k ∧
 (if k=true then tc σ H3 fun w' H4=>r' y w' H4 Q else Q (.bl false) H3)
theorem Tw{Gi:CmpOp}{r':R2}(ho:cX X (compareOp op) r)(gQ:cX X (compareOp Gi) r')(ha:PE X a ta)(hb:PE X b tb)(hc:PE X c tc)
  (hm:lastMarks [op,Gi] [b,c]=false:=by with_unfolding_all rfl):PE X (.Compare a [op,Gi] [b,c] pos) (Tv r r' ta tb tc):=by
 intro pins s σ H Q I h;refine Compare_chain (aK (ha pins s σ H _ I h) fun v s1 ⟨x,H1,I1,r1,q1⟩=>chain_link (aK (hb pins s1 σ H1 _ I1 q1) fun u s2 ⟨y,H2,I2,r2,q2⟩=>aK (ho pins s2 σ H2 x y v u _ I2 r1 r2 q2) fun d s3 ⟨z,H3,I3,r3,k,e,q3⟩=>?_)) hm;subst e;cases r3;refine oO ?_;cases k with
 | false=>exact ite_ff ⟨.bl false,H3,I3,rfl,q3⟩
 | true=>exact ite_tt (chain_last (aK (hc pins s3 σ H3 _ I3 q3) fun w' s4 ⟨z',H4,I4,r4,q4⟩=>gQ pins s4 σ H4 y z' u w' Q I4 r2 r4 q4))
theorem wj:(sizeLine:Nat)<2 ^ 63:=by rw [iZ];decide
theorem vals1(r:Vals [x] us):∃u,us=[u]∧RelV x u:=by
 cases r with
 | cons r1 r2=>cases r2;exact ⟨_,rfl,r1⟩
theorem vals2{y:V}(r:Vals [x,y] us):∃u w',us=[u,w']∧RelV x u∧RelV y w':=by
 cases r with
 | cons r1 r2=>
  cases r2 with
  | cons r3 r4=>cases r4;exact ⟨_,_,rfl,r1,r3⟩
theorem Gj(hc:X.calm=true):gy X (.builtin "max") (fun xs H Q=>∃i j,xs=[.int i,.int j]∧Q (.int (if j>i then j else i)) H):=by
 intro pins s σ H xs us Q I r h;obtain ⟨i,j,rfl,q⟩:=h;obtain ⟨u,w',rfl,⟨t,rfl⟩,⟨t',rfl⟩⟩:=vals2 r;refine max_two_ints (I.ok.hd hc) fun h' tk k=>⟨_,H,I.kept k,?_,q⟩;by_cases hj:j>i;·rw [ae hj,ae hj];exact ⟨_,rfl⟩
 ·rw [aa hj,aa hj];exact ⟨_,rfl⟩
theorem Gk(hc:X.calm=true):gy X (.builtin "min") (fun xs H Q=>∃i j,xs=[.int i,.int j]∧Q (.int (if j<i then j else i)) H):=by
 intro pins s σ H xs us Q I r h;obtain ⟨i,j,rfl,q⟩:=h;obtain ⟨u,w',rfl,⟨t,rfl⟩,⟨t',rfl⟩⟩:=vals2 r;refine min_two_ints (I.ok.hd hc) fun h' tk k=>⟨_,H,I.kept k,?_,q⟩;by_cases hj:j<i;·rw [ae hj,ae hj];exact ⟨_,rfl⟩
 ·rw [aa hj,aa hj];exact ⟨_,rfl⟩
end
structure Gm (h:Heap) (x dx C:Addr) (mA:dh):Prop where
 obj:h.get? x=some (PySem.W.instObj C dx)
 ns:h.Ns1 dx mA
 ne:dx≠x
variable {dx:Addr} {mA:dh}
theorem Tx(n:h.Ns1 dx mA):∃od,h.get? dx=some od∧∀name,PySem.W.lookIn name od=some (mA name):=by
 obtain ⟨o,es,ep,ho,hd,hk,_,hm⟩:=n;refine ⟨o,ho,fun name=>?_⟩;have e:=hm name;unfold nsFind findBy at e;rw [←Array.find?_toList] at e;unfold PySem.W.lookIn;rw [hd];dsimp only
 split
 ·rename_i y q
  rw [q] at e;exact dM some e
 ·rename_i q
  rw [q] at e;have a:es.toList.any (·.refKey)=false:=by rw [List.any_eq_false];intro y hy;obtain ⟨z,t,Tz⟩:=hk y (Array.mem_toList_iff.mp hy);simp [DictEntry.refKey,Tz]
  have a':¬es.toList.any (·.refKey)=true:=by rw [a];exact dN
  rw [aa a'];exact dM some e
theorem Gm.look{x C:Addr}(I:Gm h x dx C mA):∃od,PySem.W.InstAt h x (PySem.W.instObj C dx) C (some od)∧∀name,PySem.W.lookIn name od=some (mA name):=
 let ⟨od,ho,hl⟩:=Tx I.ns
 ⟨od,⟨I.obj,rfl,rfl,ho⟩,hl⟩
section
variable {prog:Program} {w:World} {A:Around} {E:aO} {s:Shared} {K:aF} {x dx C f:Addr} {mA:dh} {name:Str} {v:Value}
end
theorem mf.some_of{v:V}{o:Option Value}(r:mf (some v) o):∃u,o=some u∧RelV v u:=by
 cases o with
 | none=>exact (show False from r).elim
 | some u=>exact ⟨u,rfl,r⟩
section
variable {P:Program} {w:World} {H H':Hp} {h h':Heap} {a C dx:Addr} {fs FZ:List (Str×V)}
theorem TB(ay:cS P w H h)(e:H a=some (.ins C dx fs)):∃mA,Gm h a dx C mA∧(∀f,mf (fs.lookup f) (mA f))∧PySem.Within mA (fs.map (·.1))∧fs.length≤1000∧H dx=some (.own a):=by obtain ⟨d,z,ne,ob,mA,n,r,q⟩:=(show cj P w H h a (.ins C dx fs) from ay a _ e);exact ⟨mA,⟨ob,n,ne⟩,r,q,z,d⟩
end
structure Gn (K:aF) (C:Addr):Prop where
 pg:PySem.W.plainGet K C Str.empty=true
 hd:PySem.W.hasDictIn K C=true
 po:PySem.W.plainOver K C=true
 sa:PySem.W.findIn K (.ref C) "__setattr__"=some (some (.builtin "object.__setattr__"))
theorem Gn.get{K:aF}{C:Addr}(c:Gn K C)(f:Str):PySem.W.plainGet K C f=true:=c.pg
section
variable {X:Cx} {pins:aV} {σ:St} {H:Hp} {s:Shared} {a C dx:Addr} {fs:List (Str×V)} {f:Str} {v:V} {A:Around} {E:aO}
end
section
variable {X:Cx} {o e value:Expr} {f:Str} {pos pos' nX:Pos} {ta tv:TE}
end
section
variable {X:Cx} {pins:aV} {σ:St} {H:Hp} {s:Shared} {A:Around} {E:aO} {Q:aO} {c:Value} {b:Bool}
inductive kg (K:aF) (H:Hp):V→Value→Prop where
 | aR:kg K H .aR (.type "NoneType")
 | bl (x:Bool):kg K H (.bl x) (.type "bool")
 | int (i:Int):kg K H (.int i) (.type "int")
 | str (x:Str):kg K H (.str x) (.type "str")
 | qI (x:UInt64):kg K H (.qI x) (.type "float")
 | lst {a:Addr} {xs:List V} (e:H a=some (.lst xs)):kg K H (.ref a) (.type "list")
 | bg {a:Addr} {o:Obj} {xs:List V} (e:H a=some (.bg o (.lst xs))):kg K H (.ref a) (.type "list")
 | tup {a:Addr} {xs:List V} (e:H a=some (.tup xs)):kg K H (.ref a) (.type "tuple")
 | dK {a:Addr} {kvs:List (Key×V)} (e:H a=some (.dK kvs)):kg K H (.ref a) (.type "dict")
 | dT {a:Addr} {kvs:List (List Key×V)} (e:H a=some (.dT kvs)):kg K H (.ref a) (.type "dict")
 | ins {a C dx:Addr} {fs:List (Str×V)} (e:H a=some (.ins C dx fs)) (cl:Gn K C) (ha:PySem.W.findIn K (.ref C) "__class__"=some (some (.builtin "object.__class__")))
   (hn:PySem.W.specialIn K (.builtin "object.__class__") "__get__"=some (some (.builtin "getset_descriptor.__get__"))) (LY:PySem.W.takesIn K (.builtin "object.__class__")=some true)
   (hm:PySem.W.mroIn K C (.type "object")=some true):kg K H (.ref a) (.ref C)
theorem TC{t:Value}(I:Inv X pins σ H s)(rx:RelV x u)(ty:kg X.K H x t)(e:PySem.W.kitOne X.K t c=some b)(h:∀tk,Q (.bool b) {s with toks:=tk}) :
  wpAny (model X.prog X.w) A (call (.builtin "isinstance") [u,c]) Q E s:=by
 cases ty with
 | aR=>cases (show u=Value.none from rx);exact jZ PySem.W.kitx_none I.fV True.intro e (fun z=>nomatch z) h
 | bl y=>cases (show u=Value.bool y from rx);exact jZ PySem.W.kitx_bool I.fV True.intro e (fun z=>nomatch z) h
 | int i=>obtain ⟨t,q⟩:=(show ∃t,u=Value.int i t from rx);cases q;exact jZ PySem.W.kitx_int I.fV True.intro e (fun z=>nomatch z) h
 | str y=>obtain ⟨t,q⟩:=(show ∃t,u=Value.str y t from rx);cases q;exact jZ PySem.W.kitx_str I.fV True.intro e (fun z=>nomatch z) h
 | qI y=>obtain ⟨t,q⟩:=(show ∃t,u=Value.float y t from rx);cases q;exact jZ PySem.W.kitx_float I.fV True.intro e (fun z=>nomatch z) h
 | @lst a xs ea=>cases (show u=Value.ref a from rx);obtain ⟨_,_,n,_,h1⟩:=(show cj X.prog X.w H s.heap a (.lst xs) from I.ay a _ ea);exact jZ PySem.W.kitx_list I.fV ⟨_,h1,rfl⟩ e (fun z=>nomatch z) h
 | @bg a ob xs ea=>cases (show u=Value.ref a from rx);obtain ⟨_,_,_,n,_,h1⟩:=(show cj X.prog X.w H s.heap a (.bg ob (.lst xs)) from I.ay a _ ea);exact jZ PySem.W.kitx_list I.fV ⟨_,h1,rfl⟩ e (fun z=>nomatch z) h
 | @tup a xs ea=>cases (show u=Value.ref a from rx);obtain ⟨_,_,_,p⟩:=(show cj X.prog X.w H s.heap a (.tup xs) from I.ay a _ ea);obtain ⟨o,h1,h2,_⟩:=p;exact jZ PySem.W.kitx_tuple I.fV ⟨o,h1,h2⟩ e (fun z=>nomatch z) h
 | @dK a kvs ea=>cases (show u=Value.ref a from rx);obtain ⟨_,_,vs,_,p⟩:=(show cj X.prog X.w H s.heap a (.dK kvs) from I.ay a _ ea);obtain ⟨o,es,ep,h1,h2,_⟩:=p;exact jZ PySem.W.kitx_dict I.fV ⟨o,h1,h2.1⟩ e (fun z=>nomatch z) h
 | @dT a kvs ea=>cases (show u=Value.ref a from rx);obtain ⟨_,_,xs,_,o,es,ep,h1,h2,_⟩:=(show cj X.prog X.w H s.heap a (.dT kvs) from I.ay a _ ea);exact jZ PySem.W.kitx_dict I.fV ⟨o,h1,h2.1⟩ e (fun z=>nomatch z) h
 | @ins a C dx fs ea cl ha hn LY hm=>cases (show u=Value.ref a from rx);obtain ⟨mA,O,_⟩:=TB I.ay ea;obtain ⟨od,J,_⟩:=O.look;exact jZ (PySem.W.kitx_own (cl.get _) cl.hd ha hn LY hm) I.fV J e (fun z=>nomatch z) h
end
structure eU (k:Nat) (A:Around):Prop where
 hd:A.handled=none
 dp:A.depth+3*k+5<recursionLimit
 un:A.units+16*k+200<cLine
variable {k:Nat}
theorem eU.mono{j:Nat}(r:eU k A)(h:j≤k):eU j A:=⟨r.hd,by have:=r.dp;lia,by have:=r.un;lia⟩
theorem eU.deeper(r:eU (k+1) A)(env:Env):eU k (A.deeper env):=
 ⟨r.hd,by have:=r.dp;show A.depth+1+3*k+5<_;lia,by have:=r.un;show A.units+3+16*k+200<_;lia⟩
theorem eU.depth(r:eU k A):A.depth<recursionLimit:=by have:=r.dp;lia
theorem eU.units(r:eU k A):A.units+64<cLine:=by have:=r.un;lia
theorem eU.TF(r:eU k A):A.units<cLine:=by have:=r.un;lia
def zX:TA:=fun _ H Q=>Q [] H
def wm(ta:TE)(tr:TA):TA:=fun σ H Q=>ta σ H fun x H1=>tr σ H1 fun xs H2=>Q (x::xs) H2
section
variable {X:Cx} {e:Expr} {es:List Expr} {te:TE} {t:TA} {pos:Pos}
theorem aq:PA X [] zX:=fun _ _ _ _ H Q I h=>Calls.spliced_nil ⟨[],H,I,.nil,h⟩
theorem TH(ha:PE X e te)(hr:PA X es t)(hs:starEach (e::es) X.env=(false,eval e X.env)::starEach es X.env:=by rfl):PA X (e::es) (wm te t):=by intro pos pins s σ H Q I h;rw [hs];show wpAny _ _ (spliced ((false,eval e X.env)::backTo pos (starEach es X.env))) _ _ s;refine Calls.spliced_cons (aK (ha pins s σ H _ I h) fun u s1 ⟨x,H1,I1,r1,q1⟩=>?_);exact aK (hr pos pins s1 σ H1 _ I1 q1) fun us s2 ⟨xs,H2,I2,r2,q2⟩=>⟨x::xs,H2,I2,.cons r1 r2,q2⟩
def TJ(t:TA):TE:=fun σ H Q=>t σ H fun xs H1=>xs.length≤sizeLine∧∀p,H1 p=none→Q (.ref p) (upd H1 p (.tup xs))
def TK(t:TA):TE:=fun σ H Q=>t σ H fun xs H1=>xs.length≤sizeLine∧∀p,H1 p=none→Q (.ref p) (upd H1 p (.lst xs))
theorem h_{x1}(h:PA X es t):PE X (.Tuple es x1 pos) (TJ t):=by
 intro pins s σ H Q I hq;refine wpAny_Tuple_spliced (aK (h pos pins s σ H _ I hq) fun us s1 ⟨xs,H1,I1,r,z,q⟩=>⟨by rw [←r.length];exact z,?_⟩)
 have hf:H1 s1.heap.objs.size=none:=I1.ay.fresh (aC _);refine ⟨.ref s1.heap.objs.size,upd H1 s1.heap.objs.size (.tup xs),I1.laid (t':=s1.toks) (fun b u e=>bX _ e) (aC _) ?_,rfl,q _ hf⟩;exact ⟨z,us,r,⟨_,dE _ rfl,rfl,_,rfl⟩⟩
theorem fD(h:PA X es t):PE X (.List es pos) (TK t):=by
 intro pins s σ H Q I hq;refine wpAny_List_spliced (aK (h pos pins s σ H _ I hq) fun us s1 ⟨xs,H1,I1,r,z,q⟩=>⟨by rw [←r.length];exact z,?_⟩)
 have hf:H1 s1.heap.objs.size=none:=I1.ay.fresh (aC _);refine ⟨.ref s1.heap.objs.size,upd H1 s1.heap.objs.size (.lst xs),I1.laid (t':=s1.toks) (fun b u e=>bX _ e) (aC _) ?_,rfl,q _ hf⟩;exact ⟨z,us,0,r,dE _ rfl⟩
end
abbrev Sp:=List V→Hp→VK→XK→Prop
abbrev i9:=List Env→Hp→Shared→XK→Value→Shared→Prop
structure CD (P:Program) (w:World) (K:aF) (mg:dh) (base:Heap) (A:Around) (outer:List Env) (s:Shared) (H:Hp):Prop where
 frames:A.frames=some outer
 mod:Mod K mg base
 bs:∀b o,base.get? b=some o→s.heap.get? b=some o∧H b=none
 j_:base.objs.size≤s.heap.objs.size
 mj:s.heap.FunFrames base outer
 qK:∀b∈di outer,H b=none
 ay:cS P w H s.heap
 bare:AllBare s.gens
def CE(outer:List Env)(P:Program)(w:World)(H:Hp)(s:Shared)(Q:VK)(u:Value)(s':Shared):Prop:=
 ∃v H',s'.os=s.os∧AllBare s'.gens∧Un (di outer) [] H H' s.heap s'.heap∧cS P w H' s'.heap∧RelV v u∧Q v H'
def CR(CX:i9)(outer:List Env)(P:Program)(w:World)(H:Hp)(s:Shared)(Q:VK)(E:XK)(r:Result)(s':Shared):Prop:=
 match r with
 | .ok (.ret u)=>CE outer P w H s Q u s'
 | .ok _=>False
 | .error e=>CX outer H s E e s'
structure bL (P:Program) (w:World) (K:aF) (mg:dh) (base:Heap) (CX:i9) (k:Nat) (f:Addr) (fd:FuncData) (ps:List Str) (sp:Sp):Prop where
 len:∀vs H Q E,sp vs H Q E→vs.length=ps.length
 run:∀(A:Around) (outer:List Env) (s:Shared) (H:Hp) (args:Args) (us:List Value) (vs:List V) (Q:VK) (E:XK),eU k A→CD P w K mg base A outer s H→BindsTo s fd args (ps.zip us)→Vals vs us→sp vs H Q E→
  codeAny (model P w) A (.call (.ref f) args) (CR CX outer P w H s Q E) s
variable {mg:dh} {base:Heap} {CX:i9} {f:Addr} {fd:FuncData} {ps:List Str} {sp:Sp}
theorem bL.imp{LZ:Sp}(F:bL P w K mg base CX k f fd ps sp)
  (h:∀vs H Q E,LZ vs H Q E→sp vs H Q E):bL P w K mg base CX k f fd ps LZ:=
 ⟨fun vs H Q E q=>F.len vs H Q E (h _ _ _ _ q),fun A outer s H args us vs Q E hr he hb hv hs=>F.run A outer s H args us vs Q E hr he hb hv (h _ _ _ _ hs)⟩
section
variable {X:Cx} {pins:aV} {σ:St} {H:Hp} {s s':Shared}
theorem Inv.TL(I:Inv X pins σ H s):CD X.prog X.w X.K X.mg X.base X.A X.stack s H:=
 ⟨I.ok.frames,I.ok.mod,I.bs,b8 I.ok.j_ I.sz,I.stack,I.zL,I.ay,I.bare⟩
theorem Inv.after{Q:VK}(I:Inv X pins σ H s)(h:CE X.stack X.prog X.w H s Q u s'):EP X pins σ Q u s':=by obtain ⟨v,H',os,bare,un,ay,r,q⟩:=h;obtain ⟨hh,g,d,t,TM⟩:=s';obtain rfl:TM=s.os:=os;exact ⟨v,H',I.call (h':=hh) (g':=g) (d':=d) (t':=t) (ch:=[]) un ay bare (fun b z=>absurd z (by simp)),r,q⟩
end
def L0(sp:Sp)(n5:List V)(E:XK)(t:TA):TE:=fun σ H Q=>t σ H fun vs H1=>sp (vs++n5) H1 Q E
def Binds(K:aF)(fd:FuncData)(ps:List Str)(ds:List Value):Prop:=
 ∀(s:Shared) (us:List Value),K.In s.heap→(us++ds).length=ps.length→BindsTo s fd ⟨us,[]⟩ (ps.zip (us++ds))
theorem Binds.all(h:∀us:List Value,us.length=ps.length→bindArgs fd ⟨us,[]⟩=pure (ps.zip us)):Binds K fd ps []:=fun s us _ hl=>by rw [oP] at hl ⊢;exact .of_eq (h us hl)
def Passes(CX:i9)(X:Cx)(E:XK):Prop:=∀(pins:aV) (σ:St) (H:Hp) (s:Shared) (e:Value) (s':Shared),Inv X pins σ H s→CX X.stack H s E e s'→X.xe e s'
section
variable {X:Cx} {CX:i9} {k:Nat} {f C:Addr} {fd:FuncData} {ps:List Str} {sp:Sp} {n5:List V} {ds:List Value} {E:XK} {x m:Str} {p pos apos:Pos} {e o:Expr} {es:List Expr} {ta:TE} {t:TA}
theorem TN{pins:aV}{Q:VK}{vs:List V}(F:bL X.prog X.w X.K X.mg X.base CX k f fd ps sp)(hr:eU k X.A)(hb:Binds X.K fd ps ds)(hd:Vals n5 ds)(hx:Passes CX X E)
  (I:Inv X pins σ H s) (r:Vals vs us) (h:sp (vs++n5) H Q E):wpAny (model X.prog X.w) X.A (call (.ref f) us) (EP X pins σ Q) X.xe s:=by
 have r2:Vals (vs++n5) (us++ds):=r.append hd;have hl:(us++ds).length=ps.length:=by rw [←r2.length];exact F.len _ _ _ _ h
 refine wpAny_call (codeAny_mono (F.run X.A X.stack s H ⟨us,[]⟩ (us++ds) (vs++n5) Q E hr I.TL (hb s us I.fV hl) r2 h) fun r s' hq=>?_);cases r with
 | error e=>exact hx pins σ H s e s' I hq
 | ok fl=>
  cases fl with
  | ret u=>exact I.after hq
  | next=>exact False.elim hq
  | brk=>exact False.elim hq
  | cont=>exact False.elim hq
theorem TQ(F:bL X.prog X.w X.K X.mg X.base CX k f fd ps sp)(hr:eU k X.A)(hg:Gl X x)(hm:X.mg x=some (.ref f))(hk:PySem.W.keepIn X.K (.ref f)=true)(hb:Binds X.K fd ps ds)(hd:Vals n5 ds)(hx:Passes CX X E)
  (ha:PA X (e::es) t) (tD:(x == ("__debug__":Str))=false:=by decide) (he:starEach (e::es) X.env=(false,eval e X.env)::starEach es X.env:=by rfl) (jD:(backTo pos (starEach es X.env)).any (·.1)=false:=by rfl) :
  PE X (.Call (.Name x p) (e::es) [] pos) (L0 sp n5 E t):=by
 intro pins s σ H Q I h;refine vE (F4 I hg hm ?_ tD);refine PySem.W.callWith_K (h₀:=X.base) I.ok.mod.d9 hk (aK (ha pos pins s σ H _ I h) fun us s1 ⟨vs,H1,I1,r,q⟩=>⟨I1.fV,?_⟩) he jD;exact TN F hr hb hd hx I1 r q
theorem a_{j:Nat}(F:bL X.prog X.w X.K X.mg X.base CX k f fd ps sp)(hr:eU j X.A)(hm:X.mg x=some (.ref f))(hk:PySem.W.keepIn X.K (.ref f)=true)(hb:Binds X.K fd ps [])(hx:Passes CX X E)
  (ha:PA X (e::es) t) (hj:k≤j:=by decide) (hg:Gl X x:=by exact rfl) (tD:(x == ("__debug__":Str))=false:=by decide) (he:starEach (e::es) X.env=(false,eval e X.env)::starEach es X.env:=by rfl) (jD:(backTo pos (starEach es X.env)).any (·.1)=false:=by rfl) :
  PE X (.Call (.Name x p) (e::es) [] pos) (L0 sp [] E t):=TQ F (hr.mono hj) hg hm hk hb .nil hx ha tD he jD
end
section
variable {X:Cx} {CX:i9} {k:Nat} {f C:Addr} {fd:FuncData} {ps ks:List Str} {sp:Sp} {E:XK} {x m:Str} {p pos apos L3:Pos} {e o:Expr} {es:List Expr} {TR:List Keyword} {te ta:TE} {t tk:TA} {nm:Option Str}
variable {g:List Value→List Value→List Value} {gV:List V→List V→List V}
end
structure ck (N P:List Str) (sc:Scope):Prop where
 kind:sc.kind=.function
 co:sc.isCoroutine=false
 gen:sc.isGenerator=false
 nd:N.Nodup
 pre:N.take P.length=P
 par:∀x∈P,sc.names.lookup x=some .local∨sc.names.lookup x=some .cell
 TU:∀y∈sc.names,y.2≠.free
variable {N:List Str} {sc:Scope}
theorem cT{P:List Str}(h1:sc.kind=.function:=by rfl)(h2:sc.isCoroutine=false:=by rfl)(h3:sc.isGenerator=false:=by rfl)(h4:N.Nodup:=by decide +kernel)(h5:N.take P.length=P:=by rfl)(h6:∀x∈P,sc.names.lookup x=some .local∨sc.names.lookup x=some .cell:=by decide +kernel)(h7:∀y∈sc.names,y.2≠.free:=by decide +kernel):ck N P sc:=⟨h1,h2,h3,h4,h5,h6,h7⟩
theorem L4{kindOf:Str→Option NameKind}{x:Str}:∀{binds:List (Str×Value)} {m:dh},(∀v,(x,v)∉binds)→bindL kindOf binds m x=m x
 | [],_,_=>rfl
 | (n,v)::r,m,h=>by
  unfold bindL;rw [L4 fun w hw=>h w (cx _ hw)]
  split
  ·have:x≠n:=by rintro rfl;exact h v cG
   simp [this]
  ·rfl
theorem L5{kindOf:Str→Option NameKind}{x:Str}:∀{binds:List (Str×Value)} {m:dh},(∀v,(x,v)∉binds)→bindC kindOf binds m x=m x
 | [],_,_=>rfl
 | (n,v)::r,m,h=>by
  unfold bindC;rw [L5 fun w hw=>h w (cx _ hw)]
  split
  ·rfl
  ·have:x≠n:=by rintro rfl;exact h v cG
   simp [this]
theorem L6{kindOf:Str→Option NameKind}{x:Str}{v:Value}:∀{P:List Str} {vs:List Value} {i:Nat} {m:dh},P.Nodup→P[i]?=some x→vs[i]?=some v→kindOf x=some .local→
  bindL kindOf (P.zip vs) m x=some v
 | [],_,_,_,_,h,_,_=>by simp at h
 | _::_,[],_,_,_,_,h,_=>by simp at h
 | p::P,w::vs,0,m,nd,h1,h2,hk=>by simp at h1 h2;subst h1;subst h2;show bindL kindOf ((p,w)::P.zip vs) m p=_;unfold bindL;rw [L4 fun v hv=>(i3.mp nd).1 (List.of_mem_zip hv).1,ae hk];simp
 | p::P,w::vs,i+1,m,nd,h1,h2,hk=>by show bindL kindOf ((p,w)::P.zip vs) m x=_;unfold bindL;exact L6 (i:=i) (i3.mp nd).2 (by simpa using h1) (by simpa using h2) hk
theorem L7{kindOf:Str→Option NameKind}{x:Str}{v:Value}:∀{P:List Str} {vs:List Value} {i:Nat} {m:dh},P.Nodup→P[i]?=some x→vs[i]?=some v→kindOf x≠some .local→
  bindC kindOf (P.zip vs) m x=some v
 | [],_,_,_,_,h,_,_=>by simp at h
 | _::_,[],_,_,_,_,h,_=>by simp at h
 | p::P,w::vs,0,m,nd,h1,h2,hk=>by simp at h1 h2;subst h1;subst h2;show bindC kindOf ((p,w)::P.zip vs) m p=_;unfold bindC;rw [L5 fun v hv=>(i3.mp nd).1 (List.of_mem_zip hv).1,aa hk];simp
 | p::P,w::vs,i+1,m,nd,h1,h2,hk=>by show bindC kindOf ((p,w)::P.zip vs) m x=_;unfold bindC;exact L7 (i:=i) (i3.mp nd).2 (by simpa using h1) (by simpa using h2) hk
def start(N:List Str)(vs:List V):St:=vs.map some++List.replicate (N.length-vs.length) none
def kX(CX:i9)(P:Program)(w:World)(K:aF)(mg:dh)(base:Heap)(N:List Str)(qual:Str)(scope:Scope)(f:Addr)(cd:Value)(A:Around)(outer:List Env)(s:Shared)(H:Hp)(E:XK):Cx where
 prog:=P
 w:=w
 K:=K
 mg:=mg
 base:=base
 A:=A.deeper (envOfC qual scope s.heap.objs.size f cd)
 N:=N
 s₀:=s
 H₀:=H
 env:=envOfC qual scope s.heap.objs.size f cd
 outer:=outer
 stack:=envOfC qual scope s.heap.objs.size f cd::outer
 ex:=[]
 calm:=true
 fn:=fun _=>true
 pn:=[]
 xe:=fun e s'=>wpAny (model P w) (A.deeper (envOfC qual scope s.heap.objs.size f cd)) (leaving (envOfC qual scope s.heap.objs.size f cd) e) (fun _ iJ=>CX outer H s E e iJ) (fun e' iJ=>CX outer H s E e' iJ) s'
theorem L8{x:Str}(h:sc.names.lookup x=some .cell):∃c,(cellsFrom n sc.names []).lookup x=some c:=by have q:=PySem.W.cellsFrom_some sc.names n [] (.inl h);exact Option.isSome_iff_exists.mp q
variable {qual:Str} {scope:Scope}
theorem TV{cd:Value}{outer:List Env}{s1:Shared}{E:XK}{vs:List V}
  (S:ck N ps scope) (hd:A.handled=none) (e0:CD P w K mg base A outer s H) (hl:vs.length=ps.length) (r:Vals vs us)
  (x:InCallC s s.heap.objs.size (bindL (envOfC qual scope s.heap.objs.size f cd).kindOf (ps.zip us) fun _=>none) (cellsFrom (s.heap.objs.size+1) scope.names []) (bindC (envOfC qual scope s.heap.objs.size f cd).kindOf (ps.zip us) fun _=>none) s1) :
  Inv (kX CX P w K mg base N qual scope f cd A outer s H E) [] (start N vs) H s1:=by
 have jD:ps.length≤N.length:=by have:=dM List.length S.pre;rw [qq] at this;lia
 obtain ⟨h1,tk,rfl,hk⟩:=x.done;have zY:∀b:Addr,b∉(kX CX P w K mg base N qual scope f cd A outer s H E).ex:=fun b z=>absurd (show b∈([]:List Addr) from z) (by simp)
 refine ⟨⟨e0.mod,S.kind,rfl,rfl,aC _,fun y z c h1 h2=>?_,fun y hy=>?_,fun y c _ h=>?_,fun _=>hd,Around.frames_deeper e0.frames,.inr ⟨rfl,rfl⟩,fun b z=>absurd z (zY b),e0.bs,e0.j_,fun b _ _=>zY b,fun b z=>absurd z (zY b),e0.mj,e0.qK⟩,
  rfl,e0.bare,Un.kept hk,⟨_,x.toInCall.ns,fun i y v h1 h2 h3=>?_⟩,fun y c h=>⟨_,x.cell y c h⟩,e0.ay.fresh (aC _),fun y c h=>?_,fun p hp=>absurd (show p∈([]:aV) from hp) (by simp),e0.ay.kept hk,?_⟩
 ·exact name_of_addr x.apart (oQ h1) (oQ h2)
 ·have hy:scope.names.lookup y=some .cell∨scope.names.lookup y=some .free:=hy
  rcases hy with hy | hy;·exact L8 hy
  ·exact absurd rfl (S.TU _ (oQ hy))
 ·exact nE (x.above y c (oQ h))
 ·have hi:i<vs.length:=by
   unfold start at h2;by_cases hi:i<vs.length;·exact hi
   ·rw [iz (by simpa using hi)] at h2
    rw [List.getElem?_replicate] at h2
    split at h2 <;> cases h2
  have ha:vs[i]?=some v:=by
   unfold start at h2;rw [iC (by simpa using hi),bo] at h2
   cases e:vs[i]? with
   | none=>rw [e] at h2;cases h2
   | some a=>rw [e] at h2;cases h2;rfl
  obtain ⟨u,hu,rv⟩:=r.get ha;have hp:ps[i]?=some y:=by rw [←S.pre,List.getElem?_take_of_lt (by lia)];exact h1
  have L9:ps.Nodup:=by rw [←S.pre];exact S.nd.sublist (List.take_sublist _ _)
  refine ⟨u,rv,?_⟩;rcases S.par y (j4 hp) with k | k;·exact .inl ⟨k,L6 L9 hp hu k⟩
  ·obtain ⟨c,e⟩:=L8 (n:=s.heap.objs.size+1) k
   refine .inr ⟨.inl k,c,e,?_⟩;have q:=x.cell y c e;rw [L7 L9 hp hu (by show scope.names.lookup y≠_;rw [k];decide)] at q
   exact q
 ·exact e0.ay.fresh (nE (x.above y c (oQ h)))
 ·unfold start
  show _=N.length;rw [dO,aD,List.length_replicate];lia
theorem Gp{name:Str}{params:Arguments}{body:List Stmt}{dV kV doc pm cI ct oc:Value}{an od:Option Addr}
  {mB:Array (Option Value)} (lk:K.lookup f=some ⟨oc,od,.func (PySem.W.fnOf name qual params body scope dV kV doc pm an cI ct),mB⟩) (fb:PySem.W.codeIn K cI qual=true) (S:ck N ps scope)
  (len:∀vs H Q E,sp vs H Q E→vs.length=ps.length)
  (mC:∀(A:Around) (outer:List Env) (s:Shared) (H:Hp) (vs:List V) (Q:VK) (E:XK),eU k (A.deeper (envOfC qual scope s.heap.objs.size f cI))→sp vs H Q E→
   ∃t,gx (kX CX P w K mg base N qual scope f cI A outer s H E) body t∧t {nx:=fun _ H'=>Q .aR H',rt:=Q} (start N vs) H) :
  bL P w K mg base CX (k+1) f (PySem.W.fnOf name qual params body scope dV kV doc pm an cI ct) ps sp:=by
 refine ⟨len,fun A outer s H args us vs Q E hr e0 hb r n6=>?_⟩;have hl:=len _ _ _ _ n6;have KX:K.In s.heap:=e0.mod.d9.keeps fun b o e=>(e0.bs b o e).1;have lim:s.heap.NoLimit:=e0.mod.nolimit.keeps fun b o e=>(e0.bs b o e).1;have TY:∀y∈ps.zip us,scope.names.lookup y.1=some .local∨(scope.names.lookup y.1=some .cell∧((cellsFrom (s.heap.objs.size+1) scope.names []).lookup y.1).isSome=true):=fun⟨n,v⟩ hy=>by
  rcases S.par n (List.of_mem_zip hy).1 with q | q;·exact .inl q
  ·exact .inr ⟨q,PySem.W.cellsFrom_some _ _ _ (.inl q)⟩
 refine codeAny_call_function hr.depth (KX _ _ lk) rfl S.co S.gen rfl (PySem.W.codeRec_of KX fb) (hb _ _ _ _ ?_);refine wpAny_newFunctionEnv_cells S.kind TY fun env he s1 x=>?_;subst he;refine ⟨lim.keeps x.toInCall.keep,codeAny_func ?_⟩;obtain ⟨t,ht,hq⟩:=mC A outer s H vs Q E (hr.deeper _) n6;have I:Inv (kX CX P w K mg base N qual scope f cI A outer s H E) [] (start N vs) H s1:=TV S hr.hd e0 hl r x;refine cL (ht [] s1 (start N vs) H _ I hq) (fun fl s' hs=>?_) fun e s' hs=>hs;have fin:∀{σ':St} {H':Hp} {v:V} {u:Value},Inv (kX CX P w K mg base N qual scope f cI A outer s H E) [] σ' H' s'→RelV v u→Q v H'→CE outer P w H s Q u s':=
  fun{σ' H' v u} J rv q=>⟨v,H',J.os,J.bare,J.base,J.ay,rv,q⟩
 cases fl with
 | ret u=>obtain ⟨v,σ',H',J,rv,q⟩:=hs;exact fin J rv q
 | next=>obtain ⟨σ',H',J,q⟩:=hs;exact fin (v:=V.aR) (u:=Value.none) J rfl q
 | brk=>obtain ⟨_,_,_,q⟩:=hs;exact False.elim q
 | cont=>obtain ⟨_,_,_,q⟩:=hs;exact False.elim q
section
variable {X:Cx} {x:Str} {p pos:Pos} {e:Expr} {es:List Expr} {t:TA} {id T:String} {r:List V→Hp→VK→Prop}
def CF(r:List V→Hp→VK→Prop)(t:TA):TE:=fun σ H Q=>t σ H fun vs H1=>r vs H1 Q
theorem dg(hc:gy X (.builtin id) r)(hg:Gl X x)(hm:X.mg x=none)(hv:bootBuiltins x=some (.builtin id))(ha:PA X (e::es) t)(hn:x ≠ "__name__":=by decide)(tD:(x == ("__debug__":Str))=false:=by decide)
  (he:starEach (e::es) X.env=(false,eval e X.env)::starEach es X.env:=by rfl) (jD:(backTo pos (starEach es X.env)).any (·.1)=false:=by rfl):PE X (.Call (.Name x p) (e::es) [] pos) (CF r t):=by
 intro pins s σ H Q I h;refine vE (kd I hg hm hv ?_ hn tD);exact PyProof.Rows.callWith_builtin1 (aK (ha pos pins s σ H _ I h) fun us s1 ⟨vs,H1,I1,r1,q1⟩=>hc pins s1 σ H1 vs us Q I1 r1 q1) he jD
theorem iK(hc:gy X (.type T) r)(hg:Gl X x)(hm:X.mg x=none)(hv:bootBuiltins x=some (.type T))(ha:PA X (e::es) t)(hn:x ≠ "__name__":=by decide)(tD:(x == ("__debug__":Str))=false:=by decide)
  (he:starEach (e::es) X.env=(false,eval e X.env)::starEach es X.env:=by rfl) (jD:(backTo pos (starEach es X.env)).any (·.1)=false:=by rfl):PE X (.Call (.Name x p) (e::es) [] pos) (CF r t):=by
 intro pins s σ H Q I h;refine vE (kd I hg hm hv ?_ hn tD);exact vD (aK (ha pos pins s σ H _ I h) fun us s1 ⟨vs,H1,I1,r1,q1⟩=>hc pins s1 σ H1 vs us Q I1 r1 q1) he jD
end
end L2
namespace HT
open PySem PyProof.Rows
def lexLt:List Int→List Int→Bool
 | [],[]=>false
 | [],_::_=>true
 | _::_,[]=>false
 | x::xs,y::ys=>if x=y then lexLt xs ys else decide (x<y)
theorem Gq(x y:Int)(xs ys:List Int):lexLt (x::xs) (y::ys)=if x=y then lexLt xs ys else decide (x<y):=rfl
theorem TZ:lexLt [] []=false:=rfl
theorem T2(y:Int)(ys:List Int):lexLt [] (y::ys)=true:=rfl
theorem T3(x:Int)(xs:List Int):lexLt (x::xs) []=false:=rfl
theorem T5(A:Around)(s:Shared)(a:Int)(t:Tok)(c:Int)(u:Tok):∃e,SeqAt.EqAt A s (.int a t) (.int c u) e∧(e=true↔a=c):=
 ⟨(a == c),SeqAt.EqAt.int_int a t c u,by simp⟩
theorem L_(A:Around)(s:Shared)(a:Int)(t:Tok)(c:Int)(u:Tok)(prog:Program)(w:World)(E:aO)(Q:aO)(h:Q (.bool (decide (a<c))) s) :
  wpAny (model prog w) A (richCompare .Lt (.int a t) (.int c u)) Q E s:=
 (PyProof.Rows.lt_int h:wpAny (model prog w) A (compareOp .Lt (.int a t) (.int c u)) Q E s)
section
open PySem.SeqAt
open PySem.AutoSeq1 (wpAny_loadPart')
open PySem.MeetsSeq PySem.MeetsSeq2 PySem.MeetsSeq3
theorem T6(l b:Addr)(items items2:Array Value)(n n2:Nat)(dd qQ:Option Addr)(sl gT:Array (Option Value))(ns ms:List Int)(hi:IntsAre items.toList ns)(hj:IntsAre items2.toList ms) :
  Meets (Builtin.«tuple.__lt__» ⟨[.ref l,.ref b],[]⟩)
   (fun _ R s=>s.heap.get? l=some {cls:=.type "tuple",dict:=dd,data:=.seq items n,slots:=sl}∧s.heap.get? b=some {cls:=.type "tuple",dict:=qQ,data:=.seq items2 n2,slots:=gT} ∧
    R (.ok (.ret (.bool (lexLt ns ms)))) s):=
 .of_wp fun prog w A R s h=>by
  obtain ⟨hp,g,d,tk,os⟩:=s;obtain ⟨hl,hb,h⟩:=h;have f2:=AutoSeq1.sub_tuple_tuple;have z1:items.size=ns.length:=by rw [←hi.length];simp
  have z2:items2.size=ms.length:=by rw [←hj.length];simp
  wp_walk using wpAny_loadPart' hl,wpAny_loadPart' hb,wpAny_forIn_list _ (fun rest b s'=>b.1=none∧s'=⟨hp,g,d,tk,os⟩∧∃(vs ws:List Value) (kY wq:List Int),rest=vs.zip ws ∧
   IntsAre vs kY∧IntsAre ws wq∧kY.length+items2.size=wq.length+items.size∧R (.ok (.ret (.bool (lexLt kY wq)))) ⟨hp,g,d,tk,os⟩) _
  case turn=>
   rintro ⟨y,x⟩ rest b s' ⟨fO,rfl,vs,ws,kY,wq,hz,Gr,fE,hlen,hR⟩;cases Gr with
   | nil=>rw [List.zip_nil_left] at hz;cases hz
   | cons a t T7=>
    cases fE with
    | nil=>rw [List.zip_nil_right] at hz;cases hz
    | cons c u T8=>
     rw [List.zip_cons_cons] at hz;injection hz with T9 T_;injection T9 with hy hx;subst hy hx;rw [Gq] at hR;simp only [d8] at hlen;obtain ⟨e,he,Ma⟩:=T5 A.in1 ⟨hp,g,d,tk,os⟩ a t c u;refine au (he prog w _ _ ?_);cases e with
     | true=>
      rw [ae (Ma.mp rfl)] at hR
      wp_walk
      exact ⟨rfl,rfl,_,_,_,_,T_,T7,T8,by lia,hR⟩
     | false=>
      rw [aa (fun q=>absurd (Ma.mpr q) dN)] at hR;have Ua:=L_ A.in1 ⟨hp,g,d,tk,os⟩ a t c u prog w
      wp_walk using Ua
      exact ⟨_,rfl,by simpa using hR⟩
  case fin=>
   rintro ⟨b1,b2⟩ s' ⟨fO,rfl,vs,ws,kY,wq,hz,Gr,fE,hlen,hR⟩;simp only at fO;subst fO;have hv:lexLt kY wq=decide (items.size<items2.size):=by
    cases Gr with
    | nil=>
     cases fE with
     | nil=>simp only [vF] at hlen;rw [TZ];exact (bO (by lia)).symm
     | cons c u hw=>simp only [vF,d8] at hlen;rw [T2];exact (bA (by lia)).symm
    | cons a t hv=>
     cases fE with
     | nil=>simp only [vF,d8] at hlen;rw [T3];exact (bO (by lia)).symm
     | cons c u hw=>rw [List.zip_cons_cons] at hz;cases hz
   rw [hv] at hR
   wp_walk
   exact ⟨_,rfl,by simpa [Builtin.Tuple.tupleCompareSizes] using hR⟩
  case h=>exact ⟨rfl,rfl,items.toList,items2.toList,ns,ms,rfl,hi,hj,by lia,h⟩
end
section
variable {prog:Program} {w:World} {A:Around} {E:aO} {s:Shared}
variable {b:Addr} {Q:aO}
theorem Ub{l:Addr}{items items2:Array Value}{ns ms:List Int}(hl:IsTup s.heap l items)(hb:IsTup s.heap b items2)(hi:IntsAre items.toList ns)(hj:IntsAre items2.toList ms)
  (hu:A.units<cLine) (h:Q (.bool (lexLt ns ms)) s):wpAny (model prog w) A (compareOp .Lt (.ref l) (.ref b)) Q E s:=by
 obtain ⟨⟨cls,dd,data,sl⟩,ho,hc,n,hd⟩:=id hl;obtain ⟨⟨Mb,qQ,data2,gT⟩,i_,iL,n2,hd2⟩:=id hb;simp only at hc hd iL hd2;subst hc hd iL hd2
 exact richCompare_meets_room (op:=.Lt) ⟨_,ho,rfl⟩ ⟨_,i_,rfl⟩ PySem.F.slot_tuple_lt PySem.F.entry_tuple_lt (PySem.F.args_tuple_lt_2 _ _) (T6 l b items items2 n n2 dd qQ sl gT ns ms hi hj)
  ⟨ho,i_,show Value.bool (lexLt ns ms)≠Value.notImplemented∧Q (.bool (lexLt ns ms)) s from ⟨(fun x=>nomatch x),h⟩⟩ hu
theorem Uc{t:Addr}{vs ws:List Value}(ht:IsTup s.heap t vs.toArray)(hb:IsTup s.heap b ws.toArray)(hv:vs≠[])
  (h1:ws=[]→Q (.ref t) s) (h2:ws≠[]→Q (.ref s.heap.objs.size) {s with heap:=s.heap.push {cls:=.type "tuple",data:=.seq (vs++ws).toArray}})
  (hsz:vs.length+ws.length≤sizeLine):wpAny (model prog w) A (binaryOp .Add (.ref t) (.ref b)) Q E s:=by
 obtain ⟨⟨cls,dd,data,sl⟩,ho,hc,n,hd⟩:=id ht;obtain ⟨⟨Mb,qQ,data2,gT⟩,i_,iL,n2,hd2⟩:=id hb;simp only at hc hd iL hd2;subst hc hd iL hd2;have e:vs.toArray++ws.toArray=(vs++ws).toArray:=by simp
 by_cases hw:ws=[]
 ·exact concat_meets ⟨_,ho,rfl⟩ ⟨_,i_,rfl⟩ noFill_tuple_add seq_tuple_add FE FF (FG _ _)
   (tuple_addW1 t b vs.toArray ws.toArray n n2 dd qQ sl gT (by simpa using hv) (by simp [hw])) ⟨ho,i_,h1 hw⟩
 ·refine concat_meets ⟨_,ho,rfl⟩ ⟨_,i_,rfl⟩ noFill_tuple_add seq_tuple_add FE FF (FG _ _)
   (tuple_addW2 t b vs.toArray ws.toArray n n2 dd qQ sl gT (by simpa using hv) (by simpa using hw) (by rw [b9,b9];exact hsz)) ⟨ho,i_,?_⟩
  rw [e];exact h2 hw
def gA(n d:Nat):Option Int→Nat
 | none=>d
 | some v=>if v<0 then (v+(n:Int)).toNat else min v.toNat n
theorem Ud(n d:Nat):gA n d none=d:=rfl
theorem Ue(n d k:Nat):gA n d (some (k:Int))=min k n:=by
 show (if (k:Int)<0 then ((k:Int)+(n:Int)).toNat else min (k:Int).toNat n)=min k n
 rw [aa (by lia),cZ]
end
end HT
namespace L2
open PySem PySem.Spec PyProof.Rows
abbrev TO:=St→Hp→(Option Int→Hp→Prop)→Prop
def PO(X:Cx)(e:Option Expr)(t:TO):Prop:=
 ∀(pins:aV) (s:Shared) (σ:St) (H:Hp) (Q:Option Int→Hp→Prop),Inv X pins σ H s→t σ H Q→
  wpAny (model X.prog X.w) X.A (evalPart e X.env) (fun u s'=>∃o H',Inv X pins σ H' s'∧IsPart u o∧Q o H') X.xe s
def Ug:TO:=fun _ H Q=>Q none H
def Uh(t:TE):TO:=fun σ H Q=>t σ H fun x H1=>∃i,x=.int i∧Q (some i) H1
theorem intsAre_of{ns:List Int}:∀{us:List Value},Vals (ns.map V.int) us→IntsAre us ns:=by
 induction ns with
 | nil=>intro us r;rw [y_] at r;cases r;exact .nil
 | cons n ns ih=>
  intro us r;rw [du] at r;cases r with
  | cons r1 r2=>obtain ⟨t,e⟩:=r1;subst e;exact .cons n t (ih r2)
section
variable {X:Cx} {e:Expr} {te:TE} {lo hi:Option Expr} {tl th:TO} {pos p2:Pos}
theorem Mc:PO X none Ug:=by intro pins s σ H Q I h;rw [evalPart_none];exact a8 ⟨none,H,I,.none,h⟩
theorem Md(h:PE X e te):PO X (some e) (Uh te):=by intro pins s σ H Q I hw;rw [evalPart_some];refine aK (h pins s σ H _ I hw) fun u s1 ⟨x,H1,I1,r1,q1⟩=>?_;obtain ⟨i,rfl,q⟩:=q1;obtain ⟨t,rfl⟩:=r1;exact ⟨some i,H1,I1,.int i t,q⟩
def Me(X:Cx)(r:V→Option Int→Option Int→Hp→VK→Prop):Prop:=
 ∀(pins:aV) (s:Shared) (σ:St) (H:Hp) (x:V) (v vl vu:Value) (lo hi:Option Int) (sl:Addr) (Q:VK),Inv X pins σ H s→RelV x v→s.heap.IsSliceOf sl vl vu .none→IsPart vl lo→IsPart vu hi→r x lo hi H Q→
  ∃T id,typeLookup (.type T) "__getitem__"=pure (some (.builtin id))∧s.TypeIs v T∧wpAny (model X.prog X.w) X.A (getItem v (.ref sl)) (EP X pins σ Q) X.xe s
def Ui(r:V→Option Int→Option Int→Hp→VK→Prop)(te:TE)(tl th:TO):TE:=fun σ H Q=>te σ H fun x H1=>tl σ H1 fun l H2=>th σ H2 fun u H3=>r x l u H3 Q
theorem Mf{r:V→Option Int→Option Int→Hp→VK→Prop}(hr:Me X r)(he:PE X e te)(hl:PO X lo tl)(hu:PO X hi th):PE X (.Subscript e (.Slice lo hi none p2) pos) (Ui r te tl th):=by intro pins s σ H Q I h;refine Subscript_ (aK (he pins s σ H _ I h) fun v s1 ⟨x,H1,I1,r1,q1⟩=>?_);refine wpAny_Slice (aK (hl pins s1 σ H1 _ I1 q1) fun vl s2 ⟨l,H2,I2,pl,q2⟩=>aK (hu pins s2 σ H2 _ I2 q2) fun vu s3 ⟨u,H3,I3,pu,q3⟩=>?_);rw [evalPart_none];refine a8 ?_;have I4:Inv X pins σ H3 {s3 with heap:=s3.heap.push {cls:=.type "slice",data:=.fields #[vl,vu,.none]}}:=I3.kept (t':=s3.toks) fun b ob q=>bX _ q;obtain ⟨T,id,hT,ht,hg⟩:=hr pins {s3 with heap:=s3.heap.push {cls:=.type "slice",data:=.fields #[vl,vu,.none]}} σ H3 x v vl vu l u s3.heap.objs.size Q I4 r1 (Heap.IsSliceOf.new ..) pl pu q3;show wpAny (model X.prog X.w) X.A (subscriptTail e (.Slice lo hi none p2) v (.ref s3.heap.objs.size)) (EP X pins σ Q) X.xe {s3 with heap:=s3.heap.push {cls:=.type "slice",data:=.fields #[vl,vu,.none]}};exact tail_any (ops:=[.ref s3.heap.objs.size,v]) ht hT hg (by with_unfolding_all rfl)
def kZ(xs:List V)(lo hi:Option Int):List V:=(xs.drop (HT.gA xs.length 0 lo)).take (HT.gA xs.length xs.length hi-HT.gA xs.length 0 lo)
theorem Uj(xs:List V)(lo hi:Option Int):(kZ xs lo hi).length≤xs.length:=by unfold kZ;rw [qq,B0];lia
def Uk(K:aF):R2:=fun x y H Q=>∃a b xs ys,x=.ref a∧y=.ref b∧eG K H a xs∧eG K H b ys∧xs≠[]∧xs.length+ys.length≤sizeLine ∧
 (ys=[]→Q (.ref a) H)∧(ys≠[]→∀p,H p=none→Q (.ref p) (upd H p (.tup (xs++ys))))
theorem Vals.CG{xs:List V}{us:List Value}(r:Vals xs us):us=[]↔xs=[]:=by
 cases r with
 | nil=>simp
 | cons _ _=>simp
theorem Ul:cX X (binaryOp .Add) (Uk X.K):=by
 intro pins s σ H x y v u Q I rx ry h;obtain ⟨a,b,xs,ys,rfl,rfl,ha,hb,hx,hz,q1,q2⟩:=h;cases rx;cases ry;obtain ⟨its,r1,p1,_⟩:=I.tuple ha;obtain ⟨jE,r2,p2,_⟩:=I.tuple hb;refine HT.Uc p1 p2 (fun z=>hx (r1.CG.mp z)) (fun z=>⟨.ref a,H,I,rfl,q1 (r2.CG.mp z)⟩) (fun z=>?_) (by rw [←r1.length,←r2.length];exact hz)
 refine ⟨.ref s.heap.objs.size,_,I.laid (t':=s.toks) (o:=.tup (xs++ys)) (fun b ob q=>bX _ q) (aC _) ?_,rfl,q2 (fun w=>z (r2.CG.mpr w)) _ (I.ay.fresh (aC _))⟩;exact ⟨by rw [dO];exact hz,_,r1.append r2,IsTup.new _ _⟩
end
def n8(n:Nat)(i:Int):Option Nat:=if 0≤i then (if i<n then some i.toNat else none) else if -(n:Int)≤i then some (i+n).toNat else none
def k4{α:Type}(xs:List α)(i:Int):Option α:=(n8 xs.length i).bind fun j=>xs[j]?
variable {i:Int} {j:Nat}
theorem Mg{n:Nat}(h:n8 n i=some j):seqIndex? i n=some j∧j<n∧-(n:Int)≤i∧i<n:=by
 unfold n8 at h;by_cases h0:0≤i
 ·rw [ae h0] at h
  by_cases h1:i<n
  ·rw [ae h1] at h
   have e:i.toNat=j:=Option.some.inj h;exact ⟨by rw [seqIndex_of h0 h1,e],by lia,by lia,h1⟩
  ·rw [aa h1] at h;cases h
 ·rw [aa h0] at h
  by_cases h1:-(n:Int)≤i
  ·rw [ae h1] at h
   have e:(i+n).toNat=j:=Option.some.inj h;exact ⟨by rw [seqIndex_neg (by lia) h1,e],by lia,h1,by lia⟩
  ·rw [aa h1] at h;cases h
theorem Gs{α:Type}{xs:List α}{v:α}(h:k4 xs i=some v):∃j,seqIndex? i xs.length=some j∧xs[j]?=some v∧j<xs.length∧-(xs.length:Int)≤i∧i<xs.length:=by
 unfold k4 at h;cases e:n8 xs.length i with
 | none=>rw [e] at h;cases h
 | some j=>rw [e] at h;obtain ⟨h1,h2,h3,h4⟩:=Mg e;exact ⟨j,h1,h,h2,h3,h4⟩
theorem n_{α:Type}{xs:List α}{v:α}(h:xs[j]?=some v):k4 xs (j:Int)=some v:=by
 have hj:j<xs.length:=(bJ.mp h).1;have e:n8 xs.length (j:Int)=some j:=by unfold n8;rw [ae (by lia),ae (by lia)];simp
 unfold k4;rw [e];exact h
def Mh(b:Expr):Prop:=∀o i,subscripted b false o i=operate [o,i] (getItem o i)
def wu(X:Cx)(r:R2):Prop:=
 ∀(value slice:Expr) (pins:aV) (s:Shared) (σ:St) (H:Hp) (x y:V) (v u:Value) (Q:VK),Inv X pins σ H s→RelV x v→RelV y u→r x y H Q→
  subscripted slice false v u=operate [v,u] (getItem v u)→wpAny (model X.prog X.w) X.A (subscriptTail value slice v u) (EP X pins σ Q) X.xe s
def Mi(X:Cx)(id:String)(r:V→List V→Hp→VK→Prop):Prop:=
 ∀(pins:aV) (s:Shared) (σ:St) (H:Hp) (x:V) (xs:List V) (v:Value) (us:List Value) (Q:VK),Inv X pins σ H s→RelV x v→Vals xs us→r x xs H Q→
  wpAny (model X.prog X.w) X.A (call (.builtin id) (v::us)) (EP X pins σ Q) X.xe s
section
variable {X:Cx} {a b:Expr} {ta tb:TE} {pos:Pos}
variable {r:R2}
theorem Um(hr:wu X r)(ha:PE X a ta)(hb:PE X b tb)(hs:Mh b):PE X (.Subscript a b pos) (pD r ta tb):=by intro pins s σ H Q I h;exact Subscript_ (Gf ha hb I h fun v u s2 x y H2 I2 rx ry q=>hr a b pins s2 σ H2 x y v u Q I2 rx ry q (hs _ _))
theorem bj(hr:wu X r)(ha:PE X a ta)(hb:PE X b tb)(hs:Mh b:=by exact fun _ _=>rfl):PE X (.Subscript a b pos) (pD r ta tb):=Um hr ha hb hs
def Gu(K:aF):R2:=fun x y H Q=>∃p xs i v,x=.ref p∧y=.int i∧aZ K H p xs∧k4 xs i=some v∧Q v H
def Mj(K:aF):R2:=fun x y H Q=>∃p xs i v,x=.ref p∧y=.int i∧eG K H p xs∧k4 xs i=some v∧Q v H
theorem dR:wu X (Gu X.K):=by
 intro value slice pins s σ H x y v u Q I rx ry h hs;obtain ⟨p,xs,i,z,rfl,rfl,hq,he,q⟩:=h;cases rx;obtain ⟨t,rfl⟩:=ry;obtain ⟨its,r,pl,hz⟩:=I.list hq;obtain ⟨j,h1,h2,h3,h4,h5⟩:=Gs he;obtain ⟨w,ew,ic⟩:=r.get h2;have hl:=r.length;have hn:=wj;have fin:EP X pins σ Q w s:=⟨z,H,I,ic,q⟩;by_cases h0:0≤i
 ·have hj:i.toNat=j:=by rw [seqIndex_of h0 h5] at h1;exact Option.some.inj h1
  exact item_listR pl.isList h0 (by lia) (by rw [hj];simpa using ew) fin hs
 ·have hj:(i+(its.toArray.size:Int)).toNat=j:=by
   rw [seqIndex_neg (by lia) h4] at h1
   rw [b9,←hl];exact Option.some.inj h1
  exact subscriptTail_builtinR (x:=w) pl.isList.typeIs slot_list_getitem.lookup
   (wpAny_getItem_list_neg (Q:=fun r s'=>r=w∧EP X pins σ Q r s') pl.isList (by lia) (by rw [b9] <;> lia) (by lia) (by rw [hj];simpa using ew) ⟨rfl,fin⟩) hs
theorem eV:wu X (Mj X.K):=by
 intro value slice pins s σ H x y v u Q I rx ry h hs;obtain ⟨p,xs,i,z,rfl,rfl,hq,he,q⟩:=h;cases rx;obtain ⟨t,rfl⟩:=ry;obtain ⟨its,r,pl,hz⟩:=I.tuple hq;obtain ⟨j,h1,h2,h3,h4,h5⟩:=Gs he;obtain ⟨w,ew,ic⟩:=r.get h2;have hl:=r.length;have hn:=wj;have fin:EP X pins σ Q w s:=⟨z,H,I,ic,q⟩
 exact subscriptTail_builtinR (x:=w) pl.typeIs slot_tuple_getitem.lookup
  (getItem_tuple (j:=j) (Q:=fun r s'=>r=w∧EP X pins σ Q r s') pl (by lia) (by lia) (by rw [b9,←hl];exact h1) (by simpa using ew) ⟨rfl,fin⟩) hs
theorem Uo(its:List Value)(n j:Nat)(u:Value):Obj.mapSeq (·.setIfInBounds j u) {cls:=.type "list",data:=.seq its.toArray n}={cls:=.type "list",data:=.seq (its.set j u).toArray n}:=by simp [Obj.mapSeq]
theorem Inv.lst{pins:aV}{σ:St}{H:Hp}{s:Shared}{p:Addr}{xs:List V}(I:Inv X pins σ H s)(h:H p=some (.lst xs)) :
  ∃(its:List Value) (n:Nat),Vals xs its∧s.heap.get? p=some {cls:=.type "list",data:=.seq its.toArray n}∧xs.length≤sizeLine:=by
 obtain ⟨z,its,n,r,e⟩:=I.ay p _ h;exact ⟨its,n,r,e,z⟩
variable {pins:aV} {σ:St} {H:Hp} {s:Shared}
theorem Inv.Up{p:Addr}{xs ys:List V}{its its':List Value}{n n':Nat}{f:Obj→Obj}(I:Inv X pins σ H s)(h:H p=some (.lst xs))
  (ho:s.heap.get? p=some {cls:=.type "list",data:=.seq its.toArray n}) (hf:f {cls:=.type "list",data:=.seq its.toArray n}={cls:=.type "list",data:=.seq its'.toArray n'}) (r:Vals ys its') (hz:ys.length≤sizeLine) (t:Nat) :
  Inv X pins σ (upd H p (.lst ys)) {s with heap:=s.heap.update p f,toks:=t}:=by
 have e:(s.heap.update p f).get? p=some {cls:=.type "list",data:=.seq its'.toArray n'}:=by rw [Heap.get?_update_self f ho (by rw [hf] <;> rfl),hf]
 refine I.write (x:=p) (e:=p) (by rw [h];trivial) (.inl rfl) (fun b u hb q=>(FH _ _ (Ne.symm hb)).trans q) ⟨_,e⟩ ?_
 exact ⟨hz,its',n',r,e⟩
def Uq:V→V→V→Hp→(Hp→Prop)→Prop:=fun o i v H Q=>∃p xs k j,o=.ref p∧i=.int k∧H p=some (.lst xs)∧n8 xs.length k=some j∧Q (upd H p (.lst (xs.set j v)))
theorem set_list:F_ X Uq:=by
 intro pins s σ H o i v ov iv u Q I ro ri rv h;obtain ⟨p,xs,k,j,rfl,rfl,hp,hj,q⟩:=h;cases ro;obtain ⟨t,rfl⟩:=ri;obtain ⟨its,n,r,ho,hz⟩:=I.lst hp;obtain ⟨h1,h2,h3,h4⟩:=Mg hj;have hl:=r.length;have hn:=wj;have I':Inv X pins σ (upd H p (.lst (xs.set j v))) {s with heap:=s.heap.update p (Obj.mapSeq (·.setIfInBounds j u))}:=
  I.Up hp ho (Uo its n j u) (r.set rv j) (by rw [List.length_set];exact hz) s.toks
 by_cases h0:0≤k
 ·have hk:k.toNat=j:=by rw [seqIndex_of h0 h4] at h1;exact Option.some.inj h1
  exact PySem.W.ki_setAt ho h0 (by lia) (by rw [b9,←hl];exact h4) (by rw [hk];exact ⟨_,I',q⟩)
 ·have hk:(k+(its.toArray.size:Int)).toNat=j:=by
   rw [seqIndex_neg (by lia) h3] at h1
   rw [b9,←hl];exact Option.some.inj h1
  exact PySem.W.ki_setBack ho (by lia) (by rw [b9,←hl];exact h3) (by lia) (by rw [hk];exact ⟨_,I',q⟩)
theorem Ur(lo hi:Option Int)(n:Nat):(sliceBounds lo hi none n).1=((HT.gA n 0 lo:Nat):Int)∧(sliceBounds lo hi none n).2.1=((HT.gA n n hi:Nat):Int)∧(sliceBounds lo hi none n).2.2=1:=by
 refine ⟨?_,?_,rfl⟩
 ·cases lo with
  | none=>simp [sliceBounds,HT.gA]
  | some i=>
   simp only [sliceBounds,HT.gA,Option.getD_none,show (1:Int)>0 by decide,j6]
   by_cases h:i<0;·simp only [h,j6] <;> lia
   ·simp only [h,oR] <;> lia
 ·cases hi with
  | none=>simp [sliceBounds,HT.gA]
  | some i=>
   simp only [sliceBounds,HT.gA,Option.getD_none,show (1:Int)>0 by decide,j6]
   by_cases h:i<0;·simp only [h,j6] <;> lia
   ·simp only [h,oR] <;> lia
theorem Us(its:List Value)(lo hi:Option Int):slicePick its.toArray lo hi none=((its.drop (HT.gA its.length 0 lo)).take (HT.gA its.length its.length hi-HT.gA its.length 0 lo)).toArray:=by obtain ⟨h1,h2,h3⟩:=Ur lo hi its.toArray.size;unfold slicePick;rw [h1,h2,h3];simp only [sliceRange_one,pick_run,b9] <;> rfl
def Ut(K:aF):V→Option Int→Option Int→Hp→VK→Prop:=fun x lo hi H Q=>∃a xs,x=.ref a∧aZ K H a xs∧∀p,H p=none→Q (.ref p) (upd H p (.lst (kZ xs lo hi)))
theorem Mk:Me X (Ut X.K):=by
 intro pins s σ H x v vl vu lo hi sl Q I rx hs pl pu h;obtain ⟨a,xs,rfl,hx,q⟩:=h;cases rx;obtain ⟨its,r,ht,hz⟩:=I.list hx;have hlen:=r.length;refine ⟨"list",_,slot_list_getitem.lookup,ht.isList.typeIs,?_⟩;refine wpAny_getItem_list_slice ht.isList hs pl pu .none (by simp) ?_ (by rw [b9] <;> lia)
 rw [Us,←hlen];refine ⟨.ref s.heap.objs.size,_,I.laid (t':=s.toks) (o:=.lst (kZ xs lo hi)) (fun b ob q=>bX _ q) (aC _) ?_,rfl,q _ (I.ay.fresh (aC _))⟩;exact ⟨b8 (Uj xs lo hi) hz,_,0,(r.drop (HT.gA xs.length 0 lo)).take (HT.gA xs.length xs.length hi-HT.gA xs.length 0 lo),dE _ rfl⟩
def jF:V→Bool
 | .aR=>true
 | .bl _=>true
 | .int _=>true
 | .str _=>true
 | _=>false
def fj:V→V→Bool
 | .aR,.aR=>true
 | .bl a,.bl b=>a == b
 | .bl a,.int b=>(if a then 1 else 0) == b
 | .int a,.bl b=>a == (if b then 1 else 0)
 | .int a,.int b=>a == b
 | .str a,.str b=>a == b
 | _,_=>false
variable {y x:V} {u:Value}
theorem qR{A:Around}{v:Value}(ry:RelV y u)(rx:RelV x v)(fy:jF y=true)(fx:jF x=true):SeqAt.EqAt A s u v (fj y x):=by
 cases y with
 | aR=>
  cases ry;cases x with
  | aR=>cases rx;exact SeqAt.EqAt.same _
  | bl b=>cases rx;exact SeqAt.EqAt.none_bool b
  | int b=>obtain ⟨t,rfl⟩:=rx;exact SeqAt.EqAt.none_int b t
  | str b=>obtain ⟨t,rfl⟩:=rx;exact SeqAt.EqAt.none_str b t
  | _=>exact absurd (show false=true from fx) dN
 | bl a=>
  cases ry;cases x with
  | aR=>cases rx;exact SeqAt.EqAt.bool_none a
  | bl b=>cases rx;exact SeqAt.EqAt.bool_bool a b
  | int b=>obtain ⟨t,rfl⟩:=rx;exact SeqAt.EqAt.bool_int a b t
  | str b=>obtain ⟨t,rfl⟩:=rx;exact SeqAt.EqAt.bool_str a b t
  | _=>exact absurd (show false=true from fx) dN
 | int a=>
  obtain ⟨t',rfl⟩:=ry;cases x with
  | aR=>cases rx;exact SeqAt.EqAt.int_none a t'
  | bl b=>cases rx;exact SeqAt.EqAt.int_bool a t' b
  | int b=>obtain ⟨t,rfl⟩:=rx;exact SeqAt.EqAt.int_int a t' b t
  | str b=>obtain ⟨t,rfl⟩:=rx;exact SeqAt.EqAt.int_str a t' b t
  | _=>exact absurd (show false=true from fx) dN
 | str a=>
  obtain ⟨t',rfl⟩:=ry;cases x with
  | aR=>cases rx;exact SeqAt.EqAt.str_none a t'
  | bl b=>cases rx;exact SeqAt.EqAt.str_bool a t' b
  | int b=>obtain ⟨t,rfl⟩:=rx;exact SeqAt.EqAt.str_int a t' b t
  | str b=>obtain ⟨t,rfl⟩:=rx;exact SeqAt.EqAt.str_str a t' b t
  | _=>exact absurd (show false=true from fx) dN
 | _=>exact absurd (show false=true from fy) dN
def ja(x:V)(u:Value):Bool:=match u with
 | .none=>fj .aR x
 | .bool b=>fj (.bl b) x
 | .int i _=>fj (.int i) x
 | .str z _=>fj (.str z) x
 | _=>false
theorem Ml(r:RelV y u)(f:jF y=true):ja x u=fj y x:=by
 cases y with
 | aR=>cases r;rfl
 | bl b=>cases r;rfl
 | int i=>obtain ⟨t,rfl⟩:=r;rfl
 | str z=>obtain ⟨t,rfl⟩:=r;rfl
 | _=>exact absurd (show false=true from f) dN
theorem zZ{x:V}:∀{xs:List V} {us:List Value},Vals xs us→xs.all jF=true→us.any (ja x)=xs.any fun y=>fj y x
 | _,_,.nil,_=>rfl
 | y::xs,u::us,.cons r t,f=>by rw [List.all_cons,kO] at f;rw [za,za,Ml r f.1,zZ t f.2]
theorem z8{A:Around}{s:Shared}{x:V}{v:Value}(rx:RelV x v)(fx:jF x=true):∀{xs:List V} {us:List Value},Vals xs us→xs.all jF=true→∀u∈us,SeqAt.EqAt A s u v (ja x u)
 | _,_,.nil,_=>fun u hu=>by cases hu
 | y::xs,u::us,.cons r t,f=>fun u' hu=>by
  rw [List.all_cons,kO] at f;rcases bw.mp hu with rfl | hu;·rw [Ml r f.1];exact qR r rx f.1 fx
  ·exact z8 rx fx t f.2 u' hu
def mE(x:V)(xs:List V):Bool:=xs.any fun y=>fj y x
def CH(K:aF)(neg:Bool):R2:=fun x y H Q=>∃p xs,y=.ref p∧(aZ K H p xs∨eG K H p xs)∧jF x=true∧xs.all jF=true∧Q (.bl (if neg then !mE x xs else mE x xs)) H
theorem Mm:cX X (compareOp .In) (CH X.K false):=by
 intro pins s σ H x y v u Q I rx ry h;obtain ⟨p,xs,rfl,hq,fx,fs,q⟩:=h;cases ry;rcases hq with hq | hq
 ·obtain ⟨its,r,pl,hz⟩:=I.list hq
  refine SeqAt.in_listAt (ja x) pl.isList (fun w hw=>z8 rx fx r fs w (by simpa using hw)) ⟨.bl _,H,I,rfl,?_⟩
  rw [show its.toArray.any (ja x)=its.any (ja x) by simp,zZ r fs]
  exact q
 ·obtain ⟨its,r,pl,hz⟩:=I.tuple hq
  refine SeqAt.in_tupleAt (ja x) pl (fun w hw=>z8 rx fx r fs w (by simpa using hw)) ⟨.bl _,H,I,rfl,?_⟩
  rw [show its.toArray.any (ja x)=its.any (ja x) by simp,zZ r fs]
  exact q
theorem Uu:cX X (compareOp .NotIn) (CH X.K true):=by
 intro pins s σ H x y v u Q I rx ry h;obtain ⟨p,xs,rfl,hq,fx,fs,q⟩:=h;cases ry;rcases hq with hq | hq
 ·obtain ⟨its,r,pl,hz⟩:=I.list hq
  refine SeqAt.notIn_listAt (ja x) pl.isList (fun w hw=>z8 rx fx r fs w (by simpa using hw)) ⟨.bl _,H,I,rfl,?_⟩
  rw [show its.toArray.any (ja x)=its.any (ja x) by simp,zZ r fs]
  exact q
 ·obtain ⟨its,r,pl,hz⟩:=I.tuple hq
  refine SeqAt.notIn_tupleAt (ja x) pl (fun w hw=>z8 rx fx r fs w (by simpa using hw)) ⟨.bl _,H,I,rfl,?_⟩
  rw [show its.toArray.any (ja x)=its.any (ja x) by simp,zZ r fs]
  exact q
theorem jG:gy X (.builtin "len") (fun xs H Q=>∃p ys,xs=[.ref p]∧(aZ X.K H p ys∨eG X.K H p ys)∧Q (.int ys.length) H):=by
 intro pins s σ H xs us Q I r h;obtain ⟨p,ys,rfl,hq,q⟩:=h;obtain ⟨u,rfl,rx⟩:=vals1 r;cases rx;have hn:=wj;rcases hq with hq | hq
 ·obtain ⟨its,r',pl,hz⟩:=I.list hq
  have hlen:=r'.length;exact Calls.call_len_list pl.isList (by simp only [b9] <;> lia) ⟨.int ys.length,H,I.tok _,⟨s.toks+1,by rw [b9,hlen]⟩,q⟩
 ·obtain ⟨its,r',pl,hz⟩:=I.tuple hq
  have hlen:=r'.length;exact len_tuple pl (by simp only [b9] <;> lia) ⟨.int ys.length,H,I.tok _,⟨s.toks+1,by rw [b9,hlen]⟩,q⟩
theorem Uv:gy X (.type "list") (fun xs H Q=>∃p ys,xs=[.ref p]∧(aZ X.K H p ys∨eG X.K H p ys)∧∀l,H l=none→Q (.ref l) (upd H l (.lst ys))):=by
 intro pins s σ H xs us Q I r h;obtain ⟨p,ys,rfl,hq,q⟩:=h;obtain ⟨u,rfl,rx⟩:=vals1 r;cases rx
 have fin:∀(its:List Value),Vals ys its→ys.length≤sizeLine→∀(h':Heap) (c':Nat),(∀b o',s.heap.get? b=some o'→h'.get? b=some o')→
   h'.get? s.heap.objs.size=some {cls:=.type "list",dict:=none,data:=.seq its.toArray c',slots:=#[]}→EP X pins σ Q (.ref s.heap.objs.size) {s with heap:=h'}:=fun its r' hz h' c' kp e=>
  ⟨.ref s.heap.objs.size,_,I.laid (t':=s.toks) kp (aC _) (show cj X.prog X.w _ h' _ (.lst ys) from ⟨hz,its,c',r',e⟩),rfl,q _ (I.ay.fresh (aC _))⟩
 rcases hq with hq | hq
 ·obtain ⟨its,r',pl,hz⟩:=I.list hq
  have hlen:=r'.length;obtain ⟨o,ho,hc,n,hd⟩:=pl.isList;exact call_list_seq p (.inl rfl) ho hc hd (fun h' c' kp e=>fin its r' hz h' c' kp e) (by simp only [b9] <;> lia)
 ·obtain ⟨its,r',pl,hz⟩:=I.tuple hq
  have hlen:=r'.length;obtain ⟨o,ho,hc,n,hd⟩:=pl;exact call_list_seq p (.inr rfl) ho hc hd (fun h' c' kp e=>fin its r' hz h' c' kp e) (by simp only [b9] <;> lia)
theorem CI:gy X (.type "tuple") (fun xs H Q=>∃p ys,xs=[.ref p]∧((aZ X.K H p ys∧∀l,H l=none→Q (.ref l) (upd H l (.tup ys)))∨(eG X.K H p ys∧Q (.ref p) H))):=by
 intro pins s σ H xs us Q I r h;obtain ⟨p,ys,rfl,h⟩:=h;obtain ⟨u,rfl,rx⟩:=vals1 r;cases rx;rcases h with ⟨hq,q⟩ | ⟨hq,q⟩
 ·obtain ⟨its,r',pl,hz⟩:=I.list hq
  have hlen:=r'.length;refine call_tuple_list pl.isList (fun h' kp=>?_) (by simp only [b9] <;> lia)
  have I1:Inv X pins σ H {s with heap:=h'}:=I.kept (t':=s.toks) kp;have I2:Inv X pins σ (upd H h'.objs.size (.tup ys)) {s with heap:=h'.push {cls:=.type "tuple",data:=.seq its.toArray}}:=
   I1.laid (t':=s.toks) (fun b o e=>bX _ e) (aC _) (show cj X.prog X.w _ _ _ (.tup ys) from ⟨hz,its,r',IsTup.new _ _⟩)
  exact ⟨.ref h'.objs.size,_,I2,rfl,q _ (I1.ay.fresh (aC _))⟩
 ·obtain ⟨its,r',pl,hz⟩:=I.tuple hq
  exact call_tuple_same pl ⟨.ref p,H,I,rfl,q⟩
def CJ(K:aF)(T:String)(x:V)(H:Hp):Prop:=match x with
 | .str _=>T="str"
 | .int _=>T="int"
 | .ref p=>(T="list"∧∃xs,aZ K H p xs)∨(T="tuple"∧∃o,K.lookup p=some o∧o.cls=.type "tuple"∧o.dict=none) ∨
   (T="dict"∧((∃kvs,H p=some (.dK kvs))∨∃kvs,H p=some (.dT kvs)))∨(T="set"∧∃S n,H p=some (.set S n))
 | _=>False
theorem Gv{T:String}{v:Value}(I:Inv X pins σ H s)(r:RelV x v)(ty:CJ X.K T x H) :
  s.TypeIs v T∧∀a,v=.ref a→∃ob,s.heap.get? a=some ob∧ob.dict=none:=by
 cases x with
 | str z=>obtain ⟨t,rfl⟩:=r;cases (show T="str" from ty);exact ⟨typeIs_str s z t,fun _ e=>nomatch e⟩
 | int i=>obtain ⟨t,rfl⟩:=r;cases (show T="int" from ty);exact ⟨typeIs_int s i t,fun _ e=>nomatch e⟩
 | ref p=>
  cases r;rcases ty with ⟨rfl,xs,hq⟩ | ⟨rfl,o,hk,hc,hd⟩ | ⟨rfl,hk⟩ | ⟨rfl,S,n,hk⟩
  ·obtain ⟨its,_,pl,_⟩:=I.list hq
   refine ⟨pl.isList.typeIs,fun a e=>?_⟩;cases e;obtain ⟨o,n,e,c,hd,_⟩:=pl;exact ⟨o,e,hd⟩
  ·refine ⟨⟨o,I.fV p o hk,hc⟩,fun a e=>?_⟩
   cases e;exact ⟨o,I.fV _ o hk,hd⟩
  ·have z:∃o,s.heap.get? p=some o∧o.ExactDict:=by
    rcases hk with ⟨kvs,hk⟩ | ⟨kvs,hk⟩
    ·obtain ⟨_,_,_,_,o,_,_,e,ex,_⟩:=I.ay p _ hk
     exact ⟨o,e,ex⟩
    ·obtain ⟨_,_,_,_,o,_,_,e,ex,_⟩:=I.ay p _ hk
     exact ⟨o,e,ex⟩
   obtain ⟨o,e,ex⟩:=z;refine ⟨⟨o,e,ex.1⟩,fun a e2=>?_⟩;cases e2;exact ⟨o,e,ex.2.1⟩
  ·obtain ⟨o,_,_,_,e,ex,_⟩:=I.ay p _ hk
   refine ⟨⟨o,e,ex.1⟩,fun a e2=>?_⟩;cases e2;exact ⟨o,e,ex.2.1⟩
 | _=>exact False.elim ty
def Uw(K:aF)(T:String)(r:V→List V→Hp→VK→Prop)(to:TE):TE:=fun σ H Q=>to σ H fun x H1=>CJ K T x H1∧r x [] H1 Q
def Ux(K:aF)(T:String)(r:V→List V→Hp→VK→Prop)(to:TE)(t:TA):TE:=fun σ H Q=>to σ H fun x H1=>CJ K T x H1∧t σ H1 fun xs H2=>r x xs H2 Q
variable {o e:Expr} {es:List Expr} {to:TE} {t:TA} {name:Str} {apos gU:Pos} {T id:String} {r:V→List V→Hp→VK→Prop}
theorem Uy(pa:PlainAttrs T)(slot:Slot T name id)(Gw:typeOf (.builtin id)=pure (.type "method_descriptor"))(hm:Mi X id r)(ho:PE X o to)
  (z9:attributeBase o name X.env (eval o X.env)=eval o X.env:=by rfl) (z_:(apos.endLine == gU.line)=true:=by rfl):PE X (.Call (.Attribute o name apos) [] [] gU) (Uw X.K T r to):=by
 intro pins s σ H Q I h;refine wpAny_Call_method0_late z9 z_ (aK (ho pins s σ H _ I h) fun v s1 ⟨x,H1,I1,r1,ty,q1⟩=>?_);obtain ⟨h1,h2⟩:=Gv I1 r1 ty;exact ⟨T,id,pa,slot,Gw,h1,h2,FI rfl (PySem.evalArgs_none (hm pins s1 σ H1 x [] v [] Q I1 r1 .nil q1))⟩
theorem kh(pa:PlainAttrs T)(slot:Slot T name id)(Gw:typeOf (.builtin id)=pure (.type "method_descriptor"))(hm:Mi X id r)(ho:PE X o to)(ha:PA X (e::es) t)
  (z9:attributeBase o name X.env (eval o X.env)=eval o X.env:=by rfl)
  (Uz:((backTo gU (starEach (e::es) X.env)).all (fun x=>!x.1) && (backToKw gU (keywordEach [] X.env)).all (fun x=>x.1.isSome)
   && decide ((e::es).length+([]:List Keyword).length+(if ([]:List Keyword).isEmpty then 0 else 1)<30))=true:=by rfl)
  (z_:(apos.endLine == gU.line)=true:=by rfl) (hs:starEach (e::es) X.env=(false,eval e X.env)::starEach es X.env:=by rfl) (UA:(backTo gU (starEach es X.env)).any (·.1)=false:=by rfl) :
  PE X (.Call (.Attribute o name apos) (e::es) [] gU) (Ux X.K T r to t):=by
 intro pins s σ H Q I h;refine wpAny_Call_method_late z9 Uz z_ rfl (aK (ho pins s σ H _ I h) fun v s1 ⟨x,H1,I1,r1,ty,q1⟩=>?_);obtain ⟨h1,h2⟩:=Gv I1 r1 ty;refine ⟨T,id,pa,slot,Gw,h1,h2,?_⟩;have hA:=ha gU pins s1 σ H1 _ I1 q1;rw [hs] at hA ⊢;refine FI (by show (false || (backTo gU (starEach es X.env)).any (·.1))=false;rw [UA] <;> rfl) (Calls.evalArgs_plain ?_)
 exact aK hA fun us s2 ⟨vs,H2,I2,r2,q2⟩=>hm pins s2 σ H2 x vs v us Q I2 r1 r2 q2
end
def Aa(X:Cx)(id:String)(r:V→List V→Hp→VK→Prop):Prop:=
 ∀(pins:aV) (s:Shared) (σ:St) (H:Hp) (x:V) (xs:List V) (v:Value) (us:List Value) (Q:VK),Inv X pins σ H s→RelV x v→Vals xs us→r x xs H Q→
  wpAny (model X.prog X.w) X.A (call (.builtin id) (v::us)) (EP X pins σ Q) X.xe s
theorem Vals.one:∀{x:V} {us:List Value},Vals [x] us→∃u,us=[u]∧RelV x u
 | _,_,.cons r .nil=>⟨_,rfl,r⟩
theorem Vals.zero:∀{us:List Value},Vals [] us→us=[]
 | _,.nil=>rfl
variable {xs:List V} {us:List Value}
theorem Vals.dropLast(h:Vals xs us):Vals xs.dropLast us.dropLast:=by
 induction h with
 | nil=>exact .nil
 | cons r t ih=>
  cases t with
  | nil=>exact .nil
  | cons q t'=>exact .cons r ih
theorem Vals.eraseIdx:∀{xs:List V} {us:List Value} (i:Nat),Vals xs us→Vals (xs.eraseIdx i) (us.eraseIdx i)
 | _,_,_,.nil=>.nil
 | _,_,0,.cons _ t=>t
 | _,_,i+1,.cons r t=>.cons r (Vals.eraseIdx i t)
theorem Vals.reverse(h:Vals xs us):Vals xs.reverse us.reverse:=by
 induction h with
 | nil=>exact .nil
 | cons r t ih=>rw [List.reverse_cons,List.reverse_cons];exact Vals.append ih (.cons r .nil)
theorem Vals.rep{xs:List V}{us:List Value}(h:Vals xs us):∀k:Nat,Vals (List.replicate k xs).flatten (List.replicate k us).flatten
 | 0=>.nil
 | k+1=>by rw [qr,qr,vG,vG];exact Vals.append h (Vals.rep h k)
variable {α:Type}
theorem UB(l:List α):l.eraseIdx (l.length-1)=l.dropLast:=by
 induction l with
 | nil=>rfl
 | cons a r ih=>
  cases r with
  | nil=>rfl
  | cons b r=>
   have e:(a::b::r).length-1=((b::r).length-1)+1:=by have h1:(a::b::r).length=r.length+2:=rfl;have h2:(b::r).length=r.length+1:=rfl;lia
   rw [e,List.eraseIdx_cons_succ,ih]
   all_goals rfl
theorem Gx{α:Type}:∀(l:List α) (i:Nat),(l.eraseIdx i).length≤l.length
 | [],_=>aC _
 | _::_,0=>oS _
 | _::r,i+1=>Nat.succ_le_succ (Gx r i)
theorem foldl_rep(its:List Value):∀(k:Nat) (acc:List Value),
  List.foldl (fun x1 x2=>x1++x2) acc.toArray (List.replicate k its.toArray)=(acc++(List.replicate k its).flatten).toArray
 | 0,acc=>by simp
 | k+1,acc=>by
  have e:acc.toArray++its.toArray=(acc++its).toArray:=by simp
  have e2:(acc++its)++(List.replicate k its).flatten=acc++(List.replicate (k+1) its).flatten:=by rw [qr,vG,g_]
  rw [←e2,←foldl_rep its k (acc++its),←e,qr,List.foldl_cons]
section
variable {X:Cx} {pins:aV} {σ:St} {H:Hp} {s:Shared} {l b:Addr} {xs ys zs:List V}
variable {its:List Value} {n t':Nat}
theorem Inv.Ab{its':List Value}{f:Array Value→Array Value}(I:Inv X pins σ H s)(hH:H l=some (.lst xs))
  (e:s.heap.get? l=some {cls:=.type "list",data:=.seq its.toArray n}) (hf:f its.toArray=its'.toArray) (hv:Vals ys its') (hz:ys.length≤sizeLine) :
  Inv X pins σ (upd H l (.lst ys)) {s with heap:=s.heap.update l (Obj.mapSeq f),toks:=t'}:=by
 have q:=PySem.IsL.update e f;rw [hf] at q;refine I.write (x:=l) (e:=l) (by rw [hH];exact trivial) (.inl rfl) (fun b' u hb hu=>(FH s.heap (Obj.mapSeq f) (Ne.symm hb)).trans hu) ⟨_,q⟩ ?_
 exact ⟨hz,its',_,hv,q⟩
theorem Inv.Mn(I:Inv X pins σ H s)(hv:Vals ys its)(hz:ys.length≤sizeLine) :
  Inv X pins σ (upd H s.heap.objs.size (.lst ys)) {s with heap:=s.heap.push {cls:=.type "list",data:=.seq its.toArray},toks:=t'}:=
 I.laid (fun _ _ q=>bX _ q) (aC _) ⟨hz,its,0,hv,dE _ rfl⟩
theorem Inv.fresh(I:Inv X pins σ H s):H s.heap.objs.size=none:=I.ay.fresh (aC _)
theorem Inv.pG(I:Inv X pins σ H s)(hH:H l=some (.lst xs)):xs.length≤sizeLine∧∃(its:List Value) (n:Nat),Vals xs its∧xs.length=its.length∧s.heap.get? l=some {cls:=.type "list",data:=.seq its.toArray n}:=by obtain ⟨z,its,n,r,e⟩:=I.ay l _ hH;exact ⟨z,its,n,r,r.length,e⟩
theorem Mo(h:n≤sizeLine):Builtin.List.listTooLong n=false:=by unfold Builtin.List.listTooLong;exact bO (by lia)
end
section
variable {X:Cx}
def UC:V→List V→Hp→VK→Prop:=fun x vs H Q=>∃l xs y,x=.ref l∧vs=[y]∧H l=some (.lst xs)∧xs.length<sizeLine∧Q .aR (upd H l (.lst (xs++[y])))
theorem k6:Aa X "list.append" UC:=by
 intro pins s σ H x vs v us Q I rx rv h;obtain ⟨l,xs,y,rfl,rfl,hH,hz,q⟩:=h;cases rx;obtain ⟨u,rfl,ru⟩:=rv.one;obtain ⟨z,its,n,r,hl,e⟩:=I.pG hH;refine sD F.slot_list_append ⟨_,e,rfl⟩ F.entry_list_append (F.args_list_append_2 _ _) (PySem.list_append l its.toArray n u (by rw [b9];lia)) ⟨e,?_⟩
 refine ⟨.aR,_,I.Ab (its':=its++[u]) hH e (by simp) (r.append (.cons ru .nil)) ?_,rfl,q⟩
 rw [dO,qt];lia
def UD:V→List V→Hp→VK→Prop:=fun x vs H Q=>∃l b xs zs,x=.ref l∧vs=[.ref b]∧H l=some (.lst xs)∧H b=some (.lst zs)∧xs.length+zs.length≤sizeLine∧Q .aR (upd H l (.lst (xs++zs)))
theorem Mp:Aa X "list.extend" UD:=by
 intro pins s σ H x vs v us Q I rx rv h;obtain ⟨l,b,xs,zs,rfl,rfl,hH,hB,hz,q⟩:=h;cases rx;obtain ⟨u,rfl,ru⟩:=rv.one;cases ru;obtain ⟨z,its,n,r,hl,e⟩:=I.pG hH;obtain ⟨z2,jE,n2,r2,UE,e2⟩:=I.pG hB;have hsz:its.toArray.size+jE.toArray.size≤sizeLine:=by rw [b9,b9];lia
 have Gy:¬(!its.toArray.isEmpty && Builtin.List.listTooLong (its.toArray.size+jE.toArray.size))=true:=by rw [Mo hsz,Bool.and_false];exact dN
 refine sD F.slot_list_extend ⟨_,e,rfl⟩ F.entry_list_extend (F.args_list_extend_2 _ _)
  (AutoSeq1.list_extend_list_list_0 l its.toArray n b jE.toArray n2 Gy (by rw [b9];lia) (by lia)) ⟨e,e2,?_⟩
 refine ⟨.aR,_,I.Ab (its':=its++jE) hH e (by simp) (r.append r2) ?_,rfl,q⟩
 rw [dO];lia
def UG:V→List V→Hp→VK→Prop:=fun x vs H Q=>∃l xs y,x=.ref l∧vs=[]∧H l=some (.lst xs)∧xs[xs.length-1]?=some y∧Q y (upd H l (.lst xs.dropLast))
theorem UH:Aa X "list.pop" UG:=by
 intro pins s σ H x vs v us Q I rx rv h;obtain ⟨l,xs,y,rfl,rfl,hH,hy,q⟩:=h;cases rx;have mF:=rv.zero;subst mF;obtain ⟨z,its,n,r,hl,e⟩:=I.pG hH;obtain ⟨u,hu,ru⟩:=r.get hy;have UI:its.toArray[its.toArray.size-1]?=some u:=by show its.toArray[its.length-1]?=some u;rw [←vH,←hl];exact hu
 refine sD F.slot_list_pop ⟨_,e,rfl⟩ F.entry_list_pop (F.args_list_pop_1 _) (MeetsSeq.list_pop_last l its.toArray n u UI (by rw [b9];lia)) ⟨e,?_⟩
 refine ⟨y,_,I.Ab (its':=its.dropLast) hH e ?_ r.dropLast ?_,ru,q⟩
 ·show its.toArray.eraseIdxIfInBounds (its.toArray.size-1)=its.dropLast.toArray
  rw [b9,FJ,UB]
 ·rw [List.length_dropLast]
  lia
def UJ:V→List V→Hp→VK→Prop:=fun x vs H Q=>∃l xs i k y,x=.ref l∧vs=[.int i]∧H l=some (.lst xs)∧-(2 ^ 63)≤i∧i<2 ^ 63∧seqIndex? i xs.length=some k∧xs[k]?=some y∧Q y (upd H l (.lst (xs.eraseIdx k)))
theorem UK:Aa X "list.pop" UJ:=by
 intro pins s σ H x vs v us Q I rx rv h;obtain ⟨l,xs,i,k,y,rfl,rfl,hH,h1,h2,hk,hy,q⟩:=h;cases rx;obtain ⟨u,rfl,ru⟩:=rv.one;obtain ⟨t,rfl⟩:=ru;obtain ⟨z,its,n,r,hl,e⟩:=I.pG hH;obtain ⟨w,hw,ic⟩:=r.get hy
 refine sD F.slot_list_pop ⟨_,e,rfl⟩ F.entry_list_pop (F.args_list_pop_2 _ _)
  (MeetsSeq.list_pop_at l its.toArray n i t k w (fitsIndex_both h1 h2) (by rw [b9,←hl];exact hk) (by rw [←vH];exact hw) (by rw [b9];lia)) ⟨e,?_⟩
 refine ⟨y,_,I.Ab (its':=its.eraseIdx k) hH e ?_ (r.eraseIdx k) ?_,ic,q⟩
 ·show its.toArray.eraseIdxIfInBounds k=(its.eraseIdx k).toArray
  rw [FJ]
 ·have:=Gx xs k
  lia
def UL:R2:=fun x y H Q=>∃l b xs zs,x=.ref l∧y=.ref b∧H l=some (.lst xs)∧H b=some (.lst zs)∧xs.length+zs.length≤sizeLine∧∀p,H p=none→Q (.ref p) (upd H p (.lst (xs++zs)))
theorem CK:cX X (binaryOp .Add) UL:=by
 intro pins s σ H x y v u Q I rx ry h;obtain ⟨l,b,xs,zs,rfl,rfl,hH,hB,hz,q⟩:=h;cases rx;cases ry;obtain ⟨z,its,n,r,hl,e⟩:=I.pG hH;obtain ⟨z2,jE,n2,r2,UE,e2⟩:=I.pG hB;refine PySem.P.add_list e e2 ?_ (by rw [b9,b9];lia)
 have ea:its.toArray++jE.toArray=(its++jE).toArray:=by simp
 rw [ea];exact ⟨.ref _,_,I.Mn (t':=s.toks) (r.append r2) (by rw [dO];lia),rfl,q _ I.fresh⟩
def UM:R2:=fun x y H Q=>∃l k xs,x=.ref l∧y=.int k∧H l=some (.lst xs)∧-(2 ^ 63)≤k∧k<2 ^ 63∧xs.length*k.toNat≤sizeLine ∧
 ∀p,H p=none→Q (.ref p) (upd H p (.lst (List.replicate k.toNat xs).flatten))
theorem len_rep(xs:List α)(k:Nat):(List.replicate k xs).flatten.length=k*xs.length:=by
 induction k with
 | zero=>simp
 | succ k ih=>rw [qr,vG,dO,ih,Nat.succ_mul,Nat.add_comm]
theorem Mq:cX X (binaryOp .Mult) UM:=by
 intro pins s σ H x y v u Q I rx ry h;obtain ⟨l,k,xs,rfl,rfl,hH,h1,h2,hz,q⟩:=h;cases rx;obtain ⟨t,rfl⟩:=ry;obtain ⟨z,its,n,r,hl,e⟩:=I.pG hH;have hlen:its.toArray.size*k.toNat≤sizeLine:=by rw [b9,←hl];exact hz
 have UN:¬its.toArray.size*k.toNat>(2 ^ 63-1) / 8:=by
  have:(sizeLine:Nat)≤(2 ^ 63-1) / 8:=by decide
  lia
 have Gz:¬(!Builtin.List.listFitsIndex k)=true:=by rw [fitsIndex_both h1 h2];exact dN
 have Gy:¬Builtin.List.listTooLong (its.toArray.size*k.toNat)=true:=by rw [Mo hlen];exact dN
 have UO:List.foldl (fun x1 x2=>x1++x2) #[] (List.replicate (if its.toArray.isEmpty=true then 0 else k.toNat) its.toArray)=(List.replicate k.toNat its).flatten.toArray:=by
  have f0:∀m:Nat,List.foldl (fun x1 x2=>x1++x2) #[] (List.replicate m its.toArray)=(List.replicate m its).flatten.toArray:=fun m=>by have:=foldl_rep its m [];rw [List.nil_append] at this;exact this
  rw [f0];cases its with
  | nil=>simp
  | cons a r'=>rw [aa (by simp)]
 refine wpAny_binaryOp_repeat_ref (T:="list") (U:="int") (by decide) ⟨_,e,rfl⟩ (fun s'=>typeIs_int s' k t) noFill_list_mul F.fills_int_mul F.slot_int_rmul repeat_list F.slot_int_index.lookup
  (sD F.slot_int_rmul (typeIs_int s k t) F.entry_int_rmul (F.args_int_rmul_2 _ _) (int___rmul___int_list k t l its.toArray n)
   ⟨e,rfl,⟨_,e,rfl⟩,sD F.slot_list_mul ⟨_,e,rfl⟩ F.entry_list_mul (F.args_list_mul_2 _ _) (AutoListH.list___mul___list_int_3 l its.toArray n k t Gz UN Gy) ⟨e,?_⟩⟩)
 rw [UO];exact ⟨.ref _,_,I.Mn (t':=s.toks) (r.rep k.toNat) (by rw [len_rep,Nat.mul_comm];exact hz),rfl,q _ I.fresh⟩
end
section
variable {prog:Program} {w:World} {A:Around} {E:aO} {s:Shared}
end
section
variable {X:Cx}
end
end L2
namespace Att
open PySem PySem.W PySem.Calls PyProof.Rows
variable {P:Params} {h:Heap}
theorem UP:∀(ns:List Int) (vs:List Value),WellAll P h vs (ns.map WData.int)→IntsAre vs ns:=by
 intro ns
 induction ns with
 | nil=>intro vs w;rw [y_] at w;cases w;exact .nil
 | cons n ns ih=>
  intro vs w;rw [du] at w;cases w with
  | cons a b=>cases a;exact .cons _ _ (ih _ b)
variable {l:OpenLaw} {n:Nat}
theorem UQ(hn:l.most=some n){args:List WData}{vals:List Value}
  (CL:l.row.toRowW.claim.pre args=true) (GA:WellAll P h vals args) :
  ∃a vs ns,vals=[Value.ref a]∧args=[WData.list (ns.map WData.int)]∧h.get? a=some {cls:=.type "list",data:=.seq vs.toArray}∧IntsAre vs ns∧ns.length≤n:=by
 have UR:WShape.hasAll [] args [.list .int]=true:=(pre_splitW CL).1;have hc:l.pre.holds [] {args:=args}=true:=(pre_splitW CL).2;obtain ⟨d,r,rfl,h1,h2⟩:=hasAllW_cons UR;obtain rfl:=hasAllW_nil h2;obtain ⟨xs,rfl,h3⟩:=hasW_list h1;obtain ⟨ns,rfl⟩:=items_int h3;have hlen:ns.length≤n:=by
  unfold OpenLaw.pre at hc;have h4:(WTm.not (.lt (.lit (.int (n:Int))) (.len (.arg 0)))).holds [] {args:=[.list (ns.map .int)]}=true:=by have h4:=(holds_andW hc).1;rw [hn] at h4;exact h4
  have h5:=condW_of h4 (w_not (w_lt w_lit (w_len_list (w_arg rfl))));rw [aD] at h5;refine Nat.le_of_not_lt fun q=>?_;have q':(n:Int)<((ns.length:Nat):Int):=by lia
  first
   | (rw [bA q'] at h5;exact absurd h5 (by decide))
   | (simp at h5;lia)
 cases GA with
 | cons w1 w2=>
  cases w2;cases w1 with
  | list ho GB=>exact ⟨_,_,ns,rfl,rfl,ho,UP ns _ GB,hlen⟩
theorem US(l:OpenLaw)(args:List WData):l.row.toRowW.claim.post args (.bool true) args=true:=
 postW_of (r:=l.row.toRowW) (X:=(true == true))
  (show WShape.has [] (.bool true) .bool=true by first | rfl | decide | simp [WShape.has,WShape.arms,WShape.armsAll])
  (show (WTm.eq .res (.lit (.bool true))).value [] {args:=args,res:=some (.bool true),after:=args}=some (.bool (true == true)) from w_eq_bool (w_res rfl) w_lit) rfl
theorem UT{q:Program}{loose:List Str}{XP:(Str→Option Value)→Heap→Prop}{YP:World→Heap→Prop}{d:DefRec}
  (hn:l.most=some n) (Ac:d.params.defaults=[])
  (call:∀(w:World) (s₀ s₁:Shared) (mg mb:dh) (fa:Addr) (o:Obj) (pm cd doc:Value) (a:Addr) (vs:List Value) (ns:List Int),
   Ground q loose [] XP w s₀ mg mb s₁.heap→YP w s₁.heap→
   s₁.heap.get? fa=some o→o.data=.func (docDef d.name d.params d.body d.scope pm cd doc)→s₁.heap.CodeRec cd d.name→mg d.name=some (.ref fa)→
   s₁.heap.get? a=some {cls:=.type "list",data:=.seq vs.toArray}→IntsAre vs ns→ns.length≤n→s₁.gens = #[]→
   codeAny (model l.prog w) callerA (.call (.ref fa) ⟨[.ref a],[]⟩) (fun r s'=>r=.ok (.ret (.bool true))∧OldK s₁.heap s'.heap∧s'.os=s₁.os∧AllBare s'.gens) s₁) :
  WalkO q loose XP YP l.row.toRowW d [] (fun f vs=>PySem.call f vs):=by
 intro w s₀ s₁ mg mb G Y fa o pm cd doc dV kV ho hd fb hD Ad hg args vals as CL ahC hrd GA hlo;obtain rfl:dV=.none:=Dflts.none hD Ac;obtain rfl:kV=.none:=Dflts.noKw hD;obtain ⟨a,vs,ns,rfl,rfl,GC,hints,hlen⟩:=UQ hn CL GA;refine enter_call (codeAny_mono (call w s₀ s₁ mg mb fa o pm cd doc a vs ns G Y ho (fd_plain hd) fb Ad GC hints hlen hg) fun r s' hq=>?_);obtain ⟨rfl,h2,h3,h4⟩:=hq;exact ⟨.inl ⟨.bool true,.bool true,[],rfl,fun _=>rfl,.bool true,US l _,fun _=>⟨List.Pairwise.nil,fun _ hm=>(nomatch hm)⟩⟩,h2,h3,h4⟩
section
variable {prog:Program} {w:World} {A:Around} {E:aO} {s:Shared} {K:Frag}
def tE(h:Heap):Heap:={h with objs:=#[]}
theorem GD(h:Heap)(b:Addr):(tE h).get? b=none:=by
 cases e:(tE h).get? b with
 | none=>rfl
 | some o=>exact absurd (a9 e) (oT _)
def ledger(h:Heap)(L d:Addr):List (Addr×Obj):=(List.range h.objs.size).filterMap fun a=>if a=L∨a=d then none else (h.get? a).map fun o=>(a,o)
variable {L d:Addr}
theorem Mr{a:Addr}{o:Obj}:(a,o)∈ledger h L d↔a≠L∧a≠d∧h.get? a=some o:=by
 unfold ledger;rw [BZ];constructor
 ·rintro ⟨b,_,e⟩
  split at e
  ·cases e
  ·rename_i hb
   obtain ⟨o',ho,e'⟩:=FK.mp e;cases e';exact ⟨fun q=>hb (.inl q),fun q=>hb (.inr q),ho⟩
 ·rintro ⟨n1,n2,ho⟩
  refine ⟨a,aU.mpr (a9 ho),?_⟩;rw [aa (show ¬(a=L∨a=d) from fun q=>q.elim n1 n2),ho] <;> rfl
theorem UU{od:Obj}(gB:d≠L)(ho:h.get? d=some od):News (tE h) L h ([]++(d,od)::ledger h L d):=by
 rintro ⟨a,o⟩ hp;rcases bw.mp hp with e | hp
 ·cases e
  exact ⟨ho,gB,GD _ _⟩
 ·obtain ⟨n1,n2,e⟩:=Mr.mp hp
  exact ⟨e,n1,GD _ _⟩
theorem UW{m:dh}(n:h.Ns L m):Fr (tE h) L h m:=
 ⟨n,fun b o e=>(by rw [GD] at e;cases e),cf _⟩
end
end Att
namespace L2
open PySem PySem.Spec PyProof.Rows
theorem Ms:∀{vs:List Value} {ns:List Int},IntsAre vs ns→Vals (ns.map V.int) vs
 | _,_,.nil=>.nil
 | _,_,.cons n t h=>.cons ⟨t,rfl⟩ (Ms h)
abbrev Mt {K:aF} {h:Heap} (_:K.In h):PySem.W.Frag:=K
def Ae(s:Stmt):Arguments:=match s with
 | .FunctionDef _ a _ _ _ _ _ _ _ _=>a
 | _=>{posonlyargs:=[],args:=[],vararg:=none,kwonlyargs:=[],kw_defaults:=[],kwarg:=none,defaults:=[]}
def oi(s:Stmt):List Stmt:=match s with
 | .FunctionDef _ _ b _ _ _ _ _ _ _=>b
 | _=>[]
def bC(s:Stmt):Scope:=match s with
 | .FunctionDef _ _ _ _ _ _ sc _ _ _=>sc
 | _=>{kind:=.function,names:=[],isGenerator:=false,isCoroutine:=false}
abbrev cQ:i9:=fun _ _ _ _ _ _=>False
abbrev E0:XK:=fun _ _ _=>False
theorem bZ{X:Cx}:Passes cQ X E0:=fun _ _ _ _ _ _ _ h=>h.elim
structure iM (K:aF) (x qual:Str) (st:Stmt) (f:Addr) (fd:FuncData):Prop where
 ex:∃(oc:Value) (od:Option Addr) (kV doc pm:Value) (an:Option Addr) (cI ct:Value) (mB:Array (Option Value)),
  fd=PySem.W.fnOf x qual (Ae st) (oi st) (bC st) .none kV doc pm an cI ct∧K.lookup f=some ⟨oc,od,.func fd,mB⟩∧PySem.W.codeIn K cI qual=true
 kp:PySem.W.keepIn K (.ref f)=true
abbrev aX (K:aF) (x:Str) (st:Stmt) (f:Addr) (fd:FuncData):Prop:=iM K x x st f fd
section
variable {P:Program} {w:World} {K:aF} {mg:dh} {base:Heap}
variable {x qual:Str} {f:Addr} {fd:FuncData} {N ps:List Str} {k:Nat} {sp:Sp}
theorem iM.ok{st:Stmt}(F:iM K x qual st f fd)(S:ck N ps (bC st))(len:∀vs H Q E,sp vs H Q E→vs.length=ps.length)
  (mC:∀(cI:Value) (A:Around) (outer:List Env) (s:Shared) (H:Hp) (vs:List V) (Q:VK) (E:XK),eU k (A.deeper (envOfC qual (bC st) s.heap.objs.size f cI))→sp vs H Q E→
   ∃t,gx (kX cQ P w K mg base N qual (bC st) f cI A outer s H E).pb (oi st) t∧t {nx:=fun _ H'=>Q .aR H',rt:=Q} (start N vs) H):bL P w K mg base cQ (k+1) f fd ps sp:=by
 obtain ⟨oc,od,kV,doc,pm,an,cI,ct,mB,rfl,lk,fb⟩:=F.ex;refine Gp lk fb S len fun A outer s H vs Q E hr n6=>?_;obtain ⟨t,h,q⟩:=mC cI A outer s H vs Q E hr n6;exact ⟨t,h.pb,q⟩
theorem iM.eE{st:Stmt}(F:iM K x qual st f fd)(S:ck N ps (bC st))
  (mC:∀(cI:Value) (A:Around) (outer:List Env) (s:Shared) (H:Hp) (vs:List V) (Q:VK) (E:XK),eU k (A.deeper (envOfC qual (bC st) s.heap.objs.size f cI))→sp vs H Q E→
   ∃t,gx (kX cQ P w K mg base N qual (bC st) f cI A outer s H E).pb (oi st) t∧t {nx:=fun _ H'=>Q .aR H',rt:=Q} (start N vs) H)
  (len:∀vs H Q E,sp vs H Q E→vs.length=ps.length:=by intro vs H Q E h;repeat first | (obtain ⟨rfl,_⟩:=h;rfl) | (subst h;rfl) | obtain ⟨_,h⟩:=h):bL P w K mg base cQ (k+1) f fd ps sp:=F.ok S len mC
theorem iM.binds{st:Stmt}(F:iM K x qual st f fd)
  (h:∀(kV doc pm:Value) (an:Option Addr) (cI ct:Value) (us:List Value),us.length=ps.length→bindArgs (PySem.W.fnOf x qual (Ae st) (oi st) (bC st) .none kV doc pm an cI ct) ⟨us,[]⟩=pure (ps.zip us)):Binds K fd ps []:=by
 obtain ⟨oc,od,kV,doc,pm,an,cI,ct,mB,rfl,lk,fb⟩:=F.ex;exact .all (h kV doc pm an cI ct)
theorem iM.cu{st:Stmt}(F:iM K x qual st f fd)
  (h:∀(kV doc pm:Value) (an:Option Addr) (cI ct:Value) (us:List Value),us.length=ps.length→bindArgs (PySem.W.fnOf x qual (Ae st) (oi st) (bC st) .none kV doc pm an cI ct) ⟨us,[]⟩=pure (ps.zip us):=by intro _ _ _ _ _ _ us hl;rcases us with _ | ⟨_,_ | ⟨_,_ | ⟨_,_ | ⟨_,_ | ⟨_,_ | ⟨_,_ | ⟨_,_⟩⟩⟩⟩⟩⟩⟩ <;> first | rfl | (simp at hl;done)):Binds K fd ps []:=F.binds h
theorem cU{st:Stmt}{oc:Value}{od an:Option Addr}{mB:Array (Option Value)}{kV doc pm cI ct:Value}(l:K.lookup f=some ⟨oc,od,.func (PySem.W.fnOf x qual (Ae st) (oi st) (bC st) .none kV doc pm an cI ct),mB⟩)
  (c:PySem.W.codeIn K cI qual=true) (k:PySem.W.keepIn K (.ref f)=true):iM K x qual st f (PySem.W.fnOf x qual (Ae st) (oi st) (bC st) .none kV doc pm an cI ct):=⟨⟨oc,od,kV,doc,pm,an,cI,ct,mB,rfl,l,c⟩,k⟩
end
theorem dA{n:Nat}(h:n≤1000):n<sizeLine:=i4 h (by decide)
section
variable {X:Cx}
theorem pv(i:Nat){x:Str}{pos:Pos}(hN:X.N[i]?=some x:=by rfl)(hv:qJ X.env.scope x:=by first | exact Or.inl rfl | exact Or.inr (Or.inl rfl) | exact Or.inr (Or.inr rfl))(hd:(x == ("__debug__":Str))=false:=by decide)
  (fb:(x == ("__classdict__":Str))=false:=by decide):PE X (.Name x pos) (Cq i):=SN hN hv hd fb
end
variable {A B:Prop}
theorem ie(h:B):if false=true then A else B:=by rw [aa dN];exact h
theorem wx(h:A):if true=true then A else B:=by rw [ae rfl];exact h
theorem dS{c:Prop}[Decidable c](h1:c→A)(h2:¬c→B):if c then A else B:=by
 by_cases h:c
 ·rw [ae h]
  exact h1 h
 ·rw [aa h]
  exact h2 h
def ak(H H':Hp):Prop:=∀b o,H b=some o→H' b=some o
theorem ak.refl(H:Hp):ak H H:=fun _ _ h=>h
variable {H:Hp}
theorem ak.trans{H1 H2:Hp}(a:ak H H1)(b:ak H1 H2):ak H H2:=fun c o h=>b c o (a c o h)
theorem ak.seq{K:aF}{H':Hp}{a:Addr}{xs:List V}(e:ak H H')(h:aZ K H a xs):aZ K H' a xs:=by
 rcases h with (h | ⟨o,h⟩) | h;·exact .inl (.inl (e _ _ h))
 ·exact .inl (.inr ⟨o,e _ _ h⟩)
 ·exact .inr h
end L2
set_option maxHeartbeats 4000000
namespace L2
open PySem PySem.Spec PyProof.Rows
structure CM (P:Program) (w:World) (outer:List Env) (H:Hp) (s:Shared) (H':Hp) (ea C:Addr) (B:Heap) (t:Addr) (s':Shared):Prop where
 os:s'.os=s.os
 bare:AllBare s'.gens
 fl:Heap.FlyingW B outer ea (.ref C) (.ref t) s'.heap
 ay:cS P w H' B
 kb:∀b o,s.heap.get? b=some o→H b=none→b∉di outer→B.get? b=some o
 tb:∀b o,s.heap.get? b=some o→b∉di outer→∃o',B.get? b=some o'
 sl:∀b o,s.heap.get? b=some o→H b=none→b∈di outer→∃l,s'.heap.get? b=some {o with slots:=l}
 frh:∀b∈di outer,H b=none
 UX:∀b o,s.heap.get? b=some o→H b=none→H' b=none
 i5:∀b xs,H b=some (.tup xs)→H' b=some (.tup xs)
 iG:∀b o u,H b=some (.bg o u)→H' b=some (.bg o u)
 iH:∀b ps,H b=some (.dZ ps)→∃more,H' b=some (.dZ (ps++more))
def fX(P:Program)(w:World):i9:=fun outer H s E e s'=>∃ea C H' B t,e=.ref ea∧CM P w outer H s H' ea C B t s'∧E (.ref C) none H'
section
variable {P:Program} {w:World} {outer:List Env} {H H':Hp} {s s':Shared} {ea C t:Addr} {B:Heap}
def ExcAt(ea C:Addr)(h:Heap):Prop:=∃oe,h.get? ea=some oe∧oe.cls=.ref C∧PySem.W.notCls oe=true
def UY(ea C:Addr):HO:=.ext (ExcAt ea C)
end
section
variable {X:Cx} {pins:aV} {σ:St} {H H':Hp} {s s':Shared} {ea C t:Addr} {B:Heap}
structure wA (X:Cx) (E:XK):Prop where
 j9:X.stack=X.env::X.outer
 fr:X.env.frame=some X.env.locals
 ex:X.ex=[]
 xe:X.xe=fun e s'=>wpAny (model X.prog X.w) X.A (leaving X.env e) (fun _ iJ=>fX X.prog X.w X.outer X.H₀ X.s₀ E e iJ) (fun e' iJ=>fX X.prog X.w X.outer X.H₀ X.s₀ E e' iJ) s'
theorem CN{env:Env}{outer:List Env}{L:Addr}(h:env.frame=some L):di (env::outer)=L::di outer:=by unfold di;rw [BX,h]
variable {E:XK}
theorem CM.leave(L:wA X E)(I:Inv X pins σ H s)(f:CM X.prog X.w X.stack H s H' ea C B t s'){h:Heap}(x:Heap.FlyingW B X.outer ea (.ref C) (.ref t) h)(up:s'.heap.UpToSlots h):CM X.prog X.w X.outer X.H₀ X.s₀ H' ea C B t {s' with heap:=h}:=by
 have nL:∀b o,X.s₀.heap.get? b=some o→b≠X.env.locals:=fun b o e=>bW (d7 (a9 e) I.ok.above);have ns:∀b o,X.s₀.heap.get? b=some o→b∉di X.outer→b∉di X.stack:=fun b o e nb z=>by
  rw [L.j9,CN L.fr] at z;rcases bw.mp z with z | z;·exact nL b o e z
  ·exact nb z
 have nx:∀b:Addr,b∉X.ex:=fun b z=>by rw [L.ex] at z;cases z
 refine ⟨f.os.trans I.os,f.bare,x,f.ay,fun b o e n nb=>?_,fun b o e nb=>?_,fun b o e n hb=>?_,I.ok.qK,fun b o e n=>?_,fun b xs e=>f.i5 b xs (I.base.i5 b xs e),fun b o u e=>f.iG b o u (I.base.iG b o u e),fun b ps e=>?_⟩;·exact f.kb b o (I.base.keep b o e n nb (nx b)) (I.base.free b o e n (nx b)) (ns b o e nb)
 ·obtain ⟨o',e'⟩:=I.base.there b o e (nx b)
  exact f.tb b o' e' (ns b o e nb)
 ·obtain ⟨l,q⟩:=I.base.slot b o e n hb (nx b)
  have hs:b∈di X.stack:=by rw [L.j9,CN L.fr];exact cx _ hb
  obtain ⟨l2,q2⟩:=f.sl b _ q (I.base.free b o e n (nx b)) hs;obtain ⟨_,o2,q3,nf⟩:=f.fl.2.2.1.mem hs;rw [q2] at q3;cases q3;obtain ⟨l3,q4⟩:=up b _ q2 nf;exact ⟨l3,q4⟩
 ·obtain ⟨o',e'⟩:=I.base.there b o e (nx b)
  exact f.UX b o' e' (I.base.free b o e n (nx b))
 ·obtain ⟨m1,e1⟩:=I.base.iH b ps e
  obtain ⟨m2,e2⟩:=f.iH b _ e1;exact ⟨m1++m2,by rw [e2,Array.append_assoc]⟩
theorem jH:Passes (fX X.prog X.w) X (fun _ _ _=>False):=fun pins σ H s e s' I h=>by obtain ⟨_,_,_,_,_,_,_,q⟩:=h;exact q.elim
theorem pH(L:wA X E):Passes (fX X.prog X.w) X E:=fun pins σ H s e s' I h=>by
 obtain ⟨ea,C,H',B,t,rfl,f,q⟩:=h;rw [L.xe];refine wpAny_leaves_onW (by rw [I.ok.frames,L.j9]) L.fr (by have z:=f.fl;rw [L.j9] at z;exact z) fun h' x up=>?_
 exact ⟨ea,C,H',B,t,rfl,f.leave L I x up,q⟩
end
variable {K:aF} {h:Heap}
theorem UZ{C:Addr}{wB:List Value}{newId:String}(d9:K.In h)(hq:PySem.W.excIn K C wB newId=true) :
  ∃bm N nm qn bs hdct sn sub ab col dd k0 k1 k2 k3 k5 mN,h.get? C=some (excClassObj nm qn C N bs bm hdct sn sub ab col dd k0 k1 k2 k3 k5 newId)∧h.Ns N mN∧mN "__init__"=none∧OwnTail h wB bm∧PySem.W.mroIn K C=fun b=>some ((Value.ref C::bm).contains b):=by
 unfold PySem.W.excIn at hq
 split at hq
 ·rename_i wC cls slt look
  split at hq
  ·rename_i CC rest a0 a1 a2 a3 nn a5 em es
   simp only [kO,beq_iff_eq,Bool.not_eq_true'] at hq;obtain ⟨⟨⟨⟨⟨e1,e2⟩,e3⟩,e4⟩,e5⟩,e6⟩:=hq;subst e1 e2;have U0:PySem.W.mroIn K CC=fun b=>some ((Value.ref CC::rest).contains b):=by
    funext b
    unfold PySem.W.mroIn PySem.W.clsIn;rw [look];simp [em]
   obtain ⟨c1,c2,c3,c4,c5,c6,c7,c8,c9,U1,c11⟩:=cls;dsimp only at em e3 e5 e6;subst em e3;have U2:slt = #[a0,a1,a2,a3,some (.builtin nn),a5]:=by obtain ⟨ll⟩:=slt;simp only at es;rw [es]
   subst U2;exact ⟨rest,c4,c1,c5,c2,c6,c7,c8,c9,U1,wC,a0,a1,a2,a3,a5,_,d9 _ _ look,.of_isNs (PySem.W.isNs_of_in d9 e5),PySem.W.nsMap_none_of_in d9 e5 e6,PySem.W.tail_of_in d9 e4,U0⟩
  ·cases hq
 ·cases hq
section
variable {X:Cx} {E:XK} {x:Str} {C:Addr} {np gU pos:Pos} {e:Expr} {es:List Expr} {ta:TA} {B newId U3:String} {wB:List Value}
def U4(C:Addr)(E:XK)(ta:TA):TS:=fun _ σ H=>ta σ H fun vs H1=>vs.length≤sizeLine∧E (.ref C) none H1
theorem Mu(L:wA X E)(hc:X.calm=true)(FB:ExcBaseFacts B newId U3 wB)(hq:PySem.W.excIn X.K C wB newId=true)(hg:Gl X x)(hm:X.mg x=some (.ref C))(ha:PA X (e::es) ta)
  (hs:starEach (e::es) X.env=(false,eval e X.env)::starEach es X.env:=by rfl) (hp:(backTo gU (starEach es X.env)).any (·.1)=false:=by rfl) (hd:(x == ("__debug__":Str))=false:=by decide) :
  PS X (.Raise (some (.Call (.Name x np) (e::es) [] gU)) none pos) (U4 C E ta):=by
 intro pins s σ H D I h;obtain ⟨bm,N,nm,qn,bs,hdct,sn,sub,ab,col,dd,k0,k1,k2,k3,k5,mN,hC,hN,U5,T,_⟩:=UZ I.ok.mod.d9 hq
 refine wpAny_Raise_call_subT (C:=C) (nm:=nm) (q:=qn) (N:=N) (bs:=bs) (bm:=bm) (hdct:=hdct) (sn:=sn) (sub:=sub) (ab:=ab) (col:=col) (dd:=dd) (k0:=k0) (k1:=k1) (k2:=k2) (k3:=k3) (k5:=k5) FB (mN:=mN) (T.hasType FB.hasBase) (I.ok.hd hc)
  (by rw [hs];show (false || (backTo gU (starEach es X.env)).any (·.1))=false;rw [hp];rfl) U5 (F4 I hg hm ⟨rfl,?_⟩ hd)
 have h1:=ha gU pins s σ H _ I h;rw [hs] at h1 ⊢;refine Calls.evalArgs_plain (aK h1 fun us s2 ⟨vs,H1,I1,r,hl,q⟩=>⟨rfl,by rw [←r.length];exact hl,I1.bk _ _ hC,hN.keeps I1.bk,T.keeps I1.bk,fun h' ea mk=>?_⟩)
 rw [L.xe];have nL:∀b o,X.s₀.heap.get? b=some o→b≠X.env.locals:=fun b o q=>bW (d7 (a9 q) I1.ok.above);have ns:∀b o,X.s₀.heap.get? b=some o→b∉di X.outer→b∉di X.stack:=fun b o q nb z=>by
  rw [L.j9,CN L.fr] at z;rcases bw.mp z with z | z;·exact nL b o q z
  ·exact nb z
 have nx:∀b:Addr,b∉X.ex:=fun b z=>by rw [L.ex] at z;cases z
 have ff:s2.heap.FunFrames (PySem.W.hideAll s2.heap (di X.stack)) (X.env::X.outer):=by have z:=I1.stack;rw [←L.j9];exact PySem.W.funFrames_hide z fun env he a hf=>BZ.mpr ⟨env,he,hf⟩
 refine wpAny_leaves_madeW (base:=PySem.W.hideAll s2.heap (di X.stack)) (h:=s2.heap) (by rw [I1.ok.frames,L.j9]) L.fr (fun b o q=>PySem.W.of_hideAll _ q) ff mk fun h2 t fl _ _ up=>?_
 refine ⟨ea,C,H1,_,t,rfl,⟨I1.os,I1.bare,fl,fun a o e1=>?_,fun b o e1 n nb=>?_,fun b o e1 nb=>?_,fun b o e1 n hb=>?_,I1.ok.qK,fun b o e1 n=>?_,I1.base.i5,I1.base.iG,I1.base.iH⟩,q⟩
 ·refine (I1.ay a o e1).iF (fun b u hb e2=>BW _ e2 fun z=>?_) (fun _ z=>z) fun _ _ z=>z
  have n0:=I1.zL b z;rcases hb with hb | hb
  ·subst hb
   rw [e1] at n0;cases n0
  ·rw [hb] at n0
   cases n0
 ·exact BW _ (I1.base.keep b o e1 n nb (nx b)) (ns b o e1 nb)
 ·obtain ⟨o',e2⟩:=I1.base.there b o e1 (nx b)
  exact ⟨o',BW _ e2 (ns b o e1 nb)⟩
 ·obtain ⟨l,e2⟩:=I1.base.slot b o e1 n hb (nx b)
  have nY:b∈di X.stack:=by rw [L.j9,CN L.fr];exact cx _ hb
  obtain ⟨_,o2,e3,nf⟩:=I1.stack.mem nY;rw [e2] at e3;cases e3;obtain ⟨l2,e4⟩:=up b _ (mk.keeps _ _ e2) nf;exact ⟨l2,e4⟩
 ·obtain ⟨o',e2⟩:=I1.base.there b o e1 (nx b)
  exact I1.base.free b o e1 n (nx b)
end
section
variable {X:Cx} {k:Nat} {f C:Addr} {fd:FuncData} {ps:List Str} {sp:Sp} {n5:List V} {ds:List Value} {x m:Str} {p pos apos:Pos} {e o:Expr} {es:List Expr} {ta:TE} {t:TA}
variable {te:TX} {i:Nat} {pos':Pos}
end
section
variable {X:Cx} {pins:aV} {σ:St} {H:Hp} {s:Shared} {ea:Addr}
end
section
variable {M:Model} {A:Around} {E:aO} {h:Heap} {g:Array GenState} {d:Drawn} {t:Nat} {os:OsState} {e:Addr} {oe:Obj} {Q:Bool→Shared→Prop}
variable {nm q nm' q':Str} {C N D N':Addr} {bs bm bs' bm':List Value} {hdct ahK:Bool} {sn sn':List Str} {sub Mv:List Value} {ab ab':Bool} {col ahN:Option Bool} {dd qT:Option Addr} {k0 k1 k2 k3 k5 j0 j1 j2 j3 j5:Option Value} {newId ahO:String}
end
section
variable {X:Cx} {body:List Stmt} {b₀:Stmt} {ahP:List Stmt} {np ahQ pos:Pos} {x n:Str} {D:Addr} {tb:TSX} {ts:TS} {wB:List Value} {newId:String} {i:Nat}
end
section
variable {P:Program} {w:World} {K:aF} {mg:dh} {base:Heap}
variable {x qual:Str} {f:Addr} {fd:FuncData} {N ps:List Str} {k:Nat} {sp:Sp}
theorem iM.U6{st:Stmt}(F:iM K x qual st f fd)(S:ck N ps (bC st))(len:∀vs H Q E,sp vs H Q E→vs.length=ps.length)
  (mC:∀(cI:Value) (A:Around) (outer:List Env) (s:Shared) (H:Hp) (vs:List V) (Q:VK) (E:XK),eU k (A.deeper (envOfC qual (bC st) s.heap.objs.size f cI))→sp vs H Q E→
   wA (kX (fX P w) P w K mg base N qual (bC st) f cI A outer s H E) E→
   ∃t,gx (kX (fX P w) P w K mg base N qual (bC st) f cI A outer s H E) (oi st) t∧t {nx:=fun _ H'=>Q .aR H',rt:=Q} (start N vs) H):bL P w K mg base (fX P w) (k+1) f fd ps sp:=by
 obtain ⟨oc,od,kV,doc,pm,an,cI,ct,mB,rfl,lk,fb⟩:=F.ex;exact Gp lk fb S len fun A outer s H vs Q E hr n6=>mC cI A outer s H vs Q E hr n6 ⟨rfl,rfl,rfl,rfl⟩
theorem iM.gC{st:Stmt}(F:iM K x qual st f fd)(S:ck N ps (bC st))
  (mC:∀(cI:Value) (A:Around) (outer:List Env) (s:Shared) (H:Hp) (vs:List V) (Q:VK) (E:XK),eU k (A.deeper (envOfC qual (bC st) s.heap.objs.size f cI))→sp vs H Q E→
   wA (kX (fX P w) P w K mg base N qual (bC st) f cI A outer s H E) E→
   ∃t,gx (kX (fX P w) P w K mg base N qual (bC st) f cI A outer s H E) (oi st) t∧t {nx:=fun _ H'=>Q .aR H',rt:=Q} (start N vs) H)
  (len:∀vs H Q E,sp vs H Q E→vs.length=ps.length:=by intro vs H Q E h;repeat first | (obtain ⟨rfl,_⟩:=h;rfl) | (subst h;rfl) | obtain ⟨_,h⟩:=h):bL P w K mg base (fX P w) (k+1) f fd ps sp:=F.U6 S len mC
end
structure tF (K:aF) (C:Addr):Prop where
 ci:PySem.W.hasDictIn K C=true
 ga:PySem.W.findIn K (.ref C) "__getattribute__"=some (some (.builtin "BaseException.__getattribute__"))
 gn:PySem.W.findIn K (.ref C) "__getattr__"=some none
 ca:PySem.W.findIn K (.ref C) "__class__"=some (some (.builtin "object.__class__"))
 mo:PySem.W.mroIn K C (.type "object")=some true
 mb:PySem.W.mroIn K C (.type "BaseException")=some true
section
variable {prog:Program} {w:World} {A:Around} {E:aO} {h:Heap} {g:Array GenState} {d:Drawn} {t:Nat} {os:OsState} {K:aF} {a C:Addr} {o:Obj}
theorem U7{R:Result→Shared→Prop}(d9:K.In h)(c:tF K C)(hx:h.get? a=some o)(hc:o.cls=.ref C)(hq:R (.ok (.ret (.ref C))) ⟨h,g,d,t,os⟩) :
  codeAny (model prog w) A (.call (.builtin "getset_descriptor.__get__") ⟨[.builtin "object.__class__",.ref a,.ref C],[]⟩) R ⟨h,g,d,t,os⟩:=by
 have Mw:(⟨h,g,d,t,os⟩:Shared).TypeIs (.builtin "object.__class__") "getset_descriptor":=FL;have L1:=PySem.W.looks_mroIn (M:=model prog w) d9 c.mo;have ow:=F.owner_object_class;refine codeAny_call_builtin F.slot_gs_get.plain F.entry_gs_get (F.slot_gs_get.check _ _ _ _ _ _ _ _ Mw (F.args_gs_get _ _ _) ?_)
 repeat (any_goals (first | assumption | (with_reducible refine zb hx ?_;rw [hc]) | (rw [ow];with_reducible refine L1.at ?_) | wp_step))
 refine ⟨Code.quiet_builtin _ (by decide +kernel),zc F.entry_object_class ?_⟩
 repeat (any_goals (first | assumption | (with_reducible refine zb hx ?_;rw [hc]) | wp_step))
variable {tk:Tok}
theorem U8{Q:Fin→Shared→Prop}(d9:K.In h)(c:tF K C)(hx:h.get? a=some o)(hc:o.cls=.ref C)(hq:Q (.done (.ret (.ref C))) ⟨h,g,d,t,os⟩) :
  wpAny (model prog w) A (Builtin.«object.__getattribute__» ⟨[.ref a,.str "__class__" tk],[]⟩) Q E ⟨h,g,d,t,os⟩:=by
 have Mw:(⟨h,g,d,t,os⟩:Shared).TypeIs (.builtin "object.__class__") "getset_descriptor":=FL;have L1:=PySem.W.looks_findIn (M:=model prog w) d9 c.ca;have f5:=FL;have f6:=F.slot_gs_get.lookup;have f7:=F.slot_gs_set.lookup
 repeat (any_goals (first | assumption | (with_reducible refine zb hx ?_;rw [hc]) | with_reducible refine L1.at ?_ | wp_step))
 refine U7 d9 c hx hc ?_
 repeat (any_goals (first | assumption | wp_step))
theorem U9{M:Model}{nv:Value}{Q:Unit→Shared→Prop}(d9:K.In h)(c:tF K C)(hx:h.get? a=some o)(hc:o.cls=.ref C)(hq:Q () ⟨h,g,d,t,os⟩) :
  wpAny M A (checkBuiltinCall "BaseException.__getattribute__" ⟨[.ref a,nv],[]⟩) Q E ⟨h,g,d,t,os⟩:=by
 have hk:builtinKind "BaseException.__getattribute__"=some .slot:=by decide +kernel
 have hs:splitId "BaseException.__getattribute__"=some ("BaseException","__getattribute__"):=by decide +kernel
 have L1:=PySem.W.looks_mroIn (M:=M) d9 c.mb;have ha:=F.args_bexc_ga (.ref a) nv;simp only [checkBuiltinCall,hk,hs];refine au ?_;unfold isInstance
 repeat (first | (with_reducible refine zb hx ?_;rw [hc]) | with_reducible refine L1.at ?_ | wp_step)
 exact hq
theorem U_{fill expr:Bool}{Q:aO}(d9:K.In h)(c:tF K C)(hx:h.get? a=some o)(hc:o.cls=.ref C)(hq:Q (.ref C) ⟨h,g,d,t,os⟩) :
  wpAny (model prog w) A (getAttrBy (.ref a) (.str "__class__" tk) fill expr) Q E ⟨h,g,d,t,os⟩:=by
 have f3:=F.attrBase_ValueError.ga.bind (.ref a);have z0:(expr && onTheHeap (Value.builtin "BaseException.__getattribute__"))=false:=by cases expr <;> rfl
 have z2:(Value.builtin "BaseException.__getattribute__" == Value.builtin "object.__getattribute__")=false:=by decide +kernel
 have z1:(onTheHeap (Value.ref C) && Value.builtin "BaseException.__getattribute__" == Value.builtin "object.__getattribute__")=false:=by rw [z2];rfl
 have L1:=PySem.W.looks_findIn (M:=model prog w) d9 c.ga;have L2:=PySem.W.looks_findIn (M:=model prog w) d9 c.gn
 repeat (any_goals (first | assumption | (with_reducible refine zb hx ?_;rw [hc]) | with_reducible refine L1.at ?_ | with_reducible refine L2.at ?_ | wp_step))
 refine codeAny_call_builtin F.attrBase_ValueError.ga.plain F.entry_bexc_ga (U9 d9 c hx hc (U8 d9 c hx hc ?_))
 repeat (any_goals (first | assumption | wp_step))
theorem Va{Q:Option Value→Shared→Prop}(d9:K.In h)(c:tF K C)(hx:h.get? a=some o)(hc:o.cls=.ref C)(hq:Q (some (.ref C)) ⟨h,g,d,t+1,os⟩) :
  wpAny (model prog w) A (getAttr? (.ref a) "__class__") Q E ⟨h,g,d,t,os⟩:=by
 unfold getAttr? getAttrBy?
 repeat (any_goals (first | assumption | with_reducible apply U_ d9 c hx hc | wp_step))
theorem Vb(c:tF K C):PySem.W.KitX K (.ref a) (.ref C) (ExcAt a C) where
 ty:=fun M h _ k=>by obtain ⟨oe,e1,e2,_⟩:=k;exact e2▸(PySem.W.Looks.ld e1).andThen .now
 it:=fun M h d9 _=>by
  obtain ⟨cd,hc,_⟩:=PySem.W.any_some c.ci;unfold PySem.W.clsIn at hc
  split at hc
  ·rename_i look
   intro A' Q' E' s' k q;unfold isType loadHead;exact au (wpAny_loadPart (k _ _ (d9 _ _ look)) (a8 q))
  ·cases hc
 ne:=fun h tp dd its n sl d9 Vc=>by
  obtain ⟨cd,hc,_⟩:=PySem.W.any_some c.ci;refine B1.mpr fun q=>?_;have e:C=tp:=Value.ref.inj (beq_iff_eq.mp q);subst e;unfold PySem.W.clsIn at hc
  split at hc
  ·rename_i look
   have z:=(d9 _ _ look).symm.trans Vc;cases z
  ·cases hc
 ca:=fun{prog w A E Q s} d9 k z=>by obtain ⟨oe,e1,e2,_⟩:=k;obtain ⟨h,g,d,t,os⟩:=s;exact Va d9 c e1 e2 z
end
def jI(a:Addr)(h:Heap):Prop:=∃o ep,h.get? a=some o∧o.ExactDict∧o.data=.dict #[] ep∧(a == sysModules)=false
theorem jI.GF{a:Addr}(e:jI a h):PySem.W.KitAt a "dict" h:=by obtain ⟨o,_,e,c,_⟩:=e;exact ⟨o,e,c.1⟩
def GG(a:Addr):HO:=.ext (jI a)
inductive Af (K:aF) (H:Hp):V→Value→Prop where
 | of {x:V} {t:Value} (h:kg K H x t):Af K H x t
 | exc {a C:Addr} (e:H a=some (UY a C)) (c:tF K C):Af K H (.ref a) (.ref C)
 | wC {a:Addr} (e:H a=some (GG a)):Af K H (.ref a) (.type "dict")
def Mx:V→Value
 | .ty n=>.type n
 | .ref a=>.ref a
 | _=>.none
def Vd:V→Bool
 | .ty _=>true
 | .ref _=>true
 | _=>false
def Ve(K:aF):List V→Hp→VK→Prop:=fun xs H Q=>∃x c t b,xs=[x,c]∧Vd c=true∧Af K H x t∧PySem.W.kitOne K t (Mx c)=some b∧Q (.bl b) H
theorem GH{X:Cx}(hK:X.K=K:=by rfl):gy X (.builtin "isinstance") (Ve K):=by
 intro pins s σ H xs us Q I r h;subst hK;obtain ⟨x,c,t,b,rfl,hc,ty,e,q⟩:=h;obtain ⟨u,cv,rfl,rx,rc⟩:=vals2 r;have ec:cv=Mx c:=by
  cases c with
  | ty n=>exact rc
  | ref a=>exact rc
  | _=>cases hc
 subst ec;cases ty with
 | of ty=>exact TC I rx ty e fun tk=>⟨.bl b,H,I.tok tk,rfl,q⟩
 | @wC a ea=>cases rx;obtain ⟨k,_,_⟩:=(show cj X.prog X.w H s.heap a (.ext (jI a)) from I.ay a _ ea);exact jZ PySem.W.kitx_dict I.fV k.GF e (fun z=>nomatch z) fun tk=>⟨.bl b,H,I.tok tk,rfl,q⟩
 | @exc a C ea cc=>cases rx;obtain ⟨k,_,_⟩:=(show cj X.prog X.w H s.heap a (.ext (ExcAt a C)) from I.ay a _ ea);exact jZ (Vb cc) I.fV k e (fun z=>nomatch z) fun tk=>⟨.bl b,H,I.tok tk,rfl,q⟩
theorem boot_isinstance:bootBuiltins "isinstance"=some (.builtin "isinstance"):=by decide +kernel
theorem boot_min:bootBuiltins "min"=some (.builtin "min"):=by decide +kernel
theorem boot_max:bootBuiltins "max"=some (.builtin "max"):=by decide +kernel
theorem boot_int:bootBuiltins "int"=some (.type "int"):=by decide +kernel
theorem boot_bool:bootBuiltins "bool"=some (.type "bool"):=by decide +kernel
theorem boot_tuple:bootBuiltins "tuple"=some (.type "tuple"):=by decide +kernel
theorem boot_list:bootBuiltins "list"=some (.type "list"):=by decide +kernel
end L2
namespace My
open PySem L2
end My
namespace L2
open PySem PySem.Spec PyProof.Rows
abbrev Cx.cw (X:Cx) (N:List Str) (scope:Scope) (cl:List (Str×Addr)) (s₃:Shared) (H₃:Hp) (fp:List Addr):Cx:=
 {X with N:=N,s₀:=s₃,H₀:=H₃,env:=compEnvC scope cl s₃.heap.objs.size X.env,outer:=X.stack,stack:=X.stack,ex:=fp,fn:=fun _=>false,pn:=[],xe:=fun _ _=>False}
inductive qU (X:Cx):List Expr→TT→Prop where
 | nil:qU X [] (fun _ H Q=>Q true H)
 | one {c:Expr} {t:TT} (h:PT X c t):qU X [c] t
def kj(wi:TI)(ρ:St→St)(tt:TT)(te:TE):TE:=fun σ H Q=>wi σ H fun J H1=>∀D,H1 D=none→∃W:Nat→Nat→List V→Hp→Prop,(∃m,W 0 m [] (upd H1 D (.lst []))) ∧
 ∀i m ys Hc,W i m ys Hc→Hc D=some (.lst ys)∧((J.stop i Hc∧Q (.ref D) Hc)∨(J.go i Hc∧∀x H',J.d_ i Hc x H'→tt (some x::ρ σ) H' fun b H2=>
  if b=true then te (some x::ρ σ) H2 fun y H3=>H3 D=some (.lst ys)∧ys.length<sizeLine∧∃m',m'<m∧W (i+1) m' (ys++[y]) (upd H3 D (.lst (ys++[y]))) else ∃m',m'<m∧W (i+1) m' ys H2))
section
variable {X:Cx} {N:List Str} {scope:Scope} {cl:List (Str×Addr)} {x:Str} {px pos:Pos} {iter elt:Expr} {ifs:List Expr} {wi:TI} {ρ:St→St} {tt:TT} {te:TE}
structure GI (X:Cx) (N:List Str) (scope:Scope) (cl:List (Str×Addr)) (x:Str) (ρ:St→St):Prop where
 CO:closureFor scope X.env=pure cl
 kind:scope.kind=.function
 CP:∀y∈scope.names,y.2≠.cell
 names:∀y∈scope.names,y.2=.local→scope.names.lookup y.1=some .local
 sub:∀p∈cl,X.env.cells.lookup p.1=some p.2
 has:∀y,((relabel scope X.env).names.lookup y=some .cell∨(relabel scope X.env).names.lookup y=some .free)→∃c,cl.lookup y=some c
 n0:N[0]?=some x
 nd:N.Nodup
 hx:scope.names.lookup x=some .local
 CQ:∀(σ:St) (j:Nat) (v:V),(ρ σ)[j]?=some (some v)→∃(i:Nat) (y:Str),N[j+1]?=some y∧X.N[i]?=some y∧σ[i]?=some (some v)∧qJ X.env.scope y∧(X.env.kindOf y=some .cell∨X.env.kindOf y=some .free)∧((relabel scope X.env).names.lookup y=some .cell∨(relabel scope X.env).names.lookup y=some .free)
 len:∀σ:St,σ.length=X.N.length→(ρ σ).length+1=N.length
theorem Mz{names:List (Str×NameKind)}(h:(names.all fun q=>(q.2 != .cell && q.2 != .free) || (cl.lookup q.1).isSome)=true) :
  ∀y,(names.lookup y=some .cell∨names.lookup y=some .free)→∃c,cl.lookup y=some c:=fun y hy=>by
 have key:∀k:NameKind,(k != .cell && k != .free)=false→names.lookup y=some k→∃c,cl.lookup y=some c:=fun k hk e=>by have z:=oU.mp h (y,k) (oQ e);rw [hk,Bool.false_or] at z;exact Option.isSome_iff_exists.mp z
 rcases hy with e | e;·exact key .cell rfl e
 ·exact key .free rfl e
theorem join_some{o:Option (Option V)}{v:V}(h:some o.join=some (some v)):o=some (some v):=by
 cases o with
 | none=>cases h
 | some o=>cases h;rfl
def CS(X:Cx)(sc:Scope):List Str→List Nat→Prop
 | n::ns,i::is=>(X.N[i]?=some n∧qJ X.env.scope n∧(X.env.kindOf n=some .cell∨X.env.kindOf n=some .free)∧((relabel sc X.env).names.lookup n=some .cell∨(relabel sc X.env).names.lookup n=some .free))∧CS X sc ns is
 | _,[]=>True
 | [],_::_=>False
theorem GJ{X:Cx}{sc:Scope}:∀{ns:List Str} {is:List Nat},CS X sc ns is→∀(σ:St) (j:Nat) (v:V),(is.map fun i=>σ[i]?.join)[j]?=some (some v)→∃(i:Nat) (n:Str),ns[j]?=some n∧X.N[i]?=some n∧σ[i]?=some (some v)∧qJ X.env.scope n∧(X.env.kindOf n=some .cell∨X.env.kindOf n=some .free)∧((relabel sc X.env).names.lookup n=some .cell∨(relabel sc X.env).names.lookup n=some .free)
 | _,[],_,_,_,_,e=>by cases e
 | [],_::_,h,_,_,_,_=>h.elim
 | n::_,i::_,h,_,0,_,e=>⟨i,n,rfl,h.1.1,join_some e,h.1.2⟩
 | _::_,_::_,h,σ,j+1,v,e=>GJ h.2 σ j v e
theorem fY(is:List Nat)(h1:closureFor scope X.env=pure cl)(h:CS X scope N.tail is:=by repeat' first | exact True.intro | refine And.intro ⟨rfl,Or.inr (Or.inl rfl),.inl rfl,.inl rfl⟩ ?_)(h2:scope.kind=.function:=by rfl)(h3:∀y∈scope.names,y.2≠.cell:=by decide +kernel)(h4:∀y∈scope.names,y.2=.local→scope.names.lookup y.1=some .local:=by decide +kernel)(h5:∀p∈cl,X.env.cells.lookup p.1=some p.2:=by repeat' first | exact List.forall_mem_nil _ | refine List.forall_mem_cons.mpr ⟨rfl,?_⟩)(h6:((relabel scope X.env).names.all fun q=>(q.2 != .cell && q.2 != .free) || (cl.lookup q.1).isSome)=true:=by rfl)(h7:N[0]?=some x:=by rfl)(h8:N.Nodup:=by decide +kernel)(h9:scope.names.lookup x=some .local:=by rfl)(hr:∀σ:St,ρ σ=is.map fun i=>σ[i]?.join:=by exact fun _=>rfl)(hl:is.length+1=N.length:=by rfl):GI X N scope cl x ρ:=
 ⟨h1,h2,h3,h4,h5,Mz h6,h7,h8,h9,fun σ j v e=>by rw [hr] at e;rw [←List.getElem?_tail];exact GJ h σ j v e,fun σ _=>by rw [hr,aD];exact hl⟩
theorem jb(B:GI X N scope cl x ρ)(hc:X.calm=true)(hi:PI X (.Name x px) iter wi)(ht:∀s₃ H₃ fp,qU (X.cw N scope cl s₃ H₃ fp) ifs tt)(he:∀s₃ H₃ fp,PE (X.cw N scope cl s₃ H₃ fp) elt te)
  (hs:∀x,foldedSetIterable iter X.env x=pure x:=by intro _;rfl):PE X (.ListComp elt [⟨.Name x px,iter,ifs,0⟩] scope pos) (kj wi ρ tt te):=by
 intro pins s σ H Q I h
 rw [eval_ListComp]
 refine FN (use:=none) rfl hs B.CO B.kind B.names (aK (hi pins s σ H _ I h) fun v s1 h1=>aK h1 fun zU s2 h2=>?_)
 obtain ⟨it,fp,tn,J,H2,rfl,I2,T,ke,f2,q2⟩:=h2
 have nD:H2 s2.heap.objs.size=none:=I2.ay.fresh (aC _)
 obtain ⟨W,⟨m0,w0⟩,turn⟩:=q2 _ nD
 refine sE (B2 B.CP (by intro y hy;simp at hy) (fun h₁ jJ jK=>?_) B.kind)
 dsimp only at jJ jK ⊢
 generalize hD:s2.heap.objs.size=D at nD w0 turn jJ jK ⊢
 generalize mG:({s2 with heap:=s2.heap.push {cls:=.type "list",dict:=none,data:=.seq ([]:List Value).toArray}}:Shared)=s3
 have I3:Inv X pins σ (upd H2 D (.lst [])) s3:=by
  subst hD mG
  exact I2.laid (t':=s2.toks) (fun b u e=>bX _ e) (aC _) ⟨cf _,[],_,.nil,dE _ rfl⟩
 have e3:s3.heap=s2.heap.push {cls:=.type "list",dict:=none,data:=.seq ([]:List Value).toArray}:=by rw [←mG]
 have jL:∀b o,s2.heap.get? b=some o→s3.heap.get? b=some o:=fun b o e=>by rw [e3];exact bX _ e
 rw [←e3] at jJ jK ⊢
 have below:∀b o,s3.heap.get? b=some o→b≠s3.heap.objs.size:=fun b o e=>bW (a9 e)
 have fZ:∀b o,s3.heap.get? b=some o→h₁.get? b=some o:=fun b o e=>jK.extBut b o (below b o e) (bX _ e)
 have mH:∀b∈fp,∃o,s2.heap.get? b=some o∧∀v,o.data≠.cell v:=T.obj _ _ ke
 have Ag:∀b∈fp,b≠D:=fun b hb z=>by
  obtain ⟨o,e,_⟩:=mH b hb
  rw [z,←hD] at e
  exact absurd (a9 e) (eW _)
 have fm:∀y c,cl.lookup y=some c→X.env.cells.lookup y=some c:=fun y c e=>B.sub (y,c) (oQ e)
 have Ah:=I3.zL
 have gC:(X.cw N scope cl s3 (upd H2 D (.lst [])) fp).Ok:=by
  refine ⟨I.ok.mod,B.kind,I.ok.glob,I.ok.blt,aC _,fun a b c e1 e2=>I.ok.inj a b c (fm a c e1) (fm b c e2),fun y hy=>B.has y hy,(fun _ _ z _=>absurd z dN),(fun _=>I.ok.hd hc),I.ok.frames,.inl rfl,fun b hb=>⟨?_,fun y c e z=>?_⟩,fun b o e=>?_,b8 I.ok.j_ I3.sz,fun b o e hb=>?_,fun b hb z=>?_,I3.stack,Ah⟩
  ·obtain ⟨o,e,_⟩:=mH b hb
   exact below b o (jL b o e)
  ·exact (f2 b hb).2.2.2.2.1 y c (fm y c e) z
  ·exact I3.bs b o e
  ·rcases (f2 b hb).2.2.2.1 with z | z
   ·exact I.ok.sQ b o e z
   ·exact absurd (d7 (a9 e) (b8 I.ok.j_ z)) (eW _)
  ·rcases bw.mp (I3.zK b z) with z | z
   ·exact (f2 b hb).2.1 z
   ·exact (f2 b hb).2.2.1 z
 have IB:∀tk:Nat,Inv (X.cw N scope cl s3 (upd H2 D (.lst [])) fp) [] (none::ρ σ) (upd H2 D (.lst [])) {s3 with heap:=h₁,toks:=tk}:=fun tk=>by
  refine ⟨gC,rfl,I3.bare,Un.kept fZ,⟨_,jJ,fun j y v e1 e2 e3=>?_⟩,fun y c e=>?_,?_,fun y c e=>I3.kU y c (fm y c e),(fun p hp=>nomatch hp),I3.ay.kept fZ,?_⟩
  ·cases j with
   | zero=>cases e2
   | succ j=>
    obtain ⟨i,y',a1,a2,a3,a4,a5,a6⟩:=B.CQ σ j v e2
    have tG:N[j+1]?=some y:=e1
    rw [tG] at a1
    cases a1
    obtain ⟨m,hn,hl⟩:=I3.loc
    obtain ⟨u,r,l⟩:=hl i y v a2 a3 a4
    refine ⟨u,r,.inr ⟨a6,?_⟩⟩
    obtain ⟨c,ec⟩:=B.has y a6
    rcases l with ⟨k,_⟩ | ⟨_,c',qV,z⟩
    ·rcases a5 with q | q <;> (rw [k] at q;cases q)
    ·have:=fm y c ec
     rw [this] at qV
     cases qV
     obtain ⟨o,ho,hd⟩:=z
     exact ⟨c,ec,o,fZ _ _ ho,hd⟩
  ·obtain ⟨v,o,ho,hd⟩:=I3.cell y c (fm y c e)
   exact ⟨v,o,fZ _ _ ho,hd⟩
  ·exact I3.ay.fresh (aC _)
  ·show (none::ρ σ).length=N.length
   rw [d8]
   exact B.len σ I.len
 have fin:∀{σ':St} {H':Hp} {s':Shared},Inv (X.cw N scope cl s3 (upd H2 D (.lst [])) fp) [] σ' H' s'→Q (.ref D) H'→compPost (model X.prog X.w) X.A X.xe none (EP X pins σ Q) (.ref D) s3.heap.objs.size (.ok .next) s':=fun{σ' H' s'} J q=>by
  obtain ⟨m,hn,_⟩:=J.loc
  refine ⟨m,hn,fun h' jM=>⟨.ref D,H',?_,rfl,q⟩⟩
  have old:∀b o,s3.heap.get? b=some o→b≠s3.heap.objs.size:=below
  have u1:Un (di X.stack) fp (upd H2 D (.lst [])) H' s3.heap h':=by
   refine ⟨fun b o e n hb hx=>?_,fun b o e n hb hx=>?_,J.base.free,fun b o e hx=>?_,J.base.i5,J.base.iG,J.base.iH⟩
   ·exact (jM.2 b (old b o e)).trans (J.base.keep b o e n hb hx)
   ·obtain ⟨sl,z⟩:=J.base.slot b o e n hb hx
    exact ⟨sl,(jM.2 b (old b o e)).trans z⟩
   ·obtain ⟨o',z⟩:=J.base.there b o e hx
    exact ⟨o',(jM.2 b (old b o e)).trans z⟩
  have Ai:cS X.prog X.w H' h':=fun b u e=>by
   refine (J.ay b u e).iF (fun c v hc z=>(jM.2 c fun y=>?_).trans z) (fun _ z=>z) fun _ _ z=>z
   have fr:=J.free
   have y':c=s3.heap.objs.size:=y
   rcases hc with hc | hc
   ·rw [←hc,y'] at e
    exact absurd (fr.symm.trans e) (by simp)
   ·rw [y'] at hc
    exact absurd (fr.symm.trans hc) (by simp)
  refine I3.o_ (s':={s' with heap:=h'}) (ch:=fp) (J.os) u1 Ai J.bare fun b hb=>?_
  obtain ⟨g0,g1,g2,g3,g4,g5⟩:=f2 b hb
  exact ⟨g3,g1,g4,g5⟩
 have i7:∀{H':Hp},(∀b∈fp,H' b=none)→∀b∈fp,pA (X.cw N scope cl s3 (upd H2 D (.lst [])) fp) [] H' b:=fun hn b hb=>by
  refine ⟨hn b hb,?_,?_,.inl hb,fun y c e z=>(f2 b hb).2.2.2.2.1 y c (fm y c e) z,fun p hp=>nomatch hp⟩
  ·obtain ⟨o,e,_⟩:=mH b hb
   exact below b o (jL b o e)
  ·exact gC.sS b hb
 have loop:∀tk:Nat,codeAny (model X.prog X.w) X.A (.compLoop (.ListComp elt [⟨.Name x px,iter,ifs,0⟩] scope pos) 0 (.ref it) (.ref D) (compEnvC scope cl s3.heap.objs.size X.env))
   (compPost (model X.prog X.w) X.A X.xe none (EP X pins σ Q) (.ref D) s3.heap.objs.size) {s3 with heap:=h₁,toks:=tk}:=fun tk=>by
  refine codeAny_compLoop_tests (fun n s'=>∃i ys o H',Inv (X.cw N scope cl s3 (upd H2 D (.lst [])) fp) [] (o::ρ σ) H' s'∧tn i s'.heap∧(∀b∈fp,H' b=none)∧W i n ys H') ?_ m0
   ⟨0,[],none,_,IB tk,T.keep _ _ _ ke fun b hb o e=>fZ _ _ (jL _ _ e),fun b hb=>by rw [aH (Ag b hb)];exact (f2 b hb).1,w0⟩
  rintro n s4 ⟨i,ys,o,H4,I4,qW,qX,w4⟩
  obtain ⟨MA,Aj⟩:=turn i n ys H4 w4
  rcases Aj with ⟨stop,qn⟩ | ⟨go,step⟩
  ·refine cL (T.done (X.cw N scope cl s3 (upd H2 D (.lst [])) fp) rfl rfl rfl hc i [] s4 _ H4 (fun _ _=>False) I4 (i7 qX) qW stop) (fun r s5 ⟨hr,I5⟩=>?_) fun _ _ z=>z.elim
   subst hr
   exact fin I5 qn
  ·refine cL (T.item (X.cw N scope cl s3 (upd H2 D (.lst [])) fp) rfl rfl rfl hc i [] s4 _ H4 (fun _ _=>False) I4 (i7 qX) qW go) (fun r s5 ⟨u,hr,h5⟩=>?_) fun _ _ z=>z.elim
   subst hr
   have z:letOwnedTupleGo (.Name x px) (.ref it) u=pure ():=rfl
   rw [z] at h5
   show wpAny _ _ ((pure ():Sem Unit) >>= fun _=>assign (.Name x px) (compEnvC scope cl s3.heap.objs.size X.env) u) _ _ s5
   refine au (cL h5 (fun _ s5 ⟨y,H5,I5,r5,y5,i8,sY⟩=>?_) fun _ _ z=>z.elim)
   have sZ:=I5.pinned (i7 sY) (T.obj _ _ i8)
   have pg:PG (X.cw N scope cl s3 (upd H2 D (.lst [])) fp) (.Name x px) (a7 0):=df (i:=0) B.nd B.n0 (.inl (qu B.hx)) (.inr (qu B.hx))
   have again:∀{σ7:St} {H7:Hp} {s7:Shared},Inv (X.cw N scope cl s3 (upd H2 D (.lst [])) fp) ([]++nZ fp s5.heap) σ7 H7 s7→Inv (X.cw N scope cl s3 (upd H2 D (.lst [])) fp) [] σ7 H7 s7∧tn (i+1) s7.heap∧∀b∈fp,H7 b=none:=fun{σ7 H7 s7} I7=>by
    refine ⟨I7.we,T.keep _ _ _ i8 fun b hb o e=>(I7.pin (b,o) (fA _ (fA _ (qO hb e)))).1,fun b hb=>?_⟩
    obtain ⟨o,e,d⟩:=T.obj _ _ i8 b hb
    exact (I7.pin (b,o) (fA _ (fA _ (qO hb e)))).2.1
   refine cL (pg _ s5 _ H5 y u (fun σ2 H6=>σ2=some y::ρ σ∧H6=H5) sZ r5 ⟨rfl,rfl⟩) (fun _ s6 ⟨σ6,H6,I6,q6⟩=>?_) fun _ _ z=>z.elim
   obtain ⟨rfl,rfl⟩:=q6
   have Ak:=step y _ y5
   have tests:∀{mI:TT},qU (X.cw N scope cl s3 (upd H2 D (.lst [])) fp) ifs mI→∀{R:Bool→Hp→Prop},mI (some y::ρ σ) H6 R→wpAny (model X.prog X.w) X.A
     (forIn ifs true fun c r=>if r=true then do let ok ←isTrue c (compEnvC scope cl s3.heap.objs.size X.env) (eval c (compEnvC scope cl s3.heap.objs.size X.env));pure (ForInStep.yield ok) else pure (ForInStep.yield r))
     (fun ok s7=>∃H7,Inv (X.cw N scope cl s3 (upd H2 D (.lst [])) fp) ([]++nZ fp s5.heap) (some y::ρ σ) H7 s7∧R ok H7) (fun _ _=>False) s6:=fun{mI} p {R} hR=>by
    cases p with
    | nil=>exact wpAny_tests_nil ⟨_,I6,hR⟩
    | one p=>exact wpAny_tests_one (p _ s6 _ _ _ I6 hR)
   refine cL (tests (ht s3 _ fp) Ak) (fun ok s7 ⟨H7,I7,q7⟩=>?_) fun _ _ z=>z.elim
   cases ok with
   | false=>
    obtain ⟨m',ft,w7⟩:=q7
    obtain ⟨a1,a2,a3⟩:=again I7
    exact ⟨m',ft,i+1,ys,_,H7,a1,a2,a3,w7⟩
   | true=>
    refine cL (he s3 _ fp _ s7 _ H7 _ I7 q7) (fun ev s8 ⟨z,H8,I8,r8,Am,hz,m',ft,w8⟩=>?_) fun _ _ z=>z.elim
    refine cL (k6 (X:=X.cw N scope cl s3 (upd H2 D (.lst [])) fp) _ s8 _ H8 (.ref D) [z] (.ref D) [ev] (fun _ H9=>H9=upd H8 D (.lst (ys++[z]))) I8 rfl (.cons r8 .nil) ⟨D,ys,z,rfl,rfl,Am,hz,rfl⟩) (fun _ s9 ⟨_,H9,I9,_,q9⟩=>?_) fun _ _ z=>z.elim
    subst q9
    obtain ⟨a1,a2,a3⟩:=again I9
    exact ⟨m',ft,i+1,ys++[z],_,_,a1,a2,a3,w8⟩
 have start:=loop (s3.toks+([]:List (Str×Value)).length)
 have es:({s3 with heap:=h₁,toks:=s3.toks+([]:List (Str×Value)).length}:Shared)={s2 with heap:=h₁,toks:=s2.toks+([]:List (Str×Value)).length}:=by rw [←mG]
 rw [es] at start
 exact FO start (T.self _ 0 _ _ _ (T.keep _ _ _ ke fun b hb o e=>fZ _ _ (jL _ _ e)) start)
end
def iO(i:Int):Prop:=i.natAbs<2 ^ 2048
theorem iO.log{i:Int}(h:iO i):i.natAbs.log2<2048:=by
 by_cases z:i.natAbs=0;·rw [z];decide
 ·exact (Nat.log2_lt z).mpr h
theorem MB:∀{xs:List V} {us:List Value},xs.length=us.length→(∀(i:Nat) (x:V) (u:Value),xs[i]?=some x→us[i]?=some u→RelV x u)→Vals xs us
 | [],[],_,_=>.nil
 | [],_::_,h,_=>by simp at h
 | _::_,[],h,_=>by simp at h
 | x::xs,u::us,h,k=>.cons (k 0 x u rfl rfl) (MB (by simpa using h) fun i a b h1 h2=>k (i+1) a b (by simpa using h1) (by simpa using h2))
section
variable {X:Cx}
def Vf(i j:Int):Prop:=0<j∧iO j
theorem Vg:cX X (binaryOp .FloorDiv) (rI Vf fun i j=>.int (i / j)):=Cz fun i j _ _ _ _ _ hc q=>floordiv_int (Int.ne_of_gt hc.1) (by rw [Int.fdiv_eq_ediv_of_nonneg i (dX hc.1)];exact q) (.inl (PyProof.noPylong_of_log2 (d7 hc.2.log (by decide))))
def allR(K:aF):List V→Hp→VK→Prop:=fun xs H Q=>∃(p:Addr) (bs:List Bool),xs=[.ref p]∧aZ K H p (bs.map V.bl)∧Q (.bl (bs.all id)) H
theorem MC{K:aF}(hc:X.calm=true)(hK:X.K=K:=by rfl):gy X (.builtin "all") (allR K):=by
 intro pins s σ H xs us Q I r h;subst hK;obtain ⟨p,bs,rfl,hq,q⟩:=h;obtain ⟨u,rfl,ru⟩:=vals1 r;cases ru;obtain ⟨its,rv,pl,hz⟩:=I.list hq;have gB:p≠s.heap.objs.size:=by obtain ⟨o,e,_⟩:=pl.isList;exact bW (a9 e)
 have hl:its.length=bs.length:=by rw [←rv.length,aD]
 refine call_all_walk (y9 pl.isList ?_);refine ⟨s.heap.objs.size,_,_,_,_,_,fun i=>bs.getD i true,rfl,Walks.list (A:=X.A.in1) (show X.A.in1.handled=none from I.ok.hd hc) s.heap.objs.size p gB its.toArray,⟨⟨_,dE _ rfl,rfl,rfl⟩,pl.isList.push _⟩,fun i v s' Q' E' hv mJ=>?_,fun h' tk hk=>?_⟩
 ·have mK:its[i]?=some v:=by simpa using hv
  cases eb:bs[i]? with
  | none=>
   have:=rv.none_of (i:=i) (by rw [bo,eb];rfl)
   rw [this] at mK;cases mK
  | some b=>
   obtain ⟨u,hu,ru⟩:=rv.get (i:=i) (x:=V.bl b) (by rw [bo,eb];rfl)
   rw [hu] at mK;cases mK;cases ru;have e:bs.getD i true=b:=by rw [cg,eb];rfl
   have pI:Q' (bs.getD i true) s':=mJ;rw [e] at pI;exact oO pI
 ·refine ⟨.bl (bs.all id),H,I.kept fun b o e=>hk b o (fun z=>?_) (bX _ e),?_,q⟩
  ·exact absurd (a9 e) (by rw [cy.mp z];exact eW _)
  ·show Value.bool _=Value.bool _
   congr 1
   rw [b9,hl];clear hk q rv pl hz hl hq
   induction bs with
   | nil=>rfl
   | cons b bs ih=>rw [d8,List.range_succ_eq_map,List.all_cons,List.all_map,List.all_cons];show (b && (List.range bs.length).all fun i=>bs.getD i true)=(b && bs.all id);rw [ih]
def Vh:List V→Hp→VK→Prop:=fun xs H Q=>∃j:Int,xs=[.int j]∧∀p,H p=none→Q (.ref p) (upd H p (.gu 0 j))
theorem An:gy X (.type "range") Vh:=by intro pins s σ H xs us Q I r h;obtain ⟨j,rfl,q⟩:=h;obtain ⟨u,rfl,ru⟩:=vals1 r;obtain ⟨t,rfl⟩:=ru;refine call_range_1 ⟨.ref s.heap.objs.size,_,I.laid (o:=.gu 0 j) (fun b o e=>bX _ e) (aC _) ⟨_,_,_,dE _ rfl⟩,rfl,q _ (I.ay.fresh (aC _))⟩
def dw(n:Nat):List V:=(List.range n).map fun i:Nat=>V.int (i:Int)
def Vi:List V→Hp→VK→Prop:=fun xs H Q=>∃p n,xs=[.ref p]∧H p=some (.gu 0 (n:Nat))∧n≤10000∧∀l,H l=none→Q (.ref l) (upd H l (.lst (dw n)))
theorem Ao(hc:X.calm=true):gy X (.type "list") Vi:=by
 intro pins s σ H xs us Q I r h;obtain ⟨p,n,rfl,hp,hn,q⟩:=h;obtain ⟨u,rfl,ru⟩:=vals1 r;cases ru;obtain ⟨t,u,v,e⟩:=(show cj X.prog X.w H s.heap p (.gu 0 n) from I.ay p _ hp);refine call_list_range (n:=n) (I.ok.hd hc) e (small_one (by lia) (by lia) (by lia) (by lia)) (by rw [rangeSize_one];split <;> lia) (by lia) fun h' tk acc c hk hD hit=>?_
 refine ⟨.ref s.heap.objs.size,_,I.laid (o:=.lst (dw n)) (fun b o e=>hk b o e) (aC _) ⟨?_,acc.toList,c,?_,?_⟩,rfl,q _ (I.ay.fresh (aC _))⟩
 ·unfold dw
  rw [aD,c_];exact b8 hn (by decide)
 ·refine MB ?_ fun i x u h1 h2=>?_
  ·unfold dw
   rw [aD,c_,fh,hit.1]
  ·have MD:acc[i]?=some u:=by simpa using h2
   obtain ⟨eh,e'⟩:=hit.2 i u MD;unfold dw at h1;rw [bo] at h1;have hi:i<n:=by have z:=(Array.getElem?_eq_some_iff.mp MD).1;rw [hit.1] at z;exact z
   rw [jy hi] at h1;cases h1;exact ⟨eh,by rw [e'];simp⟩
 ·rw [hD]
end
theorem boot_all:bootBuiltins "all"=some (.builtin "all"):=by decide +kernel
theorem Ap:bootBuiltins "range"=some (.type "range"):=by decide +kernel
def GK:Expr→Bool
 | .Starred _ _=>false
 | _=>true
variable {e:Expr} {es:List Expr}
theorem Vj{env:Env}(h:GK e=true):starEach (e::es) env=(false,eval e env)::starEach es env:=by cases e <;> first | rfl | cases h
variable {X:Cx} {te:TE}
theorem Vk{t:TA}(hs:GK e=true)(ha:PE X e te)(hr:PA X es t):PA X (e::es) (wm te t):=
 TH ha hr (Vj hs)
theorem aj{t:TA}(ha:PE X e te)(hr:PA X es t)(hs:GK e=true:=by rfl):PA X (e::es) (wm te t):=Vk hs ha hr
variable {pos pos':Pos} {x:Str}
theorem ME{i:Nat}(hs:swapsWith e (some (.Name x pos')) pos.line X.env=pure false)(hf:X.fn x=true∨X.env.scope.names.lookup x=some .local)(hN:X.N.Nodup)(hi:X.N[i]?=some x)(hx:Loc X.env.scope x)(he:PE X e te) :
  PS X (.Assign [.Name x pos'] e pos) (sX te (a7 i)):=S5 hN hi hx he hs hf
theorem putL(i:Nat)(hN:X.N.Nodup)(he:PE X e te)(hs:swapsWith e (some (.Name x pos')) pos.line X.env=pure false:=by rfl)(hi:X.N[i]?=some x:=by rfl)(hx:X.env.scope.names.lookup x=some .local:=by rfl) :
  PS X (.Assign [.Name x pos'] e pos) (sX te (a7 i)):=ME hs (.inr hx) hN hi (.inl hx) he
theorem CT(i:Nat)(hN:X.N.Nodup)(he:PE X e te)(hs:swapsWith e (some (.Name x pos')) pos.line X.env=pure false:=by rfl)(hf:X.fn x=true∨X.env.scope.names.lookup x=some .local:=by first | exact .inl rfl | exact .inr rfl | assumption)(hi:X.N[i]?=some x:=by rfl)(hx:X.env.scope.names.lookup x=some .cell:=by rfl) :
  PS X (.Assign [.Name x pos'] e pos) (sX te (a7 i)):=ME hs hf hN hi (.inr hx) he
end L2
namespace My
open PySem L2
theorem wG(a b:Int):decide (V.int a=V.int b)=decide (a=b):=by
 by_cases h:a=b;·subst h;simp
 ·rw [bO h];exact bO fun e=>h (V.int.inj e)
variable {K:aF}
theorem Vl{T:String}:PySem.W.kitOne K (.type T) (.type T)=some true:=by unfold PySem.W.kitOne;rw [ae (B3 _)]
variable {H:Hp}
theorem aS{p:Addr}{o:HO}(h:H p=none):ak H (upd H p o):=fun b u e=>by rw [aH (gv e h)];exact e
variable {i:Int}
theorem MF{α:Type}{xs:List α}(h0:0≤i)(h1:i<xs.length):∃v,k4 xs i=some v∧v∈xs:=by
 obtain ⟨k,rfl⟩:∃k:Nat,i=(k:Int):=⟨i.toNat,by lia⟩
 have hk:k<xs.length:=by lia
 exact ⟨xs[k],n_ (by simp [hk]),cB _⟩
inductive Any (H:Hp):V→Prop where
 | aR:Any H .aR
 | bl (b:Bool):Any H (.bl b)
 | int (i:Int):Any H (.int i)
 | str (x:Str):Any H (.str x)
 | lst {a:Addr} {xs:List V} (e:H a=some (.lst xs)):Any H (.ref a)
 | tup {a:Addr} {xs:List V} (e:H a=some (.tup xs)):Any H (.ref a)
 | wC {a:Addr} (e:H a=some (GG a)):Any H (.ref a)
def wH:V→Bool
 | .int _=>true
 | _=>false
def wI:V→Bool
 | .bl _=>true
 | _=>false
def CU(H:Hp):V→Bool
 | .ref a=>(match H a with | some (.tup _)=>true | _=>false)
 | _=>false
theorem Any.GF{v:V}(h:Any H v):∃T:String,Af K H v (.type T)∧PySem.W.kitOne K (.type T) (.type "int")=some (wH v || wI v)∧PySem.W.kitOne K (.type T) (.type "bool")=some (wI v) ∧
  PySem.W.kitOne K (.type T) (.type "tuple")=some (CU H v):=by
 cases h with
 | aR=>exact ⟨"NoneType",.of .aR,rfl,rfl,rfl⟩
 | bl b=>exact ⟨"bool",.of (.bl b),rfl,rfl,rfl⟩
 | int i=>exact ⟨"int",.of (.int i),rfl,rfl,rfl⟩
 | str x=>exact ⟨"str",.of (.str x),rfl,rfl,rfl⟩
 | lst e=>exact ⟨"list",.of (.lst e),rfl,rfl,by unfold CU;dsimp only;rw [e];rfl⟩
 | tup e=>exact ⟨"tuple",.of (.tup e),rfl,rfl,by unfold CU;dsimp only;rw [e];rfl⟩
 | wC e=>exact ⟨"dict",.wC e,rfl,rfl,by unfold CU;dsimp only;rw [e];rfl⟩
theorem Vm{v:V}(h:wI v=true):wH v=false:=by cases v <;> first | rfl | cases h
theorem iO.of_lt(h1:-(10 ^ 70)<i)(h2:i<10 ^ 70):iO i:=by
 have h3:i.natAbs<2 ^ 240:=by lia
 exact d7 h3 (Nat.pow_le_pow_right (by decide) (by decide))
def Vn:Sp:=fun vs H Q _=>∃v:V,vs=[v]∧Any H v∧Q (.bl (wH v)) H
def Vo(K:aF):Sp:=fun vs H Q _=>∃(a:Addr) (ns:List Int),vs=[.ref a]∧aZ K H a (ns.map V.int)∧ns.length≤63∧∀H',Q (.bl true) H'
theorem Vp(xs:List V)(k:Nat):kZ xs none (some (k:Int))=xs.take k:=by unfold kZ;rw [HT.Ud,HT.Ue,List.drop_zero,Nat.sub_zero];rw [List.take_eq_take_iff];lia
end My
namespace L2
open PySem PySem.Spec PyProof.Rows
end L2
namespace My
open PySem L2
end My
namespace L2
open PySem PySem.Spec PyProof.Rows
section
variable {P:Program} {w:World} {K:aF} {mg:dh} {base:Heap}
end
section
variable {X:Cx} {CX:i9} {k:Nat} {f C:Addr} {fd:FuncData} {ps:List Str} {y:Str} {sp:Sp} {E:XK} {m:Str} {pos apos L3:Pos} {e e' o:Expr} {ta:TE} {t tk:TA}
end
end L2
namespace My
open PySem L2
end My
namespace L2
open PySem PySem.Spec PyProof.Rows
section
variable {X:Cx}
end
end L2
namespace My
open PySem L2
section
variable {C N z:Addr} {q:Int} {v u:V} {t b t' b':Int} {H:Hp} {Q:VK} {E:XK}
end
end My
namespace L2
open PySem PySem.Spec PyProof.Rows
structure k8 (J:It) (xs:List V) (H1:Hp):Prop where
 go:∀i Hc,ak H1 Hc→i<xs.length→J.go i Hc
 d_:∀i Hc x H',ak H1 Hc→J.d_ i Hc x H'→H'=Hc∧(i<xs.length→xs[i]?=some x)
 stop:∀i Hc,ak H1 Hc→xs.length≤i→J.stop i Hc
variable {K:aF} {xs:List V} {H1:Hp}
theorem ko{a:Addr}(h:aZ K H1 a xs):k8 (mr K a) xs H1 where
 go:=fun i Hc s hi=>⟨xs,xs[i],s.seq h,by simp [hi]⟩
 d_:=fun i Hc x H' s y=>⟨y.1,fun _=>y.2 xs (s.seq h)⟩
 stop:=fun i Hc s hi=>⟨xs,s.seq h,hi⟩
theorem MG{lo:Int}{n:Nat}:k8 (qM lo n) ((List.range n).map fun i:Nat=>V.int (lo+(i:Int))) H1 where
 go:=fun i Hc s hi=>by
  have hi:i<n:=by simpa using hi
  exact hi
 d_:=fun i Hc x H' s y=>⟨y.1,fun hi=>by
  have hi:i<n:=by simpa using hi
  rw [y.2];simp [hi]⟩
 stop:=fun i Hc s hi=>by
  have hi:n≤i:=by simpa using hi
  exact hi
variable {H:Hp} {D:Addr}
theorem gD{H':Hp}{o:HO}(s:ak H H')(n:H D=none):ak H (upd H' D o):=fun b u e=>by rw [aH (gv e n)];exact s b u e
variable {te:TE} {Q:VK}
theorem MJ{J:It}{ρσ:St}(js:k8 J xs H1)(nD:H1 D=none)(hn:xs.length<sizeLine)
  (P:Nat→V→Hp→Prop) (mono:∀i y H H' ys,P i y H→H D=some (.lst ys)→(∀b o,b≠D→H b=some o→H' b=some o)→P i y H')
  (step:∀i x,xs[i]?=some x→∀(Hc:Hp) (R:VK),ak H1 Hc→(∃ys,Hc D=some (.lst ys))→(∀y H3,ak Hc H3→P i y H3→R y H3)→te (some x::ρσ) Hc R)
  (fin:∀ys Hc,ak H1 Hc→ys.length=xs.length→(∀i y,ys[i]?=some y→P i y Hc)→Hc D=some (.lst ys)→Q (.ref D) Hc) :
  ∃W:Nat→Nat→List V→Hp→Prop,(∃m,W 0 m [] (upd H1 D (.lst []))) ∧
   ∀i m ys Hc,W i m ys Hc→Hc D=some (.lst ys)∧((J.stop i Hc∧Q (.ref D) Hc)∨(J.go i Hc∧∀x H',J.d_ i Hc x H'→
    if true=true then te (some x::ρσ) H' fun y H3=>H3 D=some (.lst ys)∧ys.length<sizeLine∧∃m',m'<m∧W (i+1) m' (ys++[y]) (upd H3 D (.lst (ys++[y]))) else ∃m',m'<m∧W (i+1) m' ys H')):=by
 refine ⟨fun i m ys Hc=>m=xs.length-i∧i≤xs.length∧Hc D=some (.lst ys)∧ak H1 Hc∧ys.length=i∧∀j y,ys[j]?=some y→P j y Hc,⟨_,rfl,cf _,ax,gD (ak.refl H1) nD,rfl,fun j y e=>by simp at e⟩,?_⟩
 rintro i m ys Hc ⟨rfl,hi,eD,sH,el,hP⟩;refine ⟨eD,?_⟩;by_cases bh:i<xs.length
 ·refine .inr ⟨js.go i Hc sH bh,fun x H' hy=>?_⟩
  obtain ⟨rfl,hx⟩:=js.d_ i Hc x H' sH hy;rw [ae rfl];refine step i x (hx bh) _ _ sH ⟨ys,eD⟩ fun y H3 s3 hp=>?_;have e3:=s3 _ _ eD;refine ⟨e3,by lia,xs.length-(i+1),by lia,rfl,bh,ax,gD (sH.trans s3) nD,by simp [el],fun j y' e=>?_⟩
  have cY:∀b o,b≠D→H3 b=some o→upd H3 D (.lst (ys++[y])) b=some o:=fun b o nb e=>by rw [aH nb];exact e
  by_cases hj:j<i
  ·have e':ys[j]?=some y':=by rw [iC (by lia)] at e;exact e
   refine mono j y' H' _ ys (hP j y' e') eD fun b o nb e=>?_;exact cY b o nb (s3 _ _ e)
  ·have hj:j=i:=by have:=(bJ.mp e).1;simp at this;lia
   subst hj;have e':y'=y:=by rw [iz (by lia),el,vI] at e;simpa using e.symm
   subst e';exact mono _ _ H3 _ ys hp e3 cY
 ·have e:i=xs.length:=by lia
  subst e;exact .inl ⟨js.stop _ Hc sH (aC _),fin ys Hc sH el hP eD⟩
variable {wi:TI} {ρ:St→St} {σ:St}
theorem MK(fE:∀R:It→Hp→Prop,(∀J H1,ak H H1→k8 J xs H1→R J H1)→wi σ H R)(hn:xs.length<sizeLine)
  (P:Addr→Nat→V→Hp→Prop) (mono:∀D i y H H' ys,P D i y H→H D=some (.lst ys)→(∀b o,b≠D→H b=some o→H' b=some o)→P D i y H')
  (step:∀D i x,xs[i]?=some x→∀(Hc:Hp) (R:VK),ak H Hc→(∃ys,Hc D=some (.lst ys))→(∀y H3,ak Hc H3→P D i y H3→R y H3)→te (some x::ρ σ) Hc R)
  (fin:∀D ys Hc,ak H Hc→ys.length=xs.length→(∀i y,ys[i]?=some y→P D i y Hc)→Hc D=some (.lst ys)→Q (.ref D) Hc):kj wi ρ (fun _ H Q=>Q true H) te σ H Q:=by
 refine fE _ fun J H1 s1 js=>?_;intro D nD;exact MJ (ρσ:=ρ σ) (te:=te) (Q:=Q) js nD hn (P D) (mono D) (fun i x hx Hc R sc=>step D i x hx Hc R (s1.trans sc)) (fun ys Hc sc=>fin D ys Hc (s1.trans sc))
theorem pJ{g:TG}{D:Ends}(h:te σ H fun x H1=>g x σ H1 D.nx):sX te g D σ H:=h
theorem dB{a b:TS}{D:Ends}(h:a {D with nx:=fun σ H=>b D σ H} σ H):F8 a b D σ H:=h
section
variable {X:Cx} {N:List Str} {scope:Scope} {cl:List (Str×Addr)} {x:Str} {px pos:Pos} {iter elt:Expr} {ifs:List Expr} {wi:TI} {ρ:St→St} {tt:TT} {te:TE}
theorem Aq{y:Str}{py ML:Pos}{i0:Nat}(B:GI X N scope cl x ρ)(hc:X.calm=true)(hN:X.N.Nodup)(Vq:X.N[i0]?=some y)(hy:Loc X.env.scope y)(hi:PI X (.Name x px) iter wi)(ht:∀s₃ H₃ fp,qU (X.cw N scope cl s₃ H₃ fp) ifs tt)(he:∀s₃ H₃ fp,PE (X.cw N scope cl s₃ H₃ fp) elt te)
  (Vr:swapsWith (.ListComp elt [⟨.Name x px,iter,ifs,0⟩] scope pos) (some (.Name y py)) ML.line X.env=pure true:=by rfl) (hf:X.fn y=true∨X.env.scope.names.lookup y=some .local:=by first | exact .inl rfl | exact .inr rfl | assumption)
  (hs:∀x,foldedSetIterable iter X.env x=pure x:=by intro _;rfl):PS X (.Assign [.Name y py] (.ListComp elt [⟨.Name x px,iter,ifs,0⟩] scope pos) ML) (sX (kj wi ρ tt te) (a7 i0)):=by
 intro pins s σ H D0 I h
 have h:kj wi ρ tt te σ H (fun v H1=>D0.nx (σ.set i0 (some v)) H1):=h
 rw [exec_Assign_Name_used _ _ _ _ Vr]
 refine au (qo (au ?_))
 show wpAny _ X.A (do let _ ←comprehension (.ListComp elt [⟨.Name x px,iter,ifs,0⟩] scope pos) scope X.env _ (newList []) false (eval iter X.env) (some (assign (.Name y py) X.env))) _ _ s
 refine au (cL (Q:=fun _ s'=>SP X pins D0 .next s') ?_ (fun _ s' hq=>a8 (a8 hq)) fun _ _ e=>e)
 refine FN (use:=some (assign (.Name y py) X.env)) rfl hs B.CO B.kind B.names (aK (hi pins s σ H _ I h) fun v s1 h1=>aK h1 fun zU s2 h2=>?_)
 obtain ⟨it,fp,tn,J,H2,rfl,I2,T,ke,f2,q2⟩:=h2
 have nD:H2 s2.heap.objs.size=none:=I2.ay.fresh (aC _)
 obtain ⟨W,⟨m0,w0⟩,turn⟩:=q2 _ nD
 refine sE (B2 B.CP (by intro y hy;simp at hy) (fun h₁ jJ jK=>?_) B.kind)
 dsimp only at jJ jK ⊢
 generalize hD:s2.heap.objs.size=D at nD w0 turn jJ jK ⊢
 generalize mG:({s2 with heap:=s2.heap.push {cls:=.type "list",dict:=none,data:=.seq ([]:List Value).toArray}}:Shared)=s3
 have I3:Inv X pins σ (upd H2 D (.lst [])) s3:=by
  subst hD mG
  exact I2.laid (t':=s2.toks) (fun b u e=>bX _ e) (aC _) ⟨cf _,[],_,.nil,dE _ rfl⟩
 have e3:s3.heap=s2.heap.push {cls:=.type "list",dict:=none,data:=.seq ([]:List Value).toArray}:=by rw [←mG]
 have jL:∀b o,s2.heap.get? b=some o→s3.heap.get? b=some o:=fun b o e=>by rw [e3];exact bX _ e
 rw [←e3] at jJ jK ⊢
 have below:∀b o,s3.heap.get? b=some o→b≠s3.heap.objs.size:=fun b o e=>bW (a9 e)
 have fZ:∀b o,s3.heap.get? b=some o→h₁.get? b=some o:=fun b o e=>jK.extBut b o (below b o e) (bX _ e)
 have mH:∀b∈fp,∃o,s2.heap.get? b=some o∧∀v,o.data≠.cell v:=T.obj _ _ ke
 have Ag:∀b∈fp,b≠D:=fun b hb z=>by
  obtain ⟨o,e,_⟩:=mH b hb
  rw [z,←hD] at e
  exact absurd (a9 e) (eW _)
 have fm:∀y c,cl.lookup y=some c→X.env.cells.lookup y=some c:=fun y c e=>B.sub (y,c) (oQ e)
 have Ah:=I3.zL
 have gC:(X.cw N scope cl s3 (upd H2 D (.lst [])) fp).Ok:=by
  refine ⟨I.ok.mod,B.kind,I.ok.glob,I.ok.blt,aC _,fun a b c e1 e2=>I.ok.inj a b c (fm a c e1) (fm b c e2),fun y hy=>B.has y hy,(fun _ _ z _=>absurd z dN),(fun _=>I.ok.hd hc),I.ok.frames,.inl rfl,fun b hb=>⟨?_,fun y c e z=>?_⟩,fun b o e=>?_,b8 I.ok.j_ I3.sz,fun b o e hb=>?_,fun b hb z=>?_,I3.stack,Ah⟩
  ·obtain ⟨o,e,_⟩:=mH b hb
   exact below b o (jL b o e)
  ·exact (f2 b hb).2.2.2.2.1 y c (fm y c e) z
  ·exact I3.bs b o e
  ·rcases (f2 b hb).2.2.2.1 with z | z
   ·exact I.ok.sQ b o e z
   ·exact absurd (d7 (a9 e) (b8 I.ok.j_ z)) (eW _)
  ·rcases bw.mp (I3.zK b z) with z | z
   ·exact (f2 b hb).2.1 z
   ·exact (f2 b hb).2.2.1 z
 have IB:∀tk:Nat,Inv (X.cw N scope cl s3 (upd H2 D (.lst [])) fp) [] (none::ρ σ) (upd H2 D (.lst [])) {s3 with heap:=h₁,toks:=tk}:=fun tk=>by
  refine ⟨gC,rfl,I3.bare,Un.kept fZ,⟨_,jJ,fun j y v e1 e2 e3=>?_⟩,fun y c e=>?_,?_,fun y c e=>I3.kU y c (fm y c e),(fun p hp=>nomatch hp),I3.ay.kept fZ,?_⟩
  ·cases j with
   | zero=>cases e2
   | succ j=>
    obtain ⟨i,y',a1,a2,a3,a4,a5,a6⟩:=B.CQ σ j v e2
    have tG:N[j+1]?=some y:=e1
    rw [tG] at a1
    cases a1
    obtain ⟨m,hn,hl⟩:=I3.loc
    obtain ⟨u,r,l⟩:=hl i y v a2 a3 a4
    refine ⟨u,r,.inr ⟨a6,?_⟩⟩
    obtain ⟨c,ec⟩:=B.has y a6
    rcases l with ⟨k,_⟩ | ⟨_,c',qV,z⟩
    ·rcases a5 with q | q <;> (rw [k] at q;cases q)
    ·have:=fm y c ec
     rw [this] at qV
     cases qV
     obtain ⟨o,ho,hd⟩:=z
     exact ⟨c,ec,o,fZ _ _ ho,hd⟩
  ·obtain ⟨v,o,ho,hd⟩:=I3.cell y c (fm y c e)
   exact ⟨v,o,fZ _ _ ho,hd⟩
  ·exact I3.ay.fresh (aC _)
  ·show (none::ρ σ).length=N.length
   rw [d8]
   exact B.len σ I.len
 have GL:∀b o,s3.heap.get? b=some o→b≠s3.heap.objs.size:=below
 have fin:∀{σ':St} {H':Hp} {s':Shared},Inv (X.cw N scope cl s3 (upd H2 D (.lst [])) fp) [] σ' H' s'→D0.nx (σ.set i0 (some (.ref D))) H'→compPost (model X.prog X.w) X.A X.xe (some (assign (.Name y py) X.env)) (fun _ s'=>SP X pins D0 .next s') (.ref D) s3.heap.objs.size (.ok .next) s':=fun{σ' H' s'} J q=>by
  obtain ⟨m,hn,_⟩:=J.loc
  have hn:s'.heap.Ns s3.heap.objs.size m:=hn
  have JC:H' s3.heap.objs.size=none:=J.free
  have u1:Un (di X.stack) fp (upd H2 D (.lst [])) H' s3.heap s'.heap:=by
   refine ⟨fun b o e n hb hx=>J.base.keep b o e n hb hx,fun b o e n hb hx=>J.base.slot b o e n hb hx,J.base.free,fun b o e hx=>J.base.there b o e hx,J.base.i5,J.base.iG,J.base.iH⟩
  have IX:Inv X pins σ H' s':=I3.o_ (ch:=fp) (J.os) u1 J.ay J.bare fun b hb=>by
   obtain ⟨g0,g1,g2,g3,g4,g5⟩:=f2 b hb
   exact ⟨g3,g1,g4,g5⟩
  have nl:X.env.locals≠s3.heap.objs.size:=by
   obtain ⟨m3,⟨o3,_,_,e3,_⟩,_⟩:=I3.loc
   exact GL _ _ e3
  have nc:∀z c,X.env.cells.lookup z=some c→c≠s3.heap.objs.size:=fun z c e=>by
   obtain ⟨v3,o3,e3,_⟩:=I3.cell z c e
   exact GL _ _ e3
  refine wpAny_assign_Name (Ly (v:=.ref D) IX hN Vq hy rfl (fun iJ GN wJ=>?_) hf)
  obtain ⟨a,wJ,ha⟩:=wJ
  have na:s3.heap.objs.size≠a:=by
   rcases ha with rfl | e
   ·exact fun z=>nl z.symm
   ·exact fun z=>nc _ _ e z.symm
  refine ⟨m,hn.sameBut wJ na,fun h' jM=>⟨σ.set i0 (some (.ref D)),H',?_,q⟩⟩
  have u2:Un (di X.stack) [s3.heap.objs.size] H' H' iJ.heap h':=by
   refine ⟨fun b o e n hb hx=>(jM.2 b (by simpa using hx)).trans e,fun b o e n hb hx=>⟨o.slots,(jM.2 b (by simpa using hx)).trans e⟩,fun b o e n hx=>n,fun b o e hx=>⟨o,(jM.2 b (by simpa using hx)).trans e⟩,fun b xs z=>z,fun b o u z=>z,fun b ps z=>⟨#[],by simpa using z⟩⟩
  have Ai:cS X.prog X.w H' h':=fun b u e=>by
   refine (GN.ay b u e).iF (fun c v hc z=>(jM.2 c fun y=>?_).trans z) (fun _ z=>z) fun _ _ z=>z
   have y':c=s3.heap.objs.size:=y
   rcases hc with hc | hc
   ·rw [←hc,y',JC] at e
    cases e
   ·rw [y',JC] at hc
    cases hc
  refine GN.o_ (s':={iJ with heap:=h'}) (ch:=[s3.heap.objs.size]) rfl u2 Ai GN.bare fun b hb=>?_
  have eb:b=s3.heap.objs.size:=by simpa using hb
  subst eb
  refine ⟨.inr I3.sz,fun z=>nl z.symm,fun z c e=>nc z c e,fun p hp=>?_⟩
  exact GL _ _ (I3.pin p hp).1
 have i7:∀{H':Hp},(∀b∈fp,H' b=none)→∀b∈fp,pA (X.cw N scope cl s3 (upd H2 D (.lst [])) fp) [] H' b:=fun hn b hb=>by
  refine ⟨hn b hb,?_,?_,.inl hb,fun y c e z=>(f2 b hb).2.2.2.2.1 y c (fm y c e) z,fun p hp=>nomatch hp⟩
  ·obtain ⟨o,e,_⟩:=mH b hb
   exact below b o (jL b o e)
  ·exact gC.sS b hb
 have loop:∀tk:Nat,codeAny (model X.prog X.w) X.A (.compLoop (.ListComp elt [⟨.Name x px,iter,ifs,0⟩] scope pos) 0 (.ref it) (.ref D) (compEnvC scope cl s3.heap.objs.size X.env))
   (compPost (model X.prog X.w) X.A X.xe (some (assign (.Name y py) X.env)) (fun _ s'=>SP X pins D0 .next s') (.ref D) s3.heap.objs.size) {s3 with heap:=h₁,toks:=tk}:=fun tk=>by
  refine codeAny_compLoop_tests (fun n s'=>∃i ys o H',Inv (X.cw N scope cl s3 (upd H2 D (.lst [])) fp) [] (o::ρ σ) H' s'∧tn i s'.heap∧(∀b∈fp,H' b=none)∧W i n ys H') ?_ m0
   ⟨0,[],none,_,IB tk,T.keep _ _ _ ke fun b hb o e=>fZ _ _ (jL _ _ e),fun b hb=>by rw [aH (Ag b hb)];exact (f2 b hb).1,w0⟩
  rintro n s4 ⟨i,ys,o,H4,I4,qW,qX,w4⟩
  obtain ⟨MA,Aj⟩:=turn i n ys H4 w4
  rcases Aj with ⟨stop,qn⟩ | ⟨go,step⟩
  ·refine cL (T.done (X.cw N scope cl s3 (upd H2 D (.lst [])) fp) rfl rfl rfl hc i [] s4 _ H4 (fun _ _=>False) I4 (i7 qX) qW stop) (fun r s5 ⟨hr,I5⟩=>?_) fun _ _ z=>z.elim
   subst hr
   exact fin I5 qn
  ·refine cL (T.item (X.cw N scope cl s3 (upd H2 D (.lst [])) fp) rfl rfl rfl hc i [] s4 _ H4 (fun _ _=>False) I4 (i7 qX) qW go) (fun r s5 ⟨u,hr,h5⟩=>?_) fun _ _ z=>z.elim
   subst hr
   have z:letOwnedTupleGo (.Name x px) (.ref it) u=pure ():=rfl
   rw [z] at h5
   show wpAny _ _ ((pure ():Sem Unit) >>= fun _=>assign (.Name x px) (compEnvC scope cl s3.heap.objs.size X.env) u) _ _ s5
   refine au (cL h5 (fun _ s5 ⟨y,H5,I5,r5,y5,i8,sY⟩=>?_) fun _ _ z=>z.elim)
   have sZ:=I5.pinned (i7 sY) (T.obj _ _ i8)
   have pg:PG (X.cw N scope cl s3 (upd H2 D (.lst [])) fp) (.Name x px) (a7 0):=df (i:=0) B.nd B.n0 (.inl (qu B.hx)) (.inr (qu B.hx))
   have again:∀{σ7:St} {H7:Hp} {s7:Shared},Inv (X.cw N scope cl s3 (upd H2 D (.lst [])) fp) ([]++nZ fp s5.heap) σ7 H7 s7→Inv (X.cw N scope cl s3 (upd H2 D (.lst [])) fp) [] σ7 H7 s7∧tn (i+1) s7.heap∧∀b∈fp,H7 b=none:=fun{σ7 H7 s7} I7=>by
    refine ⟨I7.we,T.keep _ _ _ i8 fun b hb o e=>(I7.pin (b,o) (fA _ (fA _ (qO hb e)))).1,fun b hb=>?_⟩
    obtain ⟨o,e,d⟩:=T.obj _ _ i8 b hb
    exact (I7.pin (b,o) (fA _ (fA _ (qO hb e)))).2.1
   refine cL (pg _ s5 _ H5 y u (fun σ2 H6=>σ2=some y::ρ σ∧H6=H5) sZ r5 ⟨rfl,rfl⟩) (fun _ s6 ⟨σ6,H6,I6,q6⟩=>?_) fun _ _ z=>z.elim
   obtain ⟨rfl,rfl⟩:=q6
   have Ak:=step y _ y5
   have tests:∀{mI:TT},qU (X.cw N scope cl s3 (upd H2 D (.lst [])) fp) ifs mI→∀{R:Bool→Hp→Prop},mI (some y::ρ σ) H6 R→wpAny (model X.prog X.w) X.A
     (forIn ifs true fun c r=>if r=true then do let ok ←isTrue c (compEnvC scope cl s3.heap.objs.size X.env) (eval c (compEnvC scope cl s3.heap.objs.size X.env));pure (ForInStep.yield ok) else pure (ForInStep.yield r))
     (fun ok s7=>∃H7,Inv (X.cw N scope cl s3 (upd H2 D (.lst [])) fp) ([]++nZ fp s5.heap) (some y::ρ σ) H7 s7∧R ok H7) (fun _ _=>False) s6:=fun{mI} p {R} hR=>by
    cases p with
    | nil=>exact wpAny_tests_nil ⟨_,I6,hR⟩
    | one p=>exact wpAny_tests_one (p _ s6 _ _ _ I6 hR)
   refine cL (tests (ht s3 _ fp) Ak) (fun ok s7 ⟨H7,I7,q7⟩=>?_) fun _ _ z=>z.elim
   cases ok with
   | false=>
    obtain ⟨m',ft,w7⟩:=q7
    obtain ⟨a1,a2,a3⟩:=again I7
    exact ⟨m',ft,i+1,ys,_,H7,a1,a2,a3,w7⟩
   | true=>
    refine cL (he s3 _ fp _ s7 _ H7 _ I7 q7) (fun ev s8 ⟨z,H8,I8,r8,Am,hz,m',ft,w8⟩=>?_) fun _ _ z=>z.elim
    refine cL (k6 (X:=X.cw N scope cl s3 (upd H2 D (.lst [])) fp) _ s8 _ H8 (.ref D) [z] (.ref D) [ev] (fun _ H9=>H9=upd H8 D (.lst (ys++[z]))) I8 rfl (.cons r8 .nil) ⟨D,ys,z,rfl,rfl,Am,hz,rfl⟩) (fun _ s9 ⟨_,H9,I9,_,q9⟩=>?_) fun _ _ z=>z.elim
    subst q9
    obtain ⟨a1,a2,a3⟩:=again I9
    exact ⟨m',ft,i+1,ys++[z],_,_,a1,a2,a3,w8⟩
 have start:=loop (s3.toks+([]:List (Str×Value)).length)
 have es:({s3 with heap:=h₁,toks:=s3.toks+([]:List (Str×Value)).length}:Shared)={s2 with heap:=h₁,toks:=s2.toks+([]:List (Str×Value)).length}:=by rw [←mG]
 rw [es] at start
 exact FO start (T.self _ 0 _ _ _ (T.keep _ _ _ ke fun b hb o e=>fZ _ _ (jL _ _ e)) start)
end
def GO(K:aF)(l1 l2:Addr):It:=
  ⟨fun i H=>∃xs ys x y,aZ K H l1 xs∧aZ K H l2 ys∧xs[i]?=some x∧ys[i]?=some y,
   fun i H v H'=>∃T x y,H T=none∧v=.ref T∧H'=upd H T (.tup [x,y])∧∀xs ys,aZ K H l1 xs→aZ K H l2 ys→xs[i]?=some x∧ys[i]?=some y,
   fun i H=>∃xs ys,aZ K H l1 xs∧aZ K H l2 ys∧(xs.length≤i∨ys.length≤i)⟩
theorem Vs{P:Program}{w:World}{elts:List Expr}{k:Nat}{pos:Pos}{z TI TO i1 i2 l1 l2:Addr}(D:ZipApart z TI TO i1 i2 l1 l2):Turn P w K (.Tuple elts k pos) (GO K l1 l2) [z,TI,TO,i1,i2] z
  (fun i h=>IsZip h z TI TO .none∧IsPair h TI (.ref i1) (.ref i2)∧(∃a b,IsPair h TO a b)∧h.IsListIter i1 l1 i∧h.IsListIter i2 l2 i) where
 mem:=by simp
 obj:=fun i h st b hb=>by
  obtain ⟨hz,pK,⟨a,c,qY⟩,h1,h2⟩:=st;simp only [bw,gp,j7] at hb;rcases hb with rfl | rfl | rfl | rfl | rfl;·exact ⟨_,hz,fun v z=>by cases z⟩
  ·exact ⟨_,pK,fun v z=>by cases z⟩
  ·exact ⟨_,qY,fun v z=>by cases z⟩
  ·obtain ⟨o,e,c,d⟩:=h1
   exact ⟨o,e,fun v z=>by rw [d] at z;cases z⟩
  ·obtain ⟨o,e,c,d⟩:=h2
   exact ⟨o,e,fun v z=>by rw [d] at z;cases z⟩
 keep:=fun i h h' st k=>by obtain ⟨hz,pK,⟨a,c,qY⟩,h1,h2⟩:=st;exact ⟨k _ (by simp) _ hz,k _ (by simp) _ pK,⟨a,c,k _ (by simp) _ qY⟩,h1.at fun o e=>k _ (by simp) o e,h2.at fun o e=>k _ (by simp) o e⟩
 item:=by
  intro X hP hw hK hc i pins s σ H E I hf st hg;subst hP hw hK;obtain ⟨hz,pK,⟨a,c,qY⟩,h1,h2⟩:=st;obtain ⟨xs,ys,x,y,kq,pI,hx,hy⟩:=hg;obtain ⟨its,rv,p,_⟩:=I.list kq;obtain ⟨MM,CW,p',_⟩:=I.list pI;obtain ⟨u,hu,ru⟩:=rv.get hx;obtain ⟨u',GP,Vt⟩:=CW.get hy;refine wpAny_pyNext_zip_item D hz pK qY h1 h2 p.isList p'.isList (x:=u) (y:=u') (by simpa using hu) (by simpa using GP) fun h' g1 g2 g3 g4 g5 g6 g7=>⟨_,rfl,?_⟩
  refine wpAny_letOwnedTupleGo_zip g1 fun jc q1 sb=>?_;have qZ:H s.heap.objs.size=none:=I.ay.fresh (aC _);have lt:∀b o,s.heap.get? b=some o→b≠s.heap.objs.size:=fun b o e=>bW (a9 e);have keep:∀b o,b∉[z,TI,TO,i1,i2]→s.heap.get? b=some o→jc.get? b=some o:=fun b o nb e=>by simp only [bw,gp,j7,not_or] at nb;exact sb.extBut _ _ nb.1 (g7 b o nb.1 nb.2.2.1 nb.2.2.2.1 nb.2.2.2.2 e)
  have Vu:z≠s.heap.objs.size:=lt _ _ hz;have pT:IsPair jc s.heap.objs.size u u':=sb.extBut _ _ Vu.symm g5;have ig:∀{b:Addr} {o:HO} (e:H b=some o),upd H s.heap.objs.size (.tup [x,y]) b=some o:=fun e=>by rw [aH (gv e qZ)];exact e
  have ay:cS X.prog X.w (upd H s.heap.objs.size (.tup [x,y])) jc:=fun b o e=>by
   by_cases hb:b=s.heap.objs.size
   ·subst hb
    rw [ax] at e;cases e;exact ⟨by show 2≤sizeLine;decide,[u,u'],.cons ru (.cons Vt .nil),⟨_,pT,rfl,_,rfl⟩⟩
   ·rw [aH hb] at e
    refine (I.ay b o e).iF (fun c v d5 q=>keep c v (fun m=>?_) q) (fun c q=>ig q) fun c xs q=>ig q;have nn:=(hf c m).1;rcases d5 with rfl | d5;·rw [nn] at e;cases e
    ·rw [nn] at d5;cases d5
  have u1:Un (di X.stack) [z,TI,TO,i1,i2] H (upd H s.heap.objs.size (.tup [x,y])) s.heap jc:=
   ⟨fun b o e n _ hx=>keep b o hx e,fun b o e n _ hx=>⟨o.slots,keep b o hx e⟩,fun b o e n hx=>by rw [aH (lt b o e)];exact n,fun b o e hx=>⟨o,keep b o hx e⟩,fun b xs e=>ig e,fun b o u e=>ig e,fun b ps e=>⟨#[],by rw [ig e];simp⟩⟩
  refine ⟨.ref s.heap.objs.size,upd H s.heap.objs.size (.tup [x,y]),I.o_ (s':={s with heap:=jc}) (ch:=[z,TI,TO,i1,i2]) rfl u1 ay I.bare (fun b hb=>?_),rfl,⟨_,x,y,qZ,rfl,rfl,fun as bs ha hb=>⟨by rw [I.Cr ha kq];exact hx,by rw [I.Cr hb pI];exact hy⟩⟩,?_,fun b hb=>?_⟩
  ·obtain ⟨f0,f1,f2,f3,f4,f5⟩:=hf b hb
   exact ⟨f3,f1,f4,f5⟩
  ·exact ⟨q1,sb.extBut _ _ D.TIz (g7 _ _ D.TIz D.TITO D.TIi1 D.TIi2 pK),⟨_,_,sb.extBut _ _ D.TOz g2⟩,g3.extBut sb.extBut D.i1z,g4.extBut sb.extBut D.i2z⟩
  ·have nb:b≠s.heap.objs.size:=by
    simp only [bw,gp,j7] at hb;rcases hb with rfl | rfl | rfl | rfl | rfl;·exact lt _ _ hz
    ·exact lt _ _ pK
    ·exact lt _ _ qY
    ·obtain ⟨o,e,_⟩:=h1;exact lt _ _ e
    ·obtain ⟨o,e,_⟩:=h2;exact lt _ _ e
   rw [aH nb];exact (hf b hb).1
 done:=by
  intro X hP hw hK hc i pins s σ H E I hf st hg;subst hP hw hK;obtain ⟨hz,pK,⟨a,c,qY⟩,h1,h2⟩:=st;obtain ⟨xs,ys,kq,pI,hx⟩:=hg;obtain ⟨its,rv,p,_⟩:=I.list kq;obtain ⟨MM,CW,p',_⟩:=I.list pI;have hl:=rv.length;have hl':=CW.length;refine wpAny_pyNext_zip_end (I.ok.hd hc) D hz pK qY h1 h2 p.isList p'.isList (hx.imp (fun h=>by simp;lia) fun h=>by simp;lia) fun h' g=>⟨rfl,?_⟩
  have keep:∀b o,b∉[z,TI,TO,i1,i2]→s.heap.get? b=some o→h'.get? b=some o:=fun b o nb e=>by simp only [bw,gp,j7,not_or] at nb;exact g b o nb.1 nb.2.2.1 nb.2.2.2.1 nb.2.2.2.2 e
  have ay:cS X.prog X.w H h':=fun b o e=>by
   refine (I.ay b o e).iF (fun c v d5 q=>keep c v (fun m=>?_) q) (fun c q=>q) fun c xs q=>q;have nn:=(hf c m).1;rcases d5 with rfl | d5;·rw [nn] at e;cases e
   ·rw [nn] at d5;cases d5
  have u1:Un (di X.stack) [z,TI,TO,i1,i2] H H s.heap h':=
   ⟨fun b o e n _ hx=>keep b o hx e,fun b o e n _ hx=>⟨o.slots,keep b o hx e⟩,fun b o e n hx=>n,fun b o e hx=>⟨o,keep b o hx e⟩,fun b xs e=>e,fun b o u e=>e,fun b ps e=>⟨#[],by rw [e];simp⟩⟩
  refine I.o_ (s':={s with heap:=h'}) (ch:=[z,TI,TO,i1,i2]) rfl u1 ay I.bare fun b hb=>?_;obtain ⟨f0,f1,f2,f3,f4,f5⟩:=hf b hb;exact ⟨f3,f1,f4,f5⟩
 self:=fun _ _ _ _ _ st h=>wpAny_pyIter_zip st.1 h
theorem boot_zip:bootBuiltins "zip"=some (.type "zip"):=by decide +kernel
def Vv(K:aF)(ta:TA):TI:=fun σ H R=>ta σ H fun vs H1=>∃l1 l2,vs=[.ref l1,.ref l2]∧(∃xs,aZ K H1 l1 xs)∧(∃ys,aZ K H1 l2 ys)∧R (GO K l1 l2) H1
section
variable {X:Cx}
theorem Vw{elts:List Expr}{k:Nat}{nX:Pos}{a b:Expr}{ta:TA}{p pos:Pos}(hg:Gl X "zip")(hm:X.mg "zip"=none)(ha:PA X [a,b] ta)(hs:starEach [a,b] X.env=[(false,eval a X.env),(false,eval b X.env)]:=by rfl)(nY:starEach [b] X.env=[(false,eval b X.env)]:=by rfl) :
  PI X (.Tuple elts k nX) (.Call (.Name "zip" p) [a,b] [] pos) (Vv X.K ta):=by
 intro pins s σ H R I h;refine Call_ (kd I hg hm boot_zip (vD (aK (ha pos pins s σ H _ I h) fun us s1 ⟨vs,H1,I1,r1,q1⟩=>?_) (by rw [hs,nY]) (by rw [nY];rfl)))
 obtain ⟨l1,l2,e,⟨xs,kq⟩,⟨ys,pI⟩,q⟩:=q1;subst e;cases r1 with
 | cons r rr=>
  cases rr with
  | cons r' rr=>
   cases rr;cases r;cases r';obtain ⟨its,rv,p1,_⟩:=I1.list kq;obtain ⟨MM,CW,p2,_⟩:=I1.list pI;have b1:l1<s1.heap.objs.size:=by obtain ⟨o,e,_⟩:=p1.isList;exact a9 e
   have b2:l2<s1.heap.objs.size:=by obtain ⟨o,e,_⟩:=p2.isList;exact a9 e
   refine call_zip_2 p1.isList p2.isList fun h' z1 z2 z3 z4 z5 z6 z7=>?_;refine wpAny_pyIter_zip (s:={s1 with heap:=h'}) z1 ?_;have D:ZipApart (s1.heap.objs.size+4) (s1.heap.objs.size+2) (s1.heap.objs.size+3) s1.heap.objs.size (s1.heap.objs.size+1) l1 l2:=by constructor <;> (intro h;have h:@Eq Nat _ _:=h;have b1:@LT.lt Nat _ l1 s1.heap.objs.size:=b1;have b2:@LT.lt Nat _ l2 s1.heap.objs.size:=b2;lia)
   refine ⟨_,_,_,_,H1,rfl,I1.kept (t':=s1.toks) z7,Vs D,⟨z1,z2,⟨_,_,z3⟩,z4,z5⟩,fun b hb=>?_,q⟩;have le:s1.heap.objs.size≤b:=by
    simp only [bw,gp,j7] at hb;rcases hb with rfl | rfl | rfl | rfl | rfl;·exact zd ..
    ·exact zd ..
    ·exact zd ..
    ·exact aC _
    ·exact zd ..
   exact I1.pB le (I1.ay.fresh le)
end
section
variable {prog:Program} {w:World} {A:Around} {R:Result→Shared→Prop} {s:Shared}
theorem Vx{elt target iter:Expr}{ifs:List Expr}{scope:Scope}{pos:Pos}{it acc:Value}{env:Env}(I:Nat→Shared→Prop)
  (turn:∀n s,I n s→wpAny (model prog w) A (pyNext it) (fun r s₁=>match r with
   | none=>R (.ok .next) s₁
   | some v=>wpAny (model prog w) A (letOwnedTupleGo target it v) (fun _ s₁=>wpAny (model prog w) A (assign target env v) (fun _ s₂=>
     wpAny (model prog w) A (forIn ifs true fun c r=>if r=true then do let ok ←isTrue c env (eval c env);pure (ForInStep.yield ok) else pure (ForInStep.yield r)) (fun ok s₃=>
      if ok=true then wpAny (model prog w) A (eval elt env) (fun x s₄=>
       wpAny (model prog w) A (call (.builtin "list.append") [acc,x]) (fun _ s₅=>∃m,m<n∧I m s₅) (notedBy (model prog w) A env fun e s'=>R (.error e) s') s₄) (notedBy (model prog w) A env fun e s'=>R (.error e) s') s₃
      else ∃m,m<n∧I m s₃) (notedBy (model prog w) A env fun e s'=>R (.error e) s') s₂) (notedBy (model prog w) A env fun e s'=>R (.error e) s') s₁) (notedBy (model prog w) A env fun e s'=>R (.error e) s') s₁) (notedBy (model prog w) A env fun e s'=>R (.error e) s') s)
  (n:Nat) (h:I n s):codeAny (model prog w) A (.compLoop (.ListComp elt [⟨target,iter,ifs,0⟩] scope pos) 0 it acc env) R s:=by
 refine codeAny_loop rfl I (fun n s hI=>?_) n h
 show wpAny _ A ((compTurn (.ListComp elt [⟨target,iter,ifs,0⟩] scope pos) 0 it acc env).onRaise (fun x=>do noteFrame x env;theTreesLotGoes x)) _ _ s
 refine wpAny_noted ?_
 rw [compTurn_list]
 refine au (qo (au (cL (turn n s hI) (fun r s₁ h₁=>?_) fun _ _ h'=>h')))
 cases r with
 | none=>exact a8 h₁
 | some v=>
  refine au (cL h₁ (fun _ s₁ h₁=>?_) fun _ _ h'=>h')
  refine au (cL h₁ (fun _ s₂ h₂=>au (cL h₂ (fun ok s₃ h₃=>?_) fun _ _ h'=>h')) fun _ _ h'=>h')
  cases ok with
  | false=>exact a8 ⟨rfl,h₃⟩
  | true=>
   exact au (au (cL h₃ (fun x s₄ h₄=>au (cL h₄ (fun _ s₅ h₅=>a8 (a8 ⟨rfl,h₅⟩)) fun _ _ h'=>h')) fun _ _ h'=>h'))
end
def Ar(K:aF)(wi:TI)(ρ:St→St)(tt:TT)(te:TE):TE:=fun σ H Q=>wi σ H fun J H1=>∀D,H1 D=none→∃W:Nat→Nat→List V→Hp→Prop,(∃m,W 0 m [] (upd H1 D (.lst []))) ∧
 ∀i m ys Hc,W i m ys Hc→Hc D=some (.lst ys)∧((J.stop i Hc∧Q (.ref D) Hc)∨(J.go i Hc∧∀v H',J.d_ i Hc v H'→∃T x1 x2,v=.ref T∧eG K H' T [x1,x2]∧tt (some x1::some x2::ρ σ) H' fun b H2=>
  if b=true then te (some x1::some x2::ρ σ) H2 fun y H3=>H3 D=some (.lst ys)∧ys.length<sizeLine∧∃m',m'<m∧W (i+1) m' (ys++[y]) (upd H3 D (.lst (ys++[y]))) else ∃m',m'<m∧W (i+1) m' ys H2))
section
variable {X:Cx} {N:List Str} {scope:Scope} {cl:List (Str×Addr)} {x y:Str} {px py pos tp:Pos} {As:Nat} {iter elt:Expr} {ifs:List Expr} {wi:TI} {ρ:St→St} {tt:TT} {te:TE}
structure MN (X:Cx) (N:List Str) (scope:Scope) (cl:List (Str×Addr)) (x y:Str) (ρ:St→St):Prop where
 CO:closureFor scope X.env=pure cl
 kind:scope.kind=.function
 CP:∀y∈scope.names,y.2≠.cell
 names:∀y∈scope.names,y.2=.local→scope.names.lookup y.1=some .local
 sub:∀p∈cl,X.env.cells.lookup p.1=some p.2
 has:∀y,((relabel scope X.env).names.lookup y=some .cell∨(relabel scope X.env).names.lookup y=some .free)→∃c,cl.lookup y=some c
 n0:N[0]?=some x
 n1:N[1]?=some y
 nd:N.Nodup
 hx:scope.names.lookup x=some .local
 hy:scope.names.lookup y=some .local
 CQ:∀(σ:St) (j:Nat) (v:V),(ρ σ)[j]?=some (some v)→∃(i:Nat) (y:Str),N[j+1+1]?=some y∧X.N[i]?=some y∧σ[i]?=some (some v)∧qJ X.env.scope y∧(X.env.kindOf y=some .cell∨X.env.kindOf y=some .free)∧((relabel scope X.env).names.lookup y=some .cell∨(relabel scope X.env).names.lookup y=some .free)
 len:∀σ:St,σ.length=X.N.length→(ρ σ).length+1+1=N.length
theorem GQ(is:List Nat)(h1:closureFor scope X.env=pure cl)(h:CS X scope N.tail.tail is:=by repeat' first | exact True.intro | refine And.intro ⟨rfl,Or.inr (Or.inl rfl),.inl rfl,.inl rfl⟩ ?_)(h2:scope.kind=.function:=by rfl)(h3:∀y∈scope.names,y.2≠.cell:=by decide +kernel)(h4:∀y∈scope.names,y.2=.local→scope.names.lookup y.1=some .local:=by decide +kernel)(h5:∀p∈cl,X.env.cells.lookup p.1=some p.2:=by repeat' first | exact List.forall_mem_nil _ | refine List.forall_mem_cons.mpr ⟨rfl,?_⟩)(h6:((relabel scope X.env).names.all fun q=>(q.2 != .cell && q.2 != .free) || (cl.lookup q.1).isSome)=true:=by rfl)(h7:N[0]?=some x:=by rfl)(Vy:N[1]?=some y:=by rfl)(h8:N.Nodup:=by decide +kernel)(h9:scope.names.lookup x=some .local:=by rfl)(Vz:scope.names.lookup y=some .local:=by rfl)(hr:∀σ:St,ρ σ=is.map fun i=>σ[i]?.join:=by exact fun _=>rfl)(hl:is.length+1+1=N.length:=by rfl):MN X N scope cl x y ρ:=
 ⟨h1,h2,h3,h4,h5,Mz h6,h7,Vy,h8,h9,Vz,fun σ j v e=>by rw [hr] at e;rw [←List.getElem?_tail,←List.getElem?_tail];exact GJ h σ j v e,fun σ _=>by rw [hr,aD];exact hl⟩
theorem GR(B:MN X N scope cl x y ρ)(hc:X.calm=true)(hi:PI X (.Tuple [.Name x px,.Name y py] As tp) iter wi)(ht:∀s₃ H₃ fp,qU (X.cw N scope cl s₃ H₃ fp) ifs tt)(he:∀s₃ H₃ fp,PE (X.cw N scope cl s₃ H₃ fp) elt te)
  (hs:∀x,foldedSetIterable iter X.env x=pure x:=by intro _;rfl):PE X (.ListComp elt [⟨.Tuple [.Name x px,.Name y py] As tp,iter,ifs,0⟩] scope pos) (Ar X.K wi ρ tt te):=by
 intro pins s σ H Q I h
 rw [eval_ListComp]
 refine FN (use:=none) rfl hs B.CO B.kind B.names (aK (hi pins s σ H _ I h) fun v s1 h1=>aK h1 fun zU s2 h2=>?_)
 obtain ⟨it,fp,tn,J,H2,rfl,I2,T,ke,f2,q2⟩:=h2
 have nD:H2 s2.heap.objs.size=none:=I2.ay.fresh (aC _)
 obtain ⟨W,⟨m0,w0⟩,turn⟩:=q2 _ nD
 refine sE (B2 B.CP (by intro y hy;simp at hy) (fun h₁ jJ jK=>?_) B.kind)
 dsimp only at jJ jK ⊢
 generalize hD:s2.heap.objs.size=D at nD w0 turn jJ jK ⊢
 generalize mG:({s2 with heap:=s2.heap.push {cls:=.type "list",dict:=none,data:=.seq ([]:List Value).toArray}}:Shared)=s3
 have I3:Inv X pins σ (upd H2 D (.lst [])) s3:=by
  subst hD mG
  exact I2.laid (t':=s2.toks) (fun b u e=>bX _ e) (aC _) ⟨cf _,[],_,.nil,dE _ rfl⟩
 have e3:s3.heap=s2.heap.push {cls:=.type "list",dict:=none,data:=.seq ([]:List Value).toArray}:=by rw [←mG]
 have jL:∀b o,s2.heap.get? b=some o→s3.heap.get? b=some o:=fun b o e=>by rw [e3];exact bX _ e
 rw [←e3] at jJ jK ⊢
 have below:∀b o,s3.heap.get? b=some o→b≠s3.heap.objs.size:=fun b o e=>bW (a9 e)
 have fZ:∀b o,s3.heap.get? b=some o→h₁.get? b=some o:=fun b o e=>jK.extBut b o (below b o e) (bX _ e)
 have mH:∀b∈fp,∃o,s2.heap.get? b=some o∧∀v,o.data≠.cell v:=T.obj _ _ ke
 have Ag:∀b∈fp,b≠D:=fun b hb z=>by
  obtain ⟨o,e,_⟩:=mH b hb
  rw [z,←hD] at e
  exact absurd (a9 e) (eW _)
 have fm:∀y c,cl.lookup y=some c→X.env.cells.lookup y=some c:=fun y c e=>B.sub (y,c) (oQ e)
 have Ah:=I3.zL
 have gC:(X.cw N scope cl s3 (upd H2 D (.lst [])) fp).Ok:=by
  refine ⟨I.ok.mod,B.kind,I.ok.glob,I.ok.blt,aC _,fun a b c e1 e2=>I.ok.inj a b c (fm a c e1) (fm b c e2),fun y hy=>B.has y hy,(fun _ _ z _=>absurd z dN),(fun _=>I.ok.hd hc),I.ok.frames,.inl rfl,fun b hb=>⟨?_,fun y c e z=>?_⟩,fun b o e=>?_,b8 I.ok.j_ I3.sz,fun b o e hb=>?_,fun b hb z=>?_,I3.stack,Ah⟩
  ·obtain ⟨o,e,_⟩:=mH b hb
   exact below b o (jL b o e)
  ·exact (f2 b hb).2.2.2.2.1 y c (fm y c e) z
  ·exact I3.bs b o e
  ·rcases (f2 b hb).2.2.2.1 with z | z
   ·exact I.ok.sQ b o e z
   ·exact absurd (d7 (a9 e) (b8 I.ok.j_ z)) (eW _)
  ·rcases bw.mp (I3.zK b z) with z | z
   ·exact (f2 b hb).2.1 z
   ·exact (f2 b hb).2.2.1 z
 have IB:∀tk:Nat,Inv (X.cw N scope cl s3 (upd H2 D (.lst [])) fp) [] (none::none::ρ σ) (upd H2 D (.lst [])) {s3 with heap:=h₁,toks:=tk}:=fun tk=>by
  refine ⟨gC,rfl,I3.bare,Un.kept fZ,⟨_,jJ,fun j y v e1 e2 e3=>?_⟩,fun y c e=>?_,?_,fun y c e=>I3.kU y c (fm y c e),(fun p hp=>nomatch hp),I3.ay.kept fZ,?_⟩
  ·cases j with
   | zero=>cases e2
   | succ j=>
   cases j with
   | zero=>cases e2
   | succ j=>
    obtain ⟨i,y',a1,a2,a3,a4,a5,a6⟩:=B.CQ σ j v e2
    have tG:N[j+1+1]?=some y:=e1
    rw [tG] at a1
    cases a1
    obtain ⟨m,hn,hl⟩:=I3.loc
    obtain ⟨u,r,l⟩:=hl i y v a2 a3 a4
    refine ⟨u,r,.inr ⟨a6,?_⟩⟩
    obtain ⟨c,ec⟩:=B.has y a6
    rcases l with ⟨k,_⟩ | ⟨_,c',qV,z⟩
    ·rcases a5 with q | q <;> (rw [k] at q;cases q)
    ·have:=fm y c ec
     rw [this] at qV
     cases qV
     obtain ⟨o,ho,hd⟩:=z
     exact ⟨c,ec,o,fZ _ _ ho,hd⟩
  ·obtain ⟨v,o,ho,hd⟩:=I3.cell y c (fm y c e)
   exact ⟨v,o,fZ _ _ ho,hd⟩
  ·exact I3.ay.fresh (aC _)
  ·show (none::none::ρ σ).length=N.length
   rw [d8,d8]
   exact B.len σ I.len
 have fin:∀{σ':St} {H':Hp} {s':Shared},Inv (X.cw N scope cl s3 (upd H2 D (.lst [])) fp) [] σ' H' s'→Q (.ref D) H'→compPost (model X.prog X.w) X.A X.xe none (EP X pins σ Q) (.ref D) s3.heap.objs.size (.ok .next) s':=fun{σ' H' s'} J q=>by
  obtain ⟨m,hn,_⟩:=J.loc
  refine ⟨m,hn,fun h' jM=>⟨.ref D,H',?_,rfl,q⟩⟩
  have old:∀b o,s3.heap.get? b=some o→b≠s3.heap.objs.size:=below
  have u1:Un (di X.stack) fp (upd H2 D (.lst [])) H' s3.heap h':=by
   refine ⟨fun b o e n hb hx=>?_,fun b o e n hb hx=>?_,J.base.free,fun b o e hx=>?_,J.base.i5,J.base.iG,J.base.iH⟩
   ·exact (jM.2 b (old b o e)).trans (J.base.keep b o e n hb hx)
   ·obtain ⟨sl,z⟩:=J.base.slot b o e n hb hx
    exact ⟨sl,(jM.2 b (old b o e)).trans z⟩
   ·obtain ⟨o',z⟩:=J.base.there b o e hx
    exact ⟨o',(jM.2 b (old b o e)).trans z⟩
  have Ai:cS X.prog X.w H' h':=fun b u e=>by
   refine (J.ay b u e).iF (fun c v hc z=>(jM.2 c fun y=>?_).trans z) (fun _ z=>z) fun _ _ z=>z
   have fr:=J.free
   have y':c=s3.heap.objs.size:=y
   rcases hc with hc | hc
   ·rw [←hc,y'] at e
    exact absurd (fr.symm.trans e) (by simp)
   ·rw [y'] at hc
    exact absurd (fr.symm.trans hc) (by simp)
  refine I3.o_ (s':={s' with heap:=h'}) (ch:=fp) (J.os) u1 Ai J.bare fun b hb=>?_
  obtain ⟨g0,g1,g2,g3,g4,g5⟩:=f2 b hb
  exact ⟨g3,g1,g4,g5⟩
 have i7:∀{H':Hp},(∀b∈fp,H' b=none)→∀b∈fp,pA (X.cw N scope cl s3 (upd H2 D (.lst [])) fp) [] H' b:=fun hn b hb=>by
  refine ⟨hn b hb,?_,?_,.inl hb,fun y c e z=>(f2 b hb).2.2.2.2.1 y c (fm y c e) z,fun p hp=>nomatch hp⟩
  ·obtain ⟨o,e,_⟩:=mH b hb
   exact below b o (jL b o e)
  ·exact gC.sS b hb
 have loop:∀tk:Nat,codeAny (model X.prog X.w) X.A (.compLoop (.ListComp elt [⟨.Tuple [.Name x px,.Name y py] As tp,iter,ifs,0⟩] scope pos) 0 (.ref it) (.ref D) (compEnvC scope cl s3.heap.objs.size X.env))
   (compPost (model X.prog X.w) X.A X.xe none (EP X pins σ Q) (.ref D) s3.heap.objs.size) {s3 with heap:=h₁,toks:=tk}:=fun tk=>by
  refine Vx (fun n s'=>∃i ys o o2 H',Inv (X.cw N scope cl s3 (upd H2 D (.lst [])) fp) [] (o::o2::ρ σ) H' s'∧tn i s'.heap∧(∀b∈fp,H' b=none)∧W i n ys H') ?_ m0
   ⟨0,[],none,none,_,IB tk,T.keep _ _ _ ke fun b hb o e=>fZ _ _ (jL _ _ e),fun b hb=>by rw [aH (Ag b hb)];exact (f2 b hb).1,w0⟩
  rintro n s4 ⟨i,ys,o,o2,H4,I4,qW,qX,w4⟩
  obtain ⟨MA,Aj⟩:=turn i n ys H4 w4
  rcases Aj with ⟨stop,qn⟩ | ⟨go,step⟩
  ·refine cL (T.done (X.cw N scope cl s3 (upd H2 D (.lst [])) fp) rfl rfl rfl hc i [] s4 _ H4 (fun _ _=>False) I4 (i7 qX) qW stop) (fun r s5 ⟨hr,I5⟩=>?_) fun _ _ z=>z.elim
   subst hr
   exact fin I5 qn
  ·refine cL (T.item (X.cw N scope cl s3 (upd H2 D (.lst [])) fp) rfl rfl rfl hc i [] s4 _ H4 (fun _ _=>False) I4 (i7 qX) qW go) (fun r s5 ⟨u,hr,h5⟩=>?_) fun _ _ z=>z.elim
   subst hr
   refine cL h5 (fun _ s5 ⟨y0,H5,I5,r5,y5,i8,sY⟩=>?_) fun _ _ z=>z.elim
   obtain ⟨Tt,x1,x2,e0,VA,Ak⟩:=step y0 _ y5
   subst e0
   have sZ:=I5.pinned (i7 sY) (T.obj _ _ i8)
   have pg:PG (X.cw N scope cl s3 (upd H2 D (.lst [])) fp) (.Tuple [.Name x px,.Name y py] As tp) (LG X.K 2 (Gb (a7 0) (Gb (a7 1) LF))):=
    pj (X:=X.cw N scope cl s3 (upd H2 D (.lst [])) fp) hc (gR (df (i:=0) B.nd B.n0 (.inl (qu B.hx)) (.inr (qu B.hx))) (gR (df (i:=1) B.nd B.n1 (.inl (qu B.hy)) (.inr (qu B.hy))) ph))
   have again:∀{σ7:St} {H7:Hp} {s7:Shared},Inv (X.cw N scope cl s3 (upd H2 D (.lst [])) fp) ([]++nZ fp s5.heap) σ7 H7 s7→Inv (X.cw N scope cl s3 (upd H2 D (.lst [])) fp) [] σ7 H7 s7∧tn (i+1) s7.heap∧∀b∈fp,H7 b=none:=fun{σ7 H7 s7} I7=>by
    refine ⟨I7.we,T.keep _ _ _ i8 fun b hb o e=>(I7.pin (b,o) (fA _ (fA _ (qO hb e)))).1,fun b hb=>?_⟩
    obtain ⟨o,e,d⟩:=T.obj _ _ i8 b hb
    exact (I7.pin (b,o) (fA _ (fA _ (qO hb e)))).2.1
   refine cL (pg _ s5 _ H5 (.ref Tt) u (fun σ2 H6=>σ2=some x1::some x2::ρ σ∧H6=H5) sZ r5 ⟨Tt,_,rfl,VA,rfl,_,_,rfl,_,_,rfl,rfl,rfl,rfl⟩) (fun _ s6 ⟨σ6,H6,I6,q6⟩=>?_) fun _ _ z=>z.elim
   obtain ⟨rfl,rfl⟩:=q6
   have tests:∀{mI:TT},qU (X.cw N scope cl s3 (upd H2 D (.lst [])) fp) ifs mI→∀{R:Bool→Hp→Prop},mI (some x1::some x2::ρ σ) H6 R→wpAny (model X.prog X.w) X.A
     (forIn ifs true fun c r=>if r=true then do let ok ←isTrue c (compEnvC scope cl s3.heap.objs.size X.env) (eval c (compEnvC scope cl s3.heap.objs.size X.env));pure (ForInStep.yield ok) else pure (ForInStep.yield r))
     (fun ok s7=>∃H7,Inv (X.cw N scope cl s3 (upd H2 D (.lst [])) fp) ([]++nZ fp s5.heap) (some x1::some x2::ρ σ) H7 s7∧R ok H7) (fun _ _=>False) s6:=fun{mI} p {R} hR=>by
    cases p with
    | nil=>exact wpAny_tests_nil ⟨_,I6,hR⟩
    | one p=>exact wpAny_tests_one (p _ s6 _ _ _ I6 hR)
   refine cL (tests (ht s3 _ fp) Ak) (fun ok s7 ⟨H7,I7,q7⟩=>?_) fun _ _ z=>z.elim
   cases ok with
   | false=>
    obtain ⟨m',ft,w7⟩:=q7
    obtain ⟨a1,a2,a3⟩:=again I7
    exact ⟨m',ft,i+1,ys,_,_,H7,a1,a2,a3,w7⟩
   | true=>
    refine cL (he s3 _ fp _ s7 _ H7 _ I7 q7) (fun ev s8 ⟨z,H8,I8,r8,Am,hz,m',ft,w8⟩=>?_) fun _ _ z=>z.elim
    refine cL (k6 (X:=X.cw N scope cl s3 (upd H2 D (.lst [])) fp) _ s8 _ H8 (.ref D) [z] (.ref D) [ev] (fun _ H9=>H9=upd H8 D (.lst (ys++[z]))) I8 rfl (.cons r8 .nil) ⟨D,ys,z,rfl,rfl,Am,hz,rfl⟩) (fun _ s9 ⟨_,H9,I9,_,q9⟩=>?_) fun _ _ z=>z.elim
    subst q9
    obtain ⟨a1,a2,a3⟩:=again I9
    exact ⟨m',ft,i+1,ys++[z],_,_,_,a1,a2,a3,w8⟩
 have start:=loop (s3.toks+([]:List (Str×Value)).length)
 have es:({s3 with heap:=h₁,toks:=s3.toks+([]:List (Str×Value)).length}:Shared)={s2 with heap:=h₁,toks:=s2.toks+([]:List (Str×Value)).length}:=by rw [←mG]
 rw [es] at start
 exact FO start (T.self _ 0 _ _ _ (T.keep _ _ _ ke fun b hb o e=>fZ _ _ (jL _ _ e)) start)
end
section
variable {X:Cx}
def VB(K:aF):List V→Hp→VK→Prop:=fun xs H Q=>∃(p:Addr) (ns:List Int),xs=[.ref p]∧aZ K H p (ns.map V.int)∧Q (.int ns.sum) H
theorem VC:∀(ns:List Int),preSum (fun i=>ns.getD i 0) ns.length=ns.sum:=by
 intro ns;have key:∀k,k≤ns.length→preSum (fun i=>ns.getD i 0) k=(ns.take k).sum:=by
  intro k
  induction k with
  | zero=>intro _;rfl
  | succ k ih=>
   intro hk;show preSum (fun i=>ns.getD i 0) k+ns.getD k 0=_;rw [ih (by lia),List.take_add_one,B4]
   have e:ns[k]?=some ns[k]:=by simp [show k<ns.length by lia]
   rw [cg,e];simp
 rw [key ns.length (aC _),iD]
theorem VD(hc:X.calm=true)(hK:X.K=K:=by rfl):gy X (.builtin "sum") (VB K):=by
 intro pins s σ H xs us Q I r h;subst hK;obtain ⟨p,ns,rfl,hq,q⟩:=h;obtain ⟨u,rfl,ru⟩:=vals1 r;cases ru;obtain ⟨its,rv,pl,hz⟩:=I.list hq;have gB:p≠s.heap.objs.size:=by obtain ⟨o,e,_⟩:=pl.isList;exact bW (a9 e)
 have hl:its.length=ns.length:=by rw [←rv.length,aD]
 refine call_sum_walkG (y9 pl.isList ?_);refine ⟨s.heap.objs.size,_,_,_,_,_,fun i=>ns.getD i 0,rfl,Walks.list (A:=X.A.in1) (show X.A.in1.handled=none from I.ok.hd hc) s.heap.objs.size p gB its.toArray,⟨⟨_,dE _ rfl,rfl,rfl⟩,pl.isList.push _⟩,?_,fun i v hv=>?_,fun h' tk t' hk=>?_⟩
 ·intro b hb
  rw [Heap.size_push];simp only [bw,gp,j7] at hb;rcases hb with rfl | rfl;·exact B5 _
  ·obtain ⟨o,e,_⟩:=pl.isList
   exact nG (a9 e)
 ·have mK:its[i]?=some v:=by simpa using hv
  cases eb:ns[i]? with
  | none=>
   have:=rv.none_of (i:=i) (by rw [bo,eb];rfl)
   rw [this] at mK;cases mK
  | some b=>
   obtain ⟨u,hu,ru⟩:=rv.get (i:=i) (x:=V.int b) (by rw [bo,eb];rfl)
   rw [hu] at mK;cases mK;obtain ⟨t,rfl⟩:=ru;exact ⟨t,by show Value.int b t=Value.int (ns.getD i 0) t;rw [cg,eb];rfl⟩
 ·refine ⟨.int ns.sum,H,I.kept fun b o e=>hk b o (fun z=>?_) (bX _ e),⟨t',?_⟩,q⟩
  ·exact absurd (a9 e) (by rw [cy.mp z];exact eW _)
  ·congr 1
   rw [b9,hl];exact VC ns
end
theorem boot_sum:bootBuiltins "sum"=some (.builtin "sum"):=by decide +kernel
section
variable {M:Model} {A:Around} {E:aO} {s:Shared}
end
section
variable {X:Cx} {N:List Str} {scope:Scope} {cl:List (Str×Addr)} {x:Str} {px pos:Pos} {iter elt:Expr} {ifs:List Expr} {wi:TI} {ρ:St→St} {tt:TT} {te:TE}
end
theorem CY{v:V}(h:jF v=true):fj v v=true:=by
 cases v with
 | aR=>rfl
 | bl b=>show (b == b)=true;simp
 | int i=>show (i == i)=true;simp
 | str x=>show (x == x)=true;simp
 | _=>cases h
theorem all_range(n:Nat):(List.range n).all (fun _=>true)=true:=by simp
section
variable {X:Cx} {pins:aV} {σ:St} {H:Hp} {s:Shared}
end
section
variable {X:Cx}
end
section
variable {X:Cx} {N:List Str} {scope:Scope} {cl:List (Str×Addr)} {x:Str} {px pos:Pos} {iter elt:Expr} {ifs:List Expr} {wi:TI} {ρ:St→St} {tt:TT} {te:TE}
end
theorem wK(fE:∀R:It→Hp→Prop,(∀J H1,ak H H1→k8 J xs H1→R J H1)→wi σ H R)(hn:xs.length<sizeLine)
  (P:Addr→Nat→V→Hp→Prop) (mono:∀D i y H H' ys,P D i y H→H D=some (.lst ys)→(∀b o,b≠D→H b=some o→H' b=some o)→P D i y H')
  (step:∀D i x,xs[i]?=some x→∀(Hc:Hp) (R:VK),ak H Hc→(∃ys,Hc D=some (.lst ys))→(∀y H3,ak Hc H3→P D i y H3→R y H3)→te (some x::ρ σ) Hc R)
  (fin:∀D ys Hc,H D=none→ak H Hc→ys.length=xs.length→(∀(i:Nat) (y:V),ys[i]?=some y→P D i y Hc)→Hc D=some (.lst ys)→Q (.ref D) Hc):kj wi ρ (fun _ H Q=>Q true H) te σ H Q:=by
 refine fE _ fun J H1 s1 js=>?_;intro D nD;have hD:H D=none:=by
  cases e:H D with
  | none=>rfl
  | some o=>rw [s1 _ _ e] at nD;cases nD
 exact MJ (ρσ:=ρ σ) (te:=te) (Q:=Q) js nD hn (P D) (mono D) (fun i x hx Hc R sc=>step D i x hx Hc R (s1.trans sc)) (fun ys Hc sc=>fin D ys Hc hD (s1.trans sc))
section
variable {X:Cx} {K:aF}
theorem VE(hK:X.K=K:=by rfl):wu X (Mj K):=by subst hK;exact eV
theorem q8(hK:X.K=K:=by rfl):wu X (Gu K):=by subst hK;exact dR
def VF(K:aF):List V→Hp→VK→Prop:=fun xs H Q=>∃p ys,xs=[.ref p]∧(aZ K H p ys∨eG K H p ys)∧Q (.int (ys.length:Int)) H
theorem VG(hK:X.K=K:=by rfl):gy X (.builtin "len") (VF K):=by subst hK;exact jG
end
end L2
namespace My
open PySem L2
variable {te:TE} {σ:St} {H:Hp} {Q:VK}
theorem q_{r:List V→Hp→VK→Prop}(h:te σ H fun x H1=>r [x] H1 Q):CF r (wm te zX) σ H Q:=h
theorem rf{D:Ends}(h:te σ H D.rt):LD te D σ H:=h
theorem VH{vs:List V}{b:Bool}(h:∀(i:Nat) (v:V),vs[i]?=some v→v=.bl b):vs=(List.replicate vs.length b).map V.bl:=by
 refine ze fun i=>?_;rw [bo];by_cases hi:i<vs.length
 ·rw [show vs[i]?=some vs[i] by simp [hi],h i vs[i] (by simp [hi])]
  simp [hi]
 ·rw [B6 (by lia),B6 (by simp;lia)]
  rfl
theorem VI(n:Nat):(List.replicate n true).all id=true:=by simp
theorem VJ{r:R2}{ta tb:TE}(h:ta σ H fun x H1=>tb σ H1 fun y H2=>r x y H2 Q):pD r ta tb σ H Q:=h
variable {H':Hp} {b:Addr}
theorem none_of(s:ak H H')(h:H' b=none):H b=none:=by
 cases e:H b with
 | none=>rfl
 | some o=>rw [s _ _ e] at h;cases h
theorem getD_at{α:Type}{xs:List α}{d:α}{i:Nat}(hi:i<xs.length):xs.getD i d=xs[i]:=by
 rw [cg,show xs[i]?=some xs[i] by simp [hi]]
 rfl
def er(P:Addr)(H:Hp):Hp:=fun b=>if b=P then none else H b
variable {P:Addr}
theorem Au:ak (er P H) H:=fun b o e=>by
 unfold er at e
 split at e
 ·cases e
 ·exact e
theorem gE(h:b≠P):er P H b=H b:=aa h
variable {o:HO}
theorem CZ(h:b≠P)(e:H b=some o):er P H b=some o:=by rw [gE h];exact e
theorem C0(s:ak H H'):ak (er P H) (er P H'):=fun b o e=>by
 unfold er at e ⊢
 split at e
 ·cases e
 ·rename_i h
  rw [aa h];exact s _ _ e
theorem MO:er P (upd H P o)=er P H:=funext fun b=>by
 unfold er
 split
 ·rfl
 ·rename_i h
  exact aH h
def cV(H:Hp)(P a:Addr):Prop:=∃x y:Int,H P=some (.lst [.ref a,.int x,.int y])∧0≤x∧0≤y
variable {a:Addr}
theorem cV.mono(h:cV H P a)(s:ak H H'):cV H' P a:=by obtain ⟨x,y,e,h1,h2⟩:=h;exact ⟨x,y,s _ _ e,h1,h2⟩
variable {D:Addr}
theorem cV.upd(h:cV H P a)(n:D≠P):cV (L2.upd H D o) P a:=by obtain ⟨x,y,e,h1,h2⟩:=h;exact ⟨x,y,by rw [aH n.symm];exact e,h1,h2⟩
theorem cV.ne(h:cV H P a)(n:H D=none):D≠P:=fun z=>by obtain ⟨x,y,e,_⟩:=h;rw [z,e] at n;cases n
def aW(P:Addr)(H H':Hp):Prop:=ak (er P H) (er P H')
theorem aW.refl(H:Hp):aW P H H:=ak.refl _
theorem aW.trans{H2:Hp}(s:aW P H H')(t:aW P H' H2):aW P H H2:=ak.trans s t
theorem aW.of(s:ak H H'):aW P H H':=C0 s
theorem aW.k_:aW P H (upd H P o):=by unfold aW;rw [MO];exact ak.refl _
theorem aW.but(s:aW P H H')(n:H D=none):aW P H (upd H' D o):=fun b u e=>by
 have e0:=s b u e;have nb:b≠P:=fun z=>by unfold er at e;rw [ae z] at e;cases e
 rw [gE nb] at e e0 ⊢;rw [aH (gv e n)];exact e0
theorem aW.at(s:aW P H H')(nb:b≠P)(e:H b=some o):H' b=some o:=by have z:=s b o (CZ nb e);rw [gE nb] at z;exact z
end My
namespace L2
open PySem PySem.Spec PyProof.Rows
end L2
namespace My
open PySem L2
def VL:Sp:=fun vs H Q _=>∃c a:Int,vs=[.int c,.int a]∧0≤a∧∀r:Int,0≤r→Q (.int r) H
def VM(K:aF):Sp:=fun vs H Q _=>∃(P a:Addr) (ns:List Int) (many:Int),vs=[.ref P,.int many]∧cV H P a∧aZ K (er P H) a (ns.map V.int)∧1≤many∧iO many∧∀(r:Int) (H':Hp),0≤r→r<many→aW P H H'→cV H' P a→Q (.int r) H'
end My
namespace L2
open PySem PySem.Spec PyProof.Rows
end L2
namespace My
open PySem L2
end My
namespace L2
open PySem PySem.Spec PyProof.Rows
def Av(K:aF)(l:Addr):It:=
  ⟨fun i H=>∃xs x,aZ K H l xs∧xs[i]?=some x,
   fun i H v H'=>∃T x,H T=none∧v=.ref T∧H'=upd H T (.tup [.int (i:Int),x])∧∀xs,aZ K H l xs→xs[i]?=some x,
   fun i H=>∃xs,aZ K H l xs∧xs.length≤i⟩
variable {K:aF} {l:Addr}
theorem VN{P:Program}{w:World}{elts:List Expr}{k:Nat}{pos:Pos}{e it:Addr}(MP:e≠it):Turn P w K (.Tuple elts k pos) (Av K l) [e,it] e
  (fun i h=>(∃old,IsEnum h e it (i:Int) old)∧h.IsListIter it l i) where
 mem:=by simp
 obj:=fun i h st b hb=>by
  obtain ⟨⟨old,he⟩,h1⟩:=st;simp only [bw,gp,j7] at hb;rcases hb with rfl | rfl;·exact ⟨_,he,fun v z=>by cases z⟩
  ·obtain ⟨o,e,c,d⟩:=h1
   exact ⟨o,e,fun v z=>by rw [d] at z;cases z⟩
 keep:=fun i h h' st k=>by obtain ⟨⟨old,he⟩,h1⟩:=st;exact ⟨⟨old,k _ (by simp) _ he⟩,h1.at fun o e=>k _ (by simp) o e⟩
 item:=by
  intro X hP hw hK hc i pins s σ H E I hf st hg;subst hP hw hK;obtain ⟨⟨old,he⟩,h1⟩:=st;obtain ⟨xs,x,kq,hx⟩:=hg;obtain ⟨its,rv,p,_⟩:=I.list kq;obtain ⟨u,hu,ru⟩:=rv.get hx;refine wpAny_pyNext_enum_item he h1 p.isList (x:=u) (by simpa using hu) MP fun h' g1 g2 g3 g4 g5=>⟨_,rfl,?_⟩
  refine wpAny_letOwnedTupleGo_enum g1 fun jc q1 sb=>?_;have qZ:H s.heap.objs.size=none:=I.ay.fresh (aC _);have lt:∀b o,s.heap.get? b=some o→b≠s.heap.objs.size:=fun b o e=>bW (a9 e);have keep:∀b o,b∉[e,it]→s.heap.get? b=some o→jc.get? b=some o:=fun b o nb e=>by simp only [bw,gp,j7,not_or] at nb;exact sb.extBut _ _ nb.1 (g5 b o nb.1 nb.2 e)
  have elt:e≠s.heap.objs.size:=lt _ _ he;have pT:=sb.extBut _ _ elt.symm g3;have ig:∀{b:Addr} {o:HO} (e:H b=some o),upd H s.heap.objs.size (.tup [.int (i:Int),x]) b=some o:=fun e=>by rw [aH (gv e qZ)];exact e
  have ay:cS X.prog X.w (upd H s.heap.objs.size (.tup [.int (i:Int),x])) jc:=fun b o e=>by
   by_cases hb:b=s.heap.objs.size
   ·subst hb
    rw [ax] at e;cases e;exact ⟨by show 2≤sizeLine;decide,[.int i s.toks,u],.cons ⟨_,rfl⟩ (.cons ru .nil),⟨_,pT,rfl,_,rfl⟩⟩
   ·rw [aH hb] at e
    refine (I.ay b o e).iF (fun c v d5 q=>keep c v (fun m=>?_) q) (fun c q=>ig q) fun c xs q=>ig q;have nn:=(hf c m).1;rcases d5 with rfl | d5;·rw [nn] at e;cases e
    ·rw [nn] at d5;cases d5
  have u1:Un (di X.stack) [e,it] H (upd H s.heap.objs.size (.tup [.int (i:Int),x])) s.heap jc:=
   ⟨fun b o e n _ hx=>keep b o hx e,fun b o e n _ hx=>⟨o.slots,keep b o hx e⟩,fun b o e n hx=>by rw [aH (lt b o e)];exact n,fun b o e hx=>⟨o,keep b o hx e⟩,fun b xs e=>ig e,fun b o u e=>ig e,fun b ps e=>⟨#[],by rw [ig e];simp⟩⟩
  refine ⟨.ref s.heap.objs.size,upd H s.heap.objs.size (.tup [.int (i:Int),x]),I.o_ (s':={s with heap:=jc,toks:=s.toks+1}) (ch:=[e,it]) rfl u1 ay I.bare (fun b hb=>?_),rfl,⟨_,x,qZ,rfl,rfl,fun as ha=>by rw [I.Cr ha kq];exact hx⟩,?_,fun b hb=>?_⟩
  ·obtain ⟨f0,f1,f2,f3,f4,f5⟩:=hf b hb
   exact ⟨f3,f1,f4,f5⟩
  ·refine ⟨⟨u,?_⟩,g2.extBut sb.extBut MP.symm⟩
   have z:((i+1:Nat):Int)=(i:Int)+1:=by lia
   rw [z];exact q1
  ·have nb:b≠s.heap.objs.size:=by
    simp only [bw,gp,j7] at hb;rcases hb with rfl | rfl;·exact lt _ _ he
    ·obtain ⟨o,e,_⟩:=h1;exact lt _ _ e
   rw [aH nb];exact (hf b hb).1
 done:=by
  intro X hP hw hK hc i pins s σ H E I hf st hg;subst hP hw hK;obtain ⟨⟨old,he⟩,h1⟩:=st;obtain ⟨xs,kq,hx⟩:=hg;obtain ⟨its,rv,p,_⟩:=I.list kq;have hl:=rv.length;refine wpAny_pyNext_enum_end (I.ok.hd hc) he h1 p.isList (by simp;lia) fun h' g=>⟨rfl,?_⟩
  have keep:∀b o,b∉[e,it]→s.heap.get? b=some o→h'.get? b=some o:=fun b o nb e=>by simp only [bw,gp,j7,not_or] at nb;exact g b o nb.2 e
  have ay:cS X.prog X.w H h':=fun b o e=>by
   refine (I.ay b o e).iF (fun c v d5 q=>keep c v (fun m=>?_) q) (fun c q=>q) fun c xs q=>q;have nn:=(hf c m).1;rcases d5 with rfl | d5;·rw [nn] at e;cases e
   ·rw [nn] at d5;cases d5
  have u1:Un (di X.stack) [e,it] H H s.heap h':=
   ⟨fun b o e n _ hx=>keep b o hx e,fun b o e n _ hx=>⟨o.slots,keep b o hx e⟩,fun b o e n hx=>n,fun b o e hx=>⟨o,keep b o hx e⟩,fun b xs e=>e,fun b o u e=>e,fun b ps e=>⟨#[],by rw [e];simp⟩⟩
  refine I.o_ (s':={s with heap:=h'}) (ch:=[e,it]) rfl u1 ay I.bare fun b hb=>?_;obtain ⟨f0,f1,f2,f3,f4,f5⟩:=hf b hb;exact ⟨f3,f1,f4,f5⟩
 self:=fun _ _ _ _ _ st h=>by obtain ⟨⟨old,he⟩,_⟩:=st;exact wpAny_pyIter_enum he h
theorem boot_enumerate:bootBuiltins "enumerate"=some (.type "enumerate"):=by decide +kernel
def VO(K:aF)(ta:TA):TI:=fun σ H R=>ta σ H fun vs H1=>∃l,vs=[.ref l]∧(∃xs,aZ K H1 l xs)∧R (Av K l) H1
section
variable {X:Cx}
theorem GS{elts:List Expr}{k:Nat}{nX:Pos}{a:Expr}{ta:TA}{p pos:Pos}(hg:Gl X "enumerate")(hm:X.mg "enumerate"=none)(ha:PA X [a] ta)(hs:starEach [a] X.env=[(false,eval a X.env)]:=by rfl) :
  PI X (.Tuple elts k nX) (.Call (.Name "enumerate" p) [a] [] pos) (VO X.K ta):=by
 intro pins s σ H R I h;refine Call_ (kd I hg hm boot_enumerate (vD (aK (ha pos pins s σ H _ I h) fun us s1 ⟨vs,H1,I1,r1,q1⟩=>?_) hs rfl));obtain ⟨l,e,⟨xs,kq⟩,q⟩:=q1;subst e;obtain ⟨u,rfl,ru⟩:=vals1 r1;cases ru;obtain ⟨its,rv,p1,_⟩:=I1.list kq;refine call_enumerate_list p1.isList fun h' z1 z2 z3 z4=>?_;refine wpAny_pyIter_enum (s:={s1 with heap:=h'}) z1 ?_;refine ⟨_,_,_,_,H1,rfl,I1.kept (t':=s1.toks) z4,VN (Nat.succ_ne_self _),⟨⟨_,z1⟩,z2⟩,fun b hb=>?_,q⟩;have le:s1.heap.objs.size≤b:=by
  simp only [bw,gp,j7] at hb;rcases hb with rfl | rfl;·exact zd ..
  ·exact aC _
 exact I1.pB le (I1.ay.fresh le)
end
theorem GU{xs:List V}{g:TG}{tb:TS}{D:Ends}{σ:St}{H:Hp}(Pv:Nat→St→Hp→Prop)(h0:Pv 0 σ H)(hl:∀i σ H,Pv i σ H→aZ K H l xs)
  (hs:∀(i:Nat) (x:V) σ H T,xs[i]?=some x→Pv i σ H→H T=none→g (.ref T) σ (upd H T (.tup [.int (i:Int),x])) fun σ2 H2=>tb {D with nx:=Pv (i+1),ct:=Pv (i+1),bk:=D.nx} σ2 H2) (hd:∀σ H,Pv xs.length σ H→D.nx σ H) :
  ∃W:Nat→Nat→St→Hp→Prop,(∃m,W 0 m σ H)∧∀i m σ H,W i m σ H→
   ((Av K l).stop i H∧D.nx σ H)∨((Av K l).go i H∧∃N:St→Hp→Prop,(∀σ' H',N σ' H'→∃m',m'<m∧W (i+1) m' σ' H')∧∀x H',(Av K l).d_ i H x H'→g x σ H' fun σ2 H2=>tb {D with nx:=N,ct:=N,bk:=D.nx} σ2 H2):=by
 refine ⟨fun i m σ H=>m=xs.length-i∧i≤xs.length∧Pv i σ H,⟨xs.length,by simp,cf _,h0⟩,?_⟩
 rintro i m σ H ⟨rfl,hi,p⟩;have q1:=hl i σ H p;by_cases bh:i<xs.length
 ·refine .inr ⟨⟨xs,xs[i],q1,by simp [bh]⟩,Pv (i+1),fun σ' H' p'=>⟨xs.length-(i+1),by lia,rfl,bh,p'⟩,fun v H' hy=>?_⟩
  obtain ⟨T,x,nT,rfl,rfl,hx⟩:=hy;exact hs i x σ H T (hx xs q1) p nT
 ·have e:i=xs.length:=by lia
  subst e;exact .inl ⟨⟨xs,q1,aC _⟩,hd σ H p⟩
def VP(K:aF):V→V→Hp→VK→Prop:=fun o i H Q=>∃p xs k v,o=.ref p∧i=.int k∧0≤k∧aZ K H p xs∧k4 xs k=some v∧Q v H
theorem VQ{X:Cx}:LH X (VP X.K):=by
 intro pins s σ H o i ov iv Q I ro ri h;obtain ⟨p,xs,k,z,rfl,rfl,h0,hq,he,q⟩:=h;cases ro;obtain ⟨t,rfl⟩:=ri;obtain ⟨its,r,pl,hz⟩:=I.list hq;obtain ⟨j,h1,h2,h3,h4,h5⟩:=Gs he;obtain ⟨w,ew,ic⟩:=r.get h2;have hl:=r.length;have hn:=wj;have hj:k.toNat=j:=by rw [seqIndex_of h0 h5] at h1;exact Option.some.inj h1
 exact wpAny_getItem_list pl.isList h0 (by lia) (by rw [hj];simpa using ew) ⟨z,H,I,ic,q⟩
end L2
namespace My
open PySem L2
end My
namespace L2
open PySem PySem.Spec PyProof.Rows
section
variable {X:Cx} {tg:Expr}
end
section
variable {X:Cx} {e:Expr} {te:TE} {pos p2:Pos}
end
end L2
namespace My
open PySem L2
theorem VR:∀place:Nat,(List.replicate ((place:Int).toNat) [V.int 0]).flatten=(List.replicate place (0:Int)).map V.int:=fun place=>by
 rw [cZ,List.map_replicate]
 induction place with
 | zero=>rfl
 | succ m ih=>rw [qr,vG,ih,qr];rfl
theorem MQ{wi:TI}{ρ:St→St}{te:TE}{σ:St}{H:Hp}{Q:VK}{xs:List V}{n:Nat}(hl:xs.length=n)(fE:∀R:It→Hp→Prop,(∀J H1,ak H H1→k8 J xs H1→R J H1)→wi σ H R)(hn:n<sizeLine)
  (P:Addr→Nat→Addr→Hp→Prop) (mono:∀D i y H H' ys,P D i y H→y≠D→H D=some (.lst ys)→(∀b o,b≠D→H b=some o→H' b=some o)→P D i y H')
  (step:∀D (i:Nat) (x:V),xs[i]?=some x→∀(Hc:Hp) (R:VK),ak H Hc→(∃ys,Hc D=some (.lst ys))→(∀y H3,ak Hc H3→Hc y=none→(∃o,H3 y=some o)→P D i y H3→R (.ref y) H3)→te (some x::ρ σ) Hc R)
  (fin:∀D (A:Nat→Addr) Hc,H D=none→ak H Hc→(∀i j,i<n→j<n→A i=A j→i=j)→(∀i,i<n→P D i (A i) Hc∧A i≠D)→Hc D=some (.lst ((List.range n).map fun i=>V.ref (A i)))→Q (.ref D) Hc):kj wi ρ (fun _ H Q=>Q true H) te σ H Q:=by
 refine fE _ fun J H1 s1 js=>?_;intro D nD;have hD:H D=none:=by
  cases e:H D with
  | none=>rfl
  | some o=>rw [s1 _ _ e] at nD;cases nD
 refine ⟨fun i m ys Hc=>m=n-i∧i≤n∧Hc D=some (.lst ys)∧ak H1 Hc∧∃A:Nat→Addr,ys=(List.range i).map (fun j=>V.ref (A j))∧(∀a b,a<i→b<i→A a=A b→a=b)∧∀j,j<i→P D j (A j) Hc∧A j≠D∧∃o,Hc (A j)=some o,⟨_,rfl,cf _,ax,gD (ak.refl H1) nD,fun _=>D,rfl,(fun a b h=>by lia),fun j h=>by lia⟩,?_⟩
 rintro i m ys Hc ⟨rfl,hi,eD,sH,A,rfl,inj,hA⟩;refine ⟨eD,?_⟩;by_cases bh:i<n
 ·refine .inr ⟨js.go i Hc sH (by lia),fun x H' hy=>?_⟩
  obtain ⟨rfl,hx⟩:=js.d_ i Hc x H' sH hy;rw [ae rfl];refine step D i x (hx (by lia)) _ _ (s1.trans sH) ⟨_,eD⟩ fun y H3 s3 ny ⟨o,ho⟩ hp=>?_
  have e3:=s3 _ _ eD;have yD:y≠D:=fun e=>by rw [e,eD] at ny;cases ny
  have cY:∀b o,b≠D→H3 b=some o→upd H3 D (.lst ((List.range i).map (fun j=>V.ref (A j))++[.ref y])) b=some o:=fun b o nb e=>by rw [aH nb];exact e
  have nA:∀j,j<i→A j≠y:=fun j hj e=>by obtain ⟨_,_,o',h'⟩:=hA j hj;rw [e,ny] at h';cases h'
  refine ⟨e3,by simp;lia,n-(i+1),by lia,rfl,bh,ax,gD (sH.trans s3) nD,fun j=>if j=i then y else A j,?_,fun a b ha hb e=>?_,fun j hj=>?_⟩
  ·rw [vJ,eX]
   congr 1
   ·refine hE fun j hj=>?_
    dsimp only;rw [aa (by have:=aU.mp hj;lia)]
   ·simp
  ·dsimp only at e
   by_cases z1:a=i
   ·by_cases z2:b=i
    ·lia
    ·rw [ae z1,aa z2] at e
     exact absurd e.symm (nA b (by lia))
   ·by_cases z2:b=i
    ·rw [aa z1,ae z2] at e
     exact absurd e (nA a (by lia))
    ·rw [aa z1,aa z2] at e
     exact inj a b (by lia) (by lia) e
  ·dsimp only
   by_cases z:j=i
   ·rw [ae z,z]
    exact ⟨mono D i y H3 _ _ hp yD e3 cY,yD,o,cY _ _ yD ho⟩
   ·rw [aa z]
    obtain ⟨h1,h2,o',h3⟩:=hA j (by lia)
    exact ⟨mono D j (A j) H' _ _ h1 h2 eD (fun b o nb e=>cY b o nb (s3 _ _ e)),h2,o',cY _ _ h2 (s3 _ _ h3)⟩
 ·have e:i=n:=by lia
  subst e;exact .inl ⟨js.stop _ Hc sH (by lia),fin D A Hc hD (s1.trans sH) inj (fun j hj=>⟨(hA j hj).1,(hA j hj).2.1⟩) eD⟩
end My
namespace L2
open PySem PySem.Spec PyProof.Rows
def VS(K:aF):R2:=fun x y H Q=>∃(a b:Addr) (xs ys:List Int),x=.ref a∧y=.ref b∧aZ K H a (xs.map V.int)∧aZ K H b (ys.map V.int)∧Q (.bl (!decide (xs=ys))) H
theorem MR{xs ys:List Int}(h:xs.length=ys.length):((List.range xs.length).all fun j=>fj (.int (xs.getD j 0)) (.int (ys.getD j 0)))=decide (xs=ys):=by
 by_cases e:xs=ys
 ·subst e
  rw [bA rfl,oU];intro j _;exact CY rfl
 ·rw [bO e]
  cases z:((List.range xs.length).all fun j=>fj (.int (xs.getD j 0)) (.int (ys.getD j 0))) with
  | false=>rfl
  | true=>refine absurd (fT h fun j h1 h2=>?_) e;have:=oU.mp z j (aU.mpr h1);have this:(xs.getD j 0 == ys.getD j 0)=true:=this;rw [beq_iff_eq,cg,cg] at this;simpa [h1,h2] using this
theorem VT{X:Cx}(hu:X.A.units+64<cLine):cX X (compareOp .NotEq) (VS X.K):=by
 intro pins s σ H x y v u Q I rx ry h;obtain ⟨a,b,xs,ys,rfl,rfl,h1,h2,q⟩:=h;cases rx;cases ry;obtain ⟨us,r1,t1,_⟩:=I.list h1;obtain ⟨vs,r2,t2,_⟩:=I.list h2;have l1:=r1.length;have l2:=r2.length;rw [aD] at l1 l2;by_cases hl:xs.length=ys.length
 ·refine SeqAt.RcNeAt.lists (e:=fun j=>fj (.int (xs.getD j 0)) (.int (ys.getD j 0))) t1.isList t2.isList (by simp;lia) (by lia) (fun j z1 z2=>?_) _ _ _ _ ?_
  ·have tH:j<us.length:=by simpa using z1
   have GV:j<vs.length:=by simpa using z2
   have ex:(xs.map V.int)[j]?=some (.int (xs.getD j 0)):=by rw [bo,cg];simp [show j<xs.length by lia]
   have ey:(ys.map V.int)[j]?=some (.int (ys.getD j 0)):=by rw [bo,cg];simp [show j<ys.length by lia]
   obtain ⟨x',mh,rx⟩:=r1.get ex;obtain ⟨y',pL,ry⟩:=r2.get ey;have e1:us.toArray[j]=x':=by simpa using (bJ.mp mh).2
   have e2:vs.toArray[j]=y':=by simpa using (bJ.mp pL).2
   rw [e1,e2];exact qR rx ry rfl rfl
  ·rw [show us.toArray.size=xs.length by simp;lia,MR hl]
   exact ⟨.bl (!decide (xs=ys)),H,I,rfl,q⟩
 ·rw [bO (fun e=>hl (by rw [e]))] at q
  refine SeqAt.RcNeAt.lists_lengths t1.isList t2.isList ?_ (by lia) _ _ _ _ ⟨.bl true,H,I,rfl,q⟩
  simp;lia
end L2
namespace My
open PySem L2
end My
namespace L2
open PySem PySem.Spec PyProof.Rows
end L2
namespace My
open PySem L2
end My
namespace L2
open PySem PySem.Spec PyProof.Rows
section
variable {X:Cx}
end
end L2
namespace My
open PySem L2
end My
namespace L2
open PySem PySem.Spec PyProof.Rows
end L2
namespace My
open PySem L2
end My
namespace L2
open PySem PySem.Spec PyProof.Rows
section
variable {X:Cx} {N:List Str} {scope:Scope} {cl:List (Str×Addr)} {x y:Str} {px py pos tp:Pos} {As:Nat} {iter elt:Expr} {ifs:List Expr} {wi:TI} {ρ:St→St} {tt:TT} {te:TE}
end
inductive Tr where
 | fl (v:V)
 | ls (xs:List Tr)
 | tp (xs:List Tr)
 | dc
inductive mL (H:Hp):Tr→V→Prop where
 | fl {v:V} (h:jF v=true):mL H (.fl v) v
 | ls {a:Addr} {vs:List V} {ts:List Tr} (e:H a=some (.lst vs)) (l:vs.length=ts.length) (h:∀(i:Nat) (v:V) (t:Tr),vs[i]?=some v→ts[i]?=some t→mL H t v):mL H (.ls ts) (.ref a)
 | tp {a:Addr} {vs:List V} {ts:List Tr} (e:H a=some (.tup vs)) (l:vs.length=ts.length) (h:∀(i:Nat) (v:V) (t:Tr),vs[i]?=some v→ts[i]?=some t→mL H t v):mL H (.tp ts) (.ref a)
 | dc {a:Addr} (e:H a=some (GG a)):mL H .dc (.ref a)
def Tr.In:Nat→Tr→Prop
 | _,.fl _=>True
 | _,.dc=>True
 | 0,.ls _=>False
 | 0,.tp _=>False
 | n+1,.ls ts=>∀t∈ts,t.In n
 | n+1,.tp ts=>∀t∈ts,t.In n
section
variable {X:Cx} {pins:aV} {σ:St} {H:Hp} {s:Shared}
variable {A:Around} {a b:Addr}
theorem MS(ha:jI a s.heap)(hb:jI b s.heap)(hu:A.units<cLine):SeqAt.RcAt A s (.ref a) (.ref b) true:=fun prog w E Q h=>by obtain ⟨o,ep,e,c,d,z⟩:=ha;obtain ⟨o',jC,e',c',d',z'⟩:=hb;exact PySem.W.keq_eq (knd:=gr prog w) (ka:=[]) (kb:=[]) z z' ⟨o,#[],ep,e,c,d,fun _ h=>by simp at h,.nil,l6⟩ ⟨o',#[],jC,e',c',d',fun _ h=>by simp at h,.nil,l6⟩ hu (fun _=>.nil) h
theorem VU(ha:jI a s.heap)(hb:jI b s.heap)(hu:A.units<cLine):SeqAt.RcNeAt A s (.ref a) (.ref b) false:=fun prog w E Q h=>by obtain ⟨o,ep,e,c,d,z⟩:=ha;obtain ⟨o',jC,e',c',d',z'⟩:=hb;exact PySem.W.keq_ne (knd:=gr prog w) (ka:=[]) (kb:=[]) z z' ⟨o,#[],ep,e,c,d,fun _ h=>by simp at h,.nil,l6⟩ ⟨o',#[],jC,e',c',d',fun _ h=>by simp at h,.nil,l6⟩ hu (fun _=>.nil) h
theorem C1{xs ys:List V}{us vs:List Value}(r1:Vals xs us)(r2:Vals ys vs){j:Nat}(h1:j<us.length)(h2:j<vs.length):∃x y,xs[j]?=some x∧ys[j]?=some y∧RelV x us.toArray[j]∧RelV y vs.toArray[j]:=by
 have l1:=r1.length;have l2:=r2.length;obtain ⟨x,ex⟩:∃x,xs[j]?=some x:=⟨xs[j],by simp [show j<xs.length by lia]⟩
 obtain ⟨y,ey⟩:∃y,ys[j]?=some y:=⟨ys[j],by simp [show j<ys.length by lia]⟩
 obtain ⟨x',mh,rx⟩:=r1.get ex;obtain ⟨y',pL,ry⟩:=r2.get ey;have e1:us.toArray[j]=x':=by simpa using (bJ.mp mh).2
 have e2:vs.toArray[j]=y':=by simpa using (bJ.mp pL).2
 exact ⟨x,y,ex,ey,by rw [e1];exact rx,by rw [e2];exact ry⟩
theorem MT(I:Inv X pins σ H s):∀(n:Nat) (A:Around) (t:Tr) (v u:V) (a b:Value),t.In n→mL H t v→mL H t u→RelV v a→RelV u b→A.units+n<cLine→SeqAt.EqAt A s a b true:=by
 intro n
 induction n with
 | zero=>
  intro A t v u a b hn h1 h2 ra rb hu;cases h1 with
  | fl h=>
   cases h2 with
   | fl _=>have z:=qR (A:=A) (s:=s) ra rb h h;rw [CY h] at z;exact z
  | ls e l h=>exact hn.elim
  | tp e l h=>exact hn.elim
  | @dc p e=>
   cases h2 with
   | @dc p' e'=>
    cases ra;cases rb;by_cases pq:p=p';·subst pq;exact SeqAt.EqAt.same _
    ·exact vK pq (MS (show cj X.prog X.w H s.heap p (.ext (jI p)) from I.ay p _ e).1 (show cj X.prog X.w H s.heap p' (.ext (jI p')) from I.ay p' _ e').1 hu)
 | succ n ih=>
  intro A t v u a b hn h1 h2 ra rb hu;cases h1 with
  | fl h=>
   cases h2 with
   | fl _=>have z:=qR (A:=A) (s:=s) ra rb h h;rw [CY h] at z;exact z
  | @dc p e=>
   cases h2 with
   | @dc p' e'=>
    cases ra;cases rb;by_cases pq:p=p';·subst pq;exact SeqAt.EqAt.same _
    ·exact vK pq (MS (show cj X.prog X.w H s.heap p (.ext (jI p)) from I.ay p _ e).1 (show cj X.prog X.w H s.heap p' (.ext (jI p')) from I.ay p' _ e').1 (by lia))
  | @ls p xs ts e l h=>
   cases h2 with
   | @ls p' ys _ e' l' h'=>
    cases ra;cases rb;by_cases pq:p=p';·subst pq;exact SeqAt.EqAt.same _
    obtain ⟨us,r1,t1,_⟩:=I.list (.of e);obtain ⟨vs,r2,t2,_⟩:=I.list (.of e');have l1:=r1.length;have l2:=r2.length;have z:=SeqAt.RcAt.lists (A:=A) (e:=fun _=>true) t1.isList t2.isList (by simp;lia) (by lia) (fun j z1 z2=>by
     obtain ⟨x,y,ex,ey,rx,ry⟩:=C1 r1 r2 (by simpa using z1) (by simpa using z2)
     have jt:j<ts.length:=by have:=(bJ.mp ex).1;lia
     exact ih A.in1 ts[j] x y _ _ (hn _ (cB jt)) (h j x _ ex (by simp [jt])) (h' j y _ ey (by simp [jt])) rx ry (by rw [qv];lia))
    rw [all_range] at z;exact vK pq z
  | @tp p xs ts e l h=>
   cases h2 with
   | @tp p' ys _ e' l' h'=>
    cases ra;cases rb;by_cases pq:p=p';·subst pq;exact SeqAt.EqAt.same _
    obtain ⟨us,r1,t1,_⟩:=I.tuple (.of e);obtain ⟨vs,r2,t2,_⟩:=I.tuple (.of e');have l1:=r1.length;have l2:=r2.length;have z:=SeqAt.RcAt.tuples (A:=A) (e:=fun _=>true) t1 t2 (by lia) (fun j z1 z2=>by
     obtain ⟨x,y,ex,ey,rx,ry⟩:=C1 r1 r2 (by simpa using z1) (by simpa using z2)
     have jt:j<ts.length:=by have:=(bJ.mp ex).1;lia
     exact ih A.in1 ts[j] x y _ _ (hn _ (cB jt)) (h j x _ ex (by simp [jt])) (h' j y _ ey (by simp [jt])) rx ry (by rw [qv];lia))
    have e3:(us.toArray.size == vs.toArray.size)=true:=by simp;lia
    rw [all_range,e3] at z;exact vK pq z
end
def VW(n:Nat):R2:=fun x y H Q=>∃t:Tr,t.In n∧mL H t x∧mL H t y∧Q (.bl false) H
theorem VX{v:V}(h:jF v=true):Gh v v=true:=by cases v <;> first | rfl | cases h
theorem VY{X:Cx}{n:Nat}(hu:X.A.units+64<cLine)(hn:n<60:=by decide):cX X (compareOp .NotEq) (VW n):=by
 intro pins s σ H x y v u Q I rx ry h;obtain ⟨t,wL,h1,h2,q⟩:=h;cases h1 with
 | fl h=>
  cases h2 with
  | fl _=>refine n4 pins s σ H x x v u Q I rx ry ⟨VX h,?_⟩;rw [bA rfl];exact q
 | @dc p e=>
  cases h2 with
  | @dc p' e'=>cases rx;cases ry;exact (VU (show cj X.prog X.w H s.heap p (.ext (jI p)) from I.ay p _ e).1 (show cj X.prog X.w H s.heap p' (.ext (jI p')) from I.ay p' _ e').1 (by lia)) _ _ _ _ ⟨.bl false,H,I,rfl,q⟩
 | @ls p xs ts e l h=>
  cases h2 with
  | @ls p' ys _ e' l' h'=>
   cases rx;cases ry;cases n with
   | zero=>exact wL.elim
   | succ n=>
    obtain ⟨us,r1,t1,_⟩:=I.list (.of e);obtain ⟨vs,r2,t2,_⟩:=I.list (.of e');have l1:=r1.length;have l2:=r2.length;refine SeqAt.RcNeAt.lists (e:=fun _=>true) t1.isList t2.isList (by simp;lia) (by lia) (fun j z1 z2=>?_) _ _ _ _ ?_
    ·obtain ⟨x,y,ex,ey,rx,ry⟩:=C1 r1 r2 (by simpa using z1) (by simpa using z2)
     have jt:j<ts.length:=by have:=(bJ.mp ex).1;lia
     exact MT I n X.A.in1 ts[j] x y _ _ (wL _ (cB jt)) (h j x _ ex (by simp [jt])) (h' j y _ ey (by simp [jt])) rx ry (by rw [qv];lia)
    ·rw [all_range]
     exact ⟨.bl false,H,I,rfl,q⟩
 | @tp p xs ts e l h=>
  cases h2 with
  | @tp p' ys _ e' l' h'=>
   cases rx;cases ry;cases n with
   | zero=>exact wL.elim
   | succ n=>
    obtain ⟨us,r1,t1,_⟩:=I.tuple (.of e);obtain ⟨vs,r2,t2,_⟩:=I.tuple (.of e');have l1:=r1.length;have l2:=r2.length;refine SeqAt.RcNeAt.tuples (e:=fun _=>true) t1 t2 (by lia) (fun j z1 z2=>?_) _ _ _ _ ?_
    ·obtain ⟨x,y,ex,ey,rx,ry⟩:=C1 r1 r2 (by simpa using z1) (by simpa using z2)
     have jt:j<ts.length:=by have:=(bJ.mp ex).1;lia
     exact MT I n X.A.in1 ts[j] x y _ _ (wL _ (cB jt)) (h j x _ ex (by simp [jt])) (h' j y _ ey (by simp [jt])) rx ry (by rw [qv];lia)
    ·have e3:(us.toArray.size == vs.toArray.size)=true:=by simp;lia
     rw [all_range,e3];exact ⟨.bl false,H,I,rfl,q⟩
end L2
namespace My
open PySem PySem.W PyProof.Rows
section
variable {n:Nat} {c:Nat→Int}
def oj(n:Nat)(p:Array Nat):Prop:=p.Perm (List.toArray (List.range n))
theorem oj.size{p:Array Nat}(h:oj n p):p.size=n:=by rw [Array.Perm.size_eq h];simp
def vN(c:Nat→Int)(p:Array Nat)(i:Nat):Int:=c (p.getD i 0)
def rh(c:Nat→Int)(p:Array Nat)(k:Nat):Prop:=∀a b,a≤b→b<k→vN c p a≤vN c p b
end
end My
namespace Tm
open PySem PySem.W PyProof.Rows
def rj:Bool→Keyed→Array Keyed→Nat→Nat→Nat→StateT SortSt Sem (Option Nat):=sortPriv% PySem.Builtin.gallop
def Aw:Nat→StateT SortSt Sem Unit:=sortPriv% PySem.Builtin.setMinGallop
def GW:Array Keyed→Array Keyed→StateT SortSt Sem (Array Keyed):=sortPriv% PySem.Builtin.mergeLo
def GX:Array Keyed→Array Keyed→StateT SortSt Sem (Array Keyed):=sortPriv% PySem.Builtin.mergeHi
def tI(left:Bool)(key:Keyed)(arr:Array Keyed)(base i:Nat):StateT SortSt Sem (Option Bool):=do
 let x ←elem' arr (base+i)
 if left then lt' x key else return (←lt' key x).map (!·)
theorem VZ(left:Bool)(key:Keyed)(arr:Array Keyed)(base n hint:Nat):rj left key arr base n hint=(do
 let mut C2:=0
 let mut bT:=1
 let mut lo:=0
 let mut hi:=0
 let some right ←tI left key arr base hint | return none
 if right then
  let Ax:=n-hint
  for _ in [0:n] do
   if bT≥Ax then break
   let some more ←tI left key arr base (hint+bT) | return none
   if !more then break
   C2:=bT
   bT:=2*bT+1
  lo:=hint+C2+1
  hi:=hint+min bT Ax
 else
  let Ax:=hint+1
  for _ in [0:n] do
   if bT≥Ax then break
   let some found ←tI left key arr base (hint-bT) | return none
   if found then break
   C2:=bT
   bT:=2*bT+1
  lo:=hint+1-min bT Ax
  hi:=hint-C2
 for _ in [0:n] do
  if lo≥hi then break
  let m:=lo+(hi-lo) / 2
  let some more ←tI left key arr base m | return none
  if more then lo:=m+1 else hi:=m
 return some hi):=rfl
section
variable {prog:Program} {w:World} {A:Around} {E:aO} {s:Shared} {κ:SortKind} {key:Keyed→Int} {Ok:Keyed→Prop}
def kr(prog:Program)(w:World)(A:Around)(s:Shared)(κ:SortKind)(key:Keyed→Int)(Ok:Keyed→Prop):Prop:=
 ∀x y,Ok x→Ok y→∀C:Bool→Shared→Prop,C (decide (key x<key y)) s→wpAny (model prog w) A (keyLt' κ x.1 y.1) C (fun _ _=>False) s
variable {Q:Option Bool→SortSt→Prop}
theorem Ay(h:kr prog w A s κ key Ok){x y:Keyed}(ox:Ok x)(oy:Ok y){st:SortSt}(hk:kindOf st=κ)(q:Q (some (decide (key x<key y))) st):wpS (model prog w) A E s (lt' x y) Q st:=by rw [lt'_eq];refine aw (j8 ?_);rw [hk];refine aw (wpS_lift (wpAny_attempt (cL (h x y ox oy (fun c s'=>s'=s∧wpS (model prog w) A E s (pure (some c)) Q st) ⟨rfl,av q⟩) (fun c s' hc=>?_) fun _ _ hF=>hF.elim)));exact hc
def nn:Keyed:=(Value.none,Value.none)
variable {arr:Array Keyed} {i:Nat}
theorem bY(hi:i<arr.size){st:SortSt}{Q:Keyed→SortSt→Prop}(q:Q (arr.getD i nn) st):wpS (model prog w) A E s (elem' arr i) Q st:=by
 rw [elem'_eq];have e:arr[i]?=some (arr.getD i nn):=by simp [Array.getD,hi]
 rw [e];exact av q
def f9(Ok:Keyed→Prop)(arr:Array Keyed):Prop:=∀i,i<arr.size→Ok (arr.getD i nn)
def bB(left:Bool)(k a:Int):Bool:=if left=true then decide (a<k) else !decide (k<a)
variable {left:Bool} {kx:Keyed} {base:Nat}
theorem jN(h:kr prog w A s κ key Ok)(hi:base+i<arr.size)(ha:f9 Ok arr)(ox:Ok kx){st:SortSt}(hk:kindOf st=κ)(q:Q (some (bB left (key kx) (key (arr.getD (base+i) nn)))) st):wpS (model prog w) A E s (tI left kx arr base i) Q st:=by
 unfold tI;refine aw (bY hi ?_);unfold bB at q;cases left with
 | true=>rw [ae rfl] at q ⊢;exact Ay h (ha _ hi) ox hk q
 | false=>
  rw [aa (by simp)] at q ⊢
  exact aw (Ay h ox (ha _ hi) hk (av q))
theorem jO{n hint:Nat}{f:Nat→Bool}{st:SortSt}
  (hb:∀i,i<n→∀Q:Option Bool→SortSt→Prop,Q (some (f i)) st→wpS (model prog w) A E s (tI left kx arr base i) Q st)
  (hh:hint<n) (mono:∀i j,i≤j→j<n→f j=true→f i=true) {Q:Option Nat→SortSt→Prop}
  (k:∀m,m≤n→(∀i,i<m→f i=true)→(∀i,m≤i→i<n→f i=false)→Q (some m) st):wpS (model prog w) A E s (rj left kx arr base n hint) Q st:=by
 rw [VZ];refine aw (hb hint hh _ ?_);dsimp only;have GY:∀i j,i≤j→j<n→f i=false→f j=false:=fun i j h1 h2 h3=>by
  cases e:f j with
  | false=>rfl
  | true=>rw [mono i j h1 h2 e] at h3;cases h3
 have bs:∀(lo hi:Nat) (body:Nat→Option (Option Nat)×Nat×Nat→StateT SortSt Sem (ForInStep (Option (Option Nat)×Nat×Nat))) (R:Option (Option Nat)×Nat×Nat→SortSt→Prop),lo≤hi→hi≤n→(∀i,i<lo→f i=true)→(∀i,hi≤i→i<n→f i=false)→
   (∀x lo hi (R:ForInStep (Option (Option Nat)×Nat×Nat)→SortSt→Prop),lo≥hi→R (.done (none,lo,hi)) st→wpS (model prog w) A E s (body x (none,lo,hi)) R st)→
   (∀x lo hi (R:ForInStep (Option (Option Nat)×Nat×Nat)→SortSt→Prop),lo<hi→hi≤n→R (.yield (if f (lo+(hi-lo) / 2)=true then (none,lo+(hi-lo) / 2+1,hi) else (none,lo,lo+(hi-lo) / 2))) st→wpS (model prog w) A E s (body x (none,lo,hi)) R st)→
   (∀m,m≤n→(∀i,i<m→f i=true)→(∀i,m≤i→i<n→f i=false)→R (none,m,m) st)→
   wpS (model prog w) A E s (forIn [0:n] (none,lo,hi) body) R st:=fun lo hi body R h1 h2 h3 h4 b1 b2 kk=>by
  refine gO (I:=fun x c aB=>aB=st∧∃lo hi,c=(none,lo,hi)∧lo≤hi∧hi≤n∧hi-lo+x≤n∧(∀i,i<lo→f i=true)∧(∀i,hi≤i→i<n→f i=false)) ?_ ?_ ⟨rfl,lo,hi,rfl,h1,h2,by lia,h3,h4⟩
  ·rintro x c aB _ hx ⟨rfl,lo,hi,rfl,g1,g2,g3,g4,g5⟩
   by_cases z:lo≥hi
   ·refine b1 x lo hi _ z ?_
    obtain rfl:lo=hi:=by lia
    exact kk lo g2 g4 g5
   ·refine b2 x lo hi _ (by lia) g2 ?_
    cases e:f (lo+(hi-lo) / 2) with
    | true=>rw [ae rfl];exact ⟨rfl,_,_,rfl,by lia,g2,by lia,fun i ba=>mono i (lo+(hi-lo) / 2) (by lia) (by lia) e,g5⟩
    | false=>
     rw [aa (by simp)]
     exact ⟨rfl,_,_,rfl,by lia,by lia,by lia,g4,fun i h1 h2=>GY (lo+(hi-lo) / 2) i h1 h2 e⟩
  ·rintro c aB ⟨rfl,lo,hi,rfl,g1,g2,g3,g4,g5⟩
   have:lo=hi:=by
    have:max 0 n=n:=by lia
    lia
   subst this;exact kk lo g2 g4 g5
 cases e:f hint with
 | true=>
  rw [ae rfl]
  refine aw (hG (gO (I:=fun x c aB=>aB=st∧∃la bT,c=(none,la,bT)∧x+1≤bT∧la<bT∧la<n-hint∧f (hint+la)=true)
   (Q:=fun c aB=>aB=st∧∃la bT,c=(none,la,bT)∧la<bT∧la<n-hint∧f (hint+la)=true∧(bT≥n-hint∨f (hint+bT)=false)) ?_ ?_ ⟨rfl,0,1,rfl,aC _,by lia,by lia,by simpa using e⟩) ?_)
  ·rintro x c aB _ hx ⟨rfl,la,bT,rfl,g1,g2,g3,g4⟩
   dsimp only;by_cases z:bT≥n-hint
   ·rw [ae z]
    exact av ⟨rfl,la,bT,rfl,g2,g3,g4,.inl z⟩
   ·rw [aa z]
    refine aw (hb _ (by lia) _ ?_)
    dsimp only;cases e':f (hint+bT) with
    | true=>
     rw [aa (by simp)]
     exact av ⟨rfl,_,_,rfl,by lia,by lia,by lia,e'⟩
    | false=>
     rw [ae (by simp)]
     exact av ⟨rfl,la,bT,rfl,g2,g3,g4,.inr e'⟩
  ·rintro c aB ⟨rfl,la,bT,rfl,g1,g2,g3,g4⟩
   have:max 0 n=n:=by lia
   exact ⟨rfl,la,bT,rfl,g2,g3,g4,.inl (by lia)⟩
  ·rintro c aB ⟨rfl,la,bT,rfl,g2,g3,g4,g5⟩
   refine aw (bs (hint+la+1) (hint+min bT (n-hint)) _ _ (by lia) (by lia) (fun i hi=>mono i (hint+la) (by lia) (by lia) g4) (fun i h1 h2=>?_) ?_ ?_ ?_)
   ·rcases g5 with g5 | g5
    ·lia
    ·by_cases z:bT≥n-hint
     ·lia
     ·exact GY (hint+bT) i (by lia) h2 g5
   ·intro x lo hi R z hR
    dsimp only;rw [ae z];exact av hR
   ·intro x lo hi R z z2 hR
    dsimp only;rw [aa (by lia)]
    refine aw (hb _ (by lia) _ ?_)
    dsimp only;cases e:f (lo+(hi-lo) / 2) with
    | true=>rw [e,ae rfl] at hR;rw [ae rfl];exact av hR
    | false=>
     rw [e,aa (by simp)] at hR
     rw [aa (by simp)]
     exact av hR
   ·exact fun m m1 m2 m3=>av (k m m1 m2 m3)
 | false=>
  rw [aa (by simp)]
  refine aw (hG (gO (I:=fun x c aB=>aB=st∧∃la bT,c=(none,la,bT)∧x+1≤bT∧la<bT∧la≤hint∧f (hint-la)=false)
   (Q:=fun c aB=>aB=st∧∃la bT,c=(none,la,bT)∧la<bT∧la≤hint∧f (hint-la)=false∧(bT≥hint+1∨f (hint-bT)=true)) ?_ ?_ ⟨rfl,0,1,rfl,aC _,by lia,by lia,by simpa using e⟩) ?_)
  ·rintro x c aB _ hx ⟨rfl,la,bT,rfl,g1,g2,g3,g4⟩
   dsimp only;by_cases z:bT≥hint+1
   ·rw [ae z]
    exact av ⟨rfl,la,bT,rfl,g2,g3,g4,.inl z⟩
   ·rw [aa z]
    refine aw (hb _ (by lia) _ ?_)
    dsimp only;cases e':f (hint-bT) with
    | true=>rw [ae rfl];exact av ⟨rfl,la,bT,rfl,g2,g3,g4,.inr e'⟩
    | false=>
     rw [aa (by simp)]
     exact av ⟨rfl,_,_,rfl,by lia,by lia,by lia,e'⟩
  ·rintro c aB ⟨rfl,la,bT,rfl,g1,g2,g3,g4⟩
   have:max 0 n=n:=by lia
   exact ⟨rfl,la,bT,rfl,g2,g3,g4,.inl (by lia)⟩
  ·rintro c aB ⟨rfl,la,bT,rfl,g2,g3,g4,g5⟩
   refine aw (bs (hint+1-min bT (hint+1)) (hint-la) _ _ (by lia) (by lia) (fun i hi=>?_) (fun i h1 h2=>GY (hint-la) i (by lia) h2 g4) ?_ ?_ ?_)
   ·rcases g5 with g5 | g5
    ·lia
    ·by_cases z:bT≥hint+1
     ·lia
     ·exact mono i (hint-bT) (by lia) (by lia) g5
   ·intro x lo hi R z hR
    dsimp only;rw [ae z];exact av hR
   ·intro x lo hi R z z2 hR
    dsimp only;rw [aa (by lia)]
    refine aw (hb _ (by lia) _ ?_)
    dsimp only;cases e:f (lo+(hi-lo) / 2) with
    | true=>rw [e,ae rfl] at hR;rw [ae rfl];exact av hR
    | false=>
     rw [e,aa (by simp)] at hR
     rw [aa (by simp)]
     exact av hR
   ·exact fun m m1 m2 m3=>av (k m m1 m2 m3)
end
def bQ(K:Keyed→Int)(l:List Keyed):Prop:=l.Pairwise fun x y=>K x≤K y
variable {K:Keyed→Int} {l:List Keyed}
theorem bQ.take(h:bQ K l)(k:Nat):bQ K (l.take k):=List.Pairwise.sublist (List.take_sublist k l) h
theorem bQ.drop(h:bQ K l)(k:Nat):bQ K (l.drop k):=List.Pairwise.sublist (List.drop_sublist k l) h
variable {m:List Keyed}
theorem bQ.app(h:bQ K l)(h':bQ K m)(k:∀x∈l,∀y∈m,K x≤K y):bQ K (l++m):=zf.mpr ⟨h,h',k⟩
structure MI (K:Keyed→Int) (A B O:List Keyed) (i j:Nat):Prop where
 pm:O.Perm (A.take i++B.take j)
 so:bQ K O
 ca:∀x∈O,∀y∈A.drop i,K x≤K y
 cb:∀x∈O,∀y∈B.drop j,K x≤K y
variable {A B O:List Keyed} {i j:Nat}
theorem MI.flip(h:MI K A B O i j):MI K B A O j i:=⟨h.pm.trans vL,h.so,h.cb,h.ca⟩
theorem MI.C3(h:MI K A B O i j)(sA:bQ K A)(k:Nat)(hk:∀x∈(A.drop i).take k,∀y∈B.drop j,K x≤K y):MI K A B (O++(A.drop i).take k) (i+k) j:=by
 have e:A.take (i+k)=A.take i++(A.drop i).take k:=List.take_add;have d:A.drop (i+k)=(A.drop i).drop k:=by rw [List.drop_drop]
 have sd:=sA.drop i;have sp:(A.drop i).take k++(A.drop i).drop k=A.drop i:=qw ..;have cr:∀x∈(A.drop i).take k,∀y∈(A.drop i).drop k,K x≤K y:=by have:=sd;rw [←sp] at this;exact (zf.mp this).2.2
 refine ⟨?_,h.so.app (sd.take k) fun x hx y hy=>h.ca x hx y (List.mem_of_mem_take hy),fun x hx y hy=>?_,fun x hx y hy=>?_⟩
 ·rw [e]
  refine (h.pm.append_right _).trans ?_;rw [g_,g_];exact FP _ vL
 ·rw [d] at hy
  rcases dW.mp hx with hx | hx;·exact h.ca x hx y (List.mem_of_mem_drop hy)
  ·exact cr x hx y hy
 ·rcases dW.mp hx with hx | hx
  ·exact h.cb x hx y hy
  ·exact hk x hx y hy
theorem MI.GZ(h:MI K A B O i j)(sB:bQ K B)(k:Nat)(hk:∀x∈(B.drop j).take k,∀y∈A.drop i,K x≤K y):MI K A B (O++(B.drop j).take k) i (j+k):=(h.flip.C3 sB k hk).flip
theorem MI.done(h:MI K A B O i j)(sA:bQ K A)(sB:bQ K B)(k:∀x∈A.drop i,∀y∈B.drop j,K x≤K y):(O++A.drop i++B.drop j).Perm (A++B)∧bQ K (O++A.drop i++B.drop j):=by
 refine ⟨?_,(h.so.app (sA.drop i) h.ca).app (sB.drop j) fun x hx y hy=>?_⟩
 ·have e1:A.take i++A.drop i=A:=qw ..
  have e2:B.take j++B.drop j=B:=qw ..;have:(A.take i++B.take j++A.drop i++B.drop j).Perm ((A.take i++A.drop i)++(B.take j++B.drop j)):=by rw [g_,g_,g_];refine FP _ ?_;rw [←g_,←g_];exact List.Perm.append_right _ vL
  rw [e1,e2] at this;exact ((h.pm.append_right _).append_right _).trans this
 ·rcases dW.mp hx with hx | hx
  ·exact h.cb x hx y hy
  ·exact k x hx y hy
theorem MI.MU(h:MI K A B O i j)(sA:bQ K A)(sB:bQ K B)(k:∀x∈A.drop i,∀y∈B.drop j,K y≤K x):(O++B.drop j++A.drop i).Perm (A++B)∧bQ K (O++B.drop j++A.drop i):=by have:=h.flip.done sB sA fun x hx y hy=>k y hy x hx;exact ⟨this.1.trans vL,this.2⟩
theorem V0(a b:Array Keyed):GW a b=(do
 rule "list.sort.merge-lo"
 let total:=a.size+b.size
 let done (out:Array Keyed) (ia ib:Nat):=out++a.extract ia a.size++b.extract ib b.size
 let C4 (out:Array Keyed) (ia ib:Nat):=out++b.extract ib b.size++a.extract ia a.size
 let mut out:Array Keyed:=#[←elem' b 0]
 let mut ia:=0
 let mut ib:=1
 if ib == b.size then return done out ia ib
 if ia+1 == a.size then return C4 out ia ib
 let mut minGallop:=gallopOf (←get)
 for _ in [0:total] do
  let mut ku:=0
  let mut ky:=0
  for _ in [0:total] do
   let some V1 ←lt' (←elem' b ib) (←elem' a ia) | return done out ia ib
   if V1 then
    out:=out.push (←elem' b ib);ib:=ib+1;ky:=ky+1;ku:=0
    if ib == b.size then return done out ia ib
    if ky≥minGallop then break
   else
    out:=out.push (←elem' a ia);ia:=ia+1;ku:=ku+1;ky:=0
    if ia+1 == a.size then return C4 out ia ib
    if ku≥minGallop then break
  rule "list.sort.gallop"
  minGallop:=minGallop+1
  for _ in [0:total] do
   if minGallop>1 then minGallop:=minGallop-1
   Aw minGallop
   let some k ←rj false (←elem' b ib) a ia (a.size-ia) 0 | return done out ia ib
   ku:=k
   if k>0 then
    out:=out++a.extract ia (ia+k);ia:=ia+k
    if ia+1 == a.size then return C4 out ia ib
    if ia == a.size then return done out ia ib
   out:=out.push (←elem' b ib);ib:=ib+1
   if ib == b.size then return done out ia ib
   let some k ←rj true (←elem' a ia) b ib (b.size-ib) 0 | return done out ia ib
   ky:=k
   if k>0 then
    out:=out++b.extract ib (ib+k);ib:=ib+k
    if ib == b.size then return done out ia ib
   out:=out.push (←elem' a ia);ia:=ia+1
   if ia+1 == a.size then return C4 out ia ib
   if ku<7 && ky<7 then break
  minGallop:=minGallop+1
  Aw minGallop
 unsupported "internal:list.sort.merge-bound"):=rfl
section
variable {prog:Program} {w:World} {A:Around} {E:aO} {s:Shared} {κ:SortKind} {key:Keyed→Int} {Ok:Keyed→Prop}
def setG(st:SortSt)(g:Nat):SortSt:=SortSt.mk' (kindOf st) (arrOf st) (pendingOf st) g (failedOf st)
variable {a:Array Keyed}
theorem Az(hi:i<a.size):(a.toList.drop i).take 1=[a.getD i nn]:=by
 have hl:i<a.toList.length:=by simpa using hi
 rw [FQ hl];simp [Array.getD,hi]
theorem lh(a:Array Keyed)(i j:Nat):(a.extract i j).toList=(a.toList.drop i).take (j-i):=by rw [Array.toList_extract,List.extract_eq_take_drop]
theorem C5(a:Array Keyed)(i:Nat):(a.extract i a.size).toList=a.toList.drop i:=by rw [lh];refine zg ?_;simp
variable {x:Keyed}
theorem tJ(h:x∈a.toList.drop i):∃j,i≤j∧j<a.size∧x=a.getD j nn:=by
 obtain ⟨j,hj,rfl⟩:=nH h;have ei:i+j<a.size:=by simp at hj;lia
 refine ⟨i+j,by lia,ei,?_⟩
 rw [List.getElem_drop];simp [Array.getD,ei]
theorem G0{k:Nat}(h:x∈(a.toList.drop i).take k):∃j,j<k∧i+j<a.size∧x=a.getD (i+j) nn:=by
 obtain ⟨j,hj,rfl⟩:=nH h;have ei:i+j<a.size∧j<k:=by simp at hj;lia
 refine ⟨j,ei.2,ei.1,?_⟩;rw [List.getElem_take,List.getElem_drop];simp [Array.getD,ei.1]
theorem gW(h:bQ key a.toList)(AA:i≤j)(hj:j<a.size):key (a.getD i nn)≤key (a.getD j nn):=by
 have hi:i<a.size:=by lia
 by_cases e:i=j;·subst e;exact l7 _
 ·have:=qy.mp h i j (by simpa using hi) (by simpa using hj) (by lia)
  simpa [Array.getD,hi,hj] using this
theorem fP{c:Prop}[Decidable c]{α:Type}{m1 m2:StateT SortSt Sem α}{Q:α→SortSt→Prop}{st:SortSt}(h1:c→wpS (model prog w) A E s m1 Q st)(h2:¬c→wpS (model prog w) A E s m2 Q st):wpS (model prog w) A E s (if c then m1 else m2) Q st:=by
 by_cases h:c;·rw [ae h];exact h1 h
 ·rw [aa h];exact h2 h
theorem wM{st:SortSt}{g:Nat}{Q:Unit→SortSt→Prop}(q:Q () (setG st g)):wpS (model prog w) A E s (Aw g) Q st:=l8 q
variable {k:Int}
theorem jd{a:Int}(h:bB true k a=true):a<k:=fB h
theorem jP{a:Int}(h:bB true k a=false):k≤a:=Int.not_lt.mp (of_decide_eq_false h)
theorem om{a:Int}(h:bB false k a=true):a≤k:=by have:(!decide (k<a))=true:=h;simpa using this
theorem rm{a:Int}(h:bB false k a=false):k<a:=by have:(!decide (k<a))=false:=h;simpa using this
variable {b:Array Keyed} {o:Nat}
theorem rp(sb:bQ key b.toList):∀i j,i≤j→j<b.size-o→bB true k (key (b.getD (o+j) nn))=true→bB true k (key (b.getD (o+i) nn))=true:=fun i j h1 h2 h3=>bA (Int.lt_of_le_of_lt (gW sb (by lia) (by lia)) (jd h3))
theorem C6(sb:bQ key b.toList):∀i j,i≤j→j<b.size-o→bB false k (key (b.getD (o+j) nn))=true→bB false k (key (b.getD (o+i) nn))=true:=fun i j h1 h2 h3=>by
 have:key (b.getD (o+i) nn)≤k:=dY (gW sb (by lia) (by lia)) (om h3)
 show (!decide (k<key (b.getD (o+i) nn)))=true;simpa using this
section
variable {a b:Array Keyed} (sa:bQ key a.toList) (sb:bQ key b.toList) {out:Array Keyed} {ia ib:Nat}
include sa sb
theorem wN(m:MI key a.toList b.toList out.toList ia ib)(hb:ib<b.size)(k:∀j,ia≤j→j<a.size→key (b.getD ib nn)≤key (a.getD j nn)):MI key a.toList b.toList (out.push (b.getD ib nn)).toList ia (ib+1):=by
 have:=m.GZ sb 1 fun x hx y hy=>by rw [Az hb,cy] at hx;subst hx;obtain ⟨j,h1,h2,rfl⟩:=tJ hy;exact k j h1 h2
 rw [Az hb] at this;rw [qz];exact this
theorem pM(m:MI key a.toList b.toList out.toList ia ib)(ha:ia<a.size)(k:∀j,ib≤j→j<b.size→key (a.getD ia nn)≤key (b.getD j nn)):MI key a.toList b.toList (out.push (a.getD ia nn)).toList (ia+1) ib:=by
 have:=m.C3 sa 1 fun x hx y hy=>by rw [Az ha,cy] at hx;subst hx;obtain ⟨j,h1,h2,rfl⟩:=tJ hy;exact k j h1 h2
 rw [Az ha] at this;rw [qz];exact this
variable {n:Nat}
theorem MV(m:MI key a.toList b.toList out.toList ia ib)(k:∀i j,i<n→ia+i<a.size→ib≤j→j<b.size→key (a.getD (ia+i) nn)≤key (b.getD j nn)):MI key a.toList b.toList (out++a.extract ia (ia+n)).toList (ia+n) ib:=by
 have:=m.C3 sa n fun x hx y hy=>by obtain ⟨i,h3,h4,rfl⟩:=G0 hx;obtain ⟨j,h1,h2,rfl⟩:=tJ hy;exact k i j h3 h4 h1 h2
 rw [nI,lh,show ia+n-ia=n by lia]
 exact this
theorem C7(m:MI key a.toList b.toList out.toList ia ib)(k:∀i j,i<n→ib+i<b.size→ia≤j→j<a.size→key (b.getD (ib+i) nn)≤key (a.getD j nn)):MI key a.toList b.toList (out++b.extract ib (ib+n)).toList ia (ib+n):=by
 have:=m.GZ sb n fun x hx y hy=>by obtain ⟨i,h3,h4,rfl⟩:=G0 hx;obtain ⟨j,h1,h2,rfl⟩:=tJ hy;exact k i j h3 h4 h1 h2
 rw [nI,lh,show ib+n-ib=n by lia]
 exact this
theorem lp(m:MI key a.toList b.toList out.toList ia ib)(e:ib=b.size∨ia=a.size):(out++a.extract ia a.size++b.extract ib b.size).toList.Perm (a.toList++b.toList)∧bQ key (out++a.extract ia a.size++b.extract ib b.size).toList:=by rw [nI,nI,C5,C5];refine m.done sa sb fun x hx y hy=>?_;obtain ⟨i,h1,h2,_⟩:=tJ hx;obtain ⟨j,h3,h4,_⟩:=tJ hy;lia
theorem lA(m:MI key a.toList b.toList out.toList ia ib)(hl:∀y∈b.toList,key y≤key (a.getD (a.size-1) nn))(e:ia+1=a.size):(out++b.extract ib b.size++a.extract ia a.size).toList.Perm (a.toList++b.toList)∧bQ key (out++b.extract ib b.size++a.extract ia a.size).toList:=by
 rw [nI,nI,C5,C5];refine m.MU sa sb fun x hx y hy=>?_;obtain ⟨i,h1,h2,rfl⟩:=tJ hx;have:=hl y (List.mem_of_mem_drop hy);rw [show i=a.size-1 by lia]
 exact this
end
theorem V2(h:kr prog w A s κ key Ok)(oa:f9 Ok a)(ob:f9 Ok b)(sa:bQ key a.toList)(sb:bQ key b.toList)(a1:1≤a.size)(b1:1≤b.size)
  (h0:∀x∈a.toList,key (b.getD 0 nn)≤key x) (hl:∀y∈b.toList,key y≤key (a.getD (a.size-1) nn)) {st:SortSt} (hk:kindOf st=κ) {Q:Array Keyed→SortSt→Prop}
  (q:∀m g,m.toList.Perm (a.toList++b.toList)→bQ key m.toList→Q m (setG st g)):wpS (model prog w) A E s (GW a b) Q st:=by
 rw [V0];refine aw (wpS_lift (nJ ⟨rfl,?_⟩));refine aw (bY (by lia) ?_)
 dsimp only;have m0:MI key a.toList b.toList (#[b.getD 0 nn]:Array Keyed).toList 0 1:=by
  have:MI key a.toList b.toList (#[]:Array Keyed).toList 0 0:=⟨by simp,List.Pairwise.nil,fun x hx=>by simp at hx,fun x hx=>by simp at hx⟩
  exact wN sa sb this (by lia) fun j _ hj=>h0 _ (by simp [Array.getD,hj])
 have dG:∀g,kindOf (setG st g)=κ:=fun _=>hk;by_cases e1:(1 == b.size)=true
 ·rw [ae e1]
  have:=lp sa sb m0 (.inl (eq_of_beq e1));exact av (q _ (gallopOf st) this.1 this.2)
 rw [aa e1];by_cases e2:(0+1 == a.size)=true
 ·rw [ae e2]
  have:=lA sa sb m0 hl (eq_of_beq e2);exact av (q _ (gallopOf st) this.1 this.2)
 rw [aa e2];have b2:1<b.size:=by
  have:1≠b.size:=fun e=>e1 (by simp [←e])
  lia
 have a2:0+1<a.size:=by
  have:0+1≠a.size:=fun e=>e2 (by simp [←e])
  lia
 refine aw (j8 ?_)
 refine aw (hG (gO (I:=fun x c aB=>∃out ia ib mg g,c=(none,out,ia,ib,mg)∧aB=setG st g∧MI key a.toList b.toList out.toList ia ib∧ia+1<a.size∧ib<b.size∧x≤ia+ib)
  (Q:=fun c aB=>∃m g,c.1=some m∧aB=setG st g∧m.toList.Perm (a.toList++b.toList)∧bQ key m.toList) ?_ ?_ ⟨_,_,_,_,gallopOf st,rfl,rfl,m0,a2,b2,cf _⟩) ?_)
 ·rintro x c aB _ hx ⟨out,ia,ib,mg,g,rfl,rfl,ao⟩
  have mi:=ao.1;have ha:=ao.2.1;have hb:=ao.2.2.1;have tK:=ao.2.2.2;clear ao;dsimp only
  refine aw (hG (gO (I:=fun y c aB=>∃out iP je ac bc,c=(none,out,iP,je,ac,bc)∧aB=setG st g∧MI key a.toList b.toList out.toList iP je∧iP+1<a.size∧je<b.size∧ia+ib+y≤iP+je)
   (Q:=fun c aB=>aB=setG st g∧((∃m,c.1=some m∧m.toList.Perm (a.toList++b.toList)∧bQ key m.toList)∨∃out iP je ac bc,c=(none,out,iP,je,ac,bc)∧MI key a.toList b.toList out.toList iP je∧iP+1<a.size∧je<b.size∧ia+ib+1≤iP+je)) ?_ ?_ ⟨_,_,_,_,_,rfl,rfl,mi,ha,hb,aC _⟩) ?_)
  ·rintro y c aB _ hy ⟨out,iP,je,ac,bc,rfl,rfl,aG⟩
   have mi:=aG.1;have ha:=aG.2.1;have hb:=aG.2.2.1;have jf:=aG.2.2.2;clear aG;dsimp only;refine aw (bY hb (aw (bY (by lia) (aw (Ay h (ob _ hb) (oa iP (by lia)) (dG _) ?_)))))
   dsimp only;by_cases z:key (b.getD je nn)<key (a.getD iP nn)
   ·rw [bA z,ae rfl]
    refine aw (bY hb ?_);have jg:=wN sa sb mi hb fun j h1 h2=>dY (dX z) (gW sa h1 h2);by_cases z1:(je+1 == b.size)=true
    ·rw [ae z1]
     exact av ⟨rfl,.inl ⟨_,rfl,lp sa sb jg (.inl (eq_of_beq z1))⟩⟩
    ·rw [aa z1]
     have tH:je+1≠b.size:=fun e=>z1 (by simp [←e])
     by_cases z2:bc+1≥mg
     ·rw [ae z2]
      exact av ⟨rfl,.inr ⟨_,_,_,_,_,rfl,jg,ha,by lia,by lia⟩⟩
     ·rw [aa z2]
      exact av ⟨_,_,_,_,_,rfl,rfl,jg,ha,by lia,by lia⟩
   ·rw [bO z,aa (by simp)]
    refine aw (bY (by lia) ?_)
    have jg:=pM sa sb mi (by lia) fun j h1 h2=>dY (Int.not_lt.mp z) (gW sb h1 h2)
    by_cases z1:(iP+1+1 == a.size)=true
    ·rw [ae z1]
     exact av ⟨rfl,.inl ⟨_,rfl,lA sa sb jg hl (eq_of_beq z1)⟩⟩
    ·rw [aa z1]
     have tH:iP+1+1≠a.size:=fun e=>z1 (by simp [←e])
     by_cases z2:ac+1≥mg
     ·rw [ae z2]
      exact av ⟨rfl,.inr ⟨_,_,_,_,_,rfl,jg,by lia,hb,by lia⟩⟩
     ·rw [aa z2]
      exact av ⟨_,_,_,_,_,rfl,rfl,jg,by lia,hb,by lia⟩
  ·rintro c aB ⟨out,iP,je,ac,bc,rfl,rfl,aJ⟩
   have mi:=aJ.1;have ha:=aJ.2.1;have hb:=aJ.2.2.1;have jf:=aJ.2.2.2;clear aJ;exact ⟨rfl,.inr ⟨_,_,_,_,_,rfl,mi,ha,hb,by lia⟩⟩
  ·rintro c aB ⟨rfl,⟨m,e,pm⟩ | ⟨out,iP,je,ac,bc,rfl,mi,ha,hb,jf⟩⟩
   ·obtain ⟨c1,c2⟩:=c
    dsimp only at e;subst e;exact av ⟨m,g,rfl,rfl,pm⟩
   ·dsimp only
    refine aw (wpS_lift (nJ ⟨rfl,?_⟩))
    refine aw (hG (gO (I:=fun y c aB=>∃out i j mg ac bc g,c=(none,out,i,j,mg,ac,bc)∧aB=setG st g∧MI key a.toList b.toList out.toList i j∧i+1<a.size∧j<b.size∧x+1≤i+j)
     (Q:=fun c aB=>(∃m g,c.1=some m∧aB=setG st g∧m.toList.Perm (a.toList++b.toList)∧bQ key m.toList)∨∃out i j mg ac bc g,c=(none,out,i,j,mg,ac,bc)∧aB=setG st g∧MI key a.toList b.toList out.toList i j∧i+1<a.size∧j<b.size∧x+1≤i+j) ?_ ?_ ⟨_,_,_,_,_,_,g,rfl,rfl,mi,ha,hb,by lia⟩) ?_)
    ·clear mi ha hb jf
     rintro y c aB _ hy ⟨out,ia,ib,mg,ac,bc,g,rfl,rfl,aY⟩;have mi:=aY.1;have ha:=aY.2.1;have hb:=aY.2.2.1;have jf:=aY.2.2.2;clear aY;dsimp only;rcases Nat.lt_or_ge 1 mg with zm | zm
     ·rw [ae zm]
      refine aw (wM ?_);refine aw (bY hb (aw (jO (f:=fun i=>bB false (key (b.getD ib nn)) (key (a.getD (ia+i) nn))) (fun i hi Q q=>jN h (by lia) oa (ob _ hb) (dG _) q) (by lia) (C6 sa) fun k k1 k2 k3=>?_)))
      dsimp only;by_cases zk:k>0
      ·rw [ae zk]
       have jh:=MV sa sb mi (n:=k) fun i j hi ba hj ei=>dY (om (k2 i hi)) (gW sb hj ei);by_cases w1:(ia+k+1 == a.size)=true
       ·rw [ae w1]
        exact av (.inl ⟨_,_,rfl,rfl,lA sa sb jh hl (eq_of_beq w1)⟩)
       ·rw [aa w1]
        have G1:ia+k+1≠a.size:=fun e=>w1 (by simp [←e])
        by_cases w2:(ia+k == a.size)=true
        ·rw [ae w2]
         exact av (.inl ⟨_,_,rfl,rfl,lp sa sb jh (.inr (eq_of_beq w2))⟩)
        ·rw [aa w2]
         have V3:ia+k≠a.size:=fun e=>w2 (by simp [←e])
         refine aw (bY hb ?_);have dm:=wN sa sb jh hb fun j h1 h2=>by have:=rm (k3 (j-ia) (by lia) (by lia));rw [show ia+(j-ia)=j by lia] at this;exact dX this
         by_cases x1:(ib+1 == b.size)=true
         ·rw [ae x1]
          exact av (.inl ⟨_,_,rfl,rfl,lp sa sb dm (.inl (eq_of_beq x1))⟩)
         ·rw [aa x1]
          have tL:ib+1≠b.size:=fun e=>x1 (by simp [←e])
          refine aw (bY (by lia) (aw (jO (f:=fun i=>bB true (key (a.getD (ia+k) nn)) (key (b.getD (ib+1+i) nn))) (fun i hi Q q=>jN h (by lia) ob (oa _ (by lia)) (dG _) q) (by lia) (rp sb) fun k' q1 q2 q3=>?_)))
          dsimp only;by_cases fu:k'>0
          ·rw [ae fu]
           have eJ:=C7 sa sb dm (n:=k') fun i j hi ba hj ei=>dY (dX (jd (q2 i hi))) (gW sa hj ei);by_cases x2:(ib+1+k' == b.size)=true
           ·rw [ae x2]
            exact av (.inl ⟨_,_,rfl,rfl,lp sa sb eJ (.inl (eq_of_beq x2))⟩)
           ·rw [aa x2]
            have tM:ib+1+k'≠b.size:=fun e=>x2 (by simp [←e])
            refine aw (bY (by lia) ?_)
            have bt:=pM sa sb eJ (by lia) fun j h1 h2=>by have:=jP (q3 (j-(ib+1)) (by lia) (by lia));rwa [show ib+1+(j-(ib+1))=j by lia] at this
            by_cases y1:(ia+k+1+1 == a.size)=true
            ·rw [ae y1]
             exact av (.inl ⟨_,_,rfl,rfl,lA sa sb bt hl (eq_of_beq y1)⟩)
            ·rw [aa y1]
             have jj:ia+k+1+1≠a.size:=fun e=>y1 (by simp [←e])
             exact fP (fun _=>av (.inr ⟨_,_,_,_,_,_,_,rfl,rfl,bt,by lia,by lia,by lia⟩)) (fun _=>av ⟨_,_,_,_,_,_,_,rfl,rfl,bt,by lia,by lia,by lia⟩)
          ·rw [aa fu]
           obtain rfl:k'=0:=by lia
           refine aw (bY (by lia) ?_)
           have bt:=pM sa sb dm (by lia) fun j h1 h2=>by have:=jP (q3 (j-(ib+1)) (by lia) (by lia));rwa [show ib+1+(j-(ib+1))=j by lia] at this
           by_cases y1:(ia+k+1+1 == a.size)=true
           ·rw [ae y1]
            exact av (.inl ⟨_,_,rfl,rfl,lA sa sb bt hl (eq_of_beq y1)⟩)
           ·rw [aa y1]
            have jj:ia+k+1+1≠a.size:=fun e=>y1 (by simp [←e])
            exact fP (fun _=>av (.inr ⟨_,_,_,_,_,_,_,rfl,rfl,bt,by lia,by lia,by lia⟩)) (fun _=>av ⟨_,_,_,_,_,_,_,rfl,rfl,bt,by lia,by lia,by lia⟩)
      ·rw [aa zk]
       obtain rfl:k=0:=by lia
       refine aw (bY hb ?_);have dm:=wN sa sb mi hb fun j h1 h2=>by have:=rm (k3 (j-ia) (by lia) (by lia));rw [show ia+(j-ia)=j by lia] at this;exact dX this
       by_cases x1:(ib+1 == b.size)=true
       ·rw [ae x1]
        exact av (.inl ⟨_,_,rfl,rfl,lp sa sb dm (.inl (eq_of_beq x1))⟩)
       ·rw [aa x1]
        have tL:ib+1≠b.size:=fun e=>x1 (by simp [←e])
        refine aw (bY (by lia) (aw (jO (f:=fun i=>bB true (key (a.getD (ia) nn)) (key (b.getD (ib+1+i) nn))) (fun i hi Q q=>jN h (by lia) ob (oa _ (by lia)) (dG _) q) (by lia) (rp sb) fun k' q1 q2 q3=>?_)))
        dsimp only;by_cases fu:k'>0
        ·rw [ae fu]
         have eJ:=C7 sa sb dm (n:=k') fun i j hi ba hj ei=>dY (dX (jd (q2 i hi))) (gW sa hj ei);by_cases x2:(ib+1+k' == b.size)=true
         ·rw [ae x2]
          exact av (.inl ⟨_,_,rfl,rfl,lp sa sb eJ (.inl (eq_of_beq x2))⟩)
         ·rw [aa x2]
          have tM:ib+1+k'≠b.size:=fun e=>x2 (by simp [←e])
          refine aw (bY (by lia) ?_)
          have bt:=pM sa sb eJ (by lia) fun j h1 h2=>by have:=jP (q3 (j-(ib+1)) (by lia) (by lia));rwa [show ib+1+(j-(ib+1))=j by lia] at this
          by_cases y1:(ia+1+1 == a.size)=true
          ·rw [ae y1]
           exact av (.inl ⟨_,_,rfl,rfl,lA sa sb bt hl (eq_of_beq y1)⟩)
          ·rw [aa y1]
           have jj:ia+1+1≠a.size:=fun e=>y1 (by simp [←e])
           exact fP (fun _=>av (.inr ⟨_,_,_,_,_,_,_,rfl,rfl,bt,by lia,by lia,by lia⟩)) (fun _=>av ⟨_,_,_,_,_,_,_,rfl,rfl,bt,by lia,by lia,by lia⟩)
        ·rw [aa fu]
         obtain rfl:k'=0:=by lia
         refine aw (bY (by lia) ?_)
         have bt:=pM sa sb dm (by lia) fun j h1 h2=>by have:=jP (q3 (j-(ib+1)) (by lia) (by lia));rwa [show ib+1+(j-(ib+1))=j by lia] at this
         by_cases y1:(ia+1+1 == a.size)=true
         ·rw [ae y1]
          exact av (.inl ⟨_,_,rfl,rfl,lA sa sb bt hl (eq_of_beq y1)⟩)
         ·rw [aa y1]
          have jj:ia+1+1≠a.size:=fun e=>y1 (by simp [←e])
          exact fP (fun _=>av (.inr ⟨_,_,_,_,_,_,_,rfl,rfl,bt,by lia,by lia,by lia⟩)) (fun _=>av ⟨_,_,_,_,_,_,_,rfl,rfl,bt,by lia,by lia,by lia⟩)
     ·rw [aa (by lia)]
      refine aw (wM ?_);refine aw (bY hb (aw (jO (f:=fun i=>bB false (key (b.getD ib nn)) (key (a.getD (ia+i) nn))) (fun i hi Q q=>jN h (by lia) oa (ob _ hb) (dG _) q) (by lia) (C6 sa) fun k k1 k2 k3=>?_)))
      dsimp only;by_cases zk:k>0
      ·rw [ae zk]
       have jh:=MV sa sb mi (n:=k) fun i j hi ba hj ei=>dY (om (k2 i hi)) (gW sb hj ei);by_cases w1:(ia+k+1 == a.size)=true
       ·rw [ae w1]
        exact av (.inl ⟨_,_,rfl,rfl,lA sa sb jh hl (eq_of_beq w1)⟩)
       ·rw [aa w1]
        have G1:ia+k+1≠a.size:=fun e=>w1 (by simp [←e])
        by_cases w2:(ia+k == a.size)=true
        ·rw [ae w2]
         exact av (.inl ⟨_,_,rfl,rfl,lp sa sb jh (.inr (eq_of_beq w2))⟩)
        ·rw [aa w2]
         have V3:ia+k≠a.size:=fun e=>w2 (by simp [←e])
         refine aw (bY hb ?_);have dm:=wN sa sb jh hb fun j h1 h2=>by have:=rm (k3 (j-ia) (by lia) (by lia));rw [show ia+(j-ia)=j by lia] at this;exact dX this
         by_cases x1:(ib+1 == b.size)=true
         ·rw [ae x1]
          exact av (.inl ⟨_,_,rfl,rfl,lp sa sb dm (.inl (eq_of_beq x1))⟩)
         ·rw [aa x1]
          have tL:ib+1≠b.size:=fun e=>x1 (by simp [←e])
          refine aw (bY (by lia) (aw (jO (f:=fun i=>bB true (key (a.getD (ia+k) nn)) (key (b.getD (ib+1+i) nn))) (fun i hi Q q=>jN h (by lia) ob (oa _ (by lia)) (dG _) q) (by lia) (rp sb) fun k' q1 q2 q3=>?_)))
          dsimp only;by_cases fu:k'>0
          ·rw [ae fu]
           have eJ:=C7 sa sb dm (n:=k') fun i j hi ba hj ei=>dY (dX (jd (q2 i hi))) (gW sa hj ei);by_cases x2:(ib+1+k' == b.size)=true
           ·rw [ae x2]
            exact av (.inl ⟨_,_,rfl,rfl,lp sa sb eJ (.inl (eq_of_beq x2))⟩)
           ·rw [aa x2]
            have tM:ib+1+k'≠b.size:=fun e=>x2 (by simp [←e])
            refine aw (bY (by lia) ?_)
            have bt:=pM sa sb eJ (by lia) fun j h1 h2=>by have:=jP (q3 (j-(ib+1)) (by lia) (by lia));rwa [show ib+1+(j-(ib+1))=j by lia] at this
            by_cases y1:(ia+k+1+1 == a.size)=true
            ·rw [ae y1]
             exact av (.inl ⟨_,_,rfl,rfl,lA sa sb bt hl (eq_of_beq y1)⟩)
            ·rw [aa y1]
             have jj:ia+k+1+1≠a.size:=fun e=>y1 (by simp [←e])
             exact fP (fun _=>av (.inr ⟨_,_,_,_,_,_,_,rfl,rfl,bt,by lia,by lia,by lia⟩)) (fun _=>av ⟨_,_,_,_,_,_,_,rfl,rfl,bt,by lia,by lia,by lia⟩)
          ·rw [aa fu]
           obtain rfl:k'=0:=by lia
           refine aw (bY (by lia) ?_)
           have bt:=pM sa sb dm (by lia) fun j h1 h2=>by have:=jP (q3 (j-(ib+1)) (by lia) (by lia));rwa [show ib+1+(j-(ib+1))=j by lia] at this
           by_cases y1:(ia+k+1+1 == a.size)=true
           ·rw [ae y1]
            exact av (.inl ⟨_,_,rfl,rfl,lA sa sb bt hl (eq_of_beq y1)⟩)
           ·rw [aa y1]
            have jj:ia+k+1+1≠a.size:=fun e=>y1 (by simp [←e])
            exact fP (fun _=>av (.inr ⟨_,_,_,_,_,_,_,rfl,rfl,bt,by lia,by lia,by lia⟩)) (fun _=>av ⟨_,_,_,_,_,_,_,rfl,rfl,bt,by lia,by lia,by lia⟩)
      ·rw [aa zk]
       obtain rfl:k=0:=by lia
       refine aw (bY hb ?_);have dm:=wN sa sb mi hb fun j h1 h2=>by have:=rm (k3 (j-ia) (by lia) (by lia));rw [show ia+(j-ia)=j by lia] at this;exact dX this
       by_cases x1:(ib+1 == b.size)=true
       ·rw [ae x1]
        exact av (.inl ⟨_,_,rfl,rfl,lp sa sb dm (.inl (eq_of_beq x1))⟩)
       ·rw [aa x1]
        have tL:ib+1≠b.size:=fun e=>x1 (by simp [←e])
        refine aw (bY (by lia) (aw (jO (f:=fun i=>bB true (key (a.getD (ia) nn)) (key (b.getD (ib+1+i) nn))) (fun i hi Q q=>jN h (by lia) ob (oa _ (by lia)) (dG _) q) (by lia) (rp sb) fun k' q1 q2 q3=>?_)))
        dsimp only;by_cases fu:k'>0
        ·rw [ae fu]
         have eJ:=C7 sa sb dm (n:=k') fun i j hi ba hj ei=>dY (dX (jd (q2 i hi))) (gW sa hj ei);by_cases x2:(ib+1+k' == b.size)=true
         ·rw [ae x2]
          exact av (.inl ⟨_,_,rfl,rfl,lp sa sb eJ (.inl (eq_of_beq x2))⟩)
         ·rw [aa x2]
          have tM:ib+1+k'≠b.size:=fun e=>x2 (by simp [←e])
          refine aw (bY (by lia) ?_)
          have bt:=pM sa sb eJ (by lia) fun j h1 h2=>by have:=jP (q3 (j-(ib+1)) (by lia) (by lia));rwa [show ib+1+(j-(ib+1))=j by lia] at this
          by_cases y1:(ia+1+1 == a.size)=true
          ·rw [ae y1]
           exact av (.inl ⟨_,_,rfl,rfl,lA sa sb bt hl (eq_of_beq y1)⟩)
          ·rw [aa y1]
           have jj:ia+1+1≠a.size:=fun e=>y1 (by simp [←e])
           exact fP (fun _=>av (.inr ⟨_,_,_,_,_,_,_,rfl,rfl,bt,by lia,by lia,by lia⟩)) (fun _=>av ⟨_,_,_,_,_,_,_,rfl,rfl,bt,by lia,by lia,by lia⟩)
        ·rw [aa fu]
         obtain rfl:k'=0:=by lia
         refine aw (bY (by lia) ?_)
         have bt:=pM sa sb dm (by lia) fun j h1 h2=>by have:=jP (q3 (j-(ib+1)) (by lia) (by lia));rwa [show ib+1+(j-(ib+1))=j by lia] at this
         by_cases y1:(ia+1+1 == a.size)=true
         ·rw [ae y1]
          exact av (.inl ⟨_,_,rfl,rfl,lA sa sb bt hl (eq_of_beq y1)⟩)
         ·rw [aa y1]
          have jj:ia+1+1≠a.size:=fun e=>y1 (by simp [←e])
          exact fP (fun _=>av (.inr ⟨_,_,_,_,_,_,_,rfl,rfl,bt,by lia,by lia,by lia⟩)) (fun _=>av ⟨_,_,_,_,_,_,_,rfl,rfl,bt,by lia,by lia,by lia⟩)
    ·rintro c aB ⟨out,i,j,mg,ac,bc,g,rfl,rfl,cm⟩
     have mi:=cm.1;have ha:=cm.2.1;have hb:=cm.2.2.1;have jf:=cm.2.2.2;clear cm;exact .inr ⟨_,_,_,_,_,_,_,rfl,rfl,mi,ha,hb,jf⟩
    ·rintro c aB (⟨m,g,e,rfl,pm⟩ | ⟨out,i,j,mg,ac,bc,g,rfl,rfl,mi,ha,hb,jf⟩)
     ·obtain ⟨c1,c2⟩:=c
      dsimp only at e;subst e;exact av ⟨m,g,rfl,rfl,pm⟩
     ·dsimp only
      exact aw (wM (av ⟨_,_,_,_,_,rfl,rfl,mi,ha,hb,by lia⟩))
 ·rintro c aB ⟨out,ia,ib,mg,g,rfl,rfl,dq⟩
  have mi:=dq.1;have ha:=dq.2.1;have hb:=dq.2.2.1;have tK:=dq.2.2.2;clear dq
  exfalso
  lia
 ·rintro c aB ⟨m,g,e,rfl,pm,sm⟩
  obtain ⟨c1,c2⟩:=c;dsimp only at e;subst e;exact av (q m g pm sm)
end
theorem V4(a b:Array Keyed):GX a b=(do
 rule "list.sort.merge-hi"
 let total:=a.size+b.size
 let done (out:Array Keyed) (na nb:Nat):=a.extract 0 na++b.extract 0 nb++out.reverse
 let C8 (out:Array Keyed) (na nb:Nat):=b.extract 0 nb++a.extract 0 na++out.reverse
 let mut na:=a.size-1
 let mut nb:=b.size
 let mut out:Array Keyed:=#[←elem' a na]
 if na == 0 then return done out na nb
 if nb == 1 then return C8 out na nb
 let mut minGallop:=gallopOf (←get)
 for _ in [0:total] do
  let mut ku:=0
  let mut ky:=0
  for _ in [0:total] do
   let some V5 ←lt' (←elem' b (nb-1)) (←elem' a (na-1)) | return done out na nb
   if V5 then
    na:=na-1;out:=out.push (←elem' a na);ku:=ku+1;ky:=0
    if na == 0 then return done out na nb
    if ku≥minGallop then break
   else
    nb:=nb-1;out:=out.push (←elem' b nb);ky:=ky+1;ku:=0
    if nb == 1 then return C8 out na nb
    if ky≥minGallop then break
  rule "list.sort.gallop"
  minGallop:=minGallop+1
  for _ in [0:total] do
   if minGallop>1 then minGallop:=minGallop-1
   Aw minGallop
   let some at_ ←rj false (←elem' b (nb-1)) a 0 na (na-1) | return done out na nb
   let k:=na-at_
   ku:=k
   if k>0 then
    out:=out++(a.extract at_ na).reverse;na:=at_
    if na == 0 then return done out na nb
   nb:=nb-1;out:=out.push (←elem' b nb)
   if nb == 1 then return C8 out na nb
   let some at_ ←rj true (←elem' a (na-1)) b 0 nb (nb-1) | return done out na nb
   let k:=nb-at_
   ky:=k
   if k>0 then
    out:=out++(b.extract at_ nb).reverse;nb:=at_
    if nb == 1 then return C8 out na nb
    if nb == 0 then return done out na nb
   na:=na-1;out:=out.push (←elem' a na)
   if na == 0 then return done out na nb
   if ku<7 && ky<7 then break
  minGallop:=minGallop+1
  Aw minGallop
 unsupported "internal:list.sort.merge-bound"):=rfl
section
variable {key:Keyed→Int}
theorem wO(h:bQ key l):bQ (fun x=>-key x) l.reverse:=by unfold bQ;rw [FR];exact List.Pairwise.imp (fun h=>Int.neg_le_neg h) h
theorem MW(h:bQ (fun x=>-key x) l):bQ key l.reverse:=by unfold bQ;rw [FR];exact List.Pairwise.imp (fun h=>Int.le_of_neg_le_neg h) h
variable {a:Array Keyed} {n:Nat}
theorem mM(h:n≤a.size):a.toList.reverse.drop (a.size-n)=(a.extract 0 n).toList.reverse:=by rw [List.drop_reverse,lh,List.drop_zero,Nat.sub_zero,fh,show a.size-(a.size-n)=n by lia]
theorem C9{m:Nat}(h:n≤a.size)(hm:m≤n):(a.toList.reverse.drop (a.size-n)).take (n-m)=(a.extract m n).reverse.toList:=by rw [mM h,vM,lh,lh,List.drop_zero,Nat.sub_zero,List.take_reverse,qq,fh,show min n a.size-(n-m)=m by lia,List.drop_take]
theorem pO{m:Nat}(h:n≤a.size){x:Keyed}(hx:x∈(a.extract m n).toList):∃j,m≤j∧j<n∧x=a.getD j nn:=by rw [lh] at hx;obtain ⟨j,h1,h2,rfl⟩:=G0 hx;exact ⟨m+j,by lia,by lia,rfl⟩
theorem MX(h:n≤a.size)(h1:1≤n):(a.extract (n-1) n).reverse.toList=[a.getD (n-1) nn]:=by
 rw [vM,lh,show n-(n-1)=1 by lia,Az (by lia)]
 rfl
def MH(key:Keyed→Int)(a b out:Array Keyed)(na nb:Nat):Prop:=MI (fun x=>-key x) a.toList.reverse b.toList.reverse out.toList (a.size-na) (b.size-nb)∧na≤a.size∧nb≤b.size
variable {a b:Array Keyed} (sa:bQ key a.toList) (sb:bQ key b.toList) {out:Array Keyed} {na nb:Nat}
include sa sb
variable {k:Nat}
theorem G2(m:MH key a b out na nb)(hk:k≤na)(c:∀i j,k≤i→i<na→j<nb→key (b.getD j nn)≤key (a.getD i nn)):MH key a b (out++(a.extract k na).reverse) k nb:=by
 obtain ⟨m,ha,hb⟩:=m;refine ⟨?_,by lia,hb⟩
 have:=m.C3 (wO sa) (na-k) fun x hx y hy=>by rw [C9 ha hk,vM,nK] at hx;rw [mM hb,nK] at hy;obtain ⟨i,i1,i2,rfl⟩:=pO ha hx;obtain ⟨j,j1,j2,rfl⟩:=pO hb hy;have:=c i j i1 i2 j2;lia
 rw [C9 ha hk,show a.size-na+(na-k)=a.size-k by lia] at this
 rw [nI];exact this
theorem AB(m:MH key a b out na nb)(hk:k≤nb)(c:∀i j,k≤i→i<nb→j<na→key (a.getD j nn)≤key (b.getD i nn)):MH key a b (out++(b.extract k nb).reverse) na k:=by
 obtain ⟨m,ha,hb⟩:=m;refine ⟨?_,ha,by lia⟩
 have:=m.GZ (wO sb) (nb-k) fun x hx y hy=>by rw [C9 hb hk,vM,nK] at hx;rw [mM ha,nK] at hy;obtain ⟨i,i1,i2,rfl⟩:=pO hb hx;obtain ⟨j,j1,j2,rfl⟩:=pO ha hy;have:=c i j i1 i2 j2;lia
 rw [C9 hb hk,show b.size-nb+(nb-k)=b.size-k by lia] at this
 rw [nI];exact this
theorem oo(m:MH key a b out na nb)(h1:1≤na)(c:∀j,j<nb→key (b.getD j nn)≤key (a.getD (na-1) nn)):MH key a b (out.push (a.getD (na-1) nn)) (na-1) nb:=by
 have:=G2 sa sb m (k:=na-1) (by lia) fun i j i1 i2 j1=>by
  rw [show i=na-1 by lia]
  exact c j j1
 have e:out++(a.extract (na-1) na).reverse=out.push (a.getD (na-1) nn):=by apply Array.toList_inj.mp;rw [nI,MX m.2.1 h1,qz]
 rw [e] at this;exact this
theorem AD(m:MH key a b out na nb)(h1:1≤nb)(c:∀j,j<na→key (a.getD j nn)≤key (b.getD (nb-1) nn)):MH key a b (out.push (b.getD (nb-1) nn)) na (nb-1):=by
 have:=AB sa sb m (k:=nb-1) (by lia) fun i j i1 i2 j1=>by
  rw [show i=nb-1 by lia]
  exact c j j1
 have e:out++(b.extract (nb-1) nb).reverse=out.push (b.getD (nb-1) nn):=by apply Array.toList_inj.mp;rw [nI,MX m.2.2 h1,qz]
 rw [e] at this;exact this
theorem iQ(m:MH key a b out na nb)(e:na=0∨nb=0):(a.extract 0 na++b.extract 0 nb++out.reverse).toList.Perm (a.toList++b.toList)∧bQ key (a.extract 0 na++b.extract 0 nb++out.reverse).toList:=by
 obtain ⟨m,ha,hb⟩:=m;have:=m.MU (wO sa) (wO sb) fun x hx y hy=>by rw [mM ha,nK] at hx;rw [mM hb,nK] at hy;obtain ⟨i,i1,i2,_⟩:=pO ha hx;obtain ⟨j,j1,j2,_⟩:=pO hb hy;lia
 rw [mM ha,mM hb] at this;have er:(a.extract 0 na++b.extract 0 nb++out.reverse).toList=(out.toList++(b.extract 0 nb).toList.reverse++(a.extract 0 na).toList.reverse).reverse:=by simp
 rw [er];refine ⟨(l_ _).trans (this.1.trans ?_),MW this.2⟩;exact (l_ _).append (l_ _)
theorem oq(m:MH key a b out na nb)(h0:∀x∈a.toList,key (b.getD 0 nn)≤key x)(e:nb=1):(b.extract 0 nb++a.extract 0 na++out.reverse).toList.Perm (a.toList++b.toList)∧bQ key (b.extract 0 nb++a.extract 0 na++out.reverse).toList:=by
 obtain ⟨m,ha,hb⟩:=m;have:=m.done (wO sa) (wO sb) fun x hx y hy=>by
  rw [mM ha,nK] at hx;rw [mM hb,nK] at hy;obtain ⟨i,i1,i2,rfl⟩:=pO ha hx;obtain ⟨j,j1,j2,rfl⟩:=pO hb hy;have:=h0 (a.getD i nn) (by simp [Array.getD,show i<a.size by lia])
  rw [show j=0 by lia]
  lia
 rw [mM ha,mM hb] at this;have er:(b.extract 0 nb++a.extract 0 na++out.reverse).toList=(out.toList++(a.extract 0 na).toList.reverse++(b.extract 0 nb).toList.reverse).reverse:=by simp
 rw [er];refine ⟨(l_ _).trans (this.1.trans ?_),MW this.2⟩;exact (l_ _).append (l_ _)
end
section
variable {prog:Program} {w:World} {A:Around} {E:aO} {s:Shared} {κ:SortKind} {key:Keyed→Int} {Ok:Keyed→Prop}
theorem V6(h:kr prog w A s κ key Ok){a b:Array Keyed}(oa:f9 Ok a)(ob:f9 Ok b)(sa:bQ key a.toList)(sb:bQ key b.toList)(a1:1≤a.size)(b1:1≤b.size)
  (h0:∀x∈a.toList,key (b.getD 0 nn)≤key x) (hl:∀y∈b.toList,key y≤key (a.getD (a.size-1) nn)) {st:SortSt} (hk:kindOf st=κ) {Q:Array Keyed→SortSt→Prop}
  (q:∀m g,m.toList.Perm (a.toList++b.toList)→bQ key m.toList→Q m (setG st g)):wpS (model prog w) A E s (GX a b) Q st:=by
 rw [V4];refine aw (wpS_lift (nJ ⟨rfl,?_⟩));refine aw (bY (by lia) ?_)
 dsimp only;have m0:MH key a b (#[a.getD (a.size-1) nn]:Array Keyed) (a.size-1) b.size:=by
  have:MH key a b (#[]:Array Keyed) a.size b.size:=⟨⟨by simp,List.Pairwise.nil,fun x hx=>by simp at hx,fun x hx=>by simp at hx⟩,aC _,aC _⟩
  exact oo sa sb this a1 fun j hj=>hl _ (by simp [Array.getD,hj])
 have dG:∀g,kindOf (setG st g)=κ:=fun _=>hk;by_cases e1:(a.size-1 == 0)=true
 ·rw [ae e1]
  have:=iQ sa sb m0 (.inl (eq_of_beq e1));exact av (q _ (gallopOf st) this.1 this.2)
 rw [aa e1];by_cases e2:(b.size == 1)=true
 ·rw [ae e2]
  have:=oq sa sb m0 h0 (eq_of_beq e2);exact av (q _ (gallopOf st) this.1 this.2)
 rw [aa e2];have a2:1≤a.size-1:=by
  have:a.size-1≠0:=fun e=>e1 (by simp [e])
  lia
 have b2:2≤b.size:=by
  have:b.size≠1:=fun e=>e2 (by simp [e])
  lia
 refine aw (j8 ?_)
 refine aw (hG (gO (I:=fun x c aB=>∃(out:Array Keyed) (na nb mg g:Nat),c=(none,na,nb,out,mg)∧aB=setG st g∧MH key a b out na nb∧1≤na∧2≤nb∧x+na+nb≤a.size+b.size)
  (Q:=fun c aB=>∃(m:Array Keyed) (g:Nat),c.1=some m∧aB=setG st g∧m.toList.Perm (a.toList++b.toList)∧bQ key m.toList) ?_ ?_ ⟨_,a.size-1,b.size,_,gallopOf st,rfl,rfl,m0,a2,b2,show 0+(a.size-1)+b.size≤a.size+b.size by lia⟩) ?_)
 ·rintro x c aB _ hx ⟨out,na,nb,mg,g,rfl,rfl,ao⟩
  have mi:=ao.1;have ha:=ao.2.1;have hb:=ao.2.2.1;have tK:=ao.2.2.2;clear ao;dsimp only
  refine aw (hG (gO (I:=fun y c aB=>∃(out:Array Keyed) (bS cW ac bc:Nat),c=(none,bS,cW,out,ac,bc)∧aB=setG st g∧MH key a b out bS cW∧1≤bS∧2≤cW∧y+bS+cW≤na+nb)
   (Q:=fun c aB=>aB=setG st g∧((∃m:Array Keyed,c.1=some m∧m.toList.Perm (a.toList++b.toList)∧bQ key m.toList)∨∃(out:Array Keyed) (bS cW ac bc:Nat),c=(none,bS,cW,out,ac,bc)∧MH key a b out bS cW∧1≤bS∧2≤cW∧1+bS+cW≤na+nb)) ?_ ?_ ⟨_,na,nb,_,_,rfl,rfl,mi,ha,hb,show 0+na+nb≤na+nb by lia⟩) ?_)
  ·rintro y c aB _ hy ⟨out,bS,cW,ac,bc,rfl,rfl,aG⟩
   have mi:=aG.1;have ha:=aG.2.1;have hb:=aG.2.2.1;have jf:=aG.2.2.2;clear aG;have AE:=mi.2.1;have tN:=mi.2.2;dsimp only;refine aw (bY (by lia) (aw (bY (by lia) (aw (Ay h (ob (cW-1) (by lia)) (oa (bS-1) (by lia)) (dG _) ?_)))))
   dsimp only;by_cases z:key (b.getD (cW-1) nn)<key (a.getD (bS-1) nn)
   ·rw [bA z,ae rfl]
    refine aw (bY (by lia) ?_)
    have jg:=oo sa sb mi ha fun j hj=>dY (gW sb (by lia) (by lia)) (dX z)
    by_cases z1:(bS-1 == 0)=true
    ·rw [ae z1]
     exact av ⟨rfl,.inl ⟨_,rfl,iQ sa sb jg (.inl (eq_of_beq z1))⟩⟩
    ·rw [aa z1]
     have tH:bS-1≠0:=fun e=>z1 (by simp [e])
     exact fP (fun _=>av ⟨rfl,.inr ⟨_,_,_,_,_,rfl,jg,by lia,hb,by lia⟩⟩) (fun _=>av ⟨_,_,_,_,_,rfl,rfl,jg,by lia,hb,by lia⟩)
   ·rw [bO z,aa (by simp)]
    refine aw (bY (by lia) ?_)
    have jg:=AD sa sb mi (by lia) fun j hj=>dY (gW sa (by lia) (by lia)) (Int.not_lt.mp z)
    by_cases z1:(cW-1 == 1)=true
    ·rw [ae z1]
     exact av ⟨rfl,.inl ⟨_,rfl,oq sa sb jg h0 (eq_of_beq z1)⟩⟩
    ·rw [aa z1]
     have tH:cW-1≠1:=fun e=>z1 (by simp [e])
     exact fP (fun _=>av ⟨rfl,.inr ⟨_,_,_,_,_,rfl,jg,ha,by lia,by lia⟩⟩) (fun _=>av ⟨_,_,_,_,_,rfl,rfl,jg,ha,by lia,by lia⟩)
  ·rintro c aB ⟨out,bS,cW,ac,bc,rfl,rfl,aJ⟩
   have mi:=aJ.1;have ha:=aJ.2.1;have hb:=aJ.2.2.1;have jf:=aJ.2.2.2;clear aJ;exact ⟨rfl,.inr ⟨_,_,_,_,_,rfl,mi,ha,hb,by lia⟩⟩
  ·rintro c aB ⟨rfl,⟨m,e,pm⟩ | ⟨out,bS,cW,ac,bc,rfl,mi,ha,hb,jf⟩⟩
   ·obtain ⟨c1,c2⟩:=c
    dsimp only at e;subst e;exact av ⟨m,g,rfl,rfl,pm⟩
   ·dsimp only
    refine aw (wpS_lift (nJ ⟨rfl,?_⟩))
    refine aw (hG (gO (I:=fun y c aB=>∃(out:Array Keyed) (i j mg ac bc g:Nat),c=(none,i,j,out,mg,ac,bc)∧aB=setG st g∧MH key a b out i j∧1≤i∧2≤j∧x+1+i+j≤a.size+b.size)
     (Q:=fun c aB=>(∃(m:Array Keyed) (g:Nat),c.1=some m∧aB=setG st g∧m.toList.Perm (a.toList++b.toList)∧bQ key m.toList)∨∃(out:Array Keyed) (i j mg ac bc g:Nat),c=(none,i,j,out,mg,ac,bc)∧aB=setG st g∧MH key a b out i j∧1≤i∧2≤j∧x+1+i+j≤a.size+b.size) ?_ ?_ ⟨_,bS,cW,_,_,_,g,rfl,rfl,mi,ha,hb,by lia⟩) ?_)
    ·clear mi ha hb jf
     rintro y c aB _ hy ⟨out,na,nb,mg,ac,bc,g,rfl,rfl,aY⟩;have mi:=aY.1;have ha:=aY.2.1;have hb:=aY.2.2.1;have jf:=aY.2.2.2;clear aY;have AE:=mi.2.1;have tN:=mi.2.2;dsimp only;rcases Nat.lt_or_ge 1 mg with zm | zm
     ·rw [ae zm]
      refine aw (wM ?_);refine aw (bY (by lia) (aw (jO (f:=fun i=>bB false (key (b.getD (nb-1) nn)) (key (a.getD (0+i) nn))) (fun i hi Q q=>jN h (by lia) oa (ob _ (by lia)) (dG _) q) (by lia) (fun i j h1 h2 h3=>C6 sa (o:=0) i j h1 (by lia) h3) fun k k1 k2 k3=>?_)))
      dsimp only;by_cases zk:na-k>0
      ·rw [ae zk]
       have jh:=G2 sa sb mi (k:=k) k1 fun i j hi ba hj=>by have:=rm (k3 i hi ba);rw [e9] at this;exact dY (gW sb (by lia) (by lia)) (dX this)
       by_cases w1:(k == 0)=true
       ·rw [ae w1]
        exact av (.inl ⟨_,_,rfl,rfl,iQ sa sb jh (.inl (eq_of_beq w1))⟩)
       ·rw [aa w1]
        have G1:k≠0:=fun e=>w1 (by simp [e])
        refine aw (bY (by have:=jh.2.2;lia) ?_)
        have dm:=AD sa sb jh (by lia) fun j h1=>by have:=om (k2 j h1);rw [e9] at this;exact this
        by_cases x1:(nb-1 == 1)=true
        ·rw [ae x1]
         exact av (.inl ⟨_,_,rfl,rfl,oq sa sb dm h0 (eq_of_beq x1)⟩)
        ·rw [aa x1]
         have tL:nb-1≠1:=fun e=>x1 (by simp [e])
         have tN:=dm.2.2;refine aw (bY (by lia) (aw (jO (f:=fun i=>bB true (key (a.getD (k-1) nn)) (key (b.getD (0+i) nn))) (fun i hi Q q=>jN h (by lia) ob (oa _ (by lia)) (dG _) q) (by lia) (fun i j h1 h2 h3=>rp sb (o:=0) i j h1 (by lia) h3) fun k' q1 q2 q3=>?_)))
         dsimp only;by_cases fu:nb-1-k'>0
         ·rw [ae fu]
          have eJ:=AB sa sb dm (k:=k') q1 fun i j hi ba hj=>by have:=jP (q3 i hi ba);rw [e9] at this;exact dY (gW sa (by lia) (by lia)) this
          by_cases x2:(k' == 1)=true
          ·rw [ae x2]
           exact av (.inl ⟨_,_,rfl,rfl,oq sa sb eJ h0 (eq_of_beq x2)⟩)
          ·rw [aa x2]
           have tM:k'≠1:=fun e=>x2 (by simp [e])
           by_cases x3:(k' == 0)=true
           ·rw [ae x3]
            exact av (.inl ⟨_,_,rfl,rfl,iQ sa sb eJ (.inr (eq_of_beq x3))⟩)
           ·rw [aa x3]
            have G3:k'≠0:=fun e=>x3 (by simp [e])
            refine aw (bY (by lia) ?_)
            have bt:=oo sa sb eJ (by lia) fun j h1=>by have:=jd (q2 j h1);rw [e9] at this;exact dX this
            by_cases y1:(k-1 == 0)=true
            ·rw [ae y1]
             exact av (.inl ⟨_,_,rfl,rfl,iQ sa sb bt (.inl (eq_of_beq y1))⟩)
            ·rw [aa y1]
             have jj:k-1≠0:=fun e=>y1 (by simp [e])
             exact fP (fun _=>av (.inr ⟨_,_,_,_,_,_,_,rfl,rfl,bt,by lia,by lia,by lia⟩)) (fun _=>av ⟨_,_,_,_,_,_,_,rfl,rfl,bt,by lia,by lia,by lia⟩)
         ·rw [aa fu]
          obtain rfl:k'=nb-1:=by lia
          refine aw (bY (by lia) ?_)
          have bt:=oo sa sb dm (by lia) fun j h1=>by have:=jd (q2 j h1);rw [e9] at this;exact dX this
          by_cases y1:(k-1 == 0)=true
          ·rw [ae y1]
           exact av (.inl ⟨_,_,rfl,rfl,iQ sa sb bt (.inl (eq_of_beq y1))⟩)
          ·rw [aa y1]
           have jj:k-1≠0:=fun e=>y1 (by simp [e])
           exact fP (fun _=>av (.inr ⟨_,_,_,_,_,_,_,rfl,rfl,bt,by lia,by lia,by lia⟩)) (fun _=>av ⟨_,_,_,_,_,_,_,rfl,rfl,bt,by lia,by lia,by lia⟩)
      ·rw [aa zk]
       obtain rfl:k=na:=by lia
       refine aw (bY (by have:=mi.2.2;lia) ?_)
       have dm:=AD sa sb mi (by lia) fun j h1=>by have:=om (k2 j h1);rw [e9] at this;exact this
       by_cases x1:(nb-1 == 1)=true
       ·rw [ae x1]
        exact av (.inl ⟨_,_,rfl,rfl,oq sa sb dm h0 (eq_of_beq x1)⟩)
       ·rw [aa x1]
        have tL:nb-1≠1:=fun e=>x1 (by simp [e])
        have tN:=dm.2.2;refine aw (bY (by lia) (aw (jO (f:=fun i=>bB true (key (a.getD (k-1) nn)) (key (b.getD (0+i) nn))) (fun i hi Q q=>jN h (by lia) ob (oa _ (by lia)) (dG _) q) (by lia) (fun i j h1 h2 h3=>rp sb (o:=0) i j h1 (by lia) h3) fun k' q1 q2 q3=>?_)))
        dsimp only;by_cases fu:nb-1-k'>0
        ·rw [ae fu]
         have eJ:=AB sa sb dm (k:=k') q1 fun i j hi ba hj=>by have:=jP (q3 i hi ba);rw [e9] at this;exact dY (gW sa (by lia) (by lia)) this
         by_cases x2:(k' == 1)=true
         ·rw [ae x2]
          exact av (.inl ⟨_,_,rfl,rfl,oq sa sb eJ h0 (eq_of_beq x2)⟩)
         ·rw [aa x2]
          have tM:k'≠1:=fun e=>x2 (by simp [e])
          by_cases x3:(k' == 0)=true
          ·rw [ae x3]
           exact av (.inl ⟨_,_,rfl,rfl,iQ sa sb eJ (.inr (eq_of_beq x3))⟩)
          ·rw [aa x3]
           have G3:k'≠0:=fun e=>x3 (by simp [e])
           refine aw (bY (by lia) ?_)
           have bt:=oo sa sb eJ (by lia) fun j h1=>by have:=jd (q2 j h1);rw [e9] at this;exact dX this
           by_cases y1:(k-1 == 0)=true
           ·rw [ae y1]
            exact av (.inl ⟨_,_,rfl,rfl,iQ sa sb bt (.inl (eq_of_beq y1))⟩)
           ·rw [aa y1]
            have jj:k-1≠0:=fun e=>y1 (by simp [e])
            exact fP (fun _=>av (.inr ⟨_,_,_,_,_,_,_,rfl,rfl,bt,by lia,by lia,by lia⟩)) (fun _=>av ⟨_,_,_,_,_,_,_,rfl,rfl,bt,by lia,by lia,by lia⟩)
        ·rw [aa fu]
         obtain rfl:k'=nb-1:=by lia
         refine aw (bY (by lia) ?_)
         have bt:=oo sa sb dm (by lia) fun j h1=>by have:=jd (q2 j h1);rw [e9] at this;exact dX this
         by_cases y1:(k-1 == 0)=true
         ·rw [ae y1]
          exact av (.inl ⟨_,_,rfl,rfl,iQ sa sb bt (.inl (eq_of_beq y1))⟩)
         ·rw [aa y1]
          have jj:k-1≠0:=fun e=>y1 (by simp [e])
          exact fP (fun _=>av (.inr ⟨_,_,_,_,_,_,_,rfl,rfl,bt,by lia,by lia,by lia⟩)) (fun _=>av ⟨_,_,_,_,_,_,_,rfl,rfl,bt,by lia,by lia,by lia⟩)
     ·rw [aa (by lia)]
      refine aw (wM ?_);refine aw (bY (by lia) (aw (jO (f:=fun i=>bB false (key (b.getD (nb-1) nn)) (key (a.getD (0+i) nn))) (fun i hi Q q=>jN h (by lia) oa (ob _ (by lia)) (dG _) q) (by lia) (fun i j h1 h2 h3=>C6 sa (o:=0) i j h1 (by lia) h3) fun k k1 k2 k3=>?_)))
      dsimp only;by_cases zk:na-k>0
      ·rw [ae zk]
       have jh:=G2 sa sb mi (k:=k) k1 fun i j hi ba hj=>by have:=rm (k3 i hi ba);rw [e9] at this;exact dY (gW sb (by lia) (by lia)) (dX this)
       by_cases w1:(k == 0)=true
       ·rw [ae w1]
        exact av (.inl ⟨_,_,rfl,rfl,iQ sa sb jh (.inl (eq_of_beq w1))⟩)
       ·rw [aa w1]
        have G1:k≠0:=fun e=>w1 (by simp [e])
        refine aw (bY (by have:=jh.2.2;lia) ?_)
        have dm:=AD sa sb jh (by lia) fun j h1=>by have:=om (k2 j h1);rw [e9] at this;exact this
        by_cases x1:(nb-1 == 1)=true
        ·rw [ae x1]
         exact av (.inl ⟨_,_,rfl,rfl,oq sa sb dm h0 (eq_of_beq x1)⟩)
        ·rw [aa x1]
         have tL:nb-1≠1:=fun e=>x1 (by simp [e])
         have tN:=dm.2.2;refine aw (bY (by lia) (aw (jO (f:=fun i=>bB true (key (a.getD (k-1) nn)) (key (b.getD (0+i) nn))) (fun i hi Q q=>jN h (by lia) ob (oa _ (by lia)) (dG _) q) (by lia) (fun i j h1 h2 h3=>rp sb (o:=0) i j h1 (by lia) h3) fun k' q1 q2 q3=>?_)))
         dsimp only;by_cases fu:nb-1-k'>0
         ·rw [ae fu]
          have eJ:=AB sa sb dm (k:=k') q1 fun i j hi ba hj=>by have:=jP (q3 i hi ba);rw [e9] at this;exact dY (gW sa (by lia) (by lia)) this
          by_cases x2:(k' == 1)=true
          ·rw [ae x2]
           exact av (.inl ⟨_,_,rfl,rfl,oq sa sb eJ h0 (eq_of_beq x2)⟩)
          ·rw [aa x2]
           have tM:k'≠1:=fun e=>x2 (by simp [e])
           by_cases x3:(k' == 0)=true
           ·rw [ae x3]
            exact av (.inl ⟨_,_,rfl,rfl,iQ sa sb eJ (.inr (eq_of_beq x3))⟩)
           ·rw [aa x3]
            have G3:k'≠0:=fun e=>x3 (by simp [e])
            refine aw (bY (by lia) ?_)
            have bt:=oo sa sb eJ (by lia) fun j h1=>by have:=jd (q2 j h1);rw [e9] at this;exact dX this
            by_cases y1:(k-1 == 0)=true
            ·rw [ae y1]
             exact av (.inl ⟨_,_,rfl,rfl,iQ sa sb bt (.inl (eq_of_beq y1))⟩)
            ·rw [aa y1]
             have jj:k-1≠0:=fun e=>y1 (by simp [e])
             exact fP (fun _=>av (.inr ⟨_,_,_,_,_,_,_,rfl,rfl,bt,by lia,by lia,by lia⟩)) (fun _=>av ⟨_,_,_,_,_,_,_,rfl,rfl,bt,by lia,by lia,by lia⟩)
         ·rw [aa fu]
          obtain rfl:k'=nb-1:=by lia
          refine aw (bY (by lia) ?_)
          have bt:=oo sa sb dm (by lia) fun j h1=>by have:=jd (q2 j h1);rw [e9] at this;exact dX this
          by_cases y1:(k-1 == 0)=true
          ·rw [ae y1]
           exact av (.inl ⟨_,_,rfl,rfl,iQ sa sb bt (.inl (eq_of_beq y1))⟩)
          ·rw [aa y1]
           have jj:k-1≠0:=fun e=>y1 (by simp [e])
           exact fP (fun _=>av (.inr ⟨_,_,_,_,_,_,_,rfl,rfl,bt,by lia,by lia,by lia⟩)) (fun _=>av ⟨_,_,_,_,_,_,_,rfl,rfl,bt,by lia,by lia,by lia⟩)
      ·rw [aa zk]
       obtain rfl:k=na:=by lia
       refine aw (bY (by have:=mi.2.2;lia) ?_)
       have dm:=AD sa sb mi (by lia) fun j h1=>by have:=om (k2 j h1);rw [e9] at this;exact this
       by_cases x1:(nb-1 == 1)=true
       ·rw [ae x1]
        exact av (.inl ⟨_,_,rfl,rfl,oq sa sb dm h0 (eq_of_beq x1)⟩)
       ·rw [aa x1]
        have tL:nb-1≠1:=fun e=>x1 (by simp [e])
        have tN:=dm.2.2;refine aw (bY (by lia) (aw (jO (f:=fun i=>bB true (key (a.getD (k-1) nn)) (key (b.getD (0+i) nn))) (fun i hi Q q=>jN h (by lia) ob (oa _ (by lia)) (dG _) q) (by lia) (fun i j h1 h2 h3=>rp sb (o:=0) i j h1 (by lia) h3) fun k' q1 q2 q3=>?_)))
        dsimp only;by_cases fu:nb-1-k'>0
        ·rw [ae fu]
         have eJ:=AB sa sb dm (k:=k') q1 fun i j hi ba hj=>by have:=jP (q3 i hi ba);rw [e9] at this;exact dY (gW sa (by lia) (by lia)) this
         by_cases x2:(k' == 1)=true
         ·rw [ae x2]
          exact av (.inl ⟨_,_,rfl,rfl,oq sa sb eJ h0 (eq_of_beq x2)⟩)
         ·rw [aa x2]
          have tM:k'≠1:=fun e=>x2 (by simp [e])
          by_cases x3:(k' == 0)=true
          ·rw [ae x3]
           exact av (.inl ⟨_,_,rfl,rfl,iQ sa sb eJ (.inr (eq_of_beq x3))⟩)
          ·rw [aa x3]
           have G3:k'≠0:=fun e=>x3 (by simp [e])
           refine aw (bY (by lia) ?_)
           have bt:=oo sa sb eJ (by lia) fun j h1=>by have:=jd (q2 j h1);rw [e9] at this;exact dX this
           by_cases y1:(k-1 == 0)=true
           ·rw [ae y1]
            exact av (.inl ⟨_,_,rfl,rfl,iQ sa sb bt (.inl (eq_of_beq y1))⟩)
           ·rw [aa y1]
            have jj:k-1≠0:=fun e=>y1 (by simp [e])
            exact fP (fun _=>av (.inr ⟨_,_,_,_,_,_,_,rfl,rfl,bt,by lia,by lia,by lia⟩)) (fun _=>av ⟨_,_,_,_,_,_,_,rfl,rfl,bt,by lia,by lia,by lia⟩)
        ·rw [aa fu]
         obtain rfl:k'=nb-1:=by lia
         refine aw (bY (by lia) ?_)
         have bt:=oo sa sb dm (by lia) fun j h1=>by have:=jd (q2 j h1);rw [e9] at this;exact dX this
         by_cases y1:(k-1 == 0)=true
         ·rw [ae y1]
          exact av (.inl ⟨_,_,rfl,rfl,iQ sa sb bt (.inl (eq_of_beq y1))⟩)
         ·rw [aa y1]
          have jj:k-1≠0:=fun e=>y1 (by simp [e])
          exact fP (fun _=>av (.inr ⟨_,_,_,_,_,_,_,rfl,rfl,bt,by lia,by lia,by lia⟩)) (fun _=>av ⟨_,_,_,_,_,_,_,rfl,rfl,bt,by lia,by lia,by lia⟩)
    ·rintro c aB ⟨out,i,j,mg,ac,bc,g,rfl,rfl,cm⟩
     have mi:=cm.1;have ha:=cm.2.1;have hb:=cm.2.2.1;have jf:=cm.2.2.2;clear cm;exact .inr ⟨_,_,_,_,_,_,_,rfl,rfl,mi,ha,hb,jf⟩
    ·rintro c aB (⟨m,g,e,rfl,pm⟩ | ⟨out,i,j,mg,ac,bc,g,rfl,rfl,mi,ha,hb,jf⟩)
     ·obtain ⟨c1,c2⟩:=c
      dsimp only at e;subst e;exact av ⟨m,g,rfl,rfl,pm⟩
     ·dsimp only
      exact aw (wM (av ⟨_,_,_,_,_,rfl,rfl,mi,ha,hb,by lia⟩))
 ·rintro c aB ⟨out,ia,ib,mg,g,rfl,rfl,dq⟩
  have mi:=dq.1;have ha:=dq.2.1;have hb:=dq.2.2.1;have tK:=dq.2.2.2;clear dq
  exfalso
  lia
 ·rintro c aB ⟨m,g,e,rfl,pm,sm⟩
  obtain ⟨c1,c2⟩:=c;dsimp only at e;subst e;exact av (q m g pm sm)
end
section
variable {prog:Program} {w:World} {A:Around} {E:aO} {s:Shared} {κ:SortKind} {key:Keyed→Int} {Ok:Keyed→Prop}
def vA(key:Keyed→Int)(arr:Array Keyed)(i:Nat):Int:=key (arr.getD i nn)
def dH(key:Keyed→Int)(arr:Array Keyed)(lo hi:Nat):Prop:=∀i j,lo≤i→i≤j→j<hi→vA key arr i≤vA key arr j
def lB(key:Keyed→Int)(arr:Array Keyed)(lo hi:Nat):Prop:=∀i j,lo≤i→i≤j→j<hi→vA key arr j≤vA key arr i
structure Rl (arr bb:Array Keyed) (lo hi:Nat):Prop where
 pm:bb.Perm arr
 out:∀k,k<lo∨hi≤k→bb[k]?=arr[k]?
theorem Rl.refl(arr:Array Keyed)(lo hi:Nat):Rl arr arr lo hi:=⟨Array.Perm.refl _,fun _ _=>rfl⟩
variable {arr bb:Array Keyed} {lo hi:Nat}
theorem Rl.trans{aQ:Array Keyed}(h:Rl arr bb lo hi)(h':Rl bb aQ lo hi):Rl arr aQ lo hi:=⟨h'.pm.trans h.pm,fun k hk=>(h'.out k hk).trans (h.out k hk)⟩
theorem Rl.size(h:Rl arr bb lo hi):bb.size=arr.size:=h.pm.size_eq
theorem Rl.wide{MY ba:Nat}(h:Rl arr bb lo hi)(h1:MY≤lo)(h2:hi≤ba):Rl arr bb MY ba:=⟨h.pm,fun k hk=>h.out k (by lia)⟩
theorem mO(arr:Array Keyed)(i:Nat):arr.getD i nn=arr[i]?.getD nn:=by by_cases z:i<arr.size <;> simp [Array.getD,z]
variable {k:Nat}
theorem Rl.v(h:Rl arr bb lo hi)(hk:k<lo∨hi≤k):vA key bb k=vA key arr k:=by unfold vA;rw [mO,mO,h.out k hk]
theorem wQ(h:f9 Ok arr)(p:bb.Perm arr):f9 Ok bb:=fun i hi=>by
 have e:bb.getD i nn=bb[i]:=by simp [Array.getD,hi]
 rw [e];have m:bb[i]∈arr:=(Array.Perm.mem_iff p).mp (Array.getElem_mem hi);obtain ⟨j,hj,ej⟩:=Array.getElem_of_mem m;rw [←ej];have:=h j hj;simpa [Array.getD,hj] using this
theorem Rl.ok(h:Rl arr bb lo hi)(ok:f9 Ok arr):f9 Ok bb:=wQ ok h.pm
theorem mP(hj:j≤arr.size):Rl arr (mirror arr i j ((j-i) / 2)) i j:=⟨mirror_perm ..,fun k hk=>by rw [getElem?_mirror_all hj,aa (by lia)]⟩
theorem C_(hj:j≤arr.size)(h1:i≤k)(h2:k<j):vA key (mirror arr i j ((j-i) / 2)) k=vA key arr (i+j-1-k):=by unfold vA;rw [mO,mO,getElem?_mirror_all hj,ae ⟨h1,h2⟩]
abbrev bH (κ:SortKind) (arr:Array Keyed) (pend:Array (Nat×Nat×Nat)) (g:Nat):SortSt:=SortSt.mk' κ arr pend g none
variable {arr:Array Keyed} {pend:Array (Nat×Nat×Nat)} {g:Nat}
theorem mQ(h:kr prog w A s κ key Ok)(ok:f9 Ok arr)(hi:i<arr.size)(hj:j<arr.size){Q:Option Bool→SortSt→Prop}(q:Q (some (decide (vA key arr i<vA key arr j))) (bH κ arr pend g)):wpS (model prog w) A E s (ltAt' i j) Q (bH κ arr pend g):=by rw [ltAt'_eq];refine aw (j8 ?_);exact aw (bY hi (aw (bY hj (Ay h (ok _ hi) (ok _ hj) rfl q))))
theorem pP{Q:Unit→SortSt→Prop}(q:Q () (bH κ (mirror arr i j ((j-i) / 2)) pend g)):wpS (model prog w) A E s (reverseSlice' i j) Q (bH κ arr pend g):=by rw [reverseSlice'_eq];exact l8 q
variable {n:Nat}
theorem dH.more(h:dH key arr lo (lo+n))(n1:1≤n)(c:vA key arr (lo+n-1)≤vA key arr (lo+n)):dH key arr lo (lo+(n+1)):=fun i j h1 h2 h3=>by
 by_cases z:j<lo+n;·exact h i j h1 h2 z
 ·obtain rfl:j=lo+n:=by lia
  by_cases y:i=lo+n;·rw [y];exact l7 _
  ·exact dY (h i (lo+n-1) h1 (by lia) (by lia)) c
theorem lB.more(h:lB key arr lo (lo+n))(n1:1≤n)(c:vA key arr (lo+n)≤vA key arr (lo+n-1)):lB key arr lo (lo+(n+1)):=fun i j h1 h2 h3=>by
 by_cases z:j<lo+n;·exact h i j h1 h2 z
 ·obtain rfl:j=lo+n:=by lia
  by_cases y:i=lo+n;·rw [y];exact l7 _
  ·exact dY c (h i (lo+n-1) h1 (by lia) (by lia))
def AF(key:Keyed→Int)(arr:Array Keyed)(lo n q:Nat):Prop:=q+1≤n∧∀i,lo+n-(q+1)≤i→i<lo+n→vA key arr i=vA key arr (lo+n-1)
theorem De{q:Nat}(hz:lo+n≤arr.size)(d:lB key arr lo (lo+n))(e:AF key arr lo n q):lB key (mirror arr (lo+n-(q+1)) (lo+n) ((lo+n-(lo+n-(q+1))) / 2)) lo (lo+n)∧∀k,vA key (mirror arr (lo+n-(q+1)) (lo+n) ((lo+n-(lo+n-(q+1))) / 2)) k=vA key arr k:=by
 have hv:∀k,vA key (mirror arr (lo+n-(q+1)) (lo+n) ((lo+n-(lo+n-(q+1))) / 2)) k=vA key arr k:=fun k=>by
  by_cases z:lo+n-(q+1)≤k∧k<lo+n;·rw [C_ hz z.1 z.2,e.2 _ (by have:=e.1;lia) (by lia),e.2 k z.1 z.2]
  ·exact (mP hz).v (by lia)
 refine ⟨fun i j h1 h2 h3=>?_,hv⟩;rw [hv,hv];exact d i j h1 h2 h3
theorem Df(hz:lo+n≤arr.size)(d:lB key arr lo (lo+n)):dH key (mirror arr lo (lo+n) ((lo+n-lo) / 2)) lo (lo+n):=fun i j h1 h2 h3=>by
 rw [C_ hz h1 (by lia),C_ hz (by lia) h3]
 exact d _ _ (by lia) (by lia) (by lia)
end
section
variable {prog:Program} {w:World} {A:Around} {E:aO} {s:Shared} {κ:SortKind} {key:Keyed→Int} {Ok:Keyed→Prop} {arr:Array Keyed} {pend:Array (Nat×Nat×Nat)} {g:Nat}
variable {lo dt:Nat}
theorem AG(h:kr prog w A s κ key Ok)(ok:f9 Ok arr){m:Nat}(hz:lo+dt≤arr.size)(m1:1≤m)(mn:m≤dt)(sg:dH key arr lo (lo+m)){body:Nat→Option (Option Nat)×Nat→StateT SortSt Sem (ForInStep (Option (Option Nat)×Nat))}{R:Option (Option Nat)×Nat→SortSt→Prop}
  (hb:∀x n (R:ForInStep (Option (Option Nat)×Nat)→SortSt→Prop),1≤n→n<dt→R (if vA key arr (lo+n)<vA key arr (lo+n-1) then .done (none,n) else .yield (none,n+1)) (bH κ arr pend g)→wpS (model prog w) A E s (body x (none,n)) R (bH κ arr pend g))
  (k:∀n,m≤n→n≤dt→dH key arr lo (lo+n)→(n<dt→vA key arr (lo+n)<vA key arr (lo+n-1))→R (none,n) (bH κ arr pend g)) :
  wpS (model prog w) A E s (forIn [m:dt] (none,m) body) R (bH κ arr pend g):=by
 refine gO (I:=fun x c aB=>aB=bH κ arr pend g∧c=(none,x)∧m≤x∧x≤dt∧dH key arr lo (lo+x)) ?_ ?_ ⟨rfl,rfl,aC _,mn,sg⟩
 ·rintro x c aB _ hx ⟨rfl,rfl,ao⟩
  have g1:=ao.1;have g2:=ao.2.1;have g3:=ao.2.2;clear ao;refine hb x x _ (by lia) hx ?_
  by_cases z:vA key arr (lo+x)<vA key arr (lo+x-1)
  ·rw [ae z]
   exact k x g1 g2 g3 fun _=>z
  ·rw [aa z]
   exact ⟨rfl,rfl,by lia,by lia,g3.more (by lia) (Int.not_lt.mp z)⟩
 ·rintro c aB ⟨rfl,rfl,aG⟩
  have g1:=aG.1;have g2:=aG.2.1;have g3:=aG.2.2;clear aG;have e:max m dt=dt:=by lia
  rw [e] at g3 ⊢;exact k dt mn (aC _) g3 fun z=>absurd z (eW _)
theorem V7(h:kr prog w A s κ key Ok)(ok:f9 Ok arr)(hz:lo+dt≤arr.size)(n1:1≤dt){Q:Option Nat→SortSt→Prop}
  (k:∀n bb,1≤n→n≤dt→Rl arr bb lo (lo+dt)→dH key bb lo (lo+n)→Q (some n) (bH κ bb pend g)):wpS (model prog w) A E s (countRun' lo dt) Q (bH κ arr pend g):=by
 rw [countRun'_eq];refine aw (AG h ok hz (aC 1) n1 (fun i j h1 h2 h3=>by rw [show i=j by lia];exact l7 _) ?_ fun n m1 mn sg br=>?_)
 ·intro x n R a1 a2 r
  dsimp only;refine aw (mQ h ok (by lia) (by lia) ?_)
  dsimp only;by_cases z:vA key arr (lo+n)<vA key arr (lo+n-1)
  ·rw [ae z] at r
   rw [bA z,ae rfl];exact av r
  ·rw [aa z] at r
   rw [bO z,aa (by simp)]
   exact av r
 dsimp only;by_cases e1:(n == dt)=true
 ·rw [ae e1]
  exact av (k n arr m1 mn (Rl.refl ..) sg)
 rw [aa e1];have bh:n<dt:=by
  have:n≠dt:=fun e=>e1 (by simp [e])
  lia
 have MZ:=br bh;by_cases e2:n>1
 ·rw [ae e2]
  refine aw (mQ h ok (by lia) (by lia) ?_)
  dsimp only;by_cases z:vA key arr lo<vA key arr (lo+n-1)
  ·rw [bA z,ae rfl]
   exact av (k n arr m1 mn (Rl.refl ..) sg)
  ·rw [bO z,aa (by simp)]
   refine aw (pP ?_);have ev:∀i,lo≤i→i<lo+n→vA key arr i=vA key arr (lo+n-1):=fun i h1 h2=>by
    have a1:=sg lo i (aC _) h1 h2;have a2:=sg i (lo+n-1) h1 (by lia) (by lia)
    lia
   have hv:∀i,vA key (mirror arr lo (lo+n) ((lo+n-lo) / 2)) i=vA key arr i:=fun i=>by
    by_cases y:lo≤i∧i<lo+n;·rw [C_ (by lia) y.1 y.2,ev _ (by lia) (by lia),ev i y.1 y.2]
    ·exact (mP (by lia)).v (by lia)
   have d1:lB key (mirror arr lo (lo+n) ((lo+n-lo) / 2)) lo (lo+n):=fun i j h1 h2 h3=>by
    rw [hv,hv,ev i h1 (by lia),ev j (by lia) h3]
    exact l7 _
   have Dg:Rl arr (mirror arr lo (lo+n) ((lo+n-lo) / 2)) lo (lo+dt):=(mP (by lia)).wide (aC _) (by lia)
   have M0:vA key (mirror arr lo (lo+n) ((lo+n-lo) / 2)) (lo+n)<vA key (mirror arr lo (lo+n) ((lo+n-lo) / 2)) (lo+n-1):=by rw [hv,hv];exact MZ
   generalize mirror arr lo (lo+n) ((lo+n-lo) / 2)=V8 at d1 Dg M0 ⊢;refine aw (wpS_lift (nJ ⟨rfl,?_⟩))
   refine aw (hG (gO (I:=fun x c aB=>∃(aQ:Array Keyed) (q:Nat),aB=bH κ aQ pend g∧c=(none,x,q)∧Rl arr aQ lo (lo+dt)∧lB key aQ lo (lo+x)∧AF key aQ lo x q∧x≤dt∧1≤x)
    (Q:=fun c aB=>∃(aQ:Array Keyed) (n q:Nat),aB=bH κ aQ pend g∧c=(none,n,q)∧Rl arr aQ lo (lo+dt)∧lB key aQ lo (lo+n)∧AF key aQ lo n q∧n≤dt∧1≤n) ?_ ?_ ⟨V8,0,rfl,rfl,Dg,d1.more (by lia) (dX M0),⟨by lia,fun i h1 h2=>by rw [show i=lo+(n+1)-1 by lia]⟩,by lia,by lia⟩) ?_)
   ·rintro x c aB _ hx ⟨aQ,q,rfl,rfl,aJ⟩
    have eZ:=aJ.1;have d2:=aJ.2.1;have e2:=aJ.2.2.1;have x1:=aJ.2.2.2.1;have x2:=aJ.2.2.2.2;clear aJ;have lC:=eZ.ok ok;have z2:=eZ.size;dsimp only;refine aw (mQ h lC (by lia) (by lia) ?_)
    dsimp only;by_cases z:vA key aQ (lo+x)<vA key aQ (lo+x-1)
    ·rw [bA z,ae rfl]
     by_cases y:q>0
     ·rw [ae y]
      refine aw (pP (av ?_));obtain ⟨d3,hv⟩:=De (by lia) d2 e2
      refine ⟨_,0,rfl,rfl,eZ.trans ((mP (by lia)).wide (by have:=e2.1;lia) (by lia)),d3.more (by lia) (by rw [hv,hv];exact dX z),⟨by lia,fun i h1 h2=>by rw [show i=lo+(x+1)-1 by lia]⟩,by lia,by lia⟩
     ·rw [aa y]
      exact av ⟨_,0,rfl,rfl,eZ,d2.more (by lia) (dX z),⟨by lia,fun i h1 h2=>by rw [show i=lo+(x+1)-1 by lia]⟩,by lia,by lia⟩
    ·rw [bO z,aa (by simp)]
     refine aw (mQ h lC (by lia) (by lia) ?_)
     dsimp only;by_cases y:vA key aQ (lo+x-1)<vA key aQ (lo+x)
     ·rw [bA y,ae rfl]
      exact av ⟨_,_,_,rfl,rfl,eZ,d2,e2,x1,x2⟩
     ·rw [bO y,aa (by simp)]
      have ev:vA key aQ (lo+x)=vA key aQ (lo+x-1):=by lia
      refine av ⟨_,_,rfl,rfl,eZ,d2.more (by lia) (by lia),⟨by have:=e2.1;lia,fun i h1 h2=>?_⟩,by lia,by lia⟩
      rw [show lo+(x+1)-1=lo+x by lia]
      by_cases w:i=lo+x;·rw [w]
      ·rw [ev]
       exact e2.2 i (by lia) (by lia)
   ·rintro c aB ⟨aQ,q,rfl,rfl,aY⟩
    have eZ:=aY.1;have d2:=aY.2.1;have e2:=aY.2.2.1;have x1:=aY.2.2.2.1;have x2:=aY.2.2.2.2;clear aY;exact ⟨aQ,_,q,rfl,rfl,eZ,d2,e2,x1,x2⟩
   ·rintro c aB ⟨aQ,n2,q2,rfl,rfl,cm⟩
    have eZ:=cm.1;have d2:=cm.2.1;have e2:=cm.2.2.1;have x1:=cm.2.2.2.1;have x2:=cm.2.2.2.2;clear cm;have z2:=eZ.size;dsimp only;by_cases y:q2>0
    ·rw [ae y]
     obtain ⟨d3,hv⟩:=De (by lia) d2 e2
     refine aw (pP (aw (pP ?_)));have mR:=eZ.trans ((mP (arr:=aQ) (i:=lo+n2-(q2+1)) (j:=lo+n2) (by lia)).wide (by have:=e2.1;lia) (show lo+n2≤lo+dt by lia))
     generalize mirror aQ (lo+n2-(q2+1)) (lo+n2) _=dy at d3 mR ⊢;have z3:=mR.size;have iq:=Df (by lia) d3
     have cE:=mR.trans ((mP (arr:=dy) (i:=lo) (j:=lo+n2) (by lia)).wide (aC lo) (show lo+n2≤lo+dt by lia))
     generalize mirror dy lo (lo+n2) _=bu at iq cE ⊢;have mS:=Rl.ok cE ok;have z4:=Rl.size cE;refine aw (AG h mS (by lia) (by lia) (by lia) iq ?_ fun m m1 mn tO _=>av (k m bu (by lia) mn cE tO))
     intro x n R a1 a2 r;dsimp only;refine aw (mQ h mS (by lia) (by lia) ?_)
     dsimp only;by_cases z:vA key bu (lo+n)<vA key bu (lo+n-1)
     ·rw [ae z] at r
      rw [bA z,ae rfl];exact av r
     ·rw [aa z] at r
      rw [bO z,aa (by simp)]
      exact av r
    ·rw [aa y]
     refine aw (pP ?_);have iq:=Df (by lia) d2
     have cE:=eZ.trans ((mP (arr:=aQ) (i:=lo) (j:=lo+n2) (by lia)).wide (aC lo) (show lo+n2≤lo+dt by lia))
     generalize mirror aQ lo (lo+n2) _=bu at iq cE ⊢;have mS:=Rl.ok cE ok;have z4:=Rl.size cE;refine aw (AG h mS (by lia) (by lia) (by lia) iq ?_ fun m m1 mn tO _=>av (k m bu (by lia) mn cE tO))
     intro x n R a1 a2 r;dsimp only;refine aw (mQ h mS (by lia) (by lia) ?_)
     dsimp only;by_cases z:vA key bu (lo+n)<vA key bu (lo+n-1)
     ·rw [ae z] at r
      rw [bA z,ae rfl];exact av r
     ·rw [aa z] at r
      rw [bO z,aa (by simp)]
      exact av r
 ·rw [aa e2]
  have d1:lB key arr lo (lo+n):=fun i j h1 h2 h3=>by
   rw [show i=j by lia]
   exact l7 _
  have Dg:Rl arr arr lo (lo+dt):=Rl.refl ..;refine aw (wpS_lift (nJ ⟨rfl,?_⟩))
  refine aw (hG (gO (I:=fun x c aB=>∃(aQ:Array Keyed) (q:Nat),aB=bH κ aQ pend g∧c=(none,x,q)∧Rl arr aQ lo (lo+dt)∧lB key aQ lo (lo+x)∧AF key aQ lo x q∧x≤dt∧1≤x)
   (Q:=fun c aB=>∃(aQ:Array Keyed) (n q:Nat),aB=bH κ aQ pend g∧c=(none,n,q)∧Rl arr aQ lo (lo+dt)∧lB key aQ lo (lo+n)∧AF key aQ lo n q∧n≤dt∧1≤n) ?_ ?_ ⟨arr,0,rfl,rfl,Dg,d1.more (by lia) (dX MZ),⟨by lia,fun i h1 h2=>by rw [show i=lo+(n+1)-1 by lia]⟩,by lia,by lia⟩) ?_)
  ·rintro x c aB _ hx ⟨aQ,q,rfl,rfl,dq⟩
   have eZ:=dq.1;have d2:=dq.2.1;have e2:=dq.2.2.1;have x1:=dq.2.2.2.1;have x2:=dq.2.2.2.2;clear dq;have lC:=eZ.ok ok;have z2:=eZ.size;dsimp only;refine aw (mQ h lC (by lia) (by lia) ?_)
   dsimp only;by_cases z:vA key aQ (lo+x)<vA key aQ (lo+x-1)
   ·rw [bA z,ae rfl]
    by_cases y:q>0
    ·rw [ae y]
     refine aw (pP (av ?_));obtain ⟨d3,hv⟩:=De (by lia) d2 e2
     refine ⟨_,0,rfl,rfl,eZ.trans ((mP (by lia)).wide (by have:=e2.1;lia) (by lia)),d3.more (by lia) (by rw [hv,hv];exact dX z),⟨by lia,fun i h1 h2=>by rw [show i=lo+(x+1)-1 by lia]⟩,by lia,by lia⟩
    ·rw [aa y]
     exact av ⟨_,0,rfl,rfl,eZ,d2.more (by lia) (dX z),⟨by lia,fun i h1 h2=>by rw [show i=lo+(x+1)-1 by lia]⟩,by lia,by lia⟩
   ·rw [bO z,aa (by simp)]
    refine aw (mQ h lC (by lia) (by lia) ?_)
    dsimp only;by_cases y:vA key aQ (lo+x-1)<vA key aQ (lo+x)
    ·rw [bA y,ae rfl]
     exact av ⟨_,_,_,rfl,rfl,eZ,d2,e2,x1,x2⟩
    ·rw [bO y,aa (by simp)]
     have ev:vA key aQ (lo+x)=vA key aQ (lo+x-1):=by lia
     refine av ⟨_,_,rfl,rfl,eZ,d2.more (by lia) (by lia),⟨by have:=e2.1;lia,fun i h1 h2=>?_⟩,by lia,by lia⟩
     rw [show lo+(x+1)-1=lo+x by lia]
     by_cases w:i=lo+x;·rw [w]
     ·rw [ev]
      exact e2.2 i (by lia) (by lia)
  ·rintro c aB ⟨aQ,q,rfl,rfl,wR⟩
   have eZ:=wR.1;have d2:=wR.2.1;have e2:=wR.2.2.1;have x1:=wR.2.2.2.1;have x2:=wR.2.2.2.2;clear wR;exact ⟨aQ,_,q,rfl,rfl,eZ,d2,e2,x1,x2⟩
  ·rintro c aB ⟨aQ,n2,q2,rfl,rfl,wU⟩
   have eZ:=wU.1;have d2:=wU.2.1;have e2:=wU.2.2.1;have x1:=wU.2.2.2.1;have x2:=wU.2.2.2.2;clear wU;have z2:=eZ.size;dsimp only;by_cases y:q2>0
   ·rw [ae y]
    obtain ⟨d3,hv⟩:=De (by lia) d2 e2
    refine aw (pP (aw (pP ?_)));have mR:=eZ.trans ((mP (arr:=aQ) (i:=lo+n2-(q2+1)) (j:=lo+n2) (by lia)).wide (by have:=e2.1;lia) (show lo+n2≤lo+dt by lia))
    generalize mirror aQ (lo+n2-(q2+1)) (lo+n2) _=dy at d3 mR ⊢;have z3:=mR.size;have iq:=Df (by lia) d3
    have cE:=mR.trans ((mP (arr:=dy) (i:=lo) (j:=lo+n2) (by lia)).wide (aC lo) (show lo+n2≤lo+dt by lia))
    generalize mirror dy lo (lo+n2) _=bu at iq cE ⊢;have mS:=Rl.ok cE ok;have z4:=Rl.size cE;refine aw (AG h mS (by lia) (by lia) (by lia) iq ?_ fun m m1 mn tO _=>av (k m bu (by lia) mn cE tO))
    intro x n R a1 a2 r;dsimp only;refine aw (mQ h mS (by lia) (by lia) ?_)
    dsimp only;by_cases z:vA key bu (lo+n)<vA key bu (lo+n-1)
    ·rw [ae z] at r
     rw [bA z,ae rfl];exact av r
    ·rw [aa z] at r
     rw [bO z,aa (by simp)]
     exact av r
   ·rw [aa y]
    refine aw (pP ?_);have iq:=Df (by lia) d2
    have cE:=eZ.trans ((mP (arr:=aQ) (i:=lo) (j:=lo+n2) (by lia)).wide (aC lo) (show lo+n2≤lo+dt by lia))
    generalize mirror aQ lo (lo+n2) _=bu at iq cE ⊢;have mS:=Rl.ok cE ok;have z4:=Rl.size cE;refine aw (AG h mS (by lia) (by lia) (by lia) iq ?_ fun m m1 mn tO _=>av (k m bu (by lia) mn cE tO))
    intro x n R a1 a2 r;dsimp only;refine aw (mQ h mS (by lia) (by lia) ?_)
    dsimp only;by_cases z:vA key bu (lo+n)<vA key bu (lo+n-1)
    ·rw [ae z] at r
     rw [bA z,ae rfl];exact av r
    ·rw [aa z] at r
     rw [bO z,aa (by simp)]
     exact av r
end
section
variable {prog:Program} {w:World} {A:Around} {E:aO} {s:Shared} {κ:SortKind} {key:Keyed→Int} {Ok:Keyed→Prop} {arr:Array Keyed} {pend:Array (Nat×Nat×Nat)} {g:Nat}
theorem V9{Q:Unit→SortSt→Prop}(q:Q () (bH κ (bubble arr i (i-j)) pend g)):wpS (model prog w) A E s (moveDown' i j) Q (bH κ arr pend g):=by rw [moveDown'_eq];exact l8 q
variable {d:Nat}
theorem M1{k:Nat}(hi:i<arr.size)(hd:d≤i):vA key (bubble arr i d) k=if k=i-d then vA key arr i else if i-d<k∧k≤i then vA key arr (k-1) else vA key arr k:=by
 unfold vA;rw [mO,getElem?_bubble hi d hd,mO arr i,mO arr (k-1),mO arr k];by_cases a:k=i-d;·rw [ae a,ae a]
 ·rw [aa a,aa a]
  by_cases b:i-d<k∧k≤i;·rw [ae b,ae b]
  ·rw [aa b,aa b]
variable {lo:Nat}
theorem V_{hi:Nat}(h:i<arr.size)(hd:d≤i)(h1:lo≤i-d)(h2:i<hi):Rl arr (bubble arr i d) lo hi:=⟨bubble_perm ..,fun k hk=>by rw [getElem?_bubble h d hd,aa (by lia),aa (by lia)]⟩
theorem Wa(h:kr prog w A s κ key Ok)(ok:f9 Ok arr){n m:Nat}(hz:lo+n≤arr.size)(m1:1≤m)(mn:m≤n)(sg:dH key arr lo (lo+m)){Q:Bool→SortSt→Prop}
  (k:∀bb,Rl arr bb lo (lo+n)→dH key bb lo (lo+n)→Q true (bH κ bb pend g)):wpS (model prog w) A E s (binarySort' lo n m) Q (bH κ arr pend g):=by
 rw [binarySort'_eq];have em:max m 1=m:=by lia
 rw [em]
 refine aw (hG (gO (I:=fun x c aB=>∃aQ:Array Keyed,aB=bH κ aQ pend g∧c=(none,())∧Rl arr aQ lo (lo+n)∧dH key aQ lo (lo+x)∧m≤x∧x≤n)
  (Q:=fun c aB=>∃aQ:Array Keyed,aB=bH κ aQ pend g∧c=(none,())∧Rl arr aQ lo (lo+n)∧dH key aQ lo (lo+n)) ?_ ?_ ⟨arr,rfl,rfl,Rl.refl ..,sg,aC _,mn⟩) ?_)
 ·rintro x c aB _ hx ⟨aQ,rfl,rfl,rl,sg,x1,x2⟩
  have lC:=rl.ok ok;have z2:=rl.size;dsimp only
  refine aw (hG (gO (I:=fun y c aB=>∃l r:Nat,aB=bH κ aQ pend g∧c=(none,l,r)∧l≤r∧r≤x∧r-l+y≤x∧(∀i,i<l→vA key aQ (lo+i)≤vA key aQ (lo+x))∧(∀i,r≤i→i<x→vA key aQ (lo+x)≤vA key aQ (lo+i)))
   (Q:=fun c aB=>∃l:Nat,aB=bH κ aQ pend g∧c=(none,l,l)∧l≤x∧(∀i,i<l→vA key aQ (lo+i)≤vA key aQ (lo+x))∧(∀i,l≤i→i<x→vA key aQ (lo+x)≤vA key aQ (lo+i))) ?_ ?_ ⟨0,x,rfl,rfl,by lia,aC _,show x-0+0≤x by lia,fun i hi=>absurd hi (oT _),fun i h1 h2=>by lia⟩) ?_)
  ·rintro y c aB _ hy ⟨l,r,rfl,rfl,g1,g2,g3,g4,g5⟩
   dsimp only;by_cases z:l≥r
   ·rw [ae z]
    obtain rfl:l=r:=by lia
    exact av ⟨l,rfl,rfl,g2,g4,g5⟩
   ·rw [aa z]
    refine aw (mQ h lC (by lia) (by lia) ?_)
    dsimp only;by_cases w:vA key aQ (lo+x)<vA key aQ (lo+(l+r) / 2)
    ·rw [bA w,ae rfl]
     exact av ⟨l,_,rfl,rfl,by lia,by lia,by lia,g4,fun i h1 h2=>dY (dX w) (sg _ _ (by lia) (by lia) (by lia))⟩
    ·rw [bO w,aa (by simp)]
     exact av ⟨_,r,rfl,rfl,by lia,g2,by lia,fun i h1=>dY (sg _ _ (by lia) (by lia) (by lia)) (Int.not_lt.mp w),g5⟩
  ·rintro c aB ⟨l,r,rfl,rfl,g1,g2,g3,g4,g5⟩
   have:max 0 x=x:=by lia
   obtain rfl:l=r:=by lia
   exact ⟨l,rfl,rfl,g2,g4,g5⟩
  ·rintro c aB ⟨l,rfl,rfl,g2,g4,g5⟩
   dsimp only;refine aw (V9 (av ?_));have ed:lo+x-(lo+l)=x-l:=by lia
   rw [ed];refine ⟨_,rfl,rfl,rl.trans (V_ (by lia) (by lia) (by lia) (by lia)),fun i j h1 h2 h3=>?_,by lia,by lia⟩
   have e0:lo+x-(x-l)=lo+l:=by lia
   rw [M1 (by lia) (by lia),M1 (by lia) (by lia),e0]
   have f4:∀i,lo≤i→i<lo+l→vA key aQ i≤vA key aQ (lo+x):=fun i a b=>by have:=g4 (i-lo) (by lia);rwa [show lo+(i-lo)=i by lia] at this
   have f5:∀i,lo+l≤i→i<lo+x→vA key aQ (lo+x)≤vA key aQ i:=fun i a b=>by have:=g5 (i-lo) (by lia) (by lia);rwa [show lo+(i-lo)=i by lia] at this
   by_cases a1:i=lo+l
   ·rw [ae a1]
    by_cases b1:j=lo+l;·rw [ae b1];exact l7 _
    ·rw [aa b1,ae (by lia)]
     exact f5 _ (by lia) (by lia)
   ·rw [aa a1]
    by_cases a2:lo+l<i∧i≤lo+x
    ·rw [ae a2,aa (by lia),ae (by lia)]
     exact sg _ _ (by lia) (by lia) (by lia)
    ·rw [aa a2]
     by_cases b1:j=lo+l
     ·rw [ae b1]
      exact f4 i h1 (by lia)
     ·rw [aa b1]
      by_cases b2:lo+l<j∧j≤lo+x
      ·rw [ae b2]
       exact dY (f4 i h1 (by lia)) (f5 _ (by lia) (by lia))
      ·rw [aa b2]
       exact sg _ _ (by lia) (by lia) (by lia)
 ·rintro c aB ⟨aQ,rfl,rfl,rl,sg,x1,x2⟩
  have:max m n=n:=by lia
  rw [this] at sg;exact ⟨aQ,rfl,rfl,rl,sg⟩
 ·rintro c aB ⟨aQ,rfl,rfl,rl,sg⟩
  exact av (k aQ rl sg)
end
theorem Wc(i:Nat):mergeAt' i=(do
 let s ←get
 let (some (sa,na,power),some (sb,nb,_)):=((pendingOf s)[i]?,(pendingOf s)[i+1]?) | unsupported "internal:list.sort.pending"
 set (setPending s (((pendingOf s).setIfInBounds i (sa,na+nb,power)).eraseIdxIfInBounds (i+1)))
 let some k ←rj false (←elem' (arrOf s) sb) (arrOf s) sa na 0 | return false
 let (sa,na):=(sa+k,na-k)
 if na == 0 then return true
 let some nb ←rj true (←elem' (arrOf s) (sa+na-1)) (arrOf s) sb nb (nb-1) | return false
 if nb == 0 then return true
 let x:=(arrOf s).extract sa sb
 let y:=(arrOf s).extract sb (sb+nb)
 let merged ←if na≤nb then GW x y else GX x y
 modify fun s=>setArr s (merged.toList.zipIdx.foldl (fun a (p,j)=>a.setIfInBounds (sa+j) p) (arrOf s))
 return (failedOf (←get)).isNone):=rfl
def putL(m:List Keyed)(o:Nat)(arr:Array Keyed)(n:Nat):Array Keyed:=(m.zipIdx n).foldl (fun a (p,j)=>a.setIfInBounds (o+j) p) arr
theorem M3(m:List Keyed)(o:Nat):∀(arr:Array Keyed) (n k:Nat),o+n+m.length≤arr.size→(putL m o arr n)[k]?=if o+n≤k∧k<o+n+m.length then m[k-(o+n)]? else arr[k]?:=by
 induction m with
 | nil=>
  intro arr n k _;rw [aa (by simp)]
  rfl
 | cons x m ih=>
  intro arr n k hz;rw [d8] at hz ⊢;show (putL m o (arr.setIfInBounds (o+n) x) (n+1))[k]?=_;rw [ih _ _ _ (by simp;lia)]
  by_cases a:o+(n+1)≤k∧k<o+(n+1)+m.length
  ·rw [ae a,ae (by lia),show k-(o+n)=(k-(o+(n+1)))+1 by lia]
   rfl
  ·rw [aa a]
   by_cases b:k=o+n
   ·subst b
    rw [ae (by lia),vI]
    simp [show o+n<arr.size by lia]
   ·rw [aa (by lia)]
    rw [Array.getElem?_setIfInBounds_ne (by lia)]
theorem Wd{o:Nat}{arr:Array Keyed}(hz:o+m.length≤arr.size):(putL m o arr 0).toList=arr.toList.take o++m++arr.toList.drop (o+m.length):=by
 refine ze fun k=>?_;have e:(putL m o arr 0).toList[k]?=(putL m o arr 0)[k]?:=by simp
 rw [e,M3 m o arr 0 k (by lia),zh]
 by_cases a:k<o
 ·rw [aa (by lia),g_,iC (by simp;lia),List.getElem?_take_of_lt a]
  simp
 ·by_cases b:k<o+m.length
  ·rw [ae (by lia),g_,iz (by simp;lia),iC (by simp;lia)]
   congr 1
   simp;lia
  ·rw [aa (by lia),iz (by simp;lia),List.getElem?_drop]
   have:o+m.length+(k-(arr.toList.take o++m).length)=k:=by simp;lia
   rw [this];simp
section
variable {prog:Program} {w:World} {A:Around} {E:aO} {s:Shared} {κ:SortKind} {key:Keyed→Int} {Ok:Keyed→Prop} {arr:Array Keyed} {pend:Array (Nat×Nat×Nat)} {g:Nat}
variable {lo hi:Nat}
theorem M4(h:dH key arr lo hi)(hz:hi≤arr.size):bQ key (arr.extract lo hi).toList:=by
 unfold bQ;rw [qy];intro i j ba hj AA;have h1:i<hi-lo∧j<hi-lo:=by simp at ba hj;lia
 have:=h (lo+i) (lo+j) (by lia) (by lia) (by lia)
 unfold vA at this;simpa [Array.getD,show lo+i<arr.size by lia,show lo+j<arr.size by lia] using this
theorem G4(hz:hi≤arr.size)(ba:lo+i<hi):(arr.extract lo hi).getD i nn=arr.getD (lo+i) nn:=by simp [Array.getD,show lo+i<arr.size by lia,show i<min hi arr.size-lo by lia]
theorem M5(ok:f9 Ok arr)(hz:hi≤arr.size):f9 Ok (arr.extract lo hi):=fun i ba=>by
 have:lo+i<hi:=by simp at ba;lia
 rw [G4 hz this];exact ok _ (by lia)
theorem ext_mem(hz:hi≤arr.size){x:Keyed}(hx:x∈(arr.extract lo hi).toList):∃j,lo≤j∧j<hi∧x=arr.getD j nn:=pO hz hx
theorem We{σ:Type}{st aB:σ}{Q:PUnit→σ→Prop}{M:Model}(q:Q ⟨⟩ aB):wpS M A E s (set aB:StateT σ Sem PUnit) Q st:=by unfold wpS;rw [StateT.run_set];exact a8 ⟨rfl,q⟩
variable {sa na nb:Nat}
theorem Wf{sb bS cW:Nat}{m:Array Keyed}(hz:sb+nb≤arr.size)(h0:sa+na=sb)(hk:bS≤na)(hb:cW≤nb)(pm:m.toList.Perm ((arr.extract (sa+bS) sb).toList++(arr.extract sb (sb+cW)).toList))(sm:bQ key m.toList)
  (s1:dH key arr sa sb) (s2:dH key arr sb (sb+nb)) (AH:bS<na) (M6:1≤nb)
  (c1:∀i,i<bS→vA key arr (sa+i)≤vA key arr sb) (c2:∀i,cW≤i→i<nb→vA key arr (sb-1)≤vA key arr (sb+i)) :
  Rl arr (putL m.toList (sa+bS) arr 0) sa (sb+nb)∧dH key (putL m.toList (sa+bS) arr 0) sa (sb+nb):=by
 have lm:m.toList.length=(na-bS)+cW:=by rw [pm.length_eq,dO,lh,lh];simp;lia
 have hsz:sa+bS+m.toList.length≤arr.size:=by lia
 have at':=M3 m.toList (sa+bS) arr 0;have rl:Rl arr (putL m.toList (sa+bS) arr 0) sa (sb+nb):=by
  refine ⟨qA.mpr ?_,fun k dG=>?_⟩
  ·rw [Wd hsz]
   have e:arr.toList=arr.toList.take (sa+bS)++((arr.extract (sa+bS) sb).toList++(arr.extract sb (sb+cW)).toList)++arr.toList.drop (sa+bS+m.toList.length):=by
    rw [lh,lh,show sa+bS+m.toList.length=sb+cW by lia,show sb+cW-sb=cW by lia]
    have t1:arr.toList.drop (sa+bS)=(arr.toList.drop (sa+bS)).take (sb-(sa+bS))++arr.toList.drop sb:=by
     have:=(qw (sb-(sa+bS)) (arr.toList.drop (sa+bS))).symm;rw [List.drop_drop,show sa+bS+(sb-(sa+bS))=sb by lia] at this
     exact this
    have t2:arr.toList.drop sb=(arr.toList.drop sb).take cW++arr.toList.drop (sb+cW):=by have:=(qw cW (arr.toList.drop sb)).symm;rw [List.drop_drop] at this;exact this
    have t0:=(qw (sa+bS) arr.toList).symm;rw [t1,t2] at t0;rw [g_,g_];exact t0
   refine List.Perm.trans ?_ (List.Perm.of_eq e.symm);exact List.Perm.append_right _ (FP _ pm)
  ·rw [at' k (by lia),aa (by lia)]
 have vo:∀k,k<sa+bS∨sb+cW≤k→vA key (putL m.toList (sa+bS) arr 0) k=vA key arr k:=fun k dG=>by unfold vA;rw [mO,at' k (by lia),aa (by lia),mO]
 have vm:∀k,sa+bS≤k→k<sb+cW→∃hj:k-(sa+bS)<m.toList.length,vA key (putL m.toList (sa+bS) arr 0) k=key (m.toList[k-(sa+bS)]'hj):=fun k h1 h2=>by
  have hj:k-(sa+bS)<m.toList.length:=by lia
  refine ⟨hj,?_⟩;unfold vA;rw [mO,at' k (by lia),ae (by lia),zh,bP hj]
  rfl
 have vq:∀k,sa+bS≤k→k<sb+cW→∃q,sa+bS≤q∧q<sb+cW∧vA key (putL m.toList (sa+bS) arr 0) k=vA key arr q:=fun k h1 h2=>by
  obtain ⟨hj,e⟩:=vm k h1 h2;have mm:=pm.mem_iff.mp (cB hj);rcases dW.mp mm with mm | mm
  ·obtain ⟨q,q1,q2,eq⟩:=ext_mem (by lia) mm
   exact ⟨q,q1,by lia,by rw [e,eq];rfl⟩
  ·obtain ⟨q,q1,q2,eq⟩:=ext_mem (by lia) mm
   exact ⟨q,by lia,q2,by rw [e,eq];rfl⟩
 have d1:∀i,sa≤i→i<sa+bS→vA key arr i≤vA key arr sb:=fun i a b=>by
  have:=c1 (i-sa) (by lia)
  rwa [show sa+(i-sa)=i by lia] at this
 have d2:∀j,sb+cW≤j→j<sb+nb→vA key arr (sb-1)≤vA key arr j:=fun j a b=>by
  have:=c2 (j-sb) (by lia) (by lia)
  rwa [show sb+(j-sb)=j by lia] at this
 refine ⟨rl,fun i j h1 h2 h3=>?_⟩;by_cases i1:i<sa+bS
 ·rw [vo i (.inl i1)]
  by_cases j1:j<sa+bS
  ·rw [vo j (.inl j1)]
   exact s1 i j h1 h2 (by lia)
  ·by_cases j2:j<sb+cW
   ·obtain ⟨q,q1,q2,e⟩:=vq j (by lia) j2
    rw [e];by_cases q3:q<sb;·exact s1 i q h1 (by lia) q3
    ·exact dY (d1 i h1 i1) (s2 sb q (aC _) (by lia) (by lia))
   ·rw [vo j (.inr (by lia))]
    exact dY (d1 i h1 i1) (s2 sb j (aC _) (by lia) h3)
 ·by_cases i2:i<sb+cW
  ·by_cases j2:j<sb+cW
   ·obtain ⟨x1,e1⟩:=vm i (by lia) i2
    obtain ⟨x2,e2⟩:=vm j (by lia) j2
    rw [e1,e2];by_cases z:i=j;·subst z;exact l7 _
    ·exact qy.mp sm _ _ x1 x2 (by lia)
   ·obtain ⟨q,q1,q2,e⟩:=vq i (by lia) i2
    rw [e,vo j (.inr (by lia))]
    by_cases q3:q<sb;·exact dY (s1 q (sb-1) (by lia) (by lia) (by lia)) (d2 j (by lia) h3)
    ·exact s2 q j (by lia) (by lia) h3
  ·rw [vo i (.inr (by lia)),vo j (.inr (by lia))]
   exact s2 i j (by lia) h2 h3
theorem Wg(h:kr prog w A s κ key Ok)(ok:f9 Ok arr){pw kB:Nat}(e1:pend[i]?=some (sa,na,pw))(e2:pend[i+1]?=some (sa+na,nb,kB))(AH:1≤na)(M6:1≤nb)(hz:sa+na+nb≤arr.size)
  (s1:dH key arr sa (sa+na)) (s2:dH key arr (sa+na) (sa+na+nb)) {Q:Bool→SortSt→Prop}
  (k:∀bb g',Rl arr bb sa (sa+na+nb)→dH key bb sa (sa+na+nb)→Q true (bH κ bb ((pend.setIfInBounds i (sa,na+nb,pw)).eraseIdxIfInBounds (i+1)) g')):wpS (model prog w) A E s (mergeAt' i) Q (bH κ arr pend g):=by
 rw [Wc];refine aw (j8 ?_);have tG:(pendingOf (bH κ arr pend g))[i]?=some (sa,na,pw):=e1;have AI:(pendingOf (bH κ arr pend g))[i+1]?=some (sa+na,nb,kB):=e2;rw [tG,AI];dsimp only;refine aw (We ?_);refine aw (bY (by show sa+na<arr.size;lia) ?_)
 refine aw (jO (f:=fun j=>bB false (vA key arr (sa+na)) (vA key arr (sa+j))) (fun j hj Q q=>jN (κ:=κ) h (by show sa+j<arr.size;lia) ok (ok _ (by lia)) rfl q) (by lia) ?_ fun t t1 t2 t3=>?_)
 ·intro i j h1 h2 h3
  have:vA key arr (sa+i)≤vA key arr (sa+na):=dY (s1 _ _ (by lia) (by lia) (by lia)) (om h3)
  show (!decide (vA key arr (sa+na)<vA key arr (sa+i)))=true;simpa using this
 dsimp only;by_cases z1:(na-t == 0)=true
 ·rw [ae z1]
  have tz:t=na:=by have:=eq_of_beq z1;lia
  subst tz;refine av (k arr g (Rl.refl ..) fun i j h1 h2 h3=>?_);by_cases i1:i<sa+t
  ·by_cases j1:j<sa+t
   ·exact s1 i j h1 h2 j1
   ·have:=om (t2 (i-sa) (by lia))
    rw [show sa+(i-sa)=i by lia] at this
    exact dY this (s2 _ _ (aC _) (by lia) (by lia))
  ·exact s2 i j (by lia) h2 (by lia)
 rw [aa z1];have tn:t<na:=by
  have:na-t≠0:=fun e=>z1 (by simp [e])
  lia
 refine aw (bY (by show sa+t+(na-t)-1<arr.size;lia) ?_)
 have el:sa+t+(na-t)-1=sa+na-1:=by lia
 rw [el];refine aw (jO (f:=fun j=>bB true (vA key arr (sa+na-1)) (vA key arr (sa+na+j))) (fun j hj Q q=>jN (κ:=κ) h (by show sa+na+j<arr.size;lia) ok (ok _ (by lia)) rfl q) (by lia) ?_ fun u u1 u2 u3=>?_)
 ·intro i j h1 h2 h3
  exact bA (Int.lt_of_le_of_lt (s2 _ _ (by lia) (by lia) (by lia)) (jd h3))
 dsimp only;have M7:=rm (t3 (na-1) (by lia) (by lia))
 rw [show sa+(na-1)=sa+na-1 by lia] at M7
 by_cases z2:(u == 0)=true
 ·exfalso
  have:=jP (u3 0 (by have:=eq_of_beq z2;lia) (by lia))
  rw [zh] at this;lia
 rw [aa z2];have un:1≤u:=by
  have:u≠0:=fun e=>z2 (by simp [e])
  lia
 have ox:=M5 ok (lo:=sa+t) (hi:=sa+na) (by lia)
 have oy:=M5 ok (lo:=sa+na) (hi:=sa+na+u) (by lia)
 have sx:bQ key (arr.extract (sa+t) (sa+na)).toList:=M4 (fun i j h1 h2 h3=>s1 i j (by lia) h2 h3) (by lia)
 have sy:bQ key (arr.extract (sa+na) (sa+na+u)).toList:=M4 (fun i j h1 h2 h3=>s2 i j h1 h2 (by lia)) (by lia)
 have zx:(arr.extract (sa+t) (sa+na)).size=na-t:=by simp;lia
 have zy:(arr.extract (sa+na) (sa+na+u)).size=u:=by simp;lia
 have h0:∀x∈(arr.extract (sa+t) (sa+na)).toList,key ((arr.extract (sa+na) (sa+na+u)).getD 0 nn)≤key x:=fun x hx=>by
  obtain ⟨j,j1,j2,rfl⟩:=ext_mem (by lia) hx
  rw [G4 (by lia) (by lia),zh]
  have:=rm (t3 (j-sa) (by lia) (by lia))
  rw [show sa+(j-sa)=j by lia] at this
  exact dX this
 have hl:∀y∈(arr.extract (sa+na) (sa+na+u)).toList,key y≤key ((arr.extract (sa+t) (sa+na)).getD ((arr.extract (sa+t) (sa+na)).size-1) nn):=fun y hy=>by
  obtain ⟨j,j1,j2,rfl⟩:=ext_mem (by lia) hy
  rw [zx,G4 (by lia) (by lia),show sa+t+(na-t-1)=sa+na-1 by lia]
  have:=jd (u2 (j-(sa+na)) (by lia))
  rw [show sa+na+(j-(sa+na))=j by lia] at this
  exact dX this
 have fin:∀(m:Array Keyed) (g':Nat),m.toList.Perm ((arr.extract (sa+t) (sa+na)).toList++(arr.extract (sa+na) (sa+na+u)).toList)→bQ key m.toList→Q true (bH κ (putL m.toList (sa+t) arr 0) ((pend.setIfInBounds i (sa,na+nb,pw)).eraseIdxIfInBounds (i+1)) g'):=fun m g' pm sm=>by obtain ⟨rl,sg⟩:=Wf (sb:=sa+na) hz rfl (nE tn) u1 pm sm s1 s2 tn M6 (fun i hi=>om (t2 i hi)) (fun i h1 h2=>jP (u3 i h1 h2));exact k _ g' rl sg
 refine fP (fun _=>?_) (fun _=>?_)
 ·refine aw (V2 (κ:=κ) h ox oy sx sy (by lia) (by lia) h0 hl rfl fun m g' pm sm=>?_)
  exact aw (l8 (aw (j8 (av (fin m g' pm sm)))))
 ·refine aw (V6 (κ:=κ) h ox oy sx sy (by lia) (by lia) h0 hl rfl fun m g' pm sm=>?_)
  exact aw (l8 (aw (j8 (av (fin m g' pm sm)))))
end
def dC(key:Keyed→Int)(arr:Array Keyed):List (Nat×Nat×Nat)→Nat→Nat→Prop
 | [],lo,hi=>lo=hi
 | p::r,lo,hi=>p.1=lo∧1≤p.2.1∧dH key arr lo (lo+p.2.1)∧dC key arr r (lo+p.2.1) hi
section
variable {key:Keyed→Int} {arr bb:Array Keyed}
theorem dC.le:∀{l:List (Nat×Nat×Nat)} {lo hi:Nat},dC key arr l lo hi→lo+l.length≤hi
 | [],lo,hi,h=>by have:lo=hi:=h;simp;lia
 | p::r,lo,hi,h=>by have:=dC.le h.2.2.2;have:=h.2.1;simp only [d8];lia
variable {hi:Nat}
theorem dH.cY{lo a b:Nat}(h:dH key arr lo hi)(rl:Rl arr bb a b)(d:hi≤a∨b≤lo):dH key bb lo hi:=fun i j h1 h2 h3=>by
 rw [rl.v (by lia),rl.v (by lia)]
 exact h i j h1 h2 h3
theorem dC.cY:∀{l:List (Nat×Nat×Nat)} {lo hi a b:Nat},dC key arr l lo hi→Rl arr bb a b→hi≤a∨b≤lo→dC key bb l lo hi
 | [],lo,hi,a,b,h,_,_=>h
 | p::r,lo,hi,a,b,h,rl,d=>by have:=h.2.2.2.le;refine ⟨h.1,h.2.1,h.2.2.1.cY rl (by lia),h.2.2.2.cY rl (by lia)⟩
theorem dC.snoc:∀{l:List (Nat×Nat×Nat)} {lo hi n pw:Nat},dC key arr l lo hi→1≤n→dH key arr hi (hi+n)→dC key arr (l++[(hi,n,pw)]) lo (hi+n)
 | [],lo,hi,n,pw,h,n1,s=>by obtain rfl:lo=hi:=h;exact ⟨rfl,n1,s,rfl⟩
 | p::r,lo,hi,n,pw,h,n1,s=>⟨h.1,h.2.1,h.2.2.1,h.2.2.2.snoc n1 s⟩
theorem dC.two:∀{l:List (Nat×Nat×Nat)} {lo hi i:Nat},dC key arr l lo hi→i+1<l.length→∃sa na pw nb kB,l[i]?=some (sa,na,pw)∧l[i+1]?=some (sa+na,nb,kB)∧1≤na∧1≤nb∧lo≤sa∧sa+na+nb≤hi∧dH key arr sa (sa+na)∧dH key arr (sa+na) (sa+na+nb) ∧
  ∀bb,Rl arr bb sa (sa+na+nb)→dH key bb sa (sa+na+nb)→dC key bb ((l.set i (sa,na+nb,pw)).eraseIdx (i+1)) lo hi
 | [],lo,hi,i,h,ba=>by simp at ba
 | [p],lo,hi,i,h,ba=>by simp at ba
 | p::q::r,lo,hi,0,h,_=>by
  obtain ⟨p1,p2,pw⟩:=p;obtain ⟨q1,q2,kB⟩:=q;obtain ⟨e1,n1,s1,e2,n2,s2,c⟩:=h;dsimp only at e1 n1 s1 e2 n2 s2 c;subst e1;subst e2;have:=c.le;refine ⟨p1,p2,pw,q2,kB,rfl,rfl,n1,n2,aC _,by lia,s1,s2,fun bb rl sg=>?_⟩
  show dC key bb ((p1,p2+q2,pw)::r) p1 hi;refine ⟨rfl,by show 1≤p2+q2;lia,by show dH key bb p1 (p1+(p2+q2));rw [←Nat.add_assoc];exact sg,?_⟩
  show dC key bb r (p1+(p2+q2)) hi;rw [←Nat.add_assoc];exact c.cY rl (.inr (aC _))
 | p::q::r,lo,hi,i+1,h,ba=>by
  obtain ⟨sa,na,pw,nb,kB,e1,e2,n1,n2,l1,l2,s1,s2,k⟩:=h.2.2.2.two (i:=i) (by simpa using ba)
  refine ⟨sa,na,pw,nb,kB,e1,e2,n1,n2,by lia,l2,s1,s2,fun bb rl sg=>?_⟩
  exact ⟨h.1,h.2.1,h.2.2.1.cY rl (.inl l1),k bb rl sg⟩
theorem dC.last:∀{l:List (Nat×Nat×Nat)} {lo hi pw:Nat},dC key arr l lo hi→dC key arr (l.modify (l.length-1) fun x=>(x.1,x.2.1,pw)) lo hi
 | [],lo,hi,pw,h=>h
 | [p],lo,hi,pw,h=>h
 | p::q::r,lo,hi,pw,h=>⟨h.1,h.2.1,h.2.2.1,h.2.2.2.last⟩
theorem dC.one{l:List (Nat×Nat×Nat)}(h:dC key arr l 0 hi)(hl:l.length≤1):dH key arr 0 hi:=by
 match l,h,hl with
 | [],h,_=>have:0=hi:=h;exact fun i j h1 h2 h3=>by lia
 | [p],h,_=>have:=h.2.2.1;have e:0+p.2.1=hi:=h.2.2.2;rw [←e];exact this
 | p::q::r,_,hl=>simp at hl
end
section
variable {prog:Program} {w:World} {A:Around} {E:aO} {s:Shared} {κ:SortKind} {key:Keyed→Int} {Ok:Keyed→Prop} {arr:Array Keyed} {pend:Array (Nat×Nat×Nat)} {g:Nat}
theorem G5(h:kr prog w A s κ key Ok)(ok:f9 Ok arr){hi:Nat}(c:dC key arr pend.toList 0 hi)(hz:hi≤arr.size)(ba:i+1<pend.size){Q:Bool→SortSt→Prop}
  (k:∀bb wV g',Rl arr bb 0 hi→dC key bb wV.toList 0 hi→wV.size+1=pend.size→Q true (bH κ bb wV g')):wpS (model prog w) A E s (mergeAt' i) Q (bH κ arr pend g):=by
 obtain ⟨sa,na,pw,nb,kB,e1,e2,n1,n2,l1,l2,s1,s2,kk⟩:=c.two (i:=i) (by simpa using ba)
 refine Wg h ok (by simpa using e1) (by simpa using e2) n1 n2 (by lia) s1 s2 fun bb g' rl sg=>?_
 refine k _ _ _ (rl.wide (cf _) l2) ?_ ?_
 ·have:=kk bb rl sg
  simpa using this
 ·rw [←fh,Array.toList_eraseIdxIfInBounds,List.length_eraseIdx,ae (by simpa using ba)]
  simp;lia
theorem M8(h:kr prog w A s κ key Ok)(ok:f9 Ok arr){Q:Unit→SortSt→Prop}
  (k:∀bb aB,bb.Perm arr→dH key bb 0 arr.size→arrOf aB=bb→failedOf aB=none→Q () aB):wpS (model prog w) A E s sortRuns' Q (bH κ arr #[] g):=by
 rw [sortRuns'_eq];refine aw (j8 ?_);dsimp only;have es:(arrOf (bH κ arr #[] g)).size=arr.size:=rfl;rw [es]
 refine aw (hG (gO (I:=fun x c aB=>∃(aQ:Array Keyed) (fF:Array (Nat×Nat×Nat)) (g2 lo:Nat),aB=bH κ aQ fF g2∧c=(none,lo)∧aQ.Perm arr∧dC key aQ fF.toList 0 lo∧lo≤arr.size∧x≤lo)
  (Q:=fun c aB=>∃(aQ:Array Keyed) (fF:Array (Nat×Nat×Nat)) (g2:Nat),aB=bH κ aQ fF g2∧c=(none,arr.size)∧aQ.Perm arr∧dC key aQ fF.toList 0 arr.size) ?_ ?_ ⟨arr,#[],g,0,rfl,rfl,Array.Perm.refl _,rfl,cf _,aC _⟩) ?_)
 ·rintro x c aB _ hx ⟨aQ,fF,g2,lo,rfl,rfl,rq,tP,l1,l2⟩
  have lC:=wQ ok rq;have z2:=rq.size_eq;dsimp only;by_cases z:lo≥arr.size
  ·rw [ae z]
   obtain rfl:lo=arr.size:=by lia
   exact av ⟨aQ,fF,g2,rfl,rfl,rq,tP⟩
  rw [aa z];refine aw (V7 h lC (by lia) (by lia) fun n dy n1 nn mR sg=>?_)
  have fG:=mR.pm.trans rq;have M9:=wQ ok fG;have z3:=fG.size_eq;have jQ:=tP.cY mR (.inl (aC _));dsimp only;by_cases y:n<minRun' arr.size arr.size 0
  ·rw [ae y]
   refine aw (wpS_lift (nJ ⟨rfl,?_⟩));refine aw (Wa h M9 (n:=min (arr.size-lo) (minRun' arr.size arr.size 0)) (by lia) n1 (by lia) sg fun bu cE iq=>?_)
   rw [aa (by simp)]
   have iu:=jQ.cY cE (.inl (aC _));have G6:=cE.pm.trans fG;clear jQ fG M9 z3 sg mR cE;have f1:1≤min (arr.size-lo) (minRun' arr.size arr.size 0):=by lia
   have f2:lo+min (arr.size-lo) (minRun' arr.size arr.size 0)≤arr.size:=by lia
   generalize min (arr.size-lo) (minRun' arr.size arr.size 0)=fo at iq f1 f2 ⊢
   revert iu G6 iq
   generalize bu=dy;intro jQ fG iq;refine aw (j8 ?_);have eb:(pendingOf (bH κ dy fF g2)).back?=fF.back?:=rfl;rw [eb];cases fF.back? with
   | none=>dsimp only;exact aw (l8 (av ⟨dy,fF.push (lo,fo,0),g2,lo+fo,rfl,rfl,fG,by rw [qz];exact jQ.snoc f1 iq,f2,by have:=f1;lia⟩))
   | some p=>
    obtain ⟨Wh,Dh,Wi⟩:=p;dsimp only;have z3:=fG.size_eq
    refine aw (hG (gO (I:=fun y c aB=>∃(bu:Array Keyed) (cq:Array (Nat×Nat×Nat)) (g4:Nat),aB=bH κ bu cq g4∧c=(none,())∧Rl dy bu 0 lo∧dC key bu cq.toList 0 lo)
     (Q:=fun c aB=>∃(bu:Array Keyed) (cq:Array (Nat×Nat×Nat)) (g4:Nat),aB=bH κ bu cq g4∧c=(none,())∧Rl dy bu 0 lo∧dC key bu cq.toList 0 lo) ?_ (fun c aB hh=>hh) ⟨dy,fF,g2,rfl,rfl,Rl.refl ..,jQ⟩) ?_)
    ·rintro y c aB _ hy ⟨bu,cq,g4,rfl,rfl,cE,iu⟩
     have z4:=cE.size;refine aw (j8 ?_);have hx:∀o,o=(if (pendingOf (bH κ bu cq g4)).size>1 then (pendingOf (bH κ bu cq g4))[(pendingOf (bH κ bu cq g4)).size-2]? else none)→o.isSome=true→cq.size>1:=fun o ho hs=>by
      by_cases z:cq.size>1;·exact z
      ·rw [aa z] at ho
       rw [ho] at hs;cases hs
     generalize eo:(if (pendingOf (bH κ bu cq g4)).size>1 then (pendingOf (bH κ bu cq g4))[(pendingOf (bH κ bu cq g4)).size-2]? else none)=o
     cases o with
     | none=>exact av ⟨bu,cq,g4,rfl,rfl,cE,iu⟩
     | some p=>
      have gt:=hx _ eo.symm rfl;obtain ⟨q1,q2,Wj⟩:=p;dsimp only;refine fP (fun _=>av ⟨bu,cq,g4,rfl,rfl,cE,iu⟩) (fun _=>?_);refine aw (G5 h (wQ ok (cE.pm.trans fG)) iu (by lia) (show cq.size-2+1<cq.size by lia) fun G7 G8 g5 G9 G_ _=>?_)
      rw [aa (by simp)]
      exact av ⟨G7,G8,g5,rfl,rfl,cE.trans G9,G_⟩
    ·rintro c aB ⟨bu,cq,g4,rfl,rfl,cE,iu⟩
     dsimp only;refine aw (l8 (aw (l8 (av ⟨bu,_,g4,lo+fo,rfl,rfl,cE.pm.trans fG,?_,f2,by have:=f1;lia⟩))))
     rw [qz];refine dC.snoc ?_ f1 (dH.cY iq cE (.inr (aC _)));rw [Array.toList_modify];exact iu.last
  ·rw [aa y]
   have f2:lo+n≤arr.size:=by lia
   refine aw (j8 ?_);have eb:(pendingOf (bH κ dy fF g2)).back?=fF.back?:=rfl;rw [eb];cases fF.back? with
   | none=>dsimp only;exact aw (l8 (av ⟨dy,fF.push (lo,n,0),g2,lo+n,rfl,rfl,fG,by rw [qz];exact jQ.snoc n1 sg,f2,by have:=n1;lia⟩))
   | some p=>
    obtain ⟨Wh,Dh,Wi⟩:=p;dsimp only;have z3:=fG.size_eq
    refine aw (hG (gO (I:=fun y c aB=>∃(bu:Array Keyed) (cq:Array (Nat×Nat×Nat)) (g4:Nat),aB=bH κ bu cq g4∧c=(none,())∧Rl dy bu 0 lo∧dC key bu cq.toList 0 lo)
     (Q:=fun c aB=>∃(bu:Array Keyed) (cq:Array (Nat×Nat×Nat)) (g4:Nat),aB=bH κ bu cq g4∧c=(none,())∧Rl dy bu 0 lo∧dC key bu cq.toList 0 lo) ?_ (fun c aB hh=>hh) ⟨dy,fF,g2,rfl,rfl,Rl.refl ..,jQ⟩) ?_)
    ·rintro y c aB _ hy ⟨bu,cq,g4,rfl,rfl,cE,iu⟩
     have z4:=cE.size;refine aw (j8 ?_);have hx:∀o,o=(if (pendingOf (bH κ bu cq g4)).size>1 then (pendingOf (bH κ bu cq g4))[(pendingOf (bH κ bu cq g4)).size-2]? else none)→o.isSome=true→cq.size>1:=fun o ho hs=>by
      by_cases z:cq.size>1;·exact z
      ·rw [aa z] at ho
       rw [ho] at hs;cases hs
     generalize eo:(if (pendingOf (bH κ bu cq g4)).size>1 then (pendingOf (bH κ bu cq g4))[(pendingOf (bH κ bu cq g4)).size-2]? else none)=o
     cases o with
     | none=>exact av ⟨bu,cq,g4,rfl,rfl,cE,iu⟩
     | some p=>
      have gt:=hx _ eo.symm rfl;obtain ⟨q1,q2,Wj⟩:=p;dsimp only;refine fP (fun _=>av ⟨bu,cq,g4,rfl,rfl,cE,iu⟩) (fun _=>?_);refine aw (G5 h (wQ ok (cE.pm.trans fG)) iu (by lia) (show cq.size-2+1<cq.size by lia) fun G7 G8 g5 G9 G_ _=>?_)
      rw [aa (by simp)]
      exact av ⟨G7,G8,g5,rfl,rfl,cE.trans G9,G_⟩
    ·rintro c aB ⟨bu,cq,g4,rfl,rfl,cE,iu⟩
     dsimp only;refine aw (l8 (aw (l8 (av ⟨bu,_,g4,lo+n,rfl,rfl,cE.pm.trans fG,?_,f2,by have:=n1;lia⟩))))
     rw [qz];refine dC.snoc ?_ n1 (dH.cY sg cE (.inr (aC _)));rw [Array.toList_modify];exact iu.last
 ·rintro c aB ⟨aQ,fF,g2,lo,rfl,rfl,rq,tP,l1,l2⟩
  obtain rfl:lo=arr.size:=by lia
  exact ⟨aQ,fF,g2,rfl,rfl,rq,tP⟩
 ·rintro c aB ⟨aQ,fF,g2,rfl,rfl,rq,tP⟩
  dsimp only;have pz:=tP.le
  refine aw (hG (gO (I:=fun x c aB=>∃(dy:Array Keyed) (fH:Array (Nat×Nat×Nat)) (g3:Nat),aB=bH κ dy fH g3∧c=(none,())∧dy.Perm arr∧dC key dy fH.toList 0 arr.size∧fH.size+x≤arr.size)
   (Q:=fun c aB=>∃(dy:Array Keyed) (fH:Array (Nat×Nat×Nat)) (g3:Nat),aB=bH κ dy fH g3∧c=(none,())∧dy.Perm arr∧dC key dy fH.toList 0 arr.size∧fH.size≤1) ?_ ?_ ⟨aQ,fF,g2,rfl,rfl,rq,tP,show fF.size+0≤arr.size by simpa using pz⟩) ?_)
  ·rintro x c aB _ hx ⟨dy,fH,g3,rfl,rfl,fG,jQ,l3⟩
   have z3:=fG.size_eq;refine aw (j8 ?_);by_cases z:(pendingOf (bH κ dy fH g3)).size≤1
   ·rw [ae z]
    exact av ⟨dy,fH,g3,rfl,rfl,fG,jQ,z⟩
   ·rw [aa z]
    have z':1<fH.size:=Nat.lt_of_not_le z;have go:∀i,i+1<fH.size→wpS (model prog w) A E s (mergeAt' i) (fun b aB=>b=true∧∃(bu:Array Keyed) (cq:Array (Nat×Nat×Nat)) (g4:Nat),aB=bH κ bu cq g4∧bu.Perm arr∧dC key bu cq.toList 0 arr.size∧cq.size+(x+1)≤arr.size) (bH κ dy fH g3):=fun i hi=>by refine G5 h (wQ ok fG) jQ (by lia) hi fun bu cq g4 cE iu sz=>⟨rfl,bu,cq,g4,rfl,cE.pm.trans fG,iu,by lia⟩
    refine aw (hG (go _ ?_) ?_)
    ·show (if _ then _ else _)+1<fH.size
     have e:(pendingOf (bH κ dy fH g3)).size=fH.size:=rfl;rw [e];have:∀c:Bool,(if c=true then fH.size-2-1 else fH.size-2)+1<fH.size:=fun c=>by cases c <;> simp <;> lia
     exact this _
    ·rintro b aB ⟨rfl,bu,cq,g4,rfl,G6,iu,l4⟩
     rw [aa (by simp)]
     exact av ⟨bu,cq,g4,rfl,rfl,G6,iu,l4⟩
  ·rintro c aB ⟨dy,fH,g3,rfl,rfl,fG,jQ,l3⟩
   exact ⟨dy,fH,g3,rfl,rfl,fG,jQ,by lia⟩
  ·rintro c aB ⟨dy,fH,g3,rfl,rfl,fG,jQ,l3⟩
   exact av (k dy _ fG (jQ.one (by simpa using l3)) rfl rfl)
end
end Tm
namespace My
open PySem PySem.W PyProof.Rows Tm
section
variable {prog:Program} {w:World} {A:Around} {E:aO} {s:Shared}
def fI(h:Heap)(v:Value)(x y:Int):Prop:=∃a o t u e,v=.ref a∧h.get? a=some o∧o.cls=.type "tuple"∧o.data=.seq #[.int x t,.int y u] e
variable {x y x' y':Int}
theorem Wl{v v':Value}(h1:fI s.heap v x y)(h2:fI s.heap v' x' y'){Q:Bool→Shared→Prop}(h:Q (decide (x<x'∨x=x'∧y<y')) s):wpAny (model prog w) A (keyLt' (tuples' true) v v') Q E s:=by
 obtain ⟨a,o,t,u,e,rfl,g,_,d⟩:=h1;obtain ⟨a',o',t',u',e',rfl,g',_,d'⟩:=h2;refine kat_lt g d g' d' ?_;show KatLex prog w A true (decide (2<2)) Q [(.int x t,.int x' t'),(.int y u,.int y' u')] 0 s;refine kat_cons (wpAny_eqBool_int ?_);by_cases z:x=x'
 ·subst z
  rw [show (x == x)=true by simp]
  refine kat_yes (kat_cons (wpAny_eqBool_int ?_));by_cases z2:y=y'
  ·subst z2
   rw [show (y == y)=true by simp]
   refine kat_yes (kat_nil ?_);rw [bO (by lia)] at h
   exact h
  ·rw [show (y == y')=false by simp [z2]]
   refine kat_no ?_;show wpAny (model prog w) A (oneLt' false (.int y u) (.int y' u')) Q _ s;refine kat_one _ _ (lt_int ?_);show Q (decide (y<y')) s;rw [show decide (y<y')=decide (x<x∨x=x∧y<y') from vO.mpr (by lia)]
   exact h
 ·rw [show (x == x')=false by simp [z]]
  refine kat_no ?_;show wpAny (model prog w) A (oneLt' true (.int x t) (.int x' t')) Q _ s;refine oneLt_int ?_;rw [show decide (x<x')=decide (x<x'∨x=x'∧y<y') from vO.mpr (by lia)]
  exact h
theorem M_{h:Heap}:∀{vs:List Value},(∀v∈vs,∃x y,fI h v x y)→∃fs:List Value,KatTups h vs fs∧fs.length=vs.length∧∀f∈fs,∃n t,f=.int n t
 | [],_=>⟨[],.nil,rfl,fun f hf=>by cases hf⟩
 | v::vs,hv=>by
  obtain ⟨fs,k,l,i⟩:=M_ (vs:=vs) fun v h=>hv v (cx _ h);obtain ⟨x,y,a,o,t,u,e,rfl,g,c,d⟩:=hv v cG;refine ⟨.int x t::fs,.cons g c d rfl k,by rw [d8,d8,l],fun f hf=>?_⟩
  rcases bw.mp hf with rfl | hf;·exact ⟨x,t,rfl⟩
  ·exact i f hf
theorem perm_back{α β:Type}{f:α→β}{l m:List β}(h:l.Perm m):∀q:List α,m=q.map f→∃p:List α,p.Perm q∧l=p.map f:=by
 induction h with
 | nil=>intro q e;exact ⟨q,List.Perm.refl _,e⟩
 | cons x _ ih=>
  intro q e
  match q,e with
  | a::q,e=>obtain ⟨rfl,e'⟩:=List.cons.inj e;obtain ⟨p,hp,rfl⟩:=ih q e';exact ⟨a::p,hp.cons a,rfl⟩
 | swap x y _=>
  intro q e
  match q,e with
  | a::b::q,e=>obtain ⟨rfl,e'⟩:=List.cons.inj e;obtain ⟨rfl,rfl⟩:=List.cons.inj e';exact ⟨b::a::q,List.Perm.swap ..,rfl⟩
 | trans _ _ Wm Wn=>intro q e;obtain ⟨p,hp,e1⟩:=Wn q e;obtain ⟨p',ot,e2⟩:=Wm p e1;exact ⟨p',ot.trans hp,e2⟩
variable {h:Heap}
theorem fI.uniq{v:Value}(h1:fI h v x y)(h2:fI h v x' y'):x=x'∧y=y':=by obtain ⟨a,o,t,u,e,rfl,g,_,d⟩:=h1;obtain ⟨a',o',t',u',e',ev,g',_,d'⟩:=h2;cases ev;rw [g] at g';cases g';rw [d] at d';simp at d';exact ⟨d'.1.1.1,d'.1.2.1⟩
open Classical in
noncomputable def Hi (h:Heap) (k:Keyed):Int:=if e:∃z:Int×Int,fI h k.1 z.1 z.2 then (choose e).1*1000+(choose e).2 else 0
theorem Di{v u:Value}(p:fI h v x y):Hi h (v,u)=x*1000+y:=by have e:∃z:Int×Int,fI h (v,u).1 z.1 z.2:=⟨(x,y),p⟩;unfold Hi;rw [dif_pos e];obtain ⟨a,b⟩:=(FT e).uniq p;rw [a,b]
variable {vs:List Value}
theorem Wo{x y:Nat→Int}(h2:2≤vs.length)(hv:∀i v,vs[i]?=some v→fI s.heap v (x i) (y i)∧0≤y i∧y i<1000){Q:SortSt→Shared→Prop}
  (hQ:∀(p:Array Nat) (st:SortSt),oj vs.length p→rh (fun i=>x i*1000+y i) p vs.length→(arrOf st).map (·.2)=List.toArray (p.toList.map fun i=>vs.getD i Value.none)→failedOf st=none→Q st s) :
  wpAny (model prog w) A (sortRuns'.run (SortSt.mk' (tuples' true) (vs.toArray.zip vs.toArray) #[] 7 none)) (fun r s'=>Q r.2 s') E s:=by
 have az:(vs.toArray.zip vs.toArray).size=vs.length:=by simp
 have ag:∀i,i<vs.length→(vs.toArray.zip vs.toArray).getD i nn=(vs.getD i Value.none,vs.getD i Value.none):=fun i hi=>by simp [Array.getD,hi]
 have ga:∀i (hi:i<vs.length),fI s.heap (vs.getD i Value.none) (x i) (y i)∧0≤y i∧y i<1000:=fun i hi=>by refine hv i _ ?_;simp [hi]
 have lt:kr prog w A s (tuples' true) (Hi s.heap) (fun k=>∃a b,fI s.heap k.1 a b∧0≤b∧b<1000):=by
  rintro ⟨u,u'⟩ ⟨v,v'⟩ ⟨a,b,p1,b0,b1⟩ ⟨c,d,p2,d0,d1⟩ C hC;refine Wl p1 p2 ?_;rw [Di p1,Di p2] at hC;rw [show decide (a<c∨a=c∧b<d)=decide (a*1000+b<c*1000+d) from vO.mpr (by lia)]
  exact hC
 have ok:f9 (fun k=>∃a b,fI s.heap k.1 a b∧0≤b∧b<1000) (vs.toArray.zip vs.toArray):=fun i hi=>by rw [az] at hi;rw [ag i hi];exact ⟨_,_,ga i hi⟩
 refine cL (M8 (E:=E) (Q:=fun _ st=>Q st s) (g:=7) lt ok fun bb st pm sg ha hf=>?_) (fun r s' h'=>by obtain ⟨rfl,h'⟩:=h';exact h') fun _ _ e=>e
 have el:(vs.toArray.zip vs.toArray).toList=(List.range vs.length).map fun i=>(vs.getD i Value.none,vs.getD i Value.none):=by
  refine fT (by simp) fun i h1 h2=>?_
  have hi:i<vs.length:=by simpa using h2
  simp [hi]
 obtain ⟨p,hp,ep⟩:=perm_back (qA.mp pm) _ el;have pl:p.length=vs.length:=by rw [hp.length_eq,c_]
 have Hj:∀i∈p,i<vs.length:=fun i hi=>aU.mp (hp.mem_iff.mp hi);have hsz:bb.size=vs.length:=by rw [pm.size_eq,az]
 have gd:∀i,i<vs.length→bb.getD i nn=(vs.getD (p.toArray.getD i 0) Value.none,vs.getD (p.toArray.getD i 0) Value.none)∧p.toArray.getD i 0<vs.length:=fun i hi=>by
  have e1:bb.getD i nn=bb.toList[i]'(by simp;lia):=by simp [Array.getD,show i<bb.size by lia]
  have e2:p.toArray.getD i 0=p[i]'(by lia):=by simp [Array.getD,show i<p.length by lia]
  rw [e1,e2];refine ⟨?_,Hj _ (cB _)⟩;simp [ep]
 refine hQ p.toArray st (qA.mpr (by simpa using hp)) (fun i j h1 h3=>?_) ?_ hf
 ·have:=sg i j (cf _) h1 (by rw [az];exact h3)
  unfold vA at this;obtain ⟨e1,l1⟩:=gd i (by lia)
  obtain ⟨e2,l2⟩:=gd j h3;rw [e1,e2,Di (ga _ l1).1,Di (ga _ l2).1] at this;exact this
 ·rw [ha]
  apply Array.toList_inj.mp;rw [Array.toList_map,ep,cM];rfl
theorem Wq{Q:SortKind→Shared→Prop}(h1:1≤vs.length)(hv:∀v∈vs,∃x y,fI s.heap v x y)(h:Q (tuples' true) s):wpAny (model prog w) A (keyKind' vs.toArray) Q E s:=by
 obtain ⟨fs,k,l,i⟩:=M_ hv;refine kat_kind (T:=Value.type "int") k (by lia) (fun v hv=>?_) rfl h
 obtain ⟨n,t,rfl⟩:=i v hv;exact .now
theorem fI.mono{h':Heap}{v:Value}(k:∀b o,h.get? b=some o→h'.get? b=some o)(p:fI h v x y):fI h' v x y:=by obtain ⟨a,o,t,u,e,rfl,g,c,d⟩:=p;exact ⟨a,o,t,u,e,rfl,k _ _ g,c,d⟩
theorem Wr{a:Addr}{n:Nat}{x y:Nat→Int}{P:PySem.Fin→Shared→Prop}(ho:s.heap.get? a=some (seqObj "list" vs.toArray n))(AJ:vs.length<2000)(hv:∀i v,vs[i]?=some v→fI s.heap v (x i) (y i)∧0≤y i∧y i<1000)
  (h:∀(p:Array Nat),oj vs.length p→rh (fun i=>x i*1000+y i) p vs.length→P (.done (.ret .none)) {s with heap:=sortedHeap s.heap a vs (List.toArray (p.toList.map fun i=>vs.getD i Value.none))}) :
  wpAny (model prog w) A (Builtin.«list.sort» ⟨[.ref a],[]⟩) P E s:=by
 have sl:vs.length≤sizeLine:=by rw [iZ];lia
 have lt:=a9 ho
 obtain ⟨e1,g1⟩:∃e,(s.heap.update a (Obj.mapSeq fun _=>#[])).get? a=some (seqObj "list" #[] e):=⟨_,qB ho fun _=>#[]⟩
 have z1:(s.heap.update a (Obj.mapSeq fun _=>#[])).objs.size=s.heap.objs.size:=zi _ _ _
 have up:∀b u,b<s.heap.objs.size→(s.heap.update a (Obj.mapSeq fun _=>#[])).get? b=some u→(((s.heap.update a (Obj.mapSeq fun _=>#[])).push (seqObj "tuple" vs.toArray 0)).push (seqObj "list" #[] 0)).get? b=some u:=fun b u hb hu=>by
  rw [qC _ _ _ (bW (by rw [sF,z1];exact nG hb)),qC _ _ _ (bW (by rw [z1];exact hb))]
  exact hu
 have g3:=up a _ lt g1
 have Na:∀i v,vs[i]?=some v→fI (((s.heap.update a (Obj.mapSeq fun _=>#[])).push (seqObj "tuple" vs.toArray 0)).push (seqObj "list" #[] 0)) v (x i) (y i)∧0≤y i∧y i<1000:=fun i v hi=>by
  obtain ⟨⟨b,o,t,u,e,rfl,g,cc,d⟩,y0⟩:=hv i v hi
  have nb:b≠a:=fun q=>by
   rw [q,ho] at g
   cases g
   exact absurd (Value.type.inj cc) (by decide)
  refine ⟨⟨b,o,t,u,e,rfl,up b o (a9 g) ?_,cc,d⟩,y0⟩
  rw [vP _ _ _ _ nb]
  exact g
 rw [list_sort_plain]
 refine au (listItems_at ho rfl (au (vQ ho rfl ?_ (by rw [b9];lia) (cf _))))
 refine au (seqEpoch_at g1 rfl (au (wpAny_newTuple ?_ (by show vs.length≤_;lia))))
 refine au (vR (kM ?_) (cf _))
 show wpAny (model prog w) A _ P E {s with heap:=((s.heap.update a (Obj.mapSeq fun _=>#[])).push (seqObj "tuple" vs.toArray 0)).push (seqObj "list" #[] 0)}
 dsimp only
 have fin:∀(st:SortSt) (p:Array Nat),oj vs.length p→rh (fun i=>x i*1000+y i) p vs.length→(arrOf st).map (·.2)=List.toArray (p.toList.map fun i=>vs.getD i Value.none)→failedOf st=none→
   wpAny (model prog w) A (do
    let touched:=(←seqEpoch a) != e1
    Builtin.List.listUpdate (.ref a) fun _=>(arrOf st).map (·.2)
    if let some e:=failedOf st then rule "list.sort.comparison-raised";throw e
    if touched then rule "list.sort.modified";raiseError "ValueError" "list modified during sort"
    ret .none) P E {s with heap:=((s.heap.update a (Obj.mapSeq fun _=>#[])).push (seqObj "tuple" vs.toArray 0)).push (seqObj "list" #[] 0)}:=fun st p hp hu ha hf=>by
  refine au (seqEpoch_at g3 rfl (au (vQ g3 rfl ?_ (cf _) ?_)))
  ·rw [hf,ha]
   simp only [bne_self_eq_false,zl,oR]
   exact a8 (h p hp hu)
  ·rw [ha,b9,aD,fh,hp.size]
   lia
 by_cases z:vs.toArray.size<2
 ·rw [ae z,ae z]
  refine au (a8 ?_)
  rw [StateT.run_pure]
  refine au (a8 ?_)
  have len:vs.length<2:=by simpa using z
  refine fin _ (List.toArray (List.range vs.length)) (Array.Perm.refl _) (fun a b h1 h2=>by
   obtain rfl:a=b:=by lia
   exact l7 _) ?_ rfl
  match vs,len with
  | [],_=>
   show Array.map (·.2) ((#[]:Array Value).zip #[])=_
   simp
  | [v],_=>
   show Array.map (·.2) (#[v].zip #[v])=_
   simp
 ·rw [aa z,aa z]
  have len:2≤vs.length:=by simpa using z
  refine au (Wq (by lia) (fun v hm=>?_) ?_)
  ·obtain ⟨i,hi,rfl⟩:=nH hm
   exact ⟨_,_,(Na i _ (by simp [hi])).1⟩
  ·refine au (cL (Wo (Q:=fun st s'=>s'={s with heap:=((s.heap.update a (Obj.mapSeq fun _=>#[])).push (seqObj "tuple" vs.toArray 0)).push (seqObj "list" #[] 0)}∧∃p,oj vs.length p∧rh (fun i=>x i*1000+y i) p vs.length∧(arrOf st).map (·.2)=List.toArray (p.toList.map fun i=>vs.getD i Value.none)∧failedOf st=none) len Na fun p st a1 a2 a3 a4=>⟨rfl,p,a1,a2,a3,a4⟩) ?_ fun _ _ e=>e)
   rintro ⟨⟨⟩,st⟩ s' ⟨rfl,p,a1,a2,a3,a4⟩
   exact fin st p a1 a2 a3 a4
end
open PySem PySem.W PyProof.Rows
section
variable {prog:Program} {w:World} {A:Around} {E:aO} {s:Shared}
theorem Ws{l:Addr}{vs:List Value}{x y:Nat→Int}{Q:aO}(hl:s.heap.IsList l vs.toArray)(AJ:vs.length<2000)(hv:∀i v,vs[i]?=some v→fI s.heap v (x i) (y i)∧0≤y i∧y i<1000)
  (h:∀(p:Array Nat) (h':Heap) (c:Nat),oj vs.length p→rh (fun i=>x i*1000+y i) p vs.length→(∀b o,s.heap.get? b=some o→h'.get? b=some o)→h'.get? (s.heap.objs.size+1)=some (seqObj "list" (List.toArray (p.toList.map fun i=>vs.getD i Value.none)) c)→Q (.ref (s.heap.objs.size+1)) {s with heap:=h'}) :
  wpAny (model prog w) A (call (.builtin "sorted") [.ref l]) Q E s:=by
 have sl:vs.length≤sizeLine:=by rw [iZ];lia
 refine Calls.call_function_entry kind_sorted plain_sorted entry_sorted (args_sorted1 _) ?_;unfold Builtin.«sorted»;refine au (m:=checkCount "sorted" 1 1 _) (a8 (au (collect_list hl (au (vR ?_ sl)) sl)));have zz:((s.heap.push (seqObj "list" #[] 0)).update s.heap.objs.size (Obj.mapSeq (·++vs.toArray))).objs.size=s.heap.objs.size+1:=by rw [zi,sF]
 have kp:∀b o,s.heap.get? b=some o→(((s.heap.push (seqObj "list" #[] 0)).update s.heap.objs.size (Obj.mapSeq (·++vs.toArray))).push (seqObj "list" vs.toArray 0)).get? b=some o:=fun b o g=>by
  have lt:=a9 g;rw [qC _ _ _ (bW (by rw [zz];exact nG lt)),vP _ _ _ _ (bW lt),qC _ _ _ (bW lt)]
  exact g
 have gL:(((s.heap.push (seqObj "list" #[] 0)).update s.heap.objs.size (Obj.mapSeq (·++vs.toArray))).push (seqObj "list" vs.toArray 0)).get? (s.heap.objs.size+1)=some (seqObj "list" vs.toArray 0):=by rw [←zz];exact dE _ rfl
 show wpAny _ _ _ _ _ {s with heap:=((s.heap.push (seqObj "list" #[] 0)).update s.heap.objs.size (Obj.mapSeq (·++vs.toArray))).push (seqObj "list" vs.toArray 0)};rw [zz];generalize ((s.heap.push (seqObj "list" #[] 0)).update s.heap.objs.size (Obj.mapSeq (·++vs.toArray))).push (seqObj "list" vs.toArray 0)=h1 at kp gL;refine au (kM (sI slot_list_sort ⟨_,gL,rfl⟩ entry_list_sort (Wr (s:={s with heap:=h1}) gL AJ (fun i v hi=>⟨(hv i v hi).1.mono kp,(hv i v hi).2⟩) fun p hp hu=>⟨_,rfl,?_⟩) (args_list_sort _)));have Wt:=a9 gL;have z1:(h1.update (s.heap.objs.size+1) (Obj.mapSeq fun _=>#[])).objs.size=h1.objs.size:=zi _ _ _;obtain ⟨e1,g1⟩:∃e,(h1.update (s.heap.objs.size+1) (Obj.mapSeq fun _=>#[])).get? (s.heap.objs.size+1)=some (seqObj "list" #[] e):=⟨_,qB gL fun _=>#[]⟩;have up:∀b u,b<h1.objs.size→(h1.update (s.heap.objs.size+1) (Obj.mapSeq fun _=>#[])).get? b=some u→(((h1.update (s.heap.objs.size+1) (Obj.mapSeq fun _=>#[])).push (seqObj "tuple" vs.toArray 0)).push (seqObj "list" #[] 0)).get? b=some u:=fun b u hb hu=>by
  rw [qC _ _ _ (bW (by rw [sF,z1];exact nG hb)),qC _ _ _ (bW (by rw [z1];exact hb))]
  exact hu
 have g3:=up _ _ Wt g1;refine a8 ⟨_,rfl,h p _ _ hp hu (fun b o g=>?_) (qB g3 fun _=>List.toArray (p.toList.map fun i=>vs.getD i Value.none))⟩;have g':=kp b o g;have ne:b≠s.heap.objs.size+1:=bW (nG (a9 g));show (Heap.update _ _ _).get? b=some o;rw [vP _ _ _ _ ne];refine up b o (a9 g') ?_;rw [vP _ _ _ _ ne];exact g'
end
end My
namespace L2
open PySem PySem.W PyProof.Rows My
def Nb:List V→Hp→VK→Prop:=fun xs H Q=>∃(a:Addr) (vs:List V) (x y:Nat→Int),xs=[.ref a]∧H a=some (.lst vs)∧vs.length<2000∧(∀(i:Nat) (v:V),vs[i]?=some v→(∃b,v=.ref b∧H b=some (.tup [.int (x i),.int (y i)]))∧0≤y i∧y i<1000) ∧
 ∀(p:Array Nat) (l:Addr),oj vs.length p→rh (fun i=>x i*1000+y i) p vs.length→H l=none→Q (.ref l) (upd H l (.lst (p.toList.map fun i=>vs.getD i .aR)))
theorem Hk{xs:List V}{us:List Value}(r:Vals xs us):∀(ns:List Nat),(∀i∈ns,i<xs.length)→Vals (ns.map fun i=>xs.getD i .aR) (ns.map fun i=>us.getD i Value.none)
 | [],_=>.nil
 | i::ns,h=>by
  have hi:=h i cG;obtain ⟨u,e,ru⟩:=r.get (i:=i) (x:=xs[i]) (by simp [hi])
  refine .cons ?_ (Hk r ns fun j hj=>h j (cx _ hj));dsimp only;rw [show xs.getD i .aR=xs[i] by simp [hi],show us.getD i Value.none=u by rw [cg,e];rfl]
  exact ru
theorem Hl{X:Cx}:gy X (.builtin "sorted") Nb:=by
 intro pins s σ H xs us Q I r h;obtain ⟨a,vs,x,y,rfl,ha,AJ,hv,k⟩:=h;obtain ⟨u,rfl,ru⟩:=vals1 r;cases ru;obtain ⟨its,rv,pl,hz⟩:=I.list (.of ha);have hl:=rv.length;refine Ws (x:=x) (y:=y) pl.isList (by lia) (fun i v hi=>?_) fun p h' c hp hu kp g=>?_
 ·have ba:i<vs.length:=by have:=(bJ.mp hi).1;lia
  have gi:vs[i]?=some vs[i]:=by simp [ba]
  obtain ⟨⟨b,eb,hb⟩,Hm⟩:=hv i _ gi;obtain ⟨u,eu,ru⟩:=rv.get gi;rw [hi] at eu;cases eu;rw [eb] at ru;cases ru;obtain ⟨_,jE,r2,o,g,cl,e,d⟩:=(show cj X.prog X.w H s.heap b (.tup [.int (x i),.int (y i)]) from I.ay b _ hb);obtain ⟨u1,u2,rfl,q1,q2⟩:=vals2 r2;obtain ⟨t1,rfl⟩:=q1;obtain ⟨t2,rfl⟩:=q2;exact ⟨⟨b,o,t1,t2,e,rfl,g,cl,d⟩,Hm⟩
 ·rw [←hl] at hp hu
  have sz:=hp.size;refine ⟨.ref (s.heap.objs.size+1),_,I.laid (t':=s.toks) (o:=.lst (p.toList.map fun i=>vs.getD i .aR)) kp (oS _) ⟨?_,p.toList.map fun i=>its.getD i Value.none,c,?_,g⟩,rfl,k p _ hp hu (I.ay.fresh (oS _))⟩
  ·rw [aD,fh,sz]
   exact hz
  ·refine Hk rv _ fun i hi=>?_
   have m:i∈List.toArray (List.range vs.length):=(Array.Perm.mem_iff hp).mp (Array.mem_toList_iff.mp hi);simpa using m
end L2
namespace My
open PySem L2
def Wu(K:aF):R2:=fun x y H Q=>∃a b xs,x=.ref a∧y=.ref b∧aZ K H a xs∧H b=some (.lst [])∧Q (.bl (!xs.isEmpty)) H
theorem Wv{X:Cx}(hu:X.A.units+64<cLine):cX X (compareOp .NotEq) (Wu X.K):=by
 intro pins s σ H x y v u Q I rx ry h;obtain ⟨a,b,xs,rfl,rfl,h1,h2,q⟩:=h;cases rx;cases ry;obtain ⟨us,r1,t1,_⟩:=I.list h1;obtain ⟨vs,r2,t2,_⟩:=I.list (aZ.of h2);have l1:=r1.length;have l2:=r2.length;cases xs with
 | nil=>
  refine SeqAt.RcNeAt.lists (e:=fun _=>true) t1.isList t2.isList (by simp at l1 l2 ⊢;lia) (by lia) (fun j z1 z2=>?_) _ _ _ _ ?_
  ·simp at l1
   have:us=[]:=FU.mp l1.symm;subst this;simp at z1
  ·rw [all_range]
   exact ⟨.bl false,H,I,rfl,q⟩
 | cons w ws=>
  refine SeqAt.RcNeAt.lists_lengths t1.isList t2.isList ?_ (by lia) _ _ _ _ ⟨.bl true,H,I,rfl,q⟩
  simp at l1 l2 ⊢;lia
variable {σ:St} {H:Hp}
theorem Nc{c:TT}{t u:TS}{D:Ends}(M:St→Hp→Prop)(hM:∀σ H,M σ H→D.nx σ H)(k:∀R:St→Hp→Prop,(∀σ H,M σ H→R σ H)→F9 c t u {D with nx:=R} σ H):F9 c t u D σ H:=k D.nx hM
def Ww(K:aF):Sp:=fun vs H Q _=>∃(P a l:Addr) (ns:List Int) (xs:List V),vs=[.ref P,.ref l]∧cV H P a∧aZ K (er P H) a (ns.map V.int)∧l≠P∧H l=some (.lst xs)∧xs.length≤100 ∧
 ∀(r:Addr) (ys:List V) (H':Hp),aW P H H'→cV H' P a→er P H r=none→r≠P→H' r=some (.lst ys)→ys.Perm xs→Q (.ref r) H'
def Wx(K:aF):Sp:=fun vs H Q _=>∃(P a:Addr) (ns:List Int) (way size wide i j:Int),vs=[.ref P,.int way,.int size,.int wide,.int i,.int j]∧cV H P a∧aZ K (er P H) a (ns.map V.int) ∧
 ∀(b:Bool) (H':Hp),aW P H H'→cV H' P a→Q (.bl b) H'
theorem Nd{α:Type}:∀(zs:List α) (k:Nat) (h:k<zs.length),(zs[k]::zs.eraseIdx k).Perm zs
 | _::_,0,_=>.refl _
 | z::zs,k+1,h=>(List.Perm.swap _ _ _).trans ((Nd zs k (by simpa using h)).cons z)
def bE(H:Hp)(vs:List V)(L:ar):Prop:=vs.length=L.length∧∀(k:Nat) (v:V) (p:Int×Int),vs[k]?=some v→L[k]?=some p→∃b,v=.ref b∧H b=some (.tup [.int p.1,.int p.2])
theorem bE.nil(H:Hp):bE H [] []:=⟨rfl,fun k v p h=>by simp at h⟩
variable {H':Hp} {vs:List V} {L:ar}
theorem bE.mono(h:bE H vs L)(s:ak H H'):bE H' vs L:=⟨h.1,fun k v p h1 h2=>by obtain ⟨b,e,g⟩:=h.2 k v p h1 h2;exact ⟨b,e,s _ _ g⟩⟩
variable {r:Addr} {xs:List V}
theorem bE.cY(h:bE H vs L)(e:H r=some (.lst xs))(k:∀b o,b≠r→H b=some o→H' b=some o):bE H' vs L:=⟨h.1,fun i v p h1 h2=>by obtain ⟨b,eb,g⟩:=h.2 i v p h1 h2;refine ⟨b,eb,k b _ (fun z=>?_) g⟩;rw [z,e] at g;cases g⟩
variable {b:Addr} {p:Int×Int}
theorem bE.push(h:bE H vs L)(e:H b=some (.tup [.int p.1,.int p.2])):bE H (vs++[.ref b]) (L++[p]):=⟨by simp [h.1],fun k v q h1 h2=>by
 have hl:=h.1;by_cases z:k<vs.length
 ·rw [iC z] at h1
  rw [iC (by lia)] at h2
  exact h.2 k v q h1 h2
 ·have hk:=(bJ.mp h1).1
  rw [dO,qt] at hk;obtain rfl:k=vs.length:=by lia
  rw [iz (aC _),vI] at h1;rw [iz (by lia),show vs.length-L.length=0 by lia] at h2
  cases h1;cases h2;exact ⟨b,rfl,e⟩⟩
structure gX (n:Nat) (L:ar):Prop where
 nd:L.Nodup
 lt:∀p∈L,0≤p.1∧p.1<p.2∧p.2<n
 e8:L.length≤n*n / 2
def lexLt(p q:Int×Int):Prop:=p.1<q.1∨p.1=q.1∧p.2<q.2
variable {M:ar}
theorem Wy{p:Array Nat}(P:oj M.length p)(U:rh (fun i=>(M.getD i (0,0)).1*1000+(M.getD i (0,0)).2) p M.length)(nd:M.Nodup)(b:∀q∈M,0≤q.2∧q.2<1000) :
  (p.toList.map fun i=>M.getD i (0,0)).Perm M∧(p.toList.map fun i=>M.getD i (0,0)).Pairwise lexLt:=by
 have pm:p.toList.Perm (List.range M.length):=qA.mp P;have pn:p.toList.Nodup:=pm.nodup_iff.mpr fU;have lt:∀i∈p.toList,i<M.length:=fun i hi=>aU.mp (pm.mem_iff.mp hi);refine ⟨?_,?_⟩
 ·have e:((List.range M.length).map fun i=>M.getD i (0,0))=M:=by
   refine fT (by simp) fun i h1 h2=>?_
   rw [e_,nM,getD_at h2]
  have:=pm.map fun i=>M.getD i (0,0);rw [e] at this;exact this
 ·rw [qy]
  intro i j hi hj AA;rw [aD] at hi hj;rw [e_,e_];have sz:=P.size;have li:p.toList[i]<M.length:=lt _ (cB _);have lj:p.toList[j]<M.length:=lt _ (cB _);have u:=U i j (by lia) (by rw [←sz,←fh];exact hj)
  unfold vN at u;have gi:p.getD i 0=p.toList[i]:=by
   have:i<p.size:=by rw [←fh];exact hi
   simp [Array.getD,this]
  have gj:p.getD j 0=p.toList[j]:=by
   have:j<p.size:=by rw [←fh];exact hj
   simp [Array.getD,this]
  rw [gi,gj] at u;dsimp only at u;rw [getD_at li,getD_at lj] at u;rw [getD_at li,getD_at lj];have ne:M[p.toList[i]]≠M[p.toList[j]]:=fun e=>by have e1:=(sr nd).mp e;have e2:=(sr pn).mp e1;lia
  have b1:=b _ (cB li);have b2:=b _ (cB lj);generalize M[p.toList[i]]=x at u ne b1;generalize M[p.toList[j]]=y at u ne b2;obtain ⟨x1,x2⟩:=x;obtain ⟨y1,y2⟩:=y;unfold lexLt;dsimp only at u b1 b2 ⊢;by_cases z:x1<y1;·exact .inl z
  ·right
   have e1:x1=y1:=by lia
   subst e1;refine ⟨rfl,?_⟩;by_cases y:x2=y2
   ·subst y
    exact absurd rfl ne
   ·lia
theorem AK{α β:Type}{f:α→β}:∀{L:List α},L.Nodup→(∀p q,p∈L→q∈L→f p=f q→p=q)→(L.map f).Nodup
 | [],_,_=>l6
 | x::L,h,k=>by obtain ⟨h1,h2⟩:=i3.mp h;refine i3.mpr ⟨fun m=>?_,AK h2 fun p q hp hq=>k p q (cx _ hp) (cx _ hq)⟩;obtain ⟨y,hy,e⟩:=bG.mp m;have:=k y x (cx _ hy) cG e;rw [this] at hy;exact h1 hy
def f_(nm:Nat→Int)(p:Int×Int):Int×Int:=(min (nm p.1.toNat) (nm p.2.toNat),max (nm p.1.toNat) (nm p.2.toNat))
structure AL (n:Nat) (nm:Nat→Int):Prop where
 lt:∀i,i<n→0≤nm i∧nm i<n
 inj:∀i j,i<n→j<n→nm i=nm j→i=j
variable {n:Nat}
theorem Wz{nm:Nat→Int}(h:gX n L)(N:AL n nm):gX n (L.map (f_ nm)) where
 nd:=by
  refine AK h.nd fun p q hp hq e=>?_;have a:=h.lt p hp;have b:=h.lt q hq;obtain ⟨p1,p2⟩:=p;obtain ⟨q1,q2⟩:=q;obtain ⟨i,rfl⟩:=gq (show 0≤p1 by dsimp only at a;lia)
  obtain ⟨j,rfl⟩:=gq (show 0≤p2 by dsimp only at a;lia)
  obtain ⟨k,rfl⟩:=gq (show 0≤q1 by dsimp only at b;lia)
  obtain ⟨l,rfl⟩:=gq (show 0≤q2 by dsimp only at b;lia)
  dsimp only at a b;have e1:=dM Prod.fst e;have e2:=dM Prod.snd e;unfold f_ at e1 e2;simp only [cZ] at e1 e2;have ij:nm i≠nm j:=fun z=>by have:=N.inj i j (by lia) (by lia) z;lia
  have kl:nm k≠nm l:=fun z=>by have:=N.inj k l (by lia) (by lia) z;lia
  by_cases z:nm i=nm k
  ·have e3:nm j=nm l:=by lia
   have i1:=N.inj i k (by lia) (by lia) z
   have i2:=N.inj j l (by lia) (by lia) e3
   rw [i1,i2]
  ·have e3:nm i=nm l:=by lia
   have e4:nm j=nm k:=by lia
   have i1:=N.inj i l (by lia) (by lia) e3
   have i2:=N.inj j k (by lia) (by lia) e4
   lia
 lt:=fun p hp=>by
  obtain ⟨q,hq,rfl⟩:=bG.mp hp;have a:=h.lt q hq;have n1:=N.lt q.1.toNat (by lia)
  have n2:=N.lt q.2.toNat (by lia)
  have ne:nm q.1.toNat≠nm q.2.toNat:=fun z=>by have:=N.inj _ _ (by lia) (by lia) z;lia
  unfold f_;dsimp only;lia
 e8:=by rw [aD];exact h.e8
theorem gX.perm{L':ar}(h:gX n L)(p:L'.Perm L):gX n L':=⟨p.nodup_iff.mpr h.nd,fun q hq=>h.lt q (p.mem_iff.mp hq),by rw [p.length_eq];exact h.e8⟩
def cJ(H:Hp)(t:Addr)(n:Nat)(L:ar):Prop:=∃(lt:Addr) (us:List V),H t=some (.tup [.int (n:Int),.ref lt])∧H lt=some (.tup us)∧bE H us L
def Nf:Sp:=fun vs H Q _=>∃(l r:Addr) (n:Nat) (us ws:List V) (L:ar) (nm:Nat→Int),vs=[.int (n:Int),.ref l,.ref r]∧H l=some (.lst us)∧bE H us L∧gX n L∧n≤30∧H r=some (.lst ws)∧ws.length=n∧(∀i,i<n→ws[i]?=some (.int (nm i)))∧AL n nm ∧
 ∀(t:Addr) (L':ar) (H':Hp),ak H H'→H t=none→cJ H' t n L'→gX n L'→L'.Pairwise lexLt→L'.Perm (L.map (f_ nm))→Q (.ref t) H'
variable {us:List V}
theorem bE.pick(h:bE H us M)(ns:List Nat)(hn:∀i∈ns,i<M.length):bE H (ns.map fun i=>us.getD i .aR) (ns.map fun i=>M.getD i (0,0)):=⟨by simp,fun k v p h1 h2=>by
 have hl:=h.1;have hk:k<ns.length:=by have:=(bJ.mp h1).1;simpa using this
 have hi:=hn ns[k] (cB hk);rw [bo,bP hk] at h1 h2;cases h1;cases h2;dsimp only;have ba:ns[k]<us.length:=by lia
 rw [getD_at hi];have e:us.getD ns[k] .aR=us[ns[k]]:=by simp [ba]
 rw [e];exact h.2 ns[k] _ _ (by simp [ba]) (by simp [hi])⟩
variable {wi:TI} {ρ:St→St} {tt:TT} {te:TE} {Q:VK} {P a:Addr}
theorem WA{K:aF}{l:Addr}(hn:xs.length<sizeLine)(nl:l≠P)(el:H l=some (.lst xs))(pc:cV H P a)
  (fE:∀R:It→Hp→Prop,R (mr K l) H→wi σ H R)
  (test:∀(i:Nat) (x:V),xs[i]?=some x→∀(Hc:Hp) (R:Bool→Hp→Prop),aW P H Hc→cV Hc P a→(∀b H3,aW P Hc H3→cV H3 P a→R b H3)→tt (some x::ρ σ) Hc R)
  (elem:∀(x:V) (Hc:Hp) (R:VK),R x Hc→te (some x::ρ σ) Hc R)
  (fin:∀(D:Addr) (ys:List V) (Hc:Hp),D≠P→er P H D=none→aW P H Hc→cV Hc P a→ys.Sublist xs→Hc D=some (.lst ys)→Q (.ref D) Hc):kj wi ρ tt te σ H Q:=by
 refine fE _ fun D nD=>?_;have nP:=pc.ne nD;have lD:l≠D:=fun e=>by rw [e,nD] at el;cases el
 refine ⟨fun i m ys Hc=>m=xs.length-i∧i≤xs.length∧Hc D=some (.lst ys)∧aW P H Hc∧cV Hc P a∧ys.Sublist (xs.take i),⟨_,rfl,cf _,ax,(aW.refl H).but nD,pc.upd nP,by simp⟩,?_⟩
 rintro i m ys Hc ⟨rfl,hi,eD,sH,Ng,sub⟩;refine ⟨eD,?_⟩;have tQ:=sH.at nl el;by_cases bh:i<xs.length
 ·refine .inr ⟨⟨xs,xs[i],.of tQ,by simp [bh]⟩,fun x H' hy=>?_⟩
  obtain ⟨rfl,hx⟩:=hy;have ex:=hx xs (.of tQ);refine test i x ex _ _ sH Ng fun b H3 s3 p3=>?_;have tk:xs.take (i+1)=xs.take i++[x]:=by rw [nN,ex];rfl
  have e3:=s3.at nP eD;cases b with
  | true=>
   rw [ae rfl];refine elem x H3 _ ⟨e3,?_,xs.length-(i+1),by lia,rfl,bh,ax,(sH.trans s3).but nD,p3.upd nP,?_⟩
   ·have:=sub.length_le
    rw [qq] at this;lia
   ·rw [tk]
    exact sub.append (List.Sublist.refl _)
  | false=>
   rw [aa (by simp)]
   refine ⟨xs.length-(i+1),by lia,rfl,bh,e3,sH.trans s3,p3,?_⟩
   rw [tk];exact sub.trans (List.sublist_append_left _ _)
 ·have e:i=xs.length:=by lia
  subst e;rw [iD] at sub;exact .inl ⟨⟨xs,.of tQ,by lia⟩,fin D ys Hc nP (by rw [gE nP];exact nD) sH Ng sub eD⟩
def gY(k:Nat)(d:List Nat):Prop:=d.Pairwise (fun a b=>b<a)∧∀x∈d,x<k
theorem gY.len:∀{d:List Nat} {k:Nat},gY k d→d.length≤k
 | [],_,_=>cf _
 | x::d,k,h=>by obtain ⟨h1,h2⟩:=ma.mp h.1;have:=gY.len (k:=x) ⟨h2,fun y hy=>h1 y hy⟩;have:=h.2 x cG;rw [d8];lia
theorem gY.nil(k:Nat):gY k []:=⟨List.Pairwise.nil,fun x hx=>by cases hx⟩
variable {k:Nat} {d:List Nat}
theorem gY.sub{e:List Nat}(h:gY k d)(s:e.Sublist d):gY k e:=⟨h.1.sublist s,fun x hx=>h.2 x (s.subset hx)⟩
variable {j:Nat}
theorem gY.put(h:gY k d)(hk:k<j):gY j (k::d):=⟨ma.mpr ⟨h.2,h.1⟩,fun x hx=>by
 rcases bw.mp hx with rfl | hx;·exact hk
 ·have:=h.2 x hx
  lia⟩
theorem gY.nd(h:gY k d):d.Nodup:=h.1.imp fun h=>by lia
def gc(d:List Nat):List V:=d.map fun(x:Nat)=>V.int (x:Int)
theorem Hn:∀{d:List Nat} {ys:List V},ys.Sublist (gc d)→∃e:List Nat,e.Sublist d∧ys=gc e
 | [],ys,h=>⟨[],List.Sublist.refl _,by have h:ys.Sublist []:=h;rw [List.sublist_nil.mp h];rfl⟩
 | x::d,ys,h=>by
  have h:ys.Sublist (V.int (x:Int)::gc d):=h;cases h with
  | cons _ h=>obtain ⟨e,h1,h2⟩:=Hn h;exact ⟨e,h1.cons _,h2⟩
  | cons_cons _ h=>obtain ⟨e,h1,h2⟩:=Hn h;exact ⟨x::e,.cons_cons _ h1,by rw [h2];rfl⟩
structure pQ (j:Nat) (L:ar):Prop where
 nd:L.Nodup
 lt:∀p∈L,0≤p.1∧p.1<p.2∧p.2<j
 e8:2*L.length≤j*(j-1)
theorem pQ.nil:pQ 1 []:=⟨l6,(fun p hp=>by cases hp),by simp⟩
theorem pQ.ok(h:pQ n L):gX n L:=⟨h.nd,h.lt,by
 have:=h.e8;have:n*(n-1)≤n*n:=Nat.mul_le_mul_left _ (by lia)
 lia⟩
theorem pQ.more(h:pQ j L)(hd:gY j d):pQ (j+1) (L++d.map fun(x:Nat)=>((x:Int),(j:Int))) where
 nd:=by
  refine jz.mpr ⟨h.nd,AK hd.nd fun p q _ _ e=>by have:=dM Prod.fst e;dsimp only at this;lia,fun p hp q hq e=>?_⟩
  obtain ⟨x,_,rfl⟩:=bG.mp hq;have:=h.lt p hp;rw [e] at this;dsimp only at this;lia
 lt:=fun p hp=>by
  rcases dW.mp hp with hp | hp
  ·have:=h.lt p hp
   lia
  ·obtain ⟨x,hx,rfl⟩:=bG.mp hp
   have:=hd.2 x hx;dsimp only;lia
 e8:=by
  have a:=h.e8;have b:=hd.len;rw [dO,aD,B7];cases j with
  | zero=>rw [Nat.zero_mul] at a;rw [Nat.mul_zero];lia
  | succ j=>
   rw [B7] at a;have e:(j+1+1)*(j+1)=(j+1)*j+2*(j+1):=by grind
   rw [e];lia
def WB(K:aF):Sp:=fun vs H Q _=>∃(P a:Addr) (ns:List Int) (n:Nat),vs=[.ref P,.int (n:Int)]∧cV H P a∧aZ K (er P H) a (ns.map V.int)∧1≤n∧n≤30 ∧
 ∀(r:Addr) (us:List V) (L:ar) (H':Hp),aW P H H'→cV H' P a→er P H r=none→r≠P→H' r=some (.lst us)→bE (er P H') us L→gX n L→Q (.ref r) H'
def WC(H:Hp)(vs:List V)(j:Nat)(D:Nat→List Nat):Prop:=vs.length=j∧∀k,k<j→gY k (D k)∧∃b,vs[k]?=some (.ref b)∧H b=some (.lst (gc (D k)))
theorem Ho{o:HO}:∀b o',b≠r→er P H b=some o'→er P (upd H r o) b=some o':=fun b o' nb e=>by
 by_cases z:b=P
 ·subst z
  unfold er at e;rw [ae rfl] at e;cases e
 ·rw [gE z] at e ⊢
  rw [aH nb];exact e
theorem bE.cat{zs:List V}(h:bE H us L)(g:bE H zs M):bE H (us++zs) (L++M):=⟨by simp [h.1,g.1],fun k v p h1 h2=>by
 have hl:=h.1;by_cases z:k<us.length
 ·rw [iC z] at h1
  rw [iC (by lia)] at h2
  exact h.2 k v p h1 h2
 ·rw [iz (by lia)] at h1
  rw [iz (by lia),show k-L.length=k-us.length by lia] at h2
  exact g.2 _ v p h1 h2⟩
variable {i:Nat}
theorem WD{x:V}(h:(gc d)[i]?=some x):∃y,d[i]?=some y∧x=.int (y:Int):=by
 unfold gc at h;rw [bo] at h;cases e:d[i]? with
 | none=>rw [e] at h;cases h
 | some y=>rw [e] at h;cases h;exact ⟨y,rfl,rfl⟩
theorem AM(p:cV H P a)(e:H b=some (.tup xs)):er P H b=some (.tup xs):=by refine CZ (fun z=>?_) e;obtain ⟨x,y,eP,_⟩:=p;rw [z,eP] at e;cases e
structure iR (j i:Nat) (L:ar):Prop where
 nd:L.Nodup
 lt:∀p∈L,0≤p.1∧p.1<p.2∧(p.2<j∨p.2=j∧p.1<i)
 e8:2*L.length≤j*(j-1)+2*i
theorem iR.start:iR 0 0 []:=⟨l6,(fun p hp=>by cases hp),by simp⟩
theorem iR.skip(h:iR j i L):iR j (i+1) L:=⟨h.nd,fun p hp=>by
 have:=h.lt p hp;lia,by
 have:=h.e8;lia⟩
theorem iR.push(h:iR j i L)(hi:i<j):iR j (i+1) (L++[((i:Int),(j:Int))]) where
 nd:=by
  refine jz.mpr ⟨h.nd,by simp,fun p hp q hq e=>?_⟩
  rw [cy.mp hq] at e;have:=h.lt p hp;rw [e] at this;dsimp only at this;lia
 lt:=fun p hp=>by
  rcases dW.mp hp with hp | hp
  ·have:=h.lt p hp
   lia
  ·rw [cy.mp hp]
   dsimp only;lia
 e8:=by have:=h.e8;rw [dO,qt];lia
theorem iR.next(h:iR j j L):iR (j+1) 0 L:=⟨h.nd,fun p hp=>by
 have:=h.lt p hp;lia,by
 have a:=h.e8;rw [B7];cases j with
 | zero=>lia
 | succ j=>
  rw [B7] at a;have e:(j+1+1)*(j+1)=(j+1)*j+2*(j+1):=by grind
  rw [e];lia⟩
theorem iR.ok(h:iR n 0 L):gX n L:=⟨h.nd,fun p hp=>by
 have:=h.lt p hp;lia,by
 have:=h.e8;have:n*(n-1)≤n*n:=Nat.mul_le_mul_left _ (by lia)
 lia⟩
theorem WE(n:Nat):(dw n).Nodup:=AK fU fun p q _ _ e=>by have:=V.int.inj e;lia
theorem Nh{ys:List V}(h:ys.Perm (dw n)):∃nm:Nat→Int,ys.length=n∧(∀i,i<n→ys[i]?=some (.int (nm i)))∧AL n nm:=by
 have ln:ys.length=n:=by rw [h.length_eq];unfold dw;simp
 have nd:ys.Nodup:=h.nodup_iff.mpr (WE n);have each:∀i,∃x:Int,i<n→ys[i]?=some (.int x)∧0≤x∧x<n:=fun i=>by
  by_cases hi:i<n
  ·have ba:i<ys.length:=by lia
   have m:ys[i]∈dw n:=h.mem_iff.mp (cB ba);obtain ⟨k,hk,e⟩:=bG.mp m;have:=aU.mp hk;exact ⟨(k:Int),fun _=>⟨by rw [e];simp [ba],by lia,by lia⟩⟩
  ·exact ⟨0,fun z=>absurd z hi⟩
 obtain ⟨nm,hn⟩:=Classical.axiomOfChoice each;refine ⟨nm,ln,fun i hi=>(hn i hi).1,fun i hi=>(hn i hi).2,fun i j hi hj e=>?_⟩;have a:=(hn i hi).1;have b:=(hn j hj).1;rw [e] at a;have ba:i<ys.length:=by lia
 have ei:j<ys.length:=by lia
 rw [bP ba] at a;rw [bP ei] at b;exact (sr nd).mp ((Option.some.inj a).trans (Option.some.inj b).symm)
def WG(K:aF):Sp:=fun vs H Q _=>∃(P a:Addr) (ns:List Int) (most:Nat),vs=[.ref P,.int (most:Int)]∧cV H P a∧aZ K (er P H) a (ns.map V.int)∧1≤most∧most≤30 ∧
 ∀(t:Addr) (n:Nat) (L:ar) (H':Hp),aW P H H'→cV H' P a→er P H t=none→t≠P→cJ (er P H') t n L→gX n L→L.Pairwise lexLt→1≤n→n≤most→Q (.ref t) H'
theorem bE.er(h:bE H us L)(p:cV H P a):bE (er P H) us L:=⟨h.1,fun k v q h1 h2=>by obtain ⟨b,e,g⟩:=h.2 k v q h1 h2;exact ⟨b,e,AM p g⟩⟩
theorem cJ.er{t:Addr}(h:cJ H t n L)(p:cV H P a):cJ (er P H) t n L:=by obtain ⟨lt,us,h1,h2,h3⟩:=h;exact ⟨lt,us,AM p h1,AM p h2,h3.er p⟩
theorem cJ.mono{t:Addr}(h:cJ H t n L)(s:ak H H'):cJ H' t n L:=by obtain ⟨lt,us,h1,h2,h3⟩:=h;exact ⟨lt,us,s _ _ h1,s _ _ h2,h3.mono s⟩
theorem WH(pr:Nat→Bool)(fE:∀R:It→Hp→Prop,(∀J,k8 J xs H→R J H)→wi σ H R)(hn:xs.length<sizeLine)
  (P:Addr→Nat→V→Hp→Prop) (mono:∀D i y H H' ys,P D i y H→H D=some (.lst ys)→(∀b o,b≠D→H b=some o→H' b=some o)→P D i y H')
  (test:∀(i:Nat) (x:V),xs[i]?=some x→∀(Hc:Hp) (R:Bool→Hp→Prop),ak H Hc→R (pr i) Hc→tt (some x::ρ σ) Hc R)
  (step:∀D (i:Nat) (x:V),xs[i]?=some x→∀(Hc:Hp) (R:VK),ak H Hc→(∃ys,Hc D=some (.lst ys))→(∀y H3,ak Hc H3→P D i y H3→R y H3)→te (some x::ρ σ) Hc R)
  (fin:∀D ys Hc,H D=none→ak H Hc→ys.length=((List.range xs.length).filter pr).length→(∀(k i:Nat) (y:V),ys[k]?=some y→((List.range xs.length).filter pr)[k]?=some i→P D i y Hc)→Hc D=some (.lst ys)→Q (.ref D) Hc):kj wi ρ tt te σ H Q:=by
 refine fE _ fun J js=>?_;intro D nD;refine ⟨fun i m ys Hc=>m=xs.length-i∧i≤xs.length∧Hc D=some (.lst ys)∧ak H Hc∧ys.length=((List.range i).filter pr).length∧∀(k i':Nat) (y:V),ys[k]?=some y→((List.range i).filter pr)[k]?=some i'→P D i' y Hc,⟨_,rfl,cf _,ax,gD (ak.refl H) nD,rfl,fun k i y h=>by simp at h⟩,?_⟩
 rintro i m ys Hc ⟨rfl,hi,eD,sH,ly,hP⟩;refine ⟨eD,?_⟩;by_cases bh:i<xs.length
 ·refine .inr ⟨js.go i Hc sH bh,fun x H' hy=>?_⟩
  obtain ⟨rfl,hx⟩:=js.d_ i Hc x H' sH hy;refine test i x (hx bh) _ _ sH ?_;have fs:(List.range (i+1)).filter pr=(List.range i).filter pr++(if pr i=true then [i] else []):=by
   rw [vJ,vS]
   congr 1
   cases e:pr i <;> simp [e]
  have fl:((List.range i).filter pr).length≤i:=b8 (vT _ _) (by simp)
  cases e:pr i with
  | true=>
   rw [ae rfl];refine step D i x (hx bh) _ _ sH ⟨_,eD⟩ fun y H3 s3 hp=>?_;have e3:=s3 _ _ eD;have cY:∀b o,b≠D→H3 b=some o→upd H3 D (.lst (ys++[y])) b=some o:=fun b o nb e=>by rw [aH nb];exact e
   refine ⟨e3,by lia,xs.length-(i+1),by lia,rfl,bh,ax,gD (sH.trans s3) nD,?_,fun k i' y' h1 h2=>?_⟩
   ·rw [fs,e,ae rfl,dO,dO,ly]
    rfl
   ·rw [fs,e,ae rfl] at h2
    by_cases z:k<ys.length
    ·rw [iC z] at h1
     rw [iC (by lia)] at h2
     refine mono D i' y' H' _ ys (hP k i' y' h1 h2) eD fun b o nb e=>cY b o nb (s3 _ _ e)
    ·have hk:=(bJ.mp h1).1
     rw [dO,qt] at hk;obtain rfl:k=ys.length:=by lia
     rw [iz (aC _),vI] at h1;rw [iz (by lia),show ys.length-((List.range i).filter pr).length=0 by lia] at h2
     cases h1;cases h2;exact mono D _ _ H3 _ ys hp e3 cY
  | false=>
   rw [aa (by simp)]
   refine ⟨xs.length-(i+1),by lia,rfl,bh,eD,sH,?_,fun k i' y' h1 h2=>?_⟩
   ·rw [fs,e,aa (by simp),oP]
    exact ly
   ·rw [fs,e,aa (by simp),oP] at h2
    exact hP k i' y' h1 h2
 ·have e:i=xs.length:=by lia
  subst e;exact .inl ⟨js.stop _ Hc sH (aC _),fin D ys Hc nD sH ly hP eD⟩
def Hq(n:Nat)(f:Nat→Nat→Bool)(i:Nat):List (Int×Int):=((List.range (n-(i+1))).filter fun k=>f i (i+1+k)).map fun k=>((i:Int),((i+1+k:Nat):Int))
def AN(n:Nat)(f:Nat→Nat→Bool):Nat→List (Int×Int)
 | 0=>[]
 | i+1=>AN n f i++Hq n f i
variable {f:Nat→Nat→Bool}
theorem Ni(h:p∈Hq n f i):∃j,i<j∧j<n∧f i j=true∧p=((i:Int),(j:Int)):=by obtain ⟨k,hk,rfl⟩:=bG.mp h;obtain ⟨h1,h2⟩:=b_.mp hk;have:=aU.mp h1;exact ⟨i+1+k,by lia,by lia,h2,rfl⟩
theorem WI(h1:i<j)(h2:j<n)(h3:f i j=true):((i:Int),(j:Int))∈Hq n f i:=by
 refine bG.mpr ⟨j-(i+1),b_.mpr ⟨aU.mpr (by lia),?_⟩,?_⟩
 ·show f i (i+1+(j-(i+1)))=true
  rw [show i+1+(j-(i+1))=j by lia]
  exact h3
 ·rw [show i+1+(j-(i+1))=j by lia]
theorem mem_of{n:Nat}{f:Nat→Nat→Bool}{p:Int×Int}:∀{k:Nat},p∈AN n f k→∃i j,i<k∧i<j∧j<n∧f i j=true∧p=((i:Int),(j:Int))
 | 0,h=>by cases h
 | k+1,h=>by
  rcases dW.mp h with h | h
  ·obtain ⟨i,j,h1,h2⟩:=mem_of h
   exact ⟨i,j,by lia,h2⟩
  ·obtain ⟨j,h1⟩:=Ni h
   exact ⟨k,j,by lia,h1⟩
theorem Nj{n:Nat}{f:Nat→Nat→Bool}{i j:Nat}(h1:i<j)(h2:j<n)(h3:f i j=true):∀{k:Nat},i<k→((i:Int),(j:Int))∈AN n f k
 | k+1,h=>by
  by_cases z:i=k
  ·subst z
   exact fA _ (WI h1 h2 h3)
  ·exact nF _ (Nj h1 h2 h3 (by lia))
theorem Nk{n:Nat}{f:Nat→Nat→Bool}:∀k,(AN n f k).Pairwise lexLt
 | 0=>List.Pairwise.nil
 | k+1=>by
  refine zf.mpr ⟨Nk k,?_,fun p hp q hq=>?_⟩
  ·refine jA.mpr ((B8.sublist List.filter_sublist).imp fun h=>?_)
   right;dsimp only;lia
  ·obtain ⟨i,j,h1,_,_,_,rfl⟩:=mem_of hp
   obtain ⟨j',_,_,_,rfl⟩:=Ni hq;left;dsimp only;lia
theorem Nl:¬lexLt p p:=fun h=>by unfold lexLt at h;lia
theorem WJ{q:Int×Int}(h1:lexLt p q)(h2:lexLt q p):False:=by unfold lexLt at h1 h2;lia
theorem Nm:∀{A B:ar},A.Pairwise lexLt→B.Pairwise lexLt→(∀p,p∈A↔p∈B)→A=B
 | [],[],_,_,_=>rfl
 | [],b::B,_,_,h=>absurd ((h b).mpr cG) (by simp)
 | a::A,[],_,_,h=>absurd ((h a).mp cG) (by simp)
 | a::A,b::B,ha,hb,h=>by
  obtain ⟨a1,a2⟩:=ma.mp ha;obtain ⟨b1,b2⟩:=ma.mp hb;have e:a=b:=by
   rcases bw.mp ((h a).mp cG) with z | z;·exact z
   ·rcases bw.mp ((h b).mpr cG) with y | y
    ·exact y.symm
    ·exact (WJ (b1 a z) (a1 b y)).elim
  subst e;rw [Nm a2 b2 fun p=>⟨fun m=>?_,fun m=>?_⟩]
  ·rcases bw.mp ((h p).mp (cx _ m)) with z | z
   ·subst z
    exact (Nl (a1 _ m)).elim
   ·exact z
  ·rcases bw.mp ((h p).mpr (cx _ m)) with z | z
   ·subst z
    exact (Nl (b1 _ m)).elim
   ·exact z
end My
namespace L2
open PySem PySem.Spec PyProof.Rows
end L2
namespace My
open PySem L2
def Hr(n:Nat)(L:ar):Tr:=.tp [.fl (.int (n:Int)),.tp (L.map fun p=>.tp [.fl (.int p.1),.fl (.int p.2)])]
theorem Nn{H:Hp}{t:Addr}{n:Nat}{L:ar}(h:cJ H t n L):mL H (Hr n L) (.ref t):=by
 obtain ⟨lt,us,e1,e2,h3⟩:=h;refine .tp e1 rfl fun i v tr h1 h2=>?_
 match i,h1,h2 with
 | 0,h1,h2=>cases h1;cases h2;exact .fl rfl
 | 1,h1,h2=>
  cases h1;cases h2;refine .tp e2 (by rw [aD];exact h3.1) fun k v tr g1 g2=>?_
  have hk:k<L.length:=by have:=(bJ.mp g2).1;simpa using this
  rw [bo,bP hk] at g2;cases g2;obtain ⟨b,rfl,eb⟩:=h3.2 k v L[k] g1 (by simp [hk])
  refine .tp eb rfl fun m v tr f1 f2=>?_
  match m,f1,f2 with
  | 0,f1,f2=>cases f1;cases f2;exact .fl rfl
  | 1,f1,f2=>cases f1;cases f2;exact .fl rfl
  | m+2,f1,_=>cases f1
 | i+2,h1,_=>cases h1
theorem WK(n:Nat)(L:ar):(Hr n L).In 3:=fun t ht=>by
 rcases bw.mp ht with rfl | ht;·trivial
 ·rw [cy.mp ht]
  intro u hu;obtain ⟨p,_,rfl⟩:=bG.mp hu;intro w hw;rcases bw.mp hw with rfl | hw;·trivial
  ·rw [cy.mp hw];trivial
end My
namespace L2
open PySem PySem.Spec PyProof.Rows
section
variable (P:Program) (w:World)
end
section
variable {P:Program} {w:World} {H H':Hp} {h h':Heap} {a:Addr} {o:HO}
end
section
variable {P:Program} {w:World} {H:Hp} {h h':Heap} {x e:Addr} {o':HO}
end
section
variable {fs FZ ex mh:List Addr} {H H1 H2:Hp} {h h1 h2 h':Heap} {a x e:Addr} {o:HO}
end
section
variable {X:Cx} {pins:aV} {σ:List (Option V)} {H H':Hp} {s:Shared} {h':Heap}
end
section
variable {X:Cx}
variable {a b:Expr} {ta tb:TE} {pos:Pos}
variable {tA zQ:TT} {rest:List Expr}
end
section
variable {X:Cx} {pins:aV} {σ:St} {H:Hp} {s:Shared} {a:Addr} {xs ys:List V}
end
section
variable {X:Cx} {pins:aV} {σ:St} {H:Hp} {s:Shared} {E:aO}
end
section
variable {X:Cx} {st:Stmt} {rest:List Stmt} {t u:TS} {e:Expr} {te:TE} {pos:Pos}
end
section
variable {X:Cx} {pos:Pos}
end
section
variable {X:Cx} {pos:Pos}
end
section
variable {X:Cx} {tg:Expr}
end
section
variable {X:Cx} {a b c:Expr} {ta tb tc:TE} {pos:Pos}
end
section
variable {X:Cx} {a b c:Expr} {ta tb tc:TE} {pos:Pos}
end
section
variable {prog:Program} {w:World} {A:Around} {E:aO} {s:Shared} {K:aF} {x dx C f:Addr} {mA:dh} {name:Str} {v:Value}
end
section
variable {P:Program} {w:World} {H H':Hp} {h h':Heap} {a C dx:Addr} {fs FZ:List (Str×V)}
end
section
variable {X:Cx} {pins:aV} {σ:St} {H:Hp} {s:Shared} {a C dx:Addr} {fs:List (Str×V)} {f:Str} {v:V} {A:Around} {E:aO}
end
section
variable {X:Cx} {o e value:Expr} {f:Str} {pos pos' nX:Pos} {ta tv:TE}
end
section
variable {X:Cx} {pins:aV} {σ:St} {H:Hp} {s:Shared} {A:Around} {E:aO} {Q:aO} {c:Value} {b:Bool}
end
section
variable {X:Cx} {e:Expr} {es:List Expr} {te:TE} {t:TA} {pos:Pos}
end
section
variable {X:Cx} {pins:aV} {σ:St} {H:Hp} {s s':Shared}
end
section
variable {X:Cx} {CX:i9} {k:Nat} {f C:Addr} {fd:FuncData} {ps:List Str} {sp:Sp} {n5:List V} {ds:List Value} {E:XK} {x m:Str} {p pos apos:Pos} {e o:Expr} {es:List Expr} {ta:TE} {t:TA}
end
section
variable {X:Cx} {CX:i9} {k:Nat} {f C:Addr} {fd:FuncData} {ps ks:List Str} {sp:Sp} {E:XK} {x m:Str} {p pos apos L3:Pos} {e o:Expr} {es:List Expr} {TR:List Keyword} {te ta:TE} {t tk:TA} {nm:Option Str}
variable {g:List Value→List Value→List Value} {gV:List V→List V→List V}
end
section
variable {X:Cx} {x:Str} {p pos:Pos} {e:Expr} {es:List Expr} {t:TA} {id T:String} {r:List V→Hp→VK→Prop}
end
section
variable {κ:Type} [DecidableEq κ]
def fv(kvs:List (κ×V))(k:κ):Option V:=(kvs.find? fun kv=>decide (kv.1=k)).map (·.2)
def putK(kvs:List (κ×V))(k:κ)(v:V):List (κ×V):=
 if (kvs.any fun kv=>decide (kv.1=k))=true then kvs.map (fun kv=>if kv.1=k then (kv.1,v) else kv) else kvs++[(k,v)]
variable {p:κ×V} {r:List (κ×V)} {k:κ}
theorem AO(e:p.1=k):fv (p::r) k=some p.2:=by simp [fv,sJ,e]
theorem AQ(e:¬p.1=k):fv (p::r) k=fv r k:=by simp [fv,sJ,e]
theorem Np(k:κ):∀kvs:List (κ×V),(kvs.any fun kv=>decide (kv.1=k))=(fv kvs k).isSome
 | []=>rfl
 | p::r=>by
  rw [za];by_cases e:p.1=k;·simp only [AO e,bA e,Bool.true_or,Option.isSome_some]
  ·rw [AQ e,bO e,Bool.false_or];exact Np k r
theorem Hs(kvs:List (κ×V))(k:κ)(v:V):(putK kvs k v).length≤kvs.length+1:=by
 unfold putK
 split
 ·rw [aD];lia
 ·rw [dO,d8,vF];lia
theorem mf.AR{o:Option V}{u:Option Value}(r:mf o u):o.isSome=u.isSome:=by
 cases o with
 | none=>cases u with
  | none=>rfl
  | some _=>exact (show False from r).elim
 | some _=>cases u with
  | none=>exact (show False from r).elim
  | some _=>rfl
variable {kvs:List (κ×V)} {vs:List (κ×Value)}
theorem KV.val(r:KV kvs vs)(k:κ):mf (fv kvs k) (valueAt vs k):=by
 unfold KV at r
 induction r with
 | nil=>exact True.intro
 | @cons p q ps qs h t ih=>
  obtain ⟨h1,h2⟩:=h;by_cases e:p.1=k
  ·have e':q.1=k:=h1.symm.trans e
   have b:valueAt (q::qs) k=some q.2:=by simp [valueAt,sJ,e']
   rw [AO e,b];exact h2
  ·have e':¬q.1=k:=fun z=>e (h1.trans z)
   have b:valueAt (q::qs) k=valueAt qs k:=by simp [valueAt,sJ,e']
   rw [AQ e,b];exact ih
theorem KV.any(r:KV kvs vs)(k:κ):(kvs.any fun kv=>decide (kv.1=k))=vs.any fun kv=>decide (kv.1=k):=by
 unfold KV at r
 induction r with
 | nil=>rfl
 | cons h t ih=>rw [za,za,ih,h.1]
variable {y:V} {u:Value}
theorem KV.Ht(r:KV kvs vs)(k:κ)(ry:RelV y u) :
  KV (kvs.map fun kv=>if kv.1=k then (kv.1,y) else kv) (vs.map fun kv=>if kv.1=k then (kv.1,u) else kv):=by
 unfold KV at r ⊢
 induction r with
 | nil=>exact .nil
 | @cons p q ps qs h t ih=>
  rw [du,du];refine .cons ?_ ih;obtain ⟨h1,h2⟩:=h;by_cases e:p.1=k;·rw [ae e,ae (h1.symm.trans e)];exact ⟨h1,ry⟩
  ·rw [aa e,aa (fun z=>e (h1.trans z))];exact ⟨h1,h2⟩
theorem KV.put(r:KV kvs vs)(k:κ)(ry:RelV y u):KV (putK kvs k y) (stored vs k u):=by
 unfold putK stored;rw [r.any k];by_cases e:(vs.any fun kv=>decide (kv.1=k))=true;·rw [ae e,ae e];exact r.Ht k ry
 ·rw [aa e,aa e];exact Paired.snoc r ⟨rfl,ry⟩
theorem KV.length(r:KV kvs vs):kvs.length=vs.length:=Paired.length r
end
variable {P:Program} {w:World} {u:Value}
theorem wX{k:Key}(r:RelV (kV k) u):(gr P w).is k u=true:=by
 cases k with
 | inl i=>obtain ⟨t,e⟩:=(show ∃t,u=Value.int i t from r);subst e;exact Sw P w i t
 | inr x=>obtain ⟨t,e⟩:=(show ∃t,u=Value.str x t from r);subst e;exact Sx P w x t
theorem Nq{P:Program}{w:World}:∀{ks:List Key} {us:List Value},Vals (ks.map kV) us→ItemsAre (gr P w) ks us
 | [],_,r=>by rw [y_] at r;cases r;exact .nil
 | k::ks,_,r=>by
  rw [du] at r;cases r with
  | cons h t=>exact .cons (wX h) (Nq t)
abbrev KT (H:Hp):List (List Key×V)→List (List Key×Addr×Value)→Prop:=Paired fun p q=>p.1=q.1∧H q.2.1=some (.tup (p.1.map kV))∧RelV p.2 q.2.2
variable {H:Hp} {kvs:List (List Key×V)} {xs:List (List Key×Addr×Value)}
theorem KT.val(r:KT H kvs xs)(k:List Key):mf (fv kvs k) ((atKey xs k).map (·.2)):=by
 induction r with
 | nil=>exact True.intro
 | @cons p q ps qs h t ih=>
  obtain ⟨h1,_,h2⟩:=h;by_cases e:p.1=k
  ·have e':q.1=k:=h1.symm.trans e
   have b:atKey (q::qs) k=some q.2:=by simp [atKey,sJ,e']
   rw [AO e,b];exact h2
  ·have e':¬q.1=k:=fun z=>e (h1.trans z)
   have b:atKey (q::qs) k=atKey qs k:=by simp [atKey,sJ,e']
   rw [AQ e,b];exact ih
variable {y:V}
theorem KT.Ht(r:KT H kvs xs)(k:List Key)(ry:RelV y u) :
  KT H (kvs.map fun kv=>if kv.1=k then (kv.1,y) else kv) (xs.map (putAt k u)):=by
 induction r with
 | nil=>exact .nil
 | @cons p q ps qs h t ih=>
  rw [du,du];refine .cons ?_ ih;obtain ⟨h1,h2,h3⟩:=h;unfold putAt;by_cases e:p.1=k;·rw [ae e,ae (h1.symm.trans e)];exact ⟨h1,h2,ry⟩
  ·rw [aa e,aa (fun z=>e (h1.trans z))];exact ⟨h1,h2,h3⟩
variable {b:Addr}
theorem KT.put(r:KT H kvs xs)(k:List Key)(hb:H b=some (.tup (k.map kV)))(ry:RelV y u) :
  KT H (putK kvs k y) (storedH xs k b u):=by
 have e:(kvs.any fun kv=>decide (kv.1=k))=(atKey xs k).isSome:=by rw [Np,(r.val k).AR,zo]
 unfold putK storedH;rw [e];by_cases q:(atKey xs k).isSome=true;·rw [ae q,ae q];exact r.Ht k ry
 ·rw [aa q,aa q];exact Paired.snoc r ⟨rfl,hb,ry⟩
theorem KT.keeps{H':Hp}(r:KT H kvs xs)(ht:∀b ys,H b=some (.tup ys)→H' b=some (.tup ys)):KT H' kvs xs:=
 Paired.Cn r fun _ _ z=>⟨z.1,ht _ _ z.2.1,z.2.2⟩
section
variable {P:Program} {w:World} {H:Hp} {h:Heap} {a:Addr}
theorem Nr{u:HO}(ok:cS P w H h)(e:Rd H a u):cj P w H h a u:=e.ok ok
theorem AS{kvs:List (Key×V)}(ok:cS P w H h)(e:Rd H a (.dK kvs)):kvs.length≤sizeLine∧(a == sysModules)=false∧∃vs,KV kvs vs∧h.DictOf (gr P w) a vs:=
 show cj P w H h a (.dK kvs) from Nr ok e
theorem Nt{kvs:List (Key×V)}(ok:cS P w H h)(e:H a=some (.dK kvs)):kvs.length≤sizeLine∧(a == sysModules)=false∧∃vs,KV kvs vs∧h.DictOf (gr P w) a vs:=AS ok (.inl e)
theorem AU{ks:List Key}(ok:cS P w H h)(e:H a=some (.tup (ks.map kV))):(tupleKind (gr P w)).is h ks a:=by obtain ⟨_,its,r,o,h1,h2,n,h3⟩:=(show cj P w H h a (.tup (ks.map kV)) from ok a _ e);exact ⟨o,its.toArray,n,h1,h2,h3,by simpa using Nq r⟩
theorem AV(ok:cS P w H h)(e:Rd H a (.dT kvs)):kvs.length≤sizeLine∧(a == sysModules)=false ∧
  ∃xs,KT H kvs xs∧h.DictOfH (tupleKind (gr P w)) a xs:=by
 obtain ⟨z,y,xs,r,o,es,ep,h1,h2,h3,h4,h5⟩:=(show cj P w H h a (.dT kvs) from Nr ok e);refine ⟨z,y,xs,r,o,es,ep,h1,h2,h3,h4,fun x hx=>?_,h5⟩;have all:∀{l:List (List Key×V)} {m:List (List Key×Addr×Value)},KT H l m→∀x∈m,(tupleKind (gr P w)).is h x.1 x.2.1:=by
  intro l m q
  induction q with
  | nil=>intro x hx;exact nomatch hx
  | @cons p q ps qs hq t ih=>
   intro x hx;rcases bw.mp hx with e | hx
   ·subst e
    exact AU ok (by rw [←hq.1];exact hq.2.1)
   ·exact ih x hx
 exact all r x hx
theorem WL(ok:cS P w H h)(e:H a=some (.dT kvs)):kvs.length≤sizeLine∧(a == sysModules)=false ∧
  ∃xs,KT H kvs xs∧h.DictOfH (tupleKind (gr P w)) a xs:=AV ok (.inl e)
end
def lE(H:Hp)(a:Addr)(y:V)(r:Option V):Prop:=
 (∃kvs k,Rd H a (.dK kvs)∧y=kV k∧r=fv kvs k)∨∃kvs k b,Rd H a (.dT kvs)∧y=.ref b∧H b=some (.tup (k.map kV))∧r=fv kvs k
def wY(H:Hp)(a:Addr)(y v:V)(H':Hp):Prop:=
 (∃kvs k,H a=some (.dK kvs)∧y=kV k∧kvs.length<sizeLine∧H'=upd H a (.dK (putK kvs k v))) ∨
 ∃kvs k b,H a=some (.dT kvs)∧y=.ref b∧H b=some (.tup (k.map kV))∧kvs.length<sizeLine∧H'=upd H a (.dT (putK kvs k v))
variable {a:Addr} {k:List Key}
theorem lE.t(e:H a=some (.dT kvs))(eb:H b=some (.tup (k.map kV))):lE H a (.ref b) (fv kvs k):=.inr ⟨kvs,k,b,.inl e,rfl,eb,rfl⟩
theorem wY.t{v:V}(e:H a=some (.dT kvs))(eb:H b=some (.tup (k.map kV)))(hl:kvs.length<sizeLine) :
  wY H a (.ref b) v (upd H a (.dT (putK kvs k v))):=.inr ⟨kvs,k,b,e,rfl,eb,hl,rfl⟩
section
variable {X:Cx} {pins:aV} {σ:St} {H:Hp} {s:Shared} {a:Addr} {y v:V} {u r:Value} {o:Option V} {A:Around} {E:aO}
theorem Inv.big(I:Inv X pins σ H s):sysModules<s.heap.objs.size:=by have h:mainGlobals<s.heap.objs.size:=(I.mod.glob.keeps I.bk).lt;exact Nat.lt_trans (by decide) h
variable {Q:aO}
theorem WM(hu:A.units+1<cLine)(I:Inv X pins σ H s)(g:lE H a y (some v))(ry:RelV y u)(h:∀w' s',Inv X pins σ H s'→RelV v w'→Q w' s') :
  wpAny (model X.prog X.w) A (getItem (.ref a) u) Q E s:=by
 rcases g with ⟨kvs,k,e,ey,l⟩ | ⟨kvs,k,b,e,ey,eb,l⟩
 ·subst ey
  obtain ⟨z,hd,vs,rel,dd⟩:=AS I.ay e;obtain ⟨w',hw,ic⟩:=mf.some_of (v:=v) (o:=valueAt vs k) (by rw [l];exact rel.val k)
  exact wpAny_getItem_of (wX ry) dd.mapOf hw (h w' _ (I.tok _) ic)
 ·subst ey
  cases (show u=Value.ref b from ry);obtain ⟨z,hd,xs,rel,dd⟩:=AV I.ay e;obtain ⟨w',hw,ic⟩:=mf.some_of (v:=v) (o:=(atKey xs k).map (·.2)) (by rw [l];exact rel.val k)
  obtain ⟨p,hp,WN⟩:=FK.mp hw;refine wpAny_getItem_heap (B9 hu) (AU I.ay eb) dd hp ?_;rw [WN];exact h w' _ (I.tok _) ic
theorem WO(hu:A.units+1<cLine)(I:Inv X pins σ H s)(g:lE H a y o)(ry:RelV y u)(h:∀s',Inv X pins σ H s'→Q (.bool o.isSome) s') :
  wpAny (model X.prog X.w) A (compareOp .In u (.ref a)) Q E s:=by
 rcases g with ⟨kvs,k,e,ey,l⟩ | ⟨kvs,k,b,e,ey,eb,l⟩
 ·subst ey
  obtain ⟨z,hd,vs,rel,dd⟩:=AS I.ay e;refine wpAny_in_of (wX ry) hd dd.mapOf ?_;rw [←(rel.val k).AR,←l];exact h _ (I.tok _)
 ·subst ey
  cases (show u=Value.ref b from ry);obtain ⟨z,hd,xs,rel,dd⟩:=AV I.ay e;refine wpAny_in_heap (B9 hu) (AU I.ay eb) hd dd ?_;have q:=(rel.val k).AR;rw [zo] at q;rw [←q,←l];exact h _ (I.tok _)
theorem WQ(hu:A.units+1<cLine)(I:Inv X pins σ H s)(g:lE H a y o)(ry:RelV y u)(h:∀s',Inv X pins σ H s'→Q (.bool (!o.isSome)) s') :
  wpAny (model X.prog X.w) A (compareOp .NotIn u (.ref a)) Q E s:=by
 rcases g with ⟨kvs,k,e,ey,l⟩ | ⟨kvs,k,b,e,ey,eb,l⟩
 ·subst ey
  obtain ⟨z,hd,vs,rel,dd⟩:=AS I.ay e;refine wpAny_notIn_of (wX ry) hd dd.mapOf ?_;rw [←(rel.val k).AR,←l];exact h _ (I.tok _)
 ·subst ey
  cases (show u=Value.ref b from ry);obtain ⟨z,hd,xs,rel,dd⟩:=AV I.ay e;refine wpAny_notIn_heap (B9 hu) (AU I.ay eb) hd dd ?_;have q:=(rel.val k).AR;rw [zo] at q;rw [←q,←l];exact h _ (I.tok _)
variable {h':Heap}
theorem Hu{t':Nat}{ob:HO}(I:Inv X pins σ H s)(mu:zI (H a))(hs:Heap.SameBut a s.heap h')(he:∃q,h'.get? a=some q)(new:cj X.prog X.w (upd H a ob) h' a ob) :
  Inv X pins σ (upd H a ob) {s with heap:=h',toks:=t'}:=
 I.write (x:=a) (e:=a) mu (.inl rfl) (fun b q hb z=>(hs.2 b hb).trans z) he new
variable {H':Hp}
theorem Nu{kvs:List (Key×V)}{vs:List (Key×Value)}(z:kvs.length≤sizeLine)(hd:(a == sysModules)=false)(rel:KV kvs vs)(dd:h'.DictOf (gr P w) a vs) :
  cj P w H' h' a (.dK kvs):=⟨z,hd,vs,rel,dd⟩
theorem WR{Q:Unit→Shared→Prop}(hu:A.units+1<cLine)(I:Inv X pins σ H s)(g:wY H a y v H')(ry:RelV y u)(rv:RelV v r)(h:∀s',Inv X pins σ H' s'→Q () s') :
  wpAny (model X.prog X.w) A (setItem (.ref a) u r) Q E s:=by
 rcases g with ⟨kvs,k,e,ey,l,eH⟩ | ⟨kvs,k,b,e,ey,eb,l,eH⟩
 ·subst ey eH
  obtain ⟨z,hd,vs,rel,dd⟩:=Nt I.ay e;have hz:vs.length≤sizeLine:=by rw [←rel.length];exact z
  have hl:(putK kvs k v).length≤sizeLine:=by have:=Hs kvs k v;lia
  refine wpAny_setItem_pairs (hsz:=hz) (wX ry) dd fun h' qT hs=>h _ ?_;have he:∃q,h'.get? a=some q:=let ⟨q,_,_,hq,_⟩:=qT;⟨q,hq⟩
  exact Hu I (by rw [e];exact True.intro) hs he (Nu hl hd (rel.put k rv) qT)
 ·subst ey eH
  cases (show u=Value.ref b from ry);obtain ⟨z,hd,xs,rel,dd⟩:=WL I.ay e;have hz:xs.length≤sizeLine:=by rw [←Paired.length rel];exact z
  have hl:(putK kvs k v).length≤sizeLine:=by have:=Hs kvs k v;lia
  refine wpAny_setItem_heap (hsz:=hz) (B9 hu) (AU I.ay eb) dd fun h' qT hs=>h _ ?_;obtain ⟨q,es,ep,hq,h2,h3,h4,_,h5⟩:=qT;refine Hu I (by rw [e];exact True.intro) hs ⟨q,hq⟩ ⟨hl,hd,_,(rel.put k eb rv).keeps fun c ys ec=>?_,q,es,ep,hq,h2,h3,h4,h5⟩
  rw [aH (Sy ec e (fun z=>nomatch z))];exact ec
end
section
variable {X:Cx} {pins:aV} {σ:St} {H:Hp} {s:Shared} {a:Addr} {kvs:List (Key×V)} {k:Key} {u:Value} {A:Around} {E:aO}
end
def Nv(i:Expr):Prop:=∀ov iv,subscripted i false ov iv=operate [ov,iv] (getItem ov iv)
variable {s:Shared} {pos:Pos}
theorem WS{prog:Program}{A:Around}{E:aO}{env:Env}{value slice:Expr}{T id:String}{Q:aO}
  (hl:typeLookup (.type T) "__getitem__"=pure (some (.builtin id))) (hs:Nv slice)
  (h:wpAny (model prog w) A (eval value env) (fun o s₁=>wpAny (model prog w) A (eval slice env) (fun i s₂=>s₂.TypeIs o T∧wpAny (model prog w) A (getItem o i) Q E s₂) E s₁) E s) :
  wpAny (model prog w) A (eval (.Subscript value slice pos) env) Q E s:=by
 refine Subscript_ (cL h (fun o s₁ h₁=>cL h₁ (fun i s₂ h₂=>?_) fun _ _ x=>x) fun _ _ x=>x);obtain ⟨hT,h₂⟩:=h₂;unfold subscriptTail;refine au ?_;rw [getitemInPython_of_ne hT.not_modules];refine au (wpAny_specialOf hT hl ?_);have fin:wpAny (model prog w) A (subscripted slice false o i) (fun r s₃=>wpAny (model prog w) A (letTemporaryGo value o r >>= fun _=>pure r) Q E s₃) E s₂:=by rw [hs o i];exact wpAny_operating (cL h₂ (fun r s₃ h₃=>au (wpAny_letTemporaryGo (a8 h₃))) fun _ _ x=>x)
 first
  | exact a8 (au fin)
  | exact au (a8 (au fin))
  | exact au fin
variable {X:Cx}
theorem WT{pins:aV}{σ:St}{o:Option V}(I:Inv X pins σ H s)(g:lE H a y o):s.TypeIs (.ref a) "dict":=by
 rcases g with ⟨kvs,k,e,_,_⟩ | ⟨kvs,k,b,e,_,_,_⟩
 ·obtain ⟨_,_,vs,_,dd⟩:=AS I.ay e
  exact dd.typeIs
 ·obtain ⟨_,_,xs,_,dd⟩:=AV I.ay e
  exact dd.typeIs
def WU(td ty:TE):TE:=fun σ H Q=>td σ H fun x H1=>ty σ H1 fun y H2=>∃a v,x=.ref a∧lE H2 a y (some v)∧Q v H2
def WV(ty td:TE):TE:=fun σ H Q=>ty σ H fun y H1=>td σ H1 fun x H2=>∃a o,x=.ref a∧lE H2 a y o∧Q (.bl o.isSome) H2
def WW(ty td:TE):TE:=fun σ H Q=>ty σ H fun y H1=>td σ H1 fun x H2=>∃a o,x=.ref a∧lE H2 a y o∧Q (.bl (!o.isSome)) H2
def WX(td ty tv:TE):TS:=fun D σ H=>tv σ H fun v H1=>td σ H1 fun x H2=>ty σ H2 fun y H3=>∃a H4,x=.ref a∧wY H3 a y v H4∧D.nx σ H4
section
variable {X:Cx} {o i e value:Expr} {pos pos' nX:Pos} {td ty tv:TE}
theorem Dj(hu:X.A.units+1<cLine)(ho:PE X o td)(hi:PE X i ty)(hs:Nv i):PE X (.Subscript o i pos) (WU td ty):=by intro pins s σ H Q I h;refine WS PySem.F.slot_dict_getitem.lookup hs (aK (ho pins s σ H _ I h) fun u s1 ⟨x,H1,I1,rx,q1⟩=>aK (hi pins s1 σ H1 _ I1 q1) fun iv s2 ⟨y,H2,I2,ry,a,v,ex,g,q2⟩=>?_);subst ex;obtain rfl:u=Value.ref a:=rx;exact ⟨WT I2 g,WM hu I2 g ry fun w' s3 I3 ic=>⟨v,H2,I3,ic,q2⟩⟩
theorem WY(hu:X.A.units+1<cLine)(hi:PE X i ty)(ho:PE X o td):PC X .In i o (WV ty td):=by intro pins s σ H Q I h;refine aK (hi pins s σ H _ I h) fun iv s1 ⟨y,H1,I1,ry,q1⟩=>aK (ho pins s1 σ H1 _ I1 q1) fun u s2 ⟨x,H2,I2,rx,a,ov,ex,g,q2⟩=>?_;subst ex;obtain rfl:u=Value.ref a:=rx;exact WO hu I2 g ry fun s3 I3=>⟨.bl ov.isSome,H2,I3,rfl,q2⟩
theorem Dk(hu:X.A.units+1<cLine)(hi:PE X i ty)(ho:PE X o td):PC X .NotIn i o (WW ty td):=by intro pins s σ H Q I h;refine aK (hi pins s σ H _ I h) fun iv s1 ⟨y,H1,I1,ry,q1⟩=>aK (ho pins s1 σ H1 _ I1 q1) fun u s2 ⟨x,H2,I2,rx,a,ov,ex,g,q2⟩=>?_;subst ex;obtain rfl:u=Value.ref a:=rx;exact WQ hu I2 g ry fun s3 I3=>⟨.bl (!ov.isSome),H2,I3,rfl,q2⟩
theorem wZ(hu:X.A.units+1<cLine)(ho:PE X o td)(hi:PE X i ty)(hv:PE X value tv)(hs:swapsWith value (some (.Subscript o i pos')) pos.line X.env=pure false) :
  PS X (.Assign [.Subscript o i pos'] value pos) (WX td ty tv):=by
 intro pins s σ H D I h;refine wpAny_Assign_Subscript (aK (hv pins s σ H _ I h) fun r s1 ⟨v,H1,I1,rv,q1⟩=>aK (ho pins s1 σ H1 _ I1 q1) fun u s2 ⟨x,H2,I2,rx,q2⟩=>aK (hi pins s2 σ H2 _ I2 q2) fun iv s3 ⟨y,H3,I3,ry,a,H4,ex,g,q3⟩=>?_) hs;subst ex;obtain rfl:u=Value.ref a:=rx;exact WR hu I3 g ry rv fun s4 I4=>⟨σ,H4,I4,q3⟩
end
theorem Nw(h:Heap)(hb:sysModules<h.objs.size):cj P w H (h.push {cls:=.type "dict",data:=.dict #[]}) h.objs.size (.dK []):=
 ⟨cf _,y7.mpr (Ne.symm (bW hb)),[],.nil,Heap.DictOf.new h⟩
theorem WZ(h:Heap)(hb:sysModules<h.objs.size):cj P w H (h.push {cls:=.type "dict",data:=.dict #[]}) h.objs.size (.dT []):=
 ⟨cf _,y7.mpr (Ne.symm (bW hb)),[],.nil,_,#[],0,dE _ rfl,⟨rfl,rfl,rfl⟩,rfl,rfl,l6⟩
def W0:TE:=fun _ H Q=>∀p,H p=none→Q (.ref p) (upd H p (.dK []))
def W2:TE:=fun _ H Q=>∀p,H p=none→Q (.ref p) (upd H p (.dT []))
section
variable {X:Cx} {pos:Pos}
theorem W3:PE X (.Dict [] [] pos) W0:=fun pins s σ H Q I h=>wpAny_Dict_empty ⟨.ref s.heap.objs.size,_,I.laid (a:=s.heap.objs.size) (o:=.dK []) (t':=s.toks) (fun _ _ q=>bX _ q) (aC _) (Nw s.heap I.big),rfl,h _ (I.ay.fresh (aC _))⟩
theorem W4:PE X (.Dict [] [] pos) W2:=fun pins s σ H Q I h=>wpAny_Dict_empty ⟨.ref s.heap.objs.size,_,I.laid (a:=s.heap.objs.size) (o:=.dT []) (t':=s.toks) (fun _ _ q=>bX _ q) (aC _) (WZ s.heap I.big),rfl,h _ (I.ay.fresh (aC _))⟩
end
def HA:List (TE×TE)→St→Hp→(List (V×V)→Hp→Prop)→Prop
 | [],_,H,Q=>Q [] H
 | (tk,tv)::r,σ,H,Q=>tk σ H fun x H1=>tv σ H1 fun y H2=>HA r σ H2 fun ps H3=>Q ((x,y)::ps) H3
abbrev VV:List (V×V)→List (Value×Value)→Prop:=Paired fun p q=>RelV p.1 q.1∧RelV p.2 q.2
def Dl(X:Cx)(pos:Pos)(keys:List (Option Expr))(values:List Expr)(pR:List (TE×TE)):Prop:=
 ∀(pins:aV) (s:Shared) (σ:St) (H:Hp) (Q:List (V×V)→Hp→Prop),Inv X pins σ H s→HA pR σ H Q→
  wpAny (model X.prog X.w) X.A (evalPairs (pairTrees keys values X.env pos)) (fun vs s'=>∃ps H',Inv X pins σ H' s'∧VV ps vs∧Q ps H') X.xe s
theorem Nx:Dl X pos [] [] []:=fun pins s σ H Q I h=>pairTrees_nil_walk ⟨[],H,I,.nil,h⟩
variable {pR:List (TE×TE)}
theorem HB{k v:Expr}{ks:List (Option Expr)}{vs:List Expr}{tk tv:TE}(hk:PE X k tk)(hv:PE X v tv)(hr:Dl X pos ks vs pR) :
  Dl X pos (some k::ks) (v::vs) ((tk,tv)::pR):=fun pins s σ H Q I h=>
 pairTrees_cons_walk (aK (hk pins s σ H _ I h) fun u s1 ⟨x,H1,I1,rx,q1⟩=>aK (hv pins s1 σ H1 _ I1 q1) fun w2 s2 ⟨y,H2,I2,ry,q2⟩=>aK (hr pins s2 σ H2 _ I2 q2) fun ws s3 ⟨ps,H3,I3,rel,q3⟩=>⟨(x,y)::ps,H3,I3,.cons ⟨rx,ry⟩ rel,q3⟩)
def mT(kvs more:List (Key×V)):List (Key×V):=more.foldl (fun acc kv=>putK acc kv.1 kv.2) kvs
theorem KV.merge:∀{more:List (Key×V)} {rs:List (Key×Value)} {kvs:List (Key×V)} {vs:List (Key×Value)},KV more rs→KV kvs vs→KV (mT kvs more) (merged vs rs):=by
 intro more rs kvs vs r;unfold KV at r
 induction r generalizing kvs vs with
 | nil=>intro q;exact q
 | @cons p q ps qs h t ih=>
  intro r0;have e:KV (putK kvs p.1 p.2) (stored vs q.1 q.2):=by have:=r0.put p.1 h.2;rw [←h.1];exact this
  exact ih e
theorem Ny:∀(more kvs:List (Key×V)),(mT kvs more).length≤kvs.length+more.length
 | [],kvs=>by show kvs.length≤kvs.length+0;lia
 | p::r,kvs=>by have h1:=Ny r (putK kvs p.1 p.2);have h2:=Hs kvs p.1 p.2;show (mT (putK kvs p.1 p.2) r).length≤_;rw [d8];lia
theorem Nz{P:Program}{w:World}:∀{kvs:List (Key×V)} {ws:List (Value×Value)},VV (kvs.map fun kv=>(kV kv.1,kv.2)) ws→∃rs,Carries (gr P w) ws rs∧KV kvs rs
 | [],_,r=>by rw [y_] at r;cases r;exact ⟨[],True.intro,.nil⟩
 | p::kvs,_,r=>by
  rw [du] at r;cases r with
  | @cons a b as bs h t=>obtain ⟨rs,c,q⟩:=Nz (P:=P) (w:=w) t;obtain ⟨b1,b2⟩:=b;exact ⟨(p.1,b2)::rs,⟨wX h.1,rfl,c⟩,.cons ⟨rfl,h.2⟩ q⟩
def W5(pR:List (TE×TE)):TE:=fun σ H Q=>∀p,H p=none→HA pR σ (upd H p (.dK [])) fun ps H2=>H2 p=some (.dK [])∧∃kvs:List (Key×V),ps=kvs.map (fun kv=>(kV kv.1,kv.2))∧kvs.length≤15∧Q (.ref p) (upd H2 p (.dK (mT [] kvs)))
theorem NA{keys:List (Option Expr)}{values:List Expr}(h:Dl X pos keys values pR)(GB:keys.all (·.isSome)=true)(hl:keys.length=values.length)(h0:keys≠[])
  (W6:keys.length≤15):PE X (.Dict keys values pos) (W5 pR):=by
 intro pins s σ H Q I q;have hn:=I.ay.fresh (aC s.heap.objs.size);have I1:=I.laid (a:=s.heap.objs.size) (o:=.dK []) (h':=s.heap.push {cls:=.type "dict",data:=.dict #[]}) (t':=s.toks) (fun _ _ q=>bX _ q) (aC _) (Nw s.heap I.big);refine wpAny_Dict_walk (knd:=gr X.prog X.w) GB hl h0 W6 (aK (h pins _ σ _ _ I1 (q _ hn)) fun ws s2 ⟨ps,H2,I2,rel,e,kvs,ep,lk,q2⟩=>?_);subst ep;obtain ⟨rs,c,rk⟩:=Nz (P:=X.prog) (w:=X.w) rel;obtain ⟨z,hd,vs0,r0,dd⟩:=Nt I2.ay e;cases r0;refine ⟨rs,c,dd,fun h' qT hs=>⟨.ref s.heap.objs.size,_,?_,rfl,q2⟩⟩;have hz:(mT [] kvs).length≤sizeLine:=by have h1:=Ny kvs [];rw [vF] at h1;rw [iZ];lia
 have he:∃q,h'.get? s.heap.objs.size=some q:=let ⟨q,_,_,hq,_⟩:=qT;⟨q,hq⟩
 exact Hu I2 (by rw [e];exact True.intro) hs he (Nu hz hd (rk.merge .nil) qT)
section
variable {X:Cx} {pins:aV} {σ:St} {H:Hp} {s:Shared} {a:Addr} {y d:V} {u r:Value} {o:Option V} {A:Around} {E:aO}
end
section
variable {X:Cx} {o e f:Expr} {apos gU:Pos} {td ty tx:TE}
end
section
variable {X:Cx} {pins:aV} {σ:St} {H:Hp} {s:Shared} {a:Addr} {kvs:List (Key×V)} {A:Around} {E:aO}
end
section
variable {X:Cx} {pins:aV} {σ:St} {H:Hp} {s:Shared} {a:Addr} {y:V} {u:Value} {A:Around} {E:aO}
end
end L2
namespace Att
open PySem PySem.W PySem.Calls PyProof.Rows
section
variable {prog:Program} {w:World} {A:Around} {E:aO} {s:Shared} {K:Frag}
end
end Att
namespace L2
open PySem PySem.Spec PyProof.Rows
section
variable {P:Program} {w:World} {K:aF} {mg:dh} {base:Heap}
end
section
variable {X:Cx}
end
section
variable {κ:Type} [DecidableEq κ]
end
def rA(o:Obj):Nat:=match o.data with
 | .dict _ ep=>ep
 | _=>0
def jR(a:Addr)(o:Obj)(kvs:List (Key×V)):It:=
 ⟨fun i H=>H a=some (.bg o (.dK kvs))∧i<kvs.length,fun i H x H'=>H'=H∧∃kv,kvs[i]?=some kv∧x=kV kv.1,fun i H=>H a=some (.bg o (.dK kvs))∧kvs.length≤i⟩
theorem W7{k:Key}{v:Value}(h:sO k v=true):RelV (kV k) v:=by
 rcases nQ h with ⟨i,t,rfl,rfl⟩ | ⟨x,t,rfl,rfl⟩;·exact ⟨t,rfl⟩
 ·exact ⟨t,rfl⟩
theorem NB{kvs:List (Key×V)}{vs:List (Key×Value)}:∀{i:Nat} {kv:Key×V},KV kvs vs→kvs[i]?=some kv→∃v,vs[i]?=some (kv.1,v)
 | _,_,.nil,h=>by simp at h
 | 0,kv,.cons (b:=b) r _,h=>by simp at h;subst h;obtain ⟨k,v⟩:=b;have e:_=k:=r.1;exact ⟨v,by rw [e];rfl⟩
 | i+1,kv,.cons _ t,h=>by simp at h;obtain ⟨v,e⟩:=NB t h;exact ⟨v,by simpa using e⟩
section
variable {X:Cx} {pins:aV} {σ:St} {H:Hp} {s:Shared}
theorem Inv.HC{a:Addr}{o:Obj}{kvs:List (Key×V)}(I:Inv X pins σ H s)(h:H a=some (.bg o (.dK kvs))):∃vs,KV kvs vs∧s.heap.DictAt (gr X.prog X.w) a vs (rA o):=by obtain ⟨g,_,_,vs,r,o',es,ep,g',c,d,rest⟩:=(show cj X.prog X.w H s.heap a (.bg o (.dK kvs)) from I.ay a _ h);rw [g] at g';cases g';refine ⟨vs,r,o,es,g,c,?_,rest⟩;rw [d];unfold rA;rw [d]
end
theorem W8{P:Program}{w:World}{K:aF}{tg:Expr}(a it:Addr)(o:Obj)(kvs:List (Key×V)):Turn P w K tg (jR a o kvs) [it] it (fun i h=>h.IsKeyIter it a i kvs.length (rA o)) where
 mem:=by simp
 obj:=fun i h st b hb=>by
  have e:b=it:=by simpa using hb
  subst e;obtain ⟨o,e,c,d⟩:=st;exact ⟨o,e,fun v z=>by rw [d] at z;cases z⟩
 keep:=fun i h h' st k=>by obtain ⟨o,e,c,d⟩:=st;exact ⟨o,k it (by simp) o e,c,d⟩
 item:=by
  intro X hP hw hK hc i pins s σ H E I hf st hg;subst hP hw hK;obtain ⟨eH,hi⟩:=hg;obtain ⟨vs,r,hm⟩:=I.HC eH;have lr:kvs.length=vs.length:=Paired.length r;have ek:kvs[i]?=some kvs[i]:=by simp [hi]
  obtain ⟨v,ev⟩:=NB r ek;obtain ⟨f0,f1,f2,f3,f4,f5⟩:=hf it (by simp)
  rw [lr] at st;refine wpAny_pyNext_dict_item st hm ev fun key h' hk aB sb=>?_;have I1:Inv X pins σ H {s with heap:=h'}:=I.turned (t':=s.toks) (fun b o hb e=>(sb.2 b hb).trans e) f0 f1 f3 f4 f5;obtain ⟨o',e,c,d⟩:=id aB;rw [←lr] at aB;exact ⟨key,rfl,Cw (s:={s with heap:=h'}) e c d (by decide) ⟨kV kvs[i].1,H,I1,W7 hk,⟨rfl,_,ek,rfl⟩,aB,fun b hb=>(hf b hb).1⟩⟩
 done:=by
  intro X hP hw hK hc i pins s σ H E I hf st hg;subst hP hw hK;obtain ⟨eH,hi⟩:=hg;obtain ⟨vs,r,hm⟩:=I.HC eH;have lr:kvs.length=vs.length:=Paired.length r;obtain ⟨f0,f1,f2,f3,f4,f5⟩:=hf it (by simp)
  rw [lr] at st;exact wpAny_pyNext_dict_end (I.ok.hd hc) st hm (by simp;lia) fun h' eb=>⟨rfl,I.turned (t':=s.toks) (fun b o hb e=>eb b o hb e) f0 f1 f3 f4 f5⟩
 self:=fun _ _ _ _ _ st h=>wpAny_pyIter_keyiter st h
section
variable {X:Cx} {tg:Expr}
def HD(tl:TE):TI:=fun σ H R=>tl σ H fun x H1=>∃a kvs,x=.ref a∧((H1 a=some (.dK kvs)∧∀o,R (jR a o kvs) (upd H1 a (.bg o (.dK kvs))))∨∃o,H1 a=some (.bg o (.dK kvs))∧R (jR a o kvs) H1)
theorem tR{l:Expr}{tl:TE}(hl:PE X l tl):PI X tg l (HD tl):=by
 intro pins s σ H R I h;refine aK (hl pins s σ H _ I h) fun v s1 ⟨x,H1,I1,r1,q1⟩=>?_;obtain ⟨a,kvs,e,q⟩:=q1;subst e;cases r1;have main:∀{H2:Hp} {o:Obj},Inv X pins σ H2 s1→H2 a=some (.bg o (.dK kvs))→R (jR a o kvs) H2→wpAny (model X.prog X.w) X.A (pyIter (.ref a)) (Gd X pins σ tg R) X.xe s1:=fun{H2 o} I2 eH q=>by
  obtain ⟨vs,r,hm⟩:=I2.HC eH;obtain ⟨_,_,sys,_⟩:=(show cj X.prog X.w H2 s1.heap a (.bg o (.dK kvs)) from I2.ay a _ eH);have lr:kvs.length=vs.length:=Paired.length r;refine wpAny_pyIter_dict sys hm ?_;refine ⟨s1.heap.objs.size,[s1.heap.objs.size],_,_,H2,rfl,I2.kept (t':=s1.toks) fun b o e=>bX _ e,W8 a _ o kvs,⟨_,dE _ rfl,rfl,by rw [lr];rfl⟩,fun b hb=>?_,q⟩
  have e:b=s1.heap.objs.size:=by simpa using hb
  subst e;exact I2.pB (aC _) (I2.ay.fresh (aC _))
 rcases q with ⟨eH,q⟩ | ⟨o,eH,q⟩
 ·obtain ⟨hz,sys,vs,r,o,es,ep,g,c,d,rest⟩:=(show cj X.prog X.w H1 s1.heap a (.dK kvs) from I1.ay a _ eH)
  refine main (H2:=upd H1 a (.bg o (.dK kvs))) ?_ ax (q o);exact I1.write (t':=s1.toks) (x:=a) (e:=a) (by rw [eH];exact trivial) (.inl rfl) (fun b u _ e=>e) ⟨o,g⟩ ⟨g,hz,sys,vs,r,o,es,ep,g,c,d,rest⟩
 ·exact main I1 eH q
end
theorem HE:∀{us:List Value} {ns:List Int},IntsAre us ns→Vals (ns.map V.int) us
 | _,_,.nil=>.nil
 | _,_,.cons a u r=>.cons ⟨u,rfl⟩ (HE r)
def W9:List V→Hp→VK→Prop:=fun xs H Q=>∃(a:Addr) (zs:List Int),xs=[.ref a]∧H a=some (.lst (zs.map V.int))∧zs.length<64∧∀(ws:List Int) (D:Addr),ws.Perm zs→ws.Pairwise (·≤·)→H D=none→Q (.ref D) (upd H D (.lst (ws.map V.int)))
theorem Dm{X:Cx}:gy X (.builtin "sorted") W9:=by
 intro pins s σ H xs us Q I r h;obtain ⟨a,zs,rfl,ha,AJ,k⟩:=h;obtain ⟨u,rfl,ru⟩:=vals1 r;cases ru;obtain ⟨its,rv,pl,hz⟩:=I.list (.of ha);have hl:=rv.length;rw [aD] at hl;refine sorted_ints pl.isList (intsAre_of rv) (by lia) fun out kY a1 a2 a3=>?_
 obtain ⟨e,he⟩:=sortedAll_at s.heap its out;refine ⟨.ref (s.heap.objs.size+1),_,I.laid (t':=s.toks) (o:=.lst (kY.map .int)) (fun _ _=>sortedAll_old) (oS _) ⟨?_,out.toList,e,HE a1,?_⟩,rfl,k kY _ a2 a3 (I.ay.fresh (oS _))⟩
 ·rw [aD,a2.length_eq]
  rw [iZ];lia
 ·simpa using he
end L2
namespace My
open PySem L2
def dk(ks:List Nat):List (Key×V):=ks.map fun k:Nat=>((Sum.inl (k:Int):Key),V.bl true)
def dI(ks:List Nat)(k:Nat):List Nat:=if k∈ks then ks else ks++[k]
theorem NC{a b:Nat}:((Sum.inl (a:Int):Key)=Sum.inl (b:Int))↔a=b:=by
 constructor
 ·intro h
  have:=Sum.inl.inj h;lia
 ·rintro rfl;rfl
theorem Dn(ks:List Nat):(dk ks).length=ks.length:=aD _
theorem W_(ks:List Nat)(k:Nat):((dk ks).any fun kv=>decide (kv.1=(Sum.inl (k:Int):Key)))=decide (k∈ks):=by
 rw [qp,zp,eY];constructor
 ·rintro ⟨kv,h1,h2⟩
  obtain ⟨j,hj,rfl⟩:=bG.mp h1;have:=NC.mp (fB h2);subst this;exact hj
 ·intro h
  exact ⟨_,bG.mpr ⟨k,h,rfl⟩,bA rfl⟩
theorem ND(ks:List Nat)(k:Nat):putK (dk ks) (Sum.inl (k:Int):Key) (V.bl true)=dk (dI ks k):=by
 unfold putK dI;rw [W_];by_cases h:k∈ks
 ·rw [ae (bA h),ae h]
  unfold dk;rw [cM];refine hE fun j _=>?_;show (if _ then _ else _)=_
  split <;> rfl
 ·rw [aa (by rw [eY];exact h),aa h]
  unfold dk;rw [eX];rfl
theorem HF(ks:List Nat)(k:Nat):fv (dk ks) (Sum.inl (k:Int):Key)=if k∈ks then some (V.bl true) else none:=by
 induction ks with
 | nil=>simp [dk,fv]
 | cons j r ih=>
  by_cases h:j=k
  ·subst h
   rw [ae (cG ..)];exact AO rfl
  ·show fv ((Sum.inl (j:Int),V.bl true)::dk r) _=_
   rw [AQ (fun e=>h (NC.mp e)),ih];by_cases m:k∈r;·rw [ae m,ae (cx _ m)]
   ·rw [aa m,aa (fun x=>by rcases bw.mp x with e | e;exact h e.symm;exact m e)]
variable {ks:List Nat} {k j:Nat}
theorem jS:j∈dI ks k↔j∈ks∨j=k:=by
 unfold dI;by_cases h:k∈ks
 ·rw [ae h]
  constructor;·exact .inl
  ·rintro (e | rfl)
   ·exact e
   ·exact h
 ·rw [aa h,dW,cy]
theorem Xa(h:ks.Nodup):(dI ks k).Nodup:=by
 unfold dI;by_cases m:k∈ks;·rw [ae m];exact h
 ·rw [aa m]
  refine jz.mpr ⟨h,(by simp),fun a ha b hb=>?_⟩
  rw [cy] at hb;subst hb;rintro rfl;exact m ha
def jl(n:Nat)(ks:List Nat):Prop:=ks.Nodup∧∀k∈ks,k<n
theorem jl.nil(n:Nat):jl n []:=⟨l6,fun _ h=>by cases h⟩
variable {n:Nat}
theorem jl.add(h:jl n ks)(hk:k<n):jl n (dI ks k):=⟨Xa h.1,fun j hj=>by
 rcases jS.mp hj with e | rfl;·exact h.2 j e
 ·exact hk⟩
theorem HG:∀{n:Nat} {ks:List Nat},ks.Nodup→(∀k∈ks,k<n)→ks.length≤n
 | 0,ks,_,h=>by
  cases ks with
  | nil=>exact aC _
  | cons a r=>exact absurd (h a (cG ..)) (oT _)
 | n+1,ks,nd,h=>by
  have e:=HG (n:=n) (ks:=ks.erase n) (nd.erase n) (fun k hk=>by have m:=(List.Nodup.mem_erase_iff nd).mp hk;have:=h k m.2;have:=m.1;lia)
  by_cases hm:n∈ks
  ·have:=FV hm
   lia
  ·rw [List.erase_of_not_mem hm] at e
   lia
theorem jl.len(h:jl n ks):ks.length≤n:=HG h.1 h.2
structure eK (H:Hp) (D:Addr) (n:Nat) (ds:Nat→Addr) (un:Nat→Prop) (f:Nat→List Nat):Prop where
 lst:H D=some (.lst ((List.range n).map fun i=>V.ref (ds i)))
 inj:∀i j,i<n→j<n→ds i=ds j→i=j
 ne:∀i,i<n→ds i≠D
 at':∀i,i<n→un i→H (ds i)=some (.dK (dk (f i)))
 pl:∀i,i<n→jl n (f i)
def gF(f:Nat→List Nat)(i:Nat)(ks:List Nat):Nat→List Nat:=fun j=>if j=i then ks else f j
variable {H:Hp} {D:Addr} {ds:Nat→Addr} {f:Nat→List Nat} {i:Nat}
theorem eK.put{un:Nat→Prop}(h:eK H D n ds un f)(hi:i<n)(hj:j<n)(ui:un i)(hn:n≤1000) :
  wY H (ds i) (.int (j:Int)) (.bl true) (upd H (ds i) (.dK (dk (dI (f i) j))))∧eK (upd H (ds i) (.dK (dk (dI (f i) j)))) D n ds un (gF f i (dI (f i) j)):=by
 refine ⟨.inl ⟨dk (f i),Sum.inl (j:Int),h.at' i hi ui,rfl,?_,by rw [ND]⟩,?_,h.inj,h.ne,fun k hk uk=>?_,fun k hk=>?_⟩
 ·rw [Dn]
  have:=(h.pl i hi).len;exact i4 this (i4 hn (by rw [iZ];decide))
 ·rw [aH (Ne.symm (h.ne i hi))]
  exact h.lst
 ·unfold gF
  by_cases e:k=i
  ·subst e
   rw [ae rfl,ax]
  ·rw [aa e,aH (fun z=>e (h.inj k i hk hi z))]
   exact h.at' k hk uk
 ·unfold gF
  by_cases e:k=i;·rw [ae e];exact (h.pl i hi).add hj
  ·rw [aa e];exact h.pl k hk
theorem eK.ix{un:Nat→Prop}(h:eK H D n ds un f)(hi:i<n):k4 ((List.range n).map fun i=>V.ref (ds i)) (i:Int)=some (V.ref (ds i)):=
 n_ (by rw [bo,jy hi];rfl)
def dD(n:Nat)(L:ar):Prop:=∀p∈L,0≤p.1∧p.1<(n:Int)∧0≤p.2∧p.2<(n:Int)
def gZ(n:Nat)(L:ar)(f:Nat→List Nat):Prop:=∀i j:Nat,i<n→(j∈f i↔((i:Int),(j:Int))∈L∨((j:Int),(i:Int))∈L)
theorem gZ.nil(n:Nat):gZ n [] (fun _=>[]):=fun i j _=>by simp
theorem gZ.more{L:ar}(h:gZ n L f)(hi:i<n)(hj:j<n):gZ n (L++[((i:Int),(j:Int))]) (gF (gF f i (dI (f i) j)) j (dI (gF f i (dI (f i) j) j) i)):=fun a b ha=>by
 have e1:∀x y:Nat,y∈gF f i (dI (f i) j) x↔y∈f x∨(x=i∧y=j):=fun x y=>by
  unfold gF;by_cases e:x=i
  ·subst e
   rw [ae rfl,jS];simp
  ·rw [aa e]
   simp [e]
 have e2:b∈gF (gF f i (dI (f i) j)) j (dI (gF f i (dI (f i) j) j) i) a↔b∈gF f i (dI (f i) j) a∨(a=j∧b=i):=by
  unfold gF;by_cases e:a=j
  ·subst e
   rw [ae rfl,jS];simp
  ·rw [aa e]
   simp [e]
 rw [e2,e1,h a b ha];simp only [dW,cy,Prod.mk.injEq];constructor
 ·rintro ((e | e) | ⟨rfl,rfl⟩)
  ·rcases e with e | e
   ·exact .inl (.inl e)
   ·exact .inr (.inl e)
  ·exact .inl (.inr ⟨by lia,by lia⟩)
  ·exact .inr (.inr ⟨rfl,rfl⟩)
 ·rintro ((e | ⟨e1,e2⟩) | (e | ⟨e1,e2⟩))
  ·exact .inl (.inl (.inl e))
  ·exact .inl (.inr ⟨by lia,by lia⟩)
  ·exact .inl (.inl (.inr e))
  ·exact .inr ⟨by lia,by lia⟩
def Xb:Sp:=fun vs H Q _=>∃(t:Addr) (n:Nat) (L:ar),vs=[.ref t]∧cJ H t n L∧dD n L∧n≤1000 ∧
 ∀(H':Hp) (D:Addr) (ds:Nat→Addr) (f:Nat→List Nat),ak H H'→H D=none→(∀i,i<n→H (ds i)=none)→eK H' D n ds (fun _=>True) f→gZ n L f→Q (.ref D) H'
end My
namespace L2
open PySem PySem.Spec PyProof.Rows
def Xc(K:aF):R2:=fun x y H Q=>∃(a b:Addr) (xs ys:List Int),x=.ref a∧y=.ref b∧aZ K H a (xs.map V.int)∧aZ K H b (ys.map V.int)∧Q (.bl (decide (xs=ys))) H
theorem Xd{X:Cx}(hu:X.A.units+64<cLine):cX X (compareOp .Eq) (Xc X.K):=by
 intro pins s σ H x y v u Q I rx ry h;obtain ⟨a,b,xs,ys,rfl,rfl,h1,h2,q⟩:=h;cases rx;cases ry;obtain ⟨us,r1,t1,_⟩:=I.list h1;obtain ⟨vs,r2,t2,_⟩:=I.list h2;have l1:=r1.length;have l2:=r2.length;rw [aD] at l1 l2;by_cases hl:xs.length=ys.length
 ·refine SeqAt.RcAt.lists (e:=fun j=>fj (.int (xs.getD j 0)) (.int (ys.getD j 0))) t1.isList t2.isList (by simp;lia) (by lia) (fun j z1 z2=>?_) _ _ _ _ ?_
  ·have tH:j<us.length:=by simpa using z1
   have GV:j<vs.length:=by simpa using z2
   have ex:(xs.map V.int)[j]?=some (.int (xs.getD j 0)):=by rw [bo,cg];simp [show j<xs.length by lia]
   have ey:(ys.map V.int)[j]?=some (.int (ys.getD j 0)):=by rw [bo,cg];simp [show j<ys.length by lia]
   obtain ⟨x',mh,rx⟩:=r1.get ex;obtain ⟨y',pL,ry⟩:=r2.get ey;have e1:us.toArray[j]=x':=by simpa using (bJ.mp mh).2
   have e2:vs.toArray[j]=y':=by simpa using (bJ.mp pL).2
   rw [e1,e2];exact qR rx ry rfl rfl
  ·rw [show us.toArray.size=xs.length by simp;lia,MR hl]
   exact ⟨.bl (decide (xs=ys)),H,I,rfl,q⟩
 ·rw [bO (fun e=>hl (by rw [e]))] at q
  refine SeqAt.RcAt.lists_lengths t1.isList t2.isList ?_ (by lia) _ _ _ _ ⟨.bl false,H,I,rfl,q⟩
  simp;lia
end L2
namespace My
open PySem L2
def iN(k:Nat):Int:=(k:Int)
def lF(zs:List Int)(n:Nat):Prop:=zs.Perm ((List.range n).map iN)
instance (zs:List Int) (n:Nat):Decidable (lF zs n):=by unfold lF;exact inferInstance
theorem Xe(n:Nat):((List.range n).map iN).Pairwise (·≤·):=by rw [jA];exact List.Pairwise.imp (fun h=>by unfold iN;lia) B8
variable {ws zs:List Int} {n:Nat}
theorem Xf(p:ws.Perm zs)(o:ws.Pairwise (·≤·)):decide (ws=(List.range n).map iN)=decide (lF zs n):=by
 by_cases h:lF zs n
 ·rw [bA h]
  refine bA ?_;exact (p.trans h).eq_of_pairwise (fun a b _ _ h1 h2=>by lia) o (Xe n)
 ·rw [bO h]
  refine bO fun e=>h ?_;subst e;exact p.symm
def Xg:Sp:=fun vs H Q _=>∃(a:Addr) (zs:List Int) (n:Nat),vs=[.ref a,.int (n:Int)]∧H a=some (.lst (zs.map V.int))∧zs.length<64∧n≤1000∧(∀H',ak H H'→Q (.bl (decide (lF zs n))) H')
def Xh(N:Addr):Sp:=fun vs H Q E=>∃(a:Addr) (zs:List Int) (n:Nat),vs=[.ref a,.int (n:Int)]∧H a=some (.lst (zs.map V.int))∧zs.length<64∧n≤1000 ∧
 (¬lF zs n→∀H',ak H H'→E (.ref N) none H')∧(lF zs n→∀H',ak H H'→Q .aR H')
def Xi(H:Hp)(a:Addr)(n:Nat)(o:List Nat):Prop:=H a=some (.lst (o.map fun k:Nat=>V.int (k:Int)))∧o.Perm (List.range n)
def Xj:Sp:=fun vs H Q _=>∃(a:Addr) (n:Nat) (o:List Nat),vs=[.ref a]∧Xi H a n o∧n≤1000 ∧
 ∀(r:Addr) (H':Hp),ak H H'→H r=none→H' r=some (.lst ((List.range n).map fun p=>V.int (o.idxOf p:Int)))→Q (.ref r) H'
variable {H H1:Hp} {D:Addr}
theorem Xk(s:ak H H1)(e:H1 D=none):H D=none:=by
 cases z:H D with
 | none=>rfl
 | some o=>rw [s _ _ z] at e;cases e
theorem tS(s:ak H H1){o:HO}(e:H1 D=none):ak H (upd H1 D o):=gD s (Xk s e)
variable {k:Nat}
theorem NF(h:k<n):n8 n (k:Int)=some k:=by unfold n8;rw [ae (by lia),ae (by lia),cZ]
def lG(o:List Nat)(k p:Nat):Int:=if o.idxOf p<k then (o.idxOf p:Int) else 0
variable {o:List Nat}
theorem pU(h:o.Perm (List.range n)):o.Nodup:=h.nodup_iff.mpr fU
theorem w5(h:o.Perm (List.range n)):o.length=n:=by rw [h.length_eq,c_]
variable {p:Nat}
theorem gG(h:o.Perm (List.range n)):p∈o↔p<n:=by rw [h.mem_iff,aU]
theorem Dp(nd:o.Nodup)(hk:k<o.length):o.idxOf o[k]=k:=nd.idxOf_getElem k hk
theorem AW(h:p∈o):∃hk:o.idxOf p<o.length,o[o.idxOf p]=p:=⟨oW h,List.getElem_idxOf _⟩
theorem Xl(h:o.Perm (List.range n))(hk:k<o.length):((List.range n).map fun p=>V.int (lG o k p)).set o[k] (.int (k:Int))=(List.range n).map fun p=>V.int (lG o (k+1) p):=by
 have nd:=pU h;refine fT (by simp) fun q h1 h2=>?_
 have hq:q<n:=by simpa using h2
 rw [List.getElem_set];by_cases e:o[k]=q
 ·rw [ae e]
  simp only [e_,nM];unfold lG;rw [←e,Dp nd hk,ae (B5 k)]
 ·rw [aa e]
  simp only [e_,nM];unfold lG;have ne:o.idxOf q≠k:=fun z=>by obtain ⟨hz,ez⟩:=AW ((gG h).mpr hq);subst z;exact e ez
  by_cases z:o.idxOf q<k;·rw [ae z,ae (by lia)]
  ·rw [aa z,aa (by lia)]
theorem Xm(n:Nat)(o:List Nat):(List.replicate n [V.int 0]).flatten=(List.range n).map fun p=>V.int (lG o 0 p):=by
 have e:∀n:Nat,(List.replicate n [V.int 0]).flatten=List.replicate n (V.int 0):=fun n=>by
  induction n with
  | zero=>rfl
  | succ n ih=>rw [qr,vG,ih];rfl
 rw [e];refine fT (by simp) fun q h1 h2=>?_
 simp [lG]
theorem Xn(h:o.Perm (List.range n)):(List.range n).map (fun p=>V.int (lG o o.length p))=(List.range n).map fun p=>V.int (o.idxOf p:Int):=by refine hE fun p hp=>?_;unfold lG;rw [ae (oW ((gG h).mpr (aU.mp hp)))]
def rB(n:Nat)(ds:Nat→Addr)(un:Nat→Prop)(H H':Hp):Prop:=∀b o,H b=some o→(∀i,i<n→un i→b≠ds i)→H' b=some o
variable {ds:Nat→Addr}
theorem rB.refl{un:Nat→Prop}:rB n ds un H H:=fun _ _ h _=>h
variable {i:Nat}
theorem rB.put{un:Nat→Prop}(h:rB n ds un H H1)(hi:i<n)(ui:un i){o:HO}:rB n ds un H (upd H1 (ds i) o):=fun b u e k=>by rw [aH (k i hi ui)];exact h b u e k
theorem take_snoc{α:Type}{xs:List α}{x:α}(h:xs[i]?=some x):xs.take (i+1)=xs.take i++[x]:=by rw [nN,h];rfl
def iS(n:Nat)(f:Nat→List Nat)(ps:List Nat)(i j:Nat)(g:Nat→List Nat):Prop:=∀a b:Nat,a<n→(b∈g a↔b∈f a∨(a≠b∧(a∈ps.take i∧b∈ps∨ps[i]?=some a∧b∈ps.take j)))
theorem iS.start(n:Nat)(f:Nat→List Nat)(ps:List Nat):iS n f ps 0 0 f:=fun a b _=>by simp
variable {f g:Nat→List Nat} {ps:List Nat}
theorem iS.row(h:iS n f ps i ps.length g):iS n f ps (i+1) 0 g:=fun a b ha=>by
 rw [h a b ha,iD];cases e:ps[i]? with
 | none=>
  have:ps.length≤i:=FD.mp e;rw [zg this,zg (by lia)]
  simp
 | some x=>
  rw [take_snoc e];simp only [dW,cy,zq,List.take_zero,gp,and_false,j7];constructor
  ·rintro (z | ⟨z,z1 | z1⟩)
   ·exact .inl z
   ·exact .inr ⟨z,.inl z1.1,z1.2⟩
   ·exact .inr ⟨z,.inr z1.1.symm,z1.2⟩
  ·rintro (z | ⟨z,z1 | z1,z2⟩)
   ·exact .inl z
   ·exact .inr ⟨z,.inl ⟨z1,z2⟩⟩
   ·exact .inr ⟨z,.inr ⟨z1.symm,z2⟩⟩
variable {j:Nat}
theorem iS.same{x:Nat}(h:iS n f ps i j g)(hi:ps[i]?=some x)(hj:ps[j]?=some x):iS n f ps i (j+1) g:=fun a b ha=>by
 rw [h a b ha,take_snoc hj];simp only [dW,cy,hi,zq];constructor
 ·rintro (z | ⟨z,z1 | z1⟩)
  ·exact .inl z
  ·exact .inr ⟨z,.inl z1⟩
  ·exact .inr ⟨z,.inr ⟨z1.1,.inl z1.2⟩⟩
 ·rintro (z | ⟨z,z1 | ⟨z1,z2 | z2⟩⟩)
  ·exact .inl z
  ·exact .inr ⟨z,.inl z1⟩
  ·exact .inr ⟨z,.inr ⟨z1,z2⟩⟩
  ·exact absurd (z1.symm.trans z2.symm) z
theorem iS.put{x y:Nat}(h:iS n f ps i j g)(hi:ps[i]?=some x)(hj:ps[j]?=some y)(ne:x≠y):iS n f ps i (j+1) (gF g x (dI (g x) y)):=fun a b ha=>by
 have e1:b∈gF g x (dI (g x) y) a↔b∈g a∨(a=x∧b=y):=by
  unfold gF;by_cases e:a=x
  ·subst e
   rw [ae rfl,jS];simp
  ·rw [aa e]
   simp [e]
 rw [e1,h a b ha,take_snoc hj];simp only [dW,cy,hi,zq];constructor
 ·rintro ((z | ⟨z,z1 | z1⟩) | ⟨rfl,rfl⟩)
  ·exact .inl z
  ·exact .inr ⟨z,.inl z1⟩
  ·exact .inr ⟨z,.inr ⟨z1.1,.inl z1.2⟩⟩
  ·exact .inr ⟨ne,.inr ⟨rfl,.inr rfl⟩⟩
 ·rintro (z | ⟨z,z1 | ⟨z1,z2 | z2⟩⟩)
  ·exact .inl (.inl z)
  ·exact .inl (.inr ⟨z,.inl z1⟩)
  ·exact .inl (.inr ⟨z,.inr ⟨z1,z2⟩⟩)
  ·exact .inr ⟨z1.symm,z2⟩
theorem iS.done(h:iS n f ps ps.length 0 g):∀a b:Nat,a<n→(b∈g a↔b∈f a∨(a≠b∧a∈ps∧b∈ps)):=fun a b ha=>by rw [h a b ha,iD];simp
def Xo:Sp:=fun vs H Q _=>∃(D pl:Addr) (n:Nat) (ds:Nat→Addr) (un:Nat→Prop) (f:Nat→List Nat) (ps:List Nat),vs=[.ref D,.ref pl]∧eK H D n ds un f∧H pl=some (.lst (ps.map fun k:Nat=>V.int (k:Int)))∧(∀p∈ps,p<n∧un p)∧n≤1000 ∧
 ∀(H':Hp) (g:Nat→List Nat),rB n ds un H H'→eK H' D n ds un g→(∀a b:Nat,a<n→(b∈g a↔b∈f a∨(a≠b∧a∈ps∧b∈ps)))→Q .aR H'
theorem eK.mono{H':Hp}{un:Nat→Prop}(h:eK H D n ds un f)(s:ak H H'):eK H' D n ds un f:=⟨s _ _ h.lst,h.inj,h.ne,fun i hi ui=>s _ _ (h.at' i hi ui),h.pl⟩
theorem eK.less{un NG:Nat→Prop}(h:eK H D n ds un f)(k:∀i,i<n→NG i→un i):eK H D n ds NG f:=⟨h.lst,h.inj,h.ne,fun i hi ui=>h.at' i hi (k i hi ui),h.pl⟩
variable {x:Addr}
theorem eK.upd{un:Nat→Prop}(h:eK H D n ds un f){o:HO}(n1:x≠D)(n2:∀i,i<n→un i→ds i≠x):eK (upd H x o) D n ds un f:=⟨by rw [aH (Ne.symm n1)];exact h.lst,h.inj,h.ne,fun i hi ui=>by rw [aH (n2 i hi ui)];exact h.at' i hi ui,h.pl⟩
variable {a:Addr}
theorem Xp{o:Obj}{kvs:List (Key×V)}(h:H1 a=some (.bg o (.dK kvs))):k8 (jR a o kvs) (kvs.map fun kv=>kV kv.1) H1 where
 go:=fun i Hc s hi=>⟨s _ _ h,by simpa using hi⟩
 d_:=fun i Hc x H' s y=>⟨y.1,fun _=>by obtain ⟨kv,e,rfl⟩:=y.2;rw [bo,e];rfl⟩
 stop:=fun i Hc s hi=>⟨s _ _ h,by simpa using hi⟩
theorem Xq(ks:List Nat):(dk ks).map (fun kv=>kV kv.1)=ks.map fun k:Nat=>V.int (k:Int):=by unfold dk;rw [cM];rfl
theorem Xr(ks:List Nat):(List.range ks.length).map (fun i=>ks.getD i 0)=ks:=by
 refine fT (by simp) fun i h1 h2=>?_
 simp [cg,h2]
theorem Xs(ks:List Nat)(pr:Nat→Bool):((List.range ks.length).filter fun i=>pr (ks.getD i 0)).map (fun i=>ks.getD i 0)=ks.filter pr:=by have e:=B_ (f:=fun i=>ks.getD i 0) (l:=List.range ks.length) (p:=pr);rw [Xr] at e;exact e.symm
variable {ρ:St→St} {tt:TT} {te:TE} {σ:St} {Q:VK} {ks:List Nat}
theorem Dq{ob:Obj}(h:H a=some (.bg ob (.dK (dk ks))))(pr:Nat→Bool)(hl:ks.length<sizeLine)
  (test:∀k∈ks,∀(Hc:Hp) (R:Bool→Hp→Prop),ak H Hc→R (pr k) Hc→tt (some (.int (k:Int))::ρ σ) Hc R)
  (step:∀k∈ks,∀(Hc:Hp) (R:VK),R (.int (k:Int)) Hc→te (some (.int (k:Int))::ρ σ) Hc R)
  (fin:∀D Hc,H D=none→ak H Hc→Hc D=some (.lst ((ks.filter pr).map fun k:Nat=>V.int (k:Int)))→Q (.ref D) Hc):kj (fun _ H R=>R (jR a ob (dk ks)) H) ρ tt te σ H Q:=by
 have at':∀{i:Nat} {x:V},(ks.map fun k:Nat=>V.int (k:Int))[i]?=some x→i<ks.length∧x=.int ((ks.getD i 0:Nat):Int)∧ks.getD i 0∈ks:=fun{i x} hx=>by
  have hi:i<ks.length:=by have:=(bJ.mp hx).1;simpa using this
  rw [bo] at hx;simp [hi] at hx;rw [getD_at hi];exact ⟨hi,hx.symm,cB hi⟩
 refine WH (xs:=ks.map fun k:Nat=>V.int (k:Int)) (fun i=>pr (ks.getD i 0)) (fun R k=>k _ (by rw [←Xq];exact Xp h)) (by rw [aD];exact hl) (fun _ i y _=>y=.int ((ks.getD i 0:Nat):Int)) (fun _ _ _ _ _ _ h _ _=>h) ?_ ?_ ?_
 ·intro i x hx Hc R sc hR
  obtain ⟨_,rfl,m⟩:=at' hx;exact test _ m Hc R sc hR
 ·intro D i x hx Hc R sc _ kc
  obtain ⟨_,rfl,m⟩:=at' hx;exact step _ m Hc R (kc _ Hc (ak.refl _) rfl)
 ·intro D ys Hc nD sc ly hP eD
  refine fin D Hc nD sc ?_;rw [eD,←Xs ks pr,cM];rw [aD] at ly hP
  congr 2
  refine fT (by simpa using ly) fun k h1 h2=>?_
  have h3:k<((List.range ks.length).filter fun i=>pr (ks.getD i 0)).length:=by simpa using h2
  rw [e_];exact hP k _ _ (bP h1) (bP h3)
theorem HH(p:ws.Perm (ks.map iN)):∃ms:List Nat,ws=ms.map iN∧ms.Perm ks:=by
 refine ⟨ws.map Int.toNat,?_,?_⟩
 ·rw [cM]
  conv=>lhs;rw [←qD ws]
  refine hE fun z hz=>?_
  obtain ⟨k,_,rfl⟩:=bG.mp (p.mem_iff.mp hz)
  show iN k=iN (Int.toNat (iN k))
  unfold iN
  rw [cZ]
 ·have:=p.map Int.toNat
  rw [cM] at this
  have e:ks.map (Int.toNat ∘ iN)=ks:=by
   conv=>rhs;rw [←qD ks]
   exact hE fun k _=>cZ k
  rw [e] at this
  exact this
structure iw (n:Nat) (o:List Nat) (p:Nat) (ms:List Nat):Prop where
 up:ms.Pairwise (· < ·)
 lt:∀q∈ms,q<n
 la:∀q∈ms,o.idxOf p<o.idxOf q
theorem Xt{ms:List Nat}(hk:jl n ks)(h:ms.Perm (ks.filter fun q=>decide (o.idxOf p<o.idxOf q)))(s:(ms.map iN).Pairwise (·≤·)):iw n o p ms:=by
 have m:∀q∈ms,q∈ks∧o.idxOf p<o.idxOf q:=fun q hq=>by have:=b_.mp (h.mem_iff.mp hq);exact ⟨this.1,by simpa using this.2⟩
 refine ⟨?_,fun q hq=>hk.2 q (m q hq).1,fun q hq=>(m q hq).2⟩;have nd:ms.Nodup:=h.nodup_iff.mpr (hk.1.filter _);rw [jA] at s;refine List.Pairwise.imp₂ (fun a b h1 h2=>?_) s nd;have h1:(a:Int)≤(b:Int):=h1;have h2:a≠b:=h2;lia
def NH(H:Hp)(D:Addr)(n:Nat)(rs:Nat→Addr)(g:Nat→List Nat):Prop:=H D=some (.lst ((List.range n).map fun p=>V.ref (rs p)))∧∀p,p<n→H (rs p)=some (.lst ((g p).map fun k:Nat=>V.int (k:Int)))
theorem Xu(h:lF zs n):∃o:List Nat,zs=o.map iN∧o.Perm (List.range n):=HH h
def lH(rs:Nat→Addr)(p:Nat)(x:Addr):Nat→Addr:=fun q=>if q=p then x else rs q
theorem Xv(n:Nat)(rs:Nat→Addr)(p:Nat)(x:Addr):((List.range n).map fun q=>V.ref (rs q)).set p (.ref x)=(List.range n).map fun q=>V.ref (lH rs p x q):=by
 refine fT (by simp) fun q h1 h2=>?_
 rw [List.getElem_set,e_,nM,e_,nM];unfold lH;by_cases e:p=q
 ·subst e
  rw [ae rfl,ae rfl]
 ·rw [aa e,aa (Ne.symm e)]
variable {rs:Nat→Addr}
theorem NI:lH rs p x p=x:=ae rfl
variable {q:Nat}
theorem Xw(h:q≠p):lH rs p x q=rs q:=aa h
theorem Xx{x:List Nat}:gF f p x p=x:=ae rfl
theorem Xy{x:List Nat}(h:q≠p):gF f p x q=f q:=aa h
theorem mU{g:Nat→V}(h:p<n):k4 ((List.range n).map g) (p:Int)=some (g p):=n_ (by rw [bo,jy h];rfl)
theorem Xz(o ks:List Nat)(p:Nat):(ks.filter fun q=>decide ((o.idxOf p:Int)<(o.idxOf q:Int)))=ks.filter fun q=>decide (o.idxOf p<o.idxOf q):=by refine List.filter_congr fun q _=>?_;rw [qp,eY,eY];lia
theorem mV(h:o.Perm (List.range n))(hp:p<n)(hq:q<n)(ne:p≠q):o.idxOf p≠o.idxOf q:=fun z=>by
 obtain ⟨h1,e1⟩:=AW ((gG h).mpr hp);obtain ⟨h2,e2⟩:=AW ((gG h).mpr hq);refine ne ?_;rw [←e1,←e2]
 congr 1
theorem AX{wi:TI}(h:wi σ H fun J H1=>kj (fun _ H R=>R J H) ρ tt te σ H1 Q):kj wi ρ tt te σ H Q:=h
end My
namespace L2
open PySem PySem.Spec PyProof.Rows
section
variable {X:Cx} {pins:aV} {σ:St} {H:Hp} {s:Shared}
end
end L2
namespace My
open PySem L2
variable {n p:Nat}
theorem HI{o:List Nat}(h:o.Perm (List.range n)){ms:List Nat}(k:iw n o p ms):ms.length≤n-1-o.idxOf p:=by
 have nd:(ms.map fun q=>o.idxOf q-(o.idxOf p+1)).Nodup:=by rw [nO,jA];refine Ca (fun{a b} ha hb lt=>?_) k.up;have h1:=k.la a ha;have h2:=k.la b hb;have ne:=mV h (k.lt a ha) (k.lt b hb) (bW lt);lia
 have:=HG (n:=n-1-o.idxOf p) nd (fun x hx=>by obtain ⟨q,hq,rfl⟩:=bG.mp hx;have h1:=k.la q hq;have h2:=(AW ((gG h).mpr (k.lt q hq))).1;rw [w5 h] at h2;lia)
 rwa [aD] at this
theorem NJ{f g:Nat→Nat}:∀{l:List Nat},(∀p∈l,f p≤g p)→(l.map f).sum≤(l.map g).sum
 | [],_=>aC _
 | a::r,h=>by have h1:=h a (cG ..);have h2:=NJ (l:=r) fun p hp=>h p (cx _ hp);simp only [du,fC];lia
def da(p q:Nat):Int×Int:=(if (q:Int)<(p:Int) then (q:Int) else (p:Int),if (q:Int)>(p:Int) then (q:Int) else (p:Int))
theorem XA{q:Nat}(hp:p<n)(hq:q<n):0≤(da p q).2∧(da p q).2<(n:Int):=by
 unfold da;dsimp only
 split <;> lia
theorem bE.app{H:Hp}{xs ys:List V}{M N:ar}(h:bE H xs M)(h':bE H ys N):bE H (xs++ys) (M++N):=by
 have l1:=h.1;have l2:=h'.1;refine ⟨by simp [l1,l2],fun k v p h1 h2=>?_⟩
 by_cases e:k<xs.length
 ·rw [iC e] at h1
  rw [iC (by lia)] at h2
  exact h.2 k v p h1 h2
 ·rw [iz (by lia)] at h1
  rw [iz (by lia),←l1] at h2
  exact h'.2 _ v p h1 h2
theorem XB{g:Nat→Nat}{k:Nat}(h:k≤n):((List.range k).map g).sum≤((List.range n).map g).sum:=by
 induction n with
 | zero=>rw [Nat.le_zero.mp h];exact aC _
 | succ n ih=>
  by_cases e:k=n+1;·subst e;exact aC _
  ·have:=ih (by lia)
   rw [vJ,eX,B4];lia
end My
namespace L2
open PySem PySem.Spec PyProof.Rows
theorem HJ{X:Cx}{E:XK}(L:wA X E):PassesOwn (model X.prog X.w) X.A X.env X.xe:=by rw [L.xe];exact PassesOwn.leaving
end L2
namespace My
open PySem L2
def XC:Sp:=fun vs H Q _=>∃m:Nat,vs=[.int (m:Int)]∧m≤1000∧Q (.int ((m:Int)*m+3*m+1)) H
def XD:Sp:=fun vs H Q _=>∃(t:Addr) (n:Nat) (L:ar),vs=[.ref t]∧cJ H t n L∧n≤9∧Q .aR H
end My
namespace L2
open PySem PySem.Spec PyProof.Rows
def NK(K:aF):R2:=fun x y H Q=>∃a b xs ys,x=.ref a∧y=.ref b∧eG K H a xs∧eG K H b ys∧ys≠[]∧xs.length+ys.length≤sizeLine ∧
 (xs=[]→Q (.ref b) H)∧(xs≠[]→∀p,H p=none→Q (.ref p) (upd H p (.tup (xs++ys))))
theorem XE{X:Cx}:cX X (binaryOp .Add) (NK X.K):=by
 intro pins s σ H x y v u Q I rx ry h;by_cases hx:∃a b xs ys,x=.ref a∧y=.ref b∧eG X.K H a xs∧eG X.K H b ys∧xs=[]∧Q (.ref b) H
 ·obtain ⟨a,b,xs,ys,rfl,rfl,ha,hb,rfl,q⟩:=hx
  cases rx;cases ry;obtain ⟨its,r1,p1,_⟩:=I.tuple ha;obtain ⟨jE,r2,p2,_⟩:=I.tuple hb;have e0:its=[]:=r1.CG.mpr rfl;subst e0;obtain ⟨⟨cls,dd,data,sl⟩,ho,hc,n,hd⟩:=id p1;obtain ⟨⟨Mb,qQ,data2,gT⟩,i_,iL,n2,hd2⟩:=id p2;simp only at hc hd iL hd2;subst hc hd iL hd2
  exact concat_meets ⟨_,ho,rfl⟩ ⟨_,i_,rfl⟩ noFill_tuple_add seq_tuple_add FE FF (FG _ _)
   (tuple_addW0 a b _ jE.toArray n n2 dd qQ sl gT (by simp)) ⟨ho,i_,⟨.ref b,H,I,rfl,q⟩⟩
 ·obtain ⟨a,b,xs,ys,rfl,rfl,ha,hb,hy,hz,q1,q2⟩:=h
  have ne:xs≠[]:=fun z=>hx ⟨a,b,xs,ys,rfl,rfl,ha,hb,z,q1 z⟩;exact Ul pins s σ H _ _ v u Q I rx ry ⟨a,b,xs,ys,rfl,rfl,ha,hb,ne,hz,fun z=>absurd z hy,fun _=>q2 ne⟩
end L2
namespace My
open PySem L2
end My
namespace L2
open PySem PySem.Spec PyProof.Rows
theorem NL{X:Cx}{K:aF}(hk:X.K=K:=by rfl):cX X (binaryOp .Add) (NK K):=by subst hk;exact XE
end L2
namespace My
open PySem L2
end My
namespace L2
open PySem PySem.Spec PyProof.Rows
theorem NM{X:Cx}{K:aF}(hk:X.K=K:=by rfl):cX X (compareOp .In) (CH K false):=by subst hk;exact Mm
end L2
namespace My
open PySem L2
def HK:V→Nat
 | .int i=>i.toNat
 | _=>0
theorem XF{ys:List V}{n:Nat}(p:ys.Perm (dw n)):∃o:List Nat,ys=o.map (fun k:Nat=>V.int (k:Int))∧o.Perm (List.range n):=by
 refine ⟨ys.map HK,?_,?_⟩
 ·rw [cM]
  conv=>lhs;rw [←qD ys]
  refine hE fun y hy=>?_
  obtain ⟨k,_,rfl⟩:=bG.mp (p.mem_iff.mp hy)
  show V.int (k:Int)=V.int (((k:Int).toNat:Nat):Int)
  rw [cZ]
 ·have:=p.map HK
  unfold dw at this
  rw [cM] at this
  have e:(List.range n).map (HK ∘ fun i:Nat=>V.int (i:Int))=List.range n:=by
   conv=>rhs;rw [←qD (List.range n)]
   exact hE fun k _=>cZ k
  rw [e] at this
  exact this
theorem ahU(xs:List V)(k:Nat)(h:k≤xs.length):kZ xs none (some (k:Int))=xs.take k:=by
 unfold kZ HT.gA;simp only;rw [aa (by lia),cZ,Nat.min_eq_left h,Nat.sub_zero]
 rfl
theorem XG(xs:List V)(k:Nat)(h:k≤xs.length):kZ xs (some (k:Int)) none=xs.drop k:=by
 unfold kZ HT.gA;simp only;rw [aa (by lia),cZ,Nat.min_eq_left h]
 exact zg (by rw [B0];exact aC _)
inductive fQ (bF:Nat→Nat→Prop) (bU:Nat→Prop) (s:Nat):Nat→Prop where
 | start:fQ bF bU s s
 | step {a b:Nat}:fQ bF bU s a→(a=s∨bU a)→bF a b→fQ bF bU s b
structure fR (n:Nat) (bF:Nat→Nat→Prop) (bU:Nat→Prop) (s:Nat) (here:Option Nat) (dn:Nat→Prop) (ks ws:List Nat):Prop where
 pl:jl n ks
 st:s∈ks
 rc:∀k∈ks,fQ bF bU s k
 wt:∀w∈ws,w∈ks∧(w=s∨bU w)
 cl:∀k∈ks,(k=s∨bU k)→k∈ws∨∀b,bF k b→b∈ks∨(here=some k∧¬dn b)
variable {n:Nat} {bF:Nat→Nat→Prop} {bU:Nat→Prop} {s:Nat}
variable {dn:Nat→Prop}
theorem fR.start(hs:s<n):fR n bF bU s none dn [s] [s]:=
 ⟨⟨by simp,fun k hk=>by rw [cy.mp hk];exact hs⟩,cy.mpr rfl,fun k hk=>by rw [cy.mp hk];exact .start,fun w hw=>⟨hw,.inl (cy.mp hw)⟩,fun k hk _=>.inl hk⟩
variable {ks ws:List Nat} {h:Nat}
theorem fR.pop(k:fR n bF bU s none dn ks (ws++[h])):fR n bF bU s (some h) (fun _=>False) ks ws:=
 ⟨k.pl,k.st,k.rc,fun w hw=>k.wt w (nF _ hw),fun x hx ox=>by
  rcases k.cl x hx ox with e | e
  ·rcases dW.mp e with e | e
   ·exact .inl e
   ·exact .inr fun b _=>.inr ⟨by rw [cy.mp e],fun z=>z⟩
  ·exact .inr fun b hb=>.inl ((e b hb).resolve_right fun z=>by cases z.1)⟩
variable {b:Nat}
theorem fR.old(k:fR n bF bU s (some h) dn ks ws)(hb:b∈ks):fR n bF bU s (some h) (fun x=>dn x∨x=b) ks ws:=
 ⟨k.pl,k.st,k.rc,k.wt,fun x hx ox=>by
  rcases k.cl x hx ox with e | e;·exact .inl e
  ·refine .inr fun c hc=>?_
   rcases e c hc with e | e;·exact .inl e
   ·by_cases z:c=b
    ·rw [z];exact .inl hb
    ·exact .inr ⟨e.1,fun q=>q.elim e.2 z⟩⟩
theorem fR.new{vs:List Nat}(k:fR n bF bU s (some h) dn ks ws)(hb:b∉ks)(bn:b<n)(hh:h∈ks)(oh:h=s∨bU h)(ab:bF h b)(hv:(bU b∧vs=ws++[b])∨(¬bU b∧vs=ws)):fR n bF bU s (some h) (fun x=>dn x∨x=b) (dI ks b) vs:=by
 have bs:b≠s:=fun z=>hb (z▸k.st);have sub:∀w∈ws,w∈vs:=fun w hw=>by
  rcases hv with ⟨_,rfl⟩ | ⟨_,rfl⟩;·exact nF _ hw
  ·exact hw
 refine ⟨k.pl.add bn,jS.mpr (.inl k.st),fun x hx=>?_,fun w hw=>?_,fun x hx ox=>?_⟩
 ·rcases jS.mp hx with e | rfl
  ·exact k.rc x e
  ·exact .step (k.rc h hh) oh ab
 ·rcases hv with ⟨tb,rfl⟩ | ⟨_,rfl⟩
  ·rcases dW.mp hw with e | e
   ·exact ⟨jS.mpr (.inl (k.wt w e).1),(k.wt w e).2⟩
   ·rw [cy.mp e]
    exact ⟨jS.mpr (.inr rfl),.inr tb⟩
  ·exact ⟨jS.mpr (.inl (k.wt w hw).1),(k.wt w hw).2⟩
 ·rcases jS.mp hx with e | rfl
  ·rcases k.cl x e ox with e | e
   ·exact .inl (sub x e)
   ·refine .inr fun c hc=>?_
    rcases e c hc with e | e;·exact .inl (jS.mpr (.inl e))
    ·by_cases z:c=b
     ·exact .inl (jS.mpr (.inr z))
     ·exact .inr ⟨e.1,fun q=>q.elim e.2 z⟩
  ·rcases hv with ⟨tb,rfl⟩ | ⟨tb,rfl⟩
   ·exact .inl (fA _ (cy.mpr rfl))
   ·exact absurd ox (fun z=>z.elim bs tb)
theorem fR.next{XH:Nat→Prop}(k:fR n bF bU s (some h) dn ks ws)(all:∀b,bF h b→dn b):fR n bF bU s none XH ks ws:=
 ⟨k.pl,k.st,k.rc,k.wt,fun x hx ox=>by
  rcases k.cl x hx ox with e | e;·exact .inl e
  ·refine .inr fun c hc=>.inl ?_
   rcases e c hc with e | ⟨e,e2⟩;·exact e
   ·cases e
    exact absurd (all c hc) e2⟩
theorem fR.done(k:fR n bF bU s none dn ks [])(x:Nat):x∈ks↔fQ bF bU s x:=by
 refine ⟨k.rc x,fun h=>?_⟩
 induction h with
 | start=>exact k.st
 | step _ o ab ih=>
  rcases k.cl _ ih o with e | e;·cases e
  ·exact (e _ ab).resolve_right fun z=>by cases z.1
theorem XI{ms:List Nat}(h1:ks.Nodup)(h2:ms.Nodup)(e:∀x,x∈ks↔x∈ms)(p:Nat→Bool):(ks.filter p).length=(ms.filter p).length:=by have pm:ks.Perm ms:=(kP h1 h2).mpr e;exact (pm.filter p).length_eq
theorem XJ(h:b∉ks):(dI ks b).length=ks.length+1:=by unfold dI;rw [aa h,dO];rfl
end My
namespace L2
open PySem PySem.Spec PyProof.Rows
theorem NN{X:Cx}{K:aF}(hk:X.K=K:=by rfl):cX X (compareOp .NotIn) (CH K true):=by subst hk;exact Uu
end L2
namespace My
open PySem L2
def iT(n:Nat)(f:Nat→List Nat)(a b:Nat):Prop:=a<n∧b∈f a
def ou(n:Nat)(f:Nat→List Nat)(done:List Nat)(p:Nat)(c:Nat):Prop:=∃ks:List Nat,jl n ks∧(∀x,x∈ks↔fQ (iT n f) (·∈done) p x)∧c=(ks.filter fun q=>!decide (q=p) && !decide (q∈done)).length
def XM:Sp:=fun vs H Q _=>∃(D d:Addr) (n:Nat) (ds:Nat→Addr) (f:Nat→List Nat) (done:List Nat) (p:Nat),vs=[.ref D,.ref d,.int (p:Int)]∧eK H D n ds (fun _=>True) f∧H d=some (.tup (done.map fun k:Nat=>V.int (k:Int)))∧done.length≤1000∧p<n∧n≤60 ∧
 ∀(H':Hp) (r:Addr) (xs:List V),(∀b o,H b=some o→(∀i,i<n→b≠ds i)→H' b=some o)→H' r=some (.lst xs)→ou n f done p xs.length→Q (.ref r) H'
variable {a:Addr} {σ:St} {H:Hp}
theorem HL{ob:Obj}{ks:List Nat}{g:TG}{tb:TS}{D:Ends}(Pv:Nat→St→Hp→Prop)(h0:Pv 0 σ H)(hl:∀i σ H,i≤ks.length→Pv i σ H→H a=some (.bg ob (.dK (dk ks))))
  (hs:∀(i k:Nat) σ H,ks[i]?=some k→Pv i σ H→g (.int (k:Int)) σ H fun σ2 H2=>tb {D with nx:=Pv (i+1),ct:=Pv (i+1),bk:=D.nx} σ2 H2) (hd:∀σ H,Pv ks.length σ H→D.nx σ H) :
  ∃W:Nat→Nat→St→Hp→Prop,(∃m,W 0 m σ H)∧∀i m σ H,W i m σ H→
   ((jR a ob (dk ks)).stop i H∧D.nx σ H)∨((jR a ob (dk ks)).go i H∧∃N:St→Hp→Prop,(∀σ' H',N σ' H'→∃m',m'<m∧W (i+1) m' σ' H')∧∀x H',(jR a ob (dk ks)).d_ i H x H'→g x σ H' fun σ2 H2=>tb {D with nx:=N,ct:=N,bk:=D.nx} σ2 H2):=by
 refine ⟨fun i m σ H=>m=ks.length-i∧i≤ks.length∧Pv i σ H,⟨ks.length,by simp,cf _,h0⟩,?_⟩
 rintro i m σ H ⟨rfl,hi,p⟩;have q:=hl i σ H hi p;by_cases bh:i<ks.length
 ·refine .inr ⟨⟨q,by rw [Dn];exact bh⟩,Pv (i+1),fun σ' H' p'=>⟨ks.length-(i+1),by lia,rfl,bh,p'⟩,fun x H' y=>?_⟩
  obtain ⟨e,kv,ek,rfl⟩:=y;subst e;unfold dk at ek;rw [bo,bP bh] at ek;cases ek;exact hs i _ σ _ (bP bh) p
 ·have e:i=ks.length:=by lia
  subst e;exact .inl ⟨⟨q,by rw [Dn];exact aC _⟩,hd σ H p⟩
structure en (H:Hp) (D:Addr) (n:Nat) (ds:Nat→Addr) (f:Nat→List Nat):Prop where
 lst:H D=some (.lst ((List.range n).map fun i=>V.ref (ds i)))
 at':∀i,i<n→H (ds i)=some (.dK (dk (f i)))∨∃ob,H (ds i)=some (.bg ob (.dK (dk (f i))))
variable {D:Addr} {n:Nat} {ds:Nat→Addr} {f:Nat→List Nat}
theorem eK.fr(h:eK H D n ds (fun _=>True) f):en H D n ds f:=⟨h.lst,fun i hi=>.inl (h.at' i hi trivial)⟩
theorem Dr(done:List Nat)(k:Nat):mE (.int (k:Int)) (done.map fun k:Nat=>V.int (k:Int))=decide (k∈done):=by
 unfold mE;rw [qp,zp,eY];constructor
 ·rintro ⟨y,hy,e⟩
  obtain ⟨j,hj,rfl⟩:=bG.mp hy;have e:((j:Int) == (k:Int))=true:=e;rw [beq_iff_eq] at e;have:j=k:=by lia
  subst this;exact hj
 ·intro h
  exact ⟨_,bG.mpr ⟨k,h,rfl⟩,CY rfl⟩
theorem NP(done:List Nat):(done.map fun k:Nat=>V.int (k:Int)).all jF=true:=by rw [oU];intro x hx;obtain ⟨j,_,rfl⟩:=bG.mp hx;rfl
variable {kvs:List (Key×V)} {R:It→Hp→Prop}
theorem XN(h:H a=some (.dK kvs)∨∃ob,H a=some (.bg ob (.dK kvs)))(k:∀(ob:Obj) (Hf:Hp),Hf a=some (.bg ob (.dK kvs))→(∀b u,b≠a→H b=some u→Hf b=some u)→R (jR a ob kvs) Hf) :
  (H a=some (.dK kvs)∧∀o,R (jR a o kvs) (upd H a (.bg o (.dK kvs))))∨∃o,H a=some (.bg o (.dK kvs))∧R (jR a o kvs) H:=by
 rcases h with e | ⟨ob,e⟩;·exact .inl ⟨e,fun o=>k o _ ax fun b u ne hb=>by rw [aH ne];exact hb⟩
 ·exact .inr ⟨ob,e,k ob H e fun _ _ _ h=>h⟩
theorem en.keep{H':Hp}(h:en H D n ds f)(k:∀b u,b≠a→H b=some u→H' b=some u)(nD:a≠D)(nd:∀i,i<n→ds i≠a):en H' D n ds f:=⟨k _ _ (Ne.symm nD) h.lst,fun i hi=>by
 rcases h.at' i hi with e | ⟨ob,e⟩;·exact .inl (k _ _ (nd i hi) e)
 ·exact .inr ⟨ob,k _ _ (nd i hi) e⟩⟩
theorem en.bg{H H':Hp}{D:Addr}{n:Nat}{ds:Nat→Addr}{f:Nat→List Nat}(h:en H D n ds f){j:Nat}{ob:Obj}(k:∀b u,b≠ds j→H b=some u→H' b=some u)(hj:j<n)(e:H' (ds j)=some (.bg ob (.dK (dk (f j)))))(inj:∀i j,i<n→j<n→ds i=ds j→i=j)(nD:ds j≠D):en H' D n ds f:=⟨k _ _ (Ne.symm nD) h.lst,fun i hi=>by
 by_cases z:i=j;·subst z;exact .inr ⟨ob,e⟩
 ·rcases h.at' i hi with e | ⟨ob,e⟩
  ·exact .inl (k _ _ (fun q=>z (inj i j hi hj q)) e)
  ·exact .inr ⟨ob,k _ _ (fun q=>z (inj i j hi hj q)) e⟩⟩
def tT(n:Nat)(ds:Nat→Addr)(H H':Hp):Prop:=∀b o,H b=some o→(∀i,i<n→b≠ds i)→H' b=some o
theorem Ds{tl:TE}(hp:∀Q:VK,Q (.ref a) H→tl σ H Q)(h:H a=some (.dK kvs)∨∃ob,H a=some (.bg ob (.dK kvs)))(k:∀(ob:Obj) (Hf:Hp),Hf a=some (.bg ob (.dK kvs))→(∀b u,b≠a→H b=some u→Hf b=some u)→R (jR a ob kvs) Hf):HD tl σ H R:=hp _ ⟨a,kvs,rfl,XN h k⟩
def XO:Sp:=fun vs H Q _=>∃(t d:Addr) (n:Nat) (L:ar) (done:List Nat) (p:Nat),vs=[.ref t,.ref d,.int (p:Int)]∧cJ H t n L∧dD n L∧n≤9∧H d=some (.tup (done.map fun k:Nat=>V.int (k:Int)))∧done.length≤1000∧p<n ∧
 ∀(H':Hp) (f:Nat→List Nat) (c:Nat),ak H H'→gZ n L f→ou n f done p c→Q (.int ((c:Int)*c+3*c+1)) H'
variable {p c:Nat}
theorem ou.le{done:List Nat}(h:ou n f done p c):c≤n:=by obtain ⟨ks,pl,_,rfl⟩:=h;exact b8 (vT _ _) pl.len
theorem ou.same{L:ar}{g:Nat→List Nat}{done:List Nat}{e:Nat}(hf:gZ n L f)(hg:gZ n L g)(h:ou n f done p c)(k:ou n g done p e):c=e:=by
 obtain ⟨ks,pk,ik,rfl⟩:=h;obtain ⟨ms,pm,im,rfl⟩:=k;have ad:iT n f=iT n g:=by
  funext a b
  unfold iT;refine propext ⟨fun⟨x,y⟩=>⟨x,(hg a b x).mpr ((hf a b x).mp y)⟩,fun⟨x,y⟩=>⟨x,(hf a b x).mpr ((hg a b x).mp y)⟩⟩
 refine XI pk.1 pm.1 (fun x=>?_) _;rw [ik,im,ad]
end My
namespace L2
open PySem PySem.Spec PyProof.Rows
theorem XQ(l:List Int):∀(i:Nat) (k:Int),i≤l.length→((firstMet (fun i=>l.getD i 0) i).any (· == k)=true↔k∈l.take i):=by
 intro i k hi;rw [firstMet_any,zp];constructor
 ·rintro ⟨x,hx,e⟩
  obtain ⟨j,hj,rfl⟩:=bG.mp hx;have ei:=aU.mp hj;have:=eq_of_beq e;subst this;rw [Cb];exact ⟨j,by lia,by simp [cg,show j<l.length by lia]⟩
 ·intro h
  obtain ⟨j,hj,rfl⟩:=Cb.mp h;exact ⟨_,bG.mpr ⟨j,aU.mpr (by lia),rfl⟩,by simp [cg,show j<l.length by lia]⟩
theorem NQ(l:List Int):∀i:Nat,i≤l.length→((firstMet (fun i=>l.getD i 0) i).length=i↔(l.take i).Nodup)
 | 0,_=>by simp [firstMet_zero]
 | i+1,hi=>by
  have ih:=NQ l i (by lia)
  have le:=firstMet_length_le (fun i=>l.getD i 0) i;rw [firstMet_succ,step_length];have tk:l.take (i+1)=l.take i++[l.getD i 0]:=by rw [nN,cg];simp [show i<l.length by lia]
  rw [tk,jz];have m:=XQ l i (l.getD i 0) (by lia)
  by_cases z:(firstMet (fun i=>l.getD i 0) i).any (· == l.getD i 0)=true
  ·rw [ae z]
   constructor;·intro h;lia
   ·rintro ⟨_,_,h⟩
    exact absurd rfl (h _ (m.mp z) _ (cy.mpr rfl))
  ·rw [aa z]
   constructor
   ·intro h
    refine ⟨ih.mp (by lia),by simp,fun a ha b hb e=>z (m.mpr ?_)⟩
    rw [cy] at hb;rw [←hb,←e];exact ha
   ·rintro ⟨h,_,_⟩
    have:=ih.mpr h;lia
theorem NR:∀{zs:List Int} {us:List Value},Vals (zs.map V.int) us→IntsAre us zs
 | [],_,r=>by cases r;exact .nil
 | z::zs,_,r=>by
  cases r with
  | cons h t=>obtain ⟨k,rfl⟩:=h;exact .cons _ _ (NR t)
def XR(K:aF):List V→Hp→VK→Prop:=fun xs H Q=>∃(a:Addr) (zs:List Int),xs=[.ref a]∧aZ K H a (zs.map V.int)∧zs.length<1000∧∀(l:Addr) (S:Int→Bool) (n:Nat),H l=none→n≤zs.length→(n=zs.length↔zs.Nodup)→Q (.ref l) (upd H l (.set S n))
variable {X:Cx}
theorem XS{K:aF}(hc:X.calm=true)(hK:X.K=K:=by rfl):gy X (.type "set") (XR K):=by
 intro pins s σ H xs us Q I r h;subst hK;obtain ⟨p,zs,rfl,hq,hz,q⟩:=h;obtain ⟨u,rfl,ru⟩:=vals1 r;cases ru;obtain ⟨its,rv,pl,_⟩:=I.list hq;have hl:its.length=zs.length:=by rw [←rv.length,aD]
 refine call_set_list (items:=its.toArray) (ns:=zs) (I.ok.hd hc) pl.isList (by simpa using NR rv) (by rw [b9];unfold scanBound;lia) fun h' tk hS hk=>?_
 have el:=b9 (as:=its);rw [el,hl] at hS;refine ⟨.ref s.heap.objs.size,_,I.laid (t':=tk) (o:=.set (fun k'=>(firstMet (fun i=>zs.getD i 0) zs.length).any (· == k')) (firstMet (fun i=>zs.getD i 0) zs.length).length) (fun b u e=>hk b u (a9 e) e) (aC _) hS,rfl,q _ _ _ (I.ay.fresh (aC _)) (firstMet_length_le _ _) ?_⟩;have:=NQ zs zs.length (aC _);rw [iD] at this;exact this
theorem XT:gy X (.builtin "len") (fun xs H Q=>∃p S n,xs=[.ref p]∧H p=some (.set S n)∧n<1000∧Q (.int (n:Int)) H):=by intro pins s σ H xs us Q I r h;obtain ⟨p,S,n,rfl,hq,n1,q⟩:=h;obtain ⟨u,rfl,rx⟩:=vals1 r;cases rx;have hS:s.heap.SetOf (intKind X.prog X.w) p S n:=I.ay p _ hq;obtain ⟨o,ho,XU⟩:=hS.objOf;obtain ⟨hex,es,ep,t,hd,_,_,hn,hf⟩:=XU;subst hn;exact call_len_set ho hex hd hf (Int.lt_of_lt_of_le (Int.ofNat_lt.mpr n1) (by decide)) ⟨.int (es.size:Int),H,I.tok _,⟨s.toks+1,rfl⟩,q⟩
theorem boot_set:bootBuiltins "set"=some (.type "set"):=by decide +kernel
end L2
namespace My
open PySem L2
def XW(K:aF):R2:=fun x y H Q=>∃(a b:Addr) (us ws:List V) (L M:ar),x=.ref a∧y=.ref b∧aZ K H a us∧aZ K H b ws∧bE H us L∧bE H ws M∧Q (.bl (decide (L=M))) H
variable {X:Cx}
theorem NS{pins:aV}{σ:St}{H:Hp}{s:Shared}(I:Inv X pins σ H s){A:Around}(hu:A.units<cLine){p q:Addr}{x y:Int×Int}(e:H p=some (.tup [.int x.1,.int x.2]))(e':H q=some (.tup [.int y.1,.int y.2])):SeqAt.EqAt A s (.ref p) (.ref q) (decide (x=y)):=by
 by_cases pq:p=q
 ·subst pq
  rw [e] at e';cases x;cases y;simp only [zq,HO.tup.injEq,List.cons.injEq,V.int.injEq,and_true] at e';rw [bA (Prod.ext e'.1 e'.2)];exact SeqAt.EqAt.same _
 obtain ⟨us,r1,t1,_⟩:=I.tuple (.of e);obtain ⟨vs,r2,t2,_⟩:=I.tuple (.of e');obtain ⟨a1,a2,rfl,HM,HN⟩:=vals2 r1;obtain ⟨b1,b2,rfl,HP,HQ⟩:=vals2 r2;have z:=SeqAt.RcAt.tuples (A:=A) (e:=fun j=>if j=0 then fj (.int x.1) (.int y.1) else fj (.int x.2) (.int y.2)) t1 t2 hu (fun j z1 z2=>by
  have:j<2:=z1
  match j with
  | 0=>exact qR HM HP rfl rfl
  | 1=>exact qR HN HQ rfl rfl)
 have ec:decide (x=y)=((List.range (min ([a1,a2]:List Value).toArray.size ([b1,b2]:List Value).toArray.size)).all (fun j=>if j=0 then fj (.int x.1) (.int y.1) else fj (.int x.2) (.int y.2)) && ([a1,a2]:List Value).toArray.size == ([b1,b2]:List Value).toArray.size):=by cases x;cases y;simp only [Prod.mk.injEq];show _=((List.range 2).all _ && true);simp [vJ,fj];rfl
 rw [ec];exact vK pq z
theorem XX(hu:X.A.units+64<cLine):cX X (compareOp .Eq) (XW X.K):=by
 intro pins s σ H x y v u Q I rx ry h;obtain ⟨a,b,xs,ys,L,M,rfl,rfl,h1,h2,k1,k2,q⟩:=h;cases rx;cases ry;obtain ⟨us,r1,t1,_⟩:=I.list h1;obtain ⟨vs,r2,t2,_⟩:=I.list h2;have l1:=r1.length;have l2:=r2.length;have m1:=k1.1;have m2:=k2.1;by_cases hl:L.length=M.length
 ·refine SeqAt.RcAt.lists (e:=fun j=>decide (L.getD j (0,0)=M.getD j (0,0))) t1.isList t2.isList (by simp;lia) (by lia) (fun j z1 z2=>?_) _ _ _ _ ?_
  ·have tH:j<us.length:=by simpa using z1
   have GV:j<vs.length:=by simpa using z2
   obtain ⟨p,ep,hp⟩:=k1.2 j xs[j] (L.getD j (0,0)) (by simp) (by simp [cg,show j<L.length by lia])
   obtain ⟨p',jC,ot⟩:=k2.2 j ys[j] (M.getD j (0,0)) (by simp) (by simp [cg,show j<M.length by lia])
   obtain ⟨x',mh,rx⟩:=r1.get (i:=j) (x:=xs[j]) (by simp)
   obtain ⟨y',pL,ry⟩:=r2.get (i:=j) (x:=ys[j]) (by simp)
   have e1:us.toArray[j]=x':=by simpa using (bJ.mp mh).2
   have e2:vs.toArray[j]=y':=by simpa using (bJ.mp pL).2
   rw [e1,e2];rw [ep] at rx;rw [jC] at ry;cases rx;cases ry;exact NS I (by rw [qv];lia) hp ot
  ·have ea:(List.range us.toArray.size).all (fun j=>decide (L.getD j (0,0)=M.getD j (0,0)))=decide (L=M):=by
    rw [show us.toArray.size=L.length by simp;lia]
    by_cases e:L=M
    ·subst e
     simp
    ·rw [bO e,B1]
     intro h;rw [oU] at h;refine e (fT hl fun j g1 g2=>?_);have:=h j (aU.mpr g1);simpa [cg,g1,g2] using this
   rw [ea];exact ⟨.bl (decide (L=M)),H,I,rfl,q⟩
 ·rw [bO (fun e=>hl (by rw [e]))] at q
  refine SeqAt.RcAt.lists_lengths t1.isList t2.isList ?_ (by lia) _ _ _ _ ⟨.bl false,H,I,rfl,q⟩
  simp;lia
def XY:Sp:=fun vs H Q _=>∃(z:Int) (n:Nat),vs=[.int z,.int (n:Int)]∧Q (.bl (decide (0≤z∧z<n))) H
def iU(zs:List Int):List (Int×Int):=(List.range zs.length).map fun k=>(min (zs.getD k 0) (zs.getD ((k+1) % zs.length) 0),max (zs.getD k 0) (zs.getD ((k+1) % zs.length) 0))
def pV(L:ar)(zs:List Int):List (Int×Int):=L.filter fun p=>decide (p.1∈zs) && decide (p.2∈zs)
def NT(H H':Hp)(l:Addr)(L:ar):Prop:=ak H H'∧H l=none∧∃us,H' l=some (.lst us)∧bE H' us L
def XZ(K:aF):Sp:=fun vs H Q _=>∃(a:Addr) (zs:List Int),vs=[.ref a]∧aZ K H a (zs.map V.int)∧1≤zs.length∧zs.length≤40∧∀H' l,NT H H' l (iU zs)→Q (.ref l) H'
def X0(K:aF):Sp:=fun vs H Q _=>∃(tp a:Addr) (n:Nat) (L:ar) (zs:List Int),vs=[.ref tp,.ref a]∧cJ H tp n L∧L.length≤200∧aZ K H a (zs.map V.int)∧∀H' l,NT H H' l (pV L zs)→Q (.ref l) H'
end My
namespace L2
open PySem PySem.Spec PyProof.Rows My
structure AY (J:It) (Z:ar) (H1:Hp):Prop where
 go:∀i Hc,ak H1 Hc→i<Z.length→J.go i Hc
 d_:∀i Hc v H',ak H1 Hc→J.d_ i Hc v H'→ak Hc H'∧∀z,Z[i]?=some z→∃T,v=.ref T∧H' T=some (.tup [.int z.1,.int z.2])
 stop:∀i Hc,ak H1 Hc→Z.length≤i→J.stop i Hc
variable {K:aF} {a:Addr} {Z:ar} {H1:Hp}
theorem X1{us:List V}(h:H1 a=some (.tup us))(hZ:bE H1 us Z):AY (pC K a) Z H1 where
 go:=fun i Hc s hi=>⟨us,us[i]'(by rw [hZ.1];exact hi),.of (s _ _ h),by simp⟩
 d_:=fun i Hc v H' s y=>by obtain ⟨rfl,hy⟩:=y;refine ⟨ak.refl _,fun z hz=>?_⟩;obtain ⟨b,e,g⟩:=hZ.2 i v z (hy us (.of (s _ _ h))) hz;exact ⟨b,e,s _ _ g⟩
 stop:=fun i Hc s hi=>⟨us,.of (s _ _ h),by rw [hZ.1];exact hi⟩
theorem X2{b:Addr}{xs ys:List Int}(h1:aZ K H1 a (xs.map V.int))(h2:aZ K H1 b (ys.map V.int)):AY (GO K a b) (xs.zip ys) H1 where
 go:=fun i Hc s hi=>by
  have hi:i<min xs.length ys.length:=by simpa using hi
  exact ⟨_,_,.int xs[i],.int ys[i],s.seq h1,s.seq h2,by simp [show i<xs.length by lia],by simp [show i<ys.length by lia]⟩
 d_:=fun i Hc v H' s y=>by obtain ⟨T,x,y,nT,ev,rfl,hx⟩:=y;refine ⟨aS nT,fun z hz=>⟨T,ev,?_⟩⟩;obtain ⟨e1,e2⟩:=hx _ _ (s.seq h1) (s.seq h2);obtain ⟨g1,g2⟩:=List.getElem?_zip_eq_some.mp hz;rw [bo,g1] at e1;rw [bo,g2] at e2;cases e1;cases e2;exact ax
 stop:=fun i Hc s hi=>by
  have hi:min xs.length ys.length≤i:=by simpa using hi
  exact ⟨_,_,s.seq h1,s.seq h2,by rw [aD,aD];lia⟩
theorem NU{wi:TI}{ρ:St→St}{tt:TT}{te:TE}{σ:St}{H:Hp}{Q:VK}(pr:Int×Int→Bool)(f:Int×Int→Int×Int)(fE:∀R:It→Hp→Prop,(∀J H1,ak H H1→AY J Z H1→R J H1)→wi σ H R)(hn:Z.length<sizeLine)
  (test:∀z∈Z,∀(Hc:Hp) (R:Bool→Hp→Prop),ak H Hc→R (pr z) Hc→tt (some (.int z.1)::some (.int z.2)::ρ σ) Hc R)
  (step:∀z∈Z,∀(Hc:Hp) (R:VK),ak H Hc→(∀T H3,ak Hc H3→H3 T=some (.tup [.int (f z).1,.int (f z).2])→R (.ref T) H3)→te (some (.int z.1)::some (.int z.2)::ρ σ) Hc R)
  (fin:∀D us Hc,H D=none→ak H Hc→bE Hc us ((Z.filter pr).map f)→Hc D=some (.lst us)→Q (.ref D) Hc):Ar K wi ρ tt te σ H Q:=by
 refine fE _ fun J H1 s1 js=>?_;intro D nD;refine ⟨fun i m us Hc=>m=Z.length-i∧i≤Z.length∧Hc D=some (.lst us)∧ak H1 Hc∧us.length≤i∧bE Hc us (((Z.take i).filter pr).map f),⟨_,rfl,cf _,ax,gD (ak.refl H1) nD,aC _,bE.nil _⟩,?_⟩;rintro i m us Hc ⟨rfl,hi,eD,sH,lu,hL⟩;refine ⟨eD,?_⟩;by_cases bh:i<Z.length
 ·refine .inr ⟨js.go i Hc sH bh,fun v H' hy=>?_⟩
  obtain ⟨s',k⟩:=js.d_ i Hc v H' sH hy;obtain ⟨T,rfl,eT⟩:=k Z[i] (by simp [bh])
  have tk:Z.take (i+1)=Z.take i++[Z[i]]:=by rw [nN,bP bh];rfl
  have mz:Z[i]∈Z:=cB bh;generalize Z[i]=z at eT tk mz;refine ⟨T,_,_,rfl,.of eT,test z mz _ _ (s1.trans (sH.trans s')) ?_⟩;cases e:pr z with
  | true=>
   rw [ae rfl];refine step z mz _ _ (s1.trans (sH.trans s')) fun w H3 s3 ew=>?_;have e3:=s3 _ _ (s' _ _ eD);refine ⟨e3,by lia,Z.length-(i+1),by lia,rfl,bh,ax,gD (sH.trans (s'.trans s3)) nD,by simp;lia,?_⟩
   rw [tk,vS,eX,show [z].filter pr=[z] by simp [e]]
   exact ((hL.mono (s'.trans s3)).push ew).cY e3 fun b o nb e=>by rw [aH nb];exact e
  | false=>
   rw [aa (by simp)]
   refine ⟨Z.length-(i+1),by lia,rfl,bh,s' _ _ eD,sH.trans s',by lia,?_⟩
   rw [tk,vS,show [z].filter pr=[] by simp [e],oP]
   exact hL.mono s'
 ·have e:i=Z.length:=by lia
  subst e;rw [iD] at hL;exact .inl ⟨js.stop _ Hc sH (aC _),fin D us Hc (none_of s1 nD) (s1.trans sH) hL eD⟩
end L2
namespace My
open PySem L2
def Dt(z:Int×Int):Int×Int:=(if z.2<z.1 then z.2 else z.1,if z.2>z.1 then z.2 else z.1)
theorem X3(a b:Int):Dt (a,b)=(min a b,max a b):=by
 unfold Dt;refine Prod.ext ?_ ?_
 ·show (if b<a then b else a)=min a b
  split <;> lia
 ·show (if b>a then b else a)=max a b
  split <;> lia
variable {zs:List Int}
theorem X4(h:1≤zs.length):((zs.zip (zs.drop 1++zs.take 1)).filter fun _=>true).map Dt=iU zs:=by
 rw [List.filter_eq_self.mpr (fun _ _=>rfl)];unfold iU;refine fT ?_ fun k h1 h2=>?_
 ·simp
  lia
 ·have hk:k<zs.length:=by simpa using h2
  rw [e_,e_,List.getElem_zip,nM,X3];have e1:zs.getD k 0=zs[k]:=by simp [cg,hk]
  have e2:zs.getD ((k+1) % zs.length) 0=(zs.drop 1++zs.take 1)[k]'(by simp;lia):=by
   by_cases z:k+1<zs.length
   ·rw [zr z,List.getElem_append_left (by simp;lia)]
    simp [cg,z,Nat.add_comm]
   ·have:k+1=zs.length:=by lia
    rw [this,zt,List.getElem_append_right (by simp;lia)]
    simp [cg,show 0<zs.length by lia,show k-(zs.length-1)=0 by lia]
  rw [e1,e2]
theorem HR(z:Int)(zs:List Int):mE (.int z) (zs.map V.int)=decide (z∈zs):=by
 unfold mE;rw [List.any_map];by_cases h:z∈zs
 ·rw [bA h,zp]
  exact ⟨z,h,by simp [fj]⟩
 ·rw [bO h,List.any_eq_false]
  intro x hx e;have:x=z:=by simpa [fj] using e
  exact h (this▸hx)
theorem NV(zs:List Int):(zs.map V.int).all jF=true:=by rw [oU];intro x hx;obtain ⟨z,_,rfl⟩:=bG.mp hx;rfl
theorem X5(zs:List Int)(k:Nat):kZ (zs.map V.int) none (some (k:Int))=(zs.take k).map V.int:=by rw [Vp,List.map_take]
theorem X6(zs:List Int)(k:Nat)(h:k≤zs.length):kZ (zs.map V.int) (some (k:Int)) none=(zs.drop k).map V.int:=by rw [XG _ _ (by rw [aD];exact h),List.map_drop]
def iV(L:ar)(zs:List Int):Prop:=4≤zs.length∧zs.Nodup∧(iU zs).Perm (pV L zs)
instance (L:ar) (zs:List Int):Decidable (iV L zs):=by unfold iV;exact inferInstance
theorem X7(zs:List Int):(iU zs).length=zs.length:=by unfold iU;simp
theorem X8{p:Int×Int}(h:p∈iU zs):∃x y,x∈zs∧y∈zs∧p=(min x y,max x y)∧(zs.Nodup→2≤zs.length→x≠y):=by
 unfold iU at h;obtain ⟨k,hk,rfl⟩:=bG.mp h;have hk:=aU.mp hk;have hm:(k+1) % zs.length<zs.length:=Nat.mod_lt _ (by lia)
 have e1:zs.getD k 0=zs[k]:=by simp [cg,hk]
 have e2:zs.getD ((k+1) % zs.length) 0=zs[(k+1) % zs.length]:=by simp [cg,hm]
 refine ⟨zs.getD k 0,zs.getD ((k+1) % zs.length) 0,by rw [e1];exact cB _,by rw [e2];exact cB _,rfl,fun nd l2 e=>?_⟩
 rw [e1,e2] at e;have:=(sr nd).mp e;by_cases z:k+1<zs.length
 ·rw [zr z] at this
  lia
 ·rw [show k+1=zs.length by lia,zt] at this
  lia
theorem X9{z:Int}(h:z∈zs):∃p∈iU zs,p.1=z∨p.2=z:=by
 obtain ⟨k,hk,rfl⟩:=nH h;refine ⟨_,bG.mpr ⟨k,aU.mpr hk,rfl⟩,?_⟩;have e1:zs.getD k 0=zs[k]:=by simp [cg,hk]
 rw [e1];dsimp only;lia
variable {n:Nat} {L:ar}
theorem iV.X_(h:iV L zs)(ok:dD n L):∀z∈zs,0≤z∧z<n:=fun z hz=>by obtain ⟨p,hp,e⟩:=X9 hz;have:=(b_.mp (h.2.2.mem_iff.mp hp)).1;have:=ok p this;lia
def rC(p q:Int×Int):Prop:=p.1*1000+p.2≤q.1*1000+q.2
variable {M:ar}
theorem Ya{p:Array Nat}(P:oj M.length p)(U:rh (fun i=>(M.getD i (0,0)).1*1000+(M.getD i (0,0)).2) p M.length) :
  (p.toList.map fun i=>M.getD i (0,0)).Perm M∧(p.toList.map fun i=>M.getD i (0,0)).Pairwise rC:=by
 have pm:p.toList.Perm (List.range M.length):=qA.mp P;have lt:∀i∈p.toList,i<M.length:=fun i hi=>aU.mp (pm.mem_iff.mp hi);refine ⟨?_,?_⟩
 ·have e:((List.range M.length).map fun i=>M.getD i (0,0))=M:=by
   refine fT (by simp) fun i h1 h2=>?_
   rw [e_,nM,getD_at h2]
  have:=pm.map fun i=>M.getD i (0,0);rw [e] at this;exact this
 ·rw [qy]
  intro i j hi hj AA;rw [aD] at hi hj;rw [e_,e_];have sz:=P.size;have u:=U i j (by lia) (by rw [←sz,←fh];exact hj)
  unfold vN at u;have gi:p.getD i 0=p.toList[i]:=by
   have:i<p.size:=by rw [←fh];exact hi
   simp [Array.getD,this]
  have gj:p.getD j 0=p.toList[j]:=by
   have:j<p.size:=by rw [←fh];exact hj
   simp [Array.getD,this]
  rw [gi,gj] at u;exact u
theorem Yb{N R:ar}(p:M.Perm R)(oM:M.Pairwise rC)(oN:N.Pairwise lexLt)(bR:∀q∈R,0≤q.2∧q.2<1000)(bN:∀q∈N,0≤q.2∧q.2<1000):decide (M=N)=decide (R.Perm N):=by
 by_cases h:R.Perm N
 ·rw [bA h]
  refine bA ?_;have Yc:N.Pairwise rC:=Ca (fun{a b} ha hb l=>by have h1:=bN a ha;have h2:=bN b hb;unfold lexLt at l;unfold rC;lia) oN
  refine (p.trans h).eq_of_pairwise (fun a b ha hb h1 h2=>?_) oM Yc;have b1:=bR a (p.mem_iff.mp ha);have b2:=bN b hb;unfold rC at h1 h2;exact Prod.ext (by lia) (by lia)
 ·rw [bO h]
  refine bO fun e=>h ?_;subst e;exact p.symm
theorem Yd(ok:dD n L)(n1:n≤1000):∀q∈pV L zs,0≤q.2∧q.2<1000:=fun q hq=>by have:=ok q (b_.mp hq).1;lia
theorem Ye(h:L.Pairwise lexLt):(pV L zs).Pairwise lexLt:=h.filter _
def Yf(K:aF):Sp:=fun vs H Q _=>∃(tp a:Addr) (n:Nat) (L:ar) (zs:List Int),vs=[.ref tp,.ref a]∧cJ H tp n L∧dD n L∧L.Pairwise lexLt∧n≤1000∧L.length≤200∧aZ K H a (zs.map V.int)∧zs.length≤40∧(∀z∈zs,-1≤z∧z<1000)∧∀H',ak H H'→Q (.bl (decide (iV L zs))) H'
theorem NW{H:Hp}{l:Addr}{us:List V}{Q:VK}(el:H l=some (.lst us))(hM:bE H us M)(m64:M.length<1000)(b:∀q∈M,0≤q.2∧q.2<1000)
  (k:∀(l':Addr) (ws:List V) (N:ar) (H':Hp),ak H H'→H l'=none→H' l'=some (.lst ws)→bE H' ws N→N.Perm M→N.Pairwise rC→Q (.ref l') H'):Nb [.ref l] H Q:=by
 have lX:=hM.1;refine ⟨l,us,fun i=>(M.getD i (0,0)).1,fun i=>(M.getD i (0,0)).2,rfl,el,by lia,fun i v hv=>?_,fun p l' hp hu pW=>?_⟩
 ·have hi:i<M.length:=by rw [←lX];exact (bJ.mp hv).1
  obtain ⟨c,rfl,ec⟩:=hM.2 i v M[i] hv (by simp [hi])
  dsimp only;rw [getD_at hi];exact ⟨⟨c,rfl,ec⟩,b _ (cB hi)⟩
 ·rw [lX] at hp hu
  obtain ⟨pm,pw⟩:=Ya hp hu;have hP:bE H (p.toList.map fun i=>us.getD i .aR) (p.toList.map fun i=>M.getD i (0,0)):=hM.pick _ fun i hi=>by have:p.toList.Perm (List.range M.length):=qA.mp hp;exact aU.mp (this.mem_iff.mp hi)
  exact k l' _ _ _ (aS pW) pW ax (hP.mono (aS pW)) pm pw
theorem NX(nd:zs.Nodup)(h2:2≤zs.length)(b:∀z∈zs,-1≤z∧z<1000):∀q∈iU zs,0≤q.2∧q.2<1000:=fun q hq=>by obtain ⟨x,y,hx,hy,rfl,ne⟩:=X8 hq;have h1:=b x hx;have h3:=b y hy;have:=ne nd h2;dsimp only;lia
end My
namespace L2
open PySem PySem.Spec PyProof.Rows My
end L2
namespace My
open PySem L2
inductive Wk (bF:Nat→Nat→Prop) (bU:Nat→Prop) (s:Nat):Nat→Prop where
 | one {b:Nat}:bF s b→Wk bF bU s b
 | more {a b:Nat}:Wk bF bU s a→bU a→bF a b→Wk bF bU s b
section
variable {bF:Nat→Nat→Prop} {bU pX:Nat→Prop} {s t:Nat}
theorem Yg(t:Nat):fQ bF bU s t↔t=s∨Wk bF bU s t:=by
 constructor
 ·intro h
  induction h with
  | start=>exact .inl rfl
  | step _ o ab ih=>
   rcases ih with rfl | w;·exact .inr (.one ab)
   ·rcases o with rfl | o
    ·exact .inr (.one ab)
    ·exact .inr (.more w o ab)
 ·rintro (rfl | h)
  ·exact .start
  ·induction h with
   | one ab=>exact .step .start (.inl rfl) ab
   | more _ o ab ih=>exact .step ih (.inr o) ab
theorem Wk.mono(h:Wk bF bU s t)(k:∀x,bU x→pX x):Wk bF pX s t:=by
 induction h with
 | one ab=>exact .one ab
 | more _ o ab ih=>exact .more ih (k _ o) ab
theorem Wk.imp{AZ:Nat→Nat→Prop}(h:Wk bF bU s t)(k:∀a b,bF a b→AZ a b):Wk AZ bU s t:=by
 induction h with
 | one ab=>exact .one (k _ _ ab)
 | more _ o ab ih=>exact .more ih o (k _ _ ab)
theorem Wk.cons{a:Nat}(ab:bF s a)(ta:bU a)(h:Wk bF bU a t):Wk bF bU s t:=by
 induction h with
 | one e=>exact .more (.one ab) ta e
 | more _ o e ih=>exact .more ih o e
theorem Wk.symm(sy:∀a b,bF a b→bF b a)(h:Wk bF bU s t):Wk bF bU t s:=by
 induction h with
 | one ab=>exact .one (sy _ _ ab)
 | more _ o ab ih=>exact ih.cons (sy _ _ ab) o
theorem Wk.trans{p:Nat}(h:Wk bF bU s p)(tp:bU p)(h':Wk bF bU p t):Wk bF bU s t:=by
 induction h' with
 | one ab=>exact .more h tp ab
 | more _ o ab ih=>exact .more ih o ab
theorem Wk.step{p:Nat}(k:∀x,pX x↔bU x∨x=p):Wk bF pX s t↔Wk bF bU s t∨(Wk bF bU s p∧Wk bF bU p t):=by
 constructor
 ·intro h
  induction h with
  | one ab=>exact .inl (.one ab)
  | more _ o ab ih=>
   rcases (k _).mp o with o | rfl
   ·rcases ih with ih | ⟨i1,i2⟩
    ·exact .inl (.more ih o ab)
    ·exact .inr ⟨i1,.more i2 o ab⟩
   ·rcases ih with ih | ⟨i1,_⟩
    ·exact .inr ⟨ih,.one ab⟩
    ·exact .inr ⟨i1,.one ab⟩
 ·have m:∀x,bU x→pX x:=fun x h=>(k x).mpr (.inl h)
  rintro (h | ⟨h,h'⟩);·exact h.mono m
  ·exact (h.mono m).trans ((k p).mpr (.inr rfl)) (h'.mono m)
end
def aL(n:Nat)(L:ar)(a b:Nat):Prop:=a<n∧b<n∧(((a:Int),(b:Int))∈L∨((b:Int),(a:Int))∈L)
variable {n:Nat} {L:ar}
theorem gH(a b:Nat)(h:aL n L a b):aL n L b a:=⟨h.2.1,h.1,h.2.2.symm⟩
def pY(L:ar):Prop:=∀p∈L,p.1≠p.2
def eF(n:Nat)(o:List Nat)(k x:Nat):Prop:=x<n∧o.idxOf x<k
def tU(n:Nat)(L:ar)(o:List Nat)(k:Nat)(f:Nat→List Nat):Prop:=∀a b:Nat,a<n→b<n→k≤o.idxOf a→k≤o.idxOf b→(b∈f a↔a≠b∧Wk (aL n L) (eF n o k) a b)
variable {o:List Nat}
theorem tU.start{f:Nat→List Nat}(nb:gZ n L f)(ns:pY L):tU n L o 0 f:=fun a b ha hb _ _=>by
 rw [nb a b ha];constructor
 ·intro h
  refine ⟨fun e=>?_,.one ⟨ha,hb,h⟩⟩;subst e;rcases h with h | h <;> exact ns _ h rfl
 ·rintro ⟨_,h⟩
  cases h with
  | one ab=>exact ab.2.2
  | more _ o _=>exact absurd o.2 (oT _)
theorem tU.step{n:Nat}{L:ar}{o:List Nat}(ho:o.Perm (List.range n)){k p:Nat}{f g:Nat→List Nat}{ms:List Nat}(h:tU n L o k f)(hp:p<n)(ip:o.idxOf p=k)(hm:∀q,q∈ms↔q∈f p∧k<o.idxOf q)(ml:∀q∈ms,q<n)
  (con:∀a b:Nat,a<n→(b∈g a↔b∈f a∨(a≠b∧a∈ms∧b∈ms))):tU n L o (k+1) g:=fun a b ha hb ka kb=>by
 have th:∀x,eF n o (k+1) x↔eF n o k x∨x=p:=fun x=>by
  unfold eF;constructor
  ·rintro ⟨h1,h2⟩
   by_cases e:o.idxOf x=k
   ·right
    by_cases z:x=p;·exact z
    ·exact absurd (e.trans ip.symm) (mV ho h1 hp z)
   ·exact .inl ⟨h1,by lia⟩
  ·rintro (⟨h1,h2⟩ | rfl)
   ·exact ⟨h1,by lia⟩
   ·exact ⟨hp,by lia⟩
 have ap:a≠p:=fun e=>by subst e;lia
 have bp:b≠p:=fun e=>by subst e;lia
 have ea:=h p a hp ha (by lia) (by lia)
 have eb:=h p b hp hb (by lia) (by lia)
 rw [con a b ha,h a b ha hb (by lia) (by lia),hm a,hm b,ea,eb,Wk.step th]
 constructor
 ·rintro (⟨h1,h2⟩ | ⟨h1,⟨⟨_,h2⟩,_⟩,⟨_,h3⟩,_⟩)
  ·exact ⟨h1,.inl h2⟩
  ·exact ⟨h1,.inr ⟨h2.symm gH,h3⟩⟩
 ·rintro ⟨h1,h2 | ⟨h2,h3⟩⟩
  ·exact .inl ⟨h1,h2⟩
  ·exact .inr ⟨h1,⟨⟨Ne.symm ap,h2.symm gH⟩,by lia⟩,⟨Ne.symm bp,h3⟩,by lia⟩
def jT(n:Nat)(L:ar)(o:List Nat)(p:Nat)(ms:List Nat):Prop:=∀q,q∈ms↔q<n∧o.idxOf p<o.idxOf q∧Wk (aL n L) (eF n o (o.idxOf p)) p q
def Yh(N:Addr):Sp:=fun vs H Q E=>∃(t a:Addr) (n:Nat) (L:ar) (zs:List Int),vs=[.ref t,.ref a]∧cJ H t n L∧dD n L∧pY L∧n≤60∧H a=some (.lst (zs.map V.int))∧zs.length<64 ∧
 (¬lF zs n→∀H',ak H H'→E (.ref N) none H') ∧
 ∀o:List Nat,zs=o.map iN→o.Perm (List.range n)→∀(H':Hp) (D:Addr) (rs:Nat→Addr) (g:Nat→List Nat),ak H H'→H D=none→(∀p,p<n→H (rs p)=none)→NH H' D n rs g→(∀p,p<n→iw n o p (g p)∧jT n L o p (g p))→Q (.ref D) H'
theorem HS{p q p' q':Nat}(h:da p q=da p' q'):(p=p'∧q=q')∨(p=q'∧q=p'):=by
 unfold da at h;have h1:=dM Prod.fst h;have h2:=dM Prod.snd h;dsimp only at h1 h2
 split at h1 <;> split at h1 <;> split at h2 <;> split at h2 <;> lia
def dz(n:Nat)(L:ar)(o:List Nat)(M:ar):Prop:=M.Pairwise lexLt∧∀z,z∈M↔∃p q:Nat,p<n∧q<n∧o.idxOf p<o.idxOf q∧Wk (aL n L) (eF n o (o.idxOf p)) p q∧z=da p q
variable {M N:ar}
theorem dz.uniq(h:dz n L o M)(h':dz n L o N):M=N:=Nm h.1 h'.1 fun z=>by rw [h.2 z,h'.2 z]
theorem dz.lt{n:Nat}{L:ar}{o:List Nat}{M:ar}(h:dz n L o M):∀z∈M,0≤z.1∧z.1<z.2∧z.2<(n:Int):=fun z hz=>by
 obtain ⟨p,q,hp,hq,hi,_,rfl⟩:=(h.2 z).mp hz;have ne:p≠q:=fun e=>by subst e;lia
 unfold da;dsimp only
 split <;> split <;> lia
theorem Yi(h:N.Pairwise rC)(nd:N.Nodup)(b:∀q∈N,0≤q.2∧q.2<1000):N.Pairwise lexLt:=by
 have:=List.Pairwise.and h nd;refine Ca (fun{x y} hx hy kC=>?_) this;obtain ⟨h1,h2⟩:=kC;have b1:=b x hx;have b2:=b y hy;obtain ⟨x1,x2⟩:=x;obtain ⟨y1,y2⟩:=y;unfold rC at h1;unfold lexLt;dsimp only at *;by_cases z:x1<y1;·exact .inl z
 ·right
  have e1:x1=y1:=by lia
  subst e1;refine ⟨rfl,?_⟩;by_cases y:x2=y2
  ·subst y
   exact absurd rfl h2
  ·lia
variable {g:Nat→List Nat}
theorem Yj(h:o.Perm (List.range n))(n9:n≤30)(k:∀p,p<n→iw n o p (g p)):((List.range n).map fun p=>(g p).length).sum≤435:=by
 have a:=NJ (l:=List.range n) (f:=fun p=>(g p).length) (g:=fun p=>n-1-o.idxOf p) fun p hp=>HI h (k p (aU.mp hp));have b:((List.range n).map fun p=>n-1-o.idxOf p).sum=(o.map fun p=>n-1-o.idxOf p).sum:=((h.map _).symm).sum_nat;have c:(o.map fun p=>n-1-o.idxOf p)=(List.range n).map fun k=>n-1-k:=by
  have nd:=pU h;refine fT (by simp [w5 h]) fun i h1 h2=>?_
  rw [e_,e_,nM,Dp nd (by simpa using h1)]
 have d:∀n:Nat,n≤30→((List.range n).map fun k=>n-1-k).sum≤435:=by decide
 rw [c] at b;have:=d n n9;lia
structure Du (H:Hp) (g:Nat→List Nat) (k:Nat) (xs:List V) (M:ar):Prop where
 at':bE H xs M
 len:M.length=((List.range k).map fun p=>(g p).length).sum
 mem:∀z,z∈M↔∃p q:Nat,p<k∧q∈g p∧z=da p q
 nd:M.Nodup
variable {H:Hp} {xs ys:List V}
theorem Du.more{H':Hp}{k:Nat}(h:Du H g k xs M)(s:bE H xs M→bE H' xs M)(hk:k<n)(hg:∀p,p<n→iw n o p (g p))(hy:bE H' ys ((g k).map (da k))):Du H' g (k+1) (xs++ys) (M++(g k).map (da k)):=by
 have gk:=hg k hk;refine ⟨(s h.at').app hy,by rw [dO,h.len,aD,vJ,eX,B4];simp,fun z=>?_,?_⟩
 ·rw [dW,h.mem,bG]
  constructor
  ·rintro (⟨p,q,h1,h2,h3⟩ | ⟨q,h1,rfl⟩)
   ·exact ⟨p,q,by lia,h2,h3⟩
   ·exact ⟨k,q,by lia,h1,rfl⟩
  ·rintro ⟨p,q,h1,h2,rfl⟩
   by_cases e:p=k
   ·subst e
    exact .inr ⟨q,h2,rfl⟩
   ·exact .inl ⟨p,q,by lia,h2,rfl⟩
 ·refine jz.mpr ⟨h.nd,?_,fun a ha b hb e=>?_⟩
  ·refine AK (List.Pairwise.imp (fun h=>bW h) gk.up) fun q q' hq mJ e=>?_
   rcases HS e with ⟨_,e⟩ | ⟨e1,e2⟩;·exact e
   ·lia
  ·subst e
   obtain ⟨p,q,h1,h2,rfl⟩:=(h.mem a).mp ha;obtain ⟨q',mJ,e⟩:=bG.mp hb;rcases HS e with ⟨e1,e2⟩ | ⟨e1,e2⟩;·lia
   ·have l1:=(hg p (by lia)).la q h2
    have l2:=gk.la q' mJ;subst e1;subst e2;lia
def Yk(N:Addr):Sp:=fun vs H Q E=>∃(t a:Addr) (n:Nat) (L:ar) (zs:List Int),vs=[.ref t,.ref a]∧cJ H t n L∧dD n L∧pY L∧n≤30∧H a=some (.lst (zs.map V.int))∧zs.length<64 ∧
 (¬lF zs n→∀H',ak H H'→E (.ref N) none H') ∧
 ∀o:List Nat,zs=o.map iN→o.Perm (List.range n)→∀(H':Hp) (t':Addr) (M:ar),ak H H'→H t'=none→cJ H' t' n M→dz n L o M→M.length≤435→Q (.ref t') H'
def Yl:R2:=fun x y H Q=>∃(a b:Addr) (n:Nat) (L M:ar),x=.ref a∧y=.ref b∧cJ H a n L∧cJ H b n M∧Q (.bl (decide (L=M))) H
variable {X:Cx}
theorem Ym{pins:aV}{σ:St}{s:Shared}(I:L2.Inv X pins σ H s){A:Around}(hu:A.units<cLine){us vs:List Value}(k1:bE H xs L)(k2:bE H ys M)(r1:Vals xs us)(r2:Vals ys vs):∀j (z1:j<us.toArray.size) (z2:j<vs.toArray.size),SeqAt.EqAt A s us.toArray[j] vs.toArray[j] (decide (L.getD j (0,0)=M.getD j (0,0))):=fun j z1 z2=>by
 have l1:=r1.length;have l2:=r2.length;have m1:=k1.1;have m2:=k2.1;have tH:j<us.length:=by simpa using z1
 have GV:j<vs.length:=by simpa using z2
 obtain ⟨p,ep,hp⟩:=k1.2 j xs[j] (L.getD j (0,0)) (by simp) (by simp [cg,show j<L.length by lia])
 obtain ⟨p',jC,ot⟩:=k2.2 j ys[j] (M.getD j (0,0)) (by simp) (by simp [cg,show j<M.length by lia])
 obtain ⟨x',mh,rx⟩:=r1.get (i:=j) (x:=xs[j]) (by simp)
 obtain ⟨y',pL,ry⟩:=r2.get (i:=j) (x:=ys[j]) (by simp)
 have e1:us.toArray[j]=x':=by simpa using (bJ.mp mh).2
 have e2:vs.toArray[j]=y':=by simpa using (bJ.mp pL).2
 rw [e1,e2];rw [ep] at rx;rw [jC] at ry;cases rx;cases ry;exact NS I hu hp ot
theorem Yn:((List.range (min L.length M.length)).all (fun j=>decide (L.getD j (0,0)=M.getD j (0,0))) && L.length == M.length)=decide (L=M):=by
 by_cases e:L=M
 ·subst e
  simp
 ·rw [bO e,B1]
  intro h;rw [kO,oU] at h;obtain ⟨h1,h2⟩:=h;have hl:L.length=M.length:=by simpa using h2
  refine e (fT hl fun j g1 g2=>?_);have:=h1 j (aU.mpr (by lia))
  simpa [cg,g1,g2] using this
theorem Yo(hu:X.A.units+64<cLine):cX X (compareOp .Eq) Yl:=by
 intro pins s σ H x y v u Q I rx ry h;obtain ⟨a,b,n,L,M,rfl,rfl,⟨la,ua,Yp,NY,k1⟩,⟨lb,ub,Yq,HU,k2⟩,q⟩:=h;cases rx;cases ry;obtain ⟨us,r1,t1,_⟩:=I.tuple (.of Yp);obtain ⟨vs,r2,t2,_⟩:=I.tuple (.of Yq);obtain ⟨a1,a2,rfl,HM,HN⟩:=vals2 r1;obtain ⟨b1,b2,rfl,HP,HQ⟩:=vals2 r2;cases HN;cases HQ;have inner:SeqAt.EqAt X.A.in1 s (.ref la) (.ref lb) (decide (L=M)):=by
  by_cases pq:la=lb
  ·subst pq
   rw [NY] at HU;cases HU;have:L=M:=by
    have m1:=k1.1;have m2:=k2.1;refine fT (by lia) fun j g1 g2=>?_
    obtain ⟨p,ep,hp⟩:=k1.2 j (ua[j]'(by lia)) L[j] (by simp) (by simp [g1])
    obtain ⟨p',jC,ot⟩:=k2.2 j (ua[j]'(by lia)) M[j] (by simp) (by simp [g2])
    rw [ep] at jC;cases jC;rw [hp] at ot;simp only [zq,HO.tup.injEq,List.cons.injEq,V.int.injEq,and_true] at ot;exact Prod.ext ot.1 ot.2
   rw [bA this];exact SeqAt.EqAt.same _
  ·obtain ⟨us,r1,t1,_⟩:=I.tuple (.of NY)
   obtain ⟨vs,r2,t2,_⟩:=I.tuple (.of HU);have z:=SeqAt.RcAt.tuples (A:=X.A.in1) t1 t2 (by rw [qv];lia) (Ym I (by rw [qv,qv];lia) k1 k2 r1 r2)
   have e1:us.toArray.size=L.length:=by rw [b9,←r1.length];exact k1.1
   have e2:vs.toArray.size=M.length:=by rw [b9,←r2.length];exact k2.1
   rw [e1,e2,Yn] at z;exact vK pq z
 refine SeqAt.eq_tupleAt (e:=fun j=>if j=0 then fj (.int (n:Int)) (.int (n:Int)) else decide (L=M)) t1 t2 (by lia) (fun j z1 z2=>?_) ⟨.bl (decide (L=M)),H,I,?_,q⟩
 ·have:j<2:=z1
  match j with
  | 0=>exact qR HM HP rfl rfl
  | 1=>exact inner
 ·show RelV _ _
  have e:((List.range 2).all (fun j=>if j=0 then fj (.int (n:Int)) (.int (n:Int)) else decide (L=M)) && true)=decide (L=M):=by simp [vJ,fj]
  exact dM Value.bool e.symm▸rfl
def Yr(N:Addr):Sp:=fun vs H Q E=>∃(t a:Addr) (n:Nat) (L:ar) (zs:List Int),vs=[.ref t,.ref a]∧cJ H t n L∧dD n L∧pY L∧n≤30∧H a=some (.lst (zs.map V.int))∧zs.length<64 ∧
 (¬lF zs n→∀H',ak H H'→E (.ref N) none H') ∧
 ∀o:List Nat,zs=o.map iN→o.Perm (List.range n)→∀(H':Hp) (M:ar),ak H H'→dz n L o M→Q (.bl (decide (M=L))) H'
end My
namespace L2
open PySem PySem.Spec PyProof.Rows
section
variable {X:Cx} {a b:Expr} {rest:List Expr} {pos:Pos} {ta tb:TE}
def Ys:V→List V→Hp→VK→Prop:=fun x vs H Q=>∃(l:Addr) (zs:List Int) (j:Nat) (z:Int),x=.ref l∧vs=[.int z]∧H l=some (.lst (zs.map V.int))∧zs[j]?=some z∧(∀m,m<j→zs[m]?≠some z)∧Q .aR (upd H l (.lst ((zs.map V.int).eraseIdx j)))
theorem Yt:Aa X "list.remove" Ys:=by
 intro pins s σ H x vs v us Q I rx rv h;obtain ⟨l,zs,j,z,rfl,rfl,hH,hj,Yu,q⟩:=h;cases rx;obtain ⟨u,rfl,ru⟩:=rv.one;obtain ⟨t,rfl⟩:=ru;obtain ⟨sz,its,n,r,hl,e⟩:=I.pG hH;have hjl:j<zs.length:=(bJ.mp hj).1;rw [aD] at hl sz;have at':∀m (hm:m<its.toArray.size),∃t',its.toArray[m]=.int (zs.getD m 0) t':=fun m hm=>by
  have ft:m<zs.length:=by simp at hm;lia
  obtain ⟨w,hw,ic⟩:=r.get (i:=m) (x:=.int (zs.getD m 0)) (by rw [bo,cg,bP ft];rfl)
  obtain ⟨t',rfl⟩:=ic;exact ⟨t',by simpa using (bJ.mp hw).2⟩
 have zj:zs.getD j 0=z:=by rw [cg,hj];rfl
 refine sD F.slot_list_remove ⟨_,e,rfl⟩ F.entry_list_remove (F.args_list_remove_2 _ _) (MeetsSeq.list_remove l its.toArray n (.int z t) (fun v=>numOf v == z) (fun y hy=>?_) j (by rw [b9];lia) ?_ (fun m hm Yv=>?_) (by rw [b9];lia)) ⟨e,?_⟩
 ·obtain ⟨m,hm,rfl⟩:=Array.getElem_of_mem hy
  obtain ⟨t',e'⟩:=at' m hm;rw [e'];exact MeetsSeq.EqGives.int _ _ _ _
 ·obtain ⟨t',e'⟩:=at' j (by rw [b9];lia)
  rw [e',zj];exact B3 z
 ·obtain ⟨t',e'⟩:=at' m hm
  rw [e'];have ft:m<zs.length:=by simp at hm;lia
  have:=Yu m Yv;rw [bP ft] at this;have ne:zs.getD m 0≠z:=fun q=>this (by rw [←q,cg,bP ft];rfl)
  show (zs.getD m 0 == z)=false;simpa using ne
 ·refine ⟨.aR,_,I.Ab (its':=its.eraseIdx j) hH e ?_ (r.eraseIdx j) ?_,rfl,q⟩
  ·show its.toArray.eraseIdxIfInBounds j=(its.eraseIdx j).toArray
   rw [FJ]
  ·have:=Gx (zs.map V.int) j
   rw [aD] at this;lia
end
end L2
namespace My
open PySem L2
theorem NZ:∀{zs:List Nat} {j m:Nat},m<zs.idxOf j→zs[m]?≠some j
 | [],_,_,h=>by simp at h
 | z::zs,j,m,h=>by
  by_cases e:z=j
  ·subst e
   simp [vU] at h
  ·rw [zu,show (z == j)=false by simpa using e] at h
   dsimp only [cond_false] at h;cases m with
   | zero=>simpa using e
   | succ m=>rw [List.getElem?_cons_succ];exact NZ (by lia)
theorem N0{α β:Type}(f:α→β):∀(l:List α) (i:Nat),(l.map f).eraseIdx i=(l.eraseIdx i).map f
 | [],_=>rfl
 | _::_,0=>rfl
 | x::l,i+1=>by show f x::(l.map f).eraseIdx i=f x::(l.eraseIdx i).map f;rw [N0 f l i]
end My
namespace L2
open PySem PySem.Spec PyProof.Rows
section
variable {prog:Program} {w:World} {A:Around} {E:aO} {s:Shared}
end
section
variable {prog:Program} {w:World} {A:Around} {E:aO} {s:Shared}
end
section
variable {X:Cx}
end
section
variable {prog:Program} {w:World} {A:Around} {E:aO} {s:Shared}
end
end L2
namespace My
open PySem L2
end My
namespace L2
open PySem PySem.Spec PyProof.Rows
end L2
namespace My
open PySem L2
end My
namespace L2
open PySem PySem.Spec PyProof.Rows
section
variable {X:Cx}
end
end L2
namespace My
open PySem L2
theorem N1:∀{A B:List Nat},A.Pairwise (· < ·)→B.Pairwise (· < ·)→(∀p,p∈A↔p∈B)→A=B:=fun{A B} h1 h2 e=>by have nA:A.Nodup:=List.Pairwise.imp (fun h=>bW h) h1;have nB:B.Nodup:=List.Pairwise.imp (fun h=>bW h) h2;exact ((kP nA nB).mpr e).eq_of_pairwise (fun a b _ _ h h'=>by lia) h1 h2
theorem Yw{A B:List Nat}(p:A.Perm B)(nd:B.Nodup)(s:(A.map iN).Pairwise (·≤·)):A.Pairwise (· < ·):=by rw [jA] at s;refine List.Pairwise.imp₂ (fun a b h1 h2=>?_) s (p.nodup_iff.mpr nd);have h1:(a:Int)≤(b:Int):=h1;have h2:a≠b:=h2;lia
def p2(g:Nat→Nat→Nat):List Nat→Nat
 | []=>0
 | x::l=>(l.map (g x)).sum+p2 g l
def p3(f:Nat→Nat→Nat→Nat):List Nat→Nat
 | []=>0
 | x::l=>p2 (f x) l+p3 f l
variable {g:Nat→Nat→Nat} {l l':List Nat}
theorem N2(sy:∀x y,g x y=g y x)(p:l.Perm l'):p2 g l=p2 g l':=by
 induction p with
 | nil=>rfl
 | cons x p ih=>simp only [p2,ih];rw [(p.map (g x)).sum_nat]
 | swap x y l=>simp only [p2,du,fC];rw [sy x y];lia
 | trans _ _ h1 h2=>exact h1.trans h2
theorem N3{f:Nat→Nat→Nat→Nat}(s1:∀x y z,f x y z=f y x z)(s2:∀x y z,f x y z=f x z y)(p:l.Perm l'):p3 f l=p3 f l':=by
 induction p with
 | nil=>rfl
 | cons x p ih=>simp only [p3,ih];rw [N2 (s2 x) p]
 | swap x y l=>simp only [p3,p2];rw [show l.map (f y x)=l.map (f x y) from hE fun z _=>s1 y x z];lia
 | trans _ _ h1 h2=>exact h1.trans h2
variable {f:Nat→Nat}
theorem oz{g:Nat→Nat}(h:∀x∈l,f x=g x):(l.map f).sum=(l.map g).sum:=dM List.sum (hE h)
theorem A0(h:∀x∈l,f x=0):(l.map f).sum=0:=by
 induction l with
 | nil=>rfl
 | cons x l ih=>rw [du,fC,h x cG,ih fun y hy=>h y (cx _ hy)]
theorem Yx{g:Nat→Nat}(h:∀x∈l,f x≤g x):(l.map f).sum≤(l.map g).sum:=by
 induction l with
 | nil=>exact aC _
 | cons x l ih=>rw [du,fC,du,fC];have:=h x cG;have:=ih fun y hy=>h y (cx _ hy);lia
theorem Yy{g:Nat→Nat}:(l.map fun x=>f x+g x).sum=(l.map f).sum+(l.map g).sum:=by
 induction l with
 | nil=>rfl
 | cons x l ih=>simp only [du,fC,ih];lia
variable {b c:Nat}
theorem Yz(nd:l.Nodup)(hb:b∈l):(l.map fun y=>if y=b then c else 0).sum=c:=by
 induction l with
 | nil=>cases hb
 | cons x l ih=>
  rw [du,fC];obtain ⟨n1,n2⟩:=i3.mp nd;rcases bw.mp hb with rfl | h
  ·rw [ae rfl,A0 fun y hy=>aa (fun e:y=b=>n1 (e▸hy))]
   lia
  ·rw [aa (fun e:x=b=>n1 (e▸h)),ih n2 h]
   lia
variable {g':Nat→Nat→Nat}
theorem HV(nd:l.Nodup)(h:∀x∈l,∀y∈l,x≠y→g x y=g' x y):p2 g l=p2 g' l:=by
 induction l with
 | nil=>rfl
 | cons x l ih=>obtain ⟨n1,n2⟩:=i3.mp nd;show (l.map (g x)).sum+p2 g l=(l.map (g' x)).sum+p2 g' l;rw [oz fun y hy=>h x cG y (cx _ hy) fun e=>n1 (e▸hy),ih n2 fun a ha b hb=>h a (cx _ ha) b (cx _ hb)]
theorem N4(h:∀x∈l,∀y∈l,g x y≤g' x y):p2 g l≤p2 g' l:=by
 induction l with
 | nil=>exact aC _
 | cons x l ih=>show (l.map (g x)).sum+p2 g l≤(l.map (g' x)).sum+p2 g' l;exact Nat.add_le_add (Yx fun y hy=>h x cG y (cx _ hy)) (ih fun a ha b hb=>h a (cx _ ha) b (cx _ hb))
theorem N5{f f':Nat→Nat→Nat→Nat}(h:∀x∈l,∀y∈l,∀z∈l,f x y z≤f' x y z):p3 f l≤p3 f' l:=by
 induction l with
 | nil=>exact aC _
 | cons x l ih=>show p2 (f x) l+p3 f l≤p2 (f' x) l+p3 f' l;exact Nat.add_le_add (N4 fun y hy z hz=>h x cG y (cx _ hy) z (cx _ hz)) (ih fun a ha b hb c hc=>h a (cx _ ha) b (cx _ hb) c (cx _ hc))
theorem YA:p2 (fun x y=>g x y+g' x y) l=p2 g l+p2 g' l:=by
 induction l with
 | nil=>rfl
 | cons x l ih=>simp only [p2,ih,Yy];lia
theorem N6(h:∀x∈l,∀y,g x y=0):p2 g l=0:=by
 induction l with
 | nil=>rfl
 | cons x l ih=>show (l.map (g x)).sum+p2 g l=0;rw [A0 fun y _=>h x cG y,ih fun a ha=>h a (cx _ ha)]
variable {a:Nat}
theorem YB(pw:l.Pairwise (· < ·))(ha:a∈l)(hb:b∈l)(ab:a<b):p2 (fun i j=>if i=a∧j=b then c else 0) l=c:=by
 induction l with
 | nil=>cases ha
 | cons x l ih=>
  obtain ⟨n1,n2⟩:=ma.mp pw;have nd:l.Nodup:=n2.imp fun h=>bW h;show (l.map fun j=>if x=a∧j=b then c else 0).sum+p2 _ l=c
  rcases bw.mp ha with rfl | h
  ·have fO:b∈l:=by
    rcases bw.mp hb with rfl | h;·lia
    ·exact h
   rw [show (l.map fun j=>if a=a∧j=b then c else 0).sum=(l.map fun y=>if y=b then c else 0).sum from oz fun y _=>by simp,Yz nd fO,N6 fun i hi j=>aa fun e=>by have:=n1 i hi;lia]
   lia
  ·have xa:=n1 a h
   have fO:b∈l:=by
    rcases bw.mp hb with rfl | h;·lia
    ·exact h
   rw [A0 fun y _=>aa fun e=>by lia,ih n2 h fO]
   lia
theorem A1(pw:l.Pairwise (· < ·)):p2 g l=(l.map fun y=>(l.map fun z=>if y<z then g y z else 0).sum).sum:=by
 induction l with
 | nil=>rfl
 | cons x l ih=>
  obtain ⟨n1,n2⟩:=ma.mp pw;show (l.map (g x)).sum+p2 g l=_;rw [du,fC,du,fC,aa (eW x),ih n2];rw [show (l.map fun z=>if x<z then g x z else 0).sum=(l.map (g x)).sum from oz fun z hz=>ae (n1 z hz)]
  rw [show (l.map fun y=>((x::l).map fun z=>if y<z then g y z else 0).sum).sum=(l.map fun y=>(l.map fun z=>if y<z then g y z else 0).sum).sum from oz fun y hy=>by
   rw [du,fC,aa (by have:=n1 y hy;lia)]
   lia]
  lia
theorem YC{f:Nat→Nat→Nat→Nat}(pw:l.Pairwise (· < ·)):p3 f l=p2 (fun x y=>(l.map fun z=>if y<z then f x y z else 0).sum) l:=by
 induction l with
 | nil=>rfl
 | cons x l ih=>
  obtain ⟨n1,n2⟩:=ma.mp pw;have nd:l.Nodup:=n2.imp fun h=>bW h;have one:∀u,∀y∈l,((x::l).map fun z=>if y<z then f u y z else 0).sum=(l.map fun z=>if y<z then f u y z else 0).sum:=fun u y hy=>by
   rw [du,fC,aa (by have:=n1 y hy;lia)]
   lia
  show p2 (f x) l+p3 f l=(l.map fun y=>((x::l).map fun z=>if y<z then f x y z else 0).sum).sum+p2 (fun u y=>((x::l).map fun z=>if y<z then f u y z else 0).sum) l
  rw [ih n2,A1 n2,oz (one x),HV nd fun u _ y hy _=>one u y hy]
theorem tV(n:Nat):(List.range n).Pairwise (· < ·):=B8
theorem HW{n:Nat}{W:Nat→Nat→Nat}:∀{M:ar},M.Nodup→(∀z∈M,0≤z.1∧z.1<z.2∧z.2<(n:Int))→(M.map fun z=>W z.1.toNat z.2.toNat).sum=p2 (fun i j=>if ((i:Int),(j:Int))∈M then W i j else 0) (List.range n)
 | [],_,_=>by rw [N6 fun i _ j=>aa fun h=>nomatch h];rfl
 | z::M,nd,lt=>by
  obtain ⟨n1,n2⟩:=i3.mp nd;obtain ⟨z0,z1,z2⟩:=lt z cG;rw [du,fC,HW n2 fun y hy=>lt y (cx _ hy)];have d:=YB (c:=W z.1.toNat z.2.toNat) (tV n) (a:=z.1.toNat) (b:=z.2.toNat) (aU.mpr (by lia)) (aU.mpr (by lia)) (by lia)
  rw [←d,←YA];refine HV fU fun i _ j _ _=>?_;by_cases e:i=z.1.toNat∧j=z.2.toNat
  ·have ez:((i:Int),(j:Int))=z:=by obtain ⟨e1,e2⟩:=e;subst e1;subst e2;rw [sL z0,sL (by lia)]
   obtain ⟨e1,e2⟩:=e;have hm:((i:Int),(j:Int))∈z::M:=ez.symm▸cG;have hn:¬((i:Int),(j:Int))∈M:=fun h=>n1 (ez▸h);rw [ae ⟨e1,e2⟩,ae hm,aa hn,←e1,←e2,zh]
  ·rw [aa e]
   have:((i:Int),(j:Int))≠z:=fun h=>e (by subst h;exact ⟨(cZ i).symm,(cZ j).symm⟩)
   by_cases h:((i:Int),(j:Int))∈M
   ·rw [ae h,ae (cx _ h)]
    lia
   ·rw [aa h,aa fun h'=>(bw.mp h').elim this h]
def rL(M:ar)(a b:Nat):Bool:=decide (((a:Int),(b:Int))∈M) || decide (((b:Int),(a:Int))∈M)
variable {M:ar}
theorem gJ:rL M a b=true↔((a:Int),(b:Int))∈M∨((b:Int),(a:Int))∈M:=by unfold rL;rw [Bool.or_eq_true,eY,eY]
theorem Dv(M:ar)(a b:Nat):rL M a b=rL M b a:=Bool.or_comm ..
def rE(r:Nat→Nat→Bool)(x y:Nat):Nat:=if r x y then 1 else 0
def gK(r:Nat→Nat→Bool)(x y z:Nat):Nat:=if r x y && r x z && r y z then 1 else 0
def pZ(n:Nat)(M:ar):Nat:=p3 (gK (rL M)) (List.range n)
def mW(n:Nat)(M:ar):Nat:=4*M.length+2*pZ n M+n
variable {n:Nat}
theorem N7(nd:M.Nodup)(lt:∀z∈M,0≤z.1∧z.1<z.2∧z.2<(n:Int)):M.length=p2 (rE (rL M)) (List.range n):=by
 have:=HW (W:=fun _ _=>1) nd lt;rw [show (M.map fun z=>(fun _ _=>1:Nat→Nat→Nat) z.1.toNat z.2.toNat).sum=M.length from by
  clear this nd lt
  induction M with
  | nil=>rfl
  | cons z M ih=>rw [du,fC,ih,d8];exact Nat.add_comm 1 _] at this
 rw [this,A1 (tV n),A1 (tV n)];refine oz fun i _=>oz fun j _=>?_;by_cases ij:i<j
 ·rw [ae ij,ae ij]
  unfold rE;by_cases h:((i:Int),(j:Int))∈M;·rw [ae h,ae (gJ.mpr (.inl h))]
  ·rw [aa h,aa fun h'=>by
    rcases gJ.mp h' with h' | h';·exact h h'
    ·have:=lt _ h'
     lia]
 ·rw [aa ij,aa ij]
theorem YD(nd:M.Nodup)(lt:∀z∈M,0≤z.1∧z.1<z.2∧z.2<(n:Int)) :
  (M.map fun z=>((List.range n).filter fun k=>decide (z.2.toNat<k) && rL M z.1.toNat k && rL M z.2.toNat k).length).sum=pZ n M:=by
 have:=HW (n:=n) (W:=fun i j=>((List.range n).filter fun k=>decide (j<k) && rL M i k && rL M j k).length) nd lt;rw [this];unfold pZ;rw [YC (tV n),A1 (tV n),A1 (tV n)];refine oz fun i _=>oz fun j _=>?_;by_cases ij:i<j
 ·rw [ae ij,ae ij]
  have fl:∀(l:List Nat) (c:Nat→Bool),(l.filter c).length=(l.map fun k=>if c k then 1 else 0).sum:=fun l c=>by
   induction l with
   | nil=>rfl
   | cons x l ih=>
    rw [qE,du,fC];by_cases h:c x;·rw [ae h,ae h,d8,ih];lia
    ·rw [aa h,aa h,ih];lia
  by_cases h:((i:Int),(j:Int))∈M
  ·rw [ae h,fl]
   refine oz fun k _=>?_;unfold gK;by_cases jk:j<k;·rw [ae jk,bA jk,gJ.mpr (.inl h)]
   ·rw [aa jk,bO jk]
    rfl
  ·rw [aa h,A0 fun k _=>?_]
   by_cases jk:j<k
   ·rw [ae jk]
    unfold gK;rw [aa fun h'=>?_];rw [kO,kO] at h';rcases gJ.mp h'.1.1 with h' | h';·exact h h'
    ·have:=lt _ h'
     lia
   ·rw [aa jk]
 ·rw [aa ij,aa ij]
theorem N8(M:ar)(x y z:Nat):gK (rL M) x y z=gK (rL M) y x z:=by unfold gK;rw [Dv M y x];cases rL M x y <;> cases rL M x z <;> cases rL M y z <;> rfl
theorem N9(M:ar)(x y z:Nat):gK (rL M) x y z=gK (rL M) x z y:=by unfold gK;rw [Dv M z y];cases rL M x y <;> cases rL M x z <;> cases rL M y z <;> rfl
theorem N_(a:Nat→Bool):∀l:List Nat,2*p2 (fun y z=>if a y && a z then 1 else 0) l+(l.map fun y=>if a y then 1 else 0).sum=(l.map fun y=>if a y then 1 else 0).sum*(l.map fun y=>if a y then 1 else 0).sum
 | []=>rfl
 | x::l=>by
  have ih:=N_ a l;simp only [p2,du,fC];by_cases h:a x
  ·simp only [h,Bool.true_and,j6]
   simp only [Nat.add_mul,Nat.mul_add];lia
  ·simp only [h,y8,zl,oR]
   rw [A0 fun _ _=>rfl,e9,e9];exact ih
def Good(r:Nat→Nat→Bool)(m:Nat→Nat):List Nat→Prop
 | []=>True
 | x::l=>m x=(l.map fun y=>if r x y then 1 else 0).sum∧(∀y∈l,∀z∈l,y≠z→r x y=true→r x z=true→r y z=true)∧Good r m l
theorem Oa{r:Nat→Nat→Bool}{m:Nat→Nat}:∀{l:List Nat},l.Nodup→Good r m l→(l.map fun x=>m x*m x+3*m x+1).sum=4*p2 (rE r) l+2*p3 (gK r) l+l.length
 | [],_,_=>rfl
 | x::l,nd,⟨h1,h2,h3⟩=>by
  obtain ⟨n1,n2⟩:=i3.mp nd;have ih:=Oa n2 h3;have e:p2 (gK r x) l=p2 (fun y z=>if r x y && r x z then 1 else 0) l:=HV n2 fun y hy z hz yz=>by
   unfold gK;by_cases a:r x y <;> by_cases b:r x z;·simp [a,b,h2 y hy z hz yz a b]
   ·simp [a,b]
   ·simp [a,b]
   ·simp [a,b]
  have e2:(l.map (rE r x)).sum=m x:=h1.symm;have pk:=N_ (r x) l;rw [←h1] at pk;show m x*m x+3*m x+1+(l.map fun x=>m x*m x+3*m x+1).sum=4*((l.map (rE r x)).sum+p2 (rE r) l)+2*(p2 (gK r x) l+p3 (gK r) l)+(l.length+1);rw [ih,e2,e];lia
variable {L:ar} {o:List Nat}
theorem YE(f:dz n L o M)(h:aL n M a b){k:Nat}(hk:o.idxOf a≤k∨o.idxOf b≤k):Wk (aL n L) (eF n o k) a b:=by
 have go:∀{a b:Nat},((a:Int),(b:Int))∈M→(o.idxOf a≤k∨o.idxOf b≤k)→Wk (aL n L) (eF n o k) a b:=fun{a b} hm hk=>by
  obtain ⟨p,q,hp,hq,pq,w,e⟩:=(f.2 _).mp hm;have e:da a b=da p q:=by rw [←e];have:=f.lt _ hm;unfold da;rw [aa (by lia),ae (by lia)]
  rcases HS e with ⟨rfl,rfl⟩ | ⟨rfl,rfl⟩;·exact w.mono fun x hx=>⟨hx.1,by have:=hx.2;lia⟩
  ·exact (w.symm gH).mono fun x hx=>⟨hx.1,by have:=hx.2;lia⟩
 rcases h.2.2 with h | h;·exact go h hk
 ·exact (go h hk.symm).symm gH
theorem p9(f:dz n L o M)(ha:a<n)(hb:b<n)(ab:o.idxOf a<o.idxOf b):rL M a b=true↔Wk (aL n L) (eF n o (o.idxOf a)) a b:=by
 constructor
 ·intro h
  exact YE f ⟨ha,hb,gJ.mp h⟩ (.inl (aC _))
 ·intro w
  have hm:=(f.2 _).mpr ⟨a,b,ha,hb,ab,w,rfl⟩;rw [gJ];unfold da at hm;by_cases h:(b:Int)<(a:Int)
  ·rw [ae h,aa (by lia)] at hm
   exact .inr hm
  ·by_cases h':(b:Int)>(a:Int)
   ·rw [aa h,ae h'] at hm
    exact .inl hm
   ·have e:a=b:=by lia
    subst e;lia
theorem YF(l:List Nat)(c:Nat→Bool):(l.map fun k=>if c k then 1 else 0).sum=(l.filter c).length:=by
 induction l with
 | nil=>rfl
 | cons x l ih=>
  rw [qE,du,fC];by_cases h:c x;·rw [ae h,ae h,d8,ih];lia
  ·rw [aa h,aa h,ih];lia
theorem Ob{n:Nat}{L M:ar}{o:List Nat}(ho:o.Perm (List.range n))(f:dz n L o M){g:Nat→List Nat}(hg:∀p,p<n→iw n o p (g p)∧jT n L o p (g p)):∀(l pre:List Nat),o=pre++l→Good (rL M) (fun x=>(g x).length) l
 | [],_,_=>trivial
 | x::l,pre,e=>by
  have nd:=pU ho;have Oc:=nd;rw [e,jz] at Oc;obtain ⟨np,nx,dj⟩:=Oc;obtain ⟨YG,nl⟩:=i3.mp nx;have hx:x<n:=(gG ho).mp (by rw [e];simp)
  have ix:o.idxOf x=pre.length:=by rw [e,kT,aa fun h=>dj x h x cG rfl,vU,e9]
  have il:∀y,y∈l↔y<n∧o.idxOf x<o.idxOf y:=fun y=>by
   constructor
   ·intro h
    refine ⟨(gG ho).mp (by rw [e];simp [h]),?_⟩
    have yx:y≠x:=fun q=>YG (q▸h);rw [ix,e,kT,aa fun h'=>dj y h' y (cx _ h) rfl,zu,show (x == y)=false from by simpa using yx.symm]
    simp only [cond_false];lia
   ·rintro ⟨h,h'⟩
    have hm:=(gG ho).mpr h;rw [e,dW,bw] at hm;rcases hm with hm | rfl | hm
    ·rw [ix,e,kT,ae hm] at h'
     have:=oW hm;lia
    ·lia
    ·exact hm
  refine ⟨?_,?_,Ob ho f hg l (pre++[x]) (by rw [e];simp)⟩
  ·rw [YF]
   obtain ⟨gk,gw⟩:=hg x hx;refine ((kP (gk.up.imp fun h=>bW h) (nl.filter _)).mpr fun q=>?_).length_eq;rw [gw q,b_,il q];constructor
   ·rintro ⟨h1,h2,h3⟩
    exact ⟨⟨h1,h2⟩,(p9 f hx h1 h2).mpr h3⟩
   ·rintro ⟨⟨h1,h2⟩,h3⟩
    exact ⟨h1,h2,(p9 f hx h1 h2).mp h3⟩
  ·intro y hy z hz yz ry rz
   obtain ⟨y1,y2⟩:=(il y).mp hy;obtain ⟨z1,z2⟩:=(il z).mp hz;have wy:=(p9 f hx y1 y2).mp ry;have wz:=(p9 f hx z1 z2).mp rz;have ne:=mV ho y1 z1 yz;have both:∀k,o.idxOf x<k→Wk (aL n L) (eF n o k) y z:=fun k hk=>by
    have m:∀t,eF n o (o.idxOf x) t→eF n o k t:=fun t ht=>⟨ht.1,by have:=ht.2;lia⟩
    exact ((wy.symm gH).mono m).trans ⟨hx,hk⟩ (wz.mono m)
   by_cases h:o.idxOf y<o.idxOf z;·exact (p9 f y1 z1 h).mpr (both _ y2)
   ·rw [Dv]
    exact (p9 f z1 y1 (by lia)).mpr ((both _ z2).symm gH)
theorem Od(ho:o.Perm (List.range n))(f:dz n L o M){g:Nat→List Nat}(hg:∀p,p<n→iw n o p (g p)∧jT n L o p (g p)) :
  ((List.range n).map fun x=>(g x).length*(g x).length+3*(g x).length+1).sum=mW n M:=by
 have nd:M.Nodup:=f.1.imp fun h e=>by subst e;unfold lexLt at h;lia
 have gs:=Oa (pU ho) (Ob ho f hg o [] rfl);rw [←(ho.map fun x=>(g x).length*(g x).length+3*(g x).length+1).sum_nat,gs];unfold mW pZ;rw [N7 nd f.lt,N2 (fun x y=>by unfold rE;rw [Dv]) ho,N3 (N8 M) (N9 M) ho,ho.length_eq,c_]
def YH(N:Addr):Sp:=fun vs H Q E=>∃(t a:Addr) (n:Nat) (L:ar) (zs:List Int),vs=[.ref t,.ref a]∧cJ H t n L∧dD n L∧pY L∧n≤30∧H a=some (.lst (zs.map V.int))∧zs.length<64 ∧
 (¬lF zs n→∀H',ak H H'→E (.ref N) none H') ∧
 ∀o:List Nat,zs=o.map iN→o.Perm (List.range n)→∀(H':Hp),ak H H'→∀d:Nat,(∀M,dz n L o M→d=mW n M)→Q (.int (d:Int)) H'
def YI:Sp:=fun vs H Q _=>∃(t:Addr) (n:Nat) (L:ar),vs=[.ref t]∧cJ H t n L∧L.Nodup∧(∀z∈L,0≤z.1∧z.1<z.2∧z.2<(n:Int))∧n≤30∧L.length≤500 ∧
 ∀H':Hp,ak H H'→Q (.int (pZ n L:Int)) H'
end My
namespace L2
open PySem
section
variable {prog:Program} {w:World} {A:Around} {E:aO} {s:Shared}
def mX(h:Heap)(d:Addr)(es:Array DictEntry)(ep:Nat):Prop:=∃o,h.get? d=some o∧o.ExactDict∧o.data=.dict es ep
variable {d:Addr} {es:Array DictEntry} {ep:Nat}
theorem mX.ty(h:mX s.heap d es ep):s.TypeIs (.ref d) "dict":=let ⟨o,ho,hc,_⟩:=h;⟨o,ho,hc.1⟩
theorem mX.to{h h':Heap}(x:mX h d es ep)(e:∀o,h.get? d=some o→h'.get? d=some o):mX h' d es ep:=let ⟨o,ho,r⟩:=x;⟨o,e _ ho,r⟩
end
end L2
namespace My
open PySem L2
end My
namespace L2
open PySem PySem.Spec PyProof.Rows My
theorem YJ{wi:TI}{ρ:St→St}{tt:TT}{te:TE}{σ:St}{H:Hp}{Q:VK}{xs:List V}(c:V→Bool)(fE:∀R:It→Hp→Prop,(∀J H1,ak H H1→k8 J xs H1→R J H1)→wi σ H R)(hn:xs.length<sizeLine)
  (test:∀x∈xs,∀(Hc:Hp) (R:Bool→Hp→Prop),ak H Hc→R (c x) Hc→tt (some x::ρ σ) Hc R)
  (elem:∀(x:V) (Hc:Hp) (R:VK),R x Hc→te (some x::ρ σ) Hc R)
  (fin:∀D Hc,H D=none→ak H Hc→Hc D=some (.lst (xs.filter c))→Q (.ref D) Hc):kj wi ρ tt te σ H Q:=by
 refine fE _ fun J H1 s1 js=>?_;intro D nD;refine ⟨fun i m ys Hc=>m=xs.length-i∧i≤xs.length∧Hc D=some (.lst ys)∧ak H1 Hc∧ys.length≤i∧ys=(xs.take i).filter c,⟨_,rfl,cf _,ax,gD (ak.refl H1) nD,aC _,rfl⟩,?_⟩;rintro i m ys Hc ⟨rfl,hi,eD,sH,ly,hP⟩;refine ⟨eD,?_⟩;by_cases bh:i<xs.length
 ·refine .inr ⟨js.go i Hc sH bh,fun x H' hy=>?_⟩
  obtain ⟨rfl,hx⟩:=js.d_ i Hc x H' sH hy;have ex:=hx bh;have mx:x∈xs:=j4 ex;have tk:xs.take (i+1)=xs.take i++[x]:=by rw [nN,ex];rfl
  refine test x mx _ _ (s1.trans sH) ?_;by_cases hb:c x=true
  ·rw [ae hb]
   refine elem x _ _ ⟨eD,by lia,xs.length-(i+1),by lia,rfl,bh,ax,gD sH nD,by simp;lia,?_⟩
   rw [tk,vS,←hP,qE,ae hb];rfl
  ·rw [aa hb]
   refine ⟨xs.length-(i+1),by lia,rfl,bh,eD,sH,by lia,?_⟩
   rw [tk,vS,←hP,qE,aa hb,List.filter_nil,oP]
 ·have e:i=xs.length:=by lia
  subst e;rw [iD] at hP;subst hP;exact .inl ⟨js.stop _ Hc sH (aC _),fin D Hc (none_of s1 nD) (s1.trans sH) eD⟩
end L2
namespace My
open PySem L2
def Dw(n:Nat)(L:ar)(z:Int×Int):Nat:=((List.range n).filter fun k=>decide (z.2.toNat<k) && rL L z.1.toNat k && rL L z.2.toNat k).length
def Oe(j:Nat)(m:List Nat):V→Bool
 | .int z=>decide ((j:Int)<z) && decide (z.toNat∈m)
 | _=>false
variable {n:Nat} {L:ar}
theorem YK{g:Nat→List Nat}(nb:gZ n L g)(gn:∀a,(g a).Nodup){i j:Nat}(hi:i<n)(hj:j<n)(gl:∀k∈g i,k<n):Dw n L ((i:Int),(j:Int))=(((g i).map fun k:Nat=>V.int (k:Int)).filter (Oe j (g j))).length:=by
 rw [B_,aD];unfold Dw;refine ((kP (fU.filter _) ((gn i).filter _)).mpr fun k=>?_).length_eq;rw [b_,b_,aU];show (k<n∧(decide (((j:Nat):Int).toNat<k) && rL L ((i:Nat):Int).toNat k && rL L ((j:Nat):Int).toNat k)=true)↔k∈g i∧(decide ((j:Int)<(k:Int)) && decide (((k:Nat):Int).toNat∈g j))=true;rw [cZ,cZ,cZ,kO,kO,kO,eY,eY,eY,gJ,gJ,nb i k hi,nb j k hj];constructor
 ·rintro ⟨h1,⟨h2,h3⟩,h4⟩
  exact ⟨h3,by lia,h4⟩
 ·rintro ⟨h1,h2,h3⟩
  exact ⟨gl k ((nb i k hi).mpr h1),⟨by lia,h1⟩,h3⟩
section
variable {P a d:Addr} {H Hc:Hp} {n m:Nat} {L:ar}
end
theorem Of{M:ar}{o:List Nat}(f:dz n L o M):M.Nodup:=f.1.imp fun h e=>by subst e;unfold lexLt at h;lia
section
variable {n:Nat} {E:Nat→Nat→Prop} {pos rk:Nat→Nat}
def tW(n:Nat)(E:Nat→Nat→Prop)(pos:Nat→Nat):Prop:=∀a b c,a<n→b<n→c<n→pos a<pos b→pos a<pos c→b≠c→E a b→E a c→E b c
structure Walk (n:Nat) (E:Nat→Nat→Prop) (p:Nat→Nat) (k:Nat):Prop where
 lt:∀i,i≤k→p i<n
 ne:∀i j,i<j→j≤k→p i≠p j
 ed:∀i j,i<j→j≤k→(E (p i) (p j)↔j=i+1)
theorem Walk.back{p:Nat→Nat}{k:Nat}(sy:∀a b,E a b→E b a)(h:Walk n E p k):Walk n E (fun i=>p (k-i)) k where
 lt:=fun i hi=>h.lt _ (by lia)
 ne:=fun i j ij jk=>(h.ne (k-j) (k-i) (by lia) (by lia)).symm
 ed:=fun i j ij jk=>by
  constructor
  ·intro e
   have:=(h.ed (k-j) (k-i) (by lia) (by lia)).mp (sy _ _ e)
   lia
  ·intro e
   exact sy _ _ ((h.ed (k-j) (k-i) (by lia) (by lia)).mpr (by lia))
theorem YL(cl:tW n E rk)(inj:∀a b,a<n→b<n→rk a=rk b→a=b)(sy:∀a b,E a b→E b a){c:Nat→Nat}{m:Nat}(m4:4≤m)(lt:∀i,i<m→c i<n)(ne:∀i j,i<j→j<m→c i≠c j)
  (ed:∀i j,i<j→j<m→(E (c i) (c j)↔j=i+1∨(i=0∧j=m-1))):False:=by
 have least:∀k,k<m→∃i,i≤k∧∀j,j≤k→rk (c i)≤rk (c j):=fun k=>by
  induction k with
  | zero=>exact fun _=>⟨0,aC _,fun j hj=>by rw [show j=0 by lia];exact aC _⟩
  | succ k ih=>
   intro hk;obtain ⟨i,hi,h⟩:=ih (by lia)
   by_cases q:rk (c i)≤rk (c (k+1))
   ·refine ⟨i,by lia,fun j hj=>?_⟩
    by_cases e:j=k+1;·rw [e];exact q
    ·exact h j (by lia)
   ·refine ⟨k+1,aC _,fun j hj=>?_⟩
    by_cases e:j=k+1;·rw [e];exact aC _
    ·have:=h j (by lia)
     lia
 obtain ⟨i,hi,h⟩:=least (m-1) (by lia)
 have less:∀j,j<m→j≠i→rk (c i)<rk (c j):=fun j hj ji=>by
  have h1:=h j (by lia)
  by_cases q:rk (c i)=rk (c j)
  ·have e:=inj _ _ (lt i (by lia)) (lt j hj) q
   rcases Nat.lt_or_gt_of_ne ji with z | z;·exact absurd e.symm (ne j i z (by lia))
   ·exact absurd e (ne i j z hj)
  ·lia
 have use:∀a b,a<b→b<m→a≠i→b≠i→E (c i) (c a)→E (c i) (c b)→b=a+1∨(a=0∧b=m-1):=fun a b ab bm ai bi e1 e2=>(ed a b ab bm).mp (cl (c i) (c a) (c b) (lt _ (by lia)) (lt _ (by lia)) (lt _ bm) (less a (by lia) ai) (less b bm bi) (ne a b ab bm) e1 e2)
 by_cases z:i=0
 ·subst z
  have:=use 1 (m-1) (by lia) (by lia) (by lia) (by lia) ((ed 0 1 (by lia) (by lia)).mpr (.inl rfl)) ((ed 0 (m-1) (by lia) (by lia)).mpr (.inr ⟨rfl,rfl⟩))
  lia
 ·by_cases z':i=m-1
  ·have e0:E (c i) (c 0):=sy _ _ ((ed 0 i (by lia) (by lia)).mpr (.inr ⟨rfl,z'⟩))
   have e1:E (c i) (c (m-2)):=sy _ _ ((ed (m-2) i (by lia) (by lia)).mpr (.inl (by lia)))
   have:=use 0 (m-2) (by lia) (by lia) (by lia) (by lia) e0 e1
   lia
  ·have e0:E (c i) (c (i-1)):=sy _ _ ((ed (i-1) i (by lia) (by lia)).mpr (.inl (by lia)))
   have e1:E (c i) (c (i+1)):=(ed i (i+1) (by lia) (by lia)).mpr (.inl rfl)
   have:=use (i-1) (i+1) (by lia) (by lia) (by lia) (by lia) e0 e1
   lia
def HX(n:Nat)(E:Nat→Nat→Prop)(pos:Nat→Nat):Prop:=∀a b c,a<n→b<n→c<n→pos a<pos b→pos b<pos c→E a c→¬E b c→∃d,d<n∧pos b<pos d∧E b d∧¬E a d
theorem Og{q:Nat→Prop}(h0:q 0):∀k,∃j,j≤k∧q j∧∀i,j<i→i≤k→¬q i
 | 0=>⟨0,aC _,h0,fun i h h'=>by lia⟩
 | k+1=>by
  obtain ⟨j,hj,hq,hn⟩:=Og h0 k;by_cases z:q (k+1);·exact ⟨k+1,aC _,z,fun i h h'=>by lia⟩
  ·refine ⟨j,by lia,hq,fun i h h'=>?_⟩
   by_cases e:i=k+1;·rw [e];exact z
   ·exact hn i h (by lia)
theorem HY(cl:tW n E rk)(inj:∀a b,a<n→b<n→rk a=rk b→a=b)(w6:∀a b,a<n→b<n→pos a=pos b→a=b)(sy:∀a b,E a b→E b a)(ir:∀a,¬E a a)(mo:HX n E pos)(pn:∀a,a<n→pos a<n) :
  ∀(d:Nat) (p:Nat→Nat) (k:Nat),n-pos (p 0)≤d→2≤k→Walk n E p k→pos (p 0)<pos (p k)→(∀i,0<i→i<k→pos (p i)<pos (p 0))→False
 | 0,p,k,hd,k2,W,h0,hi=>by
  have:=pn _ (W.lt 0 (by lia))
  lia
 | d+1,p,k,hd,k2,W,h0,hi=>by
  obtain ⟨x,xn,xp,ex,nx⟩:=mo (p (k-1)) (p 0) (p k) (W.lt _ (by lia)) (W.lt _ (by lia)) (W.lt _ (aC _)) (hi _ (by lia) (by lia)) h0 ((W.ed _ _ (by lia) (aC _)).mpr (by lia)) (fun e=>by have:=(W.ed 0 k (by lia) (aC _)).mp e;lia)
  have Oh:∀i,i<k→pos (p i)≤pos (p 0):=fun i ik=>by
   by_cases z:i=0;·rw [z];exact aC _
   ·exact nE (hi i (by lia) ik)
  have HZ:∀i,i≤k→x≠p i:=fun i ik e=>by
   by_cases z:i=k
   ·subst z
    rw [e] at ex;have:=(W.ed 0 i (by lia) (aC _)).mp ex
    lia
   ·have:=Oh i (by lia)
    rw [e] at xp;lia
  obtain ⟨j,hj,ej,nj⟩:=Og (q:=fun j=>E x (p j)) (sy _ _ ex) (k-1);have jk:j≤k-2:=by
   by_cases z:j=k-1
   ·rw [z] at ej
    exact absurd (sy _ _ ej) nx
   ·lia
  by_cases xk:E x (p k)
  ·
   refine YL cl inj sy (c:=fun i=>if i≤k-j then p (j+i) else x) (m:=k-j+2) (by lia) (fun i im=>?_) (fun i l il lm=>?_) (fun i l il lm=>?_)
   ·show (if i≤k-j then p (j+i) else x)<n
    split
    ·exact W.lt _ (by lia)
    ·exact xn
   ·show (if i≤k-j then p (j+i) else x)≠(if l≤k-j then p (j+l) else x)
    rw [ae (by lia)]
    split
    ·exact W.ne _ _ (by lia) (by lia)
    ·exact (HZ _ (by lia)).symm
   ·show E (if i≤k-j then p (j+i) else x) (if l≤k-j then p (j+l) else x)↔_
    rw [ae (show i≤k-j by lia)]
    by_cases z:l≤k-j
    ·rw [ae z,W.ed _ _ (by lia) (by lia)]
     lia
    ·rw [aa z]
     constructor
     ·intro e
      by_cases i0:i=0;·exact .inr ⟨i0,by lia⟩
      ·by_cases i1:i=k-j
       ·exact .inl (by lia)
       ·exact absurd (sy _ _ e) (nj (j+i) (by lia) (by lia))
     ·rintro (e | ⟨e,_⟩)
      ·rw [show j+i=k by lia]
       exact sy _ _ xk
      ·rw [e]
       exact sy _ _ ej
  ·
   have W':Walk n E (fun i=>if i=0 then x else p (j+i-1)) (k-j+1):=by
    refine ⟨fun i hi=>?_,fun i l il lk=>?_,fun i l il lk=>?_⟩
    ·show (if i=0 then x else p (j+i-1))<n
     split
     ·exact xn
     ·exact W.lt _ (by lia)
    ·show (if i=0 then x else p (j+i-1))≠(if l=0 then x else p (j+l-1))
     rw [aa (show ¬l=0 by lia)]
     split
     ·exact HZ _ (by lia)
     ·exact W.ne _ _ (by lia) (by lia)
    ·show E (if i=0 then x else p (j+i-1)) (if l=0 then x else p (j+l-1))↔_
     rw [aa (show ¬l=0 by lia)]
     by_cases z:i=0
     ·rw [ae z]
      constructor
      ·intro e
       by_cases l1:l=1;·lia
       ·by_cases YM:j+l-1=k
        ·rw [YM] at e
         exact absurd e xk
        ·exact absurd e (nj _ (by lia) (by lia))
      ·intro e
       rw [show j+l-1=j by lia]
       exact ej
     ·rw [aa z,W.ed _ _ (by lia) (by lia)]
      lia
   have e0:(fun i=>if i=0 then x else p (j+i-1)) 0=x:=rfl
   have ek:(fun i=>if i=0 then x else p (j+i-1)) (k-j+1)=p k:=by
    show (if k-j+1=0 then x else p (j+(k-j+1)-1))=p k
    rw [aa (by lia)]
    congr 1
    lia
   have inner:∀i,0<i→i<k-j+1→pos ((fun i=>if i=0 then x else p (j+i-1)) i)≤pos (p 0):=fun i i0 ik=>by
    show pos (if i=0 then x else p (j+i-1))≤_
    rw [aa (by lia)]
    exact Oh _ (by lia)
   have px:=pn x xn;have pk:=pn _ (W.lt k (aC _));generalize (fun i=>if i=0 then x else p (j+i-1))=q at W' e0 ek inner
   by_cases lt:pos x<pos (p k)
   ·refine HY cl inj w6 sy ir mo pn d q (k-j+1) (by rw [e0];lia) (by lia) W' (by rw [e0,ek];exact lt) (fun i i0 ik=>?_)
    have:=inner i i0 ik;rw [e0];lia
   ·have ne:pos x≠pos (p k):=fun e=>HZ k (aC _) (w6 _ _ xn (W.lt _ (aC _)) e)
    have b0:(fun i=>q (k-j+1-i)) 0=p k:=ek;have bk:(fun i=>q (k-j+1-i)) (k-j+1)=x:=by show q (k-j+1-(k-j+1))=x;rw [vI];exact e0
    have Wb:=W'.back sy;have Oi:∀i,0<i→i<k-j+1→pos ((fun i=>q (k-j+1-i)) i)≤pos (p 0):=fun i i0 ik=>inner (k-j+1-i) (by lia) (by lia)
    generalize (fun i=>q (k-j+1-i))=q' at Wb b0 bk Oi;refine HY cl inj w6 sy ir mo pn d q' (k-j+1) (by rw [b0];lia) (by lia) Wb (by rw [b0,bk];lia) (fun i i0 ik=>?_)
    have:=Oi i i0 ik;rw [b0];lia
theorem YN(cl:tW n E rk)(inj:∀a b,a<n→b<n→rk a=rk b→a=b)(w6:∀a b,a<n→b<n→pos a=pos b→a=b)(sy:∀a b,E a b→E b a)(ir:∀a,¬E a a)(mo:HX n E pos)(pn:∀a,a<n→pos a<n):tW n E pos:=by
 have go:∀a b c,a<n→b<n→c<n→pos a<pos b→pos b<pos c→E a b→E a c→E b c:=fun a b c an bn cn ab bc e1 e2=>by
  refine hJ fun no=>?_;refine HY cl inj w6 sy ir mo pn _ (fun i=>if i=0 then b else if i=1 then a else c) 2 (aC _) (aC _) ⟨fun i hi=>?_,fun i j ij j2=>?_,fun i j ij j2=>?_⟩ bc (fun i i0 i2=>?_)
  ·show (if i=0 then b else if i=1 then a else c)<n
   split
   ·exact bn
   ·split
    ·exact an
    ·exact cn
  ·show (if i=0 then b else if i=1 then a else c)≠(if j=0 then b else if j=1 then a else c)
   rw [aa (show ¬j=0 by lia)]
   by_cases z:i=0
   ·rw [ae z]
    split
    ·exact fun e=>by rw [e] at ab;lia
    ·exact fun e=>by rw [e] at bc;lia
   ·rw [aa z,ae (show i=1 by lia),aa (show ¬j=1 by lia)]
    exact fun e=>by rw [e] at ab;lia
  ·show E (if i=0 then b else if i=1 then a else c) (if j=0 then b else if j=1 then a else c)↔_
   rw [aa (show ¬j=0 by lia)]
   by_cases z:i=0
   ·rw [ae z]
    by_cases y:j=1
    ·rw [ae y]
     exact ⟨fun _=>by lia,fun _=>sy _ _ e1⟩
    ·rw [aa y]
     exact ⟨fun e=>absurd e no,fun e=>by lia⟩
   ·rw [aa z,ae (show i=1 by lia),aa (show ¬j=1 by lia)]
    exact ⟨fun _=>by lia,fun _=>e2⟩
  ·show pos (if i=0 then b else if i=1 then a else c)<pos b
   rw [aa (by lia),ae (by lia)]
   exact ab
 intro a b c an bn cn ab ac bc e1 e2;by_cases h:pos b<pos c;·exact go a b c an bn cn ab h e1 e2
 ·have:pos b≠pos c:=fun e=>bc (w6 _ _ bn cn e)
  exact sy _ _ (go a c b an cn bn ac (by lia) e2 e1)
end
open PySem PySem.W PyProof.Rows Tm
section
variable {prog:Program} {w:World} {A:Around} {E:aO} {s:Shared}
def H_(k:Keyed):Int:=match k.1 with | .int n _=>n | _=>0
structure rF (n:Nat) (kz:Nat→Int) (p:List Nat):Prop where
 pm:p.Perm (List.range n)
 dn:p.Pairwise fun i j=>kz j≤kz i
variable {vs:List Value}
theorem YO{ns:List Int}(h:IntsAre vs ns):∀(i:Nat) (z:Int),ns[i]?=some z→∃t,vs[i]?=some (.int z t):=by
 induction h with
 | nil=>intro i z hz;cases hz
 | cons _ _ _ ih=>
  intro i z hz;cases i with
  | zero=>cases hz;exact ⟨_,rfl⟩
  | succ i=>exact ih i z hz
variable {kz:Nat→Int}
theorem YQ{keys:Array Value}(hk:IntsAre keys.toList ((List.range vs.length).map kz)){Q:SortSt→Shared→Prop}
  (hQ:∀(p:List Nat) (st:SortSt),rF vs.length kz p→((arrOf st).map (·.2)).reverse.toList=p.map (fun i=>vs.getD i Value.none)→failedOf st=none→Q st s) :
  wpAny (model prog w) A (sortRuns'.run (SortSt.mk' oneType' (keys.zip vs.toArray).reverse #[] 7 none)) (fun r s'=>Q r.2 s') E s:=by
 have hl:=hk.length;rw [fh,aD,c_] at hl;have ki:∀i,i<vs.length→∃t,keys.toList.getD i Value.none=.int (kz i) t:=fun i hi=>by
  obtain ⟨t,e⟩:=YO hk i (kz i) (by rw [bo,jy hi];rfl)
  exact ⟨t,by rw [cg,e];rfl⟩
 have el:(keys.zip vs.toArray).toList=(List.range vs.length).map fun i=>(keys.toList.getD i Value.none,vs.getD i Value.none):=by
  refine fT (by simp [hl]) fun i h1 h2=>?_
  have hi:i<vs.length:=by simpa using h2
  have ba:i<keys.size:=by lia
  simp [hi,ba]
 have er:(keys.zip vs.toArray).reverse.toList=((List.range vs.length).reverse).map fun i=>(keys.toList.getD i Value.none,vs.getD i Value.none):=by rw [vM,el,List.map_reverse]
 have az:(keys.zip vs.toArray).reverse.size=vs.length:=by simp [hl]
 have lt:kr prog w A s oneType' H_ (fun k=>∃n t,k.1=.int n t):=by rintro ⟨u,u'⟩ ⟨v,v'⟩ ⟨a,t,rfl⟩ ⟨b,t',rfl⟩ C hC;exact kat_lt_int hC
 have ok:f9 (fun k=>∃n t,k.1=.int n t) (keys.zip vs.toArray).reverse:=fun i hi=>by
  have e1:(keys.zip vs.toArray).reverse.getD i nn=(keys.zip vs.toArray).reverse.toList[i]'(by rw [fh];exact hi):=by rw [Array.getD_eq_getD_getElem?,zw hi];simp
  have e2:=dM (fun l=>l[i]?) er;have hm:(keys.zip vs.toArray).reverse.toList[i]'(by rw [fh];exact hi)∈(keys.zip vs.toArray).reverse.toList:=cB _
  rw [e1];generalize (keys.zip vs.toArray).reverse.toList[i]'(by rw [fh];exact hi)=x at hm
  rw [er] at hm;obtain ⟨j,hj,rfl⟩:=bG.mp hm;obtain ⟨t,e⟩:=ki j (by simpa using hj)
  exact ⟨_,_,e⟩
 refine cL (M8 (E:=E) (Q:=fun _ st=>Q st s) (g:=7) lt ok fun bb st pm sg ha hf=>?_) (fun r s' h'=>by obtain ⟨rfl,h'⟩:=h';exact h') fun _ _ e=>e
 obtain ⟨p,hp,ep⟩:=perm_back (qA.mp pm) _ er;have pl:p.length=vs.length:=by rw [hp.length_eq,List.length_reverse,c_]
 have Hj:∀i∈p,i<vs.length:=fun i hi=>by simpa using hp.mem_iff.mp hi
 have hsz:bb.size=vs.length:=by rw [pm.size_eq,az]
 have kv:∀i (hi:i<p.length),vA H_ bb i=kz p[i]:=fun i hi=>by
  have e1:bb.getD i nn=(keys.toList.getD p[i] Value.none,vs.getD p[i] Value.none):=by
   have e2:bb.toList[i]?=some (keys.toList.getD p[i] Value.none,vs.getD p[i] Value.none):=by rw [ep,bo,bP hi];rfl
   rw [Array.getD_eq_getD_getElem?,←vH,e2];rfl
  unfold vA;rw [e1];obtain ⟨t,e⟩:=ki p[i] (Hj _ (cB _));unfold H_;rw [e]
 refine hQ p.reverse st ⟨(l_ p).trans (hp.trans (l_ _)),?_⟩ ?_ hf
 ·rw [FR]
  refine qy.mpr fun i j hi hj ij=>?_;have:=sg i j (cf _) (by lia) (by rw [az];lia)
  rw [kv i hi,kv j hj] at this;exact this
 ·rw [ha,vM,Array.toList_map,ep,cM,List.map_reverse]
  rfl
theorem YR(h:n<2):rF n kz (List.range n):=by
 refine ⟨List.Perm.refl _,?_⟩
 match n,h with
 | 0,_=>exact .nil
 | 1,_=>exact FW _ _
theorem YS{kA:Array Value}(h:vs.length<2)(hs:kA.size=vs.length):(((kA.zip vs.toArray).reverse).map (·.2)).reverse.toList=(List.range vs.length).map (fun i=>vs.getD i Value.none):=by
 match vs,h,hs with
 | [],_,_=>simp
 | [v],_,hs=>obtain ⟨k,rfl⟩:=Array.size_eq_one_iff.mp hs;simp
theorem YT{a:Addr}{P:PySem.Fin→Shared→Prop}(ho:s.heap.get? a=some (seqObj "list" vs.toArray n))(h1:vs.length<10000)
  (turn:∀i v,vs[i]?=some v→∀(h:Heap) (tk:Nat) (Q:aO),(∀b o,b≠a→s.heap.get? b=some o→h.get? b=some o)→(∀t eh,Q (.int (kz i) t) {s with heap:=h,toks:=eh})→wpAny (model prog w) A (call (.builtin "len") [v]) Q (fun _ _=>False) {s with heap:=h,toks:=tk})
  (h:∀h' tk out c p,rF vs.length kz p→(∀b o,b≠a→s.heap.get? b=some o→h'.get? b=some o)→h'.get? a=some (seqObj "list" out c)→out.toList=p.map (fun i=>vs.getD i Value.none)→P (.done (.ret .none)) {s with heap:=h',toks:=tk}) :
  wpAny (model prog w) A (ksk_tree a (.builtin "len") true) P E s:=by
 have sl:vs.length≤sizeLine:=by rw [iZ];lia
 have lt:=a9 ho;obtain ⟨e1,g1⟩:∃e,(s.heap.update a (Obj.mapSeq fun _=>#[])).get? a=some (seqObj "list" #[] e):=⟨_,qB ho fun _=>#[]⟩;have z1:(s.heap.update a (Obj.mapSeq fun _=>#[])).objs.size=s.heap.objs.size:=zi _ _ _;have z2:((s.heap.update a (Obj.mapSeq fun _=>#[])).push (seqObj "tuple" vs.toArray 0)).objs.size=s.heap.objs.size+1:=by rw [sF,z1]
 unfold ksk_tree;refine au (listItems_at ho rfl (au (vQ ho rfl ?_ (by rw [b9];lia) (cf _))))
 refine au (seqEpoch_at g1 rfl (au (wpAny_newTuple ?_ (by show vs.length≤_;lia))))
 refine au (vR (kM ?_) (cf _));show wpAny (model prog w) A (ksk_rest a (.builtin "len") true vs.toArray e1 (.ref ((s.heap.update a (Obj.mapSeq fun _=>#[])).push (seqObj "tuple" vs.toArray 0)).objs.size)) P E {s with heap:=((s.heap.update a (Obj.mapSeq fun _=>#[])).push (seqObj "tuple" vs.toArray 0)).push (seqObj "list" #[] 0)};have gk:(((s.heap.update a (Obj.mapSeq fun _=>#[])).push (seqObj "tuple" vs.toArray 0)).push (seqObj "list" #[] 0)).get? (s.heap.objs.size+1)=some (seqObj "list" #[] 0):=by rw [←z2];exact dE _ rfl
 have up:∀b u,(s.heap.update a (Obj.mapSeq fun _=>#[])).get? b=some u→(((s.heap.update a (Obj.mapSeq fun _=>#[])).push (seqObj "tuple" vs.toArray 0)).push (seqObj "list" #[] 0)).get? b=some u:=fun b u hu=>bX _ (bX _ hu);have ga:=up a _ g1;have w_:∀b o,b≠a→s.heap.get? b=some o→(((s.heap.update a (Obj.mapSeq fun _=>#[])).push (seqObj "tuple" vs.toArray 0)).push (seqObj "list" #[] 0)).get? b=some o:=fun b o nb g=>up b o (by rw [vP _ _ _ _ nb];exact g)
 rw [z2];generalize ((s.heap.update a (Obj.mapSeq fun _=>#[])).push (seqObj "tuple" vs.toArray 0)).push (seqObj "list" #[] 0)=hp at gk ga w_;have ka:s.heap.objs.size+1≠a:=sC (nG lt);have old:∀b o,s.heap.get? b=some o→b≠s.heap.objs.size+1:=fun b o g=>bW (nG (a9 g));generalize s.heap.objs.size+1=kS at gk ka old;unfold ksk_rest;refine au (nJ ?_)
 first
  | rw [List.forIn_toArray]
  | (rw [←Array.forIn_toList];simp only [List.toList_toArray])
  | rw [←Array.forIn_toList]
 refine au (ksk_fold (fun i s'=>∃h' tk kA e,s'={s with heap:=h',toks:=tk}∧h'.get? kS=some (seqObj "list" kA e)∧h'.get? a=some (seqObj "list" #[] e1)∧(∀b o,b≠a→s.heap.get? b=some o→h'.get? b=some o)∧IntsAre kA.toList (((List.range vs.length).map kz).take i)) vs 0 _
  ⟨hp,s.toks,#[],0,rfl,gk,ga,w_,by simpa using IntsAre.nil⟩ ?step ?done)
 case step=>
  rintro j x s' hx ⟨h',tk,kA,e,rfl,A2,AE,Dy,hk⟩;simp only [e9] at hk ⊢;have hj:j<vs.length:=(bJ.mp hx).1;have hz:kA.size≤vs.length:=by have h1:=hk.length;rw [fh,qq,aD,c_] at h1;lia
  refine au (wpAny_attempt (cL (turn j x hx h' tk (fun v iJ=>∃t eh,v=.int (kz j) t∧iJ={s with heap:=h',toks:=eh}) Dy fun t eh=>⟨t,eh,rfl,rfl⟩) (fun v iJ he=>?_) fun _ _ hF=>hF.elim));obtain ⟨t,eh,rfl,rfl⟩:=he
  try dsimp only
  have sb:=qF h' kS (Obj.mapSeq (·.push (.int (kz j) t)));obtain ⟨c2,iL⟩:∃c2,(h'.update kS (Obj.mapSeq (·.push (.int (kz j) t)))).get? kS=some (seqObj "list" (kA.push (.int (kz j) t)) c2):=⟨_,qB A2 (·.push (.int (kz j) t))⟩;have ek:((List.range vs.length).map kz).take (j+1)=((List.range vs.length).map kz).take j++[kz j]:=by rw [List.take_add_one,bo,jy hj];rfl
  have ea:(kA.push (Value.int (kz j) t)).toList=kA.toList++[Value.int (kz j) t]:=by simp
  refine au (vQ A2 rfl ?_ (by rw [iZ];lia) (b8 (zA (Array.size_push ..)) (by rw [iZ];lia)))
  exact a8 ⟨rfl,_,_,kA.push (.int (kz j) t),c2,rfl,iL,(sb.2 a ka.symm).trans AE,fun b o nb g=>(sb.2 b (old b o g)).trans (Dy b o nb g),by rw [ea,ek];exact ksk_snoc hk⟩
 case done=>
  rintro s' ⟨h',tk,kA,e,rfl,A2,AE,Dy,hk⟩;have dG:IntsAre kA.toList ((List.range vs.length).map kz):=by
   rw [zg (by rw [aD,c_];lia)] at hk
   exact hk
  have hsz:kA.size=vs.length:=by have h1:=dG.length;rw [fh,aD,c_] at h1;exact h1
  try dsimp only
  refine au (listItems_at A2 rfl ?_);have fin:∀(st:SortSt) (p:List Nat),rF vs.length kz p→((arrOf st).map (·.2)).reverse.toList=p.map (fun i=>vs.getD i Value.none)→failedOf st=none→wpAny (model prog w) A (ksk_tail a true e1 (.ref kS) st) P E {s with heap:=h',toks:=tk}:=fun st p fp Oj hf=>by
   have sb:=qF h' kS (Obj.mapSeq fun _=>(#[]:Array Value));have AH:(h'.update kS (Obj.mapSeq fun _=>(#[]:Array Value))).get? a=some (seqObj "list" #[] e1):=(sb.2 a ka.symm).trans AE;have YU:=qF (h'.update kS (Obj.mapSeq fun _=>(#[]:Array Value))) a (Obj.mapSeq fun _=>((arrOf st).map (·.2)).reverse);obtain ⟨c2,iL⟩:∃c2,((h'.update kS (Obj.mapSeq fun _=>(#[]:Array Value))).update a (Obj.mapSeq fun _=>((arrOf st).map (·.2)).reverse)).get? a=some (seqObj "list" ((arrOf st).map (·.2)).reverse c2):=⟨_,qB AH fun _=>((arrOf st).map (·.2)).reverse⟩;have lo:((arrOf st).map (·.2)).reverse.size=vs.length:=by rw [←fh,Oj,aD,fp.pm.length_eq,c_]
   unfold ksk_tail
   try dsimp only
   refine au (vQ A2 rfl ?_ (by rw [hsz];lia) (cf _))
   refine au (sM (au (seqEpoch_at AH rfl ?_)));refine au (vQ AH rfl ?_ (cf _) (by simp only [j6];rw [lo];lia))
   rw [hf];simp only [bne_self_eq_false,zl,oR,j6];exact a8 (h _ _ _ c2 p fp (fun b o nb g=>(YU.2 b nb).trans ((sb.2 b (old b o g)).trans (Dy b o nb g))) iL Oj)
  unfold ksk_end
  try dsimp only
  simp only [j6];refine au (nJ ?_);by_cases h2:vs.toArray.size<2
  ·rw [ae h2,ae h2]
   refine au (a8 ?_);rw [StateT.run_pure];refine au (a8 ?_);have len:vs.length<2:=by simpa using h2
   exact fin _ (List.range vs.length) (YR len) (YS len hsz) rfl
  ·rw [aa h2,aa h2]
   have len:2≤vs.length:=by simpa using h2
   rw [ksk_kind dG (by rw [hsz];exact len)]
   refine au (a8 ?_);refine au (cL (YQ (s:={s with heap:=h',toks:=tk}) (vs:=vs) (keys:=kA) (kz:=kz) dG (Q:=fun st s'=>s'={s with heap:=h',toks:=tk}∧∃p,rF vs.length kz p∧((arrOf st).map (·.2)).reverse.toList=p.map (fun i=>vs.getD i Value.none)∧failedOf st=none) fun p st a1 a2 a3=>⟨rfl,p,a1,a2,a3⟩) ?_ fun _ _ e=>e);rintro ⟨⟨⟩,st⟩ s' ⟨rfl,p,a1,a2,a3⟩;exact fin st p a1 a2 a3
end
open PySem PySem.W PyProof.Rows
section
variable {prog:Program} {w:World} {A:Around} {E:aO} {s:Shared}
theorem IsTup.to{h h':Heap}{a:Addr}{its:Array Value}(t:IsTup h a its)(k:∀o,h.get? a=some o→h'.get? a=some o):IsTup h' a its:=let ⟨o,g,r⟩:=t;⟨o,k _ g,r⟩
theorem YV{l:Addr}{vs:List Value}{kz:Nat→Int}{Q:aO}(hl:s.heap.IsList l vs.toArray)(h1:vs.length<10000)(hv:∀i v,vs[i]?=some v→∃b its,v=.ref b∧IsTup s.heap b its∧kz i=its.size∧its.size<10000)
  (h:∀h' tk out c p,rF vs.length kz p→(∀b o,s.heap.get? b=some o→h'.get? b=some o)→h'.get? (s.heap.objs.size+1)=some (seqObj "list" out c)→out.toList=p.map (fun i=>vs.getD i Value.none)→Q (.ref (s.heap.objs.size+1)) {s with heap:=h',toks:=tk}) :
  wpAny (model prog w) A (call (.builtin "sorted") [.ref l] [(Str.ofString "key",.builtin "len"),(Str.ofString "reverse",.bool true)]) Q E s:=by
 have sl:vs.length≤sizeLine:=by rw [iZ];lia
 refine call_function_entry_kw kind_sorted plain_sorted entry_sorted (ksk_s2 _ _ _) ?_;unfold Builtin.«sorted»;refine au (m:=checkCount "sorted" 1 1 _) (a8 (au (collect_list hl (au (vR ?_ sl)) sl)));have zz:((s.heap.push (seqObj "list" #[] 0)).update s.heap.objs.size (Obj.mapSeq (·++vs.toArray))).objs.size=s.heap.objs.size+1:=by rw [zi,sF]
 have kp:∀b o,s.heap.get? b=some o→(((s.heap.push (seqObj "list" #[] 0)).update s.heap.objs.size (Obj.mapSeq (·++vs.toArray))).push (seqObj "list" vs.toArray 0)).get? b=some o:=fun b o g=>by
  have lt:=a9 g;rw [qC _ _ _ (bW (by rw [zz];exact nG lt)),vP _ _ _ _ (bW lt),qC _ _ _ (bW lt)]
  exact g
 have gL:(((s.heap.push (seqObj "list" #[] 0)).update s.heap.objs.size (Obj.mapSeq (·++vs.toArray))).push (seqObj "list" vs.toArray 0)).get? (s.heap.objs.size+1)=some (seqObj "list" vs.toArray 0):=by rw [←zz];exact dE _ rfl
 show wpAny _ _ _ _ _ {s with heap:=((s.heap.push (seqObj "list" #[] 0)).update s.heap.objs.size (Obj.mapSeq (·++vs.toArray))).push (seqObj "list" vs.toArray 0)};rw [zz];generalize ((s.heap.push (seqObj "list" #[] 0)).update s.heap.objs.size (Obj.mapSeq (·++vs.toArray))).push (seqObj "list" vs.toArray 0)=hp at kp gL;have ne:∀b o,s.heap.get? b=some o→b≠s.heap.objs.size+1:=fun b o g=>bW (nG (a9 g));refine au (kM (wpAny_call_entry_kw slot_list_sort ⟨_,gL,rfl⟩ entry_list_sort ?_ (ksk_l2 _ _ _)));rw [ksk_t5];refine YT (s:={s with heap:=hp}) (kz:=kz) gL h1 (fun i v hi h' tk Q' kk hQ=>?_) fun h' tk out c p fp kk g e=>⟨_,rfl,a8 ⟨_,rfl,h h' tk out c p fp (fun b o gb=>kk b o (ne b o gb) (kp b o gb)) g e⟩⟩;obtain ⟨b,its,rfl,t,ek,i1⟩:=hv i v hi;rw [ek] at hQ;refine len_tuple (s:={s with heap:=h',toks:=tk}) (items:=its) (IsTup.to t fun o g=>kk b o (ne b o g) (kp b o g)) (by lia) ?_
 exact hQ _ _
end
end My
namespace L2
open PySem PySem.W PyProof.Rows My
def YW(t:TA):TE:=fun σ H Q=>t σ H fun xs H1=>∃(l:Addr) (vs:List V) (ks:Nat→Nat),xs=[.ref l]∧H1 l=some (.lst vs)∧vs.length<10000∧(∀(i:Nat) (v:V),vs[i]?=some v→∃b ys,v=.ref b∧H1 b=some (.tup ys)∧ks i=ys.length∧ys.length<10000) ∧
 ∀(D:Addr) (p:List Nat),H1 D=none→rF vs.length (fun i=>(ks i:Int)) p→Q (.ref D) (upd H1 D (.lst (p.map fun i=>vs.getD i .aR)))
variable {X:Cx}
theorem YX{e:Expr}{es:List Expr}{t:TA}{p p2 pos Ia YY cp:Pos}{j:Nat}(ha:PA X (e::es) t)(hg:Gl X (Str.ofString "sorted"))(hm:X.mg (Str.ofString "sorted")=none)(hv:bootBuiltins (Str.ofString "sorted")=some (.builtin "sorted"))
  (Ib:Gl X (Str.ofString "len")) (rG:X.mg (Str.ofString "len")=none) (YZ:bootBuiltins (Str.ofString "len")=some (.builtin "len"))
  (he:backTo pos (starEach (e::es) X.env)=(false,eval e X.env)::backTo pos (starEach es X.env):=by rfl) (jD:(backTo pos (starEach (e::es) X.env)).any (·.1)=false:=by rfl) :
  PE X (.Call (.Name (Str.ofString "sorted") p) (e::es) [⟨some (Str.ofString "key"),.Name (Str.ofString "len") p2,Ia⟩,⟨some (Str.ofString "reverse"),.Constant (.bool true) j cp,YY⟩] pos) (YW t):=by
 intro pins s σ H Q I h
 refine vE (kd I hg hm hv ?_)
 refine callWith_kw (aK (ha pos pins s σ H _ I h) fun us s1 ⟨xs,H1,I1,r1,q1⟩=>?_) he jD
 obtain ⟨l,vs,ks,rfl,hl,h1,mK,k⟩:=q1
 obtain ⟨u,rfl,ru⟩:=vals1 r1
 cases ru
 show wpAny _ _ (evalAll [(do let v ←eval (.Name (Str.ofString "len") p2) X.env;standAt pos;pure v),(do let v ←eval (.Constant (.bool true) j cp) X.env;standAt pos;pure v)]) _ _ s1
 refine Cc (au (kd I1 Ib rG YZ (au (qo (a8 ?_)))))
 refine Cc (au (Constant_bool (au (qo (a8 ?_)))))
 refine Cd ?_
 show wpAny _ _ (call (.builtin "sorted") [.ref l] [(Str.ofString "key",.builtin "len"),(Str.ofString "reverse",.bool true)]) _ _ s1
 obtain ⟨its,rv,pl,hz⟩:=I1.list (.of hl)
 have xb:=rv.length
 refine YV (kz:=fun i=>(ks i:Int)) pl.isList (by lia) (fun i v hi=>?_) fun h' tk out c p fp kp g e=>?_
 ·have ba:i<vs.length:=by
   have:=(bJ.mp hi).1
   lia
  have gi:vs[i]?=some vs[i]:=by simp [ba]
  obtain ⟨b,ys,eb,hb,ek,y1⟩:=mK i _ gi
  obtain ⟨u,eu,ru⟩:=rv.get gi
  rw [hi] at eu
  cases eu
  rw [eb] at ru
  cases ru
  obtain ⟨jE,r2,tp,_⟩:=I1.tuple (.of hb)
  have l2:=r2.length
  exact ⟨b,jE.toArray,rfl,tp,by rw [b9,←l2,ek],by rw [b9];lia⟩
 ·rw [←xb] at fp
  refine ⟨.ref (s1.heap.objs.size+1),_,I1.laid (t':=tk) (o:=.lst (p.map fun i=>vs.getD i .aR)) kp (oS _) ⟨?_,p.map fun i=>its.getD i Value.none,c,?_,?_⟩,rfl,k _ p (I1.ay.fresh (oS _)) fp⟩
  ·rw [aD,fp.pm.length_eq,c_]
   exact b8 (nE h1) (by decide)
  ·exact Hk rv p fun i hi=>aU.mp (fp.pm.mem_iff.mp hi)
  ·rw [g,←e,Array.toArray_toList]
def Ol:List V→Hp→VK→Prop:=fun xs H Q=>∃(a:Addr) (zs:List Int),xs=[.ref a]∧H a=some (.tup (zs.map V.int))∧zs.length<64∧∀(ws:List Int) (D:Addr),ws.Perm zs→ws.Pairwise (·≤·)→H D=none→Q (.ref D) (upd H D (.lst (ws.map V.int)))
theorem Y0:gy X (.builtin "sorted") Ol:=by
 intro pins s σ H xs us Q I r h;obtain ⟨a,zs,rfl,ha,AJ,k⟩:=h;obtain ⟨u,rfl,ru⟩:=vals1 r;cases ru;obtain ⟨its,rv,⟨o,g,c,n,d⟩,hz⟩:=I.tuple (.of ha);have hl:=rv.length;rw [aD] at hl;have sl:its.length≤sizeLine:=by rw [iZ];lia
 refine Calls.call_function_entry kind_sorted plain_sorted entry_sorted (args_sorted1 _) ?_;unfold Builtin.«sorted»;refine au (m:=checkCount "sorted" 1 1 _) (a8 (au (wpAny_collect_seq a (.inr rfl) g c d (fun h1 k1=>au (vR ?_ sl)) (by rw [b9];exact sl))))
 have I1:Inv X pins σ H {s with heap:=h1}:=I.kept (t':=s.toks) k1;have gL:(h1.push (seqObj "list" its.toArray 0)).get? h1.objs.size=some (seqObj "list" its.toArray 0):=dE _ rfl;show wpAny _ _ _ _ _ {s with heap:=h1.push (seqObj "list" its.toArray 0)};refine au (kM (sI slot_list_sort ⟨_,gL,rfl⟩ entry_list_sort (list_sort_tree (s:={s with heap:=h1.push (seqObj "list" its.toArray 0)}) gL (intsAre_of rv) (by lia) fun out kY a1 a2 a3=>⟨_,rfl,?_⟩) (args_list_sort _)))
 obtain ⟨e,he⟩:=sortedHeap_at (out:=out) gL;refine a8 ⟨_,rfl,.ref h1.objs.size,_,I1.laid (t':=s.toks) (o:=.lst (kY.map .int)) (fun b u gb=>?_) (aC _) ⟨?_,out.toList,e,HE a1,?_⟩,rfl,k kY _ a2 a3 (I1.ay.fresh (aC _))⟩
 ·have lt:=a9 gb
  rw [sortedHeap_old (bW lt) (by rw [sF];exact nG lt)]
  exact bX _ gb
 ·rw [aD,a2.length_eq]
  rw [iZ];lia
 ·simpa using he
end L2
namespace My
open PySem PySem.W PyProof.Rows
section
variable {prog:Program} {w:World} {A:Around} {E:aO} {s:Shared} {R:Result→Shared→Prop}
def lJ(s:Shared)(h:Heap):Prop:=∀b o,s.heap.get? b=some o→h.get? b=some o
def Dz(prog:Program)(w:World)(A:Around)(s:Shared)(vs:List Value)(kf:Nat→Int):Prop:=∀i j v u,vs[i]?=some v→vs[j]?=some u→∀(h:Heap) (tk:Nat) (Q:aO),lJ s h→(∀eh,Q (.bool (decide (kf i<kf j))) {s with heap:=h,toks:=eh})→wpAny (model prog w) A (richCompare .Lt v u) Q (fun _ _=>False) {s with heap:=h,toks:=tk}
variable {l:Addr} {vs:List Value} {kf:Nat→Int} {kw:List (Str×Value)}
theorem Y1{I S:Addr}(hh:A.handled=none)(hl:s.heap.IsList l vs.toArray)(hI:s.heap.objs.size≤I)(hS:s.heap.objs.size≤S)(tX:S≠I)(cmp:Dz prog w A.in1 s vs kf)
  (hR:∀i v h' eh,vs[i]?=some v→(∀j,j<vs.length→kf i≤kf j∧(j<i→kf i<kf j))→lJ s h'→R (.ok (.ret v)) {s with heap:=h',toks:=eh}) :
  ∀(r j i:Nat) (h:Heap) (tk:Nat) (vb:Value) (c:Nat),vs.length-(j+1)=r→j+1≤vs.length→lJ s h→h.get? S=some (seqObj "list" #[vb,vb] c)→h.IsListIter I l (j+1)→vs[i]?=some vb→i≤j→(∀j',j'≤j→kf i≤kf j'∧(j'<i→kf i<kf j'))→
   codeAny (model prog w) A (.builtin "min.loop" ⟨[.ref I,.none,.ref S],kw⟩) R {s with heap:=h,toks:=tk}:=by
 have A3:(toString "min"++toString ".loop":String)="min.loop":=by decide
 have lI:l≠I:=fun e=>by obtain ⟨o,g,_⟩:=hl;exact eW _ (d7 (a9 g) (e▸hI))
 have W:=Walks.list (prog:=prog) (w:=w) (A:=A.in1) hh I l lI vs.toArray;have hsz:vs.toArray.size=vs.length:=b9 ..;have lk:∀{h:Heap},lJ s h→h.IsList l vs.toArray:=fun{h} kp=>by obtain ⟨o,g,r⟩:=hl;exact ⟨o,kp _ _ g,r⟩
 have kI:∀{h h':Heap},lJ s h→(∀b o,b∉[I]→h.get? b=some o→h'.get? b=some o)→lJ s h':=fun kp k b o g=>k b o (fun z=>by rw [cy.mp z] at g;exact eW _ (d7 (a9 g) hI)) (kp b o g)
 have kS:∀{h:Heap} {f:Obj→Obj},lJ s h→lJ s (h.update S f):=fun{h f} kp b o g=>((qF h S f).2 b (fun z=>by rw [z] at g;exact eW _ (d7 (a9 g) hS))).trans (kp b o g)
 intro r
 induction r with
 | zero=>
  intro j i h tk vb c hr hj kp gS hit DA AA tY;have wL:j+1=vs.length:=by lia
  refine zc Ce ?_;rw [Cf qG _];show wpAny _ A.in1 (seqItems? (.ref S) >>= _) _ _ _;refine au (zB gS rfl ?_);show wpAny _ A.in1 (tryCatch (pyNext (.ref I)) _ >>= _) _ _ _;refine au (zC (W.done _ _ _ ⟨by rw [hsz,←wL];exact hit,lk kp⟩ fun h' eh dG=>?_))
  have rH:=dG S _ (by simpa using tX) gS
  show wpAny _ A.in1 (updateSeq S (fun _=>#[]) >>= _) _ _ _;refine au (Cg rH rfl (au (sM (a8 ?_))));exact hR i vb _ _ DA (fun j' ei=>tY j' (by lia)) (kS (kI kp dG))
 | succ r ih=>
  intro j i h tk vb c hr hj kp gS hit DA AA tY;have bh:j+1<vs.length:=by lia
  refine zc Ce ?_;rw [Cf qG _];show wpAny _ A.in1 (seqItems? (.ref S) >>= _) _ _ _;refine au (zB gS rfl ?_);show wpAny _ A.in1 (tryCatch (pyNext (.ref I)) _ >>= _) _ _ _;refine au (zC (W.item (j+1) _ _ _ (by rw [hsz];exact bh) ⟨hit,lk kp⟩ fun v h' eh hP DB dG=>?_))
  have hv:vs[j+1]?=some v:=by simpa using hP
  have A4:=kI kp dG;have rH:=dG S _ (by simpa using tX) gS
  show wpAny _ A.in1 (tryCatch (holding [v,v] (richCompare .Lt v vb >>= _)) _ >>= _) _ _ _;refine au (zC (kM (au (cL (cmp (j+1) i v vb hv DA h' eh (fun a iJ=>∃DC,a=.bool (decide (kf (j+1)<kf i))∧iJ={s with heap:=h',toks:=DC}) A4 fun DC=>⟨DC,rfl,rfl⟩) (fun a iJ he=>?_) fun _ _ hF=>hF.elim))));obtain ⟨DC,rfl,rfl⟩:=he;refine au (kM (oO ?_));refine au (sM (a8 ?_));by_cases fO:kf (j+1)<kf i
  ·obtain ⟨c2,iL⟩:∃c2,(h'.update S (Obj.mapSeq fun _=>#[v,v])).get? S=some (seqObj "list" #[v,v] c2):=⟨_,qB rH fun _=>#[v,v]⟩
   simp only [fO,decide_true,j6];refine au (Cg rH rfl (au (sM ?_)));rw [A3];obtain ⟨oI,g1,g2⟩:=id DB.1;refine a8 ⟨zD qG _,ih (j+1) (j+1) _ _ v c2 (by lia) bh (kS A4) iL ⟨oI,((qF h' S _).2 I tX.symm).trans g1,g2⟩ hv (aC _) fun j' ei=>?_⟩
   by_cases e:j'=j+1
   ·subst e
    exact ⟨by lia,fun _=>by lia⟩
   ·have DD:=tY j' (by lia)
    have p_:=DD.1;exact ⟨by lia,fun _=>by lia⟩
  ·simp only [fO,decide_false,zl,oR]
   refine au (sM ?_);rw [A3];refine a8 ⟨zD qG _,ih (j+1) i _ _ vb c (by lia) bh A4 rH DB.1 DA (by lia) fun j' ei=>?_⟩
   by_cases e:j'=j+1
   ·subst e
    exact ⟨by lia,fun _=>by lia⟩
   ·exact tY j' (by lia)
theorem Om{dflt:Option Value}{Q:aO}(hh:A.handled=none)(ha:argsOk "min" ⟨[.ref l],kw⟩)(hb:Builtin.Builtins.bindParams "min" ["key","default"] 0 ⟨[],kw⟩=pure [none,dflt])
  (hl:s.heap.IsList l vs.toArray) (cmp:Dz prog w A.in1 s vs kf) (gB:0<vs.length∨∃d,dflt=some d)
  (hQ:∀i v h' eh,vs[i]?=some v→(∀j,j<vs.length→kf i≤kf j∧(j<i→kf i<kf j))→lJ s h'→Q v {s with heap:=h',toks:=eh})
  (hD:vs.length=0→∀d,dflt=some d→∀h' eh,lJ s h'→Q d {s with heap:=h',toks:=eh}) :
  wpAny (model prog w) A (call (.builtin "min") [.ref l] kw) Q E s:=by
 have A3:(toString "min"++toString ".loop":String)="min.loop":=by decide
 obtain ⟨ol,Y2,_⟩:=id hl;have xb:l<s.heap.objs.size:=a9 Y2;refine kmk_tree PySem.F.kind_min PySem.F.plain_min PySem.F.entry_min ha ?_;show wpAny _ A.in1 (Builtin.Builtins.bindParams "min" ["key","default"] 0 ⟨[],kw⟩ >>= _) _ _ s;refine au (wpAny_of_eq hb ?_);refine au (a8 ?_);refine au (y9 hl ?_);refine au (vR ?_ (cf _));rw [A3];have hS:(s.heap.push {cls:=.type "list_iterator",data:=.fields #[.ref l,.int 0 0]}).objs.size=s.heap.objs.size+1:=sF ..;have gI:((s.heap.push {cls:=.type "list_iterator",data:=.fields #[.ref l,.int 0 0]}).push (seqObj "list" #[] 0)).get? s.heap.objs.size=some {cls:=.type "list_iterator",data:=.fields #[.ref l,.int 0 0]}:=bX _ (dE _ rfl);have gS:((s.heap.push {cls:=.type "list_iterator",data:=.fields #[.ref l,.int 0 0]}).push (seqObj "list" #[] 0)).get? (s.heap.objs.size+1)=some (seqObj "list" #[] 0):=by rw [←hS];exact dE _ rfl
 have kp:lJ s ((s.heap.push {cls:=.type "list_iterator",data:=.fields #[.ref l,.int 0 0]}).push (seqObj "list" #[] 0)):=fun b o e=>bX _ (bX _ e);refine a8 ⟨zD qG _,?_⟩;rw [hS];show codeAny _ _ _ _ {s with heap:=(s.heap.push {cls:=.type "list_iterator",data:=.fields #[.ref l,.int 0 0]}).push (seqObj "list" #[] 0)};generalize (s.heap.push {cls:=.type "list_iterator",data:=.fields #[.ref l,.int 0 0]}).push (seqObj "list" #[] 0)=hp at gI gS kp;obtain ⟨S,eS⟩:∃S,S=s.heap.objs.size+1:=⟨_,rfl⟩;obtain ⟨I,eI⟩:∃I,I=s.heap.objs.size:=⟨_,rfl⟩;have tX:S≠I:=by rw [eS,eI];exact sC (B5 _)
 have Oo:s.heap.objs.size≤I:=zA eI.symm;have A5:s.heap.objs.size≤S:=by rw [eS];exact oS _
 have Y3:l≠I:=by rw [eI];exact bW xb
 rw [←eS] at gS ⊢;rw [←eI] at gI ⊢;have W:=Walks.list (prog:=prog) (w:=w) (A:=A.in1) hh I l Y3 vs.toArray;have hsz:vs.toArray.size=vs.length:=b9 ..;have lk:hp.IsList l vs.toArray:=by obtain ⟨o,g,r⟩:=hl;exact ⟨o,kp _ _ g,r⟩
 have kI:∀{h':Heap},(∀b o,b∉[I]→hp.get? b=some o→h'.get? b=some o)→lJ s h':=fun k b o g=>k b o (fun z=>by rw [cy.mp z] at g;exact eW _ (d7 (a9 g) Oo)) (kp b o g)
 by_cases hz:0<vs.length
 ·refine zc Ce ?_
  rw [Cf qG _];show wpAny _ A.in1 (seqItems? (.ref S) >>= _) _ _ _;refine au (zB gS rfl ?_);show wpAny _ A.in1 (tryCatch (pyNext (.ref I)) _ >>= _) _ _ _;refine au (zC (W.item 0 _ _ _ (by rw [hsz];exact hz) ⟨⟨_,gI,rfl,rfl⟩,lk⟩ fun v h' eh hP DB dG=>?_))
  have hv:vs[0]?=some v:=by simpa using hP
  obtain ⟨Y4,Y5,tZ⟩:=id DB.1;have rH:=dG S _ (by simpa using tX) gS
  have A4:=kI dG;obtain ⟨c2,iL⟩:∃c2,(h'.update S (Obj.mapSeq fun _=>#[v,v])).get? S=some (seqObj "list" #[v,v] c2):=⟨_,qB rH fun _=>#[v,v]⟩;show wpAny _ A.in1 (updateSeq S (fun _=>#[v,v]) >>= _) _ _ _;refine au (Cg rH rfl ?_);rw [A3];refine a8 ⟨zD qG _,Y1 hh hl Oo A5 tX cmp hQ _ 0 0 _ _ v c2 rfl hz (fun b o g=>((qF h' S _).2 b (fun z=>?_)).trans (A4 b o g)) iL ⟨Y4,((qF h' S _).2 I tX.symm).trans Y5,tZ⟩ hv (aC _) fun j' ei=>?_⟩
  ·rw [z] at g
   exact eW _ (d7 (a9 g) A5)
  ·have e:j'=0:=by lia
   subst e;exact ⟨l7 _,fun h=>absurd h (eW _)⟩
 ·have z0:vs.length=0:=by lia
  obtain ⟨d,rfl⟩:∃d,dflt=some d:=gB.elim (fun h=>absurd h hz) id;refine zc Ce ?_;rw [Cf qG _];show wpAny _ A.in1 (seqItems? (.ref S) >>= _) _ _ _;refine au (zB gS rfl ?_);show wpAny _ A.in1 (tryCatch (pyNext (.ref I)) _ >>= _) _ _ _;refine au (zC (W.done _ _ _ ⟨⟨_,gI,rfl,by rw [hsz,z0];rfl⟩,lk⟩ fun h' eh dG=>?_))
  exact au (nJ (a8 (hD z0 d rfl h' eh (kI dG))))
end
open PySem PySem.W PyProof.Rows L2
theorem Y6(a v:Value):argsOk "min" ⟨[a],[(Str.ofString "default",v)]⟩:=by unfold argsOk;kernel_rfl
theorem Y7(a:Value):argsOk "min" ⟨[a],[]⟩:=by unfold argsOk;kernel_rfl
section
variable {prog:Program} {w:World} {A:Around} {s:Shared}
variable {vs:List Value}
theorem Y8{kf:Nat→Int}(hv:∀(i:Nat) (v:Value),vs[i]?=some v→∃t,v=Value.int (kf i) t):Dz prog w A s vs kf:=fun i j v u hi hj h tk Q kp hQ=>by obtain ⟨t,rfl⟩:=hv i v hi;obtain ⟨t',rfl⟩:=hv j u hj;exact HT.L_ A _ _ _ _ _ prog w _ Q (hQ tk)
theorem Y9{x y:Nat→Int}(hu:A.units<cLine)(hv:∀i v,vs[i]?=some v→fI s.heap v (x i) (y i)∧0≤y i∧y i<1000):Dz prog w A s vs (fun i=>x i*1000+y i):=fun i j v u hi hj h tk Q kp hQ=>by
 obtain ⟨⟨a,o,t1,t2,e,rfl,g,c,d⟩,y0,y1⟩:=hv i v hi;obtain ⟨⟨b,o',t3,t4,e',rfl,g',c',d'⟩,y2,y3⟩:=hv j u hj;have:=hQ tk;rw [show decide (x i*1000+y i<x j*1000+y j)=HT.lexLt [x i,y i] [x j,y j] from by
  rw [HT.Gq,HT.Gq];by_cases q:x i=x j
  ·rw [ae q]
   by_cases q':y i=y j
   ·rw [ae q']
    exact bO (by lia)
   ·rw [aa q']
    exact vO.mpr (by lia)
  ·rw [aa q]
   exact vO.mpr (by lia)] at this
 exact HT.Ub (s:={s with heap:=h,toks:=tk}) (items:=#[.int (x i) t1,.int (y i) t2]) (items2:=#[.int (x j) t3,.int (y j) t4]) ⟨o,kp _ _ g,c,e,d⟩ ⟨o',kp _ _ g',c',e',d'⟩ (.cons _ _ (.cons _ _ .nil)) (.cons _ _ (.cons _ _ .nil)) hu this
end
end My
namespace L2
open PySem PySem.W PyProof.Rows My
def Ic(zs:List Int)(d m:Int):Prop:=(zs=[]∧m=d)∨(m∈zs∧∀z∈zs,m≤z)
def Oq(t:TA)(td:TE):TE:=fun σ H Q=>t σ H fun xs H1=>td σ H1 fun y H2=>∃(l:Addr) (zs:List Int) (d:Int),xs=[.ref l]∧y=.int d∧H2 l=some (.lst (zs.map V.int))∧zs.length≤10000∧∀m,Ic zs d m→Q (.int m) H2
variable {X:Cx}
theorem Y_{e de:Expr}{es:List Expr}{t:TA}{td:TE}{p pos Ia:Pos}(hc:X.calm=true)(ha:PA X (e::es) t)(hd:PE X de td)(hg:Gl X (Str.ofString "min"))(hm:X.mg (Str.ofString "min")=none)(hv:bootBuiltins (Str.ofString "min")=some (.builtin "min"))
  (he:backTo pos (starEach (e::es) X.env)=(false,eval e X.env)::backTo pos (starEach es X.env):=by rfl) (jD:(backTo pos (starEach (e::es) X.env)).any (·.1)=false:=by rfl) :
  PE X (.Call (.Name (Str.ofString "min") p) (e::es) [⟨some (Str.ofString "default"),de,Ia⟩] pos) (Oq t td):=by
 intro pins s σ H Q I h
 refine vE (kd I hg hm hv ?_)
 refine callWith_kw (aK (ha pos pins s σ H _ I h) fun us s1 ⟨xs,H1,I1,r1,q1⟩=>?_) he jD
 show wpAny _ _ (evalAll [(do let v ←eval de X.env;standAt pos;pure v)]) _ _ s1
 refine Cc (au (aK (hd pins s1 σ H1 _ I1 q1) fun u s2 ⟨y,H2,I2,r2,q2⟩=>au (qo (a8 (Cd ?_)))))
 obtain ⟨l,zs,d,rfl,rfl,hl,h1,k⟩:=q2
 obtain ⟨u',rfl,ru⟩:=vals1 r1
 cases ru
 obtain ⟨Ie,rfl⟩:=r2
 show wpAny _ _ (call (.builtin "min") [.ref l] [(Str.ofString "default",.int d Ie)]) _ _ s2
 obtain ⟨its,rv,pl,hz⟩:=I2.list (.of hl)
 have xb:=rv.length
 rw [aD] at xb
 have at':∀(i:Nat) (v:Value),its[i]?=some v→∃t,v=Value.int (zs.getD i 0) t:=fun i v hi=>by
  have ba:i<zs.length:=by
   have:=(bJ.mp hi).1
   lia
  obtain ⟨u,eu,ru⟩:=rv.get (i:=i) (x:=.int (zs[i])) (by simp [ba])
  rw [hi] at eu
  cases eu
  obtain ⟨t,rfl⟩:=ru
  exact ⟨t,by rw [cg,bP ba];rfl⟩
 refine Om (kf:=fun i=>zs.getD i 0) (dflt:=some (.int d Ie)) (I2.ok.hd hc) (Y6 _ _) rfl pl.isList (Y8 at') (.inr ⟨_,rfl⟩) (fun i v h' eh hi best kp=>?_) (fun z0 d' e' h' eh kp=>?_)
 ·obtain ⟨t,rfl⟩:=at' i v hi
  have ba:i<zs.length:=by
   have:=(bJ.mp hi).1
   lia
  have gd:∀j (hj:j<zs.length),zs.getD j 0=zs[j]:=fun j hj=>by rw [cg,bP hj];rfl
  refine ⟨.int (zs.getD i 0),H2,I2.kept (t':=eh) kp,⟨t,rfl⟩,k _ (.inr ⟨by rw [gd i ba];exact cB _,fun z hz=>?_⟩)⟩
  obtain ⟨j,hj,rfl⟩:=nH hz
  have:=(best j (by lia)).1
  rw [gd j hj] at this
  exact this
 ·cases e'
  have z1:zs=[]:=FU.mp (by lia)
  exact ⟨.int d,H2,I2.kept (t':=eh) kp,⟨Ie,rfl⟩,k _ (.inl ⟨z1,rfl⟩)⟩
def Za:List V→Hp→VK→Prop:=fun xs H Q=>∃(l:Addr) (vs:List V) (x y:Nat→Int),xs=[.ref l]∧H l=some (.lst vs)∧0<vs.length∧(∀(i:Nat) (v:V),vs[i]?=some v→(∃b,v=.ref b∧H b=some (.tup [.int (x i),.int (y i)]))∧0≤y i∧y i<1000) ∧
 ∀(i:Nat) (v:V),vs[i]?=some v→(∀j,j<vs.length→x i*1000+y i≤x j*1000+y j)→Q v H
theorem Zb(hc:X.calm=true)(hu:X.A.units+64<cLine):gy X (.builtin "min") Za:=by
 intro pins s σ H xs us Q I r h;obtain ⟨l,vs,x,y,rfl,hl,h0,hv,k⟩:=h;obtain ⟨u,rfl,ru⟩:=vals1 r;cases ru;obtain ⟨its,rv,pl,hz⟩:=I.list (.of hl);have xb:=rv.length;have at':∀i v,its[i]?=some v→fI s.heap v (x i) (y i)∧0≤y i∧y i<1000:=fun i v hi=>by
  have ba:i<vs.length:=by have:=(bJ.mp hi).1;lia
  have gi:vs[i]?=some vs[i]:=by simp [ba]
  obtain ⟨⟨b,eb,hb⟩,Hm⟩:=hv i _ gi;obtain ⟨u,eu,ru⟩:=rv.get gi;rw [hi] at eu;cases eu;rw [eb] at ru;cases ru;obtain ⟨_,jE,r2,o,g,cl,e,d⟩:=(show cj X.prog X.w H s.heap b (.tup [.int (x i),.int (y i)]) from I.ay b _ hb);obtain ⟨u1,u2,rfl,q1,q2⟩:=vals2 r2;obtain ⟨t1,rfl⟩:=q1;obtain ⟨t2,rfl⟩:=q2;exact ⟨⟨b,o,t1,t2,e,rfl,g,cl,d⟩,Hm⟩
 have Zc:X.A.in1.units<cLine:=by show X.A.units+1<cLine;lia
 refine Om (kf:=fun i=>x i*1000+y i) (dflt:=none) (I.ok.hd hc) (Y7 _) rfl pl.isList (Y9 Zc at') (.inl (by lia)) (fun i v h' eh hi best kp=>?_) (fun z0=>by lia)
 have ba:i<vs.length:=by have:=(bJ.mp hi).1;lia
 have gi:vs[i]?=some vs[i]:=by simp [ba]
 obtain ⟨u,eu,ru⟩:=rv.get gi;rw [hi] at eu;cases eu;exact ⟨vs[i],H,I.kept (t':=eh) kp,ru,k i _ gi fun j hj=>(best j (by lia)).1⟩
end L2
namespace My
open PySem L2
theorem Zd{k:Nat}(h:k≤1000):k≤sizeLine:=b8 h (by decide)
def Ze:Sp:=fun vs H Q _=>∃(d:Addr) (done:List Int) (p:Int),vs=[.ref d,.int p]∧H d=some (.tup (done.map V.int))∧done.length≤60 ∧
 ∀(H':Hp) (t:Addr) (ws:List Int),ws.Perm (done++[p])→ws.Pairwise (·≤·)→H t=none→ak H H'→H' t=some (.tup (ws.map V.int))→Q (.ref t) H'
def b7:Nat→List (List Nat)
 | 0=>[[]]
 | k+1=>b7 k++(b7 k).map (·++[k])
theorem Ig:∀n,(b7 n).length=2 ^ n
 | 0=>rfl
 | n+1=>by unfold b7;rw [dO,aD,Ig n,Nat.pow_succ];lia
theorem eL:∀{n:Nat} {q:List Nat},q∈b7 n↔q.Pairwise (· < ·)∧∀x∈q,x<n
 | 0,q=>by
  show q∈[[]]↔_;rw [cy];constructor
  ·rintro rfl
   exact ⟨.nil,fun x h=>by cases h⟩
  ·rintro ⟨_,h⟩
   cases q with
   | nil=>rfl
   | cons a _=>exact absurd (h a cG) (oT _)
 | n+1,q=>by
  show q∈b7 n++(b7 n).map (·++[n])↔_;rw [dW,bG];constructor
  ·rintro (h | ⟨p,h,rfl⟩)
   ·obtain ⟨h1,h2⟩:=eL.mp h
    exact ⟨h1,fun x hx=>by have:=h2 x hx;lia⟩
   ·obtain ⟨h1,h2⟩:=eL.mp h
    refine ⟨zf.mpr ⟨h1,FW _ _,fun a ha b hb=>?_⟩,fun x hx=>?_⟩
    ·rw [cy.mp hb]
     exact h2 a ha
    ·rcases dW.mp hx with hx | hx
     ·have:=h2 x hx
      lia
     ·rw [cy.mp hx]
      lia
  ·rintro ⟨h1,h2⟩
   by_cases hn:n∈q
   ·right
    obtain ⟨a,b,rfl⟩:=List.append_of_mem hn;obtain ⟨p1,p2,p3⟩:=zf.mp h1;have b0:b=[]:=by
     cases b with
     | nil=>rfl
     | cons c b=>
      have c1:=(ma.mp p2).1 c cG;have c2:=h2 c (by simp)
      lia
    subst b0;exact ⟨a,eL.mpr ⟨p1,fun x hx=>p3 x hx n cG⟩,rfl⟩
   ·left
    refine eL.mpr ⟨h1,fun x hx=>?_⟩;have:=h2 x hx;have:x≠n:=fun e=>hn (e▸hx);lia
variable {n:Nat}
theorem A6{q:List Nat}(h1:q.Pairwise (· < ·))(h2:∀x∈q,x<n):q.length≤n:=by
 have:=(fU (n:=n));have sub:q ⊆ List.range n:=fun x hx=>aU.mpr (h2 x hx);have nd:q.Nodup:=h1.imp fun h=>bW h;have:=nd.length_le_of_subset sub
 rwa [c_] at this
def lK(H:Hp)(xs:List V)(qs:List (List Nat)):Prop:=xs.length=qs.length∧∀(i:Nat) (v:V) (q:List Nat),xs[i]?=some v→qs[i]?=some q→∃b,v=.ref b∧H b=some (.tup (q.map fun k:Nat=>V.int (k:Int)))
variable {H:Hp} {xs:List V} {qs:List (List Nat)}
theorem lK.mono{H':Hp}(h:lK H xs qs)(s:ak H H'):lK H' xs qs:=⟨h.1,fun i v q h1 h2=>by obtain ⟨b,e,g⟩:=h.2 i v q h1 h2;exact ⟨b,e,s _ _ g⟩⟩
theorem lK.cat{ys:List V}{rs:List (List Nat)}(h:lK H xs qs)(h':lK H ys rs):lK H (xs++ys) (qs++rs):=⟨by rw [dO,dO,h.1,h'.1],fun i v q h1 h2=>by
 by_cases z:i<xs.length
 ·rw [iC z] at h1
  rw [iC (by have:=h.1;lia)] at h2
  exact h.2 i v q h1 h2
 ·rw [iz (by lia)] at h1
  rw [iz (by have:=h.1;lia),←h.1] at h2
  exact h'.2 _ v q h1 h2⟩
def Zf:Sp:=fun vs H Q _=>∃n:Nat,vs=[.int (n:Int)]∧n≤9∧∀(D:Addr) (xs:List V) (H':Hp),ak H H'→H D=none→H' D=some (.lst xs)→lK H' xs (b7 n)→Q (.ref D) H'
def Ot(n:Nat)(L:ar)(done:List Nat)(p c:Nat):Prop:=∃f,gZ n L f∧ou n f done p c
open Classical in
noncomputable def dU (n:Nat) (L:ar) (done:List Nat) (p:Nat):Int:=if h:∃c,Ot n L done p c then ((choose h:Nat):Int)*(choose h:Nat)+3*(choose h:Nat)+1 else 0
variable {p:Nat}
theorem Ih{L:ar}{f:Nat→List Nat}{done:List Nat}{c:Nat}(nb:gZ n L f)(h:ou n f done p c):(c:Int)*c+3*c+1=dU n L done p:=by have e:∃c,Ot n L done p c:=⟨c,f,nb,h⟩;unfold dU;rw [dif_pos e];obtain ⟨g,cW,h'⟩:=FT e;rw [ou.same nb cW h h']
def cF(n:Nat)(done:List Nat):List Nat:=(List.range n).filter fun p=>!decide (p∈done)
def bI:List Nat→Nat→List Nat
 | [],p=>[p]
 | x::l,p=>if p<x then p::x::l else x::bI l p
theorem kD:∀{l:List Nat} {p q:Nat},q∈bI l p↔q=p∨q∈l
 | [],p,q=>by simp [bI]
 | x::l,p,q=>by
  unfold bI
  split
  ·simp
  ·rw [bw,kD,bw]
   constructor
   ·rintro (h | h | h)
    ·exact .inr (.inl h)
    ·exact .inl h
    ·exact .inr (.inr h)
   ·rintro (h | h | h)
    ·exact .inr (.inl h)
    ·exact .inl h
    ·exact .inr (.inr h)
theorem t9:∀{l:List Nat} {p:Nat},l.Pairwise (· < ·)→p∉l→(bI l p).Pairwise (· < ·)
 | [],p,_,_=>FW _ _
 | x::l,p,h,hp=>by
  obtain ⟨h1,h2⟩:=ma.mp h;unfold bI
  split
  ·rename_i lt
   exact ma.mpr ⟨fun a ha=>by
    rcases bw.mp ha with rfl | ha;·exact lt
    ·have:=h1 a ha
     lia,h⟩
  ·rename_i lt
   have px:p≠x:=fun e=>hp (e▸cG);refine ma.mpr ⟨fun a ha=>?_,t9 h2 fun z=>hp (cx _ z)⟩;rcases kD.mp ha with rfl | ha;·lia
   ·exact h1 a ha
theorem xc:∀{l:List Nat} {p:Nat},(bI l p).length=l.length+1
 | [],p=>rfl
 | x::l,p=>by
  unfold bI
  split
  ·rfl
  ·rw [d8,xc,d8]
theorem Ou{done:List Nat}{ws:List Int}(up:done.Pairwise (· < ·))(hp:p∉done)(pm:ws.Perm (done.map iN++[(p:Int)]))(so:ws.Pairwise (·≤·)):ws=(bI done p).map iN:=by
 obtain ⟨vs,pv,rfl⟩:=perm_back pm (done++[p]) (by rw [eX];rfl)
 have nd:(done++[p]).Nodup:=by
  rw [jz];refine ⟨up.imp fun h=>bW h,by simp,fun a ha b hb e=>?_⟩
  rw [cy] at hb;subst hb;subst e;exact hp ha
 have vu:vs.Pairwise (· < ·):=Yw pv nd so;rw [N1 vu (t9 up hp) fun q=>by rw [pv.mem_iff,kD,dW,cy];exact Or.comm]
def A7(done:List Nat):V→Bool
 | .int z=>!decide (z.toNat∈done)
 | _=>false
theorem Zg(done:List Nat)(q:Nat):A7 done (.int (0+(q:Int))) = !mE (.int (0+(q:Int))) (done.map fun k:Nat=>V.int (k:Int)):=by rw [qH,Dr];show (!decide (((q:Nat):Int).toNat∈done))=_;rw [cZ]
theorem Zh(n:Nat)(done:List Nat):((List.range n).map fun i:Nat=>V.int (0+(i:Int))).filter (A7 done)=(cF n done).map fun k:Nat=>V.int (k:Int):=by
 rw [B_];unfold cF;rw [show (List.range n).filter (A7 done ∘ fun i:Nat=>V.int (0+(i:Int)))=(List.range n).filter (fun p=>!decide (p∈done)) from List.filter_congr fun q _=>by show A7 done (.int (0+(q:Int)))=_;rw [qH];show (!decide (((q:Nat):Int).toNat∈done))=_;rw [cZ]]
 exact hE fun q _=>by rw [qH]
def fS(q:List Nat):List Key:=q.map fun k:Nat=>.inl (k:Int)
def Ov(H:Hp)(n:Nat)(L:ar)(W:List Nat→Int)(done:List Nat)(xs:List V):Prop:=xs.length=(cF n done).length∧∀(i:Nat) (v:V) (p:Nat),xs[i]?=some v→(cF n done)[i]?=some p→∃b,v=.ref b∧H b=some (.tup [.int (dU n L done p+W (bI done p)),.int (p:Int)])
def Zi:Sp:=fun vs H Q _=>∃(tp d wo:Addr) (n:Nat) (L:ar) (done:List Nat) (kvs:List (List Key×V)) (W:List Nat→Int),vs=[.ref tp,.ref d,.ref wo]∧cJ H tp n L∧dD n L∧n≤9∧H d=some (.tup (done.map fun k:Nat=>V.int (k:Int)))∧done∈b7 n∧H wo=some (.dT kvs) ∧
 (∀p,p<n→p∉done→fv kvs (fS (bI done p))=some (.int (W (bI done p))))∧∀(H':Hp) (D:Addr) (xs:List V),ak H H'→H' D=some (.lst xs)→Ov H' n L W done xs→Q (.ref D) H'
end My
namespace L2
open PySem PySem.Spec PyProof.Rows My
variable {K:aF} {Z:ar}
theorem Zj{a:Addr}{us:List V}{H1:Hp}(h:H1 a=some (.lst us))(hZ:bE H1 us Z):AY (mr K a) Z H1:=by
 have js:k8 (mr K a) us H1:=ko (.of h);refine ⟨fun i Hc s hi=>js.go i Hc s (by rw [hZ.1];exact hi),fun i Hc v H' s y=>?_,fun i Hc s hi=>js.stop i Hc s (by rw [hZ.1];exact hi)⟩
 obtain ⟨rfl,hx⟩:=js.d_ i Hc v H' s y;refine ⟨ak.refl _,fun z hz=>?_⟩;have hi:i<us.length:=by rw [hZ.1];exact (bJ.mp hz).1
 obtain ⟨b,e,g⟩:=hZ.2 i v z (hx hi) hz;exact ⟨b,e,s _ _ g⟩
theorem Zk{wi:TI}{ρ:St→St}{te:TE}{σ:St}{H:Hp}{Q:VK}(fE:∀R:It→Hp→Prop,(∀J H1,ak H H1→AY J Z H1→R J H1)→wi σ H R)(hn:Z.length<sizeLine)
  (step:∀z∈Z,∀(Hc:Hp) (R:VK),R (.int z.1) Hc→te (some (.int z.1)::some (.int z.2)::ρ σ) Hc R)
  (fin:∀D Hc,H D=none→ak H Hc→Hc D=some (.lst ((Z.map (·.1)).map V.int))→Q (.ref D) Hc):Ar K wi ρ (fun _ H Q=>Q true H) te σ H Q:=by
 refine fE _ fun J H1 s1 js=>?_;intro D nD;refine ⟨fun i m us Hc=>m=Z.length-i∧i≤Z.length∧Hc D=some (.lst us)∧ak H1 Hc∧us.length≤i∧us=((Z.take i).map (·.1)).map V.int,⟨_,rfl,cf _,ax,gD (ak.refl H1) nD,aC _,rfl⟩,?_⟩;rintro i m us Hc ⟨rfl,hi,eD,sH,lu,hL⟩;refine ⟨eD,?_⟩;by_cases bh:i<Z.length
 ·refine .inr ⟨js.go i Hc sH bh,fun v H' hy=>?_⟩
  obtain ⟨s',k⟩:=js.d_ i Hc v H' sH hy;obtain ⟨T,rfl,eT⟩:=k Z[i] (by simp [bh])
  have tk:Z.take (i+1)=Z.take i++[Z[i]]:=by rw [nN,bP bh];rfl
  have mz:Z[i]∈Z:=cB bh;generalize Z[i]=z at eT tk mz;refine ⟨T,_,_,rfl,.of eT,?_⟩;dsimp only;rw [ae rfl];refine step z mz _ _ ?_;refine ⟨s' _ _ eD,by lia,Z.length-(i+1),by lia,rfl,bh,ax,gD (sH.trans s') nD,by simp;lia,?_⟩
  rw [tk,eX,eX,←hL];rfl
 ·have e:i=Z.length:=by lia
  subst e;rw [iD] at hL;subst hL;exact .inl ⟨js.stop _ Hc sH (aC _),fin D Hc (none_of s1 nD) (s1.trans sH) eD⟩
end L2
namespace My
open PySem L2
def oA(d:Int):List Int→Int
 | []=>d
 | z::zs=>zs.foldl min z
theorem fold_min:∀(zs:List Int) (z:Int),zs.foldl min z∈z::zs∧∀y∈z::zs,zs.foldl min z≤y
 | [],z=>⟨cG,fun y hy=>by rw [cy.mp hy];exact l7 _⟩
 | x::zs,z=>by
  obtain ⟨h1,h2⟩:=fold_min zs (min z x);show zs.foldl min (min z x)∈_∧_;constructor
  ·rcases bw.mp h1 with e | h
   ·rw [e]
    by_cases q:z≤x
    ·rw [vV q]
     exact cG
    ·rw [vW (by lia)]
     exact cx _ cG
   ·exact cx _ (cx _ h)
  ·intro y hy
   have h0:=h2 _ cG;rcases bw.mp hy with e | hy
   ·rw [e]
    exact dY h0 (Int.min_le_left _ _)
   ·rcases bw.mp hy with e | hy
    ·rw [e]
     exact dY h0 (Int.min_le_right _ _)
    ·exact h2 y (cx _ hy)
variable {zs:List Int}
theorem Zl{d m:Int}(h:Ic zs d m):m=oA d zs:=by
 rcases h with ⟨rfl,rfl⟩ | ⟨h1,h2⟩;·rfl
 ·cases zs with
  | nil=>cases h1
  | cons z zs=>obtain ⟨f1,f2⟩:=fold_min zs z;exact Int.le_antisymm (h2 _ f1) (f2 _ h1)
noncomputable def wF (n:Nat) (L:ar):Nat→List Nat→Int
 | 0,_=>0
 | k+1,S=>oA 0 ((cF n S).map fun p=>dU n L S p+wF n L k (bI S p))
noncomputable def wW (n:Nat) (L:ar) (S:List Nat):Int:=wF n L (n-S.length) S
variable {n:Nat} {S:List Nat}
theorem Ow(h:S∈b7 n)(hl:n≤S.length):cF n S=[]:=by
 obtain ⟨h1,h2⟩:=eL.mp h;refine List.eq_nil_iff_forall_not_mem.mpr fun p hp=>?_;obtain ⟨p1,p2⟩:=b_.mp hp;have pn:=aU.mp p1;have pS:p∉S:=by simpa using p2
 have up:=t9 h1 pS;have:=A6 (n:=n) up fun x hx=>by
  rcases kD.mp hx with rfl | hx;·exact pn
  ·exact h2 x hx
 rw [xc] at this;lia
variable {L:ar}
theorem DE(h:S∈b7 n):wW n L S=oA 0 ((cF n S).map fun p=>dU n L S p+wW n L (bI S p)):=by
 unfold wW;by_cases hl:S.length<n
 ·obtain ⟨k,hk⟩:∃k,n-S.length=k+1:=⟨n-S.length-1,by lia⟩
  rw [hk];show oA 0 _=_
  congr 1
  refine hE fun p hp=>?_;rw [xc,show n-(S.length+1)=k by lia]
 ·rw [Ow h (by lia),show n-S.length=0 by lia]
  rfl
theorem Ox{a b:List Nat}(h:fS a=fS b):a=b:=by
 have h1:∀l:List Nat,(fS l).map (fun k=>match k with | .inl z=>z.toNat | .inr _=>0)=l:=fun l=>by
  unfold fS
  rw [cM]
  conv=>rhs;rw [←qD l]
  exact hE fun k _=>cZ k
 rw [←h1 a,←h1 b,h]
def wD(W:List Nat→Int)(qs:List (List Nat)):List (List Key×V):=qs.map fun q=>(fS q,.int (W q))
theorem DF(W:List Nat→Int):∀{qs:List (List Nat)} {q:List Nat},q∈qs→fv (wD W qs) (fS q)=some (.int (W q))
 | [],_,h=>by cases h
 | r::qs,q,h=>by
  by_cases e:r=q
  ·subst e
   exact AO rfl
  ·show fv ((fS r,V.int (W r))::wD W qs) (fS q)=_
   rw [AQ fun z=>e (Ox z)];exact DF W ((bw.mp h).resolve_left fun z=>e z.symm)
variable {qs:List (List Nat)} {q:List Nat}
theorem Zm(W:List Nat→Int)(h:q∉qs):putK (wD W qs) (fS q) (.int (W q))=wD W (qs++[q]):=by
 unfold putK;rw [aa fun z=>?_]
 ·unfold wD
  rw [eX];rfl
 ·obtain ⟨kv,hm,e⟩:=zp.mp z
  obtain ⟨r,hr,rfl⟩:=bG.mp hm;exact h (Ox (fB e)▸hr)
theorem Ii:∀n,(b7 n).Nodup
 | 0=>by show [[]].Nodup;simp
 | n+1=>by
  show (b7 n++(b7 n).map (·++[n])).Nodup;rw [jz];refine ⟨Ii n,(jA.mpr ((Ii n).imp fun h e=>h (List.append_cancel_right e))),fun a ha b hb e=>?_⟩;obtain ⟨c,_,rfl⟩:=bG.mp hb;have:=(eL.mp ha).2 n (by rw [e];simp)
  lia
def Zn:Sp:=fun vs H Q _=>∃(tp:Addr) (n:Nat) (L:ar),vs=[.ref tp]∧cJ H tp n L∧dD n L∧n≤9 ∧
 ∀(H':Hp) (D:Addr) (qs:List (List Nat)),ak H H'→H D=none→H' D=some (.dT (wD (wW n L) qs))→qs.Perm (b7 n)→Q (.ref D) H'
variable {H:Hp}
theorem Zo{K:aF}{wi:TI}{ρ:St→St}{tt:TT}{te td:TE}{σ:St}{Q:VK}(h:Ar K wi ρ tt te σ H fun x H1=>td σ H1 fun y H2=>∃(l:Addr) (zs:List Int) (d:Int),[x]=[V.ref l]∧y=.int d∧H2 l=some (.lst (zs.map V.int))∧zs.length≤10000∧∀m,Ic zs d m→Q (.int m) H2):Oq (wm (Ar K wi ρ tt te) zX) td σ H Q:=h
structure Ij (n:Nat) (qs:List (List Nat)):Prop where
 pm:qs.Perm (b7 n)
 dn:qs.Pairwise fun a b=>b.length≤a.length
variable {p:List Nat}
theorem Zp(h:rF (b7 n).length (fun i=>((((b7 n).getD i []).length:Nat):Int)) p):Ij n (p.map fun i=>(b7 n).getD i []):=by
 refine ⟨?_,?_⟩
 ·have e:(List.range (b7 n).length).map (fun i=>(b7 n).getD i [])=b7 n:=by
   refine fT (by simp) fun i h1 h2=>?_
   simp [h2]
  have:=h.pm.map fun i=>(b7 n).getD i [];rw [e] at this;exact this
 ·rw [jA]
  exact h.dn.imp fun h=>Int.ofNat_le.mp h
variable {j:Nat}
theorem Zq(h:Ij n qs)(hq:qs[j]?=some q){p:Nat}(pn:p<n)(pq:p∉q):bI q p∈qs.take j:=by
 have hj:=(bJ.mp hq).1;obtain ⟨q1,q2⟩:=eL.mp (h.pm.mem_iff.mp (j4 hq));have hm:bI q p∈qs:=h.pm.mem_iff.mpr (eL.mpr ⟨t9 q1 pq,fun x hx=>by
  rcases kD.mp hx with rfl | hx;·exact pn
  ·exact q2 x hx⟩)
 obtain ⟨i,hi,e⟩:=nH hm;by_cases ij:i<j;·exact Cb.mpr ⟨i,by lia,e⟩
 ·exfalso
  have qa:qs[j]=q:=by have:=bP hj;rw [hq] at this;exact (Option.some.inj this).symm
  have l1:=xc (l:=q) (p:=p);by_cases z:i=j
  ·subst z
   rw [←e,qa] at l1;lia
  ·have:=qy.mp h.dn j i hj hi (by lia)
   rw [e,qa,l1] at this;lia
theorem Zr(h:Ij n qs)(hq:qs[j]?=some q):q∉qs.take j∧qs.take (j+1)=qs.take j++[q]:=by
 have hj:=(bJ.mp hq).1;have nd:qs.Nodup:=h.pm.nodup_iff.mpr (Ii n);refine ⟨fun hm=>?_,by rw [nN,hq];rfl⟩
 obtain ⟨i,hi,e⟩:=Cb.mp hm;have qa:qs[j]=q:=by have:=bP hj;rw [hq] at this;exact (Option.some.inj this).symm
 exact qy.mp (nO.mp nd) i j (by lia) hj (by lia) (e.trans qa.symm)
variable {xs:List V}
theorem Zs(h:lK H xs qs)(hp:∀i∈p,i<qs.length):lK H (p.map fun i=>xs.getD i .aR) (p.map fun i=>qs.getD i []):=by
 refine ⟨by rw [aD,aD],fun k v q h1 h2=>?_⟩
 rw [bo] at h1 h2;cases e:p[k]? with
 | none=>rw [e] at h1;cases h1
 | some i=>
  rw [e] at h1 h2;cases h1;cases h2;have hi:=hp i (j4 e);have hx:i<xs.length:=by rw [h.1];exact hi
  refine h.2 i _ _ ?_ ?_
  ·show xs[i]?=some (xs.getD i V.aR)
   rw [cg,bP hx];rfl
  ·show qs[i]?=some (qs.getD i [])
   rw [cg,bP hi];rfl
theorem Oy{W:List Nat→Int}{done:List Nat}(h:Ov H n L W done xs):bE H xs ((cF n done).map fun p=>(dU n L done p+W (bI done p),(p:Int))):=by
 refine ⟨by rw [h.1,aD],fun k v z h1 h2=>?_⟩
 rw [bo] at h2;cases e:(cF n done)[k]? with
 | none=>rw [e] at h2;cases h2
 | some p=>rw [e] at h2;cases h2;exact h.2 k v p h1 e
noncomputable def iW (n:Nat) (L:ar):List Nat→List Nat→Int
 | _,[]=>0
 | S,p::o=>dU n L S p+iW n L (bI S p) o
theorem Oz(n:Nat)(L:ar):∀(o:List Nat) (S:List Nat) (p:Nat),iW n L S (o++[p])=iW n L S o+dU n L (o.foldl bI S) p
 | [],S,p=>by show dU n L S p+0=0+dU n L S p;lia
 | x::o,S,p=>by show dU n L S x+iW n L (bI S x) (o++[p])=dU n L S x+iW n L (bI S x) o+dU n L (o.foldl bI (bI S x)) p;rw [Oz n L o (bI S x) p];lia
theorem Zt{z:Int}(h:zs≠[]):oA z zs∈zs∧∀y∈zs,oA z zs≤y:=by
 cases zs with
 | nil=>exact absurd rfl h
 | cons x zs=>exact fold_min zs x
structure t_ (n:Nat) (L:ar) (o S:List Nat):Prop where
 eq:S=o.foldl bI []
 pm:S.Perm o
 mem:S∈b7 n
 A8:iW n L [] o+wW n L S=wW n L []
theorem t_.start(n:Nat)(L:ar):t_ n L [] []:=⟨rfl,.nil,eL.mpr ⟨.nil,fun x h=>by cases h⟩,by show 0+_=_;lia⟩
theorem OA:∀(l:List Nat) (p:Nat),(bI l p).Perm (l++[p])
 | [],p=>.refl _
 | x::l,p=>by
  unfold bI
  split
  ·exact (List.perm_append_singleton p (x::l)).symm
  ·exact (OA l p).cons x
variable {o:List Nat}
theorem t_.next(h:t_ n L o S){p:Nat}(hp:p∈cF n S)(hm:∀q∈cF n S,dU n L S p+wW n L (bI S p)≤dU n L S q+wW n L (bI S q)):t_ n L (o++[p]) (bI S p):=by
 obtain ⟨p1,p2⟩:=b_.mp hp;have pn:=aU.mp p1;have pS:p∉S:=by simpa using p2
 obtain ⟨m1,m2⟩:=eL.mp h.mem;refine ⟨by rw [List.foldl_append,←h.eq];rfl,(OA S p).trans (h.pm.append_right [p]),eL.mpr ⟨t9 m1 pS,fun x hx=>?_⟩,?_⟩
 ·rcases kD.mp hx with rfl | hx
  ·exact pn
  ·exact m2 x hx
 ·have st:=DE (L:=L) h.mem
  obtain ⟨f1,f2⟩:=Zt (z:=0) (zs:=(cF n S).map fun p=>dU n L S p+wW n L (bI S p)) (fun e=>by rw [List.map_eq_nil_iff] at e;rw [e] at hp;cases hp)
  rw [←st] at f1 f2;obtain ⟨q,hq,e⟩:=bG.mp f1;have h1:=hm q hq;have h2:=f2 _ (bG.mpr ⟨p,hp,rfl⟩);have:=h.A8;rw [Oz,←h.eq];lia
theorem Zu(h:S∈b7 n)(hl:S.length<n):0<(cF n S).length:=by
 refine Nat.pos_of_ne_zero fun e=>?_;have e:=FU.mp e;have sub:List.range n ⊆ S:=fun x hx=>by
  refine hJ fun no=>?_;have:x∈cF n S:=b_.mpr ⟨hx,by simpa using no⟩
  rw [e] at this;cases this
 have:=(fU (n:=n)).length_le_of_subset sub;rw [c_] at this;lia
theorem Zv(h:S∈b7 n)(hl:S.length=n):S=List.range n:=by
 obtain ⟨h1,h2⟩:=eL.mp h;refine N1 h1 (tV n) fun p=>⟨fun hp=>aU.mpr (h2 p hp),fun hp=>?_⟩;refine hJ fun no=>?_;have:p∈cF n S:=b_.mpr ⟨hp,by simpa using no⟩
 rw [Ow h (by lia)] at this
 cases this
def Zw:Sp:=fun vs H Q _=>∃(tp:Addr) (n:Nat) (L:ar),vs=[.ref tp]∧cJ H tp n L∧dD n L∧n≤9 ∧
 ∀(H':Hp) (t lo:Addr) (o:List Nat),ak H H'→H lo=none→H' t=some (.tup [.ref lo,.int (wW n L [])])→H' lo=some (.lst (o.map fun k:Nat=>V.int (k:Int)))→o.Perm (List.range n)→iW n L [] o=wW n L []→Q (.ref t) H'
theorem OB:∀(pre S:List Nat) (q:Nat),q∈pre.foldl bI S↔q∈pre∨q∈S
 | [],S,q=>by simp
 | x::pre,S,q=>by
  show q∈pre.foldl bI (bI S x)↔_;rw [OB pre,kD,bw];constructor
  ·rintro (h | h | h)
   ·exact .inl (.inr h)
   ·exact .inl (.inl h)
   ·exact .inr h
  ·rintro ((h | h) | h)
   ·exact .inr (.inl h)
   ·exact .inl h
   ·exact .inr (.inr h)
open Classical in
theorem Zx(ho:o.Perm (List.range n))(bV:dD n L){x:Nat}(xn:x<n)(hS:∀y,y∈S↔eF n o (o.idxOf x) y){ms:List Nat}(h:iw n o x ms∧jT n L o x ms):((ms.length:Nat):Int)*ms.length+3*ms.length+1=dU n L S x:=by
 have nb:gZ n L (fun i=>(List.range n).filter fun j=>rL L i j):=fun i j hi=>by
  rw [b_,aU,gJ];constructor;·exact fun h=>h.2
  ·intro h
   refine ⟨?_,h⟩;rcases h with e | e
   ·have:=bV _ e
    lia
   ·have:=bV _ e
    lia
 generalize (fun i=>(List.range n).filter fun j=>rL L i j)=f at nb;have ad:∀a b,iT n f a b↔aL n L a b:=fun a b=>by
  unfold iT aL;constructor
  ·rintro ⟨h1,h2⟩
   have h3:=(nb a b h1).mp h2;refine ⟨h1,?_,h3⟩;rcases h3 with e | e
   ·have:=bV _ e
    lia
   ·have:=bV _ e
    lia
  ·rintro ⟨h1,_,h3⟩
   exact ⟨h1,(nb a b h1).mpr h3⟩
 have rc:∀q,fQ (iT n f) (·∈S) x q↔q=x∨Wk (aL n L) (eF n o (o.idxOf x)) x q:=fun q=>by
  rw [Yg];constructor
  ·rintro (e | w)
   ·exact .inl e
   ·exact .inr ((w.imp fun a b=>(ad a b).mp).mono fun y=>(hS y).mp)
  ·rintro (e | w)
   ·exact .inl e
   ·exact .inr ((w.imp fun a b=>(ad a b).mpr).mono fun y=>(hS y).mpr)
 have wl:∀q,Wk (aL n L) (eF n o (o.idxOf x)) x q→q<n:=fun q w=>by
  cases w with
  | one ab=>exact ab.2.1
  | more _ _ ab=>exact ab.2.1
 refine Ih nb ⟨(List.range n).filter fun q=>decide (fQ (iT n f) (·∈S) x q),⟨fU.filter _,fun k hk=>aU.mp (b_.mp hk).1⟩,fun q=>?_,?_⟩
 ·rw [b_,aU,eY]
  refine ⟨fun h=>h.2,fun h=>⟨?_,h⟩⟩;rcases (rc q).mp h with e | w;·rw [e];exact xn
  ·exact wl q w
 ·refine ((kP (h.1.up.imp fun h=>bW h) ((fU.filter _).filter _)).mpr fun q=>?_).length_eq
  rw [h.2 q,b_,b_,aU,eY,rc q];constructor
  ·rintro ⟨h1,h2,h3⟩
   refine ⟨⟨h1,.inr h3⟩,?_⟩;have qx:q≠x:=fun e=>by subst e;lia
   have qS:q∉S:=fun z=>by have:=((hS q).mp z).2;lia
   simp [qx,qS]
  ·rintro ⟨⟨h1,h2⟩,h3⟩
   have qx:q≠x:=fun e=>by simp [e] at h3
   have qS:q∉S:=fun z=>by simp [z] at h3
   refine ⟨h1,?_,h2.resolve_left qx⟩;have ne:=mV ho h1 xn qx;have:¬o.idxOf q<o.idxOf x:=fun z=>qS ((hS q).mpr ⟨h1,z⟩);lia
theorem OC{n:Nat}{L:ar}{o:List Nat}(ho:o.Perm (List.range n))(bV:dD n L){g:Nat→List Nat}(hg:∀p,p<n→iw n o p (g p)∧jT n L o p (g p)):∀(l pre:List Nat),o=pre++l→iW n L (pre.foldl bI []) l=(l.map fun x=>(((g x).length:Nat):Int)*(g x).length+3*(g x).length+1).sum
 | [],_,_=>rfl
 | x::l,pre,e=>by
  have nd:=pU ho;rw [e,jz] at nd;obtain ⟨np,nx,dj⟩:=nd;have xn:x<n:=(gG ho).mp (by rw [e];simp)
  have ix:o.idxOf x=pre.length:=by rw [e,kT,aa fun h=>dj x h x cG rfl,vU,e9]
  have hS:∀y,y∈pre.foldl bI []↔eF n o (o.idxOf x) y:=fun y=>by
   rw [OB,ix];unfold eF;constructor
   ·rintro (h | h)
    ·refine ⟨(gG ho).mp (by rw [e];simp [h]),?_⟩
     rw [e,kT,ae h];exact oW h
    ·cases h
   ·rintro ⟨h1,h2⟩
    refine .inl (hJ fun no=>?_);rw [e,kT,aa no] at h2;lia
  have c:=Zx ho bV xn hS (hg x xn);have ih:=OC ho bV hg l (pre++[x]) (by rw [e];simp)
  rw [List.foldl_append] at ih;show dU n L (pre.foldl bI []) x+iW n L (bI (pre.foldl bI []) x) l=_;rw [du,fC,←c];exact dM _ ih
theorem Zy{M:ar}(ho:o.Perm (List.range n))(bV:dD n L)(f:dz n L o M){g:Nat→List Nat}(hg:∀p,p<n→iw n o p (g p)∧jT n L o p (g p)):iW n L [] o=(mW n M:Int):=by
 have h1:=OC ho bV hg o [] rfl;have h2:=Od ho f hg;have h3:∀l:List Nat,(l.map fun x=>(((g x).length:Nat):Int)*(g x).length+3*(g x).length+1).sum=(((l.map fun x=>(g x).length*(g x).length+3*(g x).length+1).sum:Nat):Int):=fun l=>by
  induction l with
  | nil=>rfl
  | cons x l ih=>rw [du,fC,du,fC,ih];push_cast;rfl
 show iW n L (([]:List Nat).foldl bI []) o=_;rw [h1,h3,←h2,(ho.map fun x=>(g x).length*(g x).length+3*(g x).length+1).sum_nat]
end My
namespace L2
open PySem
section
variable {prog:Program} {w:World} {A:Around} {E:aO} {s:Shared}
end
open PySem PySem.Spec PyProof.Rows My
end L2
namespace My
open PySem L2
theorem DG{n:Nat}{L:ar}{o:List Nat}(ho:o.Perm (List.range n))(cl:tW n (aL n L) (fun a=>o.idxOf a)):∀(k a b:Nat),a<n→b<n→k≤o.idxOf a→k≤o.idxOf b→a≠b→Wk (aL n L) (eF n o k) a b→aL n L a b
 | 0,a,b,_,_,_,_,_,w=>by
  cases w with
  | one ab=>exact ab
  | more _ t _=>exact absurd t.2 (oT _)
 | k+1,a,b,an,bn,ka,kb,ne,w=>by
  have lo:=w5 ho;have ia:o.idxOf a<o.length:=oW ((gG ho).mpr an);have hk:k<o.length:=by lia
  have pn:o[k]<n:=(gG ho).mp (cB hk);have ip:o.idxOf o[k]=k:=Dp (pU ho) hk;generalize o[k]=p at pn ip;have th:∀x,eF n o (k+1) x↔eF n o k x∨x=p:=fun x=>by
   unfold eF;constructor
   ·rintro ⟨h1,h2⟩
    by_cases e:o.idxOf x=k
    ·right
     refine hJ fun z=>?_;exact absurd (e.trans ip.symm) (mV ho h1 pn z)
    ·exact .inl ⟨h1,by lia⟩
   ·rintro (⟨h1,h2⟩ | rfl)
    ·exact ⟨h1,by lia⟩
    ·exact ⟨pn,by lia⟩
  have ap:a≠p:=fun e=>by subst e;lia
  have bp:b≠p:=fun e=>by subst e;lia
  rcases (Wk.step th).mp w with h | ⟨h1,h2⟩;·exact DG ho cl k a b an bn (by lia) (by lia) ne h
  ·have e1:=DG ho cl k a p an pn (by lia) (by lia) ap h1
   have e2:=DG ho cl k p b pn bn (by lia) (by lia) bp.symm h2
   exact cl p a b pn an bn (show o.idxOf p<o.idxOf a by lia) (show o.idxOf p<o.idxOf b by lia) ne (gH _ _ e1) e2
variable {n:Nat} {L:ar} {o:List Nat}
theorem OD(ho:o.Perm (List.range n))(pw:L.Pairwise lexLt)(lt:∀z∈L,0≤z.1∧z.1<z.2∧z.2<(n:Int))(cl:tW n (aL n L) (fun a=>o.idxOf a)):dz n L o L:=by
 refine ⟨pw,fun z=>⟨fun hz=>?_,?_⟩⟩
 ·obtain ⟨z0,z1,z2⟩:=lt z hz
  obtain ⟨i,j⟩:=z;dsimp only at z0 z1 z2;obtain ⟨a,rfl⟩:=gq z0;obtain ⟨b,rfl⟩:=gq (show 0≤j by lia)
  have an:a<n:=by lia
  have bn:b<n:=by lia
  have ne:=mV ho an bn (by lia)
  by_cases h:o.idxOf a<o.idxOf b
  ·refine ⟨a,b,an,bn,h,.one ⟨an,bn,.inl hz⟩,?_⟩
   unfold da;rw [aa (by lia),ae (by lia)]
  ·refine ⟨b,a,bn,an,by lia,.one ⟨bn,an,.inr hz⟩,?_⟩
   unfold da;rw [ae (by lia),aa (by lia)]
 ·rintro ⟨p,q,pn,qn,pq,w,rfl⟩
  have ne:p≠q:=fun e=>by subst e;lia
  have h:=DG ho cl (o.idxOf p) p q pn qn (aC _) (nE pq) ne w;unfold da;rcases h.2.2 with e | e
  ·have:=lt _ e
   rw [aa (by lia),ae (by lia)]
   exact e
  ·have:=lt _ e
   rw [ae (by lia),aa (by lia)]
   exact e
theorem Zz(ho:o.Perm (List.range n))(f:dz n L o L):tW n (aL n L) (fun a=>o.idxOf a):=fun a b c an bn cn ab ac bc e1 e2=>by
 have ne:=mV ho bn cn bc;have both:∀k,o.idxOf a<k→Wk (aL n L) (eF n o k) b c:=fun k hk=>(Wk.one (gH _ _ e1)).more ⟨an,hk⟩ e2;by_cases h:o.idxOf b<o.idxOf c;·exact ⟨bn,cn,gJ.mp ((p9 f bn cn h).mpr (both _ ab))⟩
 ·exact gH _ _ ⟨cn,bn,gJ.mp ((p9 f cn bn (by lia)).mpr ((both _ ac).symm gH))⟩
def oB(n:Nat)(r:Nat→Nat→Bool)(P:List Nat):Prop:=∀A b B,P=A++b::B→∀a,a<n→a∉A→(A.filter (r a)).length≤(A.filter (r b)).length
theorem OE{r s:Nat→Bool}:∀{l:List Nat},(∀d∈l,s d=true→r d=true)→∀{c},c∈l→r c=true→s c=false→(l.filter s).length<(l.filter r).length
 | [],_,_,h,_,_=>by cases h
 | x::l,h,c,hc,rc,A9=>by
  have le:(l.filter s).length≤(l.filter r).length:=by
   clear hc rc A9;have h':∀d∈l,s d=true→r d=true:=fun d hd=>h d (cx _ hd);clear h
   induction l with
   | nil=>exact aC _
   | cons y l ih=>
    have ih:=ih fun d hd=>h' d (cx _ hd);have hy:=h' y cG;rw [qE,qE];by_cases sy:s y=true
    ·rw [ae sy,ae (hy sy),d8,d8]
     lia
    ·rw [aa sy]
     split
     ·rw [d8]
      lia
     ·exact ih
  rw [qE,qE];rcases bw.mp hc with rfl | hc
  ·rw [A9,aa (by decide),ae rc,d8]
   lia
  ·have ih:=OE (fun d hd=>h d (cx _ hd)) hc rc A9
   by_cases sx:s x=true
   ·rw [ae sx,ae (h x cG sx),d8,d8]
    lia
   ·rw [aa sx]
    split
    ·rw [d8]
     lia
    ·exact ih
variable {P:List Nat}
theorem ZA(pm:P.Perm (List.range n))(h:oB n (rL L) P):HX n (aL n L) (fun a=>P.reverse.idxOf a):=fun a b c an bn cn ab bc e1 e2=>by
 have po:P.reverse.Perm (List.range n):=(l_ P).trans pm;obtain ⟨A,B,e⟩:=List.append_of_mem (pm.mem_iff.mpr (aU.mpr bn));have er:P.reverse=B.reverse++b::A.reverse:=by rw [e];simp
 have nd:=pU po;rw [er,jz] at nd;obtain ⟨_,nx,dj⟩:=nd;obtain ⟨nb,_⟩:=i3.mp nx;have ib:P.reverse.idxOf b=B.reverse.length:=by rw [er,kT,aa fun h=>dj b h b cG rfl,vU,e9]
 have iA:∀d,d∈A→P.reverse.idxOf b<P.reverse.idxOf d:=fun d hd=>by
  have hr:d∈A.reverse:=nK.mpr hd;have db:d≠b:=fun z=>nb (z▸hr);rw [ib,er,kT,aa fun h=>dj d h d (cx _ hr) rfl,zu,show (b == d)=false from by simpa using db.symm]
  simp only [cond_false];lia
 have iB:∀d,d<n→P.reverse.idxOf b<P.reverse.idxOf d→d∈A:=fun d dn lt=>by
  have hm:=(gG po).mpr dn;rw [er,dW,bw] at hm;rcases hm with hm | rfl | hm
  ·rw [ib,er,kT,ae hm] at lt
   have:=oW hm;lia
  ·lia
  ·exact nK.mp hm
 refine hJ fun no=>?_;have cA:=iB c cn bc;have aA:a∉A:=fun z=>by have:=iA a z;have ab:P.reverse.idxOf a<P.reverse.idxOf b:=ab;lia
 have le:=h A b B e a an aA;have Al:∀d∈A,d<n:=fun d hd=>aU.mp (pm.mem_iff.mp (by rw [e];simp [hd]))
 have lt:=OE (r:=rL L a) (s:=rL L b) (l:=A) (fun d hd sd=>by
  refine hJ fun nr=>no ⟨d,Al d hd,iA d hd,⟨bn,Al d hd,gJ.mp sd⟩,fun z=>nr (gJ.mpr z.2.2)⟩) cA (gJ.mpr e1.2.2) (by
  cases z:rL L b c with
  | false=>rfl
  | true=>exact absurd ⟨bn,cn,gJ.mp z⟩ e2)
 lia
theorem ZC(pw:L.Pairwise lexLt)(lt:∀z∈L,0≤z.1∧z.1<z.2∧z.2<(n:Int))(ho:o.Perm (List.range n))(f:dz n L o L)(pm:P.Perm (List.range n))(h:oB n (rL L) P):dz n L P.reverse L:=by
 have po:P.reverse.Perm (List.range n):=(l_ P).trans pm;refine OD po pw lt (YN (Zz ho f) (fun a b an bn e=>hJ fun z=>mV ho an bn z e) (fun a b an bn e=>hJ fun z=>mV po an bn z e) gH (fun a h=>?_) (ZA pm h) fun a an=>?_);·rcases h.2.2 with e | e <;> (have:=lt _ e;lia)
 ·have:=oW ((gG po).mpr an)
  rw [w5 po] at this;exact this
end My
namespace L2
open PySem PySem.W PyProof.Rows
section
variable {prog:Program} {w:World} {A:Around} {E:aO} {s:Shared}
end
open AutoSeq1 (wpAny_loadPart')
section
variable {prog:Program} {w:World} {A:Around} {E:aO} {s:Shared}
end
end L2
namespace My
open PySem L2
end My
namespace L2
open PySem PySem.Spec PyProof.Rows My
end L2
namespace My
open PySem L2
open PySem L2 Classical
theorem OF(n:Nat)(L:ar)(o:List Nat)(p:Nat):∃ms,iw n o p ms∧jT n L o p ms:=by
 refine ⟨(List.range n).filter fun q=>decide (o.idxOf p<o.idxOf q∧Wk (aL n L) (eF n o (o.idxOf p)) p q),⟨B8.sublist List.filter_sublist,fun q hq=>?_,fun q hq=>?_⟩,fun q=>?_⟩;·exact aU.mp (b_.mp hq).1
 ·exact (fB (b_.mp hq).2).1
 ·rw [b_,aU,eY]
theorem ZD(n:Nat)(L:ar)(o:List Nat):∃g:Nat→List Nat,∀p,p<n→iw n o p (g p)∧jT n L o p (g p):=
 ⟨fun p=>choose (OF n L o p),fun p _=>choose_spec (OF n L o p)⟩
theorem ZE{n:Nat}{L M:ar}{o:List Nat}(ho:o.Perm (List.range n))(bV:dD n L)(f:dz n L o M):iW n L [] o=(mW n M:Int):=by obtain ⟨g,hg⟩:=ZD n L o;exact Zy ho bV f hg
theorem ZF(n:Nat)(L:ar)(o:List Nat):∃M,dz n L o M:=by
 let f:Nat→Nat→Bool:=fun i j=>decide (∃p q:Nat,p<n∧q<n∧o.idxOf p<o.idxOf q∧Wk (aL n L) (eF n o (o.idxOf p)) p q∧((i:Int),(j:Int))=da p q)
 refine ⟨AN n f n,Nk n,fun z=>⟨fun h=>?_,?_⟩⟩
 ·obtain ⟨i,j,_,_,_,hf,rfl⟩:=mem_of h
  exact fB hf
 ·rintro ⟨p,q,hp,hq,Ik,hw,rfl⟩
  have ne:p≠q:=fun e=>by rw [e] at Ik;exact absurd Ik (eW _)
  obtain ⟨i,j,ij,jn,e⟩:∃i j:Nat,i<j∧j<n∧da p q=((i:Int),(j:Int)):=by
   by_cases h:q<p
   ·refine ⟨q,p,h,hp,?_⟩
    unfold da;rw [ae (by lia),aa (by lia)]
   ·refine ⟨p,q,by lia,hq,?_⟩
    unfold da;rw [aa (by lia),ae (by lia)]
  rw [e];exact Nj ij jn (bA ⟨p,q,hp,hq,Ik,hw,e.symm⟩) (by lia)
theorem cR{a b:TS}{D:Ends}{σ:St}{H:Hp}(h:∀R:St→Hp→Prop,(∀σ H,b D σ H→R σ H)→a {D with nx:=R} σ H):F8 a b D σ H:=h _ fun _ _ h=>h
end My
namespace L2
open PySem PySem.Spec PyProof.Rows
def OG(ps:Array Value):Obj:={cls:=.none,data:=.fields ps}
def OH(Pt:Addr)(H:Hp):Prop:=∀b,H b=none∨(∃o xs,H b=some (.bg o (.lst xs)))∨(b=Pt∧H b=some (.dZ #[]))
def lO(base:Heap)(mg:dh):Prop:=
 ∃bm o,mg "__builtins__"=some (.ref bm)∧bm≠builtinsNs∧base.get? bm=some o∧o.cls=.type "module"∧o.dict=some builtinsNs∧o.data=.plain
variable {P:Program} {w:World} {K:aF} {mg:dh} {k:Nat} {Pt:Addr} {fd:FuncData} {x:Str} {sp:Sp}
theorem ZG{mb:dh}{CX:i9}{fa a:Addr}{s₁:Shared}{vs:List Value}{ns:List Int}
  (KX:K.In s₁.heap) (DH:s₁.heap.Ns mainGlobals mg) (hb:s₁.heap.Ns builtinsNs mb) (tN:∀x:Str,x ≠ "__name__"→mb x=bootBuiltins x) (ZH:s₁.heap.NoLimit) (hg:s₁.gens = #[])
  (hT:s₁.heap.get? Pt=some (OG #[])) (Il:K.lookup Pt=none) (Im:isCodeTable s₁.heap Pt)
  (ha:s₁.heap.get? a=some {cls:=.type "list",data:=.seq vs.toArray}) (hi:IntsAre vs ns) (hl:ns.length≤sizeLine) (hr:eU k callerA)
  (ZI:lO s₁.heap mg) (F:∀base:Heap,K.In base→base.Ns mainGlobals mg→lO base mg→bL P w K mg base CX k fa fd [x] sp) (uc:∀(s:Shared) (u:Value),BindsTo s fd ⟨[u],[]⟩ [(x,u)])
  (n6:∀H:Hp,OH Pt H→H Pt=some (.dZ #[])→aZ K H a (ns.map V.int)→sp [.ref a] H (fun v _=>v=.bl true) fun _ _ _=>False)
  (ZJ:∀H e s',CX [] H s₁ (fun _ _ _=>False) e s'→False) :
  codeAny (model P w) callerA (.call (.ref fa) ⟨[.ref a],[]⟩) (fun r s'=>r=.ok (.ret (.bool true))∧OldK s₁.heap s'.heap∧s'.os=s₁.os∧AllBare s'.gens) s₁:=by
 have rv:=Ms hi;have ZK:=hi.length;have aT:a≠Pt:=fun z=>by rw [z,hT] at ha;cases ha
 have core:∀H:Hp,OH Pt H→H Pt=some (.dZ #[])→aZ K H a (ns.map V.int)→cS P w H s₁.heap→(∀b,H b≠none→b=a∨b=Pt)→(H a≠none→K.lookup a=none)→
   codeAny (model P w) callerA (.call (.ref fa) ⟨[.ref a],[]⟩) (fun r s'=>r=.ok (.ret (.bool true))∧OldK s₁.heap s'.heap∧s'.os=s₁.os∧AllBare s'.gens) s₁:=by
  intro H hO hP hS ay hA hK;have Io:∀{b:Addr} {o:Obj},s₁.heap.get? b=some o→H b=none→(nS s₁.heap H).get? b=some o:=fun e n=>SD e n;have zY:∀{b:Addr} {o:Obj} {es:Array DictEntry} {ep:Nat},s₁.heap.get? b=some o→o.data=.dict es ep→H b=none:=fun{b o es ep} e d=>by
   cases q:H b with
   | none=>rfl
   | some u=>
    rcases hA b (by rw [q];simp) with e' | e'
    ·subst e'
     rw [ha] at e;cases e;have d':Data.seq vs.toArray _=Data.dict es ep:=d;cases d'
    ·subst e'
     rw [hT] at e;cases e;have d':Data.fields _=Data.dict es ep:=d;cases d'
  have DI:∀{b:Addr} {m:dh},s₁.heap.Ns b m→(nS s₁.heap H).Ns b m:=fun{b m} ⟨o,es,ep,e,d,r⟩=>⟨o,es,ep,Io e (zY e d),d,r⟩;have OI:K.In (nS s₁.heap H):=fun b o e=>Io (KX b o e) (by
   cases q:H b with
   | none=>rfl
   | some u=>
    rcases hA b (by rw [q];simp) with e' | e'
    ·subst e'
     rw [hK (by rw [q];simp)] at e;cases e
    ·subst e'
     rw [Il] at e;cases e)
  have hM:Mod K mg (nS s₁.heap H):=⟨OI,DI DH,⟨mb,DI hb,tN⟩,let ⟨mc,h1,h2⟩:=ZH;⟨mc,DI h1,h2⟩⟩
  have e0:CD P w K mg (nS s₁.heap H) callerA [] s₁ H:=⟨rfl,hM,fun b o e=>SE e,zA (SA _ _),trivial,fun b hb=>absurd (show b∈([]:List Addr) from hb) (by simp),ay,.of_eq hg⟩
  have ZL:lO (nS s₁.heap H) mg:=by
   obtain ⟨bm,o,b1,b2,b3,b4,b5,b6⟩:=ZI;refine ⟨bm,o,b1,b2,Io b3 ?_,b4,b5,b6⟩;cases q:H bm with
   | none=>rfl
   | some u=>
    rcases hA bm (by rw [q];simp) with e' | e'
    ·subst e'
     rw [ha] at b3;cases b3;cases b6
    ·subst e'
     rw [hT] at b3;cases b3;cases b6
  refine codeAny_mono ((F _ OI (DI DH) ZL).run callerA [] s₁ H ⟨[.ref a],[]⟩ [.ref a] [.ref a] _ _ hr e0 (uc s₁ (.ref a)) (.cons rfl .nil) (n6 H hO hP hS)) fun r s' h=>?_;cases r with
  | error e=>exact (ZJ H e s' h).elim
  | ok fl=>
   cases fl with
   | next=>exact False.elim h
   | brk=>exact False.elim h
   | cont=>exact False.elim h
   | ret u=>
    obtain ⟨v,H',os,bare,un,OJ,r',q⟩:=h;have q':v=.bl true:=q;subst q';obtain rfl:u=Value.bool true:=r';have tab:∃more:Array Value,s'.heap.get? Pt=some (OG (#[]++more)):=by obtain ⟨more,e⟩:=un.iH Pt _ hP;exact ⟨more,(show cj P w H' s'.heap Pt (.dZ (#[]++more)) from OJ Pt _ e)⟩
    refine ⟨rfl,⟨fun b o e=>?_,fun b o e=>?_⟩,os,bare⟩
    ·by_cases OK:b=Pt
     ·subst OK
      rw [hT] at e;cases e;obtain ⟨more,e⟩:=tab;exact .inr (.inl ⟨Im,rfl,#[],more,rfl,e⟩)
     ·refine .inl ?_
      cases q:H b with
      | none=>exact un.keep b o e q (by intro z;exact absurd (show b∈([]:List Addr) from z) (by simp)) (by simp)
      | some u=>
       rcases hO b with z | ⟨ob,xs,z⟩ | ⟨z,_⟩;·rw [q] at z;cases z
       ·have z2:=un.iG b ob _ z
        obtain ⟨e1,_⟩:=ay b _ z;obtain ⟨e2,_⟩:=OJ b _ z2;rw [e] at e1;cases e1;exact e2
       ·exact absurd z OK
    ·exact un.there b o e (by simp)
 have DJ:∀H:Hp,cj P w H s₁.heap Pt (.dZ #[]):=fun H=>hT;cases hk:K.lookup a with
 | some o=>
  have e:=KX a o hk;rw [ha] at e;cases e;refine core (fun b=>if b=Pt then some (.dZ #[]) else none) (fun b=>?_) (ae rfl) (.inr ⟨_,vs.toArray,_,hk,rfl,rfl,rfl,by rw [b9,ZK];exact hl,by simpa using rv⟩) (fun b u z=>?_) (fun b z=>?_) fun z=>absurd (aa aT) z
  ·by_cases h:b=Pt
   ·exact .inr (.inr ⟨h,ae h⟩)
   ·exact .inl (aa h)
  ·by_cases h:b=Pt
   ·have z':=(ae h).symm.trans z
    cases z';subst h;exact DJ _
   ·have z':=(aa h).symm.trans z
    cases z'
  ·by_cases h:b=Pt
   ·exact .inr h
   ·exact absurd (aa h) z
 | none=>
  refine core (fun b=>if b=a then some (.bg {cls:=.type "list",data:=.seq vs.toArray} (.lst (ns.map V.int))) else if b=Pt then some (.dZ #[]) else none) (fun b=>?_) ((aa (Ne.symm aT)).trans (ae rfl)) (.inl (.inr ⟨{cls:=.type "list",data:=.seq vs.toArray},ae rfl⟩)) (fun b u z=>?_) (fun b z=>?_) fun _=>hk
  ·by_cases hb:b=a
   ·exact .inr (.inl ⟨_,_,ae hb⟩)
   ·by_cases h:b=Pt
    ·exact .inr (.inr ⟨h,(aa hb).trans (ae h)⟩)
    ·exact .inl ((aa hb).trans (aa h))
  ·by_cases hb:b=a
   ·have z':=(ae hb).symm.trans z
    cases z';subst hb;exact ⟨ha,by rw [aD];exact hl,vs,_,rv,ha⟩
   ·have z1:=(aa hb).symm.trans z
    by_cases h:b=Pt
    ·have z':=(ae h).symm.trans z1
     cases z';subst h;exact DJ _
    ·have z':=(aa h).symm.trans z1
     cases z'
  ·by_cases hb:b=a
   ·exact .inl hb
   ·by_cases h:b=Pt
    ·exact .inr h
    ·exact absurd ((aa hb).trans (aa h)) z
open PySem PySem.Spec PyProof.Rows PySem.W
def tabIn(K:aF)(fd:FuncData)(P:Addr):Bool:=match fd.code with | .ref c=>PySem.W.codeHdIn K c P | _=>false
def A_(c:Addr)(q:Str):HO:=.ext fun h=>h.CodeRec (.ref c) q
def dJ(Pt:Addr)(pl:Pos)(q:Str)(H:Hp):Prop:=
 H Pt=some (.dZ #[])∨∃c,c≠Pt∧H Pt=some (.dZ #[rawInt pl.line,rawInt pl.col,.ref c])∧H c=some (A_ c q)
def eO(Pt:Addr)(H H':Hp):Prop:=∀b o,b≠Pt→H b=some o→H' b=some o
variable {H:Hp} {c:Addr} {q:Str}
theorem A_.ok{h:Heap}(x:h.CodeRec (.ref c) q):cj P w H h c (A_ c q):=by
 refine ⟨x,?_,fun h1 h2 y k=>?_⟩
 ·obtain ⟨c',o,vs,t,e,g,_⟩:=x
  cases e;exact ⟨o,g⟩
 ·obtain ⟨c',o,vs,t,e,g,r⟩:=y
  cases e;exact ⟨c,o,vs,t,rfl,k o g,r⟩
def lQ(x:Str)(p:Pos):Arguments:={posonlyargs:=[],args:=[{arg:=x,annotation:=none,pos:=p}],vararg:=none,kwonlyargs:=[],kw_defaults:=[],kwarg:=none,defaults:=[]}
def jm(x c:Str):Scope:={kind:=.function,names:=[(x,.local),(c,.free)],isGenerator:=false,isCoroutine:=false,more:=[]}
def lR(x c:Str)(p1 p2 p3:Pos):Expr:=.Subscript (.Name c p1) (.Name x p2) p3
variable {cc:Addr}
theorem ZM{c:Str}{env:Env}(h:env.cells.lookup c=some cc):closureFor (jm x c) env=pure [(c,cc)]:=by unfold closureFor jm cellOf;simp [h]
variable {s:Shared} {f c' cnt:Addr} {m:dh} {name cn:Str} {p p1:Pos} {pm g8:Value}
theorem ZN{prog:Program}{A:Around}{h₀:Heap}{L:Addr}{news:aV}{p2 p3:Pos}{items:Array Value}{k z:Int}{u t:Tok}
  (ZO:A.depth<recursionLimit) (F:Fr h₀ L s.heap m) (N:News h₀ L s.heap news)
  (hf:s.heap.get? f=some (kla_obj name q (lQ x p) (lR x cn p1 p2 p3) (jm x cn) [(cn,cc)] pm c' g8)) (fb:s.heap.CodeRec (.ref c') q)
  (mq:s.heap.IsCell cc (some (.ref cnt))) (hl:s.heap.IsList cnt items) (lim:s.heap.NoLimit) (h0:0≤k) (Gz:k<2 ^ 63) (hx:items[k.toNat]?=some (.int z t))
  (uc:bindArgs (kla_fn name q (lQ x p) (lR x cn p1 p2 p3) (jm x cn) [(cn,cc)] pm (.ref c') g8) ⟨[.int k u],[]⟩=pure [(x,.int k u)])
  (gB:(cn == x)=false) (Ba:(x == ("__debug__":Str))=false) (hd2:(cn == ("__debug__":Str))=false) (Bb:(cn == ("__classdict__":Str))=false) :
  wpAny (model prog w) A (call (.ref f) [.int k u]) (KskEnd h₀ L m news z s) (fun _ _=>False) s:=by
 refine wpAny_call (kla_callFunE ZO hf rfl rfl rfl rfl fb ?_);rw [uc];refine a8 (B2 ?_ ?_ (fun h₁ DH wJ=>?_) rfl)
 ·intro y hy
  rcases bw.mp hy with rfl | hy;·intro z;cases z
  ·rcases bw.mp hy with rfl | hy
   ·intro z;cases z
   ·cases hy
 ·intro y hy
  obtain rfl:y=(x,Value.int k u):=cy.mp hy;show List.lookup x [(x,NameKind.local),(cn,NameKind.free)]=_;simp [List.lookup]
 ·have Bc:∀b o,s.heap.get? b=some o→h₁.get? b=some o:=fun b o e=>wJ.extBut b o (bW (a9 e)) (bX _ e)
  refine ⟨lim.fresh _ wJ,kla_codeExpr ?_⟩;refine Subscript_ (wpAny_Name (wpAny_loadName_free (c:=cc) (v:=.ref cnt) rfl ?_ ?_ ?_ ?_ Bb) hd2)
  ·show List.lookup cn [(x,NameKind.local),(cn,NameKind.free)]=_
   simp [List.lookup,gB]
  ·show List.lookup cn [(cn,cc)]=_
   simp [List.lookup]
  ·obtain ⟨o,ho,hd⟩:=mq
   exact ⟨o,Bc _ _ ho,hd⟩
  ·refine wpAny_Name (wpAny_loadName_local (v:=.int k u) rfl ?_ DH ?_ ?_) Ba
   ·show List.lookup x [(x,NameKind.local),(cn,NameKind.free)]=_
    simp [List.lookup]
   ·show List.lookup x [(x,Value.int k u)]=_
    simp [List.lookup]
   ·refine item_listR (x:=.int z t) ?_ h0 Gz hx ?_
    ·obtain ⟨o,ho,r⟩:=hl
     exact ⟨o,Bc _ _ ho,r⟩
    ·exact ⟨h₁,_,t,rfl,rfl,⟨by obtain ⟨o,es,ep,ho,r⟩:=F.ns;exact ⟨o,es,ep,Bc _ _ ho,r⟩,fun b o e=>Bc b o (F.keep b o e),F.above⟩,fun p hp=>⟨Bc _ _ (N p hp).1,(N p hp).2⟩⟩
open PySem PySem.Spec PyProof.Rows PySem.W Att
variable {X:Cx} {pins:aV} {σ:St} {h':Heap}
theorem Inv.ZP{t':Nat}(I:Inv X pins σ H s)(hm:s.heap.Ns X.env.locals m)(ft:h'.Ns X.env.locals m)
  (k:∀b o,b≠X.env.locals→s.heap.get? b=some o→h'.get? b=some o):Inv X pins σ H {s with heap:=h',toks:=t'}:=by
 have nV:∀b u,H b=some u→b≠X.env.locals:=fun b u e z=>by rw [z,I.free] at e;cases e
 refine I.step (g':=s.gens) (d':=s.drawn) (ch:=[]) (fun _ z=>nomatch z) (fun b o n _ _ e _=>k b o n e) (fun b o n _ _ e _=>⟨o.slots,k b o n e⟩) (fun _ _ _ _ n=>n) (fun b o _ e=>?_) (fun _ _ e=>e) (fun _ _ _ e=>e) (fun b ps e=>⟨#[],by rw [e];simp⟩) (fun m2 rG=>?_) (fun b u e=>?_) I.bare
 ·by_cases n:b=X.env.locals
  ·obtain ⟨o',_,_,ho,_⟩:=ft
   exact ⟨o',by rw [n];exact ho⟩
  ·exact ⟨o,k b o n e⟩
 ·obtain ⟨o,es,ep,ho,hd,hs,r⟩:=hm
  obtain ⟨o2,es2,ep2,i_,hd2,nY,r2⟩:=rG;rw [ho] at i_;cases i_;rw [hd] at hd2;cases hd2;have:m2=m:=funext fun x=>(r2 x).symm.trans (r x);rw [this];exact ft
 ·refine (I.ay b u e).iF (fun c v hc q=>k c v ?_ q) (fun _ q=>q) fun _ _ q=>q
  rcases hc with z | z;·rw [z];exact nV b u e
  ·exact nV c _ z
theorem Inv.nV(I:Inv X pins σ H s){b:Addr}{o:Obj}(e:s.heap.get? b=some o)(hd:∀es ep,o.data≠.dict es ep):b≠X.env.locals:=fun z=>by obtain ⟨m,⟨o',es,ep,gQ,F0,_⟩,_⟩:=I.loc;rw [z,gQ] at e;cases e;exact hd es ep F0
def OL(xs:List Nat)(cs:List Int)(m:Nat):Prop:=m∈xs∧∀y∈xs,cs.getD y 0≤cs.getD m 0
variable {l:Addr}
theorem ZQ{p2 p3:Pos}{xs:List Nat}{cs:List Int}{Q:aO}
  (I:Inv X pins σ H s) (hr:eU 1 X.A)
  (hf:s.heap.get? f=some (kla_obj name q (lQ x p) (lR x cn p1 p2 p3) (jm x cn) [(cn,cc)] pm c' g8)) (fb:s.heap.CodeRec (.ref c') q)
  (mq:s.heap.IsCell cc (some (.ref cnt))) (hl:aZ X.K H l (xs.map fun(k:Nat)=>V.int (k:Int))) (gB:xs≠[]) (hc:aZ X.K H cnt (cs.map V.int)) (Ip:∀y∈xs,y<cs.length)
  (uc:∀(k:Int) (u:Tok),bindArgs (kla_fn name q (lQ x p) (lR x cn p1 p2 p3) (jm x cn) [(cn,cc)] pm (.ref c') g8) ⟨[.int k u],[]⟩=pure [(x,.int k u)])
  (Iq:(cn == x)=false) (Ba:(x == ("__debug__":Str))=false) (hd2:(cn == ("__debug__":Str))=false) (Bb:(cn == ("__classdict__":Str))=false)
  (hQ:∀(k:Nat) (t:Tok) (s':Shared),OL xs cs k→Inv X pins σ H s'→Q (.int k t) s') :
  wpAny (model X.prog X.w) X.A (call (.builtin "max") [.ref l] [(Str.ofString "key",.ref f)]) Q X.xe s:=by
 obtain ⟨m,hm,_⟩:=id I.loc;obtain ⟨its,rv,pl,hz⟩:=I.list hl;obtain ⟨ZR,rc,pc,OM⟩:=I.list hc;have Bd:its.length=xs.length:=by have:=rv.length;rw [aD] at this;exact this.symm
 have ahZ:ZR.length=cs.length:=by have:=rc.length;rw [aD] at this;exact this.symm
 have fL:f≠X.env.locals:=I.nV hf fun _ _ z=>by cases z
 have at':∀{h:Heap} {own:aV},News (tE s.heap) X.env.locals h (([]++(f,kla_obj name q (lQ x p) (lR x cn p1 p2 p3) (jm x cn) [(cn,cc)] pm c' g8)::ledger s.heap X.env.locals f)++own)→
   ∀b o,b≠X.env.locals→s.heap.get? b=some o→h.get? b=some o:=fun{h own} N b o n e=>by
  by_cases hb:b=f
  ·subst hb
   rw [hf] at e;cases e;exact (N _ (nF _ (cG))).1
  ·exact (N (b,o) (nF _ (cx _ (Mr.mpr ⟨n,hb,e⟩)))).1
 have ON:∀{h:Heap},News (tE s.heap) X.env.locals h ([]++(f,kla_obj name q (lQ x p) (lR x cn p1 p2 p3) (jm x cn) [(cn,cc)] pm c' g8)::ledger s.heap X.env.locals f)→
   ∀b o,b≠X.env.locals→s.heap.get? b=some o→h.get? b=some o:=fun{h} N=>at' (own:=[]) (by rw [oP];exact N)
 have listAt:∀{h:Heap} {a:Addr} {vs:Array Value},(∀b o,b≠X.env.locals→s.heap.get? b=some o→h.get? b=some o)→PlainL s.heap a vs→h.IsList a vs:=fun{h a vs} k pl=>by obtain ⟨o,n,e,c,d,dd⟩:=pl;exact PlainL.isList ⟨o,n,k a o (I.nV e fun _ _ z=>by rw [dd] at z;cases z) e,c,d,dd⟩
 have kn:∀i,i<xs.length→∃t,its[i]?=some (.int ((xs.getD i 0:Nat):Int) t):=fun i hi=>by
  have e:(xs.map fun(k:Nat)=>V.int (k:Int))[i]?=some (.int ((xs.getD i 0:Nat):Int)):=by rw [bo,bP hi,cg,bP hi];rfl
  obtain ⟨u,eu,ru⟩:=rv.get e;obtain ⟨t,rfl⟩:=ru;exact ⟨t,eu⟩
 have OO:∀i,i<xs.length→xs.getD i 0∈xs:=fun i hi=>by rw [cg,bP hi];exact cB hi
 refine kmk_max (h₀:=tE s.heap) (L:=X.env.locals) (m:=m) (vs:=its) (fun i=>cs.getD (xs.getD i 0) 0) hr.hd (UW hm) (UU fL hf) (fun h F N=>listAt (ON N) pl) (by rw [Bd];exact List.length_pos_iff.mpr gB) (fun i v hv h tk own F N=>?_) fun i v h' eh hv hb F N=>?_
 ·have hi:i<xs.length:=by rw [←Bd];exact (bJ.mp hv).1
  obtain ⟨t,et⟩:=kn i hi;rw [et] at hv;cases hv;have bh:=Ip _ (OO i hi);have ec:(cs.map V.int)[xs.getD i 0]?=some (.int (cs.getD (xs.getD i 0) 0)):=by rw [bo,bP bh,cg (l:=cs),bP bh];rfl
  obtain ⟨u,eu,ru⟩:=rc.get ec;obtain ⟨t2,rfl⟩:=ru;have k:=at' N;refine ZN (A:=X.A.in1) (by have:=hr.dp;show X.A.depth<_;lia) F N (k _ _ fL hf) ?_ ?_ (listAt k pc) ?_ (Int.natCast_nonneg _) ?_ (by simpa using eu) (uc _ _) Iq Ba hd2 Bb
  ·obtain ⟨c2,o,vs,tt,e,g,dd,r⟩:=fb
   exact ⟨c2,o,vs,tt,e,k _ _ (I.nV g fun _ _ z=>by rw [dd] at z;cases z) g,dd,r⟩
  ·obtain ⟨o,ho,hd⟩:=mq
   exact ⟨o,k _ _ (I.nV ho fun _ _ z=>by rw [hd] at z;cases z) ho,hd⟩
  ·exact I.ok.mod.nolimit.keeps fun b o e=>k b o (fun z=>by have:=a9 e;have h1:=I.ok.j_;have h2:=I.ok.above;rw [z] at this;exact absurd (d7 this (b8 h1 h2)) (eW _)) (I.bk b o e)
  ·have h1:cs.length≤sizeLine:=by rw [aD] at OM;exact OM
   have h2:=wj;lia
 ·have hi:i<xs.length:=by rw [←Bd];exact (bJ.mp hv).1
  obtain ⟨t,et⟩:=kn i hi;rw [et] at hv;cases hv;refine hQ (xs.getD i 0) t _ ⟨OO i hi,fun y hy=>?_⟩ (I.ZP hm F.ns (ON N));obtain ⟨j,hj,ej⟩:=nH hy;have DD:=(hb j (by rw [Bd];exact hj)).1
  have e2:xs.getD j 0=y:=by rw [←ej,cg,bP hj];rfl
  simp only [e2] at DD;exact DD
variable {ps:Array Value}
theorem Inv.OP(I:Inv X pins σ H s)(hB:lO X.base X.mg)(hP:H Pt=some (.dZ ps)):s.heap.BuiltinsAt X.mg Pt∧mainGlobals≠Pt:=by
 obtain ⟨bm,o,e1,e2,e3,e4,e5,e6⟩:=hB;refine ⟨⟨bm,o,e1,e2,fun z=>?_,fun z=>?_,I.bk _ _ e3,e4,e5,e6⟩,fun z=>?_⟩
 ·obtain ⟨o',es,ep,ho,hd,_⟩:=I.ok.mod.glob
  rw [z,ho] at e3;cases e3;rw [hd] at e6;cases e6
 ·have:=(I.bs _ _ e3).2
  rw [z,hP] at this;cases this
 ·obtain ⟨o',es,ep,ho,hd,_⟩:=I.ok.mod.glob
  have:=(I.bs _ _ ho).2;rw [z,hP] at this;cases this
variable {pl:Pos}
theorem Inv.grown{fo:Obj}{tk:Nat}(I:Inv X pins σ H s)(hP:H Pt=some (.dZ #[]))(hx:Heap.ExtBut Pt s.heap h')(ud:s.heap.objs.size≤c')(xf:h'.CodeRec (.ref c') q)
  (Ir:h'.get? Pt=some (tabObj #[rawInt pl.line,rawInt pl.col,.ref c'])) :
  ∃H',eO Pt H H'∧dJ Pt pl q H'∧Inv X pins σ H' {s with heap:=h'.push fo,toks:=tk}:=by
 have cP:c'≠Pt:=fun z=>by have e:s.heap.get? Pt=some (tabObj #[]):=I.ay Pt _ hP;have:=a9 e;rw [←z] at this;exact absurd (d7 this ud) (eW _)
 have cN:H c'=none:=I.ay.fresh ud;have kp:∀b o,b≠Pt→s.heap.get? b=some o→(h'.push fo).get? b=some o:=fun b o n e=>bX _ (hx b o n e);have ZS:(h'.push fo).CodeRec (.ref c') q:=xf.push _;have OQ:(h'.push fo).get? Pt=some (tabObj #[rawInt pl.line,rawInt pl.col,.ref c']):=bX _ Ir;refine ⟨upd (upd H Pt (.dZ #[rawInt pl.line,rawInt pl.col,.ref c'])) c' (A_ c' q),fun b o n e=>?_,.inr ⟨c',cP,by rw [aH (Ne.symm cP),ax],ax⟩,I.un ⟨fun b o e n _ _=>?_,fun b o e n hb _=>?_,fun b o e n _=>?_,fun b o e _=>?_,fun b xs e=>?_,fun b o u e=>?_,fun b ps e=>?_⟩ fun b u e=>?_⟩
 ·rw [aH (gv e cN),aH n];exact e
 ·exact kp b o (fun z=>by rw [z,hP] at n;cases n) e
 ·exact ⟨o.slots,kp b o (fun z=>by rw [z,hP] at n;cases n) e⟩
 ·rw [aH (bW (d7 (a9 e) ud)),aH (fun z=>by rw [z,hP] at n;cases n)];exact n
 ·by_cases n:b=Pt
  ·exact ⟨_,by rw [n];exact OQ⟩
  ·exact ⟨o,kp b o n e⟩
 ·rw [aH (gv e cN),aH (fun z=>by rw [z,hP] at e;cases e)];exact e
 ·rw [aH (gv e cN),aH (fun z=>by rw [z,hP] at e;cases e)];exact e
 ·by_cases n:b=Pt
  ·subst n
   rw [hP] at e;cases e;exact ⟨#[rawInt pl.line,rawInt pl.col,.ref c'],by rw [aH (Ne.symm cP),ax];simp⟩
  ·exact ⟨#[],by rw [aH (gv e cN),aH n,e];simp⟩
 ·by_cases hc:b=c'
  ·subst hc
   rw [ax] at e;cases e;exact A_.ok ZS
  ·rw [aH hc] at e
   by_cases n:b=Pt
   ·subst n
    rw [ax] at e;cases e;exact OQ
   ·rw [aH n] at e
    refine (I.ay b u e).iF (fun d v hd g=>kp d v ?_ g) (fun d g=>?_) fun d xs g=>?_
    ·rcases hd with z | z
     ·rw [z];exact n
     ·intro y;rw [y,hP] at z;cases z
    ·rw [aH (gv g cN),aH (fun z=>by rw [z,hP] at g;cases g)];exact g
    ·rw [aH (gv g cN),aH (fun z=>by rw [z,hP] at g;cases g)];exact g
def ZT(K:aF)(t:TA)(i:Nat)(Pt:Addr)(pl:Pos)(q:Str):TE:=fun σ H Q=>t σ H fun vs H1=>
 ∃(l cnt:Addr) (xs:List Nat) (cs:List Int),vs=[.ref l]∧aZ K H1 l (xs.map fun(k:Nat)=>V.int (k:Int))∧xs≠[]∧σ[i]?=some (some (.ref cnt))∧aZ K H1 cnt (cs.map V.int)∧(∀y∈xs,y<cs.length) ∧
  dJ Pt pl q H1∧∀(k:Nat) (H2:Hp),OL xs cs k→eO Pt H1 H2→dJ Pt pl q H2→Q (.int k) H2
theorem aZ.st{H':Hp}{xs:List V}(h:aZ K H l xs)(hP:H Pt=some (.dZ ps))(s:eO Pt H H'):aZ K H' l xs:=by
 have ne:∀o,H l=some o→(∀ZU,o≠.dZ ZU)→l≠Pt:=fun o e n z=>by rw [z,hP] at e;exact n ps (Option.some.inj e).symm
 rcases h with (h | ⟨o,h⟩) | h;·exact .inl (.inl (s _ _ (ne _ h fun _ z=>by cases z) h))
 ·exact .inl (.inr ⟨o,s _ _ (ne _ h fun _ z=>by cases z) h⟩)
 ·exact .inr h
theorem ZV{e:Expr}{t:TA}{i:Nat}{pos kp pa p2 p3:Pos}(ha:PA X [e] t)(hg:Gl X (Str.ofString "max"))(hm:X.mg (Str.ofString "max")=none)(hv:bootBuiltins (Str.ofString "max")=some (.builtin "max"))
  (hr:eU 1 X.A) (hB:lO X.base X.mg) (OR:X.env.code=.ref c) (hC:codeHdIn X.K c Pt=true) (hN:X.N[i]?=some cn) (Iu:X.env.kindOf cn=some .cell)
  (uc:∀(cc c':Addr) (q:Str) (pm g8:Value) (k:Int) (u:Tok),bindArgs (kla_fn "<lambda>" q (lQ x pa) (lR x cn p1 p2 p3) (jm x cn) [(cn,cc)] pm (.ref c') g8) ⟨[.int k u],[]⟩=pure [(x,.int k u)])
  (Iq:(cn == x)=false) (Ba:(x == ("__debug__":Str))=false) (hd2:(cn == ("__debug__":Str))=false) (Bb:(cn == ("__classdict__":Str))=false)
  (he:backTo pos (starEach [e] X.env)=(false,eval e X.env)::backTo pos (starEach [] X.env):=by rfl) (jD:(backTo pos (starEach [e] X.env)).any (·.1)=false:=by rfl) :
  PE X (.Call (.Name (Str.ofString "max") p) [e] [⟨some (Str.ofString "key"),.Lambda (lQ x pa) (lR x cn p1 p2 p3) (jm x cn) pl,kp⟩] pos) (ZT X.K t i Pt pl (X.env.qual ++ "<lambda>")):=by
 intro pins s σ H Q I h
 refine vE (kd I hg hm hv ?_)
 refine callWith_kw (aK (ha pos pins s σ H _ I h) fun us s1 ⟨xs,H1,I1,r1,q1⟩=>?_) he jD
 obtain ⟨l,cnt,xs,cs,rfl,hl,gB,hσ,hc,Ip,hT,k⟩:=q1
 obtain ⟨u,rfl,ru⟩:=vals1 r1
 cases ru
 show wpAny _ _ (evalAll [(do let v ←eval (.Lambda (lQ x pa) (lR x cn p1 p2 p3) (jm x cn) pl) X.env;standAt pos;pure v)]) _ _ s1
 obtain ⟨cc,zN⟩:=I1.ok.has cn (.inl Iu)
 have mq:s1.heap.IsCell cc (some (.ref cnt)):=by
  obtain ⟨m,_,hl⟩:=I1.loc
  obtain ⟨u,ru,lk⟩:=hl i cn _ hN hσ (.inr (.inl Iu))
  cases ru
  rcases lk with ⟨z,_⟩ | ⟨_,c2,z,g⟩
  ·rw [Iu] at z;cases z
  ·rw [zN] at z;cases z;exact g
 have OS:closureFor (jm x cn) X.env=pure [(cn,cc)]:=ZM zN
 have OT:s1.heap.Ns mainGlobals X.mg:=I1.mod.glob.keeps I1.bk
 have OU:CodeHd s1.heap c Pt:=codeHd_of_K I1.fV hC
 refine Cc (au (kla_eval rfl ?_))
 have fin:∀(f c':Addr) (pm g8:Value) (s2:Shared) (H2:Hp),eO Pt H1 H2→dJ Pt pl (X.env.qual ++ "<lambda>") H2→Inv X pins σ H2 s2→s2.heap.IsCell cc (some (.ref cnt))→(∃ps,H1 Pt=some (.dZ ps))→
   s2.heap.get? f=some (kla_obj "<lambda>" (X.env.qual ++ "<lambda>") (lQ x pa) (lR x cn p1 p2 p3) (jm x cn) [(cn,cc)] pm c' g8)→s2.heap.CodeRec (.ref c') (X.env.qual ++ "<lambda>")→
   wpAny (model X.prog X.w) X.A (call (.builtin "max") [.ref l] [(Str.ofString "key",.ref f)]) (EP X pins σ Q) X.xe s2:=fun f c' pm g8 s2 H2 sm st I2 ZW xg hf fb=>by
  obtain ⟨ps,xg⟩:=xg
  exact ZQ I2 hr hf fb ZW (hl.st xg sm) gB (hc.st xg sm) Ip (fun k u=>uc _ _ _ _ _ k u) Iq Ba hd2 Bb fun k' t s' mk I3=>⟨.int k',H2,I3,⟨_,rfl⟩,k k' H2 mk sm st⟩
 have ZX:∀{b:Addr} {o:Obj} {v:Option Value},s1.heap.get? b=some o→o.data=.cell v→∀ps,H1 Pt=some (.dZ ps)→b≠Pt:=fun{b o v} g d ps hP z=>by
  have:s1.heap.get? Pt=some (tabObj ps):=I1.ay Pt _ hP
  rw [z,this] at g;cases g;cases d
 rcases hT with hP | ⟨c',cP,hP,OV⟩
 ·obtain ⟨hb,OW⟩:=I1.OP hB hP
  refine kla_makeFunction (ps:=#[]) (mg:=X.mg) OS I1.ok.glob OT OR OU (I1.ay Pt _ hP) trivial rfl OW hb fun c' g8 h' tk hx ud bh xf Ir=>?_
  refine au (qo (a8 (Cd ?_)))
  obtain ⟨H2,sm,st,I2⟩:=I1.grown (fo:=kla_obj "<lambda>" (X.env.qual ++ "<lambda>") (lQ x pa) (lR x cn p1 p2 p3) (jm x cn) [(cn,cc)] ((X.mg "__name__").getD .none) c' g8) (tk:=tk) hP hx ud xf Ir
  refine fin h'.objs.size c' _ g8 _ H2 sm st I2 ?_ ⟨_,hP⟩ (dE _ rfl) (xf.push _)
  obtain ⟨o,ho,hd⟩:=mq
  exact ⟨o,bX _ (hx cc o (ZX ho hd _ hP) ho),hd⟩
 ·obtain ⟨hb,OW⟩:=I1.OP hB hP
  refine kla_makeFunctionHit (cv:=.ref c') (ps:=#[rawInt pl.line,rawInt pl.col,.ref c']) (mg:=X.mg) OS I1.ok.glob OT OR OU (I1.ay Pt _ hP) trivial ?_ hb fun g8 h' tk hk hsz=>?_
  ·show codeAmong pl [rawInt pl.line,rawInt pl.col,.ref c']=_
   simp [codeAmong,rawInt]
  refine au (qo (a8 (Cd ?_)))
  have kp:∀b o,s1.heap.get? b=some o→(h'.push {cls:=.type "function",data:=.func (kla_fn "<lambda>" (X.env.qual ++ "<lambda>") (lQ x pa) (lR x cn p1 p2 p3) (jm x cn) [(cn,cc)] ((X.mg "__name__").getD .none) (.ref c') g8)}).get? b=some o:=fun b o e=>bX _ (hk b o e)
  have xf:s1.heap.CodeRec (.ref c') (X.env.qual ++ "<lambda>"):=(I1.ay c' _ OV).1
  refine fin h'.objs.size c' _ g8 _ H1 (fun _ _ _ e=>e) (.inr ⟨c',cP,hP,OV⟩) (I1.kept (t':=tk) kp) ?_ ⟨_,hP⟩ (dE _ rfl) (xf.keeps kp)
  obtain ⟨o,ho,hd⟩:=mq
  exact ⟨o,kp _ _ ho,hd⟩
section
variable {prog:Program} {w:World} {A:Around} {E:aO} {s:Shared}
theorem ZY:typeLookup (.type "list_reverseiterator") "__len__"=pure none:=by rw [typeLookup_type,builtinLookup_eq_fast];kernel_rfl
theorem ZZ:typeLookup (.type "list_reverseiterator") "__length_hint__"=pure (some (.builtin "list_reverseiterator.__length_hint__")):=by rw [typeLookup_type,builtinLookup_eq_fast];kernel_rfl
theorem Z0{r:Addr}{Q:Bool→Shared→Prop}(hT:s.TypeIs (.ref r) "list_reverseiterator")(h:Q false s):wpAny (model prog w) A (Builtin.List.listLengthHint (.ref r)) Q E s:=by
 unfold Builtin.List.listLengthHint;refine au (wpAny_specialOf hT ZY ?_);refine vX (fun mY=>absurd mY (by decide)) (fun _=>?_)
 refine vX (fun mY=>absurd mY (by decide)) (fun _=>?_)
 refine au (wpAny_specialOf hT ZZ ?_);generalize OX:("list_reverseiterator.__length_hint__":String)=Z1
 wp_delta
 rw [show splitId Z1=some ("list_reverseiterator","__length_hint__") from by subst OX;decide +kernel]
 subst OX;refine au (wpAny_isInstance (T:="list_reverseiterator") (b:=true) hT (by rw [isSubtype_type];kernel_rfl) ?_)
 refine vX (fun mY=>absurd mY (by decide)) (fun _=>?_)
 refine vX (fun _=>?_) (fun mY=>absurd (by decide +kernel) mY)
 refine vX (fun mY=>absurd mY (by decide +kernel)) (fun _=>?_)
 exact a8 h
def DK(its acc:Array Value):Prop:=acc.toList=its.toList.reverse
variable {its:Array Value}
theorem Z2{acc:Array Value}(h:ItemsOf (fun i v=>its[its.size-1-i]?=some v) acc its.size):DK its acc:=by
 refine ze fun i=>?_;have ha:=h.1;by_cases hi:i<acc.size
 ·have e1:=h.2 i _ (zw hi)
  rw [vH,zw hi,List.getElem?_reverse (by simpa using (by lia:i<its.size)),fh,vH,e1]
 ·rw [vH,Array.getElem?_eq_none (by lia),B6 (by rw [List.length_reverse,fh];lia)]
variable {R:Result→Shared→Prop} {it:Addr}
theorem Z3(hh:A.handled=none)(hit:s.heap.IsRevIter it l ((its.size:Int)-1))(hl:s.heap.IsList l its)(gB:l≠it)(hlen:its.size≤2 ^ 24)(S:Addr)(res:Value)(c₀:Nat)
  (hS:s.heap.get? S=some {cls:=.type "list",data:=.seq #[] c₀}) (xh:S≠l)
  (hR:∀h' tk jU c',(∀b o,b≠S→b≠it→s.heap.get? b=some o→h'.get? b=some o)→h'.get? S=some {cls:=.type "list",dict:=none,data:=.seq jU c',slots:=#[]}→DK its jU→R (.ok (.ret res)) {s with heap:=h',toks:=tk}) :
  wpAny (model prog w) A.in1 (Builtin.List.listExtendWith (.ref S) (.ref it) res)
   (fun fin s'=>match fin with | .done f=>R (.ok f) s' | .again c'=>c'.quiet=true∧codeAny (model prog w) A c' R s') (fun e s'=>R (.error e) s') s:=by
 have hT:=hit.typeIs;have DL:S≠it:=fun e=>by obtain ⟨o,ho,hc,xi⟩:=hit;rw [e,ho] at hS;cases hS;cases xi
 have Z4:S∉[it,l]:=fun Z5=>by
  rcases bw.mp Z5 with e | e;·exact DL e
  ·exact xh (cy.mp e)
 have W:=(Walks.listRev (prog:=prog) (w:=w) (A:=A.in1) hh it l gB its).toS
 have key:∀(h:Heap) (c₁ tk:Nat),h.IsRevIter it l ((its.size:Int)-1-((0:Nat):Int))∧h.IsList l its→(∀b o,b≠S→s.heap.get? b=some o→h.get? b=some o)→
   h.get? S=some {cls:=.type "list",data:=.seq #[] c₁}→codeAny (model prog w) A (.builtin "list.extend.loop" ⟨[.ref S,.ref it,res],[]⟩) R {s with heap:=h,toks:=tk}:=by
  intro h c₁ tk hit hk Z6;refine codeAny_extend_loopS W (by rw [iZ];lia) S Z4 res its.size 0 _ #[] c₁ rfl (cf _) ⟨cf _,hit⟩ Z6 (ItemsOf.nil _) fun s' jU c' OY iX ue=>?_
  rw [Moved.eq_with OY];refine hR s'.heap s'.toks jU c' (fun b o hb p_ e=>OY.heap b o (fun Iv=>?_) (hk b o hb e)) iX (Z2 ue);rcases bw.mp Iv with e' | Iv;·exact hb e'
  ·exact p_ (cy.mp Iv)
 have Z7:s.heap.IsRevIter it l ((its.size:Int)-1-((0:Nat):Int)):=by
  have e:(its.size:Int)-1-((0:Nat):Int)=(its.size:Int)-1:=by lia
  rw [e];exact hit
 unfold Builtin.List.listExtendWith;refine au (wpAny_typeOf (T:="list_reverseiterator") hT ?_);simp only [show Builtin.List.listSameRef (.ref S) (.ref it)=false from by simp [Builtin.List.listSameRef,DL],show (Value.type "list_reverseiterator" == Value.type "list")=false from by decide,show (Value.type "list_reverseiterator" == Value.type "tuple")=false from by decide,Bool.or_false,zl,oR]
 refine au (wpAny_pyIter_revIter hit ?_);refine au (kM (Z0 hT ?_));refine vX (fun mY=>absurd mY (by decide)) (fun _=>a8 ⟨zD F.plain_extend_loop _,key _ c₀ _ ⟨Z7,hl⟩ (fun b o _ e=>e) hS⟩)
theorem Z8(hh:A.handled=none)(hit:s.heap.IsRevIter it l ((its.size:Int)-1))(hl:s.heap.IsList l its)(gB:l≠it)(hlen:its.size≤2 ^ 24)(S:Addr)
  (hS:s.heap.get? S=some {cls:=.type "list",data:=.seq #[]}) (xh:S≠l)
  (hR:∀h' tk jU c',(∀b o,b≠S→b≠it→s.heap.get? b=some o→h'.get? b=some o)→h'.get? S=some {cls:=.type "list",dict:=none,data:=.seq jU c',slots:=#[]}→DK its jU→R (.ok (.ret .none)) {s with heap:=h',toks:=tk}) :
  wpAny (model prog w) A.in1 (Builtin.«list.__init__» ⟨[.ref S,.ref it],[]⟩)
   (fun fin s'=>match fin with | .done f=>R (.ok f) s' | .again c'=>c'.quiet=true∧codeAny (model prog w) A c' R s') (fun e s'=>R (.error e) s') s:=by
 have DL:S≠it:=fun e=>by
  obtain ⟨o,ho,hc,xi⟩:=hit
  rw [e,ho] at hS
  cases hS
  cases xi
 show wpAny _ _ (do let old ←Builtin.List.listItems (.ref S);Builtin.List.listUpdate (.ref S) (fun _=>#[]);letGo old.toList.reverse;Builtin.List.listExtendWith (.ref S) (.ref it) .none) _ _ s
 refine au ?_
 unfold Builtin.List.listItems
 refine au (zB hS rfl (a8 ?_))
 show wpAny _ _ (updateSeq S (fun _=>#[]) >>= fun _=>letGo (#[]:Array Value).toList.reverse >>= fun _=>Builtin.List.listExtendWith (.ref S) (.ref it) .none) _ _ s
 refine au (Cg hS rfl ?_)
 have Z9:=Heap.get?_update_self (Obj.mapSeq (fun _=>(#[]:Array Value))) hS rfl
 have w_:∀b o,b≠S→s.heap.get? b=some o→(s.heap.update S (Obj.mapSeq (fun _=>(#[]:Array Value)))).get? b=some o:=fun b o hb e=>(FH _ _ (Ne.symm hb)).trans e
 refine au (sM ?_)
 exact Z3 (s:={s with heap:=s.heap.update S (Obj.mapSeq (fun _=>(#[]:Array Value)))}) hh (hit.at fun o e=>w_ it o (Ne.symm DL) e) (hl.at fun o e=>w_ l o (Ne.symm xh) e) gB hlen S .none _ Z9 xh fun h' tk jU c' hk iX ue=>hR h' tk jU c' (fun b o hb p_ e=>hk b o hb p_ (w_ b o hb e)) iX ue
theorem Z_{Q:aO}(hh:A.handled=none)(hit:s.heap.IsRevIter it l ((its.size:Int)-1))(hl:s.heap.IsList l its)(gB:l≠it)(hlen:its.size≤2 ^ 24)
  (hQ:∀h' tk jU c',(∀b o,b≠it→s.heap.get? b=some o→h'.get? b=some o)→h'.get? s.heap.objs.size=some {cls:=.type "list",dict:=none,data:=.seq jU c',slots:=#[]}→DK its jU→Q (.ref s.heap.objs.size) {s with heap:=h',toks:=tk}) :
  wpAny (model prog w) A (call (.type "list") [.ref it]) Q E s:=by
 refine callType_codes (Q₁:=fun obj s₁=>obj=.ref s.heap.objs.size∧s₁={s with heap:=s.heap.push {cls:=.type "list",data:=.seq #[]}}) F.called_list (F.typeCall_list_1 _) F.entry_list_init (code_list_new _ ⟨rfl,rfl⟩) fun obj s₁ h₁=>?_;obtain ⟨rfl,rfl⟩:=h₁;have hS:(s.heap.push {cls:=.type "list",data:=.seq #[]}).get? s.heap.objs.size=some {cls:=.type "list",data:=.seq #[]}:=dE _ rfl;have xh:s.heap.objs.size≠l:=fun e=>by obtain ⟨o,ho,_⟩:=hl;exact eW _ (e▸a9 ho)
 refine ⟨⟨_,hS,rfl⟩,F.args_list_init_2 _ _,Z8 (s:={s with heap:=s.heap.push {cls:=.type "list",data:=.seq #[]}}) (A:=A.in1) hh (hit.at fun o e=>bX _ e) (hl.at fun o e=>bX _ e) gB hlen _ hS xh fun h' tk jU c' hk iX ue=>?_⟩;exact ⟨rfl,hQ h' tk jU c' (fun b o hb e=>hk b o (bW (a9 e)) hb (bX _ e)) iX ue⟩
end
section
variable {X:Cx}
def aaa(K:aF)(ta:TA):TE:=fun σ H Q=>ta σ H fun vs H1=>∃(l:Addr) (xs:List V),vs=[.ref l]∧aZ K H1 l xs∧xs.length≤10000∧∀D,H1 D=none→Q (.ref D) (upd H1 D (.lst xs.reverse))
theorem aab{a:Expr}{ta:TA}{pos p2 DM:Pos}(hc:X.calm=true)(hg:Gl X "list")(hm:X.mg "list"=none)(Ib:Gl X "reversed")(rG:X.mg "reversed"=none)(ha:PA X [a] ta)(hs:starEach [a] X.env=[(false,eval a X.env)]:=by rfl)
  (nY:starEach [.Call (.Name "reversed" p2) [a] [] DM] X.env=[(false,eval (.Call (.Name "reversed" p2) [a] [] DM) X.env)]:=by rfl):PE X (.Call (.Name "list" p) [.Call (.Name "reversed" p2) [a] [] DM] [] pos) (aaa X.K ta):=by
 intro pins s σ H Q I h;refine PyProof.Rows.Call_Name1 (kd I hg hm boot_list (callWith_type1 ?_)) nY;refine Call_ (kd I Ib rG boot_reversed (vD (aK (ha DM pins s σ H _ I h) fun us s1 ⟨vs,H1,I1,r1,q1⟩=>?_) hs rfl));obtain ⟨l,xs,e,hq,hx,q⟩:=q1;subst e;cases r1 with
 | cons r rr=>
  cases rr;cases r;obtain ⟨its,rv,pl,hz⟩:=I1.list hq;have Bd:=rv.length;obtain ⟨o,n,go,c1,c2,c3⟩:=id pl;refine call_reversed_list pl.isList ?_;refine Z_ (its:=its.toArray) (l:=l) (I1.ok.hd hc) ⟨_,dE _ rfl,rfl,rfl⟩ ?_ (bW (a9 go)) (by rw [b9];lia) fun h' tk acc c hk hD ue=>?_
  ·exact (show PlainL _ l _ from ⟨o,n,bX _ go,c1,c2,c3⟩).isList
  ·have I2:Inv X pins σ H1 {s1 with heap:=s1.heap.push (revObj l ((its.toArray.size:Int)-1))}:=I1.kept (t':=s1.toks) fun b o e=>bX _ e
   have kp:∀b o,s1.heap.get? b=some o→h'.get? b=some o:=fun b o e=>hk b o (bW (a9 e)) (bX _ e);have hsz:s1.heap.objs.size≤(s1.heap.push (revObj l ((its.toArray.size:Int)-1))).objs.size:=by rw [Heap.size_push];exact oS _
   refine ⟨.ref _,_,I1.laid (o:=.lst xs.reverse) kp hsz ⟨?_,acc.toList,c,?_,?_⟩,rfl,q _ (I1.ay.fresh hsz)⟩
   ·rw [List.length_reverse]
    exact b8 hx (by decide)
   ·have e:acc.toList=its.reverse:=by rw [ue]
    rw [e];exact rv.reverse
   ·rw [hD]
end
theorem iM.DJ{base:Heap}{qual:Str}{st:Stmt}{N ps:List Str}(F:iM K x qual st f fd)(OZ:tabIn K fd Pt=true)(S:ck N ps (bC st))(len:∀vs H Q E,sp vs H Q E→vs.length=ps.length)
  (mC:∀(c:Addr) (A:Around) (outer:List Env) (s:Shared) (H:Hp) (vs:List V) (Q:VK) (E:XK),codeHdIn K c Pt=true→eU k (A.deeper (envOfC qual (bC st) s.heap.objs.size f (.ref c)))→sp vs H Q E→
   ∃t,gx (kX cQ P w K mg base N qual (bC st) f (.ref c) A outer s H E).pb (oi st) t∧t {nx:=fun _ H'=>Q .aR H',rt:=Q} (start N vs) H):bL P w K mg base cQ (k+1) f fd ps sp:=by
 obtain ⟨oc,od,kV,doc,pm,an,cI,ct,mB,rfl,lk,fb⟩:=F.ex;cases cI with
 | ref c=>have h2:codeHdIn K c Pt=true:=OZ;refine Gp lk fb S len fun A outer s H vs Q E hr n6=>?_;obtain ⟨t,h,q⟩:=mC c A outer s H vs Q E h2 hr n6;exact ⟨t,h.pb,q⟩
 | _=>cases OZ
def DN(K:aF)(Pt:Addr):Sp:=fun vs H Q E=>H Pt=some (.dZ #[])∧My.Vo K vs H Q E
theorem aac{l:PySem.W.OpenLaw}{q:Program}{loose:List Str}{XP:(Str→Option Value)→Heap→Prop}{YP:World→Heap→Prop}{d:DefRec}{K:Params→PySem.W.Frag}(hn:l.most=some 63)(Ac:d.params.defaults=[])(hr:eU k callerA)
  (hY:∀(w:World) (h:Heap),YP w h→(K w.params).In h) (hP:∀(w:World) (h:Heap),YP w h→h.get? Pt=some (tabObj #[]))
  (F:∀(w:World) (mg:dh) (fa:Addr) (h:Heap),(K w.params).In h→h.Ns mainGlobals mg→mg d.name=some (.ref fa)→
   (K w.params).lookup Pt=none∧(∃xj,tabIn (K w.params) xj Pt=true)∧∃fd:FuncData,(∀(s:Shared) (u:Value),BindsTo s fd ⟨[u],[]⟩ [("script",u)])∧∀base:Heap,(K w.params).In base→base.Ns mainGlobals mg→lO base mg→bL l.prog w (K w.params) mg base cQ k fa fd ["script"] (DN (K w.params) Pt)) :
  PySem.W.WalkO q loose XP YP l.row.toRowW d [] (fun f vs=>PySem.call f vs):=by
 refine Att.UT hn Ac fun w s₀ s₁ mg mb fa o pm cd doc a vs ns G Y ho hd fb Ad GC hints hlen hg=>?_;have KX:=hY w _ Y;obtain ⟨Il,⟨xj,DO⟩,fd,hb,hF⟩:=F w mg fa _ KX G.T.g Ad;have hT:=hP w _ Y;have Im:isCodeTable s₁.heap Pt:=by
  unfold tabIn at DO
  split at DO
  ·exact ((codeHd_of_K KX DO).tab hT).isCodeTable
  ·cases DO
 obtain ⟨bm,ob,b1,b2,b3,b4,b5,b6⟩:=G.T.bmain;exact ZG KX G.T.g G.T.b G.T.builtins G.T.nolimit hg hT Il Im GC hints (b8 hlen (by decide)) hr ⟨bm,ob,b1,b2,b3,b4,b5,b6⟩ hF hb (fun H hO hP hS=>⟨hP,a,ns,rfl,hS,hlen,fun _=>rfl⟩) fun H e s' z=>z
end L2
namespace My
open PySem L2
abbrev jo:Str:=(Str.ofString "likely_order"++Str.ofString ".<locals>.")++Str.ofString "<lambda>"
def gg(L:ar)(P:List Nat)(a:Nat):Nat:=(P.filter (rL L a)).length
variable {P:List Nat}
theorem aad{L:ar}{a b:Nat}:gg L (P++[b]) a=gg L P a+if rL L a b=true then 1 else 0:=by
 unfold gg;rw [vS,dO]
 congr 1
 by_cases h:rL L a b=true;·rw [ae h,List.filter_cons_of_pos h];rfl
 ·rw [aa h,List.filter_cons_of_neg h];rfl
variable {n:Nat} {r:Nat→Nat→Bool}
theorem oB.nil:oB n r []:=fun A b B e=>by have:=dM List.length e;simp at this
theorem oB.snoc{p:Nat}(h:oB n r P)(hp:∀a,a<n→a∉P→(P.filter (r a)).length≤(P.filter (r p)).length):oB n r (P++[p]):=fun A b B e a an aA=>by
 rcases List.eq_nil_or_concat B with rfl | ⟨B',x,rfl⟩
 ·have e2:P++[p]=A++[b]:=e
  obtain ⟨rfl,e3⟩:=List.append_inj' e2 rfl;cases e3;exact hp a an aA
 ·have e2:P++[p]=(A++b::B')++[x]:=by rw [e];simp
  obtain ⟨e3,_⟩:=List.append_inj' e2 rfl;exact h A b B' e3 a an aA
theorem aae{α:Type}{j:Nat}{g:Nat→α}{v:α}:((List.range n).map g).set j v=(List.range n).map fun a=>if a=j then v else g a:=by
 refine ze fun i=>?_;rw [List.getElem?_set,aD,c_,bo,bo];by_cases hi:i<n
 ·rw [jy hi]
  by_cases e:j=i
  ·subst e
   simp [hi]
  ·rw [aa e]
   simp [Ne.symm e]
 ·rw [B6 (by rw [c_];lia)]
  by_cases e:j=i
  ·subst e
   simp [hi]
  ·rw [aa e]
   rfl
theorem getD_map{y:Nat}{g:Nat→Int}(h:y<n):((List.range n).map g).getD y 0=g y:=by rw [cg,bo,jy h];rfl
def aaf(Pt:Addr)(pl:Pos):Sp:=fun vs H Q _=>∃(tp:Addr) (n:Nat) (L:ar),vs=[.ref tp]∧cJ H tp n L∧dD n L∧n≤1000∧dJ Pt pl jo H ∧
 ∀(H':Hp) (D:Addr) (Pk:List Nat),eO Pt H H'→dJ Pt pl jo H'→H D=none→H' D=some (.lst (Pk.reverse.map fun k:Nat=>V.int (k:Int)))→Pk.Perm (List.range n)→oB n (rL L) Pk→Q (.ref D) H'
end My
namespace L2
open PySem
variable {Pt:Addr} {pl:Pos} {q:Str} {H H':Hp}
theorem dJ.mono(h:dJ Pt pl q H)(s:ak H H'):dJ Pt pl q H':=by
 rcases h with h | ⟨c,n,h1,h2⟩;·exact .inl (s _ _ h)
 ·exact .inr ⟨c,n,s _ _ h1,s _ _ h2⟩
theorem dJ.at(h:dJ Pt pl q H):∃ps,H Pt=some (.dZ ps):=by
 rcases h with h | ⟨c,n,h1,h2⟩;·exact ⟨_,h⟩
 ·exact ⟨_,h1⟩
theorem dJ.off{a:Addr}{u:HO}(h:dJ Pt pl q H)(ea:H a=some u)(n1:∀ps,u≠.dZ ps)(n2:∀φ,u≠.ext φ)(s:∀b o,b≠a→H b=some o→H' b=some o):dJ Pt pl q H':=by
 have nP:∀ps,H Pt=some (.dZ ps)→Pt≠a:=fun ps e z=>by rw [z,ea] at e;exact n1 ps (Option.some.inj e)
 rcases h with h | ⟨c,n,h1,h2⟩;·exact .inl (s _ _ (nP _ h) h)
 ·exact .inr ⟨c,n,s _ _ (nP _ h1) h1,s _ _ (fun z=>by rw [z,ea] at h2;exact n2 _ (Option.some.inj h2)) h2⟩
end L2
namespace My
open PySem L2
theorem Be{Pt t:Addr}{H H':Hp}{n:Nat}{L:ar}{ps:Array Value}(h:cJ H t n L)(hP:H Pt=some (.dZ ps))(s:eO Pt H H'):cJ H' t n L:=by
 have at':∀{b:Addr} {xs:List V},H b=some (.tup xs)→H' b=some (.tup xs):=fun{b xs} e=>s b _ (fun z=>by rw [z,hP] at e;cases e) e
 obtain ⟨lt,us,e1,e2,e3,e4⟩:=h;exact ⟨lt,us,at' e1,at' e2,e3,fun k x p h1 h2=>let ⟨b,q1,q2⟩:=e4 k x p h1 h2;⟨b,q1,at' q2⟩⟩
end My
namespace L2
open PySem My
variable {Pt P a:Addr} {pl:Pos} {q:Str} {H H':Hp}
theorem dJ.Iw(h:dJ Pt pl q H)(p:cV H P a)(s:aW P H H'):dJ Pt pl q H':=by
 obtain ⟨x,y,eP,_⟩:=p;have ne:∀{b:Addr} {o:HO},H b=some o→(∀xs,o≠.lst xs)→b≠P:=fun{b o} e n z=>by rw [z,eP] at e;exact n _ (Option.some.inj e).symm
 rcases h with h | ⟨c,n,h1,h2⟩;·exact .inl (s.at (ne h fun _ z=>by cases z) h)
 ·exact .inr ⟨c,n,s.at (ne h1 fun _ z=>by cases z) h1,s.at (ne h2 fun _ z=>by cases z) h2⟩
theorem dJ.neP(h:dJ Pt pl q H)(p:cV H P a):P≠Pt:=fun z=>by obtain ⟨x,y,eP,_⟩:=p;obtain ⟨ps,e⟩:=h.at;rw [z,e] at eP;cases eP
theorem eO.k_(s:eO Pt H H')(n:P≠Pt)(p:cV H P a):cV H' P a:=by obtain ⟨x,y,eP,r⟩:=p;exact ⟨x,y,s _ _ n eP,r⟩
theorem eO.er(s:eO Pt H H'):eO Pt (My.er P H) (My.er P H'):=fun b o n e=>by
 unfold My.er at e ⊢;by_cases z:b=P;·rw [ae z] at e;cases e
 ·rw [aa z] at e ⊢
  exact s b o n e
end L2
namespace My
open PySem L2
section
variable {E:Nat→Nat→Prop}
def rJ(E:Nat→Nat→Prop)(V:List Nat)(x c:Nat):Prop:=c∈V∧c≠x∧¬E x c
structure oC (E:Nat→Nat→Prop) (V:List Nat) (x y z:Nat):Prop where
 xV:x∈V
 yV:y∈V
 zV:z∈V
 xy:E x y
 xz:E x z
 ne:y≠z
 no:¬E y z
 wk:Wk E (rJ E V x) y z
def Simp(E:Nat→Nat→Prop)(V:List Nat)(s:Nat):Prop:=∀b c,b∈V→c∈V→b≠c→E s b→E s c→E b c
open Classical in
theorem Iy(sy:∀a b,E a b→E b a)(ir:∀a,¬E a a):∀(m:Nat) (V:List Nat),V.length≤m→(∀x y z,¬oC E V x y z)→∀x v,x∈V→v∈V→v≠x→¬E x v→∃s,rJ E V x s∧Simp E V s
 | 0,V,hm,_,x,_,hx,_,_,_=>by
  cases V with
  | nil=>cases hx
  | cons=>simp at hm
 | m+1,V,hm,nh,x,v,hx,hv,vx,nv=>by
  have tv:rJ E V x v:=⟨hv,vx,nv⟩
  let C:Nat→Prop:=fun c=>rJ E V x c∧(c=v∨Wk E (rJ E V x) v c)
  let S:Nat→Prop:=fun y=>y∈V∧E x y∧∃c,C c∧E c y
  have toV:∀y c,C c→E c y→Wk E (rJ E V x) y v:=fun y c hc e=>by
   rcases hc.2 with rfl | h;·exact .one (sy _ _ e)
   ·exact (Wk.one (sy _ _ e)).trans hc.1 (h.symm sy)
  have Sc:∀y z,S y→S z→y≠z→E y z:=fun y z hy hz ne=>by refine hJ fun no=>?_;obtain ⟨c,hc,ec⟩:=hy.2.2;obtain ⟨d,hd,ed⟩:=hz.2.2;exact nh x y z ⟨hx,hy.1,hz.1,hy.2.1,hz.2.1,ne,no,(toV y c hc ec).trans tv ((toV z d hd ed).symm sy)⟩
  have O0:∀t b,C t→b∈V→E t b→C b∨S b:=fun t b ht hb e=>by
   by_cases h:E x b;·exact .inr ⟨hb,h,t,ht,e⟩
   ·have bx:b≠x:=fun z=>ht.1.2.2 (by rw [←z];exact sy _ _ e)
    refine .inl ⟨⟨hb,bx,h⟩,.inr ?_⟩;rcases ht.2 with rfl | w;·exact .one e
    ·exact .more w ht.1 e
  have nCS:∀s,C s→¬S s:=fun s hc hs=>hc.1.2.2 hs.2.1
  let V':=V.filter fun c=>decide (C c∨S c)
  have jV:∀c,c∈V'↔c∈V∧(C c∨S c):=fun c=>by show c∈V.filter _↔_;rw [b_,eY]
  have CV:∀c,C c→c∈V':=fun c h=>(jV c).mpr ⟨h.1.1,.inl h⟩;have SV:∀c,S c→c∈V':=fun c h=>(jV c).mpr ⟨h.1,.inr h⟩;have xV':x∉V':=fun h=>by
   rcases ((jV x).mp h).2 with h | h;·exact h.1.2.1 rfl
   ·exact ir x h.2.1
  have lt:V'.length≤m:=by
   have h1:V'.length<V.length:=by
    have h2:=List.length_filter_lt_length_iff_exists (l:=V) (p:=fun c=>decide (C c∨S c)) |>.mpr ⟨x,hx,by rw [eY];intro h;exact xV' ((jV x).mpr ⟨hx,h⟩)⟩
    exact h2
   lia
  have O1:∀x y z,¬oC E V' x y z:=fun a b c h=>nh a b c ⟨((jV _).mp h.xV).1,((jV _).mp h.yV).1,((jV _).mp h.zV).1,h.xy,h.xz,h.ne,h.no,h.wk.mono fun d hd=>⟨((jV _).mp hd.1).1,hd.2⟩⟩;have fin:∀t,C t→Simp E V' t→∃s,rJ E V x s∧Simp E V s:=fun t ht hs=>by
   refine ⟨t,ht.1,fun b c hb hc ne eb ec=>hs b c ?_ ?_ ne eb ec⟩;·exact (jV b).mpr ⟨hb,O0 t b ht hb eb⟩
   ·exact (jV c).mpr ⟨hc,O0 t c ht hc ec⟩
  by_cases ha:∃s u,S s∧u∈V'∧u≠s∧¬E s u
  ·obtain ⟨s,u,hs,hu,us,nu⟩:=ha
   obtain ⟨t,ht,st⟩:=Iy sy ir m V' lt O1 s u (SV s hs) hu us nu;refine fin t ?_ st;rcases ((jV t).mp ht.1).2 with h | h;·exact h
   ·exact absurd (Sc s t hs h (Ne.symm ht.2.1)) ht.2.2
  ·have full:∀s u,S s→u∈V'→u≠s→E s u:=fun s u hs hu us=>hJ fun z=>ha ⟨s,u,hs,hu,us,z⟩
   by_cases hb:∃u w,C u∧C w∧w≠u∧¬E u w
   ·obtain ⟨u,w,hu,hw,uw,nu⟩:=hb
    obtain ⟨t,ht,st⟩:=Iy sy ir m V' lt O1 u w (CV u hu) (CV w hw) uw nu;refine fin t ?_ st;rcases ((jV t).mp ht.1).2 with h | h;·exact h
    ·exact absurd (sy _ _ (full t u h (CV u hu) (Ne.symm ht.2.1))) ht.2.2
   ·have vC:C v:=⟨tv,.inl rfl⟩
    refine fin v vC fun b c fO d5 ne eb ec=>?_;rcases ((jV b).mp fO).2 with h | h
    ·rcases ((jV c).mp d5).2 with h2 | h2
     ·exact hJ fun z=>hb ⟨b,c,h,h2,Ne.symm ne,z⟩
     ·exact sy _ _ (full c b h2 fO ne)
    ·exact full b c h d5 (Ne.symm ne)
theorem aai(sy:∀a b,E a b→E b a)(ir:∀a,¬E a a){V:List Nat}(hV:V≠[])(nh:∀x y z,¬oC E V x y z):∃s,s∈V∧Simp E V s:=by
 by_cases h:∃x v,x∈V∧v∈V∧v≠x∧¬E x v
 ·obtain ⟨x,v,hx,hv,vx,nv⟩:=h
  obtain ⟨s,hs,ss⟩:=Iy sy ir _ V (aC _) nh x v hx hv vx nv;exact ⟨s,hs.1,ss⟩
 ·cases V with
  | nil=>exact absurd rfl hV
  | cons a V=>exact ⟨a,cG,fun b c hb hc ne _ _=>hJ fun z=>h ⟨b,c,hb,hc,Ne.symm ne,z⟩⟩
theorem O2(sy:∀a b,E a b→E b a)(ir:∀a,¬E a a):∀(m:Nat) (V:List Nat),V.length=m→(∀x y z,¬oC E V x y z)→∃o:List Nat,o.Perm V∧∀A x B,o=A++x::B→∀b c,b∈B→c∈B→b≠c→E x b→E x c→E b c
 | 0,V,hm,_=>by
  cases V with
  | nil=>exact ⟨[],List.Perm.refl _,fun A x B e=>by simp at e⟩
  | cons=>simp at hm
 | m+1,V,hm,nh=>by
  have hV:V≠[]:=fun z=>by rw [z] at hm;simp at hm
  obtain ⟨s,hs,ss⟩:=aai sy ir hV nh;have sub:∀c,c∈V.erase s→c∈V:=fun c h=>List.mem_of_mem_erase h;obtain ⟨o,po,ho⟩:=O2 sy ir m (V.erase s) (by rw [FV hs];lia) fun a b c h=>nh a b c ⟨sub _ h.xV,sub _ h.yV,sub _ h.zV,h.xy,h.xz,h.ne,h.no,h.wk.mono fun d hd=>⟨sub _ hd.1,hd.2⟩⟩
  refine ⟨s::o,(po.cons s).trans (List.perm_cons_erase hs).symm,fun A x B e b c hb hc ne eb ec=>?_⟩;cases A with
  | nil=>injection e with e1 e2;subst e1;subst e2;exact ss b c (sub _ (po.mem_iff.mp hb)) (sub _ (po.mem_iff.mp hc)) ne eb ec
  | cons a A=>injection e with e1 e2;exact ho A x B e2 b c hb hc ne eb ec
end
variable {n:Nat} {L:ar}
theorem aaj(pw:L.Pairwise lexLt)(lt:∀z∈L,0≤z.1∧z.1<z.2∧z.2<(n:Int))(no:∀o:List Nat,o.Perm (List.range n)→¬dz n L o L):∃x y z,oC (aL n L) (List.range n) x y z:=by
 refine hJ fun nh=>?_;have ir:∀a,¬aL n L a a:=fun a h=>by rcases h.2.2 with e | e <;> (have:=lt _ e;lia)
 obtain ⟨o,po,ho⟩:=O2 gH ir _ (List.range n) rfl fun x y z h=>nh ⟨x,y,z,h⟩;refine no o po (OD po pw lt fun a b c an bn cn ab ac ne e1 e2=>?_);obtain ⟨A,B,e⟩:=List.append_of_mem ((gG po).mpr an);have nd:=pU po;have O3:∀d,d<n→o.idxOf a<o.idxOf d→d∈B:=fun d dn lt=>by
  have hm:=(gG po).mpr dn;rw [e] at hm lt nd;rw [jz] at nd;have aA:a∉A:=fun z=>nd.2.2 a z a cG rfl;rw [kT,aa aA,vU] at lt;rcases dW.mp hm with h | h
  ·rw [kT,ae h] at lt
   have:=oW h;lia
  ·rcases bw.mp h with rfl | h
   ·rw [kT,aa aA,vU] at lt
    lia
   ·exact h
 exact ho A a B e b c (O3 b bn ab) (O3 c cn ac) ne e1 e2
def Bf(E:Nat→Nat→Prop):List Nat→Prop
 | []=>True
 | a::r=>(∀b,r.head?=some b→E a b)∧(∀d∈r.drop 1,¬E a d)∧Bf E r
theorem Bf.at{E:Nat→Nat→Prop}:∀{p:List Nat},Bf E p→∀(i j:Nat) (hi:i<p.length) (hj:j<p.length),i<j→(E p[i] p[j]↔j=i+1)
 | [],_,i,_,hi,_,_=>by simp at hi
 | a::r,⟨h1,h2,h3⟩,0,j,_,hj,ij=>by
  obtain ⟨j,rfl⟩:∃k,j=k+1:=⟨j-1,by lia⟩
  have ei:j<r.length:=by simpa using hj
  simp only [FX,zE];constructor
  ·intro e
   refine hJ fun z=>h2 r[j] ?_ e;rw [List.mem_iff_getElem];exact ⟨j-1,by rw [B0];lia,by rw [List.getElem_drop];congr 1;lia⟩
  ·intro e
   have:j=0:=by lia
   subst this;exact h1 _ (by rw [List.head?_eq_getElem?,bP ei])
 | a::r,⟨h1,h2,h3⟩,i+1,j,hi,hj,ij=>by
  obtain ⟨j,rfl⟩:∃k,j=k+1:=⟨j-1,by lia⟩
  simp only [zE];rw [h3.at i j (by simpa using hi) (by simpa using hj) (by lia)]
  lia
theorem O4(pw:L.Pairwise lexLt)(lt:∀z∈L,0≤z.1∧z.1<z.2∧z.2<(n:Int)){r:List Nat}(m4:4≤r.length)(nd:r.Nodup)(rn:∀d∈r,d<n)
  (h:∀(i j:Nat) (hi:i<r.length) (hj:j<r.length),i<j→(aL n L r[i] r[j]↔j=i+1∨(i=0∧j=r.length-1))):iV L (r.map iN):=by
 have lm:(r.map iN).length=r.length:=aD ..;have gz:∀(k:Nat) (hk:k<r.length),(r.map iN).getD k 0=((r[k]:Nat):Int):=fun k hk=>by rw [cg,bo,bP hk];rfl
 have inj:∀(i j:Nat) (hi:i<r.length) (hj:j<r.length),r[i]=r[j]→i=j:=fun i j hi hj e=>(sr nd).mp e;have nx:∀k,k<r.length→(k+1) % r.length<r.length:=fun k _=>Nat.mod_lt _ (by lia)
 have qb:∀k,k<r.length→(k+1<r.length∧(k+1) % r.length=k+1)∨(k=r.length-1∧(k+1) % r.length=0):=fun k hk=>by
  by_cases z:k+1<r.length;·exact .inl ⟨z,zr z⟩
  ·exact .inr ⟨by lia,by rw [show k+1=r.length by lia,zt]⟩
 have lk:∀(i j:Nat) (hi:i<r.length) (hj:j<r.length),i≠j→(aL n L r[i] r[j]↔j=(i+1) % r.length∨i=(j+1) % r.length):=fun i j hi hj ne=>by
  by_cases ij:i<j
  ·rw [h i j hi hj ij]
   rcases qb i hi with ⟨a1,a2⟩ | ⟨a1,a2⟩ <;> rcases qb j hj with ⟨b1,b2⟩ | ⟨b1,b2⟩ <;> lia
  ·have:aL n L r[i] r[j]↔aL n L r[j] r[i]:=⟨gH _ _,gH _ _⟩
   rw [this,h j i hj hi (by lia)]
   rcases qb i hi with ⟨a1,a2⟩ | ⟨a1,a2⟩ <;> rcases qb j hj with ⟨b1,b2⟩ | ⟨b1,b2⟩ <;> lia
 have ndz:(r.map iN).Nodup:=nd.map (f:=iN) fun a b ne e=>ne (by have:(a:Int)=(b:Int):=e;lia)
 refine ⟨by rw [lm];exact m4,ndz,?_⟩
 have ndL:L.Nodup:=pw.imp fun h e=>by subst e;unfold lexLt at h;lia
 have ndR:(iU (r.map iN)).Nodup:=by
  unfold iU;rw [lm];refine jA.mpr (Ca (fun{a b} ha hb ab=>?_) (fU (n:=r.length)));have ha:=aU.mp ha;have hb:=aU.mp hb;intro e;rw [gz a ha,gz b hb,gz _ (nx a ha),gz _ (nx b hb)] at e;injection e with e1 e2;have key:(r[a]=r[b]∧r[(a+1) % r.length]'(nx a ha)=r[(b+1) % r.length]'(nx b hb))∨(r[a]=r[(b+1) % r.length]'(nx b hb)∧r[(a+1) % r.length]'(nx a ha)=r[b]):=by lia
  rcases key with ⟨k1,_⟩ | ⟨k1,k2⟩;·exact ab (inj a b ha hb k1)
  ·have q1:=inj _ _ ha (nx b hb) k1
   have q2:=inj _ _ (nx a ha) hb k2;rcases qb a ha with ⟨a1,a2⟩ | ⟨a1,a2⟩ <;> rcases qb b hb with ⟨b1,b2⟩ | ⟨b1,b2⟩ <;> lia
 refine (kP ndR (ndL.filter _)).mpr fun p=>?_;constructor
 ·intro hp
  unfold iU at hp;rw [lm] at hp;obtain ⟨k,hk,rfl⟩:=bG.mp hp;have hk:=aU.mp hk;rw [gz k hk,gz _ (nx k hk)];have ne:k≠(k+1) % r.length:=by rcases qb k hk with ⟨a1,a2⟩ | ⟨a1,a2⟩ <;> lia
  have e:=(lk k _ hk (nx k hk) ne).mpr (.inl rfl);have mz:∀(i:Nat) (hi:i<r.length),((r[i]:Nat):Int)∈r.map iN:=fun i hi=>bG.mpr ⟨r[i],cB hi,rfl⟩;have m1:=mz k hk;have m2:=mz _ (nx k hk);rcases e.2.2 with q | q
  ·have l:=lt _ q
   dsimp only at l;rw [vV (by lia),zF (by lia)]
   exact b_.mpr ⟨q,by simp only [m1,m2,decide_true,Bool.and_self]⟩
  ·have l:=lt _ q
   dsimp only at l;rw [vW (by lia),zG (by lia)]
   exact b_.mpr ⟨q,by simp only [m1,m2,decide_true,Bool.and_self]⟩
 ·intro hp
  obtain ⟨hL,hz⟩:=b_.mp hp;rw [kO] at hz;obtain ⟨i',hi,e1⟩:=nH (bG.mp (fB hz.1)).choose_spec.1;obtain ⟨j',hj,e2⟩:=nH (bG.mp (fB hz.2)).choose_spec.1;have f1:=(bG.mp (fB hz.1)).choose_spec.2;have f2:=(bG.mp (fB hz.2)).choose_spec.2;rw [←e1] at f1;rw [←e2] at f2;have f1:((r[i']:Nat):Int)=p.1:=f1;have f2:((r[j']:Nat):Int)=p.2:=f2;have l:=lt _ hL;have ne:i'≠j':=fun z=>by subst z;lia
  have ep:(((r[i']:Nat):Int),((r[j']:Nat):Int))=p:=Prod.ext f1 f2;have e:aL n L r[i'] r[j']:=⟨rn _ (cB hi),rn _ (cB hj),.inl (by rw [ep];exact hL)⟩
  unfold iU;rw [lm];rcases (lk i' j' hi hj ne).mp e with q | q
  ·refine bG.mpr ⟨i',aU.mpr hi,?_⟩
   subst q;rw [gz i' hi,gz _ hj,vV (by lia),zF (by lia)]
   exact ep
  ·refine bG.mpr ⟨j',aU.mpr hj,?_⟩
   subst q;rw [gz j' hj,gz _ hi,vW (by lia),zG (by lia)]
   exact ep
def oV:Option Nat→V
 | none=>.aR
 | some p=>.int (p:Int)
def eA(wl:List (Nat×Option Nat)):List (Key×V):=wl.map fun q=>((Sum.inl (q.1:Int):Key),oV q.2)
def cz(wl:List (Nat×Option Nat)):List Nat:=wl.map (·.1)
theorem aan(wl:List (Nat×Option Nat)):(eA wl).length=wl.length:=aD ..
theorem kys_len(wl:List (Nat×Option Nat)):(cz wl).length=wl.length:=aD ..
variable {wl:List (Nat×Option Nat)} {k:Nat}
theorem lookup_mem:(wl.lookup k).isSome=true↔k∈cz wl:=by
 induction wl with
 | nil=>simp [cz]
 | cons q r ih=>
  obtain ⟨a,b⟩:=q;unfold cz at ih ⊢;rw [du,bw,List.lookup_cons];by_cases e:k=a;·subst e;simp
  ·rw [show (k == a)=false from by simpa using e,←ih]
   simp [e]
theorem DP(wl:List (Nat×Option Nat))(k:Nat):fv (eA wl) (Sum.inl (k:Int):Key)=(wl.lookup k).map oV:=by
 induction wl with
 | nil=>rfl
 | cons q r ih=>
  obtain ⟨a,b⟩:=q;unfold fv eA at ih ⊢;rw [du,sJ,List.lookup_cons];by_cases e:k=a;·subst e;simp
  ·rw [show (k == a)=false from by simpa using e,show decide ((Sum.inl (a:Int):Key)=Sum.inl (k:Int))=false from bO (by simp;lia)]
   exact ih
variable {p:Option Nat}
theorem Iz(h:k∉cz wl):putK (eA wl) (Sum.inl (k:Int):Key) (oV p)=eA (wl++[(k,p)]):=by
 have ha:((eA wl).any fun kv=>decide (kv.1=(Sum.inl (k:Int):Key)))=false:=by
  rw [List.any_eq_false];intro x hx e;obtain ⟨q,hq,rfl⟩:=bG.mp hx;have e:=fB e;simp at e;have:q.1=k:=by lia
  exact h (bG.mpr ⟨q,hq,this⟩)
 unfold putK;rw [aa (by rw [ha];decide)]
 unfold eA;rw [eX];rfl
theorem O5{v:Nat}{o:Option Nat}(h:wl.lookup v=some o):(wl++[(k,p)]).lookup v=some o:=by rw [List.lookup_append,h];rfl
theorem O6(h:k∉cz wl):(wl++[(k,p)]).lookup k=some p:=by
 have:wl.lookup k=none:=by
  cases e:wl.lookup k with
  | none=>rfl
  | some o=>exact absurd (lookup_mem.mp (by rw [e];rfl)) h
 rw [List.lookup_append,this];simp [List.lookup]
inductive Back (wl:List (Nat×Option Nat)):Nat→List Nat→Prop where
 | last {v:Nat}:wl.lookup v=some none→Back wl v [v]
 | step {v p:Nat} {ws:List Nat}:wl.lookup v=some (some p)→Back wl p ws→Back wl v (v::ws)
variable {ws:List Nat}
theorem Back.more{v:Nat}(h:Back wl v ws):Back (wl++[(k,p)]) v ws:=by
 induction h with
 | last h=>exact .last (O5 h)
 | step h _ ih=>exact .step (O5 h) ih
def oD(E:Nat→Nat→Prop)(wl:List (Nat×Option Nat))(d:Nat):Prop:=∀u,E d u→u∈cz wl
variable {E:Nat→Nat→Prop}
theorem oD.more{q:Nat×Option Nat}{d:Nat}(h:oD E wl d):oD E (wl++[q]) d:=fun u e=>by unfold cz;rw [eX];exact nF _ (h u e)
structure g9 (n:Nat) (E:Nat→Nat→Prop) (wl:List (Nat×Option Nat)) (x s:Nat) (c:Option Nat) (h:Nat) (ws:List Nat):Prop where
 bk:Back wl h (h::ws)
 ind:Bf E (h::ws)
 nd:(h::ws).Nodup
 away:∀d∈h::ws,d=s∨¬E x d
 nx:x∉h::ws
 lt:∀d∈h::ws,d<n
 lst:(h::ws).getLast?=some s
 sh:∀d∈ws,some d=c∨oD E wl d
variable {x s h:Nat}
theorem g9.more{c:Option Nat}(w:g9 n E wl x s c h ws)(q:Nat×Option Nat):g9 n E (wl++[q]) x s c h ws:=
 ⟨w.bk.more,w.ind,w.nd,w.away,w.nx,w.lt,w.lst,fun d hd=>(w.sh d hd).imp id oD.more⟩
theorem g9.IA{c:Nat}(w:g9 n E wl x s (some c) h ws)(sc:oD E wl c)(c':Option Nat):g9 n E wl x s c' h ws:=
 ⟨w.bk,w.ind,w.nd,w.away,w.nx,w.lt,w.lst,fun d hd=>.inr ((w.sh d hd).elim (fun e=>by cases e;exact sc) id)⟩
theorem g9.aao(w:g9 n E wl x s none h ws)(c':Option Nat):g9 n E wl x s c' h ws:=
 ⟨w.bk,w.ind,w.nd,w.away,w.nx,w.lt,w.lst,fun d hd=>.inr ((w.sh d hd).elim (fun e=>by cases e) id)⟩
theorem Back.keys{v:Nat}(h:Back wl v ws):∀d∈ws,d∈cz wl:=by
 induction h with
 | last h=>intro d hd;rw [cy.mp hd];exact lookup_mem.mp (by rw [h];rfl)
 | step h _ ih=>
  intro d hd;rcases bw.mp hd with rfl | hd;·exact lookup_mem.mp (by rw [h];rfl)
  ·exact ih d hd
variable {o:Nat}
theorem g9.fresh(sy:∀a b,E a b→E b a)(w:g9 n E wl x s none h ws)(ho:o∉cz wl):(∀d∈ws,¬E o d)∧o∉h::ws:=by
 refine ⟨fun d hd e=>?_,fun z=>ho (w.bk.keys o z)⟩;rcases w.sh d hd with e' | e';·cases e'
 ·exact ho (e' o (sy _ _ e))
structure gM (n:Nat) (E:Nat→Nat→Prop) (wl:List (Nat×Option Nat)) (x s:Nat) (pend:List Nat) (c:Option Nat):Prop where
 xk:x∈cz wl
 sk:s∈cz wl
 nd:(cz wl).Nodup
 lt:∀k∈cz wl,k<n
 near:∀u∈cz wl,u≠x→u≠s→E x u→E s u
 walk:∀u∈cz wl,u≠x→(u=s∨¬E x u)→some u=c∨oD E wl u∨u∈pend
 way:∀h∈pend,∃ws,g9 n E wl x s c h ws
theorem Bg{ks:List Nat}(nd:ks.Nodup)(lt:∀k∈ks,k<n):ks.length≤n:=jl.len ⟨nd,lt⟩
section
variable {n:Nat} {E:Nat→Nat→Prop} {wl:List (Nat×Option Nat)} {x s:Nat} {pend:List Nat} {c:Option Nat}
theorem gM.len(b:gM n E wl x s pend c):wl.length≤n:=by rw [←kys_len];exact Bg b.nd b.lt
theorem gM.start(xs:x≠s)(xn:x<n)(sn:s<n):gM n E [(x,none),(s,none)] x s [s] none:=by
 have ks:cz [(x,none),(s,none)]=[x,s]:=rfl;refine ⟨by rw [ks];simp,by rw [ks];simp,by rw [ks];simp [xs],fun k hk=>?_,fun u hu ux us=>?_,fun u hu ux h=>?_,fun h hh=>?_⟩
 ·rw [ks] at hk
  simp at hk;rcases hk with rfl | rfl <;> assumption
 ·rw [ks] at hu
  simp at hu;rcases hu with rfl | rfl;·exact absurd rfl ux
  ·exact absurd rfl us
 ·rw [ks] at hu
  simp at hu;rcases hu with rfl | rfl;·exact absurd rfl ux
  ·exact .inr (.inr (by simp))
 ·rw [cy.mp hh]
  refine ⟨[],.last ?_,⟨(fun b e=>by cases e),(fun d hd=>by simp at hd),trivial⟩,by simp,fun d hd=>.inl (cy.mp hd),fun z=>xs (cy.mp z),fun d hd=>by rw [cy.mp hd];exact sn,rfl,fun d hd=>nomatch hd⟩
  rw [List.lookup_cons,show (s == x)=false from by simpa using Ne.symm xs]
  simp [List.lookup]
theorem gM.opened(b:gM n E wl x s (h::pend) none):gM n E wl x s pend (some h):=
 ⟨b.xk,b.sk,b.nd,b.lt,b.near,fun u hu ux q=>by
  rcases b.walk u hu ux q with e | e | e;·cases e
  ·exact .inr (.inl e)
  ·rcases bw.mp e with rfl | e
   ·exact .inl rfl
   ·exact .inr (.inr e),fun g hg=>let ⟨ws,w⟩:=b.way g (cx _ hg);⟨ws,w.aao _⟩⟩
theorem gM.IA(b:gM n E wl x s pend (some h))(sc:oD E wl h):gM n E wl x s pend none:=
 ⟨b.xk,b.sk,b.nd,b.lt,b.near,fun u hu ux q=>by
  rcases b.walk u hu ux q with e | e | e
  ·cases e
   exact .inr (.inl sc)
  ·exact .inr (.inl e)
  ·exact .inr (.inr e),fun g hg=>let ⟨ws,w⟩:=b.way g hg;⟨ws,w.IA sc _⟩⟩
theorem Bh{q:Nat×Option Nat}{u:Nat}:u∈cz (wl++[q])↔u∈cz wl∨u=q.1:=by unfold cz;rw [eX,dW];simp
theorem gM.met(b:gM n E wl x s pend (some h))(ho:o∉cz wl)(on:o<n)(eo:E x o→E s o)(wo:¬E x o→∃ws,g9 n E (wl++[(o,some h)]) x s (some h) o ws){wV:List Nat}(hp:∀u,u∈wV↔u∈pend∨(u=o∧¬E x o)):gM n E (wl++[(o,some h)]) x s wV (some h):=by
 refine ⟨Bh.mpr (.inl b.xk),Bh.mpr (.inl b.sk),?_,fun k hk=>?_,fun u hu ux us e=>?_,fun u hu ux q=>?_,fun g hg=>?_⟩
 ·unfold cz
  rw [eX,jz];refine ⟨b.nd,by simp,fun a ha b' fO e=>?_⟩
  have:b'=o:=by simpa using fO
  subst this;subst e;exact ho ha
 ·rcases Bh.mp hk with h | rfl
  ·exact b.lt k h
  ·exact on
 ·rcases Bh.mp hu with h | rfl
  ·exact b.near u h ux us e
  ·exact eo e
 ·rcases Bh.mp hu with h | rfl
  ·rcases b.walk u h ux q with e | e | e
   ·exact .inl e
   ·exact .inr (.inl e.more)
   ·exact .inr (.inr ((hp u).mpr (.inl e)))
  ·rcases q with q | q
   ·exact absurd b.sk (by rw [←q];exact ho)
   ·exact .inr (.inr ((hp _).mpr (.inr ⟨rfl,q⟩)))
 ·rcases (hp g).mp hg with h | ⟨rfl,h⟩
  ·obtain ⟨ws,w⟩:=b.way g h
   exact ⟨ws,w.more _⟩
  ·exact wo h
theorem g9.next(sy:∀a b,E a b→E b a)(w:g9 n E wl x s none h ws)(ho:o∉cz wl)(on:o<n)(xk:x∈cz wl)(e:E h o)(nx:¬E x o):g9 n E (wl++[(o,some h)]) x s (some h) o (h::ws):=by
 obtain ⟨f1,f2⟩:=w.fresh sy ho;refine ⟨.step (O6 ho) w.bk.more,⟨fun b eb=>?_,fun d hd=>?_,w.ind⟩,i3.mpr ⟨f2,w.nd⟩,fun d hd=>?_,fun hx=>?_,fun d hd=>?_,?_,fun d hd=>?_⟩
 ·have:h=b:=Option.some.inj eb
  rw [←this];exact sy _ _ e
 ·exact f1 d (by simpa using hd)
 ·rcases bw.mp hd with rfl | hd
  ·exact .inr nx
  ·exact w.away d hd
 ·rcases bw.mp hx with rfl | hx
  ·exact ho xk
  ·exact w.nx hx
 ·rcases bw.mp hd with rfl | hd
  ·exact on
  ·exact w.lt d hd
 ·rw [List.getLast?_cons_cons]
  exact w.lst
 ·rcases bw.mp hd with rfl | hd
  ·exact .inl rfl
  ·rcases w.sh d hd with e | e
   ·cases e
   ·exact .inr e.more
theorem gM.no(ir:∀a,¬E a a)(b:gM n E wl x s [] none)(V:List Nat)(z:Nat):¬oC E V x s z:=fun h=>by
 have sx:s≠x:=fun e=>ir x (by have:=h.xy;rw [e] at this;exact this)
 have sh:∀u∈cz wl,u≠x→(u=s∨¬E x u)→oD E wl u:=fun u hu ux q=>by
  rcases b.walk u hu ux q with e | e | e;·cases e
  ·exact e
  ·cases e
 have all:∀u,Wk E (rJ E V x) s u→u∈cz wl:=fun u w=>by
  induction w with
  | one e=>exact sh s b.sk sx (.inl rfl) _ e
  | more _ t e ih=>exact sh _ ih t.2.1 (.inr t.2.2) _ e
 exact h.no (b.near z (all z h.wk) (fun e=>ir x (by have:=h.xz;rw [e] at this;exact this)) (Ne.symm h.ne) h.xz)
end
theorem aap(pw:L.Pairwise lexLt)(lt:∀z∈L,0≤z.1∧z.1<z.2∧z.2<(n:Int))(w:g9 n (aL n L) wl x s none h ws)(ho:o∉cz wl)(xk:x∈cz wl)(xs:aL n L x s)(xo:aL n L x o)(so:¬aL n L s o)(e:aL n L h o) :
  iV L ((x::o::h::ws).map iN)∧(x::o::h::ws).Nodup∧∀d∈x::o::h::ws,d<n:=by
 obtain ⟨f1,f2⟩:=w.fresh gH ho;have hs:h≠s:=fun z=>so (by rw [←z];exact e)
 have xl:ws≠[]:=fun z=>by have:=w.lst;rw [z] at this;exact hs (Option.some.inj this)
 have nd:(x::o::h::ws).Nodup:=i3.mpr ⟨fun hx=>by
  rcases bw.mp hx with rfl | hx;·exact ho xk
  ·exact w.nx hx,i3.mpr ⟨f2,w.nd⟩⟩
 have rn:∀d∈x::o::h::ws,d<n:=fun d hd=>by
  rcases bw.mp hd with rfl | hd;·exact xs.1
  ·rcases bw.mp hd with rfl | hd
   ·exact xo.2.1
   ·exact w.lt d hd
 have ind:Bf (aL n L) (o::h::ws):=⟨fun b eb=>by have:h=b:=Option.some.inj eb;rw [←this];exact gH _ _ e,fun d hd=>f1 d (by simpa using hd),w.ind⟩
 have lw:1≤ws.length:=Nat.pos_of_ne_zero fun z=>xl (List.eq_nil_of_length_eq_zero z);refine ⟨O4 pw lt (by simp;lia) nd rn fun i j hi hj ij=>?_,nd,rn⟩
 have ls:(h::ws)[ws.length]?=some s:=by have:=w.lst;rw [List.getLast?_eq_getElem?] at this;simpa using this
 cases i with
 | zero=>
  obtain ⟨j,rfl⟩:∃k,j=k+1:=⟨j-1,by lia⟩
  simp only [FX,zE];have ei:j<(o::h::ws).length:=by simpa using hj
  have hl:(x::o::h::ws).length-1=ws.length+2:=by simp
  rw [hl];cases j with
  | zero=>simp only [FX];simp [xo]
  | succ j=>
   simp only [zE];have Bi:j<(h::ws).length:=by simpa using ei
   have lj:j≤ws.length:=by simp at Bi;lia
   constructor
   ·intro q
    refine .inr ⟨trivial,?_⟩;rcases w.away _ (cB Bi) with z | z
    ·have e1:(h::ws)[j]?=some s:=by rw [bP Bi,z]
     have:j=ws.length:=(List.getElem?_inj Bi w.nd).mp (e1.trans ls.symm);lia
    ·exact absurd q z
   ·rintro (q | ⟨_,q⟩)
    ·lia
    ·have:j=ws.length:=by lia
     subst this;rw [bP Bi] at ls;rw [Option.some.inj ls];exact xs
 | succ i=>
  obtain ⟨j,rfl⟩:∃k,j=k+1:=⟨j-1,by lia⟩
  simp only [zE];rw [ind.at i j (by simpa using hi) (by simpa using hj) (by lia)]
  lia
structure IC (n:Nat) (L:ar) (D:Addr) (ds:Nat→Addr) (f:Nat→List Nat):Prop where
 inj:∀i j,i<n→j<n→ds i=ds j→i=j
 ne:∀i,i<n→ds i≠D
 pl:∀i,i<n→jl n (f i)
 nb:gZ n L f
def jq(n:Nat)(ds:Nat→Addr)(H H':Hp):Prop:=∀b o,H b=some o→((∀i,i<n→b≠ds i)∨∃ob u,o=.bg ob u)→H' b=some o
theorem O7{tl:TE}{σ:St}{H:Hp}{R:It→Hp→Prop}{a:Addr}{kvs:List (Key×V)}(hp:∀Q:VK,Q (.ref a) H→tl σ H Q)(h:H a=some (.dK kvs)∨∃ob,H a=some (.bg ob (.dK kvs)))
  (k:∀(ob:Obj) (Hf:Hp),Hf a=some (.bg ob (.dK kvs))→(∀b u,b≠a→H b=some u→Hf b=some u)→(∀mZ u,H a=some (.bg mZ u)→Hf a=some (.bg mZ u))→R (jR a ob kvs) Hf):HD tl σ H R:=hp _ ⟨a,kvs,rfl,by
 rcases h with e | ⟨ob,e⟩;·exact .inl ⟨e,fun o=>k o _ ax (fun b u ne hb=>by rw [aH ne];exact hb) fun mZ u e'=>by rw [e] at e';cases e'⟩
 ·exact .inr ⟨ob,e,k ob H e (fun _ _ _ h=>h) fun _ _ h=>h⟩⟩
def aaq:Sp:=fun vs H Q _=>∃(D wd:Addr) (n:Nat) (L:ar) (ds:Nat→Addr) (f:Nat→List Nat) (wl:List (Nat×Option Nat)) (p:Nat),vs=[.ref D,.ref wd,.int (p:Int)]∧IC n L D ds f∧en H D n ds f∧H wd=some (.dK (eA wl))∧(∀i,i<n→wd≠ds i)∧p<n∧n≤900 ∧
 ∀(H':Hp) (r:Addr),jq n ds H H'→en H' D n ds f→H r=none→H' r=some (.lst (((f p).filter fun q=>!decide (q∈cz wl)).map fun k:Nat=>V.int (k:Int)))→Q (.ref r) H'
def aar:Sp:=fun vs H Q _=>∃(wd:Addr) (wl:List (Nat×Option Nat)) (v:Nat) (ws:List Nat),vs=[.ref wd,.int (v:Int)]∧H wd=some (.dK (eA wl))∧Back wl v ws∧ws.length≤900 ∧
 ∀(H':Hp) (r:Addr),ak H H'→H r=none→H' r=some (.lst (ws.map fun k:Nat=>V.int (k:Int)))→Q (.ref r) H'
def aas:Sp:=fun vs H Q _=>∃(D:Addr) (n:Nat) (L:ar) (ds:Nat→Addr) (f:Nat→List Nat) (x s:Nat),vs=[.ref D,.int (x:Int),.int (s:Int)]∧IC n L D ds f∧en H D n ds f∧L.Pairwise lexLt∧(∀z∈L,0≤z.1∧z.1<z.2∧z.2<(n:Int))∧aL n L x s∧n≤900 ∧
 (∀H',jq n ds H H'→en H' D n ds f→(∀V z,¬oC (aL n L) V x s z)→Q .aR H') ∧
 ∀(H':Hp) (r:Addr) (zs:List Nat),jq n ds H H'→H r=none→H' r=some (.lst (zs.map fun k:Nat=>V.int (k:Int)))→iV L (zs.map iN)→zs.Nodup→(∀d∈zs,d<n)→Q (.ref r) H'
def aat:Sp:=fun vs H Q _=>∃(tp:Addr) (n:Nat) (L:ar),vs=[.ref tp]∧cJ H tp n L∧L.Pairwise lexLt∧(∀z∈L,0≤z.1∧z.1<z.2∧z.2<(n:Int))∧n≤900 ∧
 (∀H',ak H H'→(∀x y z,¬oC (aL n L) (List.range n) x y z)→Q .aR H') ∧
 ∀(H':Hp) (r:Addr) (zs:List Nat),ak H H'→H r=none→H' r=some (.lst (zs.map fun k:Nat=>V.int (k:Int)))→iV L (zs.map iN)→zs.Nodup→(∀d∈zs,d<n)→Q (.ref r) H'
def aau(Pt:Addr)(pl:Pos):Sp:=fun vs H Q _=>∃(tp:Addr) (n:Nat) (L:ar),vs=[.ref tp]∧cJ H tp n L∧L.Pairwise lexLt∧(∀z∈L,0≤z.1∧z.1<z.2∧z.2<(n:Int))∧n≤30∧dJ Pt pl jo H ∧
 (∀(H':Hp) (T D:Addr) (o:List Nat),eO Pt H H'→dJ Pt pl jo H'→H T=none→H D=none→H' T=some (.tup [.str "order",.ref D])→H' D=some (.lst (o.map fun k:Nat=>V.int (k:Int)))→o.Perm (List.range n)→dz n L o L→Q (.ref T) H') ∧
 ∀(H':Hp) (T D:Addr) (zs:List Nat),eO Pt H H'→dJ Pt pl jo H'→H T=none→H D=none→H' T=some (.tup [.str "ring",.ref D])→H' D=some (.lst (zs.map fun k:Nat=>V.int (k:Int)))→iV L (zs.map iN)→zs.Nodup→(∀d∈zs,d<n)→(∀o:List Nat,o.Perm (List.range n)→¬dz n L o L)→Q (.ref T) H'
end My
namespace L2
open PySem PySem.Spec PyProof.Rows
end L2
namespace My
open PySem L2 Classical
noncomputable def xm (n:Nat) (L:ar) (i:Nat):List Nat:=(List.range n).filter fun j=>decide (aL n L i j)
variable {n:Nat} {L:ar}
theorem aav(bV:dD n L):gZ n L (xm n L):=fun i j hi=>by
 unfold xm;rw [b_,aU,eY];constructor;·exact fun h=>h.2.2.2
 ·intro h
  have:j<n:=by rcases h with h | h <;> (have:=bV _ h;lia)
  exact ⟨this,hi,this,h⟩
variable {S:List Nat} {p:Nat}
theorem O8(bV:dD n L)(pn:p<n)(l:List Nat)(nd:l.Nodup)(h:∀x,x∈l↔x≠p∧x∉S∧fQ (aL n L) (·∈S) p x):dU n L S p=(l.length:Int)*l.length+3*l.length+1:=by
 have ra:∀{x},fQ (iT n (xm n L)) (·∈S) p x↔fQ (aL n L) (·∈S) p x:=fun{x}=>by
  have e:∀a b,iT n (xm n L) a b↔aL n L a b:=fun a b=>by unfold iT xm;rw [b_,aU,eY];exact ⟨fun h=>h.2.2,fun h=>⟨h.1,h.2.1,h⟩⟩
  constructor
  ·intro h
   induction h with
   | start=>exact .start
   | step _ t a ih=>exact .step ih t ((e _ _).mp a)
  ·intro h
   induction h with
   | start=>exact .start
   | step _ t a ih=>exact .step ih t ((e _ _).mpr a)
 have rn:∀{x},fQ (aL n L) (·∈S) p x→x<n:=fun h=>by
  cases h with
  | start=>exact pn
  | step _ _ a=>exact a.2.1
 refine (Ih (aav bV) ⟨(List.range n).filter fun x=>decide (fQ (iT n (xm n L)) (·∈S) p x),⟨fU.filter _,fun k hk=>aU.mp (b_.mp hk).1⟩,fun x=>?_,?_⟩).symm
 ·rw [b_,aU,eY]
  exact ⟨fun h=>h.2,fun h=>⟨rn (ra.mp h),h⟩⟩
 ·refine List.Perm.length_eq ((kP nd ((fU.filter _).filter _)).mpr fun x=>?_)
  rw [h,b_,b_,aU,eY,ra,kO,Bool.not_eq_true',Bool.not_eq_true',decide_eq_false_iff_not,decide_eq_false_iff_not];exact ⟨fun⟨a,b,c⟩=>⟨⟨rn c,c⟩,a,b⟩,fun⟨⟨_,c⟩,a,b⟩=>⟨a,b,c⟩⟩
open PySem L2
theorem O9{l:List Nat}(nd:l.Nodup)(lt:∀x∈l,x<n)(len:l.length=n):l.Perm (List.range n):=by
 have h1:((List.range n).filter fun p=>decide (p∈l)).Perm l:=(kP (fU.filter _) nd).mpr fun x=>by rw [b_,aU,eY];exact ⟨fun h=>h.2,fun h=>⟨lt x h,h⟩⟩
 have h2:((List.range n).filter fun p=>decide (p∈l)).length=(List.range n).length:=by rw [h1.length_eq,len,c_]
 have h3:=List.length_filter_eq_length_iff.mp h2;refine (kP nd fU).mpr fun x=>⟨fun h=>aU.mpr (lt x h),fun h=>?_⟩;exact fB (h3 x h)
structure cK (n:Nat) (L L':ar) (f:Nat→Nat):Prop where
 lt:∀k,k<n→f k<n
 inj:∀j k,j<n→k<n→f j=f k→j=k
 m5:∀x,x<n→∃k,k<n∧f k=x
 bF:∀j k,j<n→k<n→(aL n L' (f j) (f k)↔aL n L j k)
variable {f:Nat→Nat}
theorem aaw(lt:∀k,k<n→f k<n)(inj:∀j k,j<n→k<n→f j=f k→j=k):∀x,x<n→∃k,k<n∧f k=x:=fun x hx=>by
 have nd:((List.range n).map f).Nodup:=by rw [nO,jA];refine (nO.mp (fU (n:=n))).imp_of_mem fun{a b} ha hb ne e=>ne (inj a b (aU.mp ha) (aU.mp hb) e)
 have pm:((List.range n).map f).Perm (List.range n):=O9 nd (fun y hy=>by obtain ⟨k,hk,rfl⟩:=bG.mp hy;exact lt k (aU.mp hk)) (by simp)
 obtain ⟨k,hk,e⟩:=bG.mp (pm.mem_iff.mpr (aU.mpr hx));exact ⟨k,aU.mp hk,e⟩
variable {L':ar}
theorem cK.named{nm:Nat→Int}(ok:gX n L)(N:AL n nm)(pm:L'.Perm (L.map (f_ nm))):cK n L L' (fun k=>(nm k).toNat):=by
 have lt:∀k,k<n→(nm k).toNat<n:=fun k hk=>by have:=N.lt k hk;lia
 have inj:∀j k,j<n→k<n→(nm j).toNat=(nm k).toNat→j=k:=fun j k hj hk e=>N.inj j k hj hk (by have:=N.lt j hj;have:=N.lt k hk;lia)
 refine ⟨lt,inj,aaw lt inj,fun j k hj hk=>?_⟩;have hjn:=N.lt j hj;have hkn:=N.lt k hk;have one:∀a b:Nat,a<n→b<n→((((nm a).toNat:Int),((nm b).toNat:Int))∈L'→((a:Int),(b:Int))∈L∨((b:Int),(a:Int))∈L):=fun a b ha hb hm=>by
  obtain ⟨z,hz,e⟩:=bG.mp (pm.mem_iff.mp hm);have O_:=ok.lt z hz;have h1:=N.lt a ha;have h2:=N.lt b hb;obtain ⟨z1,z2⟩:=z;dsimp only at O_;obtain ⟨x,rfl⟩:=gq O_.1;obtain ⟨y,rfl⟩:=gq (show 0≤z2 by lia)
  have hx:x<n:=by lia
  have hy:y<n:=by lia
  unfold f_ at e;dsimp only at e;rw [cZ,cZ] at e;have e1:=dM Prod.fst e;have e2:=dM Prod.snd e;dsimp only at e1 e2;rw [sL h1.1] at e1;rw [sL h2.1] at e2;rcases Int.le_total (nm x) (nm y) with kC | kC
  ·rw [vV kC] at e1
   rw [zF kC] at e2;have:=N.inj x a hx ha e1;have:=N.inj y b hy hb e2;subst x y;exact .inl hz
  ·rw [vW kC] at e1
   rw [zG kC] at e2;have:=N.inj y a hy ha e1;have:=N.inj x b hx hb e2;subst x y;exact .inr hz
 have two:∀a b:Nat,a<n→b<n→((a:Int),(b:Int))∈L→((((nm a).toNat:Int),((nm b).toNat:Int))∈L'∨(((nm b).toNat:Int),((nm a).toNat:Int))∈L'):=fun a b ha hb hm=>by
  have h1:=N.lt a ha;have h2:=N.lt b hb;have:=pm.mem_iff.mpr (bG.mpr ⟨_,hm,rfl⟩);unfold f_ at this;dsimp only at this;rw [cZ,cZ] at this;rw [sL h1.1,sL h2.1];rcases Int.le_total (nm a) (nm b) with kC | kC
  ·rw [vV kC,zF kC] at this
   exact .inl this
  ·rw [vW kC,zG kC] at this
   exact .inr this
 constructor
 ·rintro ⟨_,_,h | h⟩
  ·exact ⟨hj,hk,one j k hj hk h⟩
  ·exact ⟨hj,hk,(one k j hk hj h).symm⟩
 ·rintro ⟨_,_,h | h⟩
  ·exact ⟨lt j hj,lt k hk,two j k hj hk h⟩
  ·exact ⟨lt j hj,lt k hk,(two k j hk hj h).symm⟩
theorem cK.cost(r:cK n L L' f)(bV:dD n L)(fJ:dD n L'){S':List Nat}(hS:∀x,x<n→(f x∈S'↔x∈S))(pn:p<n):dU n L' S' (f p)=dU n L S p:=by
 let l:=(List.range n).filter fun x=>decide (x≠p∧x∉S∧fQ (aL n L) (·∈S) p x)
 have rn:∀{x},fQ (aL n L) (·∈S) p x→x<n:=fun h=>by
  cases h with
  | start=>exact pn
  | step _ _ a=>exact a.2.1
 have hl:∀x,x∈l↔x≠p∧x∉S∧fQ (aL n L) (·∈S) p x:=fun x=>by show x∈(List.range n).filter _↔_;rw [b_,aU,eY];exact ⟨fun h=>h.2,fun h=>⟨rn h.2.2,h⟩⟩
 have nd:l.Nodup:=fU.filter _;have to:∀{x},fQ (aL n L) (·∈S) p x→fQ (aL n L') (·∈S') (f p) (f x):=fun h=>by
  induction h with
  | start=>exact .start
  | @step y z hy t a ih=>
   refine .step ih ?_ ((r.bF y z a.1 a.2.1).mpr a);rcases t with t | t;·exact .inl (by rw [t])
   ·exact .inr ((hS y a.1).mpr t)
 have fro:∀{y},fQ (aL n L') (·∈S') (f p) y→∃x,x<n∧y=f x∧fQ (aL n L) (·∈S) p x:=fun h=>by
  induction h with
  | start=>exact ⟨p,pn,rfl,.start⟩
  | @step y z hy t a ih=>
   obtain ⟨x,xn,rfl,hx⟩:=ih;obtain ⟨u,un,rfl⟩:=r.m5 z a.2.1;refine ⟨u,un,rfl,.step hx ?_ ((r.bF x u xn un).mp a)⟩;rcases t with t | t;·exact .inl (r.inj x p xn pn t)
   ·exact .inr ((hS x xn).mp t)
 have ndm:(l.map f).Nodup:=by rw [nO,jA];exact (nO.mp nd).imp_of_mem fun{a b} ha hb ne e=>ne (r.inj a b (rn ((hl a).mp ha).2.2) (rn ((hl b).mp hb).2.2) e)
 rw [O8 bV pn l nd hl,O8 fJ (r.lt p pn) (l.map f) ndm fun y=>?_,aD];rw [bG];constructor
 ·rintro ⟨x,hx,rfl⟩
  obtain ⟨h1,h2,h3⟩:=(hl x).mp hx;exact ⟨fun e=>h1 (r.inj x p (rn h3) pn e),fun h=>h2 ((hS x (rn h3)).mp h),to h3⟩
 ·rintro ⟨h1,h2,h3⟩
  obtain ⟨x,xn,rfl,hx⟩:=fro h3;exact ⟨x,(hl x).mpr ⟨fun e=>h1 (by rw [e]),fun h=>h2 ((hS x xn).mpr h),hx⟩,rfl⟩
theorem cK.A8{n:Nat}{L L':ar}{f:Nat→Nat}(r:cK n L L' f)(bV:dD n L)(fJ:dD n L'):∀(o S S':List Nat),(∀x∈o,x<n)→(∀x,x<n→(f x∈S'↔x∈S))→iW n L' S' (o.map f)=iW n L S o
 | [],_,_,_,_=>rfl
 | p::o,S,S',ho,hS=>by
  have pn:=ho p (by simp)
  show dU n L' S' (f p)+iW n L' (bI S' (f p)) (o.map f)=dU n L S p+iW n L (bI S p) o;rw [r.cost bV fJ hS pn,cK.A8 r bV fJ o (bI S p) (bI S' (f p)) (fun x hx=>ho x (cx _ hx)) fun x xn=>?_];rw [kD,kD,hS x xn];constructor
  ·rintro (e | h)
   ·exact .inl (r.inj x p xn pn e)
   ·exact .inr h
  ·rintro (e | h)
   ·exact .inl (by rw [e])
   ·exact .inr h
theorem cK.perm(r:cK n L L' f){o:List Nat}(ho:o.Perm (List.range n)):(o.map f).Perm (List.range n):=by
 have h1:((List.range n).map f).Perm (List.range n):=by
  have nd:((List.range n).map f).Nodup:=by rw [nO,jA];refine (nO.mp (fU (n:=n))).imp_of_mem fun{a b} ha hb ne e=>ne (r.inj a b (aU.mp ha) (aU.mp hb) e)
  refine O9 nd (fun y hy=>?_) (by simp)
  obtain ⟨k,hk,rfl⟩:=bG.mp hy;exact r.lt k (aU.mp hk)
 exact (ho.map f).trans h1
theorem Pa(hS:S∈b7 n)(pn:p<n)(pS:p∉S):bI S p∈b7 n:=by
 obtain ⟨up,lt⟩:=eL.mp hS;refine eL.mpr ⟨t9 up pS,fun x hx=>?_⟩;rcases kD.mp hx with e | h;·rw [e];exact pn
 ·exact lt x h
end My
namespace L2
open PySem PySem.Spec PyProof.Rows My
section
variable {X:Cx}
end
end L2
namespace My
open PySem L2
end My
namespace L2
open PySem PySem.Spec PyProof.Rows My
end L2
namespace My
open PySem L2
end My
namespace L2
open PySem PySem.W PyProof.Rows My
section
variable {prog:Program} {w:World} {A:Around} {E:aO} {s:Shared}
end
end L2
namespace My
open PySem L2 Classical
open PySem L2
theorem aaz{n:Nat}{f:List Nat}(h:jl n f):f.length≤n:=by
 have h1:((List.range n).filter fun p=>decide (p∈f)).Perm f:=(kP (fU.filter _) h.1).mpr fun x=>by rw [b_,aU,eY];exact ⟨fun h=>h.2,fun hx=>⟨h.2 x hx,hx⟩⟩
 rw [←h1.length_eq];exact b8 (vT ..) (by simp)
end My
namespace L2
open PySem PySem.Spec PyProof.Rows
end L2
namespace My
open PySem L2
open PySem L2 Classical
variable {a b:Nat}
theorem Bj(h:a<b):da a b=((a:Int),(b:Int)):=by unfold da;rw [aa (by lia),ae (by lia)]
theorem DQ(h:b<a):da a b=((b:Int),(a:Int)):=by unfold da;rw [ae (by lia),aa (by lia)]
theorem ID(a b:Nat):da a b=((a:Int),(b:Int))∨da a b=((b:Int),(a:Int)):=by
 rcases Nat.lt_trichotomy a b with h | h | h;·exact .inl (Bj h)
 ·subst h
  left;unfold da;rw [aa (by lia)]
 ·exact .inr (DQ h)
theorem rK{o o':List Nat}(e':o.map iN=o'.map iN):o'=o:=by
 have:=dM (List.map Int.toNat) e'
 rw [cM,cM] at this
 have id':∀l:List Nat,l.map (Int.toNat ∘ iN)=l:=fun l=>by
  conv=>rhs;rw [←qD l]
  exact hE fun k _=>cZ k
 rw [id',id'] at this
 exact this.symm
end My
namespace L2
open PySem PySem.Spec PyProof.Rows
section
variable {prog:Program} {w:World} {A:Around} {E:aO} {s:Shared}
end
section
variable {X:Cx} {tg:Expr}
end
section
variable {prog:Program} {w:World} {K:Type} [DecidableEq K] {knd:HeapKind prog w K} {A:Around} {E:aO} {s:Shared}
end
section
variable {prog:Program} {w:World} {A:Around} {E:aO} {s:Shared}
end
section
variable {X:Cx} {pins:aV} {σ:St} {H:Hp} {s:Shared}
theorem Inv.Pb{a:Addr}{o:Obj}{kvs:List (List Key×V)}(I:Inv X pins σ H s)(h:H a=some (.bg o (.dT kvs))):∃(xs:List (List Key×Addr×Value)) (es:Array DictEntry),KT H kvs xs∧(a == sysModules)=false∧mX s.heap a es (rA o)∧es.toList=xs.map (entryOfKey (tupleKind (gr X.prog X.w))):=by obtain ⟨g,_,sys,xs,r,o',es,ep,g',c,d,e,_⟩:=(show cj X.prog X.w H s.heap a (.bg o (.dT kvs)) from I.ay a _ h);rw [g] at g';cases g';refine ⟨xs,es,r,sys,⟨o,g,c,?_⟩,e⟩;rw [d];unfold rA;rw [d]
end
section
variable {X:Cx} {tg:Expr}
end
open PySem PySem.W PyProof.Rows My
end L2
namespace My
open PySem L2
end My
namespace L2
open PySem
end L2
namespace My
end My
namespace L2
open PySem My
open PySem
open PySem PySem.Spec PyProof.Rows
section
variable {prog:Program} {w:World} {A:Around} {E:aO} {s:Shared}
variable {d:Addr} {es:Array DictEntry} {ep:Nat}
theorem aaA{v:Addr}{Q:aO}(hv:s.heap.IsItemsView v d)(hm:mX s.heap d es ep)
  (hQ:Q (.ref s.heap.objs.size) {s with heap:=s.heap.push {cls:=.type "dict_itemiterator",data:=.fields #[.none,.bool false,.ref d,.int 0 0,.int es.size 0,.int ep 0,.none,.none]}}) :
  wpAny (model prog w) A (pyIter (.ref v)) Q E s:=by
 obtain ⟨ov,hov,hcv,hdv⟩:=id hv;obtain ⟨o,ho,hc,xi⟩:=id hm;refine wpAny_pyIter_slot hv.typeIs PySem.F.slot_dict_items_iter (sI PySem.F.slot_dict_items_iter hv.typeIs PySem.F.entry_dict_items_iter ?_ (PySem.F.args_dict_items_iter_1 _));unfold Builtin.«dict_items.__iter__»;refine au (a8 ?_);refine au ?_;unfold Builtin.Dict_items.dictOf;refine au (wpAny_field hov hdv (x:=.ref d) rfl (a8 ?_));refine au ?_;unfold Builtin.Dict_items.newIterator;refine au (wpAny_dictEntries ho xi ?_);refine au (wpAny_dictEpoch ho xi ?_);have Bk:Builtin.Dict_items.ownsTuple "dict_itemiterator"=true:=by decide
 simp only [Bk,j6]
 refine sE (a8 ⟨_,rfl,"dict_itemiterator",_,⟨_,dE _ rfl,rfl⟩,vY.lookup,?_⟩)
  (by simp only [sizeOk,Builtin.Dict_items.ownedTupleFields,b9,dO,d8,vF,iZ];lia)
 simpa [rawInt,Builtin.Dict_items.ownedTupleFields] using hQ
variable {it:Addr} {i:Nat} {ov:Value} {Q:Option Value→Shared→Prop}
theorem aaD{ok:Value}(hit:IsItemIter s.heap it d i es.size ep ok ov)
  (hm:mX s.heap d es ep) (aaE:i<es.size)
  (hQ:∀h',IsItemIterOut h' it d (i+1) es.size ep es[i].key es[i].val s.heap.objs.size→
   h'.get? s.heap.objs.size=some {cls:=.type "tuple",data:=.seq #[es[i].key,es[i].val]}→h'.objs.size=s.heap.objs.size+1→
   (∀b o,b≠it→s.heap.get? b=some o→h'.get? b=some o)→Q (some (.ref s.heap.objs.size)) {s with heap:=h'}) :
  wpAny (model prog w) A (pyNext (.ref it)) Q E s:=by
 obtain ⟨hp,g,dr,tk,os⟩:=s;obtain ⟨od,tZ,fb,Bl⟩:=id hm;have hT:Shared.TypeIs ⟨hp,g,dr,tk,os⟩ (.ref it) "dict_itemiterator":=⟨_,hit,rfl⟩;unfold pyNext
 refine au (wpAny_attempt (wpAny_callSpecial?_slot (name:=Str.ofString "__next__") hT vY
  (sI vY hT PySem.F.entry_dict_itemiterator_next ?_ (PySem.F.args_dict_itemiterator_next_1 _))))
 refine au (a8 ?_);refine au ?_;refine au ?_
 first | refine au (Ci hT (a8 ?_)) | refine au (Cj hT (a8 ?_))
 refine au (wpAny_fieldsOf hit rfl ?_);have Bk:Builtin.Dict_items.ownsTuple "dict_itemiterator"=true:=by decide
 simp only [Bk,j6];show wpAny _ _ (if (Value.ref d == Value.none)=true then _ else _) _ _ _
 rw [aa (show ¬((Value.ref d == Value.none)=true) from dN)];refine au (a8 ?_);refine au (wpAny_dictEntries tZ Bl ?_);rw [aa (by simp)]
 refine au (a8 ?_);refine au (wpAny_dictEpoch tZ Bl ?_);rw [aa (by simp)]
 refine a8 ?_;simp only [show ¬((i:Int)<0) from by lia,oR,cZ,zw aaE]
 refine au ?_
 first | refine au (Ci hT (a8 ?_)) | refine au (Cj hT (a8 ?_))
 refine au (FY hT ?_);show wpAny _ _ (setField (.ref it) 3 (rawInt ((i:Int)+1)) >>= _) _ _ ⟨hp,g,dr,tk,os⟩;refine au (zH hit (by simp) fun h₁ Bm Bn=>?_)
 replace Bn:Heap.SameBut it hp h₁:=Bn
 replace Bm:IsItemIter h₁ it d (i+1) es.size ep ok ov:=by
  have e:((i+1:Nat):Int)=(i:Int)+1:=by lia
  unfold IsItemIter;rw [e];simpa [rawInt] using Bm
 have IE:Shared.TypeIs ⟨h₁,g,dr,tk,os⟩ (.ref it) "dict_itemiterator":=⟨_,Bm,rfl⟩;refine au (kM ?_);refine au (FY IE ?_);refine au (FY IE ?_);show wpAny _ _ (Builtin.Dict_items.pairFromOwner (.ref it) 6 es[i].key es[i].val) _ _ ⟨h₁,g,dr,tk,os⟩;unfold Builtin.Dict_items.pairFromOwner;refine au (wpAny_newTuple ?_);have Bo:IsItemIter (h₁.push {cls:=.type "tuple",data:=.seq #[es[i].key,es[i].val]}) it d (i+1) es.size ep ok ov:=bX _ Bm;generalize DR:h₁.push {cls:=.type "tuple",data:=.seq #[es[i].key,es[i].val]}=h₂ at Bo;have DS:h₁.objs.size=hp.objs.size:=Bn.1;have DT:it<hp.objs.size:=a9 hit;have ht₂:h₂.get? hp.objs.size=some {cls:=.type "tuple",data:=.seq #[es[i].key,es[i].val]}:=by rw [←DR,←DS];exact dE _ rfl
 have hz₂:h₂.objs.size=hp.objs.size+1:=by rw [←DR,Heap.size_push,DS]
 have hk₂:∀b o,b≠it→hp.get? b=some o→h₂.get? b=some o:=fun b o hb e=>by rw [←DR];exact bX _ (Bn.extBut b o hb e)
 show wpAny _ _ (Builtin.Dict_items.ownedTupleIsFree (.ref it) >>= _) _ _ ⟨h₂,g,dr,tk,os⟩;rw [DS];clear DR Bm Bn IE DS h₁;refine au ?_;unfold Builtin.Dict_items.ownedTupleIsFree;refine au (wpAny_field Bo rfl (x:=.none) rfl (a8 ?_));simp only [j6];refine au (wpAny_field Bo rfl (x:=ok) rfl ?_);refine au (wpAny_field Bo rfl (x:=ov) rfl ?_);refine au (zH Bo (by simp) fun h₃ IF Bp=>?_)
 replace Bp:Heap.SameBut it h₂ h₃:=Bp
 replace IF:IsItemIter h₃ it d (i+1) es.size ep es[i].key ov:=IF
 refine au (zH IF (by simp) fun h₄ IG Bq=>?_)
 replace Bq:Heap.SameBut it h₃ h₄:=Bq
 replace IG:IsItemIter h₄ it d (i+1) es.size ep es[i].key es[i].val:=IG
 refine au (zH IG (by simp) fun h₅ IH Br=>?_)
 replace Br:Heap.SameBut it h₄ h₅:=Br
 replace IH:IsItemIterOut h₅ it d (i+1) es.size ep es[i].key es[i].val hp.objs.size:=IH
 refine au (zH IH (by simp) fun h₆ II Bs=>?_)
 replace Bs:Heap.SameBut it h₅ h₆:=Bs
 replace II:IsItemIterOut h₆ it d (i+1) es.size ep es[i].key es[i].val hp.objs.size:=II
 refine au (sM (a8 (a8 ⟨_,rfl,a8 (hQ h₆ II ?_ ?_ ?_)⟩)));·exact Bs.extBut _ _ (sC DT) (Br.extBut _ _ (sC DT) (Bq.extBut _ _ (sC DT) (Bp.extBut _ _ (sC DT) ht₂)))
 ·show h₆.objs.size=hp.objs.size+1
  rw [Bs.1,Br.1,Bq.1,Bp.1,hz₂]
 ·exact fun b o hb e=>Bs.extBut b o hb (Br.extBut b o hb (Bq.extBut b o hb (Bp.extBut b o hb (hk₂ b o hb e))))
theorem aaI{ok:Value}(hh:A.handled=none)(hit:IsItemIter s.heap it d i es.size ep ok ov)
  (hm:mX s.heap d es ep) (ud:es.size≤i)
  (hQ:∀h',Heap.ExtBut it s.heap h'→Q none {s with heap:=h'}):wpAny (model prog w) A (pyNext (.ref it)) Q E s:=by
 obtain ⟨od,tZ,fb,Bl⟩:=id hm;have hT:s.TypeIs (.ref it) "dict_itemiterator":=⟨_,hit,rfl⟩;unfold pyNext
 refine au (wpAny_attempt (wpAny_callSpecial?_slot (name:=Str.ofString "__next__") hT vY
  (sI vY hT PySem.F.entry_dict_itemiterator_next ?_ (PySem.F.args_dict_itemiterator_next_1 _))))
 refine au (a8 ?_);refine au ?_;refine au ?_
 first | refine au (Ci hT (a8 ?_)) | refine au (Cj hT (a8 ?_))
 refine au (wpAny_fieldsOf hit rfl ?_);have Bk:Builtin.Dict_items.ownsTuple "dict_itemiterator"=true:=by decide
 simp only [Bk,j6];show wpAny _ _ (if (Value.ref d == Value.none)=true then _ else _) _ _ s
 rw [aa (show ¬((Value.ref d == Value.none)=true) from dN)];refine au (a8 ?_);refine au (wpAny_dictEntries tZ Bl ?_);rw [aa (by simp)]
 refine au (a8 ?_);refine au (wpAny_dictEpoch tZ Bl ?_);rw [aa (by simp)]
 refine a8 ?_;simp only [show ¬((i:Int)<0) from by lia,oR,cZ,Array.getElem?_eq_none ud]
 refine au ?_
 first | refine au (Ci hT (a8 ?_)) | refine au (Cj hT (a8 ?_))
 show wpAny _ _ (setField (.ref it) 2 .none >>= _) _ _ s;refine au (wpAny_setField hit rfl (by simp) ?_)
 show wpAny _ _ (newExc (.type "StopIteration") [] >>= _) _ _ _;refine au ?_;simp only [newExc,newTuple];refine au (sE ?_ (by size_fits))
 refine au (m:=firstArgMember _ _) (wpAny_of_eq (a:=Value.none) (by first | rfl | (simp only [firstArgMember];rfl)) ?_)
 refine sE ?_ (by size_fits)
 simp only [raiseNew];refine au (wpAny_handled ?_);rw [show A.in1.handled=none from hh];refine au (a8 (wpAny_throw ?_));refine au (wpAny_isInstance (T:="StopIteration") (b:=true) ⟨_,dE _ rfl,rfl⟩ isSubtype_stop ?_);exact a8 (hQ _ (((qF ..).extBut.push _).push _))
end
def Bt(a:Addr)(o:Obj)(kvs:List (List Key×V)):It:=
  ⟨fun i H=>H a=some (.bg o (.dT kvs))∧i<kvs.length,
   fun i H x H'=>∃T b kv,H T=none∧x=.ref T∧kvs[i]?=some kv∧H b=some (.tup (kv.1.map kV))∧H'=upd H T (.tup [.ref b,kv.2]),
   fun i H=>H a=some (.bg o (.dT kvs))∧kvs.length≤i⟩
theorem Pc{H:Hp}{kvs:List (List Key×V)}{xs:List (List Key×Addr×Value)}:∀{i:Nat} {kv:List Key×V},KT H kvs xs→kvs[i]?=some kv→∃x,xs[i]?=some x∧H x.2.1=some (.tup (kv.1.map kV))∧RelV kv.2 x.2.2
 | _,_,.nil,h=>by simp at h
 | 0,kv,.cons (b:=b) r _,h=>by simp at h;subst h;exact ⟨b,rfl,r.2.1,r.2.2⟩
 | i+1,kv,.cons _ t,h=>by simp at h;obtain ⟨v,e,r⟩:=Pc t h;exact ⟨v,by simpa using e,r⟩
theorem aaJ:entryFor table "dict_itemiterator.__iter__"=some Builtin.«dict_keyiterator.__iter__»:=entryFor_alias (id':="dict_keyiterator.__iter__") (by kernel_rfl) rfl (by decide +kernel) (by kernel_rfl)
variable {prog:Program} {w:World} {A:Around} {E Q:aO} {s:Shared} {d:Addr} {ep:Nat}
theorem aaK{it:Addr}{i n:Nat}{ok ov:Value}(hit:IsItemIter s.heap it d i n ep ok ov)(h:Q (.ref it) s):wpAny (model prog w) A (pyIter (.ref it)) Q E s:=by have hT:s.TypeIs (.ref it) "dict_itemiterator":=⟨_,hit,rfl⟩;refine wpAny_pyIter_slot hT PySem.F.slot_dict_itemiterator_iter (sI PySem.F.slot_dict_itemiterator_iter hT aaJ ?_ (PySem.F.args_dict_itemiterator_iter_1 _));show wpAny _ _ (ret (.ref it)) _ _ s;exact a8 ⟨_,rfl,"dict_itemiterator",_,hT,vY.lookup,h⟩
theorem aaL{es:Array DictEntry}(hd:(d == sysModules)=false)(hm:mX s.heap d es ep)
  (h:Q (.ref s.heap.objs.size) {s with heap:=s.heap.push {cls:=.type "dict_items",data:=.fields #[.ref d]}}):wpAny (model prog w) A (call (.builtin "dict.items") [.ref d]) Q E s:=by
 refine sI PySem.F.slot_dict_items hm.ty PySem.F.entry_dict_items ?_ (PySem.F.args_dict_items_1 _);refine au ?_;unfold Builtin.Dict.noArgs;refine au (wpAny_notOrdered_dict hm.ty (a8 ?_));show wpAny _ _ (Builtin.Dict.showsAll d >>= _) _ _ s;unfold Builtin.Dict.showsAll;rw [aa (by rw [hd];exact dN)]
 exact au (a8 (au (sE (a8 ⟨_,rfl,h⟩))))
variable {K:aF}
theorem aaM{P:Program}{elts:List Expr}{k:Nat}{pos:Pos}(a it:Addr)(o:Obj)(kvs:List (List Key×V)):Turn P w K (.Tuple elts k pos) (Bt a o kvs) [it] it (fun i h=>∃ok ov,IsItemIter h it a i kvs.length (rA o) ok ov) where
 mem:=by simp
 obj:=fun i h st b hb=>by
  have e:b=it:=by simpa using hb
  subst e;obtain ⟨ok,ov,he⟩:=st;exact ⟨_,he,fun v z=>by cases z⟩
 keep:=fun i h h' st k=>by obtain ⟨ok,ov,he⟩:=st;exact ⟨ok,ov,k it (by simp) _ he⟩
 item:=by
  intro X hP hw hK hc i pins s σ H E I hf st hg;subst hP hw hK;obtain ⟨ok,ov,st⟩:=st;obtain ⟨eH,hi⟩:=hg;obtain ⟨xs,es,r,_,hm,he⟩:=I.Pb eH;have lr:kvs.length=xs.length:=Paired.length r;have sz:=size_of_entries he;have ek:kvs[i]?=some kvs[i]:=by simp [hi]
  obtain ⟨x,ex,bx,rx⟩:=Pc r ek;have sk:kvs.length=es.size:=by lia
  have ba:i<es.size:=by lia
  have ee:=entry_at he i;rw [ex,zw ba] at ee;have ee:=Option.some.inj ee;have ev:es[i].val=x.2.2:=by rw [ee];rfl
  have ey:es[i].key=.ref x.2.1:=by rw [ee];rfl
  rw [sk] at st;refine aaD st hm ba fun h' g1 g3 g4 g5=>⟨_,rfl,?_⟩;refine wpAny_letOwnedTupleGo_items g1 fun jc q1 sb=>?_;have qZ:H s.heap.objs.size=none:=I.ay.fresh (aC _);have lt:∀b o,s.heap.get? b=some o→b≠s.heap.objs.size:=fun b o e=>bW (a9 e);have keep:∀b o,b∉[it]→s.heap.get? b=some o→jc.get? b=some o:=fun b o nb e=>by simp only [bw,gp,j7] at nb;exact sb.extBut _ _ nb (g5 b o nb e)
  have elt:it≠s.heap.objs.size:=lt _ _ st;have pT:=sb.extBut _ _ elt.symm g3;have ig:∀{b:Addr} {o:HO} (e:H b=some o),upd H s.heap.objs.size (.tup [.ref x.2.1,kvs[i].2]) b=some o:=fun e=>by rw [aH (gv e qZ)];exact e
  have ay:cS X.prog X.w (upd H s.heap.objs.size (.tup [.ref x.2.1,kvs[i].2])) jc:=fun b o e=>by
   by_cases hb:b=s.heap.objs.size
   ·subst hb
    rw [ax] at e;cases e;exact ⟨by show 2≤sizeLine;decide,[es[i].key,es[i].val],.cons (by rw [ey];rfl) (.cons (by rw [ev];exact rx) .nil),⟨_,pT,rfl,_,rfl⟩⟩
   ·rw [aH hb] at e
    refine (I.ay b o e).iF (fun c v d5 q=>keep c v (fun m=>?_) q) (fun c q=>ig q) fun c xs q=>ig q;have nn:=(hf c m).1;rcases d5 with rfl | d5;·rw [nn] at e;cases e
    ·rw [nn] at d5;cases d5
  have u1:Un (di X.stack) [it] H (upd H s.heap.objs.size (.tup [.ref x.2.1,kvs[i].2])) s.heap jc:=
   ⟨fun b o e n _ hx=>keep b o hx e,fun b o e n _ hx=>⟨o.slots,keep b o hx e⟩,fun b o e n hx=>by rw [aH (lt b o e)];exact n,fun b o e hx=>⟨o,keep b o hx e⟩,fun b xs e=>ig e,fun b o u e=>ig e,fun b ps e=>⟨#[],by rw [ig e];simp⟩⟩
  refine ⟨.ref s.heap.objs.size,upd H s.heap.objs.size (.tup [.ref x.2.1,kvs[i].2]),I.o_ (s':={s with heap:=jc}) (ch:=[it]) rfl u1 ay I.bare (fun b hb=>?_),rfl,⟨_,x.2.1,kvs[i],qZ,rfl,ek,bx,rfl⟩,?_,fun b hb=>?_⟩
  ·obtain ⟨f0,f1,f2,f3,f4,f5⟩:=hf b hb
   exact ⟨f3,f1,f4,f5⟩
  ·rw [←sk] at q1
   exact ⟨_,_,q1⟩
  ·have nb:b≠s.heap.objs.size:=by
    have e:b=it:=by simpa using hb
    subst e;exact elt
   rw [aH nb];exact (hf b hb).1
 done:=by
  intro X hP hw hK hc i pins s σ H E I hf st hg;subst hP hw hK;obtain ⟨ok,ov,st⟩:=st;obtain ⟨eH,hi⟩:=hg;obtain ⟨xs,es,r,_,hm,he⟩:=I.Pb eH;have lr:kvs.length=xs.length:=Paired.length r;have sz:=size_of_entries he;obtain ⟨f0,f1,f2,f3,f4,f5⟩:=hf it (by simp)
  have sk:kvs.length=es.size:=by lia
  rw [sk] at st;exact aaI (I.ok.hd hc) st hm (by lia) fun h' eb=>⟨rfl,I.turned (t':=s.toks) (fun b o hb e=>eb b o hb e) f0 f1 f3 f4 f5⟩
 self:=fun _ _ _ _ _ st h=>by obtain ⟨ok,ov,st⟩:=st;exact aaK st h
section
variable {X:Cx}
def aaN(tl:TE):TI:=fun σ H R=>tl σ H fun x H1=>∃a kvs,x=.ref a∧H1 a=some (.dT kvs)∧∀o,R (Bt a o kvs) (upd H1 a (.bg o (.dT kvs)))
theorem aaO{l:Expr}{tl:TE}{elts:List Expr}{k:Nat}{nX:Pos}{apos gU:Pos}(hl:PE X l tl)(z9:attributeBase l "items" X.env (eval l X.env)=eval l X.env:=by rfl)(z_:(apos.endLine == gU.line)=true:=by rfl):PI X (.Tuple elts k nX) (.Call (.Attribute l "items" apos) [] [] gU) (aaN tl):=by
 intro pins s σ H R I h;refine wpAny_Call_method0_late z9 z_ (aK (hl pins s σ H _ I h) fun v s1 ⟨x,H1,I1,r1,q1⟩=>?_);obtain ⟨a,kvs,e,eH,q⟩:=q1;subst e;cases r1;obtain ⟨h1,h2⟩:=Gv (x:=.ref a) (v:=.ref a) I1 rfl (show CJ X.K "dict" (.ref a) H1 from .inr (.inr (.inl ⟨rfl,.inr ⟨kvs,eH⟩⟩)));refine ⟨"dict","dict.items",PySem.F.plainAttrs_dict,PySem.F.slot_dict_items,PySem.F.type_dict_items,h1,h2,FI rfl (PySem.evalArgs_none ?_)⟩;obtain ⟨hz,sys,xs,r,o,es,ep,g,c,d,e,nd⟩:=(show cj X.prog X.w H1 s1.heap a (.dT kvs) from I1.ay a _ eH);have I2:Inv X pins σ (upd H1 a (.bg o (.dT kvs))) s1:=I1.write (t':=s1.toks) (x:=a) (e:=a) (by rw [eH];exact trivial) (.inl rfl) (fun b u _ e=>e) ⟨o,g⟩ ⟨g,hz,sys,xs,Paired.Cn r fun p q z=>⟨z.1,(aH (fun y=>by rw [y,eH] at z;cases z.2.1)).trans z.2.1,z.2.2⟩,o,es,ep,g,c,d,e,nd⟩
 have lr:kvs.length=xs.length:=Paired.length r;have sz:=size_of_entries e;have hm:mX s1.heap a es ep:=⟨o,g,c,d⟩;refine aaL sys hm ?_;have I3:Inv X pins σ (upd H1 a (.bg o (.dT kvs))) {s1 with heap:=s1.heap.push {cls:=.type "dict_items",data:=.fields #[.ref a]}}:=I2.kept (t':=s1.toks) fun b o e=>bX _ e;refine aaA (d:=a) ⟨_,dE _ rfl,rfl,rfl⟩ (hm.to fun o e=>bX _ e) ?_;refine ⟨_,[(s1.heap.push {cls:=.type "dict_items",data:=.fields #[.ref a]}).objs.size],_,_,_,rfl,I3.kept (t':=s1.toks) fun b o e=>bX _ e,aaM a _ o kvs,⟨.none,.none,?_⟩,fun b hb=>?_,q o⟩
 ·have eo:rA o=ep:=by unfold rA;rw [d]
  rw [eo,lr,←sz];exact dE _ rfl
 ·have e:b=(s1.heap.push {cls:=.type "dict_items",data:=.fields #[.ref a]}).objs.size:=by simpa using hb
  subst e;exact I3.pB (aC _) (I3.ay.fresh (aC _))
end
variable {a:Addr} {g:TG} {tb:TS} {D:Ends} {σ:St} {H:Hp}
theorem aaP{ob:Obj}{kvs:List (List Key×V)}(Pv:Nat→St→Hp→Prop)(h0:Pv 0 σ H)(hl:∀i σ H,i≤kvs.length→Pv i σ H→H a=some (.bg ob (.dT kvs)))
  (hs:∀(i:Nat) (kv:List Key×V) σ H T b,kvs[i]?=some kv→Pv i σ H→H T=none→H b=some (.tup (kv.1.map kV))→g (.ref T) σ (upd H T (.tup [.ref b,kv.2])) fun σ2 H2=>tb {D with nx:=Pv (i+1),ct:=Pv (i+1),bk:=D.nx} σ2 H2) (hd:∀σ H,Pv kvs.length σ H→D.nx σ H) :
  ∃W:Nat→Nat→St→Hp→Prop,(∃m,W 0 m σ H)∧∀i m σ H,W i m σ H→
   ((Bt a ob kvs).stop i H∧D.nx σ H)∨((Bt a ob kvs).go i H∧∃N:St→Hp→Prop,(∀σ' H',N σ' H'→∃m',m'<m∧W (i+1) m' σ' H')∧∀x H',(Bt a ob kvs).d_ i H x H'→g x σ H' fun σ2 H2=>tb {D with nx:=N,ct:=N,bk:=D.nx} σ2 H2):=by
 refine ⟨fun i m σ H=>m=kvs.length-i∧i≤kvs.length∧Pv i σ H,⟨kvs.length,by simp,cf _,h0⟩,?_⟩
 rintro i m σ H ⟨rfl,hi,p⟩;have q:=hl i σ H hi p;by_cases bh:i<kvs.length
 ·refine .inr ⟨⟨q,bh⟩,Pv (i+1),fun σ' H' p'=>⟨kvs.length-(i+1),by lia,rfl,bh,p'⟩,fun x H' y=>?_⟩
  obtain ⟨T,b,kv,nT,rfl,ek,eb,rfl⟩:=y;exact hs i kv σ H T b ek p nT eb
 ·have e:i=kvs.length:=by lia
  subst e;exact .inl ⟨⟨q,aC _⟩,hd σ H p⟩
section
variable {X:Cx} {tg:Expr}
def iLT(K:aF)(tl:TE):TI:=fun σ H R=>tl σ H fun x H1=>∃a,x=.ref a∧((∃xs,aZ K H1 a xs)∧R (mr K a) H1∨(∃xs,eG K H1 a xs)∧R (pC K a) H1)
theorem aaR{l:Expr}{tl:TE}(hl:PE X l tl):PI X tg l (iLT X.K tl):=by
 intro pins s σ H R I h;refine aK (hl pins s σ H _ I h) fun v s1 ⟨x,H1,I1,r1,q1⟩=>?_;obtain ⟨a,e,q⟩:=q1;subst e;cases r1;rcases q with ⟨⟨xs,hq⟩,q⟩ | ⟨⟨xs,hq⟩,q⟩
 ·obtain ⟨its,rv,p,hz⟩:=I1.list hq
  refine y9 (show s1.heap.IsList a its.toArray from p.isList) ?_;refine ⟨s1.heap.objs.size,[s1.heap.objs.size],_,_,H1,rfl,I1.kept (t':=s1.toks) fun b o e=>bX _ e,LJ a _,⟨_,dE _ rfl,rfl,rfl⟩,fun b hb=>?_,q⟩;have e:b=s1.heap.objs.size:=by simpa using hb
  subst e;exact I1.pB (aC _) (I1.ay.fresh (aC _))
 ·obtain ⟨its,rv,p,hz⟩:=I1.tuple hq
  refine wpAny_pyIter_tuple (show s1.heap.IsTuple a its.toArray from p) ?_;refine ⟨s1.heap.objs.size,[s1.heap.objs.size],_,_,H1,rfl,I1.kept (t':=s1.toks) fun b o e=>bX _ e,LK a _,⟨_,dE _ rfl,rfl,rfl⟩,fun b hb=>?_,q⟩;have e:b=s1.heap.objs.size:=by simpa using hb
  subst e;exact I1.pB (aC _) (I1.ay.fresh (aC _))
end
theorem aaS{xs:List V}{H0:Hp}(e0:H0 a=some (.lst xs)∨H0 a=some (.tup xs))(Pv:Nat→St→Hp→Prop)(h0:Pv 0 σ H)(hl:∀i σ H,i≤xs.length→Pv i σ H→ak H0 H)
  (hs:∀i x σ H,xs[i]?=some x→Pv i σ H→g x σ H fun σ2 H2=>tb {D with nx:=Pv (i+1),ct:=Pv (i+1),bk:=D.nx} σ2 H2) (hd:∀σ H,Pv xs.length σ H→D.nx σ H) :
  (fun(R:It→Hp→Prop)=>(∃xs,aZ K H a xs)∧R (mr K a) H∨(∃xs,eG K H a xs)∧R (pC K a) H) fun J Hx=>∃W:Nat→Nat→St→Hp→Prop,(∃m,W 0 m σ Hx)∧∀i m σ H,W i m σ H→
   (J.stop i H∧D.nx σ H)∨(J.go i H∧∃N:St→Hp→Prop,(∀σ' H',N σ' H'→∃m',m'<m∧W (i+1) m' σ' H')∧∀x H',J.d_ i H x H'→g x σ H' fun σ2 H2=>tb {D with nx:=N,ct:=N,bk:=D.nx} σ2 H2):=by
 rcases e0 with e0 | e0;·exact .inl ⟨⟨xs,.of (hl 0 σ H (cf _) h0 _ _ e0)⟩,s_ Pv h0 (fun i σ H hi p=>.of (hl i σ H hi p _ _ e0)) hs hd⟩
 ·exact .inr ⟨⟨xs,.of (hl 0 σ H (cf _) h0 _ _ e0)⟩,Ge Pv h0 (fun i σ H hi p=>.of (hl i σ H hi p _ _ e0)) hs hd⟩
end L2
namespace My
open PySem L2
def Pd:Sp:=fun vs H Q _=>∃(l r:Addr) (n:Nat) (us ws:List V) (L:ar) (nm:Nat→Int),vs=[.int (n:Int),.ref l,.ref r]∧(H l=some (.lst us)∨H l=some (.tup us))∧bE H us L∧gX n L∧n≤30∧H r=some (.lst ws)∧ws.length=n∧(∀i,i<n→ws[i]?=some (.int (nm i)))∧AL n nm ∧
 ∀(t:Addr) (L':ar) (H':Hp),ak H H'→H t=none→cJ H' t n L'→gX n L'→L'.Pairwise lexLt→L'.Perm (L.map (f_ nm))→Q (.ref t) H'
theorem aaT(vs:List V)(H:Hp)(Q:VK)(E:XK)(h:Nf vs H Q E):Pd vs H Q E:=by obtain ⟨l,r,n,us,ws,L,nm,e,el,q⟩:=h;exact ⟨l,r,n,us,ws,L,nm,e,.inl el,q⟩
variable {f:Nat→Nat} {b:Nat}
theorem Wk.map{bF AZ:Nat→Nat→Prop}{bU pX:Nat→Prop}(ha:∀x y,bF x y→AZ (f x) (f y))(ht:∀x,bU x→pX (f x)){s:Nat}(h:Wk bF bU s b):Wk AZ pX (f s) (f b):=by
 induction h with
 | one h=>exact .one (ha _ _ h)
 | more _ t a ih=>exact .more ih (ht _ t) (ha _ _ a)
variable {n x y:Nat} {L L':ar}
theorem cK.aM(r:cK n L L' f)(h:aL n L x y):aL n L' (f x) (f y):=(r.bF x y h.1 h.2.1).mpr h
theorem idx_map{f:Nat→Nat}{x:Nat}:∀{o:List Nat},(∀y∈o,f y=f x→y=x)→(o.map f).idxOf (f x)=o.idxOf x
 | [],_=>rfl
 | y::o,h=>by
  rw [du,zu,zu];by_cases e:y=x
  ·subst e
   rw [B3,B3];rfl
  ·have e':¬f y=f x:=fun z=>e (h y cG z)
   rw [idx_map fun z hz=>h z (cx _ hz)];rw [y7.mpr e,y7.mpr e']
variable {o:List Nat}
theorem cK.idx(r:cK n L L' f)(ho:o.Perm (List.range n))(hx:x<n):(o.map f).idxOf (f x)=o.idxOf x:=
 idx_map fun y hy e=>r.inj y x (aU.mp (ho.mem_iff.mp hy)) hx e
theorem cK.back(r:cK n L L' f):∃g,cK n L' L g∧(∀x,x<n→g (f x)=x)∧∀x,x<n→f (g x)=x:=by
 let g:Nat→Nat:=fun x=>if h:x<n then Classical.choose (r.m5 x h) else 0
 have gs:∀x,x<n→g x<n∧f (g x)=x:=fun x hx=>by
  show (if h:x<n then Classical.choose (r.m5 x h) else 0)<n∧f (if h:x<n then Classical.choose (r.m5 x h) else 0)=x
  rw [dif_pos hx];exact FT (r.m5 x hx)
 have gf:∀x,x<n→g (f x)=x:=fun x hx=>r.inj _ _ (gs _ (r.lt x hx)).1 hx (gs _ (r.lt x hx)).2;refine ⟨g,⟨fun k hk=>(gs k hk).1,fun j k hj hk e=>?_,fun x hx=>⟨f x,r.lt x hx,gf x hx⟩,fun j k hj hk=>?_⟩,gf,fun x hx=>(gs x hx).2⟩;·rw [←(gs j hj).2,e,(gs k hk).2]
 ·rw [←r.bF (g j) (g k) (gs j hj).1 (gs k hk).1,(gs j hj).2,(gs k hk).2]
theorem cK.wk(r:cK n L L' f)(ho:o.Perm (List.range n))(hx:x<n)(hy:y<n):Wk (aL n L') (eF n (o.map f) ((o.map f).idxOf (f x))) (f x) (f y)↔Wk (aL n L) (eF n o (o.idxOf x)) x y:=by
 rw [r.idx ho hx];constructor
 ·intro h
  obtain ⟨g,rg,gf,fg⟩:=r.back;have:=Wk.map (f:=g) (pX:=eF n o (o.idxOf x)) (fun a b z=>rg.aM z) (fun a ⟨z1,z2⟩=>⟨rg.lt a z1,by have e:=r.idx ho (rg.lt a z1);rw [fg a z1] at e;rw [←e];exact z2⟩) h
  rw [gf x hx,gf y hy] at this;exact this
 ·intro h
  exact Wk.map (f:=f) (fun a b z=>r.aM z) (fun a ⟨z1,z2⟩=>⟨r.lt a z1,by rw [r.idx ho z1];exact z2⟩) h
theorem aaU(a b:Nat):da a b=da b a:=by
 rcases Nat.lt_trichotomy a b with h | h | h;·rw [Bj h,DQ h]
 ·rw [h]
 ·rw [DQ h,Bj h]
variable {M:ar}
theorem Pe(lt:∀z∈M,0≤z.1∧z.1<z.2∧z.2<(n:Int)){a:Nat}:aL n M a b→da a b∈M:=fun⟨_,_,h⟩=>by
 rcases h with h | h
 ·have:=lt _ h
  rw [Bj (by simp only at this;lia)]
  exact h
 ·have:=lt _ h
  rw [DQ (by simp only at this;lia)]
  exact h
theorem aaV(lt:∀z∈M,0≤z.1∧z.1<z.2∧z.2<(n:Int)){z:Int×Int}(hz:z∈M):∃a b:Nat,a<b∧b<n∧z=da a b∧aL n M a b:=by
 have h:=lt z hz;obtain ⟨i,j⟩:=z;simp only at h;obtain ⟨a,rfl⟩:=gq h.1;obtain ⟨b,rfl⟩:=gq (show 0≤j by lia)
 exact ⟨a,b,by lia,by lia,by rw [Bj (by lia)],by lia,by lia,.inl hz⟩
theorem cK.fill{M':ar}(r:cK n L L' f)(rM:cK n M M' f)(ho:o.Perm (List.range n))(fl:dz n L o M)(pw:M'.Pairwise lexLt)(lt:∀z∈M',0≤z.1∧z.1<z.2∧z.2<(n:Int)):dz n L' (o.map f) M':=by
 have key:∀x y,x<n→y<n→o.idxOf x<o.idxOf y→(aL n M x y↔Wk (aL n L) (eF n o (o.idxOf x)) x y):=fun x y hx hy h=>by rw [←p9 fl hx hy h,gJ];exact ⟨fun z=>z.2.2,fun z=>⟨hx,hy,z⟩⟩
 refine ⟨pw,fun z=>⟨fun hz=>?_,?_⟩⟩
 ·obtain ⟨a,b,ab,bn,rfl,h⟩:=aaV lt hz
  obtain ⟨x,hx,rfl⟩:=r.m5 a (by lia)
  obtain ⟨y,hy,rfl⟩:=r.m5 b bn;have hM:=(rM.bF x y hx hy).mp h;have ne:x≠y:=fun e=>by rw [e] at ab;lia
  by_cases c:o.idxOf x<o.idxOf y;·exact ⟨f x,f y,r.lt x hx,r.lt y hy,by rw [r.idx ho hx,r.idx ho hy];exact c,(r.wk ho hx hy).mpr ((key x y hx hy c).mp hM),rfl⟩
  ·have c':o.idxOf y<o.idxOf x:=by have:=mV ho hx hy ne;lia
   exact ⟨f y,f x,r.lt y hy,r.lt x hx,by rw [r.idx ho hx,r.idx ho hy];exact c',(r.wk ho hy hx).mpr ((key y x hy hx c').mp (gH _ _ hM)),aaU _ _⟩
 ·rintro ⟨p,q,hp,hq,h1,h2,rfl⟩
  obtain ⟨x,hx,rfl⟩:=r.m5 p hp;obtain ⟨y,hy,rfl⟩:=r.m5 q hq;rw [r.idx ho hx,r.idx ho hy] at h1;exact Pe lt ((rM.bF x y hx hy).mpr ((key x y hx hy h1).mpr ((r.wk ho hx hy).mp h2)))
theorem Pf{g:Nat→Nat→Nat}{f:Nat→Nat}:∀{l:List Nat},p2 g (l.map f)=p2 (fun x y=>g (f x) (f y)) l
 | []=>rfl
 | x::l=>by show ((l.map f).map (g (f x))).sum+p2 g (l.map f)=(l.map fun y=>g (f x) (f y)).sum+p2 (fun x y=>g (f x) (f y)) l;rw [Pf,cM];rfl
theorem Pg{g:Nat→Nat→Nat→Nat}{f:Nat→Nat}:∀{l:List Nat},p3 g (l.map f)=p3 (fun x y z=>g (f x) (f y) (f z)) l
 | []=>rfl
 | x::l=>by show p2 (g (f x)) (l.map f)+p3 g (l.map f)=p2 (fun y z=>g (f x) (f y) (f z)) l+p3 (fun x y z=>g (f x) (f y) (f z)) l;rw [Pg,Pf]
theorem cK.rl(r:cK n L L' f)(hx:x<n)(hy:y<n):rL L' (f x) (f y)=rL L x y:=by have:=r.bF x y hx hy;rw [qp,gJ,gJ];exact ⟨fun h=>(this.mp ⟨r.lt x hx,r.lt y hy,h⟩).2.2,fun h=>(this.mpr ⟨hx,hy,h⟩).2.2⟩
theorem cK.Ph(r:cK n L L' f):pZ n L'=pZ n L:=by unfold pZ;have e:p3 (gK (rL L')) (List.range n)=p3 (gK (rL L')) ((List.range n).map f):=N3 (N8 L') (N9 L') (r.perm (List.Perm.refl _)).symm;rw [e,Pg];have le:∀{g g':Nat→Nat→Nat→Nat},(∀x,x<n→∀y,y<n→∀z,z<n→g x y z=g' x y z)→p3 g (List.range n)=p3 g' (List.range n):=fun{g g'} h=>Nat.le_antisymm (N5 fun x hx y hy z hz=>zA (h x (aU.mp hx) y (aU.mp hy) z (aU.mp hz))) (N5 fun x hx y hy z hz=>zA (h x (aU.mp hx) y (aU.mp hy) z (aU.mp hz)).symm);exact le fun x hx y hy z hz=>by show gK (rL L') (f x) (f y) (f z)=gK (rL L) x y z;unfold gK;rw [r.rl hx hy,r.rl hx hz,r.rl hy hz]
theorem cK.due(r:cK n L L' f)(len:L'.length=L.length):mW n L'=mW n L:=by unfold mW;rw [len,r.Ph]
theorem aaX(lt:∀z∈L,0≤z.1∧z.1<z.2∧z.2<(n:Int)){r:List Nat}(bare:iV L (r.map iN))(nd:r.Nodup)(rn:∀d∈r,d<n) :
  ∀(i j:Nat) (hi:i<r.length) (hj:j<r.length),i<j→(aL n L r[i] r[j]↔j=i+1∨(i=0∧j=r.length-1)):=by
 obtain ⟨m4,_,pm⟩:=bare;have lm:(r.map iN).length=r.length:=aD ..;rw [lm] at m4;have gz:∀(k:Nat) (hk:k<r.length),(r.map iN).getD k 0=((r[k]:Nat):Int):=fun k hk=>by rw [cg,bo,bP hk];rfl
 have inj:∀(i j:Nat) (hi:i<r.length) (hj:j<r.length),r[i]=r[j]→i=j:=fun i j hi hj e=>(sr nd).mp e;have nx:∀k,k<r.length→(k+1) % r.length<r.length:=fun k _=>Nat.mod_lt _ (by lia)
 have qb:∀k,k<r.length→(k+1<r.length∧(k+1) % r.length=k+1)∨(k=r.length-1∧(k+1) % r.length=0):=fun k hk=>by
  by_cases z:k+1<r.length;·exact .inl ⟨z,zr z⟩
  ·exact .inr ⟨by lia,by rw [show k+1=r.length by lia,zt]⟩
 have mem:∀z,z∈pV L (r.map iN)↔∃k,∃hk:k<r.length,z=(min ((r[k]:Nat):Int) ((r[(k+1) % r.length]'(nx k hk):Nat):Int),max ((r[k]:Nat):Int) ((r[(k+1) % r.length]'(nx k hk):Nat):Int)):=fun z=>by
  rw [←pm.mem_iff];unfold iU;rw [lm,bG];constructor
  ·rintro ⟨k,hk,rfl⟩
   have hk:=aU.mp hk;exact ⟨k,hk,by rw [gz k hk,gz _ (nx k hk)]⟩
  ·rintro ⟨k,hk,rfl⟩
   exact ⟨k,aU.mpr hk,by rw [gz k hk,gz _ (nx k hk)]⟩
 have Pj:∀z,z∈pV L (r.map iN)↔z∈L∧z.1∈r.map iN∧z.2∈r.map iN:=fun z=>by unfold pV;rw [b_,kO,decide_eq_true_eq,decide_eq_true_eq]
 have fw:∀k (hk:k<r.length),aL n L r[k] (r[(k+1) % r.length]'(nx k hk)):=fun k hk=>by
  have h:=((Pj _).mp ((mem _).mpr ⟨k,hk,rfl⟩)).1;refine ⟨rn _ (cB hk),rn _ (cB (nx k hk)),?_⟩;generalize r[(k+1) % r.length]'(nx k hk)=y at h ⊢;generalize r[k]=x at h ⊢;by_cases c:(x:Int)≤(y:Int)
  ·rw [vV c,zF c] at h
   exact .inl h
  ·rw [vW (by lia),zG (by lia)] at h
   exact .inr h
 intro i j hi hj ij;constructor
 ·intro h
  have hm:=Pe lt h;have m1:((r[i]:Nat):Int)∈r.map iN:=bG.mpr ⟨_,cB hi,rfl⟩;have m2:((r[j]:Nat):Int)∈r.map iN:=bG.mpr ⟨_,cB hj,rfl⟩;have hm:da r[i] r[j]∈pV L (r.map iN):=(Pj _).mpr ⟨hm,by
   rcases ID r[i] r[j] with e | e <;> rw [e] <;> assumption,by
   rcases ID r[i] r[j] with e | e <;> rw [e] <;> assumption⟩
  obtain ⟨k,hk,e⟩:=(mem _).mp hm;have key:(r[i]=r[k]∧r[j]=r[(k+1) % r.length]'(nx k hk))∨(r[j]=r[k]∧r[i]=r[(k+1) % r.length]'(nx k hk)):=by rcases ID r[i] r[j] with e' | e' <;> (rw [e'] at e;injection e with e1 e2;lia)
  have hn:=qb k hk;rcases key with ⟨a,b⟩ | ⟨a,b⟩
  ·have a':=inj _ _ hi hk a
   have b':=inj _ _ hj (nx k hk) b;lia
  ·have a':=inj _ _ hj hk a
   have b':=inj _ _ hi (nx k hk) b;lia
 ·rintro (h | ⟨h1,h2⟩)
  ·have:=fw i hi
   have e:(i+1) % r.length=j:=by rw [zr (by lia),h]
   simp only [e] at this;exact this
  ·have:=fw j hj
   have e:(j+1) % r.length=i:=by rw [show j+1=r.length by lia,zt,h1]
   simp only [e] at this;exact gH _ _ this
variable {l:List Nat}
theorem DU(inj:∀j k,j<n→k<n→f j=f k→j=k)(nd:l.Nodup)(lt:∀d∈l,d<n):(l.map f).Nodup:=by rw [nO,jA];exact (nO.mp nd).imp_of_mem fun{a b} ha hb ne e=>ne (inj a b (lt a ha) (lt b hb) e)
theorem cK.bare(r:cK n L L' f)(lt:∀z∈L,0≤z.1∧z.1<z.2∧z.2<(n:Int))(m6:L'.Pairwise lexLt)(lt':∀z∈L',0≤z.1∧z.1<z.2∧z.2<(n:Int)){zs:List Nat}(b:iV L (zs.map iN))(nd:zs.Nodup)(rn:∀d∈zs,d<n):iV L' ((zs.map f).map iN):=by
 have m4:4≤zs.length:=by have:=b.1;rw [aD] at this;exact this
 refine O4 m6 lt' (by rw [aD];exact m4) (DU r.inj nd rn) (fun d hd=>?_) fun i j hi hj ij=>?_
 ·obtain ⟨x,hx,rfl⟩:=bG.mp hd
  exact r.lt x (rn x hx)
 ·rw [aD] at hi hj
  rw [e_,e_,r.bF _ _ (rn _ (cB hi)) (rn _ (cB hj)),aaX lt b nd rn i j hi hj ij,aD]
theorem cK.noFill(r:cK n L L' f)(pw:L.Pairwise lexLt)(lt:∀z∈L,0≤z.1∧z.1<z.2∧z.2<(n:Int))(h:∀o:List Nat,o.Perm (List.range n)→¬dz n L o L):∀o:List Nat,o.Perm (List.range n)→¬dz n L' o L':=fun o ho fo=>by obtain ⟨g,rg,_,_⟩:=r.back;exact h _ (rg.perm ho) (rg.fill rg ho fo pw lt)
theorem cK.aaY(r:cK n L L' f)(ho:o.Perm (List.range n)){p:Nat}(hp:p<n){g g':List Nat}(h:iw n o p g∧jT n L o p g)(h':iw n (o.map f) (f p) g'∧jT n L' (o.map f) (f p) g'):g'.Perm (g.map f):=by
 have nd:∀{l:List Nat},l.Pairwise (· < ·)→l.Nodup:=fun h=>h.imp fun z e=>by lia
 refine (kP (nd h'.1.up) (DU r.inj (nd h.1.up) h.1.lt)).mpr fun q=>?_;constructor
 ·intro hq
  have h1:=(h'.2 q).mp hq;obtain ⟨y,hy,rfl⟩:=r.m5 q h1.1;rw [r.wk ho hp hy,r.idx ho hp,r.idx ho hy] at h1;exact bG.mpr ⟨y,(h.2 y).mpr ⟨hy,h1.2⟩,rfl⟩
 ·intro hq
  obtain ⟨y,hy,rfl⟩:=bG.mp hq;have h1:=(h.2 y).mp hy;refine (h'.2 (f y)).mpr ⟨r.lt y h1.1,?_,(r.wk ho hp h1.1).mpr h1.2.2⟩;rw [r.idx ho hp,r.idx ho h1.1];exact h1.2.1
theorem aaZ{ws:List Int}(pm:ws.Perm (l.map iN))(so:ws.Pairwise (·≤·))(up:l.Pairwise (· < ·)):ws=l.map iN:=by
 refine List.Perm.eq_of_pairwise (le:=(·≤·)) (fun a b _ _ h1 h2=>by lia) so ?_ pm
 rw [jA];exact up.imp fun h=>by unfold iN;lia
theorem aa0{zs ys:List Int}(p:zs.Perm ys):oA 0 zs=oA 0 ys:=by
 have ch:∀{l:List Int},l≠[]→oA 0 l∈l∧∀y∈l,oA 0 l≤y:=fun{l} h=>by
  cases l with
  | nil=>exact absurd rfl h
  | cons z l=>exact fold_min l z
 by_cases e:zs=[]
 ·subst e
  rw [List.nil_perm.mp p]
 ·have e':ys≠[]:=fun z=>e (by subst z;exact List.perm_nil.mp p)
  have a:=ch e;have b:=ch e';have h1:=a.2 _ (p.mem_iff.mpr b.1);have h2:=b.2 _ (p.mem_iff.mp a.1);lia
theorem Pl{S:List Nat}(h:S∈b7 n):S.length≤n:=Bg ((eL.mp h).1.imp fun z e=>by lia) (eL.mp h).2
theorem cK.worth(r:cK n L L' f)(bV:dD n L)(fJ:dD n L'):∀(m:Nat) (S S':List Nat),n-S.length=m→S∈b7 n→S'∈b7 n→(∀x,x<n→(f x∈S'↔x∈S))→wW n L' S'=wW n L S:=by
 intro m
 induction m using Nat.strongRecOn with
 | _ m ih=>
  intro S S' hm hS iX h;rw [DE hS,DE iX];have lm:∀p,p∈cF n S↔p<n∧p∉S:=fun p=>by unfold cF;rw [b_,aU];simp
  have lm':∀p,p∈cF n S'↔p<n∧p∉S':=fun p=>by unfold cF;rw [b_,aU];simp
  have nl:(cF n S).Nodup:=fU.filter _;have pW:(cF n S').Nodup:=fU.filter _;have pm:(cF n S').Perm ((cF n S).map f):=(kP pW (DU r.inj nl fun d hd=>((lm d).mp hd).1)).mpr fun q=>by
   rw [lm',bG];constructor
   ·rintro ⟨q1,q2⟩
    obtain ⟨y,hy,rfl⟩:=r.m5 q q1;exact ⟨y,(lm y).mpr ⟨hy,fun z=>q2 ((h y hy).mpr z)⟩,rfl⟩
   ·rintro ⟨y,hy,rfl⟩
    have hy:=(lm y).mp hy;exact ⟨r.lt y hy.1,fun z=>hy.2 ((h y hy.1).mp z)⟩
  refine (aa0 (pm.map _)).trans ?_;rw [cM]
  congr 1
  refine hE fun p hp=>?_;have hp:=(lm p).mp hp;have hi:=Pa hS hp.1 hp.2;have ba:=Pa iX (r.lt p hp.1) fun z=>hp.2 ((h p hp.1).mp z);have l1:=Pl hi;rw [xc] at l1;show dU n L' S' (f p)+wW n L' (bI S' (f p))=dU n L S p+wW n L (bI S p);rw [r.cost bV fJ h hp.1,ih (n-(S.length+1)) (by lia) (bI S p) (bI S' (f p)) (by rw [xc]) hi ba fun x hx=>?_]
  rw [kD,kD,h x hx];exact ⟨fun z=>z.imp (fun e=>r.inj x p hx hp.1 e) id,fun z=>z.imp (fun e=>by rw [e]) id⟩
theorem cK.aa2(r:cK n L L' f)(bV:dD n L)(fJ:dD n L'):wW n L' []=wW n L []:=
 r.worth bV fJ _ [] [] rfl (eL.mpr ⟨.nil,fun x h=>absurd h (gp)⟩) (eL.mpr ⟨.nil,fun x h=>absurd h (gp)⟩) fun x _=>⟨fun h=>absurd h (gp),fun h=>absurd h (gp)⟩
def aa3(Pt:Addr)(pl:Pos):Sp:=fun vs H Q _=>∃(tp tq l:Addr) (n:Nat) (L L':ar) (f:Nat→Nat),vs=[.ref tp,.ref tq,.ref l]∧cJ H tp n L∧cJ H tq n L'∧L.Pairwise lexLt∧L'.Pairwise lexLt∧(∀z∈L,0≤z.1∧z.1<z.2∧z.2<(n:Int))∧(∀z∈L',0≤z.1∧z.1<z.2∧z.2<(n:Int))∧n≤10∧L'.length≤200∧H l=some (.lst ((List.range n).map fun k=>V.int (f k:Int)))∧cK n L L' f∧dJ Pt pl jo H ∧
 ∀H',eO Pt H H'→dJ Pt pl jo H'→Q (.bl true) H'
theorem Bu{K:aF}{wi:TI}{ρ:St→St}{σ:St}{H:Hp}{Q:VK}{l:Addr}(fE:∀R:It→Hp→Prop,(∀J H1,ak H H1→k8 J (o.map fun k:Nat=>V.int (k:Int)) H1→R J H1)→wi σ H R)(hρ:ρ σ=[some (.ref l)])
  (el:H l=some (.lst ((List.range n).map fun k=>V.int (f k:Int)))) (ho:∀x∈o,x<n) (len:o.length≤1000) (fin:∀D Hc,H D=none→ak H Hc→Hc D=some (.lst ((o.map f).map fun k:Nat=>V.int (k:Int)))→Q (.ref D) Hc):kj wi ρ (fun _ H Q=>Q true H) (pD (Gu K) (Cq 1) (Cq 0)) σ H Q:=by
 refine wK (xs:=o.map fun k:Nat=>V.int (k:Int)) fE (by rw [aD];exact dA len) (fun _ i y _=>∃k,o[i]?=some k∧y=.int (f k:Int)) (fun _ _ _ _ _ _ h _ _=>h) ?_ ?_
 ·intro D i x hx Hc R sc _ kc
  rw [bo] at hx;cases e:o[i]? with
  | none=>rw [e] at hx;cases hx
  | some k=>rw [e] at hx;cases hx;have hk:=ho k (j4 e);rw [hρ];refine ⟨_,rfl,_,rfl,l,_,(k:Int),.int (f k:Int),rfl,rfl,.of (sc _ _ el),n_ ?_,kc _ Hc (ak.refl _) ⟨k,e,rfl⟩⟩;rw [bo,jy hk];rfl
 ·intro D ys Hc nD sc ly hP eD
  refine fin D Hc nD sc ?_;rw [eD]
  congr 2
  rw [aD] at ly;refine fT (by rw [aD,aD,ly]) fun i h1 h2=>?_
  obtain ⟨k,e1,e2⟩:=hP i _ (bP h1);rw [e2,e_,e_];rw [bP (by lia)] at e1
  rw [Option.some.inj e1]
theorem Pm:∀l:List Nat,p2 (fun _ _=>1) l≤l.length*l.length / 2
 | []=>cf _
 | x::l=>by
  have ih:=Pm l;show (l.map fun _=>1).sum+p2 (fun _ _=>1) l≤(l.length+1)*(l.length+1) / 2;have e:(l.map fun _=>1).sum=l.length:=by
   clear ih
   induction l with
   | nil=>rfl
   | cons y l ih=>rw [du,fC,ih,d8];lia
  rw [e];have:(l.length+1)*(l.length+1)=l.length*l.length+2*l.length+1:=by rw [Nat.add_mul,Nat.mul_add];lia
  rw [this];generalize l.length*l.length=q at ih ⊢;lia
theorem aa4(nd:M.Nodup)(lt:∀z∈M,0≤z.1∧z.1<z.2∧z.2<(n:Int)):M.length≤n*n / 2:=by
 rw [N7 nd lt];refine b8 (N4 (g':=fun _ _=>1) fun x _ y _=>?_) ?_
 ·unfold rE
  split <;> decide
 ·have:=Pm (List.range n)
  rw [c_] at this;exact this
theorem aa5(f:dz n L o M):gX n M:=⟨Of f,f.lt,aa4 (Of f) f.lt⟩
end My
namespace L2
open PySem
theorem aa6{te:TE}{t:TA}{σ:St}{H:Hp}{Q:List V→Hp→Prop}(h:te σ H fun x H1=>t σ H1 fun xs H2=>Q (x::xs) H2):wm te t σ H Q:=h
end L2
namespace My
open PySem L2
theorem aa7{n:Nat}{f:Nat→Nat}(qI:∀k,k<n→f k<n)(inj:∀j k,j<n→k<n→f j=f k→j=k){q:List Nat}(hq:q∈b7 n){ws:List Int}(pm:ws.Perm ((q.map f).map iN))(so:ws.Pairwise (·≤·)) :
  ∃S',ws=S'.map iN∧S'∈b7 n∧∀x,x<n→(f x∈S'↔x∈q):=by
 obtain ⟨S',e,ps⟩:=HH pm;have mJ:=eL.mp hq;have nd:S'.Nodup:=ps.nodup_iff.mpr (DU inj (mJ.1.imp fun z e=>by lia) mJ.2)
 have mem:∀x,x∈S'↔∃y∈q,f y=x:=fun x=>by rw [ps.mem_iff,bG]
 refine ⟨S',e,eL.mpr ⟨?_,fun x hx=>?_⟩,fun x hx=>?_⟩
 ·rw [e,jA] at so
  exact (so.and nd).imp fun{a b} h=>by have h1:(a:Int)≤(b:Int):=h.1;have h2:=h.2;lia
 ·obtain ⟨y,hy,rfl⟩:=(mem x).mp hx
  exact qI y (mJ.2 y hy)
 ·rw [mem]
  constructor
  ·rintro ⟨y,hy,e⟩
   rw [←inj y x (mJ.2 y hy) hx e];exact hy
  ·intro h
   exact ⟨x,h,rfl⟩
theorem Pn(q:List Nat):(fS q).map kV=q.map fun k:Nat=>V.int (k:Int):=by unfold fS;rw [cM];rfl
theorem aa8{K:aF}{a:Addr}{xs:List V}{H1:Hp}(h:H1 a=some (.tup xs)):k8 (pC K a) xs H1 where
 go:=fun i Hc s hi=>⟨xs,xs[i],.of (s _ _ h),by simp [hi]⟩
 d_:=fun i Hc x H' s y=>⟨y.1,fun _=>y.2 xs (.of (s _ _ h))⟩
 stop:=fun i Hc s hi=>⟨xs,.of (s _ _ h),hi⟩
end My
set_option maxRecDepth 100000
set_option maxHeartbeats 4000000
namespace My
open PySem L2
def top(i:Nat):Stmt:=PySem.Challenge.pw_bandwright_k32_whole_names_turn_nothing.main.body.getD i (.Pass ⟨0,0,0,0⟩)
abbrev DV:Stmt:=top 5
abbrev DW:Stmt:=top 7
abbrev DX:Stmt:=top 8
abbrev DY:Stmt:=top 9
abbrev DZ:Stmt:=top 11
abbrev D4:Stmt:=top 12
abbrev D5:Stmt:=top 13
abbrev D6:Stmt:=top 14
abbrev D7:Stmt:=top 15
abbrev D8:Stmt:=top 16
abbrev D_:Stmt:=top 17
abbrev Ea:Stmt:=top 18
abbrev Eb:Stmt:=top 20
abbrev Ec:Stmt:=top 21
abbrev Ed:Stmt:=top 22
abbrev Ee:Stmt:=top 23
abbrev Ef:Stmt:=top 24
abbrev Eg:Stmt:=top 25
abbrev Eh:Stmt:=top 26
abbrev Ei:Stmt:=top 27
abbrev Ej:Stmt:=top 28
abbrev Ek:Stmt:=top 29
abbrev El:Stmt:=top 32
abbrev Em:Stmt:=top 33
abbrev En:Stmt:=top 34
abbrev Eo:Stmt:=top 35
abbrev Ep:Stmt:=top 36
abbrev Er:Stmt:=top 37
abbrev Es:Stmt:=top 38
abbrev Et:Stmt:=top 39
abbrev Eu:Stmt:=top 41
abbrev Ew:Stmt:=top 42
abbrev Ex:Stmt:=top 43
abbrev Ey:Stmt:=top 44
abbrev Ez:Stmt:=top 45
abbrev EA:Stmt:=top 46
abbrev EB:Stmt:=top 47
abbrev EC:Stmt:=top 48
abbrev ED:Stmt:=top 49
set_option genInjectivity false in
set_option genSizeOf false in
structure IJ where
 uf:Addr
 xq:FuncData
 ug:Addr
 xr:FuncData
 uh:Addr
 xt:FuncData
 uj:Addr
 xu:FuncData
 um:Addr
 xw:FuncData
 uo:Addr
 xx:FuncData
 ur:Addr
 xA:FuncData
 uu:Addr
 xB:FuncData
 uv:Addr
 xC:FuncData
 uy:Addr
 xD:FuncData
 uz:Addr
 xE:FuncData
 uA:Addr
 xF:FuncData
 uB:Addr
 xG:FuncData
 uC:Addr
 rN:FuncData
 uD:Addr
 xH:FuncData
 uE:Addr
 xI:FuncData
 uF:Addr
 xJ:FuncData
 uG:Addr
 xK:FuncData
 uH:Addr
 xM:FuncData
 uI:Addr
 xN:FuncData
 uJ:Addr
 xO:FuncData
 uK:Addr
 xP:FuncData
 uL:Addr
 xQ:FuncData
 uN:Addr
 xR:FuncData
 uO:Addr
 xS:FuncData
 uP:Addr
 xT:FuncData
 uQ:Addr
 xU:FuncData
 uR:Addr
 xW:FuncData
 uS:Addr
 xX:FuncData
 uT:Addr
 xY:FuncData
 uU:Addr
 xZ:FuncData
 uV:Addr
 x6:FuncData
 uW:Addr
 x8:FuncData
 uX:Addr
 x9:FuncData
 uY:Addr
 x_:FuncData
 uZ:Addr
 ya:FuncData
 rO:Addr
 u0:FuncData
 u4:Addr
 yb:FuncData
 rQ:Addr
 u5:FuncData
 m7:Addr
 yc:Addr
abbrev cO (mg:dh) (x:Str) (f:Addr):Prop:=mg x=some (.ref f)
abbrev Po (K:aF) (a:Addr):Prop:=PySem.W.excIn K a [.type "ValueError",.type "Exception",.type "BaseException",.type "object"] "ValueError.__new__"=true
structure Txt (K:aF) (mg:dh) (t:IJ):Prop where
 u6:aX K "is_whole" DV t.uf t.xq
 IK:Binds K t.xq ["thing"] []
 IL:cO mg "is_whole" t.uf
 yd:aX K "is_place" DW t.ug t.xr
 Pp:Binds K t.xr ["thing","n"] []
 Pq:cO mg "is_place" t.ug
 oE:aX K "neighbours" DX t.uh t.xt
 ye:Binds K t.xt ["shape"] []
 yf:cO mg "neighbours" t.uh
 u7:aX K "triangles" DY t.uj t.xu
 IM:Binds K t.xu ["shape"] []
 IP:cO mg "triangles" t.uj
 yg:aX K "is_order" DZ t.um t.xw
 Pr:Binds K t.xw ["thing","n"] []
 Pu:cO mg "is_order" t.um
 yh:aX K "check_order" D4 t.uo t.xx
 Pw:Binds K t.xx ["order","n"] []
 Px:cO mg "check_order" t.uo
 yi:aX K "turns_of" D5 t.ur t.xA
 Py:Binds K t.xA ["order"] []
 Pz:cO mg "turns_of" t.ur
 yj:aX K "link_all" D6 t.uu t.xB
 PB:Binds K t.xB ["linked","places"] []
 PD:cO mg "link_all" t.uu
 qc:aX K "later" D7 t.uv t.xC
 Bv:Binds K t.xC ["shape","order"] []
 Bw:cO mg "later" t.uv
 rR:aX K "filled" D8 t.uy t.xD
 EE:Binds K t.xD ["shape","order"] []
 EF:cO mg "filled" t.uy
 u9:aX K "place_deeds" D_ t.uz t.xE
 IQ:Binds K t.xE ["many"] []
 IS:cO mg "place_deeds" t.uz
 rS:aX K "deeds" Ea t.uA t.xF
 EG:Binds K t.xF ["shape","order"] []
 EH:cO mg "deeds" t.uA
 u_:aX K "is_perfect" Eb t.uB t.xG
 IT:Binds K t.xG ["shape","order"] []
 IU:cO mg "is_perfect" t.uB
 yk:aX K "likely_order" Ec t.uC t.rN
 PF:Binds K t.rN ["shape"] []
 PH:cO mg "likely_order" t.uC
 yl:aX K "walk_back" Ed t.uD t.xH
 PJ:Binds K t.xH ["whence","place"] []
 PK:cO mg "walk_back" t.uD
 ym:aX K "unmet" Ee t.uE t.xI
 PL:Binds K t.xI ["linked","whence","place"] []
 PM:cO mg "unmet" t.uE
 yn:aX K "ring_over" Ef t.uF t.xJ
 PN:Binds K t.xJ ["linked","place","start"] []
 PQ:cO mg "ring_over" t.uF
 yo:aX K "bare_ring" Eg t.uG t.xK
 PR:Binds K t.xK ["shape"] []
 PU:cO mg "bare_ring" t.uG
 va:aX K "perfect" Eh t.uH t.xM
 IV:Binds K t.xM ["shape"] []
 IW:cO mg "perfect" t.uH
 yp:aX K "ring_links" Ei t.uI t.xN
 PV:Binds K t.xN ["places"] []
 PX:cO mg "ring_links" t.uI
 yq:aX K "links_among" Ej t.uJ t.xO
 PY:Binds K t.xO ["shape","places"] []
 PZ:cO mg "links_among" t.uJ
 yr:aX K "is_bare_ring" Ek t.uK t.xP
 P1:Binds K t.xP ["shape","places"] []
 P2:cO mg "is_bare_ring" t.uK
 vc:aX K "check_size" El t.uL t.xQ
 IY:Binds K t.xQ ["shape"] []
 IZ:cO mg "check_size" t.uL
 yt:aX K "still_near" Em t.uN t.xR
 P4:Binds K t.xR ["linked","done","place"] []
 P5:cO mg "still_near" t.uN
 yu:aX K "cost" En t.uO t.xS
 P6:Binds K t.xS ["shape","done","place"] []
 P7:cO mg "cost" t.uO
 yw:aX K "rising_tuples" Eo t.uP t.xT
 P8:Binds K t.xT ["n"] []
 P9:cO mg "rising_tuples" t.uP
 vd:aX K "and_done" Ep t.uQ t.xU
 I0:Binds K t.xU ["done","place"] []
 I_:cO mg "and_done" t.uQ
 ve:aX K "choices" Er t.uR t.xW
 Ja:Binds K t.xW ["shape","done","worth_of"] []
 Jb:cO mg "choices" t.uR
 rT:aX K "worths" Es t.uS t.xX
 EI:Binds K t.xX ["shape"] []
 EJ:cO mg "worths" t.uS
 vf:aX K "fewest" Et t.uT t.xY
 Jc:Binds K t.xY ["shape"] []
 Jd:cO mg "fewest" t.uT
 yy:aX K "_law_fill" Eu t.uU t.xZ
 P_:Binds K t.xZ ["_law_cell","_law_at"] []
 Qa:cO mg "_law_fill" t.uU
 jr:aX K "_law_next" Ew t.uV t.x6
 m8:Binds K t.x6 ["_law_pen","_law_many"] []
 m9:cO mg "_law_next" t.uV
 rU:aX K "_law_turned" Ex t.uW t.x8
 EK:Binds K t.x8 ["_law_pen","_law_some"] []
 EL:cO mg "_law_turned" t.uW
 yA:aX K "_law_tied_by" Ey t.uX t.x9
 Qb:Binds K t.x9 ["_law_pen","_law_way","_law_size","_law_wide","_law_i","_law_j"] []
 Qc:cO mg "_law_tied_by" t.uX
 yB:aX K "_law_grown_links" Ez t.uY t.x_
 Qd:Binds K t.x_ ["_law_pen","_law_size"] []
 Qe:cO mg "_law_grown_links" t.uY
 yC:aX K "_law_drawn" EA t.uZ t.ya
 Qf:Binds K t.ya ["_law_pen","_law_most"] []
 Qg:cO mg "_law_drawn" t.uZ
 rV:aX K "_law_named" EB t.rO t.u0
 EM:Binds K t.u0 ["_law_size","_law_links","_law_names"] []
 EN:cO mg "_law_named" t.rO
 yE:aX K "_law_told_alike" EC t.u4 t.yb
 Qh:Binds K t.yb ["_law_shape","_law_other","_law_names"] []
 Qi:cO mg "_law_told_alike" t.u4
 yF:aX K "law" ED t.rQ t.u5
 aa9:Binds K t.u5 ["script"] []
 Qj:cO mg "law" t.rQ
 Qk:cO mg "NoOrder" t.m7
 Ql:cO mg "NoSize" t.yc
 aa_:mg "ValueError"=none
 Je:mg "all"=none
 aba:mg "any"=none
 Qm:mg "bool"=none
 EO:mg "enumerate"=none
 Qn:mg "int"=none
 ER:mg "isinstance"=none
 iy:mg "len"=none
 qd:mg "list"=none
 Bx:mg "max"=none
 yG:mg "min"=none
 ju:mg "range"=none
 Qo:mg "reversed"=none
 Qp:mg "set"=none
 oF:mg "sorted"=none
 Qq:mg "sum"=none
 By:mg "tuple"=none
 Qr:mg "zip"=none
 Qs:∃u,mg "MOST"=some u∧RelV (.int 9) u
 Qt:Po K t.m7
 Qu:Po K t.yc
 tab:L2.tabIn K t.rN 132=true
 Qv:K.lookup 132=none
section
variable {P:Program} {w:World} {K:aF} {mg:dh} {base:Heap} {t:IJ}
theorem abb:ck ["thing"] ["thing"] (bC DV):=cT
theorem Qw(T:Txt K mg t):bL P w K mg base cQ 1 t.uf t.xq ["thing"] Vn:=by
 have S:=abb;refine T.u6.eE S (fun _ _ _ _ H _ Q _ hr h=>?_);obtain ⟨v,rfl,ha,k⟩:=h;refine ⟨_,(aI (bK (LC (dg (GH (K:=K)) rfl T.ER boot_isinstance (aj (pv 0) (aj (F5 (v:=.ty "int") rfl T.Qn boot_int rfl) aq))) (F7 (SY (dg (GH (K:=K)) rfl T.ER boot_isinstance (aj (pv 0) (aj (F5 (v:=.ty "bool") rfl T.Qm boot_bool rfl) aq)))))))),?_⟩;obtain ⟨Ty,ty,k1,k2,_⟩:=ha.GF (K:=K);refine ⟨_,rfl,_,_,_,_,rfl,rfl,ty,k1,_,rfl,dS (fun h1=>?_) (fun h1=>?_)⟩
 ·refine ⟨_,rfl,_,_,_,_,rfl,rfl,ty,k2,_,rfl,?_⟩
  have e:(!wI v)=wH v:=by
   cases h2:wI v with
   | true=>rw [Vm h2];rfl
   | false=>rw [h2,Bool.or_false] at h1;rw [h1];rfl
  show Q (.bl (!wI v)) H;rw [e];exact k
 ·have e:wH v=false:=by
   cases h2:wH v with
   | true=>rw [h2] at h1;exact absurd rfl h1
   | false=>rfl
  rw [e] at k;exact k
theorem abc:ck ["thing","n"] ["thing","n"] (bC DW):=cT
theorem abd(T:Txt K mg t):bL P w K mg base cQ 2 t.ug t.xr ["thing","n"] XY:=by
 have S:=abc;refine T.yd.eE S (fun _ _ _ _ H _ _ _ hr h=>?_);obtain ⟨z,n,rfl,k⟩:=h;refine ⟨_,(aI (bK (LC (a_ (Qw T) hr T.IL T.u6.kp T.IK bZ (aj (pv 0) aq)) (F7 (Tw LU zW aN (pv 0) (pv 1)))))),?_⟩;refine ⟨_,rfl,.int z,rfl,.int z,true,rfl,wx ?_⟩;refine ⟨_,rfl,0,z,rfl,rfl,_,rfl,dS (fun h1=>?_) (fun h1=>?_)⟩
 ·refine ⟨_,rfl,z,(n:Int),rfl,rfl,?_⟩
  have Jf:=fB h1;rw [show decide (0≤z∧z<(n:Int))=decide (z<(n:Int)) by simp [Jf]] at k
  exact k
 ·have Jf:¬(0≤z):=fun e=>h1 (bA e)
  rw [show decide (0≤z∧z<(n:Int))=false by simp [Jf]] at k
  exact k
theorem abe:ck ["shape","linked","i","j"] ["shape"] (bC DX):=cT
theorem Bz(T:Txt K mg t):bL P w K mg base cQ 1 t.uh t.xt ["shape"] Xb:=by
 have S:=abe;refine T.oE.eE S (fun _ _ _ _ H _ _ _ hr h=>?_);obtain ⟨tp,n,L,rfl,⟨lt,us,d6,elt,hL⟩,ok,n9,kk⟩:=h;have hu:=i4 (md (show 1≤64 by decide) _) hr.units
 have Qx:((List.range n).map fun i:Nat=>V.int (0+(i:Int))).length=n:=by rw [aD,c_]
 refine ⟨_,(aE (Aq (i0:=1) (N:=["place"]) (ρ:=(fun σ=>[])) (fY [] rfl) rfl S.nd rfl (Or.inl rfl) (qN rfl T.ju (aj (bj eV (pv 0) aN) aq)) (fun _ _ _=>.nil) (fun _ _ _=>W3))
  (aE (fi eQ rfl (Cy (bj eV (pv 0) aN)) (pj rfl (gR (df (i:=2) S.nd rfl (Or.inl rfl)) (gR (df (i:=3) S.nd rfl (Or.inl rfl)) ph)))
   (aE (wZ hu (bj dR (pv 1) (pv 2)) (pv 3) hU rfl)
  (aI (wZ hu (bj dR (pv 1) (pv 3)) (pv 2) hU rfl))))
  (aI (bK (pv 1))))),?_⟩
 refine dB (pJ (MQ (xs:=(List.range n).map fun i:Nat=>V.int (0+(i:Int))) (n:=n) Qx (fun R h=>⟨_,rfl,tp,_,_,_,rfl,rfl,.of d6,rfl,(n:Int),rfl,by lia,by lia,h _ _ (ak.refl _) (by rw [cZ];exact MG)⟩) (dA (by lia)) (fun _ i y Hx=>Hx y=some (.dK (dk []))∧H y=none) ?_ ?_ ?_))
 ·intro D i y Ha Hb ys ⟨h1,h2⟩ hy e f
  exact ⟨f y _ hy h1,h2⟩
 ·intro D i x hx Hc R sc _ kc
  refine fun p np=>kc p _ (gD (ak.refl _) np) np ⟨_,ax⟩ ⟨ax,?_⟩;cases e:H p with
  | none=>rfl
  | some o=>rw [sc _ _ e] at np;cases np
 ·intro D ds H1 nD s1 inj hA eD
  have K0:eK H1 D n ds (fun _=>True) (fun _=>[]):=⟨eD,inj,fun i hi=>(hA i hi).2,fun i hi _=>(hA i hi).1.1,fun i _=>jl.nil n⟩;have fr:∀i,i<n→H (ds i)=none:=fun i hi=>(hA i hi).1.2;dsimp only [a7];refine dB ⟨_,rfl,tp,_,_,_,rfl,rfl,.of (s1 _ _ d6),rfl,lt,rfl,⟨_,.of (s1 _ _ elt)⟩,?_⟩;refine Ge (K:=K) (a:=lt) (xs:=us) (fun k σ Hc=>∃(f:Nat→List Nat) (v2 v3:Option V),σ=[some (.ref tp),some (.ref D),v2,v3]∧ak H Hc∧eK Hc D n ds (fun _=>True) f∧gZ n (L.take k) f) ⟨_,_,_,rfl,s1,K0,gZ.nil n⟩ (fun k σ Hc _ ⟨_,_,_,_,sc,_⟩=>.of (sc _ _ elt)) ?_ ?_
  ·rintro k x σ Hc hx ⟨f,v2,v3,rfl,ao⟩
   have sc:=ao.1;have KL:=ao.2.1;have nb:=ao.2.2;clear ao;have hk:k<L.length:=by rw [←hL.1];exact (bJ.mp hx).1
   obtain ⟨b,rfl,eb⟩:=hL.2 k x L[k] hx (by simp [hk])
   have pk:=ok L[k] (cB hk);have tk:L.take (k+1)=L.take k++[L[k]]:=by rw [nN,bP hk];rfl
   generalize L[k]=p at eb pk tk;obtain ⟨p1,p2⟩:=p;dsimp only at pk eb;obtain ⟨i,rfl⟩:=gq pk.1;obtain ⟨j,rfl⟩:=gq pk.2.2.1;have hi:i<n:=by lia
   have hj:j<n:=by lia
   refine ⟨b,_,rfl,.of (sc _ _ eb),rfl,_,_,rfl,_,_,rfl,rfl,?_⟩;obtain ⟨q1,K1⟩:=KL.put hi hj trivial n9;obtain ⟨q2,K2⟩:=K1.put hj hi trivial n9;refine ⟨_,rfl,_,rfl,D,_,_,_,rfl,rfl,.of KL.lst,KL.ix hi,_,rfl,_,_,rfl,q1,?_⟩;refine ⟨_,rfl,_,rfl,D,_,_,_,rfl,rfl,.of K1.lst,K1.ix hj,_,rfl,_,_,rfl,q2,?_⟩;have off:∀(Hx:Hp) (i:Nat) (o:HO),i<n→ak H Hx→ak H (upd Hx (ds i) o):=fun Hx i o hi sx a u e=>by
    rw [aH (fun z=>by rw [z,fr i hi] at e;cases e)]
    exact sx _ _ e
   exact ⟨_,_,_,rfl,off _ _ _ hj (off _ _ _ hi sc),K2,by rw [tk];exact nb.more hi hj⟩
  ·rintro σ Hc ⟨f,v2,v3,rfl,aG⟩
   have sc:=aG.1;have KL:=aG.2.1;have nb:=aG.2.2;clear aG;rw [hL.1,iD] at nb;exact ⟨_,rfl,kk _ _ _ _ sc nD fr KL nb⟩
theorem abf:ck ["many"] ["many"] (bC D_):=cT
theorem Qy(T:Txt K mg t):bL P w K mg base cQ 1 t.uz t.xE ["many"] XC:=by have S:=abf;refine T.u9.eE S (fun _ _ _ _ H _ _ _ hr h=>?_);obtain ⟨m,rfl,m1,k⟩:=h;refine ⟨_,(aI (bK (cC kW (cC kW (cC mw (pv 0) (pv 0)) (cC mw aN (pv 0))) aN))),?_⟩;exact ⟨_,rfl,_,rfl,_,_,rfl,rfl,.inl ⟨by lia,by lia⟩,_,rfl,_,_,rfl,rfl,.inl ⟨by lia,by lia⟩,_,_,rfl,rfl,_,_,rfl,rfl,k⟩
theorem abg:ck ["shape"] ["shape"] (bC El):=cT
theorem Qz(T:Txt K mg t):bL P w K mg base (fX P w) 1 t.uL t.xQ ["shape"] XD:=by
 have S:=abg;obtain ⟨uM,hM,rM⟩:=T.Qs;refine T.vc.gC S (fun _ _ _ _ H _ _ _ hr h L=>?_);obtain ⟨tp,n,Lk,rfl,⟨lt,us,d6,elt,mF⟩,n9,k⟩:=h;refine ⟨_,(aI (dF (dv pE (bj eV (pv 0) aN) (SO (v:=.int 9) rfl hM rM)) (aI (Mu L rfl PySem.F.excBase_ValueError T.Qu rfl T.Ql (aj zO aq))) dP)),?_⟩;refine ⟨_,rfl,tp,_,_,_,rfl,rfl,.of d6,rfl,_,_,rfl,rfl,_,rfl,dS (fun hc=>?_) (fun hc=>?_)⟩
 ·have hc:(9:Int)<(n:Int):=fB hc
  lia
 ·exact k
theorem abh:ck ["thing","n"] ["thing","n"] (bC DZ):=cT
theorem abi(T:Txt K mg t):bL P w K mg base cQ 2 t.um t.xw ["thing","n"] Xg:=by
 have S:=abh;refine T.yg.eE S (fun _ _ _ _ H _ _ _ hr h=>?_);obtain ⟨a,zs,n,rfl,ea,m_,n1,k⟩:=h;have iY:=hr.units
 refine ⟨_,(aE (dF (PW.pt (pw_or (zR (sV (dg (GH (K:=K)) rfl T.ER boot_isinstance (aj (pv 0) (aj (F5 (v:=.ty "list") rfl T.qd boot_list rfl) aq))))) (pw_or1 (zR (sV (dg (MC (K:=K) rfl) rfl T.Je boot_all (aj (jb (N:=["place"]) (ρ:=(fun σ=>[])) (fY [] rfl) rfl (fW (pv 0)) (fun _ _ _=>.nil) (fun _ _ _=>(a_ (Qw T) hr T.IL T.u6.kp T.IK bZ (aj (pv 0) aq)))) aq))))))) (aI (bK hU)) dP)
  (aI (bK (pF (Xd iY) (dg Dm rfl T.oF oX (aj (pv 0) aq)) (iK (Ao rfl) rfl T.qd boot_list (aj (iK An rfl T.ju Ap (aj (pv 1) aq)) aq)))))),?_⟩
 refine ⟨_,rfl,_,_,_,true,rfl,rfl,.of (.lst ea),Vl,true,rfl,ie ?_⟩;unfold F6 tB;refine q_ (MK (xs:=zs.map V.int) (fun R h=>⟨_,rfl,a,rfl,⟨_,.of ea⟩,h _ _ (ak.refl _) (ko (.of ea))⟩) (by rw [aD];exact dA (by lia)) (fun _ i y _=>y=.bl true) (fun _ _ _ _ _ _ h _ _=>h) ?_ ?_)
 ·intro D i v hi Hc R sc _ kc
  obtain ⟨z,rfl⟩:∃z:Int,v=.int z:=by
   rw [bo] at hi;cases e:zs[i]? with
   | none=>rw [e] at hi;cases hi
   | some z=>rw [e] at hi;exact ⟨z,(Option.some.inj hi).symm⟩
  exact ⟨_,rfl,.int z,rfl,.int z,kc _ Hc (ak.refl _) rfl⟩
 ·intro D ys Hc sc ng hP eD
  refine ⟨D,List.replicate ys.length true,rfl,.of (by rw [eD];exact dM _ (dM _ (VH hP))),?_⟩
  rw [VI];refine ⟨true,rfl,ie ?_⟩;dsimp only [i6];have eac:=sc _ _ ea;refine ⟨_,rfl,a,zs,rfl,eac,m_,fun ws D2 p o n2=>?_⟩;refine ⟨_,rfl,(n:Int),rfl,fun p1 Jg=>⟨p1,n,rfl,ax,by lia,fun l nl=>?_⟩⟩
  have d1:D2≠p1:=fun z=>by rw [←z,ax] at Jg;cases Jg
  have d2:D2≠l:=fun z=>by rw [←z,aH d1,ax] at nl;cases nl
  refine ⟨D2,l,ws,(List.range n).map iN,rfl,rfl,.of ?_,.of ?_,?_⟩;·rw [aH d2,aH d1,ax]
  ·rw [ax]
   unfold dw;rw [cM];rfl
  ·rw [Xf p o]
   exact k _ (tS (tS (tS sc n2) Jg) nl)
theorem abk:ck ["order","n"] ["order","n"] (bC D4):=cT
theorem abl(T:Txt K mg t):bL P w K mg base (fX P w) 3 t.uo t.xx ["order","n"] (Xh t.m7):=by
 have S:=abk;refine T.yh.gC S (fun _ _ _ _ H _ _ _ hr h L=>?_);obtain ⟨a,zs,n,rfl,ea,m_,n1,kE,k⟩:=h;refine ⟨_,(aI (dF (zR (sV (a_ (abi T) hr T.Pu T.yg.kp T.Pr bZ (aj (pv 0) (aj (pv 1) aq))))) (aI (Mu L rfl PySem.F.excBase_ValueError T.Qt rfl T.Qk (aj zO aq))) dP)),?_⟩;refine ⟨_,rfl,_,rfl,a,zs,n,rfl,ea,m_,n1,fun H1 s1=>⟨_,rfl,dS (fun hb=>?_) (fun hb=>?_)⟩⟩;·exact ⟨by show 1≤sizeLine;decide,kE (by simpa using hb) _ s1⟩
 ·exact k (by simpa using hb) _ s1
theorem abm:ck ["order","turns","turn","place"] ["order"] (bC D5):=cT
theorem abn(T:Txt K mg t):bL P w K mg base cQ 1 t.ur t.xA ["order"] Xj:=by
 have S:=abm;refine T.yi.eE S (fun _ _ _ _ H _ _ _ hr h=>?_);obtain ⟨a,n,o,rfl,⟨ea,ho⟩,n1,kk⟩:=h;have lo:=w5 ho;have lm:(o.map fun k:Nat=>V.int (k:Int)).length=n:=by rw [aD,lo]
 refine ⟨_,(aE (putL 1 S.nd (cC Mq (fD (aj aN aq)) (dg jG rfl T.iy iE (aj (pv 0) aq))))
  (aE (fi eQ rfl (GS rfl T.EO (aj (pv 0) aq)) (pj rfl (gR (df (i:=2) S.nd rfl (Or.inl rfl)) (gR (df (i:=3) S.nd rfl (Or.inl rfl)) ph)))
   (aI (@wb _ _ _ _ _ _ (pv 2) (zT (pv 1) (pv 3) set_list) (by rfl) (by rfl) (by rfl))))
  (aI (bK (pv 1))))),?_⟩
 refine ⟨by show 1≤sizeLine;decide,fun l nl=>?_⟩
 have al:a≠l:=fun z=>by rw [z,nl] at ea;cases ea
 refine ⟨_,rfl,a,_,rfl,.inl (.of (by rw [aH al];exact ea)),l,_,_,rfl,rfl,ax,by lia,by rw [lm];lia,?_,fun c nc=>?_⟩
 ·rw [lm,cZ]
  show 1*n≤sizeLine;rw [iZ];lia
 rw [lm,cZ,Xm n o];have QA:H c=none:=none_of (aS nl) nc;have s0:ak H (upd (upd H l (.lst [.int 0])) c (.lst ((List.range n).map fun p=>V.int (lG o 0 p)))):=(aS nl).trans (aS nc);have e0:upd (upd H l (.lst [.int 0])) c (.lst ((List.range n).map fun p=>V.int (lG o 0 p))) c=_:=ax;generalize upd (upd H l (.lst [.int 0])) c (.lst ((List.range n).map fun p=>V.int (lG o 0 p)))=H0 at s0 e0 ⊢;dsimp only [a7];refine dB ⟨_,rfl,a,rfl,⟨_,.of (s0 _ _ ea)⟩,?_⟩
 refine GU (K:=K) (l:=a) (xs:=o.map fun k:Nat=>V.int (k:Int)) (fun i σ Hc=>ak H Hc∧∃(v2 v3:Option V),σ=[some (.ref a),some (.ref c),v2,v3]∧Hc c=some (.lst ((List.range n).map fun p=>V.int (lG o i p))))
  ⟨s0,_,_,rfl,e0⟩ (fun i σ Hc ⟨z,_⟩=>.of (z _ _ ea)) ?_ ?_
 ·rintro i x σ Hc Tt hx ⟨sc,v2,v3,rfl,ec⟩ nT
  have hi:i<o.length:=by have:=(bJ.mp hx).1;simpa using this
  have ex:x=.int ((o[i]:Nat):Int):=by rw [bo] at hx;simp [hi] at hx;exact hx.symm
  subst ex;have hp:o[i]<n:=(gG ho).mp (cB hi);have sT:ak Hc (upd Hc Tt (.tup [.int (i:Int),.int ((o[i]:Nat):Int)])):=aS nT;have eT:upd Hc Tt (.tup [.int (i:Int),.int ((o[i]:Nat):Int)]) Tt=_:=ax;generalize upd Hc Tt (.tup [.int (i:Int),.int ((o[i]:Nat):Int)])=H1 at sT eT ⊢;refine ⟨Tt,_,rfl,.of eT,rfl,_,_,rfl,_,_,rfl,rfl,?_⟩;refine ⟨_,rfl,_,rfl,_,rfl,c,_,_,o[i],rfl,rfl,sT _ _ ec,by rw [aD,c_];exact NF hp,?_⟩
  exact ⟨gD (sc.trans sT) QA,_,_,rfl,by rw [ax,Xl ho hi]⟩
 ·rintro σ Hc ⟨sc,v2,v3,rfl,ec⟩
  rw [aD,Xn ho] at ec;exact ⟨_,rfl,kk c Hc sc QA ec⟩
theorem abo:ck ["linked","places","one","other"] ["linked","places"] (bC D6):=cT
theorem abp(T:Txt K mg t):bL P w K mg base cQ 1 t.uu t.xB ["linked","places"] Xo:=by
 have S:=abo;refine T.yj.eE S (fun _ _ _ _ H _ _ _ hr h=>?_);obtain ⟨D,pl,n,ds,un,f,ps,rfl,ao⟩:=h;have KL:=ao.1;have yH:=ao.2.1;have hps:=ao.2.2.1;have n9:=ao.2.2.2.1;have kk:=ao.2.2.2.2;clear ao;have hu:=i4 (md (show 1≤64 by decide) _) hr.units
 have cY:∀i,i<n→un i→pl≠ds i:=fun i hi ui z=>by rw [z,KL.at' i hi ui] at yH;cases yH
 have QB:∀{i:Nat} {x:V},(ps.map fun k:Nat=>V.int (k:Int))[i]?=some x→∃p:Nat,ps[i]?=some p∧x=.int (p:Int)∧p<n∧un p:=fun{i x} hx=>by
  rw [bo] at hx;cases e:ps[i]? with
  | none=>rw [e] at hx;cases hx
  | some p=>rw [e] at hx;exact ⟨p,rfl,(Option.some.inj hx).symm,hps p (j4 e)⟩
 refine ⟨_,(aI (fi eQ rfl (fW (pv 1)) (df (i:=2) S.nd rfl (Or.inl rfl))
   (aI (fi eQ rfl (fW (pv 1)) (df (i:=3) S.nd rfl (Or.inl rfl))
   (aI (dF (dv n4 (pv 2) (pv 3)) (aI (wZ hu (bj dR (pv 0) (pv 2)) (pv 3) hU rfl)) dP)))))),?_⟩
 refine ⟨_,rfl,pl,rfl,⟨_,.of yH⟩,?_⟩;refine s_ (K:=K) (a:=pl) (xs:=ps.map fun k:Nat=>V.int (k:Int)) (fun i σ Hc=>∃(g:Nat→List Nat) (v2 v3:Option V),σ=[some (.ref D),some (.ref pl),v2,v3]∧rB n ds un H Hc∧eK Hc D n ds un g∧iS n f ps i 0 g) ⟨f,_,_,rfl,.refl,KL,iS.start n f ps⟩ (fun i σ Hc _ ⟨_,_,_,_,oc,_⟩=>.of (oc _ _ yH cY)) ?_ ?_
 ·rintro i x σ Hc hx ⟨g,v2,v3,rfl,aG⟩
  have oc:=aG.1;have Kc:=aG.2.1;have la:=aG.2.2;clear aG;obtain ⟨p,hp,rfl,pn,up⟩:=QB hx;refine ⟨_,rfl,pl,rfl,⟨_,.of (oc _ _ yH cY)⟩,?_⟩;refine s_ (K:=K) (a:=pl) (xs:=ps.map fun k:Nat=>V.int (k:Int)) (fun j σ Hd=>∃(g:Nat→List Nat) (v3:Option V),σ=[some (.ref D),some (.ref pl),some (.int (p:Int)),v3]∧rB n ds un H Hd∧eK Hd D n ds un g∧iS n f ps i j g) ⟨g,_,rfl,oc,Kc,la⟩ (fun i σ Hc _ ⟨_,_,_,oc,_⟩=>.of (oc _ _ yH cY)) ?_ ?_
  ·rintro j y σ Hd hy ⟨g,v3,rfl,aJ⟩
   have od:=aJ.1;have Kd:=aJ.2.1;have la:=aJ.2.2;clear aJ;obtain ⟨q,hq,rfl,qn,uq⟩:=QB hy;refine ⟨_,rfl,_,rfl,rfl,_,rfl,dS (fun hb=>?_) (fun hb=>?_)⟩
   ·have ne:p≠q:=fun z=>by subst z;rw [wG,bA rfl] at hb;cases hb
    obtain ⟨q1,K1⟩:=Kd.put pn qn up n9;exact ⟨_,rfl,_,rfl,D,_,_,_,rfl,rfl,.of Kd.lst,Kd.ix pn,_,rfl,_,_,rfl,q1,_,_,rfl,od.put pn up,K1,la.put hp hq ne⟩
   ·have e:p=q:=by
     by_cases z:(p:Int)=(q:Int);·lia
     ·exact absurd (by rw [wG,bO z];rfl) hb
    subst e;exact ⟨_,_,rfl,od,Kd,la.same hp hq⟩
  ·rintro σ Hd ⟨g,v3,rfl,aY⟩
   have od:=aY.1;have Kd:=aY.2.1;have la:=aY.2.2;clear aY;rw [aD] at la;exact ⟨g,_,_,rfl,od,Kd,la.row⟩
 ·rintro σ Hc ⟨g,v2,v3,rfl,cm⟩
  have oc:=cm.1;have Kc:=cm.2.1;have la:=cm.2.2;clear cm;rw [aD] at la;exact kk _ g oc Kc la.done
theorem abr:ck ["shape","order","linked","turns","told","place"] ["shape","order"] (bC D7):=cT
theorem ES(T:Txt K mg t):bL P w K mg base (fX P w) 4 t.uv t.xC ["shape","order"] (Yh t.m7):=by
 have S:=abr;refine T.qc.gC S (fun _ _ _ _ H _ _ _ hr h L=>?_);obtain ⟨tp,a,n,Lk,zs,rfl,ao⟩:=h;have hS:=ao.1;have hL:=ao.2.1;have ns:=ao.2.2.1;have n60:=ao.2.2.2.1;have ea:=ao.2.2.2.2.1;have m_:=ao.2.2.2.2.2.1;have kE:=ao.2.2.2.2.2.2.1;have kk:=ao.2.2.2.2.2.2.2;clear ao;obtain ⟨lt,us,eB⟩:=id hS;have d6:=eB.1;have elt:=eB.2.1;have mF:=eB.2.2;clear eB
 refine ⟨_,(aE (iI (a_ (abl T) hr T.Px T.yh.kp T.Pw (pH L) (aj (pv 1) (aj (bj eV (pv 0) aN) aq))))
  (gx.pb (aE (putL 2 S.nd (a_ (Bz T) hr T.yf T.oE.kp T.ye bZ (aj (pv 0) aq)))
  (aE (CT 3 S.nd (a_ (abn T) hr T.Pz T.yi.kp T.Py bZ (aj (pv 1) aq)))
  (aE (Aq (i0:=4) (N:=["place"]) (ρ:=(fun σ=>[])) (fY [] rfl) rfl S.nd rfl (Or.inl rfl) (fW (pv 1)) (fun _ _ _=>.nil) (fun _ _ _=>(fD aq)))
  (aE (fi eQ rfl (fW (pv 1)) (df (i:=5) S.nd rfl (Or.inr rfl))
   (aE (@wb _ _ _ _ _ _ (dg Dm rfl T.oF oX (aj (jb (N:=["other","turns","place"]) (ρ:=(fun σ=>[σ[3]?.join,σ[5]?.join])) (fY [3,5] rfl) rfl (tR (bj dR (pv 2) (pv 5))) (fun _ _ _=>(.one (dv pE (bj (q8 (K:=K)) (pv 1) (pv 0)) (bj (q8 (K:=K)) (pv 1) (pv 2))))) (fun _ _ _=>(pv 0))) aq)) (zT (pv 4) (pv 5) set_list) (by rfl) (by rfl) (by rfl))
  (aI (iI (a_ (abp T) hr T.PD T.yj.kp T.PB bZ (aj (pv 2) (aj (bj dR (pv 4) (pv 5)) aq)))))))
  (aI (bK (pv 4))))))))),?_⟩
 refine ⟨_,rfl,_,rfl,tp,_,_,_,rfl,rfl,.of d6,rfl,a,zs,n,rfl,ea,m_,by lia,fun no H1 s1=>kE no H1 s1,fun yes H1 s1=>?_⟩
 obtain ⟨o,rfl,ho⟩:=Xu yes;have kk:=kk o rfl ho;have lo:=w5 ho;have nd:=pU ho;have rW:H a=some (.lst (o.map fun k:Nat=>V.int (k:Int))):=by rw [ea,cM];rfl
 have lm:(o.map fun k:Nat=>V.int (k:Int)).length=n:=by rw [aD,lo]
 refine ⟨_,rfl,tp,n,Lk,rfl,⟨lt,us,s1 _ _ d6,s1 _ _ elt,mF.mono s1⟩,hL,by lia,fun H2 D ds f s2 nD oG KL nb=>?_⟩
 have nD0:=none_of s1 nD;have QC:∀i,i<n→H (ds i)=none:=fun i hi=>none_of s1 (oG i hi);have kF:=s1.trans s2;dsimp only [a7];refine ⟨_,rfl,a,n,o,rfl,⟨kF _ _ rW,ho⟩,by lia,fun tr H3 s3 ntr e3=>?_⟩
 have gh:=kF.trans s3;have ah5:=none_of kF ntr;have K3:=KL.mono s3;dsimp only [a7];refine dB (pJ (MQ (xs:=o.map fun k:Nat=>V.int (k:Int)) (n:=n) lm (fun R h=>⟨_,rfl,a,rfl,⟨_,.of (gh _ _ rW)⟩,h _ _ (ak.refl _) (ko (.of (gh _ _ rW)))⟩) (dA (by lia)) (fun _ i y Hx=>H3 y=none) (fun _ _ _ _ _ _ h _ _ _=>h) ?_ ?_))
 ·intro D' i x hx Hc R sc _ kc
  refine ⟨by show 0≤sizeLine;exact cf _,fun p np=>kc p _ (aS np) np ⟨_,ax⟩ (none_of sc np)⟩
 ·intro c rs0 H4 nc s4 _ hA ec
  have ni:=gh.trans s4;have QD:=none_of gh nc;have K4:=K3.mono s4;have e4:=s4 _ _ e3;have cD:c≠D:=fun z=>by rw [z,K3.lst] at nc;cases nc
  have ctr:c≠tr:=fun z=>by rw [z,e3] at nc;cases nc
  dsimp only [a7];refine dB ⟨_,rfl,a,rfl,⟨_,.of (ni _ _ rW)⟩,?_⟩
  refine s_ (K:=K) (a:=a) (xs:=o.map fun k:Nat=>V.int (k:Int)) (fun k σ Hc=>∃(rs:Nat→Addr) (f g:Nat→List Nat) (v5:Option V),σ=[some (.ref tp),some (.ref a),some (.ref D),some (.ref tr),some (.ref c),v5]∧ak H Hc∧eK Hc D n ds (fun p=>k≤o.idxOf p) f∧Hc tr=some (.lst ((List.range n).map fun p=>V.int (o.idxOf p:Int)))∧Hc c=some (.lst ((List.range n).map fun p=>V.ref (rs p))) ∧
    (∀p,p<n→o.idxOf p<k→H (rs p)=none∧rs p≠c∧Hc (rs p)=some (.lst ((g p).map fun k:Nat=>V.int (k:Int)))∧iw n o p (g p)∧jT n Lk o p (g p))∧tU n Lk o k f) ⟨rs0,f,fun _=>[],_,rfl,ni,K4.less (fun _ _ _=>trivial),e4,ec,fun p _ h=>absurd h (oT _),tU.start nb ns⟩ (fun k σ Hc _ ⟨_,_,_,_,_,sc,_⟩=>.of (sc _ _ rW)) ?_ ?_
  ·rintro k x σ Hc hx ⟨rs,f,g,v5,rfl,aG⟩
   have sc:=aG.1;have Kc:=aG.2.1;have Jh:=aG.2.2.1;have ET:=aG.2.2.2.1;have done:=aG.2.2.2.2.1;have Ji:=aG.2.2.2.2.2;clear aG;have hk:k<o.length:=by have:=(bJ.mp hx).1;simpa using this
   have ex:x=.int ((o[k]:Nat):Int):=by rw [bo] at hx;simp [hk] at hx;exact hx.symm
   subst ex;have hp:o[k]<n:=(gG ho).mp (cB hk);have ip:o.idxOf o[k]=k:=Dp nd hk;generalize o[k]=p at hp ip ⊢;dsimp only [a7];have EU:=Kc.at' p hp (by lia)
   refine dB (pJ (q_ (AX ⟨_,rfl,_,rfl,D,_,_,_,rfl,rfl,.of Kc.lst,Kc.ix hp,ds p,dk (f p),rfl,.inl ⟨EU,fun ob=>?_⟩⟩)));have Kf:eK (upd Hc (ds p) (.bg ob (.dK (dk (f p))))) D n ds (fun q=>k+1≤o.idxOf q) f:=(Kc.less (fun i hi (ui:k+1≤o.idxOf i)=>show k≤o.idxOf i by lia)).upd (Kc.ne p hp) (fun i hi (ui:k+1≤o.idxOf i) z=>by have:=Kc.inj i p hi hp z;subst this;lia)
   have Jj:∀{b:Addr} {xs:List V},Hc b=some (.lst xs)→b≠ds p:=fun{b xs} e z=>by rw [z,EU] at e;cases e
   have EV:upd Hc (ds p) (.bg ob (.dK (dk (f p)))) tr=_:=(aH (Jj Jh)).trans Jh;have yI:upd Hc (ds p) (.bg ob (.dK (dk (f p)))) c=_:=(aH (Jj ET)).trans ET;have sf:ak H (upd Hc (ds p) (.bg ob (.dK (dk (f p))))):=fun b u e=>by
    rw [aH (fun z=>by rw [z,QC p hp] at e;cases e)]
    exact sc _ _ e
   have Jk:∀q,q<n→o.idxOf q<k→H (rs q)=none∧rs q≠c∧upd Hc (ds p) (.bg ob (.dK (dk (f p)))) (rs q)=some (.lst ((g q).map fun k:Nat=>V.int (k:Int)))∧iw n o q (g q)∧jT n Lk o q (g q):=fun q hq EW=>by obtain ⟨d1,d2,d3,d4⟩:=done q hq EW;exact ⟨d1,d2,(aH (Jj d3)).trans d3,d4⟩
   have gm:upd Hc (ds p) (.bg ob (.dK (dk (f p)))) (ds p)=some (.bg ob (.dK (dk (f p)))):=ax;generalize upd Hc (ds p) (.bg ob (.dK (dk (f p))))=Hf at Kf EV yI sf Jk gm ⊢;have yJ:=Kc.pl p hp;refine Dq gm (fun q=>decide ((o.idxOf p:Int)<(o.idxOf q:Int))) (i4 yJ.len (dA (by lia))) ?_ ?_ ?_
   ·intro q hq Hx R sx hR
    have qn:=yJ.2 q hq;exact ⟨_,rfl,_,rfl,tr,_,_,_,rfl,rfl,.of (sx _ _ EV),mU qn,_,rfl,_,rfl,tr,_,_,_,rfl,rfl,.of (sx _ _ EV),mU hp,_,_,rfl,rfl,_,rfl,hR⟩
   ·intro q hq Hx R hR
    exact ⟨_,rfl,hR⟩
   ·intro D1 H1 nD1 QE QF
    rw [Xz] at QF;have fl:((f p).filter fun q=>decide (o.idxOf p<o.idxOf q)).length≤n:=b8 (vT _ _) yJ.len;refine ⟨D1,((f p).filter fun q=>decide (o.idxOf p<o.idxOf q)).map iN,rfl,by rw [QF,cM];rfl,by rw [aD];lia,fun ws D2 pw so vg=>?_⟩
    obtain ⟨ms,rfl,pm⟩:=HH pw;have yK:=Xt yJ pm so;have hm:∀q,q∈ms↔q∈f p∧k<o.idxOf q:=fun q=>by rw [pm.mem_iff,b_,eY,ip]
    have abx:jT n Lk o p ms:=fun q=>by
     rw [hm q,ip];constructor
     ·rintro ⟨h1,h2⟩
      have qn:=yJ.2 q h1;exact ⟨qn,h2,((Ji p q hp qn (by lia) (by lia)).mp h1).2⟩
     ·rintro ⟨h1,h2,h3⟩
      exact ⟨(Ji p q hp h1 (by lia) (by lia)).mpr ⟨fun e=>by subst e;lia,h3⟩,h2⟩
    have vh:ak Hf (upd H1 D2 (.lst ((ms.map iN).map V.int))):=tS QE vg;have gN:upd H1 D2 (.lst ((ms.map iN).map V.int)) D2=some (.lst (ms.map fun k:Nat=>V.int (k:Int))):=by rw [ax,cM];rfl
    have Jl:Hf D2=none:=none_of QE vg;have aby:H D2=none:=none_of sf Jl;generalize upd H1 D2 (.lst ((ms.map iN).map V.int))=Hg at vh gN ⊢;have QG:D2≠c:=fun z=>by rw [z,yI] at Jl;cases Jl
    refine ⟨_,rfl,_,rfl,c,_,_,p,rfl,rfl,vh _ _ yI,by rw [aD,c_];exact NF hp,?_⟩
    rw [Xv];have Kg:=Kf.mono vh;have Kh:eK (upd Hg c (.lst ((List.range n).map fun q=>V.ref (lH rs p D2 q)))) D n ds (fun q=>k+1≤o.idxOf q) f:=Kg.upd cD (fun i hi ui z=>by have:=Kg.at' i hi ui;rw [z,vh _ _ yI] at this;cases this)
    have sh:ak H (upd Hg c (.lst ((List.range n).map fun q=>V.ref (lH rs p D2 q)))):=gD (sf.trans vh) QD;have Jm:upd Hg c (.lst ((List.range n).map fun q=>V.ref (lH rs p D2 q))) c=_:=ax;have QH:upd Hg c (.lst ((List.range n).map fun q=>V.ref (lH rs p D2 q))) tr=_:=(aH (Ne.symm ctr)).trans (vh _ _ EV);have Jn:upd Hg c (.lst ((List.range n).map fun q=>V.ref (lH rs p D2 q))) D2=_:=(aH QG).trans gN;have QI:∀q,q<n→o.idxOf q<k→upd Hg c (.lst ((List.range n).map fun q=>V.ref (lH rs p D2 q))) (rs q)=some (.lst ((g q).map fun k:Nat=>V.int (k:Int))):=fun q hq EW=>by obtain ⟨d1,d2,d3,d4⟩:=Jk q hq EW;exact (aH d2).trans (vh _ _ d3)
    generalize upd Hg c (.lst ((List.range n).map fun q=>V.ref (lH rs p D2 q)))=Hh at Kh sh Jm QH Jn QI ⊢;refine ⟨_,rfl,_,rfl,_,rfl,c,_,_,_,rfl,rfl,.of Jm,mU hp,?_⟩;rw [NI];refine ⟨D,D2,n,ds,_,f,ms,rfl,Kh,Jn,fun q hq=>⟨yK.lt q hq,by have:=yK.la q hq;lia⟩,by lia,fun H5 g5 off K5 con=>?_⟩
    have cY:∀{b:Addr} {xs:List V},Hh b=some (.lst xs)→H5 b=some (.lst xs):=fun{b xs} e=>off _ _ e fun i hi ui z=>by rw [z,Kh.at' i hi ui] at e;cases e
    refine ⟨lH rs p D2,g5,gF g p ms,_,rfl,fun b u e=>off _ _ (sh _ _ e) (fun i hi _ z=>by rw [z,QC i hi] at e;cases e),K5,cY QH,cY Jm,fun q hq EW=>?_,Ji.step ho hp ip hm yK.lt con⟩
    by_cases e:q=p
    ·subst e
     rw [NI,Xx];exact ⟨aby,QG,cY Jn,yK,abx⟩
    ·rw [Xw e,Xy e]
     have ne:=mV ho hq hp e;have QJ:o.idxOf q<k:=by lia
     obtain ⟨d1,d2,d3,d4⟩:=Jk q hq QJ;exact ⟨d1,d2,cY (QI q hq QJ),d4⟩
  ·rintro σ Hc ⟨rs,f,g,v5,rfl,aJ⟩
   have sc:=aJ.1;have Kc:=aJ.2.1;have Jh:=aJ.2.2.1;have ET:=aJ.2.2.2.1;have done:=aJ.2.2.2.2.1;clear aJ;rw [lm] at done;have lt:∀p,p<n→o.idxOf p<n:=fun p hp=>by have:=(AW ((gG ho).mpr hp)).1;lia
   exact ⟨_,rfl,kk Hc c rs g sc QD (fun p hp=>(done p hp (lt p hp)).1) ⟨ET,fun p hp=>(done p hp (lt p hp)).2.2.1⟩ fun p hp=>(done p hp (lt p hp)).2.2.2⟩
theorem abz:ck ["shape","order","links","place","others"] ["shape","order"] (bC D8):=cT
theorem Jo(T:Txt K mg t):bL P w K mg base (fX P w) 5 t.uy t.xD ["shape","order"] (Yk t.m7):=by
 have S:=abz;refine T.rR.gC S (fun _ _ _ _ H _ _ _ hr h L=>?_);obtain ⟨tp,a,n,Lk,zs,rfl,ao⟩:=h;have hS:=ao.1;have hL:=ao.2.1;have ns:=ao.2.2.1;have n9:=ao.2.2.2.1;have ea:=ao.2.2.2.2.1;have m_:=ao.2.2.2.2.2.1;have kE:=ao.2.2.2.2.2.2.1;have kk:=ao.2.2.2.2.2.2.2;clear ao;obtain ⟨lt,us,jW⟩:=id hS;have d6:=jW.1;have elt:=jW.2.1;have mF:=jW.2.2;clear jW
 refine ⟨_,(aE (putL 2 S.nd (fD aq))
  (aE (fi (HJ L) rfl (GS rfl T.EO (aj (a_ (ES T) hr T.Bw T.qc.kp T.Bv (pH L) (aj (pv 0) (aj (pv 1) aq))) aq)) (pj rfl (gR (df (i:=3) S.nd rfl (Or.inr rfl)) (gR (df (i:=4) S.nd rfl (Or.inl rfl)) ph)))
   (aI (iI (kh jB PySem.F.slot_list_extend PySem.F.type_list_extend Mp (pv 2) (aj (jb (N:=["other","place"]) (ρ:=(fun σ=>[σ[3]?.join])) (fY [3] rfl) rfl (fW (pv 4)) (fun _ _ _=>.nil) (fun _ _ _=>(h_ (aj (dg (Gk rfl) rfl T.yG boot_min (aj (pv 1) (aj (pv 0) aq))) (aj (dg (Gj rfl) rfl T.Bx boot_max (aj (pv 1) (aj (pv 0) aq))) aq))))) aq)))))
  (aI (bK (h_ (aj (bj eV (pv 0) aN) (aj (iK CI rfl T.By boot_tuple (aj (dg Hl rfl T.oF oX (aj (pv 2) aq)) aq)) aq))))))),?_⟩
 refine ⟨cf _,fun l nl=>?_⟩;have s0:ak H (upd H l (.lst [])):=aS nl;have el:upd H l (.lst []) l=some (.lst []):=ax;generalize upd H l (.lst [])=H0 at s0 el ⊢;dsimp only [a7];refine dB ⟨_,rfl,_,rfl,tp,a,n,Lk,zs,rfl,hS.mono s0,hL,ns,by lia,s0 _ _ ea,m_,fun no H1 s1=>kE no H1 (s0.trans s1),fun o ez ho H1 D rs g s1 nD QK la ok=>?_⟩
 have kk:=kk o ez ho;have lC:∀p,p<n→jT n Lk o p (g p):=fun p hp=>(ok p hp).2;have ok:∀p,p<n→iw n o p (g p):=fun p hp=>(ok p hp).1;have e8:=Yj ho n9 ok;have oH:∀p,p<n→rs p≠l:=fun p hp z=>by have:=QK p hp;rw [z,el] at this;cases this
 have nDl:D≠l:=fun z=>by rw [z,el] at nD;cases nD
 have yL:((List.range n).map fun p=>V.ref (rs p)).length=n:=by rw [aD,c_]
 refine ⟨D,rfl,⟨_,.of la.1⟩,?_⟩
 refine GU (K:=K) (l:=D) (xs:=(List.range n).map fun p=>V.ref (rs p)) (fun k σ Hc=>∃(xs:List V) (M:ar) (v3 v4:Option V),σ=[some (.ref tp),some (.ref a),some (.ref l),v3,v4]∧ak H Hc∧NH Hc D n rs g∧Hc l=some (.lst xs)∧Du Hc g k xs M)
  ⟨[],[],_,_,rfl,s0.trans s1,la,s1 _ _ el,⟨⟨rfl,fun k v p h=>by cases h⟩,rfl,fun z=>⟨(fun h=>by cases h),fun⟨p,q,h,_⟩=>absurd h (oT _)⟩,l6⟩⟩ (fun k σ Hc ⟨_,_,_,_,_,_,z,_⟩=>.of z.1) ?_ ?_
 ·rintro k x σ Hc Tt hx ⟨xs,M,v3,v4,rfl,sc,lc,jX,so⟩ nT
  have hk:k<n:=by have:=(bJ.mp hx).1;rw [yL] at this;exact this
  have ex:x=.ref (rs k):=by rw [bo,jy hk] at hx;exact (Option.some.inj hx).symm
  subst ex;have sT:ak Hc (upd Hc Tt (.tup [.int (k:Int),.ref (rs k)])):=aS nT;have eT:upd Hc Tt (.tup [.int (k:Int),.ref (rs k)]) Tt=_:=ax;generalize upd Hc Tt (.tup [.int (k:Int),.ref (rs k)])=H2 at sT eT ⊢;have ek:=ok k hk;have lg:(g k).length≤30:=b8 (HI ho ek) (by lia)
  have e2:=sT _ _ (lc.2 k hk);refine ⟨Tt,_,rfl,.of eT,rfl,_,_,rfl,_,_,rfl,rfl,?_⟩;refine ⟨_,rfl,.inl ⟨rfl,_,.of (sT _ _ jX)⟩,wK (xs:=(g k).map fun k:Nat=>V.int (k:Int)) (fun R h=>⟨_,rfl,rs k,rfl,⟨_,.of e2⟩,h _ _ (ak.refl _) (ko (.of e2))⟩) (by rw [aD];exact dA (by lia)) (fun _ i y Hz=>∃(b:Addr) (q:Nat),y=.ref b∧(g k)[i]?=some q∧Hz b=some (.tup [.int (da k q).1,.int (da k q).2])) (fun Dd i y Ha Hb ys ⟨b,x,h1,h2,h3⟩ e f=>⟨b,x,h1,h2,f b _ (fun z=>by rw [z,e] at h3;cases h3) h3⟩) ?_ ?_⟩
  ·intro Dd i x hx Hz R sz _ kz
   obtain ⟨q,hq,rfl⟩:∃q:Nat,(g k)[i]?=some q∧x=.int (q:Int):=by
    rw [bo] at hx;cases e:(g k)[i]? with
    | none=>rw [e] at hx;cases hx
    | some q=>rw [e] at hx;exact ⟨q,rfl,(Option.some.inj hx).symm⟩
   refine ⟨_,rfl,_,rfl,_,_,rfl,_,rfl,_,rfl,_,_,rfl,by show 2≤sizeLine;decide,fun tp jv=>?_⟩
   exact kz _ _ (aS jv) ⟨tp,q,rfl,hq,ax⟩
  ·intro Dd ys H3 Jp s3 nk ng vi
   rw [aD] at nk;have lM:M.length≤435:=by rw [so.len];exact b8 (XB (g:=fun p=>(g p).length) (nE hk)) e8
   have lx:=so.at'.1;have qe:=s3 _ _ (sT _ _ jX);refine ⟨l,Dd,xs,ys,rfl,rfl,qe,vi,b8 (show _≤900 by lia) (by decide),?_⟩
   have k9:∀b o,b≠l→H3 b=some o→upd H3 l (.lst (xs++ys)) b=some o:=fun b o nb e=>by rw [aH nb];exact e
   have EX:=sc.trans (sT.trans s3);refine ⟨xs++ys,M++(g k).map (da k),_,_,rfl,fun b u e=>k9 b u (fun z=>by rw [z,nl] at e;cases e) (EX _ _ e),⟨k9 _ _ nDl (s3 _ _ (sT _ _ lc.1)),fun p hp=>k9 _ _ (oH p hp) (s3 _ _ (sT _ _ (lc.2 p hp)))⟩,ax,so.more (fun h=>((h.mono sT).mono s3).cY qe k9) hk ok ?_⟩
   refine bE.cY (H:=H3) ⟨by rw [nk,aD],fun i v p h1 h2=>?_⟩ qe k9
   obtain ⟨b,q,rfl,hq,e⟩:=ng i v h1;rw [bo,hq] at h2;cases h2;exact ⟨b,rfl,e⟩
 ·rintro σ Hc ⟨xs,M,v3,v4,rfl,aJ⟩
  have sc:=aJ.1;have lc:=aJ.2.1;have jX:=aJ.2.2.1;have so:=aJ.2.2.2;clear aJ;rw [yL] at so;have lM:M.length≤435:=by rw [so.len];exact e8
  have lx:=so.at'.1;have bM:∀z∈M,0≤z.2∧z.2<1000:=fun z hz=>by obtain ⟨p,q,h1,h2,rfl⟩:=(so.mem z).mp hz;have:=XA h1 ((ok p h1).lt q h2);lia
  refine ⟨_,rfl,tp,_,_,_,rfl,rfl,.of (sc _ _ d6),rfl,_,rfl,?_⟩;dsimp only [zX];refine NW jX so.at' (by lia) bM fun l' ws N H3 s3 pW tQ hN pN oN=>?_
  have s4:=sc.trans s3;refine ⟨l',ws,rfl,.inl ⟨.of tQ,fun lt Jq=>?_⟩⟩;have gT:ak H3 (upd H3 lt (.tup ws)):=aS Jq;have QL:upd H3 lt (.tup ws) lt=some (.tup ws):=ax;generalize upd H3 lt (.tup ws)=Hd at gT QL ⊢;refine ⟨by show 2≤sizeLine;decide,fun tq yM=>?_⟩
  have st:ak Hd (upd Hd tq (.tup [.int (n:Int),.ref lt])):=aS yM;have s5:=s4.trans (gT.trans st);have bN:∀z∈N,0≤z.2∧z.2<1000:=fun z hz=>bM z (pN.mem_iff.mp hz);refine kk _ tq N s5 (none_of (s4.trans gT) yM) ⟨lt,ws,ax,st _ _ QL,(hN.mono gT).mono st⟩ ⟨Yi oN (pN.nodup_iff.mpr so.nd) bN,fun z=>?_⟩ (by rw [pN.length_eq];lia)
  rw [pN.mem_iff,so.mem];constructor
  ·rintro ⟨p,q,h1,h2,h3⟩
   obtain ⟨w1,w2,w3⟩:=(lC p h1 q).mp h2;exact ⟨p,q,h1,w1,w2,w3,h3⟩
  ·rintro ⟨p,q,h1,w1,w2,w3,h3⟩
   exact ⟨p,q,h1,(lC p h1 q).mpr ⟨w1,w2,w3⟩,h3⟩
theorem abB:ck ["shape","order"] ["shape","order"] (bC Eb):=cT
theorem QM(T:Txt K mg t):bL P w K mg base (fX P w) 6 t.uB t.xG ["shape","order"] (Yr t.m7):=by have S:=abB;refine T.u_.gC S (fun _ _ _ _ H _ _ _ hr h L=>?_);obtain ⟨tp,a,n,Lk,zs,rfl,ao⟩:=h;have hS:=ao.1;have hL:=ao.2.1;have ns:=ao.2.2.1;have n9:=ao.2.2.2.1;have ea:=ao.2.2.2.2.1;have m_:=ao.2.2.2.2.2.1;have kE:=ao.2.2.2.2.2.2.1;have kk:=ao.2.2.2.2.2.2.2;clear ao;have iY:=hr.units;refine ⟨_,(aI (bK (pF (Yo iY) (a_ (Jo T) hr T.EF T.rR.kp T.EE (pH L) (aj (pv 0) (aj (pv 1) aq))) (pv 0)))),?_⟩;refine ⟨_,rfl,_,rfl,tp,a,n,Lk,zs,rfl,hS,hL,ns,n9,ea,m_,kE,fun o ez ho H1 t1 M s1 _ h1 fs _=>?_⟩;exact ⟨_,rfl,t1,tp,n,M,Lk,rfl,rfl,h1,hS.mono s1,kk o ez ho _ _ s1 fs⟩
theorem abC:ck ["shape","order"] ["shape","order"] (bC Ea):=cT
theorem Jr(T:Txt K mg t):bL P w K mg base (fX P w) 5 t.uA t.xF ["shape","order"] (YH t.m7):=by
 have S:=abC;refine T.rS.gC S (fun _ _ _ _ H _ _ _ hr h L=>?_);obtain ⟨tp,a,n,Lk,zs,rfl,ao⟩:=h;have hS:=ao.1;have hL:=ao.2.1;have ns:=ao.2.2.1;have n9:=ao.2.2.2.1;have ea:=ao.2.2.2.2.1;have m_:=ao.2.2.2.2.2.1;have kE:=ao.2.2.2.2.2.2.1;have kk:=ao.2.2.2.2.2.2.2;clear ao
 refine ⟨_,(aE (bK (dg (VD (K:=K) rfl) rfl T.Qq boot_sum (aj (jb (N:=["others"]) (ρ:=(fun σ=>[])) (fY [] rfl) rfl (fW (a_ (ES T) hr T.Bw T.qc.kp T.Bv (pH L) (aj (pv 0) (aj (pv 1) aq)))) (fun _ _ _=>.nil) (fun _ _ _=>(a_ (Qy T) hr T.IS T.u9.kp T.IQ bZ (aj (dg (VG (K:=K)) rfl T.iy iE (aj (pv 0) aq)) aq)))) aq)))
  (gx.pb dP)),?_⟩
 refine rf (q_ (AX ⟨_,rfl,_,rfl,tp,a,n,Lk,zs,rfl,hS,hL,ns,by lia,ea,m_,kE,fun o ez ho H1 D rs g s1 nD QK la ok=>⟨D,rfl,⟨_,.of la.1⟩,?_⟩⟩))
 have yL:((List.range n).map fun p=>V.ref (rs p)).length=n:=by rw [aD,c_]
 refine wK (xs:=(List.range n).map fun p=>V.ref (rs p)) (fun R h=>h _ _ (ak.refl _) (ko (.of la.1))) (by rw [yL];exact dA (by lia)) (fun _ i y _=>y=.int (((g i).length:Int)*(g i).length+3*(g i).length+1)) (fun _ _ _ _ _ _ h _ _=>h) ?_ ?_
 ·intro D' k x hx Hc R sc _ kc
  have hk:k<n:=by have:=(bJ.mp hx).1;rw [yL] at this;exact this
  have ex:x=.ref (rs k):=by rw [bo,jy hk] at hx;exact (Option.some.inj hx).symm
  subst ex;have lg:(g k).length≤30:=b8 (HI ho (ok k hk).1) (by lia)
  refine ⟨_,rfl,rs k,_,rfl,.inl (.of (sc _ _ (la.2 k hk))),(g k).length,by rw [aD];rfl,by lia,kc _ Hc (ak.refl _) rfl⟩
 ·intro D' ys Hc nD' sc nk ng Js
  rw [yL] at nk;have ey:ys=((List.range n).map fun i=>((g i).length:Int)*(g i).length+3*(g i).length+1).map V.int:=by
   refine fT (by simp [nk]) fun i h1 h2=>?_
   rw [e_,e_,nM];exact ng i _ (bP h1)
  have es:((List.range n).map fun i=>((g i).length:Int)*(g i).length+3*(g i).length+1).sum=((((List.range n).map fun i=>(g i).length*(g i).length+3*(g i).length+1).sum:Nat):Int):=by
   generalize List.range n=l;clear ey ng nk kk
   induction l with
   | nil=>rfl
   | cons x l ih=>rw [du,fC,du,fC,ih];push_cast;rfl
  refine ⟨D',_,rfl,.of (by rw [Js,ey]),?_⟩
  rw [es];exact kk o ez ho _ (s1.trans sc) _ fun M fs=>Od ho fs ok
abbrev nz:Pos:=(⟨71,30,71,55⟩:Pos)
theorem abE:ck ["shape","linked","left","counts","picked","place","other"] ["shape"] (bC Ec):=cT
theorem abF(T:Txt K mg t)(hB:lO base mg):bL P w K mg base cQ 3 t.uC t.rN ["shape"] (aaf 132 nz):=by
 have S:=abE;refine T.yk.DJ T.tab S (fun vs H Q E h=>?_) (fun c A outer s H vs Q E hC hr h=>?_)
 ·obtain ⟨tp,n,L,rfl,_⟩:=h
  rfl
 ·obtain ⟨tp,n,L,rfl,ao⟩:=h
  have eC:=ao.1;have bV:=ao.2.1;have n9:=ao.2.2.1;have tab:=ao.2.2.2.1;have kk:=ao.2.2.2.2;clear ao;have iY:=hr.units;obtain ⟨lt,us,eB⟩:=id eC;have d6:=eB.1;have elt:=eB.2.1;have mF:=eB.2.2;clear eB
  refine ⟨_,(aE (putL 1 S.nd (a_ (Bz T) hr T.yf T.oE.kp T.ye bZ (aj (pv 0) aq)))
   (aE (putL 2 S.nd (iK (Ao rfl) rfl T.qd boot_list (aj (iK An rfl T.ju Ap (aj (bj eV (pv 0) aN) aq)) aq)))
   (aE (CT 3 S.nd (cC Mq (fD (aj aN aq)) (bj eV (pv 0) aN)))
   (aE (putL 4 S.nd (fD aq))
   (aE (wc eQ (dv pE (dg jG rfl T.iy iE (aj (pv 2) aq)) aN) (aE (putL 5 S.nd (ZV (i:=3) (aj (pv 2) aq) rfl T.Bx rfl (hr.mono (by decide)) hB rfl hC rfl rfl (fun _ _ _ _ _ _ _=>rfl) rfl rfl rfl rfl))
   (aE (iI (kh jB PySem.F.slot_list_remove PySem.F.type_list_remove Yt (pv 2) (aj (pv 5) aq)))
   (aE (iI (kh jB oY oZ k6 (pv 4) (aj (pv 5) aq)))
   (aI (fi eQ rfl (tR (bj dR (pv 1) (pv 5))) (df (i:=6) S.nd rfl (Or.inl rfl))
    (aI (@S_ _ _ _ _ _ _ _ _ _ _ _ _ _ (pv 3) (pv 6) VQ aN LI set_list (by intros;rfl)))))))))
   (aI (bK (aab rfl rfl T.qd rfl T.Qo (aj (pv 4) aq))))))))),?_⟩
  refine cR fun _ jw=>⟨_,rfl,tp,n,L,rfl,eC,bV,n9,fun H1 D ds f s1 nD oG KL nb=>?_⟩;have QN:=s1 _ _ d6;have ah7:=tab.mono s1;dsimp only [a7];refine jw _ _ ?_;refine cR fun _ kG=>⟨_,rfl,tp,_,_,_,rfl,rfl,.of QN,rfl,(n:Int),rfl,fun q1 rX=>⟨q1,n,rfl,ax,by lia,fun l1 EY=>?_⟩⟩
  have s2:ak H1 (upd (upd H1 q1 (.gu 0 (n:Int))) l1 (.lst (dw n))):=(aS rX).trans (aS EY);have e1:upd (upd H1 q1 (.gu 0 (n:Int))) l1 (.lst (dw n)) l1=some (.lst ((List.range n).map fun k:Nat=>V.int (k:Int))):=by rw [ax];rfl
  have Jt:H1 l1=none:=none_of (aS rX) EY;generalize upd (upd H1 q1 (.gu 0 (n:Int))) l1 (.lst (dw n))=H2 at s2 e1 ⊢;dsimp only [a7];refine kG _ _ ?_;refine cR fun _ nC=>⟨by show 1≤sizeLine;decide,fun l nl=>?_⟩
  refine ⟨_,rfl,tp,_,_,_,rfl,rfl,.of ((aS nl) _ _ (s2 _ _ QN)),rfl,l,(n:Int),[.int 0],rfl,rfl,ax,by lia,by lia,?_,fun l2 vj=>?_⟩
  ·rw [cZ]
   exact b8 (show [V.int 0].length*n≤1000 by simp;lia) (by decide)
  have e0:(List.replicate ((n:Int).toNat) [V.int 0]).flatten=((List.range n).map fun a=>(gg L [] a:Int)).map V.int:=by
   rw [VR n];refine ze fun i=>?_;rw [bo,bo,bo,List.getElem?_replicate];by_cases hi:i<n;·simp [hi,gg]
   ·simp [hi]
  rw [e0];have s3:ak H2 (upd (upd H2 l (.lst [.int 0])) l2 (.lst (((List.range n).map fun a=>(gg L [] a:Int)).map V.int))):=(aS nl).trans (aS vj);have e2:upd (upd H2 l (.lst [.int 0])) l2 (.lst (((List.range n).map fun a=>(gg L [] a:Int)).map V.int)) l2=some (.lst (((List.range n).map fun a=>(gg L [] a:Int)).map V.int)):=ax;have EZ:H2 l2=none:=none_of (aS nl) vj;generalize upd (upd H2 l (.lst [.int 0])) l2 (.lst (((List.range n).map fun a=>(gg L [] a:Int)).map V.int))=H3 at s3 e2 ⊢;dsimp only [a7];refine nC _ _ ?_;refine cR fun _ qf=>⟨cf _,fun l3 lU=>?_⟩;have s4:ak H3 (upd H3 l3 (.lst [])):=aS lU;have e3:upd H3 l3 (.lst []) l3=some (.lst (([]:List Nat).map fun k:Nat=>V.int (k:Int))):=ax;generalize upd H3 l3 (.lst [])=H4 at s4 e3 ⊢;have ni:ak H1 H4:=(s2.trans s3).trans s4;have QO:=s1.trans ni;have m1:H l1=none:=none_of s1 Jt;have m2:H l2=none:=none_of s1 (none_of s2 EZ);have m3:H l3=none:=none_of s1 (none_of (s2.trans s3) lU);have QP:l1≠l2:=fun z=>by rw [z,EZ] at e1;cases e1
  have QQ:l1≠l3:=fun z=>by rw [←z,s3 _ _ e1] at lU;cases lU
  have QR:l2≠l3:=fun z=>by rw [←z,e2] at lU;cases lU
  have KF:=KL.fr;have y1:l1≠D:=fun z=>absurd KL.lst (by rw [←z,Jt];exact fun h=>by cases h)
  have y2:l2≠D:=fun z=>absurd (s2 _ _ KL.lst) (by rw [←z,EZ];exact fun h=>by cases h)
  have y3:l3≠D:=fun z=>absurd ((s2.trans s3) _ _ KL.lst) (by rw [←z,lU];exact fun h=>by cases h)
  have z1:∀i,i<n→ds i≠l1:=fun i hi z=>absurd (KL.at' i hi trivial) (by rw [z,Jt];exact fun h=>by cases h)
  have z2:∀i,i<n→ds i≠l2:=fun i hi z=>absurd (s2 _ _ (KL.at' i hi trivial)) (by rw [z,EZ];exact fun h=>by cases h)
  have z3:∀i,i<n→ds i≠l3:=fun i hi z=>absurd ((s2.trans s3) _ _ (KL.at' i hi trivial)) (by rw [z,lU];exact fun h=>by cases h)
  obtain ⟨ps0,eP⟩:=tab.at;have pt:∀{b:Addr},H b=none→b≠132:=fun h z=>by rw [z,eP] at h;cases h
  have K4:en H4 D n ds f:=⟨ni _ _ KF.lst,fun i hi=>(KF.at' i hi).imp (fun e=>ni _ _ e) fun⟨ob,e⟩=>⟨ob,ni _ _ e⟩⟩;dsimp only [a7];refine qf _ _ ?_;refine dB ⟨fun m σ Hc=>∃(zs Pk:List Nat) (v5 v6:Option V),σ=[some (.ref tp),some (.ref D),some (.ref l1),some (.ref l2),some (.ref l3),v5,v6]∧m=zs.length∧eO 132 H Hc∧dJ 132 nz jo Hc∧en Hc D n ds f∧Hc l1=some (.lst (zs.map fun k:Nat=>V.int (k:Int)))∧Hc l2=some (.lst (((List.range n).map fun a=>(gg L Pk a:Int)).map V.int))∧Hc l3=some (.lst (Pk.map fun k:Nat=>V.int (k:Int)))∧(zs++Pk).Perm (List.range n)∧oB n (rL L) Pk,⟨_,List.range n,[],_,_,rfl,rfl,fun b o _ e=>QO _ _ e,tab.mono QO,K4,(s3.trans s4) _ _ e1,s4 _ _ e2,e3,by rw [oP],oB.nil⟩,?_⟩
  rintro m σ Hc ⟨zs,Pk,v5,v6,rfl,rfl,aG⟩;have sc:=aG.1;have tc:=aG.2.1;have Kc:=aG.2.2.1;have ez:=aG.2.2.2.1;have ec:=aG.2.2.2.2.1;have ep:=aG.2.2.2.2.2.1;have pm:=aG.2.2.2.2.2.2.1;have pk:=aG.2.2.2.2.2.2.2;clear aG;have ll:=pm.length_eq;rw [dO,c_] at ll;have zn:∀z∈zs,z<n:=fun z hz=>aU.mp (pm.mem_iff.mp (nF _ hz));refine ⟨_,rfl,l1,_,rfl,.inl (.of ez),_,_,rfl,rfl,_,rfl,dS (fun hb=>?_) (fun hb=>?_)⟩
  ·have z0:zs≠[]:=fun z=>by subst z;have:=fB hb;simp at this
   refine ⟨_,fun _ _ h=>h,?_⟩;refine dB ⟨_,rfl,l1,l2,zs,_,rfl,.of ez,z0,rfl,.of ec,fun y hy=>by rw [aD,c_];exact zn y hy,tc,fun h H5 mk s5 t5=>?_⟩
   have hz:=mk.1;have hn:=zn h hz;have most:∀a,a<n→a∉Pk→(Pk.filter (rL L a)).length≤(Pk.filter (rL L h)).length:=fun a an aP=>by
    have az:a∈zs:=by
     have:=pm.mem_iff.mpr (aU.mpr an);rcases dW.mp this with h | h;·exact h
     ·exact absurd h aP
    have:=mk.2 a az;rw [getD_map an,getD_map hn] at this;unfold gg at this;lia
   have E1:eO 132 H H5:=fun b o n e=>s5 b o n (sc b o n e);have K5:=Kc.keep (a:=132) (fun b u n e=>s5 b u n e) (fun z=>pt nD z.symm) (fun i hi=>pt (oG i hi));have Ju:=s5 _ _ (pt m1) ez;have ec5:=s5 _ _ (pt m2) ec;have ep5:=s5 _ _ (pt m3) ep;dsimp only [a7];have ix:zs.idxOf h<zs.length:=oW hz;have eer:((zs.map fun k:Nat=>(k:Int)).map V.int).eraseIdx (zs.idxOf h)=(zs.erase h).map fun k:Nat=>V.int (k:Int):=by rw [cM,N0,List.erase_eq_eraseIdx_of_idxOf rfl];rfl
   refine cR fun _ Jv=>⟨_,rfl,.inl ⟨rfl,_,.of Ju⟩,_,rfl,l1,zs.map fun k:Nat=>(k:Int),zs.idxOf h,(h:Int),rfl,rfl,by rw [Ju,cM];rfl,?_,fun m' ft e=>?_,?_⟩
   ·rw [bo,bP ix,List.getElem_idxOf]
    rfl
   ·have rG:m'<zs.length:=by lia
    rw [bo,bP rG] at e;have e':((zs[m']:Nat):Int)=(h:Int):=Option.some.inj e;have:=NZ ft;rw [bP rG] at this;exact this (dM some (by lia))
   rw [eer];have o6:∀b u,b≠l1→H5 b=some u→upd H5 l1 (.lst ((zs.erase h).map fun k:Nat=>V.int (k:Int))) b=some u:=fun b u ne e=>by rw [aH ne];exact e
   have QS:upd H5 l1 (.lst ((zs.erase h).map fun k:Nat=>V.int (k:Int))) l1=some (.lst ((zs.erase h).map fun k:Nat=>V.int (k:Int))):=ax;generalize upd H5 l1 (.lst ((zs.erase h).map fun k:Nat=>V.int (k:Int)))=H6 at o6 QS ⊢;have E2:eO 132 H H6:=fun b o n e=>o6 b o (fun z=>by rw [z,m1] at e;cases e) (E1 b o n e)
   have t6:=t5.off Ju (fun _ z=>by cases z) (fun _ z=>by cases z) o6
   have K6:=K5.keep o6 y1 z1;have ec6:=o6 _ _ (Ne.symm QP) ec5;have Jw:=o6 _ _ (Ne.symm QQ) ep5;dsimp only;refine Jv _ _ ?_;refine cR fun _ BA=>⟨_,rfl,.inl ⟨rfl,_,.of Jw⟩,_,rfl,l3,_,_,rfl,rfl,Jw,dA (by rw [aD];lia),?_⟩
   have BB:(Pk.map fun k:Nat=>V.int (k:Int))++[V.int (h:Int)]=(Pk++[h]).map fun k:Nat=>V.int (k:Int):=by rw [eX];rfl
   rw [BB];have o7:∀b u,b≠l3→H6 b=some u→upd H6 l3 (.lst ((Pk++[h]).map fun k:Nat=>V.int (k:Int))) b=some u:=fun b u ne e=>by rw [aH ne];exact e
   have QT:upd H6 l3 (.lst ((Pk++[h]).map fun k:Nat=>V.int (k:Int))) l3=some (.lst ((Pk++[h]).map fun k:Nat=>V.int (k:Int))):=ax;generalize upd H6 l3 (.lst ((Pk++[h]).map fun k:Nat=>V.int (k:Int)))=H7 at o7 QT ⊢;have E3:eO 132 H H7:=fun b o n e=>o7 b o (fun z=>by rw [z,m3] at e;cases e) (E2 b o n e)
   have t7:=t6.off Jw (fun _ z=>by cases z) (fun _ z=>by cases z) o7
   have K7:=K6.keep o7 y3 z3;have ec7:=o7 _ _ QR ec6;have ez7:=o7 _ _ QQ QS;dsimp only;refine BA _ _ ?_;refine Ds (a:=ds h) (kvs:=dk (f h)) (fun Q q=>⟨_,rfl,_,rfl,D,_,_,_,rfl,rfl,.of K7.lst,mU hn,q⟩) (K7.at' h hn) fun ob Hf gm off=>?_;have Kf:=K7.bg off hn gm KL.inj (KL.ne h hn);have A9:eO 132 H Hf:=fun b o n e=>off b o (fun z=>by rw [z,oG h hn] at e;cases e) (E3 b o n e)
   have tf:dJ 132 nz jo Hf:=by
    rcases K7.at' h hn with e | ⟨ob,e⟩;·exact t7.off e (fun _ z=>by cases z) (fun _ z=>by cases z) off
    ·exact t7.off e (fun _ z=>by cases z) (fun _ z=>by cases z) off
   have ezf:=off _ _ (Ne.symm (z1 h hn)) ez7;have yI:=off _ _ (Ne.symm (z2 h hn)) ec7;have EU:=off _ _ (Ne.symm (z3 h hn)) QT;have QU:=KL.pl h hn;refine HL (fun i σ He=>∃(v6:Option V),σ=[some (.ref tp),some (.ref D),some (.ref l1),some (.ref l2),some (.ref l3),some (.int (h:Int)),v6]∧eO 132 H He∧dJ 132 nz jo He∧en He D n ds f∧He (ds h)=some (.bg ob (.dK (dk (f h))))∧He l1=some (.lst ((zs.erase h).map fun k:Nat=>V.int (k:Int)))∧He l3=some (.lst ((Pk++[h]).map fun k:Nat=>V.int (k:Int)))∧He l2=some (.lst (((List.range n).map fun a=>(gg L Pk a:Int)+if a∈(f h).take i then 1 else 0).map V.int))) ⟨_,rfl,A9,tf,Kf,gm,ezf,EU,by rw [yI];simp⟩ (fun i σ He _ ⟨_,_,_,_,_,e,_⟩=>e) ?_ ?_
   ·rintro i k σ He hk ⟨v6,rfl,aJ⟩
    have se:=aJ.1;have te:=aJ.2.1;have Ke:=aJ.2.2.1;have qg:=aJ.2.2.2.1;have Jx:=aJ.2.2.2.2.1;have Jy:=aJ.2.2.2.2.2.1;have vk:=aJ.2.2.2.2.2.2;clear aJ;have km:k∈f h:=j4 hk;have kn:k<n:=QU.2 k km;have tk:=take_snoc hk;have kt:k∉(f h).take i:=fun z=>by have nd:=QU.1;rw [←qw (i+1) (f h),tk,g_,jz] at nd;exact nd.2.2 k z k (by simp) rfl
    dsimp only [a7];refine ⟨_,rfl,_,rfl,l2,_,(k:Int),.int ((gg L Pk k:Int)+0),rfl,rfl,Int.natCast_nonneg _,.of vk,?_,_,_,rfl,rfl,l2,_,(k:Int),k,rfl,rfl,vk,?_,?_⟩
    ·refine n_ ?_
     rw [bo,bo,jy kn,Ck,Ck,aa kt]
    ·have lr:((List.map (fun a=>(gg L Pk a:Int)+if a∈(f h).take i then 1 else 0) (List.range n)).map V.int).length=n:=by rw [aD,aD,c_]
     rw [lr];unfold n8;rw [ae (Int.natCast_nonneg _),ae (by lia),cZ]
    have ecs:(((List.range n).map fun a=>(gg L Pk a:Int)+if a∈(f h).take i then 1 else 0).map V.int).set k (.int ((gg L Pk k:Int)+0+1))=((List.range n).map fun a=>(gg L Pk a:Int)+if a∈(f h).take (i+1) then 1 else 0).map V.int:=by
     rw [cM,cM,aae];refine hE fun a _=>?_;by_cases e:a=k
     ·subst e
      rw [ae rfl];show V.int _=V.int (_+if a∈(f h).take (i+1) then 1 else 0)
      rw [ae (by rw [tk];simp)]
      congr 1
     ·rw [aa e]
      show V.int (_+if a∈(f h).take i then 1 else 0)=V.int (_+if a∈(f h).take (i+1) then 1 else 0)
      have:a∈(f h).take (i+1)↔a∈(f h).take i:=by rw [tk];simp [e]
      simp only [this]
    rw [ecs];have o8:∀b u,b≠l2→He b=some u→upd He l2 (.lst (((List.range n).map fun a=>(gg L Pk a:Int)+if a∈(f h).take (i+1) then 1 else 0).map V.int)) b=some u:=fun b u ne e=>by rw [aH ne];exact e
    exact ⟨_,rfl,fun b o n e=>o8 b o (fun z=>by rw [z,m2] at e;cases e) (se b o n e),te.off vk (fun _ z=>by cases z) (fun _ z=>by cases z) o8,Ke.keep o8 y2 z2,o8 _ _ (z2 h hn) qg,o8 _ _ QP Jx,o8 _ _ (Ne.symm QR) Jy,ax⟩
   ·rintro σ He ⟨v6,rfl,aY⟩
    have se:=aY.1;have te:=aY.2.1;have Ke:=aY.2.2.1;have qg:=aY.2.2.2.1;have Jx:=aY.2.2.2.2.1;have Jy:=aY.2.2.2.2.2.1;have vk:=aY.2.2.2.2.2.2;clear aY;rw [iD] at vk;have ec2:((List.range n).map fun a=>(gg L Pk a:Int)+if a∈f h then 1 else 0)=(List.range n).map fun a=>(gg L (Pk++[h]) a:Int):=by
     refine hE fun a ha=>?_;rw [aad];have e:a∈f h↔rL L a h=true:=by rw [nb h a hn,gJ];exact or_comm
     by_cases q:a∈f h;·rw [ae q,ae (e.mp q)];rfl
     ·rw [aa q,aa fun z=>q (e.mpr z)];rfl
    rw [ec2] at vk;refine ⟨_,?_,zs.erase h,Pk++[h],_,_,rfl,rfl,se,te,Ke,Jx,vk,Jy,?_,pk.snoc most⟩
    ·rw [FV hz]
     exact Nat.sub_lt (Nat.pos_of_ne_zero fun z=>z0 (List.eq_nil_of_length_eq_zero z)) Nat.one_pos
    ·refine List.Perm.trans ?_ pm
     have h1:=List.perm_cons_erase hz;refine List.Perm.trans ?_ (h1.symm.append_right Pk);rw [←g_];exact vL
  ·have z0:zs=[]:=by
    cases zs with
    | nil=>rfl
    | cons x r=>refine absurd (bA ?_) hb;show (0:Int)<_;simp
   subst z0;dsimp only;refine ⟨_,rfl,l3,_,rfl,.of ep,?_,fun R nR=>?_⟩
   ·rw [aD]
    simp at ll;lia
   rw [←List.map_reverse];have sR:ak Hc (upd Hc R (.lst (Pk.reverse.map fun k:Nat=>V.int (k:Int)))):=aS nR;rw [List.nil_append] at pm;refine kk _ R Pk (fun b o n e=>sR _ _ (sc b o n e)) (tc.mono sR) ?_ ax pm pk;cases e:H R with
   | none=>rfl
   | some o=>
    by_cases z:R=132
    ·obtain ⟨ps,e2⟩:=tc.at
     rw [z,e2] at nR;cases nR
    ·rw [sc R o z e] at nR;cases nR
theorem abP:ck ["linked","done","place","met","waiting","here","other"] ["linked","done","place"] (bC Em):=cT
theorem abQ(T:Txt K mg t):bL P w K mg base cQ 1 t.uN t.xR ["linked","done","place"] XM:=by
 have S:=abP
 refine T.yt.eE S (fun _ _ _ _ H vs Q _ hr h=>?_)
 obtain ⟨D,d,n,ds,f,done,p,rfl,ao⟩:=h
 have KL:=ao.1
 have ed:=ao.2.1
 have ld:=ao.2.2.1
 have pn:=ao.2.2.2.1
 have n60:=ao.2.2.2.2.1
 have kk:=ao.2.2.2.2.2
 clear ao
 have hu:=i4 (md (show 1≤64 by decide) _) hr.units
 refine ⟨_,(aE (putL 3 S.nd (NA (HB (pv 2) hU Nx) rfl rfl (fun h=>by cases h) (by decide)))
  (aE (putL 4 S.nd (fD (aj (pv 2) aq)))
  (aE (wc eQ (dv pE (dg jG rfl T.iy iE (aj (pv 4) aq)) aN) (aE (putL 5 S.nd (Uy jB PySem.F.slot_list_pop PySem.F.type_list_pop UH (pv 4)))
  (aI (fi eQ rfl (tR (bj dR (pv 0) (pv 5))) (df (i:=6) S.nd rfl (Or.inl rfl))
   (aI (dF (zP (Dk hu (pv 6) (pv 3)) rfl) (aE (wZ hu (pv 3) (pv 6) hU rfl)
  (aI (dF (wg Mm (pv 6) (pv 1) rfl) (aI (iI (kh jB oY oZ k6 (pv 4) (aj (pv 6) aq)))) dP))) dP))))))
  (aI (bK (jb (N:=["other","place","done"]) (ρ:=(fun σ=>[σ[2]?.join,σ[1]?.join])) (fY [2,1] rfl) rfl (tR (pv 3)) (fun _ _ _=>(.one (PW.pt (pw_and (dv n4 (pv 0) (pv 1)) (pw_and1 (wg (NN (K:=K)) (pv 0) (pv 2) rfl)))))) (fun _ _ _=>(pv 0)))))))),?_⟩
 refine cR fun _ jw=>(pJ fun mt vn=>⟨_,rfl,ax,[((Sum.inl (p:Int):Key),V.bl true)],rfl,by show 1≤15;decide,?_⟩)
 have ah9:=vn
 have s0:∀b o,b≠mt→H b=some o→upd (upd H mt (.dK [])) mt (.dK (mT [] [((Sum.inl (p:Int):Key),V.bl true)])) b=some o:=fun b o ne e=>by rw [aH ne,aH ne];exact e
 have em:upd (upd H mt (.dK [])) mt (.dK (mT [] [((Sum.inl (p:Int):Key),V.bl true)])) mt=some (.dK (dk [p])):=by rw [ax];rfl
 generalize upd (upd H mt (.dK [])) mt (.dK (mT [] [((Sum.inl (p:Int):Key),V.bl true)]))=H1 at s0 em ⊢
 have sm:ak H H1:=fun b o e=>s0 b o (fun z=>by rw [z,vn] at e;cases e) e
 dsimp only [a7]
 refine jw _ _ ?_
 refine cR fun _ kG=>⟨_,rfl,by show 1≤sizeLine;decide,fun l nl=>?_⟩
 have sl:ak H1 (upd H1 l (.lst [V.int (p:Int)])):=aS nl
 have el:upd H1 l (.lst [V.int (p:Int)]) l=some (.lst (([p]:List Nat).map fun k:Nat=>V.int (k:Int))):=ax
 generalize upd H1 l (.lst [V.int (p:Int)])=H2 at sl el ⊢
 have oH:H l=none:=none_of sm nl
 have lm:l≠mt:=fun z=>by rw [z,em] at nl;cases nl
 have s2:=sm.trans sl
 have mD:mt≠D:=fun z=>absurd KL.lst (by rw [←z,vn];exact fun h=>by cases h)
 have lD:l≠D:=fun z=>absurd KL.lst (by rw [←z,oH];exact fun h=>by cases h)
 have Jz:∀i,i<n→ds i≠mt:=fun i hi z=>absurd (KL.at' i hi trivial) (by rw [z,vn];exact fun h=>by cases h)
 have E4:∀i,i<n→ds i≠l:=fun i hi z=>absurd (KL.at' i hi trivial) (by rw [z,oH];exact fun h=>by cases h)
 have QV:∀i,i<n→d≠ds i:=fun i hi z=>absurd (KL.at' i hi trivial) (by rw [←z,ed];exact fun h=>by cases h)
 dsimp only [a7]
 refine kG _ _ ?_
 refine dB ⟨fun m σ Hc=>∃(ks ws:List Nat) (v5 v6:Option V),σ=[some (.ref D),some (.ref d),some (.int (p:Int)),some (.ref mt),some (.ref l),v5,v6]∧m=2*(n-ks.length)+ws.length∧tT n ds H Hc∧en Hc D n ds f∧Hc mt=some (.dK (dk ks))∧Hc l=some (.lst (ws.map fun k:Nat=>V.int (k:Int)))∧fR n (iT n f) (·∈done) p none (fun _=>True) ks ws∧ws.length≤ks.length,⟨_,[p],[p],_,_,rfl,rfl,fun b o e _=>s2 _ _ e,(KL.mono s2).fr,sl _ _ em,el,fR.start pn,aC _⟩,?_⟩
 rintro m' σ Hc ⟨ks,ws,v5,v6,rfl,aG⟩
 have em':=aG.1
 have oc:=aG.2.1
 have Kc:=aG.2.2.1
 have QW:=aG.2.2.2.1
 have jX:=aG.2.2.2.2.1
 have wk:=aG.2.2.2.2.2.1
 have wl:=aG.2.2.2.2.2.2
 clear aG
 have plk:=wk.pl.len
 refine ⟨_,rfl,l,_,rfl,.inl (.of jX),_,_,rfl,rfl,_,rfl,dS (fun hb=>?_) (fun hb=>?_)⟩
 ·have hb:(0:Int)<((ws.map fun k:Nat=>V.int (k:Int)).length:Int):=fB hb
  rw [aD] at hb
  have xl:ws≠[]:=fun z=>by rw [z] at hb;simp at hb
  obtain ⟨us,h,rfl⟩:∃us h,ws=us++[h]:=⟨ws.dropLast,ws.getLast xl,(List.dropLast_concat_getLast xl).symm⟩
  have lus:(us++[h]).length=us.length+1:=by simp
  have hh:=wk.wt h (fA _ (cy.mpr rfl))
  have hn:h<n:=wk.pl.2 h hh.1
  have BC:=wk.pop
  refine ⟨_,fun _ _ h=>h,?_⟩
  refine ⟨_,rfl,.inl ⟨rfl,_,.of jX⟩,l,_,.int (h:Int),rfl,rfl,jX,by simp,?_⟩
  rw [eX,du,y_,List.dropLast_concat]
  have o1:∀b u,b≠l→Hc b=some u→upd Hc l (.lst (us.map fun k:Nat=>V.int (k:Int))) b=some u:=fun b u ne e=>by rw [aH ne];exact e
  have qh:upd Hc l (.lst (us.map fun k:Nat=>V.int (k:Int))) l=some (.lst (us.map fun k:Nat=>V.int (k:Int))):=ax
  have QX:∀{Hx Hy:Hp},tT n ds H Hx→(∀b u,b≠l→Hx b=some u→Hy b=some u)→tT n ds H Hy:=fun h k b u e ne=>k b u (fun z=>by rw [z,oH] at e;cases e) (h b u e ne)
  have abR:∀{Hx Hy:Hp},tT n ds H Hx→(∀b u,b≠mt→Hx b=some u→Hy b=some u)→tT n ds H Hy:=fun h k b u e ne=>k b u (fun z=>by rw [z,vn] at e;cases e) (h b u e ne)
  have K1:=Kc.keep o1 lD E4
  have QY:=QX oc o1
  have QZ:=o1 _ _ (Ne.symm lm) QW
  generalize upd Hc l (.lst (us.map fun k:Nat=>V.int (k:Int)))=H3 at o1 qh K1 QY QZ ⊢
  dsimp only [a7]
  refine Ds (a:=ds h) (kvs:=dk (f h)) (fun Q q=>⟨_,rfl,_,rfl,D,_,_,_,rfl,rfl,.of K1.lst,mU hn,q⟩) (K1.at' h hn) fun ob Hf gm off=>?_
  have Kf:=K1.bg off hn gm KL.inj (KL.ne h hn)
  have ocf:tT n ds H Hf:=fun b u e ne=>off b u (ne h hn) (QY b u e ne)
  have emf:=off _ _ (Ne.symm (Jz h hn)) QZ
  have elf:=off _ _ (Ne.symm (E4 h hn)) qh
  refine HL (fun i σ He=>∃(ks us:List Nat) (v6:Option V),σ=[some (.ref D),some (.ref d),some (.int (p:Int)),some (.ref mt),some (.ref l),some (.int (h:Int)),v6]∧tT n ds H He∧en He D n ds f∧He (ds h)=some (.bg ob (.dK (dk (f h))))∧He mt=some (.dK (dk ks))∧He l=some (.lst (us.map fun k:Nat=>V.int (k:Int)))∧fR n (iT n f) (·∈done) p (some h) (·∈(f h).take i) ks us∧us.length≤ks.length∧h∈ks∧2*(n-ks.length)+us.length<m') ⟨ks,us,_,rfl,ocf,Kf,gm,emf,elf,⟨BC.pl,BC.st,BC.rc,BC.wt,fun x hx ox=>(BC.cl x hx ox).imp id fun e b hb=>(e b hb).imp id fun z=>⟨z.1,by simp⟩⟩,by lia,hh.1,by lia⟩ (fun i σ He _ ⟨_,_,_,_,_,_,e,_⟩=>e) ?_ ?_
  ·rintro i k σ He hk ⟨ks,us,v6,rfl,aJ⟩
   have oe:=aJ.1
   have Ke:=aJ.2.1
   have qg:=aJ.2.2.1
   have BD:=aJ.2.2.2.1
   have E5:=aJ.2.2.2.2.1
   have rY:=aJ.2.2.2.2.2.1
   have ul:=aJ.2.2.2.2.2.2.1
   have yN:=aJ.2.2.2.2.2.2.2.1
   have lt:=aJ.2.2.2.2.2.2.2.2
   clear aJ
   have km:k∈f h:=j4 hk
   have kn:k<n:=(KL.pl h hn).2 k km
   have tk:=take_snoc hk
   have ple:=rY.pl.len
   dsimp only [a7]
   refine ⟨_,rfl,_,rfl,mt,_,rfl,.inl ⟨dk ks,Sum.inl (k:Int),.inl BD,rfl,rfl⟩,_,rfl,?_⟩
   rw [HF]
   by_cases yO:k∈ks
   ·rw [ae yO]
    refine ie ⟨ks,us,_,rfl,oe,Ke,qg,BD,E5,?_,ul,yN,lt⟩
    have w2:=rY.old yO
    refine ⟨w2.pl,w2.st,w2.rc,w2.wt,fun x hx ox=>(w2.cl x hx ox).imp id fun e b hb=>(e b hb).imp id fun z=>⟨z.1,fun q=>z.2 ?_⟩⟩
    rw [tk] at q
    exact (dW.mp q).imp id cy.mp
   ·rw [aa yO]
    refine wx ?_
    have al:=XJ yO
    have o4:∀b u,b≠mt→He b=some u→upd He mt (.dK (dk (dI ks k))) b=some u:=fun b u ne e=>by rw [aH ne];exact e
    refine dB ⟨_,rfl,_,rfl,mt,upd He mt (.dK (dk (dI ks k))),rfl,.inl ⟨dk ks,Sum.inl (k:Int),BD,rfl,by rw [Dn];exact dA (by lia),by rw [ND]⟩,?_⟩
    have JA:upd He mt (.dK (dk (dI ks k))) mt=some (.dK (dk (dI ks k))):=ax
    have K4:=Ke.keep o4 mD Jz
    have E6:=abR oe o4
    have yP:=o4 _ _ lm E5
    have JB:=o4 _ _ (Jz h hn) qg
    generalize upd He mt (.dK (dk (dI ks k)))=H4 at o4 JA K4 E6 yP JB ⊢
    have conv:∀{vs:List Nat},fR n (iT n f) (·∈done) p (some h) (fun x=>x∈(f h).take i∨x=k) (dI ks k) vs→fR n (iT n f) (·∈done) p (some h) (·∈(f h).take (i+1)) (dI ks k) vs:=fun w2=>⟨w2.pl,w2.st,w2.rc,w2.wt,fun x hx ox=>(w2.cl x hx ox).imp id fun e b hb=>(e b hb).imp id fun z=>⟨z.1,fun q=>z.2 (by
     rw [tk] at q
     exact (dW.mp q).imp id cy.mp)⟩⟩
    have pl4:=(rY.pl.add kn).len
    dsimp only
    refine ⟨_,rfl,_,rfl,d,_,rfl,.inr (.of (E6 d _ ed QV)),rfl,NP done,_,rfl,dS (fun hb=>?_) (fun hb=>?_)⟩
    ·have hb:mE (.int (k:Int)) (done.map fun k:Nat=>V.int (k:Int))=true:=hb
     rw [Dr,eY] at hb
     refine ⟨_,rfl,.inl ⟨rfl,_,.of yP⟩,_,rfl,l,_,_,rfl,rfl,yP,dA (by rw [aD];lia),?_⟩
     have o5:∀b u,b≠l→H4 b=some u→upd H4 l (.lst ((us.map fun k:Nat=>V.int (k:Int))++[V.int (k:Int)])) b=some u:=fun b u ne e=>by rw [aH ne];exact e
     exact ⟨dI ks k,us++[k],_,rfl,QX E6 o5,K4.keep o5 lD E4,o5 _ _ (E4 h hn) JB,o5 _ _ (Ne.symm lm) JA,by rw [ax,eX];rfl,conv (rY.new yO kn yN hh.2 ⟨hn,km⟩ (.inl ⟨hb,rfl⟩)),by rw [al,dO,qt];lia,jS.mpr (.inl yN),by rw [al,dO,qt];lia⟩
    ·have hb:¬mE (.int (k:Int)) (done.map fun k:Nat=>V.int (k:Int))=true:=hb
     rw [Dr,eY] at hb
     exact ⟨dI ks k,us,_,rfl,E6,K4,JB,JA,yP,conv (rY.new yO kn yN hh.2 ⟨hn,km⟩ (.inr ⟨hb,rfl⟩)),by rw [al];lia,jS.mpr (.inl yN),by rw [al];lia⟩
  ·rintro σ He ⟨ks,us,v6,rfl,aY⟩
   have oe:=aY.1
   have Ke:=aY.2.1
   have qg:=aY.2.2.1
   have BD:=aY.2.2.2.1
   have E5:=aY.2.2.2.2.1
   have rY:=aY.2.2.2.2.2.1
   have ul:=aY.2.2.2.2.2.2.1
   have yN:=aY.2.2.2.2.2.2.2.1
   have lt:=aY.2.2.2.2.2.2.2.2
   clear aY
   rw [iD] at rY
   exact ⟨_,lt,ks,us,_,_,rfl,rfl,oe,Ke,BD,E5,rY.next fun b hb=>hb.2,ul⟩
 ·have w0:ws=[]:=by
   cases ws with
   | nil=>rfl
   | cons x r=>
    refine absurd (bA ?_) hb
    show (0:Int)<_
    simp
  subst w0
  dsimp only
  refine rf (AX (Ds (a:=mt) (kvs:=dk ks) (fun Q q=>⟨_,rfl,q⟩) (.inl QW) fun ob Hf gm off=>?_))
  have edf:Hf d=some (.tup (done.map fun k:Nat=>V.int (k:Int))):=off _ _ (fun z=>by rw [z,vn] at ed;cases ed) (oc d _ ed QV)
  refine Dq gm (fun q=>!decide (q=p) && !decide (q∈done)) (dA (by lia)) ?_ ?_ ?_
  ·intro q hq Hx R sx hR
   refine ⟨_,rfl,_,rfl,rfl,_,rfl,dS (fun hb=>?_) (fun hb=>?_)⟩
   ·have ne:¬q=p:=fun z=>by
     subst z
     rw [wG,bA rfl] at hb
     cases hb
    refine ⟨_,rfl,_,rfl,d,_,rfl,.inr (.of (sx _ _ edf)),rfl,NP done,_,rfl,?_⟩
    rw [bO ne,Bool.not_false,Bool.true_and] at hR
    have e:(if true=true then !mE (.int (q:Int)) (done.map fun k:Nat=>V.int (k:Int)) else mE (.int (q:Int)) (done.map fun k:Nat=>V.int (k:Int))) = !decide (q∈done):=by rw [ae rfl,Dr]
    rw [e]
    exact hR
   ·have eq:q=p:=by
     by_cases z:(q:Int)=(p:Int)
     ·lia
     ·exact absurd (by rw [wG,bO z];rfl) hb
    rw [bA eq,Bool.not_true,y8] at hR
    exact hR
  ·intro q hq Hx R hR
   exact ⟨_,rfl,hR⟩
  ·intro r Hg nr sg eg
   refine kk Hg r _ (fun b u e ne=>sg _ _ (off _ _ (fun z=>by rw [z,vn] at e;cases e) (oc b u e ne))) eg ⟨ks,wk.pl,wk.done,by rw [aD]⟩
theorem abW:ck ["shape","done","place"] ["shape","done","place"] (bC En):=cT
theorem abX(T:Txt K mg t):bL P w K mg base (fX P w) 2 t.uO t.xS ["shape","done","place"] XO:=by
 have S:=abW;refine T.yu.gC S (fun _ _ _ _ H _ _ _ hr h L=>?_);obtain ⟨tp,d,n,Lk,done,p,rfl,hS,hL,n9,ed,ld,pn,kk⟩:=h
 refine ⟨_,(aE (iI (a_ (Qz T) hr T.IZ T.vc.kp T.IY (pH L) (aj (pv 0) aq)))
  (aI (bK (a_ (Qy T) hr T.IS T.u9.kp T.IQ bZ (aj (dg jG rfl T.iy iE (aj (a_ (abQ T) hr T.P5 T.yt.kp T.P4 bZ (aj (a_ (Bz T) hr T.yf T.oE.kp T.ye bZ (aj (pv 0) aq)) (aj (pv 1) (aj (pv 2) aq)))) aq)) aq))))),?_⟩
 refine ⟨_,rfl,tp,n,Lk,rfl,hS,n9,?_⟩;refine ⟨_,rfl,tp,n,Lk,rfl,hS,hL,by lia,fun H1 D ds f s1 nD oG KL nb=>?_⟩
 refine ⟨_,rfl,_,rfl,D,d,n,ds,f,done,p,rfl,KL,s1 _ _ ed,ld,pn,by lia,fun H2 r xs off er near=>?_⟩
 have s2:ak H H2:=fun b u e=>off b u (s1 _ _ e) fun i hi z=>by rw [z,oG i hi] at e;cases e
 have c9:=near.le;exact ⟨r,xs,rfl,.inl (.of er),xs.length,rfl,by lia,kk H2 f xs.length s2 nb near⟩
theorem abY:ck ["done","place"] ["done","place"] (bC Ep):=cT
theorem Q0(T:Txt K mg t):bL P w K mg base cQ 1 t.uQ t.xU ["done","place"] Ze:=by
 have S:=abY;refine T.vd.eE S (fun _ _ _ _ H _ Q _ hr h=>?_);obtain ⟨d,done,p,rfl,ed,l1,kk⟩:=h;refine ⟨_,(aI (bK (iK CI rfl T.By boot_tuple (aj (dg Y0 rfl T.oF oX (aj (cC (NL (K:=K)) (pv 0) (h_ (aj (pv 1) aq))) aq)) aq)))),?_⟩;have fin:∀(H1:Hp) (b:Addr),ak H H1→H1 b=some (.tup ((done++[p]).map V.int))→CF Ol (fun σ H Q=>Q [.ref b] H) [] H1 (fun x H2=>∃q ys,[x]=[V.ref q]∧((aZ K H2 q ys∧∀l,H2 l=none→Q (.ref l) (upd H2 l (.tup ys)))∨(eG K H2 q ys∧Q (.ref q) H2))):=fun H1 b s1 eb=>by
  refine ⟨b,done++[p],rfl,eb,by simp;lia,fun ws D pm so nD=>⟨D,_,rfl,.inl ⟨.of ax,fun l nl=>?_⟩⟩⟩
  exact kk _ l ws pm so (none_of s1 (none_of (aS nD) nl)) (s1.trans ((aS nD).trans (aS nl))) ax
 refine ⟨_,rfl,_,rfl,by show 1≤sizeLine;decide,fun b nb=>?_⟩
 have s1:ak H (upd H b (.tup [.int p])):=aS nb;have eb:upd H b (.tup [.int p]) b=some (.tup [.int p]):=ax;generalize upd H b (.tup [.int p])=H1 at s1 eb ⊢;refine ⟨d,b,_,_,rfl,rfl,.of (s1 _ _ ed),.of eb,by simp,Zd (by rw [aD];simp;lia),fun e0=>?_,fun e1 c nc=>?_⟩
 ·have:done=[]:=List.map_eq_nil_iff.mp e0
  subst this;exact fin H1 b s1 eb
 ·refine fin _ c (s1.trans (aS nc)) ?_
  rw [ax,eX];rfl
theorem abZ:ck ["n","told","place"] ["n"] (bC Eo):=cT
theorem ab0(T:Txt K mg t):bL P w K mg base cQ 1 t.uP t.xT ["n"] Zf:=by
 have S:=abZ;refine T.yw.eE S (fun _ _ _ _ H _ _ _ hr h=>?_);obtain ⟨n,rfl,n9,kk⟩:=h
 refine ⟨_,(aE (putL 1 S.nd (fD (aj (h_ aq) aq)))
  (aE (fi eQ rfl (qN rfl T.ju (aj (pv 0) aq)) (df (i:=2) S.nd rfl (Or.inr rfl))
   (aI (putL 1 S.nd (cC CK (pv 1) (jb (N:=["each","place"]) (ρ:=(fun σ=>[σ[2]?.join])) (fY [2] rfl) rfl (fW (pv 1)) (fun _ _ _=>.nil) (fun _ _ _=>(cC (NL (K:=K)) (pv 0) (h_ (aj (pv 1) aq)))))))))
  (aI (bK (pv 1))))),?_⟩
 refine ⟨cf _,fun b nb=>⟨by show 1≤sizeLine;decide,fun l nl=>?_⟩⟩
 have s0:ak H (upd (upd H b (.tup [])) l (.lst [.ref b])):=(aS nb).trans (aS nl);have lb:b≠l:=fun z=>by rw [z,ax] at nl;cases nl
 have eb:upd (upd H b (.tup [])) l (.lst [.ref b]) b=some (.tup []):=by rw [aH lb,ax]
 have el:upd (upd H b (.tup [])) l (.lst [.ref b]) l=some (.lst [.ref b]):=ax;generalize upd (upd H b (.tup [])) l (.lst [.ref b])=H0 at s0 eb el ⊢;dsimp only [a7];refine dB ⟨_,rfl,(n:Int),rfl,by lia,by lia,?_⟩
 rw [cZ];refine tj (fun k σ Hc=>∃(D:Addr) (xs:List V) (v2:Option V),σ=[some (.int (n:Int)),some (.ref D),v2]∧ak H Hc∧H D=none∧Hc D=some (.lst xs)∧lK Hc xs (b7 k)) ⟨l,_,_,rfl,s0,none_of (aS nb) nl,el,⟨rfl,fun i v q h1 h2=>?_⟩⟩ ?_ ?_
 ·match i,h1,h2 with
  | 0,h1,h2=>cases h1;cases h2;exact ⟨b,rfl,eb⟩
  | i+1,h1,h2=>simp at h1
 ·rintro k σ Hc hk ⟨D,xs,v2,rfl,sc,nD,eD,tu⟩
  have p2:2 ^ k≤512:=b8 (Nat.pow_le_pow_right (by decide) (show k≤9 by lia)) (by decide)
  have lx:xs.length=2 ^ k:=tu.1.trans (Ig k);dsimp only [a7];refine pJ ⟨_,rfl,wK (xs:=xs) (fun R h=>⟨_,rfl,D,rfl,⟨_,.of eD⟩,h _ _ (ak.refl _) (ko (.of eD))⟩) (dA (by lia)) (fun _ i y Hz=>∀q,(b7 k)[i]?=some q→∃(b:Addr),y=.ref b∧Hz b=some (.tup ((q++[k]).map fun k:Nat=>V.int (k:Int)))) (fun Dd i y Ha Hb ys h e f q hq=>by obtain ⟨b,h1,h2⟩:=h q hq;exact ⟨b,h1,f b _ (fun z=>by rw [z,e] at h2;cases h2) h2⟩) ?_ ?_⟩
  ·intro Dd i x hx Hz R sz _ kz
   have hi:i<(b7 k).length:=by rw [←tu.1];exact (bJ.mp hx).1
   obtain ⟨b,rfl,eb⟩:=tu.2 i x _ hx (bP hi);have qa:(b7 k)[i]?=some (b7 k)[i]:=bP hi;generalize (b7 k)[i]=us at eb qa;have lu:us.length≤60:=by obtain ⟨u1,u2⟩:=eL.mp (j4 qa);have:=A6 u1 u2;lia
   refine ⟨_,rfl,_,rfl,by show 1≤sizeLine;decide,fun q nq=>?_⟩
   have JD:=sz _ _ eb;have bq:b≠q:=fun z=>by rw [z,nq] at JD;cases JD
   have ebq:upd Hz q (.tup [V.int (0+(k:Int))]) b=some (.tup (us.map fun k:Nat=>V.int (k:Int))):=(aH bq).trans JD;refine ⟨b,q,_,_,rfl,rfl,.of ebq,.of ax,by simp,b8 (show _≤100 by simp;lia) (by decide),fun e=>?_,fun ne p np=>?_⟩
   ·refine kz _ _ (aS nq) fun r hr=>⟨q,rfl,?_⟩
    rw [qa] at hr;cases hr;have:us=[]:=List.map_eq_nil_iff.mp e;subst this;rw [ax,qH];rfl
   ·refine kz _ _ ((aS nq).trans (aS np)) fun r hr=>⟨p,rfl,?_⟩
    rw [qa] at hr;cases hr;rw [ax,qH,eX];rfl
  ·intro Dd ys Hd Jp sd nk ng vi
   refine ⟨D,Dd,xs,ys,rfl,rfl,sd _ _ eD,vi,b8 (show _≤2000 by lia) (by decide),fun l2 vj=>?_⟩
   have ty:lK Hd ys ((b7 k).map (·++[k])):=⟨by rw [nk,aD,tu.1],fun i v q h1 h2=>by
    rw [bo] at h2;cases e:(b7 k)[i]? with
    | none=>rw [e] at h2;cases h2
    | some r=>rw [e] at h2;cases h2;exact ng i v h1 r e⟩
   exact ⟨l2,_,_,rfl,(sc.trans sd).trans (aS vj),none_of (sc.trans sd) vj,ax,((tu.mono sd).cat ty).mono (aS vj)⟩
 ·rintro σ Hc ⟨D,xs,v2,rfl,sc,nD,eD,tu⟩
  exact ⟨_,rfl,kk D xs Hc sc nD eD tu⟩
theorem ab2:ck ["shape","done","worth_of","left"] ["shape","done","worth_of"] (bC Er):=cT
theorem Q1(T:Txt K mg t):bL P w K mg base (fX P w) 3 t.uR t.xW ["shape","done","worth_of"] Zi:=by
 have S:=ab2;refine T.ve.gC S (fun _ _ _ _ H _ _ _ hr h L=>?_);obtain ⟨tp,d,wo,n,Lk,done,kvs,W,rfl,ao⟩:=h;have eC:=ao.1;have bV:=ao.2.1;have n9:=ao.2.2.1;have ed:=ao.2.2.2.1;have hd:=ao.2.2.2.2.1;have ewo:=ao.2.2.2.2.2.1;have hW:=ao.2.2.2.2.2.2.1;have kk:=ao.2.2.2.2.2.2.2;clear ao;have iY:=hr.units;have hu0:=i4 (md (show 1≤64 by decide) _) hr.units
 refine ⟨_,(aE (Aq (i0:=3) (N:=["place","done"]) (ρ:=(fun σ=>[σ[1]?.join])) (fY [1] rfl) rfl S.nd rfl (Or.inl rfl) (qN rfl T.ju (aj (bj eV (pv 0) aN) aq)) (fun _ _ _=>(.one (wg (NN (K:=K)) (pv 0) (pv 1) rfl))) (fun _ _ _=>(pv 0)))
  (aI (bK (jb (N:=["place","shape","done","worth_of"]) (ρ:=(fun σ=>[σ[0]?.join,σ[1]?.join,σ[2]?.join])) (fY [0,1,2] rfl) rfl (fW (pv 3)) (fun _ _ _=>.nil) (fun _ _ _=>(h_ (aj (cC kW (a_ (abX T) hr T.P7 T.yu.kp T.P6 jH (aj (pv 1) (aj (pv 2) (aj (pv 0) aq)))) (Dj hu0 (pv 3) (a_ (Q0 T) hr T.I_ T.vd.kp T.I0 bZ (aj (pv 2) (aj (pv 0) aq))) (fun _ _=>rfl))) (aj (pv 0) aq)))))))),?_⟩
 obtain ⟨lt,us,d6,elt,mF⟩:=id eC;obtain ⟨dup,dlt⟩:=eL.mp hd;have dl:done.length≤9:=b8 (A6 dup dlt) n9;have fl:(done.map fun k:Nat=>V.int (k:Int)).all jF=true:=by rw [oU];intro v hv;obtain ⟨q,_,rfl⟩:=bG.mp hv;rfl
 have Qx:((List.range n).map fun i:Nat=>V.int (0+(i:Int))).length=n:=by rw [aD,c_]
 refine dB (pJ (YJ (xs:=(List.range n).map fun i:Nat=>V.int (0+(i:Int))) (A7 done) (fun R h=>⟨_,rfl,tp,_,_,_,rfl,rfl,.of d6,rfl,(n:Int),rfl,by lia,by lia,h _ _ (ak.refl _) (by rw [cZ];exact MG)⟩) (dA (by lia)) ?_ (fun x Hx R h=>⟨_,rfl,h⟩) fun l H1 nl s1 el=>?_))
 ·intro x hxm Hd R sd kR
  obtain ⟨q,hq,rfl⟩:=bG.mp hxm;refine ⟨_,rfl,_,rfl,d,_,rfl,.inr (.of (sd _ _ ed)),rfl,fl,_,rfl,?_⟩;rw [Zg] at kR;exact kR
 rw [Zh] at el;dsimp only [a7];have lle:(cF n done).length≤n:=b8 (vT _ _) (by rw [c_];exact aC _)
 refine rf (wK (xs:=(cF n done).map fun k:Nat=>V.int (k:Int)) (fun R h=>⟨_,rfl,l,rfl,⟨_,.of el⟩,h _ _ (ak.refl _) (ko (.of el))⟩) (dA (by rw [aD];lia)) (fun _ i y Hz=>∀p,(cF n done)[i]?=some p→∃b,y=.ref b∧Hz b=some (.tup [.int (dU n Lk done p+W (bI done p)),.int (p:Int)])) (fun Dd i y Ha Hb ys h e f q hq=>by obtain ⟨b,h1,h2⟩:=h q hq;exact ⟨b,h1,f b _ (fun z=>by rw [z,e] at h2;cases h2) h2⟩) ?_ ?_)
 ·intro Dd i x hx Hz R sz _ kz
  rw [bo] at hx;cases ep:(cF n done)[i]? with
  | none=>rw [ep] at hx;cases hx
  | some p=>
   rw [ep] at hx;cases hx;have pm:=j4 ep;have pn:p<n:=by have:=(b_.mp pm).1;exact aU.mp this
   have pd:p∉done:=by have:=(b_.mp pm).2;simpa using this
   have JE:=s1.trans sz;refine ⟨_,rfl,_,rfl,_,rfl,tp,d,n,Lk,done,p,rfl,eC.mono JE,bV,n9,JE _ _ ed,by lia,pn,fun H2 f c s2 nb near=>?_⟩
   have kF:=JE.trans s2;refine ⟨_,rfl,_,rfl,_,rfl,d,done.map iN,(p:Int),rfl,by rw [kF _ _ ed,cM];rfl,by rw [aD];lia,fun H3 tq ws pm so yM s3 JF=>?_⟩
   have ew:=Ou dup pd pm so;subst ew;have gh:=kF.trans s3;refine ⟨wo,_,rfl,(hW p pn pd)▸lE.t (k:=fS (bI done p)) (gh _ _ ewo) (by rw [JF];unfold fS;rw [cM,cM];rfl),_,_,rfl,rfl,_,rfl,by show 2≤sizeLine;decide,fun q nq=>?_⟩
   refine kz _ _ ((s2.trans s3).trans (aS nq)) fun r hr=>⟨q,rfl,?_⟩;rw [ep] at hr;cases hr;rw [ax,Ih nb near]
 ·intro Dd ys Hd Jp sd nk ng vi
  rw [aD] at nk;exact kk Hd Dd ys (s1.trans sd) vi ⟨nk,fun i v p h1 h2=>ng i v h1 p h2⟩
theorem ab7:ck ["shape","told","done"] ["shape"] (bC Es):=cT
theorem JG(T:Txt K mg t):bL P w K mg base (fX P w) 4 t.uS t.xX ["shape"] Zn:=by
 have S:=ab7;refine T.rT.gC S (fun _ _ _ _ H _ _ _ hr h L=>?_);obtain ⟨tp,n,Lk,rfl,ao⟩:=h;have eC:=ao.1;have bV:=ao.2.1;have n9:=ao.2.2.1;have kk:=ao.2.2.2;clear ao;have hu:=i4 (md (show 1≤64 by decide) _) hr.units
 refine ⟨_,(aE (iI (a_ (Qz T) hr T.IZ T.vc.kp T.IY (pH L) (aj (pv 0) aq)))
  (aE (putL 1 S.nd W4)
  (aE (fi (HJ L) rfl (fW (YX (aj (a_ (ab0 T) hr T.P9 T.yw.kp T.P8 bZ (aj (bj eV (pv 0) aN) aq)) aq) rfl T.oF oX rfl T.iy iE)) (df (i:=2) S.nd rfl (Or.inl rfl))
   (aI (wZ hu (pv 1) (pv 2) (Y_ rfl (aj (GR (N:=["total","place"]) (ρ:=(fun σ=>[])) (GQ [] rfl) rfl (fW (a_ (Q1 T) hr T.Jb T.ve.kp T.Ja (pH L) (aj (pv 0) (aj (pv 2) (aj (pv 1) aq))))) (fun _ _ _=>.nil) (fun _ _ _=>(pv 0))) aq) aN rfl T.yG boot_min) rfl)))
  (aI (bK (pv 1)))))),?_⟩
 refine ⟨_,rfl,tp,n,Lk,rfl,eC,n9,?_⟩;intro D nD;have s0:ak H (upd H D (.dT [])):=aS nD;have E7:upd H D (.dT []) D=some (.dT []):=ax;dsimp only [a7];generalize upd H D (.dT [])=H0 at s0 E7 ⊢;obtain ⟨lt,us,eB⟩:=id (eC.mono s0);have d6:=eB.1;have elt:=eB.2.1;have mF:=eB.2.2;clear eB;refine dB ⟨_,rfl,tp,_,_,_,rfl,rfl,.of d6,rfl,n,rfl,n9,fun Dx xs H1 s1 nDx eDx tu=>?_⟩;have ab9:(b7 n).length≤512:=by rw [Ig];exact b8 (Nat.pow_le_pow_right (by decide) n9) (by decide)
 refine ⟨Dx,xs,fun i=>((b7 n).getD i []).length,rfl,eDx,by have:=tu.1;lia,(fun i v hv=>?_),fun D2 p vg fp=>?_⟩
 ·have hi:i<(b7 n).length:=by rw [←tu.1];exact (bJ.mp hv).1
  obtain ⟨b,e,g⟩:=tu.2 i v _ hv (bP hi);have lq:(b7 n)[i].length≤9:=by obtain ⟨q1,q2⟩:=eL.mp (cB hi);exact b8 (A6 q1 q2) n9
  exact ⟨b,_,e,g,by rw [aD];show ((b7 n).getD i []).length=_;rw [cg,bP hi];rfl,by rw [aD];lia⟩
 rw [tu.1] at fp;have fq:=Zp fp;have tq:=(Zs tu (p:=p) fun i hi=>aU.mp (fp.pm.mem_iff.mp hi)).mono (aS (o:=.lst (p.map fun i=>xs.getD i .aR)) vg);have gN:upd H1 D2 (.lst (p.map fun i=>xs.getD i .aR)) D2=some (.lst (p.map fun i=>xs.getD i .aR)):=ax;have lW:ak H0 (upd H1 D2 (.lst (p.map fun i=>xs.getD i .aR))):=s1.trans (aS vg);generalize upd H1 D2 (.lst (p.map fun i=>xs.getD i .aR))=H2 at tq gN lW ⊢;generalize (p.map fun i=>xs.getD i .aR)=xs2 at tq gN ⊢;generalize (p.map fun i=>(b7 n).getD i [])=qs at tq fq;have lqs:qs.length≤512:=by rw [fq.pm.length_eq];exact ab9
 have D2D:D2≠D:=fun z=>by rw [z,lW _ _ E7] at gN;cases gN
 refine ⟨D2,rfl,⟨_,.of gN⟩,?_⟩;refine s_ (K:=K) (a:=D2) (xs:=xs2) (fun j σ Hc=>∃(v2:Option V),σ=[some (.ref tp),some (.ref D),v2]∧ak H Hc∧(∀b o,b≠D→H2 b=some o→Hc b=some o)∧Hc D=some (.dT (wD (wW n Lk) (qs.take j)))) ⟨_,rfl,s0.trans lW,fun b o _ e=>e,lW _ _ E7⟩ (fun j σ Hc _ ⟨_,_,_,kc,_⟩=>.of (kc _ _ D2D gN)) ?_ ?_
 ·rintro j x σ Hc hx ⟨v2,rfl,aG⟩
  have sc:=aG.1;have kc:=aG.2.1;have eD:=aG.2.2;clear aG;have hj:j<qs.length:=by rw [←tq.1];exact (bJ.mp hx).1
  have hq:qs[j]?=some qs[j]:=bP hj;obtain ⟨b,rfl,eb⟩:=tq.2 j x _ hx hq;generalize qs[j]=q at hq eb;have bD:b≠D:=fun z=>by rw [z,lW _ _ E7] at eb;cases eb
  have Q2:=kc _ _ bD eb;have qm:q∈b7 n:=fq.pm.mem_iff.mp (j4 hq);obtain ⟨nq,tk⟩:=Zr fq hq;have ll:(cF n q).length≤9:=b8 (vT _ _) (by rw [c_];exact n9)
  dsimp only [a7];refine Zo (Zk (Z:=(cF n q).map fun p=>(dU n Lk q p+wW n Lk (bI q p),(p:Int))) (fun R h=>?_) (dA (by rw [aD];lia)) (fun z _ Hx R h=>⟨_,rfl,h⟩) fun D3 H4 nD3 s4 rZ=>?_)
  ·refine ⟨_,rfl,_,rfl,_,rfl,tp,b,D,n,Lk,q,_,wW n Lk,rfl,eC.mono sc,bV,n9,Q2,qm,eD,(fun p pn pq=>DF _ (Zq fq hq pn pq)),fun H3 Dc ys s3 lY ch=>?_⟩
   exact ⟨Dc,rfl,⟨_,.of lY⟩,h _ _ s3 (Zj lY (Oy ch))⟩
  ·refine ⟨D3,_,0,rfl,rfl,rZ,by rw [aD,aD];lia,fun m hm=>?_⟩
   have em:m=wW n Lk q:=by rw [Zl hm,cM,DE qm];rfl
   subst em;refine ⟨_,rfl,_,rfl,D,_,rfl,wY.t (k:=fS q) (s4 _ _ eD) (by rw [s4 _ _ Q2];unfold fS;rw [cM];rfl) (dA (by unfold wD;rw [aD,qq];lia)),?_⟩
   refine ⟨_,rfl,fun c o e=>?_,fun c o cD e=>(aH cD).trans (s4 _ _ (kc c o cD e)),by rw [ax,Zm _ nq,tk]⟩
   rw [aH (fun z=>by rw [z,nD] at e;cases e)]
   exact s4 _ _ (sc _ _ e)
 ·rintro σ Hc ⟨v2,rfl,aJ⟩
  have sc:=aJ.1;have kc:=aJ.2.1;have eD:=aJ.2.2;clear aJ;rw [tq.1,iD] at eD;exact ⟨_,rfl,kk Hc D qs sc nD eD fq.pm⟩
theorem acb:ck ["shape","worth_of","order","done","place"] ["shape"] (bC Et):=cT
theorem Q3(T:Txt K mg t):bL P w K mg base (fX P w) 5 t.uT t.xY ["shape"] Zw:=by
 have S:=acb;refine T.vf.gC S (fun _ _ _ _ H _ _ _ hr h L=>?_);obtain ⟨tp,n,Lk,rfl,ao⟩:=h;have eC:=ao.1;have bV:=ao.2.1;have n9:=ao.2.2.1;have kk:=ao.2.2.2;clear ao;have iY:=hr.units;have hu:=i4 (md (show 1≤64 by decide) _) hr.units
 refine ⟨_,(aE (putL 1 S.nd (a_ (JG T) hr T.EJ T.rT.kp T.EI (pH L) (aj (pv 0) aq)))
  (aE (putL 2 S.nd (fD aq))
  (aE (putL 3 S.nd (h_ aq))
  (aE (wc (HJ L) (dv zW (dg jG rfl T.iy iE (aj (pv 2) aq)) (bj eV (pv 0) aN)) (aE (putL 4 S.nd (bj eV (dg (Zb rfl iY) rfl T.yG boot_min (aj (a_ (Q1 T) hr T.Jb T.ve.kp T.Ja (pH L) (aj (pv 0) (aj (pv 3) (aj (pv 1) aq)))) aq)) aN))
  (aE (iI (kh jB oY oZ k6 (pv 2) (aj (pv 4) aq)))
  (aI (putL 3 S.nd (a_ (Q0 T) hr T.I_ T.vd.kp T.I0 bZ (aj (pv 3) (aj (pv 4) aq))))))))
  (aI (bK (h_ (aj (pv 2) (aj (Dj hu (pv 1) (h_ aq) (fun _ _=>rfl)) aq))))))))),?_⟩
 refine ⟨_,rfl,tp,n,Lk,rfl,eC,bV,n9,fun H1 D qs s1 nD eD pq=>?_⟩;dsimp only [a7];refine ⟨cf _,fun lo JH=>?_⟩;have s2:ak H1 (upd H1 lo (.lst [])):=aS JH;have BE:upd H1 lo (.lst []) lo=some (.lst []):=ax;have Q4:H lo=none:=none_of s1 JH;have gN:=s2 _ _ eD;dsimp only [a7];generalize upd H1 lo (.lst [])=H2 at s2 BE gN ⊢;refine ⟨cf _,fun td ntd=>?_⟩;have s3:ak H2 (upd H2 td (.tup [])):=aS ntd;have Q5:upd H2 td (.tup []) td=some (.tup []):=ax;have E8:=s3 _ _ BE;have rZ:=s3 _ _ gN;dsimp only [a7];generalize upd H2 td (.tup [])=H3 at s3 Q5 E8 rZ ⊢;have gh:=s1.trans (s2.trans s3);have loD:lo≠D:=fun z=>by rw [z,rZ] at E8;cases E8
 have Q6:∀q,q∈b7 n→fv (wD (wW n Lk) qs) (fS q)=some (.int (wW n Lk q)):=fun q hq=>DF _ (pq.mem_iff.mpr hq);refine dB ⟨fun m σ Hc=>∃(o Sd:List Nat) (dn:Addr) (v4:Option V),σ=[some (.ref tp),some (.ref D),some (.ref lo),some (.ref dn),v4]∧m=n-o.length∧ak H Hc∧Hc D=some (.dT (wD (wW n Lk) qs))∧Hc lo=some (.lst (o.map fun k:Nat=>V.int (k:Int)))∧Hc dn=some (.tup (Sd.map fun k:Nat=>V.int (k:Int)))∧t_ n Lk o Sd,⟨_,[],[],td,_,rfl,rfl,gh,rZ,E8,Q5,t_.start n Lk⟩,?_⟩;rintro m σ Hc ⟨o,Sd,dn,v4,rfl,rfl,aG⟩;have sc:=aG.1;have lY:=aG.2.1;have E9:=aG.2.2.1;have E_:=aG.2.2.2.1;have fw:=aG.2.2.2.2;clear aG;obtain ⟨lt,us,eB⟩:=id (eC.mono sc);have d6:=eB.1;have elt:=eB.2.1;have mF:=eB.2.2;clear eB;obtain ⟨m1,m2⟩:=eL.mp fw.mem;have lS:Sd.length=o.length:=fw.pm.length_eq;have lo9:o.length≤n:=by rw [←lS];exact A6 m1 m2
 refine ⟨_,rfl,lo,_,rfl,.inl (.of E9),_,rfl,tp,_,_,_,rfl,rfl,.of d6,rfl,_,_,rfl,rfl,_,rfl,dS (fun hc=>?_) (fun hc=>?_)⟩
 ·have hc:((o.map fun k:Nat=>V.int (k:Int)).length:Int)<(n:Int):=fB hc
  rw [aD] at hc;have olt:o.length<n:=by lia
  refine ⟨_,fun _ _ h=>h,?_⟩;refine ⟨_,rfl,_,rfl,_,rfl,tp,dn,D,n,Lk,Sd,_,wW n Lk,rfl,eC.mono sc,bV,n9,E_,fw.mem,lY,(fun p pn pd=>Q6 _ (eL.mpr ⟨t9 m1 pd,fun x hx=>by
   rcases kD.mp hx with rfl | hx;·exact pn
   ·exact m2 x hx⟩)),fun H4 Dc ys s4 acf ch=>?_⟩
  have lne:0<(cF n Sd).length:=Zu fw.mem (by lia)
  have lk:=Oy ch;refine ⟨Dc,ys,(fun i=>(((cF n Sd).map fun p=>(dU n Lk Sd p+wW n Lk (bI Sd p),(p:Int))).getD i (0,0)).1),(fun i=>(((cF n Sd).map fun p=>(dU n Lk Sd p+wW n Lk (bI Sd p),(p:Int))).getD i (0,0)).2),rfl,acf,by rw [ch.1];exact lne,(fun i v hv=>?_),fun i v hv best=>?_⟩
  ·have hi:i<(cF n Sd).length:=by rw [←ch.1];exact (bJ.mp hv).1
   obtain ⟨b,e,g⟩:=ch.2 i v _ hv (bP hi);have pl:(cF n Sd)[i]<n:=aU.mp (b_.mp (cB hi)).1;simp only [cg,bo,bP hi,Ck,Option.getD_some];exact ⟨⟨b,e,g⟩,by lia,by lia⟩
  ·have hi:i<(cF n Sd).length:=by rw [←ch.1];exact (bJ.mp hv).1
   obtain ⟨b,rfl,g⟩:=ch.2 i v _ hv (bP hi);have vp:(cF n Sd)[i]∈cF n Sd:=cB hi;have pl:(cF n Sd)[i]<n:=aU.mp (b_.mp vp).1;have tY:∀q∈cF n Sd,dU n Lk Sd (cF n Sd)[i]+wW n Lk (bI Sd (cF n Sd)[i])≤dU n Lk Sd q+wW n Lk (bI Sd q):=fun q hq=>by
    obtain ⟨j,hj,rfl⟩:=nH hq;have ql:(cF n Sd)[j]<n:=aU.mp (b_.mp hq).1;have:=best j (by rw [ch.1];exact hj)
    simp only [cg,bo,bP hi,bP hj,Ck,Option.getD_some] at this;lia
   generalize (cF n Sd)[i]=p at g vp pl tY;have pS:p∉Sd:=by have:=(b_.mp vp).2;simpa using this
   have Q7:=s4 _ _ E9;refine ⟨b,_,_,_,rfl,rfl,.of g,rfl,?_⟩;dsimp only [a7];refine ⟨_,rfl,.inl ⟨rfl,_,.of Q7⟩,_,rfl,lo,_,_,rfl,rfl,Q7,dA (by rw [aD];lia),?_⟩
   have off:∀c u,c≠lo→H4 c=some u→upd H4 lo (.lst ((o.map fun k:Nat=>V.int (k:Int))++[V.int (p:Int)])) c=some u:=fun c u cl e=>(aH cl).trans e;have Q8:upd H4 lo (.lst ((o.map fun k:Nat=>V.int (k:Int))++[V.int (p:Int)])) lo=some (.lst ((o++[p]).map fun k:Nat=>V.int (k:Int))):=by rw [ax,eX];rfl
   have dnl:dn≠lo:=fun z=>by rw [z,E9] at E_;cases E_
   have Q9:=off _ _ dnl (s4 _ _ E_);have Q_:=off _ _ loD.symm (s4 _ _ lY);have s5:ak H (upd H4 lo (.lst ((o.map fun k:Nat=>V.int (k:Int))++[V.int (p:Int)]))):=fun c u e=>off c u (fun z=>by rw [z,Q4] at e;cases e) (s4 _ _ (sc _ _ e))
   generalize upd H4 lo (.lst ((o.map fun k:Nat=>V.int (k:Int))++[V.int (p:Int)]))=H5 at Q8 Q9 Q_ s5 ⊢;dsimp only;refine ⟨_,rfl,_,rfl,dn,Sd.map iN,(p:Int),rfl,by rw [Q9,cM];rfl,by rw [aD];lia,fun H6 tq ws pm so yM s6 JF=>?_⟩
   have ew:=Ou m1 pS pm so;subst ew;refine ⟨_,?_,o++[p],bI Sd p,tq,_,rfl,rfl,s5.trans s6,s6 _ _ Q_,s6 _ _ Q8,by rw [JF,cM];rfl,fw.next vp tY⟩
   rw [dO];simp only [qt];lia
 ·have hc:¬((o.map fun k:Nat=>V.int (k:Int)).length:Int)<(n:Int):=fun z=>hc (bA z)
  rw [aD] at hc;have oe:o.length=n:=by lia
  have sf:=Zv fw.mem (by lia)
  have w0:wW n Lk Sd=0:=by unfold wW;rw [lS,oe,vI];rfl
  have tt:=fw.A8;refine ⟨_,rfl,_,rfl,cf _,fun e0 ne0=>?_⟩;have s6:ak Hc (upd Hc e0 (.tup [])):=aS ne0;have e6:upd Hc e0 (.tup []) e0=some (.tup []):=ax;generalize upd Hc e0 (.tup [])=H6 at s6 e6 ⊢;refine ⟨D,_,rfl,(Q6 [] (eL.mpr ⟨.nil,fun x h=>by cases h⟩))▸lE.t (k:=fS []) (s6 _ _ lY) e6,by show 2≤sizeLine;decide,fun t nt=>?_⟩
  exact kk _ t lo o (sc.trans (s6.trans (aS nt))) Q4 ax (aS nt _ _ (s6 _ _ E9)) (fw.pm.symm.trans (sf▸.refl _)) (by lia)
theorem acj:ck ["linked","whence","place"] ["linked","whence","place"] (bC Ee):=cT
theorem ack(T:Txt K mg t):bL P w K mg base cQ 1 t.uE t.xI ["linked","whence","place"] aaq:=by
 have S:=acj;refine T.ym.eE S (fun _ _ _ _ H _ Q _ hr h=>?_);obtain ⟨D,wd,n,L,ds,f,wl,p,rfl,ao⟩:=h;have ls:=ao.1;have lf:=ao.2.1;have ew:=ao.2.2.1;have xl:=ao.2.2.2.1;have pn:=ao.2.2.2.2.1;have n9:=ao.2.2.2.2.2.1;have kk:=ao.2.2.2.2.2.2;clear ao;have hu:=i4 (md (show 1≤64 by decide) _) hr.units
 refine ⟨_,(aI (bK (jb (N:=["other","whence"]) (ρ:=(fun σ=>[σ[1]?.join])) (fY [1] rfl) rfl (tR (bj dR (pv 0) (pv 2))) (fun _ _ _=>(.one (zP (Dk hu (pv 0) (pv 1)) rfl))) (fun _ _ _=>(pv 0))))),?_⟩;refine rf (AX (O7 (a:=ds p) (kvs:=dk (f p)) (fun Q q=>⟨_,rfl,_,rfl,D,_,_,_,rfl,rfl,.of lf.lst,mU pn,q⟩) (lf.at' p pn) fun ob Hf gm off fz=>?_));have ewf:=off _ _ (xl p pn) ew;have Kf:=lf.bg off pn gm ls.inj (ls.ne p pn);have yJ:=(ls.pl p pn).len;refine Dq gm (fun q=>!decide (q∈cz wl)) (dA (by lia)) ?_ ?_ ?_
 ·intro q hq Hx R sx hR
  refine ⟨_,rfl,_,rfl,wd,_,rfl,.inl ⟨eA wl,Sum.inl (q:Int),.inl (sx _ _ ewf),rfl,rfl⟩,_,rfl,?_⟩;have e:(fv (eA wl) (Sum.inl (q:Int):Key)).isSome=decide (q∈cz wl):=by
   rw [DP,zo];by_cases h:q∈cz wl;·rw [bA h,lookup_mem.mpr h]
   ·rw [bO h]
    cases z:wl.lookup q with
    | none=>rfl
    | some o=>exact absurd (lookup_mem.mp (by rw [z];rfl)) h
  rw [e];exact hR
 ·intro q hq Hx R hR
  exact ⟨_,rfl,hR⟩
 ·intro r Hg nr sg eg
  have ob2:jq n ds H Hg:=fun b u e ne=>by
   refine sg _ _ ?_;by_cases z:b=ds p
   ·rcases ne with h | ⟨mZ,u',rfl⟩
    ·exact absurd z (h p pn)
    ·rw [z] at e ⊢
     exact fz _ _ e
   ·exact off _ _ z e
  refine kk Hg r ob2 ⟨sg _ _ Kf.lst,fun i hi=>(Kf.at' i hi).imp (fun e=>sg _ _ e) fun⟨ob,e⟩=>⟨ob,sg _ _ e⟩⟩ ?_ eg;cases e:H r with
  | none=>rfl
  | some o=>
   by_cases z:r=ds p;·rw [z,gm] at nr;cases nr
   ·rw [off r o z e] at nr;cases nr
theorem aco:ck ["whence","place","walk"] ["whence","place"] (bC Ed):=cT
theorem acp(T:Txt K mg t):bL P w K mg base cQ 1 t.uD t.xH ["whence","place"] aar:=by
 have S:=aco;refine T.yl.eE S (fun _ _ _ _ H _ _ _ hr h=>?_);obtain ⟨wd,wl,v,ws,rfl,ew,bk,w9,kk⟩:=h;have hu:=i4 (md (show 1≤64 by decide) _) hr.units
 refine ⟨_,(aE (putL 2 S.nd (fD aq))
  (aE (wc eQ (dv LV (pv 1) v_) (aE (iI (kh jB oY oZ k6 (pv 2) (aj (pv 1) aq)))
  (aI (putL 1 S.nd (Dj hu (pv 0) (pv 1) (fun _ _=>rfl))))))
  (aI (bK (pv 2))))),?_⟩
 refine dB ⟨cf _,fun l nl=>?_⟩;have s0:ak H (upd H l (.lst [])):=aS nl;have el:upd H l (.lst []) l=some (.lst (([]:List Nat).map fun k:Nat=>V.int (k:Int))):=ax;generalize upd H l (.lst [])=H0 at s0 el ⊢;dsimp only [a7];refine dB ⟨fun m σ Hc=>∃(as rs:List Nat) (po:Option Nat),σ=[some (.ref wd),some (oV po),some (.ref l)]∧m=rs.length∧ws=as++rs∧(match po with | none=>rs=[] | some p=>Back wl p rs)∧ak H Hc∧Hc l=some (.lst (as.map fun k:Nat=>V.int (k:Int))),⟨_,[],ws,some v,rfl,rfl,rfl,bk,s0,el⟩,?_⟩
 rintro m σ Hc ⟨as,rs,po,rfl,rfl,vt,hp,sc,jX⟩;refine ⟨_,rfl,rfl,_,rfl,dS (fun hb=>?_) (fun hb=>?_)⟩
 ·cases po with
  | none=>exact absurd hb (by decide)
  | some p=>
   have hp:Back wl p rs:=hp;have lrs:as.length+rs.length=ws.length:=by rw [vt,dO]
   refine ⟨_,fun _ _ h=>h,?_⟩;refine dB ⟨_,rfl,.inl ⟨rfl,_,.of jX⟩,_,rfl,l,_,_,rfl,rfl,jX,dA (by rw [aD];lia),?_⟩
   have BB:(as.map fun k:Nat=>V.int (k:Int))++[oV (some p)]=(as++[p]).map fun k:Nat=>V.int (k:Int):=by rw [eX];rfl
   rw [BB];have nlH:H l=none:=nl;have s1:ak H (upd Hc l (.lst ((as++[p]).map fun k:Nat=>V.int (k:Int)))):=gD sc nlH;have qh:upd Hc l (.lst ((as++[p]).map fun k:Nat=>V.int (k:Int))) l=some (.lst ((as++[p]).map fun k:Nat=>V.int (k:Int))):=ax;generalize upd Hc l (.lst ((as++[p]).map fun k:Nat=>V.int (k:Int)))=H1 at s1 qh ⊢;dsimp only [a7];cases hp with
   | last h1=>
    refine ⟨_,rfl,_,rfl,wd,oV none,rfl,.inl ⟨eA wl,Sum.inl (p:Int),.inl (s1 _ _ ew),rfl,by rw [DP,h1];rfl⟩,?_⟩
    exact ⟨0,Nat.one_pos,as++[p],[],none,rfl,rfl,by rw [vt];simp,rfl,s1,qh⟩
   | @step _ p2 Ra h1 h2=>
    refine ⟨_,rfl,_,rfl,wd,oV (some p2),rfl,.inl ⟨eA wl,Sum.inl (p:Int),.inl (s1 _ _ ew),rfl,by rw [DP,h1];rfl⟩,?_⟩
    exact ⟨Ra.length,B5 _,as++[p],Ra,some p2,rfl,rfl,by rw [vt];simp,h2,s1,qh⟩
 ·cases po with
  | some p=>exact absurd (by rfl) hb
  | none=>have hp:rs=[]:=hp;subst hp;rw [oP] at vt;subst vt;exact ⟨_,rfl,kk _ _ sc nl jX⟩
theorem acr:ck ["linked","place","start","whence","heads","reached","head","fresh","other"] ["linked","place","start"] (bC Ef):=cT
theorem acs(T:Txt K mg t):bL P w K mg base cQ 2 t.uF t.xJ ["linked","place","start"] aas:=by
 have S:=acr;refine T.yn.eE S (fun _ _ _ _ H _ _ _ hr h=>?_);obtain ⟨D,n,L,ds,f,x,st,rfl,ao⟩:=h;have ls:=ao.1;have lf:=ao.2.1;have pw:=ao.2.2.1;have lt:=ao.2.2.2.1;have xs:=ao.2.2.2.2.1;have n9:=ao.2.2.2.2.2.1;have kN:=ao.2.2.2.2.2.2.1;have kk:=ao.2.2.2.2.2.2.2;clear ao;have hu:=i4 (md (show 1≤64 by decide) _) hr.units
 refine ⟨_,(aE (putL 3 S.nd (NA (HB (pv 1) v_ (HB (pv 2) v_ Nx)) rfl rfl (fun h=>by cases h) (by decide)))
  (aE (putL 4 S.nd (fD (aj (pv 2) aq)))
  (aE (wc eQ (dv pE (dg jG rfl T.iy iE (aj (pv 4) aq)) aN) (aE (putL 5 S.nd (fD aq))
  (aE (fi eQ rfl (fW (pv 4)) (df (i:=6) S.nd rfl (Or.inl rfl))
   (aE (putL 7 S.nd (a_ (ack T) hr T.PM T.ym.kp T.PL bZ (aj (pv 0) (aj (pv 3) (aj (pv 6) aq)))))
  (aI (fi eQ rfl (fW (pv 7)) (df (i:=8) S.nd rfl (Or.inl rfl))
   (aE (wZ hu (pv 3) (pv 8) (pv 6) rfl)
  (aI (dF (zP (Dk hu (pv 8) (bj dR (pv 0) (pv 1))) rfl) (aI (iI (kh jB oY oZ k6 (pv 5) (aj (pv 8) aq)))) (aI (dF (zP (Dk hu (pv 8) (bj dR (pv 0) (pv 2))) rfl) (aI (bK (cC CK (fD (aj (pv 1) aq)) (a_ (acp T) hr T.PK T.yl.kp T.PJ bZ (aj (pv 3) (aj (pv 8) aq)))))) dP)))))))))
  (aI (putL 4 S.nd (pv 5))))))
  (aI (bK v_))))),?_⟩
 have xn:x<n:=xs.1;have sn:st<n:=xs.2.1;have qi:∀i j,i<n→(j∈f i↔aL n L i j):=fun i j hi=>by
  constructor
  ·intro h
   exact ⟨hi,(ls.pl i hi).2 j h,(ls.nb i j hi).mp h⟩
  ·intro h
   exact (ls.nb i j hi).mpr h.2.2
 have ir:∀a,¬aL n L a a:=fun a h=>by rcases h.2.2 with e | e <;> (have:=lt _ e;lia)
 have Rb:x≠st:=fun z=>ir x (by have:=xs;rw [←z] at this;exact this)
 have inK:∀(wl:List (Nat×Option Nat)) (q:Nat),(fv (eA wl) (Sum.inl (q:Int):Key)).isSome=decide (q∈cz wl):=fun wl q=>by
  rw [DP,zo];by_cases h:q∈cz wl;·rw [bA h,lookup_mem.mpr h]
  ·rw [bO h]
   cases z:wl.lookup q with
   | none=>rfl
   | some o=>exact absurd (lookup_mem.mp (by rw [z];rfl)) h
 have inD:∀(i q:Nat),(fv (dk (f i)) (Sum.inl (q:Int):Key)).isSome=decide (q∈f i):=fun i q=>by
  rw [HF];by_cases h:q∈f i;·rw [ae h,bA h];rfl
  ·rw [aa h,bO h];rfl
 have BF:∀{Hx:Hp},en Hx D n ds f→∀{b:Addr},(Hx b=none∨∃xs,Hx b=some (.lst xs))→∀i,i<n→b≠ds i:=fun{Hx} k {b} hb i hi z=>by subst z;rcases k.at' i hi with e | ⟨ob,e⟩ <;> rcases hb with h | ⟨xs,h⟩ <;> (rw [e] at h;cases h)
 refine cR fun _ jw=>(pJ fun wd yQ=>⟨_,rfl,_,rfl,ax,[((Sum.inl (x:Int):Key),V.aR),((Sum.inl (st:Int):Key),V.aR)],rfl,by show 2≤15;decide,?_⟩)
 have Rc:upd (upd H wd (.dK [])) wd (.dK (mT [] [((Sum.inl (x:Int):Key),V.aR),((Sum.inl (st:Int):Key),V.aR)])) wd=some (.dK (eA [(x,none),(st,none)])):=by
  rw [ax];have e1:putK (eA []) (Sum.inl (x:Int):Key) (oV none)=eA ([]++[(x,none)]):=Iz (by simp [cz])
  have e2:putK (eA [(x,none)]) (Sum.inl (st:Int):Key) (oV none)=eA ([(x,none)]++[(st,none)]):=Iz (by simp [cz];exact Ne.symm Rb)
  show some (HO.dK (putK (putK (eA []) (Sum.inl (x:Int):Key) (oV none)) (Sum.inl (st:Int):Key) (oV none)))=_;rw [e1];exact dM (fun z=>some (HO.dK z)) e2
 have s0:ak H (upd (upd H wd (.dK [])) wd (.dK (mT [] [((Sum.inl (x:Int):Key),V.aR),((Sum.inl (st:Int):Key),V.aR)]))):=gD (aS yQ) yQ;generalize upd (upd H wd (.dK [])) wd (.dK (mT [] [((Sum.inl (x:Int):Key),V.aR),((Sum.inl (st:Int):Key),V.aR)]))=H0 at Rc s0 ⊢;have JI:∀i,i<n→wd≠ds i:=BF lf (.inl yQ);have wD:wd≠D:=fun z=>by rw [z,lf.lst] at yQ;cases yQ
 dsimp only [a7];refine jw _ _ ?_;refine cR fun _ kG=>⟨_,rfl,by show 1≤sizeLine;decide,fun h0 nh0=>?_⟩
 have s1:ak H0 (upd H0 h0 (.lst [V.int (st:Int)])):=aS nh0;have Rf:upd H0 h0 (.lst [V.int (st:Int)]) h0=some (.lst (([st]:List Nat).map fun k:Nat=>V.int (k:Int))):=ax;generalize upd H0 h0 (.lst [V.int (st:Int)])=H1 at s1 Rf ⊢;have Fb:=s0.trans s1;have lf1:en H1 D n ds f:=⟨Fb _ _ lf.lst,fun i hi=>(lf.at' i hi).imp (fun e=>Fb _ _ e) fun⟨ob,e⟩=>⟨ob,Fb _ _ e⟩⟩;dsimp only [a7];refine kG _ _ ?_;refine dB ⟨fun m σ Hc=>∃(hl:Addr) (hs:List Nat) (wl:List (Nat×Option Nat)) (v5 v6 v7 v8:Option V),σ=[some (.ref D),some (.int (x:Int)),some (.int (st:Int)),some (.ref wd),some (.ref hl),v5,v6,v7,v8]∧m=2*(n-wl.length)+hs.length∧jq n ds H Hc∧en Hc D n ds f∧Hc wd=some (.dK (eA wl))∧Hc hl=some (.lst (hs.map fun k:Nat=>V.int (k:Int)))∧gM n (aL n L) wl x st hs none,⟨_,h0,[st],[(x,none),(st,none)],_,_,_,_,rfl,rfl,fun b u e _=>Fb _ _ e,lf1,s1 _ _ Rc,Rf,gM.start Rb xn sn⟩,?_⟩;rintro m σ Hc ⟨hl,hs,wl,v5,v6,v7,v8,rfl,rfl,aG⟩;have oc:=aG.1;have lc:=aG.2.1;have JJ:=aG.2.2.1;have yR:=aG.2.2.2.1;have bf:=aG.2.2.2.2;clear aG;have vv:∀{Hx:Hp},jq n ds H Hx→en Hx D n ds f→∀{b:Addr},Hx b=none→H b=none:=fun{Hx} o k {b} hb=>by
  cases e:H b with
  | none=>rfl
  | some u=>rw [o b u e (.inl (BF k (.inl hb)))] at hb;cases hb
 refine ⟨_,rfl,hl,_,rfl,.inl (.of yR),_,_,rfl,rfl,_,rfl,dS (fun hb=>?_) (fun hb=>?_)⟩
 ·have h1:1≤hs.length:=by have:=fB hb;rw [aD] at this;lia
  refine ⟨_,fun _ _ h=>h,?_⟩;refine dB ⟨cf _,fun rl qj=>?_⟩;have nrH:=vv oc lc qj;have o2:ak Hc (upd Hc rl (.lst [])):=aS qj;have Fc:upd Hc rl (.lst []) rl=some (.lst (([]:List Nat).map fun k:Nat=>V.int (k:Int))):=ax;generalize upd Hc rl (.lst [])=H2 at o2 Fc ⊢;have rhl:rl≠hl:=fun z=>by rw [z,yR] at qj;cases qj
  have Rg:rl≠wd:=fun z=>by rw [z,JJ] at qj;cases qj
  have rD:rl≠D:=fun z=>by rw [z,lc.lst] at qj;cases qj
  have rds:∀i,i<n→ds i≠rl:=fun i hi=>Ne.symm (BF lc (.inl qj) i hi);have hlw:hl≠wd:=fun z=>by rw [z,JJ] at yR;cases yR
  dsimp only [a7];refine dB ⟨_,rfl,hl,rfl,⟨_,.of (o2 _ _ yR)⟩,?_⟩
  refine s_ (K:=K) (a:=hl) (xs:=hs.map fun k:Nat=>V.int (k:Int)) (fun i σ He=>∃(rs:List Nat) (kH:List (Nat×Option Nat)) (v6 v7 v8:Option V),σ=[some (.ref D),some (.int (x:Int)),some (.int (st:Int)),some (.ref wd),some (.ref hl),some (.ref rl),v6,v7,v8]∧jq n ds H He∧en He D n ds f∧He wd=some (.dK (eA kH))∧He hl=some (.lst (hs.map fun k:Nat=>V.int (k:Int)))∧He rl=some (.lst (rs.map fun k:Nat=>V.int (k:Int)))∧gM n (aL n L) kH x st (hs.drop i++rs) none∧rs.length+wl.length≤kH.length)
   ⟨[],wl,_,_,_,rfl,fun b u e ne=>o2 _ _ (oc b u e ne),⟨o2 _ _ lc.lst,fun i hi=>(lc.at' i hi).imp (fun e=>o2 _ _ e) fun⟨ob,e⟩=>⟨ob,o2 _ _ e⟩⟩,o2 _ _ JJ,o2 _ _ yR,Fc,by simpa using bf,by simp⟩ (fun i σ He _ ⟨_,_,_,_,_,_,_,_,_,e,_⟩=>.of e) ?_ ?_
  ·rintro i xv σ He tK ⟨rs,kH,v6,v7,v8,rfl,aJ⟩
   have oe:=aJ.1;have le:=aJ.2.1;have BG:=aJ.2.2.1;have JK:=aJ.2.2.2.1;have BH:=aJ.2.2.2.2.1;have r6:=aJ.2.2.2.2.2.1;have len:=aJ.2.2.2.2.2.2;clear aJ;have hi:i<hs.length:=by have:=(bJ.mp tK).1;rw [aD] at this;exact this
   have exv:xv=.int ((hs[i]:Nat):Int):=by rw [bo,bP hi] at tK;exact (Option.some.inj tK).symm
   subst exv;have edr:hs.drop i=hs[i]::hs.drop (i+1):=FQ hi;rw [edr,List.cons_append] at r6;generalize hs[i]=h at r6 ⊢;obtain ⟨r_,Rh⟩:=r6.way h cG;have hn:h<n:=Rh.lt h cG;have bfo:=r6.opened;dsimp only [a7];refine cR fun _ nC=>⟨_,rfl,_,rfl,_,rfl,D,wd,n,L,ds,f,kH,h,rfl,ls,le,BG,JI,hn,n9,fun H3 r o3 l3 nr er=>?_⟩;have rHe:He r=none:=nr;have JL:∀{b:Addr} {u:HO},(∀i,i<n→b≠ds i)→He b=some u→H3 b=some u:=fun{b u} ne e=>o3 _ _ e (.inl ne);have oe3:jq n ds H H3:=fun b u e ne=>o3 _ _ (oe b u e ne) ne;have ew3:=JL JI BG;have eh3:=JL (BF le (.inr ⟨_,JK⟩)) JK;have er3:=JL (BF le (.inr ⟨_,BH⟩)) BH;have aio:=vv oe le nr;have rr:r≠rl:=fun z=>by rw [z,BH] at nr;cases nr
   have ic:r≠wd:=fun z=>by rw [z,BG] at nr;cases nr
   obtain ⟨fr,Fd⟩:∃fr,fr=(f h).filter fun q=>!decide (q∈cz kH):=⟨_,rfl⟩;rw [←Fd] at er;have fnd:fr.Nodup:=by rw [Fd];exact (ls.pl h hn).1.filter _
   have fin:∀q∈fr,q∈f h∧q∉cz kH:=fun q hq=>by rw [Fd] at hq;obtain ⟨q1,q2⟩:=b_.mp hq;exact ⟨q1,fun z=>by rw [bA z] at q2;cases q2⟩
   dsimp only [a7];refine nC _ _ ?_;refine ⟨_,rfl,r,rfl,⟨_,.of er⟩,?_⟩
   refine s_ (K:=K) (a:=r) (xs:=fr.map fun k:Nat=>V.int (k:Int)) (fun j σ Hg=>∃(kJ:List Nat) (fK:List (Nat×Option Nat)) (v8:Option V),σ=[some (.ref D),some (.int (x:Int)),some (.int (st:Int)),some (.ref wd),some (.ref hl),some (.ref rl),some (.int (h:Int)),some (.ref r),v8]∧jq n ds H Hg∧en Hg D n ds f∧Hg wd=some (.dK (eA fK))∧Hg hl=some (.lst (hs.map fun k:Nat=>V.int (k:Int)))∧Hg rl=some (.lst (kJ.map fun k:Nat=>V.int (k:Int)))∧Hg r=some (.lst (fr.map fun k:Nat=>V.int (k:Int)))∧cz fK=cz kH++fr.take j∧gM n (aL n L) fK x st (hs.drop (i+1)++kJ) (some h)∧g9 n (aL n L) fK x st none h r_∧kJ.length+wl.length≤fK.length)
    ⟨rs,kH,_,rfl,oe3,l3,ew3,eh3,er3,er,by simp,bfo,Rh,len⟩ (fun j σ Hg _ ⟨_,_,_,_,_,_,_,_,_,e,_⟩=>.of e) ?_ ?_
   ·rintro j yv σ Hg JM ⟨kJ,fK,v8,rfl,aY⟩
    have og:=aY.1;have lg:=aY.2.1;have JN:=aY.2.2.1;have JO:=aY.2.2.2.1;have JP:=aY.2.2.2.2.1;have Ri:=aY.2.2.2.2.2.1;have ek:=aY.2.2.2.2.2.2.1;have vw:=aY.2.2.2.2.2.2.2.1;have Fe:=aY.2.2.2.2.2.2.2.2.1;have JQ:=aY.2.2.2.2.2.2.2.2.2;clear aY;have hj:j<fr.length:=by have:=(bJ.mp JM).1;rw [aD] at this;exact this
    have eyv:yv=.int ((fr[j]:Nat):Int):=by rw [bo,bP hj] at JM;exact (Option.some.inj JM).symm
    subst eyv;have tk:=take_snoc (bP hj);obtain ⟨BI,kK⟩:=fin fr[j] (cB hj);have vy:fr[j]∉cz fK:=fun z=>by
     rw [ek] at z;rcases dW.mp z with z | z;·exact kK z
     ·have nd:=fnd
      rw [←qw j fr,jz] at nd;exact nd.2.2 _ z _ (by rw [FQ hj];exact cG) rfl
    generalize fr[j]=o at BI kK vy tk ⊢;have on:o<n:=(ls.pl h hn).2 o BI;have Rj:aL n L h o:=(qi h o hn).mp BI;have w9:=vw.len;dsimp only [a7];refine cR fun _ qf=>⟨_,rfl,_,rfl,_,rfl,wd,upd Hg wd (.dK (eA (fK++[(o,some h)]))),rfl,.inl ⟨eA fK,Sum.inl (o:Int),JN,rfl,by rw [aan];exact dA (by lia),by rw [←Iz vy];rfl⟩,?_⟩
    have o4:∀b u,b≠wd→Hg b=some u→upd Hg wd (.dK (eA (fK++[(o,some h)]))) b=some u:=fun b u ne e=>by rw [aH ne];exact e
    have Ff:upd Hg wd (.dK (eA (fK++[(o,some h)]))) wd=some (.dK (eA (fK++[(o,some h)]))):=ax;generalize upd Hg wd (.dK (eA (fK++[(o,some h)])))=H4 at o4 Ff ⊢;have JR:jq n ds H H4:=fun b u e ne=>o4 b u (fun z=>by rw [z,yQ] at e;cases e) (og b u e ne)
    have si:=lg.keep o4 wD (fun i hi=>Ne.symm (JI i hi));have Rk:=o4 _ _ hlw JO;have yS:=o4 _ _ Rg JP;have Rm:=o4 _ _ ic Ri;have Rn:cz (fK++[(o,some h)])=cz kH++fr.take (j+1):=by unfold cz at ek ⊢;rw [eX,ek,tk,g_];rfl
    have JS:=Fe.more (o,some h);have aip:kJ.length+wl.length+1≤(fK++[(o,some h)]).length:=by rw [dO];exact Nat.succ_le_succ JQ
    dsimp only;refine qf _ _ ?_;have Ro:∀i,i<n→∀(Hx:Hp),en Hx D n ds f→Rd Hx (ds i) (.dK (dk (f i))):=fun i hi Hx k=>(k.at' i hi).imp id fun⟨ob,e⟩=>⟨ob,e⟩;refine ⟨_,rfl,_,rfl,_,rfl,D,_,_,_,rfl,rfl,.of si.lst,mU xn,ds x,_,rfl,.inl ⟨dk (f x),Sum.inl (o:Int),Ro x xn _ si,rfl,rfl⟩,_,rfl,dS (fun hb=>?_) (fun hb=>?_)⟩
    ·have nx:¬aL n L x o:=fun z=>by rw [inD,bA ((qi x o xn).mpr z)] at hb;cases hb
     have wyo:=Fe.next gH vy on vw.xk Rj nx;refine ⟨_,rfl,.inl ⟨rfl,_,.of yS⟩,_,rfl,rl,_,_,rfl,rfl,yS,dA (by rw [aD];lia),?_⟩
     have BB:(kJ.map fun k:Nat=>V.int (k:Int))++[V.int (o:Int)]=(kJ++[o]).map fun k:Nat=>V.int (k:Int):=by rw [eX];rfl
     rw [BB];have o5:∀b u,b≠rl→H4 b=some u→upd H4 rl (.lst ((kJ++[o]).map fun k:Nat=>V.int (k:Int))) b=some u:=fun b u ne e=>by rw [aH ne];exact e
     refine ⟨kJ++[o],fK++[(o,some h)],_,rfl,fun b u e ne=>o5 b u (fun z=>by rw [z,nrH] at e;cases e) (JR b u e ne),si.keep o5 rD rds,o5 _ _ (Ne.symm Rg) Ff,o5 _ _ (Ne.symm rhl) Rk,ax,o5 _ _ rr Rm,Rn,?_,JS,?_⟩
     ·refine vw.met vy on (fun z=>absurd z nx) (fun _=>⟨_,wyo⟩) fun u=>?_
      rw [←g_,dW,cy];constructor
      ·rintro (h | h)
       ·exact .inl h
       ·exact .inr ⟨h,nx⟩
      ·rintro (h | ⟨h,_⟩)
       ·exact .inl h
       ·exact .inr h
     ·rw [dO]
      show kJ.length+1+wl.length≤_;lia
    ·have xo:aL n L x o:=by refine (qi x o xn).mp (hJ fun z=>hb ?_);rw [inD,bO z];rfl
     refine ⟨_,rfl,_,rfl,_,rfl,D,_,_,_,rfl,rfl,.of si.lst,mU sn,ds st,_,rfl,.inl ⟨dk (f st),Sum.inl (o:Int),Ro st sn _ si,rfl,rfl⟩,_,rfl,dS (fun p_=>?_) (fun p_=>?_)⟩
     ·have so:¬aL n L st o:=fun z=>by rw [inD,bA ((qi st o sn).mpr z)] at p_;cases p_
      obtain ⟨bare,cu,blt⟩:=aap pw lt Fe vy vw.xk xs xo so Rj;have Rp:(x::o::h::r_).length≤n:=Bg cu blt;refine rf (VJ ⟨_,rfl,by show 1≤sizeLine;decide,fun l1 EY=>?_⟩)
      have JT:ak H4 (upd H4 l1 (.lst [V.int (x:Int)])):=aS EY;have qh:upd H4 l1 (.lst [V.int (x:Int)]) l1=some (.lst [V.int (x:Int)]):=ax;generalize upd H4 l1 (.lst [V.int (x:Int)])=H5 at JT qh ⊢;have bko:Back (fK++[(o,some h)]) o (o::h::r_):=.step (O6 vy) JS.bk;refine ⟨_,rfl,_,rfl,wd,fK++[(o,some h)],o,o::h::r_,rfl,JT _ _ Ff,bko,by simp at Rp ⊢;lia,fun H6 l2 s6 vj el2=>?_⟩
      have Fc:([V.int (x:Int)]++(o::h::r_).map fun k:Nat=>V.int (k:Int))=(x::o::h::r_).map fun k:Nat=>V.int (k:Int):=rfl;refine ⟨l1,l2,_,_,rfl,rfl,s6 _ _ qh,el2,?_,fun pr Fg=>?_⟩
      ·rw [aD]
       exact nE (dA (show 1+(o::h::r_).length≤1000 by simp at Rp ⊢;lia))
      rw [Fc];have sj:ak H4 H6:=JT.trans s6;have Rq:jq n ds H H6:=fun b u e ne=>sj _ _ (JR b u e ne);have lg6:en H6 D n ds f:=⟨sj _ _ si.lst,fun i hi=>(si.at' i hi).imp (fun e=>sj _ _ e) fun⟨ob,e⟩=>⟨ob,sj _ _ e⟩⟩;exact kk _ pr (x::o::h::r_) (fun b u e ne=>(aS Fg) _ _ (Rq b u e ne)) (vv Rq lg6 Fg) ax bare cu blt
     ·have so:aL n L st o:=by refine (qi st o sn).mp (hJ fun z=>p_ ?_);rw [inD,bO z];rfl
      refine ⟨kJ,fK++[(o,some h)],_,rfl,JR,si,Ff,Rk,yS,Rm,Rn,?_,JS,by lia⟩
      refine vw.met vy on (fun _=>so) (fun z=>absurd xo z) fun u=>?_;constructor;·exact .inl
      ·rintro (h | ⟨_,h⟩)
       ·exact h
       ·exact absurd xo h
   ·rintro σ Hg ⟨kJ,fK,v8,rfl,cm⟩
    have og:=cm.1;have lg:=cm.2.1;have JN:=cm.2.2.1;have JO:=cm.2.2.2.1;have JP:=cm.2.2.2.2.1;have Ri:=cm.2.2.2.2.2.1;have ek:=cm.2.2.2.2.2.2.1;have vw:=cm.2.2.2.2.2.2.2.1;have Fe:=cm.2.2.2.2.2.2.2.2.1;have JQ:=cm.2.2.2.2.2.2.2.2.2;clear cm;rw [aD,iD] at ek;have sh:oD (aL n L) fK h:=fun u e=>by
     rw [ek];have GP:=(qi h u hn).mpr e;by_cases z:u∈cz kH;·exact nF _ z
     ·refine fA _ ?_
      rw [Fd];exact b_.mpr ⟨GP,by rw [bO z];rfl⟩
    exact ⟨kJ,fK,_,_,_,rfl,og,lg,JN,JO,JP,vw.IA sh,JQ⟩
  ·rintro σ He ⟨rs,kH,v6,v7,v8,rfl,dq⟩
   have oe:=dq.1;have le:=dq.2.1;have BG:=dq.2.2.1;have JK:=dq.2.2.2.1;have BH:=dq.2.2.2.2.1;have r6:=dq.2.2.2.2.2.1;have len:=dq.2.2.2.2.2.2;clear dq;rw [aD,List.drop_length,List.nil_append] at r6;dsimp only [a7];have l9:=r6.len;refine ⟨_,rfl,_,?_,rl,rs,kH,_,_,_,_,rfl,rfl,oe,le,BG,BH,r6⟩;lia
 ·have h0:hs=[]:=by
   cases hs with
   | nil=>rfl
   | cons y r=>refine absurd (bA ?_) hb;show (0:Int)<_;simp
  subst h0;exact kN _ oc lc fun V z=>bf.no ir V z
theorem acN:ck ["shape","linked","place","start","ring"] ["shape"] (bC Eg):=cT
theorem acO(T:Txt K mg t):bL P w K mg base cQ 3 t.uG t.xK ["shape"] aat:=by
 have S:=acN;refine T.yo.eE S (fun _ _ _ _ H _ Q _ hr h=>?_);obtain ⟨tp,n,L,rfl,ao⟩:=h;have eC:=ao.1;have pw:=ao.2.1;have lt:=ao.2.2.1;have n9:=ao.2.2.2.1;have kN:=ao.2.2.2.2.1;have kk:=ao.2.2.2.2.2;clear ao;have bV:dD n L:=fun p hp=>by have:=lt p hp;exact ⟨this.1,by lia,by lia,this.2.2⟩
 refine ⟨_,(aE (putL 1 S.nd (a_ (Bz T) hr T.yf T.oE.kp T.ye bZ (aj (pv 0) aq)))
  (aE (fi eQ rfl (qN rfl T.ju (aj (bj eV (pv 0) aN) aq)) (df (i:=2) S.nd rfl (Or.inl rfl))
   (aI (fi eQ rfl (tR (bj dR (pv 1) (pv 2))) (df (i:=3) S.nd rfl (Or.inl rfl))
   (aE (putL 4 S.nd (a_ (acs T) hr T.PQ T.yn.kp T.PN bZ (aj (pv 1) (aj (pv 2) (aj (pv 3) aq)))))
  (aI (dF (dv LV (pv 4) v_) (aI (bK (pv 4))) dP))))))
  (aI (bK v_)))),?_⟩
 refine cR fun _ jw=>⟨_,rfl,tp,n,L,rfl,eC,bV,by lia,fun H1 D ds f s1 nD oG KL nb=>?_⟩
 obtain ⟨lt2,us,d6,elt,mF⟩:=id (eC.mono s1);have ls:IC n L D ds f:=⟨KL.inj,KL.ne,KL.pl,nb⟩;have qi:∀i j,i<n→(j∈f i↔aL n L i j):=fun i j hi=>by
  constructor
  ·intro h
   exact ⟨hi,(ls.pl i hi).2 j h,(ls.nb i j hi).mp h⟩
  ·intro h
   exact (ls.nb i j hi).mpr h.2.2
 have JU:∀{Hx:Hp},jq n ds H1 Hx→ak H Hx:=fun{Hx} o b u e=>o b u (s1 _ _ e) (.inl fun i hi z=>by rw [z,oG i hi] at e;cases e)
 dsimp only [a7];refine jw _ _ ?_;refine dB ⟨_,rfl,tp,_,_,_,rfl,rfl,.of d6,rfl,(n:Int),rfl,by lia,by lia,?_⟩
 refine tj (fun i σ Hc=>∃(v2 v3 v4:Option V),σ=[some (.ref tp),some (.ref D),v2,v3,v4]∧jq n ds H1 Hc∧en Hc D n ds f∧∀x y z,x<i→¬oC (aL n L) (List.range n) x y z) ⟨_,_,_,rfl,fun b u e _=>e,KL.fr,fun x y z h=>absurd h (oT _)⟩ ?_ ?_
 ·rintro i σ Hc hi ⟨v2,v3,v4,rfl,aG⟩
  have oc:=aG.1;have lc:=aG.2.1;have nh:=aG.2.2;clear aG;have hi:i<n:=by simpa using hi
  dsimp only [a7];refine O7 (a:=ds i) (kvs:=dk (f i)) (fun Q q=>⟨_,rfl,_,rfl,D,_,_,_,rfl,rfl,.of lc.lst,by simpa using mU hi,q⟩) (lc.at' i hi) fun ob Hf gm off fz=>?_
  have Kf:=lc.bg off hi gm ls.inj (ls.ne i hi);have BI:jq n ds H1 Hf:=fun b u e ne=>by
   have e2:=oc b u e ne;by_cases z:b=ds i
   ·rcases ne with h | ⟨mZ,u',rfl⟩
    ·exact absurd z (h i hi)
    ·rw [z] at e2 ⊢
     exact fz _ _ e2
   ·exact off _ _ z e2
  have e0i:(0+(i:Int))=(i:Int):=by lia
  rw [e0i];refine HL (fun j σ He=>∃(v3 v4:Option V),σ=[some (.ref tp),some (.ref D),some (.int (i:Int)),v3,v4]∧jq n ds H1 He∧en He D n ds f∧He (ds i)=some (.bg ob (.dK (dk (f i))))∧∀y z,y∈(f i).take j→¬oC (aL n L) (List.range n) i y z) ⟨_,_,rfl,BI,Kf,gm,fun y z h=>by simp at h⟩ (fun j σ He _ ⟨_,_,_,_,_,e,_⟩=>e) ?_ ?_
  ·rintro j k σ He hk ⟨v3,v4,rfl,aJ⟩
   have oe:=aJ.1;have le:=aJ.2.1;have qg:=aJ.2.2.1;have Fh:=aJ.2.2.2;clear aJ;have km:k∈f i:=j4 hk;have tk:=take_snoc hk;dsimp only [a7];refine dB ⟨_,rfl,_,rfl,_,rfl,D,n,L,ds,f,i,k,rfl,ls,le,pw,lt,(qi i k hi).mp km,n9,fun H' o' l' no=>?_,fun H' r zs o' nr er bare cu blt=>?_⟩
   ·dsimp only [a7]
    refine ⟨_,rfl,rfl,false,rfl,ie ?_⟩;refine ⟨_,_,rfl,fun b u e ne=>o' _ _ (oe b u e ne) ne,l',o' _ _ qg (.inr ⟨_,_,rfl⟩),fun y z hy=>?_⟩;rw [tk] at hy;rcases dW.mp hy with h | h;·exact Fh y z h
    ·rw [cy.mp h]
     exact no _ z
   ·dsimp only [a7]
    refine ⟨_,rfl,rfl,true,rfl,wx ?_⟩;refine ⟨_,rfl,kk _ r zs (JU fun b u e ne=>o' _ _ (oe b u e ne) ne) ?_ er bare cu blt⟩;cases e:H r with
    | none=>rfl
    | some u=>rw [JU oe _ _ e] at nr;cases nr
  ·rintro σ He ⟨v3,v4,rfl,aY⟩
   have oe:=aY.1;have le:=aY.2.1;have qg:=aY.2.2.1;have Fh:=aY.2.2.2;clear aY;rw [iD] at Fh;refine ⟨_,_,_,rfl,oe,le,fun x y z hx h=>?_⟩;by_cases e:x=i
   ·subst e
    exact Fh y z ((qi x y hi).mpr h.xy) h
   ·exact nh x y z (by lia) h
 ·rintro σ Hc ⟨v2,v3,v4,rfl,cm⟩
  have oc:=cm.1;have lc:=cm.2.1;have nh:=cm.2.2;clear cm;refine kN _ (JU oc) fun x y z h=>?_;have:=aU.mp h.xV;exact nh x y z (by simpa using this) h
theorem acQ:ck ["shape","order"] ["shape"] (bC Eh):=cT
theorem acR(T:Txt K mg t)(hB:lO base mg):bL P w K mg base cQ 7 t.uH t.xM ["shape"] (aau 132 nz):=by
 have S:=acQ
 have acS:=abF (P:=P) (w:=w) (base:=base) T hB
 refine T.va.eE S (fun _ _ _ _ H _ _ _ hr h=>?_)
 obtain ⟨tp,n,L,rfl,ao⟩:=h
 have eC:=ao.1
 have pw:=ao.2.1
 have lt:=ao.2.2.1
 have Rr:=ao.2.2.2.1
 have tab:=ao.2.2.2.2.1
 have kk:=ao.2.2.2.2.2.1
 have kR:=ao.2.2.2.2.2.2
 clear ao
 have bV:dD n L:=fun p hp=>by
  have:=lt p hp
  exact ⟨this.1,by lia,by lia,this.2.2⟩
 have BJ:pY L:=fun p hp=>by
  have:=lt p hp
  lia
 refine ⟨_,(aE (putL 1 S.nd (a_ acS hr T.PH T.yk.kp T.PF bZ (aj (pv 0) aq)))
  (aE (dF (sV (a_ (QM T) hr T.IU T.u_.kp T.IT jH (aj (pv 0) (aj (pv 1) aq)))) (aI (bK (h_ (aj zO (aj (pv 1) aq))))) dP)
  (aI (bK (h_ (aj zO (aj (a_ (acO T) hr T.PU T.yo.kp T.PR bZ (aj (pv 0) aq)) aq))))))),?_⟩
 refine cR fun _ jw=>⟨_,rfl,tp,n,L,rfl,eC,bV,by lia,tab,fun H1 D Pk s1 t1 nD eD pm pk=>?_⟩
 obtain ⟨ps,eP⟩:=tab.at
 have Fi:=Be eC eP s1
 have pr:Pk.reverse.Perm (List.range n):=(l_ Pk).trans pm
 have lr:Pk.reverse.length=n:=by rw [pr.length_eq,c_]
 dsimp only [a7]
 refine jw _ _ ?_
 refine dB ⟨_,rfl,_,rfl,tp,D,n,L,Pk.reverse.map iN,rfl,Fi,bV,BJ,Rr,by rw [eD,cM];rfl,by rw [aD];lia,fun no=>?_,fun o eo po H2 M s2 fM=>?_⟩
 ·exact absurd (pr.map iN) no
 ·have eo':o=Pk.reverse:=by
   have:=dM (List.map Int.toNat) eo
   rw [cM,cM] at this
   have i1:∀l:List Nat,l.map (Int.toNat ∘ iN)=l:=fun l=>by
    conv=>rhs;rw [←qD l]
    exact hE fun a _=>cZ a
   rw [i1,i1] at this
   exact this.symm
  subst eo'
  have vv:∀{Hx:Hp},eO 132 H Hx→dJ 132 nz jo Hx→∀{R:Addr},Hx R=none→H R=none:=fun{Hx} sx tx {R} nR=>by
   cases e:H R with
   | none=>rfl
   | some u=>
    by_cases z:R=132
    ·obtain ⟨ps,e2⟩:=tx.at
     rw [z,e2] at nR;cases nR
    ·rw [sx R u z e] at nR;cases nR
  have lW:eO 132 H H2:=fun b u n e=>s2 _ _ (s1 b u n e)
  have t2:=t1.mono s2
  by_cases eM:M=L
  ·refine ⟨true,by rw [bA eM],wx ?_⟩
   rw [eM] at fM
   have gN:=s2 _ _ eD
   refine ⟨_,rfl,by show 2≤sizeLine;decide,fun R nR=>?_⟩
   have s3:ak H2 (upd H2 R (.tup [.str "order",.ref D])):=aS nR
   exact kk _ R D Pk.reverse (fun b u n e=>s3 _ _ (lW b u n e)) (t2.mono s3) (vv lW t2 nR) nD ax (s3 _ _ gN) pr fM
  ·refine ⟨false,by rw [bO eM],ie ?_⟩
   have no:∀o:List Nat,o.Perm (List.range n)→¬dz n L o L:=fun o po f=>eM (dz.uniq fM (ZC pw lt po f pm pk))
   dsimp only [i6]
   refine rf ⟨_,rfl,tp,n,L,rfl,Fi.mono s2,pw,lt,by lia,fun H3 s3 nh=>?_,fun H3 r zs s3 nr er bare cu blt=>?_⟩
   ·obtain ⟨x,y,z,h⟩:=aaj pw lt no
    exact absurd h (nh x y z)
   ·refine ⟨by show 2≤sizeLine;decide,fun R nR=>?_⟩
    have s4:ak H3 (upd H3 R (.tup [.str "ring",.ref r])):=aS nR
    have BK:eO 132 H H3:=fun b u n e=>s3 _ _ (lW b u n e)
    have t3:=t2.mono s3
    exact kR _ R r zs (fun b u n e=>s4 _ _ (BK b u n e)) (t3.mono s4) (vv BK t3 nR) (vv lW t2 nr) ax (s4 _ _ er) bare cu blt no
theorem acU:ck ["_law_cell","_law_at","_law_x"] ["_law_cell","_law_at"] (bC Eu):=cT
theorem acV(T:Txt K mg t):bL P w K mg base cQ 1 t.uU t.xZ ["_law_cell","_law_at"] VL:=by
 have S:=acU;refine T.yy.eE S (fun _ _ _ _ H _ _ _ hr h=>?_);obtain ⟨c,a,rfl,ha,k⟩:=h
 refine ⟨_,(aE (dF (dv Ts (pv 0) (cC To aN aN)) (aI (bK (pv 0))) dP)
  (aE (putL 2 S.nd (cC tw (cC kW (cC kW (cC mw (cC tw (pv 0) aN) aN) (cC mw (pv 1) aN)) aN) aN))
  (aE (putL 2 S.nd (cC tw (cC kW (cC kW (cC mw (pv 2) (pv 2)) (cC mw aN (pv 2))) (pv 1)) aN))
  (aI (bK (cC kW (cC mw (pv 2) aN) (cC tw (cC kW (cC mw (pv 2) (pv 2)) (cC mw aN (pv 1))) aN))))))),?_⟩
 refine ⟨_,rfl,_,_,rfl,rfl,⟨by decide,by decide,by decide⟩,_,_,rfl,rfl,_,rfl,dS (fun h=>?_) (fun h=>?_)⟩
 ·have h:=fB h
  exact ⟨_,rfl,k _ (dY (by decide) h)⟩
 ·refine ⟨_,rfl,_,_,rfl,rfl,(by show (0:Int)<2147483647;decide),_,_,rfl,rfl,.inr ⟨by decide,by decide⟩,_,rfl,_,_,rfl,rfl,.inr ⟨by decide,by decide⟩,_,_,rfl,rfl,_,_,rfl,rfl,_,_,rfl,rfl,(by show (0:Int)<2147483629;decide),?_⟩
  have b0:=o9 (c % 2147483647*48271+a*69621+11) (show (2147483629:Int)≠0 by decide)
  have b1:=sN (c % 2147483647*48271+a*69621+11) (show (0:Int)<2147483629 by decide)
  generalize (c % 2147483647*48271+a*69621+11) % 2147483629=x at b0 b1 ⊢;refine ⟨_,rfl,_,rfl,_,_,rfl,rfl,.inl ⟨by lia,by lia⟩,_,rfl,_,_,rfl,rfl,.inl ⟨by decide,by decide⟩,_,_,rfl,rfl,_,rfl,_,_,rfl,rfl,_,_,rfl,rfl,(by show (0:Int)<2147483587;decide),?_⟩
  have c0:=o9 (x*x+48271*x+a) (show (2147483587:Int)≠0 by decide)
  have c1:=sN (x*x+48271*x+a) (show (0:Int)<2147483587 by decide)
  generalize (x*x+48271*x+a) % 2147483587=y at c0 c1 ⊢;refine ⟨_,rfl,_,_,rfl,rfl,.inr ⟨by decide,by decide⟩,_,rfl,_,rfl,_,_,rfl,rfl,.inl ⟨by lia,by lia⟩,_,rfl,_,_,rfl,rfl,.inl ⟨by decide,by decide⟩,_,_,rfl,rfl,_,_,rfl,rfl,(by show (0:Int)<2147483579;decide),_,_,rfl,rfl,k _ (Int.add_nonneg (Int.mul_nonneg (o9 _ (by decide)) (by decide)) (o9 _ (by decide)))⟩
theorem acW:ck ["_law_pen","_law_many","_law_at","_law_cell","_law_found"] ["_law_pen","_law_many"] (bC Ew):=cT
theorem oJ(T:Txt K mg t):bL P w K mg base cQ 2 t.uV t.x6 ["_law_pen","_law_many"] (VM K):=by
 have S:=acW;refine T.jr.eE S (fun _ _ _ _ H _ _ _ hr h=>?_);obtain ⟨P0,a,ns,many,rfl,⟨x,y,eP,hx,hy⟩,hS,m1,mm,k⟩:=h;have iY:=hr.units
 refine ⟨_,(aE (dF (dv zW (bj dR (pv 0) aN) (pv 1)) (aE (putL 2 S.nd (bj dR (pv 0) aN))
  (aE (putL 3 S.nd aN)
  (aE (dF (dv zW (pv 2) (dg jG rfl T.iy iE (aj (bj dR (pv 0) aN) aq))) (aI (putL 3 S.nd (bj dR (bj dR (pv 0) aN) (pv 2)))) (aI (dF (dv pE (dg jG rfl T.iy iE (aj (bj dR (pv 0) aN) aq)) aN) (aI (putL 3 S.nd (cC kW (cC tw (bj dR (bj dR (pv 0) aN) (cC tw (cC mw (pv 2) aN) (dg jG rfl T.iy iE (aj (bj dR (pv 0) aN) aq)))) aN) (cC mw (pv 2) aN)))) dP)))
  (aE (@wb _ _ _ _ _ _ (cC kW (pv 2) aN) (zT (pv 0) aN set_list) (by rfl) (by rfl) (by rfl))
  (aI (@wb _ _ _ _ _ _ (a_ (acV T) hr T.Qa T.yy.kp T.P_ bZ (aj (pv 3) (aj (pv 2) aq))) (zT (pv 0) aN set_list) (by rfl) (by rfl) (by rfl))))))) dP)
  (aE (putL 4 S.nd (cC tw (bj dR (pv 0) aN) (pv 1)))
  (aE (@wb _ _ _ _ _ _ (cC Vg (bj dR (pv 0) aN) (pv 1)) (zT (pv 0) aN set_list) (by rfl) (by rfl) (by rfl))
  (aI (bK (pv 4)))))),?_⟩
 have iX:=Au.seq hS;refine ⟨_,rfl,P0,_,_,_,rfl,rfl,.of eP,rfl,_,rfl,_,_,rfl,rfl,_,rfl,dS (fun bh=>?_) (fun bh=>?_)⟩
 ·refine ⟨_,rfl,P0,_,_,_,rfl,rfl,.of eP,rfl,?_⟩
  refine ⟨_,rfl,_,rfl,P0,_,_,_,rfl,rfl,.of eP,rfl,a,ns.map V.int,rfl,.inl iX,_,_,rfl,rfl,_,rfl,dS (fun h1=>?_) (fun h1=>?_)⟩
  ·have h1:x<((ns.map V.int).length:Int):=fB h1
   obtain ⟨v,hv,mv⟩:=MF (xs:=ns.map V.int) hx h1;obtain ⟨c,_,rfl⟩:=bG.mp mv;refine ⟨_,rfl,P0,_,_,_,rfl,rfl,.of eP,rfl,_,rfl,a,ns.map V.int,_,_,rfl,rfl,iX,hv,?_⟩;refine ⟨_,rfl,_,_,rfl,rfl,_,rfl,P0,_,1,1,rfl,rfl,eP,rfl,?_⟩;refine ⟨_,rfl,_,rfl,c,x,rfl,hx,fun r sq=>⟨_,rfl,P0,_,2,2,rfl,rfl,ax,rfl,?_⟩⟩;have q0:=o9 (r) (show many≠0 by lia)
   have q1:=sN (r) (show 0<many by lia)
   have q2:=Cm (sq) (show 0≤many by lia)
   refine ⟨_,rfl,P0,_,_,_,rfl,rfl,.of ax,rfl,_,rfl,_,_,rfl,rfl,(show 0<many by lia),?_⟩
   refine ⟨_,rfl,P0,_,_,_,rfl,rfl,.of ax,rfl,_,rfl,_,_,rfl,rfl,⟨show 0<many by lia,mm⟩,_,rfl,P0,_,2,2,rfl,rfl,ax,rfl,?_⟩
   exact ⟨_,rfl,k _ _ q0 q1 (((aW.refl H).trans aW.k_).trans (aW.k_.trans aW.k_)) ⟨x+1,r / many,ax,by lia,q2⟩⟩
  ·refine ⟨_,rfl,P0,_,_,_,rfl,rfl,.of eP,rfl,a,ns.map V.int,rfl,.inl iX,_,_,rfl,rfl,_,rfl,?_⟩
   have Fj:=eP;have BL:=iX;have sl:=ak.refl H;refine dS (fun h2=>?_) (fun h2=>?_)
   ·have hl:0<(ns.map V.int).length:=by have:=fB h2;lia
    have hm0:=o9 (x*7) (show ((ns.map V.int).length:Int)≠0 by lia)
    have hm1:=sN (x*7) (show (0:Int)<((ns.map V.int).length:Int) by lia)
    obtain ⟨v,hv,mv⟩:=MF (xs:=ns.map V.int) hm0 hm1;obtain ⟨c,_,rfl⟩:=bG.mp mv;refine ⟨_,rfl,P0,_,_,_,rfl,rfl,.of Fj,rfl,_,rfl,_,_,rfl,rfl,.inr ⟨by decide,by decide⟩,_,rfl,P0,_,_,_,rfl,rfl,.of Fj,rfl,a,ns.map V.int,rfl,.inl BL,_,_,rfl,rfl,(show (0:Int)<((ns.map V.int).length:Int) by lia),a,ns.map V.int,_,_,rfl,rfl,BL,hv,_,_,rfl,rfl,(show (0:Int)<1000003 by decide),_,rfl,_,_,rfl,rfl,.inr ⟨by decide,by decide⟩,_,_,rfl,rfl,?_⟩
    refine ⟨_,rfl,_,_,rfl,rfl,_,rfl,P0,_,1,1,rfl,rfl,Fj,rfl,?_⟩;refine ⟨_,rfl,_,rfl,_,x,rfl,hx,fun r sq=>⟨_,rfl,P0,_,2,2,rfl,rfl,ax,rfl,?_⟩⟩;have q0:=o9 (r) (show many≠0 by lia)
    have q1:=sN (r) (show 0<many by lia)
    have q2:=Cm (sq) (show 0≤many by lia)
    refine ⟨_,rfl,P0,_,_,_,rfl,rfl,.of ax,rfl,_,rfl,_,_,rfl,rfl,(show 0<many by lia),?_⟩
    refine ⟨_,rfl,P0,_,_,_,rfl,rfl,.of ax,rfl,_,rfl,_,_,rfl,rfl,⟨show 0<many by lia,mm⟩,_,rfl,P0,_,2,2,rfl,rfl,ax,rfl,?_⟩
    exact ⟨_,rfl,k _ _ q0 q1 (((aW.of sl).trans aW.k_).trans (aW.k_.trans aW.k_)) ⟨x+1,r / many,ax,by lia,q2⟩⟩
   ·
    refine ⟨_,rfl,_,_,rfl,rfl,_,rfl,P0,_,1,1,rfl,rfl,Fj,rfl,?_⟩;refine ⟨_,rfl,_,rfl,0,x,rfl,hx,fun r sq=>⟨_,rfl,P0,_,2,2,rfl,rfl,ax,rfl,?_⟩⟩;have q0:=o9 (r) (show many≠0 by lia)
    have q1:=sN (r) (show 0<many by lia)
    have q2:=Cm (sq) (show 0≤many by lia)
    refine ⟨_,rfl,P0,_,_,_,rfl,rfl,.of ax,rfl,_,rfl,_,_,rfl,rfl,(show 0<many by lia),?_⟩
    refine ⟨_,rfl,P0,_,_,_,rfl,rfl,.of ax,rfl,_,rfl,_,_,rfl,rfl,⟨show 0<many by lia,mm⟩,_,rfl,P0,_,2,2,rfl,rfl,ax,rfl,?_⟩
    exact ⟨_,rfl,k _ _ q0 q1 (((aW.of sl).trans aW.k_).trans (aW.k_.trans aW.k_)) ⟨x+1,r / many,ax,by lia,q2⟩⟩
 ·dsimp only [i6]
  have q0:=o9 (y) (show many≠0 by lia)
  have q1:=sN (y) (show 0<many by lia)
  have q2:=Cm (hy) (show 0≤many by lia)
  refine ⟨_,rfl,P0,_,_,_,rfl,rfl,.of eP,rfl,_,rfl,_,_,rfl,rfl,(show 0<many by lia),?_⟩
  refine ⟨_,rfl,P0,_,_,_,rfl,rfl,.of eP,rfl,_,rfl,_,_,rfl,rfl,⟨show 0<many by lia,mm⟩,_,rfl,P0,_,2,2,rfl,rfl,eP,rfl,?_⟩
  exact ⟨_,rfl,k _ _ q0 q1 (aW.k_) ⟨x,y / many,ax,hx,q2⟩⟩
theorem acZ:ck ["_law_pen","_law_some","_law_left","_law_found"] ["_law_pen","_law_some"] (bC Ex):=cT
theorem JV(T:Txt K mg t):bL P w K mg base cQ 3 t.uW t.x8 ["_law_pen","_law_some"] (Ww K):=by
 have S:=acZ;refine T.rU.eE S (fun _ _ _ _ H _ _ _ hr h=>?_);obtain ⟨P0,a,l,ns,xs,rfl,ao⟩:=h;have pc:=ao.1;have hS:=ao.2.1;have nl:=ao.2.2.1;have el:=ao.2.2.2.1;have air:=ao.2.2.2.2.1;have kk:=ao.2.2.2.2.2;clear ao;have iY:=hr.units
 refine ⟨_,(aE (putL 2 S.nd (iK Uv rfl T.qd boot_list (aj (pv 1) aq)))
  (aE (putL 3 S.nd (fD aq))
  (aE (wc eQ (dv (Wv iY) (pv 2) (fD aq)) (aI (iI (kh jB oY oZ k6 (pv 3) (aj (kh jB PySem.F.slot_list_pop PySem.F.type_list_pop UK (pv 2) (aj (a_ (oJ T) hr T.m9 T.jr.kp T.m8 bZ (aj (pv 0) (aj (dg jG rfl T.iy iE (aj (pv 2) aq)) aq))) aq)) aq)))))
  (aI (bK (pv 3)))))),?_⟩
 refine ⟨_,rfl,l,xs,rfl,.inl (.of el),fun l1 n1=>?_⟩;have s1:ak H (upd H l1 (.lst xs)):=aS n1;have e1:upd H l1 (.lst xs) l1=some (.lst xs):=ax;dsimp only [a7];generalize upd H l1 (.lst xs)=H1 at s1 e1 ⊢;refine ⟨by show 0≤sizeLine;decide,fun l2 n2=>?_⟩
 have s2:ak H1 (upd H1 l2 (.lst [])):=aS n2;have e2:upd H1 l2 (.lst []) l2=some (.lst []):=ax;dsimp only [a7];generalize upd H1 l2 (.lst [])=H2 at s2 e2 ⊢;have Rt:l1≠P0:=pc.ne n1;have Fl:l2≠P0:=(pc.mono s1).ne n2;have Ru:H l2=none:=none_of s1 n2;have Rv:l1≠l2:=fun e=>by rw [e,n2] at e1;cases e1
 refine dB ⟨fun m σ Hc=>∃zs ys:List V,σ=[some (.ref P0),some (.ref l),some (.ref l1),some (.ref l2)]∧m=zs.length∧Hc l1=some (.lst zs)∧Hc l2=some (.lst ys)∧(zs++ys).Perm xs∧aW P0 H Hc∧cV Hc P0 a,⟨_,xs,[],rfl,rfl,s2 _ _ e1,e2,by rw [oP],aW.of (s1.trans s2),(pc.mono s1).mono s2⟩,?_⟩
 rintro m σ Hc ⟨zs,ys,rfl,rfl,aG⟩;have ez:=aG.1;have ey:=aG.2.1;have pm:=aG.2.2.1;have sc:=aG.2.2.2.1;have p1:=aG.2.2.2.2;clear aG;have lz:zs.length≤100:=by have:=pm.length_eq;rw [dO] at this;lia
 have ly:ys.length≤100:=by have:=pm.length_eq;rw [dO] at this;lia
 refine ⟨_,rfl,by show 0≤sizeLine;decide,fun le Rw=>?_⟩
 have s3:ak Hc (upd Hc le (.lst [])):=aS Rw;have e3:upd Hc le (.lst []) le=some (.lst []):=ax;generalize upd Hc le (.lst [])=H3 at s3 e3 ⊢;refine ⟨l1,le,zs,rfl,rfl,.of (s3 _ _ ez),e3,_,rfl,dS (fun hz=>?_) (fun hz=>?_)⟩
 ·have z0:1≤zs.length:=by
   cases zs with
   | nil=>cases hz
   | cons=>simp
  have EX:=sc.trans (aW.of s3);refine ⟨_,fun _ _ h=>h,?_⟩;refine ⟨_,rfl,.inl ⟨rfl,_,.of (s3 _ _ ey)⟩,_,rfl,.inl ⟨rfl,_,.of (s3 _ _ ez)⟩,_,rfl,_,rfl,l1,zs,rfl,.inl (.of (s3 _ _ ez)),P0,a,ns,(zs.length:Int),rfl,p1.mono s3,ak.seq EX hS,by lia,iO.of_lt (by lia) (by lia),fun c H4 c0 c1 s4 p4=>?_⟩
  obtain ⟨k,rfl⟩:=gq c0;have hk:k<zs.length:=by lia
  have ez4:=s4.at Rt (s3 _ _ ez);have ey4:=s4.at Fl (s3 _ _ ey);have sx:seqIndex? (k:Int) zs.length=some k:=by unfold seqIndex?;simp;lia
  refine ⟨l1,zs,(k:Int),k,zs[k],rfl,rfl,ez4,by lia,by lia,sx,by simp [hk],?_⟩
  have nn:l2≠l1:=fun e=>Rv e.symm;refine ⟨l2,ys,zs[k],rfl,rfl,by rw [aH nn];exact ey4,dA (by lia),?_⟩
  refine ⟨_,?_,zs.eraseIdx k,ys++[zs[k]],rfl,rfl,by rw [aH Rv,ax],ax,?_,?_,?_⟩
  ·rw [List.length_eraseIdx_of_lt hk]
   lia
  ·refine List.Perm.trans ?_ pm
   rw [←g_];refine (vL).trans ?_;show (zs[k]::(zs.eraseIdx k++ys)).Perm (zs++ys);exact (Nd zs k hk).append_right ys
  ·exact ((EX.trans s4).but n1).but Ru
  ·exact ((p4.upd Rt).upd Fl)
 ·have z0:zs=[]:=by
   cases zs with
   | nil=>rfl
   | cons=>exact absurd rfl hz
  subst z0;refine ⟨_,rfl,kk l2 ys H3 (sc.trans (aW.of s3)) (p1.mono s3) ?_ Fl (s3 _ _ ey) pm⟩;rw [gE Fl];exact Ru
theorem ac2:ck ["_law_pen","_law_way","_law_size","_law_wide","_law_i","_law_j"] ["_law_pen","_law_way","_law_size","_law_wide","_law_i","_law_j"] (bC Ey):=cT
theorem ac3(T:Txt K mg t):bL P w K mg base cQ 3 t.uX t.x9 ["_law_pen","_law_way","_law_size","_law_wide","_law_i","_law_j"] (Wx K):=by
 have S:=ac2;refine T.yA.eE S (fun _ _ _ _ H _ _ _ hr h=>?_);obtain ⟨P0,a,ns,way,size,wide,i,j,rfl,pc,hS,kk⟩:=h
 refine ⟨_,(aE (dF (dv my (pv 1) aN) (aI (bK (pF my (a_ (oJ T) hr T.m9 T.jr.kp T.m8 bZ (aj (pv 0) (aj aN aq))) aN))) dP)
  (aE (dF (dv my (pv 1) aN) (aI (bK (pF my (a_ (oJ T) hr T.m9 T.jr.kp T.m8 bZ (aj (pv 0) (aj aN aq))) aN))) dP)
  (aE (dF (dv my (pv 1) aN) (aI (bK (pF pE (a_ (oJ T) hr T.m9 T.jr.kp T.m8 bZ (aj (pv 0) (aj aN aq))) aN))) dP)
  (aE (dF (dv my (pv 1) aN) (aI (bK (SX (pF my (cC CB (pv 5) (pv 4)) aN) (F7 (pF my (cC CB (pv 5) (pv 4)) (cC CB (pv 2) aN)))))) dP)
  (aI (bK (pF LU (cC CB (pv 5) (pv 4)) (pv 3)))))))),?_⟩
 refine ⟨_,rfl,rfl,_,rfl,dS (fun _=>?_) (fun _=>?_)⟩;·exact ⟨_,rfl,P0,a,ns,2,rfl,pc,hS,by decide,iO.of_lt (by decide) (by decide),fun c H1 _ _ s1 p1=>⟨rfl,kk _ H1 s1 p1⟩⟩
 dsimp only [i6];refine ⟨_,rfl,rfl,_,rfl,dS (fun _=>?_) (fun _=>?_)⟩;·exact ⟨_,rfl,P0,a,ns,4,rfl,pc,hS,by decide,iO.of_lt (by decide) (by decide),fun c H1 _ _ s1 p1=>⟨rfl,kk _ H1 s1 p1⟩⟩
 dsimp only [i6];refine ⟨_,rfl,rfl,_,rfl,dS (fun _=>?_) (fun _=>?_)⟩;·exact ⟨_,rfl,P0,a,ns,4,rfl,pc,hS,by decide,iO.of_lt (by decide) (by decide),fun c H1 _ _ s1 p1=>⟨_,_,rfl,rfl,kk _ H1 s1 p1⟩⟩
 dsimp only [i6];refine ⟨_,rfl,rfl,_,rfl,dS (fun _=>?_) (fun _=>?_)⟩
 ·refine ⟨_,rfl,_,rfl,_,_,rfl,rfl,rfl,_,rfl,dS (fun _=>?_) (fun _=>?_)⟩
  ·exact kk _ H (aW.refl _) pc
  ·exact ⟨_,rfl,_,rfl,_,_,rfl,rfl,_,rfl,_,_,rfl,rfl,rfl,kk _ H (aW.refl _) pc⟩
 dsimp only [i6];exact ⟨_,rfl,_,rfl,_,_,rfl,rfl,_,rfl,_,_,rfl,rfl,kk _ H (aW.refl _) pc⟩
theorem ac4:ck ["_law_size","_law_links","_law_names","_law_found","_law_i","_law_j","_law_one"] ["_law_size","_law_links","_law_names"] (bC EB):=cT
theorem JW(T:Txt K mg t):bL P w K mg base cQ 3 t.rO t.u0 ["_law_size","_law_links","_law_names"] Pd:=by
 have S:=ac4;refine T.rV.eE S (fun _ _ _ _ H _ _ _ hr h=>?_);obtain ⟨l,r,n,us,ws,L,nm,rfl,ao⟩:=h;have el:=ao.1;have hL:=ao.2.1;have ok:=ao.2.2.1;have BM:=ao.2.2.2.1;have BN:=ao.2.2.2.2.1;have lw:=ao.2.2.2.2.2.1;have hw:=ao.2.2.2.2.2.2.1;have N:=ao.2.2.2.2.2.2.2.1;have kk:=ao.2.2.2.2.2.2.2.2;clear ao
 refine ⟨_,(aE (putL 3 S.nd (fD aq))
  (aE (fi eQ rfl (aaR (pv 1)) (pj rfl (gR (df (i:=4) S.nd rfl (Or.inl rfl)) (gR (df (i:=5) S.nd rfl (Or.inl rfl)) ph)))
   (aE (putL 6 S.nd (dg (Gk rfl) rfl T.yG boot_min (aj (bj dR (pv 2) (pv 4)) (aj (bj dR (pv 2) (pv 5)) aq))))
  (aI (iI (kh jB oY oZ k6 (pv 3) (aj (h_ (aj (pv 6) (aj (dg (Gj rfl) rfl T.Bx boot_max (aj (bj dR (pv 2) (pv 4)) (aj (bj dR (pv 2) (pv 5)) aq))) aq))) aq))))))
  (aI (bK (h_ (aj (pv 0) (aj (iK CI rfl T.By boot_tuple (aj (dg Hl rfl T.oF oX (aj (pv 3) aq)) aq)) aq))))))),?_⟩
 refine ⟨by show 0≤sizeLine;decide,fun fd jY=>?_⟩
 have s0:ak H (upd H fd (.lst [])):=aS jY;have Rx:upd H fd (.lst []) fd=some (.lst []):=ax;dsimp only [a7];generalize upd H fd (.lst [])=H1 at s0 Rx ⊢;refine ⟨_,rfl,l,rfl,?_⟩;refine aaS (K:=K) (a:=l) (xs:=us) el (fun k σ Hc=>∃(xs:List V) (v4 v5 v6:Option V),σ=[some (.int (n:Int)),some (.ref l),some (.ref r),some (.ref fd),v4,v5,v6]∧ak H Hc∧Hc fd=some (.lst xs)∧bE Hc xs ((L.take k).map (f_ nm))) ⟨[],_,_,_,rfl,s0,Rx,bE.nil _⟩ (fun k σ Hc _ ⟨_,_,_,_,_,sc,_⟩=>sc) ?_ ?_
 ·rintro k x σ Hc hx ⟨xs,v4,v5,v6,rfl,aG⟩
  have sc:=aG.1;have ef:=aG.2.1;have hX:=aG.2.2;clear aG;have hk:k<L.length:=by rw [←hL.1];exact (bJ.mp hx).1
  obtain ⟨b,rfl,eb⟩:=(hL.mono sc).2 k x L[k] hx (by simp [hk])
  have pk:=ok.lt L[k] (cB hk);have tk:(L.take (k+1)).map (f_ nm)=(L.take k).map (f_ nm)++[f_ nm L[k]]:=by rw [nN,bP hk,eX];rfl
  have lX:=hX.1;rw [aD,qq] at lX;have e8:L.length≤450:=b8 ok.e8 (by have:n*n≤30*30:=vZ BM BM;lia)
  generalize L[k]=p at eb pk tk;obtain ⟨p1,p2⟩:=p;dsimp only at pk;obtain ⟨i,rfl⟩:=gq pk.1;obtain ⟨j,rfl⟩:=gq (show 0≤p2 by lia)
  have Ry:k4 ws (i:Int)=some (.int (nm i)):=n_ (hw i (by lia))
  have at2:k4 ws (j:Int)=some (.int (nm j)):=n_ (hw j (by lia))
  have Fm:=sc _ _ BN;refine ⟨b,_,rfl,.of eb,rfl,_,_,rfl,_,_,rfl,rfl,?_⟩;refine ⟨_,rfl,_,rfl,r,ws,_,.int (nm i),rfl,rfl,.of Fm,Ry,_,rfl,_,rfl,r,ws,_,.int (nm j),rfl,rfl,.of Fm,at2,nm i,nm j,rfl,?_⟩;dsimp only [a7];refine ⟨_,rfl,.inl ⟨rfl,_,.of ef⟩,_,rfl,_,rfl,_,rfl,r,ws,_,.int (nm i),rfl,rfl,.of Fm,Ry,_,rfl,_,rfl,r,ws,_,.int (nm j),rfl,rfl,.of Fm,at2,nm i,nm j,rfl,by show 2≤sizeLine;decide,fun tp jv=>?_⟩
  have eq:f_ nm ((i:Int),(j:Int))=(if nm j<nm i then nm j else nm i,if nm j>nm i then nm j else nm i):=by
   unfold f_;simp only [cZ];refine Prod.ext ?_ ?_
   ·show min (nm i) (nm j)=_
    split <;> lia
   ·show max (nm i) (nm j)=_
    split <;> lia
  have st:ak Hc (upd Hc tp (.tup [.int (if nm j<nm i then nm j else nm i),.int (if nm j>nm i then nm j else nm i)])):=aS jv
  have d6:upd Hc tp (.tup [.int (if nm j<nm i then nm j else nm i),.int (if nm j>nm i then nm j else nm i)]) tp=some (.tup [.int (f_ nm ((i:Int),(j:Int))).1,.int (f_ nm ((i:Int),(j:Int))).2]):=by rw [ax,eq]
  generalize upd Hc tp (.tup [.int (if nm j<nm i then nm j else nm i),.int (if nm j>nm i then nm j else nm i)])=Hd at st d6 ⊢
  have jx:=st _ _ ef;refine ⟨fd,xs,_,rfl,rfl,jx,dA (by lia),xs++[.ref tp],_,_,_,rfl,gD (sc.trans st) jY,ax,?_⟩
  rw [tk];exact ((hX.mono st).push d6).cY jx fun b o nb e=>by rw [aH nb];exact e
 ·rintro σ Hc ⟨xs,v4,v5,v6,rfl,aJ⟩
  have sc:=aJ.1;have ef:=aJ.2.1;have hX:=aJ.2.2;clear aJ;rw [hL.1,iD] at hX;have qk:=Wz ok N;have lX:=hX.1;have e8:L.length≤450:=b8 ok.e8 (by have:n*n≤30*30:=vZ BM BM;lia)
  have lM:(L.map (f_ nm)).length=L.length:=aD ..;have small:∀q∈L.map (f_ nm),0≤q.2∧q.2<1000:=fun q hq=>by have:=qk.lt q hq;lia
  generalize hM:L.map (f_ nm)=M at hX qk lX lM small kk;dsimp only;refine ⟨_,rfl,_,rfl,fd,xs,fun i=>(M.getD i (0,0)).1,fun i=>(M.getD i (0,0)).2,rfl,ef,by lia,fun i v hv=>?_,fun p l' hp hu pW=>?_⟩
  ·have hi:i<M.length:=by rw [←lX];exact (bJ.mp hv).1
   obtain ⟨b,rfl,eb⟩:=hX.2 i v M[i] hv (by simp [hi])
   dsimp only;rw [getD_at hi];exact ⟨⟨b,rfl,eb⟩,small _ (cB hi)⟩
  rw [lX] at hp hu;obtain ⟨pm,pw⟩:=Wy hp hu qk.nd small;have sl:ak Hc (upd Hc l' (.lst (p.toList.map fun i=>xs.getD i .aR))):=aS pW;have hP:bE Hc (p.toList.map fun i=>xs.getD i .aR) (p.toList.map fun i=>M.getD i (0,0)):=hX.pick _ fun i hi=>by have:p.toList.Perm (List.range M.length):=qA.mp hp;exact aU.mp (this.mem_iff.mp hi)
  generalize (p.toList.map fun i=>xs.getD i .aR)=zs at sl hP ⊢;refine ⟨l',zs,rfl,.inl ⟨.of ax,fun lt Jq=>?_⟩⟩;have gT:=sl.trans (aS (o:=.tup zs) Jq);have elt:upd (upd Hc l' (.lst zs)) lt (.tup zs) lt=some (.tup zs):=ax;generalize upd (upd Hc l' (.lst zs)) lt (.tup zs)=Hd at gT elt ⊢;refine ⟨by show 2≤sizeLine;decide,fun tp jv=>?_⟩
  have st:ak Hd (upd Hd tp (.tup [.int (n:Int),.ref lt])):=aS jv;have sT:=sc.trans (gT.trans st);exact kk tp _ _ sT (none_of (sc.trans gT) jv) ⟨lt,zs,ax,st _ _ elt,(hP.mono gT).mono st⟩ (qk.perm pm) pw pm
theorem ac5(T:Txt K mg t):bL P w K mg base cQ 3 t.rO t.u0 ["_law_size","_law_links","_law_names"] Nf:=(JW T).imp aaT
theorem ac6:ck ["_law_pen","_law_size","_law_ahead","_law_found","_law_j","_law_at","_law_some"] ["_law_pen","_law_size"] (bC Ez):=cT
theorem ac7(T:Txt K mg t):bL P w K mg base cQ 3 t.uY t.x_ ["_law_pen","_law_size"] (WB K):=by
 have S:=ac6;refine T.yB.eE S (fun _ _ _ _ H vs _ _ hr h=>?_);obtain ⟨P0,a,ns,n,rfl,ao⟩:=h;have pc:=ao.1;have hS:=ao.2.1;have n1:=ao.2.2.1;have BM:=ao.2.2.2.1;have kk:=ao.2.2.2.2;clear ao
 refine ⟨_,(aE (putL 2 S.nd (fD (aj (fD aq) aq)))
  (aE (putL 3 S.nd (fD aq))
  (aE (fi eQ rfl (Th rfl T.ju (aj aN (aj (pv 1) aq))) (df (i:=4) S.nd rfl (Or.inr rfl))
   (aE (putL 5 S.nd (a_ (oJ T) hr T.m9 T.jr.kp T.m8 bZ (aj (pv 0) (aj (pv 4) aq))))
  (aE (putL 6 S.nd (cC CK (fD (aj (pv 5) aq)) (jb (N:=["_law_i","_law_pen"]) (ρ:=(fun σ=>[σ[0]?.join])) (fY [0] rfl) rfl (fW (bj dR (pv 2) (pv 5))) (fun _ _ _=>(.one (dv pE (a_ (oJ T) hr T.m9 T.jr.kp T.m8 bZ (aj (pv 1) (aj aN aq))) aN))) (fun _ _ _=>(pv 0)))))
  (aE (dF (dv my (a_ (oJ T) hr T.m9 T.jr.kp T.m8 bZ (aj (pv 0) (aj aN aq))) aN) (aI (putL 6 S.nd (fD aq))) dP)
  (aE (iI (kh jB oY oZ k6 (pv 2) (aj (pv 6) aq)))
  (aI (iI (kh jB PySem.F.slot_list_extend PySem.F.type_list_extend Mp (pv 3) (aj (jb (N:=["_law_i","_law_j"]) (ρ:=(fun σ=>[σ[4]?.join])) (fY [4] rfl) rfl (fW (pv 6)) (fun _ _ _=>.nil) (fun _ _ _=>(h_ (aj (pv 0) (aj (pv 1) aq))))) aq)))))))))
  (aI (bK (pv 3)))))),?_⟩
 refine cR fun _ jw=>⟨by show 0≤sizeLine;decide,fun l0 oH=>⟨by show 1≤sizeLine;decide,fun la BO=>?_⟩⟩
 have s1:ak H (upd H l0 (.lst [])):=aS oH;have e0:upd H l0 (.lst []) l0=some (.lst []):=ax;generalize upd H l0 (.lst [])=H1 at s1 e0 BO ⊢;have s2:ak H1 (upd H1 la (.lst [.ref l0])):=aS BO;have ea:upd H1 la (.lst [.ref l0]) la=some (.lst [.ref l0]):=ax;dsimp only [a7];refine jw _ _ ?_;generalize upd H1 la (.lst [.ref l0])=H2 at s2 ea ⊢;refine cR fun _ kG=>⟨by show 0≤sizeLine;decide,fun fd jY=>?_⟩
 have s3:ak H2 (upd H2 fd (.lst [])):=aS jY;have ef:upd H2 fd (.lst []) fd=some (.lst []):=ax;dsimp only [a7];refine kG _ _ ?_;generalize upd H2 fd (.lst [])=H3 at s3 ef ⊢;have gh:=s1.trans (s2.trans s3);have BP:la≠P0:=(pc.mono s1).ne BO;have kL:fd≠P0:=((pc.mono s1).mono s2).ne jY;have ac8:l0≠P0:=pc.ne oH;have ac9:H la=none:=none_of s1 BO;have Fn:H fd=none:=none_of (s1.trans s2) jY;have af:la≠fd:=fun e=>by rw [e,jY] at ea;cases ea
 refine ⟨_,rfl,_,_,rfl,⟨by decide,by decide,by lia,by lia⟩,?_⟩
 rw [show ((n:Int)-1).toNat=n-1 by lia]
 refine tj (fun k σ Hc=>∃(vs us:List V) (L:ar) (D:Nat→List Nat) (v4 v5 v6:Option V),σ=[some (.ref P0),some (.int (n:Int)),some (.ref la),some (.ref fd),v4,v5,v6]∧aW P0 H Hc∧cV Hc P0 a∧Hc la=some (.lst vs)∧WC (er P0 Hc) vs (k+1) D∧(∀(i:Nat) (b:Addr),vs[i]?=some (V.ref b)→b≠la∧b≠fd)∧Hc fd=some (.lst us)∧bE (er P0 Hc) us L∧pQ (k+1) L) ?_ ?_ ?_
 ·refine ⟨[.ref l0],[],[],fun _=>[],_,_,_,rfl,aW.of gh,pc.mono gh,s3 _ _ ea,⟨rfl,fun k hk=>⟨gY.nil k,l0,by rw [show k=0 by lia];rfl,?_⟩⟩,fun i b hb=>?_,ef,bE.nil _,pQ.nil⟩
  ·rw [gE ac8]
   exact s3 _ _ (s2 _ _ e0)
  ·match i,hb with
   | 0,hb=>cases hb;exact ⟨(fun e=>by rw [e,BO] at e0;cases e0),(fun e=>by rw [←e] at jY;rw [s2 _ _ e0] at jY;cases jY)⟩
   | i+1,hb=>simp at hb
 ·rintro k σ Hc hk ⟨vs,us,L,D,v4,v5,v6,rfl,aG⟩
  have sc:=aG.1;have p1:=aG.2.1;have Fo:=aG.2.2.1;have ah:=aG.2.2.2.1;have ap:=aG.2.2.2.2.1;have jx:=aG.2.2.2.2.2.1;have hL:=aG.2.2.2.2.2.2.1;have ok:=aG.2.2.2.2.2.2.2;clear aG;refine ⟨_,rfl,_,rfl,P0,a,ns,1+(k:Int),rfl,p1,ak.seq sc hS,by lia,iO.of_lt (by lia) (by lia),fun c H4 c0 c1 s4 p4=>?_⟩
  obtain ⟨c,rfl⟩:=gq c0;have hc:c<k+1:=by lia
  obtain ⟨fc,b,evb,BQ⟩:=ah.2 c hc;have nbP:b≠P0:=fun z=>by rw [z] at BQ;unfold er at BQ;rw [ae rfl] at BQ;cases BQ
  have lvs:=ah.1;have sc4:=sc.trans s4;have adf:=s4.at BP Fo;have Rz:H4 b=some (.lst (gc (D c))):=Au _ _ (s4 _ _ BQ);dsimp only [a7];simp only [List.set_cons_zero,List.set_cons_succ];refine cR fun _ nC=>⟨_,rfl,by show 1≤sizeLine;decide,fun yT Dh=>?_⟩
  have s5:ak H4 (upd H4 yT (.lst [.int (c:Int)])):=aS Dh;have e5:upd H4 yT (.lst [.int (c:Int)]) yT=some (.lst [.int (c:Int)]):=ax;have nc1:yT≠P0:=p4.ne Dh;generalize upd H4 yT (.lst [.int (c:Int)])=H5 at s5 e5 ⊢;have lD:(D c).length≤30:=b8 fc.len (by lia)
  have lV:(gc (D c)).length≤30:=by unfold gc;rw [aD];exact lD
  have E1:=sc4.trans (aW.of s5);refine WA (K:=K) (l:=b) (xs:=gc (D c)) (dA (by lia)) nbP (s5 _ _ Rz) (p4.mono s5) (fun R h=>⟨_,rfl,_,rfl,la,vs,_,.ref b,rfl,rfl,.of (s5 _ _ adf),n_ evb,b,rfl,⟨_,.of (s5 _ _ Rz)⟩,h⟩) (fun i x hx Hx R sx px k=>⟨_,rfl,P0,a,ns,3,rfl,px,ak.seq (E1.trans sx) hS,by decide,iO.of_lt (by decide) (by decide),fun c' H' _ _ s' p'=>⟨_,_,rfl,rfl,_,rfl,k _ H' s' p'⟩⟩) (fun x Hx R h=>⟨_,rfl,h⟩) fun D' ys Hx nD' fD' sx px sub Js=>?_
  obtain ⟨e,Mv,rfl⟩:=Hn sub;have fe:=(fc.sub Mv).put hc;have le':(gc e).length≤30:=b8 sub.length_le lV;refine ⟨yT,D',_,_,rfl,rfl,sx.at nc1 e5,Js,b8 (show _≤900 by simp;lia) (by decide),fun c2 n2=>?_⟩
  have s6:ak Hx (upd Hx c2 (.lst ([.int (c:Int)]++gc e))):=aS n2;have e6:upd Hx c2 (.lst ([.int (c:Int)]++gc e)) c2=some (.lst (gc (c::e))):=ax;have E2:=(E1.trans sx).trans (aW.of s6);have p6:=px.mono s6;have sj:aW P0 H4 (upd Hx c2 (.lst ([.int (c:Int)]++gc e))):=(aW.of s5).trans (sx.trans (aW.of s6));have JX:c2≠P0:=px.ne n2;have f2:er P0 Hc c2=none:=none_of (s4.trans ((aW.of s5).trans sx)) (by rw [gE JX];exact n2)
  dsimp only [a7];refine nC _ _ ?_;generalize upd Hx c2 (.lst ([.int (c:Int)]++gc e))=H6 at s6 e6 E2 p6 sj ⊢;simp only [List.set_cons_zero,List.set_cons_succ];refine dB (Nc (fun σ Hy=>∃(lc:Addr) (d:List Nat),σ=[some (.ref P0),some (.int (n:Int)),some (.ref la),some (.ref fd),some (.int (1+(k:Int))),some (.int (c:Int)),some (.ref lc)]∧aW P0 Hc Hy∧cV Hy P0 a∧Hy lc=some (.lst (gc d))∧gY (k+1) d∧lc≠P0∧er P0 Hc lc=none) ?_ ?_)
  ·rintro σ Hy ⟨lc,d,rfl,aJ⟩
   have sy:=aJ.1;have py:=aJ.2.1;have jX:=aJ.2.2.1;have JY:=aJ.2.2.2.1;have yU:=aJ.2.2.2.2.1;have Fp:=aJ.2.2.2.2.2;clear aJ;have ly:lc≠la:=fun z=>by rw [z,gE BP,Fo] at Fp;cases Fp
   have lf:lc≠fd:=fun z=>by rw [z,gE kL,jx] at Fp;cases Fp
   have JZ:=sy.at BP Fo;have adh:=sy.at kL jx;have ldd:d.length≤30:=b8 JY.len (by lia)
   dsimp only;refine ⟨_,rfl,.inl ⟨rfl,_,.of JZ⟩,_,rfl,la,vs,_,rfl,rfl,JZ,dA (by lia),?_⟩
   have e7:upd Hy la (.lst (vs++[.ref lc])) la=some (.lst (vs++[.ref lc])):=ax;have k7:∀b o,b≠la→Hy b=some o→upd Hy la (.lst (vs++[.ref lc])) b=some o:=fun b o nb e=>by rw [aH nb];exact e
   have p7:=py.upd (o:=.lst (vs++[.ref lc])) BP;have r7:=Ho (P:=P0) (H:=Hy) (r:=la) (o:=.lst (vs++[.ref lc]));have E3:aW P0 H (upd Hy la (.lst (vs++[.ref lc]))):=(sc.trans sy).but ac9;generalize upd Hy la (.lst (vs++[.ref lc]))=H7 at e7 k7 p7 r7 E3 ⊢;have J0:=k7 fd _ (fun z=>af z.symm) adh;have J1:=k7 lc _ ly jX;have lnd:(gc d).length=d.length:=by unfold gc;rw [aD]
   refine ⟨_,rfl,.inl ⟨rfl,_,.of J0⟩,wK (xs:=gc d) (fun R h=>⟨_,rfl,lc,rfl,⟨_,.of J1⟩,h _ _ (ak.refl _) (ko (.of J1))⟩) (dA (by lia)) (fun _ i y Hz=>∃(b:Addr) (x:Nat),y=.ref b∧d[i]?=some x∧Hz b=some (.tup [.int (x:Int),.int (1+(k:Int))])) (fun Dd i y Ha Hb ys ⟨b,x,h1,h2,h3⟩ e f=>⟨b,x,h1,h2,f b _ (fun z=>by rw [z,e] at h3;cases h3) h3⟩) ?_ ?_⟩
   ·intro Dd i x hx Hz R sz _ kz
    obtain ⟨y,hy,rfl⟩:=WD hx;refine ⟨_,rfl,_,rfl,by show 2≤sizeLine;decide,fun tp jv=>?_⟩
    exact kz _ _ (aS jv) ⟨tp,y,rfl,hy,ax⟩
   ·intro Dd zs H8 Jp s8 lzs hzs vi
    have lL:=hL.1;have l2:us.length≤450:=by
     have:=ok.e8;have:(k+1)*(k+1-1)≤30*30:=vZ (by lia) (by lia)
     lia
    refine ⟨fd,Dd,us,zs,rfl,rfl,s8 _ _ J0,vi,b8 (show _≤900 by lia) (by decide),?_⟩
    have k9:∀b o,b≠fd→H8 b=some o→upd H8 fd (.lst (us++zs)) b=some o:=fun b o nb e=>by rw [aH nb];exact e
    have p8:=p7.mono s8;have r9:=Ho (P:=P0) (H:=H8) (r:=fd) (o:=.lst (us++zs));have RA:er P0 H8 fd=some (.lst us):=by rw [gE kL];exact s8 _ _ J0
    have adm:er P0 Hy la=some (.lst vs):=by rw [gE BP];exact JZ
    refine ⟨vs++[.ref lc],us++zs,L++d.map fun(x:Nat)=>((x:Int),((k+1:Nat):Int)),fun i=>if i=k+1 then d else D i,_,_,_,rfl,(E3.trans (aW.of s8)).but Fn,p8.upd kL,k9 la _ af (s8 _ _ e7),⟨by simp [lvs],fun i hi=>?_⟩,fun i b' fO=>?_,ax,?_,ok.more JY⟩
    ·dsimp only
     by_cases z:i=k+1
     ·subst z
      rw [ae rfl];refine ⟨JY,lc,by rw [iz (by lia),show k+1-vs.length=0 by lia];rfl,?_⟩
      exact r9 _ _ lf (by rw [gE yU];exact s8 _ _ J1)
     ·rw [aa z]
      obtain ⟨f1,b1,v1,h1⟩:=ah.2 i (by lia)
      obtain ⟨a1,a2⟩:=ap i b1 v1;refine ⟨f1,b1,by rw [iC (by lia)];exact v1,?_⟩
      exact r9 _ _ a2 (C0 s8 _ _ (r7 _ _ a1 (sy _ _ h1)))
    ·by_cases z:i<vs.length
     ·rw [iC z] at fO
      exact ap i b' fO
     ·have ba:=(bJ.mp fO).1
      rw [dO,qt] at ba;rw [iz (by lia),show i-vs.length=0 by lia] at fO
      cases fO;exact ⟨ly,lf⟩
    ·refine bE.cat ?_ ?_
     ·exact (((hL.mono sy).cY adm r7).mono (C0 s8)).cY RA r9
     ·refine bE.cY (H:=er P0 H8) ⟨by rw [lzs,lnd,aD],fun i v p h1 h2=>?_⟩ RA r9
      obtain ⟨b',x,rfl,hx,e'⟩:=hzs i v h1;rw [bo,hx] at h2;cases h2;refine ⟨b',rfl,?_⟩;rw [show (((k+1:Nat):Int))=1+(k:Int) by lia]
      exact AM p8 e'
  ·intro R hR
   refine ⟨_,rfl,P0,a,ns,9,rfl,p6,ak.seq E2 hS,by decide,iO.of_lt (by decide) (by decide),fun c' H7 _ _ s7 p7=>⟨rfl,_,rfl,dS (fun _=>?_) (fun _=>?_)⟩⟩
   ·refine ⟨by show 0≤sizeLine;decide,fun lc yU=>?_⟩
    have nP:=p7.ne yU;have RB:=s4.trans (sj.trans s7);exact hR _ _ ⟨lc,[],rfl,RB.trans (aW.of (aS yU)),p7.mono (aS yU),ax,gY.nil _,nP,none_of RB (by rw [gE nP];exact yU)⟩
   ·exact hR _ _ ⟨c2,c::e,rfl,s4.trans (sj.trans s7),p7,s7.at JX e6,fe,JX,f2⟩
 ·rintro σ Hc ⟨vs,us,L,D,v4,v5,v6,rfl,aY⟩
  have sc:=aY.1;have p1:=aY.2.1;have Fo:=aY.2.2.1;have ah:=aY.2.2.2.1;have ap:=aY.2.2.2.2.1;have jx:=aY.2.2.2.2.2.1;have hL:=aY.2.2.2.2.2.2.1;have ok:=aY.2.2.2.2.2.2.2;clear aY;rw [show n-1+1=n by lia] at ok
  exact ⟨_,rfl,kk fd us L Hc sc p1 (by rw [gE kL];exact Fn) kL jx hL ok.ok⟩
theorem adn:ck ["_law_pen","_law_most","_law_size","_law_way","_law_wide","_law_links","_law_j","_law_i"] ["_law_pen","_law_most"] (bC EA):=cT
theorem ado(T:Txt K mg t):bL P w K mg base cQ 4 t.uZ t.ya ["_law_pen","_law_most"] (WG K):=by
 have S:=adn;refine T.yC.eE S (fun _ _ _ _ H _ _ _ hr h=>?_);obtain ⟨P0,a,ns,most,rfl,ao⟩:=h;have pc:=ao.1;have hS:=ao.2.1;have m1:=ao.2.2.1;have m10:=ao.2.2.2.1;have kk:=ao.2.2.2.2;clear ao
 refine ⟨_,(aE (putL 2 S.nd (cC kW aN (a_ (oJ T) hr T.m9 T.jr.kp T.m8 bZ (aj (pv 0) (aj (pv 1) aq)))))
  (aE (putL 3 S.nd (a_ (oJ T) hr T.m9 T.jr.kp T.m8 bZ (aj (pv 0) (aj aN aq))))
  (aE (putL 4 S.nd (a_ (oJ T) hr T.m9 T.jr.kp T.m8 bZ (aj (pv 0) (aj (pv 2) aq))))
  (aE (putL 5 S.nd (fD aq))
  (aE (fi eQ rfl (qN rfl T.ju (aj (pv 2) aq)) (df (i:=6) S.nd rfl (Or.inl rfl))
   (aI (fi eQ rfl (qN rfl T.ju (aj (pv 6) aq)) (df (i:=7) S.nd rfl (Or.inl rfl))
   (aI (dF (sV (a_ (ac3 T) hr T.Qc T.yA.kp T.Qb bZ (aj (pv 0) (aj (pv 3) (aj (pv 2) (aj (pv 4) (aj (pv 7) (aj (pv 6) aq)))))))) (aI (iI (kh jB oY oZ k6 (pv 5) (aj (h_ (aj (pv 7) (aj (pv 6) aq))) aq)))) dP)))))
  (aE (dF (dv my (pv 3) aN) (aI (putL 5 S.nd (a_ (ac7 T) hr T.Qe T.yB.kp T.Qd bZ (aj (pv 0) (aj (pv 2) aq))))) dP)
  (aI (bK (a_ (ac5 T) hr T.EN T.rV.kp T.EM bZ (aj (pv 2) (aj (pv 5) (aj (a_ (JV T) hr T.EL T.rU.kp T.EK bZ (aj (pv 0) (aj (iK (Ao rfl) rfl T.qd boot_list (aj (iK An rfl T.ju Ap (aj (pv 2) aq)) aq)) aq))) aq)))))))))))),?_⟩
 refine cR fun _ jw=>⟨_,rfl,_,rfl,P0,a,ns,(most:Int),rfl,pc,hS,by lia,iO.of_lt (by lia) (by lia),fun c H1 c0 c1 s1 p1=>⟨_,_,rfl,rfl,?_⟩⟩
 obtain ⟨c,rfl⟩:=gq c0;dsimp only [a7];refine jw _ _ ?_;rw [show 1+(c:Int)=((c+1:Nat):Int) by lia]
 have n1:1≤c+1:=by lia
 have nm:c+1≤most:=by lia
 generalize c+1=n at n1 nm ⊢;have Fi:aZ K (er P0 H1) a (ns.map V.int):=ak.seq s1 hS;refine cR fun _ kG=>⟨_,rfl,P0,a,ns,6,rfl,p1,Fi,by decide,iO.of_lt (by decide) (by decide),fun way H2 _ _ s2 p2=>?_⟩
 have kF:=s1.trans s2;dsimp only [a7];refine kG _ _ ?_;refine cR fun _ nC=>⟨_,rfl,_,rfl,P0,a,ns,(n:Int),rfl,p2,ak.seq kF hS,by lia,iO.of_lt (by lia) (by lia),fun wide H3 _ _ s3 p3=>?_⟩
 have gh:=kF.trans s3;dsimp only [a7];refine nC _ _ ?_;refine cR fun _ qf=>⟨by show 0≤sizeLine;decide,fun fd jY=>?_⟩
 have s4:ak H3 (upd H3 fd (.lst [])):=aS jY;have ef:upd H3 fd (.lst []) fd=some (.lst []):=ax;dsimp only [a7];refine qf _ _ ?_;generalize upd H3 fd (.lst [])=H4 at s4 ef ⊢;have ni:=gh.trans (aW.of s4);have p4:=p3.mono s4;have kL:fd≠P0:=p3.ne jY;have RC:er P0 H fd=none:=none_of gh (by rw [gE kL];exact jY)
 have Fn:H fd=none:=by rw [gE kL] at RC;exact RC
 refine ⟨_,rfl,(n:Int),rfl,by lia,by lia,?_⟩
 rw [cZ];refine tj (fun j σ Hc=>∃(us:List V) (L:ar) (v6 v7:Option V),σ=[some (.ref P0),some (.int (most:Int)),some (.int (n:Int)),some (.int way),some (.int wide),some (.ref fd),v6,v7]∧aW P0 H Hc∧cV Hc P0 a∧Hc fd=some (.lst us)∧bE (er P0 Hc) us L∧iR j 0 L) ⟨[],[],_,_,rfl,ni,p4,ef,bE.nil _,iR.start⟩ ?_ ?_
 ·rintro j σ Hc hj ⟨us,L,v6,v7,rfl,aG⟩
  have sc:=aG.1;have p5:=aG.2.1;have jx:=aG.2.2.1;have hL:=aG.2.2.2.1;have ok:=aG.2.2.2.2;clear aG;dsimp only [a7];simp only [List.set_cons_zero,List.set_cons_succ];refine ⟨_,rfl,(j:Int),by rw [qH],by lia,by lia,?_⟩
  rw [cZ];refine tj (fun i σ Hd=>∃(us:List V) (L:ar) (v7:Option V),σ=[some (.ref P0),some (.int (most:Int)),some (.int (n:Int)),some (.int way),some (.int wide),some (.ref fd),some (.int (0+(j:Int))),v7]∧aW P0 H Hd∧cV Hd P0 a∧Hd fd=some (.lst us)∧bE (er P0 Hd) us L∧iR j i L) ⟨us,L,_,rfl,sc,p5,jx,hL,ok⟩ ?_ ?_
  ·rintro i σ Hd hi ⟨us,L,v7,rfl,aJ⟩
   have sd:=aJ.1;have p6:=aJ.2.1;have jx:=aJ.2.2.1;have hL:=aJ.2.2.2.1;have ok:=aJ.2.2.2.2;clear aJ;refine ⟨_,rfl,_,rfl,_,rfl,_,rfl,_,rfl,_,rfl,P0,a,ns,way,(n:Int),wide,0+(i:Int),0+(j:Int),rfl,p6,ak.seq sd hS,fun b He se pe=>?_⟩;have J2:=se.at kL jx;have RD:=hL.mono se;have lL:=hL.1;have l2:us.length≤900:=by
    have:=ok.e8;have:j*(j-1)≤30*30:=vZ (by lia) (by lia)
    lia
   cases b with
   | true=>
    refine ⟨true,rfl,wx ?_⟩;refine ⟨_,rfl,.inl ⟨rfl,_,.of J2⟩,_,rfl,_,rfl,by show 2≤sizeLine;decide,fun tp jv=>?_⟩
    have st:ak He (upd He tp (.tup [.int (0+(i:Int)),.int (0+(j:Int))])):=aS jv;have et:upd He tp (.tup [.int (0+(i:Int)),.int (0+(j:Int))]) tp=some (.tup [.int (i:Int),.int (j:Int)]):=by rw [ax,qH,qH]
    generalize upd He tp (.tup [.int (0+(i:Int)),.int (0+(j:Int))])=Hf at st et ⊢;have pf:=pe.mono st;have RE:=st _ _ J2;refine ⟨fd,us,_,rfl,rfl,RE,dA (by lia),us++[.ref tp],L++[((i:Int),(j:Int))],_,rfl,((sd.trans se).trans (aW.of st)).but Fn,pf.upd kL,ax,?_,ok.push hi⟩
    refine bE.cY (H:=er P0 Hf) ((RD.mono (C0 st)).push (AM pf et)) (by rw [gE kL];exact RE) Ho
   | false=>exact ⟨false,rfl,ie ⟨us,L,_,rfl,sd.trans se,pe,J2,RD,ok.skip⟩⟩
  ·rintro σ Hd ⟨us,L,v7,rfl,aY⟩
   have sd:=aY.1;have p6:=aY.2.1;have jx:=aY.2.2.1;have hL:=aY.2.2.2.1;have ok:=aY.2.2.2.2;clear aY;exact ⟨us,L,_,_,rfl,sd,p6,jx,hL,ok.next⟩
 ·rintro σ Hc ⟨us,L,v6,v7,rfl,cm⟩
  have sc:=cm.1;have p5:=cm.2.1;have jx:=cm.2.2.1;have hL:=cm.2.2.2.1;have ok:=cm.2.2.2.2;clear cm;dsimp only;refine dB (Nc (fun σ Hy=>∃(lk:Addr) (us:List V) (L:ar),σ=[some (.ref P0),some (.int (most:Int)),some (.int (n:Int)),some (.int way),some (.int wide),some (.ref lk),v6,v7]∧aW P0 H Hy∧cV Hy P0 a∧lk≠P0∧Hy lk=some (.lst us)∧bE (er P0 Hy) us L∧gX n L) ?_ ?_)
  ·rintro σ Hy ⟨lk,us,L,rfl,dq⟩
   have sy:=dq.1;have py:=dq.2.1;have nlk:=dq.2.2.1;have elk:=dq.2.2.2.1;have hL:=dq.2.2.2.2.1;have ok:=dq.2.2.2.2.2;clear dq;dsimp only;refine ⟨_,rfl,_,rfl,_,rfl,_,rfl,(n:Int),rfl,fun pr Fg=>?_⟩;have s6:ak Hy (upd Hy pr (.gu 0 (n:Int))):=aS Fg;refine ⟨pr,n,rfl,ax,by lia,fun l0 n0=>?_⟩
   have s7:=s6.trans (aS (o:=.lst (dw n)) n0);have e0:upd (upd Hy pr (.gu 0 (n:Int))) l0 (.lst (dw n)) l0=some (.lst (dw n)):=ax;have oH:l0≠P0:=(py.mono s6).ne n0;generalize upd (upd Hy pr (.gu 0 (n:Int))) l0 (.lst (dw n))=Hz at s7 e0 ⊢;have lu:(dw n).length=n:=by unfold dw;simp
   refine ⟨P0,a,l0,ns,dw n,rfl,py.mono s7,ak.seq (sy.trans (aW.of s7)) hS,oH,e0,by lia,fun r ys Hw sw pw fr nr BN pm=>?_⟩
   obtain ⟨nmf,ly,hy,NO⟩:=Nh pm;have Fq:=(aW.of s7).trans sw;refine ⟨lk,r,n,us,ys,L,nmf,rfl,Fq.at nlk elk,(hL.mono Fq).mono Au,ok,by lia,BN,ly,hy,NO,fun tt L' Hv sv RF sh kK m6 vp=>?_⟩
   have nt:tt≠P0:=pw.ne RF;exact kk tt n L' Hv ((sy.trans Fq).trans (aW.of sv)) (pw.mono sv) (none_of (sy.trans Fq) (by rw [gE nt];exact RF)) nt (sh.er (pw.mono sv)) kK m6 n1 nm
  ·intro R hR
   refine ⟨_,rfl,rfl,_,rfl,dS (fun _=>?_) (fun _=>?_)⟩
   ·refine ⟨_,rfl,_,rfl,P0,a,ns,n,rfl,p5,ak.seq sc hS,n1,by lia,fun r us' L' Hy sy py fr nr BN hL' kK=>?_⟩
    exact hR _ _ ⟨r,us',L',rfl,sc.trans sy,py,nr,BN,hL',kK⟩
   ·exact hR _ _ ⟨fd,us,L,rfl,sc,p5,kL,jx,hL,ok.ok⟩
theorem adv:ck ["places"] ["places"] (bC Ei):=cT
theorem adw(T:Txt K mg t):bL P w K mg base cQ 1 t.uI t.xN ["places"] (XZ K):=by
 have S:=adv;refine T.yp.eE S (fun _ _ _ _ H _ _ _ hr h=>?_);obtain ⟨a,zs,rfl,ea,z1,RG,kk⟩:=h;refine ⟨_,(aI (bK (GR (N:=["one","other"]) (ρ:=(fun σ=>[])) (GQ [] rfl) rfl (Vw rfl T.Qr (aj (pv 0) (aj (cC CK (Mf Mk (pv 0) (Md aN) Mc) (Mf Mk (pv 0) Mc (Md aN))) aq))) (fun _ _ _=>.nil) (fun _ _ _=>(h_ (aj (dg (Gk rfl) rfl T.yG boot_min (aj (pv 0) (aj (pv 1) aq))) (aj (dg (Gj rfl) rfl T.Bx boot_max (aj (pv 0) (aj (pv 1) aq))) aq))))))),?_⟩;refine rf (NU (Z:=zs.zip (zs.drop 1++zs.take 1)) (fun _=>true) Dt ?_ (dA (by rw [List.length_zip];lia)) ?_ ?_ ?_)
 ·intro R h
  refine ⟨_,rfl,_,rfl,1,rfl,a,_,rfl,ea,fun p np=>?_⟩;refine ⟨_,rfl,1,rfl,a,_,rfl,(aS np).seq ea,fun q nq=>?_⟩;have c1:=X6 zs 1 z1;have c2:=X5 zs 1;have pq:p≠q:=fun z=>by rw [←z,ax] at nq;cases nq
  refine ⟨p,q,(zs.drop 1).map V.int,(zs.take 1).map V.int,rfl,rfl,by rw [aH pq,ax];exact dM _ (dM _ c1),by rw [ax];exact dM _ (dM _ c2),?_,fun r nr=>?_⟩
  ·rw [aD,aD,B0,qq]
   exact nE (dA (by lia))
  ·have sH:=tS (o:=.lst ((zs.drop 1).map V.int++(zs.take 1).map V.int)) (tS (tS (ak.refl H) np) nq) nr
   have sq:=sH.seq ea;refine ⟨a,r,rfl,⟨_,sq⟩,⟨_,.of ax⟩,h _ _ sH (X2 sq (.of ?_))⟩;rw [ax,eX]
 ·intro z hz Hc R sc k
  exact k
 ·intro z hz Hc R sc k
  exact ⟨_,rfl,_,rfl,_,_,rfl,_,rfl,_,rfl,_,_,rfl,by show 2≤sizeLine;decide,fun tp jv=>k tp _ (aS jv) ax⟩
 ·intro D us Hc nD sc hL eD
  rw [X4 z1] at hL;exact kk _ _ ⟨sc,nD,us,eD,hL⟩
theorem adx:ck ["shape","places"] ["shape","places"] (bC Ej):=cT
theorem ady(T:Txt K mg t):bL P w K mg base cQ 2 t.uJ t.xO ["shape","places"] (X0 K):=by
 have S:=adx;refine T.yq.eE S (fun _ _ _ _ H _ _ _ hr h=>?_);obtain ⟨tp,a,n,L,zs,rfl,⟨lt,us,d6,elt,hL⟩,l2,ea,kk⟩:=h;refine ⟨_,(aI (bK (GR (N:=["i","j","places"]) (ρ:=(fun σ=>[σ[1]?.join])) (GQ [1] rfl) rfl (Cy (bj eV (pv 0) aN)) (fun _ _ _=>(.one (PW.pt (pw_and (wg (NM (K:=K)) (pv 0) (pv 2) rfl) (pw_and1 (wg (NM (K:=K)) (pv 1) (pv 2) rfl)))))) (fun _ _ _=>(h_ (aj (pv 0) (aj (pv 1) aq))))))),?_⟩;refine rf (NU (Z:=L) (fun p=>decide (p.1∈zs) && decide (p.2∈zs)) id ?_ (dA (by lia)) ?_ ?_ ?_)
 ·intro R h
  exact ⟨_,rfl,tp,_,_,_,rfl,rfl,.of d6,rfl,lt,rfl,⟨_,.of elt⟩,h _ _ (ak.refl _) (X1 elt hL)⟩
 ·intro z hz Hc R sc k
  have rW:=sc.seq ea;refine ⟨_,rfl,_,rfl,a,_,rfl,.inl rW,rfl,NV _,_,rfl,dS (fun h1=>?_) (fun h1=>?_)⟩
  ·refine ⟨_,rfl,_,rfl,a,_,rfl,.inl rW,rfl,NV _,?_⟩
   have h2:decide (z.1∈zs)=true:=by rw [←HR];exact h1
   rw [h2,Bool.true_and,←HR] at k;exact ⟨_,rfl,k⟩
  ·have h2:decide (z.1∈zs)=false:=by rw [←HR];exact B1.mpr h1
   rw [h2,y8] at k;exact k
 ·intro z hz Hc R sc k
  exact ⟨_,rfl,_,rfl,by show 2≤sizeLine;decide,fun tp jv=>k tp _ (aS jv) ax⟩
 ·intro D us Hc nD sc hL eD
  rw [qD] at hL;exact kk _ _ ⟨sc,nD,us,eD,hL⟩
theorem adz:ck ["shape","places"] ["shape","places"] (bC Ek):=cT
theorem adA(T:Txt K mg t):bL P w K mg base cQ 3 t.uK t.xP ["shape","places"] (Yf K):=by
 have S:=adz;refine T.yr.eE S (fun _ _ _ _ H _ Q _ hr h=>?_);obtain ⟨tp,a,n,L,zs,rfl,ao⟩:=h;have eC:=ao.1;have bV:=ao.2.1;have pw:=ao.2.2.1;have n1:=ao.2.2.2.1;have l2:=ao.2.2.2.2.1;have ea:=ao.2.2.2.2.2.1;have RG:=ao.2.2.2.2.2.2.1;have bz:=ao.2.2.2.2.2.2.2.1;have k:=ao.2.2.2.2.2.2.2.2;clear ao;have iY:=hr.units
 refine ⟨_,(aE (dF (PW.pt (pw_or (dv zW (dg jG rfl T.iy iE (aj (pv 1) aq)) aN) (pw_or1 (dv n4 (dg XT rfl T.iy iE (aj (iK (XS (K:=K) rfl) rfl T.Qp boot_set (aj (pv 1) aq)) aq)) (dg jG rfl T.iy iE (aj (pv 1) aq)))))) (aI (bK hU)) dP)
  (aE (dF (zR (sV (dg (MC (K:=K) rfl) rfl T.Je boot_all (aj (jb (N:=["place","shape"]) (ρ:=(fun σ=>[σ[0]?.join])) (fY [0] rfl) rfl (fW (pv 1)) (fun _ _ _=>.nil) (fun _ _ _=>(a_ (abd T) hr T.Pq T.yd.kp T.Pp bZ (aj (pv 0) (aj (bj (VE (K:=K)) (pv 1) aN) aq))))) aq)))) (aI (bK hU)) dP)
  (aI (bK (pF (XX iY) (dg Hl rfl T.oF oX (aj (a_ (adw T) hr T.PX T.yp.kp T.PV bZ (aj (pv 1) aq)) aq)) (a_ (ady T) hr T.PZ T.yq.kp T.PY bZ (aj (pv 0) (aj (pv 1) aq)))))))),?_⟩
 have no:∀H',ak H H'→¬iV L zs→Q (.bl false) H':=fun H' s' h=>by have:=k H' s';rw [bO h] at this;exact this
 refine dB ?_;refine ⟨_,rfl,a,_,rfl,.inl ea,_,_,rfl,rfl,_,rfl,dS (fun h4=>?_) (fun h4=>?_)⟩
 ·have J3:((zs.map V.int).length:Int)<4:=fB h4
  rw [aD] at J3;exact no _ (ak.refl _) fun h=>by have:=h.1;lia
 ·have J3:¬((zs.map V.int).length:Int)<4:=fun e=>h4 (bA e)
  rw [aD] at J3;refine ⟨_,rfl,a,zs,rfl,ea,by lia,fun l S m nl Rw RH=>?_⟩
  have s1:ak H (upd H l (.set S m)):=aS nl;refine ⟨l,S,m,rfl,ax,by lia,?_⟩
  generalize upd H l (.set S m)=H1 at s1 ⊢;refine ⟨_,rfl,a,_,rfl,.inl (s1.seq ea),rfl,_,rfl,dS (fun hn=>?_) (fun hn=>?_)⟩
  ·refine no _ s1 fun h=>?_
   rw [wG,aD,bA (by rw [RH.mpr h.2.1])] at hn
   cases hn
  ·have nd:zs.Nodup:=RH.mp (by
    by_cases e:m=zs.length;·exact e
    ·exfalso
     rw [wG,aD,bO (by lia)] at hn
     exact hn rfl)
   dsimp only [i6];unfold F6 tB;obtain ⟨lt,us,jW⟩:=id eC;have d6:=jW.1;have elt:=jW.2.1;have hL:=jW.2.2;clear jW;refine dB (q_ (MK (xs:=zs.map V.int) (fun R h=>⟨_,rfl,a,rfl,⟨_,s1.seq ea⟩,h _ _ (ak.refl _) (ko (s1.seq ea))⟩) (by rw [aD];exact dA (by lia)) (fun _ i y _=>y=.bl (decide (0≤zs.getD i 0∧zs.getD i 0<(n:Int)))) (fun _ _ _ _ _ _ h _ _=>h) ?_ ?_))
   ·intro D i v hi Hc R sc _ kc
    rw [bo] at hi;obtain ⟨z,ez,rfl⟩:=FK.mp hi;have e0:zs.getD i 0=z:=by rw [cg,ez];rfl
    exact ⟨_,rfl,_,rfl,tp,_,_,_,rfl,rfl,.of (s1.trans sc _ _ d6),rfl,z,n,rfl,kc _ Hc (ak.refl _) (by rw [e0])⟩
   ·intro D ys Hc sc ng hP eD
    have ey:ys=(zs.map fun z=>decide (0≤z∧z<(n:Int))).map V.bl:=by
     refine fT (by simpa using ng) fun i h1 h2=>?_
     have hi:i<zs.length:=by simpa using h2
     rw [hP i ys[i] (by simp),e_,e_,show zs.getD i 0=zs[i] by simp [cg,hi]]
    have s2:=s1.trans sc;refine ⟨D,_,rfl,.of (by rw [eD,ey]),?_⟩
    refine ⟨_,rfl,dS (fun hb=>?_) (fun hb=>?_)⟩
    ·refine no _ s2 fun h=>?_
     have h2:=h.X_ bV;rw [show ((zs.map fun z=>decide (0≤z∧z<(n:Int))).all id)=true by rw [List.all_map,oU];intro z hz;exact bA (h2 z hz)] at hb
     cases hb
    ·dsimp only [i6]
     refine ⟨_,rfl,a,zs,rfl,s2.seq ea,by lia,RG,fun H2 l ⟨s3,nl,us2,el,hR⟩=>?_⟩
     dsimp only [zX];refine NW el hR (by rw [X7];lia) (NX nd (by lia) bz) fun l' ws N H3 s4 pW tQ hN pN oN=>?_
     have s5:=(s2.trans s3).trans s4;refine ⟨_,rfl,_,rfl,tp,a,n,L,zs,rfl,eC.mono s5,l2,s5.seq ea,fun H4 l4 ⟨s6,nl4,J4,yP,hA⟩=>?_⟩;refine ⟨l',l4,ws,J4,N,_,rfl,rfl,.of (s6 _ _ tQ),.of yP,hN.mono s6,hA,?_⟩;rw [Yb pN oN (Ye pw) (NX nd (by lia) bz) (Yd bV n1),show decide ((iU zs).Perm (pV L zs))=decide (iV L zs) from vO.mpr ⟨fun h=>⟨by lia,nd,h⟩,fun h=>h.2.2⟩]
     exact k _ (s5.trans s6)
theorem adB:ck ["shape","linked","count","i","j"] ["shape"] (bC DY):=cT
theorem RI(T:Txt K mg t):bL P w K mg base cQ 2 t.uj t.xu ["shape"] YI:=by
 have S:=adB;refine T.u7.eE S (fun _ _ _ _ H _ Q _ hr h=>?_);obtain ⟨tp,n,L,rfl,ao⟩:=h;have eC:=ao.1;have nd:=ao.2.1;have lt:=ao.2.2.1;have Rr:=ao.2.2.2.1;have l5:=ao.2.2.2.2.1;have kk:=ao.2.2.2.2.2;clear ao;have hu:=i4 (md (show 1≤64 by decide) _) hr.units
 have bV:dD n L:=fun p hp=>by have:=lt p hp;exact ⟨this.1,by lia,by lia,this.2.2⟩
 refine ⟨_,(aE (CT 1 S.nd (a_ (Bz T) hr T.yf T.oE.kp T.ye bZ (aj (pv 0) aq)))
  (aE (putL 2 S.nd aN)
  (aE (fi eQ rfl (Cy (bj eV (pv 0) aN)) (pj rfl (gR (df (i:=3) S.nd rfl (Or.inl rfl)) (gR (df (i:=4) S.nd rfl (Or.inr rfl)) ph)))
   (aI (S7 (i:=2) S.nd rfl (Or.inl rfl) (dg jG rfl T.iy iE (aj (jb (N:=["k","j","linked"]) (ρ:=(fun σ=>[σ[4]?.join,σ[1]?.join])) (fY [4,1] rfl) rfl (tR (bj dR (pv 1) (pv 3))) (fun _ _ _=>(.one (PW.pt (pw_and (dv pE (pv 0) (pv 1)) (pw_and1 (zP (WY hu (pv 0) (bj (q8 (K:=K)) (pv 2) (pv 1))) rfl)))))) (fun _ _ _=>(pv 0))) aq)) LI)))
  (aI (bK (pv 2)))))),?_⟩
 refine cR fun _ jw=>⟨_,rfl,tp,n,L,rfl,eC,bV,by lia,fun H1 D ds f s1 nD oG KL nb=>?_⟩
 obtain ⟨lk,us,eB⟩:=id eC;have d6:=eB.1;have elt:=eB.2.1;have hL:=eB.2.2;clear eB;dsimp only [a7];refine jw _ _ ?_;refine dB ⟨_,rfl,tp,_,_,_,rfl,rfl,.of (s1 _ _ d6),rfl,lk,rfl,⟨_,.of (s1 _ _ elt)⟩,?_⟩;refine Ge (K:=K) (a:=lk) (xs:=us) (fun k σ Hc=>∃(v3 v4:Option V),σ=[some (.ref tp),some (.ref D),some (.int (((L.take k).map (Dw n L)).sum:Nat)),v3,v4]∧ak H Hc∧en Hc D n ds f) ⟨_,_,rfl,s1,KL.fr⟩ (fun k σ Hc _ ⟨_,_,_,sc,_⟩=>.of (sc _ _ elt)) ?_ ?_
 ·rintro k x σ Hc hx ⟨v3,v4,rfl,sc,KF⟩
  have hk:k<L.length:=by rw [←hL.1];exact (bJ.mp hx).1
  obtain ⟨b,rfl,eb⟩:=hL.2 k x L[k] hx (by simp [hk])
  have pk:=lt L[k] (cB hk);have tk:L.take (k+1)=L.take k++[L[k]]:=by rw [nN,bP hk];rfl
  generalize L[k]=p at eb pk tk;obtain ⟨p1,p2⟩:=p;dsimp only at pk eb;obtain ⟨i,rfl⟩:=gq pk.1;obtain ⟨j,rfl⟩:=gq (show 0≤p2 by lia)
  have hi:i<n:=by lia
  have hj:j<n:=by lia
  refine ⟨b,_,rfl,.of (sc _ _ eb),rfl,_,_,rfl,_,_,rfl,rfl,?_⟩;refine ⟨_,rfl,q_ (AX (Ds (a:=ds i) (kvs:=dk (f i)) (fun Q q=>⟨_,rfl,_,rfl,D,_,_,_,rfl,rfl,.of KF.lst,mU hi,q⟩) (KF.at' i hi) fun ob Hf gm off=>?_))⟩;have sf:ak H Hf:=fun b u e=>off b u (fun z=>by rw [z,oG i hi] at e;cases e) (sc _ _ e)
  have Fs:en Hf D n ds f:=⟨off D _ (fun z=>KL.ne i hi z.symm) KF.lst,fun i' ba=>by
   by_cases e:i'=i
   ·subst e
    exact .inr ⟨ob,gm⟩
   ·rcases KF.at' i' ba with h | ⟨mZ,h⟩
    ·exact .inl (off _ _ (fun z=>e (KL.inj i' i ba hi z)) h)
    ·exact .inr ⟨mZ,off _ _ (fun z=>e (KL.inj i' i ba hi z)) h⟩⟩
  refine Dq gm (fun q=>decide (j<q) && decide (q∈f j)) (dA (by have:=aaz (KL.pl i hi);lia)) ?_ (fun q hq Hd R h=>⟨_,rfl,h⟩) ?_
  ·intro q hq Hd R sd kR
   refine ⟨_,rfl,_,rfl,_,_,rfl,rfl,_,rfl,dS (fun hc=>?_) (fun hc=>?_)⟩
   ·have hc:(j:Int)<(q:Int):=fB hc
    rw [bA (show j<q by lia),Bool.true_and] at kR
    have rd:Rd Hd (ds j) (.dK (dk (f j))):=by
     rcases Fs.at' j hj with h | ⟨mZ,h⟩;·exact .inl (sd _ _ h)
     ·exact .inr ⟨mZ,sd _ _ h⟩
    refine ⟨_,rfl,_,rfl,_,rfl,D,_,_,_,rfl,rfl,.of (sd _ _ Fs.lst),mU hj,ds j,_,rfl,.inl ⟨_,(Sum.inl (q:Int):Key),rd,rfl,rfl⟩,_,rfl,?_⟩;rw [HF];by_cases hm:q∈f j
    ·rw [bA hm] at kR
     rw [ae hm];exact kR
    ·rw [bO hm] at kR
     rw [aa hm];exact kR
   ·have hc:¬j<q:=fun z=>hc (bA (show (j:Int)<(q:Int) by lia))
    rw [bO hc,y8] at kR;exact kR
  ·intro D2 H2 vg s2 gN
   have s2H:ak H H2:=sf.trans s2;have KF3:en H2 D n ds f:=⟨s2 _ _ Fs.lst,fun i' ba=>(Fs.at' i' ba).imp (fun h=>s2 _ _ h) fun⟨mZ,h⟩=>⟨mZ,s2 _ _ h⟩⟩;refine ⟨D2,_,rfl,.inl (.of gN),_,_,rfl,rfl,some (.int (i:Int)),some (.int (j:Int)),?_,s2H,KF3⟩;have te:=YK (n:=n) (L:=L) (g:=fun a=>if a<n then f a else []) (fun a q ha=>by show q∈(if a<n then f a else [])↔_;rw [ae ha];exact nb a q ha) (fun a=>by split;exact (KL.pl a (by assumption)).1;exact l6) hi hj (fun q hq=>by rw [ae hi] at hq;exact (KL.pl i hi).2 q hq)
   rw [ae hi,ae hj,B_,aD] at te;rw [tk,eX,B4,List.map_singleton,List.sum_singleton,te,aD];have ef:(f i).filter (Oe j (f j) ∘ fun k:Nat=>V.int (k:Int))=(f i).filter fun q=>decide (j<q) && decide (q∈f j):=List.filter_congr fun q _=>by
    show (decide ((j:Int)<(q:Int)) && decide (((q:Nat):Int).toNat∈f j))=_;rw [cZ];by_cases z:j<q;·rw [bA z,bA (show (j:Int)<(q:Int) by lia)]
    ·rw [bO z,bO (show ¬(j:Int)<(q:Int) by lia)]
   rw [ef]
   push_cast
   rfl
 ·rintro σ Hc ⟨v3,v4,rfl,sc,KF⟩
  rw [hL.1,iD,show (L.map (Dw n L)).sum=pZ n L from YD nd lt];exact ⟨_,rfl,kk _ sc⟩
theorem adE:ck ["_law_shape","_law_other","_law_names","_law_one","_law_told"] ["_law_shape","_law_other","_law_names"] (bC EC):=cT
theorem adF(T:Txt K mg t)(hB:lO base mg):bL P w K mg base cQ 8 t.u4 t.yb ["_law_shape","_law_other","_law_names"] (aa3 132 nz):=by
 have S:=adE;have RJ:=acR (P:=P) (w:=w) (base:=base) T hB;refine T.yE.eE S (fun _ _ _ _ H _ _ _ hr h=>?_);obtain ⟨tp,tq,l,n,L,L',f,rfl,eC,adG,pw,m6,lt,lt',n7,RK,el,r,tab,kk⟩:=h;have iY:=hr.units;have hu:=hr.TF
 refine ⟨_,(aE (putL 3 S.nd (a_ RJ hr T.IW T.va.kp T.IV bZ (aj (pv 0) aq)))
  (aE (Aq (i0:=4) (N:=["_law_place","_law_names"]) (ρ:=(fun σ=>[σ[2]?.join])) (fY [2] rfl) rfl S.nd rfl (Or.inl rfl) (fW (bj eV (pv 3) aN)) (fun _ _ _=>.nil) (fun _ _ _=>(bj (q8 (K:=K)) (pv 1) (pv 0))))
  (aE (dF (dv n4 (bj eV (a_ RJ hr T.IW T.va.kp T.IV bZ (aj (pv 1) aq)) aN) (bj eV (pv 3) aN)) (aI (bK hU)) dP)
  (aE (dF (dv my (bj eV (pv 3) aN) zO) (aI (bK (a_ (QM T) hr T.IU T.u_.kp T.IT jH (aj (pv 1) (aj (pv 4) aq))))) dP)
  (aI (bK (a_ (adA T) hr T.P2 T.yr.kp T.P1 bZ (aj (pv 1) (aj (pv 4) aq))))))))),?_⟩
 have fJ:dD n L':=fun p hp=>by have:=lt' p hp;exact ⟨this.1,by lia,by lia,this.2.2⟩
 have yW:pY L':=fun p hp=>by have:=lt' p hp;lia
 obtain ⟨ps,eP⟩:=tab.at;have lT:l≠132:=fun z=>by rw [z,eP] at el;cases el
 refine cR fun R1 kG=>?_;have rest:∀(wd:String) (T1 D1:Addr) (o:List Nat) (H1:Hp),eO 132 H H1→dJ 132 nz jo H1→H1 T1=some (.tup [.str wd,.ref D1])→H1 D1=some (.lst (o.map fun k:Nat=>V.int (k:Int)))→(∀x∈o,x<n)→o.length≤n→(wd="order"∧o.Perm (List.range n)∧dz n L o L∨wd="ring"∧iV L (o.map iN)∧o.Nodup∧∀o:List Nat,o.Perm (List.range n)→¬dz n L o L)→R1 [some (.ref tp),some (.ref tq),some (.ref l),some (.ref T1),none] H1:=by
  intro wd T1 D1 o H1 s1 t1 eT eD ho lo hw;refine kG _ _ ?_;refine cR fun R2 nC=>pJ (Bu (l:=l) (n:=n) (f:=f) (o:=o) (fun R h=>?_) rfl (s1 _ _ lT el) ho (by lia) fun D2 H2 vg s2 gN=>?_)
  ·exact ⟨_,rfl,T1,_,_,_,rfl,rfl,.of eT,rfl,D1,rfl,⟨_,.of eD⟩,h _ _ (ak.refl _) (ko (.of eD))⟩
  dsimp only [a7];refine nC _ _ ?_;have t2:=t1.mono s2;obtain ⟨p1,RL⟩:=t2.at;have ne:∀{b:Addr} {xs:List V},(H2 b=some (.lst xs)∨H2 b=some (.tup xs))→b≠132:=fun{b xs} e z=>by rw [z,RL] at e;rcases e with e | e <;> cases e
  have yX:cJ H2 tq n L':=(Be adG eP s1).mono s2;have lW:eO 132 H H2:=fun b o nb e=>s2 b o (s1 b o nb e);refine cR fun R3 qf=>?_;have fin:∀(H3:Hp),eO 132 H2 H3→dJ 132 nz jo H3→R3 [some (.ref tp),some (.ref tq),some (.ref l),some (.ref T1),some (.ref D2)] H3:=by
   intro H3 s3 t3;refine qf _ _ ?_;have RM:=s3 _ _ (ne (.inr (s2 _ _ eT))) (s2 _ _ eT);have rZ:H3 D2=some (.lst (((o.map f).map iN).map V.int)):=by rw [s3 _ _ (ne (.inl gN)) gN];simp only [cM];rfl
   have RN:=Be yX RL s3;have BK:eO 132 H H3:=fun b o nb e=>s3 b o nb (lW b o nb e);rcases hw with ⟨rfl,po,fo⟩ | ⟨rfl,bare,nd,_⟩
   ·refine dB ⟨_,rfl,T1,_,_,_,rfl,rfl,.of RM,rfl,rfl,true,rfl,wx ?_⟩
    have yY:=r.perm po;refine ⟨_,rfl,_,rfl,tq,D2,n,L',(o.map f).map iN,rfl,RN,fJ,yW,by lia,rZ,by rw [aD,yY.length_eq,c_];lia,fun no=>absurd (yY.map iN) no,fun o2 e2 i_ H6 M2 s6 f2=>?_⟩
    have AI:=rK e2;subst AI;have eM:=dz.uniq f2 (r.fill r po fo m6 lt');rw [bA eM];exact kk _ (fun b o nb e=>s6 b o (BK b o nb e)) (t3.mono s6)
   ·refine dB ⟨_,rfl,T1,_,_,_,rfl,rfl,.of RM,rfl,rfl,false,rfl,ie ?_⟩
    dsimp only [i6];have adH:=r.bare lt m6 lt' bare nd ho;refine ⟨_,rfl,_,rfl,tq,D2,n,L',(o.map f).map iN,rfl,RN,fJ,m6,by lia,?_,.of rZ,by rw [aD,aD];lia,(fun z hz=>?_),fun H6 s6=>?_⟩
    ·exact RK
    ·obtain ⟨d,hd,rfl⟩:=bG.mp hz
     obtain ⟨x,hx,rfl⟩:=bG.mp hd;have:=r.lt x (ho x hx);unfold iN;lia
    rw [bA adH];exact kk _ (fun b o nb e=>s6 b o (BK b o nb e)) (t3.mono s6)
  have Ft:=s2 _ _ eT;refine ⟨_,rfl,tq,n,L',rfl,yX,m6,lt',by lia,t2,fun H4 T4 l3 o3 s4 t4 nT lU J5 qe BR J6=>?_,fun H4 T4 l3 zs s4 t4 nT lU J5 qe bare nd lt no=>?_⟩
  ·rcases hw with ⟨rfl,po,fo⟩ | ⟨rfl,bare,nd,no⟩
   ·refine ⟨T4,_,_,_,rfl,rfl,.of J5,rfl,_,rfl,T1,_,_,_,rfl,rfl,.of (s4 _ _ (ne (.inr Ft)) Ft),rfl,rfl,false,rfl,ie ?_⟩
    exact fin _ s4 t4
   ·exact absurd J6 (r.noFill pw lt no o3 BR)
  ·rcases hw with ⟨rfl,po,fo⟩ | ⟨rfl,bare,nd,_⟩
   ·exact absurd (r.fill r po fo m6 lt') (no _ (r.perm po))
   ·refine ⟨T4,_,_,_,rfl,rfl,.of J5,rfl,_,rfl,T1,_,_,_,rfl,rfl,.of (s4 _ _ (ne (.inr Ft)) Ft),rfl,rfl,false,rfl,ie ?_⟩
    exact fin _ s4 t4
 refine ⟨_,rfl,tp,n,L,rfl,eC,pw,lt,by lia,tab,fun H4 T4 l3 o3 s4 t4 nT lU eT qe BR J6=>?_,fun H4 T4 l3 zs s4 t4 nT lU eT qe bare nd rn no=>?_⟩
 ·exact rest _ T4 l3 o3 H4 s4 t4 eT qe (fun x hx=>aU.mp (BR.mem_iff.mp hx)) (by rw [BR.length_eq,c_];lia) (.inl ⟨rfl,BR,J6⟩)
 ·exact rest _ T4 l3 zs H4 s4 t4 eT qe rn (Bg nd rn) (.inr ⟨rfl,bare,nd,no⟩)
theorem adI:ck ["script","_law_pen","_law_k","_law_shape","_law_names","_law_other","_law_turn","_law_order","_law_anew","_law_full","_law_rows","_law_place","_law_row","_law_told","_law_part","_law_worth","_law_many"] ["script"] (bC ED):=cT
theorem adJ(T:Txt K mg t)(hB:lO base mg):bL P w K mg base cQ 10 t.rQ t.u5 ["script"] (DN K 132):=by
 have S:=adI;have adK:=adF (P:=P) (w:=w) (base:=base) T hB;refine T.yF.eE S (fun _ _ _ _ H _ _ _ hr h=>?_);obtain ⟨xg,a,ns,rfl,ao⟩:=h;have hS:=ao.1;have hlen:=ao.2.1;have kQ:=ao.2.2;clear ao;have iY:=hr.units;have hu:=i4 (md (show 1≤64 by decide) _) hr.units
 refine ⟨_,(aE (putL 1 S.nd (fD (aj (pv 0) (aj aN (aj aN aq)))))
  (aE (fi eQ rfl (qN rfl T.ju (aj aN aq)) (df (i:=2) S.nd rfl (Or.inl rfl))
   (aE (putL 3 S.nd (a_ (ado T) hr T.Qg T.yC.kp T.Qf bZ (aj (pv 1) (aj aN aq))))
  (aE (CT 4 S.nd (a_ (JV T) hr T.EL T.rU.kp T.EK bZ (aj (pv 1) (aj (iK (Ao rfl) rfl T.qd boot_list (aj (iK An rfl T.ju Ap (aj (bj eV (pv 3) aN) aq)) aq)) aq))))
  (aE (putL 5 S.nd (a_ (JW T) hr T.EN T.rV.kp T.EM bZ (aj (bj eV (pv 3) aN) (aj (bj eV (pv 3) aN) (aj (pv 4) aq)))))
  (aE (fi eQ rfl (qN rfl T.ju (aj aN aq)) (df (i:=6) S.nd rfl (Or.inl rfl))
   (aE (putL 7 S.nd (a_ (JV T) hr T.EL T.rU.kp T.EK bZ (aj (pv 1) (aj (iK (Ao rfl) rfl T.qd boot_list (aj (iK An rfl T.ju Ap (aj (bj eV (pv 3) aN) aq)) aq)) aq))))
  (aE (Aq (i0:=8) (N:=["_law_place","_law_names"]) (ρ:=(fun σ=>[σ[4]?.join])) (fY [4] rfl) rfl S.nd rfl (Or.inl rfl) (fW (pv 7)) (fun _ _ _=>.nil) (fun _ _ _=>(bj (q8 (K:=K)) (pv 1) (pv 0))))
  (aE (putL 9 S.nd (a_ (Jo T) hr T.EF T.rR.kp T.EE jH (aj (pv 3) (aj (pv 7) aq))))
  (aE (dF (dv (VY (n:=3) iY) (a_ (Jo T) hr T.EF T.rR.kp T.EE jH (aj (pv 5) (aj (pv 8) aq))) (a_ (JW T) hr T.EN T.rV.kp T.EM bZ (aj (bj eV (pv 9) aN) (aj (bj eV (pv 9) aN) (aj (pv 4) aq))))) (aI (bK hU)) dP)
  (aE (dF (dv n4 (a_ (Jr T) hr T.EH T.rS.kp T.EG jH (aj (pv 5) (aj (pv 8) aq))) (a_ (Jr T) hr T.EH T.rS.kp T.EG jH (aj (pv 3) (aj (pv 7) aq)))) (aI (bK hU)) dP)
  (aE (putL 10 S.nd (a_ (ES T) hr T.Bw T.qc.kp T.Bv jH (aj (pv 5) (aj (pv 8) aq))))
  (aI (fi eQ rfl (GS rfl T.EO (aj (a_ (ES T) hr T.Bw T.qc.kp T.Bv jH (aj (pv 3) (aj (pv 7) aq))) aq)) (pj rfl (gR (df (i:=11) S.nd rfl (Or.inl rfl)) (gR (df (i:=12) S.nd rfl (Or.inl rfl)) ph)))
   (aI (dF (dv (VT iY) (bj dR (pv 10) (bj dR (pv 4) (pv 11))) (dg Dm rfl T.oF oX (aj (jb (N:=["_law_one","_law_names"]) (ρ:=(fun σ=>[σ[4]?.join])) (fY [4] rfl) rfl (fW (pv 12)) (fun _ _ _=>.nil) (fun _ _ _=>(bj (q8 (K:=K)) (pv 1) (pv 0)))) aq))) (aI (bK hU)) dP)))))))))))
  (aE (dF (PW.pt (pw_or (dv n4 (a_ (RI T) hr T.IP T.u7.kp T.IM bZ (aj (pv 5) aq)) (a_ (RI T) hr T.IP T.u7.kp T.IM bZ (aj (pv 3) aq))) (pw_or1 (zR (sV (a_ adK hr T.Qi T.yE.kp T.Qh bZ (aj (pv 3) (aj (pv 5) (aj (pv 4) aq))))))))) (aI (bK hU)) dP)
  (aE (putL 13 S.nd (a_ (JG T) hr T.EJ T.rT.kp T.EI jH (aj (pv 5) aq)))
  (aE (fi eQ rfl (aaO (a_ (JG T) hr T.EJ T.rT.kp T.EI jH (aj (pv 3) aq))) (pj rfl (gR (df (i:=14) S.nd rfl (Or.inl rfl)) (gR (df (i:=15) S.nd rfl (Or.inl rfl)) ph)))
   (aI (dF (dv n4 (Dj hu (pv 13) (iK CI rfl T.By boot_tuple (aj (dg Dm rfl T.oF oX (aj (jb (N:=["_law_place","_law_names"]) (ρ:=(fun σ=>[σ[4]?.join])) (fY [4] rfl) rfl (Cy (pv 14)) (fun _ _ _=>.nil) (fun _ _ _=>(bj (q8 (K:=K)) (pv 1) (pv 0)))) aq)) aq)) (fun _ _=>rfl)) (pv 15)) (aI (bK hU)) dP)))
  (aE (@wb _ _ _ _ _ _ (a_ (Q3 T) hr T.Jd T.vf.kp T.Jc jH (aj (pv 3) aq)) (pj rfl (gR (df (i:=7) S.nd rfl (Or.inl rfl)) (gR (df (i:=16) S.nd rfl (Or.inl rfl)) ph))) (by rfl) (by rfl) (by rfl))
  (aE (dF (dv n4 (a_ (Jr T) hr T.EH T.rS.kp T.EG jH (aj (pv 5) (aj (jb (N:=["_law_place","_law_names"]) (ρ:=(fun σ=>[σ[4]?.join])) (fY [4] rfl) rfl (fW (pv 7)) (fun _ _ _=>.nil) (fun _ _ _=>(bj (q8 (K:=K)) (pv 1) (pv 0)))) aq))) (pv 16)) (aI (bK hU)) dP)
  (aI (dF (dv n4 (bj eV (a_ (Q3 T) hr T.Jd T.vf.kp T.Jc jH (aj (pv 5) aq)) aN) (pv 16)) (aI (bK hU)) dP))))))))))))
  (aI (bK hU)))),?_⟩
 refine ⟨_,rfl,by show 3≤sizeLine;decide,fun P0 nP=>?_⟩
 have p0:cV (upd H P0 (.lst [.ref a,.int 0,.int 0])) P0 a:=⟨0,0,ax,by decide,by decide⟩
 have A5:aZ K (er P0 (upd H P0 (.lst [.ref a,.int 0,.int 0]))) a (ns.map V.int):=by rw [MO];exact ak.seq (fun b o e=>CZ (gv e nP) e) hS
 have t0:dJ 132 nz jo (upd H P0 (.lst [.ref a,.int 0,.int 0])):=.inl (aS nP _ _ xg);generalize upd H P0 (.lst [.ref a,.int 0,.int 0])=H0 at p0 A5 t0 ⊢;dsimp only [a7];refine dB ⟨2,rfl,by decide,by decide,?_⟩
 refine tj (fun i σ Hc=>∃v:Nat→Option V,σ=[some (.ref a),some (.ref P0),v 2,v 3,v 4,v 5,v 6,v 7,v 8,v 9,v 10,v 11,v 12,v 13,v 14,v 15,v 16]∧cV Hc P0 a∧aZ K (er P0 Hc) a (ns.map V.int)∧dJ 132 nz jo Hc) ⟨fun _=>none,rfl,p0,A5,t0⟩ ?_ ?_
 ·rintro i σ Hc hi ⟨v,rfl,aG⟩
  have pc:=aG.1;have J7:=aG.2.1;have tc:=aG.2.2;clear aG;dsimp only [a7];refine cR fun _ kG=>⟨_,rfl,P0,a,ns,7,rfl,pc,J7,by decide,by decide,fun tp n L H2 s2 p2 jv tpP eC ok pw n1 n7=>?_⟩
  dsimp only [a7];refine kG _ _ ?_;have bV:dD n L:=fun p hp=>by have:=ok.lt p hp;exact ⟨this.1,by lia,by lia,this.2.2⟩
  have BJ:pY L:=fun p hp=>by have:=ok.lt p hp;lia
  have e8:L.length≤49:=b8 ok.e8 (b8 (Nat.div_le_self _ _) (vZ n7 n7));have BL:aZ K (er P0 H2) a (ns.map V.int):=ak.seq s2 J7;have t2:=tc.Iw pc s2;have Fu:∀{Hx:Hp},aW P0 H2 Hx→cJ Hx tp n L:=fun sx=>(eC.mono sx).mono Au;have lu:(dw n).length=n:=by unfold dw;simp
  obtain ⟨M7,us0,eB⟩:=id (Fu (aW.refl _));have adL:=eB.1;have aiA:=eB.2.1;have aiB:=eB.2.2;clear eB;refine cR fun _ nC=>⟨_,rfl,_,rfl,tp,_,_,_,rfl,rfl,.of adL,rfl,(n:Int),rfl,fun q1 rX=>⟨q1,n,rfl,ax,by lia,fun l nl=>?_⟩⟩
  have sl:ak H2 (upd (upd H2 q1 (.gu 0 (n:Int))) l (.lst (dw n))):=(aS rX).trans (aS nl);have el:upd (upd H2 q1 (.gu 0 (n:Int))) l (.lst (dw n)) l=some (.lst (dw n)):=ax;have lP:l≠P0:=p2.ne (none_of (aS rX) nl);generalize upd (upd H2 q1 (.gu 0 (n:Int))) l (.lst (dw n))=H3 at sl el ⊢;have s3:=aW.of (P:=P0) sl;have p3:=p2.mono sl;refine ⟨P0,a,l,ns,dw n,rfl,p3,ak.seq s3 BL,lP,el,by lia,fun r ys H4 s4 p4 nr rP yS pm=>?_⟩
  obtain ⟨nm,ly,hy,NO⟩:=Nh pm;have RO:ys=(List.range n).map fun k=>V.int (((nm k).toNat:Nat):Int):=by
   refine fT (by rw [aD,c_,ly]) fun k h1 h2=>?_
   have hk:k<n:=by lia
   have:=hy k hk;rw [bP h1] at this;rw [Option.some.inj this,e_,nM,sL (NO.lt k hk).1]
  have RP:=s3.trans s4;have sh4:=Fu RP;dsimp only [a7];refine nC _ _ ?_;obtain ⟨lt4,J4,jW⟩:=id sh4;have RQ:=jW.1;have adO:=jW.2.1;have adP:=jW.2.2;clear jW;refine cR fun _ qf=>⟨_,rfl,tp,_,_,_,rfl,rfl,.of RQ,rfl,_,rfl,tp,_,_,_,rfl,rfl,.of RQ,rfl,_,rfl,lt4,r,n,J4,ys,L,nm,rfl,.inr adO,adP,ok,by lia,yS,ly,hy,NO,fun tq L' H5 s5 yM RR kK m6 vp=>?_⟩
  have rel:cK n L L' (fun k=>(nm k).toNat):=cK.named ok NO vp;have p5:=p4.mono s5;have BS:H5 r=some (.lst ((List.range n).map fun k=>V.int (((nm k).toNat:Nat):Int))):=by rw [s5 _ _ yS,RO]
  have Fv:=RP.trans (aW.of s5);have t5:=t2.Iw p2 Fv;have RS:aZ K (er P0 H5) a (ns.map V.int):=ak.seq Fv BL;have aiC:=Fu Fv;have tqP:tq≠P0:=p4.ne yM;have fJ:dD n L':=fun p hp=>by have:=kK.lt p hp;exact ⟨this.1,by lia,by lia,this.2.2⟩
  have yW:pY L':=fun p hp=>by have:=kK.lt p hp;lia
  have RK:L'.length≤49:=b8 kK.e8 (b8 (Nat.div_le_self _ _) (vZ n7 n7));have aiE:cJ H5 tq n L':=RR;have RT:∀{Hx:Hp},aW P0 H5 Hx→cJ Hx tq n L':=fun sx=>(RR.er p5).mono sx |>.mono Au;have J8:∀{Hx:Hp},aW P0 H5 Hx→cJ Hx tp n L:=fun sx=>Fu (Fv.trans sx);have RU:∀{M J9:ar},gX n M→J9.Perm (M.map (f_ nm))→cK n M J9 (fun k=>(nm k).toNat):=fun qk pmM=>cK.named qk NO pmM;generalize hf:(fun k=>(nm k).toNat)=f at rel RU;have BS:H5 r=some (.lst ((List.range n).map fun k=>V.int (f k:Int))):=by rw [BS,←hf]
  dsimp only [a7];refine qf _ _ ?_;refine cR fun _ Jv=>⟨3,rfl,by decide,by decide,?_⟩
  have vz:∀{o:List Nat},o.Perm (List.range n)→(o.map iN).length<64:=fun{o} ho=>by rw [aD,ho.length_eq,c_];lia
  refine tj (fun j σ Hd=>∃v:Nat→Option V,σ=[some (.ref a),some (.ref P0),some (.int (0+(i:Int))),some (.ref tp),some (.ref r),some (.ref tq),v 6,v 7,v 8,v 9,v 10,v 11,v 12,v 13,v 14,v 15,v 16]∧aW P0 H5 Hd∧cV Hd P0 a) ⟨v,rfl,aW.refl _,p5⟩ ?_ ?_
  ·rintro j σ Hd hj ⟨v,rfl,sd,pd⟩
   obtain ⟨lt,us,Fw⟩:=id (J8 sd);have d6:=Fw.1;have elt:=Fw.2.1;have mF:=Fw.2.2;clear Fw;dsimp only [a7];refine cR fun _ BA=>⟨_,rfl,_,rfl,tp,_,_,_,rfl,rfl,.of d6,rfl,(n:Int),rfl,fun q1 rX=>⟨q1,n,rfl,ax,by lia,fun l nl=>?_⟩⟩
   have sl:ak Hd (upd (upd Hd q1 (.gu 0 (n:Int))) l (.lst (dw n))):=(aS rX).trans (aS nl);have el:upd (upd Hd q1 (.gu 0 (n:Int))) l (.lst (dw n)) l=some (.lst (dw n)):=ax;have lP:l≠P0:=pd.ne (none_of (aS rX) nl);generalize upd (upd Hd q1 (.gu 0 (n:Int))) l (.lst (dw n))=He at sl el ⊢;have se:=sd.trans (aW.of sl);have pe:=pd.mono sl;refine ⟨P0,a,l,ns,dw n,rfl,pe,ak.seq se RS,lP,el,by lia,fun ro ys2 Hf sf pf nro roP J_ pmo=>?_⟩
   obtain ⟨o,rfl,ho⟩:=XF pmo;have RV:=se.trans sf;have gQ:=rel.perm ho;dsimp only [a7];refine BA _ _ ?_;refine cR fun _ Ka=>pJ (Bu (l:=r) (n:=n) (f:=f) (o:=o) (fun R h=>⟨_,rfl,ro,rfl,⟨_,.of J_⟩,h _ _ (ak.refl _) (ko (.of J_))⟩) rfl (RV.at rP BS) (fun x hx=>aU.mp (ho.mem_iff.mp hx)) (by rw [ho.length_eq,c_];lia) fun Da Hg nDa sg eDa=>?_)
   dsimp only [a7];refine Ka _ _ ?_;have sG:=RV.trans (aW.of sg);have Kb:∀{Hx:Hp},ak Hg Hx→Hx ro=some (.lst ((o.map iN).map V.int)):=fun sx=>by rw [sx _ _ (sg _ _ J_),cM];rfl
   have Ki:∀{Hx:Hp},ak Hg Hx→Hx Da=some (.lst (((o.map f).map iN).map V.int)):=fun sx=>by rw [sx _ _ eDa];simp only [cM];rfl
   have Kj:∀{Hx:Hp},ak Hg Hx→cJ Hx tp n L:=fun sx=>(J8 sG).mono sx;have Kk:∀{Hx:Hp},ak Hg Hx→cJ Hx tq n L':=fun sx=>(RT sG).mono sx;have Kl:∀{Hx:Hp},ak Hg Hx→Hx r=some (.lst ((List.range n).map fun k=>V.int (f k:Int))):=fun sx=>sx _ _ (sG.at rP BS);refine cR fun _ Km=>⟨_,rfl,_,rfl,tp,ro,n,L,o.map iN,rfl,Kj (ak.refl _),bV,BJ,by lia,Kb (ak.refl _),vz ho,fun no=>absurd (ho.map iN) no,fun o2 e2 i_ H7 tf M s7 ntf sh7 fM lM=>?_⟩
   have AI:=rK e2;subst AI;dsimp only [a7];refine Km _ _ ?_;have qk:gX n M:=aa5 fM;refine cR fun _ Kn=>⟨_,rfl,_,rfl,tq,Da,n,L',(o2.map f).map iN,rfl,Kk s7,fJ,yW,by lia,Ki s7,vz gQ,fun no=>absurd (gQ.map iN) no,fun o3 e3 ho3 H8 tg N s8 ntg sh8 fN lN=>?_⟩
   have e3':=rK e3;subst e3';have RW:=s7.trans s8;obtain ⟨ltf,usf,Fx⟩:=id (sh7.mono s8);have RX:=Fx.1;have adY:=Fx.2.1;have adZ:=Fx.2.2;clear Fx;refine ⟨_,rfl,tf,_,_,_,rfl,rfl,.of RX,rfl,_,rfl,tf,_,_,_,rfl,rfl,.of RX,rfl,_,rfl,ltf,r,n,usf,ys,M,nm,rfl,.inr adY,adZ,qk,by lia,by rw [Kl RW,RO,←hf],ly,hy,NO,fun tm J9 H9 s9 ntm sh9 ad1 ad2 RY=>?_⟩
   have RZ:=RU qk RY;have BU:=rel.fill RZ ho fM ad2 ad1.lt;have eN:=dz.uniq fN BU;subst eN;have Ko:=RW.trans s9;refine ⟨Hr n N,WK n N,Nn (sh8.mono s9),Nn sh9,false,rfl,ie ?_⟩;dsimp only [i6];refine Kn _ _ ?_;have Kp:mW n N=mW n M:=RZ.due (by rw [RY.length_eq,aD])
   refine cR fun _ Kq=>⟨_,rfl,_,rfl,tq,Da,n,L',(o2.map f).map iN,rfl,Kk Ko,fJ,yW,by lia,Ki Ko,vz gQ,fun no=>absurd (gQ.map iN) no,fun o4 e4 ho4 Fy Kr d hd=>?_⟩
   have Ks:=rK e4;have ed:=hd N (Ks▸BU);subst ed;have Kt:=Ko.trans Kr;refine ⟨_,rfl,_,rfl,tp,ro,n,L,o2.map iN,rfl,Kj Kt,bV,BJ,by lia,Kb Kt,vz ho,fun no=>absurd (ho.map iN) no,fun o5 e5 ho5 H11 Ku d2 hd2=>?_⟩
   have e5':=rK e5;have ed2:=hd2 M (e5'▸fM);subst ed2;refine ⟨rfl,false,by rw [Kp,bA rfl];rfl,ie ?_⟩
   have Kv:=Kt.trans Ku;dsimp only [i6];refine Kq _ _ ?_;refine cR fun _ ad7=>⟨_,rfl,_,rfl,tq,Da,n,L',(o2.map f).map iN,rfl,Kk Kv,fJ,yW,by lia,Ki Kv,vz gQ,fun no=>absurd (gQ.map iN) no,fun o6 e6 ho6 H12 R0 Kw Kx kF aiP aiQ R4 Ky=>?_⟩
   have e6':=rK e6;rw [e6'] at Ky;have Kz:=Kv.trans kF;dsimp only [a7];refine ad7 _ _ ?_;refine ⟨_,rfl,_,rfl,tp,ro,n,L,o2.map iN,rfl,Kj Kz,bV,BJ,by lia,Kb Kz,vz ho,fun no=>absurd (ho.map iN) no,fun o7 e7 ho7 R5 R6 vB KA gh aiS aiT Fz R7=>?_⟩
   have e7':=rK e7;rw [e7'] at R7;have KC:=Kz.trans gh;refine ⟨R6,rfl,⟨_,.of Fz.1⟩,?_⟩;refine GU (K:=K) (l:=R6) (xs:=(List.range n).map fun p=>V.ref (vB p)) (fun k σ Hx=>∃(v11 KD:Option V),σ=[some (.ref a),some (.ref P0),some (.int (0+(i:Int))),some (.ref tp),some (.ref r),some (.ref tq),some (.int (0+(j:Int))),some (.ref ro),some (.ref Da),some (.ref tf),some (.ref R0),v11,KD,v 13,v 14,v 15,v 16]∧ak R5 Hx) ⟨_,_,rfl,ak.refl _⟩ (fun k σ Hx ⟨_,_,_,sx⟩=>.of (sx _ _ Fz.1)) ?_ ?_
   ·rintro k x σ Hx T hx ⟨v11,KD,rfl,sx⟩ nT
    have hk:k<n:=by have:=(bJ.mp hx).1;rw [aD,c_] at this;exact this
    have ex:x=.ref (vB k):=by rw [bo,jy hk] at hx;exact (Option.some.inj hx).symm
    subst ex;have st:ak Hx (upd Hx T (.tup [.int (k:Int),.ref (vB k)])):=aS nT;have eT:upd Hx T (.tup [.int (k:Int),.ref (vB k)]) T=some (.tup [.int (k:Int),.ref (vB k)]):=ax;generalize upd Hx T (.tup [.int (k:Int),.ref (vB k)])=Hy at st eT ⊢;have oK:=sx.trans st;refine ⟨T,_,rfl,.of eT,rfl,_,_,rfl,_,_,rfl,rfl,?_⟩;have lr:=R7 k hk;have fk:=rel.lt k hk;refine ⟨_,rfl,_,rfl,_,rfl,r,_,_,_,rfl,rfl,.of (Kl (KC.trans oK)),n_ (by rw [bo,jy hk];rfl),R0,_,_,.ref (Kw (f k)),rfl,rfl,.of (oK _ _ (gh _ _ R4.1)),n_ (by rw [bo,jy fk];rfl),?_⟩
    have lg:(KA k).length≤n:=Bg (lr.1.up.imp fun z e=>by lia) lr.1.lt
    dsimp only;refine q_ (Bu (l:=r) (n:=n) (f:=f) (o:=KA k) (fun R h=>⟨_,rfl,vB k,rfl,⟨_,.of (oK _ _ (Fz.2 k hk))⟩,h _ _ (ak.refl _) (ko (.of (oK _ _ (Fz.2 k hk))))⟩) rfl (Kl (KC.trans oK)) lr.1.lt (by lia) fun Dc Hz R8 sz lY=>?_)
    refine ⟨Dc,((KA k).map f).map iN,rfl,by rw [lY];simp only [cM];rfl,by rw [aD,aD];lia,fun ws D2 kB KG n2=>?_⟩
    have R9:=sz.trans (aS (o:=.lst (ws.map V.int)) n2);have yK:=rel.aaY ho hk lr (Ky (f k) fk);have vt:ws=(Kx (f k)).map iN:=aaZ (kB.trans (yK.symm.map iN)) KG (Ky (f k) fk).1.up;have eR:Hx (Kw (f k))=some (.lst (((Kx (f k)).map iN).map V.int)):=by rw [sx _ _ (gh _ _ (R4.2 (f k) fk)),cM];rfl
    refine ⟨Kw (f k),D2,(Kx (f k)).map iN,ws,rfl,rfl,.of ((st.trans R9) _ _ eR),.of ax,false,by rw [vt,bA rfl];rfl,ie ?_⟩
    exact ⟨_,_,rfl,oK.trans R9⟩
   ·rintro σ Hx ⟨v11,KD,rfl,sx⟩
    have R_:=KC.trans sx;exact ⟨fun k=>List.getD [none,none,none,none,none,none,_,_,_,_,_,_,_,_,_,_,_] k none,rfl,sG.trans (aW.of R_),(pf.mono sg).mono R_⟩
  ·rintro σ Hd ⟨v,rfl,sd,pd⟩
   refine Jv _ _ ?_;have td:=t5.Iw p5 sd;have KH:=J8 sd;have yX:=RT sd;have FA:=sd.at rP BS;refine cR fun _ BA=>⟨_,rfl,tq,n,L',rfl,yX,kK.nd,kK.lt,by lia,by lia,fun H6 s6=>?_⟩
   refine ⟨_,rfl,tp,n,L,rfl,KH.mono s6,ok.nd,ok.lt,by lia,by lia,fun H7 s7=>?_⟩
   have lZ:=s6.trans s7;refine ⟨rfl,false,by rw [rel.Ph,bA rfl];rfl,ie ?_⟩
   refine ⟨_,rfl,_,rfl,_,rfl,tp,tq,r,n,L,L',f,rfl,KH.mono lZ,yX.mono lZ,pw,m6,ok.lt,kK.lt,by lia,by lia,lZ _ _ FA,rel,td.mono lZ,fun H8 s8 t8=>?_⟩
   refine ⟨true,rfl,ie ?_⟩;dsimp only [i6];refine BA _ _ ?_;have Sa:=td.mono lZ;obtain ⟨p7,BV⟩:=Sa.at;have Sb:P0≠132:=Sa.neP (pd.mono lZ);have p8:=s8.k_ Sb (pd.mono lZ);have Se:cJ H8 tp n L:=Be (KH.mono lZ) BV s8;have KI:cJ H8 tq n L':=Be (yX.mono lZ) BV s8;have Sf:H8 r=some (.lst ((List.range n).map fun k=>V.int (f k:Int))):=s8 _ _ (fun z=>by rw [z] at FA;rw [lZ _ _ FA] at BV;cases BV) (lZ _ _ FA)
   have hS8:aZ K (er P0 H8) a (ns.map V.int):=aZ.st (ak.seq (sd.trans (aW.of lZ)) RS) (CZ (Ne.symm Sb) BV) s8.er;refine cR fun _ Ka=>⟨_,rfl,tq,n,L',rfl,KI,fJ,by lia,fun H9 D9 qs9 s9 nD9 eD9 pq9=>?_⟩
   dsimp only [a7];refine Ka _ _ ?_;refine cR fun _ Km=>⟨_,rfl,tp,n,L,rfl,Se.mono s9,bV,by lia,fun Fy yZ y4 Kr aed aee aef=>?_⟩
   refine ⟨yZ,_,rfl,aee,fun ob=>?_⟩;have k9:ak H9 (upd Fy yZ (.bg ob (.dT (wD (wW n L) y4)))):=fun b o e=>by rw [aH (gv e aed)];exact Kr _ _ e
   have Sg:upd Fy yZ (.bg ob (.dT (wD (wW n L) y4))) yZ=some (.bg ob (.dT (wD (wW n L) y4))):=ax;generalize upd Fy yZ (.bg ob (.dT (wD (wW n L) y4)))=Hz at k9 Sg ⊢;have Sh:=s9.trans k9;refine aaP (a:=yZ) (ob:=ob) (kvs:=wD (wW n L) y4) (fun k σ Hx=>∃(KJ KN:Option V),σ=[some (.ref a),some (.ref P0),some (.int (0+(i:Int))),some (.ref tp),some (.ref r),some (.ref tq),v 6,v 7,v 8,v 9,v 10,v 11,v 12,some (.ref D9),KJ,KN,v 16]∧ak Hz Hx) ⟨_,_,rfl,ak.refl _⟩ (fun k σ Hx _ ⟨_,_,_,sx⟩=>sx _ _ Sg) ?_ ?_
   ·rintro k kv σ Hx T bk y6 ⟨KJ,KN,rfl,sx⟩ nT FC
    obtain ⟨q,hq,rfl⟩:∃q,q∈b7 n∧kv=(fS q,.int (wW n L q)):=by
     unfold wD at y6;rw [bo] at y6;cases e:y4[k]? with
     | none=>rw [e] at y6;cases y6
     | some q=>rw [e] at y6;exact ⟨q,aef.mem_iff.mp (j4 e),(Option.some.inj y6).symm⟩
    dsimp only at FC ⊢;rw [Pn] at FC;have st:ak Hx (upd Hx T (.tup [.ref bk,.int (wW n L q)])):=aS nT;have eT:upd Hx T (.tup [.ref bk,.int (wW n L q)]) T=some (.tup [.ref bk,.int (wW n L q)]):=ax;generalize upd Hx T (.tup [.ref bk,.int (wW n L q)])=Hy at st eT ⊢;have oK:=sx.trans st;have s8y:=Sh.trans oK;refine ⟨T,_,rfl,.of eT,rfl,_,_,rfl,_,_,rfl,rfl,?_⟩;refine ⟨_,rfl,?_⟩;dsimp only;have mJ:=eL.mp hq;have lq:=Pl hq;refine q_ (q_ (Bu (l:=r) (n:=n) (f:=f) (o:=q) (fun R h=>⟨_,rfl,bk,rfl,⟨_,.of (st _ _ FC)⟩,h _ _ (ak.refl _) (aa8 (st _ _ FC))⟩) rfl (s8y _ _ Sf) mJ.2 (by lia) fun Dc Hw R8 sw lY=>?_))
    refine ⟨Dc,(q.map f).map iN,rfl,by rw [lY];simp only [cM];rfl,by rw [aD,aD];lia,fun ws D2 kB KG n2=>?_⟩
    obtain ⟨S',rfl,iX,ft⟩:=aa7 rel.lt rel.inj hq kB KG;refine ⟨D2,_,rfl,.inl ⟨.of ax,fun KO aeh=>?_⟩⟩;have KP:=(sw.trans (aS (o:=.lst ((S'.map iN).map V.int)) n2)).trans (aS (o:=.tup ((S'.map iN).map V.int)) aeh);have Si:upd (upd Hw D2 (.lst ((S'.map iN).map V.int))) KO (.tup ((S'.map iN).map V.int)) KO=some (.tup ((fS S').map kV)):=by rw [ax,Pn,cM];rfl
    generalize upd (upd Hw D2 (.lst ((S'.map iN).map V.int))) KO (.tup ((S'.map iN).map V.int))=Hv at KP Si ⊢;have wEq:=rel.worth bV fJ _ q S' rfl hq iX ft;have aej:=(k9.trans (oK.trans KP)) _ _ eD9;refine ⟨D9,_,rfl,(DF (wW n L') (pq9.mem_iff.mpr iX))▸lE.t (k:=fS S') aej Si,_,rfl,rfl,false,by rw [wEq,bA rfl];rfl,ie ?_⟩
    exact ⟨_,_,rfl,oK.trans KP⟩
   ·rintro σ Hx ⟨KJ,KN,rfl,sx⟩
    refine Km _ _ ?_;have Sj:=Sh.trans sx;refine cR fun _ Kn=>⟨_,rfl,tp,n,L,rfl,Se.mono Sj,bV,by lia,fun H11 t11 lo o Ku JH ael BE po aem=>?_⟩
    refine ⟨t11,_,rfl,.of ael,rfl,_,_,rfl,_,_,rfl,rfl,?_⟩;refine Kn _ _ ?_;have Sk:=Sj.trans Ku;refine cR fun _ Kq=>⟨_,rfl,?_⟩;dsimp only;refine aa6 (Bu (l:=r) (n:=n) (f:=f) (o:=o) (fun R h=>⟨_,rfl,lo,rfl,⟨_,.of BE⟩,h _ _ (ak.refl _) (ko (.of BE))⟩) rfl (Sk _ _ Sf) (fun x hx=>aU.mp (po.mem_iff.mp hx)) (by rw [po.length_eq,c_];lia) fun Dc H12 R8 kF lY=>?_)
    have Sl:=Sk.trans kF;have yY:=rel.perm po;obtain ⟨M',BU⟩:=ZF n L' (o.map f);refine ⟨tq,Dc,n,L',(o.map f).map iN,rfl,KI.mono Sl,fJ,yW,by lia,by rw [lY];simp only [cM];rfl,vz yY,fun no=>absurd (yY.map iN) no,fun o4 e4 ho4 R5 gh d hd=>?_⟩
    have Ks:=rK e4;have ed:=hd M' (Ks▸BU);subst ed;have Kp:(mW n M':Int)=wW n L []:=by rw [←ZE yY fJ BU,rel.A8 bV fJ o [] [] (fun x hx=>aU.mp (po.mem_iff.mp hx)) (fun x _=>⟨fun h=>absurd h (gp),fun h=>absurd h (gp)⟩),aem]
    refine ⟨_,rfl,rfl,false,by rw [Kp,bA rfl];rfl,ie ?_⟩
    dsimp only [i6];refine Kq _ _ ?_;have Sm:=Sl.trans gh;refine ⟨_,rfl,tq,n,L',rfl,KI.mono Sm,fJ,by lia,fun H14 t14 lo2 o14 ni aiZ aeo ai0 ai1 ai2=>?_⟩
    refine ⟨t14,_,_,_,rfl,rfl,.of aeo,rfl,_,rfl,rfl,false,by rw [rel.aa2 bV fJ,bA rfl];rfl,ie ?_⟩
    have KQ:=Sm.trans ni;exact ⟨fun k=>List.getD [none,none,_,_,_,_,_,_,_,_,_,_,_,_,_,_,_] k none,rfl,p8.mono KQ,ak.seq (aW.of KQ) hS8,t8.mono KQ⟩
 ·rintro σ Hc ⟨v,rfl,aJ⟩
  have pc:=aJ.1;have J7:=aJ.2.1;have tc:=aJ.2.2;clear aJ;exact kQ _
theorem aep{l:PySem.W.OpenLaw}(T:Txt K mg t):K.lookup 132=none∧(∃xj,L2.tabIn K xj 132=true)∧∃fd:FuncData,(∀(s:Shared) (v:Value),BindsTo s fd ⟨[v],[]⟩ [("script",v)])∧∀base:Heap,K.In base→base.Ns mainGlobals mg→L2.lO base mg→bL l.prog w K mg base cQ 10 t.rQ fd ["script"] (L2.DN K 132):=by obtain ⟨oc,od,kV,doc,pm,an,cI,ct,mB,e,lk,fb⟩:=T.yF.ex;refine ⟨T.Qv,⟨_,T.tab⟩,t.u5,fun s v=>?_,fun base _ _ hB=>adJ T hB⟩;rw [e];exact .of_eq rfl
end
theorem walk{l:PySem.W.OpenLaw}{q:Program}{loose:List Str}{XP:(Str→Option Value)→Heap→Prop}{YP:World→Heap→Prop}{d:DefRec}{K:Params→PySem.W.Frag}(hn:l.most=some 63)(Ac:d.params.defaults=[])
  (hY:∀(w:World) (h:Heap),YP w h→(K w.params).In h) (hP:∀(w:World) (h:Heap),YP w h→h.get? 132=some (PySem.W.tabObj #[]))
  (F:∀(w:World) (mg:dh) (fa:Addr) (h:Heap),(K w.params).In h→h.Ns mainGlobals mg→mg d.name=some (.ref fa)→
   (K w.params).lookup 132=none∧(∃xj,L2.tabIn (K w.params) xj 132=true)∧∃fd:FuncData,(∀(s:Shared) (u:Value),BindsTo s fd ⟨[u],[]⟩ [("script",u)])∧∀base:Heap,(K w.params).In base→base.Ns mainGlobals mg→L2.lO base mg→bL l.prog w (K w.params) mg base cQ 10 fa fd ["script"] (L2.DN (K w.params) 132)) :
  PySem.W.WalkO q loose XP YP l.row.toRowW d [] (fun f vs=>PySem.call f vs):=
 L2.aac hn Ac ⟨rfl,by decide,by decide⟩ hY hP F
theorem aeq{K:aF}{h:Heap}{mg:dh}(X:K.In h)(G:h.Ns mainGlobals mg)
  {m7:Addr}
  {yc:Addr}
  {aer:Tok}
  {uf ug uh uj um uo ur uu uv uy uz uA uB uC uD uE uF uG uH uI uJ uK uL uN uO uP uQ uR uS uT uU uV uW uX uY uZ rO u4 rQ:Addr} {xq xr xt xu xw xx xA xB xC xD xE xF xG rN xH xI xJ xK xM xN xO xP xQ xR xS xT xU xW xX xY xZ x6 x8 x9 x_ ya u0 yb u5:FuncData}
  (KR:PySem.W.nsIn K mainGlobals "NoOrder"=some (some (.ref m7)))
  (KS:PySem.W.nsIn K mainGlobals "NoSize"=some (some (.ref yc)))
  (aes:mg "is_whole"=some (.ref uf))
  (u6:aX K "is_whole" DV uf xq)
  (aet:mg "is_place"=some (.ref ug))
  (yd:aX K "is_place" DW ug xr)
  (aeu:mg "neighbours"=some (.ref uh))
  (oE:aX K "neighbours" DX uh xt)
  (aev:mg "triangles"=some (.ref uj))
  (u7:aX K "triangles" DY uj xu)
  (aew:mg "is_order"=some (.ref um))
  (yg:aX K "is_order" DZ um xw)
  (aex:mg "check_order"=some (.ref uo))
  (yh:aX K "check_order" D4 uo xx)
  (aey:mg "turns_of"=some (.ref ur))
  (yi:aX K "turns_of" D5 ur xA)
  (aez:mg "link_all"=some (.ref uu))
  (yj:aX K "link_all" D6 uu xB)
  (aeA:mg "later"=some (.ref uv))
  (qc:aX K "later" D7 uv xC)
  (aeB:mg "filled"=some (.ref uy))
  (rR:aX K "filled" D8 uy xD)
  (aeC:mg "place_deeds"=some (.ref uz))
  (u9:aX K "place_deeds" D_ uz xE)
  (aeD:mg "deeds"=some (.ref uA))
  (rS:aX K "deeds" Ea uA xF)
  (aeE:mg "is_perfect"=some (.ref uB))
  (u_:aX K "is_perfect" Eb uB xG)
  (aeF:mg "likely_order"=some (.ref uC))
  (yk:aX K "likely_order" Ec uC rN)
  (aeG:mg "walk_back"=some (.ref uD))
  (yl:aX K "walk_back" Ed uD xH)
  (aeH:mg "unmet"=some (.ref uE))
  (ym:aX K "unmet" Ee uE xI)
  (aeI:mg "ring_over"=some (.ref uF))
  (yn:aX K "ring_over" Ef uF xJ)
  (aeJ:mg "bare_ring"=some (.ref uG))
  (yo:aX K "bare_ring" Eg uG xK)
  (aeK:mg "perfect"=some (.ref uH))
  (va:aX K "perfect" Eh uH xM)
  (aeL:mg "ring_links"=some (.ref uI))
  (yp:aX K "ring_links" Ei uI xN)
  (aeM:mg "links_among"=some (.ref uJ))
  (yq:aX K "links_among" Ej uJ xO)
  (aeN:mg "is_bare_ring"=some (.ref uK))
  (yr:aX K "is_bare_ring" Ek uK xP)
  (aeO:mg "check_size"=some (.ref uL))
  (vc:aX K "check_size" El uL xQ)
  (aeP:mg "still_near"=some (.ref uN))
  (yt:aX K "still_near" Em uN xR)
  (aeQ:mg "cost"=some (.ref uO))
  (yu:aX K "cost" En uO xS)
  (aeR:mg "rising_tuples"=some (.ref uP))
  (yw:aX K "rising_tuples" Eo uP xT)
  (aeS:mg "and_done"=some (.ref uQ))
  (vd:aX K "and_done" Ep uQ xU)
  (aeT:mg "choices"=some (.ref uR))
  (ve:aX K "choices" Er uR xW)
  (aeU:mg "worths"=some (.ref uS))
  (rT:aX K "worths" Es uS xX)
  (aeV:mg "fewest"=some (.ref uT))
  (vf:aX K "fewest" Et uT xY)
  (aeW:mg "_law_fill"=some (.ref uU))
  (yy:aX K "_law_fill" Eu uU xZ)
  (aeX:mg "_law_next"=some (.ref uV))
  (jr:aX K "_law_next" Ew uV x6)
  (aeY:mg "_law_turned"=some (.ref uW))
  (rU:aX K "_law_turned" Ex uW x8)
  (aeZ:mg "_law_tied_by"=some (.ref uX))
  (yA:aX K "_law_tied_by" Ey uX x9)
  (ae0:mg "_law_grown_links"=some (.ref uY))
  (yB:aX K "_law_grown_links" Ez uY x_)
  (ae1:mg "_law_drawn"=some (.ref uZ))
  (yC:aX K "_law_drawn" EA uZ ya)
  (ae2:mg "_law_named"=some (.ref rO))
  (rV:aX K "_law_named" EB rO u0)
  (ae3:mg "_law_told_alike"=some (.ref u4))
  (yE:aX K "_law_told_alike" EC u4 yb)
  (ae4:mg "law"=some (.ref rQ))
  (yF:aX K "law" ED rQ u5)
  (KU:PySem.W.nsIn K mainGlobals "ValueError"=some none)
  (KW:PySem.W.nsIn K mainGlobals "all"=some none)
  (KY:PySem.W.nsIn K mainGlobals "any"=some none)
  (KZ:PySem.W.nsIn K mainGlobals "bool"=some none)
  (K8:PySem.W.nsIn K mainGlobals "enumerate"=some none)
  (K9:PySem.W.nsIn K mainGlobals "int"=some none)
  (K_:PySem.W.nsIn K mainGlobals "isinstance"=some none)
  (La:PySem.W.nsIn K mainGlobals "len"=some none)
  (Lb:PySem.W.nsIn K mainGlobals "list"=some none)
  (Lc:PySem.W.nsIn K mainGlobals "max"=some none)
  (Ld:PySem.W.nsIn K mainGlobals "min"=some none)
  (Le:PySem.W.nsIn K mainGlobals "range"=some none)
  (Lf:PySem.W.nsIn K mainGlobals "reversed"=some none)
  (Lg:PySem.W.nsIn K mainGlobals "set"=some none)
  (Lh:PySem.W.nsIn K mainGlobals "sorted"=some none)
  (Li:PySem.W.nsIn K mainGlobals "sum"=some none)
  (Lj:PySem.W.nsIn K mainGlobals "tuple"=some none)
  (Ll:PySem.W.nsIn K mainGlobals "zip"=some none)
  (Lm:PySem.W.nsIn K mainGlobals "MOST"=some (some (.int 9 aer)))
  (Ln:PySem.W.excIn K m7 [.type "ValueError",.type "Exception",.type "BaseException",.type "object"] "ValueError.__new__"=true)
  (Lo:PySem.W.excIn K yc [.type "ValueError",.type "Exception",.type "BaseException",.type "object"] "ValueError.__new__"=true)
  (Lp:L2.tabIn K rN 132=true)
  (Lq:K.lookup 132=none)
  : ∃t:IJ,Txt K mg t:=by
 refine ⟨⟨uf,xq,ug,xr,uh,xt,uj,xu,um,xw,uo,xx,ur,xA,uu,xB,uv,xC,uy,xD,uz,xE,uA,xF,uB,xG,uC,rN,uD,xH,uE,xI,uF,xJ,uG,xK,uH,xM,uI,xN,uJ,xO,uK,xP,uL,xQ,uN,xR,uO,xS,uP,xT,uQ,xU,uR,xW,uS,xX,uT,xY,uU,xZ,uV,x6,uW,x8,uX,x9,uY,x_,uZ,ya,rO,u0,u4,yb,rQ,u5,m7,yc⟩,?_⟩
 exact {
  u6:=u6
  IK:=u6.cu
  IL:=aes
  yd:=yd
  Pp:=yd.cu
  Pq:=aet
  oE:=oE
  ye:=oE.cu
  yf:=aeu
  u7:=u7
  IM:=u7.cu
  IP:=aev
  yg:=yg
  Pr:=yg.cu
  Pu:=aew
  yh:=yh
  Pw:=yh.cu
  Px:=aex
  yi:=yi
  Py:=yi.cu
  Pz:=aey
  yj:=yj
  PB:=yj.cu
  PD:=aez
  qc:=qc
  Bv:=qc.cu
  Bw:=aeA
  rR:=rR
  EE:=rR.cu
  EF:=aeB
  u9:=u9
  IQ:=u9.cu
  IS:=aeC
  rS:=rS
  EG:=rS.cu
  EH:=aeD
  u_:=u_
  IT:=u_.cu
  IU:=aeE
  yk:=yk
  PF:=yk.cu
  PH:=aeF
  yl:=yl
  PJ:=yl.cu
  PK:=aeG
  ym:=ym
  PL:=ym.cu
  PM:=aeH
  yn:=yn
  PN:=yn.cu
  PQ:=aeI
  yo:=yo
  PR:=yo.cu
  PU:=aeJ
  va:=va
  IV:=va.cu
  IW:=aeK
  yp:=yp
  PV:=yp.cu
  PX:=aeL
  yq:=yq
  PY:=yq.cu
  PZ:=aeM
  yr:=yr
  P1:=yr.cu
  P2:=aeN
  vc:=vc
  IY:=vc.cu
  IZ:=aeO
  yt:=yt
  P4:=yt.cu
  P5:=aeP
  yu:=yu
  P6:=yu.cu
  P7:=aeQ
  yw:=yw
  P8:=yw.cu
  P9:=aeR
  vd:=vd
  I0:=vd.cu
  I_:=aeS
  ve:=ve
  Ja:=ve.cu
  Jb:=aeT
  rT:=rT
  EI:=rT.cu
  EJ:=aeU
  vf:=vf
  Jc:=vf.cu
  Jd:=aeV
  yy:=yy
  P_:=yy.cu
  Qa:=aeW
  jr:=jr
  m8:=jr.cu
  m9:=aeX
  rU:=rU
  EK:=rU.cu
  EL:=aeY
  yA:=yA
  Qb:=yA.cu
  Qc:=aeZ
  yB:=yB
  Qd:=yB.cu
  Qe:=ae0
  yC:=yC
  Qf:=yC.cu
  Qg:=ae1
  rV:=rV
  EM:=rV.cu
  EN:=ae2
  yE:=yE
  Qh:=yE.cu
  Qi:=ae3
  yF:=yF
  aa9:=yF.cu
  Qj:=ae4
  Qk:=cH X G KR
  Ql:=cH X G KS
  aa_:=gP X G KU
  Je:=gP X G KW
  aba:=gP X G KY
  Qm:=gP X G KZ
  EO:=gP X G K8
  Qn:=gP X G K9
  ER:=gP X G K_
  iy:=gP X G La
  qd:=gP X G Lb
  Bx:=gP X G Lc
  yG:=gP X G Ld
  ju:=gP X G Le
  Qo:=gP X G Lf
  Qp:=gP X G Lg
  oF:=gP X G Lh
  Qq:=gP X G Li
  By:=gP X G Lj
  Qr:=gP X G Ll
  Qs:=⟨_,cH X G Lm,_,rfl⟩
  Qt:=Ln
  Qu:=Lo
  tab:=Lp
  Qv:=Lq
 }
end My
namespace PySem.W.Fast
def tw13137559943484690184:Unit:=()
def tw722826254826855202:Unit:=()
def tw12494643442155123990:Unit:=()
def tw17589312561386270325:Unit:=()
def tw6863921855764991410:Unit:=()
def tw10826942851438207742:Unit:=()
def tw8507787662948048900:Unit:=()
def tw8664309103142402430:Unit:=()
def tw13288147289142857942:Unit:=()
def tw6398711653245332137:Unit:=()
def tw14449095238822379977:Unit:=()
def tw3370234301948510421:Unit:=()
def tw18367494853982304514:Unit:=()
def tw4067460180531722995:Unit:=()
def tw1143615408574205852:Unit:=()
def tw12436989753034143773:Unit:=()
def tw11097805284553505375:Unit:=()
def tw13265266081939137343:Unit:=()
def tw13244351107362492725:Unit:=()
def tw975035520139235711:Unit:=()
def tw12742461741990305056:Unit:=()
def tw8147375557117097443:Unit:=()
def tw13536385535274190384:Unit:=()
def tw12820289531687992945:Unit:=()
def tw2724658086427991274:Unit:=()
def tw7038497629043100819:Unit:=()
def tw11418457817578128647:Unit:=()
def tw5747376077302852969:Unit:=()
def tw7610736988169512752:Unit:=()
def tw14520805870691025112:Unit:=()
def tw9454430255368338892:Unit:=()
def tw8938487339071135043:Unit:=()
def tw2385181444237857760:Unit:=()
def tw4488346015209891142:Unit:=()
def tw9612140154757563637:Unit:=()
def tw5659017382850549388:Unit:=()
def tw5930287698649881627:Unit:=()
def tw17802660794660013767:Unit:=()
def tw3213468951138171504:Unit:=()
def tw5564496305541005970:Unit:=()
def tw8441882084092460931:Unit:=()
def tw12881185060569976818:Unit:=()
def tw6619574713865670150:Unit:=()
def tw6781702651247840311:Unit:=()
def tw11429343910263533429:Unit:=()
def tw6483504922007794062:Unit:=()
def tw5785270773194057112:Unit:=()
def tw8782367272082047094:Unit:=()
def tw16130045449149554714:Unit:=()
def tw14597054924629592124:Unit:=()
def tw16383853215519014198:Unit:=()
def tw5482811582581637418:Unit:=()
def tw6640645792210762815:Unit:=()
def tw15058610000933067910:Unit:=()
def tw4776991242666030858:Unit:=()
def tw6888760385620127422:Unit:=()
def tw3431696801032331747:Unit:=()
def tw13269576040034180158:Unit:=()
def tw6478822544904221271:Unit:=()
def tw13367721357882260368:Unit:=()
def tw4829352801524499573:Unit:=()
def tw6932052834683149283:Unit:=()
def tw10304694982483764297:Unit:=()
def tw16411920822261314890:Unit:=()
def tw5752327867352124186:Unit:=()
def tw14408304707819298863:Unit:=()
def tw18378837706200233863:Unit:=()
def tw17179125437299050747:Unit:=()
def tw8395853226357001162:Unit:=()
def tw3300113247469594751:Unit:=()
def tw5881412852603695984:Unit:=()
def tw12324446886948887015:Unit:=()
def tw8551395526570697738:Unit:=()
def tw16745657872837043863:Unit:=()
def tw12801366376664937904:Unit:=()
def tw2533668127005031125:Unit:=()
def tw6358762075097889971:Unit:=()
def tw10075651033648603329:Unit:=()
def tw17858983315085119481:Unit:=()
def tw5022573764221331461:Unit:=()
def tw1128290854094847455:Unit:=()
def tw9922263884120643198:Unit:=()
def tw6378735605984520869:Unit:=()
def tw10754606544239800417:Unit:=()
def tw6700963917296689086:Unit:=()
def tw1441492781909802388:Unit:=()
def tw11868009141888475676:Unit:=()
def tw16508198326076839908:Unit:=()
def tw731789316708282380:Unit:=()
def tw12335185315692910797:Unit:=()
def tw11945085271527262511:Unit:=()
def tw9552838586917226987:Unit:=()
def tw3061745017821287424:Unit:=()
def tw7676456166593359801:Unit:=()
def tw15133419431693829853:Unit:=()
def tw647369955652913699:Unit:=()
def tw14200049806748290794:Unit:=()
def tw6673244636862642552:Unit:=()
def tw4133050095447224803:Unit:=()
def tw11103576713487628428:Unit:=()
def tw3535729783652291484:Unit:=()
def tw9410287734385507187:Unit:=()
def tw12144921281886868112:Unit:=()
def tw14082961451581939361:Unit:=()
def tw13572799868936780910:Unit:=()
def tw8131337779449251392:Unit:=()
def tw5921361617567161077:Unit:=()
def tw4027346730344117886:Unit:=()
def tw17997224672189939425:Unit:=()
def tw8247506083315188359:Unit:=()
def tw1961402227777184700:Unit:=()
def tw351514747857502494:Unit:=()
def tw5622793762232934067:Unit:=()
def tw9720098322085358346:Unit:=()
def tw6288983044681281719:Unit:=()
def tw16734244559822615095:Unit:=()
def tw16603483751220029900:Unit:=()
def tw1594208818207026083:Unit:=()
def tw13526778519675594248:Unit:=()
def tw10706776203390748895:Unit:=()
def tw5355735771299630216:Unit:=()
def tw1886202718066795043:Unit:=()
def tw10139175676786779040:Unit:=()
def tw9072164806879792134:Unit:=()
def tw3478485581814574195:Unit:=()
def tw9490873911269850477:Unit:=()
def tw12407185956107845764:Unit:=()
def tw8550676828263122878:Unit:=()
def tw4027828227054350781:Unit:=()
def tw1431478915354856152:Unit:=()
def tw5476170460943857126:Unit:=()
def tw12285343549006117871:Unit:=()
def tw8819638699529145707:Unit:=()
def tw1377530875987105172:Unit:=()
def tw8288157467795890289:Unit:=()
def tw7829664254329789243:Unit:=()
def tw10863123711460281589:Unit:=()
def tw3112742072141691447:Unit:=()
def tw15386243889456585246:Unit:=()
def tw6820549345597161653:Unit:=()
def tw8013866430879045213:Unit:=()
def tw13227880686690802505:Unit:=()
def tw13647096216539803342:Unit:=()
def tw9932011810917187321:Unit:=()
def tw1808271768787731989:Unit:=()
def tw2486901665458022430:Unit:=()
def tw9625581765813212552:Unit:=()
def tw13648228738091580788:Unit:=()
def tw1038334457522925055:Unit:=()
def tw8585126815629698152:Unit:=()
def tw5338218025731656838:Unit:=()
def tw8123200312854387608:Unit:=()
def tw3477322067994659138:Unit:=()
def tw2156391659541485294:Unit:=()
def tw4712900804798422203:Unit:=()
def tw17139417587886843294:Unit:=()
def tw16409256561483075397:Unit:=()
def tw8150842440876865405:Unit:=()
def tw10364016904617372568:Unit:=()
def tw4730896365558188588:Unit:=()
def tw5481592558919264188:Unit:=()
def tw16593214384304611082:Unit:=()
def tw11823603978030218820:Unit:=()
def tw10830911770327759125:Unit:=()
def tw12452942005221277897:Unit:=()
def tw509105481927460321:Unit:=()
def tw12997490618719193438:Unit:=()
def tw18295643449254791623:Unit:=()
def tw18085289220230083518:Unit:=()
def tw3869955174657271426:Unit:=()
def tw4427375432274006631:Unit:=()
def tw207112421964183980:Unit:=()
def tw13067481424716255229:Unit:=()
def tw14035042501955363385:Unit:=()
def tw14345479971306994078:Unit:=()
def tw10365555816566005583:Unit:=()
def tw11341804207857420317:Unit:=()
def tw5458314408035811527:Unit:=()
def tw17102286290953621092:Unit:=()
def tw5256535824398892605:Unit:=()
def tw5638878364490532647:Unit:=()
def tw4484520797359708557:Unit:=()
def tw6707543992091587329:Unit:=()
def tw9096382053936345012:Unit:=()
def tw5939550938535926016:Unit:=()
def tw8533278541755007946:Unit:=()
def tw588830633813346806:Unit:=()
def tw10001988510709418304:Unit:=()
def tw17615875864522086424:Unit:=()
end PySem.W.Fast
open PySem PySem.W PyProof.Rows
set_option maxRecDepth 100000 in
set_option maxHeartbeats 0 in
theorem PySem.Challenge.cw_bandwright_k32_whole_names_turn_nothing_holds : PySem.Challenge.rw_bandwright_k32_whole_names_turn_nothing.Holds := by
 w_on;o_law;k_head;(case hw=>w_witness2)
 k_fill
 refine My.walk (l:=PySem.Challenge.rw_bandwright_k32_whole_names_turn_nothing) rfl rfl (fun w h Y=>PySem.W.km_in_of Y) (fun w h Y=>PySem.W.km_tabs_of Y 132 (cy.mpr rfl)) ?F
 case F=>
  intro w mg fa h KX G Ad
  have T:∃t,My.Txt (L2.Mt KX) mg t:=by
   dsimp only [L2.Mt]
   refine' My.aeq KX G ?KR ?KS (cH KX G ?ae5) (L2.cU (st:=My.DV) ?ae6 ?ae7 ?ae8) (cH KX G ?ae9) (L2.cU (st:=My.DW) ?ae_ ?afa ?afb) (cH KX G ?afc) (L2.cU (st:=My.DX) ?afd ?afe ?afg) (cH KX G ?afh) (L2.cU (st:=My.DY) ?afi ?afj ?afk) (cH KX G ?afl) (L2.cU (st:=My.DZ) ?afm ?afn ?afo) (cH KX G ?afp) (L2.cU (st:=My.D4) ?afq ?afr ?afs) (cH KX G ?aft) (L2.cU (st:=My.D5) ?afu ?afv ?afw) (cH KX G ?afx) (L2.cU (st:=My.D6) ?afy ?afz ?afA) (cH KX G ?afB) (L2.cU (st:=My.D7) ?afC ?afD ?afE) (cH KX G ?afF) (L2.cU (st:=My.D8) ?afG ?afH ?afI) (cH KX G ?afJ) (L2.cU (st:=My.D_) ?afK ?afL ?afM) (cH KX G ?afN) (L2.cU (st:=My.Ea) ?afO ?afP ?afQ) (cH KX G ?afR) (L2.cU (st:=My.Eb) ?afS ?afT ?afU) (cH KX G ?afV) (L2.cU (st:=My.Ec) ?afW ?afX ?afY) (cH KX G ?afZ) (L2.cU (st:=My.Ed) ?af0 ?af1 ?af2) (cH KX G ?af3) (L2.cU (st:=My.Ee) ?af4 ?af5 ?af6) (cH KX G ?af7) (L2.cU (st:=My.Ef) ?af8 ?af9 ?af_) (cH KX G ?aga) (L2.cU (st:=My.Eg) ?agb ?agc ?agd) (cH KX G ?age) (L2.cU (st:=My.Eh) ?agf ?agg ?agh) (cH KX G ?agi) (L2.cU (st:=My.Ei) ?agj ?agk ?agl) (cH KX G ?agm) (L2.cU (st:=My.Ej) ?agn ?ago ?agp) (cH KX G ?agq) (L2.cU (st:=My.Ek) ?agr ?ags ?agt) (cH KX G ?agu) (L2.cU (st:=My.El) ?agv ?agw ?agx) (cH KX G ?agy) (L2.cU (st:=My.Em) ?agz ?agA ?agB) (cH KX G ?agC) (L2.cU (st:=My.En) ?agD ?agE ?agF) (cH KX G ?agG) (L2.cU (st:=My.Eo) ?agH ?agI ?agJ) (cH KX G ?agK) (L2.cU (st:=My.Ep) ?agL ?agM ?agN) (cH KX G ?agO) (L2.cU (st:=My.Er) ?agP ?agQ ?agR) (cH KX G ?agS) (L2.cU (st:=My.Es) ?agT ?agU ?agV) (cH KX G ?agW) (L2.cU (st:=My.Et) ?agX ?agY ?agZ) (cH KX G ?ag0) (L2.cU (st:=My.Eu) ?ag1 ?ag2 ?ag3) (cH KX G ?ag4) (L2.cU (st:=My.Ew) ?ag5 ?ag6 ?ag7) (cH KX G ?ag8) (L2.cU (st:=My.Ex) ?ag9 ?ag_ ?aha) (cH KX G ?ahb) (L2.cU (st:=My.Ey) ?ahc ?ahe ?ahf) (cH KX G ?ahg) (L2.cU (st:=My.Ez) ?ahh ?ahi ?ahj) (cH KX G ?ahk) (L2.cU (st:=My.EA) ?ahl ?ahm ?ahn) (cH KX G ?aho) (L2.cU (st:=My.EB) ?ahp ?ahq ?ahr) (cH KX G ?ahs) (L2.cU (st:=My.EC) ?aht ?ahu ?ahv) (cH KX G ?ahw) (L2.cU (st:=My.ED) ?ahx ?ahy ?ahz) ?KU ?KW ?KY ?KZ ?K8 ?K9 ?K_ ?La ?Lb ?Lc ?Ld ?Le ?Lf ?Lg ?Lh ?Li ?Lj ?Ll ?Lm ?Ln ?Lo ?Lp ?Lq
   (case KR|KS|ae5|ae6|ae7|ae8|ae9|ae_|afa|afb|afc|afd|afe|afg|afh|afi|afj|afk|afl|afm|afn|afo|afp|afq|afr|afs|aft|afu|afv|afw|afx|afy|afz|afA|afB|afC|afD|afE|afF|afG|afH|afI|afJ|afK|afL|afM|afN|afO|afP|afQ|afR|afS|afT|afU|afV|afW|afX|afY|afZ|af0|af1|af2|af3|af4|af5|af6|af7|af8|af9|af_|aga|agb|agc|agd|age|agf|agg|agh|agi|agj|agk|agl|agm|agn|ago|agp|agq|agr|ags|agt|agu|agv|agw|agx|agy|agz|agA|agB|agC|agD|agE|agF|agG|agH|agI|agJ|agK|agL|agM|agN|agO|agP|agQ|agR|agS|agT|agU|agV|agW|agX|agY|agZ|ag0|ag1|ag2|ag3|ag4|ag5|ag6|ag7|ag8|ag9|ag_|aha|ahb|ahc|ahe|ahf|ahg|ahh|ahi|ahj|ahk|ahl|ahm|ahn|aho|ahp|ahq|ahr|ahs|aht|ahu|ahv|ahw|ahx|ahy|ahz|KU|KW|KY|KZ|K8|K9|K_|La|Lb|Lc|Ld|Le|Lf|Lg|Lh|Li|Lj|Ll|Lm=>k_is)
   (case Ln|Lo=>k_exc)
   (case Lp|Lq=>kernel_rfl)
  obtain ⟨t,T⟩:=T
  have e0:=Ad.symm.trans T.Qj
  cases e0
  exact My.aep T
#print axioms PySem.Challenge.cw_bandwright_k32_whole_names_turn_nothing_holds
