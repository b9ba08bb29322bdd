import PyProof.Rows.All
import Wide.All
import OpenK.AllK
import Wide.FinOn
import Lean
import PyProof.EqAt
import PyProof.EqKinds
import PyProof.TupleCall
import PySem.Challenge.RW_bandwright_k20_perfect_or_a_bare_ring
set_option Elab.async false
set_option linter.all false
set_option maxRecDepth 100000
abbrev bH:=@decide_eq_false
abbrev si:=@beq_eq_false_iff_ne
abbrev BG:=@List.getElem?_eq_none_iff
abbrev ae:=@if_pos
abbrev aa:=@if_neg
abbrev aY:=@PySem.Heap.lt_size
abbrev dS:=@Nat.lt_of_lt_of_le
abbrev fE:=@Nat.lt_irrefl
abbrev cx:=@Nat.ne_of_lt
abbrev yE:=@PySem.W.hideAll_get
abbrev fY:=@List.mem_filter
abbrev cR:=@List.mem_range
abbrev b9:=@Nat.le_trans
abbrev nN:=@Nat.le_of_lt
abbrev yF:=@List.filterMap_cons
abbrev d5:=@List.mem_cons_self
abbrev eC:=@List.mem_cons_of_mem
abbrev bO:=@List.mem_cons
abbrev cY:=@List.mem_append
abbrev kK:=@List.mem_append_left
abbrev bW:=@List.getElem?_eq_some_iff
abbrev sj:=@List.getElem_inj
abbrev cS:=@PySem.wpAny_mono
abbrev pI:=@PySem.wpAny_truthy_bool
abbrev gs:=@Array.length_toList
abbrev eE:=@congrArg
abbrev yG:=@PySem.wpAny_execs_nil
abbrev aC:=@PySem.wpAny_bind
abbrev nO:=@PySem.wpAny_holding
abbrev vM:=@PySem.wpAny_standAt
abbrev pJ:=@PySem.wpAny_passesOwn
abbrev dg:=@Bool.false_ne_true
abbrev ba:=@PySem.wpAny_pure
abbrev b8:=@PySem.Heap.get?_push_of_some
abbrev dU:=@PySem.Heap.get?_push_size
abbrev ay:=@Nat.le_refl
abbrev vO:=@PyProof.Rows.callWith_type1
abbrev yH:=@List.mem_filterMap
abbrev eQ:=@List.mem_append_right
abbrev bU:=@Nat.zero_le
abbrev nQ:=@Bool.eq_iff_iff
abbrev l_:=@PySem.sizeLine_eq
abbrev iX:=@PySem.W.kia_one
abbrev j4:=@List.append_nil
abbrev yI:=@PySem.wpAny_Call_Name_kw
abbrev kL:=@List.nodup_cons
abbrev BH:=@Option.isSome_iff_exists
abbrev nS:=@List.length_take
abbrev kM:=@PySem.mem_of_lookup
abbrev gK:=@List.getElem?_append_right
abbrev gM:=@List.getElem?_append_left
abbrev bo:=@List.getElem?_map
abbrev nU:=@List.mem_of_getElem?
abbrev du:=@List.length_append
abbrev aH:=@List.length_map
abbrev d6:=@Int.toNat_natCast
abbrev vP:=@List.map_nil
abbrev jC:=@List.map_cons
abbrev vQ:=@List.length_drop
abbrev b_:=@List.size_toArray
abbrev sq:=@PySem.Heap.get?_update_self
abbrev sr:=@PySem.Heap.get?_update_other
abbrev j6:=@if_false
abbrev vR:=@Bool.and_eq_true
abbrev vS:=@List.any_cons
abbrev nV:=@List.replicate_succ
abbrev su:=@List.flatten_cons
abbrev jD:=@Nat.le_succ
abbrev fF:=@List.append_assoc
abbrev pK:=@PySem.call_meets
abbrev nW:=@List.length_singleton
abbrev pL:=@Array.getElem?_toList
abbrev BI:=@List.eraseIdxIfInBounds_toArray
abbrev vT:=@List.nil_append
abbrev bA:=@decide_eq_true
abbrev nX:=@Nat.not_lt_zero
abbrev cZ:=@PySem.W.mg_of
abbrev jE:=@Nat.lt_of_le_of_lt
abbrev BJ:=@PySem.F.typeOf_object_class
abbrev vU:=@PySem.wpAny_loadPart_at
abbrev yJ:=@Bool.eq_false_iff
abbrev nY:=@List.all_eq_true
abbrev BK:=@PySem.wpAny_comprehension_free
abbrev sC:=@PySem.wpAny_newObj_type
abbrev fG:=@List.length_cons
abbrev BL:=@PySem.codeAny_compLoop_tests
abbrev yK:=@PySem.lookup_relabel_local
abbrev BM:=@PySem.codeAny_compStart_list
abbrev dh:=@Int.le_of_lt
abbrev cG:=@List.getD_eq_getElem?_getD
abbrev bI:=@List.mem_singleton
abbrev fH:=@List.length_range
abbrev pM:=@List.getElem?_range
abbrev yL:=@beq_self_eq_true
abbrev cy:=@List.getElem_mem
abbrev sD:=@Nat.sub_self
abbrev pO:=@List.lookup_cons
abbrev sE:=@List.ext_getElem?
abbrev vV:=@List.getElem?_eq_none
abbrev sF:=@List.not_mem_nil
abbrev sG:=@List.range_succ
abbrev fi:=@List.map_append
abbrev ma:=@List.map_congr_left
abbrev iY:=@List.ext_getElem
abbrev iZ:=@List.nodup_nil
abbrev sI:=@PySem.SeqAt.EqAt.of_refs
abbrev nZ:=@PySem.Around.in1_units
abbrev ar:=@PyProof.Rows.wpS_bind
abbrev i3:=@PyProof.Rows.wpS_get
abbrev aq:=@PyProof.Rows.wpS_pure
abbrev fI:=@PyProof.Rows.wpS_forRange
abbrev fZ:=@PyProof.Rows.wpS_mono
abbrev pP:=@List.perm_append_comm
abbrev n4:=@List.take_append_drop
abbrev BN:=@List.Perm.append_left
abbrev BO:=@List.drop_eq_getElem_cons
abbrev yM:=@List.take_of_length_le
abbrev sJ:=@List.getElem_of_mem
abbrev md:=@Int.le_refl
abbrev sL:=@List.pairwise_iff_getElem
abbrev j7:=@PyProof.Rows.wpS_modify
abbrev eR:=@of_decide_eq_true
abbrev dA:=@Int.le_trans
abbrev n5:=@Array.toList_push
abbrev kO:=@Array.toList_append
abbrev n6:=@PySem.wpAny_rule
abbrev yN:=@Array.toList_reverse
abbrev kP:=@List.mem_reverse
abbrev me:=@List.reverse_perm
abbrev fj:=@Nat.zero_add
abbrev pQ:=@Array.perm_iff_toList_perm
abbrev bS:=@List.getElem?_eq_getElem
abbrev yO:=@decide_eq_decide
abbrev dE:=@List.map_map
abbrev sM:=@PySem.Heap.get?_push_ne
abbrev yP:=@Nat.lt_succ_of_lt
abbrev yQ:=@PySem.Heap.get?_update_ne
abbrev vW:=@Bool.false_eq_true
abbrev yR:=@PySem.wpAny_call_entry
abbrev vX:=@List.nodup_range
abbrev i4:=@List.getElem_map
abbrev pR:=@List.getElem_range
abbrev cj:=@List.mem_map
abbrev fk:=@Int.eq_ofNat_of_zero_le
abbrev j8:=@List.take_succ
abbrev gu:=@List.take_length
abbrev yS:=@List.pairwise_cons
abbrev ic:=@List.nodup_append
abbrev yT:=@Nat.add_sub_cancel
abbrev kS:=@List.filter_append
abbrev vY:=@List.length_filter_le
abbrev pS:=@List.find?_cons
abbrev vZ:=@Option.isSome_map
abbrev yU:=@PySem.tupleKind_room_in1
abbrev yW:=@PySem.wpAny_specialOf
abbrev v9:=@List.any_eq_true
abbrev i5:=@decide_eq_true_iff
abbrev yX:=@List.length_erase_of_mem
abbrev yY:=@List.pairwise_map
abbrev j9:=@List.idxOf_lt_length_of_mem
abbrev v_:=@List.getElem_idxOf
abbrev wa:=@Option.some.injEq
abbrev yZ:=@List.Pairwise.imp_of_mem
abbrev wb:=@List.mem_take_iff_getElem
abbrev wc:=@List.idxOf_cons_self
abbrev we:=@PySem.F.slot_dict_keyiterator_next
abbrev y4:=@PySem.wpAny_typeNameOfWhole_keyiter
abbrev y6:=@PySem.wpAny_typeNameOf_keyiter
abbrev sN:=@Array.getElem?_eq_getElem
abbrev y7:=@Array.getElem?_eq_none
abbrev mf:=@PySem.wpAny_ite_split
abbrev y8:=@PySem.wpAny_updateSeq
abbrev kT:=@List.filter_cons
abbrev ie:=@Classical.byContradiction
abbrev n8:=@List.idxOf_append
abbrev y9:=@List.filter_eq_nil_iff
abbrev y_:=@List.append_inj'
abbrev za:=@List.mem_of_mem_erase
abbrev BP:=@List.getElem_cons_zero
abbrev wg:=@List.getElem_cons_succ
abbrev n_:=@Nat.add_le_add_left
abbrev di:=@PySem.PassesOwn.never
abbrev pU:=@PyProof.Rows.boot_sorted
abbrev ig:=@PySem.boot_len
abbrev eX:=@PySem.F.plainAttrs_list
abbrev iu:=@PySem.F.slot_list_append
abbrev iy:=@PySem.F.type_list_append
abbrev mh:=@Int.emod_nonneg
abbrev pV:=@Int.emod_lt_of_pos
abbrev zb:=@Int.ediv_nonneg
abbrev wj:=@Nat.mul_le_mul
abbrev pW:=@List.set_cons_zero
abbrev pX:=@List.set_cons_succ
abbrev sO:=@Int.zero_add
abbrev fJ:=@PySem.W.mg_none_of
abbrev Xt:=List (List (Int×Int))
abbrev aw:=List (Int×Int)
abbrev XB:=Nat→Nat→Int
abbrev cH:=PySem.Str→Option PySem.Value
abbrev aR:=PySem.Value→PySem.Shared→Prop
abbrev aJ:=PySem.W.Frag
abbrev aQ:=List (PySem.Addr×PySem.Obj)
namespace L2
open PySem PySem.Spec PyProof.Rows
abbrev Key:=Sum Int Str
def pY:Key→Value→Bool
 | .inl k,v=>Value.isInt k v
 | .inr x,v=>Value.isStrOf x v
def LR(w:World):Key→Int
 | .inl k=>hashInt k
 | .inr x=>hashStr w x
theorem kU:∀{k:Key} {v:Value},pY k v=true→(∃i t,k=Sum.inl i∧v=Value.int i t)∨(∃x t,k=Sum.inr x∧v=Value.str x t)
 | .inl i,v,h=>by obtain ⟨t,e⟩:=Value.isInt_shape (k:=i) (v:=v) h;exact .inl ⟨i,t,rfl,e⟩
 | .inr x,v,h=>by obtain ⟨t,e⟩:=Value.isStrOf_shape (x:=x) (v:=v) h;exact .inr ⟨x,t,rfl,e⟩
theorem LS(i:Int)(t:Tok):pY (.inl i) (.int i t)=true:=by simp [pY,Value.isInt]
theorem LU(x:Str)(t:Tok):pY (.inr x) (.str x t)=true:=by simp [pY,Value.isStrOf]
theorem LV(a b:Int):decide ((Sum.inl a:Key)=Sum.inl b)=(a == b):=by
 by_cases e:a=b;·subst e;simp
 ·have h:¬(Sum.inl a:Key)=Sum.inl b:=fun q=>e (Sum.inl.inj q)
  rw [bH h];exact (si.mpr e).symm
theorem LW(a b:Str):decide ((Sum.inr a:Key)=Sum.inr b)=decide (a=b):=by
 by_cases e:a=b;·subst e;simp
 ·have h:¬(Sum.inr a:Key)=Sum.inr b:=fun q=>e (Sum.inr.inj q)
  rw [bH h,bH e]
theorem LX(a:Int)(b:Str):decide ((Sum.inl a:Key)=Sum.inr b)=false:=bH (fun q=>nomatch q)
theorem LY(a:Str)(b:Int):decide ((Sum.inr a:Key)=Sum.inl b)=false:=bH (fun q=>nomatch q)
def fK(prog:Program)(w:World):PySem.KeyKind prog w Key where
 is:=pY
 hash:=LR w
 inj:=fun v a b ha hb=>by
  rcases kU ha with ⟨i,t,rfl,rfl⟩ | ⟨x,t,rfl,rfl⟩
  ·rcases kU hb with ⟨j,u,rfl,e⟩ | ⟨y,u,rfl,e⟩
   ·injection e with e1 _;rw [e1]
   ·exact nomatch e
  ·rcases kU hb with ⟨j,u,rfl,e⟩ | ⟨y,u,rfl,e⟩
   ·exact nomatch e
   ·injection e with e1 _;rw [e1]
 byValue:=fun k v h=>by
  rcases kU h with ⟨i,t,rfl,rfl⟩ | ⟨x,t,rfl,rfl⟩ <;> rfl
 pyHash:=fun hv h=>by
  rcases kU hv with ⟨i,t,rfl,rfl⟩ | ⟨x,t,rfl,rfl⟩
  ·exact wpAny_pyHash_int h
  ·exact wpAny_pyHash_str h
 eqBool:=fun hu hv h=>by
  rcases kU hu with ⟨i,t,rfl,rfl⟩ | ⟨x,t,rfl,rfl⟩
  ·rcases kU hv with ⟨j,u,rfl,rfl⟩ | ⟨y,u,rfl,rfl⟩
   ·rw [LV] at h;exact wpAny_eqBool_int h
   ·rw [LX] at h;exact SeqAt.EqAt.int_str i t y u _ _ _ _ h
  ·rcases kU hv with ⟨j,u,rfl,rfl⟩ | ⟨y,u,rfl,rfl⟩
   ·rw [LY] at h;exact SeqAt.EqAt.str_int x t j u _ _ _ _ h
   ·rw [LW] at h;exact wpAny_eqBool_str h
 «strs»:=fun k x t v h=>by
  rcases kU h with ⟨i,u,rfl,e⟩ | ⟨y,u,rfl,e⟩
  ·exact nomatch e
  ·injection e with e1 _
   subst e1
   cases v <;> rfl
theorem LZ(prog:Program)(w:World)(i:Int)(t:Tok):(fK prog w).is (.inl i) (.int i t)=true:=LS i t
theorem L0(prog:Program)(w:World)(x:Str)(t:Tok):(fK prog w).is (.inr x) (.str x t)=true:=LU x t
inductive V where
 | aN | bl (b:Bool) | int (i:Int) | str (x:Str) | j_ (b:Array UInt8) | sP (b:UInt64) | ref (a:Addr) | ty (n:String)
 deriving DecidableEq
def RelV:V→Value→Prop
 | .aN,u=>u=Value.none
 | .bl b,u=>u=Value.bool b
 | .int i,u=>∃t,u=Value.int i t
 | .str x,u=>∃t,u=Value.str x t
 | .j_ b,u=>∃t,u=Value.bytes b t
 | .sP b,u=>∃t,u=Value.float b t
 | .ref a,u=>u=Value.ref a
 | .ty n,u=>u=Value.type n
abbrev Vals:List V→List Value→Prop:=Paired RelV
variable {xs:List V} {us:List Value}
theorem Vals.length(r:Vals xs us):xs.length=us.length:=Paired.length r
theorem Vals.get:∀{xs:List V} {us:List Value} {i:Nat} {x:V},Vals xs us→xs[i]?=some x→∃u,us[i]?=some u∧RelV x u
 | _,_,_,_,.nil,e=>by simp at e
 | _,_,0,_,.cons r _,e=>by simp at e;subst e;exact ⟨_,rfl,r⟩
 | _,_,i+1,x,.cons _ t,e=>by
  obtain ⟨u,h1,h2⟩:=Vals.get (i:=i) (x:=x) t (by simpa using e)
  exact ⟨u,by simpa using h1,h2⟩
theorem Vals.set{x:V}{u:Value}(r:RelV x u):∀{xs:List V} {us:List Value} (i:Nat),Vals xs us→Vals (xs.set i x) (us.set i u)
 | _,_,_,.nil=>.nil
 | _,_,0,.cons _ t=>.cons r t
 | _,_,i+1,.cons q t=>.cons q (Vals.set r i t)
theorem Vals.append:∀{xs ys:List V} {us ws:List Value},Vals xs us→Vals ys ws→Vals (xs++ys) (us++ws)
 | _,_,_,_,.nil,s=>s
 | _,_,_,_,.cons r t,s=>.cons r (Vals.append t s)
theorem Vals.take:∀{xs:List V} {us:List Value} (n:Nat),Vals xs us→Vals (xs.take n) (us.take n)
 | _,_,0,_=>.nil
 | _,_,_+1,.nil=>.nil
 | _,_,n+1,.cons r t=>.cons r (Vals.take n t)
theorem Vals.drop:∀{xs:List V} {us:List Value} (n:Nat),Vals xs us→Vals (xs.drop n) (us.drop n)
 | _,_,0,r=>r
 | _,_,_+1,.nil=>.nil
 | _,_,n+1,.cons _ t=>Vals.drop n t
theorem Vals.none_of:∀{xs:List V} {us:List Value} {i:Nat},Vals xs us→xs[i]?=none→us[i]?=none:=fun{xs us i} r e=>by have h1:=r.length;have h2:xs.length≤i:=BG.mp e;exact BG.mpr (by lia)
def kd:Option V→Option Value→Prop
 | some v,some u=>RelV v u
 | none,none=>True
 | _,_=>False
def KV{κ:Type}:List (κ×V)→List (κ×Value)→Prop:=Paired fun(p:κ×V) (q:κ×Value)=>p.1=q.1∧RelV p.2 q.2
def kV:Key→V
 | .inl i=>.int i
 | .inr x=>.str x
inductive HO where
 | lst (xs:List V)
 | tup (xs:List V)
 | dK (kvs:List (Key×V)) | dT (kvs:List (List Key×V))
 | set (S:Int→Bool) (n:Nat)
 | ins (C dx:Addr) (fs:List (Str×V))
 | own (x:Addr)
 | xd (fs:List (Str×V))
 | met (f x:Addr)
 | d7 (lo hi:Int)
 | bb (o:Obj) (u:HO)
 | c_ (ps:Array Value)
 | ext (φ:Heap→Prop)
abbrev Hp:=Addr→Option HO
def upd(H:Hp)(a:Addr)(o:HO):Hp:=fun b=>if b=a then some o else H b
variable {H:Hp} {a:Addr} {o:HO}
theorem au:upd H a o a=some o:=by unfold upd;rw [ae rfl]
variable {b:Addr}
theorem aG(h:b≠a):upd H a o b=H b:=by unfold upd;rw [aa h]
theorem L3{u:HO}(h:H a=some o)(h':H b=some u)(d:o≠u):a≠b:=by intro e;subst e;rw [h] at h';exact d (Option.some.inj h')
theorem gv(h:H a=some o)(h':H b=none):a≠b:=by intro e;subst e;rw [h] at h';cases h'
section
variable (P:Program) (w:World)
def bV(H:Hp)(h:Heap)(a:Addr):HO→Prop
 | .lst xs=>xs.length≤sizeLine∧∃(its:List Value) (n:Nat),Vals xs its∧h.get? a=some {cls:=.type "list",data:=.seq its.toArray n}
 | .tup xs=>xs.length≤sizeLine∧∃its:List Value,Vals xs its∧IsTup h a its.toArray
 | .dK kvs=>kvs.length≤sizeLine∧(a == sysModules)=false∧∃vs,KV kvs vs∧h.DictOf (fK P w) a vs
 | .dT kvs=>kvs.length≤sizeLine∧(a == sysModules)=false∧∃xs:List (List Key×Addr×Value),
   Paired (fun(p:List Key×V) (q:List Key×Addr×Value)=>p.1=q.1∧H q.2.1=some (.tup (p.1.map kV))∧RelV p.2 q.2.2) kvs xs ∧
   ∃o es ep,h.get? a=some o∧o.ExactDict∧o.data=.dict es ep∧es.toList=xs.map (entryOfKey (tupleKind (fK P w)))∧(xs.map (·.1)).Nodup
 | .set S n=>h.SetOf (intKind P w) a S n
 | .ins C dx fs=>H dx=some (.own a)∧fs.length≤1000∧dx≠a∧h.get? a=some (PySem.W.instObj C dx) ∧
   ∃mA,h.Ns1 dx mA∧(∀f,kd (fs.lookup f) (mA f))∧PySem.Within mA (fs.map (·.1))
 | .own _=>∃o,h.get? a=some o
 | .xd fs=>∃mA,h.Ns1 a mA∧∀f,kd (fs.lookup f) (mA f)
 | .d7 lo hi=>∃t u v,h.get? a=some {cls:=.type "range",data:=.fields #[.int lo t,.int hi u,.int 1 v]}
 | .bb o u=>h.get? a=some o∧bV H h a u
 | .c_ ps=>h.get? a=some {cls:=.none,data:=.fields ps}
 | .met f x=>h.get? a=some (PySem.W.methodObj (.ref f) (.ref x))
 | .ext φ=>φ h∧(∃o,h.get? a=some o)∧∀h1 h2:Heap,φ h1→(∀o,h1.get? a=some o→h2.get? a=some o)→φ h2
def cq(H:Hp)(h:Heap):Prop:=∀a o,H a=some o→bV P w H h a o
end
section
variable {P:Program} {w:World} {H H':Hp} {h h':Heap} {a:Addr} {o:HO}
theorem bV.lt(x:bV P w H h a o):a<h.objs.size:=by
 cases o with
 | lst xs=>obtain ⟨_,_,_,_,e⟩:=x;exact aY e
 | tup xs=>obtain ⟨_,_,_,p⟩:=x;exact p.lt
 | dK kvs=>obtain ⟨_,_,_,_,o,_,_,e,_⟩:=x;exact aY e
 | dT kvs=>obtain ⟨_,_,_,_,o,_,_,e,_⟩:=x;exact aY e
 | set S n=>obtain ⟨o,_,_,_,e,_⟩:=x;exact aY e
 | ins C dx fs=>obtain ⟨_,_,_,e,_⟩:=x;exact aY e
 | own y=>obtain ⟨_,e⟩:=x;exact aY e
 | xd fs=>obtain ⟨_,⟨_,_,_,e,_⟩,_⟩:=x;exact aY e
 | d7 lo hi=>obtain ⟨_,_,_,e⟩:=x;exact aY e
 | bb ob u=>obtain ⟨e,_⟩:=x;exact aY e
 | c_ ps=>exact aY (show h.get? a=some _ from x)
 | met f y=>exact aY (show h.get? a=some _ from x)
 | ext φ=>obtain ⟨_,⟨_,e⟩,_⟩:=x;exact aY e
theorem Paired.BQ{α β:Type}{F G:α→β→Prop}:∀{l₁:List α} {l₂:List β},Paired F l₁ l₂→(∀a b,F a b→G a b)→Paired G l₁ l₂
 | _,_,.nil,_=>.nil
 | _,_,.cons r t,f=>.cons (f _ _ r) (Paired.BQ t f)
theorem bV.i6(x:bV P w H h a o)(k:∀b u,(b=a∨H b=some (.own a))→h.get? b=some u→h'.get? b=some u)
  (ho:∀b,H b=some (.own a)→H' b=some (.own a)) (ht:∀b xs,H b=some (.tup xs)→H' b=some (.tup xs)):bV P w H' h' a o:=by
 induction o with
 | lst xs=>obtain ⟨z,its,n,r,e⟩:=x;exact ⟨z,its,n,r,k _ _ (.inl rfl) e⟩
 | tup xs=>obtain ⟨z,its,r,ob,e,c⟩:=x;exact ⟨z,its,r,ob,k _ _ (.inl rfl) e,c⟩
 | dK kvs=>obtain ⟨z,y,vs,r,ob,es,ep,e,c⟩:=x;exact ⟨z,y,vs,r,ob,es,ep,k _ _ (.inl rfl) e,c⟩
 | dT kvs=>obtain ⟨z,y,xs,r,ob,es,ep,e,c⟩:=x;exact ⟨z,y,xs,Paired.BQ r fun p q z=>⟨z.1,ht _ _ z.2.1,z.2.2⟩,ob,es,ep,k _ _ (.inl rfl) e,c⟩
 | set S n=>obtain ⟨ob,es,ep,t,e,c⟩:=x;exact ⟨ob,es,ep,t,k _ _ (.inl rfl) e,c⟩
 | ins C dx fs=>obtain ⟨d,z,ne,e,mA,⟨od,es,ep,e2,c⟩,r⟩:=x;exact ⟨ho _ d,z,ne,k _ _ (.inl rfl) e,mA,⟨od,es,ep,k _ _ (.inr d) e2,c⟩,r⟩
 | own y=>obtain ⟨ob,e⟩:=x;exact ⟨ob,k _ _ (.inl rfl) e⟩
 | xd fs=>obtain ⟨mA,⟨od,es,ep,e,c⟩,r⟩:=x;exact ⟨mA,⟨od,es,ep,k _ _ (.inl rfl) e,c⟩,r⟩
 | d7 lo hi=>obtain ⟨t,u,v,e⟩:=x;exact ⟨t,u,v,k _ _ (.inl rfl) e⟩
 | bb ob u ih=>obtain ⟨e,q⟩:=x;exact ⟨k _ _ (.inl rfl) e,ih q⟩
 | c_ ps=>have e:h.get? a=some {cls:=.none,data:=.fields ps}:=x;show h'.get? a=some {cls:=.none,data:=.fields ps};exact k a _ (.inl rfl) e
 | met f y=>have e:h.get? a=some (PySem.W.methodObj (.ref f) (.ref y)):=x;show h'.get? a=some (PySem.W.methodObj (.ref f) (.ref y));exact k a _ (.inl rfl) e
 | ext φ=>obtain ⟨p,⟨o,e⟩,st⟩:=x;exact ⟨st _ _ p fun o q=>k _ _ (.inl rfl) q,⟨o,k _ _ (.inl rfl) e⟩,st⟩
theorem cq.lt(x:cq P w H h)(e:H a=some o):a<h.objs.size:=(x a o e).lt
theorem cq.fresh(x:cq P w H h)(e:h.objs.size≤a):H a=none:=by
 cases q:H a with
 | none=>rfl
 | some u=>exact absurd (dS (x.lt q) e) (fE _)
theorem cq.kept(x:cq P w H h)(k:∀b u,h.get? b=some u→h'.get? b=some u):cq P w H h':=fun a o e=>(x a o e).i6 (fun b u _ q=>k b u q) (fun _ q=>q) fun _ _ q=>q
theorem cq.laid(x:cq P w H h)(k:∀b u,h.get? b=some u→h'.get? b=some u)(hp:h.objs.size≤a)(new:bV P w (upd H a o) h' a o):cq P w (upd H a o) h':=fun b u e=>by
 have hn:=x.fresh hp;by_cases hb:b=a;·subst hb;rw [au] at e;cases e;exact new
 ·rw [aG hb] at e
  exact (x b u e).i6 (fun c v _ q=>k c v q) (fun c q=>by rw [aG (gv q hn)];exact q) fun c xs q=>by rw [aG (gv q hn)];exact q
end
def Rd(H:Hp)(a:Addr)(u:HO):Prop:=H a=some u∨∃o,H a=some (.bb o u)
variable {P:Program} {w:World} {h:Heap}
theorem Rd.ok{u:HO}(r:Rd H a u)(x:cq P w H h):bV P w H h a u:=by
 rcases r with r | ⟨o,r⟩;·exact x a u r
 ·obtain ⟨_,q⟩:=x a _ r
  exact q
def wm:Option HO→Prop
 | some (.lst _)=>True
 | some (.dK _)=>True
 | some (.dT _)=>True
 | some (.set _ _)=>True
 | some (.ins _ _ _)=>True
 | some (.ext _)=>True
 | _=>False
section
variable {P:Program} {w:World} {H:Hp} {h h':Heap} {x e:Addr} {o':HO}
theorem cq.write(ok:cq P w H h)(mu:wm (H x))(he:e=x∨H e=some (.own x))(k:∀b u,b≠e→h.get? b=some u→h'.get? b=some u)(sQ:∃u,h'.get? e=some u)
  (new:bV P w (upd H x o') h' x o'):cq P w (upd H x o') h':=fun b u q=>by
 have Fh:∀c y,H c=some (.own y)→c≠x:=fun c y r z=>by subst z;rw [r] at mu;exact mu
 have L4:∀c xs,H c=some (.tup xs)→c≠x:=fun c xs r z=>by subst z;rw [r] at mu;exact mu
 by_cases hb:b=x;·subst hb;rw [au] at q;cases q;exact new
 ·rw [aG hb] at q
  by_cases pZ:b=e
  ·have q':H b=some (.own x):=by
    rcases he with z | z;·exact absurd (pZ.trans z) hb
    ·rw [pZ];exact z
   rw [q] at q';cases q';obtain ⟨v,hv⟩:=sQ;exact ⟨v,by rw [pZ];exact hv⟩
  ·refine (ok b u q).i6 (fun c v hc r=>k c v ?_ r) (fun c r=>by rw [aG (Fh c b r)];exact r) fun c xs r=>by rw [aG (L4 c xs r)];exact r
   rcases hc with rfl | hc;·exact pZ
   ·rintro rfl
    rcases he with z | z;·exact Fh c b hc z
    ·rw [hc] at z;cases z;exact hb rfl
end
structure Un (fs ex:List Addr) (H H':Hp) (h h':Heap):Prop where
 keep:∀b o,h.get? b=some o→H b=none→b∉fs→b∉ex→h'.get? b=some o
 slot:∀b o,h.get? b=some o→H b=none→b∈fs→b∉ex→∃sl,h'.get? b=some {o with slots:=sl}
 free:∀b o,h.get? b=some o→H b=none→b∉ex→H' b=none
 there:∀b o,h.get? b=some o→b∉ex→∃o',h'.get? b=some o'
 f9:∀b xs,H b=some (.tup xs)→H' b=some (.tup xs)
 gw:∀b o u,H b=some (.bb o u)→H' b=some (.bb o u)
 gx:∀b ps,H b=some (.c_ ps)→∃more,H' b=some (.c_ (ps++more))
section
variable {fs BR ex ke:List Addr} {H H1 H2:Hp} {h h1 h2 h':Heap} {a x e:Addr} {o:HO}
theorem Un.any(u:Un fs ex H H1 h h1){ob:Obj}(q:h.get? b=some ob)(n:H b=none)(hx:b∉ex):∃sl,h1.get? b=some {ob with slots:=sl}:=by
 by_cases hb:b∈fs;·exact u.slot b ob q n hb hx
 ·exact ⟨ob.slots,u.keep b ob q n hb hx⟩
theorem Un.kept(k:∀b u,h.get? b=some u→h'.get? b=some u):Un fs ex H H h h':=
 ⟨fun b ob q _ _ _=>k b ob q,fun b ob q _ _ _=>⟨ob.slots,k b ob q⟩,fun _ _ _ n _=>n,fun b ob q _=>⟨ob,k b ob q⟩,fun _ _ q=>q,fun _ _ _ q=>q,fun _ ps q=>⟨#[],by rw [q];simp⟩⟩
theorem Un.refl:Un fs ex H H h h:=Un.kept fun _ _ q=>q
theorem Un.laid(k:∀b u,h.get? b=some u→h'.get? b=some u)(hp:h.objs.size≤a)(hn:H a=none):Un fs ex H (upd H a o) h h' where
 keep:=fun b u q _ _ _=>k b u q
 slot:=fun b u q _ _ _=>⟨u.slots,k b u q⟩
 free:=fun b u q n _=>by rw [aG (cx (dS (aY q) hp))];exact n
 there:=fun b u q _=>⟨u,k b u q⟩
 f9:=fun b xs q=>by rw [aG (gv q hn)];exact q
 gw:=fun b u xs q=>by rw [aG (gv q hn)];exact q
 gx:=fun b ps q=>⟨#[],by rw [aG (gv q hn),q];simp⟩
theorem Un.write(mu:wm (H x))(he:e=x∨H e=some (.own x))(k:∀b u,b≠e→h.get? b=some u→h'.get? b=some u)(sQ:∃u,h'.get? e=some u):Un fs ex H (upd H x o) h h':=by
 have hx:∀b,H b=none→b≠x:=fun b n z=>by subst z;rw [n] at mu;exact mu
 have hb:∀b,H b=none→b≠e:=fun b n z=>by
  subst z;rcases he with r | r;·exact hx b n r
  ·rw [n] at r;cases r
 have hm:∀b u,H b=some u→¬wm (some u)→b≠x:=fun b u q nm z=>by subst z;rw [q] at mu;exact nm mu
 refine ⟨fun b u q n _ _=>k b u (hb b n) q,fun b u q n _ _=>⟨u.slots,k b u (hb b n) q⟩,fun b u q n _=>by rw [aG (hx b n)];exact n,fun b u q _=>?_,
  fun b xs q=>by rw [aG (hm b _ q fun z=>z)];exact q,fun b u xs q=>by rw [aG (hm b _ q fun z=>z)];exact q,fun b ps q=>⟨#[],by rw [aG (hm b _ q fun z=>z),q];simp⟩⟩
 by_cases pZ:b=e;·subst pZ;exact sQ
 ·exact ⟨u,k b u pZ q⟩
end
def zc(h:Heap)(H:Hp):List Addr:=(List.range h.objs.size).filter fun a=>(H a).isSome
def kW(h:Heap)(H:Hp):Heap:=PySem.W.hideAll h (zc h H)
theorem L5(h:Heap)(H:Hp):(kW h H).objs.size=h.objs.size:=PySem.W.hideAll_size _ _
theorem L6{o:Obj}(e:h.get? b=some o)(n:H b=none):(kW h H).get? b=some o:=
 yE _ e fun hm=>by have q:(H b).isSome=true:=(fY.mp hm).2;rw [n] at q;simp at q
theorem L7{o:Obj}(e:(kW h H).get? b=some o):h.get? b=some o∧H b=none:=by
 have e':h.get? b=some o:=PySem.W.of_hideAll (zc h H) e;refine ⟨e',?_⟩;cases q:H b with
 | none=>rfl
 | some x=>
  have hm:b∈zc h H:=fY.mpr ⟨cR.mpr (aY e'),by simp [q]⟩
  have z:(kW h H).get? b=none:=PySem.W.hideAll_none (zc h H) hm;rw [z] at e;cases e
structure Mod (K:aJ) (mg:cH) (base:Heap):Prop where
 dv:K.In base
 glob:base.Ns mainGlobals mg
 blt:∃mb,base.Ns builtinsNs mb∧∀x:Str,x ≠ "__name__"→mb x=bootBuiltins x
 nolimit:base.NoLimit
structure Cx where
 prog:Program
 w:World
 K:PySem.W.Frag
 mg:Str→Option Value
 base:Heap
 A:Around
 N:List Str
 s₀:Shared
 H₀:Hp
 env:Env
 outer:List Env
 stack:List Env
 ex:List Addr
 fn:Str→Bool
 calm:Bool
 pn:List (Addr×Obj)
 xe:Value→Shared→Prop
def cK(l:List Env):List Addr:=l.filterMap (·.frame)
abbrev Cx.fs (X:Cx):List Addr:=cK X.outer
def p9(sc:Scope)(x:Str):Prop:=sc.names.lookup x=some .local∨sc.names.lookup x=some .cell∨sc.names.lookup x=some .free
def Loc(sc:Scope)(x:Str):Prop:=sc.names.lookup x=some .local∨sc.names.lookup x=some .cell
def Look(env:Env)(h:Heap)(m:cH)(x:Str)(u:Value):Prop:=
 (env.kindOf x=some .local∧m x=some u)∨((env.kindOf x=some .cell∨env.kindOf x=some .free)∧∃c,env.cells.lookup x=some c∧h.IsCell c (some u))
structure Cx.Ok (X:Cx):Prop where
 mod:Mod X.K X.mg X.base
 kind:X.env.scope.kind=.function
 glob:X.env.globals=mainGlobals
 blt:X.env.builtins=builtinsNs
 above:X.s₀.heap.objs.size≤X.env.locals
 inj:∀x y c,X.env.cells.lookup x=some c→X.env.cells.lookup y=some c→x=y
 has:∀x,(X.env.kindOf x=some .cell∨X.env.kindOf x=some .free)→∃c,X.env.cells.lookup x=some c
 p_:∀x c,X.fn x=true→X.env.cells.lookup x=some c→X.s₀.heap.objs.size≤c
 hd:X.calm=true→X.A.handled=none
 frames:X.A.frames=some X.stack
 i7:X.stack=X.outer∨(X.stack=X.env::X.outer∧X.env.frame=some X.env.locals)
 Fm:∀b∈X.ex,b≠X.env.locals∧∀x c,X.env.cells.lookup x=some c→c≠b
 bs:∀b o,X.base.get? b=some o→X.s₀.heap.get? b=some o∧X.H₀ b=none
 i8:X.base.objs.size≤X.s₀.heap.objs.size
 qa:∀b o,X.base.get? b=some o→b∉X.ex
 qb:∀b∈X.ex,b∉X.fs
 kf:X.s₀.heap.FunFrames X.base X.outer
 oi:∀b∈X.fs,X.H₀ b=none
structure Inv (X:Cx) (pins:aQ) (σ:List (Option V)) (H:Hp) (s:Shared):Prop where
 ok:X.Ok
 os:s.os=X.s₀.os
 bare:AllBare s.gens
 base:Un X.fs X.ex X.H₀ H X.s₀.heap s.heap
 loc:∃m,s.heap.Ns X.env.locals m∧∀(i:Nat) (x:Str) (v:V),X.N[i]?=some x→σ[i]?=some (some v)→p9 X.env.scope x→∃u,RelV v u∧Look X.env s.heap m x u
 cell:∀x c,X.env.cells.lookup x=some c→∃v,s.heap.IsCell c v
 free:H X.env.locals=none
 jF:∀x c,X.env.cells.lookup x=some c→H c=none
 pin:∀p∈X.pn++pins,s.heap.get? p.1=some p.2∧H p.1=none∧p.1≠X.env.locals∧p.1∉X.fs∧∀v,p.2.data≠.cell v
 ax:cq X.prog X.w H s.heap
 len:σ.length=X.N.length
section
variable {X:Cx} {pins:aQ} {σ:List (Option V)} {H H':Hp} {s:Shared} {h':Heap}
theorem Cx.Ok.L8(ok:X.Ok){o:Obj}(e:X.base.get? b=some o):b∉X.fs:=fun hb=>by have:=(ok.kf.mem hb).1;rw [e] at this;cases this
theorem Inv.bs(I:Inv X pins σ H s):∀b o,X.base.get? b=some o→s.heap.get? b=some o∧H b=none:=fun b o e=>⟨I.base.keep b o (I.ok.bs b o e).1 (I.ok.bs b o e).2 (I.ok.L8 e) (I.ok.qa b o e),I.base.free b o (I.ok.bs b o e).1 (I.ok.bs b o e).2 (I.ok.qa b o e)⟩
theorem Inv.bk(I:Inv X pins σ H s):∀b o,X.base.get? b=some o→s.heap.get? b=some o:=fun b o e=>(I.bs b o e).1
theorem Inv.mod(I:Inv X pins σ H s):Mod X.K X.mg X.base:=I.ok.mod
theorem Inv.eY(I:Inv X pins σ H s):X.K.In s.heap:=I.ok.mod.dv.keeps I.bk
theorem Inv.lt(I:Inv X pins σ H s):X.env.locals<s.heap.objs.size:=let ⟨_,hn,_⟩:=I.loc;hn.lt
theorem Inv.sz(I:Inv X pins σ H s):X.s₀.heap.objs.size≤s.heap.objs.size:=b9 I.ok.above (nN I.lt)
theorem Inv.L9(I:Inv X pins σ H s)(h:s.heap.objs.size≤a):a∉X.fs:=fun hb=>by obtain ⟨_,o,ho,_⟩:=I.ok.kf.mem hb;exact absurd (dS (aY ho) (b9 I.sz h)) (fE _)
theorem Inv.qc(I:Inv X pins σ H s):∀x c,X.env.cells.lookup x=some c→c≠X.env.locals:=fun x c e z=>by obtain ⟨v,o,ho,hd⟩:=I.cell x c e;obtain ⟨m,⟨o',es,ep,mj,BS,_⟩,_⟩:=I.loc;rw [z,mj] at ho;cases ho;rw [BS] at hd;cases hd
theorem Inv.kf(I:Inv X pins σ H s):s.heap.FunFrames X.base X.outer:=by
 have all:∀(l:List Env),(∀b∈cK l,b∈X.fs)→X.s₀.heap.FunFrames X.base l→s.heap.FunFrames X.base l:=by
  intro l
  induction l with
  | nil=>intro _ _;trivial
  | cons env r ih=>
   intro hs hl;obtain ⟨hk,⟨L,o,hf,hn,ho,hd⟩,hr⟩:=hl;have hL:L∈X.fs:=hs L (by unfold cK;rw [yF,hf];exact d5)
   obtain ⟨sl,e⟩:=I.base.slot L o ho (I.ok.oi L hL) hL fun z=>I.ok.qb L z hL;exact ⟨hk,⟨L,_,hf,hn,e,hd⟩,ih (fun b hb=>hs b (by unfold cK;rw [yF,hf];exact eC _ hb)) hr⟩
 exact all X.outer (fun _ hb=>hb) I.ok.kf
theorem Inv.stack(I:Inv X pins σ H s):s.heap.FunFrames X.base X.stack:=by
 rcases I.ok.i7 with e | ⟨e,hf⟩;·rw [e];exact I.kf
 ·rw [e]
  obtain ⟨m,hn,_⟩:=I.loc;refine .cons (by rw [I.ok.kind];decide) hf hn ?_ I.kf
  exact Heap.get?_none_of_le (b9 I.ok.i8 I.ok.above)
theorem Inv.wu(I:Inv X pins σ H s):∀b∈cK X.stack,b∈X.env.locals::X.fs:=fun b hb=>by
 rcases I.ok.i7 with e | ⟨e,hf⟩;·rw [e] at hb;exact eC _ hb
 ·rw [e] at hb
  unfold cK at hb;rw [yF,hf] at hb;exact hb
theorem Inv.wx(I:Inv X pins σ H s):∀b∈cK X.stack,H b=none:=fun b hb=>by
 rcases bO.mp (I.wu b hb) with e | hb;·rw [e];exact I.free
 ·obtain ⟨_,o,ho,_⟩:=I.ok.kf.mem hb
  exact I.base.free b o ho (I.ok.oi b hb) fun z=>I.ok.qb b z hb
theorem Inv.step{g':Array GenState}{t':Nat}{d':Drawn}{ch:List Addr}(I:Inv X pins σ H s)
  (kX:∀b∈ch,(b∈X.ex∨X.s₀.heap.objs.size≤b)∧b≠X.env.locals∧(∀x c,X.env.cells.lookup x=some c→c≠b)∧∀p∈X.pn++pins,p.1≠b)
  (keep:∀b o,b≠X.env.locals→b∉X.fs→b∉ch→s.heap.get? b=some o→H b=none→h'.get? b=some o)
  (slot:∀b o,b≠X.env.locals→b∈X.fs→b∉ch→s.heap.get? b=some o→H b=none→∃sl,h'.get? b=some {o with slots:=sl}) (free:∀b o,b∉ch→s.heap.get? b=some o→H b=none→H' b=none)
  (there:∀b o,b∉ch→s.heap.get? b=some o→∃o',h'.get? b=some o')
  (f9:∀b xs,H b=some (.tup xs)→H' b=some (.tup xs)) (gw:∀b o u,H b=some (.bb o u)→H' b=some (.bb o u)) (gx:∀b ps,H b=some (.c_ ps)→∃more,H' b=some (.c_ (ps++more)))
  (ns:∀m,s.heap.Ns X.env.locals m→h'.Ns X.env.locals m) (ax:cq X.prog X.w H' h') (hg:AllBare g') :
  Inv X pins σ H' {s with heap:=h',gens:=g',drawn:=d',toks:=t'}:=by
 have kY:∀b o,X.s₀.heap.get? b=some o→b≠X.env.locals:=fun b o e=>cx (dS (aY e) I.ok.above);have zd:∀b o,X.s₀.heap.get? b=some o→b∉X.ex→b∉ch:=fun b o e hx hb=>by
  rcases (kX b hb).1 with z | z;·exact hx z
  ·exact absurd (dS (aY e) z) (fE _)
 have cellK:∀x c,X.env.cells.lookup x=some c→∀v,s.heap.IsCell c v→h'.IsCell c v:=fun x c e v ⟨o,ho,hd⟩=>by
  have wy:c∉ch:=fun z=>(kX c z).2.2.1 x c e rfl;by_cases hc:c∈X.fs
  ·obtain ⟨sl,q⟩:=slot c o (I.qc x c e) hc wy ho (I.jF x c e)
   exact ⟨_,q,hd⟩
  ·exact ⟨o,keep c o (I.qc x c e) hc wy ho (I.jF x c e),hd⟩
 refine ⟨I.ok,I.os,hg,⟨fun b o e n hb hx=>?_,fun b o e n hb hx=>?_,fun b o e n hx=>?_,fun b o e hx=>?_,fun b xs e=>f9 b xs (I.base.f9 b xs e),fun b o xs e=>gw b o xs (I.base.gw b o xs e),fun b ps e=>?_⟩,?_,fun x c e=>?_,?_,fun x c e=>?_,fun p hp=>?_,ax,I.len⟩;·exact keep b o (kY b o e) hb (zd b o e hx) (I.base.keep b o e n hb hx) (I.base.free b o e n hx)
 ·obtain ⟨sl,e1⟩:=I.base.slot b o e n hb hx
  obtain ⟨L_,e2⟩:=slot b _ (kY b o e) hb (zd b o e hx) e1 (I.base.free b o e n hx);exact ⟨L_,e2⟩
 ·obtain ⟨o',e1⟩:=I.base.there b o e hx
  exact free b o' (zd b o e hx) e1 (I.base.free b o e n hx)
 ·obtain ⟨o',e1⟩:=I.base.there b o e hx
  exact there b o' (zd b o e hx) e1
 ·obtain ⟨m1,e1⟩:=I.base.gx b ps e
  obtain ⟨m2,e2⟩:=gx b _ e1;exact ⟨m1++m2,by rw [e2,Array.append_assoc]⟩
 ·obtain ⟨m,hn,hl⟩:=I.loc
  refine ⟨m,ns m hn,fun i x v e1 e2 e3=>?_⟩;obtain ⟨u,r,l⟩:=hl i x v e1 e2 e3;refine ⟨u,r,?_⟩;rcases l with l | ⟨k,c,e,z⟩;·exact .inl l
  ·exact .inr ⟨k,c,e,cellK x c e _ z⟩
 ·obtain ⟨v,z⟩:=I.cell x c e
  exact ⟨v,cellK x c e v z⟩
 ·obtain ⟨m,⟨o,_,_,ho,_⟩,_⟩:=I.loc
  exact free _ o (fun z=>(kX _ z).2.1 rfl) ho I.free
 ·obtain ⟨v,o,ho,hd⟩:=I.cell x c e
  exact free c o (fun z=>(kX c z).2.2.1 x c e rfl) ho (I.jF x c e)
 ·obtain ⟨e,n,ne,nf,d⟩:=I.pin p hp
  have wy:p.1∉ch:=fun z=>(kX p.1 z).2.2.2 p hp rfl;exact ⟨keep p.1 p.2 ne nf wy e n,free p.1 p.2 wy e n,ne,nf,d⟩
variable {t':Nat}
theorem Inv.un(I:Inv X pins σ H s)(u:Un X.fs [] H H' s.heap h')(ax:cq X.prog X.w H' h'):Inv X pins σ H' {s with heap:=h',toks:=t'}:=by
 obtain ⟨m,⟨o,es,ep,ho,r⟩,_⟩:=id I.loc;obtain ⟨sl,hL⟩:=u.any ho I.free (by simp)
 exact I.step (g':=s.gens) (d':=s.drawn) (ch:=[]) (fun _ z=>nomatch z) (fun b o _ hb _ e n=>u.keep b o e n hb (by simp)) (fun b o _ hb _ e n=>u.slot b o e n hb (by simp)) (fun b o _ e n=>u.free b o e n (by simp)) (fun b o _ e=>u.there b o e (by simp)) u.f9 u.gw u.gx (fun m' hm=>by obtain ⟨o',mq,iz,mj,r'⟩:=hm;rw [ho] at mj;cases mj;exact ⟨_,mq,iz,hL,r'⟩) ax I.bare
variable {ch:List Addr}
theorem Inv.call{g':Array GenState}{d':Drawn}(I:Inv X pins σ H s)(u:Un (cK X.stack) ch H H' s.heap h')(ax:cq X.prog X.w H' h')(hg:AllBare g')
  (kX:∀b∈ch,(b∈X.ex∨X.s₀.heap.objs.size≤b)∧b≠X.env.locals∧(∀x c,X.env.cells.lookup x=some c→c≠b)∧∀p∈X.pn++pins,p.1≠b) :
  Inv X pins σ H' {s with heap:=h',gens:=g',drawn:=d',toks:=t'}:=by
 obtain ⟨m,⟨o,es,ep,ho,r⟩,_⟩:=id I.loc;obtain ⟨sl,hL⟩:=u.any ho I.free fun z=>(kX _ z).2.1 rfl;exact I.step (ch:=ch) kX (fun b o hL hb hc e n=>u.keep b o e n (fun z=>(bO.mp (I.wu b z)).elim hL hb) hc) (fun b o _ _ hc e n=>u.any e n hc) (fun b o hc e n=>u.free b o e n hc) (fun b o hc e=>u.there b o e hc) u.f9 u.gw u.gx (fun m' hm=>by obtain ⟨o',mq,iz,mj,r'⟩:=hm;rw [ho] at mj;cases mj;exact ⟨_,mq,iz,hL,r'⟩) ax hg
theorem Inv.turned{it:Addr}(I:Inv X pins σ H s)(k:∀b o,b≠it→s.heap.get? b=some o→h'.get? b=some o)(hn:H it=none)(hL:it≠X.env.locals)
  (h1:it∈X.ex∨X.s₀.heap.objs.size≤it) (h2:∀x c,X.env.cells.lookup x=some c→c≠it) (h3:∀p∈X.pn++pins,p.1≠it):Inv X pins σ H {s with heap:=h',toks:=t'}:=by
 have Fn:∀b u,H b=some u→b≠it:=fun b u e z=>by rw [z,hn] at e;cases e
 refine I.step (g':=s.gens) (d':=s.drawn) (ch:=[it]) (fun b hb=>?_) (fun b o _ _ hc e _=>k b o (fun z=>hc (by simp [z])) e) (fun b o _ _ hc e _=>⟨o.slots,k b o (fun z=>hc (by simp [z])) e⟩) (fun _ _ _ _ n=>n)
  (fun b o hc e=>⟨o,k b o (fun z=>hc (by simp [z])) e⟩) (fun _ _ e=>e) (fun _ _ _ e=>e) (fun b ps e=>⟨#[],by rw [e];simp⟩) (fun m hm=>?_) (fun b u e=>?_) I.bare
 ·have e:b=it:=by simpa using hb
  subst e;exact ⟨h1,hL,h2,h3⟩
 ·obtain ⟨o,es,ep,ho,r⟩:=hm
  exact ⟨o,es,ep,k _ o (Ne.symm hL) ho,r⟩
 ·refine (I.ax b u e).i6 (fun c v hc q=>k c v ?_ q) (fun _ q=>q) fun _ _ q=>q
  rcases hc with z | z;·rw [z];exact Fn b u e
  ·exact Fn c _ z
theorem Inv.tok(I:Inv X pins σ H s)(t:Nat):Inv X pins σ H {s with toks:=t}:=I.un (h':=s.heap) (t':=t) Un.refl I.ax
theorem Inv.kept(I:Inv X pins σ H s)(k:∀b u,s.heap.get? b=some u→h'.get? b=some u):Inv X pins σ H {s with heap:=h',toks:=t'}:=I.un (Un.kept k) (I.ax.kept k)
theorem Inv.laid(I:Inv X pins σ H s)(k:∀b u,s.heap.get? b=some u→h'.get? b=some u)(hp:s.heap.objs.size≤a)(new:bV X.prog X.w (upd H a o) h' a o) :
  Inv X pins σ (upd H a o) {s with heap:=h',toks:=t'}:=I.un (Un.laid k hp (I.ax.fresh hp)) (I.ax.laid k hp new)
theorem Inv.write{x e:Addr}(I:Inv X pins σ H s)(mu:wm (H x))(he:e=x∨H e=some (.own x))(k:∀b u,b≠e→s.heap.get? b=some u→h'.get? b=some u)(sQ:∃u,h'.get? e=some u)
  (new:bV X.prog X.w (upd H x o) h' x o):Inv X pins σ (upd H x o) {s with heap:=h',toks:=t'}:=I.un (Un.write mu he k sQ) (I.ax.write mu he k sQ new)
theorem Inv.Fp{Fq:aQ}(I:Inv X pins σ H s)(h:∀p∈Fq,s.heap.get? p.1=some p.2∧H p.1=none∧p.1≠X.env.locals∧p.1∉X.fs∧∀v,p.2.data≠.cell v):Inv X Fq σ H s:=
 ⟨I.ok,I.os,I.bare,I.base,I.loc,I.cell,I.free,I.jF,fun p hp=>(cY.mp hp).elim (fun z=>I.pin p (kK _ z)) (h p),I.ax,I.len⟩
variable {i:Nat} {x:Str}
theorem Fs{N:List Str}(hN:N.Nodup){j:Nat}(a:N[i]?=some x)(b:N[j]?=some x):i=j:=by obtain ⟨h1,e1⟩:=bW.mp a;obtain ⟨h2,e2⟩:=bW.mp b;exact (sj hN).mp (e1.trans e2.symm)
variable {M:Model} {A:Around} {E:aR} {u:Value} {Q:Unit→Shared→Prop}
theorem BU{v:V}(I:Inv X pins σ H s)(hN:X.N.Nodup)(hi:X.N[i]?=some x)(hx:Loc X.env.scope x)(r:RelV v u)
  (h:∀s',Inv X pins (σ.set i (some v)) H s'→(∃a,Heap.SameBut a s.heap s'.heap∧(a=X.env.locals∨X.env.cells.lookup x=some a))→Q () s') (hf:X.fn x=true∨X.env.scope.names.lookup x=some .local:=by first | exact .inl rfl | exact .inr rfl | assumption):wpAny M A (storeName X.env x u) Q E s:=by
 obtain ⟨m,hn,hl⟩:=id I.loc;have Ma:(X.env.scope.kind == .class || (X.env.scope.kind == .module && X.env.locals != X.env.globals))=false:=by rw [I.ok.kind];rfl
 have Ft:i<σ.length:=by rw [I.len];exact (bW.mp hi).1
 have qc:=I.qc;have tracked:∀{a:Addr} {h':Heap},(∃o,s.heap.get? a=some o∧H a=none)→Heap.SameBut a s.heap h'→cq X.prog X.w H h':=fun{a h'} ha hs b ob e=>by
  obtain ⟨_,_,Fu⟩:=ha;refine (I.ax b ob e).i6 (fun c w' hc q=>(hs.2 c ?_).trans q) (fun _ q=>q) fun _ _ q=>q;rintro rfl;rcases hc with rfl | hc;·rw [Fu] at e;cases e
  ·rw [Fu] at hc;cases hc
 rcases hx with hk | hk
 ·refine wpAny_storeName_local hk hn (fun h' BV hs=>?_) Ma
  obtain ⟨oL,_,_,Mb,_⟩:=id hn;refine h _ ⟨I.ok,I.os,I.bare,⟨fun b o e n hb hx=>?_,fun b o e n hb hx=>?_,I.base.free,fun b o e hx=>?_,I.base.f9,I.base.gw,I.base.gx⟩,⟨_,BV,fun j y v' e1 e2 e3=>?_⟩,fun y c e=>?_,I.free,I.jF,fun p hp=>?_,tracked ⟨oL,Mb,I.free⟩ hs,by simpa using I.len⟩ ⟨_,hs,.inl rfl⟩
  ·exact (hs.2 b (cx (dS (aY e) I.ok.above))).trans (I.base.keep b o e n hb hx)
  ·obtain ⟨sl,e1⟩:=I.base.slot b o e n hb hx
   exact ⟨sl,(hs.2 b (cx (dS (aY e) I.ok.above))).trans e1⟩
  ·obtain ⟨o',e1⟩:=I.base.there b o e hx
   exact ⟨o',(hs.2 b (cx (dS (aY e) I.ok.above))).trans e1⟩
  ·by_cases hj:j=i
   ·subst hj
    rw [hi] at e1;cases e1;rw [List.getElem?_set_self Ft] at e2;cases e2;exact ⟨u,r,.inl ⟨hk,by simp⟩⟩
   ·rw [List.getElem?_set_ne (Ne.symm hj)] at e2
    obtain ⟨u',r',q⟩:=hl j y v' e1 e2 e3;refine ⟨u',r',?_⟩;rcases q with ⟨k,e⟩ | ⟨k,c,e,z⟩
    ·refine .inl ⟨k,?_⟩
     have:y≠x:=fun e=>hj (Fs hN e1 (e▸hi));simp [this,e]
    ·exact .inr ⟨k,c,e,z.sameBut hs (qc y c e)⟩
  ·obtain ⟨w',z⟩:=I.cell y c e
   exact ⟨w',z.sameBut hs (qc y c e)⟩
  ·obtain ⟨e,n,ne,nf,d⟩:=I.pin p hp
   exact ⟨(hs.2 p.1 ne).trans e,n,ne,nf,d⟩
 ·have BW:X.fn x=true:=by
   rcases hf with z | z;·exact z
   ·rw [z] at hk;cases hk
  obtain ⟨c,hc⟩:=I.ok.has x (.inl hk);obtain ⟨w',z⟩:=I.cell x c hc;refine wpAny_storeName_cell I.ok.kind hk hc z (fun h' eS hs=>?_);obtain ⟨oc,Fv,Mc⟩:=id z;refine h {s with heap:=h'} ⟨I.ok,I.os,I.bare,⟨fun b o e n hb hx=>?_,fun b o e n hb hx=>?_,I.base.free,fun b o e hx=>?_,I.base.f9,I.base.gw,I.base.gx⟩,⟨m,hn.sameBut hs (Ne.symm (qc x c hc)),fun j y v' e1 e2 e3=>?_⟩,fun y c' e=>?_,I.free,I.jF,fun p hp=>?_,tracked ⟨oc,Fv,I.jF x c hc⟩ hs,by simpa using I.len⟩ ⟨c,hs,.inr hc⟩
  ·exact (hs.2 b (cx (dS (aY e) (I.ok.p_ x c BW hc)))).trans (I.base.keep b o e n hb hx)
  ·obtain ⟨sl,e1⟩:=I.base.slot b o e n hb hx
   exact ⟨sl,(hs.2 b (cx (dS (aY e) (I.ok.p_ x c BW hc)))).trans e1⟩
  ·obtain ⟨o',e1⟩:=I.base.there b o e hx
   exact ⟨o',(hs.2 b (cx (dS (aY e) (I.ok.p_ x c BW hc)))).trans e1⟩
  ·by_cases hj:j=i
   ·subst hj
    rw [hi] at e1;cases e1;rw [List.getElem?_set_self Ft] at e2;cases e2;exact ⟨u,r,.inr ⟨.inl hk,c,hc,eS⟩⟩
   ·rw [List.getElem?_set_ne (Ne.symm hj)] at e2
    obtain ⟨u',r',q⟩:=hl j y v' e1 e2 e3;refine ⟨u',r',?_⟩;rcases q with q | ⟨k,c',e,z'⟩;·exact .inl q
    ·refine .inr ⟨k,c',e,z'.sameBut hs ?_⟩
     rintro rfl;exact hj (Fs hN e1 (I.ok.inj _ _ _ e hc▸hi))
  ·by_cases wA:c'=c
   ·subst wA;exact ⟨_,eS⟩
   ·obtain ⟨w2,z2⟩:=I.cell y c' e
    exact ⟨w2,z2.sameBut hs wA⟩
  ·obtain ⟨e,n,ne,nf,d⟩:=I.pin p hp
   refine ⟨(hs.2 p.1 ?_).trans e,n,ne,nf,d⟩;intro q;rw [q,Fv] at e;have q':oc=p.2:=Option.some.inj e;exact d w' (by rw [←q'];exact Mc)
theorem Fw{v:V}(I:Inv X pins σ H s)(hN:X.N.Nodup)(hi:X.N[i]?=some x)(hx:Loc X.env.scope x)(r:RelV v u)
  (h:∀s',Inv X pins (σ.set i (some v)) H s'→Q () s') (hf:X.fn x=true∨X.env.scope.names.lookup x=some .local:=by first | exact .inl rfl | exact .inr rfl | assumption):wpAny M A (storeName X.env x u) Q E s:=
 BU I hN hi hx r (fun s' I' _=>h s' I') hf
theorem Inv.qd{s':Shared}(I:Inv X pins σ H s)(ho:s'.os=s.os)(u:Un (cK X.stack) ch H H' s.heap s'.heap)(ax:cq X.prog X.w H' s'.heap)(hg:AllBare s'.gens)
  (kX:∀b∈ch,(b∈X.ex∨X.s₀.heap.objs.size≤b)∧b≠X.env.locals∧(∀x c,X.env.cells.lookup x=some c→c≠b)∧∀p∈X.pn++pins,p.1≠b):Inv X pins σ H' s':=by
 obtain ⟨h',g',d',t',o'⟩:=s';have e:o'=s.os:=ho;subst e;exact I.call (g':=g') (t':=t') (d':=d') u ax hg kX
end
abbrev XK:=Value→Option Addr→Hp→Prop
abbrev St:=List (Option V)
abbrev VK:=V→Hp→Prop
abbrev TE:=St→Hp→VK→Prop
abbrev TT:=St→Hp→(Bool→Hp→Prop)→Prop
abbrev TA:=St→Hp→(List V→Hp→Prop)→Prop
structure Ends where
 nx:St→Hp→Prop
 rt:VK
 bk:St→Hp→Prop:=fun _ _=>False
 ct:St→Hp→Prop:=fun _ _=>False
abbrev TS:=Ends→St→Hp→Prop
def EP(X:Cx)(pins:aQ)(σ:St)(Q:VK)(u:Value)(s':Shared):Prop:=∃v H',Inv X pins σ H' s'∧RelV v u∧Q v H'
def TP(X:Cx)(pins:aQ)(σ:St)(Q:Bool→Hp→Prop)(b:Bool)(s':Shared):Prop:=∃H',Inv X pins σ H' s'∧Q b H'
def AP(X:Cx)(pins:aQ)(σ:St)(Q:List V→Hp→Prop)(us:List Value)(s':Shared):Prop:=∃vs H',Inv X pins σ H' s'∧Vals vs us∧Q vs H'
def SP(X:Cx)(pins:aQ)(D:Ends)(f:Flow)(s':Shared):Prop:=
 match f with
 | .next=>∃σ' H',Inv X pins σ' H' s'∧D.nx σ' H'
 | .brk=>∃σ' H',Inv X pins σ' H' s'∧D.bk σ' H'
 | .cont=>∃σ' H',Inv X pins σ' H' s'∧D.ct σ' H'
 | .ret u=>∃v σ' H',Inv X pins σ' H' s'∧RelV v u∧D.rt v H'
def PE(X:Cx)(e:Expr)(t:TE):Prop:=
 ∀(pins:aQ) (s:Shared) (σ:St) (H:Hp) (Q:VK),Inv X pins σ H s→t σ H Q→wpAny (model X.prog X.w) X.A (eval e X.env) (EP X pins σ Q) X.xe s
def PT(X:Cx)(e:Expr)(t:TT):Prop:=
 ∀(pins:aQ) (s:Shared) (σ:St) (H:Hp) (Q:Bool→Hp→Prop),Inv X pins σ H s→t σ H Q→wpAny (model X.prog X.w) X.A (isTrue e X.env (eval e X.env)) (TP X pins σ Q) X.xe s
def PW(X:Cx)(e:Expr)(t:TT):Prop:=
 ∀(whole:Sem Value) (pins:aQ) (s:Shared) (σ:St) (H:Hp) (Q:Bool→Hp→Prop),Inv X pins σ H s→t σ H Q→wpAny (model X.prog X.w) X.A (isTrue e X.env whole) (TP X pins σ Q) X.xe s
variable {X:Cx}
theorem PW.pt{e:Expr}{t:TT}(h:PW X e t):PT X e t:=h _
def PA(X:Cx)(es:List Expr)(t:TA):Prop:=
 ∀(pos:Pos) (pins:aQ) (s:Shared) (σ:St) (H:Hp) (Q:List V→Hp→Prop),Inv X pins σ H s→t σ H Q→wpAny (model X.prog X.w) X.A (spliced (backTo pos (starEach es X.env))) (AP X pins σ Q) X.xe s
def PS(X:Cx)(st:Stmt)(t:TS):Prop:=
 ∀(pins:aQ) (s:Shared) (σ:St) (H:Hp) (D:Ends),Inv X pins σ H s→t D σ H→wpAny (model X.prog X.w) X.A (exec st X.env) (SP X pins D) X.xe s
def fN(X:Cx)(st:List Stmt)(t:TS):Prop:=
 ∀(pins:aQ) (s:Shared) (σ:St) (H:Hp) (D:Ends),Inv X pins σ H s→t D σ H→wpAny (model X.prog X.w) X.A (execs st X.env) (SP X pins D) X.xe s
variable {M:Model} {A:Around} {E:aR} {s:Shared}
theorem aK{α:Type}{t:Sem α}{Q Q':α→Shared→Prop}(h:wpAny M A t Q E s)(hQ:∀a s,Q a s→Q' a s):wpAny M A t Q' E s:=cS h hQ fun _ _ x=>x
section
variable {X:Cx}
variable {pins:aQ} {σ:St}
theorem bin{a b:Expr}{ta tb:TE}(ha:PE X a ta)(hb:PE X b tb){R:V→V→Hp→Prop}(I:Inv X pins σ H s)(h:ta σ H fun x H1=>tb σ H1 fun y H2=>R x y H2)
  {α:Type} {Q:α→Shared→Prop} {f:Value→Value→Sem α}
  (hf:∀v u s2 x y H2,Inv X pins σ H2 s2→RelV x v→RelV y u→R x y H2→wpAny (model X.prog X.w) X.A (f v u) Q X.xe s2) :
  wpAny (model X.prog X.w) X.A (eval a X.env) (fun v s₁=>wpAny (model X.prog X.w) X.A (eval b X.env) (fun u s₂=>wpAny (model X.prog X.w) X.A (f v u) Q X.xe s₂) X.xe s₁) X.xe s:=by
 refine aK (ha pins s σ H _ I h) fun v s1 ⟨x,H1,I1,r1,q1⟩=>?_;refine aK (hb pins s1 σ H1 _ I1 q1) fun u s2 ⟨y,H2,I2,r2,q2⟩=>?_;exact hf v u s2 x y H2 I2 r1 r2 q2
def Fx(i:Nat):TE:=fun σ H Q=>∃v,σ[i]?=some (some v)∧Q v H
def tC(v:V):TE:=fun _ H Q=>Q v H
variable {x:Str} {pos:Pos}
theorem Md{i:Nat}(hN:X.N[i]?=some x)(hv:p9 X.env.scope x)(hd:(x == ("__debug__":Str))=false:=by decide)(dW:(x == ("__classdict__":Str))=false:=by decide):PE X (.Name x pos) (Fx i):=by
 intro pins s σ H Q I h;obtain ⟨v,e,h⟩:=h;obtain ⟨m,hn,hl⟩:=I.loc;obtain ⟨u,r,l⟩:=hl i x v hN e hv;have fin:EP X pins σ Q u s:=⟨v,H,I,r,h⟩;rcases l with ⟨hk,hm⟩ | ⟨hk,c,hc,mr⟩;·exact wpAny_Name (wpAny_loadName_local I.ok.kind hk hn hm fin) hd
 ·rcases hk with hk | hk
  ·exact wpAny_Name (wpAny_loadName_cell I.ok.kind hk hc mr fin) hd
  ·exact wpAny_Name (wpAny_loadName_free I.ok.kind hk hc mr fin dW) hd
theorem aD{i j pos}:PE X (.Constant (.int i) j pos) (tC (.int i)):=fun _ _ _ H _ I h=>wpAny_Constant_int ⟨.int i,H,I.tok _,⟨_,rfl⟩,h⟩
theorem gy{b j pos}:PE X (.Constant (.bool b) j pos) (tC (.bl b)):=fun _ _ _ H _ I h=>Constant_bool ⟨.bl b,H,I,rfl,h⟩
theorem oj{j pos}:PE X (.Constant .none j pos) (tC .aN):=fun _ _ _ H _ I h=>Constant_none ⟨.aN,H,I,rfl,h⟩
theorem wB{x j pos}:PE X (.Constant (.str x) j pos) (tC (.str x)):=fun _ _ _ H _ I h=>Calls.Constant_str ⟨.str x,H,I.tok _,⟨_,rfl⟩,h⟩
def Gl(X:Cx)(x:Str):Prop:=X.env.kindOf x=some .globalImplicit
variable {u:Value} {Q:aR}
theorem Fy(I:Inv X pins σ H s)(hg:Gl X x)(hm:X.mg x=some u)(h:Q u s)
  (hd:(x == ("__debug__":Str))=false:=by decide):wpAny (model X.prog X.w) X.A (eval (.Name x pos) X.env) Q E s:=
 Calls.Name_function_global I.ok.kind hg (Calls.loadGlobal_global (by rw [I.ok.glob];exact I.mod.glob.keeps I.bk) hm h) hd
theorem mB(I:Inv X pins σ H s)(hg:Gl X x)(hm:X.mg x=none)(hv:bootBuiltins x=some u)(h:Q u s)
  (hn:x ≠ "__name__":=by decide) (hd:(x == ("__debug__":Str))=false:=by decide):wpAny (model X.prog X.w) X.A (eval (.Name x pos) X.env) Q E s:=by
 obtain ⟨mb,h1,h2⟩:=I.mod.blt;exact Calls.Name_function_global I.ok.kind hg (Calls.loadGlobal_builtin (by rw [I.ok.glob];exact I.mod.glob.keeps I.bk) hm (by rw [I.ok.blt];exact h1.keeps I.bk) ((h2 x hn).trans hv) h) hd
theorem sS{v:V}(hg:Gl X x)(hm:X.mg x=none)(hv:bootBuiltins x=some u)(r:RelV v u)(hn:x ≠ "__name__":=by decide)(hd:(x == ("__debug__":Str))=false:=by decide):PE X (.Name x pos) (tC v):=
 fun _ _ _ H _ I h=>mB I hg hm hv ⟨v,H,I,r,h⟩ hn hd
variable {a b:Expr} {ta tb:TE} {pos:Pos}
def PC(X:Cx)(op:CmpOp)(a b:Expr)(t:TE):Prop:=
 ∀(pins:aQ) (s:Shared) (σ:St) (H:Hp) (Q:VK),Inv X pins σ H s→t σ H Q→
  wpAny (model X.prog X.w) X.A (eval a X.env) (fun v s₁=>wpAny (model X.prog X.w) X.A (eval b X.env) (fun u s₂=>wpAny (model X.prog X.w) X.A (compareOp op v u) (EP X pins σ Q) X.xe s₂) X.xe s₁) X.xe s
def tB(t:TE):TT:=fun σ H Q=>t σ H fun x H1=>∃c,x=.bl c∧Q c H1
theorem wC{op:CmpOp}{t:TE}(h:PC X op a b t)(h1:behindInMarks op b=false:=by first | exact X1 _ (by decide) (by decide) | rfl):PT X (.Compare a [op] [b] pos) (tB t):=by intro pins s σ H Q I hw;refine wpAny_isTrue_Compare1 (aK (h pins s σ H _ I hw) fun v s1 h1=>aK h1 fun u s2 h2=>aK h2 fun c s3 ⟨x,H1,I1,r1,q1⟩=>?_) h1;obtain ⟨d,rfl,q⟩:=q1;cases r1;exact pI ⟨H1,I1,q⟩
theorem mC{e:Expr}{t:TE}(h:PE X e t)(he:∀whole,isTrue e X.env whole=(do let v ←whole;standAt e.pos;holding [v] (truthy v)):=by intro _;rfl):PT X e (tB t):=by
 intro pins s σ H Q I hw
 refine isTrue_plain (aK (h pins s σ H _ I hw) fun v s1 ⟨x,H1,I1,r1,q1⟩=>?_) (he _)
 obtain ⟨d,rfl,q⟩:=q1
 cases r1
 exact pI ⟨H1,I1,q⟩
variable {tA wF:TT} {rest:List Expr}
def Me(t u:TT):TT:=fun σ H Q=>t σ H fun c H1=>if c=true then u σ H1 Q else Q false H1
def Mf(t u:TT):TT:=fun σ H Q=>t σ H fun c H1=>if c=true then Q true H1 else u σ H1 Q
def Fz(t:TT):TT:=fun σ H Q=>t σ H fun c H1=>Q (!c) H1
theorem pw_and1(ha:PT X a tA):PW X (.BoolOp .And [a] pos) tA:=by
 intro wh pins s σ H Q I h;refine isTrue_and (aK (ha pins s σ H Q I h) fun c s1 e=>?_);cases c with
 | true=>exact isTrue_and_nil e
 | false=>exact e
theorem pw_or1(ha:PT X a tA):PW X (.BoolOp .Or [a] pos) tA:=by
 intro wh pins s σ H Q I h;refine isTrue_or (aK (ha pins s σ H Q I h) fun c s1 e=>?_);cases c with
 | false=>exact isTrue_or_nil e
 | true=>exact e
theorem pw_and(ha:PT X a tA)(hb:PW X (.BoolOp .And (b::rest) pos) wF):PW X (.BoolOp .And (a::b::rest) pos) (Me tA wF):=by
 intro wh pins s σ H Q I h;refine isTrue_and (aK (ha pins s σ H _ I h) fun c s1 ⟨H1,I1,q1⟩=>?_);cases c with
 | true=>exact hb wh pins s1 σ H1 Q I1 q1
 | false=>exact ⟨H1,I1,q1⟩
theorem pw_or(ha:PT X a tA)(hb:PW X (.BoolOp .Or (b::rest) pos) wF):PW X (.BoolOp .Or (a::b::rest) pos) (Mf tA wF):=by
 intro wh pins s σ H Q I h;refine isTrue_or (aK (ha pins s σ H _ I h) fun c s1 ⟨H1,I1,q1⟩=>?_);cases c with
 | true=>exact ⟨H1,I1,q1⟩
 | false=>exact hb wh pins s1 σ H1 Q I1 q1
theorem qe(ha:PT X a tA):PT X (.UnaryOp .Not a pos) (Fz tA):=by intro pins s σ H Q I h;exact isTrue_not (ha pins s σ H (fun c H1=>Q (!c) H1) I h)
def Mg(ta tb:TE):TE:=fun σ H Q=>ta σ H fun x H1=>∃c,x=.bl c∧if c=true then tb σ H1 Q else Q (.bl false) H1
def Mh(ta tb:TE):TE:=fun σ H Q=>ta σ H fun x H1=>∃c,x=.bl c∧if c=true then Q (.bl true) H1 else tb σ H1 Q
def Mi(ta:TE):TE:=fun σ H Q=>ta σ H fun x H1=>∃c,x=.bl c∧Q (.bl (!c)) H1
theorem FA{op}{t:TE}(h:PE X a t):PE X (.BoolOp op [a] pos) t:=fun pins s σ H Q I hw=>BoolOp_one (h pins s σ H Q I hw)
theorem Mj(ha:PE X a ta)(hb:PE X (.BoolOp .And (b::rest) pos) tb):PE X (.BoolOp .And (a::b::rest) pos) (Mg ta tb):=by
 intro pins s σ H Q I h;refine BoolOp_and (aK (ha pins s σ H _ I h) fun v s1 ⟨x,H1,I1,r1,q1⟩=>?_);obtain ⟨c,rfl,q1⟩:=q1;cases r1;refine pI ?_;cases c with
 | true=>exact hb pins s1 σ H1 Q I1 q1
 | false=>exact ⟨.bl false,H1,I1,rfl,q1⟩
theorem Mk(ha:PE X a ta)(hb:PE X (.BoolOp .Or (b::rest) pos) tb):PE X (.BoolOp .Or (a::b::rest) pos) (Mh ta tb):=by
 intro pins s σ H Q I h;refine BoolOp_or (aK (ha pins s σ H _ I h) fun v s1 ⟨x,H1,I1,r1,q1⟩=>?_);obtain ⟨c,rfl,q1⟩:=q1;cases r1;refine pI ?_;cases c with
 | false=>exact hb pins s1 σ H1 Q I1 q1
 | true=>exact ⟨.bl true,H1,I1,rfl,q1⟩
theorem Ml(ha:PE X a ta):PE X (.UnaryOp .Not a pos) (Mi ta):=by intro pins s σ H Q I h;refine UnaryOp_ (aK (ha pins s σ H _ I h) fun v s1 ⟨x,H1,I1,r1,q1⟩=>?_);obtain ⟨c,rfl,q1⟩:=q1;cases r1;exact not_of (pI ⟨.bl (!c),H1,I1,rfl,q1⟩)
end
def a7(K:aJ)(H:Hp)(a:Addr)(xs:List V):Prop:=
 Rd H a (.lst xs) ∨
  ∃(o:Obj) (its:Array Value) (n:Nat),K.lookup a=some o∧o.cls=.type "list"∧o.dict=none∧o.data=.seq its n∧its.size≤sizeLine∧Vals xs its.toList
def gA(K:aJ)(H:Hp)(a:Addr)(xs:List V):Prop:=
 Rd H a (.tup xs) ∨
  ∃(o:Obj) (its:Array Value) (n:Nat),K.lookup a=some o∧o.cls=.type "tuple"∧o.data=.seq its n∧its.size≤sizeLine∧Vals xs its.toList
def Mm:Value→Option V
 | .none=>some .aN
 | .bool b=>some (.bl b)
 | .int i _=>some (.int i)
 | .str x _=>some (.str x)
 | .bytes b _=>some (.j_ b)
 | .float b _=>some (.sP b)
 | .ref a=>some (.ref a)
 | .type n=>some (.ty n)
 | _=>none
variable {x:V} {u:Value}
theorem RelV.abs(r:RelV x u):Mm u=some x:=by
 cases x with
 | aN=>cases r;rfl
 | bl _=>cases r;rfl
 | int _=>obtain ⟨t,rfl⟩:=r;rfl
 | str _=>obtain ⟨t,rfl⟩:=r;rfl
 | j_ _=>obtain ⟨t,rfl⟩:=r;rfl
 | sP _=>obtain ⟨t,rfl⟩:=r;rfl
 | ref _=>cases r;rfl
 | ty _=>cases r;rfl
theorem RelV.inj{y:V}(r:RelV x u)(q:RelV y u):x=y:=Option.some.inj (r.abs.symm.trans q.abs)
theorem Vals.inj:∀{xs ys:List V} {us:List Value},Vals xs us→Vals ys us→xs=ys
 | _,_,_,.nil,.nil=>rfl
 | _,_,_,.cons r t,.cons r' t'=>by rw [r.inj r',Vals.inj t t']
section
variable {X:Cx} {pins:aQ} {σ:St} {H:Hp} {s:Shared} {a:Addr} {xs ys:List V}
variable {K:aJ}
theorem a7.of(h:H a=some (.lst xs)):a7 K H a xs:=.inl (.inl h)
theorem gA.of(h:H a=some (.tup xs)):gA K H a xs:=.inl (.inl h)
theorem Inv.list(I:Inv X pins σ H s)(h:a7 X.K H a xs):∃its:List Value,Vals xs its∧PlainL s.heap a its.toArray∧xs.length≤sizeLine:=by
 rcases h with h | ⟨o,its,n,hk,hc,hd,hs,hz,r⟩
 ·obtain ⟨z,its,n,r,e⟩:=h.ok I.ax
  exact ⟨its,r,⟨_,n,e,rfl,rfl,rfl⟩,z⟩
 ·refine ⟨its.toList,r,⟨o,n,I.eY a o hk,hc,hd,by simpa using hs⟩,?_⟩
  have e:=r.length;simp only [gs] at e;lia
theorem Inv.tuple(I:Inv X pins σ H s)(h:gA X.K H a xs):∃its:List Value,Vals xs its∧IsTup s.heap a its.toArray∧xs.length≤sizeLine:=by
 rcases h with h | ⟨o,its,n,hk,hc,hs,hz,r⟩
 ·obtain ⟨z,its,r,p⟩:=h.ok I.ax
  exact ⟨its,r,p,z⟩
 ·refine ⟨its.toList,r,⟨o,I.eY a o hk,hc,n,by simpa using hs⟩,?_⟩
  have e:=r.length;simp only [gs] at e;lia
theorem Inv.FC(I:Inv X pins σ H s)(h:a7 X.K H a xs)(h':a7 X.K H a ys):xs=ys:=by
 obtain ⟨its,r,⟨o,n,e,_,_,d⟩,_⟩:=I.list h;obtain ⟨its',r',⟨o',n',e',_,_,d'⟩,_⟩:=I.list h';rw [e] at e';cases e';rw [d] at d';injection d' with d1 _;have:its=its':=by simpa using eE Array.toList d1
 subst this;exact r.inj r'
theorem Inv.Mn(I:Inv X pins σ H s)(h:gA X.K H a xs)(h':gA X.K H a ys):xs=ys:=by
 obtain ⟨its,r,⟨o,e,_,n,d⟩,_⟩:=I.tuple h;obtain ⟨its',r',⟨o',e',_,n',d'⟩,_⟩:=I.tuple h';rw [e] at e';cases e';rw [d] at d';injection d' with d1 _;have:its=its':=by simpa using eE Array.toList d1
 subst this;exact r.inj r'
end
abbrev Cx.kZ (X:Cx) (E:aR):Cx:={X with xe:=E}
abbrev Cx.om (X:Cx):Cx:=X.kZ fun _ _=>False
theorem Cx.Ok.kZ(ok:X.Ok)(E:aR):(X.kZ E).Ok:=
 ⟨ok.mod,ok.kind,ok.glob,ok.blt,ok.above,ok.inj,ok.has,ok.p_,ok.hd,ok.frames,ok.i7,ok.Fm,ok.bs,ok.i8,ok.qa,ok.qb,ok.kf,ok.oi⟩
theorem Cx.Ok.oo(ok:(X.kZ E).Ok):X.Ok:=
 ⟨ok.mod,ok.kind,ok.glob,ok.blt,ok.above,ok.inj,ok.has,ok.p_,ok.hd,ok.frames,ok.i7,ok.Fm,ok.bs,ok.i8,ok.qa,ok.qb,ok.kf,ok.oi⟩
section
variable {X:Cx} {pins:aQ} {σ:St} {H:Hp} {s:Shared} {E:aR}
theorem Inv.kZ(I:Inv X pins σ H s)(E:aR):Inv (X.kZ E) pins σ H s:=⟨I.ok.kZ E,I.os,I.bare,I.base,I.loc,I.cell,I.free,I.jF,I.pin,I.ax,I.len⟩
theorem Inv.oo(I:Inv (X.kZ E) pins σ H s):Inv X pins σ H s:=⟨I.ok.oo,I.os,I.bare,I.base,I.loc,I.cell,I.free,I.jF,I.pin,I.ax,I.len⟩
theorem SP.oo{D:Ends}{f:Flow}{s':Shared}(h:SP (X.kZ E) pins D f s'):SP X pins D f s':=by
 cases f with
 | next=>obtain ⟨σ',H',I,q⟩:=h;exact ⟨σ',H',I.oo,q⟩
 | brk=>obtain ⟨σ',H',I,q⟩:=h;exact ⟨σ',H',I.oo,q⟩
 | cont=>obtain ⟨σ',H',I,q⟩:=h;exact ⟨σ',H',I.oo,q⟩
 | ret u=>obtain ⟨v,σ',H',I,r,q⟩:=h;exact ⟨v,σ',H',I.oo,r,q⟩
theorem fN.om{st:List Stmt}{t:TS}(h:fN X.om st t):fN X st t:=fun pins s σ H D I hw=>cS (h pins s σ H D (I.kZ _) hw) (fun _ _ q=>q.oo) fun _ _ z=>False.elim z
end
section
variable {X:Cx} {st:Stmt} {rest:List Stmt} {t u:TS} {e:Expr} {te:TE} {pos:Pos}
def iC:TS:=fun D σ H=>D.nx σ H
def BX(t u:TS):TS:=fun D σ H=>t {D with nx:=u D} σ H
theorem dw:fN X [] iC:=fun _ _ σ H _ I h=>yG ⟨σ,H,I,h⟩
theorem aB(h1:PS X st t)(h2:fN X rest u):fN X (st::rest) (BX t u):=by
 intro pins s σ H D I h;refine wpAny_execs_cons (aK (h1 pins s σ H {D with nx:=u D} I h) fun f s1 q=>?_);cases f with
 | next=>obtain ⟨σ',H',I',q⟩:=q;exact h2 pins s1 σ' H' D I' q
 | ret v=>exact q
 | brk=>exact q
 | cont=>exact q
theorem aE(h1:PS X st t):fN X [st] t:=by
 intro pins s σ H D I h;refine wpAny_execs_cons (aK (h1 pins s σ H D I h) fun f s1 q=>?_);cases f with
 | next=>exact yG q
 | ret v=>exact q
 | brk=>exact q
 | cont=>exact q
theorem Inv.quiet{pins:aQ}{σ:St}(I:Inv X pins σ H s):interactive X.env=false:=by simp [interactive,I.ok.kind]
def Mo(te:TE):TS:=fun D σ H=>te σ H fun _ H1=>D.nx σ H1
theorem eZ(he:PE X e te)(hs:swapsWith e none pos.line X.env=pure false:=by rfl):PS X (.Expr e pos) (Mo te):=by intro pins s σ H D I h;exact wpAny_Expr_any (aK (he pins s σ H _ I h) fun v s1 ⟨x,H1,I1,r1,q1⟩=>⟨σ,H1,I1,q1⟩) I.quiet hs
def FD(te:TE):TS:=fun D σ H=>te σ H D.rt
theorem bX(he:PE X e te):PS X (.Return (some e) pos) (FD te):=by intro pins s σ H D I h;exact wpAny_Return_some (aK (he pins s σ H _ I h) fun v s1 ⟨x,H1,I1,r1,q1⟩=>⟨x,σ,H1,I1,r1,q1⟩)
def BY(c:TT)(t u:TS):TS:=fun D σ H=>c σ H fun b H1=>if b=true then t D σ H1 else u D σ H1
theorem cL{c:Expr}{a b:List Stmt}{tc:TT}(hc:PT X c tc)(ha:fN X a t)(hb:fN X b u):PS X (.If c a b pos) (BY tc t u):=by
 intro pins s σ H D I h;refine wpAny_If (aK (hc pins s σ H _ I h) fun d s1 ⟨H1,I1,q1⟩=>?_);cases d with
 | true=>exact ha pins s1 σ H1 D I1 q1
 | false=>exact hb pins s1 σ H1 D I1 q1
end
abbrev TG:=V→St→Hp→(St→Hp→Prop)→Prop
abbrev qf:=List V→St→Hp→(St→Hp→Prop)→Prop
def PG(X:Cx)(target:Expr)(t:TG):Prop:=
 ∀(pins:aQ) (s:Shared) (σ:St) (H:Hp) (v:V) (u:Value) (Q:St→Hp→Prop),Inv X pins σ H s→RelV v u→t v σ H Q→
  wpAny (model X.prog X.w) X.A (assign target X.env u) (fun _ s'=>∃σ' H',Inv X pins σ' H' s'∧Q σ' H') X.xe s
def ze(X:Cx)(ts:List Expr)(t:qf):Prop:=
 ∀(pins:aQ) (s:Shared) (σ:St) (H:Hp) (vs:List V) (us:List Value) (Q:St→Hp→Prop),Inv X pins σ H s→Vals vs us→t vs σ H Q→
  wpAny (model X.prog X.w) X.A (assignInOrder ((assignEach ts X.env).map (·.2)) us) (fun _ s'=>∃σ' H',Inv X pins σ' H' s'∧Q σ' H') X.xe s
abbrev wG:=V→V→V→Hp→(Hp→Prop)→Prop
def BZ(X:Cx)(t:wG):Prop:=
 ∀(pins:aQ) (s:Shared) (σ:St) (H:Hp) (o i v:V) (ov iv u:Value) (Q:Hp→Prop),Inv X pins σ H s→RelV o ov→RelV i iv→RelV v u→t o i v H Q→
  wpAny (model X.prog X.w) X.A (setItem ov iv u) (fun _ s'=>∃H',Inv X pins σ H' s'∧Q H') X.xe s
abbrev zf:=V→V→Hp→VK→Prop
def FE(X:Cx)(op:Operator)(t:zf):Prop:=
 ∀(pins:aQ) (s:Shared) (σ:St) (H:Hp) (x y:V) (v u:Value) (Q:VK),Inv X pins σ H s→RelV x v→RelV y u→t x y H Q→
  wpAny (model X.prog X.w) X.A (inplaceOp op v u) (EP X pins σ Q) X.xe s
section
variable {X:Cx} {pos:Pos}
def aM(i:Nat):TG:=fun v σ H Q=>Q (σ.set i (some v)) H
variable {i:Nat}
theorem cM{x:Str}(hN:X.N.Nodup)(hi:X.N[i]?=some x)(hx:Loc X.env.scope x)(hf:X.fn x=true∨X.env.scope.names.lookup x=some .local:=by first | exact .inl rfl | exact .inr rfl | assumption):PG X (.Name x pos) (aM i):=by intro pins s σ H v u Q I r h;exact wpAny_assign_Name (Fw I hN hi hx r (fun s' I'=>⟨_,H,I',h⟩) hf)
def Mp:qf:=fun vs σ H Q=>vs=[]∧Q σ H
def Mq(t:TG)(u:qf):qf:=fun vs σ H Q=>∃v r,vs=v::r∧t v σ H fun σ' H'=>u r σ' H' Q
theorem wH:ze X [] Mp:=by intro pins s σ H vs us Q I r h;obtain ⟨e,h⟩:=h;subst e;cases r;exact assignInOrder_nil ⟨σ,H,I,h⟩
variable {e:Expr} {es:List Expr}
theorem k4{t:TG}{u:qf}(h1:PG X e t)(h2:ze X es u)
  (hs:(assignEach (e::es) X.env).map (·.2)=assign e X.env::(assignEach es X.env).map (·.2):=by rfl):ze X (e::es) (Mq t u):=by
 intro pins s σ H vs us Q I r h;obtain ⟨v,vr,e1,h⟩:=h;subst e1;cases r with
 | cons r rr=>rw [hs];refine assignInOrder_cons (aK (h1 pins s σ H _ _ _ I r h) fun _ s1 ⟨σ1,H1,I1,q1⟩=>?_);exact h2 pins s1 σ1 H1 _ _ Q I1 rr q1
def Mr(K:aJ)(n:Nat)(t:qf):TG:=fun v σ H Q=>∃a xs,v=.ref a∧gA K H a xs∧xs.length=n∧t xs σ H Q
theorem wI{k:Nat}{t:qf}{n:Nat}(hc:X.calm=true)(h:ze X es t)
  (hn:(assignEach es X.env).length=n:=by rfl) (Ms:(assignEach es X.env).findIdx? (·.1)=none:=by rfl):PG X (.Tuple es k pos) (Mr X.K n t):=by
 intro pins s σ H v u Q I r hw;obtain ⟨a,xs,e1,hq,hl,hw⟩:=hw;subst e1;cases r;obtain ⟨its,rv,ht,hz⟩:=I.tuple hq;refine assign_Tuple_tuple (I.ok.hd hc) ht (by simp [hn,←hl,rv.length]) Ms fun h' hx=>?_
 have I1:Inv X pins σ H {s with heap:=h'}:=I.kept (t':=s.toks) fun b o e=>hx b o (cx (aY e)) e;exact h pins _ σ H xs _ Q I1 (by simpa using rv) hw
def Mt(to ti:TE)(t:wG):TG:=fun v σ H Q=>to σ H fun o H1=>ti σ H1 fun i H2=>t o i v H2 fun H3=>Q σ H3
theorem qg{o i:Expr}{to ti:TE}{t:wG}(ho:PE X o to)(hi:PE X i ti)(hs:BZ X t)
  (ha:∀v,assign (.Subscript o i pos) X.env v=(do
   let ov ←holding [v] (eval o X.env)
   let iv ←holding [v,ov] (eval i X.env)
   standAt pos
   holding [v,ov,iv] (setItem ov iv v)
   release [v,ov,iv] []):=by intro _;rfl):PG X (.Subscript o i pos) (Mt to ti t):=by
 intro pins s σ H v u Q I r h
 rw [ha]
 refine aC (nO (aK (ho pins s σ H _ I h) fun ov s1 ⟨x,H1,I1,r1,q1⟩=>?_))
 refine aC (nO (aK (hi pins s1 σ H1 _ I1 q1) fun iv s2 ⟨y,H2,I2,r2,q2⟩=>?_))
 refine aC (vM (aC (nO (aK (hs pins s2 σ H2 x y v ov iv u _ I2 r1 r2 r q2) fun _ s3 ⟨H3,I3,q3⟩=>?_))))
 exact wpAny_release ⟨σ,H3,I3,q3⟩
def oq(te:TE)(g:TG):TS:=fun D σ H=>te σ H fun x H1=>g x σ H1 D.nx
theorem qh{tg e:Expr}{te:TE}{g:TG}(he:PE X e te)(hg:PG X tg g)(hs:swapsWithSole [tg] e pos.line X.env=pure false:=by rfl)(hw:swappedStores [tg] e X.env=pure none:=by rfl)
  (h1:(assignEach [tg] X.env).map (·.2)=[assign tg X.env]:=by rfl):PS X (.Assign [tg] e pos) (oq te g):=by
 intro pins s σ H D I h;refine wpAny_Assign_stores (aK (he pins s σ H _ I h) fun v s1 ⟨x,H1,I1,r1,q1⟩=>?_) hs hw;rw [h1];exact aK (hg pins s1 σ H1 x v _ I1 r1 q1) fun _ s2 q=>q
theorem Mu{x:Str}{te:TE}{pos':Pos}(hN:X.N.Nodup)(hi:X.N[i]?=some x)(hx:Loc X.env.scope x)(he:PE X e te)(hs:swapsWith e (some (.Name x pos')) pos.line X.env=pure false:=by rfl)(hf:X.fn x=true∨X.env.scope.names.lookup x=some .local:=by first | exact .inl rfl | exact .inr rfl | assumption) :
  PS X (.Assign [.Name x pos'] e pos) (oq te (aM i)):=by
 intro pins s σ H D I h;refine wpAny_Assign_Name (aK (he pins s σ H _ I h) fun v s1 ⟨y,H1,I1,r1,q1⟩=>?_) hs;exact Fw I1 hN hi hx r1 (fun s2 I2=>⟨_,H1,I2,q1⟩) hf
def Mv(to ti te:TE)(zg:V→V→Hp→VK→Prop)(zh:zf)(zi:wG):TS:=fun D σ H=>to σ H fun o H1=>ti σ H1 fun i H2=>zg o i H2 fun x H3=>te σ H3 fun y H4=>zh x y H4 fun z H5=>zi o i z H5 fun H6=>D.nx σ H6
def FF(X:Cx)(t:V→V→Hp→VK→Prop):Prop:=
 ∀(pins:aQ) (s:Shared) (σ:St) (H:Hp) (o i:V) (ov iv:Value) (Q:VK),Inv X pins σ H s→RelV o ov→RelV i iv→t o i H Q→
  wpAny (model X.prog X.w) X.A (getItem ov iv) (EP X pins σ Q) X.xe s
theorem Mw{o i e:Expr}{to ti te:TE}{zg:V→V→Hp→VK→Prop}{zh:zf}{zi:wG}{op:Operator}{sU:Pos}(ho:PE X o to)(hi:PE X i ti)(hg:FF X zg)(he:PE X e te)(hp:FE X op zh)(hs:BZ X zi)
  (ha:∀ov iv new,augStore i ov iv new=(do holding [new,ov,iv] (setItem ov iv new);release [new,ov,iv] [];pure .next):=by intros;rfl):PS X (.AugAssign (.Subscript o i sU) op e pos) (Mv to ti te zg zh zi):=by
 intro pins s σ H D I h
 refine wpAny_AugAssign_SubscriptAny (aK (ho pins s σ H _ I h) fun ov s1 ⟨x1,H1,I1,r1,q1⟩=>?_) ha
 refine aK (hi pins s1 σ H1 _ I1 q1) fun iv s2 ⟨x2,H2,I2,r2,q2⟩=>?_
 refine aK (hg pins s2 σ H2 x1 x2 ov iv _ I2 r1 r2 q2) fun old s3 ⟨x3,H3,I3,r3,q3⟩=>?_
 refine aK (he pins s3 σ H3 _ I3 q3) fun v s4 ⟨x4,H4,I4,r4,q4⟩=>?_
 refine aK (hp pins s4 σ H4 x3 x4 old v _ I4 r3 r4 q4) fun new s5 ⟨x5,H5,I5,r5,q5⟩=>?_
 exact aK (hs pins s5 σ H5 x1 x2 x5 ov iv new _ I5 r1 r2 r5 q5) fun _ s6 ⟨H6,I6,q6⟩=>⟨σ,H6,I6,q6⟩
def Mx(f:Int→Int→Int):zf:=fun x y H Q=>∃i j,x=.int i∧y=.int j∧Q (.int (f i j)) H
theorem Mz:FE X .Add (Mx fun i j=>i+j):=by intro pins s σ H x y v u Q I r1 r2 h;obtain ⟨i,j,e1,e2,q⟩:=h;subst e1;subst e2;obtain ⟨t,rfl⟩:=r1;obtain ⟨t',rfl⟩:=r2;exact iadd_int ⟨.int _,H,I.tok _,⟨_,rfl⟩,q⟩
end
section
variable {X:Cx} {pos:Pos}
def MA(c:TT)(tb:TS):TS:=fun D σ H=>∃W:Nat→St→Hp→Prop,(∃m,W m σ H)∧∀m σ H,W m σ H→
 c σ H fun b H1=>if b=true then ∃N:St→Hp→Prop,(∀σ' H',N σ' H'→∃m',m'<m∧W m' σ' H')∧tb {D with nx:=N,ct:=N,bk:=D.nx} σ H1 else D.nx σ H1
theorem sV{c:Expr}{body:List Stmt}{tc:TT}{tb:TS}(hp:PassesOwn (model X.prog X.w) X.A X.env X.xe)(hc:PT X c tc)(hb:fN X body tb):PS X (.While c body [] pos) (MA tc tb):=by
 intro pins s σ H D I h;obtain ⟨W,⟨m0,w0⟩,turn⟩:=h;refine wpAny_While (codeAny_whileLoop (fun n s'=>∃σ' H',Inv X pins σ' H' s'∧W n σ' H') ?_ m0 ⟨σ,H,I,w0⟩);rintro n s1 ⟨σ1,H1,I1,w1⟩;refine pJ hp (aK (hc pins s1 σ1 H1 _ I1 (turn n σ1 H1 w1)) fun b s2 ⟨H2,I2,q2⟩=>?_);cases b with
 | true=>
  obtain ⟨N,hN,q2⟩:=q2;rw [ae rfl];refine pJ hp (aK (hb pins s2 σ1 H2 _ I2 q2) fun f s3 q3=>?_);cases f with
  | next=>obtain ⟨σ3,H3,I3,n3⟩:=q3;obtain ⟨m',hm,w3⟩:=hN σ3 H3 n3;exact ⟨m',hm,σ3,H3,I3,w3⟩
  | cont=>obtain ⟨σ3,H3,I3,n3⟩:=q3;obtain ⟨m',hm,w3⟩:=hN σ3 H3 n3;exact ⟨m',hm,σ3,H3,I3,w3⟩
  | brk=>exact q3
  | ret v=>exact q3
 | false=>rw [aa dg];exact yG ⟨σ1,H2,I2,q2⟩
end
structure It where
 go:Nat→Hp→Prop
 d8:Nat→Hp→V→Hp→Prop
 stop:Nat→Hp→Prop
def mD(X:Cx)(pins:aQ)(H:Hp)(b:Addr):Prop:=
 H b=none∧b≠X.env.locals∧b∉X.fs∧(b∈X.ex∨X.s₀.heap.objs.size≤b)∧(∀x c,X.env.cells.lookup x=some c→c≠b)∧∀p∈X.pn++pins,p.1≠b
variable {σ:St}
theorem Inv.wJ{pins:aQ}{H':Hp}(I:Inv X pins σ H s)(hb:s.heap.objs.size≤b)(hn:H' b=none):mD X pins H' b:=by
 refine ⟨hn,Nat.ne_of_gt (dS I.lt hb),I.L9 hb,.inr (b9 I.sz hb),fun x c e z=>?_,fun p hp z=>?_⟩
 ·obtain ⟨v,q⟩:=I.cell x c e
  exact absurd (dS q.lt (by rw [z];exact hb)) (fE _)
 ·exact absurd (dS (aY (I.pin p hp).1) (by rw [z];exact hb)) (fE _)
structure Turn (P:Program) (w:World) (K:aJ) (tg:Expr) (J:It) (fp:List Addr) (it:Addr) (tn:Nat→Heap→Prop):Prop where
 mem:it∈fp
 obj:∀i h,tn i h→∀b∈fp,∃o,h.get? b=some o∧∀v,o.data≠.cell v
 keep:∀i h h',tn i h→(∀b∈fp,∀o,h.get? b=some o→h'.get? b=some o)→tn i h'
 item:∀(X:Cx),X.prog=P→X.w=w→X.K=K→X.calm=true→∀(i:Nat) (pins:aQ) (s:Shared) (σ:St) (H:Hp) (E:aR),Inv X pins σ H s→(∀b∈fp,mD X pins H b)→tn i s.heap→J.go i H→
  wpAny (model P w) X.A (pyNext (.ref it)) (fun r s1=>∃u,r=some u ∧
   wpAny (model P w) X.A (letOwnedTupleGo tg (.ref it) u) (fun _ s2=>∃x H',Inv X pins σ H' s2∧RelV x u∧J.d8 i H x H'∧tn (i+1) s2.heap∧∀b∈fp,H' b=none) E s1) E s
 done:∀(X:Cx),X.prog=P→X.w=w→X.K=K→X.calm=true→∀(i:Nat) (pins:aQ) (s:Shared) (σ:St) (H:Hp) (E:aR),Inv X pins σ H s→(∀b∈fp,mD X pins H b)→tn i s.heap→J.stop i H→
  wpAny (model P w) X.A (pyNext (.ref it)) (fun r s1=>r=none∧Inv X pins σ H s1) E s
 self:∀(A:Around) (i:Nat) (s:Shared) (Q:aR) (E:aR),tn i s.heap→Q (.ref it) s→wpAny (model P w) A (pyIter (.ref it)) Q E s
abbrev TI:=St→Hp→(It→Hp→Prop)→Prop
def B0(X:Cx)(pins:aQ)(σ:St)(tg:Expr)(R:It→Hp→Prop)(wK:Value)(s2:Shared):Prop:=
 ∃(it:Addr) (fp:List Addr) (tn:Nat→Heap→Prop) (J:It) (H':Hp),wK=.ref it∧Inv X pins σ H' s2∧Turn X.prog X.w X.K tg J fp it tn∧tn 0 s2.heap∧(∀b∈fp,mD X pins H' b)∧R J H'
def PI(X:Cx)(tg iter:Expr)(wi:TI):Prop:=
 ∀(pins:aQ) (s:Shared) (σ:St) (H:Hp) (R:It→Hp→Prop),Inv X pins σ H s→wi σ H R→
  wpAny (model X.prog X.w) X.A (eval iter X.env) (fun v s1=>wpAny (model X.prog X.w) X.A (pyIter v) (B0 X pins σ tg R) X.xe s1) X.xe s
variable {tg:Expr}
theorem zo{it:Addr}{o:Obj}{n:String}{vs:Array Value}{Q:Unit→Shared→Prop}(ho:s.heap.get? it=some o)(hc:o.cls=.type n)(hd:o.data=.fields vs)
    (hn:["enumerate","zip","dict_itemiterator","dict_reverseitemiterator","odict_iterator","itertools.zip_longest","itertools.pairwise"].contains n=false) (hQ:Q () s):wpAny M A (letOwnedTupleGo tg (.ref it) u) Q E s:=by
  unfold letOwnedTupleGo
  cases tg <;> first
    | exact ba hQ
    | (cases u <;> first
        | exact ba hQ
        | (refine aC (wpAny_load ho ?_)
           rw [hc,hd];show wpAny M A (if (["enumerate","zip","dict_itemiterator","dict_reverseitemiterator","odict_iterator","itertools.zip_longest","itertools.pairwise"].contains n && vs[0]? == some (rawInt _))=true then _ else _) Q E s
           rw [aa (by intro h;rw [hn,Bool.false_and] at h;cases h)]
           exact ba hQ))
def qi(K:aJ)(a:Addr):It:=
 ⟨fun i H=>∃xs x,a7 K H a xs∧xs[i]?=some x,fun i H x H'=>H'=H∧∀xs,a7 K H a xs→xs[i]?=some x,fun i H=>∃xs,a7 K H a xs∧xs.length≤i⟩
def sW(K:aJ)(a:Addr):It:=
 ⟨fun i H=>∃xs x,gA K H a xs∧xs[i]?=some x,fun i H x H'=>H'=H∧∀xs,gA K H a xs→xs[i]?=some x,fun i H=>∃xs,gA K H a xs∧xs.length≤i⟩
def mE(lo:Int)(n:Nat):It:=⟨fun i _=>i<n,fun i H x H'=>H'=H∧x=.int (lo+i),fun i _=>n≤i⟩
variable {K:aJ}
theorem MB(a it:Addr):Turn P w K tg (qi K a) [it] it (fun i h=>h.IsListIter it a i) where
 mem:=by simp
 obj:=fun i h st b hb=>by
  have e:b=it:=by simpa using hb
  subst e;obtain ⟨o,e,c,d⟩:=st;exact ⟨o,e,fun v z=>by rw [d] at z;cases z⟩
 keep:=fun i h h' st k=>st.at fun o e=>k it (by simp) o e
 item:=by
  intro X hP hw hK hc i pins s σ H E I hf st hg;subst hP hw hK;obtain ⟨xs,x,hq,hx⟩:=hg;obtain ⟨its,rv,p,hz⟩:=I.list hq;obtain ⟨u,hu,ru⟩:=rv.get hx;obtain ⟨f0,f1,f2,f3,f4,f5⟩:=hf it (by simp)
  refine wpAny_pyNext_list_item st p.isList (x:=u) (by simpa using hu) fun h' av sb=>?_
  have I1:Inv X pins σ H {s with heap:=h'}:=I.turned (t':=s.toks) (fun b o hb e=>(sb.2 b hb).trans e) f0 f1 f3 f4 f5;obtain ⟨o,e,c,d⟩:=id av;exact ⟨u,rfl,zo (s:={s with heap:=h'}) e c d (by decide) ⟨x,H,I1,ru,⟨rfl,fun ys hy=>by rw [I.FC hy hq];exact hx⟩,av,fun b hb=>(hf b hb).1⟩⟩
 done:=by
  intro X hP hw hK hc i pins s σ H E I hf st hg;subst hP hw hK;obtain ⟨xs,hq,hx⟩:=hg;obtain ⟨its,rv,p,hz⟩:=I.list hq;obtain ⟨f0,f1,f2,f3,f4,f5⟩:=hf it (by simp)
  have hl:=rv.length;exact wpAny_pyNext_list_end (I.ok.hd hc) st p.isList (by simp;lia) fun h' eb=>⟨rfl,I.turned (t':=s.toks) (fun b o hb e=>eb b o hb e) f0 f1 f3 f4 f5⟩
 self:=fun _ _ _ _ _ st h=>wpAny_pyIter_listiter st h
theorem MC(a it:Addr):Turn P w K tg (sW K a) [it] it (fun i h=>h.IsTupleIter it a i) where
 mem:=by simp
 obj:=fun i h st b hb=>by
  have e:b=it:=by simpa using hb
  subst e;obtain ⟨o,e,c,d⟩:=st;exact ⟨o,e,fun v z=>by rw [d] at z;cases z⟩
 keep:=fun i h h' st k=>st.at fun o e=>k it (by simp) o e
 item:=by
  intro X hP hw hK hc i pins s σ H E I hf st hg;subst hP hw hK;obtain ⟨xs,x,hq,hx⟩:=hg;obtain ⟨its,rv,p,hz⟩:=I.tuple hq;obtain ⟨u,hu,ru⟩:=rv.get hx;obtain ⟨f0,f1,f2,f3,f4,f5⟩:=hf it (by simp)
  refine wpAny_pyNext_tuple_item st (show s.heap.IsTuple a its.toArray from p) (x:=u) (by simpa using hu) fun h' av sb=>?_
  have I1:Inv X pins σ H {s with heap:=h'}:=I.turned (t':=s.toks) (fun b o hb e=>(sb.2 b hb).trans e) f0 f1 f3 f4 f5;obtain ⟨o,e,c,d⟩:=id av;exact ⟨u,rfl,zo (s:={s with heap:=h'}) e c d (by decide) ⟨x,H,I1,ru,⟨rfl,fun ys hy=>by rw [I.Mn hy hq];exact hx⟩,av,fun b hb=>(hf b hb).1⟩⟩
 done:=by
  intro X hP hw hK hc i pins s σ H E I hf st hg;subst hP hw hK;obtain ⟨xs,hq,hx⟩:=hg;obtain ⟨its,rv,p,hz⟩:=I.tuple hq;obtain ⟨f0,f1,f2,f3,f4,f5⟩:=hf it (by simp)
  have hl:=rv.length;exact wpAny_pyNext_tuple_end (I.ok.hd hc) st (show s.heap.IsTuple a its.toArray from p) (by simp;lia) fun h' eb=>⟨rfl,I.turned (t':=s.toks) (fun b o hb e=>eb b o hb e) f0 f1 f3 f4 f5⟩
 self:=fun _ _ _ _ _ st h=>wpAny_pyIter_tupleiter st h
theorem MD(it:Addr)(lo:Int)(n:Nat):Turn P w K tg (mE lo n) [it] it (fun i h=>IsRangeIter h it (lo+(i:Nat)*1) ((n:Int)-(i:Nat)) 1) where
 mem:=by simp
 obj:=fun i h st b hb=>by
  have e:b=it:=by simpa using hb
  subst e;exact ⟨_,st,fun v z=>by have z':Data.fields _=Data.cell v:=z;cases z'⟩
 keep:=fun i h h' st k=>k it (by simp) _ st
 item:=by
  intro X hP hw hK hc i pins s σ H E I hf st hg;subst hP hw hK;obtain ⟨f0,f1,f2,f3,f4,f5⟩:=hf it (by simp)
  have W:=Walks.range (prog:=X.prog) (w:=X.w) (I.ok.hd hc) it lo 1 n;refine W.item i s _ _ hg st fun v h' tk hv av kk=>?_;obtain ⟨t,rfl⟩:=hv;have I1:Inv X pins σ H {s with heap:=h',toks:=tk}:=I.turned (fun b o hb e=>kk b o (by simpa using hb) e) f0 f1 f3 f4 f5
  refine ⟨_,rfl,zo (s:={s with heap:=h',toks:=tk}) (n:="range_iterator") av rfl rfl (by decide) ⟨.int (lo+i),H,I1,⟨t,?_⟩,⟨rfl,rfl⟩,av,fun b hb=>(hf b hb).1⟩⟩
  rw [Int.mul_one]
 done:=by
  intro X hP hw hK hc i pins s σ H E I hf st hg;subst hP hw hK;obtain ⟨f0,f1,f2,f3,f4,f5⟩:=hf it (by simp)
  exact wpAny_pyNext_range_end (I.ok.hd hc) st (by have:n≤i:=hg;lia) fun h' eb=>⟨rfl,I.turned (t':=s.toks) (fun b o hb e=>eb b o hb e) f0 f1 f3 f4 f5⟩
 self:=fun _ _ _ _ _ st h=>wpAny_pyIter_rangeiter st h
section
variable {X:Cx} {tg:Expr}
def FG(K:aJ)(tl:TE):TI:=fun σ H R=>tl σ H fun x H1=>∃a,x=.ref a∧(∃xs,a7 K H1 a xs)∧R (qi K a) H1
def ME(K:aJ)(tl:TE):TI:=fun σ H R=>tl σ H fun x H1=>∃a,x=.ref a∧(∃xs,gA K H1 a xs)∧R (sW K a) H1
variable {l:Expr} {tl:TE}
theorem fO(hl:PE X l tl):PI X tg l (FG X.K tl):=by
 intro pins s σ H R I h;refine aK (hl pins s σ H _ I h) fun v s1 ⟨x,H1,I1,r1,q1⟩=>?_;obtain ⟨a,e,⟨xs,hq⟩,q⟩:=q1;subst e;cases r1;obtain ⟨its,rv,p,hz⟩:=I1.list hq;refine wpAny_pyIter_list p.isList ?_;refine ⟨s1.heap.objs.size,[s1.heap.objs.size],_,_,H1,rfl,I1.kept (t':=s1.toks) fun b o e=>b8 _ e,MB a _,⟨_,dU _ rfl,rfl,rfl⟩,fun b hb=>?_,q⟩;have e:b=s1.heap.objs.size:=by simpa using hb
 subst e;exact I1.wJ (ay _) (I1.ax.fresh (ay _))
theorem B1(hl:PE X l tl):PI X tg l (ME X.K tl):=by
 intro pins s σ H R I h;refine aK (hl pins s σ H _ I h) fun v s1 ⟨x,H1,I1,r1,q1⟩=>?_;obtain ⟨a,e,⟨xs,hq⟩,q⟩:=q1;subst e;cases r1;obtain ⟨its,rv,p,hz⟩:=I1.tuple hq;refine wpAny_pyIter_tuple (show s1.heap.IsTuple a its.toArray from p) ?_;refine ⟨s1.heap.objs.size,[s1.heap.objs.size],_,_,H1,rfl,I1.kept (t':=s1.toks) fun b o e=>b8 _ e,MC a _,⟨_,dU _ rfl,rfl,rfl⟩,fun b hb=>?_,q⟩;have e:b=s1.heap.objs.size:=by simpa using hb
 subst e;exact I1.wJ (ay _) (I1.ax.fresh (ay _))
variable {pins:aQ}
theorem FH{R:It→Hp→Prop}{lo hi:Int}{t u v:Tok}{tk:Nat}(I:Inv X pins σ H s)(h1:-(2 ^ 62)≤lo)(h2:lo<2 ^ 62)(h3:-(2 ^ 62)≤hi)(h4:hi<2 ^ 62)
  (q:R (mE lo (hi-lo).toNat) H):wpAny (model X.prog X.w) X.A (pyIter (.ref s.heap.objs.size)) (B0 X pins σ tg R) E {s with heap:=s.heap.push {cls:=.type "range",data:=.fields #[.int lo t,.int hi u,.int 1 v]},toks:=tk}:=by
 refine wpAny_pyIter_range (IsRange.new ..) (small_one h1 h2 h3 h4) ?_;have I1:Inv X pins σ H {s with heap:=s.heap.push {cls:=.type "range",data:=.fields #[.int lo t,.int hi u,.int 1 v]},toks:=tk}:=I.kept fun b o e=>b8 _ e
 refine ⟨(s.heap.push {cls:=.type "range",data:=.fields #[.int lo t,.int hi u,.int 1 v]}).objs.size,[(s.heap.push {cls:=.type "range",data:=.fields #[.int lo t,.int hi u,.int 1 v]}).objs.size],_,_,H,rfl,
  I1.kept (t':=tk) fun b o e=>b8 _ e,MD _ lo (hi-lo).toNat,?_,fun b hb=>?_,q⟩
 ·have e1:lo+((0:Nat):Int)*1=lo:=by simp
  have e2:(((hi-lo).toNat:Nat):Int)-((0:Nat):Int)=Builtin.Range.rangeSize lo hi 1:=by rw [rangeSize_one];split <;> lia
  show IsRangeIter _ _ (lo+((0:Nat):Int)*1) ((((hi-lo).toNat:Nat):Int)-((0:Nat):Int)) 1;rw [e1,e2];exact dU _ rfl
 ·have e:b=(s.heap.push {cls:=.type "range",data:=.fields #[.int lo t,.int hi u,.int 1 v]}).objs.size:=by simpa using hb
  subst e;exact I1.wJ (ay _) (I1.ax.fresh (ay _))
def MF(ta:TA):TI:=fun σ H R=>ta σ H fun vs H1=>∃j:Int,vs=[.int j]∧-(2 ^ 62)≤j∧j<2 ^ 62∧R (mE 0 j.toNat) H1
def MG(ta:TA):TI:=fun σ H R=>ta σ H fun vs H1=>∃i j:Int,vs=[.int i,.int j]∧(-(2 ^ 62)≤i∧i<2 ^ 62∧-(2 ^ 62)≤j∧j<2 ^ 62)∧R (mE i (j-i).toNat) H1
variable {ta:TA} {p pos:Pos}
theorem k6{a:Expr}(hg:Gl X "range")(hm:X.mg "range"=none)(ha:PA X [a] ta)(hs:starEach [a] X.env=[(false,eval a X.env)]:=by rfl):PI X tg (.Call (.Name "range" p) [a] [] pos) (MF ta):=by
 intro pins s σ H R I h;refine Call_ (mB I hg hm boot_range (vO (aK (ha pos pins s σ H _ I h) fun us s1 ⟨vs,H1,I1,r1,q1⟩=>?_) hs rfl));obtain ⟨j,e,q1,q2,q⟩:=q1;subst e;cases r1 with
 | cons r rr=>cases rr;obtain ⟨t,rfl⟩:=r;exact call_range_1 (FH I1 (by lia) (by lia) q1 q2 (by simpa using q))
theorem FI{a b:Expr}(hg:Gl X "range")(hm:X.mg "range"=none)(ha:PA X [a,b] ta)(hs:starEach [a,b] X.env=[(false,eval a X.env),(false,eval b X.env)]:=by rfl)(qj:starEach [b] X.env=[(false,eval b X.env)]:=by rfl) :
  PI X tg (.Call (.Name "range" p) [a,b] [] pos) (MG ta):=by
 intro pins s σ H R I h;refine Call_ (mB I hg hm boot_range (vO (aK (ha pos pins s σ H _ I h) fun us s1 ⟨vs,H1,I1,r1,q1⟩=>?_) (by rw [hs,qj]) (by rw [qj];rfl)))
 obtain ⟨i,j,e,⟨q1,q2,q3,q4⟩,q⟩:=q1;subst e;cases r1 with
 | cons r rr=>
  cases rr with
  | cons r' rr=>cases rr;obtain ⟨t,rfl⟩:=r;obtain ⟨t',rfl⟩:=r';exact call_range_2 (FH I1 q1 q2 q3 q4 q)
def MJ(wi:TI)(g:TG)(tb:TS):TS:=fun D σ H=>wi σ H fun J H1=>∃W:Nat→Nat→St→Hp→Prop,(∃m,W 0 m σ H1)∧∀i m σ H,W i m σ H→
 (J.stop i H∧D.nx σ H)∨(J.go i H∧∃N:St→Hp→Prop,(∀σ' H',N σ' H'→∃m',m'<m∧W (i+1) m' σ' H')∧∀x H',J.d8 i H x H'→g x σ H' fun σ2 H2=>tb {D with nx:=N,ct:=N,bk:=D.nx} σ2 H2)
def k8(fp:List Addr)(h:Heap):List (Addr×Obj):=fp.filterMap fun b=>(h.get? b).map fun o=>(b,o)
variable {fp:List Addr}
theorem ot{o:Obj}(hb:b∈fp)(e:h.get? b=some o):(b,o)∈k8 fp h:=yH.mpr ⟨b,hb,by rw [e];rfl⟩
theorem MK{p:Addr×Obj}(hp:p∈k8 fp h):p.1∈fp∧h.get? p.1=some p.2:=by
 obtain ⟨b,hb,e⟩:=yH.mp hp;cases q:h.get? b with
 | none=>rw [q] at e;cases e
 | some o=>rw [q] at e;have e':(b,o)=p:=Option.some.inj e;subst e';exact ⟨hb,q⟩
theorem Inv.pinned(I:Inv X pins σ H s)(hf:∀b∈fp,mD X pins H b)(ho:∀b∈fp,∃o,s.heap.get? b=some o∧∀v,o.data≠.cell v):Inv X (pins++k8 fp s.heap) σ H s:=
 I.Fp fun p hp=>(cY.mp hp).elim (fun z=>I.pin p (eQ _ z)) fun z=>by obtain ⟨hb,e⟩:=MK z;obtain ⟨f0,f1,f2,_⟩:=hf p.1 hb;obtain ⟨o,e',d⟩:=ho p.1 hb;rw [e] at e';cases e';exact ⟨e,f0,f1,f2,d⟩
theorem Inv.sX{pl:aQ}(I:Inv X (pins++pl) σ H s):Inv X pins σ H s:=I.Fp fun p hp=>I.pin p (eQ _ (kK _ hp))
theorem dM{iter:Expr}{body:List Stmt}{wi:TI}{g:TG}{tb:TS}(hp:PassesOwn (model X.prog X.w) X.A X.env X.xe)(hc:X.calm=true)(hi:PI X tg iter wi)(hg:PG X tg g)(hb:fN X body tb)
  (hs:∀x,foldedSetIterable iter X.env x=pure x:=by intro _;rfl):PS X (.For tg iter body [] pos) (MJ wi g tb):=by
 intro pins s σ H D I h;refine wpAny_For (aK (hi pins s σ H _ I h) fun v s1 h1=>aK h1 fun wK s2 h2=>?_) hs;obtain ⟨it,fp,tn,J,H2,e,I2,T,i9,f2,W,⟨m0,w0⟩,turn⟩:=h2;subst e;have gN:∀{H':Hp},(∀b∈fp,H' b=none)→∀b∈fp,mD X pins H' b:=fun hn b hb=>⟨hn b hb,(f2 b hb).2⟩;refine codeAny_forLoop_any (fun n s'=>∃i σ' H',Inv X pins σ' H' s'∧tn i s'.heap∧(∀b∈fp,H' b=none)∧W i n σ' H') ?_ m0 ⟨0,σ,H2,I2,i9,fun b hb=>(f2 b hb).1,w0⟩;rintro n s3 ⟨i,σ3,H3,I3,FJ,FK,w3⟩;rcases turn i n σ3 H3 w3 with ⟨stop,qn⟩ | ⟨go,N,hN,step⟩
 ·refine pJ hp (aK (T.done X rfl rfl rfl hc i pins s3 σ3 H3 X.xe I3 (gN FK) FJ stop) fun r s4 ⟨hr,I4⟩=>?_)
  subst hr;exact yG ⟨σ3,H3,I4,qn⟩
 ·refine pJ hp (aK (T.item X rfl rfl rfl hc i pins s3 σ3 H3 X.xe I3 (gN FK) FJ go) fun r s4 ⟨u,hr,h4⟩=>?_)
  subst hr;refine pJ hp (aK h4 fun _ s5 ⟨x,H5,I5,r5,y5,gO,ql⟩=>?_);have qm:=I5.pinned (gN ql) (T.obj _ _ gO);refine pJ hp (aK (hg _ s5 σ3 H5 x u _ qm r5 (step x H5 y5)) fun _ s6 ⟨σ6,H6,I6,q6⟩=>?_);refine pJ hp (aK (hb _ s6 σ6 H6 _ I6 q6) fun f s7 q7=>?_);have again:∀{σ7:St} {H7:Hp},Inv X (pins++k8 fp s5.heap) σ7 H7 s7→N σ7 H7→∃m,m<n∧∃i σ' H',Inv X pins σ' H' s7∧tn i s7.heap∧(∀b∈fp,H' b=none)∧W i m σ' H':=fun{σ7 H7} I7 n7=>by obtain ⟨m',hm,w7⟩:=hN σ7 H7 n7;refine ⟨m',hm,i+1,σ7,H7,I7.sX,T.keep _ _ _ gO fun b hb o e=>(I7.pin (b,o) (eQ _ (eQ _ (ot hb e)))).1,fun b hb=>?_,w7⟩;obtain ⟨o,e,d⟩:=T.obj _ _ gO b hb;exact (I7.pin (b,o) (eQ _ (eQ _ (ot hb e)))).2.1
  cases f with
  | next=>obtain ⟨σ7,H7,I7,n7⟩:=q7;exact again I7 n7
  | cont=>obtain ⟨σ7,H7,I7,n7⟩:=q7;exact again I7 n7
  | brk=>obtain ⟨σ7,H7,I7,q7⟩:=q7;exact ⟨σ7,H7,I7.sX,q7⟩
  | ret v=>obtain ⟨x7,σ7,H7,I7,r7,q7⟩:=q7;exact ⟨x7,σ7,H7,I7.sX,r7,q7⟩
end
variable {g:TG} {tb:TS} {D:Ends}
theorem k_(Pv:Nat→St→Hp→Prop)(h0:Pv 0 σ H)(hl:∀i σ H,i≤xs.length→Pv i σ H→a7 K H a xs)
  (hs:∀i x σ H,xs[i]?=some x→Pv i σ H→g x σ H fun σ2 H2=>tb {D with nx:=Pv (i+1),ct:=Pv (i+1),bk:=D.nx} σ2 H2) (hd:∀σ H,Pv xs.length σ H→D.nx σ H) :
  ∃W:Nat→Nat→St→Hp→Prop,(∃m,W 0 m σ H)∧∀i m σ H,W i m σ H→
   ((qi K a).stop i H∧D.nx σ H)∨((qi K a).go i H∧∃N:St→Hp→Prop,(∀σ' H',N σ' H'→∃m',m'<m∧W (i+1) m' σ' H')∧∀x H',(qi K a).d8 i H x H'→g x σ H' fun σ2 H2=>tb {D with nx:=N,ct:=N,bk:=D.nx} σ2 H2):=by
 refine ⟨fun i m σ H=>m=xs.length-i∧i≤xs.length∧Pv i σ H,⟨xs.length,by simp,bU _,h0⟩,?_⟩
 rintro i m σ H ⟨rfl,hi,p⟩;have q:=hl i σ H hi p;by_cases aZ:i<xs.length
 ·refine .inr ⟨⟨xs,xs[i],q,by simp [aZ]⟩,Pv (i+1),fun σ' H' p'=>⟨xs.length-(i+1),by lia,rfl,aZ,p'⟩,fun x H' y=>?_⟩
  obtain ⟨e,y⟩:=y;subst e;exact hs i x σ _ (y xs q) p
 ·have e:i=xs.length:=by lia
  subst e;exact .inl ⟨⟨xs,q,ay _⟩,hd σ H p⟩
theorem FL(Pv:Nat→St→Hp→Prop)(h0:Pv 0 σ H)(hl:∀i σ H,i≤xs.length→Pv i σ H→gA K H a xs)
  (hs:∀i x σ H,xs[i]?=some x→Pv i σ H→g x σ H fun σ2 H2=>tb {D with nx:=Pv (i+1),ct:=Pv (i+1),bk:=D.nx} σ2 H2) (hd:∀σ H,Pv xs.length σ H→D.nx σ H) :
  ∃W:Nat→Nat→St→Hp→Prop,(∃m,W 0 m σ H)∧∀i m σ H,W i m σ H→
   ((sW K a).stop i H∧D.nx σ H)∨((sW K a).go i H∧∃N:St→Hp→Prop,(∀σ' H',N σ' H'→∃m',m'<m∧W (i+1) m' σ' H')∧∀x H',(sW K a).d8 i H x H'→g x σ H' fun σ2 H2=>tb {D with nx:=N,ct:=N,bk:=D.nx} σ2 H2):=by
 refine ⟨fun i m σ H=>m=xs.length-i∧i≤xs.length∧Pv i σ H,⟨xs.length,by simp,bU _,h0⟩,?_⟩
 rintro i m σ H ⟨rfl,hi,p⟩;have q:=hl i σ H hi p;by_cases aZ:i<xs.length
 ·refine .inr ⟨⟨xs,xs[i],q,by simp [aZ]⟩,Pv (i+1),fun σ' H' p'=>⟨xs.length-(i+1),by lia,rfl,aZ,p'⟩,fun x H' y=>?_⟩
  obtain ⟨e,y⟩:=y;subst e;exact hs i x σ _ (y xs q) p
 ·have e:i=xs.length:=by lia
  subst e;exact .inl ⟨⟨xs,q,ay _⟩,hd σ H p⟩
variable {n:Nat}
theorem mF{lo:Int}(Pv:Nat→St→Hp→Prop)(h0:Pv 0 σ H)
  (hs:∀i σ H,i<n→Pv i σ H→g (.int (lo+i)) σ H fun σ2 H2=>tb {D with nx:=Pv (i+1),ct:=Pv (i+1),bk:=D.nx} σ2 H2) (hd:∀σ H,Pv n σ H→D.nx σ H) :
  ∃W:Nat→Nat→St→Hp→Prop,(∃m,W 0 m σ H)∧∀i m σ H,W i m σ H→
   ((mE lo n).stop i H∧D.nx σ H)∨((mE lo n).go i H∧∃N:St→Hp→Prop,(∀σ' H',N σ' H'→∃m',m'<m∧W (i+1) m' σ' H')∧∀x H',(mE lo n).d8 i H x H'→g x σ H' fun σ2 H2=>tb {D with nx:=N,ct:=N,bk:=D.nx} σ2 H2):=by
 refine ⟨fun i m σ H=>m=n-i∧i≤n∧Pv i σ H,⟨n,by simp,bU _,h0⟩,?_⟩
 rintro i m σ H ⟨rfl,hi,p⟩;by_cases aZ:i<n
 ·refine .inr ⟨aZ,Pv (i+1),fun σ' H' p'=>⟨n-(i+1),by lia,rfl,aZ,p'⟩,fun x H' y=>?_⟩
  obtain ⟨e,y⟩:=y;subst e y;exact hs i σ _ aZ p
 ·have e:i=n:=by lia
  subst e;exact .inl ⟨ay _,hd σ H p⟩
abbrev R2:=V→V→Hp→VK→Prop
def cz(X:Cx)(f:Value→Value→Sem Value)(r:R2):Prop:=
 ∀(pins:aQ) (s:Shared) (σ:St) (H:Hp) (x y:V) (v u:Value) (Q:VK),Inv X pins σ H s→RelV x v→RelV y u→r x y H Q→
  wpAny (model X.prog X.w) X.A (f v u) (EP X pins σ Q) X.xe s
def B2(X:Cx)(f:Value→Sem Value)(r:V→Hp→VK→Prop):Prop:=
 ∀(pins:aQ) (s:Shared) (σ:St) (H:Hp) (x:V) (v:Value) (Q:VK),Inv X pins σ H s→RelV x v→r x H Q→
  wpAny (model X.prog X.w) X.A (f v) (EP X pins σ Q) X.xe s
def gB(X:Cx)(f:Value)(r:List V→Hp→VK→Prop):Prop:=
 ∀(pins:aQ) (s:Shared) (σ:St) (H:Hp) (xs:List V) (us:List Value) (Q:VK),Inv X pins σ H s→Vals xs us→r xs H Q→
  wpAny (model X.prog X.w) X.A (call f us) (EP X pins σ Q) X.xe s
def mG(r:R2)(ta tb:TE):TE:=fun σ H Q=>ta σ H fun x H1=>tb σ H1 fun y H2=>r x y H2 Q
def ML(r:V→Hp→VK→Prop)(ta:TE):TE:=fun σ H Q=>ta σ H fun x H1=>r x H1 Q
def rI(C:Int→Int→Prop)(g:Int→Int→V):R2:=fun x y H Q=>∃i j,x=.int i∧y=.int j∧C i j∧Q (g i j) H
def ou(g:Int→Int→V):R2:=fun x y H Q=>∃i j,x=.int i∧y=.int j∧Q (g i j) H
def rU(g:Int→V):V→Hp→VK→Prop:=fun x H Q=>∃i,x=.int i∧Q (g i) H
section
variable {X:Cx} {a b c:Expr} {ta tb tc:TE} {pos:Pos}
variable {f:Value→Value→Sem Value}
theorem B3(ha:PE X a ta)(hb:PE X b tb){pins:aQ}{R:V→V→Hp→Prop}(I:Inv X pins σ H s)
  (h:ta σ H fun x H1=>tb σ H1 fun y H2=>R x y H2) {Q:aR}
  (hf:∀v u s2 x y H2,Inv X pins σ H2 s2→RelV x v→RelV y u→R x y H2→wpAny (model X.prog X.w) X.A (f v u) Q X.xe s2) :
  wpAny (model X.prog X.w) X.A (eval a X.env) (fun v s₁=>wpAny (model X.prog X.w) X.A (eval b X.env) (fun u s₂=>wpAny (model X.prog X.w) X.A (f v u) Q X.xe s₂) X.xe s₁) X.xe s:=by
 refine aK (ha pins s σ H _ I h) fun v s1 ⟨x,H1,I1,r1,q1⟩=>?_;refine aK (hb pins s1 σ H1 _ I1 q1) fun u s2 ⟨y,H2,I2,r2,q2⟩=>?_;exact hf v u s2 x y H2 I2 r1 r2 q2
theorem bQ{op:Operator}{r:R2}(ho:cz X (binaryOp op) r)(ha:PE X a ta)(hb:PE X b tb):PE X (.BinOp a op b pos) (mG r ta tb):=by intro pins s σ H Q I h;exact wpAny_BinOp (B3 ha hb I h fun v u s2 x y H2 I2 rx ry q=>ho pins s2 σ H2 x y v u Q I2 rx ry q)
theorem FN{op:UnaryOp}{r:V→Hp→VK→Prop}(ho:B2 X (unaryOp op) r)(ha:PE X a ta):PE X (.UnaryOp op a pos) (ML r ta):=by intro pins s σ H Q I h;exact UnaryOp_ (aK (ha pins s σ H _ I h) fun v s1 ⟨x,H1,I1,r1,q1⟩=>ho pins s1 σ H1 x v Q I1 r1 q1)
theorem zp{C:Int→Int→Prop}{g:Int→Int→Int}
  (rule:∀(i j:Int) (t u:Tok) (s:Shared) (Q:aR) (E:aR),C i j→Q (.int (g i j) s.toks) {s with toks:=s.toks+1}→wpAny (model X.prog X.w) X.A (f (.int i t) (.int j u)) Q E s) :
  cz X f (rI C fun i j=>.int (g i j)):=by
 intro pins s σ H x y v u Q I rx ry h;obtain ⟨i,j,rfl,rfl,hc,q⟩:=h;obtain ⟨t,rfl⟩:=rx;obtain ⟨t',rfl⟩:=ry;exact rule i j t t' s _ _ hc ⟨.int (g i j),H,I.tok _,⟨_,rfl⟩,q⟩
theorem FO{g:Int→Int→Int}
  (rule:∀(i j:Int) (t u:Tok) (s:Shared) (Q:aR) (E:aR),Q (.int (g i j) s.toks) {s with toks:=s.toks+1}→wpAny (model X.prog X.w) X.A (f (.int i t) (.int j u)) Q E s) :
  cz X f (ou fun i j=>.int (g i j)):=by
 intro pins s σ H x y v u Q I rx ry h;obtain ⟨i,j,rfl,rfl,q⟩:=h;obtain ⟨t,rfl⟩:=rx;obtain ⟨t',rfl⟩:=ry;exact rule i j t t' s _ _ ⟨.int (g i j),H,I.tok _,⟨_,rfl⟩,q⟩
theorem zq{g:Int→Int→Bool}
  (rule:∀(i j:Int) (t u:Tok) (s:Shared) (Q:aR) (E:aR),Q (.bool (g i j)) s→wpAny (model X.prog X.w) X.A (f (.int i t) (.int j u)) Q E s) :
  cz X f (ou fun i j=>.bl (g i j)):=by
 intro pins s σ H x y v u Q I rx ry h;obtain ⟨i,j,rfl,rfl,q⟩:=h;obtain ⟨t,rfl⟩:=rx;obtain ⟨t',rfl⟩:=ry;exact rule i j t t' s _ _ ⟨.bl (g i j),H,I,rfl,q⟩
def MM(i j:Int):Prop:=0≤j∧j≤1000000∧i.natAbs<2 ^ 64
def B4(i j:Int):Prop:=(-(2 ^ 64)<i∧i<2 ^ 64)∨(-(2 ^ 64)<j∧j<2 ^ 64)
theorem B4.ok{i j:Int}(h:B4 i j):IntMulOk i j:=by
 rcases h with ⟨h1,h2⟩ | ⟨h1,h2⟩;·exact .of_left (intBits_le_64 h1 h2)
 ·exact .of_right (intBits_le_64 h1 h2)
theorem iD:cz X (binaryOp .Add) (ou fun i j=>.int (i+j)):=FO fun _ _ _ _ _ _ _ q=>add_int q
theorem mH:cz X (binaryOp .Sub) (ou fun i j=>.int (i-j)):=FO fun _ _ _ _ _ _ _ q=>sub_int q
theorem mI:cz X (binaryOp .Mult) (rI B4 fun i j=>.int (i*j)):=zp fun _ _ _ _ _ _ _ hc q=>mul_int q hc.ok
theorem oz:cz X (binaryOp .Mod) (rI (fun _ j=>0<j) fun i j=>.int (i % j)):=zp fun i j _ _ _ _ _ hc q=>by have h1:(0:Int)<j:=hc;exact mod_int' (by lia) (by rw [Int.fmod_eq_emod_of_nonneg i (by lia)];exact q)
theorem MN:cz X (binaryOp .Pow) (rI MM fun i j=>.int (i ^ j.toNat)):=zp fun _ _ _ _ _ _ _ hc q=>pow_int_small hc.1 hc.2.1 hc.2.2 q
theorem MO{f:Value→Sem Value}{g:Int→Int}
  (rule:∀(i:Int) (t:Tok) (s:Shared) (Q:aR) (E:aR),Q (.int (g i) s.toks) {s with toks:=s.toks+1}→wpAny (model X.prog X.w) X.A (f (.int i t)) Q E s) :
  B2 X f (rU fun i=>.int (g i)):=by
 intro pins s σ H x v Q I rx h;obtain ⟨i,rfl,q⟩:=h;obtain ⟨t,rfl⟩:=rx;exact rule i t s _ _ ⟨.int (g i),H,I.tok _,⟨_,rfl⟩,q⟩
theorem FP:B2 X (unaryOp .USub) (rU fun i=>.int (-i)):=MO fun _ _ _ _ _ q=>neg_int q
end
def B5:V→V→Bool
 | .aN,.aN=>true | .aN,.int _=>true | .int _,.aN=>true | .aN,.bl _=>true | .bl _,.aN=>true | .aN,.str _=>true | .str _,.aN=>true
 | .int _,.int _=>true | .bl _,.bl _=>true | .str _,.str _=>true | .j_ _,.j_ _=>true
 | .int _,.str _=>true | .str _,.int _=>true | .bl _,.str _=>true | .str _,.bl _=>true
 | _,_=>false
def MP:R2:=fun x y H Q=>B5 x y=true∧Q (.bl (decide (x=y))) H
def MQ:R2:=fun x y H Q=>B5 x y=true∧Q (.bl (!decide (x=y))) H
theorem FQ{i j:Int}:decide (V.int i=V.int j)=(i == j):=by rw [nQ];simp
theorem FR{i j:Bool}:decide (V.bl i=V.bl j)=(i == j):=by rw [nQ];simp
theorem FT{i j:Str}:decide (V.str i=V.str j)=(i == j):=by rw [nQ];simp
theorem FU{i j:Array UInt8}:decide (V.j_ i=V.j_ j)=(i.toList == j.toList):=by rw [nQ];cases i;cases j;simp
section
variable {X:Cx} {a b c:Expr} {ta tb tc:TE} {pos:Pos}
theorem cT{pins:aQ}{Q:VK}{k k':Bool}(I:Inv X pins σ H s)(q:Q (.bl k) H)(e:k=k'):EP X pins σ Q (.bool k') s:=by subst e;exact ⟨.bl k,H,I,rfl,q⟩
theorem iE:cz X (compareOp .Eq) MP:=by
 intro pins s σ H x y v u Q I rx ry h;obtain ⟨hs,q⟩:=h;cases x with
 | aN=>
  cases rx;cases y with
  | aN=>cases ry;exact PySem.EqNone.eq_none_none (cT I q (by simp))
  | bl j=>cases ry;exact PySem.EqNone.eq_none_bool (cT I q (by simp))
  | int j=>obtain ⟨t',rfl⟩:=ry;exact PySem.EqNone.eq_none_int (cT I q (by simp))
  | str j=>obtain ⟨t',rfl⟩:=ry;exact PySem.EqNone.eq_none_str (cT I q (by simp))
  | _=>exact absurd (show false=true from hs) dg
 | bl i=>
  cases rx;cases y with
  | aN=>cases ry;exact PySem.EqNone.eq_bool_none (cT I q (by simp))
  | bl j=>cases ry;exact eq_bool (cT I q FR)
  | str j=>obtain ⟨t',rfl⟩:=ry;exact PySem.EqMixed.eq_bool_str (cT I q (by simp))
  | _=>exact absurd (show false=true from hs) dg
 | int i=>
  obtain ⟨t,rfl⟩:=rx;cases y with
  | aN=>cases ry;exact PySem.EqNone.eq_int_none (cT I q (by simp))
  | int j=>obtain ⟨t',rfl⟩:=ry;exact eq_int (cT I q FQ)
  | str j=>obtain ⟨t',rfl⟩:=ry;exact PySem.EqMixed.eq_int_str (cT I q (by simp))
  | _=>exact absurd (show false=true from hs) dg
 | str i=>
  obtain ⟨t,rfl⟩:=rx;cases y with
  | aN=>cases ry;exact PySem.EqNone.eq_str_none (cT I q (by simp))
  | bl j=>cases ry;exact PySem.EqMixed.eq_str_bool (cT I q (by simp))
  | int j=>obtain ⟨t',rfl⟩:=ry;exact PySem.EqMixed.eq_str_int (cT I q (by simp))
  | str j=>obtain ⟨t',rfl⟩:=ry;exact eq_str (cT I q FT)
  | _=>exact absurd (show false=true from hs) dg
 | j_ i=>
  obtain ⟨t,rfl⟩:=rx;cases y with
  | j_ j=>obtain ⟨t',rfl⟩:=ry;exact PySem.W.eq_bytes (cT I q FU)
  | _=>exact absurd (show false=true from hs) dg
 | _=>cases y <;> exact absurd (show false=true from hs) dg
theorem sY:cz X (compareOp .NotEq) MQ:=by
 intro pins s σ H x y v u Q I rx ry h;obtain ⟨hs,q⟩:=h;cases x with
 | aN=>
  cases rx;cases y with
  | aN=>cases ry;exact PySem.EqNone.ne_none_none (cT I q (by simp))
  | bl j=>cases ry;exact PySem.EqNone.ne_none_bool (cT I q (by simp))
  | int j=>obtain ⟨t',rfl⟩:=ry;exact PySem.EqNone.ne_none_int (cT I q (by simp))
  | str j=>obtain ⟨t',rfl⟩:=ry;exact PySem.EqNone.ne_none_str (cT I q (by simp))
  | _=>exact absurd (show false=true from hs) dg
 | bl i=>
  cases rx;cases y with
  | aN=>cases ry;exact PySem.EqNone.ne_bool_none (cT I q (by simp))
  | bl j=>cases ry;exact ne_bool (cT I q (eE not FR))
  | str j=>obtain ⟨t',rfl⟩:=ry;exact PySem.EqMixed.ne_bool_str (cT I q (by simp))
  | _=>exact absurd (show false=true from hs) dg
 | int i=>
  obtain ⟨t,rfl⟩:=rx;cases y with
  | aN=>cases ry;exact PySem.EqNone.ne_int_none (cT I q (by simp))
  | int j=>obtain ⟨t',rfl⟩:=ry;exact ne_int (cT I q (eE not FQ))
  | str j=>obtain ⟨t',rfl⟩:=ry;exact PySem.EqMixed.ne_int_str (cT I q (by simp))
  | _=>exact absurd (show false=true from hs) dg
 | str i=>
  obtain ⟨t,rfl⟩:=rx;cases y with
  | aN=>cases ry;exact PySem.EqNone.ne_str_none (cT I q (by simp))
  | bl j=>cases ry;exact PySem.EqMixed.ne_str_bool (cT I q (by simp))
  | int j=>obtain ⟨t',rfl⟩:=ry;exact PySem.EqMixed.ne_str_int (cT I q (by simp))
  | str j=>obtain ⟨t',rfl⟩:=ry;exact ne_str (cT I q (eE not FT))
  | _=>exact absurd (show false=true from hs) dg
 | j_ i=>
  obtain ⟨t,rfl⟩:=rx;cases y with
  | j_ j=>obtain ⟨t',rfl⟩:=ry;exact PySem.W.ne_bytes (cT I q (eE not FU))
  | _=>exact absurd (show false=true from hs) dg
 | _=>cases y <;> exact absurd (show false=true from hs) dg
theorem zr:cz X (compareOp .Lt) (ou fun i j=>.bl (decide (i<j))):=zq fun _ _ _ _ _ _ _ q=>lt_int q
theorem MR:cz X (compareOp .LtE) (ou fun i j=>.bl (decide (i≤j))):=zq fun _ _ _ _ _ _ _ q=>le_int q
theorem qo:cz X (compareOp .Gt) (ou fun i j=>.bl (decide (j<i))):=zq fun _ _ _ _ _ _ _ q=>gt_int q
theorem MS:cz X (compareOp .GtE) (ou fun i j=>.bl (decide (j≤i))):=zq fun _ _ _ _ _ _ _ q=>ge_int q
theorem MT:cz X (compareOp .Is) (fun x y H Q=>y=.aN∧Q (.bl (decide (x=.aN))) H):=by
 intro pins s σ H x y v u Q I rx ry h;obtain ⟨rfl,q⟩:=h;cases ry;refine is_none_gen (cT I q ?_)
 cases x <;> first
  | (cases rx;rfl)
  | (obtain ⟨t,rfl⟩:=rx;rfl)
theorem FV:cz X (compareOp .IsNot) (fun x y H Q=>y=.aN∧Q (.bl (!decide (x=.aN))) H):=by
 intro pins s σ H x y v u Q I rx ry h;obtain ⟨rfl,q⟩:=h;cases ry;refine isnot_none_gen (cT I q ?_)
 cases x <;> first
  | (cases rx;rfl)
  | (obtain ⟨t,rfl⟩:=rx;rfl)
variable {op:CmpOp}
theorem FW(b:Expr)(h:op≠.In:=by decide)(h2:op≠.NotIn:=by decide):behindInMarks op b=false:=by
 have e1:(op == CmpOp.In)=false:=by cases op <;> first | rfl | exact absurd rfl h
 have e2:(op == CmpOp.NotIn)=false:=by cases op <;> first | rfl | exact absurd rfl h2
 cases b <;> simp [behindInMarks,e1,e2]
variable {r:R2}
theorem MU(ho:cz X (compareOp op) r)(ha:PE X a ta)(hb:PE X b tb)(hm:behindInMarks op b=false):PE X (.Compare a [op] [b] pos) (mG r ta tb):=by intro pins s σ H Q I h;exact wpAny_Compare1 (B3 ha hb I h fun v u s2 x y H2 I2 rx ry q=>ho pins s2 σ H2 x y v u Q I2 rx ry q) hm
theorem mJ(ho:cz X (compareOp op) r)(ha:PE X a ta)(hb:PE X b tb)(hm:behindInMarks op b=false:=by exact FW _):PE X (.Compare a [op] [b] pos) (mG r ta tb):=MU ho ha hb hm
def B6(t:TE):TT:=fun σ H Q=>t σ H fun x H'=>∃k,x=.bl k∧Q k H'
theorem sZ(ho:cz X (compareOp op) r)(ha:PE X a ta)(hb:PE X b tb)(hm:behindInMarks op b=false):PT X (.Compare a [op] [b] pos) (B6 (mG r ta tb)):=by intro pins s σ H Q I h;refine wpAny_isTrue_Compare1 (aK (ha pins s σ H _ I h) fun v s1 ⟨x,H1,I1,r1,q1⟩=>aK (hb pins s1 σ H1 _ I1 q1) fun u s2 ⟨y,H2,I2,r2,q2⟩=>aK (ho pins s2 σ H2 x y v u _ I2 r1 r2 q2) fun c s3 ⟨z,H3,I3,r3,k,e,q3⟩=>?_) hm;subst e;cases r3;exact pI ⟨H3,I3,q3⟩
theorem ck(ho:cz X (compareOp op) r)(ha:PE X a ta)(hb:PE X b tb)(hm:behindInMarks op b=false:=by exact FW _):PT X (.Compare a [op] [b] pos) (B6 (mG r ta tb)):=sZ ho ha hb hm
theorem s_:(sizeLine:Nat)<2 ^ 63:=by rw [l_];decide
theorem vals1(r:Vals [x] us):∃u,us=[u]∧RelV x u:=by
 cases r with
 | cons r1 r2=>cases r2;exact ⟨_,rfl,r1⟩
theorem vals2{y:V}(r:Vals [x,y] us):∃u w',us=[u,w']∧RelV x u∧RelV y w':=by
 cases r with
 | cons r1 r2=>
  cases r2 with
  | cons r3 r4=>cases r4;exact ⟨_,_,rfl,r1,r3⟩
theorem zt(hc:X.calm=true):gB X (.builtin "max") (fun xs H Q=>∃i j,xs=[.int i,.int j]∧Q (.int (if j>i then j else i)) H):=by
 intro pins s σ H xs us Q I r h;obtain ⟨i,j,rfl,q⟩:=h;obtain ⟨u,w',rfl,⟨t,rfl⟩,⟨t',rfl⟩⟩:=vals2 r;refine max_two_ints (I.ok.hd hc) fun h' tk k=>⟨_,H,I.kept k,?_,q⟩;by_cases hj:j>i;·rw [ae hj,ae hj];exact ⟨_,rfl⟩
 ·rw [aa hj,aa hj];exact ⟨_,rfl⟩
theorem zu(hc:X.calm=true):gB X (.builtin "min") (fun xs H Q=>∃i j,xs=[.int i,.int j]∧Q (.int (if j<i then j else i)) H):=by
 intro pins s σ H xs us Q I r h;obtain ⟨i,j,rfl,q⟩:=h;obtain ⟨u,w',rfl,⟨t,rfl⟩,⟨t',rfl⟩⟩:=vals2 r;refine min_two_ints (I.ok.hd hc) fun h' tk k=>⟨_,H,I.kept k,?_,q⟩;by_cases hj:j<i;·rw [ae hj,ae hj];exact ⟨_,rfl⟩
 ·rw [aa hj,aa hj];exact ⟨_,rfl⟩
end
structure B7 (h:Heap) (x dx C:Addr) (mA:cH):Prop where
 obj:h.get? x=some (PySem.W.instObj C dx)
 ns:h.Ns1 dx mA
 ne:dx≠x
variable {dx:Addr} {mA:cH}
theorem MV(n:h.Ns1 dx mA):∃od,h.get? dx=some od∧∀name,PySem.W.lookIn name od=some (mA name):=by
 obtain ⟨o,es,ep,ho,hd,hk,_,hm⟩:=n;refine ⟨o,ho,fun name=>?_⟩;have e:=hm name;unfold nsFind findBy at e;rw [←Array.find?_toList] at e;unfold PySem.W.lookIn;rw [hd];dsimp only
 split
 ·rename_i y q
  rw [q] at e;exact eE some e
 ·rename_i q
  rw [q] at e;have a:es.toList.any (·.refKey)=false:=by rw [List.any_eq_false];intro y hy;obtain ⟨z,t,MW⟩:=hk y (Array.mem_toList_iff.mp hy);simp [DictEntry.refKey,MW]
  have a':¬es.toList.any (·.refKey)=true:=by rw [a];exact dg
  rw [aa a'];exact eE some e
theorem B7.look{x C:Addr}(I:B7 h x dx C mA):∃od,PySem.W.InstAt h x (PySem.W.instObj C dx) C (some od)∧∀name,PySem.W.lookIn name od=some (mA name):=
 let ⟨od,ho,hl⟩:=MV I.ns
 ⟨od,⟨I.obj,rfl,rfl,ho⟩,hl⟩
section
variable {prog:Program} {w:World} {A:Around} {E:aR} {s:Shared} {K:aJ} {x dx C f:Addr} {mA:cH} {name:Str} {v:Value}
end
theorem kd.some_of{v:V}{o:Option Value}(r:kd (some v) o):∃u,o=some u∧RelV v u:=by
 cases o with
 | none=>exact (show False from r).elim
 | some u=>exact ⟨u,rfl,r⟩
section
variable {P:Program} {w:World} {H H':Hp} {h h':Heap} {a C dx:Addr} {fs BR:List (Str×V)}
theorem MX(ax:cq P w H h)(e:H a=some (.ins C dx fs)):∃mA,B7 h a dx C mA∧(∀f,kd (fs.lookup f) (mA f))∧PySem.Within mA (fs.map (·.1))∧fs.length≤1000∧H dx=some (.own a):=by obtain ⟨d,z,ne,ob,mA,n,r,q⟩:=(show bV P w H h a (.ins C dx fs) from ax a _ e);exact ⟨mA,⟨ob,n,ne⟩,r,q,z,d⟩
end
structure B8 (K:aJ) (C:Addr):Prop where
 pg:PySem.W.plainGet K C Str.empty=true
 hd:PySem.W.hasDictIn K C=true
 po:PySem.W.plainOver K C=true
 sa:PySem.W.findIn K (.ref C) "__setattr__"=some (some (.builtin "object.__setattr__"))
theorem B8.get{K:aJ}{C:Addr}(c:B8 K C)(f:Str):PySem.W.plainGet K C f=true:=c.pg
section
variable {X:Cx} {pins:aQ} {σ:St} {H:Hp} {s:Shared} {a C dx:Addr} {fs:List (Str×V)} {f:Str} {v:V} {A:Around} {E:aR}
end
section
variable {X:Cx} {o e value:Expr} {f:Str} {pos pos' sU:Pos} {ta tv:TE}
end
section
variable {X:Cx} {pins:aQ} {σ:St} {H:Hp} {s:Shared} {A:Around} {E:aR} {Q:aR} {c:Value} {b:Bool}
inductive i_ (K:aJ) (H:Hp):V→Value→Prop where
 | aN:i_ K H .aN (.type "NoneType")
 | bl (x:Bool):i_ K H (.bl x) (.type "bool")
 | int (i:Int):i_ K H (.int i) (.type "int")
 | str (x:Str):i_ K H (.str x) (.type "str")
 | sP (x:UInt64):i_ K H (.sP x) (.type "float")
 | lst {a:Addr} {xs:List V} (e:H a=some (.lst xs)):i_ K H (.ref a) (.type "list")
 | bb {a:Addr} {o:Obj} {xs:List V} (e:H a=some (.bb o (.lst xs))):i_ K H (.ref a) (.type "list")
 | tup {a:Addr} {xs:List V} (e:H a=some (.tup xs)):i_ K H (.ref a) (.type "tuple")
 | dK {a:Addr} {kvs:List (Key×V)} (e:H a=some (.dK kvs)):i_ K H (.ref a) (.type "dict")
 | dT {a:Addr} {kvs:List (List Key×V)} (e:H a=some (.dT kvs)):i_ K H (.ref a) (.type "dict")
 | ins {a C dx:Addr} {fs:List (Str×V)} (e:H a=some (.ins C dx fs)) (cl:B8 K C) (ha:PySem.W.findIn K (.ref C) "__class__"=some (some (.builtin "object.__class__")))
   (hn:PySem.W.specialIn K (.builtin "object.__class__") "__get__"=some (some (.builtin "getset_descriptor.__get__"))) (FX:PySem.W.takesIn K (.builtin "object.__class__")=some true)
   (hm:PySem.W.mroIn K C (.type "object")=some true):i_ K H (.ref a) (.ref C)
theorem MY{t:Value}(I:Inv X pins σ H s)(rx:RelV x u)(ty:i_ X.K H x t)(e:PySem.W.kitOne X.K t c=some b)(h:∀tk,Q (.bool b) {s with toks:=tk}) :
  wpAny (model X.prog X.w) A (call (.builtin "isinstance") [u,c]) Q E s:=by
 cases ty with
 | aN=>cases (show u=Value.none from rx);exact iX PySem.W.kitx_none I.eY True.intro e (fun z=>nomatch z) h
 | bl y=>cases (show u=Value.bool y from rx);exact iX PySem.W.kitx_bool I.eY True.intro e (fun z=>nomatch z) h
 | int i=>obtain ⟨t,q⟩:=(show ∃t,u=Value.int i t from rx);cases q;exact iX PySem.W.kitx_int I.eY True.intro e (fun z=>nomatch z) h
 | str y=>obtain ⟨t,q⟩:=(show ∃t,u=Value.str y t from rx);cases q;exact iX PySem.W.kitx_str I.eY True.intro e (fun z=>nomatch z) h
 | sP y=>obtain ⟨t,q⟩:=(show ∃t,u=Value.float y t from rx);cases q;exact iX PySem.W.kitx_float I.eY True.intro e (fun z=>nomatch z) h
 | @lst a xs ea=>cases (show u=Value.ref a from rx);obtain ⟨_,_,n,_,h1⟩:=(show bV X.prog X.w H s.heap a (.lst xs) from I.ax a _ ea);exact iX PySem.W.kitx_list I.eY ⟨_,h1,rfl⟩ e (fun z=>nomatch z) h
 | @bb a ob xs ea=>cases (show u=Value.ref a from rx);obtain ⟨_,_,_,n,_,h1⟩:=(show bV X.prog X.w H s.heap a (.bb ob (.lst xs)) from I.ax a _ ea);exact iX PySem.W.kitx_list I.eY ⟨_,h1,rfl⟩ e (fun z=>nomatch z) h
 | @tup a xs ea=>cases (show u=Value.ref a from rx);obtain ⟨_,_,_,p⟩:=(show bV X.prog X.w H s.heap a (.tup xs) from I.ax a _ ea);obtain ⟨o,h1,h2,_⟩:=p;exact iX PySem.W.kitx_tuple I.eY ⟨o,h1,h2⟩ e (fun z=>nomatch z) h
 | @dK a kvs ea=>cases (show u=Value.ref a from rx);obtain ⟨_,_,vs,_,p⟩:=(show bV X.prog X.w H s.heap a (.dK kvs) from I.ax a _ ea);obtain ⟨o,es,ep,h1,h2,_⟩:=p;exact iX PySem.W.kitx_dict I.eY ⟨o,h1,h2.1⟩ e (fun z=>nomatch z) h
 | @dT a kvs ea=>cases (show u=Value.ref a from rx);obtain ⟨_,_,xs,_,o,es,ep,h1,h2,_⟩:=(show bV X.prog X.w H s.heap a (.dT kvs) from I.ax a _ ea);exact iX PySem.W.kitx_dict I.eY ⟨o,h1,h2.1⟩ e (fun z=>nomatch z) h
 | @ins a C dx fs ea cl ha hn FX hm=>cases (show u=Value.ref a from rx);obtain ⟨mA,O,_⟩:=MX I.ax ea;obtain ⟨od,J,_⟩:=O.look;exact iX (PySem.W.kitx_own (cl.get _) cl.hd ha hn FX hm) I.eY J e (fun z=>nomatch z) h
end
structure dF (k:Nat) (A:Around):Prop where
 hd:A.handled=none
 dp:A.depth+3*k+5<recursionLimit
 un:A.units+16*k+200<cLine
variable {k:Nat}
theorem dF.mono{j:Nat}(r:dF k A)(h:j≤k):dF j A:=⟨r.hd,by have:=r.dp;lia,by have:=r.un;lia⟩
theorem dF.deeper(r:dF (k+1) A)(env:Env):dF k (A.deeper env):=
 ⟨r.hd,by have:=r.dp;show A.depth+1+3*k+5<_;lia,by have:=r.un;show A.units+3+16*k+200<_;lia⟩
theorem dF.depth(r:dF k A):A.depth<recursionLimit:=by have:=r.dp;lia
theorem dF.units(r:dF k A):A.units+64<cLine:=by have:=r.un;lia
theorem dF.MZ(r:dF k A):A.units<cLine:=by have:=r.un;lia
def wL:TA:=fun _ H Q=>Q [] H
def zv(ta:TE)(tr:TA):TA:=fun σ H Q=>ta σ H fun x H1=>tr σ H1 fun xs H2=>Q (x::xs) H2
section
variable {X:Cx} {e:Expr} {es:List Expr} {te:TE} {t:TA} {pos:Pos}
theorem ao:PA X [] wL:=fun _ _ _ _ H Q I h=>Calls.spliced_nil ⟨[],H,I,.nil,h⟩
theorem M0(ha:PE X e te)(hr:PA X es t)(hs:starEach (e::es) X.env=(false,eval e X.env)::starEach es X.env:=by rfl):PA X (e::es) (zv te t):=by intro pos pins s σ H Q I h;rw [hs];show wpAny _ _ (spliced ((false,eval e X.env)::backTo pos (starEach es X.env))) _ _ s;refine Calls.spliced_cons (aK (ha pins s σ H _ I h) fun u s1 ⟨x,H1,I1,r1,q1⟩=>?_);exact aK (hr pos pins s1 σ H1 _ I1 q1) fun us s2 ⟨xs,H2,I2,r2,q2⟩=>⟨x::xs,H2,I2,.cons r1 r2,q2⟩
def M1(t:TA):TE:=fun σ H Q=>t σ H fun xs H1=>xs.length≤sizeLine∧∀p,H1 p=none→Q (.ref p) (upd H1 p (.tup xs))
def M3(t:TA):TE:=fun σ H Q=>t σ H fun xs H1=>xs.length≤sizeLine∧∀p,H1 p=none→Q (.ref p) (upd H1 p (.lst xs))
theorem gP{x1}(h:PA X es t):PE X (.Tuple es x1 pos) (M1 t):=by
 intro pins s σ H Q I hq;refine wpAny_Tuple_spliced (aK (h pos pins s σ H _ I hq) fun us s1 ⟨xs,H1,I1,r,z,q⟩=>⟨by rw [←r.length];exact z,?_⟩)
 have hf:H1 s1.heap.objs.size=none:=I1.ax.fresh (ay _);refine ⟨.ref s1.heap.objs.size,upd H1 s1.heap.objs.size (.tup xs),I1.laid (t':=s1.toks) (fun b u e=>b8 _ e) (ay _) ?_,rfl,q _ hf⟩;exact ⟨z,us,r,⟨_,dU _ rfl,rfl,_,rfl⟩⟩
theorem dm(h:PA X es t):PE X (.List es pos) (M3 t):=by
 intro pins s σ H Q I hq;refine wpAny_List_spliced (aK (h pos pins s σ H _ I hq) fun us s1 ⟨xs,H1,I1,r,z,q⟩=>⟨by rw [←r.length];exact z,?_⟩)
 have hf:H1 s1.heap.objs.size=none:=I1.ax.fresh (ay _);refine ⟨.ref s1.heap.objs.size,upd H1 s1.heap.objs.size (.lst xs),I1.laid (t':=s1.toks) (fun b u e=>b8 _ e) (ay _) ?_,rfl,q _ hf⟩;exact ⟨z,us,0,r,dU _ rfl⟩
end
abbrev Sp:=List V→Hp→VK→XK→Prop
abbrev iF:=List Env→Hp→Shared→XK→Value→Shared→Prop
structure zw (P:Program) (w:World) (K:aJ) (mg:cH) (base:Heap) (A:Around) (outer:List Env) (s:Shared) (H:Hp):Prop where
 frames:A.frames=some outer
 mod:Mod K mg base
 bs:∀b o,base.get? b=some o→s.heap.get? b=some o∧H b=none
 i8:base.objs.size≤s.heap.objs.size
 kf:s.heap.FunFrames base outer
 oi:∀b∈cK outer,H b=none
 ax:cq P w H s.heap
 bare:AllBare s.gens
def CE(outer:List Env)(P:Program)(w:World)(H:Hp)(s:Shared)(Q:VK)(u:Value)(s':Shared):Prop:=
 ∃v H',s'.os=s.os∧AllBare s'.gens∧Un (cK outer) [] H H' s.heap s'.heap∧cq P w H' s'.heap∧RelV v u∧Q v H'
def CR(CX:iF)(outer:List Env)(P:Program)(w:World)(H:Hp)(s:Shared)(Q:VK)(E:XK)(r:Result)(s':Shared):Prop:=
 match r with
 | .ok (.ret u)=>CE outer P w H s Q u s'
 | .ok _=>False
 | .error e=>CX outer H s E e s'
structure bY (P:Program) (w:World) (K:aJ) (mg:cH) (base:Heap) (CX:iF) (k:Nat) (f:Addr) (fd:FuncData) (ps:List Str) (sp:Sp):Prop where
 len:∀vs H Q E,sp vs H Q E→vs.length=ps.length
 run:∀(A:Around) (outer:List Env) (s:Shared) (H:Hp) (args:Args) (us:List Value) (vs:List V) (Q:VK) (E:XK),dF k A→zw P w K mg base A outer s H→BindsTo s fd args (ps.zip us)→Vals vs us→sp vs H Q E→
  codeAny (model P w) A (.call (.ref f) args) (CR CX outer P w H s Q E) s
section
variable {X:Cx} {pins:aQ} {σ:St} {H:Hp} {s s':Shared}
theorem Inv.M4(I:Inv X pins σ H s):zw X.prog X.w X.K X.mg X.base X.A X.stack s H:=
 ⟨I.ok.frames,I.ok.mod,I.bs,b9 I.ok.i8 I.sz,I.stack,I.wx,I.ax,I.bare⟩
theorem Inv.after{Q:VK}(I:Inv X pins σ H s)(h:CE X.stack X.prog X.w H s Q u s'):EP X pins σ Q u s':=by obtain ⟨v,H',os,bare,un,ax,r,q⟩:=h;obtain ⟨hh,g,d,t,M5⟩:=s';obtain rfl:M5=s.os:=os;exact ⟨v,H',I.call (h':=hh) (g':=g) (d':=d) (t':=t) (ch:=[]) un ax bare (fun b z=>absurd z (by simp)),r,q⟩
end
def FY(sp:Sp)(lh:List V)(E:XK)(t:TA):TE:=fun σ H Q=>t σ H fun vs H1=>sp (vs++lh) H1 Q E
def Binds(K:aJ)(fd:FuncData)(ps:List Str)(ds:List Value):Prop:=
 ∀(s:Shared) (us:List Value),K.In s.heap→(us++ds).length=ps.length→BindsTo s fd ⟨us,[]⟩ (ps.zip (us++ds))
variable {ps:List Str}
theorem Binds.all{fd:FuncData}(h:∀us:List Value,us.length=ps.length→bindArgs fd ⟨us,[]⟩=pure (ps.zip us)):Binds K fd ps []:=fun s us _ hl=>by rw [j4] at hl ⊢;exact .of_eq (h us hl)
def Passes(CX:iF)(X:Cx)(E:XK):Prop:=∀(pins:aQ) (σ:St) (H:Hp) (s:Shared) (e:Value) (s':Shared),Inv X pins σ H s→CX X.stack H s E e s'→X.xe e s'
section
variable {X:Cx} {CX:iF} {k:Nat} {f C:Addr} {fd:FuncData} {ps:List Str} {sp:Sp} {lh:List V} {ds:List Value} {E:XK} {x m:Str} {p pos apos:Pos} {e o:Expr} {es:List Expr} {ta:TE} {t:TA}
theorem M6{pins:aQ}{Q:VK}{vs:List V}(F:bY X.prog X.w X.K X.mg X.base CX k f fd ps sp)(hr:dF k X.A)(hb:Binds X.K fd ps ds)(hd:Vals lh ds)(hx:Passes CX X E)
  (I:Inv X pins σ H s) (r:Vals vs us) (h:sp (vs++lh) H Q E):wpAny (model X.prog X.w) X.A (call (.ref f) us) (EP X pins σ Q) X.xe s:=by
 have r2:Vals (vs++lh) (us++ds):=r.append hd;have hl:(us++ds).length=ps.length:=by rw [←r2.length];exact F.len _ _ _ _ h
 refine wpAny_call (codeAny_mono (F.run X.A X.stack s H ⟨us,[]⟩ (us++ds) (vs++lh) Q E hr I.M4 (hb s us I.eY hl) r2 h) fun r s' hq=>?_);cases r with
 | error e=>exact hx pins σ H s e s' I hq
 | ok fl=>
  cases fl with
  | ret u=>exact I.after hq
  | next=>exact False.elim hq
  | brk=>exact False.elim hq
  | cont=>exact False.elim hq
theorem M7(F:bY X.prog X.w X.K X.mg X.base CX k f fd ps sp)(hr:dF k X.A)(hg:Gl X x)(hm:X.mg x=some (.ref f))(hk:PySem.W.keepIn X.K (.ref f)=true)(hb:Binds X.K fd ps ds)(hd:Vals lh ds)(hx:Passes CX X E)
  (ha:PA X (e::es) t) (qp:(x == ("__debug__":Str))=false:=by decide) (he:starEach (e::es) X.env=(false,eval e X.env)::starEach es X.env:=by rfl) (lp:(backTo pos (starEach es X.env)).any (·.1)=false:=by rfl) :
  PE X (.Call (.Name x p) (e::es) [] pos) (FY sp lh E t):=by
 intro pins s σ H Q I h;refine yI (Fy I hg hm ?_ qp);refine PySem.W.callWith_K (h₀:=X.base) I.ok.mod.dv hk (aK (ha pos pins s σ H _ I h) fun us s1 ⟨vs,H1,I1,r,q⟩=>⟨I1.eY,?_⟩) he lp;exact M6 F hr hb hd hx I1 r q
theorem bC{j:Nat}(F:bY X.prog X.w X.K X.mg X.base CX k f fd ps sp)(hr:dF j X.A)(hm:X.mg x=some (.ref f))(hk:PySem.W.keepIn X.K (.ref f)=true)(hb:Binds X.K fd ps [])(hx:Passes CX X E)
  (ha:PA X (e::es) t) (hj:k≤j:=by decide) (hg:Gl X x:=by exact rfl) (qp:(x == ("__debug__":Str))=false:=by decide) (he:starEach (e::es) X.env=(false,eval e X.env)::starEach es X.env:=by rfl) (lp:(backTo pos (starEach es X.env)).any (·.1)=false:=by rfl) :
  PE X (.Call (.Name x p) (e::es) [] pos) (FY sp [] E t):=M7 F (hr.mono hj) hg hm hk hb .nil hx ha qp he lp
end
section
variable {X:Cx} {CX:iF} {k:Nat} {f C:Addr} {fd:FuncData} {ps ks:List Str} {sp:Sp} {E:XK} {x m:Str} {p pos apos FZ:Pos} {e o:Expr} {es:List Expr} {M8:List Keyword} {te ta:TE} {t tk:TA} {nm:Option Str}
variable {g:List Value→List Value→List Value} {gV:List V→List V→List V}
end
structure cf (N P:List Str) (sc:Scope):Prop where
 kind:sc.kind=.function
 co:sc.isCoroutine=false
 gen:sc.isGenerator=false
 nd:N.Nodup
 pre:N.take P.length=P
 par:∀x∈P,sc.names.lookup x=some .local∨sc.names.lookup x=some .cell
 M9:∀y∈sc.names,y.2≠.free
variable {N:List Str} {sc:Scope}
theorem dq{P:List Str}(h1:sc.kind=.function:=by rfl)(h2:sc.isCoroutine=false:=by rfl)(h3:sc.isGenerator=false:=by rfl)(h4:N.Nodup:=by decide +kernel)(h5:N.take P.length=P:=by rfl)(h6:∀x∈P,sc.names.lookup x=some .local∨sc.names.lookup x=some .cell:=by decide +kernel)(h7:∀y∈sc.names,y.2≠.free:=by decide +kernel):cf N P sc:=⟨h1,h2,h3,h4,h5,h6,h7⟩
theorem F0{kindOf:Str→Option NameKind}{x:Str}:∀{binds:List (Str×Value)} {m:cH},(∀v,(x,v)∉binds)→bindL kindOf binds m x=m x
 | [],_,_=>rfl
 | (n,v)::r,m,h=>by
  unfold bindL;rw [F0 fun w hw=>h w (eC _ hw)]
  split
  ·have:x≠n:=by rintro rfl;exact h v d5
   simp [this]
  ·rfl
theorem F1{kindOf:Str→Option NameKind}{x:Str}:∀{binds:List (Str×Value)} {m:cH},(∀v,(x,v)∉binds)→bindC kindOf binds m x=m x
 | [],_,_=>rfl
 | (n,v)::r,m,h=>by
  unfold bindC;rw [F1 fun w hw=>h w (eC _ hw)]
  split
  ·rfl
  ·have:x≠n:=by rintro rfl;exact h v d5
   simp [this]
theorem F2{kindOf:Str→Option NameKind}{x:Str}{v:Value}:∀{P:List Str} {vs:List Value} {i:Nat} {m:cH},P.Nodup→P[i]?=some x→vs[i]?=some v→kindOf x=some .local→
  bindL kindOf (P.zip vs) m x=some v
 | [],_,_,_,_,h,_,_=>by simp at h
 | _::_,[],_,_,_,_,h,_=>by simp at h
 | p::P,w::vs,0,m,nd,h1,h2,hk=>by simp at h1 h2;subst h1;subst h2;show bindL kindOf ((p,w)::P.zip vs) m p=_;unfold bindL;rw [F0 fun v hv=>(kL.mp nd).1 (List.of_mem_zip hv).1,ae hk];simp
 | p::P,w::vs,i+1,m,nd,h1,h2,hk=>by show bindL kindOf ((p,w)::P.zip vs) m x=_;unfold bindL;exact F2 (i:=i) (kL.mp nd).2 (by simpa using h1) (by simpa using h2) hk
theorem F3{kindOf:Str→Option NameKind}{x:Str}{v:Value}:∀{P:List Str} {vs:List Value} {i:Nat} {m:cH},P.Nodup→P[i]?=some x→vs[i]?=some v→kindOf x≠some .local→
  bindC kindOf (P.zip vs) m x=some v
 | [],_,_,_,_,h,_,_=>by simp at h
 | _::_,[],_,_,_,_,h,_=>by simp at h
 | p::P,w::vs,0,m,nd,h1,h2,hk=>by simp at h1 h2;subst h1;subst h2;show bindC kindOf ((p,w)::P.zip vs) m p=_;unfold bindC;rw [F1 fun v hv=>(kL.mp nd).1 (List.of_mem_zip hv).1,aa hk];simp
 | p::P,w::vs,i+1,m,nd,h1,h2,hk=>by show bindC kindOf ((p,w)::P.zip vs) m x=_;unfold bindC;exact F3 (i:=i) (kL.mp nd).2 (by simpa using h1) (by simpa using h2) hk
def start(N:List Str)(vs:List V):St:=vs.map some++List.replicate (N.length-vs.length) none
def jG(CX:iF)(P:Program)(w:World)(K:aJ)(mg:cH)(base:Heap)(N:List Str)(qual:Str)(scope:Scope)(f:Addr)(cd:Value)(A:Around)(outer:List Env)(s:Shared)(H:Hp)(E:XK):Cx where
 prog:=P
 w:=w
 K:=K
 mg:=mg
 base:=base
 A:=A.deeper (envOfC qual scope s.heap.objs.size f cd)
 N:=N
 s₀:=s
 H₀:=H
 env:=envOfC qual scope s.heap.objs.size f cd
 outer:=outer
 stack:=envOfC qual scope s.heap.objs.size f cd::outer
 ex:=[]
 calm:=true
 fn:=fun _=>true
 pn:=[]
 xe:=fun e s'=>wpAny (model P w) (A.deeper (envOfC qual scope s.heap.objs.size f cd)) (leaving (envOfC qual scope s.heap.objs.size f cd) e) (fun _ ja=>CX outer H s E e ja) (fun e' ja=>CX outer H s E e' ja) s'
theorem F4{x:Str}(h:sc.names.lookup x=some .cell):∃c,(cellsFrom n sc.names []).lookup x=some c:=by have q:=PySem.W.cellsFrom_some sc.names n [] (.inl h);exact BH.mp q
variable {CX:iF} {mg:cH} {base:Heap} {qual:Str} {scope:Scope} {f:Addr}
theorem M_{cd:Value}{outer:List Env}{s1:Shared}{E:XK}{vs:List V}
  (S:cf N ps scope) (hd:A.handled=none) (e0:zw P w K mg base A outer s H) (hl:vs.length=ps.length) (r:Vals vs us)
  (x:InCallC s s.heap.objs.size (bindL (envOfC qual scope s.heap.objs.size f cd).kindOf (ps.zip us) fun _=>none) (cellsFrom (s.heap.objs.size+1) scope.names []) (bindC (envOfC qual scope s.heap.objs.size f cd).kindOf (ps.zip us) fun _=>none) s1) :
  Inv (jG CX P w K mg base N qual scope f cd A outer s H E) [] (start N vs) H s1:=by
 have lp:ps.length≤N.length:=by have:=eE List.length S.pre;rw [nS] at this;lia
 obtain ⟨h1,tk,rfl,hk⟩:=x.done;have wM:∀b:Addr,b∉(jG CX P w K mg base N qual scope f cd A outer s H E).ex:=fun b z=>absurd (show b∈([]:List Addr) from z) (by simp)
 refine ⟨⟨e0.mod,S.kind,rfl,rfl,ay _,fun y z c h1 h2=>?_,fun y hy=>?_,fun y c _ h=>?_,fun _=>hd,Around.frames_deeper e0.frames,.inr ⟨rfl,rfl⟩,fun b z=>absurd z (wM b),e0.bs,e0.i8,fun b _ _=>wM b,fun b z=>absurd z (wM b),e0.kf,e0.oi⟩,
  rfl,e0.bare,Un.kept hk,⟨_,x.toInCall.ns,fun i y v h1 h2 h3=>?_⟩,fun y c h=>⟨_,x.cell y c h⟩,e0.ax.fresh (ay _),fun y c h=>?_,fun p hp=>absurd (show p∈([]:aQ) from hp) (by simp),e0.ax.kept hk,?_⟩
 ·exact name_of_addr x.apart (kM h1) (kM h2)
 ·have hy:scope.names.lookup y=some .cell∨scope.names.lookup y=some .free:=hy
  rcases hy with hy | hy;·exact F4 hy
  ·exact absurd rfl (S.M9 _ (kM hy))
 ·exact nN (x.above y c (kM h))
 ·have hi:i<vs.length:=by
   unfold start at h2;by_cases hi:i<vs.length;·exact hi
   ·rw [gK (by simpa using hi)] at h2
    rw [List.getElem?_replicate] at h2
    split at h2 <;> cases h2
  have ha:vs[i]?=some v:=by
   unfold start at h2;rw [gM (by simpa using hi),bo] at h2
   cases e:vs[i]? with
   | none=>rw [e] at h2;cases h2
   | some a=>rw [e] at h2;cases h2;rfl
  obtain ⟨u,hu,rv⟩:=r.get ha;have hp:ps[i]?=some y:=by rw [←S.pre,List.getElem?_take_of_lt (by lia)];exact h1
  have jb:ps.Nodup:=by rw [←S.pre];exact S.nd.sublist (List.take_sublist _ _)
  refine ⟨u,rv,?_⟩;rcases S.par y (nU hp) with k | k;·exact .inl ⟨k,F2 jb hp hu k⟩
  ·obtain ⟨c,e⟩:=F4 (n:=s.heap.objs.size+1) k
   refine .inr ⟨.inl k,c,e,?_⟩;have q:=x.cell y c e;rw [F3 jb hp hu (by show scope.names.lookup y≠_;rw [k];decide)] at q
   exact q
 ·exact e0.ax.fresh (nN (x.above y c (kM h)))
 ·unfold start
  show _=N.length;rw [du,aH,List.length_replicate];lia
theorem B9{name:Str}{params:Arguments}{body:List Stmt}{dV kV doc pm b7 ct oc:Value}{an od:Option Addr}
  {kg:Array (Option Value)} {sp:Sp} (lk:K.lookup f=some ⟨oc,od,.func (PySem.W.fnOf name qual params body scope dV kV doc pm an b7 ct),kg⟩) (dW:PySem.W.codeIn K b7 qual=true) (S:cf N ps scope)
  (len:∀vs H Q E,sp vs H Q E→vs.length=ps.length)
  (kh:∀(A:Around) (outer:List Env) (s:Shared) (H:Hp) (vs:List V) (Q:VK) (E:XK),dF k (A.deeper (envOfC qual scope s.heap.objs.size f b7))→sp vs H Q E→
   ∃t,fN (jG CX P w K mg base N qual scope f b7 A outer s H E) body t∧t {nx:=fun _ H'=>Q .aN H',rt:=Q} (start N vs) H) :
  bY P w K mg base CX (k+1) f (PySem.W.fnOf name qual params body scope dV kV doc pm an b7 ct) ps sp:=by
 refine ⟨len,fun A outer s H args us vs Q E hr e0 hb r lq=>?_⟩;have hl:=len _ _ _ _ lq;have KX:K.In s.heap:=e0.mod.dv.keeps fun b o e=>(e0.bs b o e).1;have lim:s.heap.NoLimit:=e0.mod.nolimit.keeps fun b o e=>(e0.bs b o e).1;have Na:∀y∈ps.zip us,scope.names.lookup y.1=some .local∨(scope.names.lookup y.1=some .cell∧((cellsFrom (s.heap.objs.size+1) scope.names []).lookup y.1).isSome=true):=fun⟨n,v⟩ hy=>by
  rcases S.par n (List.of_mem_zip hy).1 with q | q;·exact .inl q
  ·exact .inr ⟨q,PySem.W.cellsFrom_some _ _ _ (.inl q)⟩
 refine codeAny_call_function hr.depth (KX _ _ lk) rfl S.co S.gen rfl (PySem.W.codeRec_of KX dW) (hb _ _ _ _ ?_);refine wpAny_newFunctionEnv_cells S.kind Na fun env he s1 x=>?_;subst he;refine ⟨lim.keeps x.toInCall.keep,codeAny_func ?_⟩;obtain ⟨t,ht,hq⟩:=kh A outer s H vs Q E (hr.deeper _) lq;have I:Inv (jG CX P w K mg base N qual scope f b7 A outer s H E) [] (start N vs) H s1:=M_ S hr.hd e0 hl r x;refine cS (ht [] s1 (start N vs) H _ I hq) (fun fl s' hs=>?_) fun e s' hs=>hs;have fin:∀{σ':St} {H':Hp} {v:V} {u:Value},Inv (jG CX P w K mg base N qual scope f b7 A outer s H E) [] σ' H' s'→RelV v u→Q v H'→CE outer P w H s Q u s':=
  fun{σ' H' v u} J rv q=>⟨v,H',J.os,J.bare,J.base,J.ax,rv,q⟩
 cases fl with
 | ret u=>obtain ⟨v,σ',H',J,rv,q⟩:=hs;exact fin J rv q
 | next=>obtain ⟨σ',H',J,q⟩:=hs;exact fin (v:=V.aN) (u:=Value.none) J rfl q
 | brk=>obtain ⟨_,_,_,q⟩:=hs;exact False.elim q
 | cont=>obtain ⟨_,_,_,q⟩:=hs;exact False.elim q
section
variable {X:Cx} {x:Str} {p pos:Pos} {e:Expr} {es:List Expr} {t:TA} {id T:String} {r:List V→Hp→VK→Prop}
def B_(r:List V→Hp→VK→Prop)(t:TA):TE:=fun σ H Q=>t σ H fun vs H1=>r vs H1 Q
theorem cu(hc:gB X (.builtin id) r)(hg:Gl X x)(hm:X.mg x=none)(hv:bootBuiltins x=some (.builtin id))(ha:PA X (e::es) t)(hn:x ≠ "__name__":=by decide)(qp:(x == ("__debug__":Str))=false:=by decide)
  (he:starEach (e::es) X.env=(false,eval e X.env)::starEach es X.env:=by rfl) (lp:(backTo pos (starEach es X.env)).any (·.1)=false:=by rfl):PE X (.Call (.Name x p) (e::es) [] pos) (B_ r t):=by
 intro pins s σ H Q I h;refine yI (mB I hg hm hv ?_ hn qp);exact PyProof.Rows.callWith_builtin1 (aK (ha pos pins s σ H _ I h) fun us s1 ⟨vs,H1,I1,r1,q1⟩=>hc pins s1 σ H1 vs us Q I1 r1 q1) he lp
theorem fP(hc:gB X (.type T) r)(hg:Gl X x)(hm:X.mg x=none)(hv:bootBuiltins x=some (.type T))(ha:PA X (e::es) t)(hn:x ≠ "__name__":=by decide)(qp:(x == ("__debug__":Str))=false:=by decide)
  (he:starEach (e::es) X.env=(false,eval e X.env)::starEach es X.env:=by rfl) (lp:(backTo pos (starEach es X.env)).any (·.1)=false:=by rfl):PE X (.Call (.Name x p) (e::es) [] pos) (B_ r t):=by
 intro pins s σ H Q I h;refine yI (mB I hg hm hv ?_ hn qp);exact vO (aK (ha pos pins s σ H _ I h) fun us s1 ⟨vs,H1,I1,r1,q1⟩=>hc pins s1 σ H1 vs us Q I1 r1 q1) he lp
end
end L2
namespace HT
open PySem PyProof.Rows
section
open PySem.SeqAt
open PySem.AutoSeq1 (wpAny_loadPart')
open PySem.MeetsSeq PySem.MeetsSeq2 PySem.MeetsSeq3
end
section
variable {prog:Program} {w:World} {A:Around} {E:aR} {s:Shared}
def fm(n d:Nat):Option Int→Nat
 | none=>d
 | some v=>if v<0 then (v+(n:Int)).toNat else min v.toNat n
theorem Nb(n d:Nat):fm n d none=d:=rfl
theorem Nc(n d k:Nat):fm n d (some (k:Int))=min k n:=by
 show (if (k:Int)<0 then ((k:Int)+(n:Int)).toNat else min (k:Int).toNat n)=min k n
 rw [aa (by lia),d6]
end
end HT
namespace L2
open PySem PySem.Spec PyProof.Rows
abbrev TO:=St→Hp→(Option Int→Hp→Prop)→Prop
def PO(X:Cx)(e:Option Expr)(t:TO):Prop:=
 ∀(pins:aQ) (s:Shared) (σ:St) (H:Hp) (Q:Option Int→Hp→Prop),Inv X pins σ H s→t σ H Q→
  wpAny (model X.prog X.w) X.A (evalPart e X.env) (fun u s'=>∃o H',Inv X pins σ H' s'∧IsPart u o∧Q o H') X.xe s
def Nd:TO:=fun _ H Q=>Q none H
def Nf(t:TE):TO:=fun σ H Q=>t σ H fun x H1=>∃i,x=.int i∧Q (some i) H1
theorem intsAre_of{ns:List Int}:∀{us:List Value},Vals (ns.map V.int) us→IntsAre us ns:=by
 induction ns with
 | nil=>intro us r;rw [vP] at r;cases r;exact .nil
 | cons n ns ih=>
  intro us r;rw [jC] at r;cases r with
  | cons r1 r2=>obtain ⟨t,e⟩:=r1;subst e;exact .cons n t (ih r2)
section
variable {X:Cx} {e:Expr} {te:TE} {lo hi:Option Expr} {tl th:TO} {pos p2:Pos}
theorem F5:PO X none Nd:=by intro pins s σ H Q I h;rw [evalPart_none];exact ba ⟨none,H,I,.none,h⟩
theorem F6(h:PE X e te):PO X (some e) (Nf te):=by intro pins s σ H Q I hw;rw [evalPart_some];refine aK (h pins s σ H _ I hw) fun u s1 ⟨x,H1,I1,r1,q1⟩=>?_;obtain ⟨i,rfl,q⟩:=q1;obtain ⟨t,rfl⟩:=r1;exact ⟨some i,H1,I1,.int i t,q⟩
def F7(X:Cx)(r:V→Option Int→Option Int→Hp→VK→Prop):Prop:=
 ∀(pins:aQ) (s:Shared) (σ:St) (H:Hp) (x:V) (v vl vu:Value) (lo hi:Option Int) (sl:Addr) (Q:VK),Inv X pins σ H s→RelV x v→s.heap.IsSliceOf sl vl vu .none→IsPart vl lo→IsPart vu hi→r x lo hi H Q→
  ∃T id,typeLookup (.type T) "__getitem__"=pure (some (.builtin id))∧s.TypeIs v T∧wpAny (model X.prog X.w) X.A (getItem v (.ref sl)) (EP X pins σ Q) X.xe s
def Ng(r:V→Option Int→Option Int→Hp→VK→Prop)(te:TE)(tl th:TO):TE:=fun σ H Q=>te σ H fun x H1=>tl σ H1 fun l H2=>th σ H2 fun u H3=>r x l u H3 Q
theorem F8{r:V→Option Int→Option Int→Hp→VK→Prop}(hr:F7 X r)(he:PE X e te)(hl:PO X lo tl)(hu:PO X hi th):PE X (.Subscript e (.Slice lo hi none p2) pos) (Ng r te tl th):=by intro pins s σ H Q I h;refine Subscript_ (aK (he pins s σ H _ I h) fun v s1 ⟨x,H1,I1,r1,q1⟩=>?_);refine wpAny_Slice (aK (hl pins s1 σ H1 _ I1 q1) fun vl s2 ⟨l,H2,I2,pl,q2⟩=>aK (hu pins s2 σ H2 _ I2 q2) fun vu s3 ⟨u,H3,I3,pu,q3⟩=>?_);rw [evalPart_none];refine ba ?_;have I4:Inv X pins σ H3 {s3 with heap:=s3.heap.push {cls:=.type "slice",data:=.fields #[vl,vu,.none]}}:=I3.kept (t':=s3.toks) fun b ob q=>b8 _ q;obtain ⟨T,id,hT,ht,hg⟩:=hr pins {s3 with heap:=s3.heap.push {cls:=.type "slice",data:=.fields #[vl,vu,.none]}} σ H3 x v vl vu l u s3.heap.objs.size Q I4 r1 (Heap.IsSliceOf.new ..) pl pu q3;show wpAny (model X.prog X.w) X.A (subscriptTail e (.Slice lo hi none p2) v (.ref s3.heap.objs.size)) (EP X pins σ Q) X.xe {s3 with heap:=s3.heap.push {cls:=.type "slice",data:=.fields #[vl,vu,.none]}};exact tail_any (ops:=[.ref s3.heap.objs.size,v]) ht hT hg (by with_unfolding_all rfl)
def jH(xs:List V)(lo hi:Option Int):List V:=(xs.drop (HT.fm xs.length 0 lo)).take (HT.fm xs.length xs.length hi-HT.fm xs.length 0 lo)
theorem Nh(xs:List V)(lo hi:Option Int):(jH xs lo hi).length≤xs.length:=by unfold jH;rw [nS,vQ];lia
end
def jI(n:Nat)(i:Int):Option Nat:=if 0≤i then (if i<n then some i.toNat else none) else if -(n:Int)≤i then some (i+n).toNat else none
def fQ{α:Type}(xs:List α)(i:Int):Option α:=(jI xs.length i).bind fun j=>xs[j]?
variable {i:Int} {j:Nat}
theorem F9{n:Nat}(h:jI n i=some j):seqIndex? i n=some j∧j<n∧-(n:Int)≤i∧i<n:=by
 unfold jI at h;by_cases h0:0≤i
 ·rw [ae h0] at h
  by_cases h1:i<n
  ·rw [ae h1] at h
   have e:i.toNat=j:=Option.some.inj h;exact ⟨by rw [seqIndex_of h0 h1,e],by lia,by lia,h1⟩
  ·rw [aa h1] at h;cases h
 ·rw [aa h0] at h
  by_cases h1:-(n:Int)≤i
  ·rw [ae h1] at h
   have e:(i+n).toNat=j:=Option.some.inj h;exact ⟨by rw [seqIndex_neg (by lia) h1,e],by lia,h1,by lia⟩
  ·rw [aa h1] at h;cases h
theorem Ca{α:Type}{xs:List α}{v:α}(h:fQ xs i=some v):∃j,seqIndex? i xs.length=some j∧xs[j]?=some v∧j<xs.length∧-(xs.length:Int)≤i∧i<xs.length:=by
 unfold fQ at h;cases e:jI xs.length i with
 | none=>rw [e] at h;cases h
 | some j=>rw [e] at h;obtain ⟨h1,h2,h3,h4⟩:=F9 e;exact ⟨j,h1,h,h2,h3,h4⟩
theorem lA{α:Type}{xs:List α}{v:α}(h:xs[j]?=some v):fQ xs (j:Int)=some v:=by
 have hj:j<xs.length:=(bW.mp h).1;have e:jI xs.length (j:Int)=some j:=by unfold jI;rw [ae (by lia),ae (by lia)];simp
 unfold fQ;rw [e];exact h
def F_(b:Expr):Prop:=∀o i,subscripted b false o i=operate [o,i] (getItem o i)
def tj(X:Cx)(r:R2):Prop:=
 ∀(value slice:Expr) (pins:aQ) (s:Shared) (σ:St) (H:Hp) (x y:V) (v u:Value) (Q:VK),Inv X pins σ H s→RelV x v→RelV y u→r x y H Q→
  subscripted slice false v u=operate [v,u] (getItem v u)→wpAny (model X.prog X.w) X.A (subscriptTail value slice v u) (EP X pins σ Q) X.xe s
def Ga(X:Cx)(id:String)(r:V→List V→Hp→VK→Prop):Prop:=
 ∀(pins:aQ) (s:Shared) (σ:St) (H:Hp) (x:V) (xs:List V) (v:Value) (us:List Value) (Q:VK),Inv X pins σ H s→RelV x v→Vals xs us→r x xs H Q→
  wpAny (model X.prog X.w) X.A (call (.builtin id) (v::us)) (EP X pins σ Q) X.xe s
section
variable {X:Cx} {a b:Expr} {ta tb:TE} {pos:Pos}
variable {r:R2}
theorem Ni(hr:tj X r)(ha:PE X a ta)(hb:PE X b tb)(hs:F_ b):PE X (.Subscript a b pos) (mG r ta tb):=by intro pins s σ H Q I h;exact Subscript_ (B3 ha hb I h fun v u s2 x y H2 I2 rx ry q=>hr a b pins s2 σ H2 x y v u Q I2 rx ry q (hs _ _))
theorem aU(hr:tj X r)(ha:PE X a ta)(hb:PE X b tb)(hs:F_ b:=by exact fun _ _=>rfl):PE X (.Subscript a b pos) (mG r ta tb):=Ni hr ha hb hs
def Gb(K:aJ):R2:=fun x y H Q=>∃p xs i v,x=.ref p∧y=.int i∧a7 K H p xs∧fQ xs i=some v∧Q v H
def Gd(K:aJ):R2:=fun x y H Q=>∃p xs i v,x=.ref p∧y=.int i∧gA K H p xs∧fQ xs i=some v∧Q v H
theorem cg:tj X (Gb X.K):=by
 intro value slice pins s σ H x y v u Q I rx ry h hs;obtain ⟨p,xs,i,z,rfl,rfl,hq,he,q⟩:=h;cases rx;obtain ⟨t,rfl⟩:=ry;obtain ⟨its,r,pl,hz⟩:=I.list hq;obtain ⟨j,h1,h2,h3,h4,h5⟩:=Ca he;obtain ⟨w,ew,f_⟩:=r.get h2;have hl:=r.length;have hn:=s_;have fin:EP X pins σ Q w s:=⟨z,H,I,f_,q⟩;by_cases h0:0≤i
 ·have hj:i.toNat=j:=by rw [seqIndex_of h0 h5] at h1;exact Option.some.inj h1
  exact item_listR pl.isList h0 (by lia) (by rw [hj];simpa using ew) fin hs
 ·have hj:(i+(its.toArray.size:Int)).toNat=j:=by
   rw [seqIndex_neg (by lia) h4] at h1
   rw [b_,←hl];exact Option.some.inj h1
  exact subscriptTail_builtinR (x:=w) pl.isList.typeIs slot_list_getitem.lookup
   (wpAny_getItem_list_neg (Q:=fun r s'=>r=w∧EP X pins σ Q r s') pl.isList (by lia) (by rw [b_] <;> lia) (by lia) (by rw [hj];simpa using ew) ⟨rfl,fin⟩) hs
theorem eF:tj X (Gd X.K):=by
 intro value slice pins s σ H x y v u Q I rx ry h hs;obtain ⟨p,xs,i,z,rfl,rfl,hq,he,q⟩:=h;cases rx;obtain ⟨t,rfl⟩:=ry;obtain ⟨its,r,pl,hz⟩:=I.tuple hq;obtain ⟨j,h1,h2,h3,h4,h5⟩:=Ca he;obtain ⟨w,ew,f_⟩:=r.get h2;have hl:=r.length;have hn:=s_;have fin:EP X pins σ Q w s:=⟨z,H,I,f_,q⟩
 exact subscriptTail_builtinR (x:=w) pl.typeIs slot_tuple_getitem.lookup
  (getItem_tuple (j:=j) (Q:=fun r s'=>r=w∧EP X pins σ Q r s') pl (by lia) (by lia) (by rw [b_,←hl];exact h1) (by simpa using ew) ⟨rfl,fin⟩) hs
theorem Nj(its:List Value)(n j:Nat)(u:Value):Obj.mapSeq (·.setIfInBounds j u) {cls:=.type "list",data:=.seq its.toArray n}={cls:=.type "list",data:=.seq (its.set j u).toArray n}:=by simp [Obj.mapSeq]
theorem Inv.lst{pins:aQ}{σ:St}{H:Hp}{s:Shared}{p:Addr}{xs:List V}(I:Inv X pins σ H s)(h:H p=some (.lst xs)) :
  ∃(its:List Value) (n:Nat),Vals xs its∧s.heap.get? p=some {cls:=.type "list",data:=.seq its.toArray n}∧xs.length≤sizeLine:=by
 obtain ⟨z,its,n,r,e⟩:=I.ax p _ h;exact ⟨its,n,r,e,z⟩
variable {pins:aQ} {σ:St} {H:Hp} {s:Shared}
theorem Inv.Nk{p:Addr}{xs ys:List V}{its its':List Value}{n n':Nat}{f:Obj→Obj}(I:Inv X pins σ H s)(h:H p=some (.lst xs))
  (ho:s.heap.get? p=some {cls:=.type "list",data:=.seq its.toArray n}) (hf:f {cls:=.type "list",data:=.seq its.toArray n}={cls:=.type "list",data:=.seq its'.toArray n'}) (r:Vals ys its') (hz:ys.length≤sizeLine) (t:Nat) :
  Inv X pins σ (upd H p (.lst ys)) {s with heap:=s.heap.update p f,toks:=t}:=by
 have e:(s.heap.update p f).get? p=some {cls:=.type "list",data:=.seq its'.toArray n'}:=by rw [sq f ho (by rw [hf] <;> rfl),hf]
 refine I.write (x:=p) (e:=p) (by rw [h];trivial) (.inl rfl) (fun b u hb q=>(sr _ _ (Ne.symm hb)).trans q) ⟨_,e⟩ ?_
 exact ⟨hz,its',n',r,e⟩
def Nl:V→V→V→Hp→(Hp→Prop)→Prop:=fun o i v H Q=>∃p xs k j,o=.ref p∧i=.int k∧H p=some (.lst xs)∧jI xs.length k=some j∧Q (upd H p (.lst (xs.set j v)))
theorem set_list:BZ X Nl:=by
 intro pins s σ H o i v ov iv u Q I ro ri rv h;obtain ⟨p,xs,k,j,rfl,rfl,hp,hj,q⟩:=h;cases ro;obtain ⟨t,rfl⟩:=ri;obtain ⟨its,n,r,ho,hz⟩:=I.lst hp;obtain ⟨h1,h2,h3,h4⟩:=F9 hj;have hl:=r.length;have hn:=s_;have I':Inv X pins σ (upd H p (.lst (xs.set j v))) {s with heap:=s.heap.update p (Obj.mapSeq (·.setIfInBounds j u))}:=
  I.Nk hp ho (Nj its n j u) (r.set rv j) (by rw [List.length_set];exact hz) s.toks
 by_cases h0:0≤k
 ·have hk:k.toNat=j:=by rw [seqIndex_of h0 h4] at h1;exact Option.some.inj h1
  exact PySem.W.ki_setAt ho h0 (by lia) (by rw [b_,←hl];exact h4) (by rw [hk];exact ⟨_,I',q⟩)
 ·have hk:(k+(its.toArray.size:Int)).toNat=j:=by
   rw [seqIndex_neg (by lia) h3] at h1
   rw [b_,←hl];exact Option.some.inj h1
  exact PySem.W.ki_setBack ho (by lia) (by rw [b_,←hl];exact h3) (by lia) (by rw [hk];exact ⟨_,I',q⟩)
theorem Nm(lo hi:Option Int)(n:Nat):(sliceBounds lo hi none n).1=((HT.fm n 0 lo:Nat):Int)∧(sliceBounds lo hi none n).2.1=((HT.fm n n hi:Nat):Int)∧(sliceBounds lo hi none n).2.2=1:=by
 refine ⟨?_,?_,rfl⟩
 ·cases lo with
  | none=>simp [sliceBounds,HT.fm]
  | some i=>
   simp only [sliceBounds,HT.fm,Option.getD_none,show (1:Int)>0 by decide,if_true]
   by_cases h:i<0;·simp only [h,if_true] <;> lia
   ·simp only [h,j6] <;> lia
 ·cases hi with
  | none=>simp [sliceBounds,HT.fm]
  | some i=>
   simp only [sliceBounds,HT.fm,Option.getD_none,show (1:Int)>0 by decide,if_true]
   by_cases h:i<0;·simp only [h,if_true] <;> lia
   ·simp only [h,j6] <;> lia
theorem Nn(its:List Value)(lo hi:Option Int):slicePick its.toArray lo hi none=((its.drop (HT.fm its.length 0 lo)).take (HT.fm its.length its.length hi-HT.fm its.length 0 lo)).toArray:=by obtain ⟨h1,h2,h3⟩:=Nm lo hi its.toArray.size;unfold slicePick;rw [h1,h2,h3];simp only [sliceRange_one,pick_run,b_] <;> rfl
def Np(K:aJ):V→Option Int→Option Int→Hp→VK→Prop:=fun x lo hi H Q=>∃a xs,x=.ref a∧a7 K H a xs∧∀p,H p=none→Q (.ref p) (upd H p (.lst (jH xs lo hi)))
theorem Ge:F7 X (Np X.K):=by
 intro pins s σ H x v vl vu lo hi sl Q I rx hs pl pu h;obtain ⟨a,xs,rfl,hx,q⟩:=h;cases rx;obtain ⟨its,r,ht,hz⟩:=I.list hx;have hlen:=r.length;refine ⟨"list",_,slot_list_getitem.lookup,ht.isList.typeIs,?_⟩;refine wpAny_getItem_list_slice ht.isList hs pl pu .none (by simp) ?_ (by rw [b_] <;> lia)
 rw [Nn,←hlen];refine ⟨.ref s.heap.objs.size,_,I.laid (t':=s.toks) (o:=.lst (jH xs lo hi)) (fun b ob q=>b8 _ q) (ay _) ?_,rfl,q _ (I.ax.fresh (ay _))⟩;exact ⟨b9 (Nh xs lo hi) hz,_,0,(r.drop (HT.fm xs.length 0 lo)).take (HT.fm xs.length xs.length hi-HT.fm xs.length 0 lo),dU _ rfl⟩
def jc:V→Bool
 | .aN=>true
 | .bl _=>true
 | .int _=>true
 | .str _=>true
 | _=>false
def d9:V→V→Bool
 | .aN,.aN=>true
 | .bl a,.bl b=>a == b
 | .bl a,.int b=>(if a then 1 else 0) == b
 | .int a,.bl b=>a == (if b then 1 else 0)
 | .int a,.int b=>a == b
 | .str a,.str b=>a == b
 | _,_=>false
variable {y x:V} {u:Value}
theorem oA{A:Around}{v:Value}(ry:RelV y u)(rx:RelV x v)(fy:jc y=true)(fx:jc x=true):SeqAt.EqAt A s u v (d9 y x):=by
 cases y with
 | aN=>
  cases ry;cases x with
  | aN=>cases rx;exact SeqAt.EqAt.same _
  | bl b=>cases rx;exact SeqAt.EqAt.none_bool b
  | int b=>obtain ⟨t,rfl⟩:=rx;exact SeqAt.EqAt.none_int b t
  | str b=>obtain ⟨t,rfl⟩:=rx;exact SeqAt.EqAt.none_str b t
  | _=>exact absurd (show false=true from fx) dg
 | bl a=>
  cases ry;cases x with
  | aN=>cases rx;exact SeqAt.EqAt.bool_none a
  | bl b=>cases rx;exact SeqAt.EqAt.bool_bool a b
  | int b=>obtain ⟨t,rfl⟩:=rx;exact SeqAt.EqAt.bool_int a b t
  | str b=>obtain ⟨t,rfl⟩:=rx;exact SeqAt.EqAt.bool_str a b t
  | _=>exact absurd (show false=true from fx) dg
 | int a=>
  obtain ⟨t',rfl⟩:=ry;cases x with
  | aN=>cases rx;exact SeqAt.EqAt.int_none a t'
  | bl b=>cases rx;exact SeqAt.EqAt.int_bool a t' b
  | int b=>obtain ⟨t,rfl⟩:=rx;exact SeqAt.EqAt.int_int a t' b t
  | str b=>obtain ⟨t,rfl⟩:=rx;exact SeqAt.EqAt.int_str a t' b t
  | _=>exact absurd (show false=true from fx) dg
 | str a=>
  obtain ⟨t',rfl⟩:=ry;cases x with
  | aN=>cases rx;exact SeqAt.EqAt.str_none a t'
  | bl b=>cases rx;exact SeqAt.EqAt.str_bool a t' b
  | int b=>obtain ⟨t,rfl⟩:=rx;exact SeqAt.EqAt.str_int a t' b t
  | str b=>obtain ⟨t,rfl⟩:=rx;exact SeqAt.EqAt.str_str a t' b t
  | _=>exact absurd (show false=true from fx) dg
 | _=>exact absurd (show false=true from fy) dg
def gQ(x:V)(u:Value):Bool:=match u with
 | .none=>d9 .aN x
 | .bool b=>d9 (.bl b) x
 | .int i _=>d9 (.int i) x
 | .str z _=>d9 (.str z) x
 | _=>false
theorem Gf(r:RelV y u)(f:jc y=true):gQ x u=d9 y x:=by
 cases y with
 | aN=>cases r;rfl
 | bl b=>cases r;rfl
 | int i=>obtain ⟨t,rfl⟩:=r;rfl
 | str z=>obtain ⟨t,rfl⟩:=r;rfl
 | _=>exact absurd (show false=true from f) dg
theorem wN{x:V}:∀{xs:List V} {us:List Value},Vals xs us→xs.all jc=true→us.any (gQ x)=xs.any fun y=>d9 y x
 | _,_,.nil,_=>rfl
 | y::xs,u::us,.cons r t,f=>by rw [List.all_cons,vR] at f;rw [vS,vS,Gf r f.1,wN t f.2]
theorem wO{A:Around}{s:Shared}{x:V}{v:Value}(rx:RelV x v)(fx:jc x=true):∀{xs:List V} {us:List Value},Vals xs us→xs.all jc=true→∀u∈us,SeqAt.EqAt A s u v (gQ x u)
 | _,_,.nil,_=>fun u hu=>by cases hu
 | y::xs,u::us,.cons r t,f=>fun u' hu=>by
  rw [List.all_cons,vR] at f;rcases bO.mp hu with rfl | hu;·rw [Gf r f.1];exact oA r rx f.1 fx
  ·exact wO rx fx t f.2 u' hu
def lB(x:V)(xs:List V):Bool:=xs.any fun y=>d9 y x
def zA(K:aJ)(neg:Bool):R2:=fun x y H Q=>∃p xs,y=.ref p∧(a7 K H p xs∨gA K H p xs)∧jc x=true∧xs.all jc=true∧Q (.bl (if neg then !lB x xs else lB x xs)) H
theorem Gg:cz X (compareOp .In) (zA X.K false):=by
 intro pins s σ H x y v u Q I rx ry h;obtain ⟨p,xs,rfl,hq,fx,fs,q⟩:=h;cases ry;rcases hq with hq | hq
 ·obtain ⟨its,r,pl,hz⟩:=I.list hq
  refine SeqAt.in_listAt (gQ x) pl.isList (fun w hw=>wO rx fx r fs w (by simpa using hw)) ⟨.bl _,H,I,rfl,?_⟩
  rw [show its.toArray.any (gQ x)=its.any (gQ x) by simp,wN r fs]
  exact q
 ·obtain ⟨its,r,pl,hz⟩:=I.tuple hq
  refine SeqAt.in_tupleAt (gQ x) pl (fun w hw=>wO rx fx r fs w (by simpa using hw)) ⟨.bl _,H,I,rfl,?_⟩
  rw [show its.toArray.any (gQ x)=its.any (gQ x) by simp,wN r fs]
  exact q
theorem Nq:cz X (compareOp .NotIn) (zA X.K true):=by
 intro pins s σ H x y v u Q I rx ry h;obtain ⟨p,xs,rfl,hq,fx,fs,q⟩:=h;cases ry;rcases hq with hq | hq
 ·obtain ⟨its,r,pl,hz⟩:=I.list hq
  refine SeqAt.notIn_listAt (gQ x) pl.isList (fun w hw=>wO rx fx r fs w (by simpa using hw)) ⟨.bl _,H,I,rfl,?_⟩
  rw [show its.toArray.any (gQ x)=its.any (gQ x) by simp,wN r fs]
  exact q
 ·obtain ⟨its,r,pl,hz⟩:=I.tuple hq
  refine SeqAt.notIn_tupleAt (gQ x) pl (fun w hw=>wO rx fx r fs w (by simpa using hw)) ⟨.bl _,H,I,rfl,?_⟩
  rw [show its.toArray.any (gQ x)=its.any (gQ x) by simp,wN r fs]
  exact q
theorem jd:gB X (.builtin "len") (fun xs H Q=>∃p ys,xs=[.ref p]∧(a7 X.K H p ys∨gA X.K H p ys)∧Q (.int ys.length) H):=by
 intro pins s σ H xs us Q I r h;obtain ⟨p,ys,rfl,hq,q⟩:=h;obtain ⟨u,rfl,rx⟩:=vals1 r;cases rx;have hn:=s_;rcases hq with hq | hq
 ·obtain ⟨its,r',pl,hz⟩:=I.list hq
  have hlen:=r'.length;exact Calls.call_len_list pl.isList (by simp only [b_] <;> lia) ⟨.int ys.length,H,I.tok _,⟨s.toks+1,by rw [b_,hlen]⟩,q⟩
 ·obtain ⟨its,r',pl,hz⟩:=I.tuple hq
  have hlen:=r'.length;exact len_tuple pl (by simp only [b_] <;> lia) ⟨.int ys.length,H,I.tok _,⟨s.toks+1,by rw [b_,hlen]⟩,q⟩
theorem Nr:gB X (.type "list") (fun xs H Q=>∃p ys,xs=[.ref p]∧(a7 X.K H p ys∨gA X.K H p ys)∧∀l,H l=none→Q (.ref l) (upd H l (.lst ys))):=by
 intro pins s σ H xs us Q I r h;obtain ⟨p,ys,rfl,hq,q⟩:=h;obtain ⟨u,rfl,rx⟩:=vals1 r;cases rx
 have fin:∀(its:List Value),Vals ys its→ys.length≤sizeLine→∀(h':Heap) (c':Nat),(∀b o',s.heap.get? b=some o'→h'.get? b=some o')→
   h'.get? s.heap.objs.size=some {cls:=.type "list",dict:=none,data:=.seq its.toArray c',slots:=#[]}→EP X pins σ Q (.ref s.heap.objs.size) {s with heap:=h'}:=fun its r' hz h' c' kp e=>
  ⟨.ref s.heap.objs.size,_,I.laid (t':=s.toks) kp (ay _) (show bV X.prog X.w _ h' _ (.lst ys) from ⟨hz,its,c',r',e⟩),rfl,q _ (I.ax.fresh (ay _))⟩
 rcases hq with hq | hq
 ·obtain ⟨its,r',pl,hz⟩:=I.list hq
  have hlen:=r'.length;obtain ⟨o,ho,hc,n,hd⟩:=pl.isList;exact call_list_seq p (.inl rfl) ho hc hd (fun h' c' kp e=>fin its r' hz h' c' kp e) (by simp only [b_] <;> lia)
 ·obtain ⟨its,r',pl,hz⟩:=I.tuple hq
  have hlen:=r'.length;obtain ⟨o,ho,hc,n,hd⟩:=pl;exact call_list_seq p (.inr rfl) ho hc hd (fun h' c' kp e=>fin its r' hz h' c' kp e) (by simp only [b_] <;> lia)
theorem Cb:gB X (.type "tuple") (fun xs H Q=>∃p ys,xs=[.ref p]∧((a7 X.K H p ys∧∀l,H l=none→Q (.ref l) (upd H l (.tup ys)))∨(gA X.K H p ys∧Q (.ref p) H))):=by
 intro pins s σ H xs us Q I r h;obtain ⟨p,ys,rfl,h⟩:=h;obtain ⟨u,rfl,rx⟩:=vals1 r;cases rx;rcases h with ⟨hq,q⟩ | ⟨hq,q⟩
 ·obtain ⟨its,r',pl,hz⟩:=I.list hq
  have hlen:=r'.length;refine call_tuple_list pl.isList (fun h' kp=>?_) (by simp only [b_] <;> lia)
  have I1:Inv X pins σ H {s with heap:=h'}:=I.kept (t':=s.toks) kp;have I2:Inv X pins σ (upd H h'.objs.size (.tup ys)) {s with heap:=h'.push {cls:=.type "tuple",data:=.seq its.toArray}}:=
   I1.laid (t':=s.toks) (fun b o e=>b8 _ e) (ay _) (show bV X.prog X.w _ _ _ (.tup ys) from ⟨hz,its,r',IsTup.new _ _⟩)
  exact ⟨.ref h'.objs.size,_,I2,rfl,q _ (I1.ax.fresh (ay _))⟩
 ·obtain ⟨its,r',pl,hz⟩:=I.tuple hq
  exact call_tuple_same pl ⟨.ref p,H,I,rfl,q⟩
def Cc(K:aJ)(T:String)(x:V)(H:Hp):Prop:=match x with
 | .str _=>T="str"
 | .int _=>T="int"
 | .ref p=>(T="list"∧∃xs,a7 K H p xs)∨(T="tuple"∧∃o,K.lookup p=some o∧o.cls=.type "tuple"∧o.dict=none) ∨
   (T="dict"∧((∃kvs,H p=some (.dK kvs))∨∃kvs,H p=some (.dT kvs)))∨(T="set"∧∃S n,H p=some (.set S n))
 | _=>False
theorem Gh{T:String}{v:Value}(I:Inv X pins σ H s)(r:RelV x v)(ty:Cc X.K T x H) :
  s.TypeIs v T∧∀a,v=.ref a→∃ob,s.heap.get? a=some ob∧ob.dict=none:=by
 cases x with
 | str z=>obtain ⟨t,rfl⟩:=r;cases (show T="str" from ty);exact ⟨typeIs_str s z t,fun _ e=>nomatch e⟩
 | int i=>obtain ⟨t,rfl⟩:=r;cases (show T="int" from ty);exact ⟨typeIs_int s i t,fun _ e=>nomatch e⟩
 | ref p=>
  cases r;rcases ty with ⟨rfl,xs,hq⟩ | ⟨rfl,o,hk,hc,hd⟩ | ⟨rfl,hk⟩ | ⟨rfl,S,n,hk⟩
  ·obtain ⟨its,_,pl,_⟩:=I.list hq
   refine ⟨pl.isList.typeIs,fun a e=>?_⟩;cases e;obtain ⟨o,n,e,c,hd,_⟩:=pl;exact ⟨o,e,hd⟩
  ·refine ⟨⟨o,I.eY p o hk,hc⟩,fun a e=>?_⟩
   cases e;exact ⟨o,I.eY _ o hk,hd⟩
  ·have z:∃o,s.heap.get? p=some o∧o.ExactDict:=by
    rcases hk with ⟨kvs,hk⟩ | ⟨kvs,hk⟩
    ·obtain ⟨_,_,_,_,o,_,_,e,ex,_⟩:=I.ax p _ hk
     exact ⟨o,e,ex⟩
    ·obtain ⟨_,_,_,_,o,_,_,e,ex,_⟩:=I.ax p _ hk
     exact ⟨o,e,ex⟩
   obtain ⟨o,e,ex⟩:=z;refine ⟨⟨o,e,ex.1⟩,fun a e2=>?_⟩;cases e2;exact ⟨o,e,ex.2.1⟩
  ·obtain ⟨o,_,_,_,e,ex,_⟩:=I.ax p _ hk
   refine ⟨⟨o,e,ex.1⟩,fun a e2=>?_⟩;cases e2;exact ⟨o,e,ex.2.1⟩
 | _=>exact False.elim ty
def Nt(K:aJ)(T:String)(r:V→List V→Hp→VK→Prop)(to:TE):TE:=fun σ H Q=>to σ H fun x H1=>Cc K T x H1∧r x [] H1 Q
def Nu(K:aJ)(T:String)(r:V→List V→Hp→VK→Prop)(to:TE)(t:TA):TE:=fun σ H Q=>to σ H fun x H1=>Cc K T x H1∧t σ H1 fun xs H2=>r x xs H2 Q
variable {o e:Expr} {es:List Expr} {to:TE} {t:TA} {name:Str} {apos gR:Pos} {T id:String} {r:V→List V→Hp→VK→Prop}
theorem Nv(pa:PlainAttrs T)(slot:Slot T name id)(Cd:typeOf (.builtin id)=pure (.type "method_descriptor"))(hm:Ga X id r)(ho:PE X o to)
  (Ce:attributeBase o name X.env (eval o X.env)=eval o X.env:=by rfl) (Cf:(apos.endLine == gR.line)=true:=by rfl):PE X (.Call (.Attribute o name apos) [] [] gR) (Nt X.K T r to):=by
 intro pins s σ H Q I h;refine wpAny_Call_method0_late Ce Cf (aK (ho pins s σ H _ I h) fun v s1 ⟨x,H1,I1,r1,ty,q1⟩=>?_);obtain ⟨h1,h2⟩:=Gh I1 r1 ty;exact ⟨T,id,pa,slot,Cd,h1,h2,Calls.callWith_builtin rfl (PySem.evalArgs_none (hm pins s1 σ H1 x [] v [] Q I1 r1 .nil q1))⟩
theorem fq(pa:PlainAttrs T)(slot:Slot T name id)(Cd:typeOf (.builtin id)=pure (.type "method_descriptor"))(hm:Ga X id r)(ho:PE X o to)(ha:PA X (e::es) t)
  (Ce:attributeBase o name X.env (eval o X.env)=eval o X.env:=by rfl)
  (Nw:((backTo gR (starEach (e::es) X.env)).all (fun x=>!x.1) && (backToKw gR (keywordEach [] X.env)).all (fun x=>x.1.isSome)
   && decide ((e::es).length+([]:List Keyword).length+(if ([]:List Keyword).isEmpty then 0 else 1)<30))=true:=by rfl)
  (Cf:(apos.endLine == gR.line)=true:=by rfl) (hs:starEach (e::es) X.env=(false,eval e X.env)::starEach es X.env:=by rfl) (Nx:(backTo gR (starEach es X.env)).any (·.1)=false:=by rfl) :
  PE X (.Call (.Attribute o name apos) (e::es) [] gR) (Nu X.K T r to t):=by
 intro pins s σ H Q I h;refine wpAny_Call_method_late Ce Nw Cf rfl (aK (ho pins s σ H _ I h) fun v s1 ⟨x,H1,I1,r1,ty,q1⟩=>?_);obtain ⟨h1,h2⟩:=Gh I1 r1 ty;refine ⟨T,id,pa,slot,Cd,h1,h2,?_⟩;have hA:=ha gR pins s1 σ H1 _ I1 q1;rw [hs] at hA ⊢;refine Calls.callWith_builtin (by show (false || (backTo gR (starEach es X.env)).any (·.1))=false;rw [Nx] <;> rfl) (Calls.evalArgs_plain ?_)
 exact aK hA fun us s2 ⟨vs,H2,I2,r2,q2⟩=>hm pins s2 σ H2 x vs v us Q I2 r1 r2 q2
end
def wQ(X:Cx)(id:String)(r:V→List V→Hp→VK→Prop):Prop:=
 ∀(pins:aQ) (s:Shared) (σ:St) (H:Hp) (x:V) (xs:List V) (v:Value) (us:List Value) (Q:VK),Inv X pins σ H s→RelV x v→Vals xs us→r x xs H Q→
  wpAny (model X.prog X.w) X.A (call (.builtin id) (v::us)) (EP X pins σ Q) X.xe s
theorem Vals.one:∀{x:V} {us:List Value},Vals [x] us→∃u,us=[u]∧RelV x u
 | _,_,.cons r .nil=>⟨_,rfl,r⟩
theorem Vals.zero:∀{us:List Value},Vals [] us→us=[]
 | _,.nil=>rfl
variable {xs:List V} {us:List Value}
theorem Vals.dropLast(h:Vals xs us):Vals xs.dropLast us.dropLast:=by
 induction h with
 | nil=>exact .nil
 | cons r t ih=>
  cases t with
  | nil=>exact .nil
  | cons q t'=>exact .cons r ih
theorem Vals.eraseIdx:∀{xs:List V} {us:List Value} (i:Nat),Vals xs us→Vals (xs.eraseIdx i) (us.eraseIdx i)
 | _,_,_,.nil=>.nil
 | _,_,0,.cons _ t=>t
 | _,_,i+1,.cons r t=>.cons r (Vals.eraseIdx i t)
theorem Vals.reverse(h:Vals xs us):Vals xs.reverse us.reverse:=by
 induction h with
 | nil=>exact .nil
 | cons r t ih=>rw [List.reverse_cons,List.reverse_cons];exact Vals.append ih (.cons r .nil)
theorem Vals.rep{xs:List V}{us:List Value}(h:Vals xs us):∀k:Nat,Vals (List.replicate k xs).flatten (List.replicate k us).flatten
 | 0=>.nil
 | k+1=>by rw [nV,nV,su,su];exact Vals.append h (Vals.rep h k)
variable {α:Type}
theorem Ny(l:List α):l.eraseIdx (l.length-1)=l.dropLast:=by
 induction l with
 | nil=>rfl
 | cons a r ih=>
  cases r with
  | nil=>rfl
  | cons b r=>
   have e:(a::b::r).length-1=((b::r).length-1)+1:=by have h1:(a::b::r).length=r.length+2:=rfl;have h2:(b::r).length=r.length+1:=rfl;lia
   rw [e,List.eraseIdx_cons_succ,ih]
   all_goals rfl
theorem Cg{α:Type}:∀(l:List α) (i:Nat),(l.eraseIdx i).length≤l.length
 | [],_=>ay _
 | _::_,0=>jD _
 | _::r,i+1=>Nat.succ_le_succ (Cg r i)
theorem foldl_rep(its:List Value):∀(k:Nat) (acc:List Value),
  List.foldl (fun x1 x2=>x1++x2) acc.toArray (List.replicate k its.toArray)=(acc++(List.replicate k its).flatten).toArray
 | 0,acc=>by simp
 | k+1,acc=>by
  have e:acc.toArray++its.toArray=(acc++its).toArray:=by simp
  have e2:(acc++its)++(List.replicate k its).flatten=acc++(List.replicate (k+1) its).flatten:=by rw [nV,su,fF]
  rw [←e2,←foldl_rep its k (acc++its),←e,nV,List.foldl_cons]
section
variable {X:Cx} {pins:aQ} {σ:St} {H:Hp} {s:Shared} {l b:Addr} {xs ys zs:List V}
variable {its:List Value} {n t':Nat}
theorem Inv.wR{its':List Value}{f:Array Value→Array Value}(I:Inv X pins σ H s)(hH:H l=some (.lst xs))
  (e:s.heap.get? l=some {cls:=.type "list",data:=.seq its.toArray n}) (hf:f its.toArray=its'.toArray) (hv:Vals ys its') (hz:ys.length≤sizeLine) :
  Inv X pins σ (upd H l (.lst ys)) {s with heap:=s.heap.update l (Obj.mapSeq f),toks:=t'}:=by
 have q:=PySem.IsL.update e f;rw [hf] at q;refine I.write (x:=l) (e:=l) (by rw [hH];exact trivial) (.inl rfl) (fun b' u hb hu=>(sr s.heap (Obj.mapSeq f) (Ne.symm hb)).trans hu) ⟨_,q⟩ ?_
 exact ⟨hz,its',_,hv,q⟩
theorem Inv.Gi(I:Inv X pins σ H s)(hv:Vals ys its)(hz:ys.length≤sizeLine) :
  Inv X pins σ (upd H s.heap.objs.size (.lst ys)) {s with heap:=s.heap.push {cls:=.type "list",data:=.seq its.toArray},toks:=t'}:=
 I.laid (fun _ _ q=>b8 _ q) (ay _) ⟨hz,its,0,hv,dU _ rfl⟩
theorem Inv.fresh(I:Inv X pins σ H s):H s.heap.objs.size=none:=I.ax.fresh (ay _)
theorem Inv.mK(I:Inv X pins σ H s)(hH:H l=some (.lst xs)):xs.length≤sizeLine∧∃(its:List Value) (n:Nat),Vals xs its∧xs.length=its.length∧s.heap.get? l=some {cls:=.type "list",data:=.seq its.toArray n}:=by obtain ⟨z,its,n,r,e⟩:=I.ax l _ hH;exact ⟨z,its,n,r,r.length,e⟩
theorem Gj(h:n≤sizeLine):Builtin.List.listTooLong n=false:=by unfold Builtin.List.listTooLong;exact bH (by lia)
end
section
variable {X:Cx}
def Nz:V→List V→Hp→VK→Prop:=fun x vs H Q=>∃l xs y,x=.ref l∧vs=[y]∧H l=some (.lst xs)∧xs.length<sizeLine∧Q .aN (upd H l (.lst (xs++[y])))
theorem gf:wQ X "list.append" Nz:=by
 intro pins s σ H x vs v us Q I rx rv h;obtain ⟨l,xs,y,rfl,rfl,hH,hz,q⟩:=h;cases rx;obtain ⟨u,rfl,ru⟩:=rv.one;obtain ⟨z,its,n,r,hl,e⟩:=I.mK hH;refine pK F.slot_list_append ⟨_,e,rfl⟩ F.entry_list_append (F.args_list_append_2 _ _) (PySem.list_append l its.toArray n u (by rw [b_];lia)) ⟨e,?_⟩
 refine ⟨.aN,_,I.wR (its':=its++[u]) hH e (by simp) (r.append (.cons ru .nil)) ?_,rfl,q⟩
 rw [du,nW];lia
def NA:V→List V→Hp→VK→Prop:=fun x vs H Q=>∃l b xs zs,x=.ref l∧vs=[.ref b]∧H l=some (.lst xs)∧H b=some (.lst zs)∧xs.length+zs.length≤sizeLine∧Q .aN (upd H l (.lst (xs++zs)))
theorem Gk:wQ X "list.extend" NA:=by
 intro pins s σ H x vs v us Q I rx rv h;obtain ⟨l,b,xs,zs,rfl,rfl,hH,hB,hz,q⟩:=h;cases rx;obtain ⟨u,rfl,ru⟩:=rv.one;cases ru;obtain ⟨z,its,n,r,hl,e⟩:=I.mK hH;obtain ⟨z2,oB,n2,r2,NB,e2⟩:=I.mK hB;have hsz:its.toArray.size+oB.toArray.size≤sizeLine:=by rw [b_,b_];lia
 have Ci:¬(!its.toArray.isEmpty && Builtin.List.listTooLong (its.toArray.size+oB.toArray.size))=true:=by rw [Gj hsz,Bool.and_false];exact dg
 refine pK F.slot_list_extend ⟨_,e,rfl⟩ F.entry_list_extend (F.args_list_extend_2 _ _)
  (AutoSeq1.list_extend_list_list_0 l its.toArray n b oB.toArray n2 Ci (by rw [b_];lia) (by lia)) ⟨e,e2,?_⟩
 refine ⟨.aN,_,I.wR (its':=its++oB) hH e (by simp) (r.append r2) ?_,rfl,q⟩
 rw [du];lia
def NC:V→List V→Hp→VK→Prop:=fun x vs H Q=>∃l xs y,x=.ref l∧vs=[]∧H l=some (.lst xs)∧xs[xs.length-1]?=some y∧Q y (upd H l (.lst xs.dropLast))
theorem ND:wQ X "list.pop" NC:=by
 intro pins s σ H x vs v us Q I rx rv h;obtain ⟨l,xs,y,rfl,rfl,hH,hy,q⟩:=h;cases rx;have mL:=rv.zero;subst mL;obtain ⟨z,its,n,r,hl,e⟩:=I.mK hH;obtain ⟨u,hu,ru⟩:=r.get hy;have NF:its.toArray[its.toArray.size-1]?=some u:=by show its.toArray[its.length-1]?=some u;rw [←pL,←hl];exact hu
 refine pK F.slot_list_pop ⟨_,e,rfl⟩ F.entry_list_pop (F.args_list_pop_1 _) (MeetsSeq.list_pop_last l its.toArray n u NF (by rw [b_];lia)) ⟨e,?_⟩
 refine ⟨y,_,I.wR (its':=its.dropLast) hH e ?_ r.dropLast ?_,ru,q⟩
 ·show its.toArray.eraseIdxIfInBounds (its.toArray.size-1)=its.dropLast.toArray
  rw [b_,BI,Ny]
 ·rw [List.length_dropLast]
  lia
def NG:V→List V→Hp→VK→Prop:=fun x vs H Q=>∃l xs i k y,x=.ref l∧vs=[.int i]∧H l=some (.lst xs)∧-(2 ^ 63)≤i∧i<2 ^ 63∧seqIndex? i xs.length=some k∧xs[k]?=some y∧Q y (upd H l (.lst (xs.eraseIdx k)))
theorem NH:wQ X "list.pop" NG:=by
 intro pins s σ H x vs v us Q I rx rv h;obtain ⟨l,xs,i,k,y,rfl,rfl,hH,h1,h2,hk,hy,q⟩:=h;cases rx;obtain ⟨u,rfl,ru⟩:=rv.one;obtain ⟨t,rfl⟩:=ru;obtain ⟨z,its,n,r,hl,e⟩:=I.mK hH;obtain ⟨w,hw,f_⟩:=r.get hy
 refine pK F.slot_list_pop ⟨_,e,rfl⟩ F.entry_list_pop (F.args_list_pop_2 _ _)
  (MeetsSeq.list_pop_at l its.toArray n i t k w (fitsIndex_both h1 h2) (by rw [b_,←hl];exact hk) (by rw [←pL];exact hw) (by rw [b_];lia)) ⟨e,?_⟩
 refine ⟨y,_,I.wR (its':=its.eraseIdx k) hH e ?_ (r.eraseIdx k) ?_,f_,q⟩
 ·show its.toArray.eraseIdxIfInBounds k=(its.eraseIdx k).toArray
  rw [BI]
 ·have:=Cg xs k
  lia
def NI:R2:=fun x y H Q=>∃l b xs zs,x=.ref l∧y=.ref b∧H l=some (.lst xs)∧H b=some (.lst zs)∧xs.length+zs.length≤sizeLine∧∀p,H p=none→Q (.ref p) (upd H p (.lst (xs++zs)))
theorem Gm:cz X (binaryOp .Add) NI:=by
 intro pins s σ H x y v u Q I rx ry h;obtain ⟨l,b,xs,zs,rfl,rfl,hH,hB,hz,q⟩:=h;cases rx;cases ry;obtain ⟨z,its,n,r,hl,e⟩:=I.mK hH;obtain ⟨z2,oB,n2,r2,NB,e2⟩:=I.mK hB;refine PySem.P.add_list e e2 ?_ (by rw [b_,b_];lia)
 have ea:its.toArray++oB.toArray=(its++oB).toArray:=by simp
 rw [ea];exact ⟨.ref _,_,I.Gi (t':=s.toks) (r.append r2) (by rw [du];lia),rfl,q _ I.fresh⟩
def NJ:R2:=fun x y H Q=>∃l k xs,x=.ref l∧y=.int k∧H l=some (.lst xs)∧-(2 ^ 63)≤k∧k<2 ^ 63∧xs.length*k.toNat≤sizeLine ∧
 ∀p,H p=none→Q (.ref p) (upd H p (.lst (List.replicate k.toNat xs).flatten))
theorem len_rep(xs:List α)(k:Nat):(List.replicate k xs).flatten.length=k*xs.length:=by
 induction k with
 | zero=>simp
 | succ k ih=>rw [nV,su,du,ih,Nat.succ_mul,Nat.add_comm]
theorem Gn:cz X (binaryOp .Mult) NJ:=by
 intro pins s σ H x y v u Q I rx ry h;obtain ⟨l,k,xs,rfl,rfl,hH,h1,h2,hz,q⟩:=h;cases rx;obtain ⟨t,rfl⟩:=ry;obtain ⟨z,its,n,r,hl,e⟩:=I.mK hH;have hlen:its.toArray.size*k.toNat≤sizeLine:=by rw [b_,←hl];exact hz
 have NK:¬its.toArray.size*k.toNat>(2 ^ 63-1) / 8:=by
  have:(sizeLine:Nat)≤(2 ^ 63-1) / 8:=by decide
  lia
 have Cj:¬(!Builtin.List.listFitsIndex k)=true:=by rw [fitsIndex_both h1 h2];exact dg
 have Ci:¬Builtin.List.listTooLong (its.toArray.size*k.toNat)=true:=by rw [Gj hlen];exact dg
 have NL:List.foldl (fun x1 x2=>x1++x2) #[] (List.replicate (if its.toArray.isEmpty=true then 0 else k.toNat) its.toArray)=(List.replicate k.toNat its).flatten.toArray:=by
  have f0:∀m:Nat,List.foldl (fun x1 x2=>x1++x2) #[] (List.replicate m its.toArray)=(List.replicate m its).flatten.toArray:=fun m=>by have:=foldl_rep its m [];rw [vT] at this;exact this
  rw [f0];cases its with
  | nil=>simp
  | cons a r'=>rw [aa (by simp)]
 refine wpAny_binaryOp_repeat_ref (T:="list") (U:="int") (by decide) ⟨_,e,rfl⟩ (fun s'=>typeIs_int s' k t) noFill_list_mul F.fills_int_mul F.slot_int_rmul repeat_list F.slot_int_index.lookup
  (pK F.slot_int_rmul (typeIs_int s k t) F.entry_int_rmul (F.args_int_rmul_2 _ _) (int___rmul___int_list k t l its.toArray n)
   ⟨e,rfl,⟨_,e,rfl⟩,pK F.slot_list_mul ⟨_,e,rfl⟩ F.entry_list_mul (F.args_list_mul_2 _ _) (AutoListH.list___mul___list_int_3 l its.toArray n k t Cj NK Ci) ⟨e,?_⟩⟩)
 rw [NL];exact ⟨.ref _,_,I.Gi (t':=s.toks) (r.rep k.toNat) (by rw [len_rep,Nat.mul_comm];exact hz),rfl,q _ I.fresh⟩
end
section
variable {prog:Program} {w:World} {A:Around} {E:aR} {s:Shared}
end
section
variable {X:Cx}
end
end L2
namespace Att
open PySem PySem.W PySem.Calls PyProof.Rows
variable {P:Params} {h:Heap}
theorem NM:∀(ns:List Int) (vs:List Value),WellAll P h vs (ns.map WData.int)→IntsAre vs ns:=by
 intro ns
 induction ns with
 | nil=>intro vs w;rw [vP] at w;cases w;exact .nil
 | cons n ns ih=>
  intro vs w;rw [jC] at w;cases w with
  | cons a b=>cases a;exact .cons _ _ (ih _ b)
variable {l:OpenLaw} {n:Nat}
theorem NN(hn:l.most=some n){args:List WData}{vals:List Value}
  (zB:l.row.toRowW.claim.pre args=true) (Ck:WellAll P h vals args) :
  ∃a vs ns,vals=[Value.ref a]∧args=[WData.list (ns.map WData.int)]∧h.get? a=some {cls:=.type "list",data:=.seq vs.toArray}∧IntsAre vs ns∧ns.length≤n:=by
 have NP:WShape.hasAll [] args [.list .int]=true:=(pre_splitW zB).1;have hc:l.pre.holds [] {args:=args}=true:=(pre_splitW zB).2;obtain ⟨d,r,rfl,h1,h2⟩:=hasAllW_cons NP;obtain rfl:=hasAllW_nil h2;obtain ⟨xs,rfl,h3⟩:=hasW_list h1;obtain ⟨ns,rfl⟩:=items_int h3;have hlen:ns.length≤n:=by
  unfold OpenLaw.pre at hc;have h4:(WTm.not (.lt (.lit (.int (n:Int))) (.len (.arg 0)))).holds [] {args:=[.list (ns.map .int)]}=true:=by have h4:=(holds_andW hc).1;rw [hn] at h4;exact h4
  have h5:=condW_of h4 (w_not (w_lt w_lit (w_len_list (w_arg rfl))));rw [aH] at h5;refine Nat.le_of_not_lt fun q=>?_;have q':(n:Int)<((ns.length:Nat):Int):=by lia
  first
   | (rw [bA q'] at h5;exact absurd h5 (by decide))
   | (simp at h5;lia)
 cases Ck with
 | cons w1 w2=>
  cases w2;cases w1 with
  | list ho Cm=>exact ⟨_,_,ns,rfl,rfl,ho,NM ns _ Cm,hlen⟩
theorem NQ(l:OpenLaw)(args:List WData):l.row.toRowW.claim.post args (.bool true) args=true:=
 postW_of (r:=l.row.toRowW) (X:=(true == true))
  (show WShape.has [] (.bool true) .bool=true by first | rfl | decide | simp [WShape.has,WShape.arms,WShape.armsAll])
  (show (WTm.eq .res (.lit (.bool true))).value [] {args:=args,res:=some (.bool true),after:=args}=some (.bool (true == true)) from w_eq_bool (w_res rfl) w_lit) rfl
theorem NR{q:Program}{loose:List Str}{XP:(Str→Option Value)→Heap→Prop}{YP:World→Heap→Prop}{d:DefRec}
  (hn:l.most=some n) (wU:d.params.defaults=[])
  (call:∀(w:World) (s₀ s₁:Shared) (mg mb:cH) (fa:Addr) (o:Obj) (pm cd doc:Value) (a:Addr) (vs:List Value) (ns:List Int),
   Ground q loose [] XP w s₀ mg mb s₁.heap→YP w s₁.heap→
   s₁.heap.get? fa=some o→o.data=.func (docDef d.name d.params d.body d.scope pm cd doc)→s₁.heap.CodeRec cd d.name→mg d.name=some (.ref fa)→
   s₁.heap.get? a=some {cls:=.type "list",data:=.seq vs.toArray}→IntsAre vs ns→ns.length≤n→s₁.gens = #[]→
   codeAny (model l.prog w) callerA (.call (.ref fa) ⟨[.ref a],[]⟩) (fun r s'=>r=.ok (.ret (.bool true))∧OldK s₁.heap s'.heap∧s'.os=s₁.os∧AllBare s'.gens) s₁) :
  WalkO q loose XP YP l.row.toRowW d [] (fun f vs=>PySem.call f vs):=by
 intro w s₀ s₁ mg mb G Y fa o pm cd doc dV kV ho hd dW hD wV hg args vals as zB X2 Ya Ck Yf;obtain rfl:dV=.none:=Dflts.none hD wU;obtain rfl:kV=.none:=Dflts.noKw hD;obtain ⟨a,vs,ns,rfl,rfl,Cn,hints,hlen⟩:=NN hn zB Ck;refine enter_call (codeAny_mono (call w s₀ s₁ mg mb fa o pm cd doc a vs ns G Y ho (fd_plain hd) dW wV Cn hints hlen hg) fun r s' hq=>?_);obtain ⟨rfl,h2,h3,h4⟩:=hq;exact ⟨.inl ⟨.bool true,.bool true,[],rfl,fun _=>rfl,.bool true,NQ l _,fun _=>⟨List.Pairwise.nil,fun _ hm=>(nomatch hm)⟩⟩,h2,h3,h4⟩
section
variable {prog:Program} {w:World} {A:Around} {E:aR} {s:Shared} {K:Frag}
def qq(h:Heap):Heap:={h with objs:=#[]}
theorem Co(h:Heap)(b:Addr):(qq h).get? b=none:=by
 cases e:(qq h).get? b with
 | none=>rfl
 | some o=>exact absurd (aY e) (nX _)
def ledger(h:Heap)(L d:Addr):List (Addr×Obj):=(List.range h.objs.size).filterMap fun a=>if a=L∨a=d then none else (h.get? a).map fun o=>(a,o)
variable {L d:Addr}
theorem Gp{a:Addr}{o:Obj}:(a,o)∈ledger h L d↔a≠L∧a≠d∧h.get? a=some o:=by
 unfold ledger;rw [yH];constructor
 ·rintro ⟨b,_,e⟩
  split at e
  ·cases e
  ·rename_i hb
   obtain ⟨o',ho,e'⟩:=Option.map_eq_some_iff.mp e;cases e';exact ⟨fun q=>hb (.inl q),fun q=>hb (.inr q),ho⟩
 ·rintro ⟨n1,n2,ho⟩
  refine ⟨a,cR.mpr (aY ho),?_⟩;rw [aa (show ¬(a=L∨a=d) from fun q=>q.elim n1 n2),ho] <;> rfl
theorem NS{od:Obj}(gg:d≠L)(ho:h.get? d=some od):News (qq h) L h ([]++(d,od)::ledger h L d):=by
 rintro ⟨a,o⟩ hp;rcases bO.mp hp with e | hp
 ·cases e
  exact ⟨ho,gg,Co _ _⟩
 ·obtain ⟨n1,n2,e⟩:=Gp.mp hp
  exact ⟨e,n1,Co _ _⟩
theorem NT{m:cH}(n:h.Ns L m):Fr (qq h) L h m:=
 ⟨n,fun b o e=>(by rw [Co] at e;cases e),bU _⟩
end
end Att
namespace L2
open PySem PySem.Spec PyProof.Rows
theorem Gq:∀{vs:List Value} {ns:List Int},IntsAre vs ns→Vals (ns.map V.int) vs
 | _,_,.nil=>.nil
 | _,_,.cons n t h=>.cons ⟨t,rfl⟩ (Gq h)
abbrev Gr {K:aJ} {h:Heap} (_:K.In h):PySem.W.Frag:=K
def wW(s:Stmt):Arguments:=match s with
 | .FunctionDef _ a _ _ _ _ _ _ _ _=>a
 | _=>{posonlyargs:=[],args:=[],vararg:=none,kwonlyargs:=[],kw_defaults:=[],kwarg:=none,defaults:=[]}
def lC(s:Stmt):List Stmt:=match s with
 | .FunctionDef _ _ b _ _ _ _ _ _ _=>b
 | _=>[]
def bt(s:Stmt):Scope:=match s with
 | .FunctionDef _ _ _ _ _ _ sc _ _ _=>sc
 | _=>{kind:=.function,names:=[],isGenerator:=false,isCoroutine:=false}
abbrev cw:iF:=fun _ _ _ _ _ _=>False
abbrev E0:XK:=fun _ _ _=>False
theorem bJ{X:Cx}:Passes cw X E0:=fun _ _ _ _ _ _ _ h=>h.elim
structure gC (K:aJ) (x qual:Str) (st:Stmt) (f:Addr) (fd:FuncData):Prop where
 ex:∃(oc:Value) (od:Option Addr) (kV doc pm:Value) (an:Option Addr) (b7 ct:Value) (kg:Array (Option Value)),
  fd=PySem.W.fnOf x qual (wW st) (lC st) (bt st) .none kV doc pm an b7 ct∧K.lookup f=some ⟨oc,od,.func fd,kg⟩∧PySem.W.codeIn K b7 qual=true
 kp:PySem.W.keepIn K (.ref f)=true
abbrev a8 (K:aJ) (x:Str) (st:Stmt) (f:Addr) (fd:FuncData):Prop:=gC K x x st f fd
section
variable {P:Program} {w:World} {K:aJ} {mg:cH} {base:Heap}
variable {x qual:Str} {f:Addr} {fd:FuncData} {N ps:List Str} {k:Nat} {sp:Sp}
theorem gC.ok{st:Stmt}(F:gC K x qual st f fd)(S:cf N ps (bt st))(len:∀vs H Q E,sp vs H Q E→vs.length=ps.length)
  (kh:∀(b7:Value) (A:Around) (outer:List Env) (s:Shared) (H:Hp) (vs:List V) (Q:VK) (E:XK),dF k (A.deeper (envOfC qual (bt st) s.heap.objs.size f b7))→sp vs H Q E→
   ∃t,fN (jG cw P w K mg base N qual (bt st) f b7 A outer s H E).om (lC st) t∧t {nx:=fun _ H'=>Q .aN H',rt:=Q} (start N vs) H):bY P w K mg base cw (k+1) f fd ps sp:=by
 obtain ⟨oc,od,kV,doc,pm,an,b7,ct,kg,rfl,lk,dW⟩:=F.ex;refine B9 lk dW S len fun A outer s H vs Q E hr lq=>?_;obtain ⟨t,h,q⟩:=kh b7 A outer s H vs Q E hr lq;exact ⟨t,h.om,q⟩
theorem gC.dN{st:Stmt}(F:gC K x qual st f fd)(S:cf N ps (bt st))
  (kh:∀(b7:Value) (A:Around) (outer:List Env) (s:Shared) (H:Hp) (vs:List V) (Q:VK) (E:XK),dF k (A.deeper (envOfC qual (bt st) s.heap.objs.size f b7))→sp vs H Q E→
   ∃t,fN (jG cw P w K mg base N qual (bt st) f b7 A outer s H E).om (lC st) t∧t {nx:=fun _ H'=>Q .aN H',rt:=Q} (start N vs) H)
  (len:∀vs H Q E,sp vs H Q E→vs.length=ps.length:=by intro vs H Q E h;repeat first | (obtain ⟨rfl,_⟩:=h;rfl) | (subst h;rfl) | obtain ⟨_,h⟩:=h):bY P w K mg base cw (k+1) f fd ps sp:=F.ok S len kh
theorem gC.binds{st:Stmt}(F:gC K x qual st f fd)
  (h:∀(kV doc pm:Value) (an:Option Addr) (b7 ct:Value) (us:List Value),us.length=ps.length→bindArgs (PySem.W.fnOf x qual (wW st) (lC st) (bt st) .none kV doc pm an b7 ct) ⟨us,[]⟩=pure (ps.zip us)):Binds K fd ps []:=by
 obtain ⟨oc,od,kV,doc,pm,an,b7,ct,kg,rfl,lk,dW⟩:=F.ex;exact .all (h kV doc pm an b7 ct)
theorem gC.cm{st:Stmt}(F:gC K x qual st f fd)
  (h:∀(kV doc pm:Value) (an:Option Addr) (b7 ct:Value) (us:List Value),us.length=ps.length→bindArgs (PySem.W.fnOf x qual (wW st) (lC st) (bt st) .none kV doc pm an b7 ct) ⟨us,[]⟩=pure (ps.zip us):=by intro _ _ _ _ _ _ us hl;rcases us with _ | ⟨_,_ | ⟨_,_ | ⟨_,_ | ⟨_,_ | ⟨_,_ | ⟨_,_ | ⟨_,_⟩⟩⟩⟩⟩⟩⟩ <;> first | rfl | (simp at hl;done)):Binds K fd ps []:=F.binds h
theorem dr{st:Stmt}{oc:Value}{od an:Option Addr}{kg:Array (Option Value)}{kV doc pm b7 ct:Value}(l:K.lookup f=some ⟨oc,od,.func (PySem.W.fnOf x qual (wW st) (lC st) (bt st) .none kV doc pm an b7 ct),kg⟩)
  (c:PySem.W.codeIn K b7 qual=true) (k:PySem.W.keepIn K (.ref f)=true):gC K x qual st f (PySem.W.fnOf x qual (wW st) (lC st) (bt st) .none kV doc pm an b7 ct):=⟨⟨oc,od,kV,doc,pm,an,b7,ct,kg,rfl,l,c⟩,k⟩
end
theorem cU{n:Nat}(h:n≤1000):n<sizeLine:=jE h (by decide)
section
variable {X:Cx}
theorem pv(i:Nat){x:Str}{pos:Pos}(hN:X.N[i]?=some x:=by rfl)(hv:p9 X.env.scope x:=by first | exact Or.inl rfl | exact Or.inr (Or.inl rfl) | exact Or.inr (Or.inr rfl))(hd:(x == ("__debug__":Str))=false:=by decide)
  (dW:(x == ("__classdict__":Str))=false:=by decide):PE X (.Name x pos) (Fx i):=Md hN hv hd dW
end
variable {A B:Prop}
theorem eU(h:B):if false=true then A else B:=by rw [aa dg];exact h
theorem tm(h:A):if true=true then A else B:=by rw [ae rfl];exact h
theorem cI{c:Prop}[Decidable c](h1:c→A)(h2:¬c→B):if c then A else B:=by
 by_cases h:c
 ·rw [ae h]
  exact h1 h
 ·rw [aa h]
  exact h2 h
def ak(H H':Hp):Prop:=∀b o,H b=some o→H' b=some o
theorem ak.refl(H:Hp):ak H H:=fun _ _ h=>h
variable {H:Hp}
theorem ak.trans{H1 H2:Hp}(a:ak H H1)(b:ak H1 H2):ak H H2:=fun c o h=>b c o (a c o h)
theorem ak.seq{K:aJ}{H':Hp}{a:Addr}{xs:List V}(e:ak H H')(h:a7 K H a xs):a7 K H' a xs:=by
 rcases h with (h | ⟨o,h⟩) | h;·exact .inl (.inl (e _ _ h))
 ·exact .inl (.inr ⟨o,e _ _ h⟩)
 ·exact .inr h
end L2
set_option maxHeartbeats 4000000
namespace L2
open PySem PySem.Spec PyProof.Rows
structure zC (P:Program) (w:World) (outer:List Env) (H:Hp) (s:Shared) (H':Hp) (ea C:Addr) (B:Heap) (t:Addr) (s':Shared):Prop where
 os:s'.os=s.os
 bare:AllBare s'.gens
 fl:Heap.FlyingW B outer ea (.ref C) (.ref t) s'.heap
 ax:cq P w H' B
 kb:∀b o,s.heap.get? b=some o→H b=none→b∉cK outer→B.get? b=some o
 tb:∀b o,s.heap.get? b=some o→b∉cK outer→∃o',B.get? b=some o'
 sl:∀b o,s.heap.get? b=some o→H b=none→b∈cK outer→∃l,s'.heap.get? b=some {o with slots:=l}
 YG:∀b∈cK outer,H b=none
 NU:∀b o,s.heap.get? b=some o→H b=none→H' b=none
 f9:∀b xs,H b=some (.tup xs)→H' b=some (.tup xs)
 gw:∀b o u,H b=some (.bb o u)→H' b=some (.bb o u)
 gx:∀b ps,H b=some (.c_ ps)→∃more,H' b=some (.c_ (ps++more))
def iG(P:Program)(w:World):iF:=fun outer H s E e s'=>∃ea C H' B t,e=.ref ea∧zC P w outer H s H' ea C B t s'∧E (.ref C) none H'
section
variable {P:Program} {w:World} {outer:List Env} {H H':Hp} {s s':Shared} {ea C t:Addr} {B:Heap}
def ExcAt(ea C:Addr)(h:Heap):Prop:=∃oe,h.get? ea=some oe∧oe.cls=.ref C∧PySem.W.notCls oe=true
def NV(ea C:Addr):HO:=.ext (ExcAt ea C)
end
section
variable {X:Cx} {pins:aQ} {σ:St} {H H':Hp} {s s':Shared} {ea C t:Addr} {B:Heap}
structure tu (X:Cx) (E:XK):Prop where
 i7:X.stack=X.env::X.outer
 fr:X.env.frame=some X.env.locals
 ex:X.ex=[]
 xe:X.xe=fun e s'=>wpAny (model X.prog X.w) X.A (leaving X.env e) (fun _ ja=>iG X.prog X.w X.outer X.H₀ X.s₀ E e ja) (fun e' ja=>iG X.prog X.w X.outer X.H₀ X.s₀ E e' ja) s'
theorem zD{env:Env}{outer:List Env}{L:Addr}(h:env.frame=some L):cK (env::outer)=L::cK outer:=by unfold cK;rw [yF,h]
variable {E:XK}
theorem zC.leave(L:tu X E)(I:Inv X pins σ H s)(f:zC X.prog X.w X.stack H s H' ea C B t s'){h:Heap}(x:Heap.FlyingW B X.outer ea (.ref C) (.ref t) h)(up:s'.heap.UpToSlots h):zC X.prog X.w X.outer X.H₀ X.s₀ H' ea C B t {s' with heap:=h}:=by
 have nL:∀b o,X.s₀.heap.get? b=some o→b≠X.env.locals:=fun b o e=>cx (dS (aY e) I.ok.above);have ns:∀b o,X.s₀.heap.get? b=some o→b∉cK X.outer→b∉cK X.stack:=fun b o e nb z=>by
  rw [L.i7,zD L.fr] at z;rcases bO.mp z with z | z;·exact nL b o e z
  ·exact nb z
 have nx:∀b:Addr,b∉X.ex:=fun b z=>by rw [L.ex] at z;cases z
 refine ⟨f.os.trans I.os,f.bare,x,f.ax,fun b o e n nb=>?_,fun b o e nb=>?_,fun b o e n hb=>?_,I.ok.oi,fun b o e n=>?_,fun b xs e=>f.f9 b xs (I.base.f9 b xs e),fun b o u e=>f.gw b o u (I.base.gw b o u e),fun b ps e=>?_⟩;·exact f.kb b o (I.base.keep b o e n nb (nx b)) (I.base.free b o e n (nx b)) (ns b o e nb)
 ·obtain ⟨o',e'⟩:=I.base.there b o e (nx b)
  exact f.tb b o' e' (ns b o e nb)
 ·obtain ⟨l,q⟩:=I.base.slot b o e n hb (nx b)
  have hs:b∈cK X.stack:=by rw [L.i7,zD L.fr];exact eC _ hb
  obtain ⟨l2,q2⟩:=f.sl b _ q (I.base.free b o e n (nx b)) hs;obtain ⟨_,o2,q3,nf⟩:=f.fl.2.2.1.mem hs;rw [q2] at q3;cases q3;obtain ⟨l3,q4⟩:=up b _ q2 nf;exact ⟨l3,q4⟩
 ·obtain ⟨o',e'⟩:=I.base.there b o e (nx b)
  exact f.NU b o' e' (I.base.free b o e n (nx b))
 ·obtain ⟨m1,e1⟩:=I.base.gx b ps e
  obtain ⟨m2,e2⟩:=f.gx b _ e1;exact ⟨m1++m2,by rw [e2,Array.append_assoc]⟩
theorem NW:Passes (iG X.prog X.w) X (fun _ _ _=>False):=fun pins σ H s e s' I h=>by obtain ⟨_,_,_,_,_,_,_,q⟩:=h;exact q.elim
theorem Cp(L:tu X E):Passes (iG X.prog X.w) X E:=fun pins σ H s e s' I h=>by
 obtain ⟨ea,C,H',B,t,rfl,f,q⟩:=h;rw [L.xe];refine wpAny_leaves_onW (by rw [I.ok.frames,L.i7]) L.fr (by have z:=f.fl;rw [L.i7] at z;exact z) fun h' x up=>?_
 exact ⟨ea,C,H',B,t,rfl,f.leave L I x up,q⟩
end
variable {K:aJ} {h:Heap}
theorem NX{C:Addr}{tw:List Value}{newId:String}(dv:K.In h)(hq:PySem.W.excIn K C tw newId=true) :
  ∃bm N nm qn bs hdct sn sub ab col dd k0 k1 k2 k3 k5 mN,h.get? C=some (excClassObj nm qn C N bs bm hdct sn sub ab col dd k0 k1 k2 k3 k5 newId)∧h.Ns N mN∧mN "__init__"=none∧OwnTail h tw bm∧PySem.W.mroIn K C=fun b=>some ((Value.ref C::bm).contains b):=by
 unfold PySem.W.excIn at hq
 split at hq
 ·rename_i tD cls slt look
  split at hq
  ·rename_i CC rest a0 a1 a2 a3 nn a5 em es
   simp only [vR,beq_iff_eq,Bool.not_eq_true'] at hq;obtain ⟨⟨⟨⟨⟨e1,e2⟩,e3⟩,e4⟩,e5⟩,e6⟩:=hq;subst e1 e2;have NY:PySem.W.mroIn K CC=fun b=>some ((Value.ref CC::rest).contains b):=by
    funext b
    unfold PySem.W.mroIn PySem.W.clsIn;rw [look];simp [em]
   obtain ⟨c1,c2,c3,c4,c5,c6,c7,c8,c9,NZ,YH⟩:=cls;dsimp only at em e3 e5 e6;subst em e3;have N0:slt = #[a0,a1,a2,a3,some (.builtin nn),a5]:=by obtain ⟨ll⟩:=slt;simp only at es;rw [es]
   subst N0;exact ⟨rest,c4,c1,c5,c2,c6,c7,c8,c9,NZ,tD,a0,a1,a2,a3,a5,_,dv _ _ look,.of_isNs (PySem.W.isNs_of_in dv e5),PySem.W.nsMap_none_of_in dv e5 e6,PySem.W.tail_of_in dv e4,NY⟩
  ·cases hq
 ·cases hq
section
variable {X:Cx} {E:XK} {x:Str} {C:Addr} {np gR pos:Pos} {e:Expr} {es:List Expr} {ta:TA} {B newId N1:String} {tw:List Value}
def N2(C:Addr)(E:XK)(ta:TA):TS:=fun _ σ H=>ta σ H fun vs H1=>vs.length≤sizeLine∧E (.ref C) none H1
theorem N3(L:tu X E)(hc:X.calm=true)(FB:ExcBaseFacts B newId N1 tw)(hq:PySem.W.excIn X.K C tw newId=true)(hg:Gl X x)(hm:X.mg x=some (.ref C))(ha:PA X (e::es) ta)
  (hs:starEach (e::es) X.env=(false,eval e X.env)::starEach es X.env:=by rfl) (hp:(backTo gR (starEach es X.env)).any (·.1)=false:=by rfl) (hd:(x == ("__debug__":Str))=false:=by decide) :
  PS X (.Raise (some (.Call (.Name x np) (e::es) [] gR)) none pos) (N2 C E ta):=by
 intro pins s σ H D I h;obtain ⟨bm,N,nm,qn,bs,hdct,sn,sub,ab,col,dd,k0,k1,k2,k3,k5,mN,hC,hN,N4,T,_⟩:=NX I.ok.mod.dv hq
 refine wpAny_Raise_call_subT (C:=C) (nm:=nm) (q:=qn) (N:=N) (bs:=bs) (bm:=bm) (hdct:=hdct) (sn:=sn) (sub:=sub) (ab:=ab) (col:=col) (dd:=dd) (k0:=k0) (k1:=k1) (k2:=k2) (k3:=k3) (k5:=k5) FB (mN:=mN) (T.hasType FB.hasBase) (I.ok.hd hc)
  (by rw [hs];show (false || (backTo gR (starEach es X.env)).any (·.1))=false;rw [hp];rfl) N4 (Fy I hg hm ⟨rfl,?_⟩ hd)
 have h1:=ha gR pins s σ H _ I h;rw [hs] at h1 ⊢;refine Calls.evalArgs_plain (aK h1 fun us s2 ⟨vs,H1,I1,r,hl,q⟩=>⟨rfl,by rw [←r.length];exact hl,I1.bk _ _ hC,hN.keeps I1.bk,T.keeps I1.bk,fun h' ea mk=>?_⟩)
 rw [L.xe];have nL:∀b o,X.s₀.heap.get? b=some o→b≠X.env.locals:=fun b o q=>cx (dS (aY q) I1.ok.above);have ns:∀b o,X.s₀.heap.get? b=some o→b∉cK X.outer→b∉cK X.stack:=fun b o q nb z=>by
  rw [L.i7,zD L.fr] at z;rcases bO.mp z with z | z;·exact nL b o q z
  ·exact nb z
 have nx:∀b:Addr,b∉X.ex:=fun b z=>by rw [L.ex] at z;cases z
 have ff:s2.heap.FunFrames (PySem.W.hideAll s2.heap (cK X.stack)) (X.env::X.outer):=by have z:=I1.stack;rw [←L.i7];exact PySem.W.funFrames_hide z fun env he a hf=>yH.mpr ⟨env,he,hf⟩
 refine wpAny_leaves_madeW (base:=PySem.W.hideAll s2.heap (cK X.stack)) (h:=s2.heap) (by rw [I1.ok.frames,L.i7]) L.fr (fun b o q=>PySem.W.of_hideAll _ q) ff mk fun h2 t fl _ _ up=>?_
 refine ⟨ea,C,H1,_,t,rfl,⟨I1.os,I1.bare,fl,fun a o e1=>?_,fun b o e1 n nb=>?_,fun b o e1 nb=>?_,fun b o e1 n hb=>?_,I1.ok.oi,fun b o e1 n=>?_,I1.base.f9,I1.base.gw,I1.base.gx⟩,q⟩
 ·refine (I1.ax a o e1).i6 (fun b u hb e2=>yE _ e2 fun z=>?_) (fun _ z=>z) fun _ _ z=>z
  have n0:=I1.wx b z;rcases hb with hb | hb
  ·subst hb
   rw [e1] at n0;cases n0
  ·rw [hb] at n0
   cases n0
 ·exact yE _ (I1.base.keep b o e1 n nb (nx b)) (ns b o e1 nb)
 ·obtain ⟨o',e2⟩:=I1.base.there b o e1 (nx b)
  exact ⟨o',yE _ e2 (ns b o e1 nb)⟩
 ·obtain ⟨l,e2⟩:=I1.base.slot b o e1 n hb (nx b)
  have qj:b∈cK X.stack:=by rw [L.i7,zD L.fr];exact eC _ hb
  obtain ⟨_,o2,e3,nf⟩:=I1.stack.mem qj;rw [e2] at e3;cases e3;obtain ⟨l2,e4⟩:=up b _ (mk.keeps _ _ e2) nf;exact ⟨l2,e4⟩
 ·obtain ⟨o',e2⟩:=I1.base.there b o e1 (nx b)
  exact I1.base.free b o e1 n (nx b)
end
section
variable {X:Cx} {k:Nat} {f C:Addr} {fd:FuncData} {ps:List Str} {sp:Sp} {lh:List V} {ds:List Value} {x m:Str} {p pos apos:Pos} {e o:Expr} {es:List Expr} {ta:TE} {t:TA}
variable {te:TX} {i:Nat} {pos':Pos}
end
section
variable {X:Cx} {pins:aQ} {σ:St} {H:Hp} {s:Shared} {ea:Addr}
end
section
variable {M:Model} {A:Around} {E:aR} {h:Heap} {g:Array GenState} {d:Drawn} {t:Nat} {os:OsState} {e:Addr} {oe:Obj} {Q:Bool→Shared→Prop}
variable {nm q YI q':Str} {C N D N':Addr} {bs bm YJ YK:List Value} {hdct YL:Bool} {sn YM:List Str} {sub Gs:List Value} {ab YN:Bool} {col YO:Option Bool} {dd oC:Option Addr} {k0 k1 k2 k3 k5 j0 j1 j2 j3 j5:Option Value} {newId YQ:String}
end
section
variable {X:Cx} {body:List Stmt} {b₀:Stmt} {YR:List Stmt} {np YS pos:Pos} {x n:Str} {D:Addr} {tb:YT} {ts:TS} {tw:List Value} {newId:String} {i:Nat}
end
section
variable {P:Program} {w:World} {K:aJ} {mg:cH} {base:Heap}
variable {x qual:Str} {f:Addr} {fd:FuncData} {N ps:List Str} {k:Nat} {sp:Sp}
theorem gC.N5{st:Stmt}(F:gC K x qual st f fd)(S:cf N ps (bt st))(len:∀vs H Q E,sp vs H Q E→vs.length=ps.length)
  (kh:∀(b7:Value) (A:Around) (outer:List Env) (s:Shared) (H:Hp) (vs:List V) (Q:VK) (E:XK),dF k (A.deeper (envOfC qual (bt st) s.heap.objs.size f b7))→sp vs H Q E→
   tu (jG (iG P w) P w K mg base N qual (bt st) f b7 A outer s H E) E→
   ∃t,fN (jG (iG P w) P w K mg base N qual (bt st) f b7 A outer s H E) (lC st) t∧t {nx:=fun _ H'=>Q .aN H',rt:=Q} (start N vs) H):bY P w K mg base (iG P w) (k+1) f fd ps sp:=by
 obtain ⟨oc,od,kV,doc,pm,an,b7,ct,kg,rfl,lk,dW⟩:=F.ex;exact B9 lk dW S len fun A outer s H vs Q E hr lq=>kh b7 A outer s H vs Q E hr lq ⟨rfl,rfl,rfl,rfl⟩
theorem gC.je{st:Stmt}(F:gC K x qual st f fd)(S:cf N ps (bt st))
  (kh:∀(b7:Value) (A:Around) (outer:List Env) (s:Shared) (H:Hp) (vs:List V) (Q:VK) (E:XK),dF k (A.deeper (envOfC qual (bt st) s.heap.objs.size f b7))→sp vs H Q E→
   tu (jG (iG P w) P w K mg base N qual (bt st) f b7 A outer s H E) E→
   ∃t,fN (jG (iG P w) P w K mg base N qual (bt st) f b7 A outer s H E) (lC st) t∧t {nx:=fun _ H'=>Q .aN H',rt:=Q} (start N vs) H)
  (len:∀vs H Q E,sp vs H Q E→vs.length=ps.length:=by intro vs H Q E h;repeat first | (obtain ⟨rfl,_⟩:=h;rfl) | (subst h;rfl) | obtain ⟨_,h⟩:=h):bY P w K mg base (iG P w) (k+1) f fd ps sp:=F.N5 S len kh
end
structure qr (K:aJ) (C:Addr):Prop where
 ci:PySem.W.hasDictIn K C=true
 ga:PySem.W.findIn K (.ref C) "__getattribute__"=some (some (.builtin "BaseException.__getattribute__"))
 gn:PySem.W.findIn K (.ref C) "__getattr__"=some none
 ca:PySem.W.findIn K (.ref C) "__class__"=some (some (.builtin "object.__class__"))
 mo:PySem.W.mroIn K C (.type "object")=some true
 mb:PySem.W.mroIn K C (.type "BaseException")=some true
section
variable {prog:Program} {w:World} {A:Around} {E:aR} {h:Heap} {g:Array GenState} {d:Drawn} {t:Nat} {os:OsState} {K:aJ} {a C:Addr} {o:Obj}
theorem N6{R:Result→Shared→Prop}(dv:K.In h)(c:qr K C)(hx:h.get? a=some o)(hc:o.cls=.ref C)(hq:R (.ok (.ret (.ref C))) ⟨h,g,d,t,os⟩) :
  codeAny (model prog w) A (.call (.builtin "getset_descriptor.__get__") ⟨[.builtin "object.__class__",.ref a,.ref C],[]⟩) R ⟨h,g,d,t,os⟩:=by
 have Gu:(⟨h,g,d,t,os⟩:Shared).TypeIs (.builtin "object.__class__") "getset_descriptor":=BJ;have L1:=PySem.W.looks_mroIn (M:=model prog w) dv c.mo;have ow:=F.owner_object_class;refine codeAny_call_builtin F.slot_gs_get.plain F.entry_gs_get (F.slot_gs_get.check _ _ _ _ _ _ _ _ Gu (F.args_gs_get _ _ _) ?_)
 repeat (any_goals (first | assumption | (with_reducible refine vU hx ?_;rw [hc]) | (rw [ow];with_reducible refine L1.at ?_) | wp_step))
 refine ⟨Code.quiet_builtin _ (by decide +kernel),codeAny_builtin F.entry_object_class ?_⟩
 repeat (any_goals (first | assumption | (with_reducible refine vU hx ?_;rw [hc]) | wp_step))
variable {tk:Tok}
theorem N7{Q:Fin→Shared→Prop}(dv:K.In h)(c:qr K C)(hx:h.get? a=some o)(hc:o.cls=.ref C)(hq:Q (.done (.ret (.ref C))) ⟨h,g,d,t,os⟩) :
  wpAny (model prog w) A (Builtin.«object.__getattribute__» ⟨[.ref a,.str "__class__" tk],[]⟩) Q E ⟨h,g,d,t,os⟩:=by
 have Gu:(⟨h,g,d,t,os⟩:Shared).TypeIs (.builtin "object.__class__") "getset_descriptor":=BJ;have L1:=PySem.W.looks_findIn (M:=model prog w) dv c.ca;have f5:=BJ;have f6:=F.slot_gs_get.lookup;have f7:=F.slot_gs_set.lookup
 repeat (any_goals (first | assumption | (with_reducible refine vU hx ?_;rw [hc]) | with_reducible refine L1.at ?_ | wp_step))
 refine N6 dv c hx hc ?_
 repeat (any_goals (first | assumption | wp_step))
theorem N8{M:Model}{nv:Value}{Q:Unit→Shared→Prop}(dv:K.In h)(c:qr K C)(hx:h.get? a=some o)(hc:o.cls=.ref C)(hq:Q () ⟨h,g,d,t,os⟩) :
  wpAny M A (checkBuiltinCall "BaseException.__getattribute__" ⟨[.ref a,nv],[]⟩) Q E ⟨h,g,d,t,os⟩:=by
 have hk:builtinKind "BaseException.__getattribute__"=some .slot:=by decide +kernel
 have hs:splitId "BaseException.__getattribute__"=some ("BaseException","__getattribute__"):=by decide +kernel
 have L1:=PySem.W.looks_mroIn (M:=M) dv c.mb;have ha:=F.args_bexc_ga (.ref a) nv;simp only [checkBuiltinCall,hk,hs];refine aC ?_;unfold isInstance
 repeat (first | (with_reducible refine vU hx ?_;rw [hc]) | with_reducible refine L1.at ?_ | wp_step)
 exact hq
theorem N9{fill expr:Bool}{Q:aR}(dv:K.In h)(c:qr K C)(hx:h.get? a=some o)(hc:o.cls=.ref C)(hq:Q (.ref C) ⟨h,g,d,t,os⟩) :
  wpAny (model prog w) A (getAttrBy (.ref a) (.str "__class__" tk) fill expr) Q E ⟨h,g,d,t,os⟩:=by
 have f3:=F.attrBase_ValueError.ga.bind (.ref a);have z0:(expr && onTheHeap (Value.builtin "BaseException.__getattribute__"))=false:=by cases expr <;> rfl
 have z2:(Value.builtin "BaseException.__getattribute__" == Value.builtin "object.__getattribute__")=false:=by decide +kernel
 have z1:(onTheHeap (Value.ref C) && Value.builtin "BaseException.__getattribute__" == Value.builtin "object.__getattribute__")=false:=by rw [z2];rfl
 have L1:=PySem.W.looks_findIn (M:=model prog w) dv c.ga;have L2:=PySem.W.looks_findIn (M:=model prog w) dv c.gn
 repeat (any_goals (first | assumption | (with_reducible refine vU hx ?_;rw [hc]) | with_reducible refine L1.at ?_ | with_reducible refine L2.at ?_ | wp_step))
 refine codeAny_call_builtin F.attrBase_ValueError.ga.plain F.entry_bexc_ga (N8 dv c hx hc (N7 dv c hx hc ?_))
 repeat (any_goals (first | assumption | wp_step))
theorem N_{Q:Option Value→Shared→Prop}(dv:K.In h)(c:qr K C)(hx:h.get? a=some o)(hc:o.cls=.ref C)(hq:Q (some (.ref C)) ⟨h,g,d,t+1,os⟩) :
  wpAny (model prog w) A (getAttr? (.ref a) "__class__") Q E ⟨h,g,d,t,os⟩:=by
 unfold getAttr? getAttrBy?
 repeat (any_goals (first | assumption | with_reducible apply N9 dv c hx hc | wp_step))
theorem Oa(c:qr K C):PySem.W.KitX K (.ref a) (.ref C) (ExcAt a C) where
 ty:=fun M h _ k=>by obtain ⟨oe,e1,e2,_⟩:=k;exact e2▸(PySem.W.Looks.ld e1).andThen .now
 it:=fun M h dv _=>by
  obtain ⟨cd,hc,_⟩:=PySem.W.any_some c.ci;unfold PySem.W.clsIn at hc
  split at hc
  ·rename_i look
   intro A' Q' E' s' k q;unfold isType loadHead;exact aC (wpAny_loadPart (k _ _ (dv _ _ look)) (ba q))
  ·cases hc
 ne:=fun h tp dd its n sl dv Ob=>by
  obtain ⟨cd,hc,_⟩:=PySem.W.any_some c.ci;refine yJ.mpr fun q=>?_;have e:C=tp:=Value.ref.inj (beq_iff_eq.mp q);subst e;unfold PySem.W.clsIn at hc
  split at hc
  ·rename_i look
   have z:=(dv _ _ look).symm.trans Ob;cases z
  ·cases hc
 ca:=fun{prog w A E Q s} dv k z=>by obtain ⟨oe,e1,e2,_⟩:=k;obtain ⟨h,g,d,t,os⟩:=s;exact N_ dv c e1 e2 z
end
def iH(a:Addr)(h:Heap):Prop:=∃o ep,h.get? a=some o∧o.ExactDict∧o.data=.dict #[] ep∧(a == sysModules)=false
theorem iH.Cq{a:Addr}(e:iH a h):PySem.W.KitAt a "dict" h:=by obtain ⟨o,_,e,c,_⟩:=e;exact ⟨o,e,c.1⟩
def Cr(a:Addr):HO:=.ext (iH a)
inductive wX (K:aJ) (H:Hp):V→Value→Prop where
 | of {x:V} {t:Value} (h:i_ K H x t):wX K H x t
 | exc {a C:Addr} (e:H a=some (NV a C)) (c:qr K C):wX K H (.ref a) (.ref C)
 | tD {a:Addr} (e:H a=some (Cr a)):wX K H (.ref a) (.type "dict")
def Gv:V→Value
 | .ty n=>.type n
 | .ref a=>.ref a
 | _=>.none
def Oc:V→Bool
 | .ty _=>true
 | .ref _=>true
 | _=>false
def Od(K:aJ):List V→Hp→VK→Prop:=fun xs H Q=>∃x c t b,xs=[x,c]∧Oc c=true∧wX K H x t∧PySem.W.kitOne K t (Gv c)=some b∧Q (.bl b) H
theorem tE{X:Cx}(hK:X.K=K:=by rfl):gB X (.builtin "isinstance") (Od K):=by
 intro pins s σ H xs us Q I r h;subst hK;obtain ⟨x,c,t,b,rfl,hc,ty,e,q⟩:=h;obtain ⟨u,cv,rfl,rx,rc⟩:=vals2 r;have ec:cv=Gv c:=by
  cases c with
  | ty n=>exact rc
  | ref a=>exact rc
  | _=>cases hc
 subst ec;cases ty with
 | of ty=>exact MY I rx ty e fun tk=>⟨.bl b,H,I.tok tk,rfl,q⟩
 | @tD a ea=>cases rx;obtain ⟨k,_,_⟩:=(show bV X.prog X.w H s.heap a (.ext (iH a)) from I.ax a _ ea);exact iX PySem.W.kitx_dict I.eY k.Cq e (fun z=>nomatch z) fun tk=>⟨.bl b,H,I.tok tk,rfl,q⟩
 | @exc a C ea cc=>cases rx;obtain ⟨k,_,_⟩:=(show bV X.prog X.w H s.heap a (.ext (ExcAt a C)) from I.ax a _ ea);exact iX (Oa cc) I.eY k e (fun z=>nomatch z) fun tk=>⟨.bl b,H,I.tok tk,rfl,q⟩
theorem boot_isinstance:bootBuiltins "isinstance"=some (.builtin "isinstance"):=by decide +kernel
theorem boot_min:bootBuiltins "min"=some (.builtin "min"):=by decide +kernel
theorem boot_max:bootBuiltins "max"=some (.builtin "max"):=by decide +kernel
theorem boot_int:bootBuiltins "int"=some (.type "int"):=by decide +kernel
theorem boot_bool:bootBuiltins "bool"=some (.type "bool"):=by decide +kernel
theorem boot_tuple:bootBuiltins "tuple"=some (.type "tuple"):=by decide +kernel
theorem boot_list:bootBuiltins "list"=some (.type "list"):=by decide +kernel
end L2
namespace My
open PySem L2
end My
namespace L2
open PySem PySem.Spec PyProof.Rows
abbrev Cx.dt (X:Cx) (N:List Str) (scope:Scope) (cl:List (Str×Addr)) (s₃:Shared) (H₃:Hp) (fp:List Addr):Cx:=
 {X with N:=N,s₀:=s₃,H₀:=H₃,env:=compEnvC scope cl s₃.heap.objs.size X.env,outer:=X.stack,stack:=X.stack,ex:=fp,fn:=fun _=>false,pn:=[],xe:=fun _ _=>False}
inductive oD (X:Cx):List Expr→TT→Prop where
 | nil:oD X [] (fun _ H Q=>Q true H)
 | one {c:Expr} {t:TT} (h:PT X c t):oD X [c] t
def gh(wi:TI)(ρ:St→St)(tt:TT)(te:TE):TE:=fun σ H Q=>wi σ H fun J H1=>∀D,H1 D=none→∃W:Nat→Nat→List V→Hp→Prop,(∃m,W 0 m [] (upd H1 D (.lst []))) ∧
 ∀i m ys Hc,W i m ys Hc→Hc D=some (.lst ys)∧((J.stop i Hc∧Q (.ref D) Hc)∨(J.go i Hc∧∀x H',J.d8 i Hc x H'→tt (some x::ρ σ) H' fun b H2=>
  if b=true then te (some x::ρ σ) H2 fun y H3=>H3 D=some (.lst ys)∧ys.length<sizeLine∧∃m',m'<m∧W (i+1) m' (ys++[y]) (upd H3 D (.lst (ys++[y]))) else ∃m',m'<m∧W (i+1) m' ys H2))
section
variable {X:Cx} {N:List Str} {scope:Scope} {cl:List (Str×Addr)} {x:Str} {px pos:Pos} {iter elt:Expr} {ifs:List Expr} {wi:TI} {ρ:St→St} {tt:TT} {te:TE}
structure Cs (X:Cx) (N:List Str) (scope:Scope) (cl:List (Str×Addr)) (x:Str) (ρ:St→St):Prop where
 zE:closureFor scope X.env=pure cl
 kind:scope.kind=.function
 Gw:∀y∈scope.names,y.2≠.cell
 names:∀y∈scope.names,y.2=.local→scope.names.lookup y.1=some .local
 sub:∀p∈cl,X.env.cells.lookup p.1=some p.2
 has:∀y,((relabel scope X.env).names.lookup y=some .cell∨(relabel scope X.env).names.lookup y=some .free)→∃c,cl.lookup y=some c
 n0:N[0]?=some x
 nd:N.Nodup
 hx:scope.names.lookup x=some .local
 zF:∀(σ:St) (j:Nat) (v:V),(ρ σ)[j]?=some (some v)→∃(i:Nat) (y:Str),N[j+1]?=some y∧X.N[i]?=some y∧σ[i]?=some (some v)∧p9 X.env.scope y∧(X.env.kindOf y=some .cell∨X.env.kindOf y=some .free)∧((relabel scope X.env).names.lookup y=some .cell∨(relabel scope X.env).names.lookup y=some .free)
 len:∀σ:St,σ.length=X.N.length→(ρ σ).length+1=N.length
theorem Oe{names:List (Str×NameKind)}(h:(names.all fun q=>(q.2 != .cell && q.2 != .free) || (cl.lookup q.1).isSome)=true) :
  ∀y,(names.lookup y=some .cell∨names.lookup y=some .free)→∃c,cl.lookup y=some c:=fun y hy=>by
 have key:∀k:NameKind,(k != .cell && k != .free)=false→names.lookup y=some k→∃c,cl.lookup y=some c:=fun k hk e=>by have z:=nY.mp h (y,k) (kM e);rw [hk,Bool.false_or] at z;exact BH.mp z
 rcases hy with e | e;·exact key .cell rfl e
 ·exact key .free rfl e
theorem join_some{o:Option (Option V)}{v:V}(h:some o.join=some (some v)):o=some (some v):=by
 cases o with
 | none=>cases h
 | some o=>cases h;rfl
def Ct(X:Cx)(sc:Scope):List Str→List Nat→Prop
 | n::ns,i::is=>(X.N[i]?=some n∧p9 X.env.scope n∧(X.env.kindOf n=some .cell∨X.env.kindOf n=some .free)∧((relabel sc X.env).names.lookup n=some .cell∨(relabel sc X.env).names.lookup n=some .free))∧Ct X sc ns is
 | _,[]=>True
 | [],_::_=>False
theorem Gx{X:Cx}{sc:Scope}:∀{ns:List Str} {is:List Nat},Ct X sc ns is→∀(σ:St) (j:Nat) (v:V),(is.map fun i=>σ[i]?.join)[j]?=some (some v)→∃(i:Nat) (n:Str),ns[j]?=some n∧X.N[i]?=some n∧σ[i]?=some (some v)∧p9 X.env.scope n∧(X.env.kindOf n=some .cell∨X.env.kindOf n=some .free)∧((relabel sc X.env).names.lookup n=some .cell∨(relabel sc X.env).names.lookup n=some .free)
 | _,[],_,_,_,_,e=>by cases e
 | [],_::_,h,_,_,_,_=>h.elim
 | n::_,i::_,h,_,0,_,e=>⟨i,n,rfl,h.1.1,join_some e,h.1.2⟩
 | _::_,_::_,h,σ,j+1,v,e=>Gx h.2 σ j v e
theorem jg(is:List Nat)(h1:closureFor scope X.env=pure cl)(h:Ct X scope N.tail is:=by repeat' first | exact True.intro | refine And.intro ⟨rfl,Or.inr (Or.inl rfl),.inl rfl,.inl rfl⟩ ?_)(h2:scope.kind=.function:=by rfl)(h3:∀y∈scope.names,y.2≠.cell:=by decide +kernel)(h4:∀y∈scope.names,y.2=.local→scope.names.lookup y.1=some .local:=by decide +kernel)(h5:∀p∈cl,X.env.cells.lookup p.1=some p.2:=by repeat' first | exact List.forall_mem_nil _ | refine List.forall_mem_cons.mpr ⟨rfl,?_⟩)(h6:((relabel scope X.env).names.all fun q=>(q.2 != .cell && q.2 != .free) || (cl.lookup q.1).isSome)=true:=by rfl)(h7:N[0]?=some x:=by rfl)(h8:N.Nodup:=by decide +kernel)(h9:scope.names.lookup x=some .local:=by rfl)(hr:∀σ:St,ρ σ=is.map fun i=>σ[i]?.join:=by exact fun _=>rfl)(hl:is.length+1=N.length:=by rfl):Cs X N scope cl x ρ:=
 ⟨h1,h2,h3,h4,h5,Oe h6,h7,h8,h9,fun σ j v e=>by rw [hr] at e;rw [←List.getElem?_tail];exact Gx h σ j v e,fun σ _=>by rw [hr,aH];exact hl⟩
theorem mM(B:Cs X N scope cl x ρ)(hc:X.calm=true)(hi:PI X (.Name x px) iter wi)(ht:∀s₃ H₃ fp,oD (X.dt N scope cl s₃ H₃ fp) ifs tt)(he:∀s₃ H₃ fp,PE (X.dt N scope cl s₃ H₃ fp) elt te)
  (hs:∀x,foldedSetIterable iter X.env x=pure x:=by intro _;rfl):PE X (.ListComp elt [⟨.Name x px,iter,ifs,0⟩] scope pos) (gh wi ρ tt te):=by
 intro pins s σ H Q I h
 rw [eval_ListComp]
 refine BK (use:=none) rfl hs B.zE B.kind B.names (aK (hi pins s σ H _ I h) fun v s1 h1=>aK h1 fun wK s2 h2=>?_)
 obtain ⟨it,fp,tn,J,H2,rfl,I2,T,i9,f2,q2⟩:=h2
 have nD:H2 s2.heap.objs.size=none:=I2.ax.fresh (ay _)
 obtain ⟨W,⟨m0,w0⟩,turn⟩:=q2 _ nD
 refine sC (wpAny_newFunctionEnv B.Gw (by intro y hy;simp at hy) (fun h₁ ki mO=>?_) B.kind)
 dsimp only at ki mO ⊢
 generalize hD:s2.heap.objs.size=D at nD w0 turn ki mO ⊢
 generalize kj:({s2 with heap:=s2.heap.push {cls:=.type "list",dict:=none,data:=.seq ([]:List Value).toArray}}:Shared)=s3
 have I3:Inv X pins σ (upd H2 D (.lst [])) s3:=by
  subst hD kj
  exact I2.laid (t':=s2.toks) (fun b u e=>b8 _ e) (ay _) ⟨bU _,[],_,.nil,dU _ rfl⟩
 have e3:s3.heap=s2.heap.push {cls:=.type "list",dict:=none,data:=.seq ([]:List Value).toArray}:=by rw [←kj]
 have gS:∀b o,s2.heap.get? b=some o→s3.heap.get? b=some o:=fun b o e=>by rw [e3];exact b8 _ e
 rw [←e3] at ki mO ⊢
 have below:∀b o,s3.heap.get? b=some o→b≠s3.heap.objs.size:=fun b o e=>cx (aY e)
 have e8:∀b o,s3.heap.get? b=some o→h₁.get? b=some o:=fun b o e=>mO.extBut b o (below b o e) (b8 _ e)
 have jJ:∀b∈fp,∃o,s2.heap.get? b=some o∧∀v,o.data≠.cell v:=T.obj _ _ i9
 have wY:∀b∈fp,b≠D:=fun b hb z=>by
  obtain ⟨o,e,_⟩:=jJ b hb
  rw [z,←hD] at e
  exact absurd (aY e) (fE _)
 have dX:∀y c,cl.lookup y=some c→X.env.cells.lookup y=some c:=fun y c e=>B.sub (y,c) (kM e)
 have wZ:=I3.wx
 have je:(X.dt N scope cl s3 (upd H2 D (.lst [])) fp).Ok:=by
  refine ⟨I.ok.mod,B.kind,I.ok.glob,I.ok.blt,ay _,fun a b c e1 e2=>I.ok.inj a b c (dX a c e1) (dX b c e2),fun y hy=>B.has y hy,(fun _ _ z _=>absurd z dg),(fun _=>I.ok.hd hc),I.ok.frames,.inl rfl,fun b hb=>⟨?_,fun y c e z=>?_⟩,fun b o e=>?_,b9 I.ok.i8 I3.sz,fun b o e hb=>?_,fun b hb z=>?_,I3.stack,wZ⟩
  ·obtain ⟨o,e,_⟩:=jJ b hb
   exact below b o (gS b o e)
  ·exact (f2 b hb).2.2.2.2.1 y c (dX y c e) z
  ·exact I3.bs b o e
  ·rcases (f2 b hb).2.2.2.1 with z | z
   ·exact I.ok.qa b o e z
   ·exact absurd (dS (aY e) (b9 I.ok.i8 z)) (fE _)
  ·rcases bO.mp (I3.wu b z) with z | z
   ·exact (f2 b hb).2.1 z
   ·exact (f2 b hb).2.2.1 z
 have IB:∀tk:Nat,Inv (X.dt N scope cl s3 (upd H2 D (.lst [])) fp) [] (none::ρ σ) (upd H2 D (.lst [])) {s3 with heap:=h₁,toks:=tk}:=fun tk=>by
  refine ⟨je,rfl,I3.bare,Un.kept e8,⟨_,ki,fun j y v e1 e2 e3=>?_⟩,fun y c e=>?_,?_,fun y c e=>I3.jF y c (dX y c e),(fun p hp=>nomatch hp),I3.ax.kept e8,?_⟩
  ·cases j with
   | zero=>cases e2
   | succ j=>
    obtain ⟨i,y',a1,a2,a3,a4,a5,a6⟩:=B.zF σ j v e2
    have oE:N[j+1]?=some y:=e1
    rw [oE] at a1
    cases a1
    obtain ⟨m,hn,hl⟩:=I3.loc
    obtain ⟨u,r,l⟩:=hl i y v a2 a3 a4
    refine ⟨u,r,.inr ⟨a6,?_⟩⟩
    obtain ⟨c,ec⟩:=B.has y a6
    rcases l with ⟨k,_⟩ | ⟨_,c',oF,z⟩
    ·rcases a5 with q | q <;> (rw [k] at q;cases q)
    ·have:=dX y c ec
     rw [this] at oF
     cases oF
     obtain ⟨o,ho,hd⟩:=z
     exact ⟨c,ec,o,e8 _ _ ho,hd⟩
  ·obtain ⟨v,o,ho,hd⟩:=I3.cell y c (dX y c e)
   exact ⟨v,o,e8 _ _ ho,hd⟩
  ·exact I3.ax.fresh (ay _)
  ·show (none::ρ σ).length=N.length
   rw [fG]
   exact B.len σ I.len
 have fin:∀{σ':St} {H':Hp} {s':Shared},Inv (X.dt N scope cl s3 (upd H2 D (.lst [])) fp) [] σ' H' s'→Q (.ref D) H'→compPost (model X.prog X.w) X.A X.xe none (EP X pins σ Q) (.ref D) s3.heap.objs.size (.ok .next) s':=fun{σ' H' s'} J q=>by
  obtain ⟨m,hn,_⟩:=J.loc
  refine ⟨m,hn,fun h' iI=>⟨.ref D,H',?_,rfl,q⟩⟩
  have old:∀b o,s3.heap.get? b=some o→b≠s3.heap.objs.size:=below
  have u1:Un (cK X.stack) fp (upd H2 D (.lst [])) H' s3.heap h':=by
   refine ⟨fun b o e n hb hx=>?_,fun b o e n hb hx=>?_,J.base.free,fun b o e hx=>?_,J.base.f9,J.base.gw,J.base.gx⟩
   ·exact (iI.2 b (old b o e)).trans (J.base.keep b o e n hb hx)
   ·obtain ⟨sl,z⟩:=J.base.slot b o e n hb hx
    exact ⟨sl,(iI.2 b (old b o e)).trans z⟩
   ·obtain ⟨o',z⟩:=J.base.there b o e hx
    exact ⟨o',(iI.2 b (old b o e)).trans z⟩
  have w5:cq X.prog X.w H' h':=fun b u e=>by
   refine (J.ax b u e).i6 (fun c v hc z=>(iI.2 c fun y=>?_).trans z) (fun _ z=>z) fun _ _ z=>z
   have fr:=J.free
   have y':c=s3.heap.objs.size:=y
   rcases hc with hc | hc
   ·rw [←hc,y'] at e
    exact absurd (fr.symm.trans e) (by simp)
   ·rw [y'] at hc
    exact absurd (fr.symm.trans hc) (by simp)
  refine I3.qd (s':={s' with heap:=h'}) (ch:=fp) (J.os) u1 w5 J.bare fun b hb=>?_
  obtain ⟨g0,g1,g2,g3,g4,g5⟩:=f2 b hb
  exact ⟨g3,g1,g4,g5⟩
 have gN:∀{H':Hp},(∀b∈fp,H' b=none)→∀b∈fp,mD (X.dt N scope cl s3 (upd H2 D (.lst [])) fp) [] H' b:=fun hn b hb=>by
  refine ⟨hn b hb,?_,?_,.inl hb,fun y c e z=>(f2 b hb).2.2.2.2.1 y c (dX y c e) z,fun p hp=>nomatch hp⟩
  ·obtain ⟨o,e,_⟩:=jJ b hb
   exact below b o (gS b o e)
  ·exact je.qb b hb
 have loop:∀tk:Nat,codeAny (model X.prog X.w) X.A (.compLoop (.ListComp elt [⟨.Name x px,iter,ifs,0⟩] scope pos) 0 (.ref it) (.ref D) (compEnvC scope cl s3.heap.objs.size X.env))
   (compPost (model X.prog X.w) X.A X.xe none (EP X pins σ Q) (.ref D) s3.heap.objs.size) {s3 with heap:=h₁,toks:=tk}:=fun tk=>by
  refine BL (fun n s'=>∃i ys o H',Inv (X.dt N scope cl s3 (upd H2 D (.lst [])) fp) [] (o::ρ σ) H' s'∧tn i s'.heap∧(∀b∈fp,H' b=none)∧W i n ys H') ?_ m0
   ⟨0,[],none,_,IB tk,T.keep _ _ _ i9 fun b hb o e=>e8 _ _ (gS _ _ e),fun b hb=>by rw [aG (wY b hb)];exact (f2 b hb).1,w0⟩
  rintro n s4 ⟨i,ys,o,H4,I4,oG,oH,w4⟩
  obtain ⟨Gy,w6⟩:=turn i n ys H4 w4
  rcases w6 with ⟨stop,qn⟩ | ⟨go,step⟩
  ·refine cS (T.done (X.dt N scope cl s3 (upd H2 D (.lst [])) fp) rfl rfl rfl hc i [] s4 _ H4 (fun _ _=>False) I4 (gN oH) oG stop) (fun r s5 ⟨hr,I5⟩=>?_) fun _ _ z=>z.elim
   subst hr
   exact fin I5 qn
  ·refine cS (T.item (X.dt N scope cl s3 (upd H2 D (.lst [])) fp) rfl rfl rfl hc i [] s4 _ H4 (fun _ _=>False) I4 (gN oH) oG go) (fun r s5 ⟨u,hr,h5⟩=>?_) fun _ _ z=>z.elim
   subst hr
   have z:letOwnedTupleGo (.Name x px) (.ref it) u=pure ():=rfl
   rw [z] at h5
   show wpAny _ _ ((pure ():Sem Unit) >>= fun _=>assign (.Name x px) (compEnvC scope cl s3.heap.objs.size X.env) u) _ _ s5
   refine aC (cS h5 (fun _ s5 ⟨y,H5,I5,r5,y5,gO,ql⟩=>?_) fun _ _ z=>z.elim)
   have qm:=I5.pinned (gN ql) (T.obj _ _ gO)
   have pg:PG (X.dt N scope cl s3 (upd H2 D (.lst [])) fp) (.Name x px) (aM 0):=cM (i:=0) B.nd B.n0 (.inl (yK B.hx)) (.inr (yK B.hx))
   have again:∀{σ7:St} {H7:Hp} {s7:Shared},Inv (X.dt N scope cl s3 (upd H2 D (.lst [])) fp) ([]++k8 fp s5.heap) σ7 H7 s7→Inv (X.dt N scope cl s3 (upd H2 D (.lst [])) fp) [] σ7 H7 s7∧tn (i+1) s7.heap∧∀b∈fp,H7 b=none:=fun{σ7 H7 s7} I7=>by
    refine ⟨I7.sX,T.keep _ _ _ gO fun b hb o e=>(I7.pin (b,o) (eQ _ (eQ _ (ot hb e)))).1,fun b hb=>?_⟩
    obtain ⟨o,e,d⟩:=T.obj _ _ gO b hb
    exact (I7.pin (b,o) (eQ _ (eQ _ (ot hb e)))).2.1
   refine cS (pg _ s5 _ H5 y u (fun σ2 H6=>σ2=some y::ρ σ∧H6=H5) qm r5 ⟨rfl,rfl⟩) (fun _ s6 ⟨σ6,H6,I6,q6⟩=>?_) fun _ _ z=>z.elim
   obtain ⟨rfl,rfl⟩:=q6
   have w_:=step y _ y5
   have tests:∀{ko:TT},oD (X.dt N scope cl s3 (upd H2 D (.lst [])) fp) ifs ko→∀{R:Bool→Hp→Prop},ko (some y::ρ σ) H6 R→wpAny (model X.prog X.w) X.A
     (forIn ifs true fun c r=>if r=true then do let ok ←isTrue c (compEnvC scope cl s3.heap.objs.size X.env) (eval c (compEnvC scope cl s3.heap.objs.size X.env));pure (ForInStep.yield ok) else pure (ForInStep.yield r))
     (fun ok s7=>∃H7,Inv (X.dt N scope cl s3 (upd H2 D (.lst [])) fp) ([]++k8 fp s5.heap) (some y::ρ σ) H7 s7∧R ok H7) (fun _ _=>False) s6:=fun{ko} p {R} hR=>by
    cases p with
    | nil=>exact wpAny_tests_nil ⟨_,I6,hR⟩
    | one p=>exact wpAny_tests_one (p _ s6 _ _ _ I6 hR)
   refine cS (tests (ht s3 _ fp) w_) (fun ok s7 ⟨H7,I7,q7⟩=>?_) fun _ _ z=>z.elim
   cases ok with
   | false=>
    obtain ⟨m',d_,w7⟩:=q7
    obtain ⟨a1,a2,a3⟩:=again I7
    exact ⟨m',d_,i+1,ys,_,H7,a1,a2,a3,w7⟩
   | true=>
    refine cS (he s3 _ fp _ s7 _ H7 _ I7 q7) (fun ev s8 ⟨z,H8,I8,r8,xa,hz,m',d_,w8⟩=>?_) fun _ _ z=>z.elim
    refine cS (gf (X:=X.dt N scope cl s3 (upd H2 D (.lst [])) fp) _ s8 _ H8 (.ref D) [z] (.ref D) [ev] (fun _ H9=>H9=upd H8 D (.lst (ys++[z]))) I8 rfl (.cons r8 .nil) ⟨D,ys,z,rfl,rfl,xa,hz,rfl⟩) (fun _ s9 ⟨_,H9,I9,_,q9⟩=>?_) fun _ _ z=>z.elim
    subst q9
    obtain ⟨a1,a2,a3⟩:=again I9
    exact ⟨m',d_,i+1,ys++[z],_,_,a1,a2,a3,w8⟩
 have start:=loop (s3.toks+([]:List (Str×Value)).length)
 have es:({s3 with heap:=h₁,toks:=s3.toks+([]:List (Str×Value)).length}:Shared)={s2 with heap:=h₁,toks:=s2.toks+([]:List (Str×Value)).length}:=by rw [←kj]
 rw [es] at start
 exact BM start (T.self _ 0 _ _ _ (T.keep _ _ _ i9 fun b hb o e=>e8 _ _ (gS _ _ e)) start)
end
def dY(i:Int):Prop:=i.natAbs<2 ^ 2048
theorem dY.log{i:Int}(h:dY i):i.natAbs.log2<2048:=by
 by_cases z:i.natAbs=0;·rw [z];decide
 ·exact (Nat.log2_lt z).mpr h
theorem Cu:∀{xs:List V} {us:List Value},xs.length=us.length→(∀(i:Nat) (x:V) (u:Value),xs[i]?=some x→us[i]?=some u→RelV x u)→Vals xs us
 | [],[],_,_=>.nil
 | [],_::_,h,_=>by simp at h
 | _::_,[],h,_=>by simp at h
 | x::xs,u::us,h,k=>.cons (k 0 x u rfl rfl) (Cu (by simpa using h) fun i a b h1 h2=>k (i+1) a b (by simpa using h1) (by simpa using h2))
section
variable {X:Cx}
def Of(i j:Int):Prop:=0<j∧dY j
theorem Og:cz X (binaryOp .FloorDiv) (rI Of fun i j=>.int (i / j)):=zp fun i j _ _ _ _ _ hc q=>floordiv_int (Int.ne_of_gt hc.1) (by rw [Int.fdiv_eq_ediv_of_nonneg i (dh hc.1)];exact q) (.inl (PyProof.noPylong_of_log2 (dS hc.2.log (by decide))))
def allR(K:aJ):List V→Hp→VK→Prop:=fun xs H Q=>∃(p:Addr) (bs:List Bool),xs=[.ref p]∧a7 K H p (bs.map V.bl)∧Q (.bl (bs.all id)) H
theorem Oh{K:aJ}(hc:X.calm=true)(hK:X.K=K:=by rfl):gB X (.builtin "all") (allR K):=by
 intro pins s σ H xs us Q I r h;subst hK;obtain ⟨p,bs,rfl,hq,q⟩:=h;obtain ⟨u,rfl,ru⟩:=vals1 r;cases ru;obtain ⟨its,rv,pl,hz⟩:=I.list hq;have gg:p≠s.heap.objs.size:=by obtain ⟨o,e,_⟩:=pl.isList;exact cx (aY e)
 have hl:its.length=bs.length:=by rw [←rv.length,aH]
 refine call_all_walk (wpAny_pyIter_list pl.isList ?_);refine ⟨s.heap.objs.size,_,_,_,_,_,fun i=>bs.getD i true,rfl,Walks.list (A:=X.A.in1) (show X.A.in1.handled=none from I.ok.hd hc) s.heap.objs.size p gg its.toArray,⟨⟨_,dU _ rfl,rfl,rfl⟩,pl.isList.push _⟩,fun i v s' Q' E' hv zG=>?_,fun h' tk hk=>?_⟩
 ·have oI:its[i]?=some v:=by simpa using hv
  cases eb:bs[i]? with
  | none=>
   have:=rv.none_of (i:=i) (by rw [bo,eb];rfl)
   rw [this] at oI;cases oI
  | some b=>
   obtain ⟨u,hu,ru⟩:=rv.get (i:=i) (x:=V.bl b) (by rw [bo,eb];rfl)
   rw [hu] at oI;cases oI;cases ru;have e:bs.getD i true=b:=by rw [cG,eb];rfl
   have Gz:Q' (bs.getD i true) s':=zG;rw [e] at Gz;exact pI Gz
 ·refine ⟨.bl (bs.all id),H,I.kept fun b o e=>hk b o (fun z=>?_) (b8 _ e),?_,q⟩
  ·exact absurd (aY e) (by rw [bI.mp z];exact fE _)
  ·show Value.bool _=Value.bool _
   congr 1
   rw [b_,hl];clear hk q rv pl hz hl hq
   induction bs with
   | nil=>rfl
   | cons b bs ih=>rw [fG,List.range_succ_eq_map,List.all_cons,List.all_map,List.all_cons];show (b && (List.range bs.length).all fun i=>bs.getD i true)=(b && bs.all id);rw [ih]
def Oi:List V→Hp→VK→Prop:=fun xs H Q=>∃j:Int,xs=[.int j]∧∀p,H p=none→Q (.ref p) (upd H p (.d7 0 j))
theorem tF:gB X (.type "range") Oi:=by intro pins s σ H xs us Q I r h;obtain ⟨j,rfl,q⟩:=h;obtain ⟨u,rfl,ru⟩:=vals1 r;obtain ⟨t,rfl⟩:=ru;refine call_range_1 ⟨.ref s.heap.objs.size,_,I.laid (o:=.d7 0 j) (fun b o e=>b8 _ e) (ay _) ⟨_,_,_,dU _ rfl⟩,rfl,q _ (I.ax.fresh (ay _))⟩
def cC(n:Nat):List V:=(List.range n).map fun i:Nat=>V.int (i:Int)
def Oj:List V→Hp→VK→Prop:=fun xs H Q=>∃p n,xs=[.ref p]∧H p=some (.d7 0 (n:Nat))∧n≤10000∧∀l,H l=none→Q (.ref l) (upd H l (.lst (cC n)))
theorem tG(hc:X.calm=true):gB X (.type "list") Oj:=by
 intro pins s σ H xs us Q I r h;obtain ⟨p,n,rfl,hp,hn,q⟩:=h;obtain ⟨u,rfl,ru⟩:=vals1 r;cases ru;obtain ⟨t,u,v,e⟩:=(show bV X.prog X.w H s.heap p (.d7 0 n) from I.ax p _ hp);refine call_list_range (n:=n) (I.ok.hd hc) e (small_one (by lia) (by lia) (by lia) (by lia)) (by rw [rangeSize_one];split <;> lia) (by lia) fun h' tk acc c hk hD hit=>?_
 refine ⟨.ref s.heap.objs.size,_,I.laid (o:=.lst (cC n)) (fun b o e=>hk b o e) (ay _) ⟨?_,acc.toList,c,?_,?_⟩,rfl,q _ (I.ax.fresh (ay _))⟩
 ·unfold cC
  rw [aH,fH];exact b9 hn (by decide)
 ·refine Cu ?_ fun i x u h1 h2=>?_
  ·unfold cC
   rw [aH,fH,gs,hit.1]
  ·have GA:acc[i]?=some u:=by simpa using h2
   obtain ⟨GB,e'⟩:=hit.2 i u GA;unfold cC at h1;rw [bo] at h1;have hi:i<n:=by have z:=(Array.getElem?_eq_some_iff.mp GA).1;rw [hit.1] at z;exact z
   rw [pM hi] at h1;cases h1;exact ⟨GB,by rw [e'];simp⟩
 ·rw [hD]
end
theorem boot_all:bootBuiltins "all"=some (.builtin "all"):=by decide +kernel
theorem tH:bootBuiltins "range"=some (.type "range"):=by decide +kernel
def Cv:Expr→Bool
 | .Starred _ _=>false
 | _=>true
variable {e:Expr} {es:List Expr}
theorem Ol{env:Env}(h:Cv e=true):starEach (e::es) env=(false,eval e env)::starEach es env:=by cases e <;> first | rfl | cases h
variable {X:Cx} {te:TE}
theorem Om{t:TA}(hs:Cv e=true)(ha:PE X e te)(hr:PA X es t):PA X (e::es) (zv te t):=
 M0 ha hr (Ol hs)
theorem aj{t:TA}(ha:PE X e te)(hr:PA X es t)(hs:Cv e=true:=by rfl):PA X (e::es) (zv te t):=Om hs ha hr
variable {pos pos':Pos} {x:Str}
theorem GC{i:Nat}(hs:swapsWith e (some (.Name x pos')) pos.line X.env=pure false)(hf:X.fn x=true∨X.env.scope.names.lookup x=some .local)(hN:X.N.Nodup)(hi:X.N[i]?=some x)(hx:Loc X.env.scope x)(he:PE X e te) :
  PS X (.Assign [.Name x pos'] e pos) (oq te (aM i)):=Mu hN hi hx he hs hf
theorem putL(i:Nat)(hN:X.N.Nodup)(he:PE X e te)(hs:swapsWith e (some (.Name x pos')) pos.line X.env=pure false:=by rfl)(hi:X.N[i]?=some x:=by rfl)(hx:X.env.scope.names.lookup x=some .local:=by rfl) :
  PS X (.Assign [.Name x pos'] e pos) (oq te (aM i)):=GC hs (.inr hx) hN hi (.inl hx) he
theorem zH(i:Nat)(hN:X.N.Nodup)(he:PE X e te)(hs:swapsWith e (some (.Name x pos')) pos.line X.env=pure false:=by rfl)(hf:X.fn x=true∨X.env.scope.names.lookup x=some .local:=by first | exact .inl rfl | exact .inr rfl | assumption)(hi:X.N[i]?=some x:=by rfl)(hx:X.env.scope.names.lookup x=some .cell:=by rfl) :
  PS X (.Assign [.Name x pos'] e pos) (oq te (aM i)):=GC hs hf hN hi (.inr hx) he
end L2
namespace My
open PySem L2
theorem zI(a b:Int):decide (V.int a=V.int b)=decide (a=b):=by
 by_cases h:a=b;·subst h;simp
 ·rw [bH h];exact bH fun e=>h (V.int.inj e)
variable {K:aJ}
theorem GD{T:String}:PySem.W.kitOne K (.type T) (.type T)=some true:=by unfold PySem.W.kitOne;rw [ae (yL _)]
variable {H:Hp}
theorem aO{p:Addr}{o:HO}(h:H p=none):ak H (upd H p o):=fun b u e=>by rw [aG (gv e h)];exact e
variable {i:Int}
theorem GF{α:Type}{xs:List α}(h0:0≤i)(h1:i<xs.length):∃v,fQ xs i=some v∧v∈xs:=by
 obtain ⟨k,rfl⟩:∃k:Nat,i=(k:Int):=⟨i.toNat,by lia⟩
 have hk:k<xs.length:=by lia
 exact ⟨xs[k],lA (by simp [hk]),cy _⟩
inductive Any (H:Hp):V→Prop where
 | aN:Any H .aN
 | bl (b:Bool):Any H (.bl b)
 | int (i:Int):Any H (.int i)
 | str (x:Str):Any H (.str x)
 | lst {a:Addr} {xs:List V} (e:H a=some (.lst xs)):Any H (.ref a)
 | tup {a:Addr} {xs:List V} (e:H a=some (.tup xs)):Any H (.ref a)
 | tD {a:Addr} (e:H a=some (Cr a)):Any H (.ref a)
def tI:V→Bool
 | .int _=>true
 | _=>false
def tJ:V→Bool
 | .bl _=>true
 | _=>false
def zJ(H:Hp):V→Bool
 | .ref a=>(match H a with | some (.tup _)=>true | _=>false)
 | _=>false
theorem Any.Cq{v:V}(h:Any H v):∃T:String,wX K H v (.type T)∧PySem.W.kitOne K (.type T) (.type "int")=some (tI v || tJ v)∧PySem.W.kitOne K (.type T) (.type "bool")=some (tJ v) ∧
  PySem.W.kitOne K (.type T) (.type "tuple")=some (zJ H v):=by
 cases h with
 | aN=>exact ⟨"NoneType",.of .aN,rfl,rfl,rfl⟩
 | bl b=>exact ⟨"bool",.of (.bl b),rfl,rfl,rfl⟩
 | int i=>exact ⟨"int",.of (.int i),rfl,rfl,rfl⟩
 | str x=>exact ⟨"str",.of (.str x),rfl,rfl,rfl⟩
 | lst e=>exact ⟨"list",.of (.lst e),rfl,rfl,by unfold zJ;dsimp only;rw [e];rfl⟩
 | tup e=>exact ⟨"tuple",.of (.tup e),rfl,rfl,by unfold zJ;dsimp only;rw [e];rfl⟩
 | tD e=>exact ⟨"dict",.tD e,rfl,rfl,by unfold zJ;dsimp only;rw [e];rfl⟩
theorem Oo{v:V}(h:tJ v=true):tI v=false:=by cases v <;> first | rfl | cases h
theorem dY.of_lt(h1:-(10 ^ 70)<i)(h2:i<10 ^ 70):dY i:=by
 have h3:i.natAbs<2 ^ 240:=by lia
 exact dS h3 (Nat.pow_le_pow_right (by decide) (by decide))
def Oq:Sp:=fun vs H Q _=>∃v:V,vs=[v]∧Any H v∧Q (.bl (tI v)) H
def Ot(K:aJ):Sp:=fun vs H Q _=>∃(a:Addr) (ns:List Int),vs=[.ref a]∧a7 K H a (ns.map V.int)∧ns.length≤63∧∀H',Q (.bl true) H'
theorem Ou(xs:List V)(k:Nat):jH xs none (some (k:Int))=xs.take k:=by unfold jH;rw [HT.Nb,HT.Nc,List.drop_zero,Nat.sub_zero];rw [List.take_eq_take_iff];lia
end My
namespace L2
open PySem PySem.Spec PyProof.Rows
end L2
namespace My
open PySem L2
end My
namespace L2
open PySem PySem.Spec PyProof.Rows
section
variable {P:Program} {w:World} {K:aJ} {mg:cH} {base:Heap}
end
section
variable {X:Cx} {CX:iF} {k:Nat} {f C:Addr} {fd:FuncData} {ps:List Str} {y:Str} {sp:Sp} {E:XK} {m:Str} {pos apos FZ:Pos} {e e' o:Expr} {ta:TE} {t tk:TA}
end
end L2
namespace My
open PySem L2
end My
namespace L2
open PySem PySem.Spec PyProof.Rows
section
variable {X:Cx}
end
end L2
namespace My
open PySem L2
section
variable {C N z:Addr} {q:Int} {v u:V} {t b t' b':Int} {H:Hp} {Q:VK} {E:XK}
end
end My
namespace L2
open PySem PySem.Spec PyProof.Rows
structure lE (J:It) (xs:List V) (H1:Hp):Prop where
 go:∀i Hc,ak H1 Hc→i<xs.length→J.go i Hc
 d8:∀i Hc x H',ak H1 Hc→J.d8 i Hc x H'→H'=Hc∧(i<xs.length→xs[i]?=some x)
 stop:∀i Hc,ak H1 Hc→xs.length≤i→J.stop i Hc
variable {xs:List V} {H1:Hp}
theorem qt{K:aJ}{a:Addr}(h:a7 K H1 a xs):lE (qi K a) xs H1 where
 go:=fun i Hc s hi=>⟨xs,xs[i],s.seq h,by simp [hi]⟩
 d8:=fun i Hc x H' s y=>⟨y.1,fun _=>y.2 xs (s.seq h)⟩
 stop:=fun i Hc s hi=>⟨xs,s.seq h,hi⟩
theorem GG{lo:Int}{n:Nat}:lE (mE lo n) ((List.range n).map fun i:Nat=>V.int (lo+(i:Int))) H1 where
 go:=fun i Hc s hi=>by
  have hi:i<n:=by simpa using hi
  exact hi
 d8:=fun i Hc x H' s y=>⟨y.1,fun hi=>by
  have hi:i<n:=by simpa using hi
  rw [y.2];simp [hi]⟩
 stop:=fun i Hc s hi=>by
  have hi:n≤i:=by simpa using hi
  exact hi
variable {H:Hp} {D:Addr}
theorem eG{H':Hp}{o:HO}(s:ak H H')(n:H D=none):ak H (upd H' D o):=fun b u e=>by rw [aG (gv e n)];exact s b u e
variable {te:TE} {Q:VK}
theorem GH{J:It}{ρσ:St}(js:lE J xs H1)(nD:H1 D=none)(hn:xs.length<sizeLine)
  (P:Nat→V→Hp→Prop) (mono:∀i y H H' ys,P i y H→H D=some (.lst ys)→(∀b o,b≠D→H b=some o→H' b=some o)→P i y H')
  (step:∀i x,xs[i]?=some x→∀(Hc:Hp) (R:VK),ak H1 Hc→(∃ys,Hc D=some (.lst ys))→(∀y H3,ak Hc H3→P i y H3→R y H3)→te (some x::ρσ) Hc R)
  (fin:∀ys Hc,ak H1 Hc→ys.length=xs.length→(∀i y,ys[i]?=some y→P i y Hc)→Hc D=some (.lst ys)→Q (.ref D) Hc) :
  ∃W:Nat→Nat→List V→Hp→Prop,(∃m,W 0 m [] (upd H1 D (.lst []))) ∧
   ∀i m ys Hc,W i m ys Hc→Hc D=some (.lst ys)∧((J.stop i Hc∧Q (.ref D) Hc)∨(J.go i Hc∧∀x H',J.d8 i Hc x H'→
    if true=true then te (some x::ρσ) H' fun y H3=>H3 D=some (.lst ys)∧ys.length<sizeLine∧∃m',m'<m∧W (i+1) m' (ys++[y]) (upd H3 D (.lst (ys++[y]))) else ∃m',m'<m∧W (i+1) m' ys H')):=by
 refine ⟨fun i m ys Hc=>m=xs.length-i∧i≤xs.length∧Hc D=some (.lst ys)∧ak H1 Hc∧ys.length=i∧∀j y,ys[j]?=some y→P j y Hc,⟨_,rfl,bU _,au,eG (ak.refl H1) nD,rfl,fun j y e=>by simp at e⟩,?_⟩
 rintro i m ys Hc ⟨rfl,hi,eD,sH,el,hP⟩;refine ⟨eD,?_⟩;by_cases aZ:i<xs.length
 ·refine .inr ⟨js.go i Hc sH aZ,fun x H' hy=>?_⟩
  obtain ⟨rfl,hx⟩:=js.d8 i Hc x H' sH hy;rw [ae rfl];refine step i x (hx aZ) _ _ sH ⟨ys,eD⟩ fun y H3 s3 hp=>?_;have e3:=s3 _ _ eD;refine ⟨e3,by lia,xs.length-(i+1),by lia,rfl,aZ,au,eG (sH.trans s3) nD,by simp [el],fun j y' e=>?_⟩
  have bK:∀b o,b≠D→H3 b=some o→upd H3 D (.lst (ys++[y])) b=some o:=fun b o nb e=>by rw [aG nb];exact e
  by_cases hj:j<i
  ·have e':ys[j]?=some y':=by rw [gM (by lia)] at e;exact e
   refine mono j y' H' _ ys (hP j y' e') eD fun b o nb e=>?_;exact bK b o nb (s3 _ _ e)
  ·have hj:j=i:=by have:=(bW.mp e).1;simp at this;lia
   subst hj;have e':y'=y:=by rw [gK (by lia),el,sD] at e;simpa using e.symm
   subst e';exact mono _ _ H3 _ ys hp e3 bK
 ·have e:i=xs.length:=by lia
  subst e;exact .inl ⟨js.stop _ Hc sH (ay _),fin ys Hc sH el hP eD⟩
variable {wi:TI} {ρ:St→St} {σ:St}
theorem Ov(gm:∀R:It→Hp→Prop,(∀J H1,ak H H1→lE J xs H1→R J H1)→wi σ H R)(hn:xs.length<sizeLine)
  (P:Addr→Nat→V→Hp→Prop) (mono:∀D i y H H' ys,P D i y H→H D=some (.lst ys)→(∀b o,b≠D→H b=some o→H' b=some o)→P D i y H')
  (step:∀D i x,xs[i]?=some x→∀(Hc:Hp) (R:VK),ak H Hc→(∃ys,Hc D=some (.lst ys))→(∀y H3,ak Hc H3→P D i y H3→R y H3)→te (some x::ρ σ) Hc R)
  (fin:∀D ys Hc,ak H Hc→ys.length=xs.length→(∀i y,ys[i]?=some y→P D i y Hc)→Hc D=some (.lst ys)→Q (.ref D) Hc):gh wi ρ (fun _ H Q=>Q true H) te σ H Q:=by
 refine gm _ fun J H1 s1 js=>?_;intro D nD;exact GH (ρσ:=ρ σ) (te:=te) (Q:=Q) js nD hn (P D) (mono D) (fun i x hx Hc R sc=>step D i x hx Hc R (s1.trans sc)) (fun ys Hc sc=>fin D ys Hc (s1.trans sc))
theorem mP{g:TG}{D:Ends}(h:te σ H fun x H1=>g x σ H1 D.nx):oq te g D σ H:=h
theorem bg{a b:TS}{D:Ends}(h:a {D with nx:=fun σ H=>b D σ H} σ H):BX a b D σ H:=h
section
variable {X:Cx} {N:List Str} {scope:Scope} {cl:List (Str×Addr)} {x:Str} {px pos:Pos} {iter elt:Expr} {ifs:List Expr} {wi:TI} {ρ:St→St} {tt:TT} {te:TE}
theorem zK{y:Str}{py xb:Pos}{i0:Nat}(B:Cs X N scope cl x ρ)(hc:X.calm=true)(hN:X.N.Nodup)(Cw:X.N[i0]?=some y)(hy:Loc X.env.scope y)(hi:PI X (.Name x px) iter wi)(ht:∀s₃ H₃ fp,oD (X.dt N scope cl s₃ H₃ fp) ifs tt)(he:∀s₃ H₃ fp,PE (X.dt N scope cl s₃ H₃ fp) elt te)
  (Cy:swapsWith (.ListComp elt [⟨.Name x px,iter,ifs,0⟩] scope pos) (some (.Name y py)) xb.line X.env=pure true:=by rfl) (hf:X.fn y=true∨X.env.scope.names.lookup y=some .local:=by first | exact .inl rfl | exact .inr rfl | assumption)
  (hs:∀x,foldedSetIterable iter X.env x=pure x:=by intro _;rfl):PS X (.Assign [.Name y py] (.ListComp elt [⟨.Name x px,iter,ifs,0⟩] scope pos) xb) (oq (gh wi ρ tt te) (aM i0)):=by
 intro pins s σ H D0 I h
 have h:gh wi ρ tt te σ H (fun v H1=>D0.nx (σ.set i0 (some v)) H1):=h
 rw [exec_Assign_Name_used _ _ _ _ Cy]
 refine aC (vM (aC ?_))
 show wpAny _ X.A (do let _ ←comprehension (.ListComp elt [⟨.Name x px,iter,ifs,0⟩] scope pos) scope X.env _ (newList []) false (eval iter X.env) (some (assign (.Name y py) X.env))) _ _ s
 refine aC (cS (Q:=fun _ s'=>SP X pins D0 .next s') ?_ (fun _ s' hq=>ba (ba hq)) fun _ _ e=>e)
 refine BK (use:=some (assign (.Name y py) X.env)) rfl hs B.zE B.kind B.names (aK (hi pins s σ H _ I h) fun v s1 h1=>aK h1 fun wK s2 h2=>?_)
 obtain ⟨it,fp,tn,J,H2,rfl,I2,T,i9,f2,q2⟩:=h2
 have nD:H2 s2.heap.objs.size=none:=I2.ax.fresh (ay _)
 obtain ⟨W,⟨m0,w0⟩,turn⟩:=q2 _ nD
 refine sC (wpAny_newFunctionEnv B.Gw (by intro y hy;simp at hy) (fun h₁ ki mO=>?_) B.kind)
 dsimp only at ki mO ⊢
 generalize hD:s2.heap.objs.size=D at nD w0 turn ki mO ⊢
 generalize kj:({s2 with heap:=s2.heap.push {cls:=.type "list",dict:=none,data:=.seq ([]:List Value).toArray}}:Shared)=s3
 have I3:Inv X pins σ (upd H2 D (.lst [])) s3:=by
  subst hD kj
  exact I2.laid (t':=s2.toks) (fun b u e=>b8 _ e) (ay _) ⟨bU _,[],_,.nil,dU _ rfl⟩
 have e3:s3.heap=s2.heap.push {cls:=.type "list",dict:=none,data:=.seq ([]:List Value).toArray}:=by rw [←kj]
 have gS:∀b o,s2.heap.get? b=some o→s3.heap.get? b=some o:=fun b o e=>by rw [e3];exact b8 _ e
 rw [←e3] at ki mO ⊢
 have below:∀b o,s3.heap.get? b=some o→b≠s3.heap.objs.size:=fun b o e=>cx (aY e)
 have e8:∀b o,s3.heap.get? b=some o→h₁.get? b=some o:=fun b o e=>mO.extBut b o (below b o e) (b8 _ e)
 have jJ:∀b∈fp,∃o,s2.heap.get? b=some o∧∀v,o.data≠.cell v:=T.obj _ _ i9
 have wY:∀b∈fp,b≠D:=fun b hb z=>by
  obtain ⟨o,e,_⟩:=jJ b hb
  rw [z,←hD] at e
  exact absurd (aY e) (fE _)
 have dX:∀y c,cl.lookup y=some c→X.env.cells.lookup y=some c:=fun y c e=>B.sub (y,c) (kM e)
 have wZ:=I3.wx
 have je:(X.dt N scope cl s3 (upd H2 D (.lst [])) fp).Ok:=by
  refine ⟨I.ok.mod,B.kind,I.ok.glob,I.ok.blt,ay _,fun a b c e1 e2=>I.ok.inj a b c (dX a c e1) (dX b c e2),fun y hy=>B.has y hy,(fun _ _ z _=>absurd z dg),(fun _=>I.ok.hd hc),I.ok.frames,.inl rfl,fun b hb=>⟨?_,fun y c e z=>?_⟩,fun b o e=>?_,b9 I.ok.i8 I3.sz,fun b o e hb=>?_,fun b hb z=>?_,I3.stack,wZ⟩
  ·obtain ⟨o,e,_⟩:=jJ b hb
   exact below b o (gS b o e)
  ·exact (f2 b hb).2.2.2.2.1 y c (dX y c e) z
  ·exact I3.bs b o e
  ·rcases (f2 b hb).2.2.2.1 with z | z
   ·exact I.ok.qa b o e z
   ·exact absurd (dS (aY e) (b9 I.ok.i8 z)) (fE _)
  ·rcases bO.mp (I3.wu b z) with z | z
   ·exact (f2 b hb).2.1 z
   ·exact (f2 b hb).2.2.1 z
 have IB:∀tk:Nat,Inv (X.dt N scope cl s3 (upd H2 D (.lst [])) fp) [] (none::ρ σ) (upd H2 D (.lst [])) {s3 with heap:=h₁,toks:=tk}:=fun tk=>by
  refine ⟨je,rfl,I3.bare,Un.kept e8,⟨_,ki,fun j y v e1 e2 e3=>?_⟩,fun y c e=>?_,?_,fun y c e=>I3.jF y c (dX y c e),(fun p hp=>nomatch hp),I3.ax.kept e8,?_⟩
  ·cases j with
   | zero=>cases e2
   | succ j=>
    obtain ⟨i,y',a1,a2,a3,a4,a5,a6⟩:=B.zF σ j v e2
    have oE:N[j+1]?=some y:=e1
    rw [oE] at a1
    cases a1
    obtain ⟨m,hn,hl⟩:=I3.loc
    obtain ⟨u,r,l⟩:=hl i y v a2 a3 a4
    refine ⟨u,r,.inr ⟨a6,?_⟩⟩
    obtain ⟨c,ec⟩:=B.has y a6
    rcases l with ⟨k,_⟩ | ⟨_,c',oF,z⟩
    ·rcases a5 with q | q <;> (rw [k] at q;cases q)
    ·have:=dX y c ec
     rw [this] at oF
     cases oF
     obtain ⟨o,ho,hd⟩:=z
     exact ⟨c,ec,o,e8 _ _ ho,hd⟩
  ·obtain ⟨v,o,ho,hd⟩:=I3.cell y c (dX y c e)
   exact ⟨v,o,e8 _ _ ho,hd⟩
  ·exact I3.ax.fresh (ay _)
  ·show (none::ρ σ).length=N.length
   rw [fG]
   exact B.len σ I.len
 have qu:∀b o,s3.heap.get? b=some o→b≠s3.heap.objs.size:=below
 have fin:∀{σ':St} {H':Hp} {s':Shared},Inv (X.dt N scope cl s3 (upd H2 D (.lst [])) fp) [] σ' H' s'→D0.nx (σ.set i0 (some (.ref D))) H'→compPost (model X.prog X.w) X.A X.xe (some (assign (.Name y py) X.env)) (fun _ s'=>SP X pins D0 .next s') (.ref D) s3.heap.objs.size (.ok .next) s':=fun{σ' H' s'} J q=>by
  obtain ⟨m,hn,_⟩:=J.loc
  have hn:s'.heap.Ns s3.heap.objs.size m:=hn
  have JC:H' s3.heap.objs.size=none:=J.free
  have u1:Un (cK X.stack) fp (upd H2 D (.lst [])) H' s3.heap s'.heap:=by
   refine ⟨fun b o e n hb hx=>J.base.keep b o e n hb hx,fun b o e n hb hx=>J.base.slot b o e n hb hx,J.base.free,fun b o e hx=>J.base.there b o e hx,J.base.f9,J.base.gw,J.base.gx⟩
  have IX:Inv X pins σ H' s':=I3.qd (ch:=fp) (J.os) u1 J.ax J.bare fun b hb=>by
   obtain ⟨g0,g1,g2,g3,g4,g5⟩:=f2 b hb
   exact ⟨g3,g1,g4,g5⟩
  have nl:X.env.locals≠s3.heap.objs.size:=by
   obtain ⟨m3,⟨o3,_,_,e3,_⟩,_⟩:=I3.loc
   exact qu _ _ e3
  have nc:∀z c,X.env.cells.lookup z=some c→c≠s3.heap.objs.size:=fun z c e=>by
   obtain ⟨v3,o3,e3,_⟩:=I3.cell z c e
   exact qu _ _ e3
  refine wpAny_assign_Name (BU (v:=.ref D) IX hN Cw hy rfl (fun ja qv lF=>?_) hf)
  obtain ⟨a,lF,ha⟩:=lF
  have na:s3.heap.objs.size≠a:=by
   rcases ha with rfl | e
   ·exact fun z=>nl z.symm
   ·exact fun z=>nc _ _ e z.symm
  refine ⟨m,hn.sameBut lF na,fun h' iI=>⟨σ.set i0 (some (.ref D)),H',?_,q⟩⟩
  have u2:Un (cK X.stack) [s3.heap.objs.size] H' H' ja.heap h':=by
   refine ⟨fun b o e n hb hx=>(iI.2 b (by simpa using hx)).trans e,fun b o e n hb hx=>⟨o.slots,(iI.2 b (by simpa using hx)).trans e⟩,fun b o e n hx=>n,fun b o e hx=>⟨o,(iI.2 b (by simpa using hx)).trans e⟩,fun b xs z=>z,fun b o u z=>z,fun b ps z=>⟨#[],by simpa using z⟩⟩
  have w5:cq X.prog X.w H' h':=fun b u e=>by
   refine (qv.ax b u e).i6 (fun c v hc z=>(iI.2 c fun y=>?_).trans z) (fun _ z=>z) fun _ _ z=>z
   have y':c=s3.heap.objs.size:=y
   rcases hc with hc | hc
   ·rw [←hc,y',JC] at e
    cases e
   ·rw [y',JC] at hc
    cases hc
  refine qv.qd (s':={ja with heap:=h'}) (ch:=[s3.heap.objs.size]) rfl u2 w5 qv.bare fun b hb=>?_
  have eb:b=s3.heap.objs.size:=by simpa using hb
  subst eb
  refine ⟨.inr I3.sz,fun z=>nl z.symm,fun z c e=>nc z c e,fun p hp=>?_⟩
  exact qu _ _ (I3.pin p hp).1
 have gN:∀{H':Hp},(∀b∈fp,H' b=none)→∀b∈fp,mD (X.dt N scope cl s3 (upd H2 D (.lst [])) fp) [] H' b:=fun hn b hb=>by
  refine ⟨hn b hb,?_,?_,.inl hb,fun y c e z=>(f2 b hb).2.2.2.2.1 y c (dX y c e) z,fun p hp=>nomatch hp⟩
  ·obtain ⟨o,e,_⟩:=jJ b hb
   exact below b o (gS b o e)
  ·exact je.qb b hb
 have loop:∀tk:Nat,codeAny (model X.prog X.w) X.A (.compLoop (.ListComp elt [⟨.Name x px,iter,ifs,0⟩] scope pos) 0 (.ref it) (.ref D) (compEnvC scope cl s3.heap.objs.size X.env))
   (compPost (model X.prog X.w) X.A X.xe (some (assign (.Name y py) X.env)) (fun _ s'=>SP X pins D0 .next s') (.ref D) s3.heap.objs.size) {s3 with heap:=h₁,toks:=tk}:=fun tk=>by
  refine BL (fun n s'=>∃i ys o H',Inv (X.dt N scope cl s3 (upd H2 D (.lst [])) fp) [] (o::ρ σ) H' s'∧tn i s'.heap∧(∀b∈fp,H' b=none)∧W i n ys H') ?_ m0
   ⟨0,[],none,_,IB tk,T.keep _ _ _ i9 fun b hb o e=>e8 _ _ (gS _ _ e),fun b hb=>by rw [aG (wY b hb)];exact (f2 b hb).1,w0⟩
  rintro n s4 ⟨i,ys,o,H4,I4,oG,oH,w4⟩
  obtain ⟨Gy,w6⟩:=turn i n ys H4 w4
  rcases w6 with ⟨stop,qn⟩ | ⟨go,step⟩
  ·refine cS (T.done (X.dt N scope cl s3 (upd H2 D (.lst [])) fp) rfl rfl rfl hc i [] s4 _ H4 (fun _ _=>False) I4 (gN oH) oG stop) (fun r s5 ⟨hr,I5⟩=>?_) fun _ _ z=>z.elim
   subst hr
   exact fin I5 qn
  ·refine cS (T.item (X.dt N scope cl s3 (upd H2 D (.lst [])) fp) rfl rfl rfl hc i [] s4 _ H4 (fun _ _=>False) I4 (gN oH) oG go) (fun r s5 ⟨u,hr,h5⟩=>?_) fun _ _ z=>z.elim
   subst hr
   have z:letOwnedTupleGo (.Name x px) (.ref it) u=pure ():=rfl
   rw [z] at h5
   show wpAny _ _ ((pure ():Sem Unit) >>= fun _=>assign (.Name x px) (compEnvC scope cl s3.heap.objs.size X.env) u) _ _ s5
   refine aC (cS h5 (fun _ s5 ⟨y,H5,I5,r5,y5,gO,ql⟩=>?_) fun _ _ z=>z.elim)
   have qm:=I5.pinned (gN ql) (T.obj _ _ gO)
   have pg:PG (X.dt N scope cl s3 (upd H2 D (.lst [])) fp) (.Name x px) (aM 0):=cM (i:=0) B.nd B.n0 (.inl (yK B.hx)) (.inr (yK B.hx))
   have again:∀{σ7:St} {H7:Hp} {s7:Shared},Inv (X.dt N scope cl s3 (upd H2 D (.lst [])) fp) ([]++k8 fp s5.heap) σ7 H7 s7→Inv (X.dt N scope cl s3 (upd H2 D (.lst [])) fp) [] σ7 H7 s7∧tn (i+1) s7.heap∧∀b∈fp,H7 b=none:=fun{σ7 H7 s7} I7=>by
    refine ⟨I7.sX,T.keep _ _ _ gO fun b hb o e=>(I7.pin (b,o) (eQ _ (eQ _ (ot hb e)))).1,fun b hb=>?_⟩
    obtain ⟨o,e,d⟩:=T.obj _ _ gO b hb
    exact (I7.pin (b,o) (eQ _ (eQ _ (ot hb e)))).2.1
   refine cS (pg _ s5 _ H5 y u (fun σ2 H6=>σ2=some y::ρ σ∧H6=H5) qm r5 ⟨rfl,rfl⟩) (fun _ s6 ⟨σ6,H6,I6,q6⟩=>?_) fun _ _ z=>z.elim
   obtain ⟨rfl,rfl⟩:=q6
   have w_:=step y _ y5
   have tests:∀{ko:TT},oD (X.dt N scope cl s3 (upd H2 D (.lst [])) fp) ifs ko→∀{R:Bool→Hp→Prop},ko (some y::ρ σ) H6 R→wpAny (model X.prog X.w) X.A
     (forIn ifs true fun c r=>if r=true then do let ok ←isTrue c (compEnvC scope cl s3.heap.objs.size X.env) (eval c (compEnvC scope cl s3.heap.objs.size X.env));pure (ForInStep.yield ok) else pure (ForInStep.yield r))
     (fun ok s7=>∃H7,Inv (X.dt N scope cl s3 (upd H2 D (.lst [])) fp) ([]++k8 fp s5.heap) (some y::ρ σ) H7 s7∧R ok H7) (fun _ _=>False) s6:=fun{ko} p {R} hR=>by
    cases p with
    | nil=>exact wpAny_tests_nil ⟨_,I6,hR⟩
    | one p=>exact wpAny_tests_one (p _ s6 _ _ _ I6 hR)
   refine cS (tests (ht s3 _ fp) w_) (fun ok s7 ⟨H7,I7,q7⟩=>?_) fun _ _ z=>z.elim
   cases ok with
   | false=>
    obtain ⟨m',d_,w7⟩:=q7
    obtain ⟨a1,a2,a3⟩:=again I7
    exact ⟨m',d_,i+1,ys,_,H7,a1,a2,a3,w7⟩
   | true=>
    refine cS (he s3 _ fp _ s7 _ H7 _ I7 q7) (fun ev s8 ⟨z,H8,I8,r8,xa,hz,m',d_,w8⟩=>?_) fun _ _ z=>z.elim
    refine cS (gf (X:=X.dt N scope cl s3 (upd H2 D (.lst [])) fp) _ s8 _ H8 (.ref D) [z] (.ref D) [ev] (fun _ H9=>H9=upd H8 D (.lst (ys++[z]))) I8 rfl (.cons r8 .nil) ⟨D,ys,z,rfl,rfl,xa,hz,rfl⟩) (fun _ s9 ⟨_,H9,I9,_,q9⟩=>?_) fun _ _ z=>z.elim
    subst q9
    obtain ⟨a1,a2,a3⟩:=again I9
    exact ⟨m',d_,i+1,ys++[z],_,_,a1,a2,a3,w8⟩
 have start:=loop (s3.toks+([]:List (Str×Value)).length)
 have es:({s3 with heap:=h₁,toks:=s3.toks+([]:List (Str×Value)).length}:Shared)={s2 with heap:=h₁,toks:=s2.toks+([]:List (Str×Value)).length}:=by rw [←kj]
 rw [es] at start
 exact BM start (T.self _ 0 _ _ _ (T.keep _ _ _ i9 fun b hb o e=>e8 _ _ (gS _ _ e)) start)
end
section
variable {X:Cx}
end
section
variable {prog:Program} {w:World} {A:Around} {R:Result→Shared→Prop} {s:Shared}
end
section
variable {X:Cx} {N:List Str} {scope:Scope} {cl:List (Str×Addr)} {x y:Str} {px py pos tp:Pos} {Ow:Nat} {iter elt:Expr} {ifs:List Expr} {wi:TI} {ρ:St→St} {tt:TT} {te:TE}
end
section
variable {X:Cx}
end
abbrev Cx.gT (X:Cx) (N:List Str) (scope:Scope) (cl:List (Str×Addr)) (x:Str) (s₃:Shared) (H₃:Hp) (fp:List Addr):Cx:=
 {X with N:=N,s₀:=s₃,H₀:=H₃,env:=compEnvC scope ((x,s₃.heap.objs.size+1)::cl) s₃.heap.objs.size X.env,outer:=X.stack,stack:=X.stack,ex:=fp,fn:=fun y=>y == x,pn:=[],xe:=fun _ _=>False}
section
variable {M:Model} {A:Around} {E:aR} {s:Shared}
theorem Ox{scope:Scope}{globals:Addr}{cl:List (Str×Addr)}{qual x:Str}{env:Env}{Q:Env→Shared→Prop}
  (c1:∀n,cellsFrom n scope.names cl=(x,n)::cl) (p1:∀h:Heap,pushCells h scope.names=h.push {cls:=.type "cell",data:=.cell none})
  (hQ:Q (newEnv scope s.heap.objs.size globals ((x,s.heap.objs.size+1)::cl) qual none .none (some env) builtinsNs) {s with heap:=(s.heap.push {cls:=.type "dict",data:=.dict #[]}).push {cls:=.type "cell",data:=.cell none}}) :
  wpAny M A (newFunctionEnv scope globals cl [] qual none .none (some env)) Q E s:=by
 simp only [newFunctionEnv,Option.isSome_some,if_true];refine aC (wpAny_alloc ?_);refine aC (wpAny_layCells _ (fun name kind cells=>by cases Oy:kind == NameKind.cell <;> simp [Oy]) _ _ _ _ ?_)
 rw [show ({s with heap:=s.heap.push {cls:=.type "dict",data:=.dict #[]}}:Shared).heap.objs.size=s.heap.objs.size+1 from Heap.size_push ..,c1,p1];exact aC (ba (ba hQ))
end
section
variable {X:Cx} {N:List Str} {scope:Scope} {cl:List (Str×Addr)} {x:Str} {px pos:Pos} {iter elt:Expr} {ifs:List Expr} {wi:TI} {ρ:St→St} {tt:TT} {te:TE}
theorem Oz{names:List (Str×NameKind)}(h:(names.all fun q=>(q.2 != .cell && q.2 != .free) || ((cl.lookup q.1).isSome || q.1 == x))=true) :
  ∀y,y≠x→(names.lookup y=some .cell∨names.lookup y=some .free)→∃c,cl.lookup y=some c:=fun y hx hy=>by
 have key:∀k:NameKind,(k != .cell && k != .free)=false→names.lookup y=some k→∃c,cl.lookup y=some c:=fun k hk e=>by have z:=nY.mp h (y,k) (kM e);rw [hk,Bool.false_or,show ((y,k).1 == x)=false from si.mpr hx,Bool.or_false] at z;exact BH.mp z
 rcases hy with e | e;·exact key .cell rfl e
 ·exact key .free rfl e
structure OA (X:Cx) (N:List Str) (scope:Scope) (cl:List (Str×Addr)) (x:Str) (ρ:St→St):Prop where
 zE:closureFor scope X.env=pure cl
 kind:scope.kind=.function
 OB:∀n,cellsFrom n scope.names cl=(x,n)::cl
 OC:∀h:Heap,pushCells h scope.names=h.push {cls:=.type "cell",data:=.cell none}
 names:∀y∈scope.names,y.2=.local→scope.names.lookup y.1=some .local
 sub:∀p∈cl,X.env.cells.lookup p.1=some p.2
 has:∀y,y≠x→((relabel scope X.env).names.lookup y=some .cell∨(relabel scope X.env).names.lookup y=some .free)→∃c,cl.lookup y=some c
 n0:N[0]?=some x
 nd:N.Nodup
 OD:(relabel scope X.env).names.lookup x=some .cell
 zF:∀(σ:St) (j:Nat) (v:V),(ρ σ)[j]?=some (some v)→∃(i:Nat) (y:Str),N[j+1]?=some y∧X.N[i]?=some y∧σ[i]?=some (some v)∧p9 X.env.scope y∧(X.env.kindOf y=some .cell∨X.env.kindOf y=some .free)∧((relabel scope X.env).names.lookup y=some .cell∨(relabel scope X.env).names.lookup y=some .free)
 len:∀σ:St,σ.length=X.N.length→(ρ σ).length+1=N.length
end
theorem zL{v:V}(h:jc v=true):d9 v v=true:=by
 cases v with
 | aN=>rfl
 | bl b=>show (b == b)=true;simp
 | int i=>show (i == i)=true;simp
 | str x=>show (x == x)=true;simp
 | _=>cases h
theorem all_range(n:Nat):(List.range n).all (fun _=>true)=true:=by simp
section
variable {X:Cx} {pins:aQ} {σ:St} {H:Hp} {s:Shared}
end
section
variable {X:Cx}
end
section
variable {X:Cx} {N:List Str} {scope:Scope} {cl:List (Str×Addr)} {x:Str} {px pos:Pos} {iter elt:Expr} {ifs:List Expr} {wi:TI} {ρ:St→St} {tt:TT} {te:TE}
theorem OE{y:Str}{py xb:Pos}{i0:Nat}(B:OA X N scope cl x ρ)(hc:X.calm=true)(hN:X.N.Nodup)(Cw:X.N[i0]?=some y)(hy:Loc X.env.scope y)(hi:PI X (.Name x px) iter wi)(ht:∀s₃ H₃ fp,oD (X.gT N scope cl x s₃ H₃ fp) ifs tt)(he:∀s₃ H₃ fp,PE (X.gT N scope cl x s₃ H₃ fp) elt te)
  (Cy:swapsWith (.ListComp elt [⟨.Name x px,iter,ifs,0⟩] scope pos) (some (.Name y py)) xb.line X.env=pure true:=by rfl) (hf:X.fn y=true∨X.env.scope.names.lookup y=some .local:=by first | exact .inl rfl | exact .inr rfl | assumption)
  (hs:∀x,foldedSetIterable iter X.env x=pure x:=by intro _;rfl):PS X (.Assign [.Name y py] (.ListComp elt [⟨.Name x px,iter,ifs,0⟩] scope pos) xb) (oq (gh wi ρ tt te) (aM i0)):=by
 intro pins s σ H D0 I h
 have h:gh wi ρ tt te σ H (fun v H1=>D0.nx (σ.set i0 (some v)) H1):=h
 rw [exec_Assign_Name_used _ _ _ _ Cy]
 refine aC (vM (aC ?_))
 show wpAny _ X.A (do let _ ←comprehension (.ListComp elt [⟨.Name x px,iter,ifs,0⟩] scope pos) scope X.env _ (newList []) false (eval iter X.env) (some (assign (.Name y py) X.env))) _ _ s
 refine aC (cS (Q:=fun _ s'=>SP X pins D0 .next s') ?_ (fun _ s' hq=>ba (ba hq)) fun _ _ e=>e)
 refine BK (use:=some (assign (.Name y py) X.env)) rfl hs B.zE B.kind B.names (aK (hi pins s σ H _ I h) fun v s1 h1=>aK h1 fun wK s2 h2=>?_)
 obtain ⟨it,fp,tn,J,H2,rfl,I2,T,i9,f2,q2⟩:=h2
 have nD:H2 s2.heap.objs.size=none:=I2.ax.fresh (ay _)
 obtain ⟨W,⟨m0,w0⟩,turn⟩:=q2 _ nD
 refine sC (Ox B.OB B.OC ?_)
 dsimp only
 generalize hD:s2.heap.objs.size=D at nD w0 turn ⊢
 generalize kj:({s2 with heap:=s2.heap.push {cls:=.type "list",dict:=none,data:=.seq ([]:List Value).toArray}}:Shared)=s3
 have I3:Inv X pins σ (upd H2 D (.lst [])) s3:=by
  subst hD kj
  exact I2.laid (t':=s2.toks) (fun b u e=>b8 _ e) (ay _) ⟨bU _,[],_,.nil,dU _ rfl⟩
 have e3:s3.heap=s2.heap.push {cls:=.type "list",dict:=none,data:=.seq ([]:List Value).toArray}:=by rw [←kj]
 have gS:∀b o,s2.heap.get? b=some o→s3.heap.get? b=some o:=fun b o e=>by rw [e3];exact b8 _ e
 rw [←e3]
 obtain ⟨h₁,eh⟩:∃h₁,h₁=(s3.heap.push {cls:=.type "dict",data:=.dict #[]}).push {cls:=.type "cell",data:=.cell none}:=⟨_,rfl⟩
 rw [←eh]
 have ki:h₁.Ns s3.heap.objs.size (fun _=>none):=by
  rw [eh]
  exact (Heap.Ns.new s3.heap (.type "dict")).keeps fun b o e=>b8 _ e
 have OF:(s3.heap.push {cls:=.type "dict",data:=.dict #[]}).objs.size=s3.heap.objs.size+1:=Heap.size_push ..
 have OG:h₁.IsCell (s3.heap.objs.size+1) none:=by
  rw [eh,←OF]
  exact ⟨_,dU _ rfl,rfl⟩
 have below:∀b o,s3.heap.get? b=some o→b≠s3.heap.objs.size:=fun b o e=>cx (aY e)
 have e8:∀b o,s3.heap.get? b=some o→h₁.get? b=some o:=fun b o e=>by rw [eh];exact b8 _ (b8 _ e)
 have jJ:∀b∈fp,∃o,s2.heap.get? b=some o∧∀v,o.data≠.cell v:=T.obj _ _ i9
 have wY:∀b∈fp,b≠D:=fun b hb z=>by
  obtain ⟨o,e,_⟩:=jJ b hb
  rw [z,←hD] at e
  exact absurd (aY e) (fE _)
 have dX:∀y c,cl.lookup y=some c→X.env.cells.lookup y=some c:=fun y c e=>B.sub (y,c) (kM e)
 have GI:∀y c,cl.lookup y=some c→c<s3.heap.objs.size:=fun y c e=>by
  obtain ⟨v,o,eo,_⟩:=I3.cell y c (dX y c e)
  exact aY eo
 have lk:∀y c,((x,s3.heap.objs.size+1)::cl).lookup y=some c→(y=x∧c=s3.heap.objs.size+1)∨(y≠x∧cl.lookup y=some c):=fun y c e=>by
  by_cases z:y=x
  ·subst z
   rw [pO,yL] at e
   exact .inl ⟨rfl,(Option.some.inj e).symm⟩
  ·rw [pO,si.mpr z] at e
   exact .inr ⟨z,e⟩
 have zM:∀y c,y≠x→cl.lookup y=some c→((x,s3.heap.objs.size+1)::cl).lookup y=some c:=fun y c z e=>by
  rw [pO,si.mpr z]
  exact e
 have GJ:∀b∈fp,b<s3.heap.objs.size:=fun b hb=>by
  obtain ⟨o,e,_⟩:=jJ b hb
  exact aY (gS b o e)
 have wZ:=I3.wx
 have je:(X.gT N scope cl x s3 (upd H2 D (.lst [])) fp).Ok:=by
  refine ⟨I.ok.mod,B.kind,I.ok.glob,I.ok.blt,ay _,fun a b c e1 e2=>?inj,fun y hy=>?has,(fun y c z e=>?p_),(fun _=>I.ok.hd hc),I.ok.frames,.inl rfl,fun b hb=>⟨?_,fun y c e z=>?_⟩,fun b o e=>?_,b9 I.ok.i8 I3.sz,fun b o e hb=>?_,fun b hb z=>?_,I3.stack,wZ⟩
  case inj=>
   rcases lk a c e1 with ⟨z1,OH⟩ | ⟨_,f1⟩ <;> rcases lk b _ e2 with ⟨z2,ec⟩ | ⟨_,GK⟩
   ·rw [z1,z2]
   ·have:=GI _ _ GK
    rw [OH] at this
    exact absurd this (Nat.not_lt.mpr (jD _))
   ·have:=GI _ _ f1
    rw [ec] at this
    exact absurd this (Nat.not_lt.mpr (jD _))
   ·exact I.ok.inj a b c (dX a c f1) (dX b c GK)
  case has=>
   by_cases z:y=x
   ·subst z
    exact ⟨_,by rw [show (compEnvC scope ((y,s3.heap.objs.size+1)::cl) s3.heap.objs.size X.env).cells=(y,s3.heap.objs.size+1)::cl from rfl,pO,yL]⟩
   ·obtain ⟨c,ec⟩:=B.has y z hy
    exact ⟨c,zM y c z ec⟩
  case p_=>
   have z:y=x:=by simpa using z
   rcases lk y c e with ⟨_,rfl⟩ | ⟨z',_⟩
   ·exact jD _
   ·exact absurd z z'
  ·obtain ⟨o,e,_⟩:=jJ b hb
   exact below b o (gS b o e)
  ·rcases lk y c e with ⟨rfl,rfl⟩ | ⟨_,e⟩
   ·rw [←z] at hb
    exact absurd (GJ _ hb) (Nat.not_lt.mpr (jD _))
   ·exact (f2 b hb).2.2.2.2.1 y c (dX y c e) z
  ·exact I3.bs b o e
  ·rcases (f2 b hb).2.2.2.1 with z | z
   ·exact I.ok.qa b o e z
   ·exact absurd (dS (aY e) (b9 I.ok.i8 z)) (fE _)
  ·rcases bO.mp (I3.wu b z) with z | z
   ·exact (f2 b hb).2.1 z
   ·exact (f2 b hb).2.2.1 z
 have IB:∀tk:Nat,Inv (X.gT N scope cl x s3 (upd H2 D (.lst [])) fp) [] (none::ρ σ) (upd H2 D (.lst [])) {s3 with heap:=h₁,toks:=tk}:=fun tk=>by
  refine ⟨je,rfl,I3.bare,Un.kept e8,⟨_,ki,fun j y v e1 e2 e3=>?_⟩,fun y c e=>?_,?_,fun y c e=>?fC,(fun p hp=>nomatch hp),I3.ax.kept e8,?_⟩
  ·cases j with
   | zero=>cases e2
   | succ j=>
    obtain ⟨i,y',a1,a2,a3,a4,a5,a6⟩:=B.zF σ j v e2
    have oE:N[j+1]?=some y:=e1
    rw [oE] at a1
    cases a1
    obtain ⟨m,hn,hl⟩:=I3.loc
    obtain ⟨u,r,l⟩:=hl i y v a2 a3 a4
    refine ⟨u,r,.inr ⟨a6,?_⟩⟩
    have yx:y≠x:=fun z=>by
     have n0:=B.n0
     rw [←z] at n0
     have:=(List.getElem?_inj (bW.mp n0).1 B.nd).mp (n0.trans oE.symm)
     lia
    obtain ⟨c,ec⟩:=B.has y yx a6
    rcases l with ⟨k,_⟩ | ⟨_,c',oF,z⟩
    ·rcases a5 with q | q <;> (rw [k] at q;cases q)
    ·have:=dX y c ec
     rw [this] at oF
     cases oF
     obtain ⟨o,ho,hd⟩:=z
     exact ⟨c,zM y c yx ec,o,e8 _ _ ho,hd⟩
  case fC=>
   rcases lk y c e with ⟨rfl,rfl⟩ | ⟨_,e⟩
   ·exact I3.ax.fresh (jD _)
   ·exact I3.jF y c (dX y c e)
  ·rcases lk y c e with ⟨rfl,rfl⟩ | ⟨_,e⟩
   ·exact ⟨none,OG⟩
   ·obtain ⟨v,o,ho,hd⟩:=I3.cell y c (dX y c e)
    exact ⟨v,o,e8 _ _ ho,hd⟩
  ·exact I3.ax.fresh (ay _)
  ·show (none::ρ σ).length=N.length
   rw [fG]
   exact B.len σ I.len
 have qu:∀b o,s3.heap.get? b=some o→b≠s3.heap.objs.size:=below
 have fin:∀{σ':St} {H':Hp} {s':Shared},Inv (X.gT N scope cl x s3 (upd H2 D (.lst [])) fp) [] σ' H' s'→D0.nx (σ.set i0 (some (.ref D))) H'→compPost (model X.prog X.w) X.A X.xe (some (assign (.Name y py) X.env)) (fun _ s'=>SP X pins D0 .next s') (.ref D) s3.heap.objs.size (.ok .next) s':=fun{σ' H' s'} J q=>by
  obtain ⟨m,hn,_⟩:=J.loc
  have hn:s'.heap.Ns s3.heap.objs.size m:=hn
  have JC:H' s3.heap.objs.size=none:=J.free
  have u1:Un (cK X.stack) fp (upd H2 D (.lst [])) H' s3.heap s'.heap:=by
   refine ⟨fun b o e n hb hx=>J.base.keep b o e n hb hx,fun b o e n hb hx=>J.base.slot b o e n hb hx,J.base.free,fun b o e hx=>J.base.there b o e hx,J.base.f9,J.base.gw,J.base.gx⟩
  have IX:Inv X pins σ H' s':=I3.qd (ch:=fp) (J.os) u1 J.ax J.bare fun b hb=>by
   obtain ⟨g0,g1,g2,g3,g4,g5⟩:=f2 b hb
   exact ⟨g3,g1,g4,g5⟩
  have nl:X.env.locals≠s3.heap.objs.size:=by
   obtain ⟨m3,⟨o3,_,_,e3,_⟩,_⟩:=I3.loc
   exact qu _ _ e3
  have nc:∀z c,X.env.cells.lookup z=some c→c≠s3.heap.objs.size:=fun z c e=>by
   obtain ⟨v3,o3,e3,_⟩:=I3.cell z c e
   exact qu _ _ e3
  refine wpAny_assign_Name (BU (v:=.ref D) IX hN Cw hy rfl (fun ja qv lF=>?_) hf)
  obtain ⟨a,lF,ha⟩:=lF
  have na:s3.heap.objs.size≠a:=by
   rcases ha with rfl | e
   ·exact fun z=>nl z.symm
   ·exact fun z=>nc _ _ e z.symm
  refine ⟨m,hn.sameBut lF na,fun h' iI=>⟨σ.set i0 (some (.ref D)),H',?_,q⟩⟩
  have u2:Un (cK X.stack) [s3.heap.objs.size] H' H' ja.heap h':=by
   refine ⟨fun b o e n hb hx=>(iI.2 b (by simpa using hx)).trans e,fun b o e n hb hx=>⟨o.slots,(iI.2 b (by simpa using hx)).trans e⟩,fun b o e n hx=>n,fun b o e hx=>⟨o,(iI.2 b (by simpa using hx)).trans e⟩,fun b xs z=>z,fun b o u z=>z,fun b ps z=>⟨#[],by simpa using z⟩⟩
  have w5:cq X.prog X.w H' h':=fun b u e=>by
   refine (qv.ax b u e).i6 (fun c v hc z=>(iI.2 c fun y=>?_).trans z) (fun _ z=>z) fun _ _ z=>z
   have y':c=s3.heap.objs.size:=y
   rcases hc with hc | hc
   ·rw [←hc,y',JC] at e
    cases e
   ·rw [y',JC] at hc
    cases hc
  refine qv.qd (s':={ja with heap:=h'}) (ch:=[s3.heap.objs.size]) rfl u2 w5 qv.bare fun b hb=>?_
  have eb:b=s3.heap.objs.size:=by simpa using hb
  subst eb
  refine ⟨.inr I3.sz,fun z=>nl z.symm,fun z c e=>nc z c e,fun p hp=>?_⟩
  exact qu _ _ (I3.pin p hp).1
 have gN:∀{H':Hp},(∀b∈fp,H' b=none)→∀b∈fp,mD (X.gT N scope cl x s3 (upd H2 D (.lst [])) fp) [] H' b:=fun hn b hb=>by
  refine ⟨hn b hb,?_,?_,.inl hb,fun y c e z=>?sc,fun p hp=>nomatch hp⟩
  case sc=>
   rcases lk y c e with ⟨rfl,rfl⟩ | ⟨_,e⟩
   ·rw [←z] at hb
    exact absurd (GJ _ hb) (Nat.not_lt.mpr (jD _))
   ·exact (f2 b hb).2.2.2.2.1 y c (dX y c e) z
  ·obtain ⟨o,e,_⟩:=jJ b hb
   exact below b o (gS b o e)
  ·exact je.qb b hb
 have loop:∀tk:Nat,codeAny (model X.prog X.w) X.A (.compLoop (.ListComp elt [⟨.Name x px,iter,ifs,0⟩] scope pos) 0 (.ref it) (.ref D) (compEnvC scope ((x,s3.heap.objs.size+1)::cl) s3.heap.objs.size X.env))
   (compPost (model X.prog X.w) X.A X.xe (some (assign (.Name y py) X.env)) (fun _ s'=>SP X pins D0 .next s') (.ref D) s3.heap.objs.size) {s3 with heap:=h₁,toks:=tk}:=fun tk=>by
  refine BL (fun n s'=>∃i ys o H',Inv (X.gT N scope cl x s3 (upd H2 D (.lst [])) fp) [] (o::ρ σ) H' s'∧tn i s'.heap∧(∀b∈fp,H' b=none)∧W i n ys H') ?_ m0
   ⟨0,[],none,_,IB tk,T.keep _ _ _ i9 fun b hb o e=>e8 _ _ (gS _ _ e),fun b hb=>by rw [aG (wY b hb)];exact (f2 b hb).1,w0⟩
  rintro n s4 ⟨i,ys,o,H4,I4,oG,oH,w4⟩
  obtain ⟨Gy,w6⟩:=turn i n ys H4 w4
  rcases w6 with ⟨stop,qn⟩ | ⟨go,step⟩
  ·refine cS (T.done (X.gT N scope cl x s3 (upd H2 D (.lst [])) fp) rfl rfl rfl hc i [] s4 _ H4 (fun _ _=>False) I4 (gN oH) oG stop) (fun r s5 ⟨hr,I5⟩=>?_) fun _ _ z=>z.elim
   subst hr
   exact fin I5 qn
  ·refine cS (T.item (X.gT N scope cl x s3 (upd H2 D (.lst [])) fp) rfl rfl rfl hc i [] s4 _ H4 (fun _ _=>False) I4 (gN oH) oG go) (fun r s5 ⟨u,hr,h5⟩=>?_) fun _ _ z=>z.elim
   subst hr
   have z:letOwnedTupleGo (.Name x px) (.ref it) u=pure ():=rfl
   rw [z] at h5
   show wpAny _ _ ((pure ():Sem Unit) >>= fun _=>assign (.Name x px) (compEnvC scope ((x,s3.heap.objs.size+1)::cl) s3.heap.objs.size X.env) u) _ _ s5
   refine aC (cS h5 (fun _ s5 ⟨y,H5,I5,r5,y5,gO,ql⟩=>?_) fun _ _ z=>z.elim)
   have qm:=I5.pinned (gN ql) (T.obj _ _ gO)
   have pg:PG (X.gT N scope cl x s3 (upd H2 D (.lst [])) fp) (.Name x px) (aM 0):=cM (i:=0) B.nd B.n0 (.inr B.OD) (.inl (by show (x == x)=true;simp))
   have again:∀{σ7:St} {H7:Hp} {s7:Shared},Inv (X.gT N scope cl x s3 (upd H2 D (.lst [])) fp) ([]++k8 fp s5.heap) σ7 H7 s7→Inv (X.gT N scope cl x s3 (upd H2 D (.lst [])) fp) [] σ7 H7 s7∧tn (i+1) s7.heap∧∀b∈fp,H7 b=none:=fun{σ7 H7 s7} I7=>by
    refine ⟨I7.sX,T.keep _ _ _ gO fun b hb o e=>(I7.pin (b,o) (eQ _ (eQ _ (ot hb e)))).1,fun b hb=>?_⟩
    obtain ⟨o,e,d⟩:=T.obj _ _ gO b hb
    exact (I7.pin (b,o) (eQ _ (eQ _ (ot hb e)))).2.1
   refine cS (pg _ s5 _ H5 y u (fun σ2 H6=>σ2=some y::ρ σ∧H6=H5) qm r5 ⟨rfl,rfl⟩) (fun _ s6 ⟨σ6,H6,I6,q6⟩=>?_) fun _ _ z=>z.elim
   obtain ⟨rfl,rfl⟩:=q6
   have w_:=step y _ y5
   have tests:∀{ko:TT},oD (X.gT N scope cl x s3 (upd H2 D (.lst [])) fp) ifs ko→∀{R:Bool→Hp→Prop},ko (some y::ρ σ) H6 R→wpAny (model X.prog X.w) X.A
     (forIn ifs true fun c r=>if r=true then do let ok ←isTrue c (compEnvC scope ((x,s3.heap.objs.size+1)::cl) s3.heap.objs.size X.env) (eval c (compEnvC scope ((x,s3.heap.objs.size+1)::cl) s3.heap.objs.size X.env));pure (ForInStep.yield ok) else pure (ForInStep.yield r))
     (fun ok s7=>∃H7,Inv (X.gT N scope cl x s3 (upd H2 D (.lst [])) fp) ([]++k8 fp s5.heap) (some y::ρ σ) H7 s7∧R ok H7) (fun _ _=>False) s6:=fun{ko} p {R} hR=>by
    cases p with
    | nil=>exact wpAny_tests_nil ⟨_,I6,hR⟩
    | one p=>exact wpAny_tests_one (p _ s6 _ _ _ I6 hR)
   refine cS (tests (ht s3 _ fp) w_) (fun ok s7 ⟨H7,I7,q7⟩=>?_) fun _ _ z=>z.elim
   cases ok with
   | false=>
    obtain ⟨m',d_,w7⟩:=q7
    obtain ⟨a1,a2,a3⟩:=again I7
    exact ⟨m',d_,i+1,ys,_,H7,a1,a2,a3,w7⟩
   | true=>
    refine cS (he s3 _ fp _ s7 _ H7 _ I7 q7) (fun ev s8 ⟨z,H8,I8,r8,xa,hz,m',d_,w8⟩=>?_) fun _ _ z=>z.elim
    refine cS (gf (X:=X.gT N scope cl x s3 (upd H2 D (.lst [])) fp) _ s8 _ H8 (.ref D) [z] (.ref D) [ev] (fun _ H9=>H9=upd H8 D (.lst (ys++[z]))) I8 rfl (.cons r8 .nil) ⟨D,ys,z,rfl,rfl,xa,hz,rfl⟩) (fun _ s9 ⟨_,H9,I9,_,q9⟩=>?_) fun _ _ z=>z.elim
    subst q9
    obtain ⟨a1,a2,a3⟩:=again I9
    exact ⟨m',d_,i+1,ys++[z],_,_,a1,a2,a3,w8⟩
 have start:=loop s3.toks
 have es:({s3 with heap:=h₁,toks:=s3.toks}:Shared)={s2 with heap:=h₁}:=by rw [←kj]
 rw [es] at start
 exact BM start (T.self _ 0 _ _ _ (T.keep _ _ _ i9 fun b hb o e=>e8 _ _ (gS _ _ e)) start)
end
theorem GL(gm:∀R:It→Hp→Prop,(∀J H1,ak H H1→lE J xs H1→R J H1)→wi σ H R)(hn:xs.length<sizeLine)
  (P:Addr→Nat→V→Hp→Prop) (mono:∀D i y H H' ys,P D i y H→H D=some (.lst ys)→(∀b o,b≠D→H b=some o→H' b=some o)→P D i y H')
  (step:∀D i x,xs[i]?=some x→∀(Hc:Hp) (R:VK),ak H Hc→(∃ys,Hc D=some (.lst ys))→(∀y H3,ak Hc H3→P D i y H3→R y H3)→te (some x::ρ σ) Hc R)
  (fin:∀D ys Hc,H D=none→ak H Hc→ys.length=xs.length→(∀(i:Nat) (y:V),ys[i]?=some y→P D i y Hc)→Hc D=some (.lst ys)→Q (.ref D) Hc):gh wi ρ (fun _ H Q=>Q true H) te σ H Q:=by
 refine gm _ fun J H1 s1 js=>?_;intro D nD;have hD:H D=none:=by
  cases e:H D with
  | none=>rfl
  | some o=>rw [s1 _ _ e] at nD;cases nD
 exact GH (ρσ:=ρ σ) (te:=te) (Q:=Q) js nD hn (P D) (mono D) (fun i x hx Hc R sc=>step D i x hx Hc R (s1.trans sc)) (fun ys Hc sc=>fin D ys Hc hD (s1.trans sc))
section
variable {X:Cx} {K:aJ}
theorem GN(hK:X.K=K:=by rfl):tj X (Gd K):=by subst hK;exact eF
theorem Cz(hK:X.K=K:=by rfl):tj X (Gb K):=by subst hK;exact cg
theorem OI{tg l:Expr}{tl:TE}(hl:PE X l tl)(hK:X.K=K:=by rfl):PI X tg l (FG K tl):=by subst hK;exact fO hl
end
end L2
namespace My
open PySem L2
variable {te:TE} {σ:St} {H:Hp} {Q:VK}
theorem GO{r:List V→Hp→VK→Prop}(h:te σ H fun x H1=>r [x] H1 Q):B_ r (zv te wL) σ H Q:=h
theorem CA{D:Ends}(h:te σ H D.rt):FD te D σ H:=h
theorem OJ{vs:List V}{b:Bool}(h:∀(i:Nat) (v:V),vs[i]?=some v→v=.bl b):vs=(List.replicate vs.length b).map V.bl:=by
 refine sE fun i=>?_;rw [bo];by_cases hi:i<vs.length
 ·rw [show vs[i]?=some vs[i] by simp [hi],h i vs[i] (by simp [hi])]
  simp [hi]
 ·rw [vV (by lia),vV (by simp;lia)]
  rfl
theorem OK(n:Nat):(List.replicate n true).all id=true:=by simp
theorem OL{r:R2}{ta tb:TE}(h:ta σ H fun x H1=>tb σ H1 fun y H2=>r x y H2 Q):mG r ta tb σ H Q:=h
variable {H':Hp} {b:Addr}
theorem none_of(s:ak H H')(h:H' b=none):H b=none:=by
 cases e:H b with
 | none=>rfl
 | some o=>rw [s _ _ e] at h;cases h
theorem getD_at{α:Type}{xs:List α}{d:α}{i:Nat}(hi:i<xs.length):xs.getD i d=xs[i]:=by
 rw [cG,show xs[i]?=some xs[i] by simp [hi]]
 rfl
def er(P:Addr)(H:Hp):Hp:=fun b=>if b=P then none else H b
variable {P:Addr}
theorem mQ:ak (er P H) H:=fun b o e=>by
 unfold er at e
 split at e
 ·cases e
 ·exact e
theorem dG(h:b≠P):er P H b=H b:=aa h
variable {o:HO}
theorem xc(h:b≠P)(e:H b=some o):er P H b=some o:=by rw [dG h];exact e
theorem zN(s:ak H H'):ak (er P H) (er P H'):=fun b o e=>by
 unfold er at e ⊢
 split at e
 ·cases e
 ·rename_i h
  rw [aa h];exact s _ _ e
theorem GP:er P (upd H P o)=er P H:=funext fun b=>by
 unfold er
 split
 ·rfl
 ·rename_i h
  exact aG h
def a_(H:Hp)(P a:Addr):Prop:=∃x y:Int,H P=some (.lst [.ref a,.int x,.int y])∧0≤x∧0≤y
variable {a:Addr}
theorem a_.mono(h:a_ H P a)(s:ak H H'):a_ H' P a:=by obtain ⟨x,y,e,h1,h2⟩:=h;exact ⟨x,y,s _ _ e,h1,h2⟩
variable {D:Addr}
theorem a_.upd(h:a_ H P a)(n:D≠P):a_ (L2.upd H D o) P a:=by obtain ⟨x,y,e,h1,h2⟩:=h;exact ⟨x,y,by rw [aG n.symm];exact e,h1,h2⟩
theorem a_.ne(h:a_ H P a)(n:H D=none):D≠P:=fun z=>by obtain ⟨x,y,e,_⟩:=h;rw [z,e] at n;cases n
def aF(P:Addr)(H H':Hp):Prop:=ak (er P H) (er P H')
theorem aF.refl(H:Hp):aF P H H:=ak.refl _
theorem aF.trans{H2:Hp}(s:aF P H H')(t:aF P H' H2):aF P H H2:=ak.trans s t
theorem aF.of(s:ak H H'):aF P H H':=zN s
theorem aF.jK:aF P H (upd H P o):=by unfold aF;rw [GP];exact ak.refl _
theorem aF.but(s:aF P H H')(n:H D=none):aF P H (upd H' D o):=fun b u e=>by
 have e0:=s b u e;have nb:b≠P:=fun z=>by unfold er at e;rw [ae z] at e;cases e
 rw [dG nb] at e e0 ⊢;rw [aG (gv e n)];exact e0
theorem aF.at(s:aF P H H')(nb:b≠P)(e:H b=some o):H' b=some o:=by have z:=s b o (xc nb e);rw [dG nb] at z;exact z
end My
namespace L2
open PySem PySem.Spec PyProof.Rows
end L2
namespace My
open PySem L2
def OM:Sp:=fun vs H Q _=>∃c a:Int,vs=[.int c,.int a]∧0≤a∧∀r:Int,0≤r→Q (.int r) H
def ON(K:aJ):Sp:=fun vs H Q _=>∃(P a:Addr) (ns:List Int) (many:Int),vs=[.ref P,.int many]∧a_ H P a∧a7 K (er P H) a (ns.map V.int)∧1≤many∧dY many∧∀(r:Int) (H':Hp),0≤r→r<many→aF P H H'→a_ H' P a→Q (.int r) H'
end My
namespace L2
open PySem PySem.Spec PyProof.Rows
end L2
namespace My
open PySem L2
end My
namespace L2
open PySem PySem.Spec PyProof.Rows
def xf(K:aJ)(l:Addr):It:=
  ⟨fun i H=>∃xs x,a7 K H l xs∧xs[i]?=some x,
   fun i H v H'=>∃T x,H T=none∧v=.ref T∧H'=upd H T (.tup [.int (i:Int),x])∧∀xs,a7 K H l xs→xs[i]?=some x,
   fun i H=>∃xs,a7 K H l xs∧xs.length≤i⟩
variable {K:aJ} {l:Addr}
theorem OO{P:Program}{w:World}{elts:List Expr}{k:Nat}{pos:Pos}{e it:Addr}(GQ:e≠it):Turn P w K (.Tuple elts k pos) (xf K l) [e,it] e
  (fun i h=>(∃old,IsEnum h e it (i:Int) old)∧h.IsListIter it l i) where
 mem:=by simp
 obj:=fun i h st b hb=>by
  obtain ⟨⟨old,he⟩,h1⟩:=st;simp only [bO,sF,or_false] at hb;rcases hb with rfl | rfl;·exact ⟨_,he,fun v z=>by cases z⟩
  ·obtain ⟨o,e,c,d⟩:=h1
   exact ⟨o,e,fun v z=>by rw [d] at z;cases z⟩
 keep:=fun i h h' st k=>by obtain ⟨⟨old,he⟩,h1⟩:=st;exact ⟨⟨old,k _ (by simp) _ he⟩,h1.at fun o e=>k _ (by simp) o e⟩
 item:=by
  intro X hP hw hK hc i pins s σ H E I hf st hg;subst hP hw hK;obtain ⟨⟨old,he⟩,h1⟩:=st;obtain ⟨xs,x,tK,hx⟩:=hg;obtain ⟨its,rv,p,_⟩:=I.list tK;obtain ⟨u,hu,ru⟩:=rv.get hx;refine wpAny_pyNext_enum_item he h1 p.isList (x:=u) (by simpa using hu) GQ fun h' g1 g2 g3 g4 g5=>⟨_,rfl,?_⟩
  refine wpAny_letOwnedTupleGo_enum g1 fun zO q1 sb=>?_;have tL:H s.heap.objs.size=none:=I.ax.fresh (ay _);have lt:∀b o,s.heap.get? b=some o→b≠s.heap.objs.size:=fun b o e=>cx (aY e);have keep:∀b o,b∉[e,it]→s.heap.get? b=some o→zO.get? b=some o:=fun b o nb e=>by simp only [bO,sF,or_false,not_or] at nb;exact sb.extBut _ _ nb.1 (g5 b o nb.1 nb.2 e)
  have elt:e≠s.heap.objs.size:=lt _ _ he;have pT:=sb.extBut _ _ elt.symm g3;have xg:∀{b:Addr} {o:HO} (e:H b=some o),upd H s.heap.objs.size (.tup [.int (i:Int),x]) b=some o:=fun e=>by rw [aG (gv e tL)];exact e
  have ax:cq X.prog X.w (upd H s.heap.objs.size (.tup [.int (i:Int),x])) zO:=fun b o e=>by
   by_cases hb:b=s.heap.objs.size
   ·subst hb
    rw [au] at e;cases e;exact ⟨by show 2≤sizeLine;decide,[.int i s.toks,u],.cons ⟨_,rfl⟩ (.cons ru .nil),⟨_,pT,rfl,_,rfl⟩⟩
   ·rw [aG hb] at e
    refine (I.ax b o e).i6 (fun c v eS q=>keep c v (fun m=>?_) q) (fun c q=>xg q) fun c xs q=>xg q;have nn:=(hf c m).1;rcases eS with rfl | eS;·rw [nn] at e;cases e
    ·rw [nn] at eS;cases eS
  have u1:Un (cK X.stack) [e,it] H (upd H s.heap.objs.size (.tup [.int (i:Int),x])) s.heap zO:=
   ⟨fun b o e n _ hx=>keep b o hx e,fun b o e n _ hx=>⟨o.slots,keep b o hx e⟩,fun b o e n hx=>by rw [aG (lt b o e)];exact n,fun b o e hx=>⟨o,keep b o hx e⟩,fun b xs e=>xg e,fun b o u e=>xg e,fun b ps e=>⟨#[],by rw [xg e];simp⟩⟩
  refine ⟨.ref s.heap.objs.size,upd H s.heap.objs.size (.tup [.int (i:Int),x]),I.qd (s':={s with heap:=zO,toks:=s.toks+1}) (ch:=[e,it]) rfl u1 ax I.bare (fun b hb=>?_),rfl,⟨_,x,tL,rfl,rfl,fun as ha=>by rw [I.FC ha tK];exact hx⟩,?_,fun b hb=>?_⟩
  ·obtain ⟨f0,f1,f2,f3,f4,f5⟩:=hf b hb
   exact ⟨f3,f1,f4,f5⟩
  ·refine ⟨⟨u,?_⟩,g2.extBut sb.extBut GQ.symm⟩
   have z:((i+1:Nat):Int)=(i:Int)+1:=by lia
   rw [z];exact q1
  ·have nb:b≠s.heap.objs.size:=by
    simp only [bO,sF,or_false] at hb;rcases hb with rfl | rfl;·exact lt _ _ he
    ·obtain ⟨o,e,_⟩:=h1;exact lt _ _ e
   rw [aG nb];exact (hf b hb).1
 done:=by
  intro X hP hw hK hc i pins s σ H E I hf st hg;subst hP hw hK;obtain ⟨⟨old,he⟩,h1⟩:=st;obtain ⟨xs,tK,hx⟩:=hg;obtain ⟨its,rv,p,_⟩:=I.list tK;have hl:=rv.length;refine wpAny_pyNext_enum_end (I.ok.hd hc) he h1 p.isList (by simp;lia) fun h' g=>⟨rfl,?_⟩
  have keep:∀b o,b∉[e,it]→s.heap.get? b=some o→h'.get? b=some o:=fun b o nb e=>by simp only [bO,sF,or_false,not_or] at nb;exact g b o nb.2 e
  have ax:cq X.prog X.w H h':=fun b o e=>by
   refine (I.ax b o e).i6 (fun c v eS q=>keep c v (fun m=>?_) q) (fun c q=>q) fun c xs q=>q;have nn:=(hf c m).1;rcases eS with rfl | eS;·rw [nn] at e;cases e
   ·rw [nn] at eS;cases eS
  have u1:Un (cK X.stack) [e,it] H H s.heap h':=
   ⟨fun b o e n _ hx=>keep b o hx e,fun b o e n _ hx=>⟨o.slots,keep b o hx e⟩,fun b o e n hx=>n,fun b o e hx=>⟨o,keep b o hx e⟩,fun b xs e=>e,fun b o u e=>e,fun b ps e=>⟨#[],by rw [e];simp⟩⟩
  refine I.qd (s':={s with heap:=h'}) (ch:=[e,it]) rfl u1 ax I.bare fun b hb=>?_;obtain ⟨f0,f1,f2,f3,f4,f5⟩:=hf b hb;exact ⟨f3,f1,f4,f5⟩
 self:=fun _ _ _ _ _ st h=>by obtain ⟨⟨old,he⟩,_⟩:=st;exact wpAny_pyIter_enum he h
theorem boot_enumerate:bootBuiltins "enumerate"=some (.type "enumerate"):=by decide +kernel
def OP(K:aJ)(ta:TA):TI:=fun σ H R=>ta σ H fun vs H1=>∃l,vs=[.ref l]∧(∃xs,a7 K H1 l xs)∧R (xf K l) H1
section
variable {X:Cx}
theorem GR{elts:List Expr}{k:Nat}{sU:Pos}{a:Expr}{ta:TA}{p pos:Pos}(hg:Gl X "enumerate")(hm:X.mg "enumerate"=none)(ha:PA X [a] ta)(hs:starEach [a] X.env=[(false,eval a X.env)]:=by rfl) :
  PI X (.Tuple elts k sU) (.Call (.Name "enumerate" p) [a] [] pos) (OP X.K ta):=by
 intro pins s σ H R I h;refine Call_ (mB I hg hm boot_enumerate (vO (aK (ha pos pins s σ H _ I h) fun us s1 ⟨vs,H1,I1,r1,q1⟩=>?_) hs rfl));obtain ⟨l,e,⟨xs,tK⟩,q⟩:=q1;subst e;obtain ⟨u,rfl,ru⟩:=vals1 r1;cases ru;obtain ⟨its,rv,p1,_⟩:=I1.list tK;refine call_enumerate_list p1.isList fun h' z1 z2 z3 z4=>?_;refine wpAny_pyIter_enum (s:={s1 with heap:=h'}) z1 ?_;refine ⟨_,_,_,_,H1,rfl,I1.kept (t':=s1.toks) z4,OO (Nat.succ_ne_self _),⟨⟨_,z1⟩,z2⟩,fun b hb=>?_,q⟩;have le:s1.heap.objs.size≤b:=by
  simp only [bO,sF,or_false] at hb;rcases hb with rfl | rfl;·exact Nat.le_add_right ..
  ·exact ay _
 exact I1.wJ le (I1.ax.fresh le)
end
theorem GS{xs:List V}{g:TG}{tb:TS}{D:Ends}{σ:St}{H:Hp}(Pv:Nat→St→Hp→Prop)(h0:Pv 0 σ H)(hl:∀i σ H,Pv i σ H→a7 K H l xs)
  (hs:∀(i:Nat) (x:V) σ H T,xs[i]?=some x→Pv i σ H→H T=none→g (.ref T) σ (upd H T (.tup [.int (i:Int),x])) fun σ2 H2=>tb {D with nx:=Pv (i+1),ct:=Pv (i+1),bk:=D.nx} σ2 H2) (hd:∀σ H,Pv xs.length σ H→D.nx σ H) :
  ∃W:Nat→Nat→St→Hp→Prop,(∃m,W 0 m σ H)∧∀i m σ H,W i m σ H→
   ((xf K l).stop i H∧D.nx σ H)∨((xf K l).go i H∧∃N:St→Hp→Prop,(∀σ' H',N σ' H'→∃m',m'<m∧W (i+1) m' σ' H')∧∀x H',(xf K l).d8 i H x H'→g x σ H' fun σ2 H2=>tb {D with nx:=N,ct:=N,bk:=D.nx} σ2 H2):=by
 refine ⟨fun i m σ H=>m=xs.length-i∧i≤xs.length∧Pv i σ H,⟨xs.length,by simp,bU _,h0⟩,?_⟩
 rintro i m σ H ⟨rfl,hi,p⟩;have q1:=hl i σ H p;by_cases aZ:i<xs.length
 ·refine .inr ⟨⟨xs,xs[i],q1,by simp [aZ]⟩,Pv (i+1),fun σ' H' p'=>⟨xs.length-(i+1),by lia,rfl,aZ,p'⟩,fun v H' hy=>?_⟩
  obtain ⟨T,x,nT,rfl,rfl,hx⟩:=hy;exact hs i x σ H T (hx xs q1) p nT
 ·have e:i=xs.length:=by lia
  subst e;exact .inl ⟨⟨xs,q1,ay _⟩,hd σ H p⟩
def OQ(K:aJ):V→V→Hp→VK→Prop:=fun o i H Q=>∃p xs k v,o=.ref p∧i=.int k∧0≤k∧a7 K H p xs∧fQ xs k=some v∧Q v H
theorem OR{X:Cx}:FF X (OQ X.K):=by
 intro pins s σ H o i ov iv Q I ro ri h;obtain ⟨p,xs,k,z,rfl,rfl,h0,hq,he,q⟩:=h;cases ro;obtain ⟨t,rfl⟩:=ri;obtain ⟨its,r,pl,hz⟩:=I.list hq;obtain ⟨j,h1,h2,h3,h4,h5⟩:=Ca he;obtain ⟨w,ew,f_⟩:=r.get h2;have hl:=r.length;have hn:=s_;have hj:k.toNat=j:=by rw [seqIndex_of h0 h5] at h1;exact Option.some.inj h1
 exact wpAny_getItem_list pl.isList h0 (by lia) (by rw [hj];simpa using ew) ⟨z,H,I,f_,q⟩
end L2
namespace My
open PySem L2
end My
namespace L2
open PySem PySem.Spec PyProof.Rows
section
variable {X:Cx} {tg:Expr}
end
section
variable {X:Cx} {e:Expr} {te:TE} {pos p2:Pos}
end
end L2
namespace My
open PySem L2
theorem OS:∀place:Nat,(List.replicate ((place:Int).toNat) [V.int 0]).flatten=(List.replicate place (0:Int)).map V.int:=fun place=>by
 rw [d6,List.map_replicate]
 induction place with
 | zero=>rfl
 | succ m ih=>rw [nV,su,ih,nV];rfl
theorem CB{wi:TI}{ρ:St→St}{te:TE}{σ:St}{H:Hp}{Q:VK}{xs:List V}{n:Nat}(hl:xs.length=n)(gm:∀R:It→Hp→Prop,(∀J H1,ak H H1→lE J xs H1→R J H1)→wi σ H R)(hn:n<sizeLine)
  (P:Addr→Nat→Addr→Hp→Prop) (mono:∀D i y H H' ys,P D i y H→y≠D→H D=some (.lst ys)→(∀b o,b≠D→H b=some o→H' b=some o)→P D i y H')
  (step:∀D (i:Nat) (x:V),xs[i]?=some x→∀(Hc:Hp) (R:VK),ak H Hc→(∃ys,Hc D=some (.lst ys))→(∀y H3,ak Hc H3→Hc y=none→(∃o,H3 y=some o)→P D i y H3→R (.ref y) H3)→te (some x::ρ σ) Hc R)
  (fin:∀D (A:Nat→Addr) Hc,H D=none→ak H Hc→(∀i j,i<n→j<n→A i=A j→i=j)→(∀i,i<n→P D i (A i) Hc∧A i≠D)→Hc D=some (.lst ((List.range n).map fun i=>V.ref (A i)))→Q (.ref D) Hc):gh wi ρ (fun _ H Q=>Q true H) te σ H Q:=by
 refine gm _ fun J H1 s1 js=>?_;intro D nD;have hD:H D=none:=by
  cases e:H D with
  | none=>rfl
  | some o=>rw [s1 _ _ e] at nD;cases nD
 refine ⟨fun i m ys Hc=>m=n-i∧i≤n∧Hc D=some (.lst ys)∧ak H1 Hc∧∃A:Nat→Addr,ys=(List.range i).map (fun j=>V.ref (A j))∧(∀a b,a<i→b<i→A a=A b→a=b)∧∀j,j<i→P D j (A j) Hc∧A j≠D∧∃o,Hc (A j)=some o,⟨_,rfl,bU _,au,eG (ak.refl H1) nD,fun _=>D,rfl,(fun a b h=>by lia),fun j h=>by lia⟩,?_⟩
 rintro i m ys Hc ⟨rfl,hi,eD,sH,A,rfl,inj,hA⟩;refine ⟨eD,?_⟩;by_cases aZ:i<n
 ·refine .inr ⟨js.go i Hc sH (by lia),fun x H' hy=>?_⟩
  obtain ⟨rfl,hx⟩:=js.d8 i Hc x H' sH hy;rw [ae rfl];refine step D i x (hx (by lia)) _ _ (s1.trans sH) ⟨_,eD⟩ fun y H3 s3 ny ⟨o,ho⟩ hp=>?_
  have e3:=s3 _ _ eD;have yD:y≠D:=fun e=>by rw [e,eD] at ny;cases ny
  have bK:∀b o,b≠D→H3 b=some o→upd H3 D (.lst ((List.range i).map (fun j=>V.ref (A j))++[.ref y])) b=some o:=fun b o nb e=>by rw [aG nb];exact e
  have nA:∀j,j<i→A j≠y:=fun j hj e=>by obtain ⟨_,_,o',h'⟩:=hA j hj;rw [e,ny] at h';cases h'
  refine ⟨e3,by simp;lia,n-(i+1),by lia,rfl,aZ,au,eG (sH.trans s3) nD,fun j=>if j=i then y else A j,?_,fun a b ha hb e=>?_,fun j hj=>?_⟩
  ·rw [sG,fi]
   congr 1
   ·refine ma fun j hj=>?_
    dsimp only;rw [aa (by have:=cR.mp hj;lia)]
   ·simp
  ·dsimp only at e
   by_cases z1:a=i
   ·by_cases z2:b=i
    ·lia
    ·rw [ae z1,aa z2] at e
     exact absurd e.symm (nA b (by lia))
   ·by_cases z2:b=i
    ·rw [aa z1,ae z2] at e
     exact absurd e (nA a (by lia))
    ·rw [aa z1,aa z2] at e
     exact inj a b (by lia) (by lia) e
  ·dsimp only
   by_cases z:j=i
   ·rw [ae z,z]
    exact ⟨mono D i y H3 _ _ hp yD e3 bK,yD,o,bK _ _ yD ho⟩
   ·rw [aa z]
    obtain ⟨h1,h2,o',h3⟩:=hA j (by lia)
    exact ⟨mono D j (A j) H' _ _ h1 h2 eD (fun b o nb e=>bK b o nb (s3 _ _ e)),h2,o',bK _ _ h2 (s3 _ _ h3)⟩
 ·have e:i=n:=by lia
  subst e;exact .inl ⟨js.stop _ Hc sH (by lia),fin D A Hc hD (s1.trans sH) inj (fun j hj=>⟨(hA j hj).1,(hA j hj).2.1⟩) eD⟩
end My
namespace L2
open PySem PySem.Spec PyProof.Rows
def OT(K:aJ):R2:=fun x y H Q=>∃(a b:Addr) (xs ys:List Int),x=.ref a∧y=.ref b∧a7 K H a (xs.map V.int)∧a7 K H b (ys.map V.int)∧Q (.bl (!decide (xs=ys))) H
theorem GU{xs ys:List Int}(h:xs.length=ys.length):((List.range xs.length).all fun j=>d9 (.int (xs.getD j 0)) (.int (ys.getD j 0)))=decide (xs=ys):=by
 by_cases e:xs=ys
 ·subst e
  rw [bA rfl,nY];intro j _;exact zL rfl
 ·rw [bH e]
  cases z:((List.range xs.length).all fun j=>d9 (.int (xs.getD j 0)) (.int (ys.getD j 0))) with
  | false=>rfl
  | true=>refine absurd (iY h fun j h1 h2=>?_) e;have:=nY.mp z j (cR.mpr h1);have this:(xs.getD j 0 == ys.getD j 0)=true:=this;rw [beq_iff_eq,cG,cG] at this;simpa [h1,h2] using this
theorem OU{X:Cx}(hu:X.A.units+64<cLine):cz X (compareOp .NotEq) (OT X.K):=by
 intro pins s σ H x y v u Q I rx ry h;obtain ⟨a,b,xs,ys,rfl,rfl,h1,h2,q⟩:=h;cases rx;cases ry;obtain ⟨us,r1,t1,_⟩:=I.list h1;obtain ⟨vs,r2,t2,_⟩:=I.list h2;have l1:=r1.length;have l2:=r2.length;rw [aH] at l1 l2;by_cases hl:xs.length=ys.length
 ·refine SeqAt.RcNeAt.lists (e:=fun j=>d9 (.int (xs.getD j 0)) (.int (ys.getD j 0))) t1.isList t2.isList (by simp;lia) (by lia) (fun j z1 z2=>?_) _ _ _ _ ?_
  ·have qw:j<us.length:=by simpa using z1
   have CD:j<vs.length:=by simpa using z2
   have ex:(xs.map V.int)[j]?=some (.int (xs.getD j 0)):=by rw [bo,cG];simp [show j<xs.length by lia]
   have ey:(ys.map V.int)[j]?=some (.int (ys.getD j 0)):=by rw [bo,cG];simp [show j<ys.length by lia]
   obtain ⟨x',ke,rx⟩:=r1.get ex;obtain ⟨y',mR,ry⟩:=r2.get ey;have e1:us.toArray[j]=x':=by simpa using (bW.mp ke).2
   have e2:vs.toArray[j]=y':=by simpa using (bW.mp mR).2
   rw [e1,e2];exact oA rx ry rfl rfl
  ·rw [show us.toArray.size=xs.length by simp;lia,GU hl]
   exact ⟨.bl (!decide (xs=ys)),H,I,rfl,q⟩
 ·rw [bH (fun e=>hl (by rw [e]))] at q
  refine SeqAt.RcNeAt.lists_lengths t1.isList t2.isList ?_ (by lia) _ _ _ _ ⟨.bl true,H,I,rfl,q⟩
  simp;lia
end L2
namespace My
open PySem L2
end My
namespace L2
open PySem PySem.Spec PyProof.Rows
end L2
namespace My
open PySem L2
end My
namespace L2
open PySem PySem.Spec PyProof.Rows
section
variable {X:Cx}
end
end L2
namespace My
open PySem L2
end My
namespace L2
open PySem PySem.Spec PyProof.Rows
end L2
namespace My
open PySem L2
end My
namespace L2
open PySem PySem.Spec PyProof.Rows
section
variable {X:Cx} {N:List Str} {scope:Scope} {cl:List (Str×Addr)} {x y:Str} {px py pos tp:Pos} {Ow:Nat} {iter elt:Expr} {ifs:List Expr} {wi:TI} {ρ:St→St} {tt:TT} {te:TE}
end
inductive Tr where
 | fl (v:V)
 | ls (xs:List Tr)
 | tp (xs:List Tr)
 | dc
inductive kq (H:Hp):Tr→V→Prop where
 | fl {v:V} (h:jc v=true):kq H (.fl v) v
 | ls {a:Addr} {vs:List V} {ts:List Tr} (e:H a=some (.lst vs)) (l:vs.length=ts.length) (h:∀(i:Nat) (v:V) (t:Tr),vs[i]?=some v→ts[i]?=some t→kq H t v):kq H (.ls ts) (.ref a)
 | tp {a:Addr} {vs:List V} {ts:List Tr} (e:H a=some (.tup vs)) (l:vs.length=ts.length) (h:∀(i:Nat) (v:V) (t:Tr),vs[i]?=some v→ts[i]?=some t→kq H t v):kq H (.tp ts) (.ref a)
 | dc {a:Addr} (e:H a=some (Cr a)):kq H .dc (.ref a)
def Tr.In:Nat→Tr→Prop
 | _,.fl _=>True
 | _,.dc=>True
 | 0,.ls _=>False
 | 0,.tp _=>False
 | n+1,.ls ts=>∀t∈ts,t.In n
 | n+1,.tp ts=>∀t∈ts,t.In n
section
variable {X:Cx} {pins:aQ} {σ:St} {H:Hp} {s:Shared}
variable {A:Around} {a b:Addr}
theorem GV(ha:iH a s.heap)(hb:iH b s.heap)(hu:A.units<cLine):SeqAt.RcAt A s (.ref a) (.ref b) true:=fun prog w E Q h=>by obtain ⟨o,ep,e,c,d,z⟩:=ha;obtain ⟨o',iz,e',c',d',z'⟩:=hb;exact PySem.W.keq_eq (knd:=fK prog w) (ka:=[]) (kb:=[]) z z' ⟨o,#[],ep,e,c,d,fun _ h=>by simp at h,.nil,iZ⟩ ⟨o',#[],iz,e',c',d',fun _ h=>by simp at h,.nil,iZ⟩ hu (fun _=>.nil) h
theorem OV(ha:iH a s.heap)(hb:iH b s.heap)(hu:A.units<cLine):SeqAt.RcNeAt A s (.ref a) (.ref b) false:=fun prog w E Q h=>by obtain ⟨o,ep,e,c,d,z⟩:=ha;obtain ⟨o',iz,e',c',d',z'⟩:=hb;exact PySem.W.keq_ne (knd:=fK prog w) (ka:=[]) (kb:=[]) z z' ⟨o,#[],ep,e,c,d,fun _ h=>by simp at h,.nil,iZ⟩ ⟨o',#[],iz,e',c',d',fun _ h=>by simp at h,.nil,iZ⟩ hu (fun _=>.nil) h
theorem zP{xs ys:List V}{us vs:List Value}(r1:Vals xs us)(r2:Vals ys vs){j:Nat}(h1:j<us.length)(h2:j<vs.length):∃x y,xs[j]?=some x∧ys[j]?=some y∧RelV x us.toArray[j]∧RelV y vs.toArray[j]:=by
 have l1:=r1.length;have l2:=r2.length;obtain ⟨x,ex⟩:∃x,xs[j]?=some x:=⟨xs[j],by simp [show j<xs.length by lia]⟩
 obtain ⟨y,ey⟩:∃y,ys[j]?=some y:=⟨ys[j],by simp [show j<ys.length by lia]⟩
 obtain ⟨x',ke,rx⟩:=r1.get ex;obtain ⟨y',mR,ry⟩:=r2.get ey;have e1:us.toArray[j]=x':=by simpa using (bW.mp ke).2
 have e2:vs.toArray[j]=y':=by simpa using (bW.mp mR).2
 exact ⟨x,y,ex,ey,by rw [e1];exact rx,by rw [e2];exact ry⟩
theorem GW(I:Inv X pins σ H s):∀(n:Nat) (A:Around) (t:Tr) (v u:V) (a b:Value),t.In n→kq H t v→kq H t u→RelV v a→RelV u b→A.units+n<cLine→SeqAt.EqAt A s a b true:=by
 intro n
 induction n with
 | zero=>
  intro A t v u a b hn h1 h2 ra rb hu;cases h1 with
  | fl h=>
   cases h2 with
   | fl _=>have z:=oA (A:=A) (s:=s) ra rb h h;rw [zL h] at z;exact z
  | ls e l h=>exact hn.elim
  | tp e l h=>exact hn.elim
  | @dc p e=>
   cases h2 with
   | @dc p' e'=>
    cases ra;cases rb;by_cases pq:p=p';·subst pq;exact SeqAt.EqAt.same _
    ·exact sI pq (GV (show bV X.prog X.w H s.heap p (.ext (iH p)) from I.ax p _ e).1 (show bV X.prog X.w H s.heap p' (.ext (iH p')) from I.ax p' _ e').1 hu)
 | succ n ih=>
  intro A t v u a b hn h1 h2 ra rb hu;cases h1 with
  | fl h=>
   cases h2 with
   | fl _=>have z:=oA (A:=A) (s:=s) ra rb h h;rw [zL h] at z;exact z
  | @dc p e=>
   cases h2 with
   | @dc p' e'=>
    cases ra;cases rb;by_cases pq:p=p';·subst pq;exact SeqAt.EqAt.same _
    ·exact sI pq (GV (show bV X.prog X.w H s.heap p (.ext (iH p)) from I.ax p _ e).1 (show bV X.prog X.w H s.heap p' (.ext (iH p')) from I.ax p' _ e').1 (by lia))
  | @ls p xs ts e l h=>
   cases h2 with
   | @ls p' ys _ e' l' h'=>
    cases ra;cases rb;by_cases pq:p=p';·subst pq;exact SeqAt.EqAt.same _
    obtain ⟨us,r1,t1,_⟩:=I.list (.of e);obtain ⟨vs,r2,t2,_⟩:=I.list (.of e');have l1:=r1.length;have l2:=r2.length;have z:=SeqAt.RcAt.lists (A:=A) (e:=fun _=>true) t1.isList t2.isList (by simp;lia) (by lia) (fun j z1 z2=>by
     obtain ⟨x,y,ex,ey,rx,ry⟩:=zP r1 r2 (by simpa using z1) (by simpa using z2)
     have jt:j<ts.length:=by have:=(bW.mp ex).1;lia
     exact ih A.in1 ts[j] x y _ _ (hn _ (cy jt)) (h j x _ ex (by simp [jt])) (h' j y _ ey (by simp [jt])) rx ry (by rw [nZ];lia))
    rw [all_range] at z;exact sI pq z
  | @tp p xs ts e l h=>
   cases h2 with
   | @tp p' ys _ e' l' h'=>
    cases ra;cases rb;by_cases pq:p=p';·subst pq;exact SeqAt.EqAt.same _
    obtain ⟨us,r1,t1,_⟩:=I.tuple (.of e);obtain ⟨vs,r2,t2,_⟩:=I.tuple (.of e');have l1:=r1.length;have l2:=r2.length;have z:=SeqAt.RcAt.tuples (A:=A) (e:=fun _=>true) t1 t2 (by lia) (fun j z1 z2=>by
     obtain ⟨x,y,ex,ey,rx,ry⟩:=zP r1 r2 (by simpa using z1) (by simpa using z2)
     have jt:j<ts.length:=by have:=(bW.mp ex).1;lia
     exact ih A.in1 ts[j] x y _ _ (hn _ (cy jt)) (h j x _ ex (by simp [jt])) (h' j y _ ey (by simp [jt])) rx ry (by rw [nZ];lia))
    have e3:(us.toArray.size == vs.toArray.size)=true:=by simp;lia
    rw [all_range,e3] at z;exact sI pq z
end
def OW(n:Nat):R2:=fun x y H Q=>∃t:Tr,t.In n∧kq H t x∧kq H t y∧Q (.bl false) H
theorem OX{v:V}(h:jc v=true):B5 v v=true:=by cases v <;> first | rfl | cases h
theorem OY{X:Cx}{n:Nat}(hu:X.A.units+64<cLine)(hn:n<60:=by decide):cz X (compareOp .NotEq) (OW n):=by
 intro pins s σ H x y v u Q I rx ry h;obtain ⟨t,zQ,h1,h2,q⟩:=h;cases h1 with
 | fl h=>
  cases h2 with
  | fl _=>refine sY pins s σ H x x v u Q I rx ry ⟨OX h,?_⟩;rw [bA rfl];exact q
 | @dc p e=>
  cases h2 with
  | @dc p' e'=>cases rx;cases ry;exact (OV (show bV X.prog X.w H s.heap p (.ext (iH p)) from I.ax p _ e).1 (show bV X.prog X.w H s.heap p' (.ext (iH p')) from I.ax p' _ e').1 (by lia)) _ _ _ _ ⟨.bl false,H,I,rfl,q⟩
 | @ls p xs ts e l h=>
  cases h2 with
  | @ls p' ys _ e' l' h'=>
   cases rx;cases ry;cases n with
   | zero=>exact zQ.elim
   | succ n=>
    obtain ⟨us,r1,t1,_⟩:=I.list (.of e);obtain ⟨vs,r2,t2,_⟩:=I.list (.of e');have l1:=r1.length;have l2:=r2.length;refine SeqAt.RcNeAt.lists (e:=fun _=>true) t1.isList t2.isList (by simp;lia) (by lia) (fun j z1 z2=>?_) _ _ _ _ ?_
    ·obtain ⟨x,y,ex,ey,rx,ry⟩:=zP r1 r2 (by simpa using z1) (by simpa using z2)
     have jt:j<ts.length:=by have:=(bW.mp ex).1;lia
     exact GW I n X.A.in1 ts[j] x y _ _ (zQ _ (cy jt)) (h j x _ ex (by simp [jt])) (h' j y _ ey (by simp [jt])) rx ry (by rw [nZ];lia)
    ·rw [all_range]
     exact ⟨.bl false,H,I,rfl,q⟩
 | @tp p xs ts e l h=>
  cases h2 with
  | @tp p' ys _ e' l' h'=>
   cases rx;cases ry;cases n with
   | zero=>exact zQ.elim
   | succ n=>
    obtain ⟨us,r1,t1,_⟩:=I.tuple (.of e);obtain ⟨vs,r2,t2,_⟩:=I.tuple (.of e');have l1:=r1.length;have l2:=r2.length;refine SeqAt.RcNeAt.tuples (e:=fun _=>true) t1 t2 (by lia) (fun j z1 z2=>?_) _ _ _ _ ?_
    ·obtain ⟨x,y,ex,ey,rx,ry⟩:=zP r1 r2 (by simpa using z1) (by simpa using z2)
     have jt:j<ts.length:=by have:=(bW.mp ex).1;lia
     exact GW I n X.A.in1 ts[j] x y _ _ (zQ _ (cy jt)) (h j x _ ex (by simp [jt])) (h' j y _ ey (by simp [jt])) rx ry (by rw [nZ];lia)
    ·have e3:(us.toArray.size == vs.toArray.size)=true:=by simp;lia
     rw [all_range,e3];exact ⟨.bl false,H,I,rfl,q⟩
end L2
namespace My
open PySem PySem.W PyProof.Rows
section
variable {n:Nat} {c:Nat→Int}
def lG(n:Nat)(p:Array Nat):Prop:=p.Perm (List.toArray (List.range n))
theorem lG.size{p:Array Nat}(h:lG n p):p.size=n:=by rw [Array.Perm.size_eq h];simp
def vN(c:Nat→Int)(p:Array Nat)(i:Nat):Int:=c (p.getD i 0)
def oJ(c:Nat→Int)(p:Array Nat)(k:Nat):Prop:=∀a b,a≤b→b<k→vN c p a≤vN c p b
end
end My
namespace Tm
open PySem PySem.W PyProof.Rows
def oK:Bool→Keyed→Array Keyed→Nat→Nat→Nat→StateT SortSt Sem (Option Nat):=sortPriv% PySem.Builtin.gallop
def xh:Nat→StateT SortSt Sem Unit:=sortPriv% PySem.Builtin.setMinGallop
def CF:Array Keyed→Array Keyed→StateT SortSt Sem (Array Keyed):=sortPriv% PySem.Builtin.mergeLo
def CG:Array Keyed→Array Keyed→StateT SortSt Sem (Array Keyed):=sortPriv% PySem.Builtin.mergeHi
def qx(left:Bool)(key:Keyed)(arr:Array Keyed)(base i:Nat):StateT SortSt Sem (Option Bool):=do
 let x ←elem' arr (base+i)
 if left then lt' x key else return (←lt' key x).map (!·)
theorem OZ(left:Bool)(key:Keyed)(arr:Array Keyed)(base n hint:Nat):oK left key arr base n hint=(do
 let mut zR:=0
 let mut bu:=1
 let mut lo:=0
 let mut hi:=0
 let some right ←qx left key arr base hint | return none
 if right then
  let xi:=n-hint
  for _ in [0:n] do
   if bu≥xi then break
   let some more ←qx left key arr base (hint+bu) | return none
   if !more then break
   zR:=bu
   bu:=2*bu+1
  lo:=hint+zR+1
  hi:=hint+min bu xi
 else
  let xi:=hint+1
  for _ in [0:n] do
   if bu≥xi then break
   let some found ←qx left key arr base (hint-bu) | return none
   if found then break
   zR:=bu
   bu:=2*bu+1
  lo:=hint+1-min bu xi
  hi:=hint-zR
 for _ in [0:n] do
  if lo≥hi then break
  let m:=lo+(hi-lo) / 2
  let some more ←qx left key arr base m | return none
  if more then lo:=m+1 else hi:=m
 return some hi):=rfl
section
variable {prog:Program} {w:World} {A:Around} {E:aR} {s:Shared} {κ:SortKind} {key:Keyed→Int} {Ok:Keyed→Prop}
def jL(prog:Program)(w:World)(A:Around)(s:Shared)(κ:SortKind)(key:Keyed→Int)(Ok:Keyed→Prop):Prop:=
 ∀x y,Ok x→Ok y→∀C:Bool→Shared→Prop,C (decide (key x<key y)) s→wpAny (model prog w) A (keyLt' κ x.1 y.1) C (fun _ _=>False) s
variable {Q:Option Bool→SortSt→Prop}
theorem xj(h:jL prog w A s κ key Ok){x y:Keyed}(ox:Ok x)(oy:Ok y){st:SortSt}(hk:kindOf st=κ)(q:Q (some (decide (key x<key y))) st):wpS (model prog w) A E s (lt' x y) Q st:=by rw [lt'_eq];refine ar (i3 ?_);rw [hk];refine ar (wpS_lift (wpAny_attempt (cS (h x y ox oy (fun c s'=>s'=s∧wpS (model prog w) A E s (pure (some c)) Q st) ⟨rfl,aq q⟩) (fun c s' hc=>?_) fun _ _ hF=>hF.elim)));exact hc
def nn:Keyed:=(Value.none,Value.none)
variable {arr:Array Keyed} {i:Nat}
theorem bE(hi:i<arr.size){st:SortSt}{Q:Keyed→SortSt→Prop}(q:Q (arr.getD i nn) st):wpS (model prog w) A E s (elem' arr i) Q st:=by
 rw [elem'_eq];have e:arr[i]?=some (arr.getD i nn):=by simp [Array.getD,hi]
 rw [e];exact aq q
def ft(Ok:Keyed→Prop)(arr:Array Keyed):Prop:=∀i,i<arr.size→Ok (arr.getD i nn)
def bB(left:Bool)(k a:Int):Bool:=if left=true then decide (a<k) else !decide (k<a)
variable {left:Bool} {kx:Keyed} {base:Nat}
theorem iJ(h:jL prog w A s κ key Ok)(hi:base+i<arr.size)(ha:ft Ok arr)(ox:Ok kx){st:SortSt}(hk:kindOf st=κ)(q:Q (some (bB left (key kx) (key (arr.getD (base+i) nn)))) st):wpS (model prog w) A E s (qx left kx arr base i) Q st:=by
 unfold qx;refine ar (bE hi ?_);unfold bB at q;cases left with
 | true=>rw [ae rfl] at q ⊢;exact xj h (ha _ hi) ox hk q
 | false=>
  rw [aa (by simp)] at q ⊢
  exact ar (xj h ox (ha _ hi) hk (aq q))
theorem iK{n hint:Nat}{f:Nat→Bool}{st:SortSt}
  (hb:∀i,i<n→∀Q:Option Bool→SortSt→Prop,Q (some (f i)) st→wpS (model prog w) A E s (qx left kx arr base i) Q st)
  (hh:hint<n) (mono:∀i j,i≤j→j<n→f j=true→f i=true) {Q:Option Nat→SortSt→Prop}
  (k:∀m,m≤n→(∀i,i<m→f i=true)→(∀i,m≤i→i<n→f i=false)→Q (some m) st):wpS (model prog w) A E s (oK left kx arr base n hint) Q st:=by
 rw [OZ];refine ar (hb hint hh _ ?_);dsimp only;have CH:∀i j,i≤j→j<n→f i=false→f j=false:=fun i j h1 h2 h3=>by
  cases e:f j with
  | false=>rfl
  | true=>rw [mono i j h1 h2 e] at h3;cases h3
 have bs:∀(lo hi:Nat) (body:Nat→Option (Option Nat)×Nat×Nat→StateT SortSt Sem (ForInStep (Option (Option Nat)×Nat×Nat))) (R:Option (Option Nat)×Nat×Nat→SortSt→Prop),lo≤hi→hi≤n→(∀i,i<lo→f i=true)→(∀i,hi≤i→i<n→f i=false)→
   (∀x lo hi (R:ForInStep (Option (Option Nat)×Nat×Nat)→SortSt→Prop),lo≥hi→R (.done (none,lo,hi)) st→wpS (model prog w) A E s (body x (none,lo,hi)) R st)→
   (∀x lo hi (R:ForInStep (Option (Option Nat)×Nat×Nat)→SortSt→Prop),lo<hi→hi≤n→R (.yield (if f (lo+(hi-lo) / 2)=true then (none,lo+(hi-lo) / 2+1,hi) else (none,lo,lo+(hi-lo) / 2))) st→wpS (model prog w) A E s (body x (none,lo,hi)) R st)→
   (∀m,m≤n→(∀i,i<m→f i=true)→(∀i,m≤i→i<n→f i=false)→R (none,m,m) st)→
   wpS (model prog w) A E s (forIn [0:n] (none,lo,hi) body) R st:=fun lo hi body R h1 h2 h3 h4 b1 b2 kk=>by
  refine fI (I:=fun x c av=>av=st∧∃lo hi,c=(none,lo,hi)∧lo≤hi∧hi≤n∧hi-lo+x≤n∧(∀i,i<lo→f i=true)∧(∀i,hi≤i→i<n→f i=false)) ?_ ?_ ⟨rfl,lo,hi,rfl,h1,h2,by lia,h3,h4⟩
  ·rintro x c av _ hx ⟨rfl,lo,hi,rfl,g1,g2,g3,g4,g5⟩
   by_cases z:lo≥hi
   ·refine b1 x lo hi _ z ?_
    obtain rfl:lo=hi:=by lia
    exact kk lo g2 g4 g5
   ·refine b2 x lo hi _ (by lia) g2 ?_
    cases e:f (lo+(hi-lo) / 2) with
    | true=>rw [ae rfl];exact ⟨rfl,_,_,rfl,by lia,g2,by lia,fun i bw=>mono i (lo+(hi-lo) / 2) (by lia) (by lia) e,g5⟩
    | false=>
     rw [aa (by simp)]
     exact ⟨rfl,_,_,rfl,by lia,by lia,by lia,g4,fun i h1 h2=>CH (lo+(hi-lo) / 2) i h1 h2 e⟩
  ·rintro c av ⟨rfl,lo,hi,rfl,g1,g2,g3,g4,g5⟩
   have:lo=hi:=by
    have:max 0 n=n:=by lia
    lia
   subst this;exact kk lo g2 g4 g5
 cases e:f hint with
 | true=>
  rw [ae rfl]
  refine ar (fZ (fI (I:=fun x c av=>av=st∧∃la bu,c=(none,la,bu)∧x+1≤bu∧la<bu∧la<n-hint∧f (hint+la)=true)
   (Q:=fun c av=>av=st∧∃la bu,c=(none,la,bu)∧la<bu∧la<n-hint∧f (hint+la)=true∧(bu≥n-hint∨f (hint+bu)=false)) ?_ ?_ ⟨rfl,0,1,rfl,ay _,by lia,by lia,by simpa using e⟩) ?_)
  ·rintro x c av _ hx ⟨rfl,la,bu,rfl,g1,g2,g3,g4⟩
   dsimp only;by_cases z:bu≥n-hint
   ·rw [ae z]
    exact aq ⟨rfl,la,bu,rfl,g2,g3,g4,.inl z⟩
   ·rw [aa z]
    refine ar (hb _ (by lia) _ ?_)
    dsimp only;cases e':f (hint+bu) with
    | true=>
     rw [aa (by simp)]
     exact aq ⟨rfl,_,_,rfl,by lia,by lia,by lia,e'⟩
    | false=>
     rw [ae (by simp)]
     exact aq ⟨rfl,la,bu,rfl,g2,g3,g4,.inr e'⟩
  ·rintro c av ⟨rfl,la,bu,rfl,g1,g2,g3,g4⟩
   have:max 0 n=n:=by lia
   exact ⟨rfl,la,bu,rfl,g2,g3,g4,.inl (by lia)⟩
  ·rintro c av ⟨rfl,la,bu,rfl,g2,g3,g4,g5⟩
   refine ar (bs (hint+la+1) (hint+min bu (n-hint)) _ _ (by lia) (by lia) (fun i hi=>mono i (hint+la) (by lia) (by lia) g4) (fun i h1 h2=>?_) ?_ ?_ ?_)
   ·rcases g5 with g5 | g5
    ·lia
    ·by_cases z:bu≥n-hint
     ·lia
     ·exact CH (hint+bu) i (by lia) h2 g5
   ·intro x lo hi R z hR
    dsimp only;rw [ae z];exact aq hR
   ·intro x lo hi R z z2 hR
    dsimp only;rw [aa (by lia)]
    refine ar (hb _ (by lia) _ ?_)
    dsimp only;cases e:f (lo+(hi-lo) / 2) with
    | true=>rw [e,ae rfl] at hR;rw [ae rfl];exact aq hR
    | false=>
     rw [e,aa (by simp)] at hR
     rw [aa (by simp)]
     exact aq hR
   ·exact fun m m1 m2 m3=>aq (k m m1 m2 m3)
 | false=>
  rw [aa (by simp)]
  refine ar (fZ (fI (I:=fun x c av=>av=st∧∃la bu,c=(none,la,bu)∧x+1≤bu∧la<bu∧la≤hint∧f (hint-la)=false)
   (Q:=fun c av=>av=st∧∃la bu,c=(none,la,bu)∧la<bu∧la≤hint∧f (hint-la)=false∧(bu≥hint+1∨f (hint-bu)=true)) ?_ ?_ ⟨rfl,0,1,rfl,ay _,by lia,by lia,by simpa using e⟩) ?_)
  ·rintro x c av _ hx ⟨rfl,la,bu,rfl,g1,g2,g3,g4⟩
   dsimp only;by_cases z:bu≥hint+1
   ·rw [ae z]
    exact aq ⟨rfl,la,bu,rfl,g2,g3,g4,.inl z⟩
   ·rw [aa z]
    refine ar (hb _ (by lia) _ ?_)
    dsimp only;cases e':f (hint-bu) with
    | true=>rw [ae rfl];exact aq ⟨rfl,la,bu,rfl,g2,g3,g4,.inr e'⟩
    | false=>
     rw [aa (by simp)]
     exact aq ⟨rfl,_,_,rfl,by lia,by lia,by lia,e'⟩
  ·rintro c av ⟨rfl,la,bu,rfl,g1,g2,g3,g4⟩
   have:max 0 n=n:=by lia
   exact ⟨rfl,la,bu,rfl,g2,g3,g4,.inl (by lia)⟩
  ·rintro c av ⟨rfl,la,bu,rfl,g2,g3,g4,g5⟩
   refine ar (bs (hint+1-min bu (hint+1)) (hint-la) _ _ (by lia) (by lia) (fun i hi=>?_) (fun i h1 h2=>CH (hint-la) i (by lia) h2 g4) ?_ ?_ ?_)
   ·rcases g5 with g5 | g5
    ·lia
    ·by_cases z:bu≥hint+1
     ·lia
     ·exact mono i (hint-bu) (by lia) (by lia) g5
   ·intro x lo hi R z hR
    dsimp only;rw [ae z];exact aq hR
   ·intro x lo hi R z z2 hR
    dsimp only;rw [aa (by lia)]
    refine ar (hb _ (by lia) _ ?_)
    dsimp only;cases e:f (lo+(hi-lo) / 2) with
    | true=>rw [e,ae rfl] at hR;rw [ae rfl];exact aq hR
    | false=>
     rw [e,aa (by simp)] at hR
     rw [aa (by simp)]
     exact aq hR
   ·exact fun m m1 m2 m3=>aq (k m m1 m2 m3)
end
def bj(K:Keyed→Int)(l:List Keyed):Prop:=l.Pairwise fun x y=>K x≤K y
variable {K:Keyed→Int} {l:List Keyed}
theorem bj.take(h:bj K l)(k:Nat):bj K (l.take k):=List.Pairwise.sublist (List.take_sublist k l) h
theorem bj.drop(h:bj K l)(k:Nat):bj K (l.drop k):=List.Pairwise.sublist (List.drop_sublist k l) h
variable {m:List Keyed}
theorem bj.app(h:bj K l)(h':bj K m)(k:∀x∈l,∀y∈m,K x≤K y):bj K (l++m):=List.pairwise_append.mpr ⟨h,h',k⟩
structure MI (K:Keyed→Int) (A B O:List Keyed) (i j:Nat):Prop where
 pm:O.Perm (A.take i++B.take j)
 so:bj K O
 ca:∀x∈O,∀y∈A.drop i,K x≤K y
 cb:∀x∈O,∀y∈B.drop j,K x≤K y
variable {A B O:List Keyed} {i j:Nat}
theorem MI.flip(h:MI K A B O i j):MI K B A O j i:=⟨h.pm.trans pP,h.so,h.cb,h.ca⟩
theorem MI.zS(h:MI K A B O i j)(sA:bj K A)(k:Nat)(hk:∀x∈(A.drop i).take k,∀y∈B.drop j,K x≤K y):MI K A B (O++(A.drop i).take k) (i+k) j:=by
 have e:A.take (i+k)=A.take i++(A.drop i).take k:=List.take_add;have d:A.drop (i+k)=(A.drop i).drop k:=by rw [List.drop_drop]
 have sd:=sA.drop i;have sp:(A.drop i).take k++(A.drop i).drop k=A.drop i:=n4 ..;have cr:∀x∈(A.drop i).take k,∀y∈(A.drop i).drop k,K x≤K y:=by have:=sd;rw [←sp] at this;exact (List.pairwise_append.mp this).2.2
 refine ⟨?_,h.so.app (sd.take k) fun x hx y hy=>h.ca x hx y (List.mem_of_mem_take hy),fun x hx y hy=>?_,fun x hx y hy=>?_⟩
 ·rw [e]
  refine (h.pm.append_right _).trans ?_;rw [fF,fF];exact BN _ pP
 ·rw [d] at hy
  rcases cY.mp hx with hx | hx;·exact h.ca x hx y (List.mem_of_mem_drop hy)
  ·exact cr x hx y hy
 ·rcases cY.mp hx with hx | hx
  ·exact h.cb x hx y hy
  ·exact hk x hx y hy
theorem MI.CI(h:MI K A B O i j)(sB:bj K B)(k:Nat)(hk:∀x∈(B.drop j).take k,∀y∈A.drop i,K x≤K y):MI K A B (O++(B.drop j).take k) i (j+k):=(h.flip.zS sB k hk).flip
theorem MI.done(h:MI K A B O i j)(sA:bj K A)(sB:bj K B)(k:∀x∈A.drop i,∀y∈B.drop j,K x≤K y):(O++A.drop i++B.drop j).Perm (A++B)∧bj K (O++A.drop i++B.drop j):=by
 refine ⟨?_,(h.so.app (sA.drop i) h.ca).app (sB.drop j) fun x hx y hy=>?_⟩
 ·have e1:A.take i++A.drop i=A:=n4 ..
  have e2:B.take j++B.drop j=B:=n4 ..;have:(A.take i++B.take j++A.drop i++B.drop j).Perm ((A.take i++A.drop i)++(B.take j++B.drop j)):=by rw [fF,fF,fF];refine BN _ ?_;rw [←fF,←fF];exact List.Perm.append_right _ pP
  rw [e1,e2] at this;exact ((h.pm.append_right _).append_right _).trans this
 ·rcases cY.mp hx with hx | hx
  ·exact h.cb x hx y hy
  ·exact k x hx y hy
theorem MI.GX(h:MI K A B O i j)(sA:bj K A)(sB:bj K B)(k:∀x∈A.drop i,∀y∈B.drop j,K y≤K x):(O++B.drop j++A.drop i).Perm (A++B)∧bj K (O++B.drop j++A.drop i):=by have:=h.flip.done sB sA fun x hx y hy=>k y hy x hx;exact ⟨this.1.trans pP,this.2⟩
theorem O0(a b:Array Keyed):CF a b=(do
 rule "list.sort.merge-lo"
 let total:=a.size+b.size
 let done (out:Array Keyed) (ia ib:Nat):=out++a.extract ia a.size++b.extract ib b.size
 let zT (out:Array Keyed) (ia ib:Nat):=out++b.extract ib b.size++a.extract ia a.size
 let mut out:Array Keyed:=#[←elem' b 0]
 let mut ia:=0
 let mut ib:=1
 if ib == b.size then return done out ia ib
 if ia+1 == a.size then return zT out ia ib
 let mut minGallop:=gallopOf (←get)
 for _ in [0:total] do
  let mut jh:=0
  let mut jj:=0
  for _ in [0:total] do
   let some O1 ←lt' (←elem' b ib) (←elem' a ia) | return done out ia ib
   if O1 then
    out:=out.push (←elem' b ib);ib:=ib+1;jj:=jj+1;jh:=0
    if ib == b.size then return done out ia ib
    if jj≥minGallop then break
   else
    out:=out.push (←elem' a ia);ia:=ia+1;jh:=jh+1;jj:=0
    if ia+1 == a.size then return zT out ia ib
    if jh≥minGallop then break
  rule "list.sort.gallop"
  minGallop:=minGallop+1
  for _ in [0:total] do
   if minGallop>1 then minGallop:=minGallop-1
   xh minGallop
   let some k ←oK false (←elem' b ib) a ia (a.size-ia) 0 | return done out ia ib
   jh:=k
   if k>0 then
    out:=out++a.extract ia (ia+k);ia:=ia+k
    if ia+1 == a.size then return zT out ia ib
    if ia == a.size then return done out ia ib
   out:=out.push (←elem' b ib);ib:=ib+1
   if ib == b.size then return done out ia ib
   let some k ←oK true (←elem' a ia) b ib (b.size-ib) 0 | return done out ia ib
   jj:=k
   if k>0 then
    out:=out++b.extract ib (ib+k);ib:=ib+k
    if ib == b.size then return done out ia ib
   out:=out.push (←elem' a ia);ia:=ia+1
   if ia+1 == a.size then return zT out ia ib
   if jh<7 && jj<7 then break
  minGallop:=minGallop+1
  xh minGallop
 unsupported "internal:list.sort.merge-bound"):=rfl
section
variable {prog:Program} {w:World} {A:Around} {E:aR} {s:Shared} {κ:SortKind} {key:Keyed→Int} {Ok:Keyed→Prop}
def setG(st:SortSt)(g:Nat):SortSt:=SortSt.mk' (kindOf st) (arrOf st) (pendingOf st) g (failedOf st)
variable {a:Array Keyed}
theorem xl(hi:i<a.size):(a.toList.drop i).take 1=[a.getD i nn]:=by
 have hl:i<a.toList.length:=by simpa using hi
 rw [BO hl];simp [Array.getD,hi]
theorem jM(a:Array Keyed)(i j:Nat):(a.extract i j).toList=(a.toList.drop i).take (j-i):=by rw [Array.toList_extract,List.extract_eq_take_drop]
theorem zU(a:Array Keyed)(i:Nat):(a.extract i a.size).toList=a.toList.drop i:=by rw [jM];refine yM ?_;simp
variable {x:Keyed}
theorem qy(h:x∈a.toList.drop i):∃j,i≤j∧j<a.size∧x=a.getD j nn:=by
 obtain ⟨j,hj,rfl⟩:=sJ h;have dH:i+j<a.size:=by simp at hj;lia
 refine ⟨i+j,by lia,dH,?_⟩
 rw [List.getElem_drop];simp [Array.getD,dH]
theorem CJ{k:Nat}(h:x∈(a.toList.drop i).take k):∃j,j<k∧i+j<a.size∧x=a.getD (i+j) nn:=by
 obtain ⟨j,hj,rfl⟩:=sJ h;have dH:i+j<a.size∧j<k:=by simp at hj;lia
 refine ⟨j,dH.2,dH.1,?_⟩;rw [List.getElem_take,List.getElem_drop];simp [Array.getD,dH.1]
theorem fR(h:bj key a.toList)(CK:i≤j)(hj:j<a.size):key (a.getD i nn)≤key (a.getD j nn):=by
 have hi:i<a.size:=by lia
 by_cases e:i=j;·subst e;exact md _
 ·have:=sL.mp h i j (by simpa using hi) (by simpa using hj) (by lia)
  simpa [Array.getD,hi,hj] using this
theorem eV{c:Prop}[Decidable c]{α:Type}{m1 m2:StateT SortSt Sem α}{Q:α→SortSt→Prop}{st:SortSt}(h1:c→wpS (model prog w) A E s m1 Q st)(h2:¬c→wpS (model prog w) A E s m2 Q st):wpS (model prog w) A E s (if c then m1 else m2) Q st:=by
 by_cases h:c;·rw [ae h];exact h1 h
 ·rw [aa h];exact h2 h
theorem tM{st:SortSt}{g:Nat}{Q:Unit→SortSt→Prop}(q:Q () (setG st g)):wpS (model prog w) A E s (xh g) Q st:=j7 q
variable {k:Int}
theorem gU{a:Int}(h:bB true k a=true):a<k:=eR h
theorem iL{a:Int}(h:bB true k a=false):k≤a:=Int.not_lt.mp (of_decide_eq_false h)
theorem lH{a:Int}(h:bB false k a=true):a≤k:=by have:(!decide (k<a))=true:=h;simpa using this
theorem oO{a:Int}(h:bB false k a=false):k<a:=by have:(!decide (k<a))=false:=h;simpa using this
variable {b:Array Keyed} {o:Nat}
theorem oP(sb:bj key b.toList):∀i j,i≤j→j<b.size-o→bB true k (key (b.getD (o+j) nn))=true→bB true k (key (b.getD (o+i) nn))=true:=fun i j h1 h2 h3=>bA (Int.lt_of_le_of_lt (fR sb (by lia) (by lia)) (gU h3))
theorem zW(sb:bj key b.toList):∀i j,i≤j→j<b.size-o→bB false k (key (b.getD (o+j) nn))=true→bB false k (key (b.getD (o+i) nn))=true:=fun i j h1 h2 h3=>by
 have:key (b.getD (o+i) nn)≤k:=dA (fR sb (by lia) (by lia)) (lH h3)
 show (!decide (k<key (b.getD (o+i) nn)))=true;simpa using this
section
variable {a b:Array Keyed} (sa:bj key a.toList) (sb:bj key b.toList) {out:Array Keyed} {ia ib:Nat}
include sa sb
theorem tN(m:MI key a.toList b.toList out.toList ia ib)(hb:ib<b.size)(k:∀j,ia≤j→j<a.size→key (b.getD ib nn)≤key (a.getD j nn)):MI key a.toList b.toList (out.push (b.getD ib nn)).toList ia (ib+1):=by
 have:=m.CI sb 1 fun x hx y hy=>by rw [xl hb,bI] at hx;subst hx;obtain ⟨j,h1,h2,rfl⟩:=qy hy;exact k j h1 h2
 rw [xl hb] at this;rw [n5];exact this
theorem mS(m:MI key a.toList b.toList out.toList ia ib)(ha:ia<a.size)(k:∀j,ib≤j→j<b.size→key (a.getD ia nn)≤key (b.getD j nn)):MI key a.toList b.toList (out.push (a.getD ia nn)).toList (ia+1) ib:=by
 have:=m.zS sa 1 fun x hx y hy=>by rw [xl ha,bI] at hx;subst hx;obtain ⟨j,h1,h2,rfl⟩:=qy hy;exact k j h1 h2
 rw [xl ha] at this;rw [n5];exact this
variable {n:Nat}
theorem GY(m:MI key a.toList b.toList out.toList ia ib)(k:∀i j,i<n→ia+i<a.size→ib≤j→j<b.size→key (a.getD (ia+i) nn)≤key (b.getD j nn)):MI key a.toList b.toList (out++a.extract ia (ia+n)).toList (ia+n) ib:=by
 have:=m.zS sa n fun x hx y hy=>by obtain ⟨i,h3,h4,rfl⟩:=CJ hx;obtain ⟨j,h1,h2,rfl⟩:=qy hy;exact k i j h3 h4 h1 h2
 rw [kO,jM,show ia+n-ia=n by lia]
 exact this
theorem zX(m:MI key a.toList b.toList out.toList ia ib)(k:∀i j,i<n→ib+i<b.size→ia≤j→j<a.size→key (b.getD (ib+i) nn)≤key (a.getD j nn)):MI key a.toList b.toList (out++b.extract ib (ib+n)).toList ia (ib+n):=by
 have:=m.CI sb n fun x hx y hy=>by obtain ⟨i,h3,h4,rfl⟩:=CJ hx;obtain ⟨j,h1,h2,rfl⟩:=qy hy;exact k i j h3 h4 h1 h2
 rw [kO,jM,show ib+n-ib=n by lia]
 exact this
theorem jN(m:MI key a.toList b.toList out.toList ia ib)(e:ib=b.size∨ia=a.size):(out++a.extract ia a.size++b.extract ib b.size).toList.Perm (a.toList++b.toList)∧bj key (out++a.extract ia a.size++b.extract ib b.size).toList:=by rw [kO,kO,zU,zU];refine m.done sa sb fun x hx y hy=>?_;obtain ⟨i,h1,h2,_⟩:=qy hx;obtain ⟨j,h3,h4,_⟩:=qy hy;lia
theorem jO(m:MI key a.toList b.toList out.toList ia ib)(hl:∀y∈b.toList,key y≤key (a.getD (a.size-1) nn))(e:ia+1=a.size):(out++b.extract ib b.size++a.extract ia a.size).toList.Perm (a.toList++b.toList)∧bj key (out++b.extract ib b.size++a.extract ia a.size).toList:=by
 rw [kO,kO,zU,zU];refine m.GX sa sb fun x hx y hy=>?_;obtain ⟨i,h1,h2,rfl⟩:=qy hx;have:=hl y (List.mem_of_mem_drop hy);rw [show i=a.size-1 by lia]
 exact this
end
theorem O2(h:jL prog w A s κ key Ok)(oa:ft Ok a)(ob:ft Ok b)(sa:bj key a.toList)(sb:bj key b.toList)(a1:1≤a.size)(b1:1≤b.size)
  (h0:∀x∈a.toList,key (b.getD 0 nn)≤key x) (hl:∀y∈b.toList,key y≤key (a.getD (a.size-1) nn)) {st:SortSt} (hk:kindOf st=κ) {Q:Array Keyed→SortSt→Prop}
  (q:∀m g,m.toList.Perm (a.toList++b.toList)→bj key m.toList→Q m (setG st g)):wpS (model prog w) A E s (CF a b) Q st:=by
 rw [O0];refine ar (wpS_lift (n6 ⟨rfl,?_⟩));refine ar (bE (by lia) ?_)
 dsimp only;have m0:MI key a.toList b.toList (#[b.getD 0 nn]:Array Keyed).toList 0 1:=by
  have:MI key a.toList b.toList (#[]:Array Keyed).toList 0 0:=⟨by simp,List.Pairwise.nil,fun x hx=>by simp at hx,fun x hx=>by simp at hx⟩
  exact tN sa sb this (by lia) fun j _ hj=>h0 _ (by simp [Array.getD,hj])
 have fS:∀g,kindOf (setG st g)=κ:=fun _=>hk;by_cases e1:(1 == b.size)=true
 ·rw [ae e1]
  have:=jN sa sb m0 (.inl (eq_of_beq e1));exact aq (q _ (gallopOf st) this.1 this.2)
 rw [aa e1];by_cases e2:(0+1 == a.size)=true
 ·rw [ae e2]
  have:=jO sa sb m0 hl (eq_of_beq e2);exact aq (q _ (gallopOf st) this.1 this.2)
 rw [aa e2];have b2:1<b.size:=by
  have:1≠b.size:=fun e=>e1 (by simp [←e])
  lia
 have a2:0+1<a.size:=by
  have:0+1≠a.size:=fun e=>e2 (by simp [←e])
  lia
 refine ar (i3 ?_)
 refine ar (fZ (fI (I:=fun x c av=>∃out ia ib mg g,c=(none,out,ia,ib,mg)∧av=setG st g∧MI key a.toList b.toList out.toList ia ib∧ia+1<a.size∧ib<b.size∧x≤ia+ib)
  (Q:=fun c av=>∃m g,c.1=some m∧av=setG st g∧m.toList.Perm (a.toList++b.toList)∧bj key m.toList) ?_ ?_ ⟨_,_,_,_,gallopOf st,rfl,rfl,m0,a2,b2,bU _⟩) ?_)
 ·rintro x c av _ hx ⟨out,ia,ib,mg,g,rfl,rfl,mi,ha,hb,qz⟩
  dsimp only
  refine ar (fZ (fI (I:=fun y c av=>∃out gD gW ac bc,c=(none,out,gD,gW,ac,bc)∧av=setG st g∧MI key a.toList b.toList out.toList gD gW∧gD+1<a.size∧gW<b.size∧ia+ib+y≤gD+gW)
   (Q:=fun c av=>av=setG st g∧((∃m,c.1=some m∧m.toList.Perm (a.toList++b.toList)∧bj key m.toList)∨∃out gD gW ac bc,c=(none,out,gD,gW,ac,bc)∧MI key a.toList b.toList out.toList gD gW∧gD+1<a.size∧gW<b.size∧ia+ib+1≤gD+gW)) ?_ ?_ ⟨_,_,_,_,_,rfl,rfl,mi,ha,hb,ay _⟩) ?_)
  ·rintro y c av _ hy ⟨out,gD,gW,ac,bc,rfl,rfl,mi,ha,hb,gX⟩
   dsimp only;refine ar (bE hb (ar (bE (by lia) (ar (xj h (ob _ hb) (oa gD (by lia)) (fS _) ?_)))))
   dsimp only;by_cases z:key (b.getD gW nn)<key (a.getD gD nn)
   ·rw [bA z,ae rfl]
    refine ar (bE hb ?_);have gY:=tN sa sb mi hb fun j h1 h2=>dA (dh z) (fR sa h1 h2);by_cases z1:(gW+1 == b.size)=true
    ·rw [ae z1]
     exact aq ⟨rfl,.inl ⟨_,rfl,jN sa sb gY (.inl (eq_of_beq z1))⟩⟩
    ·rw [aa z1]
     have qw:gW+1≠b.size:=fun e=>z1 (by simp [←e])
     by_cases z2:bc+1≥mg
     ·rw [ae z2]
      exact aq ⟨rfl,.inr ⟨_,_,_,_,_,rfl,gY,ha,by lia,by lia⟩⟩
     ·rw [aa z2]
      exact aq ⟨_,_,_,_,_,rfl,rfl,gY,ha,by lia,by lia⟩
   ·rw [bH z,aa (by simp)]
    refine ar (bE (by lia) ?_)
    have gY:=mS sa sb mi (by lia) fun j h1 h2=>dA (Int.not_lt.mp z) (fR sb h1 h2)
    by_cases z1:(gD+1+1 == a.size)=true
    ·rw [ae z1]
     exact aq ⟨rfl,.inl ⟨_,rfl,jO sa sb gY hl (eq_of_beq z1)⟩⟩
    ·rw [aa z1]
     have qw:gD+1+1≠a.size:=fun e=>z1 (by simp [←e])
     by_cases z2:ac+1≥mg
     ·rw [ae z2]
      exact aq ⟨rfl,.inr ⟨_,_,_,_,_,rfl,gY,by lia,hb,by lia⟩⟩
     ·rw [aa z2]
      exact aq ⟨_,_,_,_,_,rfl,rfl,gY,by lia,hb,by lia⟩
  ·rintro c av ⟨out,gD,gW,ac,bc,rfl,rfl,mi,ha,hb,gX⟩
   exact ⟨rfl,.inr ⟨_,_,_,_,_,rfl,mi,ha,hb,by lia⟩⟩
  ·rintro c av ⟨rfl,⟨m,e,pm⟩ | ⟨out,gD,gW,ac,bc,rfl,mi,ha,hb,gX⟩⟩
   ·obtain ⟨c1,c2⟩:=c
    dsimp only at e;subst e;exact aq ⟨m,g,rfl,rfl,pm⟩
   ·dsimp only
    refine ar (wpS_lift (n6 ⟨rfl,?_⟩))
    refine ar (fZ (fI (I:=fun y c av=>∃out i j mg ac bc g,c=(none,out,i,j,mg,ac,bc)∧av=setG st g∧MI key a.toList b.toList out.toList i j∧i+1<a.size∧j<b.size∧x+1≤i+j)
     (Q:=fun c av=>(∃m g,c.1=some m∧av=setG st g∧m.toList.Perm (a.toList++b.toList)∧bj key m.toList)∨∃out i j mg ac bc g,c=(none,out,i,j,mg,ac,bc)∧av=setG st g∧MI key a.toList b.toList out.toList i j∧i+1<a.size∧j<b.size∧x+1≤i+j) ?_ ?_ ⟨_,_,_,_,_,_,g,rfl,rfl,mi,ha,hb,by lia⟩) ?_)
    ·clear mi ha hb gX
     rintro y c av _ hy ⟨out,ia,ib,mg,ac,bc,g,rfl,rfl,mi,ha,hb,gX⟩;dsimp only;rcases Nat.lt_or_ge 1 mg with zm | zm
     ·rw [ae zm]
      refine ar (tM ?_);refine ar (bE hb (ar (iK (f:=fun i=>bB false (key (b.getD ib nn)) (key (a.getD (ia+i) nn))) (fun i hi Q q=>iJ h (by lia) oa (ob _ hb) (fS _) q) (by lia) (zW sa) fun k k1 k2 k3=>?_)))
      dsimp only;by_cases zk:k>0
      ·rw [ae zk]
       have gZ:=GY sa sb mi (n:=k) fun i j hi bw hj dH=>dA (lH (k2 i hi)) (fR sb hj dH);by_cases w1:(ia+k+1 == a.size)=true
       ·rw [ae w1]
        exact aq (.inl ⟨_,_,rfl,rfl,jO sa sb gZ hl (eq_of_beq w1)⟩)
       ·rw [aa w1]
        have CL:ia+k+1≠a.size:=fun e=>w1 (by simp [←e])
        by_cases w2:(ia+k == a.size)=true
        ·rw [ae w2]
         exact aq (.inl ⟨_,_,rfl,rfl,jN sa sb gZ (.inr (eq_of_beq w2))⟩)
        ·rw [aa w2]
         have O3:ia+k≠a.size:=fun e=>w2 (by simp [←e])
         refine ar (bE hb ?_);have cE:=tN sa sb gZ hb fun j h1 h2=>by have:=oO (k3 (j-ia) (by lia) (by lia));rw [show ia+(j-ia)=j by lia] at this;exact dh this
         by_cases x1:(ib+1 == b.size)=true
         ·rw [ae x1]
          exact aq (.inl ⟨_,_,rfl,rfl,jN sa sb cE (.inl (eq_of_beq x1))⟩)
         ·rw [aa x1]
          have qA:ib+1≠b.size:=fun e=>x1 (by simp [←e])
          refine ar (bE (by lia) (ar (iK (f:=fun i=>bB true (key (a.getD (ia+k) nn)) (key (b.getD (ib+1+i) nn))) (fun i hi Q q=>iJ h (by lia) ob (oa _ (by lia)) (fS _) q) (by lia) (oP sb) fun k' q1 q2 q3=>?_)))
          dsimp only;by_cases ei:k'>0
          ·rw [ae ei]
           have dB:=zX sa sb cE (n:=k') fun i j hi bw hj dH=>dA (dh (gU (q2 i hi))) (fR sa hj dH);by_cases x2:(ib+1+k' == b.size)=true
           ·rw [ae x2]
            exact aq (.inl ⟨_,_,rfl,rfl,jN sa sb dB (.inl (eq_of_beq x2))⟩)
           ·rw [aa x2]
            have qB:ib+1+k'≠b.size:=fun e=>x2 (by simp [←e])
            refine ar (bE (by lia) ?_)
            have aV:=mS sa sb dB (by lia) fun j h1 h2=>by have:=iL (q3 (j-(ib+1)) (by lia) (by lia));rwa [show ib+1+(j-(ib+1))=j by lia] at this
            by_cases y1:(ia+k+1+1 == a.size)=true
            ·rw [ae y1]
             exact aq (.inl ⟨_,_,rfl,rfl,jO sa sb aV hl (eq_of_beq y1)⟩)
            ·rw [aa y1]
             have g6:ia+k+1+1≠a.size:=fun e=>y1 (by simp [←e])
             exact eV (fun _=>aq (.inr ⟨_,_,_,_,_,_,_,rfl,rfl,aV,by lia,by lia,by lia⟩)) (fun _=>aq ⟨_,_,_,_,_,_,_,rfl,rfl,aV,by lia,by lia,by lia⟩)
          ·rw [aa ei]
           obtain rfl:k'=0:=by lia
           refine ar (bE (by lia) ?_)
           have aV:=mS sa sb cE (by lia) fun j h1 h2=>by have:=iL (q3 (j-(ib+1)) (by lia) (by lia));rwa [show ib+1+(j-(ib+1))=j by lia] at this
           by_cases y1:(ia+k+1+1 == a.size)=true
           ·rw [ae y1]
            exact aq (.inl ⟨_,_,rfl,rfl,jO sa sb aV hl (eq_of_beq y1)⟩)
           ·rw [aa y1]
            have g6:ia+k+1+1≠a.size:=fun e=>y1 (by simp [←e])
            exact eV (fun _=>aq (.inr ⟨_,_,_,_,_,_,_,rfl,rfl,aV,by lia,by lia,by lia⟩)) (fun _=>aq ⟨_,_,_,_,_,_,_,rfl,rfl,aV,by lia,by lia,by lia⟩)
      ·rw [aa zk]
       obtain rfl:k=0:=by lia
       refine ar (bE hb ?_);have cE:=tN sa sb mi hb fun j h1 h2=>by have:=oO (k3 (j-ia) (by lia) (by lia));rw [show ia+(j-ia)=j by lia] at this;exact dh this
       by_cases x1:(ib+1 == b.size)=true
       ·rw [ae x1]
        exact aq (.inl ⟨_,_,rfl,rfl,jN sa sb cE (.inl (eq_of_beq x1))⟩)
       ·rw [aa x1]
        have qA:ib+1≠b.size:=fun e=>x1 (by simp [←e])
        refine ar (bE (by lia) (ar (iK (f:=fun i=>bB true (key (a.getD (ia) nn)) (key (b.getD (ib+1+i) nn))) (fun i hi Q q=>iJ h (by lia) ob (oa _ (by lia)) (fS _) q) (by lia) (oP sb) fun k' q1 q2 q3=>?_)))
        dsimp only;by_cases ei:k'>0
        ·rw [ae ei]
         have dB:=zX sa sb cE (n:=k') fun i j hi bw hj dH=>dA (dh (gU (q2 i hi))) (fR sa hj dH);by_cases x2:(ib+1+k' == b.size)=true
         ·rw [ae x2]
          exact aq (.inl ⟨_,_,rfl,rfl,jN sa sb dB (.inl (eq_of_beq x2))⟩)
         ·rw [aa x2]
          have qB:ib+1+k'≠b.size:=fun e=>x2 (by simp [←e])
          refine ar (bE (by lia) ?_)
          have aV:=mS sa sb dB (by lia) fun j h1 h2=>by have:=iL (q3 (j-(ib+1)) (by lia) (by lia));rwa [show ib+1+(j-(ib+1))=j by lia] at this
          by_cases y1:(ia+1+1 == a.size)=true
          ·rw [ae y1]
           exact aq (.inl ⟨_,_,rfl,rfl,jO sa sb aV hl (eq_of_beq y1)⟩)
          ·rw [aa y1]
           have g6:ia+1+1≠a.size:=fun e=>y1 (by simp [←e])
           exact eV (fun _=>aq (.inr ⟨_,_,_,_,_,_,_,rfl,rfl,aV,by lia,by lia,by lia⟩)) (fun _=>aq ⟨_,_,_,_,_,_,_,rfl,rfl,aV,by lia,by lia,by lia⟩)
        ·rw [aa ei]
         obtain rfl:k'=0:=by lia
         refine ar (bE (by lia) ?_)
         have aV:=mS sa sb cE (by lia) fun j h1 h2=>by have:=iL (q3 (j-(ib+1)) (by lia) (by lia));rwa [show ib+1+(j-(ib+1))=j by lia] at this
         by_cases y1:(ia+1+1 == a.size)=true
         ·rw [ae y1]
          exact aq (.inl ⟨_,_,rfl,rfl,jO sa sb aV hl (eq_of_beq y1)⟩)
         ·rw [aa y1]
          have g6:ia+1+1≠a.size:=fun e=>y1 (by simp [←e])
          exact eV (fun _=>aq (.inr ⟨_,_,_,_,_,_,_,rfl,rfl,aV,by lia,by lia,by lia⟩)) (fun _=>aq ⟨_,_,_,_,_,_,_,rfl,rfl,aV,by lia,by lia,by lia⟩)
     ·rw [aa (by lia)]
      refine ar (tM ?_);refine ar (bE hb (ar (iK (f:=fun i=>bB false (key (b.getD ib nn)) (key (a.getD (ia+i) nn))) (fun i hi Q q=>iJ h (by lia) oa (ob _ hb) (fS _) q) (by lia) (zW sa) fun k k1 k2 k3=>?_)))
      dsimp only;by_cases zk:k>0
      ·rw [ae zk]
       have gZ:=GY sa sb mi (n:=k) fun i j hi bw hj dH=>dA (lH (k2 i hi)) (fR sb hj dH);by_cases w1:(ia+k+1 == a.size)=true
       ·rw [ae w1]
        exact aq (.inl ⟨_,_,rfl,rfl,jO sa sb gZ hl (eq_of_beq w1)⟩)
       ·rw [aa w1]
        have CL:ia+k+1≠a.size:=fun e=>w1 (by simp [←e])
        by_cases w2:(ia+k == a.size)=true
        ·rw [ae w2]
         exact aq (.inl ⟨_,_,rfl,rfl,jN sa sb gZ (.inr (eq_of_beq w2))⟩)
        ·rw [aa w2]
         have O3:ia+k≠a.size:=fun e=>w2 (by simp [←e])
         refine ar (bE hb ?_);have cE:=tN sa sb gZ hb fun j h1 h2=>by have:=oO (k3 (j-ia) (by lia) (by lia));rw [show ia+(j-ia)=j by lia] at this;exact dh this
         by_cases x1:(ib+1 == b.size)=true
         ·rw [ae x1]
          exact aq (.inl ⟨_,_,rfl,rfl,jN sa sb cE (.inl (eq_of_beq x1))⟩)
         ·rw [aa x1]
          have qA:ib+1≠b.size:=fun e=>x1 (by simp [←e])
          refine ar (bE (by lia) (ar (iK (f:=fun i=>bB true (key (a.getD (ia+k) nn)) (key (b.getD (ib+1+i) nn))) (fun i hi Q q=>iJ h (by lia) ob (oa _ (by lia)) (fS _) q) (by lia) (oP sb) fun k' q1 q2 q3=>?_)))
          dsimp only;by_cases ei:k'>0
          ·rw [ae ei]
           have dB:=zX sa sb cE (n:=k') fun i j hi bw hj dH=>dA (dh (gU (q2 i hi))) (fR sa hj dH);by_cases x2:(ib+1+k' == b.size)=true
           ·rw [ae x2]
            exact aq (.inl ⟨_,_,rfl,rfl,jN sa sb dB (.inl (eq_of_beq x2))⟩)
           ·rw [aa x2]
            have qB:ib+1+k'≠b.size:=fun e=>x2 (by simp [←e])
            refine ar (bE (by lia) ?_)
            have aV:=mS sa sb dB (by lia) fun j h1 h2=>by have:=iL (q3 (j-(ib+1)) (by lia) (by lia));rwa [show ib+1+(j-(ib+1))=j by lia] at this
            by_cases y1:(ia+k+1+1 == a.size)=true
            ·rw [ae y1]
             exact aq (.inl ⟨_,_,rfl,rfl,jO sa sb aV hl (eq_of_beq y1)⟩)
            ·rw [aa y1]
             have g6:ia+k+1+1≠a.size:=fun e=>y1 (by simp [←e])
             exact eV (fun _=>aq (.inr ⟨_,_,_,_,_,_,_,rfl,rfl,aV,by lia,by lia,by lia⟩)) (fun _=>aq ⟨_,_,_,_,_,_,_,rfl,rfl,aV,by lia,by lia,by lia⟩)
          ·rw [aa ei]
           obtain rfl:k'=0:=by lia
           refine ar (bE (by lia) ?_)
           have aV:=mS sa sb cE (by lia) fun j h1 h2=>by have:=iL (q3 (j-(ib+1)) (by lia) (by lia));rwa [show ib+1+(j-(ib+1))=j by lia] at this
           by_cases y1:(ia+k+1+1 == a.size)=true
           ·rw [ae y1]
            exact aq (.inl ⟨_,_,rfl,rfl,jO sa sb aV hl (eq_of_beq y1)⟩)
           ·rw [aa y1]
            have g6:ia+k+1+1≠a.size:=fun e=>y1 (by simp [←e])
            exact eV (fun _=>aq (.inr ⟨_,_,_,_,_,_,_,rfl,rfl,aV,by lia,by lia,by lia⟩)) (fun _=>aq ⟨_,_,_,_,_,_,_,rfl,rfl,aV,by lia,by lia,by lia⟩)
      ·rw [aa zk]
       obtain rfl:k=0:=by lia
       refine ar (bE hb ?_);have cE:=tN sa sb mi hb fun j h1 h2=>by have:=oO (k3 (j-ia) (by lia) (by lia));rw [show ia+(j-ia)=j by lia] at this;exact dh this
       by_cases x1:(ib+1 == b.size)=true
       ·rw [ae x1]
        exact aq (.inl ⟨_,_,rfl,rfl,jN sa sb cE (.inl (eq_of_beq x1))⟩)
       ·rw [aa x1]
        have qA:ib+1≠b.size:=fun e=>x1 (by simp [←e])
        refine ar (bE (by lia) (ar (iK (f:=fun i=>bB true (key (a.getD (ia) nn)) (key (b.getD (ib+1+i) nn))) (fun i hi Q q=>iJ h (by lia) ob (oa _ (by lia)) (fS _) q) (by lia) (oP sb) fun k' q1 q2 q3=>?_)))
        dsimp only;by_cases ei:k'>0
        ·rw [ae ei]
         have dB:=zX sa sb cE (n:=k') fun i j hi bw hj dH=>dA (dh (gU (q2 i hi))) (fR sa hj dH);by_cases x2:(ib+1+k' == b.size)=true
         ·rw [ae x2]
          exact aq (.inl ⟨_,_,rfl,rfl,jN sa sb dB (.inl (eq_of_beq x2))⟩)
         ·rw [aa x2]
          have qB:ib+1+k'≠b.size:=fun e=>x2 (by simp [←e])
          refine ar (bE (by lia) ?_)
          have aV:=mS sa sb dB (by lia) fun j h1 h2=>by have:=iL (q3 (j-(ib+1)) (by lia) (by lia));rwa [show ib+1+(j-(ib+1))=j by lia] at this
          by_cases y1:(ia+1+1 == a.size)=true
          ·rw [ae y1]
           exact aq (.inl ⟨_,_,rfl,rfl,jO sa sb aV hl (eq_of_beq y1)⟩)
          ·rw [aa y1]
           have g6:ia+1+1≠a.size:=fun e=>y1 (by simp [←e])
           exact eV (fun _=>aq (.inr ⟨_,_,_,_,_,_,_,rfl,rfl,aV,by lia,by lia,by lia⟩)) (fun _=>aq ⟨_,_,_,_,_,_,_,rfl,rfl,aV,by lia,by lia,by lia⟩)
        ·rw [aa ei]
         obtain rfl:k'=0:=by lia
         refine ar (bE (by lia) ?_)
         have aV:=mS sa sb cE (by lia) fun j h1 h2=>by have:=iL (q3 (j-(ib+1)) (by lia) (by lia));rwa [show ib+1+(j-(ib+1))=j by lia] at this
         by_cases y1:(ia+1+1 == a.size)=true
         ·rw [ae y1]
          exact aq (.inl ⟨_,_,rfl,rfl,jO sa sb aV hl (eq_of_beq y1)⟩)
         ·rw [aa y1]
          have g6:ia+1+1≠a.size:=fun e=>y1 (by simp [←e])
          exact eV (fun _=>aq (.inr ⟨_,_,_,_,_,_,_,rfl,rfl,aV,by lia,by lia,by lia⟩)) (fun _=>aq ⟨_,_,_,_,_,_,_,rfl,rfl,aV,by lia,by lia,by lia⟩)
    ·rintro c av ⟨out,i,j,mg,ac,bc,g,rfl,rfl,mi,ha,hb,gX⟩
     exact .inr ⟨_,_,_,_,_,_,_,rfl,rfl,mi,ha,hb,gX⟩
    ·rintro c av (⟨m,g,e,rfl,pm⟩ | ⟨out,i,j,mg,ac,bc,g,rfl,rfl,mi,ha,hb,gX⟩)
     ·obtain ⟨c1,c2⟩:=c
      dsimp only at e;subst e;exact aq ⟨m,g,rfl,rfl,pm⟩
     ·dsimp only
      exact ar (tM (aq ⟨_,_,_,_,_,rfl,rfl,mi,ha,hb,by lia⟩))
 ·rintro c av ⟨out,ia,ib,mg,g,rfl,rfl,mi,ha,hb,qz⟩
  exfalso
  lia
 ·rintro c av ⟨m,g,e,rfl,pm,sm⟩
  obtain ⟨c1,c2⟩:=c;dsimp only at e;subst e;exact aq (q m g pm sm)
end
theorem O4(a b:Array Keyed):CG a b=(do
 rule "list.sort.merge-hi"
 let total:=a.size+b.size
 let done (out:Array Keyed) (na nb:Nat):=a.extract 0 na++b.extract 0 nb++out.reverse
 let zY (out:Array Keyed) (na nb:Nat):=b.extract 0 nb++a.extract 0 na++out.reverse
 let mut na:=a.size-1
 let mut nb:=b.size
 let mut out:Array Keyed:=#[←elem' a na]
 if na == 0 then return done out na nb
 if nb == 1 then return zY out na nb
 let mut minGallop:=gallopOf (←get)
 for _ in [0:total] do
  let mut jh:=0
  let mut jj:=0
  for _ in [0:total] do
   let some O5 ←lt' (←elem' b (nb-1)) (←elem' a (na-1)) | return done out na nb
   if O5 then
    na:=na-1;out:=out.push (←elem' a na);jh:=jh+1;jj:=0
    if na == 0 then return done out na nb
    if jh≥minGallop then break
   else
    nb:=nb-1;out:=out.push (←elem' b nb);jj:=jj+1;jh:=0
    if nb == 1 then return zY out na nb
    if jj≥minGallop then break
  rule "list.sort.gallop"
  minGallop:=minGallop+1
  for _ in [0:total] do
   if minGallop>1 then minGallop:=minGallop-1
   xh minGallop
   let some at_ ←oK false (←elem' b (nb-1)) a 0 na (na-1) | return done out na nb
   let k:=na-at_
   jh:=k
   if k>0 then
    out:=out++(a.extract at_ na).reverse;na:=at_
    if na == 0 then return done out na nb
   nb:=nb-1;out:=out.push (←elem' b nb)
   if nb == 1 then return zY out na nb
   let some at_ ←oK true (←elem' a (na-1)) b 0 nb (nb-1) | return done out na nb
   let k:=nb-at_
   jj:=k
   if k>0 then
    out:=out++(b.extract at_ nb).reverse;nb:=at_
    if nb == 1 then return zY out na nb
    if nb == 0 then return done out na nb
   na:=na-1;out:=out.push (←elem' a na)
   if na == 0 then return done out na nb
   if jh<7 && jj<7 then break
  minGallop:=minGallop+1
  xh minGallop
 unsupported "internal:list.sort.merge-bound"):=rfl
section
variable {key:Keyed→Int}
theorem tO(h:bj key l):bj (fun x=>-key x) l.reverse:=by unfold bj;rw [List.pairwise_reverse];exact List.Pairwise.imp (fun h=>Int.neg_le_neg h) h
theorem GZ(h:bj (fun x=>-key x) l):bj key l.reverse:=by unfold bj;rw [List.pairwise_reverse];exact List.Pairwise.imp (fun h=>Int.le_of_neg_le_neg h) h
variable {a:Array Keyed} {n:Nat}
theorem kr(h:n≤a.size):a.toList.reverse.drop (a.size-n)=(a.extract 0 n).toList.reverse:=by rw [List.drop_reverse,jM,List.drop_zero,Nat.sub_zero,gs,show a.size-(a.size-n)=n by lia]
theorem zZ{m:Nat}(h:n≤a.size)(hm:m≤n):(a.toList.reverse.drop (a.size-n)).take (n-m)=(a.extract m n).reverse.toList:=by rw [kr h,yN,jM,jM,List.drop_zero,Nat.sub_zero,List.take_reverse,nS,gs,show min n a.size-(n-m)=m by lia,List.drop_take]
theorem mT{m:Nat}(h:n≤a.size){x:Keyed}(hx:x∈(a.extract m n).toList):∃j,m≤j∧j<n∧x=a.getD j nn:=by rw [jM] at hx;obtain ⟨j,h1,h2,rfl⟩:=CJ hx;exact ⟨m+j,by lia,by lia,rfl⟩
theorem G0(h:n≤a.size)(h1:1≤n):(a.extract (n-1) n).reverse.toList=[a.getD (n-1) nn]:=by
 rw [yN,jM,show n-(n-1)=1 by lia,xl (by lia)]
 rfl
def MH(key:Keyed→Int)(a b out:Array Keyed)(na nb:Nat):Prop:=MI (fun x=>-key x) a.toList.reverse b.toList.reverse out.toList (a.size-na) (b.size-nb)∧na≤a.size∧nb≤b.size
variable {a b:Array Keyed} (sa:bj key a.toList) (sb:bj key b.toList) {out:Array Keyed} {na nb:Nat}
include sa sb
variable {k:Nat}
theorem CM(m:MH key a b out na nb)(hk:k≤na)(c:∀i j,k≤i→i<na→j<nb→key (b.getD j nn)≤key (a.getD i nn)):MH key a b (out++(a.extract k na).reverse) k nb:=by
 obtain ⟨m,ha,hb⟩:=m;refine ⟨?_,by lia,hb⟩
 have:=m.zS (tO sa) (na-k) fun x hx y hy=>by rw [zZ ha hk,yN,kP] at hx;rw [kr hb,kP] at hy;obtain ⟨i,i1,i2,rfl⟩:=mT ha hx;obtain ⟨j,j1,j2,rfl⟩:=mT hb hy;have:=c i j i1 i2 j2;lia
 rw [zZ ha hk,show a.size-na+(na-k)=a.size-k by lia] at this
 rw [kO];exact this
theorem xm(m:MH key a b out na nb)(hk:k≤nb)(c:∀i j,k≤i→i<nb→j<na→key (a.getD j nn)≤key (b.getD i nn)):MH key a b (out++(b.extract k nb).reverse) na k:=by
 obtain ⟨m,ha,hb⟩:=m;refine ⟨?_,ha,by lia⟩
 have:=m.CI (tO sb) (nb-k) fun x hx y hy=>by rw [zZ hb hk,yN,kP] at hx;rw [kr ha,kP] at hy;obtain ⟨i,i1,i2,rfl⟩:=mT hb hx;obtain ⟨j,j1,j2,rfl⟩:=mT ha hy;have:=c i j i1 i2 j2;lia
 rw [zZ hb hk,show b.size-nb+(nb-k)=b.size-k by lia] at this
 rw [kO];exact this
theorem lI(m:MH key a b out na nb)(h1:1≤na)(c:∀j,j<nb→key (b.getD j nn)≤key (a.getD (na-1) nn)):MH key a b (out.push (a.getD (na-1) nn)) (na-1) nb:=by
 have:=CM sa sb m (k:=na-1) (by lia) fun i j i1 i2 j1=>by
  rw [show i=na-1 by lia]
  exact c j j1
 have e:out++(a.extract (na-1) na).reverse=out.push (a.getD (na-1) nn):=by apply Array.toList_inj.mp;rw [kO,G0 m.2.1 h1,n5]
 rw [e] at this;exact this
theorem xq(m:MH key a b out na nb)(h1:1≤nb)(c:∀j,j<na→key (a.getD j nn)≤key (b.getD (nb-1) nn)):MH key a b (out.push (b.getD (nb-1) nn)) na (nb-1):=by
 have:=xm sa sb m (k:=nb-1) (by lia) fun i j i1 i2 j1=>by
  rw [show i=nb-1 by lia]
  exact c j j1
 have e:out++(b.extract (nb-1) nb).reverse=out.push (b.getD (nb-1) nn):=by apply Array.toList_inj.mp;rw [kO,G0 m.2.2 h1,n5]
 rw [e] at this;exact this
theorem gE(m:MH key a b out na nb)(e:na=0∨nb=0):(a.extract 0 na++b.extract 0 nb++out.reverse).toList.Perm (a.toList++b.toList)∧bj key (a.extract 0 na++b.extract 0 nb++out.reverse).toList:=by
 obtain ⟨m,ha,hb⟩:=m;have:=m.GX (tO sa) (tO sb) fun x hx y hy=>by rw [kr ha,kP] at hx;rw [kr hb,kP] at hy;obtain ⟨i,i1,i2,_⟩:=mT ha hx;obtain ⟨j,j1,j2,_⟩:=mT hb hy;lia
 rw [kr ha,kr hb] at this;have er:(a.extract 0 na++b.extract 0 nb++out.reverse).toList=(out.toList++(b.extract 0 nb).toList.reverse++(a.extract 0 na).toList.reverse).reverse:=by simp
 rw [er];refine ⟨(me _).trans (this.1.trans ?_),GZ this.2⟩;exact (me _).append (me _)
theorem lJ(m:MH key a b out na nb)(h0:∀x∈a.toList,key (b.getD 0 nn)≤key x)(e:nb=1):(b.extract 0 nb++a.extract 0 na++out.reverse).toList.Perm (a.toList++b.toList)∧bj key (b.extract 0 nb++a.extract 0 na++out.reverse).toList:=by
 obtain ⟨m,ha,hb⟩:=m;have:=m.done (tO sa) (tO sb) fun x hx y hy=>by
  rw [kr ha,kP] at hx;rw [kr hb,kP] at hy;obtain ⟨i,i1,i2,rfl⟩:=mT ha hx;obtain ⟨j,j1,j2,rfl⟩:=mT hb hy;have:=h0 (a.getD i nn) (by simp [Array.getD,show i<a.size by lia])
  rw [show j=0 by lia]
  lia
 rw [kr ha,kr hb] at this;have er:(b.extract 0 nb++a.extract 0 na++out.reverse).toList=(out.toList++(a.extract 0 na).toList.reverse++(b.extract 0 nb).toList.reverse).reverse:=by simp
 rw [er];refine ⟨(me _).trans (this.1.trans ?_),GZ this.2⟩;exact (me _).append (me _)
end
section
variable {prog:Program} {w:World} {A:Around} {E:aR} {s:Shared} {κ:SortKind} {key:Keyed→Int} {Ok:Keyed→Prop}
theorem O6(h:jL prog w A s κ key Ok){a b:Array Keyed}(oa:ft Ok a)(ob:ft Ok b)(sa:bj key a.toList)(sb:bj key b.toList)(a1:1≤a.size)(b1:1≤b.size)
  (h0:∀x∈a.toList,key (b.getD 0 nn)≤key x) (hl:∀y∈b.toList,key y≤key (a.getD (a.size-1) nn)) {st:SortSt} (hk:kindOf st=κ) {Q:Array Keyed→SortSt→Prop}
  (q:∀m g,m.toList.Perm (a.toList++b.toList)→bj key m.toList→Q m (setG st g)):wpS (model prog w) A E s (CG a b) Q st:=by
 rw [O4];refine ar (wpS_lift (n6 ⟨rfl,?_⟩));refine ar (bE (by lia) ?_)
 dsimp only;have m0:MH key a b (#[a.getD (a.size-1) nn]:Array Keyed) (a.size-1) b.size:=by
  have:MH key a b (#[]:Array Keyed) a.size b.size:=⟨⟨by simp,List.Pairwise.nil,fun x hx=>by simp at hx,fun x hx=>by simp at hx⟩,ay _,ay _⟩
  exact lI sa sb this a1 fun j hj=>hl _ (by simp [Array.getD,hj])
 have fS:∀g,kindOf (setG st g)=κ:=fun _=>hk;by_cases e1:(a.size-1 == 0)=true
 ·rw [ae e1]
  have:=gE sa sb m0 (.inl (eq_of_beq e1));exact aq (q _ (gallopOf st) this.1 this.2)
 rw [aa e1];by_cases e2:(b.size == 1)=true
 ·rw [ae e2]
  have:=lJ sa sb m0 h0 (eq_of_beq e2);exact aq (q _ (gallopOf st) this.1 this.2)
 rw [aa e2];have a2:1≤a.size-1:=by
  have:a.size-1≠0:=fun e=>e1 (by simp [e])
  lia
 have b2:2≤b.size:=by
  have:b.size≠1:=fun e=>e2 (by simp [e])
  lia
 refine ar (i3 ?_)
 refine ar (fZ (fI (I:=fun x c av=>∃(out:Array Keyed) (na nb mg g:Nat),c=(none,na,nb,out,mg)∧av=setG st g∧MH key a b out na nb∧1≤na∧2≤nb∧x+na+nb≤a.size+b.size)
  (Q:=fun c av=>∃(m:Array Keyed) (g:Nat),c.1=some m∧av=setG st g∧m.toList.Perm (a.toList++b.toList)∧bj key m.toList) ?_ ?_ ⟨_,a.size-1,b.size,_,gallopOf st,rfl,rfl,m0,a2,b2,show 0+(a.size-1)+b.size≤a.size+b.size by lia⟩) ?_)
 ·rintro x c av _ hx ⟨out,na,nb,mg,g,rfl,rfl,mi,ha,hb,qz⟩
  dsimp only
  refine ar (fZ (fI (I:=fun y c av=>∃(out:Array Keyed) (bq cp ac bc:Nat),c=(none,bq,cp,out,ac,bc)∧av=setG st g∧MH key a b out bq cp∧1≤bq∧2≤cp∧y+bq+cp≤na+nb)
   (Q:=fun c av=>av=setG st g∧((∃m:Array Keyed,c.1=some m∧m.toList.Perm (a.toList++b.toList)∧bj key m.toList)∨∃(out:Array Keyed) (bq cp ac bc:Nat),c=(none,bq,cp,out,ac,bc)∧MH key a b out bq cp∧1≤bq∧2≤cp∧1+bq+cp≤na+nb)) ?_ ?_ ⟨_,na,nb,_,_,rfl,rfl,mi,ha,hb,show 0+na+nb≤na+nb by lia⟩) ?_)
  ·rintro y c av _ hy ⟨out,bq,cp,ac,bc,rfl,rfl,mi,ha,hb,gX⟩
   have O7:=mi.2.1;have qC:=mi.2.2;dsimp only;refine ar (bE (by lia) (ar (bE (by lia) (ar (xj h (ob (cp-1) (by lia)) (oa (bq-1) (by lia)) (fS _) ?_)))))
   dsimp only;by_cases z:key (b.getD (cp-1) nn)<key (a.getD (bq-1) nn)
   ·rw [bA z,ae rfl]
    refine ar (bE (by lia) ?_)
    have gY:=lI sa sb mi ha fun j hj=>dA (fR sb (by lia) (by lia)) (dh z)
    by_cases z1:(bq-1 == 0)=true
    ·rw [ae z1]
     exact aq ⟨rfl,.inl ⟨_,rfl,gE sa sb gY (.inl (eq_of_beq z1))⟩⟩
    ·rw [aa z1]
     have qw:bq-1≠0:=fun e=>z1 (by simp [e])
     exact eV (fun _=>aq ⟨rfl,.inr ⟨_,_,_,_,_,rfl,gY,by lia,hb,by lia⟩⟩) (fun _=>aq ⟨_,_,_,_,_,rfl,rfl,gY,by lia,hb,by lia⟩)
   ·rw [bH z,aa (by simp)]
    refine ar (bE (by lia) ?_)
    have gY:=xq sa sb mi (by lia) fun j hj=>dA (fR sa (by lia) (by lia)) (Int.not_lt.mp z)
    by_cases z1:(cp-1 == 1)=true
    ·rw [ae z1]
     exact aq ⟨rfl,.inl ⟨_,rfl,lJ sa sb gY h0 (eq_of_beq z1)⟩⟩
    ·rw [aa z1]
     have qw:cp-1≠1:=fun e=>z1 (by simp [e])
     exact eV (fun _=>aq ⟨rfl,.inr ⟨_,_,_,_,_,rfl,gY,ha,by lia,by lia⟩⟩) (fun _=>aq ⟨_,_,_,_,_,rfl,rfl,gY,ha,by lia,by lia⟩)
  ·rintro c av ⟨out,bq,cp,ac,bc,rfl,rfl,mi,ha,hb,gX⟩
   exact ⟨rfl,.inr ⟨_,_,_,_,_,rfl,mi,ha,hb,by lia⟩⟩
  ·rintro c av ⟨rfl,⟨m,e,pm⟩ | ⟨out,bq,cp,ac,bc,rfl,mi,ha,hb,gX⟩⟩
   ·obtain ⟨c1,c2⟩:=c
    dsimp only at e;subst e;exact aq ⟨m,g,rfl,rfl,pm⟩
   ·dsimp only
    refine ar (wpS_lift (n6 ⟨rfl,?_⟩))
    refine ar (fZ (fI (I:=fun y c av=>∃(out:Array Keyed) (i j mg ac bc g:Nat),c=(none,i,j,out,mg,ac,bc)∧av=setG st g∧MH key a b out i j∧1≤i∧2≤j∧x+1+i+j≤a.size+b.size)
     (Q:=fun c av=>(∃(m:Array Keyed) (g:Nat),c.1=some m∧av=setG st g∧m.toList.Perm (a.toList++b.toList)∧bj key m.toList)∨∃(out:Array Keyed) (i j mg ac bc g:Nat),c=(none,i,j,out,mg,ac,bc)∧av=setG st g∧MH key a b out i j∧1≤i∧2≤j∧x+1+i+j≤a.size+b.size) ?_ ?_ ⟨_,bq,cp,_,_,_,g,rfl,rfl,mi,ha,hb,by lia⟩) ?_)
    ·clear mi ha hb gX
     rintro y c av _ hy ⟨out,na,nb,mg,ac,bc,g,rfl,rfl,mi,ha,hb,gX⟩;have O7:=mi.2.1;have qC:=mi.2.2;dsimp only;rcases Nat.lt_or_ge 1 mg with zm | zm
     ·rw [ae zm]
      refine ar (tM ?_);refine ar (bE (by lia) (ar (iK (f:=fun i=>bB false (key (b.getD (nb-1) nn)) (key (a.getD (0+i) nn))) (fun i hi Q q=>iJ h (by lia) oa (ob _ (by lia)) (fS _) q) (by lia) (fun i j h1 h2 h3=>zW sa (o:=0) i j h1 (by lia) h3) fun k k1 k2 k3=>?_)))
      dsimp only;by_cases zk:na-k>0
      ·rw [ae zk]
       have gZ:=CM sa sb mi (k:=k) k1 fun i j hi bw hj=>by have:=oO (k3 i hi bw);rw [fj] at this;exact dA (fR sb (by lia) (by lia)) (dh this)
       by_cases w1:(k == 0)=true
       ·rw [ae w1]
        exact aq (.inl ⟨_,_,rfl,rfl,gE sa sb gZ (.inl (eq_of_beq w1))⟩)
       ·rw [aa w1]
        have CL:k≠0:=fun e=>w1 (by simp [e])
        refine ar (bE (by have:=gZ.2.2;lia) ?_)
        have cE:=xq sa sb gZ (by lia) fun j h1=>by have:=lH (k2 j h1);rw [fj] at this;exact this
        by_cases x1:(nb-1 == 1)=true
        ·rw [ae x1]
         exact aq (.inl ⟨_,_,rfl,rfl,lJ sa sb cE h0 (eq_of_beq x1)⟩)
        ·rw [aa x1]
         have qA:nb-1≠1:=fun e=>x1 (by simp [e])
         have qC:=cE.2.2;refine ar (bE (by lia) (ar (iK (f:=fun i=>bB true (key (a.getD (k-1) nn)) (key (b.getD (0+i) nn))) (fun i hi Q q=>iJ h (by lia) ob (oa _ (by lia)) (fS _) q) (by lia) (fun i j h1 h2 h3=>oP sb (o:=0) i j h1 (by lia) h3) fun k' q1 q2 q3=>?_)))
         dsimp only;by_cases ei:nb-1-k'>0
         ·rw [ae ei]
          have dB:=xm sa sb cE (k:=k') q1 fun i j hi bw hj=>by have:=iL (q3 i hi bw);rw [fj] at this;exact dA (fR sa (by lia) (by lia)) this
          by_cases x2:(k' == 1)=true
          ·rw [ae x2]
           exact aq (.inl ⟨_,_,rfl,rfl,lJ sa sb dB h0 (eq_of_beq x2)⟩)
          ·rw [aa x2]
           have qB:k'≠1:=fun e=>x2 (by simp [e])
           by_cases x3:(k' == 0)=true
           ·rw [ae x3]
            exact aq (.inl ⟨_,_,rfl,rfl,gE sa sb dB (.inr (eq_of_beq x3))⟩)
           ·rw [aa x3]
            have CN:k'≠0:=fun e=>x3 (by simp [e])
            refine ar (bE (by lia) ?_)
            have aV:=lI sa sb dB (by lia) fun j h1=>by have:=gU (q2 j h1);rw [fj] at this;exact dh this
            by_cases y1:(k-1 == 0)=true
            ·rw [ae y1]
             exact aq (.inl ⟨_,_,rfl,rfl,gE sa sb aV (.inl (eq_of_beq y1))⟩)
            ·rw [aa y1]
             have g6:k-1≠0:=fun e=>y1 (by simp [e])
             exact eV (fun _=>aq (.inr ⟨_,_,_,_,_,_,_,rfl,rfl,aV,by lia,by lia,by lia⟩)) (fun _=>aq ⟨_,_,_,_,_,_,_,rfl,rfl,aV,by lia,by lia,by lia⟩)
         ·rw [aa ei]
          obtain rfl:k'=nb-1:=by lia
          refine ar (bE (by lia) ?_)
          have aV:=lI sa sb cE (by lia) fun j h1=>by have:=gU (q2 j h1);rw [fj] at this;exact dh this
          by_cases y1:(k-1 == 0)=true
          ·rw [ae y1]
           exact aq (.inl ⟨_,_,rfl,rfl,gE sa sb aV (.inl (eq_of_beq y1))⟩)
          ·rw [aa y1]
           have g6:k-1≠0:=fun e=>y1 (by simp [e])
           exact eV (fun _=>aq (.inr ⟨_,_,_,_,_,_,_,rfl,rfl,aV,by lia,by lia,by lia⟩)) (fun _=>aq ⟨_,_,_,_,_,_,_,rfl,rfl,aV,by lia,by lia,by lia⟩)
      ·rw [aa zk]
       obtain rfl:k=na:=by lia
       refine ar (bE (by have:=mi.2.2;lia) ?_)
       have cE:=xq sa sb mi (by lia) fun j h1=>by have:=lH (k2 j h1);rw [fj] at this;exact this
       by_cases x1:(nb-1 == 1)=true
       ·rw [ae x1]
        exact aq (.inl ⟨_,_,rfl,rfl,lJ sa sb cE h0 (eq_of_beq x1)⟩)
       ·rw [aa x1]
        have qA:nb-1≠1:=fun e=>x1 (by simp [e])
        have qC:=cE.2.2;refine ar (bE (by lia) (ar (iK (f:=fun i=>bB true (key (a.getD (k-1) nn)) (key (b.getD (0+i) nn))) (fun i hi Q q=>iJ h (by lia) ob (oa _ (by lia)) (fS _) q) (by lia) (fun i j h1 h2 h3=>oP sb (o:=0) i j h1 (by lia) h3) fun k' q1 q2 q3=>?_)))
        dsimp only;by_cases ei:nb-1-k'>0
        ·rw [ae ei]
         have dB:=xm sa sb cE (k:=k') q1 fun i j hi bw hj=>by have:=iL (q3 i hi bw);rw [fj] at this;exact dA (fR sa (by lia) (by lia)) this
         by_cases x2:(k' == 1)=true
         ·rw [ae x2]
          exact aq (.inl ⟨_,_,rfl,rfl,lJ sa sb dB h0 (eq_of_beq x2)⟩)
         ·rw [aa x2]
          have qB:k'≠1:=fun e=>x2 (by simp [e])
          by_cases x3:(k' == 0)=true
          ·rw [ae x3]
           exact aq (.inl ⟨_,_,rfl,rfl,gE sa sb dB (.inr (eq_of_beq x3))⟩)
          ·rw [aa x3]
           have CN:k'≠0:=fun e=>x3 (by simp [e])
           refine ar (bE (by lia) ?_)
           have aV:=lI sa sb dB (by lia) fun j h1=>by have:=gU (q2 j h1);rw [fj] at this;exact dh this
           by_cases y1:(k-1 == 0)=true
           ·rw [ae y1]
            exact aq (.inl ⟨_,_,rfl,rfl,gE sa sb aV (.inl (eq_of_beq y1))⟩)
           ·rw [aa y1]
            have g6:k-1≠0:=fun e=>y1 (by simp [e])
            exact eV (fun _=>aq (.inr ⟨_,_,_,_,_,_,_,rfl,rfl,aV,by lia,by lia,by lia⟩)) (fun _=>aq ⟨_,_,_,_,_,_,_,rfl,rfl,aV,by lia,by lia,by lia⟩)
        ·rw [aa ei]
         obtain rfl:k'=nb-1:=by lia
         refine ar (bE (by lia) ?_)
         have aV:=lI sa sb cE (by lia) fun j h1=>by have:=gU (q2 j h1);rw [fj] at this;exact dh this
         by_cases y1:(k-1 == 0)=true
         ·rw [ae y1]
          exact aq (.inl ⟨_,_,rfl,rfl,gE sa sb aV (.inl (eq_of_beq y1))⟩)
         ·rw [aa y1]
          have g6:k-1≠0:=fun e=>y1 (by simp [e])
          exact eV (fun _=>aq (.inr ⟨_,_,_,_,_,_,_,rfl,rfl,aV,by lia,by lia,by lia⟩)) (fun _=>aq ⟨_,_,_,_,_,_,_,rfl,rfl,aV,by lia,by lia,by lia⟩)
     ·rw [aa (by lia)]
      refine ar (tM ?_);refine ar (bE (by lia) (ar (iK (f:=fun i=>bB false (key (b.getD (nb-1) nn)) (key (a.getD (0+i) nn))) (fun i hi Q q=>iJ h (by lia) oa (ob _ (by lia)) (fS _) q) (by lia) (fun i j h1 h2 h3=>zW sa (o:=0) i j h1 (by lia) h3) fun k k1 k2 k3=>?_)))
      dsimp only;by_cases zk:na-k>0
      ·rw [ae zk]
       have gZ:=CM sa sb mi (k:=k) k1 fun i j hi bw hj=>by have:=oO (k3 i hi bw);rw [fj] at this;exact dA (fR sb (by lia) (by lia)) (dh this)
       by_cases w1:(k == 0)=true
       ·rw [ae w1]
        exact aq (.inl ⟨_,_,rfl,rfl,gE sa sb gZ (.inl (eq_of_beq w1))⟩)
       ·rw [aa w1]
        have CL:k≠0:=fun e=>w1 (by simp [e])
        refine ar (bE (by have:=gZ.2.2;lia) ?_)
        have cE:=xq sa sb gZ (by lia) fun j h1=>by have:=lH (k2 j h1);rw [fj] at this;exact this
        by_cases x1:(nb-1 == 1)=true
        ·rw [ae x1]
         exact aq (.inl ⟨_,_,rfl,rfl,lJ sa sb cE h0 (eq_of_beq x1)⟩)
        ·rw [aa x1]
         have qA:nb-1≠1:=fun e=>x1 (by simp [e])
         have qC:=cE.2.2;refine ar (bE (by lia) (ar (iK (f:=fun i=>bB true (key (a.getD (k-1) nn)) (key (b.getD (0+i) nn))) (fun i hi Q q=>iJ h (by lia) ob (oa _ (by lia)) (fS _) q) (by lia) (fun i j h1 h2 h3=>oP sb (o:=0) i j h1 (by lia) h3) fun k' q1 q2 q3=>?_)))
         dsimp only;by_cases ei:nb-1-k'>0
         ·rw [ae ei]
          have dB:=xm sa sb cE (k:=k') q1 fun i j hi bw hj=>by have:=iL (q3 i hi bw);rw [fj] at this;exact dA (fR sa (by lia) (by lia)) this
          by_cases x2:(k' == 1)=true
          ·rw [ae x2]
           exact aq (.inl ⟨_,_,rfl,rfl,lJ sa sb dB h0 (eq_of_beq x2)⟩)
          ·rw [aa x2]
           have qB:k'≠1:=fun e=>x2 (by simp [e])
           by_cases x3:(k' == 0)=true
           ·rw [ae x3]
            exact aq (.inl ⟨_,_,rfl,rfl,gE sa sb dB (.inr (eq_of_beq x3))⟩)
           ·rw [aa x3]
            have CN:k'≠0:=fun e=>x3 (by simp [e])
            refine ar (bE (by lia) ?_)
            have aV:=lI sa sb dB (by lia) fun j h1=>by have:=gU (q2 j h1);rw [fj] at this;exact dh this
            by_cases y1:(k-1 == 0)=true
            ·rw [ae y1]
             exact aq (.inl ⟨_,_,rfl,rfl,gE sa sb aV (.inl (eq_of_beq y1))⟩)
            ·rw [aa y1]
             have g6:k-1≠0:=fun e=>y1 (by simp [e])
             exact eV (fun _=>aq (.inr ⟨_,_,_,_,_,_,_,rfl,rfl,aV,by lia,by lia,by lia⟩)) (fun _=>aq ⟨_,_,_,_,_,_,_,rfl,rfl,aV,by lia,by lia,by lia⟩)
         ·rw [aa ei]
          obtain rfl:k'=nb-1:=by lia
          refine ar (bE (by lia) ?_)
          have aV:=lI sa sb cE (by lia) fun j h1=>by have:=gU (q2 j h1);rw [fj] at this;exact dh this
          by_cases y1:(k-1 == 0)=true
          ·rw [ae y1]
           exact aq (.inl ⟨_,_,rfl,rfl,gE sa sb aV (.inl (eq_of_beq y1))⟩)
          ·rw [aa y1]
           have g6:k-1≠0:=fun e=>y1 (by simp [e])
           exact eV (fun _=>aq (.inr ⟨_,_,_,_,_,_,_,rfl,rfl,aV,by lia,by lia,by lia⟩)) (fun _=>aq ⟨_,_,_,_,_,_,_,rfl,rfl,aV,by lia,by lia,by lia⟩)
      ·rw [aa zk]
       obtain rfl:k=na:=by lia
       refine ar (bE (by have:=mi.2.2;lia) ?_)
       have cE:=xq sa sb mi (by lia) fun j h1=>by have:=lH (k2 j h1);rw [fj] at this;exact this
       by_cases x1:(nb-1 == 1)=true
       ·rw [ae x1]
        exact aq (.inl ⟨_,_,rfl,rfl,lJ sa sb cE h0 (eq_of_beq x1)⟩)
       ·rw [aa x1]
        have qA:nb-1≠1:=fun e=>x1 (by simp [e])
        have qC:=cE.2.2;refine ar (bE (by lia) (ar (iK (f:=fun i=>bB true (key (a.getD (k-1) nn)) (key (b.getD (0+i) nn))) (fun i hi Q q=>iJ h (by lia) ob (oa _ (by lia)) (fS _) q) (by lia) (fun i j h1 h2 h3=>oP sb (o:=0) i j h1 (by lia) h3) fun k' q1 q2 q3=>?_)))
        dsimp only;by_cases ei:nb-1-k'>0
        ·rw [ae ei]
         have dB:=xm sa sb cE (k:=k') q1 fun i j hi bw hj=>by have:=iL (q3 i hi bw);rw [fj] at this;exact dA (fR sa (by lia) (by lia)) this
         by_cases x2:(k' == 1)=true
         ·rw [ae x2]
          exact aq (.inl ⟨_,_,rfl,rfl,lJ sa sb dB h0 (eq_of_beq x2)⟩)
         ·rw [aa x2]
          have qB:k'≠1:=fun e=>x2 (by simp [e])
          by_cases x3:(k' == 0)=true
          ·rw [ae x3]
           exact aq (.inl ⟨_,_,rfl,rfl,gE sa sb dB (.inr (eq_of_beq x3))⟩)
          ·rw [aa x3]
           have CN:k'≠0:=fun e=>x3 (by simp [e])
           refine ar (bE (by lia) ?_)
           have aV:=lI sa sb dB (by lia) fun j h1=>by have:=gU (q2 j h1);rw [fj] at this;exact dh this
           by_cases y1:(k-1 == 0)=true
           ·rw [ae y1]
            exact aq (.inl ⟨_,_,rfl,rfl,gE sa sb aV (.inl (eq_of_beq y1))⟩)
           ·rw [aa y1]
            have g6:k-1≠0:=fun e=>y1 (by simp [e])
            exact eV (fun _=>aq (.inr ⟨_,_,_,_,_,_,_,rfl,rfl,aV,by lia,by lia,by lia⟩)) (fun _=>aq ⟨_,_,_,_,_,_,_,rfl,rfl,aV,by lia,by lia,by lia⟩)
        ·rw [aa ei]
         obtain rfl:k'=nb-1:=by lia
         refine ar (bE (by lia) ?_)
         have aV:=lI sa sb cE (by lia) fun j h1=>by have:=gU (q2 j h1);rw [fj] at this;exact dh this
         by_cases y1:(k-1 == 0)=true
         ·rw [ae y1]
          exact aq (.inl ⟨_,_,rfl,rfl,gE sa sb aV (.inl (eq_of_beq y1))⟩)
         ·rw [aa y1]
          have g6:k-1≠0:=fun e=>y1 (by simp [e])
          exact eV (fun _=>aq (.inr ⟨_,_,_,_,_,_,_,rfl,rfl,aV,by lia,by lia,by lia⟩)) (fun _=>aq ⟨_,_,_,_,_,_,_,rfl,rfl,aV,by lia,by lia,by lia⟩)
    ·rintro c av ⟨out,i,j,mg,ac,bc,g,rfl,rfl,mi,ha,hb,gX⟩
     exact .inr ⟨_,_,_,_,_,_,_,rfl,rfl,mi,ha,hb,gX⟩
    ·rintro c av (⟨m,g,e,rfl,pm⟩ | ⟨out,i,j,mg,ac,bc,g,rfl,rfl,mi,ha,hb,gX⟩)
     ·obtain ⟨c1,c2⟩:=c
      dsimp only at e;subst e;exact aq ⟨m,g,rfl,rfl,pm⟩
     ·dsimp only
      exact ar (tM (aq ⟨_,_,_,_,_,rfl,rfl,mi,ha,hb,by lia⟩))
 ·rintro c av ⟨out,ia,ib,mg,g,rfl,rfl,mi,ha,hb,qz⟩
  exfalso
  lia
 ·rintro c av ⟨m,g,e,rfl,pm,sm⟩
  obtain ⟨c1,c2⟩:=c;dsimp only at e;subst e;exact aq (q m g pm sm)
end
section
variable {prog:Program} {w:World} {A:Around} {E:aR} {s:Shared} {κ:SortKind} {key:Keyed→Int} {Ok:Keyed→Prop}
def vA(key:Keyed→Int)(arr:Array Keyed)(i:Nat):Int:=key (arr.getD i nn)
def cV(key:Keyed→Int)(arr:Array Keyed)(lo hi:Nat):Prop:=∀i j,lo≤i→i≤j→j<hi→vA key arr i≤vA key arr j
def jP(key:Keyed→Int)(arr:Array Keyed)(lo hi:Nat):Prop:=∀i j,lo≤i→i≤j→j<hi→vA key arr j≤vA key arr i
structure Rl (arr aS:Array Keyed) (lo hi:Nat):Prop where
 pm:aS.Perm arr
 out:∀k,k<lo∨hi≤k→aS[k]?=arr[k]?
theorem Rl.refl(arr:Array Keyed)(lo hi:Nat):Rl arr arr lo hi:=⟨Array.Perm.refl _,fun _ _=>rfl⟩
variable {arr aS:Array Keyed} {lo hi:Nat}
theorem Rl.trans{aI:Array Keyed}(h:Rl arr aS lo hi)(h':Rl aS aI lo hi):Rl arr aI lo hi:=⟨h'.pm.trans h.pm,fun k hk=>(h'.out k hk).trans (h.out k hk)⟩
theorem Rl.size(h:Rl arr aS lo hi):aS.size=arr.size:=h.pm.size_eq
theorem Rl.wide{G1 bw:Nat}(h:Rl arr aS lo hi)(h1:G1≤lo)(h2:hi≤bw):Rl arr aS G1 bw:=⟨h.pm,fun k hk=>h.out k (by lia)⟩
theorem ku(arr:Array Keyed)(i:Nat):arr.getD i nn=arr[i]?.getD nn:=by by_cases z:i<arr.size <;> simp [Array.getD,z]
variable {k:Nat}
theorem Rl.v(h:Rl arr aS lo hi)(hk:k<lo∨hi≤k):vA key aS k=vA key arr k:=by unfold vA;rw [ku,ku,h.out k hk]
theorem tQ(h:ft Ok arr)(p:aS.Perm arr):ft Ok aS:=fun i hi=>by
 have e:aS.getD i nn=aS[i]:=by simp [Array.getD,hi]
 rw [e];have m:aS[i]∈arr:=(Array.Perm.mem_iff p).mp (Array.getElem_mem hi);obtain ⟨j,hj,ej⟩:=Array.getElem_of_mem m;rw [←ej];have:=h j hj;simpa [Array.getD,hj] using this
theorem Rl.ok(h:Rl arr aS lo hi)(ok:ft Ok arr):ft Ok aS:=tQ ok h.pm
theorem ky(hj:j≤arr.size):Rl arr (mirror arr i j ((j-i) / 2)) i j:=⟨mirror_perm ..,fun k hk=>by rw [getElem?_mirror_all hj,aa (by lia)]⟩
theorem z5(hj:j≤arr.size)(h1:i≤k)(h2:k<j):vA key (mirror arr i j ((j-i) / 2)) k=vA key arr (i+j-1-k):=by unfold vA;rw [ku,ku,getElem?_mirror_all hj,ae ⟨h1,h2⟩]
abbrev a9 (κ:SortKind) (arr:Array Keyed) (pend:Array (Nat×Nat×Nat)) (g:Nat):SortSt:=SortSt.mk' κ arr pend g none
variable {arr:Array Keyed} {pend:Array (Nat×Nat×Nat)} {g:Nat}
theorem kA(h:jL prog w A s κ key Ok)(ok:ft Ok arr)(hi:i<arr.size)(hj:j<arr.size){Q:Option Bool→SortSt→Prop}(q:Q (some (decide (vA key arr i<vA key arr j))) (a9 κ arr pend g)):wpS (model prog w) A E s (ltAt' i j) Q (a9 κ arr pend g):=by rw [ltAt'_eq];refine ar (i3 ?_);exact ar (bE hi (ar (bE hj (xj h (ok _ hi) (ok _ hj) rfl q))))
theorem mU{Q:Unit→SortSt→Prop}(q:Q () (a9 κ (mirror arr i j ((j-i) / 2)) pend g)):wpS (model prog w) A E s (reverseSlice' i j) Q (a9 κ arr pend g):=by rw [reverseSlice'_eq];exact j7 q
variable {n:Nat}
theorem cV.more(h:cV key arr lo (lo+n))(n1:1≤n)(c:vA key arr (lo+n-1)≤vA key arr (lo+n)):cV key arr lo (lo+(n+1)):=fun i j h1 h2 h3=>by
 by_cases z:j<lo+n;·exact h i j h1 h2 z
 ·obtain rfl:j=lo+n:=by lia
  by_cases y:i=lo+n;·rw [y];exact md _
  ·exact dA (h i (lo+n-1) h1 (by lia) (by lia)) c
theorem jP.more(h:jP key arr lo (lo+n))(n1:1≤n)(c:vA key arr (lo+n)≤vA key arr (lo+n-1)):jP key arr lo (lo+(n+1)):=fun i j h1 h2 h3=>by
 by_cases z:j<lo+n;·exact h i j h1 h2 z
 ·obtain rfl:j=lo+n:=by lia
  by_cases y:i=lo+n;·rw [y];exact md _
  ·exact dA c (h i (lo+n-1) h1 (by lia) (by lia))
def xr(key:Keyed→Int)(arr:Array Keyed)(lo n q:Nat):Prop:=q+1≤n∧∀i,lo+n-(q+1)≤i→i<lo+n→vA key arr i=vA key arr (lo+n-1)
theorem z6{q:Nat}(hz:lo+n≤arr.size)(d:jP key arr lo (lo+n))(e:xr key arr lo n q):jP key (mirror arr (lo+n-(q+1)) (lo+n) ((lo+n-(lo+n-(q+1))) / 2)) lo (lo+n)∧∀k,vA key (mirror arr (lo+n-(q+1)) (lo+n) ((lo+n-(lo+n-(q+1))) / 2)) k=vA key arr k:=by
 have hv:∀k,vA key (mirror arr (lo+n-(q+1)) (lo+n) ((lo+n-(lo+n-(q+1))) / 2)) k=vA key arr k:=fun k=>by
  by_cases z:lo+n-(q+1)≤k∧k<lo+n;·rw [z5 hz z.1 z.2,e.2 _ (by have:=e.1;lia) (by lia),e.2 k z.1 z.2]
  ·exact (ky hz).v (by lia)
 refine ⟨fun i j h1 h2 h3=>?_,hv⟩;rw [hv,hv];exact d i j h1 h2 h3
theorem z7(hz:lo+n≤arr.size)(d:jP key arr lo (lo+n)):cV key (mirror arr lo (lo+n) ((lo+n-lo) / 2)) lo (lo+n):=fun i j h1 h2 h3=>by
 rw [z5 hz h1 (by lia),z5 hz (by lia) h3]
 exact d _ _ (by lia) (by lia) (by lia)
end
section
variable {prog:Program} {w:World} {A:Around} {E:aR} {s:Shared} {κ:SortKind} {key:Keyed→Int} {Ok:Keyed→Prop} {arr:Array Keyed} {pend:Array (Nat×Nat×Nat)} {g:Nat}
variable {lo cF:Nat}
theorem xt(h:jL prog w A s κ key Ok)(ok:ft Ok arr){m:Nat}(hz:lo+cF≤arr.size)(m1:1≤m)(mn:m≤cF)(sg:cV key arr lo (lo+m)){body:Nat→Option (Option Nat)×Nat→StateT SortSt Sem (ForInStep (Option (Option Nat)×Nat))}{R:Option (Option Nat)×Nat→SortSt→Prop}
  (hb:∀x n (R:ForInStep (Option (Option Nat)×Nat)→SortSt→Prop),1≤n→n<cF→R (if vA key arr (lo+n)<vA key arr (lo+n-1) then .done (none,n) else .yield (none,n+1)) (a9 κ arr pend g)→wpS (model prog w) A E s (body x (none,n)) R (a9 κ arr pend g))
  (k:∀n,m≤n→n≤cF→cV key arr lo (lo+n)→(n<cF→vA key arr (lo+n)<vA key arr (lo+n-1))→R (none,n) (a9 κ arr pend g)) :
  wpS (model prog w) A E s (forIn [m:cF] (none,m) body) R (a9 κ arr pend g):=by
 refine fI (I:=fun x c av=>av=a9 κ arr pend g∧c=(none,x)∧m≤x∧x≤cF∧cV key arr lo (lo+x)) ?_ ?_ ⟨rfl,rfl,ay _,mn,sg⟩
 ·rintro x c av _ hx ⟨rfl,rfl,g1,g2,g3⟩
  refine hb x x _ (by lia) hx ?_
  by_cases z:vA key arr (lo+x)<vA key arr (lo+x-1)
  ·rw [ae z]
   exact k x g1 g2 g3 fun _=>z
  ·rw [aa z]
   exact ⟨rfl,rfl,by lia,by lia,g3.more (by lia) (Int.not_lt.mp z)⟩
 ·rintro c av ⟨rfl,rfl,g1,g2,g3⟩
  have e:max m cF=cF:=by lia
  rw [e] at g3 ⊢;exact k cF mn (ay _) g3 fun z=>absurd z (fE _)
theorem O8(h:jL prog w A s κ key Ok)(ok:ft Ok arr)(hz:lo+cF≤arr.size)(n1:1≤cF){Q:Option Nat→SortSt→Prop}
  (k:∀n aS,1≤n→n≤cF→Rl arr aS lo (lo+cF)→cV key aS lo (lo+n)→Q (some n) (a9 κ aS pend g)):wpS (model prog w) A E s (countRun' lo cF) Q (a9 κ arr pend g):=by
 rw [countRun'_eq];refine ar (xt h ok hz (ay 1) n1 (fun i j h1 h2 h3=>by rw [show i=j by lia];exact md _) ?_ fun n m1 mn sg br=>?_)
 ·intro x n R a1 a2 r
  dsimp only;refine ar (kA h ok (by lia) (by lia) ?_)
  dsimp only;by_cases z:vA key arr (lo+n)<vA key arr (lo+n-1)
  ·rw [ae z] at r
   rw [bA z,ae rfl];exact aq r
  ·rw [aa z] at r
   rw [bH z,aa (by simp)]
   exact aq r
 dsimp only;by_cases e1:(n == cF)=true
 ·rw [ae e1]
  exact aq (k n arr m1 mn (Rl.refl ..) sg)
 rw [aa e1];have aZ:n<cF:=by
  have:n≠cF:=fun e=>e1 (by simp [e])
  lia
 have G2:=br aZ;by_cases e2:n>1
 ·rw [ae e2]
  refine ar (kA h ok (by lia) (by lia) ?_)
  dsimp only;by_cases z:vA key arr lo<vA key arr (lo+n-1)
  ·rw [bA z,ae rfl]
   exact aq (k n arr m1 mn (Rl.refl ..) sg)
  ·rw [bH z,aa (by simp)]
   refine ar (mU ?_);have ev:∀i,lo≤i→i<lo+n→vA key arr i=vA key arr (lo+n-1):=fun i h1 h2=>by
    have a1:=sg lo i (ay _) h1 h2;have a2:=sg i (lo+n-1) h1 (by lia) (by lia)
    lia
   have hv:∀i,vA key (mirror arr lo (lo+n) ((lo+n-lo) / 2)) i=vA key arr i:=fun i=>by
    by_cases y:lo≤i∧i<lo+n;·rw [z5 (by lia) y.1 y.2,ev _ (by lia) (by lia),ev i y.1 y.2]
    ·exact (ky (by lia)).v (by lia)
   have d1:jP key (mirror arr lo (lo+n) ((lo+n-lo) / 2)) lo (lo+n):=fun i j h1 h2 h3=>by
    rw [hv,hv,ev i h1 (by lia),ev j (by lia) h3]
    exact md _
   have z8:Rl arr (mirror arr lo (lo+n) ((lo+n-lo) / 2)) lo (lo+cF):=(ky (by lia)).wide (ay _) (by lia)
   have G3:vA key (mirror arr lo (lo+n) ((lo+n-lo) / 2)) (lo+n)<vA key (mirror arr lo (lo+n) ((lo+n-lo) / 2)) (lo+n-1):=by rw [hv,hv];exact G2
   generalize mirror arr lo (lo+n) ((lo+n-lo) / 2)=O9 at d1 z8 G3 ⊢;refine ar (wpS_lift (n6 ⟨rfl,?_⟩))
   refine ar (fZ (fI (I:=fun x c av=>∃(aI:Array Keyed) (q:Nat),av=a9 κ aI pend g∧c=(none,x,q)∧Rl arr aI lo (lo+cF)∧jP key aI lo (lo+x)∧xr key aI lo x q∧x≤cF∧1≤x)
    (Q:=fun c av=>∃(aI:Array Keyed) (n q:Nat),av=a9 κ aI pend g∧c=(none,n,q)∧Rl arr aI lo (lo+cF)∧jP key aI lo (lo+n)∧xr key aI lo n q∧n≤cF∧1≤n) ?_ ?_ ⟨O9,0,rfl,rfl,z8,d1.more (by lia) (dh G3),⟨by lia,fun i h1 h2=>by rw [show i=lo+(n+1)-1 by lia]⟩,by lia,by lia⟩) ?_)
   ·rintro x c av _ hx ⟨aI,q,rfl,rfl,dO,d2,e2,x1,x2⟩
    have jQ:=dO.ok ok;have z2:=dO.size;dsimp only;refine ar (kA h jQ (by lia) (by lia) ?_)
    dsimp only;by_cases z:vA key aI (lo+x)<vA key aI (lo+x-1)
    ·rw [bA z,ae rfl]
     by_cases y:q>0
     ·rw [ae y]
      refine ar (mU (aq ?_));obtain ⟨d3,hv⟩:=z6 (by lia) d2 e2
      refine ⟨_,0,rfl,rfl,dO.trans ((ky (by lia)).wide (by have:=e2.1;lia) (by lia)),d3.more (by lia) (by rw [hv,hv];exact dh z),⟨by lia,fun i h1 h2=>by rw [show i=lo+(x+1)-1 by lia]⟩,by lia,by lia⟩
     ·rw [aa y]
      exact aq ⟨_,0,rfl,rfl,dO,d2.more (by lia) (dh z),⟨by lia,fun i h1 h2=>by rw [show i=lo+(x+1)-1 by lia]⟩,by lia,by lia⟩
    ·rw [bH z,aa (by simp)]
     refine ar (kA h jQ (by lia) (by lia) ?_)
     dsimp only;by_cases y:vA key aI (lo+x-1)<vA key aI (lo+x)
     ·rw [bA y,ae rfl]
      exact aq ⟨_,_,_,rfl,rfl,dO,d2,e2,x1,x2⟩
     ·rw [bH y,aa (by simp)]
      have ev:vA key aI (lo+x)=vA key aI (lo+x-1):=by lia
      refine aq ⟨_,_,rfl,rfl,dO,d2.more (by lia) (by lia),⟨by have:=e2.1;lia,fun i h1 h2=>?_⟩,by lia,by lia⟩
      rw [show lo+(x+1)-1=lo+x by lia]
      by_cases w:i=lo+x;·rw [w]
      ·rw [ev]
       exact e2.2 i (by lia) (by lia)
   ·rintro c av ⟨aI,q,rfl,rfl,dO,d2,e2,x1,x2⟩
    exact ⟨aI,_,q,rfl,rfl,dO,d2,e2,x1,x2⟩
   ·rintro c av ⟨aI,n2,q2,rfl,rfl,dO,d2,e2,x1,x2⟩
    have z2:=dO.size;dsimp only;by_cases y:q2>0
    ·rw [ae y]
     obtain ⟨d3,hv⟩:=z6 (by lia) d2 e2
     refine ar (mU (ar (mU ?_)));have kB:=dO.trans ((ky (arr:=aI) (i:=lo+n2-(q2+1)) (j:=lo+n2) (by lia)).wide (by have:=e2.1;lia) (show lo+n2≤lo+cF by lia))
     generalize mirror aI (lo+n2-(q2+1)) (lo+n2) _=cJ at d3 kB ⊢;have z3:=kB.size;have gp:=z7 (by lia) d3
     have bZ:=kB.trans ((ky (arr:=cJ) (i:=lo) (j:=lo+n2) (by lia)).wide (ay lo) (show lo+n2≤lo+cF by lia))
     generalize mirror cJ lo (lo+n2) _=aW at gp bZ ⊢;have kC:=Rl.ok bZ ok;have z4:=Rl.size bZ;refine ar (xt h kC (by lia) (by lia) (by lia) gp ?_ fun m m1 mn qD _=>aq (k m aW (by lia) mn bZ qD))
     intro x n R a1 a2 r;dsimp only;refine ar (kA h kC (by lia) (by lia) ?_)
     dsimp only;by_cases z:vA key aW (lo+n)<vA key aW (lo+n-1)
     ·rw [ae z] at r
      rw [bA z,ae rfl];exact aq r
     ·rw [aa z] at r
      rw [bH z,aa (by simp)]
      exact aq r
    ·rw [aa y]
     refine ar (mU ?_);have gp:=z7 (by lia) d2
     have bZ:=dO.trans ((ky (arr:=aI) (i:=lo) (j:=lo+n2) (by lia)).wide (ay lo) (show lo+n2≤lo+cF by lia))
     generalize mirror aI lo (lo+n2) _=aW at gp bZ ⊢;have kC:=Rl.ok bZ ok;have z4:=Rl.size bZ;refine ar (xt h kC (by lia) (by lia) (by lia) gp ?_ fun m m1 mn qD _=>aq (k m aW (by lia) mn bZ qD))
     intro x n R a1 a2 r;dsimp only;refine ar (kA h kC (by lia) (by lia) ?_)
     dsimp only;by_cases z:vA key aW (lo+n)<vA key aW (lo+n-1)
     ·rw [ae z] at r
      rw [bA z,ae rfl];exact aq r
     ·rw [aa z] at r
      rw [bH z,aa (by simp)]
      exact aq r
 ·rw [aa e2]
  have d1:jP key arr lo (lo+n):=fun i j h1 h2 h3=>by
   rw [show i=j by lia]
   exact md _
  have z8:Rl arr arr lo (lo+cF):=Rl.refl ..;refine ar (wpS_lift (n6 ⟨rfl,?_⟩))
  refine ar (fZ (fI (I:=fun x c av=>∃(aI:Array Keyed) (q:Nat),av=a9 κ aI pend g∧c=(none,x,q)∧Rl arr aI lo (lo+cF)∧jP key aI lo (lo+x)∧xr key aI lo x q∧x≤cF∧1≤x)
   (Q:=fun c av=>∃(aI:Array Keyed) (n q:Nat),av=a9 κ aI pend g∧c=(none,n,q)∧Rl arr aI lo (lo+cF)∧jP key aI lo (lo+n)∧xr key aI lo n q∧n≤cF∧1≤n) ?_ ?_ ⟨arr,0,rfl,rfl,z8,d1.more (by lia) (dh G2),⟨by lia,fun i h1 h2=>by rw [show i=lo+(n+1)-1 by lia]⟩,by lia,by lia⟩) ?_)
  ·rintro x c av _ hx ⟨aI,q,rfl,rfl,dO,d2,e2,x1,x2⟩
   have jQ:=dO.ok ok;have z2:=dO.size;dsimp only;refine ar (kA h jQ (by lia) (by lia) ?_)
   dsimp only;by_cases z:vA key aI (lo+x)<vA key aI (lo+x-1)
   ·rw [bA z,ae rfl]
    by_cases y:q>0
    ·rw [ae y]
     refine ar (mU (aq ?_));obtain ⟨d3,hv⟩:=z6 (by lia) d2 e2
     refine ⟨_,0,rfl,rfl,dO.trans ((ky (by lia)).wide (by have:=e2.1;lia) (by lia)),d3.more (by lia) (by rw [hv,hv];exact dh z),⟨by lia,fun i h1 h2=>by rw [show i=lo+(x+1)-1 by lia]⟩,by lia,by lia⟩
    ·rw [aa y]
     exact aq ⟨_,0,rfl,rfl,dO,d2.more (by lia) (dh z),⟨by lia,fun i h1 h2=>by rw [show i=lo+(x+1)-1 by lia]⟩,by lia,by lia⟩
   ·rw [bH z,aa (by simp)]
    refine ar (kA h jQ (by lia) (by lia) ?_)
    dsimp only;by_cases y:vA key aI (lo+x-1)<vA key aI (lo+x)
    ·rw [bA y,ae rfl]
     exact aq ⟨_,_,_,rfl,rfl,dO,d2,e2,x1,x2⟩
    ·rw [bH y,aa (by simp)]
     have ev:vA key aI (lo+x)=vA key aI (lo+x-1):=by lia
     refine aq ⟨_,_,rfl,rfl,dO,d2.more (by lia) (by lia),⟨by have:=e2.1;lia,fun i h1 h2=>?_⟩,by lia,by lia⟩
     rw [show lo+(x+1)-1=lo+x by lia]
     by_cases w:i=lo+x;·rw [w]
     ·rw [ev]
      exact e2.2 i (by lia) (by lia)
  ·rintro c av ⟨aI,q,rfl,rfl,dO,d2,e2,x1,x2⟩
   exact ⟨aI,_,q,rfl,rfl,dO,d2,e2,x1,x2⟩
  ·rintro c av ⟨aI,n2,q2,rfl,rfl,dO,d2,e2,x1,x2⟩
   have z2:=dO.size;dsimp only;by_cases y:q2>0
   ·rw [ae y]
    obtain ⟨d3,hv⟩:=z6 (by lia) d2 e2
    refine ar (mU (ar (mU ?_)));have kB:=dO.trans ((ky (arr:=aI) (i:=lo+n2-(q2+1)) (j:=lo+n2) (by lia)).wide (by have:=e2.1;lia) (show lo+n2≤lo+cF by lia))
    generalize mirror aI (lo+n2-(q2+1)) (lo+n2) _=cJ at d3 kB ⊢;have z3:=kB.size;have gp:=z7 (by lia) d3
    have bZ:=kB.trans ((ky (arr:=cJ) (i:=lo) (j:=lo+n2) (by lia)).wide (ay lo) (show lo+n2≤lo+cF by lia))
    generalize mirror cJ lo (lo+n2) _=aW at gp bZ ⊢;have kC:=Rl.ok bZ ok;have z4:=Rl.size bZ;refine ar (xt h kC (by lia) (by lia) (by lia) gp ?_ fun m m1 mn qD _=>aq (k m aW (by lia) mn bZ qD))
    intro x n R a1 a2 r;dsimp only;refine ar (kA h kC (by lia) (by lia) ?_)
    dsimp only;by_cases z:vA key aW (lo+n)<vA key aW (lo+n-1)
    ·rw [ae z] at r
     rw [bA z,ae rfl];exact aq r
    ·rw [aa z] at r
     rw [bH z,aa (by simp)]
     exact aq r
   ·rw [aa y]
    refine ar (mU ?_);have gp:=z7 (by lia) d2
    have bZ:=dO.trans ((ky (arr:=aI) (i:=lo) (j:=lo+n2) (by lia)).wide (ay lo) (show lo+n2≤lo+cF by lia))
    generalize mirror aI lo (lo+n2) _=aW at gp bZ ⊢;have kC:=Rl.ok bZ ok;have z4:=Rl.size bZ;refine ar (xt h kC (by lia) (by lia) (by lia) gp ?_ fun m m1 mn qD _=>aq (k m aW (by lia) mn bZ qD))
    intro x n R a1 a2 r;dsimp only;refine ar (kA h kC (by lia) (by lia) ?_)
    dsimp only;by_cases z:vA key aW (lo+n)<vA key aW (lo+n-1)
    ·rw [ae z] at r
     rw [bA z,ae rfl];exact aq r
    ·rw [aa z] at r
     rw [bH z,aa (by simp)]
     exact aq r
end
section
variable {prog:Program} {w:World} {A:Around} {E:aR} {s:Shared} {κ:SortKind} {key:Keyed→Int} {Ok:Keyed→Prop} {arr:Array Keyed} {pend:Array (Nat×Nat×Nat)} {g:Nat}
theorem O_{Q:Unit→SortSt→Prop}(q:Q () (a9 κ (bubble arr i (i-j)) pend g)):wpS (model prog w) A E s (moveDown' i j) Q (a9 κ arr pend g):=by rw [moveDown'_eq];exact j7 q
variable {d:Nat}
theorem G4{k:Nat}(hi:i<arr.size)(hd:d≤i):vA key (bubble arr i d) k=if k=i-d then vA key arr i else if i-d<k∧k≤i then vA key arr (k-1) else vA key arr k:=by
 unfold vA;rw [ku,getElem?_bubble hi d hd,ku arr i,ku arr (k-1),ku arr k];by_cases a:k=i-d;·rw [ae a,ae a]
 ·rw [aa a,aa a]
  by_cases b:i-d<k∧k≤i;·rw [ae b,ae b]
  ·rw [aa b,aa b]
variable {lo:Nat}
theorem Pa{hi:Nat}(h:i<arr.size)(hd:d≤i)(h1:lo≤i-d)(h2:i<hi):Rl arr (bubble arr i d) lo hi:=⟨bubble_perm ..,fun k hk=>by rw [getElem?_bubble h d hd,aa (by lia),aa (by lia)]⟩
theorem Pb(h:jL prog w A s κ key Ok)(ok:ft Ok arr){n m:Nat}(hz:lo+n≤arr.size)(m1:1≤m)(mn:m≤n)(sg:cV key arr lo (lo+m)){Q:Bool→SortSt→Prop}
  (k:∀aS,Rl arr aS lo (lo+n)→cV key aS lo (lo+n)→Q true (a9 κ aS pend g)):wpS (model prog w) A E s (binarySort' lo n m) Q (a9 κ arr pend g):=by
 rw [binarySort'_eq];have em:max m 1=m:=by lia
 rw [em]
 refine ar (fZ (fI (I:=fun x c av=>∃aI:Array Keyed,av=a9 κ aI pend g∧c=(none,())∧Rl arr aI lo (lo+n)∧cV key aI lo (lo+x)∧m≤x∧x≤n)
  (Q:=fun c av=>∃aI:Array Keyed,av=a9 κ aI pend g∧c=(none,())∧Rl arr aI lo (lo+n)∧cV key aI lo (lo+n)) ?_ ?_ ⟨arr,rfl,rfl,Rl.refl ..,sg,ay _,mn⟩) ?_)
 ·rintro x c av _ hx ⟨aI,rfl,rfl,rl,sg,x1,x2⟩
  have jQ:=rl.ok ok;have z2:=rl.size;dsimp only
  refine ar (fZ (fI (I:=fun y c av=>∃l r:Nat,av=a9 κ aI pend g∧c=(none,l,r)∧l≤r∧r≤x∧r-l+y≤x∧(∀i,i<l→vA key aI (lo+i)≤vA key aI (lo+x))∧(∀i,r≤i→i<x→vA key aI (lo+x)≤vA key aI (lo+i)))
   (Q:=fun c av=>∃l:Nat,av=a9 κ aI pend g∧c=(none,l,l)∧l≤x∧(∀i,i<l→vA key aI (lo+i)≤vA key aI (lo+x))∧(∀i,l≤i→i<x→vA key aI (lo+x)≤vA key aI (lo+i))) ?_ ?_ ⟨0,x,rfl,rfl,by lia,ay _,show x-0+0≤x by lia,fun i hi=>absurd hi (nX _),fun i h1 h2=>by lia⟩) ?_)
  ·rintro y c av _ hy ⟨l,r,rfl,rfl,g1,g2,g3,g4,g5⟩
   dsimp only;by_cases z:l≥r
   ·rw [ae z]
    obtain rfl:l=r:=by lia
    exact aq ⟨l,rfl,rfl,g2,g4,g5⟩
   ·rw [aa z]
    refine ar (kA h jQ (by lia) (by lia) ?_)
    dsimp only;by_cases w:vA key aI (lo+x)<vA key aI (lo+(l+r) / 2)
    ·rw [bA w,ae rfl]
     exact aq ⟨l,_,rfl,rfl,by lia,by lia,by lia,g4,fun i h1 h2=>dA (dh w) (sg _ _ (by lia) (by lia) (by lia))⟩
    ·rw [bH w,aa (by simp)]
     exact aq ⟨_,r,rfl,rfl,by lia,g2,by lia,fun i h1=>dA (sg _ _ (by lia) (by lia) (by lia)) (Int.not_lt.mp w),g5⟩
  ·rintro c av ⟨l,r,rfl,rfl,g1,g2,g3,g4,g5⟩
   have:max 0 x=x:=by lia
   obtain rfl:l=r:=by lia
   exact ⟨l,rfl,rfl,g2,g4,g5⟩
  ·rintro c av ⟨l,rfl,rfl,g2,g4,g5⟩
   dsimp only;refine ar (O_ (aq ?_));have ed:lo+x-(lo+l)=x-l:=by lia
   rw [ed];refine ⟨_,rfl,rfl,rl.trans (Pa (by lia) (by lia) (by lia) (by lia)),fun i j h1 h2 h3=>?_,by lia,by lia⟩
   have e0:lo+x-(x-l)=lo+l:=by lia
   rw [G4 (by lia) (by lia),G4 (by lia) (by lia),e0]
   have f4:∀i,lo≤i→i<lo+l→vA key aI i≤vA key aI (lo+x):=fun i a b=>by have:=g4 (i-lo) (by lia);rwa [show lo+(i-lo)=i by lia] at this
   have f5:∀i,lo+l≤i→i<lo+x→vA key aI (lo+x)≤vA key aI i:=fun i a b=>by have:=g5 (i-lo) (by lia) (by lia);rwa [show lo+(i-lo)=i by lia] at this
   by_cases a1:i=lo+l
   ·rw [ae a1]
    by_cases b1:j=lo+l;·rw [ae b1];exact md _
    ·rw [aa b1,ae (by lia)]
     exact f5 _ (by lia) (by lia)
   ·rw [aa a1]
    by_cases a2:lo+l<i∧i≤lo+x
    ·rw [ae a2,aa (by lia),ae (by lia)]
     exact sg _ _ (by lia) (by lia) (by lia)
    ·rw [aa a2]
     by_cases b1:j=lo+l
     ·rw [ae b1]
      exact f4 i h1 (by lia)
     ·rw [aa b1]
      by_cases b2:lo+l<j∧j≤lo+x
      ·rw [ae b2]
       exact dA (f4 i h1 (by lia)) (f5 _ (by lia) (by lia))
      ·rw [aa b2]
       exact sg _ _ (by lia) (by lia) (by lia)
 ·rintro c av ⟨aI,rfl,rfl,rl,sg,x1,x2⟩
  have:max m n=n:=by lia
  rw [this] at sg;exact ⟨aI,rfl,rfl,rl,sg⟩
 ·rintro c av ⟨aI,rfl,rfl,rl,sg⟩
  exact aq (k aI rl sg)
end
theorem Pc(i:Nat):mergeAt' i=(do
 let s ←get
 let (some (sa,na,power),some (sb,nb,_)):=((pendingOf s)[i]?,(pendingOf s)[i+1]?) | unsupported "internal:list.sort.pending"
 set (setPending s (((pendingOf s).setIfInBounds i (sa,na+nb,power)).eraseIdxIfInBounds (i+1)))
 let some k ←oK false (←elem' (arrOf s) sb) (arrOf s) sa na 0 | return false
 let (sa,na):=(sa+k,na-k)
 if na == 0 then return true
 let some nb ←oK true (←elem' (arrOf s) (sa+na-1)) (arrOf s) sb nb (nb-1) | return false
 if nb == 0 then return true
 let x:=(arrOf s).extract sa sb
 let y:=(arrOf s).extract sb (sb+nb)
 let merged ←if na≤nb then CF x y else CG x y
 modify fun s=>setArr s (merged.toList.zipIdx.foldl (fun a (p,j)=>a.setIfInBounds (sa+j) p) (arrOf s))
 return (failedOf (←get)).isNone):=rfl
def putL(m:List Keyed)(o:Nat)(arr:Array Keyed)(n:Nat):Array Keyed:=(m.zipIdx n).foldl (fun a (p,j)=>a.setIfInBounds (o+j) p) arr
theorem G5(m:List Keyed)(o:Nat):∀(arr:Array Keyed) (n k:Nat),o+n+m.length≤arr.size→(putL m o arr n)[k]?=if o+n≤k∧k<o+n+m.length then m[k-(o+n)]? else arr[k]?:=by
 induction m with
 | nil=>
  intro arr n k _;rw [aa (by simp)]
  rfl
 | cons x m ih=>
  intro arr n k hz;rw [fG] at hz ⊢;show (putL m o (arr.setIfInBounds (o+n) x) (n+1))[k]?=_;rw [ih _ _ _ (by simp;lia)]
  by_cases a:o+(n+1)≤k∧k<o+(n+1)+m.length
  ·rw [ae a,ae (by lia),show k-(o+n)=(k-(o+(n+1)))+1 by lia]
   rfl
  ·rw [aa a]
   by_cases b:k=o+n
   ·subst b
    rw [ae (by lia),sD]
    simp [show o+n<arr.size by lia]
   ·rw [aa (by lia)]
    rw [Array.getElem?_setIfInBounds_ne (by lia)]
theorem Pd{o:Nat}{arr:Array Keyed}(hz:o+m.length≤arr.size):(putL m o arr 0).toList=arr.toList.take o++m++arr.toList.drop (o+m.length):=by
 refine sE fun k=>?_;have e:(putL m o arr 0).toList[k]?=(putL m o arr 0)[k]?:=by simp
 rw [e,G5 m o arr 0 k (by lia),Nat.add_zero]
 by_cases a:k<o
 ·rw [aa (by lia),fF,gM (by simp;lia),List.getElem?_take_of_lt a]
  simp
 ·by_cases b:k<o+m.length
  ·rw [ae (by lia),fF,gK (by simp;lia),gM (by simp;lia)]
   congr 1
   simp;lia
  ·rw [aa (by lia),gK (by simp;lia),List.getElem?_drop]
   have:o+m.length+(k-(arr.toList.take o++m).length)=k:=by simp;lia
   rw [this];simp
section
variable {prog:Program} {w:World} {A:Around} {E:aR} {s:Shared} {κ:SortKind} {key:Keyed→Int} {Ok:Keyed→Prop} {arr:Array Keyed} {pend:Array (Nat×Nat×Nat)} {g:Nat}
variable {lo hi:Nat}
theorem G6(h:cV key arr lo hi)(hz:hi≤arr.size):bj key (arr.extract lo hi).toList:=by
 unfold bj;rw [sL];intro i j bw hj CK;have h1:i<hi-lo∧j<hi-lo:=by simp at bw hj;lia
 have:=h (lo+i) (lo+j) (by lia) (by lia) (by lia)
 unfold vA at this;simpa [Array.getD,show lo+i<arr.size by lia,show lo+j<arr.size by lia] using this
theorem CO(hz:hi≤arr.size)(bw:lo+i<hi):(arr.extract lo hi).getD i nn=arr.getD (lo+i) nn:=by simp [Array.getD,show lo+i<arr.size by lia,show i<min hi arr.size-lo by lia]
theorem G7(ok:ft Ok arr)(hz:hi≤arr.size):ft Ok (arr.extract lo hi):=fun i bw=>by
 have:lo+i<hi:=by simp at bw;lia
 rw [CO hz this];exact ok _ (by lia)
theorem ext_mem(hz:hi≤arr.size){x:Keyed}(hx:x∈(arr.extract lo hi).toList):∃j,lo≤j∧j<hi∧x=arr.getD j nn:=mT hz hx
theorem Pe{σ:Type}{st av:σ}{Q:PUnit→σ→Prop}{M:Model}(q:Q ⟨⟩ av):wpS M A E s (set av:StateT σ Sem PUnit) Q st:=by unfold wpS;rw [StateT.run_set];exact ba ⟨rfl,q⟩
variable {sa na nb:Nat}
theorem Pf{sb bq cp:Nat}{m:Array Keyed}(hz:sb+nb≤arr.size)(h0:sa+na=sb)(hk:bq≤na)(hb:cp≤nb)(pm:m.toList.Perm ((arr.extract (sa+bq) sb).toList++(arr.extract sb (sb+cp)).toList))(sm:bj key m.toList)
  (s1:cV key arr sa sb) (s2:cV key arr sb (sb+nb)) (Pg:bq<na) (G8:1≤nb)
  (c1:∀i,i<bq→vA key arr (sa+i)≤vA key arr sb) (c2:∀i,cp≤i→i<nb→vA key arr (sb-1)≤vA key arr (sb+i)) :
  Rl arr (putL m.toList (sa+bq) arr 0) sa (sb+nb)∧cV key (putL m.toList (sa+bq) arr 0) sa (sb+nb):=by
 have lm:m.toList.length=(na-bq)+cp:=by rw [pm.length_eq,du,jM,jM];simp;lia
 have hsz:sa+bq+m.toList.length≤arr.size:=by lia
 have at':=G5 m.toList (sa+bq) arr 0;have rl:Rl arr (putL m.toList (sa+bq) arr 0) sa (sb+nb):=by
  refine ⟨pQ.mpr ?_,fun k fS=>?_⟩
  ·rw [Pd hsz]
   have e:arr.toList=arr.toList.take (sa+bq)++((arr.extract (sa+bq) sb).toList++(arr.extract sb (sb+cp)).toList)++arr.toList.drop (sa+bq+m.toList.length):=by
    rw [jM,jM,show sa+bq+m.toList.length=sb+cp by lia,show sb+cp-sb=cp by lia]
    have t1:arr.toList.drop (sa+bq)=(arr.toList.drop (sa+bq)).take (sb-(sa+bq))++arr.toList.drop sb:=by
     have:=(n4 (sb-(sa+bq)) (arr.toList.drop (sa+bq))).symm;rw [List.drop_drop,show sa+bq+(sb-(sa+bq))=sb by lia] at this
     exact this
    have t2:arr.toList.drop sb=(arr.toList.drop sb).take cp++arr.toList.drop (sb+cp):=by have:=(n4 cp (arr.toList.drop sb)).symm;rw [List.drop_drop] at this;exact this
    have t0:=(n4 (sa+bq) arr.toList).symm;rw [t1,t2] at t0;rw [fF,fF];exact t0
   refine List.Perm.trans ?_ (List.Perm.of_eq e.symm);exact List.Perm.append_right _ (BN _ pm)
  ·rw [at' k (by lia),aa (by lia)]
 have vo:∀k,k<sa+bq∨sb+cp≤k→vA key (putL m.toList (sa+bq) arr 0) k=vA key arr k:=fun k fS=>by unfold vA;rw [ku,at' k (by lia),aa (by lia),ku]
 have vm:∀k,sa+bq≤k→k<sb+cp→∃hj:k-(sa+bq)<m.toList.length,vA key (putL m.toList (sa+bq) arr 0) k=key (m.toList[k-(sa+bq)]'hj):=fun k h1 h2=>by
  have hj:k-(sa+bq)<m.toList.length:=by lia
  refine ⟨hj,?_⟩;unfold vA;rw [ku,at' k (by lia),ae (by lia),Nat.add_zero,bS hj]
  rfl
 have vq:∀k,sa+bq≤k→k<sb+cp→∃q,sa+bq≤q∧q<sb+cp∧vA key (putL m.toList (sa+bq) arr 0) k=vA key arr q:=fun k h1 h2=>by
  obtain ⟨hj,e⟩:=vm k h1 h2;have mm:=pm.mem_iff.mp (cy hj);rcases cY.mp mm with mm | mm
  ·obtain ⟨q,q1,q2,eq⟩:=ext_mem (by lia) mm
   exact ⟨q,q1,by lia,by rw [e,eq];rfl⟩
  ·obtain ⟨q,q1,q2,eq⟩:=ext_mem (by lia) mm
   exact ⟨q,by lia,q2,by rw [e,eq];rfl⟩
 have d1:∀i,sa≤i→i<sa+bq→vA key arr i≤vA key arr sb:=fun i a b=>by
  have:=c1 (i-sa) (by lia)
  rwa [show sa+(i-sa)=i by lia] at this
 have d2:∀j,sb+cp≤j→j<sb+nb→vA key arr (sb-1)≤vA key arr j:=fun j a b=>by
  have:=c2 (j-sb) (by lia) (by lia)
  rwa [show sb+(j-sb)=j by lia] at this
 refine ⟨rl,fun i j h1 h2 h3=>?_⟩;by_cases i1:i<sa+bq
 ·rw [vo i (.inl i1)]
  by_cases j1:j<sa+bq
  ·rw [vo j (.inl j1)]
   exact s1 i j h1 h2 (by lia)
  ·by_cases j2:j<sb+cp
   ·obtain ⟨q,q1,q2,e⟩:=vq j (by lia) j2
    rw [e];by_cases q3:q<sb;·exact s1 i q h1 (by lia) q3
    ·exact dA (d1 i h1 i1) (s2 sb q (ay _) (by lia) (by lia))
   ·rw [vo j (.inr (by lia))]
    exact dA (d1 i h1 i1) (s2 sb j (ay _) (by lia) h3)
 ·by_cases i2:i<sb+cp
  ·by_cases j2:j<sb+cp
   ·obtain ⟨x1,e1⟩:=vm i (by lia) i2
    obtain ⟨x2,e2⟩:=vm j (by lia) j2
    rw [e1,e2];by_cases z:i=j;·subst z;exact md _
    ·exact sL.mp sm _ _ x1 x2 (by lia)
   ·obtain ⟨q,q1,q2,e⟩:=vq i (by lia) i2
    rw [e,vo j (.inr (by lia))]
    by_cases q3:q<sb;·exact dA (s1 q (sb-1) (by lia) (by lia) (by lia)) (d2 j (by lia) h3)
    ·exact s2 q j (by lia) (by lia) h3
  ·rw [vo i (.inr (by lia)),vo j (.inr (by lia))]
   exact s2 i j (by lia) h2 h3
theorem Ph(h:jL prog w A s κ key Ok)(ok:ft Ok arr){pw mV:Nat}(e1:pend[i]?=some (sa,na,pw))(e2:pend[i+1]?=some (sa+na,nb,mV))(Pg:1≤na)(G8:1≤nb)(hz:sa+na+nb≤arr.size)
  (s1:cV key arr sa (sa+na)) (s2:cV key arr (sa+na) (sa+na+nb)) {Q:Bool→SortSt→Prop}
  (k:∀aS g',Rl arr aS sa (sa+na+nb)→cV key aS sa (sa+na+nb)→Q true (a9 κ aS ((pend.setIfInBounds i (sa,na+nb,pw)).eraseIdxIfInBounds (i+1)) g')):wpS (model prog w) A E s (mergeAt' i) Q (a9 κ arr pend g):=by
 rw [Pc];refine ar (i3 ?_);have oE:(pendingOf (a9 κ arr pend g))[i]?=some (sa,na,pw):=e1;have Pj:(pendingOf (a9 κ arr pend g))[i+1]?=some (sa+na,nb,mV):=e2;rw [oE,Pj];dsimp only;refine ar (Pe ?_);refine ar (bE (by show sa+na<arr.size;lia) ?_)
 refine ar (iK (f:=fun j=>bB false (vA key arr (sa+na)) (vA key arr (sa+j))) (fun j hj Q q=>iJ (κ:=κ) h (by show sa+j<arr.size;lia) ok (ok _ (by lia)) rfl q) (by lia) ?_ fun t t1 t2 t3=>?_)
 ·intro i j h1 h2 h3
  have:vA key arr (sa+i)≤vA key arr (sa+na):=dA (s1 _ _ (by lia) (by lia) (by lia)) (lH h3)
  show (!decide (vA key arr (sa+na)<vA key arr (sa+i)))=true;simpa using this
 dsimp only;by_cases z1:(na-t == 0)=true
 ·rw [ae z1]
  have tz:t=na:=by have:=eq_of_beq z1;lia
  subst tz;refine aq (k arr g (Rl.refl ..) fun i j h1 h2 h3=>?_);by_cases i1:i<sa+t
  ·by_cases j1:j<sa+t
   ·exact s1 i j h1 h2 j1
   ·have:=lH (t2 (i-sa) (by lia))
    rw [show sa+(i-sa)=i by lia] at this
    exact dA this (s2 _ _ (ay _) (by lia) (by lia))
  ·exact s2 i j (by lia) h2 (by lia)
 rw [aa z1];have tn:t<na:=by
  have:na-t≠0:=fun e=>z1 (by simp [e])
  lia
 refine ar (bE (by show sa+t+(na-t)-1<arr.size;lia) ?_)
 have el:sa+t+(na-t)-1=sa+na-1:=by lia
 rw [el];refine ar (iK (f:=fun j=>bB true (vA key arr (sa+na-1)) (vA key arr (sa+na+j))) (fun j hj Q q=>iJ (κ:=κ) h (by show sa+na+j<arr.size;lia) ok (ok _ (by lia)) rfl q) (by lia) ?_ fun u u1 u2 u3=>?_)
 ·intro i j h1 h2 h3
  exact bA (Int.lt_of_le_of_lt (s2 _ _ (by lia) (by lia) (by lia)) (gU h3))
 dsimp only;have Pl:=oO (t3 (na-1) (by lia) (by lia))
 rw [show sa+(na-1)=sa+na-1 by lia] at Pl
 by_cases z2:(u == 0)=true
 ·exfalso
  have:=iL (u3 0 (by have:=eq_of_beq z2;lia) (by lia))
  rw [Nat.add_zero] at this;lia
 rw [aa z2];have un:1≤u:=by
  have:u≠0:=fun e=>z2 (by simp [e])
  lia
 have ox:=G7 ok (lo:=sa+t) (hi:=sa+na) (by lia)
 have oy:=G7 ok (lo:=sa+na) (hi:=sa+na+u) (by lia)
 have sx:bj key (arr.extract (sa+t) (sa+na)).toList:=G6 (fun i j h1 h2 h3=>s1 i j (by lia) h2 h3) (by lia)
 have sy:bj key (arr.extract (sa+na) (sa+na+u)).toList:=G6 (fun i j h1 h2 h3=>s2 i j h1 h2 (by lia)) (by lia)
 have zx:(arr.extract (sa+t) (sa+na)).size=na-t:=by simp;lia
 have zy:(arr.extract (sa+na) (sa+na+u)).size=u:=by simp;lia
 have h0:∀x∈(arr.extract (sa+t) (sa+na)).toList,key ((arr.extract (sa+na) (sa+na+u)).getD 0 nn)≤key x:=fun x hx=>by
  obtain ⟨j,j1,j2,rfl⟩:=ext_mem (by lia) hx
  rw [CO (by lia) (by lia),Nat.add_zero]
  have:=oO (t3 (j-sa) (by lia) (by lia))
  rw [show sa+(j-sa)=j by lia] at this
  exact dh this
 have hl:∀y∈(arr.extract (sa+na) (sa+na+u)).toList,key y≤key ((arr.extract (sa+t) (sa+na)).getD ((arr.extract (sa+t) (sa+na)).size-1) nn):=fun y hy=>by
  obtain ⟨j,j1,j2,rfl⟩:=ext_mem (by lia) hy
  rw [zx,CO (by lia) (by lia),show sa+t+(na-t-1)=sa+na-1 by lia]
  have:=gU (u2 (j-(sa+na)) (by lia))
  rw [show sa+na+(j-(sa+na))=j by lia] at this
  exact dh this
 have fin:∀(m:Array Keyed) (g':Nat),m.toList.Perm ((arr.extract (sa+t) (sa+na)).toList++(arr.extract (sa+na) (sa+na+u)).toList)→bj key m.toList→Q true (a9 κ (putL m.toList (sa+t) arr 0) ((pend.setIfInBounds i (sa,na+nb,pw)).eraseIdxIfInBounds (i+1)) g'):=fun m g' pm sm=>by obtain ⟨rl,sg⟩:=Pf (sb:=sa+na) hz rfl (nN tn) u1 pm sm s1 s2 tn G8 (fun i hi=>lH (t2 i hi)) (fun i h1 h2=>iL (u3 i h1 h2));exact k _ g' rl sg
 refine eV (fun _=>?_) (fun _=>?_)
 ·refine ar (O2 (κ:=κ) h ox oy sx sy (by lia) (by lia) h0 hl rfl fun m g' pm sm=>?_)
  exact ar (j7 (ar (i3 (aq (fin m g' pm sm)))))
 ·refine ar (O6 (κ:=κ) h ox oy sx sy (by lia) (by lia) h0 hl rfl fun m g' pm sm=>?_)
  exact ar (j7 (ar (i3 (aq (fin m g' pm sm)))))
end
def cO(key:Keyed→Int)(arr:Array Keyed):List (Nat×Nat×Nat)→Nat→Nat→Prop
 | [],lo,hi=>lo=hi
 | p::r,lo,hi=>p.1=lo∧1≤p.2.1∧cV key arr lo (lo+p.2.1)∧cO key arr r (lo+p.2.1) hi
section
variable {key:Keyed→Int} {arr aS:Array Keyed}
theorem cO.le:∀{l:List (Nat×Nat×Nat)} {lo hi:Nat},cO key arr l lo hi→lo+l.length≤hi
 | [],lo,hi,h=>by have:lo=hi:=h;simp;lia
 | p::r,lo,hi,h=>by have:=cO.le h.2.2.2;have:=h.2.1;simp only [fG];lia
variable {hi:Nat}
theorem cV.bK{lo a b:Nat}(h:cV key arr lo hi)(rl:Rl arr aS a b)(d:hi≤a∨b≤lo):cV key aS lo hi:=fun i j h1 h2 h3=>by
 rw [rl.v (by lia),rl.v (by lia)]
 exact h i j h1 h2 h3
theorem cO.bK:∀{l:List (Nat×Nat×Nat)} {lo hi a b:Nat},cO key arr l lo hi→Rl arr aS a b→hi≤a∨b≤lo→cO key aS l lo hi
 | [],lo,hi,a,b,h,_,_=>h
 | p::r,lo,hi,a,b,h,rl,d=>by have:=h.2.2.2.le;refine ⟨h.1,h.2.1,h.2.2.1.bK rl (by lia),h.2.2.2.bK rl (by lia)⟩
theorem cO.snoc:∀{l:List (Nat×Nat×Nat)} {lo hi n pw:Nat},cO key arr l lo hi→1≤n→cV key arr hi (hi+n)→cO key arr (l++[(hi,n,pw)]) lo (hi+n)
 | [],lo,hi,n,pw,h,n1,s=>by obtain rfl:lo=hi:=h;exact ⟨rfl,n1,s,rfl⟩
 | p::r,lo,hi,n,pw,h,n1,s=>⟨h.1,h.2.1,h.2.2.1,h.2.2.2.snoc n1 s⟩
theorem cO.two:∀{l:List (Nat×Nat×Nat)} {lo hi i:Nat},cO key arr l lo hi→i+1<l.length→∃sa na pw nb mV,l[i]?=some (sa,na,pw)∧l[i+1]?=some (sa+na,nb,mV)∧1≤na∧1≤nb∧lo≤sa∧sa+na+nb≤hi∧cV key arr sa (sa+na)∧cV key arr (sa+na) (sa+na+nb) ∧
  ∀aS,Rl arr aS sa (sa+na+nb)→cV key aS sa (sa+na+nb)→cO key aS ((l.set i (sa,na+nb,pw)).eraseIdx (i+1)) lo hi
 | [],lo,hi,i,h,bw=>by simp at bw
 | [p],lo,hi,i,h,bw=>by simp at bw
 | p::q::r,lo,hi,0,h,_=>by
  obtain ⟨p1,p2,pw⟩:=p;obtain ⟨q1,q2,mV⟩:=q;obtain ⟨e1,n1,s1,e2,n2,s2,c⟩:=h;dsimp only at e1 n1 s1 e2 n2 s2 c;subst e1;subst e2;have:=c.le;refine ⟨p1,p2,pw,q2,mV,rfl,rfl,n1,n2,ay _,by lia,s1,s2,fun aS rl sg=>?_⟩
  show cO key aS ((p1,p2+q2,pw)::r) p1 hi;refine ⟨rfl,by show 1≤p2+q2;lia,by show cV key aS p1 (p1+(p2+q2));rw [←Nat.add_assoc];exact sg,?_⟩
  show cO key aS r (p1+(p2+q2)) hi;rw [←Nat.add_assoc];exact c.bK rl (.inr (ay _))
 | p::q::r,lo,hi,i+1,h,bw=>by
  obtain ⟨sa,na,pw,nb,mV,e1,e2,n1,n2,l1,l2,s1,s2,k⟩:=h.2.2.2.two (i:=i) (by simpa using bw)
  refine ⟨sa,na,pw,nb,mV,e1,e2,n1,n2,by lia,l2,s1,s2,fun aS rl sg=>?_⟩
  exact ⟨h.1,h.2.1,h.2.2.1.bK rl (.inl l1),k aS rl sg⟩
theorem cO.last:∀{l:List (Nat×Nat×Nat)} {lo hi pw:Nat},cO key arr l lo hi→cO key arr (l.modify (l.length-1) fun x=>(x.1,x.2.1,pw)) lo hi
 | [],lo,hi,pw,h=>h
 | [p],lo,hi,pw,h=>h
 | p::q::r,lo,hi,pw,h=>⟨h.1,h.2.1,h.2.2.1,h.2.2.2.last⟩
theorem cO.one{l:List (Nat×Nat×Nat)}(h:cO key arr l 0 hi)(hl:l.length≤1):cV key arr 0 hi:=by
 match l,h,hl with
 | [],h,_=>have:0=hi:=h;exact fun i j h1 h2 h3=>by lia
 | [p],h,_=>have:=h.2.2.1;have e:0+p.2.1=hi:=h.2.2.2;rw [←e];exact this
 | p::q::r,_,hl=>simp at hl
end
section
variable {prog:Program} {w:World} {A:Around} {E:aR} {s:Shared} {κ:SortKind} {key:Keyed→Int} {Ok:Keyed→Prop} {arr:Array Keyed} {pend:Array (Nat×Nat×Nat)} {g:Nat}
theorem CP(h:jL prog w A s κ key Ok)(ok:ft Ok arr){hi:Nat}(c:cO key arr pend.toList 0 hi)(hz:hi≤arr.size)(bw:i+1<pend.size){Q:Bool→SortSt→Prop}
  (k:∀aS tR g',Rl arr aS 0 hi→cO key aS tR.toList 0 hi→tR.size+1=pend.size→Q true (a9 κ aS tR g')):wpS (model prog w) A E s (mergeAt' i) Q (a9 κ arr pend g):=by
 obtain ⟨sa,na,pw,nb,mV,e1,e2,n1,n2,l1,l2,s1,s2,kk⟩:=c.two (i:=i) (by simpa using bw)
 refine Ph h ok (by simpa using e1) (by simpa using e2) n1 n2 (by lia) s1 s2 fun aS g' rl sg=>?_
 refine k _ _ _ (rl.wide (bU _) l2) ?_ ?_
 ·have:=kk aS rl sg
  simpa using this
 ·rw [←gs,Array.toList_eraseIdxIfInBounds,List.length_eraseIdx,ae (by simpa using bw)]
  simp;lia
theorem Pm(h:jL prog w A s κ key Ok)(ok:ft Ok arr){Q:Unit→SortSt→Prop}
  (k:∀aS av,aS.Perm arr→cV key aS 0 arr.size→arrOf av=aS→failedOf av=none→Q () av):wpS (model prog w) A E s sortRuns' Q (a9 κ arr #[] g):=by
 rw [sortRuns'_eq];refine ar (i3 ?_);dsimp only;have es:(arrOf (a9 κ arr #[] g)).size=arr.size:=rfl;rw [es]
 refine ar (fZ (fI (I:=fun x c av=>∃(aI:Array Keyed) (eI:Array (Nat×Nat×Nat)) (g2 lo:Nat),av=a9 κ aI eI g2∧c=(none,lo)∧aI.Perm arr∧cO key aI eI.toList 0 lo∧lo≤arr.size∧x≤lo)
  (Q:=fun c av=>∃(aI:Array Keyed) (eI:Array (Nat×Nat×Nat)) (g2:Nat),av=a9 κ aI eI g2∧c=(none,arr.size)∧aI.Perm arr∧cO key aI eI.toList 0 arr.size) ?_ ?_ ⟨arr,#[],g,0,rfl,rfl,Array.Perm.refl _,rfl,bU _,ay _⟩) ?_)
 ·rintro x c av _ hx ⟨aI,eI,g2,lo,rfl,rfl,oQ,qE,l1,l2⟩
  have jQ:=tQ ok oQ;have z2:=oQ.size_eq;dsimp only;by_cases z:lo≥arr.size
  ·rw [ae z]
   obtain rfl:lo=arr.size:=by lia
   exact aq ⟨aI,eI,g2,rfl,rfl,oQ,qE⟩
  rw [aa z];refine ar (O8 h jQ (by lia) (by lia) fun n cJ n1 nn kB sg=>?_)
  have eJ:=kB.pm.trans oQ;have G9:=tQ ok eJ;have z3:=eJ.size_eq;have iM:=qE.bK kB (.inl (ay _));dsimp only;by_cases y:n<minRun' arr.size arr.size 0
  ·rw [ae y]
   refine ar (wpS_lift (n6 ⟨rfl,?_⟩));refine ar (Pb h G9 (n:=min (arr.size-lo) (minRun' arr.size arr.size 0)) (by lia) n1 (by lia) sg fun aW bZ gp=>?_)
   rw [aa (by simp)]
   have gq:=iM.bK bZ (.inl (ay _));have CQ:=bZ.pm.trans eJ;clear iM eJ G9 z3 sg kB bZ;have f1:1≤min (arr.size-lo) (minRun' arr.size arr.size 0):=by lia
   have f2:lo+min (arr.size-lo) (minRun' arr.size arr.size 0)≤arr.size:=by lia
   generalize min (arr.size-lo) (minRun' arr.size arr.size 0)=fo at gp f1 f2 ⊢
   revert gq CQ gp
   generalize aW=cJ;intro iM eJ gp;refine ar (i3 ?_);have eb:(pendingOf (a9 κ cJ eI g2)).back?=eI.back?:=rfl;rw [eb];cases eI.back? with
   | none=>dsimp only;exact ar (j7 (aq ⟨cJ,eI.push (lo,fo,0),g2,lo+fo,rfl,rfl,eJ,by rw [n5];exact iM.snoc f1 gp,f2,by have:=f1;lia⟩))
   | some p=>
    obtain ⟨Pn,z9,Po⟩:=p;dsimp only;have z3:=eJ.size_eq
    refine ar (fZ (fI (I:=fun y c av=>∃(aW:Array Keyed) (bL:Array (Nat×Nat×Nat)) (g4:Nat),av=a9 κ aW bL g4∧c=(none,())∧Rl cJ aW 0 lo∧cO key aW bL.toList 0 lo)
     (Q:=fun c av=>∃(aW:Array Keyed) (bL:Array (Nat×Nat×Nat)) (g4:Nat),av=a9 κ aW bL g4∧c=(none,())∧Rl cJ aW 0 lo∧cO key aW bL.toList 0 lo) ?_ (fun c av hh=>hh) ⟨cJ,eI,g2,rfl,rfl,Rl.refl ..,iM⟩) ?_)
    ·rintro y c av _ hy ⟨aW,bL,g4,rfl,rfl,bZ,gq⟩
     have z4:=bZ.size;refine ar (i3 ?_);have hx:∀o,o=(if (pendingOf (a9 κ aW bL g4)).size>1 then (pendingOf (a9 κ aW bL g4))[(pendingOf (a9 κ aW bL g4)).size-2]? else none)→o.isSome=true→bL.size>1:=fun o ho hs=>by
      by_cases z:bL.size>1;·exact z
      ·rw [aa z] at ho
       rw [ho] at hs;cases hs
     generalize eo:(if (pendingOf (a9 κ aW bL g4)).size>1 then (pendingOf (a9 κ aW bL g4))[(pendingOf (a9 κ aW bL g4)).size-2]? else none)=o
     cases o with
     | none=>exact aq ⟨aW,bL,g4,rfl,rfl,bZ,gq⟩
     | some p=>
      have gt:=hx _ eo.symm rfl;obtain ⟨q1,q2,Pp⟩:=p;dsimp only;refine eV (fun _=>aq ⟨aW,bL,g4,rfl,rfl,bZ,gq⟩) (fun _=>?_);refine ar (CP h (tQ ok (bZ.pm.trans eJ)) gq (by lia) (show bL.size-2+1<bL.size by lia) fun CS CT g5 CU CW _=>?_)
      rw [aa (by simp)]
      exact aq ⟨CS,CT,g5,rfl,rfl,bZ.trans CU,CW⟩
    ·rintro c av ⟨aW,bL,g4,rfl,rfl,bZ,gq⟩
     dsimp only;refine ar (j7 (ar (j7 (aq ⟨aW,_,g4,lo+fo,rfl,rfl,bZ.pm.trans eJ,?_,f2,by have:=f1;lia⟩))))
     rw [n5];refine cO.snoc ?_ f1 (cV.bK gp bZ (.inr (ay _)));rw [Array.toList_modify];exact gq.last
  ·rw [aa y]
   have f2:lo+n≤arr.size:=by lia
   refine ar (i3 ?_);have eb:(pendingOf (a9 κ cJ eI g2)).back?=eI.back?:=rfl;rw [eb];cases eI.back? with
   | none=>dsimp only;exact ar (j7 (aq ⟨cJ,eI.push (lo,n,0),g2,lo+n,rfl,rfl,eJ,by rw [n5];exact iM.snoc n1 sg,f2,by have:=n1;lia⟩))
   | some p=>
    obtain ⟨Pn,z9,Po⟩:=p;dsimp only;have z3:=eJ.size_eq
    refine ar (fZ (fI (I:=fun y c av=>∃(aW:Array Keyed) (bL:Array (Nat×Nat×Nat)) (g4:Nat),av=a9 κ aW bL g4∧c=(none,())∧Rl cJ aW 0 lo∧cO key aW bL.toList 0 lo)
     (Q:=fun c av=>∃(aW:Array Keyed) (bL:Array (Nat×Nat×Nat)) (g4:Nat),av=a9 κ aW bL g4∧c=(none,())∧Rl cJ aW 0 lo∧cO key aW bL.toList 0 lo) ?_ (fun c av hh=>hh) ⟨cJ,eI,g2,rfl,rfl,Rl.refl ..,iM⟩) ?_)
    ·rintro y c av _ hy ⟨aW,bL,g4,rfl,rfl,bZ,gq⟩
     have z4:=bZ.size;refine ar (i3 ?_);have hx:∀o,o=(if (pendingOf (a9 κ aW bL g4)).size>1 then (pendingOf (a9 κ aW bL g4))[(pendingOf (a9 κ aW bL g4)).size-2]? else none)→o.isSome=true→bL.size>1:=fun o ho hs=>by
      by_cases z:bL.size>1;·exact z
      ·rw [aa z] at ho
       rw [ho] at hs;cases hs
     generalize eo:(if (pendingOf (a9 κ aW bL g4)).size>1 then (pendingOf (a9 κ aW bL g4))[(pendingOf (a9 κ aW bL g4)).size-2]? else none)=o
     cases o with
     | none=>exact aq ⟨aW,bL,g4,rfl,rfl,bZ,gq⟩
     | some p=>
      have gt:=hx _ eo.symm rfl;obtain ⟨q1,q2,Pp⟩:=p;dsimp only;refine eV (fun _=>aq ⟨aW,bL,g4,rfl,rfl,bZ,gq⟩) (fun _=>?_);refine ar (CP h (tQ ok (bZ.pm.trans eJ)) gq (by lia) (show bL.size-2+1<bL.size by lia) fun CS CT g5 CU CW _=>?_)
      rw [aa (by simp)]
      exact aq ⟨CS,CT,g5,rfl,rfl,bZ.trans CU,CW⟩
    ·rintro c av ⟨aW,bL,g4,rfl,rfl,bZ,gq⟩
     dsimp only;refine ar (j7 (ar (j7 (aq ⟨aW,_,g4,lo+n,rfl,rfl,bZ.pm.trans eJ,?_,f2,by have:=n1;lia⟩))))
     rw [n5];refine cO.snoc ?_ n1 (cV.bK sg bZ (.inr (ay _)));rw [Array.toList_modify];exact gq.last
 ·rintro c av ⟨aI,eI,g2,lo,rfl,rfl,oQ,qE,l1,l2⟩
  obtain rfl:lo=arr.size:=by lia
  exact ⟨aI,eI,g2,rfl,rfl,oQ,qE⟩
 ·rintro c av ⟨aI,eI,g2,rfl,rfl,oQ,qE⟩
  dsimp only;have pz:=qE.le
  refine ar (fZ (fI (I:=fun x c av=>∃(cJ:Array Keyed) (eK:Array (Nat×Nat×Nat)) (g3:Nat),av=a9 κ cJ eK g3∧c=(none,())∧cJ.Perm arr∧cO key cJ eK.toList 0 arr.size∧eK.size+x≤arr.size)
   (Q:=fun c av=>∃(cJ:Array Keyed) (eK:Array (Nat×Nat×Nat)) (g3:Nat),av=a9 κ cJ eK g3∧c=(none,())∧cJ.Perm arr∧cO key cJ eK.toList 0 arr.size∧eK.size≤1) ?_ ?_ ⟨aI,eI,g2,rfl,rfl,oQ,qE,show eI.size+0≤arr.size by simpa using pz⟩) ?_)
  ·rintro x c av _ hx ⟨cJ,eK,g3,rfl,rfl,eJ,iM,l3⟩
   have z3:=eJ.size_eq;refine ar (i3 ?_);by_cases z:(pendingOf (a9 κ cJ eK g3)).size≤1
   ·rw [ae z]
    exact aq ⟨cJ,eK,g3,rfl,rfl,eJ,iM,z⟩
   ·rw [aa z]
    have z':1<eK.size:=Nat.lt_of_not_le z;have go:∀i,i+1<eK.size→wpS (model prog w) A E s (mergeAt' i) (fun b av=>b=true∧∃(aW:Array Keyed) (bL:Array (Nat×Nat×Nat)) (g4:Nat),av=a9 κ aW bL g4∧aW.Perm arr∧cO key aW bL.toList 0 arr.size∧bL.size+(x+1)≤arr.size) (a9 κ cJ eK g3):=fun i hi=>by refine CP h (tQ ok eJ) iM (by lia) hi fun aW bL g4 bZ gq sz=>⟨rfl,aW,bL,g4,rfl,bZ.pm.trans eJ,gq,by lia⟩
    refine ar (fZ (go _ ?_) ?_)
    ·show (if _ then _ else _)+1<eK.size
     have e:(pendingOf (a9 κ cJ eK g3)).size=eK.size:=rfl;rw [e];have:∀c:Bool,(if c=true then eK.size-2-1 else eK.size-2)+1<eK.size:=fun c=>by cases c <;> simp <;> lia
     exact this _
    ·rintro b av ⟨rfl,aW,bL,g4,rfl,CQ,gq,l4⟩
     rw [aa (by simp)]
     exact aq ⟨aW,bL,g4,rfl,rfl,CQ,gq,l4⟩
  ·rintro c av ⟨cJ,eK,g3,rfl,rfl,eJ,iM,l3⟩
   exact ⟨cJ,eK,g3,rfl,rfl,eJ,iM,by lia⟩
  ·rintro c av ⟨cJ,eK,g3,rfl,rfl,eJ,iM,l3⟩
   exact aq (k cJ _ eJ (iM.one (by simpa using l3)) rfl rfl)
end
end Tm
namespace My
open PySem PySem.W PyProof.Rows Tm
section
variable {prog:Program} {w:World} {A:Around} {E:aR} {s:Shared}
def e9(h:Heap)(v:Value)(x y:Int):Prop:=∃a o t u e,v=.ref a∧h.get? a=some o∧o.cls=.type "tuple"∧o.data=.seq #[.int x t,.int y u] e
variable {x y x' y':Int}
theorem Pq{v v':Value}(h1:e9 s.heap v x y)(h2:e9 s.heap v' x' y'){Q:Bool→Shared→Prop}(h:Q (decide (x<x'∨x=x'∧y<y')) s):wpAny (model prog w) A (keyLt' (tuples' true) v v') Q E s:=by
 obtain ⟨a,o,t,u,e,rfl,g,_,d⟩:=h1;obtain ⟨a',o',t',u',e',rfl,g',_,d'⟩:=h2;refine kat_lt g d g' d' ?_;show KatLex prog w A true (decide (2<2)) Q [(.int x t,.int x' t'),(.int y u,.int y' u')] 0 s;refine kat_cons (wpAny_eqBool_int ?_);by_cases z:x=x'
 ·subst z
  rw [show (x == x)=true by simp]
  refine kat_yes (kat_cons (wpAny_eqBool_int ?_));by_cases z2:y=y'
  ·subst z2
   rw [show (y == y)=true by simp]
   refine kat_yes (kat_nil ?_);rw [bH (by lia)] at h
   exact h
  ·rw [show (y == y')=false by simp [z2]]
   refine kat_no ?_;show wpAny (model prog w) A (oneLt' false (.int y u) (.int y' u')) Q _ s;refine kat_one _ _ (lt_int ?_);show Q (decide (y<y')) s;rw [show decide (y<y')=decide (x<x∨x=x∧y<y') from yO.mpr (by lia)]
   exact h
 ·rw [show (x == x')=false by simp [z]]
  refine kat_no ?_;show wpAny (model prog w) A (oneLt' true (.int x t) (.int x' t')) Q _ s;refine oneLt_int ?_;rw [show decide (x<x')=decide (x<x'∨x=x'∧y<y') from yO.mpr (by lia)]
  exact h
theorem G_{h:Heap}:∀{vs:List Value},(∀v∈vs,∃x y,e9 h v x y)→∃fs:List Value,KatTups h vs fs∧fs.length=vs.length∧∀f∈fs,∃n t,f=.int n t
 | [],_=>⟨[],.nil,rfl,fun f hf=>by cases hf⟩
 | v::vs,hv=>by
  obtain ⟨fs,k,l,i⟩:=G_ (vs:=vs) fun v h=>hv v (eC _ h);obtain ⟨x,y,a,o,t,u,e,rfl,g,c,d⟩:=hv v d5;refine ⟨.int x t::fs,.cons g c d rfl k,by rw [fG,fG,l],fun f hf=>?_⟩
  rcases bO.mp hf with rfl | hf;·exact ⟨x,t,rfl⟩
  ·exact i f hf
theorem perm_back{α β:Type}{f:α→β}{l m:List β}(h:l.Perm m):∀q:List α,m=q.map f→∃p:List α,p.Perm q∧l=p.map f:=by
 induction h with
 | nil=>intro q e;exact ⟨q,List.Perm.refl _,e⟩
 | cons x _ ih=>
  intro q e
  match q,e with
  | a::q,e=>obtain ⟨rfl,e'⟩:=List.cons.inj e;obtain ⟨p,hp,rfl⟩:=ih q e';exact ⟨a::p,hp.cons a,rfl⟩
 | swap x y _=>
  intro q e
  match q,e with
  | a::b::q,e=>obtain ⟨rfl,e'⟩:=List.cons.inj e;obtain ⟨rfl,rfl⟩:=List.cons.inj e';exact ⟨b::a::q,List.Perm.swap ..,rfl⟩
 | trans _ _ Pu Pw=>intro q e;obtain ⟨p,hp,e1⟩:=Pw q e;obtain ⟨p',lK,e2⟩:=Pu p e1;exact ⟨p',lK.trans hp,e2⟩
variable {h:Heap}
theorem e9.uniq{v:Value}(h1:e9 h v x y)(h2:e9 h v x' y'):x=x'∧y=y':=by obtain ⟨a,o,t,u,e,rfl,g,_,d⟩:=h1;obtain ⟨a',o',t',u',e',ev,g',_,d'⟩:=h2;cases ev;rw [g] at g';cases g';rw [d] at d';simp at d';exact ⟨d'.1.1.1,d'.1.2.1⟩
open Classical in
noncomputable def CY (h:Heap) (k:Keyed):Int:=if e:∃z:Int×Int,e9 h k.1 z.1 z.2 then (choose e).1*1000+(choose e).2 else 0
theorem z_{v u:Value}(p:e9 h v x y):CY h (v,u)=x*1000+y:=by have e:∃z:Int×Int,e9 h (v,u).1 z.1 z.2:=⟨(x,y),p⟩;unfold CY;rw [dif_pos e];obtain ⟨a,b⟩:=(Classical.choose_spec e).uniq p;rw [a,b]
variable {vs:List Value}
theorem Px{x y:Nat→Int}(h2:2≤vs.length)(hv:∀i v,vs[i]?=some v→e9 s.heap v (x i) (y i)∧0≤y i∧y i<1000){Q:SortSt→Shared→Prop}
  (hQ:∀(p:Array Nat) (st:SortSt),lG vs.length p→oJ (fun i=>x i*1000+y i) p vs.length→(arrOf st).map (·.2)=List.toArray (p.toList.map fun i=>vs.getD i Value.none)→failedOf st=none→Q st s) :
  wpAny (model prog w) A (sortRuns'.run (SortSt.mk' (tuples' true) (vs.toArray.zip vs.toArray) #[] 7 none)) (fun r s'=>Q r.2 s') E s:=by
 have az:(vs.toArray.zip vs.toArray).size=vs.length:=by simp
 have ag:∀i,i<vs.length→(vs.toArray.zip vs.toArray).getD i nn=(vs.getD i Value.none,vs.getD i Value.none):=fun i hi=>by simp [Array.getD,hi]
 have ga:∀i (hi:i<vs.length),e9 s.heap (vs.getD i Value.none) (x i) (y i)∧0≤y i∧y i<1000:=fun i hi=>by refine hv i _ ?_;simp [hi]
 have lt:jL prog w A s (tuples' true) (CY s.heap) (fun k=>∃a b,e9 s.heap k.1 a b∧0≤b∧b<1000):=by
  rintro ⟨u,u'⟩ ⟨v,v'⟩ ⟨a,b,p1,b0,b1⟩ ⟨c,d,p2,d0,d1⟩ C hC;refine Pq p1 p2 ?_;rw [z_ p1,z_ p2] at hC;rw [show decide (a<c∨a=c∧b<d)=decide (a*1000+b<c*1000+d) from yO.mpr (by lia)]
  exact hC
 have ok:ft (fun k=>∃a b,e9 s.heap k.1 a b∧0≤b∧b<1000) (vs.toArray.zip vs.toArray):=fun i hi=>by rw [az] at hi;rw [ag i hi];exact ⟨_,_,ga i hi⟩
 refine cS (Pm (E:=E) (Q:=fun _ st=>Q st s) (g:=7) lt ok fun aS st pm sg ha hf=>?_) (fun r s' h'=>by obtain ⟨rfl,h'⟩:=h';exact h') fun _ _ e=>e
 have el:(vs.toArray.zip vs.toArray).toList=(List.range vs.length).map fun i=>(vs.getD i Value.none,vs.getD i Value.none):=by
  refine iY (by simp) fun i h1 h2=>?_
  have hi:i<vs.length:=by simpa using h2
  simp [hi]
 obtain ⟨p,hp,ep⟩:=perm_back (pQ.mp pm) _ el;have pl:p.length=vs.length:=by rw [hp.length_eq,fH]
 have Py:∀i∈p,i<vs.length:=fun i hi=>cR.mp (hp.mem_iff.mp hi);have hsz:aS.size=vs.length:=by rw [pm.size_eq,az]
 have gd:∀i,i<vs.length→aS.getD i nn=(vs.getD (p.toArray.getD i 0) Value.none,vs.getD (p.toArray.getD i 0) Value.none)∧p.toArray.getD i 0<vs.length:=fun i hi=>by
  have e1:aS.getD i nn=aS.toList[i]'(by simp;lia):=by simp [Array.getD,show i<aS.size by lia]
  have e2:p.toArray.getD i 0=p[i]'(by lia):=by simp [Array.getD,show i<p.length by lia]
  rw [e1,e2];refine ⟨?_,Py _ (cy _)⟩;simp [ep]
 refine hQ p.toArray st (pQ.mpr (by simpa using hp)) (fun i j h1 h3=>?_) ?_ hf
 ·have:=sg i j (bU _) h1 (by rw [az];exact h3)
  unfold vA at this;obtain ⟨e1,l1⟩:=gd i (by lia)
  obtain ⟨e2,l2⟩:=gd j h3;rw [e1,e2,z_ (ga _ l1).1,z_ (ga _ l2).1] at this;exact this
 ·rw [ha]
  apply Array.toList_inj.mp;rw [Array.toList_map,ep,dE];rfl
theorem Pz{Q:SortKind→Shared→Prop}(h1:1≤vs.length)(hv:∀v∈vs,∃x y,e9 s.heap v x y)(h:Q (tuples' true) s):wpAny (model prog w) A (keyKind' vs.toArray) Q E s:=by
 obtain ⟨fs,k,l,i⟩:=G_ hv;refine kat_kind (T:=Value.type "int") k (by lia) (fun v hv=>?_) rfl h
 obtain ⟨n,t,rfl⟩:=i v hv;exact .now
theorem e9.mono{h':Heap}{v:Value}(k:∀b o,h.get? b=some o→h'.get? b=some o)(p:e9 h v x y):e9 h' v x y:=by obtain ⟨a,o,t,u,e,rfl,g,c,d⟩:=p;exact ⟨a,o,t,u,e,rfl,k _ _ g,c,d⟩
theorem PB{a:Addr}{n:Nat}{x y:Nat→Int}{P:PySem.Fin→Shared→Prop}(ho:s.heap.get? a=some (seqObj "list" vs.toArray n))(Aa:vs.length<2000)(hv:∀i v,vs[i]?=some v→e9 s.heap v (x i) (y i)∧0≤y i∧y i<1000)
  (h:∀(p:Array Nat),lG vs.length p→oJ (fun i=>x i*1000+y i) p vs.length→P (.done (.ret .none)) {s with heap:=sortedHeap s.heap a vs (List.toArray (p.toList.map fun i=>vs.getD i Value.none))}) :
  wpAny (model prog w) A (Builtin.«list.sort» ⟨[.ref a],[]⟩) P E s:=by
 have sl:vs.length≤sizeLine:=by rw [l_];lia
 have lt:=aY ho
 obtain ⟨e1,g1⟩:∃e,(s.heap.update a (Obj.mapSeq fun _=>#[])).get? a=some (seqObj "list" #[] e):=⟨_,get?_update_seq ho fun _=>#[]⟩
 have z1:(s.heap.update a (Obj.mapSeq fun _=>#[])).objs.size=s.heap.objs.size:=Heap.size_update _ _ _
 have up:∀b u,b<s.heap.objs.size→(s.heap.update a (Obj.mapSeq fun _=>#[])).get? b=some u→(((s.heap.update a (Obj.mapSeq fun _=>#[])).push (seqObj "tuple" vs.toArray 0)).push (seqObj "list" #[] 0)).get? b=some u:=fun b u hb hu=>by
  rw [sM _ _ _ (cx (by rw [size_push',z1];exact yP hb)),sM _ _ _ (cx (by rw [z1];exact hb))]
  exact hu
 have g3:=up a _ lt g1
 have Hi:∀i v,vs[i]?=some v→e9 (((s.heap.update a (Obj.mapSeq fun _=>#[])).push (seqObj "tuple" vs.toArray 0)).push (seqObj "list" #[] 0)) v (x i) (y i)∧0≤y i∧y i<1000:=fun i v hi=>by
  obtain ⟨⟨b,o,t,u,e,rfl,g,cc,d⟩,y0⟩:=hv i v hi
  have nb:b≠a:=fun q=>by
   rw [q,ho] at g
   cases g
   exact absurd (Value.type.inj cc) (by decide)
  refine ⟨⟨b,o,t,u,e,rfl,up b o (aY g) ?_,cc,d⟩,y0⟩
  rw [yQ _ _ _ _ nb]
  exact g
 rw [list_sort_plain]
 refine aC (listItems_at ho rfl (aC (listUpdate_at ho rfl ?_ (by rw [b_];lia) (bU _))))
 refine aC (seqEpoch_at g1 rfl (aC (wpAny_newTuple ?_ (by show vs.length≤_;lia))))
 refine aC (wpAny_newList (nO ?_) (bU _))
 show wpAny (model prog w) A _ P E {s with heap:=((s.heap.update a (Obj.mapSeq fun _=>#[])).push (seqObj "tuple" vs.toArray 0)).push (seqObj "list" #[] 0)}
 dsimp only
 have fin:∀(st:SortSt) (p:Array Nat),lG vs.length p→oJ (fun i=>x i*1000+y i) p vs.length→(arrOf st).map (·.2)=List.toArray (p.toList.map fun i=>vs.getD i Value.none)→failedOf st=none→
   wpAny (model prog w) A (do
    let touched:=(←seqEpoch a) != e1
    Builtin.List.listUpdate (.ref a) fun _=>(arrOf st).map (·.2)
    if let some e:=failedOf st then rule "list.sort.comparison-raised";throw e
    if touched then rule "list.sort.modified";raiseError "ValueError" "list modified during sort"
    ret .none) P E {s with heap:=((s.heap.update a (Obj.mapSeq fun _=>#[])).push (seqObj "tuple" vs.toArray 0)).push (seqObj "list" #[] 0)}:=fun st p hp hu ha hf=>by
  refine aC (seqEpoch_at g3 rfl (aC (listUpdate_at g3 rfl ?_ (bU _) ?_)))
  ·rw [hf,ha]
   simp only [bne_self_eq_false,vW,j6]
   exact ba (h p hp hu)
  ·rw [ha,b_,aH,gs,hp.size]
   lia
 by_cases z:vs.toArray.size<2
 ·rw [ae z,ae z]
  refine aC (ba ?_)
  rw [StateT.run_pure]
  refine aC (ba ?_)
  have len:vs.length<2:=by simpa using z
  refine fin _ (List.toArray (List.range vs.length)) (Array.Perm.refl _) (fun a b h1 h2=>by
   obtain rfl:a=b:=by lia
   exact md _) ?_ rfl
  match vs,len with
  | [],_=>
   show Array.map (·.2) ((#[]:Array Value).zip #[])=_
   simp
  | [v],_=>
   show Array.map (·.2) (#[v].zip #[v])=_
   simp
 ·rw [aa z,aa z]
  have len:2≤vs.length:=by simpa using z
  refine aC (Pz (by lia) (fun v hm=>?_) ?_)
  ·obtain ⟨i,hi,rfl⟩:=sJ hm
   exact ⟨_,_,(Hi i _ (by simp [hi])).1⟩
  ·refine aC (cS (Px (Q:=fun st s'=>s'={s with heap:=((s.heap.update a (Obj.mapSeq fun _=>#[])).push (seqObj "tuple" vs.toArray 0)).push (seqObj "list" #[] 0)}∧∃p,lG vs.length p∧oJ (fun i=>x i*1000+y i) p vs.length∧(arrOf st).map (·.2)=List.toArray (p.toList.map fun i=>vs.getD i Value.none)∧failedOf st=none) len Hi fun p st a1 a2 a3 a4=>⟨rfl,p,a1,a2,a3,a4⟩) ?_ fun _ _ e=>e)
   rintro ⟨⟨⟩,st⟩ s' ⟨rfl,p,a1,a2,a3,a4⟩
   exact fin st p a1 a2 a3 a4
end
open PySem PySem.W PyProof.Rows
section
variable {prog:Program} {w:World} {A:Around} {E:aR} {s:Shared}
theorem PD{l:Addr}{vs:List Value}{x y:Nat→Int}{Q:aR}(hl:s.heap.IsList l vs.toArray)(Aa:vs.length<2000)(hv:∀i v,vs[i]?=some v→e9 s.heap v (x i) (y i)∧0≤y i∧y i<1000)
  (h:∀(p:Array Nat) (h':Heap) (c:Nat),lG vs.length p→oJ (fun i=>x i*1000+y i) p vs.length→(∀b o,s.heap.get? b=some o→h'.get? b=some o)→h'.get? (s.heap.objs.size+1)=some (seqObj "list" (List.toArray (p.toList.map fun i=>vs.getD i Value.none)) c)→Q (.ref (s.heap.objs.size+1)) {s with heap:=h'}) :
  wpAny (model prog w) A (call (.builtin "sorted") [.ref l]) Q E s:=by
 have sl:vs.length≤sizeLine:=by rw [l_];lia
 refine Calls.call_function_entry kind_sorted plain_sorted entry_sorted (args_sorted1 _) ?_;unfold Builtin.«sorted»;refine aC (m:=checkCount "sorted" 1 1 _) (ba (aC (collect_list hl (aC (wpAny_newList ?_ sl)) sl)));have zz:((s.heap.push (seqObj "list" #[] 0)).update s.heap.objs.size (Obj.mapSeq (·++vs.toArray))).objs.size=s.heap.objs.size+1:=by rw [Heap.size_update,size_push']
 have kp:∀b o,s.heap.get? b=some o→(((s.heap.push (seqObj "list" #[] 0)).update s.heap.objs.size (Obj.mapSeq (·++vs.toArray))).push (seqObj "list" vs.toArray 0)).get? b=some o:=fun b o g=>by
  have lt:=aY g;rw [sM _ _ _ (cx (by rw [zz];exact yP lt)),yQ _ _ _ _ (cx lt),sM _ _ _ (cx lt)]
  exact g
 have gL:(((s.heap.push (seqObj "list" #[] 0)).update s.heap.objs.size (Obj.mapSeq (·++vs.toArray))).push (seqObj "list" vs.toArray 0)).get? (s.heap.objs.size+1)=some (seqObj "list" vs.toArray 0):=by rw [←zz];exact dU _ rfl
 show wpAny _ _ _ _ _ {s with heap:=((s.heap.push (seqObj "list" #[] 0)).update s.heap.objs.size (Obj.mapSeq (·++vs.toArray))).push (seqObj "list" vs.toArray 0)};rw [zz];generalize ((s.heap.push (seqObj "list" #[] 0)).update s.heap.objs.size (Obj.mapSeq (·++vs.toArray))).push (seqObj "list" vs.toArray 0)=h1 at kp gL;refine aC (nO (yR slot_list_sort ⟨_,gL,rfl⟩ entry_list_sort (PB (s:={s with heap:=h1}) gL Aa (fun i v hi=>⟨(hv i v hi).1.mono kp,(hv i v hi).2⟩) fun p hp hu=>⟨_,rfl,?_⟩) (args_list_sort _)));have PF:=aY gL;have z1:(h1.update (s.heap.objs.size+1) (Obj.mapSeq fun _=>#[])).objs.size=h1.objs.size:=Heap.size_update _ _ _;obtain ⟨e1,g1⟩:∃e,(h1.update (s.heap.objs.size+1) (Obj.mapSeq fun _=>#[])).get? (s.heap.objs.size+1)=some (seqObj "list" #[] e):=⟨_,get?_update_seq gL fun _=>#[]⟩;have up:∀b u,b<h1.objs.size→(h1.update (s.heap.objs.size+1) (Obj.mapSeq fun _=>#[])).get? b=some u→(((h1.update (s.heap.objs.size+1) (Obj.mapSeq fun _=>#[])).push (seqObj "tuple" vs.toArray 0)).push (seqObj "list" #[] 0)).get? b=some u:=fun b u hb hu=>by
  rw [sM _ _ _ (cx (by rw [size_push',z1];exact yP hb)),sM _ _ _ (cx (by rw [z1];exact hb))]
  exact hu
 have g3:=up _ _ PF g1;refine ba ⟨_,rfl,h p _ _ hp hu (fun b o g=>?_) (get?_update_seq g3 fun _=>List.toArray (p.toList.map fun i=>vs.getD i Value.none))⟩;have g':=kp b o g;have ne:b≠s.heap.objs.size+1:=cx (yP (aY g));show (Heap.update _ _ _).get? b=some o;rw [yQ _ _ _ _ ne];refine up b o (aY g') ?_;rw [yQ _ _ _ _ ne];exact g'
end
end My
namespace L2
open PySem PySem.W PyProof.Rows My
def Hj:List V→Hp→VK→Prop:=fun xs H Q=>∃(a:Addr) (vs:List V) (x y:Nat→Int),xs=[.ref a]∧H a=some (.lst vs)∧vs.length<2000∧(∀(i:Nat) (v:V),vs[i]?=some v→(∃b,v=.ref b∧H b=some (.tup [.int (x i),.int (y i)]))∧0≤y i∧y i<1000) ∧
 ∀(p:Array Nat) (l:Addr),lG vs.length p→oJ (fun i=>x i*1000+y i) p vs.length→H l=none→Q (.ref l) (upd H l (.lst (p.toList.map fun i=>vs.getD i .aN)))
theorem Hk{xs:List V}{us:List Value}(r:Vals xs us):∀(ns:List Nat),(∀i∈ns,i<xs.length)→Vals (ns.map fun i=>xs.getD i .aN) (ns.map fun i=>us.getD i Value.none)
 | [],_=>.nil
 | i::ns,h=>by
  have hi:=h i d5;obtain ⟨u,e,ru⟩:=r.get (i:=i) (x:=xs[i]) (by simp [hi])
  refine .cons ?_ (Hk r ns fun j hj=>h j (eC _ hj));dsimp only;rw [show xs.getD i .aN=xs[i] by simp [hi],show us.getD i Value.none=u by rw [cG,e];rfl]
  exact ru
theorem Ab{X:Cx}:gB X (.builtin "sorted") Hj:=by
 intro pins s σ H xs us Q I r h;obtain ⟨a,vs,x,y,rfl,ha,Aa,hv,k⟩:=h;obtain ⟨u,rfl,ru⟩:=vals1 r;cases ru;obtain ⟨its,rv,pl,hz⟩:=I.list (.of ha);have hl:=rv.length;refine PD (x:=x) (y:=y) pl.isList (by lia) (fun i v hi=>?_) fun p h' c hp hu kp g=>?_
 ·have bw:i<vs.length:=by have:=(bW.mp hi).1;lia
  have gi:vs[i]?=some vs[i]:=by simp [bw]
  obtain ⟨⟨b,eb,hb⟩,PH⟩:=hv i _ gi;obtain ⟨u,eu,ru⟩:=rv.get gi;rw [hi] at eu;cases eu;rw [eb] at ru;cases ru;obtain ⟨_,oB,r2,o,g,cl,e,d⟩:=(show bV X.prog X.w H s.heap b (.tup [.int (x i),.int (y i)]) from I.ax b _ hb);obtain ⟨u1,u2,rfl,q1,q2⟩:=vals2 r2;obtain ⟨t1,rfl⟩:=q1;obtain ⟨t2,rfl⟩:=q2;exact ⟨⟨b,o,t1,t2,e,rfl,g,cl,d⟩,PH⟩
 ·rw [←hl] at hp hu
  have sz:=hp.size;refine ⟨.ref (s.heap.objs.size+1),_,I.laid (t':=s.toks) (o:=.lst (p.toList.map fun i=>vs.getD i .aN)) kp (jD _) ⟨?_,p.toList.map fun i=>its.getD i Value.none,c,?_,g⟩,rfl,k p _ hp hu (I.ax.fresh (jD _))⟩
  ·rw [aH,gs,sz]
   exact hz
  ·refine Hk rv _ fun i hi=>?_
   have m:i∈List.toArray (List.range vs.length):=(Array.Perm.mem_iff hp).mp (Array.mem_toList_iff.mp hi);simpa using m
end L2
namespace My
open PySem L2
def Hl(K:aJ):R2:=fun x y H Q=>∃a b xs,x=.ref a∧y=.ref b∧a7 K H a xs∧H b=some (.lst [])∧Q (.bl (!xs.isEmpty)) H
theorem Ac{X:Cx}(hu:X.A.units+64<cLine):cz X (compareOp .NotEq) (Hl X.K):=by
 intro pins s σ H x y v u Q I rx ry h;obtain ⟨a,b,xs,rfl,rfl,h1,h2,q⟩:=h;cases rx;cases ry;obtain ⟨us,r1,t1,_⟩:=I.list h1;obtain ⟨vs,r2,t2,_⟩:=I.list (a7.of h2);have l1:=r1.length;have l2:=r2.length;cases xs with
 | nil=>
  refine SeqAt.RcNeAt.lists (e:=fun _=>true) t1.isList t2.isList (by simp at l1 l2 ⊢;lia) (by lia) (fun j z1 z2=>?_) _ _ _ _ ?_
  ·simp at l1
   have:us=[]:=List.length_eq_zero_iff.mp l1.symm;subst this;simp at z1
  ·rw [all_range]
   exact ⟨.bl false,H,I,rfl,q⟩
 | cons w ws=>
  refine SeqAt.RcNeAt.lists_lengths t1.isList t2.isList ?_ (by lia) _ _ _ _ ⟨.bl true,H,I,rfl,q⟩
  simp at l1 l2 ⊢;lia
variable {σ:St} {H:Hp}
theorem xu{c:TT}{t u:TS}{D:Ends}(M:St→Hp→Prop)(hM:∀σ H,M σ H→D.nx σ H)(k:∀R:St→Hp→Prop,(∀σ H,M σ H→R σ H)→BY c t u {D with nx:=R} σ H):BY c t u D σ H:=k D.nx hM
variable {wi:TI} {ρ:St→St} {te:TE} {Q:VK} {P a:Addr} {n:Nat}
theorem PJ(hn:n<sizeLine)
  (gm:∀R:It→Hp→Prop,(∀(H1:Hp),aF P H H1→a_ H1 P a→R (mE 0 n) H1)→wi σ H R)
  (Pr:Addr→Nat→V→Hp→Prop) (mono:∀D i y Hc H' ys,Pr D i y Hc→Hc D=some (.lst ys)→D≠P→(∀b o,b≠D→b≠P→Hc b=some o→H' b=some o)→Pr D i y H')
  (step:∀(D:Addr) (i:Nat),i<n→∀(Hc:Hp) (R:VK),aF P H Hc→a_ Hc P a→(∃ys,Hc D=some (.lst ys))→D≠P→(∀y H3,aF P Hc H3→a_ H3 P a→Pr D i y H3→R y H3)→te (some (.int (0+(i:Int)))::ρ σ) Hc R)
  (fin:∀(D:Addr) (ys:List V) (Hc:Hp),D≠P→er P H D=none→aF P H Hc→a_ Hc P a→ys.length=n→(∀(i:Nat) (y:V),ys[i]?=some y→Pr D i y Hc)→Hc D=some (.lst ys)→Q (.ref D) Hc):gh wi ρ (fun _ H Q=>Q true H) te σ H Q:=by
 refine gm _ fun H1 s1 p1=>?_;intro D nD;have nP:=p1.ne nD;refine ⟨fun i m ys Hc=>m=n-i∧i≤n∧Hc D=some (.lst ys)∧aF P H1 Hc∧a_ Hc P a∧ys.length=i∧∀j y,ys[j]?=some y→Pr D j y Hc,⟨_,rfl,bU _,au,(aF.refl H1).but nD,p1.upd nP,rfl,fun j y e=>by simp at e⟩,?_⟩
 rintro i m ys Hc ⟨rfl,hi,eD,sH,pc,el,hP⟩;refine ⟨eD,?_⟩;by_cases aZ:i<n
 ·refine .inr ⟨aZ,fun x H' hy=>?_⟩
  obtain ⟨rfl,rfl⟩:=hy;rw [ae rfl];refine step D i (by lia) _ _ (s1.trans sH) pc ⟨ys,eD⟩ nP fun y H3 s3 p3 hp=>?_
  have e3:=s3.at nP eD;refine ⟨e3,by lia,n-(i+1),by lia,rfl,aZ,au,(sH.trans s3).but nD,p3.upd nP,by simp [el],fun j y' e=>?_⟩
  have bK:∀b o,b≠D→b≠P→H3 b=some o→upd H3 D (.lst (ys++[y])) b=some o:=fun b o nb _ e=>by rw [aG nb];exact e
  by_cases hj:j<i
  ·have e':ys[j]?=some y':=by rw [gM (by lia)] at e;exact e
   refine mono D j y' H' _ ys (hP j y' e') eD nP fun b o nb np e=>?_;exact bK b o nb np (s3.at np e)
  ·have hj:j=i:=by have:=(bW.mp e).1;simp at this;lia
   subst hj;have e':y'=y:=by rw [gK (by lia),el,sD] at e;simpa using e.symm
   subst e';exact mono D _ _ H3 _ ys hp e3 nP bK
 ·have e:i=n:=by lia
  subst e;exact .inl ⟨ay _,fin D ys Hc nP (none_of s1 (by rw [dG nP];exact nD)) (s1.trans sH) pc el hP eD⟩
def PK(K:aJ):Sp:=fun vs H Q _=>∃(P a l:Addr) (ns:List Int) (xs:List V),vs=[.ref P,.ref l]∧a_ H P a∧a7 K (er P H) a (ns.map V.int)∧l≠P∧H l=some (.lst xs)∧xs.length≤100 ∧
 ∀(r:Addr) (ys:List V) (H':Hp),aF P H H'→a_ H' P a→er P H r=none→r≠P→H' r=some (.lst ys)→ys.Perm xs→Q (.ref r) H'
def PL(K:aJ):Sp:=fun vs H Q _=>∃(P a:Addr) (ns:List Int) (way size wide i j:Int),vs=[.ref P,.int way,.int size,.int wide,.int i,.int j]∧a_ H P a∧a7 K (er P H) a (ns.map V.int) ∧
 ∀(b:Bool) (H':Hp),aF P H H'→a_ H' P a→Q (.bl b) H'
theorem Hm{α:Type}:∀(zs:List α) (k:Nat) (h:k<zs.length),(zs[k]::zs.eraseIdx k).Perm zs
 | _::_,0,_=>.refl _
 | z::zs,k+1,h=>(List.Perm.swap _ _ _).trans ((Hm zs k (by simpa using h)).cons z)
def aX(H:Hp)(vs:List V)(L:aw):Prop:=vs.length=L.length∧∀(k:Nat) (v:V) (p:Int×Int),vs[k]?=some v→L[k]?=some p→∃b,v=.ref b∧H b=some (.tup [.int p.1,.int p.2])
theorem aX.nil(H:Hp):aX H [] []:=⟨rfl,fun k v p h=>by simp at h⟩
variable {H':Hp} {vs:List V} {L:aw}
theorem aX.mono(h:aX H vs L)(s:ak H H'):aX H' vs L:=⟨h.1,fun k v p h1 h2=>by obtain ⟨b,e,g⟩:=h.2 k v p h1 h2;exact ⟨b,e,s _ _ g⟩⟩
variable {r:Addr} {xs:List V}
theorem aX.bK(h:aX H vs L)(e:H r=some (.lst xs))(k:∀b o,b≠r→H b=some o→H' b=some o):aX H' vs L:=⟨h.1,fun i v p h1 h2=>by obtain ⟨b,eb,g⟩:=h.2 i v p h1 h2;refine ⟨b,eb,k b _ (fun z=>?_) g⟩;rw [z,e] at g;cases g⟩
variable {b:Addr} {p:Int×Int}
theorem aX.push(h:aX H vs L)(e:H b=some (.tup [.int p.1,.int p.2])):aX H (vs++[.ref b]) (L++[p]):=⟨by simp [h.1],fun k v q h1 h2=>by
 have hl:=h.1;by_cases z:k<vs.length
 ·rw [gM z] at h1
  rw [gM (by lia)] at h2
  exact h.2 k v q h1 h2
 ·have hk:=(bW.mp h1).1
  rw [du,nW] at hk;obtain rfl:k=vs.length:=by lia
  rw [gK (ay _),sD] at h1;rw [gK (by lia),show vs.length-L.length=0 by lia] at h2
  cases h1;cases h2;exact ⟨b,rfl,e⟩⟩
structure g7 (n:Nat) (L:aw):Prop where
 nd:L.Nodup
 lt:∀p∈L,0≤p.1∧p.1<p.2∧p.2<n
 cW:L.length≤n*n / 2
def lexLt(p q:Int×Int):Prop:=p.1<q.1∨p.1=q.1∧p.2<q.2
variable {M:aw}
theorem PM{p:Array Nat}(P:lG M.length p)(U:oJ (fun i=>(M.getD i (0,0)).1*1000+(M.getD i (0,0)).2) p M.length)(nd:M.Nodup)(b:∀q∈M,0≤q.2∧q.2<1000) :
  (p.toList.map fun i=>M.getD i (0,0)).Perm M∧(p.toList.map fun i=>M.getD i (0,0)).Pairwise lexLt:=by
 have pm:p.toList.Perm (List.range M.length):=pQ.mp P;have pn:p.toList.Nodup:=pm.nodup_iff.mpr vX;have lt:∀i∈p.toList,i<M.length:=fun i hi=>cR.mp (pm.mem_iff.mp hi);refine ⟨?_,?_⟩
 ·have e:((List.range M.length).map fun i=>M.getD i (0,0))=M:=by
   refine iY (by simp) fun i h1 h2=>?_
   rw [i4,pR,getD_at h2]
  have:=pm.map fun i=>M.getD i (0,0);rw [e] at this;exact this
 ·rw [sL]
  intro i j hi hj CK;rw [aH] at hi hj;rw [i4,i4];have sz:=P.size;have li:p.toList[i]<M.length:=lt _ (cy _);have lj:p.toList[j]<M.length:=lt _ (cy _);have u:=U i j (by lia) (by rw [←sz,←gs];exact hj)
  unfold vN at u;have gi:p.getD i 0=p.toList[i]:=by
   have:i<p.size:=by rw [←gs];exact hi
   simp [Array.getD,this]
  have gj:p.getD j 0=p.toList[j]:=by
   have:j<p.size:=by rw [←gs];exact hj
   simp [Array.getD,this]
  rw [gi,gj] at u;dsimp only at u;rw [getD_at li,getD_at lj] at u;rw [getD_at li,getD_at lj];have ne:M[p.toList[i]]≠M[p.toList[j]]:=fun e=>by have e1:=(sj nd).mp e;have e2:=(sj pn).mp e1;lia
  have b1:=b _ (cy li);have b2:=b _ (cy lj);generalize M[p.toList[i]]=x at u ne b1;generalize M[p.toList[j]]=y at u ne b2;obtain ⟨x1,x2⟩:=x;obtain ⟨y1,y2⟩:=y;unfold lexLt;dsimp only at u b1 b2 ⊢;by_cases z:x1<y1;·exact .inl z
  ·right
   have e1:x1=y1:=by lia
   subst e1;refine ⟨rfl,?_⟩;by_cases y:x2=y2
   ·subst y
    exact absurd rfl ne
   ·lia
theorem xw{α β:Type}{f:α→β}:∀{L:List α},L.Nodup→(∀p q,p∈L→q∈L→f p=f q→p=q)→(L.map f).Nodup
 | [],_,_=>iZ
 | x::L,h,k=>by obtain ⟨h1,h2⟩:=kL.mp h;refine kL.mpr ⟨fun m=>?_,xw h2 fun p q hp hq=>k p q (eC _ hp) (eC _ hq)⟩;obtain ⟨y,hy,e⟩:=cj.mp m;have:=k y x (eC _ hy) d5 e;rw [this] at hy;exact h1 hy
def g8(nm:Nat→Int)(p:Int×Int):Int×Int:=(min (nm p.1.toNat) (nm p.2.toNat),max (nm p.1.toNat) (nm p.2.toNat))
structure CZ (n:Nat) (nm:Nat→Int):Prop where
 lt:∀i,i<n→0≤nm i∧nm i<n
 inj:∀i j,i<n→j<n→nm i=nm j→i=j
theorem PN{nm:Nat→Int}(h:g7 n L)(N:CZ n nm):g7 n (L.map (g8 nm)) where
 nd:=by
  refine xw h.nd fun p q hp hq e=>?_;have a:=h.lt p hp;have b:=h.lt q hq;obtain ⟨p1,p2⟩:=p;obtain ⟨q1,q2⟩:=q;obtain ⟨i,rfl⟩:=fk (show 0≤p1 by dsimp only at a;lia)
  obtain ⟨j,rfl⟩:=fk (show 0≤p2 by dsimp only at a;lia)
  obtain ⟨k,rfl⟩:=fk (show 0≤q1 by dsimp only at b;lia)
  obtain ⟨l,rfl⟩:=fk (show 0≤q2 by dsimp only at b;lia)
  dsimp only at a b;have e1:=eE Prod.fst e;have e2:=eE Prod.snd e;unfold g8 at e1 e2;simp only [d6] at e1 e2;have ij:nm i≠nm j:=fun z=>by have:=N.inj i j (by lia) (by lia) z;lia
  have kl:nm k≠nm l:=fun z=>by have:=N.inj k l (by lia) (by lia) z;lia
  by_cases z:nm i=nm k
  ·have e3:nm j=nm l:=by lia
   have i1:=N.inj i k (by lia) (by lia) z
   have i2:=N.inj j l (by lia) (by lia) e3
   rw [i1,i2]
  ·have e3:nm i=nm l:=by lia
   have e4:nm j=nm k:=by lia
   have i1:=N.inj i l (by lia) (by lia) e3
   have i2:=N.inj j k (by lia) (by lia) e4
   lia
 lt:=fun p hp=>by
  obtain ⟨q,hq,rfl⟩:=cj.mp hp;have a:=h.lt q hq;have n1:=N.lt q.1.toNat (by lia)
  have n2:=N.lt q.2.toNat (by lia)
  have ne:nm q.1.toNat≠nm q.2.toNat:=fun z=>by have:=N.inj _ _ (by lia) (by lia) z;lia
  unfold g8;dsimp only;lia
 cW:=by rw [aH];exact h.cW
theorem g7.perm{L':aw}(h:g7 n L)(p:L'.Perm L):g7 n L':=⟨p.nodup_iff.mpr h.nd,fun q hq=>h.lt q (p.mem_iff.mp hq),by rw [p.length_eq];exact h.cW⟩
def cQ(H:Hp)(t:Addr)(n:Nat)(L:aw):Prop:=∃(lt:Addr) (us:List V),H t=some (.tup [.int (n:Int),.ref lt])∧H lt=some (.tup us)∧aX H us L
def PQ:Sp:=fun vs H Q _=>∃(l r:Addr) (n:Nat) (us ws:List V) (L:aw) (nm:Nat→Int),vs=[.int (n:Int),.ref l,.ref r]∧H l=some (.lst us)∧aX H us L∧g7 n L∧n≤30∧H r=some (.lst ws)∧ws.length=n∧(∀i,i<n→ws[i]?=some (.int (nm i)))∧CZ n nm ∧
 ∀(t:Addr) (L':aw) (H':Hp),ak H H'→H t=none→cQ H' t n L'→g7 n L'→L'.Pairwise lexLt→L'.Perm (L.map (g8 nm))→Q (.ref t) H'
variable {us:List V}
theorem aX.pick(h:aX H us M)(ns:List Nat)(hn:∀i∈ns,i<M.length):aX H (ns.map fun i=>us.getD i .aN) (ns.map fun i=>M.getD i (0,0)):=⟨by simp,fun k v p h1 h2=>by
 have hl:=h.1;have hk:k<ns.length:=by have:=(bW.mp h1).1;simpa using this
 have hi:=hn ns[k] (cy hk);rw [bo,bS hk] at h1 h2;cases h1;cases h2;dsimp only;have bw:ns[k]<us.length:=by lia
 rw [getD_at hi];have e:us.getD ns[k] .aN=us[ns[k]]:=by simp [bw]
 rw [e];exact h.2 ns[k] _ _ (by simp [bw]) (by simp [hi])⟩
variable {tt:TT}
theorem PR{K:aJ}{l:Addr}(hn:xs.length<sizeLine)(nl:l≠P)(el:H l=some (.lst xs))(pc:a_ H P a)
  (gm:∀R:It→Hp→Prop,R (qi K l) H→wi σ H R)
  (test:∀(i:Nat) (x:V),xs[i]?=some x→∀(Hc:Hp) (R:Bool→Hp→Prop),aF P H Hc→a_ Hc P a→(∀b H3,aF P Hc H3→a_ H3 P a→R b H3)→tt (some x::ρ σ) Hc R)
  (elem:∀(x:V) (Hc:Hp) (R:VK),R x Hc→te (some x::ρ σ) Hc R)
  (fin:∀(D:Addr) (ys:List V) (Hc:Hp),D≠P→er P H D=none→aF P H Hc→a_ Hc P a→ys.Sublist xs→Hc D=some (.lst ys)→Q (.ref D) Hc):gh wi ρ tt te σ H Q:=by
 refine gm _ fun D nD=>?_;have nP:=pc.ne nD;have lD:l≠D:=fun e=>by rw [e,nD] at el;cases el
 refine ⟨fun i m ys Hc=>m=xs.length-i∧i≤xs.length∧Hc D=some (.lst ys)∧aF P H Hc∧a_ Hc P a∧ys.Sublist (xs.take i),⟨_,rfl,bU _,au,(aF.refl H).but nD,pc.upd nP,by simp⟩,?_⟩
 rintro i m ys Hc ⟨rfl,hi,eD,sH,Ho,sub⟩;refine ⟨eD,?_⟩;have jR:=sH.at nl el;by_cases aZ:i<xs.length
 ·refine .inr ⟨⟨xs,xs[i],.of jR,by simp [aZ]⟩,fun x H' hy=>?_⟩
  obtain ⟨rfl,hx⟩:=hy;have ex:=hx xs (.of jR);refine test i x ex _ _ sH Ho fun b H3 s3 p3=>?_;have tk:xs.take (i+1)=xs.take i++[x]:=by rw [j8,ex];rfl
  have e3:=s3.at nP eD;cases b with
  | true=>
   rw [ae rfl];refine elem x H3 _ ⟨e3,?_,xs.length-(i+1),by lia,rfl,aZ,au,(sH.trans s3).but nD,p3.upd nP,?_⟩
   ·have:=sub.length_le
    rw [nS] at this;lia
   ·rw [tk]
    exact sub.append (List.Sublist.refl _)
  | false=>
   rw [aa (by simp)]
   refine ⟨xs.length-(i+1),by lia,rfl,aZ,e3,sH.trans s3,p3,?_⟩
   rw [tk];exact sub.trans (List.sublist_append_left _ _)
 ·have e:i=xs.length:=by lia
  subst e;rw [gu] at sub;exact .inl ⟨⟨xs,.of jR,by lia⟩,fin D ys Hc nP (by rw [dG nP];exact nD) sH Ho sub eD⟩
def fT(k:Nat)(d:List Nat):Prop:=d.Pairwise (fun a b=>b<a)∧∀x∈d,x<k
theorem fT.len:∀{d:List Nat} {k:Nat},fT k d→d.length≤k
 | [],_,_=>bU _
 | x::d,k,h=>by obtain ⟨h1,h2⟩:=yS.mp h.1;have:=fT.len (k:=x) ⟨h2,fun y hy=>h1 y hy⟩;have:=h.2 x d5;rw [fG];lia
theorem fT.nil(k:Nat):fT k []:=⟨List.Pairwise.nil,fun x hx=>by cases hx⟩
variable {k:Nat} {d:List Nat}
theorem fT.sub{e:List Nat}(h:fT k d)(s:e.Sublist d):fT k e:=⟨h.1.sublist s,fun x hx=>h.2 x (s.subset hx)⟩
variable {j:Nat}
theorem fT.put(h:fT k d)(hk:k<j):fT j (k::d):=⟨yS.mpr ⟨h.2,h.1⟩,fun x hx=>by
 rcases bO.mp hx with rfl | hx;·exact hk
 ·have:=h.2 x hx
  lia⟩
theorem fT.nd(h:fT k d):d.Nodup:=h.1.imp fun h=>by lia
def e_(d:List Nat):List V:=d.map fun(x:Nat)=>V.int (x:Int)
theorem C0:∀{d:List Nat} {ys:List V},ys.Sublist (e_ d)→∃e:List Nat,e.Sublist d∧ys=e_ e
 | [],ys,h=>⟨[],List.Sublist.refl _,by have h:ys.Sublist []:=h;rw [List.sublist_nil.mp h];rfl⟩
 | x::d,ys,h=>by
  have h:ys.Sublist (V.int (x:Int)::e_ d):=h;cases h with
  | cons _ h=>obtain ⟨e,h1,h2⟩:=C0 h;exact ⟨e,h1.cons _,h2⟩
  | cons_cons _ h=>obtain ⟨e,h1,h2⟩:=C0 h;exact ⟨x::e,.cons_cons _ h1,by rw [h2];rfl⟩
structure mW (j:Nat) (L:aw):Prop where
 nd:L.Nodup
 lt:∀p∈L,0≤p.1∧p.1<p.2∧p.2<j
 cW:2*L.length≤j*(j-1)
theorem mW.nil:mW 1 []:=⟨iZ,(fun p hp=>by cases hp),by simp⟩
theorem mW.ok(h:mW n L):g7 n L:=⟨h.nd,h.lt,by
 have:=h.cW;have:n*(n-1)≤n*n:=Nat.mul_le_mul_left _ (by lia)
 lia⟩
theorem mW.more(h:mW j L)(hd:fT j d):mW (j+1) (L++d.map fun(x:Nat)=>((x:Int),(j:Int))) where
 nd:=by
  refine ic.mpr ⟨h.nd,xw hd.nd fun p q _ _ e=>by have:=eE Prod.fst e;dsimp only at this;lia,fun p hp q hq e=>?_⟩
  obtain ⟨x,_,rfl⟩:=cj.mp hq;have:=h.lt p hp;rw [e] at this;dsimp only at this;lia
 lt:=fun p hp=>by
  rcases cY.mp hp with hp | hp
  ·have:=h.lt p hp
   lia
  ·obtain ⟨x,hx,rfl⟩:=cj.mp hp
   have:=hd.2 x hx;dsimp only;lia
 cW:=by
  have a:=h.cW;have b:=hd.len;rw [du,aH,yT];cases j with
  | zero=>rw [Nat.zero_mul] at a;rw [Nat.mul_zero];lia
  | succ j=>
   rw [yT] at a;have e:(j+1+1)*(j+1)=(j+1)*j+2*(j+1):=by grind
   rw [e];lia
def PU(K:aJ):Sp:=fun vs H Q _=>∃(P a:Addr) (ns:List Int) (n:Nat),vs=[.ref P,.int (n:Int)]∧a_ H P a∧a7 K (er P H) a (ns.map V.int)∧1≤n∧n≤30 ∧
 ∀(r:Addr) (us:List V) (L:aw) (H':Hp),aF P H H'→a_ H' P a→er P H r=none→r≠P→H' r=some (.lst us)→aX (er P H') us L→g7 n L→Q (.ref r) H'
def PV(H:Hp)(vs:List V)(j:Nat)(D:Nat→List Nat):Prop:=vs.length=j∧∀k,k<j→fT k (D k)∧∃b,vs[k]?=some (.ref b)∧H b=some (.lst (e_ (D k)))
theorem C1{o:HO}:∀b o',b≠r→er P H b=some o'→er P (upd H r o) b=some o':=fun b o' nb e=>by
 by_cases z:b=P
 ·subst z
  unfold er at e;rw [ae rfl] at e;cases e
 ·rw [dG z] at e ⊢
  rw [aG nb];exact e
theorem aX.cat{zs:List V}(h:aX H us L)(g:aX H zs M):aX H (us++zs) (L++M):=⟨by simp [h.1,g.1],fun k v p h1 h2=>by
 have hl:=h.1;by_cases z:k<us.length
 ·rw [gM z] at h1
  rw [gM (by lia)] at h2
  exact h.2 k v p h1 h2
 ·rw [gK (by lia)] at h1
  rw [gK (by lia),show k-L.length=k-us.length by lia] at h2
  exact g.2 _ v p h1 h2⟩
variable {i:Nat}
theorem PX{x:V}(h:(e_ d)[i]?=some x):∃y,d[i]?=some y∧x=.int (y:Int):=by
 unfold e_ at h;rw [bo] at h;cases e:d[i]? with
 | none=>rw [e] at h;cases h
 | some y=>rw [e] at h;cases h;exact ⟨y,rfl,rfl⟩
theorem xx(p:a_ H P a)(e:H b=some (.tup xs)):er P H b=some (.tup xs):=by refine xc (fun z=>?_) e;obtain ⟨x,y,eP,_⟩:=p;rw [z,eP] at e;cases e
structure gF (j i:Nat) (L:aw):Prop where
 nd:L.Nodup
 lt:∀p∈L,0≤p.1∧p.1<p.2∧(p.2<j∨p.2=j∧p.1<i)
 cW:2*L.length≤j*(j-1)+2*i
theorem gF.start:gF 0 0 []:=⟨iZ,(fun p hp=>by cases hp),by simp⟩
theorem gF.skip(h:gF j i L):gF j (i+1) L:=⟨h.nd,fun p hp=>by
 have:=h.lt p hp;lia,by
 have:=h.cW;lia⟩
theorem gF.push(h:gF j i L)(hi:i<j):gF j (i+1) (L++[((i:Int),(j:Int))]) where
 nd:=by
  refine ic.mpr ⟨h.nd,by simp,fun p hp q hq e=>?_⟩
  rw [bI.mp hq] at e;have:=h.lt p hp;rw [e] at this;dsimp only at this;lia
 lt:=fun p hp=>by
  rcases cY.mp hp with hp | hp
  ·have:=h.lt p hp
   lia
  ·rw [bI.mp hp]
   dsimp only;lia
 cW:=by have:=h.cW;rw [du,nW];lia
theorem gF.next(h:gF j j L):gF (j+1) 0 L:=⟨h.nd,fun p hp=>by
 have:=h.lt p hp;lia,by
 have a:=h.cW;rw [yT];cases j with
 | zero=>lia
 | succ j=>
  rw [yT] at a;have e:(j+1+1)*(j+1)=(j+1)*j+2*(j+1):=by grind
  rw [e];lia⟩
theorem gF.ok(h:gF n 0 L):g7 n L:=⟨h.nd,fun p hp=>by
 have:=h.lt p hp;lia,by
 have:=h.cW;have:n*(n-1)≤n*n:=Nat.mul_le_mul_left _ (by lia)
 lia⟩
theorem PY(n:Nat):(cC n).Nodup:=xw vX fun p q _ _ e=>by have:=V.int.inj e;lia
theorem Hq{ys:List V}(h:ys.Perm (cC n)):∃nm:Nat→Int,ys.length=n∧(∀i,i<n→ys[i]?=some (.int (nm i)))∧CZ n nm:=by
 have ln:ys.length=n:=by rw [h.length_eq];unfold cC;simp
 have nd:ys.Nodup:=h.nodup_iff.mpr (PY n);have each:∀i,∃x:Int,i<n→ys[i]?=some (.int x)∧0≤x∧x<n:=fun i=>by
  by_cases hi:i<n
  ·have bw:i<ys.length:=by lia
   have m:ys[i]∈cC n:=h.mem_iff.mp (cy bw);obtain ⟨k,hk,e⟩:=cj.mp m;have:=cR.mp hk;exact ⟨(k:Int),fun _=>⟨by rw [e];simp [bw],by lia,by lia⟩⟩
  ·exact ⟨0,fun z=>absurd z hi⟩
 obtain ⟨nm,hn⟩:=Classical.axiomOfChoice each;refine ⟨nm,ln,fun i hi=>(hn i hi).1,fun i hi=>(hn i hi).2,fun i j hi hj e=>?_⟩;have a:=(hn i hi).1;have b:=(hn j hj).1;rw [e] at a;have bw:i<ys.length:=by lia
 have dH:j<ys.length:=by lia
 rw [bS bw] at a;rw [bS dH] at b;exact (sj nd).mp ((Option.some.inj a).trans (Option.some.inj b).symm)
def PZ(K:aJ):Sp:=fun vs H Q _=>∃(P a:Addr) (ns:List Int) (most:Nat),vs=[.ref P,.int (most:Int)]∧a_ H P a∧a7 K (er P H) a (ns.map V.int)∧1≤most∧most≤30 ∧
 ∀(t:Addr) (n:Nat) (L:aw) (H':Hp),aF P H H'→a_ H' P a→er P H t=none→t≠P→cQ (er P H') t n L→g7 n L→L.Pairwise lexLt→1≤n→n≤most→Q (.ref t) H'
theorem aX.er(h:aX H us L)(p:a_ H P a):aX (er P H) us L:=⟨h.1,fun k v q h1 h2=>by obtain ⟨b,e,g⟩:=h.2 k v q h1 h2;exact ⟨b,e,xx p g⟩⟩
theorem cQ.er{t:Addr}(h:cQ H t n L)(p:a_ H P a):cQ (er P H) t n L:=by obtain ⟨lt,us,h1,h2,h3⟩:=h;exact ⟨lt,us,xx p h1,xx p h2,h3.er p⟩
theorem cQ.mono{t:Addr}(h:cQ H t n L)(s:ak H H'):cQ H' t n L:=by obtain ⟨lt,us,h1,h2,h3⟩:=h;exact ⟨lt,us,s _ _ h1,s _ _ h2,h3.mono s⟩
theorem P1(pr:Nat→Bool)(gm:∀R:It→Hp→Prop,(∀J,lE J xs H→R J H)→wi σ H R)(hn:xs.length<sizeLine)
  (P:Addr→Nat→V→Hp→Prop) (mono:∀D i y H H' ys,P D i y H→H D=some (.lst ys)→(∀b o,b≠D→H b=some o→H' b=some o)→P D i y H')
  (test:∀(i:Nat) (x:V),xs[i]?=some x→∀(Hc:Hp) (R:Bool→Hp→Prop),ak H Hc→R (pr i) Hc→tt (some x::ρ σ) Hc R)
  (step:∀D (i:Nat) (x:V),xs[i]?=some x→∀(Hc:Hp) (R:VK),ak H Hc→(∃ys,Hc D=some (.lst ys))→(∀y H3,ak Hc H3→P D i y H3→R y H3)→te (some x::ρ σ) Hc R)
  (fin:∀D ys Hc,H D=none→ak H Hc→ys.length=((List.range xs.length).filter pr).length→(∀(k i:Nat) (y:V),ys[k]?=some y→((List.range xs.length).filter pr)[k]?=some i→P D i y Hc)→Hc D=some (.lst ys)→Q (.ref D) Hc):gh wi ρ tt te σ H Q:=by
 refine gm _ fun J js=>?_;intro D nD;refine ⟨fun i m ys Hc=>m=xs.length-i∧i≤xs.length∧Hc D=some (.lst ys)∧ak H Hc∧ys.length=((List.range i).filter pr).length∧∀(k i':Nat) (y:V),ys[k]?=some y→((List.range i).filter pr)[k]?=some i'→P D i' y Hc,⟨_,rfl,bU _,au,eG (ak.refl H) nD,rfl,fun k i y h=>by simp at h⟩,?_⟩
 rintro i m ys Hc ⟨rfl,hi,eD,sH,ly,hP⟩;refine ⟨eD,?_⟩;by_cases aZ:i<xs.length
 ·refine .inr ⟨js.go i Hc sH aZ,fun x H' hy=>?_⟩
  obtain ⟨rfl,hx⟩:=js.d8 i Hc x H' sH hy;refine test i x (hx aZ) _ _ sH ?_;have fs:(List.range (i+1)).filter pr=(List.range i).filter pr++(if pr i=true then [i] else []):=by
   rw [sG,kS]
   congr 1
   cases e:pr i <;> simp [e]
  have fl:((List.range i).filter pr).length≤i:=b9 (vY _ _) (by simp)
  cases e:pr i with
  | true=>
   rw [ae rfl];refine step D i x (hx aZ) _ _ sH ⟨_,eD⟩ fun y H3 s3 hp=>?_;have e3:=s3 _ _ eD;have bK:∀b o,b≠D→H3 b=some o→upd H3 D (.lst (ys++[y])) b=some o:=fun b o nb e=>by rw [aG nb];exact e
   refine ⟨e3,by lia,xs.length-(i+1),by lia,rfl,aZ,au,eG (sH.trans s3) nD,?_,fun k i' y' h1 h2=>?_⟩
   ·rw [fs,e,ae rfl,du,du,ly]
    rfl
   ·rw [fs,e,ae rfl] at h2
    by_cases z:k<ys.length
    ·rw [gM z] at h1
     rw [gM (by lia)] at h2
     refine mono D i' y' H' _ ys (hP k i' y' h1 h2) eD fun b o nb e=>bK b o nb (s3 _ _ e)
    ·have hk:=(bW.mp h1).1
     rw [du,nW] at hk;obtain rfl:k=ys.length:=by lia
     rw [gK (ay _),sD] at h1;rw [gK (by lia),show ys.length-((List.range i).filter pr).length=0 by lia] at h2
     cases h1;cases h2;exact mono D _ _ H3 _ ys hp e3 bK
  | false=>
   rw [aa (by simp)]
   refine ⟨xs.length-(i+1),by lia,rfl,aZ,eD,sH,?_,fun k i' y' h1 h2=>?_⟩
   ·rw [fs,e,aa (by simp),j4]
    exact ly
   ·rw [fs,e,aa (by simp),j4] at h2
    exact hP k i' y' h1 h2
 ·have e:i=xs.length:=by lia
  subst e;exact .inl ⟨js.stop _ Hc sH (ay _),fin D ys Hc nD sH ly hP eD⟩
theorem Hr:¬lexLt p p:=fun h=>by unfold lexLt at h;lia
theorem P2{q:Int×Int}(h1:lexLt p q)(h2:lexLt q p):False:=by unfold lexLt at h1 h2;lia
theorem Hs:∀{A B:aw},A.Pairwise lexLt→B.Pairwise lexLt→(∀p,p∈A↔p∈B)→A=B
 | [],[],_,_,_=>rfl
 | [],b::B,_,_,h=>absurd ((h b).mpr d5) (by simp)
 | a::A,[],_,_,h=>absurd ((h a).mp d5) (by simp)
 | a::A,b::B,ha,hb,h=>by
  obtain ⟨a1,a2⟩:=yS.mp ha;obtain ⟨b1,b2⟩:=yS.mp hb;have e:a=b:=by
   rcases bO.mp ((h a).mp d5) with z | z;·exact z
   ·rcases bO.mp ((h b).mpr d5) with y | y
    ·exact y.symm
    ·exact (P2 (b1 a z) (a1 b y)).elim
  subst e;rw [Hs a2 b2 fun p=>⟨fun m=>?_,fun m=>?_⟩]
  ·rcases bO.mp ((h p).mp (eC _ m)) with z | z
   ·subst z
    exact (Hr (a1 _ m)).elim
   ·exact z
  ·rcases bO.mp ((h p).mpr (eC _ m)) with z | z
   ·subst z
    exact (Hr (b1 _ m)).elim
   ·exact z
end My
namespace L2
open PySem PySem.Spec PyProof.Rows
end L2
namespace My
open PySem L2
def C2(n:Nat)(L:aw):Tr:=.tp [.fl (.int (n:Int)),.tp (L.map fun p=>.tp [.fl (.int p.1),.fl (.int p.2)])]
theorem Ht{H:Hp}{t:Addr}{n:Nat}{L:aw}(h:cQ H t n L):kq H (C2 n L) (.ref t):=by
 obtain ⟨lt,us,e1,e2,h3⟩:=h;refine .tp e1 rfl fun i v tr h1 h2=>?_
 match i,h1,h2 with
 | 0,h1,h2=>cases h1;cases h2;exact .fl rfl
 | 1,h1,h2=>
  cases h1;cases h2;refine .tp e2 (by rw [aH];exact h3.1) fun k v tr g1 g2=>?_
  have hk:k<L.length:=by have:=(bW.mp g2).1;simpa using this
  rw [bo,bS hk] at g2;cases g2;obtain ⟨b,rfl,eb⟩:=h3.2 k v L[k] g1 (by simp [hk])
  refine .tp eb rfl fun m v tr f1 f2=>?_
  match m,f1,f2 with
  | 0,f1,f2=>cases f1;cases f2;exact .fl rfl
  | 1,f1,f2=>cases f1;cases f2;exact .fl rfl
  | m+2,f1,_=>cases f1
 | i+2,h1,_=>cases h1
theorem P4(n:Nat)(L:aw):(C2 n L).In 3:=fun t ht=>by
 rcases bO.mp ht with rfl | ht;·trivial
 ·rw [bI.mp ht]
  intro u hu;obtain ⟨p,_,rfl⟩:=cj.mp hu;intro w hw;rcases bO.mp hw with rfl | hw;·trivial
  ·rw [bI.mp hw];trivial
end My
namespace L2
open PySem PySem.Spec PyProof.Rows
section
variable (P:Program) (w:World)
end
section
variable {P:Program} {w:World} {H H':Hp} {h h':Heap} {a:Addr} {o:HO}
end
section
variable {P:Program} {w:World} {H:Hp} {h h':Heap} {x e:Addr} {o':HO}
end
section
variable {fs BR ex ke:List Addr} {H H1 H2:Hp} {h h1 h2 h':Heap} {a x e:Addr} {o:HO}
end
section
variable {X:Cx} {pins:aQ} {σ:List (Option V)} {H H':Hp} {s:Shared} {h':Heap}
end
section
variable {X:Cx}
variable {a b:Expr} {ta tb:TE} {pos:Pos}
variable {tA wF:TT} {rest:List Expr}
end
section
variable {X:Cx} {pins:aQ} {σ:St} {H:Hp} {s:Shared} {a:Addr} {xs ys:List V}
end
section
variable {X:Cx} {pins:aQ} {σ:St} {H:Hp} {s:Shared} {E:aR}
end
section
variable {X:Cx} {st:Stmt} {rest:List Stmt} {t u:TS} {e:Expr} {te:TE} {pos:Pos}
end
section
variable {X:Cx} {pos:Pos}
end
section
variable {X:Cx} {pos:Pos}
end
section
variable {X:Cx} {tg:Expr}
end
section
variable {X:Cx} {a b c:Expr} {ta tb tc:TE} {pos:Pos}
end
section
variable {X:Cx} {a b c:Expr} {ta tb tc:TE} {pos:Pos}
end
section
variable {prog:Program} {w:World} {A:Around} {E:aR} {s:Shared} {K:aJ} {x dx C f:Addr} {mA:cH} {name:Str} {v:Value}
end
section
variable {P:Program} {w:World} {H H':Hp} {h h':Heap} {a C dx:Addr} {fs BR:List (Str×V)}
end
section
variable {X:Cx} {pins:aQ} {σ:St} {H:Hp} {s:Shared} {a C dx:Addr} {fs:List (Str×V)} {f:Str} {v:V} {A:Around} {E:aR}
end
section
variable {X:Cx} {o e value:Expr} {f:Str} {pos pos' sU:Pos} {ta tv:TE}
end
section
variable {X:Cx} {pins:aQ} {σ:St} {H:Hp} {s:Shared} {A:Around} {E:aR} {Q:aR} {c:Value} {b:Bool}
end
section
variable {X:Cx} {e:Expr} {es:List Expr} {te:TE} {t:TA} {pos:Pos}
end
section
variable {X:Cx} {pins:aQ} {σ:St} {H:Hp} {s s':Shared}
end
section
variable {X:Cx} {CX:iF} {k:Nat} {f C:Addr} {fd:FuncData} {ps:List Str} {sp:Sp} {lh:List V} {ds:List Value} {E:XK} {x m:Str} {p pos apos:Pos} {e o:Expr} {es:List Expr} {ta:TE} {t:TA}
end
section
variable {X:Cx} {CX:iF} {k:Nat} {f C:Addr} {fd:FuncData} {ps ks:List Str} {sp:Sp} {E:XK} {x m:Str} {p pos apos FZ:Pos} {e o:Expr} {es:List Expr} {M8:List Keyword} {te ta:TE} {t tk:TA} {nm:Option Str}
variable {g:List Value→List Value→List Value} {gV:List V→List V→List V}
end
section
variable {X:Cx} {x:Str} {p pos:Pos} {e:Expr} {es:List Expr} {t:TA} {id T:String} {r:List V→Hp→VK→Prop}
end
section
variable {κ:Type} [DecidableEq κ]
def fU(kvs:List (κ×V))(k:κ):Option V:=(kvs.find? fun kv=>decide (kv.1=k)).map (·.2)
def putK(kvs:List (κ×V))(k:κ)(v:V):List (κ×V):=
 if (kvs.any fun kv=>decide (kv.1=k))=true then kvs.map (fun kv=>if kv.1=k then (kv.1,v) else kv) else kvs++[(k,v)]
variable {p:κ×V} {r:List (κ×V)} {k:κ}
theorem Ad(e:p.1=k):fU (p::r) k=some p.2:=by simp [fU,pS,e]
theorem Ae(e:¬p.1=k):fU (p::r) k=fU r k:=by simp [fU,pS,e]
theorem Hu(k:κ):∀kvs:List (κ×V),(kvs.any fun kv=>decide (kv.1=k))=(fU kvs k).isSome
 | []=>rfl
 | p::r=>by
  rw [vS];by_cases e:p.1=k;·simp only [Ad e,bA e,Bool.true_or,Option.isSome_some]
  ·rw [Ae e,bH e,Bool.false_or];exact Hu k r
theorem C3(kvs:List (κ×V))(k:κ)(v:V):(putK kvs k v).length≤kvs.length+1:=by
 unfold putK
 split
 ·rw [aH];lia
 ·rw [du,fG,List.length_nil];lia
theorem kd.xA{o:Option V}{u:Option Value}(r:kd o u):o.isSome=u.isSome:=by
 cases o with
 | none=>cases u with
  | none=>rfl
  | some _=>exact (show False from r).elim
 | some _=>cases u with
  | none=>exact (show False from r).elim
  | some _=>rfl
variable {kvs:List (κ×V)} {vs:List (κ×Value)}
theorem KV.val(r:KV kvs vs)(k:κ):kd (fU kvs k) (valueAt vs k):=by
 unfold KV at r
 induction r with
 | nil=>exact True.intro
 | @cons p q ps qs h t ih=>
  obtain ⟨h1,h2⟩:=h;by_cases e:p.1=k
  ·have e':q.1=k:=h1.symm.trans e
   have b:valueAt (q::qs) k=some q.2:=by simp [valueAt,pS,e']
   rw [Ad e,b];exact h2
  ·have e':¬q.1=k:=fun z=>e (h1.trans z)
   have b:valueAt (q::qs) k=valueAt qs k:=by simp [valueAt,pS,e']
   rw [Ae e,b];exact ih
theorem KV.any(r:KV kvs vs)(k:κ):(kvs.any fun kv=>decide (kv.1=k))=vs.any fun kv=>decide (kv.1=k):=by
 unfold KV at r
 induction r with
 | nil=>rfl
 | cons h t ih=>rw [vS,vS,ih,h.1]
variable {y:V} {u:Value}
theorem KV.C4(r:KV kvs vs)(k:κ)(ry:RelV y u) :
  KV (kvs.map fun kv=>if kv.1=k then (kv.1,y) else kv) (vs.map fun kv=>if kv.1=k then (kv.1,u) else kv):=by
 unfold KV at r ⊢
 induction r with
 | nil=>exact .nil
 | @cons p q ps qs h t ih=>
  rw [jC,jC];refine .cons ?_ ih;obtain ⟨h1,h2⟩:=h;by_cases e:p.1=k;·rw [ae e,ae (h1.symm.trans e)];exact ⟨h1,ry⟩
  ·rw [aa e,aa (fun z=>e (h1.trans z))];exact ⟨h1,h2⟩
theorem KV.put(r:KV kvs vs)(k:κ)(ry:RelV y u):KV (putK kvs k y) (stored vs k u):=by
 unfold putK stored;rw [r.any k];by_cases e:(vs.any fun kv=>decide (kv.1=k))=true;·rw [ae e,ae e];exact r.C4 k ry
 ·rw [aa e,aa e];exact Paired.snoc r ⟨rfl,ry⟩
theorem KV.length(r:KV kvs vs):kvs.length=vs.length:=Paired.length r
end
variable {P:Program} {w:World} {u:Value}
theorem tS{k:Key}(r:RelV (kV k) u):(fK P w).is k u=true:=by
 cases k with
 | inl i=>obtain ⟨t,e⟩:=(show ∃t,u=Value.int i t from r);subst e;exact LZ P w i t
 | inr x=>obtain ⟨t,e⟩:=(show ∃t,u=Value.str x t from r);subst e;exact L0 P w x t
theorem HA{P:Program}{w:World}:∀{ks:List Key} {us:List Value},Vals (ks.map kV) us→ItemsAre (fK P w) ks us
 | [],_,r=>by rw [vP] at r;cases r;exact .nil
 | k::ks,_,r=>by
  rw [jC] at r;cases r with
  | cons h t=>exact .cons (tS h) (HA t)
abbrev KT (H:Hp):List (List Key×V)→List (List Key×Addr×Value)→Prop:=Paired fun p q=>p.1=q.1∧H q.2.1=some (.tup (p.1.map kV))∧RelV p.2 q.2.2
variable {H:Hp} {kvs:List (List Key×V)} {xs:List (List Key×Addr×Value)}
theorem KT.val(r:KT H kvs xs)(k:List Key):kd (fU kvs k) ((atKey xs k).map (·.2)):=by
 induction r with
 | nil=>exact True.intro
 | @cons p q ps qs h t ih=>
  obtain ⟨h1,_,h2⟩:=h;by_cases e:p.1=k
  ·have e':q.1=k:=h1.symm.trans e
   have b:atKey (q::qs) k=some q.2:=by simp [atKey,pS,e']
   rw [Ad e,b];exact h2
  ·have e':¬q.1=k:=fun z=>e (h1.trans z)
   have b:atKey (q::qs) k=atKey qs k:=by simp [atKey,pS,e']
   rw [Ae e,b];exact ih
variable {y:V}
theorem KT.C4(r:KT H kvs xs)(k:List Key)(ry:RelV y u) :
  KT H (kvs.map fun kv=>if kv.1=k then (kv.1,y) else kv) (xs.map (putAt k u)):=by
 induction r with
 | nil=>exact .nil
 | @cons p q ps qs h t ih=>
  rw [jC,jC];refine .cons ?_ ih;obtain ⟨h1,h2,h3⟩:=h;unfold putAt;by_cases e:p.1=k;·rw [ae e,ae (h1.symm.trans e)];exact ⟨h1,h2,ry⟩
  ·rw [aa e,aa (fun z=>e (h1.trans z))];exact ⟨h1,h2,h3⟩
variable {b:Addr}
theorem KT.put(r:KT H kvs xs)(k:List Key)(hb:H b=some (.tup (k.map kV)))(ry:RelV y u) :
  KT H (putK kvs k y) (storedH xs k b u):=by
 have e:(kvs.any fun kv=>decide (kv.1=k))=(atKey xs k).isSome:=by rw [Hu,(r.val k).xA,vZ]
 unfold putK storedH;rw [e];by_cases q:(atKey xs k).isSome=true;·rw [ae q,ae q];exact r.C4 k ry
 ·rw [aa q,aa q];exact Paired.snoc r ⟨rfl,hb,ry⟩
theorem KT.keeps{H':Hp}(r:KT H kvs xs)(ht:∀b ys,H b=some (.tup ys)→H' b=some (.tup ys)):KT H' kvs xs:=
 Paired.BQ r fun _ _ z=>⟨z.1,ht _ _ z.2.1,z.2.2⟩
section
variable {P:Program} {w:World} {H:Hp} {h:Heap} {a:Addr}
theorem HB{u:HO}(ok:cq P w H h)(e:Rd H a u):bV P w H h a u:=e.ok ok
theorem xB{kvs:List (Key×V)}(ok:cq P w H h)(e:Rd H a (.dK kvs)):kvs.length≤sizeLine∧(a == sysModules)=false∧∃vs,KV kvs vs∧h.DictOf (fK P w) a vs:=
 show bV P w H h a (.dK kvs) from HB ok e
theorem HC{kvs:List (Key×V)}(ok:cq P w H h)(e:H a=some (.dK kvs)):kvs.length≤sizeLine∧(a == sysModules)=false∧∃vs,KV kvs vs∧h.DictOf (fK P w) a vs:=xB ok (.inl e)
theorem xC{ks:List Key}(ok:cq P w H h)(e:H a=some (.tup (ks.map kV))):(tupleKind (fK P w)).is h ks a:=by obtain ⟨_,its,r,o,h1,h2,n,h3⟩:=(show bV P w H h a (.tup (ks.map kV)) from ok a _ e);exact ⟨o,its.toArray,n,h1,h2,h3,by simpa using HA r⟩
theorem xD(ok:cq P w H h)(e:Rd H a (.dT kvs)):kvs.length≤sizeLine∧(a == sysModules)=false ∧
  ∃xs,KT H kvs xs∧h.DictOfH (tupleKind (fK P w)) a xs:=by
 obtain ⟨z,y,xs,r,o,es,ep,h1,h2,h3,h4,h5⟩:=(show bV P w H h a (.dT kvs) from HB ok e);refine ⟨z,y,xs,r,o,es,ep,h1,h2,h3,h4,fun x hx=>?_,h5⟩;have all:∀{l:List (List Key×V)} {m:List (List Key×Addr×Value)},KT H l m→∀x∈m,(tupleKind (fK P w)).is h x.1 x.2.1:=by
  intro l m q
  induction q with
  | nil=>intro x hx;exact nomatch hx
  | @cons p q ps qs hq t ih=>
   intro x hx;rcases bO.mp hx with e | hx
   ·subst e
    exact xC ok (by rw [←hq.1];exact hq.2.1)
   ·exact ih x hx
 exact all r x hx
theorem HD(ok:cq P w H h)(e:H a=some (.dT kvs)):kvs.length≤sizeLine∧(a == sysModules)=false ∧
  ∃xs,KT H kvs xs∧h.DictOfH (tupleKind (fK P w)) a xs:=xD ok (.inl e)
end
def qF(H:Hp)(a:Addr)(y:V)(r:Option V):Prop:=
 (∃kvs k,Rd H a (.dK kvs)∧y=kV k∧r=fU kvs k)∨∃kvs k b,Rd H a (.dT kvs)∧y=.ref b∧H b=some (.tup (k.map kV))∧r=fU kvs k
def qG(H:Hp)(a:Addr)(y v:V)(H':Hp):Prop:=
 (∃kvs k,H a=some (.dK kvs)∧y=kV k∧kvs.length<sizeLine∧H'=upd H a (.dK (putK kvs k v))) ∨
 ∃kvs k b,H a=some (.dT kvs)∧y=.ref b∧H b=some (.tup (k.map kV))∧kvs.length<sizeLine∧H'=upd H a (.dT (putK kvs k v))
variable {a:Addr}
theorem qG.t{k:List Key}{v:V}(e:H a=some (.dT kvs))(eb:H b=some (.tup (k.map kV)))(hl:kvs.length<sizeLine) :
  qG H a (.ref b) v (upd H a (.dT (putK kvs k v))):=.inr ⟨kvs,k,b,e,rfl,eb,hl,rfl⟩
section
variable {X:Cx} {pins:aQ} {σ:St} {H:Hp} {s:Shared} {a:Addr} {y v:V} {u r:Value} {o:Option V} {A:Around} {E:aR}
theorem Inv.big(I:Inv X pins σ H s):sysModules<s.heap.objs.size:=by have h:mainGlobals<s.heap.objs.size:=(I.mod.glob.keeps I.bk).lt;exact Nat.lt_trans (by decide) h
variable {Q:aR}
theorem P5(hu:A.units+1<cLine)(I:Inv X pins σ H s)(g:qF H a y (some v))(ry:RelV y u)(h:∀w' s',Inv X pins σ H s'→RelV v w'→Q w' s') :
  wpAny (model X.prog X.w) A (getItem (.ref a) u) Q E s:=by
 rcases g with ⟨kvs,k,e,ey,l⟩ | ⟨kvs,k,b,e,ey,eb,l⟩
 ·subst ey
  obtain ⟨z,hd,vs,rel,dd⟩:=xB I.ax e;obtain ⟨w',hw,f_⟩:=kd.some_of (v:=v) (o:=valueAt vs k) (by rw [l];exact rel.val k)
  exact wpAny_getItem_of (tS ry) dd.mapOf hw (h w' _ (I.tok _) f_)
 ·subst ey
  cases (show u=Value.ref b from ry);obtain ⟨z,hd,xs,rel,dd⟩:=xD I.ax e;obtain ⟨w',hw,f_⟩:=kd.some_of (v:=v) (o:=(atKey xs k).map (·.2)) (by rw [l];exact rel.val k)
  obtain ⟨p,hp,P6⟩:=Option.map_eq_some_iff.mp hw;refine wpAny_getItem_heap (yU hu) (xC I.ax eb) dd hp ?_;rw [P6];exact h w' _ (I.tok _) f_
theorem P7(hu:A.units+1<cLine)(I:Inv X pins σ H s)(g:qF H a y o)(ry:RelV y u)(h:∀s',Inv X pins σ H s'→Q (.bool o.isSome) s') :
  wpAny (model X.prog X.w) A (compareOp .In u (.ref a)) Q E s:=by
 rcases g with ⟨kvs,k,e,ey,l⟩ | ⟨kvs,k,b,e,ey,eb,l⟩
 ·subst ey
  obtain ⟨z,hd,vs,rel,dd⟩:=xB I.ax e;refine wpAny_in_of (tS ry) hd dd.mapOf ?_;rw [←(rel.val k).xA,←l];exact h _ (I.tok _)
 ·subst ey
  cases (show u=Value.ref b from ry);obtain ⟨z,hd,xs,rel,dd⟩:=xD I.ax e;refine wpAny_in_heap (yU hu) (xC I.ax eb) hd dd ?_;have q:=(rel.val k).xA;rw [vZ] at q;rw [←q,←l];exact h _ (I.tok _)
theorem P8(hu:A.units+1<cLine)(I:Inv X pins σ H s)(g:qF H a y o)(ry:RelV y u)(h:∀s',Inv X pins σ H s'→Q (.bool (!o.isSome)) s') :
  wpAny (model X.prog X.w) A (compareOp .NotIn u (.ref a)) Q E s:=by
 rcases g with ⟨kvs,k,e,ey,l⟩ | ⟨kvs,k,b,e,ey,eb,l⟩
 ·subst ey
  obtain ⟨z,hd,vs,rel,dd⟩:=xB I.ax e;refine wpAny_notIn_of (tS ry) hd dd.mapOf ?_;rw [←(rel.val k).xA,←l];exact h _ (I.tok _)
 ·subst ey
  cases (show u=Value.ref b from ry);obtain ⟨z,hd,xs,rel,dd⟩:=xD I.ax e;refine wpAny_notIn_heap (yU hu) (xC I.ax eb) hd dd ?_;have q:=(rel.val k).xA;rw [vZ] at q;rw [←q,←l];exact h _ (I.tok _)
variable {h':Heap}
theorem C5{t':Nat}{ob:HO}(I:Inv X pins σ H s)(mu:wm (H a))(hs:Heap.SameBut a s.heap h')(he:∃q,h'.get? a=some q)(new:bV X.prog X.w (upd H a ob) h' a ob) :
  Inv X pins σ (upd H a ob) {s with heap:=h',toks:=t'}:=
 I.write (x:=a) (e:=a) mu (.inl rfl) (fun b q hb z=>(hs.2 b hb).trans z) he new
variable {H':Hp}
theorem HE{kvs:List (Key×V)}{vs:List (Key×Value)}(z:kvs.length≤sizeLine)(hd:(a == sysModules)=false)(rel:KV kvs vs)(dd:h'.DictOf (fK P w) a vs) :
  bV P w H' h' a (.dK kvs):=⟨z,hd,vs,rel,dd⟩
theorem P9{Q:Unit→Shared→Prop}(hu:A.units+1<cLine)(I:Inv X pins σ H s)(g:qG H a y v H')(ry:RelV y u)(rv:RelV v r)(h:∀s',Inv X pins σ H' s'→Q () s') :
  wpAny (model X.prog X.w) A (setItem (.ref a) u r) Q E s:=by
 rcases g with ⟨kvs,k,e,ey,l,eH⟩ | ⟨kvs,k,b,e,ey,eb,l,eH⟩
 ·subst ey eH
  obtain ⟨z,hd,vs,rel,dd⟩:=HC I.ax e;have hz:vs.length≤sizeLine:=by rw [←rel.length];exact z
  have hl:(putK kvs k v).length≤sizeLine:=by have:=C3 kvs k v;lia
  refine wpAny_setItem_pairs (hsz:=hz) (tS ry) dd fun h' oC hs=>h _ ?_;have he:∃q,h'.get? a=some q:=let ⟨q,_,_,hq,_⟩:=oC;⟨q,hq⟩
  exact C5 I (by rw [e];exact True.intro) hs he (HE hl hd (rel.put k rv) oC)
 ·subst ey eH
  cases (show u=Value.ref b from ry);obtain ⟨z,hd,xs,rel,dd⟩:=HD I.ax e;have hz:xs.length≤sizeLine:=by rw [←Paired.length rel];exact z
  have hl:(putK kvs k v).length≤sizeLine:=by have:=C3 kvs k v;lia
  refine wpAny_setItem_heap (hsz:=hz) (yU hu) (xC I.ax eb) dd fun h' oC hs=>h _ ?_;obtain ⟨q,es,ep,hq,h2,h3,h4,_,h5⟩:=oC;refine C5 I (by rw [e];exact True.intro) hs ⟨q,hq⟩ ⟨hl,hd,_,(rel.put k eb rv).keeps fun c ys ec=>?_,q,es,ep,hq,h2,h3,h4,h5⟩
  rw [aG (L3 ec e (fun z=>nomatch z))];exact ec
end
section
variable {X:Cx} {pins:aQ} {σ:St} {H:Hp} {s:Shared} {a:Addr} {kvs:List (Key×V)} {k:Key} {u:Value} {A:Around} {E:aR}
end
def HF(i:Expr):Prop:=∀ov iv,subscripted i false ov iv=operate [ov,iv] (getItem ov iv)
variable {s:Shared} {pos:Pos}
theorem P_{prog:Program}{A:Around}{E:aR}{env:Env}{value slice:Expr}{T id:String}{Q:aR}
  (hl:typeLookup (.type T) "__getitem__"=pure (some (.builtin id))) (hs:HF slice)
  (h:wpAny (model prog w) A (eval value env) (fun o s₁=>wpAny (model prog w) A (eval slice env) (fun i s₂=>s₂.TypeIs o T∧wpAny (model prog w) A (getItem o i) Q E s₂) E s₁) E s) :
  wpAny (model prog w) A (eval (.Subscript value slice pos) env) Q E s:=by
 refine Subscript_ (cS h (fun o s₁ h₁=>cS h₁ (fun i s₂ h₂=>?_) fun _ _ x=>x) fun _ _ x=>x);obtain ⟨hT,h₂⟩:=h₂;unfold subscriptTail;refine aC ?_;rw [getitemInPython_of_ne hT.not_modules];refine aC (yW hT hl ?_);have fin:wpAny (model prog w) A (subscripted slice false o i) (fun r s₃=>wpAny (model prog w) A (letTemporaryGo value o r >>= fun _=>pure r) Q E s₃) E s₂:=by rw [hs o i];exact wpAny_operating (cS h₂ (fun r s₃ h₃=>aC (wpAny_letTemporaryGo (ba h₃))) fun _ _ x=>x)
 first
  | exact ba (aC fin)
  | exact aC (ba (aC fin))
  | exact aC fin
variable {X:Cx}
theorem Qa{pins:aQ}{σ:St}{o:Option V}(I:Inv X pins σ H s)(g:qF H a y o):s.TypeIs (.ref a) "dict":=by
 rcases g with ⟨kvs,k,e,_,_⟩ | ⟨kvs,k,b,e,_,_,_⟩
 ·obtain ⟨_,_,vs,_,dd⟩:=xB I.ax e
  exact dd.typeIs
 ·obtain ⟨_,_,xs,_,dd⟩:=xD I.ax e
  exact dd.typeIs
def Qb(td ty:TE):TE:=fun σ H Q=>td σ H fun x H1=>ty σ H1 fun y H2=>∃a v,x=.ref a∧qF H2 a y (some v)∧Q v H2
def Qc(ty td:TE):TE:=fun σ H Q=>ty σ H fun y H1=>td σ H1 fun x H2=>∃a o,x=.ref a∧qF H2 a y o∧Q (.bl o.isSome) H2
def Qd(ty td:TE):TE:=fun σ H Q=>ty σ H fun y H1=>td σ H1 fun x H2=>∃a o,x=.ref a∧qF H2 a y o∧Q (.bl (!o.isSome)) H2
def Qe(td ty tv:TE):TS:=fun D σ H=>tv σ H fun v H1=>td σ H1 fun x H2=>ty σ H2 fun y H3=>∃a H4,x=.ref a∧qG H3 a y v H4∧D.nx σ H4
section
variable {X:Cx} {o i e value:Expr} {pos pos' sU:Pos} {td ty tv:TE}
theorem Qf(hu:X.A.units+1<cLine)(ho:PE X o td)(hi:PE X i ty)(hs:HF i):PE X (.Subscript o i pos) (Qb td ty):=by intro pins s σ H Q I h;refine P_ PySem.F.slot_dict_getitem.lookup hs (aK (ho pins s σ H _ I h) fun u s1 ⟨x,H1,I1,rx,q1⟩=>aK (hi pins s1 σ H1 _ I1 q1) fun iv s2 ⟨y,H2,I2,ry,a,v,ex,g,q2⟩=>?_);subst ex;obtain rfl:u=Value.ref a:=rx;exact ⟨Qa I2 g,P5 hu I2 g ry fun w' s3 I3 f_=>⟨v,H2,I3,f_,q2⟩⟩
theorem Qg(hu:X.A.units+1<cLine)(hi:PE X i ty)(ho:PE X o td):PC X .In i o (Qc ty td):=by intro pins s σ H Q I h;refine aK (hi pins s σ H _ I h) fun iv s1 ⟨y,H1,I1,ry,q1⟩=>aK (ho pins s1 σ H1 _ I1 q1) fun u s2 ⟨x,H2,I2,rx,a,ov,ex,g,q2⟩=>?_;subst ex;obtain rfl:u=Value.ref a:=rx;exact P7 hu I2 g ry fun s3 I3=>⟨.bl ov.isSome,H2,I3,rfl,q2⟩
theorem Af(hu:X.A.units+1<cLine)(hi:PE X i ty)(ho:PE X o td):PC X .NotIn i o (Qd ty td):=by intro pins s σ H Q I h;refine aK (hi pins s σ H _ I h) fun iv s1 ⟨y,H1,I1,ry,q1⟩=>aK (ho pins s1 σ H1 _ I1 q1) fun u s2 ⟨x,H2,I2,rx,a,ov,ex,g,q2⟩=>?_;subst ex;obtain rfl:u=Value.ref a:=rx;exact P8 hu I2 g ry fun s3 I3=>⟨.bl (!ov.isSome),H2,I3,rfl,q2⟩
theorem mX(hu:X.A.units+1<cLine)(ho:PE X o td)(hi:PE X i ty)(hv:PE X value tv)(hs:swapsWith value (some (.Subscript o i pos')) pos.line X.env=pure false) :
  PS X (.Assign [.Subscript o i pos'] value pos) (Qe td ty tv):=by
 intro pins s σ H D I h;refine wpAny_Assign_Subscript (aK (hv pins s σ H _ I h) fun r s1 ⟨v,H1,I1,rv,q1⟩=>aK (ho pins s1 σ H1 _ I1 q1) fun u s2 ⟨x,H2,I2,rx,q2⟩=>aK (hi pins s2 σ H2 _ I2 q2) fun iv s3 ⟨y,H3,I3,ry,a,H4,ex,g,q3⟩=>?_) hs;subst ex;obtain rfl:u=Value.ref a:=rx;exact P9 hu I3 g ry rv fun s4 I4=>⟨σ,H4,I4,q3⟩
end
theorem HG(h:Heap)(hb:sysModules<h.objs.size):bV P w H (h.push {cls:=.type "dict",data:=.dict #[]}) h.objs.size (.dK []):=
 ⟨bU _,si.mpr (Ne.symm (cx hb)),[],.nil,Heap.DictOf.new h⟩
theorem Qh(h:Heap)(hb:sysModules<h.objs.size):bV P w H (h.push {cls:=.type "dict",data:=.dict #[]}) h.objs.size (.dT []):=
 ⟨bU _,si.mpr (Ne.symm (cx hb)),[],.nil,_,#[],0,dU _ rfl,⟨rfl,rfl,rfl⟩,rfl,rfl,iZ⟩
def Qi:TE:=fun _ H Q=>∀p,H p=none→Q (.ref p) (upd H p (.dK []))
def Qj:TE:=fun _ H Q=>∀p,H p=none→Q (.ref p) (upd H p (.dT []))
section
variable {X:Cx} {pos:Pos}
theorem Qk:PE X (.Dict [] [] pos) Qi:=fun pins s σ H Q I h=>wpAny_Dict_empty ⟨.ref s.heap.objs.size,_,I.laid (a:=s.heap.objs.size) (o:=.dK []) (t':=s.toks) (fun _ _ q=>b8 _ q) (ay _) (HG s.heap I.big),rfl,h _ (I.ax.fresh (ay _))⟩
theorem Ql:PE X (.Dict [] [] pos) Qj:=fun pins s σ H Q I h=>wpAny_Dict_empty ⟨.ref s.heap.objs.size,_,I.laid (a:=s.heap.objs.size) (o:=.dT []) (t':=s.toks) (fun _ _ q=>b8 _ q) (ay _) (Qh s.heap I.big),rfl,h _ (I.ax.fresh (ay _))⟩
end
def C6:List (TE×TE)→St→Hp→(List (V×V)→Hp→Prop)→Prop
 | [],_,H,Q=>Q [] H
 | (tk,tv)::r,σ,H,Q=>tk σ H fun x H1=>tv σ H1 fun y H2=>C6 r σ H2 fun ps H3=>Q ((x,y)::ps) H3
abbrev VV:List (V×V)→List (Value×Value)→Prop:=Paired fun p q=>RelV p.1 q.1∧RelV p.2 q.2
def Ag(X:Cx)(pos:Pos)(keys:List (Option Expr))(values:List Expr)(mY:List (TE×TE)):Prop:=
 ∀(pins:aQ) (s:Shared) (σ:St) (H:Hp) (Q:List (V×V)→Hp→Prop),Inv X pins σ H s→C6 mY σ H Q→
  wpAny (model X.prog X.w) X.A (evalPairs (pairTrees keys values X.env pos)) (fun vs s'=>∃ps H',Inv X pins σ H' s'∧VV ps vs∧Q ps H') X.xe s
theorem HH:Ag X pos [] [] []:=fun pins s σ H Q I h=>pairTrees_nil_walk ⟨[],H,I,.nil,h⟩
variable {mY:List (TE×TE)}
theorem C7{k v:Expr}{ks:List (Option Expr)}{vs:List Expr}{tk tv:TE}(hk:PE X k tk)(hv:PE X v tv)(hr:Ag X pos ks vs mY) :
  Ag X pos (some k::ks) (v::vs) ((tk,tv)::mY):=fun pins s σ H Q I h=>
 pairTrees_cons_walk (aK (hk pins s σ H _ I h) fun u s1 ⟨x,H1,I1,rx,q1⟩=>aK (hv pins s1 σ H1 _ I1 q1) fun w2 s2 ⟨y,H2,I2,ry,q2⟩=>aK (hr pins s2 σ H2 _ I2 q2) fun ws s3 ⟨ps,H3,I3,rel,q3⟩=>⟨(x,y)::ps,H3,I3,.cons ⟨rx,ry⟩ rel,q3⟩)
def kD(kvs more:List (Key×V)):List (Key×V):=more.foldl (fun acc kv=>putK acc kv.1 kv.2) kvs
theorem KV.merge:∀{more:List (Key×V)} {rs:List (Key×Value)} {kvs:List (Key×V)} {vs:List (Key×Value)},KV more rs→KV kvs vs→KV (kD kvs more) (merged vs rs):=by
 intro more rs kvs vs r;unfold KV at r
 induction r generalizing kvs vs with
 | nil=>intro q;exact q
 | @cons p q ps qs h t ih=>
  intro r0;have e:KV (putK kvs p.1 p.2) (stored vs q.1 q.2):=by have:=r0.put p.1 h.2;rw [←h.1];exact this
  exact ih e
theorem HI:∀(more kvs:List (Key×V)),(kD kvs more).length≤kvs.length+more.length
 | [],kvs=>by show kvs.length≤kvs.length+0;lia
 | p::r,kvs=>by have h1:=HI r (putK kvs p.1 p.2);have h2:=C3 kvs p.1 p.2;show (kD (putK kvs p.1 p.2) r).length≤_;rw [fG];lia
theorem HJ{P:Program}{w:World}:∀{kvs:List (Key×V)} {ws:List (Value×Value)},VV (kvs.map fun kv=>(kV kv.1,kv.2)) ws→∃rs,Carries (fK P w) ws rs∧KV kvs rs
 | [],_,r=>by rw [vP] at r;cases r;exact ⟨[],True.intro,.nil⟩
 | p::kvs,_,r=>by
  rw [jC] at r;cases r with
  | @cons a b as bs h t=>obtain ⟨rs,c,q⟩:=HJ (P:=P) (w:=w) t;obtain ⟨b1,b2⟩:=b;exact ⟨(p.1,b2)::rs,⟨tS h.1,rfl,c⟩,.cons ⟨rfl,h.2⟩ q⟩
def Qm(mY:List (TE×TE)):TE:=fun σ H Q=>∀p,H p=none→C6 mY σ (upd H p (.dK [])) fun ps H2=>H2 p=some (.dK [])∧∃kvs:List (Key×V),ps=kvs.map (fun kv=>(kV kv.1,kv.2))∧kvs.length≤15∧Q (.ref p) (upd H2 p (.dK (kD [] kvs)))
theorem HK{keys:List (Option Expr)}{values:List Expr}(h:Ag X pos keys values mY)(Cm:keys.all (·.isSome)=true)(hl:keys.length=values.length)(h0:keys≠[])
  (Qn:keys.length≤15):PE X (.Dict keys values pos) (Qm mY):=by
 intro pins s σ H Q I q;have hn:=I.ax.fresh (ay s.heap.objs.size);have I1:=I.laid (a:=s.heap.objs.size) (o:=.dK []) (h':=s.heap.push {cls:=.type "dict",data:=.dict #[]}) (t':=s.toks) (fun _ _ q=>b8 _ q) (ay _) (HG s.heap I.big);refine wpAny_Dict_walk (knd:=fK X.prog X.w) Cm hl h0 Qn (aK (h pins _ σ _ _ I1 (q _ hn)) fun ws s2 ⟨ps,H2,I2,rel,e,kvs,ep,lk,q2⟩=>?_);subst ep;obtain ⟨rs,c,rk⟩:=HJ (P:=X.prog) (w:=X.w) rel;obtain ⟨z,hd,YU,r0,dd⟩:=HC I2.ax e;cases r0;refine ⟨rs,c,dd,fun h' oC hs=>⟨.ref s.heap.objs.size,_,?_,rfl,q2⟩⟩;have hz:(kD [] kvs).length≤sizeLine:=by have h1:=HI kvs [];rw [List.length_nil] at h1;rw [l_];lia
 have he:∃q,h'.get? s.heap.objs.size=some q:=let ⟨q,_,_,hq,_⟩:=oC;⟨q,hq⟩
 exact C5 I2 (by rw [e];exact True.intro) hs he (HE hz hd (rk.merge .nil) oC)
section
variable {X:Cx} {pins:aQ} {σ:St} {H:Hp} {s:Shared} {a:Addr} {y d:V} {u r:Value} {o:Option V} {A:Around} {E:aR}
end
section
variable {X:Cx} {o e f:Expr} {apos gR:Pos} {td ty tx:TE}
end
section
variable {X:Cx} {pins:aQ} {σ:St} {H:Hp} {s:Shared} {a:Addr} {kvs:List (Key×V)} {A:Around} {E:aR}
end
section
variable {X:Cx} {pins:aQ} {σ:St} {H:Hp} {s:Shared} {a:Addr} {y:V} {u:Value} {A:Around} {E:aR}
end
end L2
namespace Att
open PySem PySem.W PySem.Calls PyProof.Rows
section
variable {prog:Program} {w:World} {A:Around} {E:aR} {s:Shared} {K:Frag}
end
end Att
namespace L2
open PySem PySem.Spec PyProof.Rows
section
variable {P:Program} {w:World} {K:aJ} {mg:cH} {base:Heap}
end
section
variable {X:Cx}
end
section
variable {κ:Type} [DecidableEq κ]
end
def C8(o:Obj):Nat:=match o.data with
 | .dict _ ep=>ep
 | _=>0
def iO(a:Addr)(o:Obj)(kvs:List (Key×V)):It:=
 ⟨fun i H=>H a=some (.bb o (.dK kvs))∧i<kvs.length,fun i H x H'=>H'=H∧∃kv,kvs[i]?=some kv∧x=kV kv.1,fun i H=>H a=some (.bb o (.dK kvs))∧kvs.length≤i⟩
theorem Qo{k:Key}{v:Value}(h:pY k v=true):RelV (kV k) v:=by
 rcases kU h with ⟨i,t,rfl,rfl⟩ | ⟨x,t,rfl,rfl⟩;·exact ⟨t,rfl⟩
 ·exact ⟨t,rfl⟩
theorem HL{kvs:List (Key×V)}{vs:List (Key×Value)}:∀{i:Nat} {kv:Key×V},KV kvs vs→kvs[i]?=some kv→∃v,vs[i]?=some (kv.1,v)
 | _,_,.nil,h=>by simp at h
 | 0,kv,.cons (b:=b) r _,h=>by simp at h;subst h;obtain ⟨k,v⟩:=b;have e:_=k:=r.1;exact ⟨v,by rw [e];rfl⟩
 | i+1,kv,.cons _ t,h=>by simp at h;obtain ⟨v,e⟩:=HL t h;exact ⟨v,by simpa using e⟩
section
variable {X:Cx} {pins:aQ} {σ:St} {H:Hp} {s:Shared}
theorem Inv.C9{a:Addr}{o:Obj}{kvs:List (Key×V)}(I:Inv X pins σ H s)(h:H a=some (.bb o (.dK kvs))):∃vs,KV kvs vs∧s.heap.DictAt (fK X.prog X.w) a vs (C8 o):=by obtain ⟨g,_,_,vs,r,o',es,ep,g',c,d,rest⟩:=(show bV X.prog X.w H s.heap a (.bb o (.dK kvs)) from I.ax a _ h);rw [g] at g';cases g';refine ⟨vs,r,o,es,g,c,?_,rest⟩;rw [d];unfold C8;rw [d]
end
theorem Qp{P:Program}{w:World}{K:aJ}{tg:Expr}(a it:Addr)(o:Obj)(kvs:List (Key×V)):Turn P w K tg (iO a o kvs) [it] it (fun i h=>h.IsKeyIter it a i kvs.length (C8 o)) where
 mem:=by simp
 obj:=fun i h st b hb=>by
  have e:b=it:=by simpa using hb
  subst e;obtain ⟨o,e,c,d⟩:=st;exact ⟨o,e,fun v z=>by rw [d] at z;cases z⟩
 keep:=fun i h h' st k=>by obtain ⟨o,e,c,d⟩:=st;exact ⟨o,k it (by simp) o e,c,d⟩
 item:=by
  intro X hP hw hK hc i pins s σ H E I hf st hg;subst hP hw hK;obtain ⟨eH,hi⟩:=hg;obtain ⟨vs,r,hm⟩:=I.C9 eH;have lr:kvs.length=vs.length:=Paired.length r;have ek:kvs[i]?=some kvs[i]:=by simp [hi]
  obtain ⟨v,ev⟩:=HL r ek;obtain ⟨f0,f1,f2,f3,f4,f5⟩:=hf it (by simp)
  rw [lr] at st;refine wpAny_pyNext_dict_item st hm ev fun key h' hk av sb=>?_;have I1:Inv X pins σ H {s with heap:=h'}:=I.turned (t':=s.toks) (fun b o hb e=>(sb.2 b hb).trans e) f0 f1 f3 f4 f5;obtain ⟨o',e,c,d⟩:=id av;rw [←lr] at av;exact ⟨key,rfl,zo (s:={s with heap:=h'}) e c d (by decide) ⟨kV kvs[i].1,H,I1,Qo hk,⟨rfl,_,ek,rfl⟩,av,fun b hb=>(hf b hb).1⟩⟩
 done:=by
  intro X hP hw hK hc i pins s σ H E I hf st hg;subst hP hw hK;obtain ⟨eH,hi⟩:=hg;obtain ⟨vs,r,hm⟩:=I.C9 eH;have lr:kvs.length=vs.length:=Paired.length r;obtain ⟨f0,f1,f2,f3,f4,f5⟩:=hf it (by simp)
  rw [lr] at st;exact wpAny_pyNext_dict_end (I.ok.hd hc) st hm (by simp;lia) fun h' eb=>⟨rfl,I.turned (t':=s.toks) (fun b o hb e=>eb b o hb e) f0 f1 f3 f4 f5⟩
 self:=fun _ _ _ _ _ st h=>wpAny_pyIter_keyiter st h
section
variable {X:Cx} {tg:Expr}
def C_(tl:TE):TI:=fun σ H R=>tl σ H fun x H1=>∃a kvs,x=.ref a∧((H1 a=some (.dK kvs)∧∀o,R (iO a o kvs) (upd H1 a (.bb o (.dK kvs))))∨∃o,H1 a=some (.bb o (.dK kvs))∧R (iO a o kvs) H1)
theorem Ah{l:Expr}{tl:TE}(hl:PE X l tl):PI X tg l (C_ tl):=by
 intro pins s σ H R I h;refine aK (hl pins s σ H _ I h) fun v s1 ⟨x,H1,I1,r1,q1⟩=>?_;obtain ⟨a,kvs,e,q⟩:=q1;subst e;cases r1;have main:∀{H2:Hp} {o:Obj},Inv X pins σ H2 s1→H2 a=some (.bb o (.dK kvs))→R (iO a o kvs) H2→wpAny (model X.prog X.w) X.A (pyIter (.ref a)) (B0 X pins σ tg R) X.xe s1:=fun{H2 o} I2 eH q=>by
  obtain ⟨vs,r,hm⟩:=I2.C9 eH;obtain ⟨_,_,sys,_⟩:=(show bV X.prog X.w H2 s1.heap a (.bb o (.dK kvs)) from I2.ax a _ eH);have lr:kvs.length=vs.length:=Paired.length r;refine wpAny_pyIter_dict sys hm ?_;refine ⟨s1.heap.objs.size,[s1.heap.objs.size],_,_,H2,rfl,I2.kept (t':=s1.toks) fun b o e=>b8 _ e,Qp a _ o kvs,⟨_,dU _ rfl,rfl,by rw [lr];rfl⟩,fun b hb=>?_,q⟩
  have e:b=s1.heap.objs.size:=by simpa using hb
  subst e;exact I2.wJ (ay _) (I2.ax.fresh (ay _))
 rcases q with ⟨eH,q⟩ | ⟨o,eH,q⟩
 ·obtain ⟨hz,sys,vs,r,o,es,ep,g,c,d,rest⟩:=(show bV X.prog X.w H1 s1.heap a (.dK kvs) from I1.ax a _ eH)
  refine main (H2:=upd H1 a (.bb o (.dK kvs))) ?_ au (q o);exact I1.write (t':=s1.toks) (x:=a) (e:=a) (by rw [eH];exact trivial) (.inl rfl) (fun b u _ e=>e) ⟨o,g⟩ ⟨g,hz,sys,vs,r,o,es,ep,g,c,d,rest⟩
 ·exact main I1 eH q
end
theorem HM:∀{us:List Value} {ns:List Int},IntsAre us ns→Vals (ns.map V.int) us
 | _,_,.nil=>.nil
 | _,_,.cons a u r=>.cons ⟨u,rfl⟩ (HM r)
def Qq:List V→Hp→VK→Prop:=fun xs H Q=>∃(a:Addr) (zs:List Int),xs=[.ref a]∧H a=some (.lst (zs.map V.int))∧zs.length<64∧∀(ws:List Int) (D:Addr),ws.Perm zs→ws.Pairwise (·≤·)→H D=none→Q (.ref D) (upd H D (.lst (ws.map V.int)))
theorem Dc{X:Cx}:gB X (.builtin "sorted") Qq:=by
 intro pins s σ H xs us Q I r h;obtain ⟨a,zs,rfl,ha,Aa,k⟩:=h;obtain ⟨u,rfl,ru⟩:=vals1 r;cases ru;obtain ⟨its,rv,pl,hz⟩:=I.list (.of ha);have hl:=rv.length;rw [aH] at hl;refine sorted_ints pl.isList (intsAre_of rv) (by lia) fun out HN a1 a2 a3=>?_
 obtain ⟨e,he⟩:=sortedAll_at s.heap its out;refine ⟨.ref (s.heap.objs.size+1),_,I.laid (t':=s.toks) (o:=.lst (HN.map .int)) (fun _ _=>sortedAll_old) (jD _) ⟨?_,out.toList,e,HM a1,?_⟩,rfl,k HN _ a2 a3 (I.ax.fresh (jD _))⟩
 ·rw [aH,a2.length_eq]
  rw [l_];lia
 ·simpa using he
end L2
namespace My
open PySem L2
def dk(ks:List Nat):List (Key×V):=ks.map fun k:Nat=>((Sum.inl (k:Int):Key),V.bl true)
def cX(ks:List Nat)(k:Nat):List Nat:=if k∈ks then ks else ks++[k]
theorem HP{a b:Nat}:((Sum.inl (a:Int):Key)=Sum.inl (b:Int))↔a=b:=by
 constructor
 ·intro h
  have:=Sum.inl.inj h;lia
 ·rintro rfl;rfl
theorem Ai(ks:List Nat):(dk ks).length=ks.length:=aH _
theorem Qr(ks:List Nat)(k:Nat):((dk ks).any fun kv=>decide (kv.1=(Sum.inl (k:Int):Key)))=decide (k∈ks):=by
 rw [nQ,v9,i5];constructor
 ·rintro ⟨kv,h1,h2⟩
  obtain ⟨j,hj,rfl⟩:=cj.mp h1;have:=HP.mp (eR h2);subst this;exact hj
 ·intro h
  exact ⟨_,cj.mpr ⟨k,h,rfl⟩,bA rfl⟩
theorem HQ(ks:List Nat)(k:Nat):putK (dk ks) (Sum.inl (k:Int):Key) (V.bl true)=dk (cX ks k):=by
 unfold putK cX;rw [Qr];by_cases h:k∈ks
 ·rw [ae (bA h),ae h]
  unfold dk;rw [dE];refine ma fun j _=>?_;show (if _ then _ else _)=_
  split <;> rfl
 ·rw [aa (by rw [i5];exact h),aa h]
  unfold dk;rw [fi];rfl
theorem De(ks:List Nat)(k:Nat):fU (dk ks) (Sum.inl (k:Int):Key)=if k∈ks then some (V.bl true) else none:=by
 induction ks with
 | nil=>simp [dk,fU]
 | cons j r ih=>
  by_cases h:j=k
  ·subst h
   rw [ae (d5 ..)];exact Ad rfl
  ·show fU ((Sum.inl (j:Int),V.bl true)::dk r) _=_
   rw [Ae (fun e=>h (HP.mp e)),ih];by_cases m:k∈r;·rw [ae m,ae (eC _ m)]
   ·rw [aa m,aa (fun x=>by rcases bO.mp x with e | e;exact h e.symm;exact m e)]
variable {ks:List Nat} {k j:Nat}
theorem iP:j∈cX ks k↔j∈ks∨j=k:=by
 unfold cX;by_cases h:k∈ks
 ·rw [ae h]
  constructor;·exact .inl
  ·rintro (e | rfl)
   ·exact e
   ·exact h
 ·rw [aa h,cY,bI]
theorem Qs(h:ks.Nodup):(cX ks k).Nodup:=by
 unfold cX;by_cases m:k∈ks;·rw [ae m];exact h
 ·rw [aa m]
  refine ic.mpr ⟨h,(by simp),fun a ha b hb=>?_⟩
  rw [bI] at hb;subst hb;rintro rfl;exact m ha
def iQ(n:Nat)(ks:List Nat):Prop:=ks.Nodup∧∀k∈ks,k<n
theorem iQ.nil(n:Nat):iQ n []:=⟨iZ,fun _ h=>by cases h⟩
variable {n:Nat}
theorem iQ.add(h:iQ n ks)(hk:k<n):iQ n (cX ks k):=⟨Qs h.1,fun j hj=>by
 rcases iP.mp hj with e | rfl;·exact h.2 j e
 ·exact hk⟩
theorem Dg:∀{n:Nat} {ks:List Nat},ks.Nodup→(∀k∈ks,k<n)→ks.length≤n
 | 0,ks,_,h=>by
  cases ks with
  | nil=>exact ay _
  | cons a r=>exact absurd (h a (d5 ..)) (nX _)
 | n+1,ks,nd,h=>by
  have e:=Dg (n:=n) (ks:=ks.erase n) (nd.erase n) (fun k hk=>by have m:=(List.Nodup.mem_erase_iff nd).mp hk;have:=h k m.2;have:=m.1;lia)
  by_cases hm:n∈ks
  ·have:=yX hm
   lia
  ·rw [List.erase_of_not_mem hm] at e
   lia
theorem iQ.len(h:iQ n ks):ks.length≤n:=Dg h.1 h.2
structure dI (H:Hp) (D:Addr) (n:Nat) (ds:Nat→Addr) (un:Nat→Prop) (f:Nat→List Nat):Prop where
 lst:H D=some (.lst ((List.range n).map fun i=>V.ref (ds i)))
 inj:∀i j,i<n→j<n→ds i=ds j→i=j
 ne:∀i,i<n→ds i≠D
 at':∀i,i<n→un i→H (ds i)=some (.dK (dk (f i)))
 pl:∀i,i<n→iQ n (f i)
def dP(f:Nat→List Nat)(i:Nat)(ks:List Nat):Nat→List Nat:=fun j=>if j=i then ks else f j
variable {H:Hp} {D:Addr} {ds:Nat→Addr} {f:Nat→List Nat} {i:Nat}
theorem dI.put{un:Nat→Prop}(h:dI H D n ds un f)(hi:i<n)(hj:j<n)(ui:un i)(hn:n≤1000) :
  qG H (ds i) (.int (j:Int)) (.bl true) (upd H (ds i) (.dK (dk (cX (f i) j))))∧dI (upd H (ds i) (.dK (dk (cX (f i) j)))) D n ds un (dP f i (cX (f i) j)):=by
 refine ⟨.inl ⟨dk (f i),Sum.inl (j:Int),h.at' i hi ui,rfl,?_,by rw [HQ]⟩,?_,h.inj,h.ne,fun k hk uk=>?_,fun k hk=>?_⟩
 ·rw [Ai]
  have:=(h.pl i hi).len;exact jE this (jE hn (by rw [l_];decide))
 ·rw [aG (Ne.symm (h.ne i hi))]
  exact h.lst
 ·unfold dP
  by_cases e:k=i
  ·subst e
   rw [ae rfl,au]
  ·rw [aa e,aG (fun z=>e (h.inj k i hk hi z))]
   exact h.at' k hk uk
 ·unfold dP
  by_cases e:k=i;·rw [ae e];exact (h.pl i hi).add hj
  ·rw [aa e];exact h.pl k hk
theorem dI.ix{un:Nat→Prop}(h:dI H D n ds un f)(hi:i<n):fQ ((List.range n).map fun i=>V.ref (ds i)) (i:Int)=some (V.ref (ds i)):=
 lA (by rw [bo,pM hi];rfl)
def iR(n:Nat)(L:aw):Prop:=∀p∈L,0≤p.1∧p.1<(n:Int)∧0≤p.2∧p.2<(n:Int)
def fb(n:Nat)(L:aw)(f:Nat→List Nat):Prop:=∀i j:Nat,i<n→(j∈f i↔((i:Int),(j:Int))∈L∨((j:Int),(i:Int))∈L)
theorem fb.nil(n:Nat):fb n [] (fun _=>[]):=fun i j _=>by simp
theorem fb.more{L:aw}(h:fb n L f)(hi:i<n)(hj:j<n):fb n (L++[((i:Int),(j:Int))]) (dP (dP f i (cX (f i) j)) j (cX (dP f i (cX (f i) j) j) i)):=fun a b ha=>by
 have e1:∀x y:Nat,y∈dP f i (cX (f i) j) x↔y∈f x∨(x=i∧y=j):=fun x y=>by
  unfold dP;by_cases e:x=i
  ·subst e
   rw [ae rfl,iP];simp
  ·rw [aa e]
   simp [e]
 have e2:b∈dP (dP f i (cX (f i) j)) j (cX (dP f i (cX (f i) j) j) i) a↔b∈dP f i (cX (f i) j) a∨(a=j∧b=i):=by
  unfold dP;by_cases e:a=j
  ·subst e
   rw [ae rfl,iP];simp
  ·rw [aa e]
   simp [e]
 rw [e2,e1,h a b ha];simp only [cY,bI,Prod.mk.injEq];constructor
 ·rintro ((e | e) | ⟨rfl,rfl⟩)
  ·rcases e with e | e
   ·exact .inl (.inl e)
   ·exact .inr (.inl e)
  ·exact .inl (.inr ⟨by lia,by lia⟩)
  ·exact .inr (.inr ⟨rfl,rfl⟩)
 ·rintro ((e | ⟨e1,e2⟩) | (e | ⟨e1,e2⟩))
  ·exact .inl (.inl (.inl e))
  ·exact .inl (.inr ⟨by lia,by lia⟩)
  ·exact .inl (.inl (.inr e))
  ·exact .inr ⟨by lia,by lia⟩
def Qt:Sp:=fun vs H Q _=>∃(t:Addr) (n:Nat) (L:aw),vs=[.ref t]∧cQ H t n L∧iR n L∧n≤1000 ∧
 ∀(H':Hp) (D:Addr) (ds:Nat→Addr) (f:Nat→List Nat),ak H H'→H D=none→(∀i,i<n→H (ds i)=none)→dI H' D n ds (fun _=>True) f→fb n L f→Q (.ref D) H'
end My
namespace L2
open PySem PySem.Spec PyProof.Rows
def Qu(K:aJ):R2:=fun x y H Q=>∃(a b:Addr) (xs ys:List Int),x=.ref a∧y=.ref b∧a7 K H a (xs.map V.int)∧a7 K H b (ys.map V.int)∧Q (.bl (decide (xs=ys))) H
theorem Dh{X:Cx}(hu:X.A.units+64<cLine):cz X (compareOp .Eq) (Qu X.K):=by
 intro pins s σ H x y v u Q I rx ry h;obtain ⟨a,b,xs,ys,rfl,rfl,h1,h2,q⟩:=h;cases rx;cases ry;obtain ⟨us,r1,t1,_⟩:=I.list h1;obtain ⟨vs,r2,t2,_⟩:=I.list h2;have l1:=r1.length;have l2:=r2.length;rw [aH] at l1 l2;by_cases hl:xs.length=ys.length
 ·refine SeqAt.RcAt.lists (e:=fun j=>d9 (.int (xs.getD j 0)) (.int (ys.getD j 0))) t1.isList t2.isList (by simp;lia) (by lia) (fun j z1 z2=>?_) _ _ _ _ ?_
  ·have qw:j<us.length:=by simpa using z1
   have CD:j<vs.length:=by simpa using z2
   have ex:(xs.map V.int)[j]?=some (.int (xs.getD j 0)):=by rw [bo,cG];simp [show j<xs.length by lia]
   have ey:(ys.map V.int)[j]?=some (.int (ys.getD j 0)):=by rw [bo,cG];simp [show j<ys.length by lia]
   obtain ⟨x',ke,rx⟩:=r1.get ex;obtain ⟨y',mR,ry⟩:=r2.get ey;have e1:us.toArray[j]=x':=by simpa using (bW.mp ke).2
   have e2:vs.toArray[j]=y':=by simpa using (bW.mp mR).2
   rw [e1,e2];exact oA rx ry rfl rfl
  ·rw [show us.toArray.size=xs.length by simp;lia,GU hl]
   exact ⟨.bl (decide (xs=ys)),H,I,rfl,q⟩
 ·rw [bH (fun e=>hl (by rw [e]))] at q
  refine SeqAt.RcAt.lists_lengths t1.isList t2.isList ?_ (by lia) _ _ _ _ ⟨.bl false,H,I,rfl,q⟩
  simp;lia
end L2
namespace My
open PySem L2
def iN(k:Nat):Int:=(k:Int)
def kF(zs:List Int)(n:Nat):Prop:=zs.Perm ((List.range n).map iN)
instance (zs:List Int) (n:Nat):Decidable (kF zs n):=by unfold kF;exact inferInstance
theorem Qv(n:Nat):((List.range n).map iN).Pairwise (·≤·):=by rw [yY];exact List.Pairwise.imp (fun h=>by unfold iN;lia) List.pairwise_lt_range
variable {ws zs:List Int} {n:Nat}
theorem HR(p:ws.Perm zs)(o:ws.Pairwise (·≤·)):decide (ws=(List.range n).map iN)=decide (kF zs n):=by
 by_cases h:kF zs n
 ·rw [bA h]
  refine bA ?_;exact (p.trans h).eq_of_pairwise (fun a b _ _ h1 h2=>by lia) o (Qv n)
 ·rw [bH h]
  refine bH fun e=>h ?_;subst e;exact p.symm
def Qw:Sp:=fun vs H Q _=>∃(a:Addr) (zs:List Int) (n:Nat),vs=[.ref a,.int (n:Int)]∧H a=some (.lst (zs.map V.int))∧zs.length<64∧n≤1000∧(∀H',ak H H'→Q (.bl (decide (kF zs n))) H')
def Qx(N:Addr):Sp:=fun vs H Q E=>∃(a:Addr) (zs:List Int) (n:Nat),vs=[.ref a,.int (n:Int)]∧H a=some (.lst (zs.map V.int))∧zs.length<64∧n≤1000 ∧
 (¬kF zs n→∀H',ak H H'→E (.ref N) none H')∧(kF zs n→∀H',ak H H'→Q .aN H')
def Qy(H:Hp)(a:Addr)(n:Nat)(o:List Nat):Prop:=H a=some (.lst (o.map fun k:Nat=>V.int (k:Int)))∧o.Perm (List.range n)
def Qz:Sp:=fun vs H Q _=>∃(a:Addr) (n:Nat) (o:List Nat),vs=[.ref a]∧Qy H a n o∧n≤1000 ∧
 ∀(r:Addr) (H':Hp),ak H H'→H r=none→H' r=some (.lst ((List.range n).map fun p=>V.int (o.idxOf p:Int)))→Q (.ref r) H'
variable {H H1:Hp} {D:Addr}
theorem QA(s:ak H H1)(e:H1 D=none):H D=none:=by
 cases z:H D with
 | none=>rfl
 | some o=>rw [s _ _ z] at e;cases e
theorem xE(s:ak H H1){o:HO}(e:H1 D=none):ak H (upd H1 D o):=eG s (QA s e)
variable {k:Nat}
theorem Aj(h:k<n):jI n (k:Int)=some k:=by unfold jI;rw [ae (by lia),ae (by lia),d6]
def jS(o:List Nat)(k p:Nat):Int:=if o.idxOf p<k then (o.idxOf p:Int) else 0
variable {o:List Nat}
theorem oR(h:o.Perm (List.range n)):o.Nodup:=h.nodup_iff.mpr vX
theorem mZ(h:o.Perm (List.range n)):o.length=n:=by rw [h.length_eq,fH]
variable {p:Nat}
theorem fu(h:o.Perm (List.range n)):p∈o↔p<n:=by rw [h.mem_iff,cR]
theorem tT(nd:o.Nodup)(hk:k<o.length):o.idxOf o[k]=k:=nd.idxOf_getElem k hk
theorem oS(h:p∈o):∃hk:o.idxOf p<o.length,o[o.idxOf p]=p:=⟨j9 h,v_ _⟩
theorem QB(h:o.Perm (List.range n))(hk:k<o.length):((List.range n).map fun p=>V.int (jS o k p)).set o[k] (.int (k:Int))=(List.range n).map fun p=>V.int (jS o (k+1) p):=by
 have nd:=oR h;refine iY (by simp) fun q h1 h2=>?_
 have hq:q<n:=by simpa using h2
 rw [List.getElem_set];by_cases e:o[k]=q
 ·rw [ae e]
  simp only [i4,pR];unfold jS;rw [←e,tT nd hk,ae (Nat.lt_succ_self k)]
 ·rw [aa e]
  simp only [i4,pR];unfold jS;have ne:o.idxOf q≠k:=fun z=>by obtain ⟨hz,ez⟩:=oS ((fu h).mpr hq);subst z;exact e ez
  by_cases z:o.idxOf q<k;·rw [ae z,ae (by lia)]
  ·rw [aa z,aa (by lia)]
theorem QC(n:Nat)(o:List Nat):(List.replicate n [V.int 0]).flatten=(List.range n).map fun p=>V.int (jS o 0 p):=by
 have e:∀n:Nat,(List.replicate n [V.int 0]).flatten=List.replicate n (V.int 0):=fun n=>by
  induction n with
  | zero=>rfl
  | succ n ih=>rw [nV,su,ih];rfl
 rw [e];refine iY (by simp) fun q h1 h2=>?_
 simp [jS]
theorem QD(h:o.Perm (List.range n)):(List.range n).map (fun p=>V.int (jS o o.length p))=(List.range n).map fun p=>V.int (o.idxOf p:Int):=by refine ma fun p hp=>?_;unfold jS;rw [ae (j9 ((fu h).mpr (cR.mp hp)))]
def oT(n:Nat)(ds:Nat→Addr)(un:Nat→Prop)(H H':Hp):Prop:=∀b o,H b=some o→(∀i,i<n→un i→b≠ds i)→H' b=some o
variable {ds:Nat→Addr}
theorem oT.refl{un:Nat→Prop}:oT n ds un H H:=fun _ _ h _=>h
variable {i:Nat}
theorem oT.put{un:Nat→Prop}(h:oT n ds un H H1)(hi:i<n)(ui:un i){o:HO}:oT n ds un H (upd H1 (ds i) o):=fun b u e k=>by rw [aG (k i hi ui)];exact h b u e k
theorem take_snoc{α:Type}{xs:List α}{x:α}(h:xs[i]?=some x):xs.take (i+1)=xs.take i++[x]:=by rw [j8,h];rfl
def gG(n:Nat)(f:Nat→List Nat)(ps:List Nat)(i j:Nat)(g:Nat→List Nat):Prop:=∀a b:Nat,a<n→(b∈g a↔b∈f a∨(a≠b∧(a∈ps.take i∧b∈ps∨ps[i]?=some a∧b∈ps.take j)))
theorem gG.start(n:Nat)(f:Nat→List Nat)(ps:List Nat):gG n f ps 0 0 f:=fun a b _=>by simp
variable {f g:Nat→List Nat} {ps:List Nat}
theorem gG.row(h:gG n f ps i ps.length g):gG n f ps (i+1) 0 g:=fun a b ha=>by
 rw [h a b ha,gu];cases e:ps[i]? with
 | none=>
  have:ps.length≤i:=BG.mp e;rw [yM this,yM (by lia)]
  simp
 | some x=>
  rw [take_snoc e];simp only [cY,bI,wa,List.take_zero,sF,and_false,or_false];constructor
  ·rintro (z | ⟨z,z1 | z1⟩)
   ·exact .inl z
   ·exact .inr ⟨z,.inl z1.1,z1.2⟩
   ·exact .inr ⟨z,.inr z1.1.symm,z1.2⟩
  ·rintro (z | ⟨z,z1 | z1,z2⟩)
   ·exact .inl z
   ·exact .inr ⟨z,.inl ⟨z1,z2⟩⟩
   ·exact .inr ⟨z,.inr ⟨z1.symm,z2⟩⟩
variable {j:Nat}
theorem gG.same{x:Nat}(h:gG n f ps i j g)(hi:ps[i]?=some x)(hj:ps[j]?=some x):gG n f ps i (j+1) g:=fun a b ha=>by
 rw [h a b ha,take_snoc hj];simp only [cY,bI,hi,wa];constructor
 ·rintro (z | ⟨z,z1 | z1⟩)
  ·exact .inl z
  ·exact .inr ⟨z,.inl z1⟩
  ·exact .inr ⟨z,.inr ⟨z1.1,.inl z1.2⟩⟩
 ·rintro (z | ⟨z,z1 | ⟨z1,z2 | z2⟩⟩)
  ·exact .inl z
  ·exact .inr ⟨z,.inl z1⟩
  ·exact .inr ⟨z,.inr ⟨z1,z2⟩⟩
  ·exact absurd (z1.symm.trans z2.symm) z
theorem gG.put{x y:Nat}(h:gG n f ps i j g)(hi:ps[i]?=some x)(hj:ps[j]?=some y)(ne:x≠y):gG n f ps i (j+1) (dP g x (cX (g x) y)):=fun a b ha=>by
 have e1:b∈dP g x (cX (g x) y) a↔b∈g a∨(a=x∧b=y):=by
  unfold dP;by_cases e:a=x
  ·subst e
   rw [ae rfl,iP];simp
  ·rw [aa e]
   simp [e]
 rw [e1,h a b ha,take_snoc hj];simp only [cY,bI,hi,wa];constructor
 ·rintro ((z | ⟨z,z1 | z1⟩) | ⟨rfl,rfl⟩)
  ·exact .inl z
  ·exact .inr ⟨z,.inl z1⟩
  ·exact .inr ⟨z,.inr ⟨z1.1,.inl z1.2⟩⟩
  ·exact .inr ⟨ne,.inr ⟨rfl,.inr rfl⟩⟩
 ·rintro (z | ⟨z,z1 | ⟨z1,z2 | z2⟩⟩)
  ·exact .inl (.inl z)
  ·exact .inl (.inr ⟨z,.inl z1⟩)
  ·exact .inl (.inr ⟨z,.inr ⟨z1,z2⟩⟩)
  ·exact .inr ⟨z1.symm,z2⟩
theorem gG.done(h:gG n f ps ps.length 0 g):∀a b:Nat,a<n→(b∈g a↔b∈f a∨(a≠b∧a∈ps∧b∈ps)):=fun a b ha=>by rw [h a b ha,gu];simp
def QE:Sp:=fun vs H Q _=>∃(D pl:Addr) (n:Nat) (ds:Nat→Addr) (un:Nat→Prop) (f:Nat→List Nat) (ps:List Nat),vs=[.ref D,.ref pl]∧dI H D n ds un f∧H pl=some (.lst (ps.map fun k:Nat=>V.int (k:Int)))∧(∀p∈ps,p<n∧un p)∧n≤1000 ∧
 ∀(H':Hp) (g:Nat→List Nat),oT n ds un H H'→dI H' D n ds un g→(∀a b:Nat,a<n→(b∈g a↔b∈f a∨(a≠b∧a∈ps∧b∈ps)))→Q .aN H'
theorem dI.mono{H':Hp}{un:Nat→Prop}(h:dI H D n ds un f)(s:ak H H'):dI H' D n ds un f:=⟨s _ _ h.lst,h.inj,h.ne,fun i hi ui=>s _ _ (h.at' i hi ui),h.pl⟩
theorem dI.less{un HS:Nat→Prop}(h:dI H D n ds un f)(k:∀i,i<n→HS i→un i):dI H D n ds HS f:=⟨h.lst,h.inj,h.ne,fun i hi ui=>h.at' i hi (k i hi ui),h.pl⟩
variable {x:Addr}
theorem dI.upd{un:Nat→Prop}(h:dI H D n ds un f){o:HO}(n1:x≠D)(n2:∀i,i<n→un i→ds i≠x):dI (upd H x o) D n ds un f:=⟨by rw [aG (Ne.symm n1)];exact h.lst,h.inj,h.ne,fun i hi ui=>by rw [aG (n2 i hi ui)];exact h.at' i hi ui,h.pl⟩
variable {a:Addr}
theorem QF{o:Obj}{kvs:List (Key×V)}(h:H1 a=some (.bb o (.dK kvs))):lE (iO a o kvs) (kvs.map fun kv=>kV kv.1) H1 where
 go:=fun i Hc s hi=>⟨s _ _ h,by simpa using hi⟩
 d8:=fun i Hc x H' s y=>⟨y.1,fun _=>by obtain ⟨kv,e,rfl⟩:=y.2;rw [bo,e];rfl⟩
 stop:=fun i Hc s hi=>⟨s _ _ h,by simpa using hi⟩
theorem QG(ks:List Nat):(dk ks).map (fun kv=>kV kv.1)=ks.map fun k:Nat=>V.int (k:Int):=by unfold dk;rw [dE];rfl
theorem QH(ks:List Nat):(List.range ks.length).map (fun i=>ks.getD i 0)=ks:=by
 refine iY (by simp) fun i h1 h2=>?_
 simp [cG,h2]
theorem QI(ks:List Nat)(pr:Nat→Bool):((List.range ks.length).filter fun i=>pr (ks.getD i 0)).map (fun i=>ks.getD i 0)=ks.filter pr:=by have e:=List.filter_map (f:=fun i=>ks.getD i 0) (l:=List.range ks.length) (p:=pr);rw [QH] at e;exact e.symm
variable {ρ:St→St} {tt:TT} {te:TE} {σ:St} {Q:VK} {ks:List Nat}
theorem HU{ob:Obj}(h:H a=some (.bb ob (.dK (dk ks))))(pr:Nat→Bool)(hl:ks.length<sizeLine)
  (test:∀k∈ks,∀(Hc:Hp) (R:Bool→Hp→Prop),ak H Hc→R (pr k) Hc→tt (some (.int (k:Int))::ρ σ) Hc R)
  (step:∀k∈ks,∀(Hc:Hp) (R:VK),R (.int (k:Int)) Hc→te (some (.int (k:Int))::ρ σ) Hc R)
  (fin:∀D Hc,H D=none→ak H Hc→Hc D=some (.lst ((ks.filter pr).map fun k:Nat=>V.int (k:Int)))→Q (.ref D) Hc):gh (fun _ H R=>R (iO a ob (dk ks)) H) ρ tt te σ H Q:=by
 have at':∀{i:Nat} {x:V},(ks.map fun k:Nat=>V.int (k:Int))[i]?=some x→i<ks.length∧x=.int ((ks.getD i 0:Nat):Int)∧ks.getD i 0∈ks:=fun{i x} hx=>by
  have hi:i<ks.length:=by have:=(bW.mp hx).1;simpa using this
  rw [bo] at hx;simp [hi] at hx;rw [getD_at hi];exact ⟨hi,hx.symm,cy hi⟩
 refine P1 (xs:=ks.map fun k:Nat=>V.int (k:Int)) (fun i=>pr (ks.getD i 0)) (fun R k=>k _ (by rw [←QG];exact QF h)) (by rw [aH];exact hl) (fun _ i y _=>y=.int ((ks.getD i 0:Nat):Int)) (fun _ _ _ _ _ _ h _ _=>h) ?_ ?_ ?_
 ·intro i x hx Hc R sc hR
  obtain ⟨_,rfl,m⟩:=at' hx;exact test _ m Hc R sc hR
 ·intro D i x hx Hc R sc _ kc
  obtain ⟨_,rfl,m⟩:=at' hx;exact step _ m Hc R (kc _ Hc (ak.refl _) rfl)
 ·intro D ys Hc nD sc ly hP eD
  refine fin D Hc nD sc ?_;rw [eD,←QI ks pr,dE];rw [aH] at ly hP
  congr 2
  refine iY (by simpa using ly) fun k h1 h2=>?_
  have h3:k<((List.range ks.length).filter fun i=>pr (ks.getD i 0)).length:=by simpa using h2
  rw [i4];exact hP k _ _ (bS h1) (bS h3)
theorem HV(p:ws.Perm (ks.map iN)):∃ms:List Nat,ws=ms.map iN∧ms.Perm ks:=by
 refine ⟨ws.map Int.toNat,?_,?_⟩
 ·rw [dE]
  conv=>lhs;rw [←List.map_id ws]
  refine ma fun z hz=>?_
  obtain ⟨k,_,rfl⟩:=cj.mp (p.mem_iff.mp hz)
  show iN k=iN (Int.toNat (iN k))
  unfold iN
  rw [d6]
 ·have:=p.map Int.toNat
  rw [dE] at this
  have e:ks.map (Int.toNat ∘ iN)=ks:=by
   conv=>rhs;rw [←List.map_id ks]
   exact ma fun k _=>d6 k
  rw [e] at this
  exact this
structure oU (n:Nat) (o:List Nat) (p:Nat) (ms:List Nat):Prop where
 up:ms.Pairwise (· < ·)
 lt:∀q∈ms,q<n
 la:∀q∈ms,o.idxOf p<o.idxOf q
theorem QJ{ms:List Nat}(hk:iQ n ks)(h:ms.Perm (ks.filter fun q=>decide (o.idxOf p<o.idxOf q)))(s:(ms.map iN).Pairwise (·≤·)):oU n o p ms:=by
 have m:∀q∈ms,q∈ks∧o.idxOf p<o.idxOf q:=fun q hq=>by have:=fY.mp (h.mem_iff.mp hq);exact ⟨this.1,by simpa using this.2⟩
 refine ⟨?_,fun q hq=>hk.2 q (m q hq).1,fun q hq=>(m q hq).2⟩;have nd:ms.Nodup:=h.nodup_iff.mpr (hk.1.filter _);rw [yY] at s;refine List.Pairwise.imp₂ (fun a b h1 h2=>?_) s nd;have h1:(a:Int)≤(b:Int):=h1;have h2:a≠b:=h2;lia
def HW(H:Hp)(D:Addr)(n:Nat)(rs:Nat→Addr)(g:Nat→List Nat):Prop:=H D=some (.lst ((List.range n).map fun p=>V.ref (rs p)))∧∀p,p<n→H (rs p)=some (.lst ((g p).map fun k:Nat=>V.int (k:Int)))
theorem QK(h:kF zs n):∃o:List Nat,zs=o.map iN∧o.Perm (List.range n):=HV h
def jT(rs:Nat→Addr)(p:Nat)(x:Addr):Nat→Addr:=fun q=>if q=p then x else rs q
theorem QL(n:Nat)(rs:Nat→Addr)(p:Nat)(x:Addr):((List.range n).map fun q=>V.ref (rs q)).set p (.ref x)=(List.range n).map fun q=>V.ref (jT rs p x q):=by
 refine iY (by simp) fun q h1 h2=>?_
 rw [List.getElem_set,i4,pR,i4,pR];unfold jT;by_cases e:p=q
 ·subst e
  rw [ae rfl,ae rfl]
 ·rw [aa e,aa (Ne.symm e)]
variable {rs:Nat→Addr}
theorem HX:jT rs p x p=x:=ae rfl
variable {q:Nat}
theorem QM(h:q≠p):jT rs p x q=rs q:=aa h
theorem QN{x:List Nat}:dP f p x p=x:=ae rfl
theorem QO{x:List Nat}(h:q≠p):dP f p x q=f q:=aa h
theorem jl{g:Nat→V}(h:p<n):fQ ((List.range n).map g) (p:Int)=some (g p):=lA (by rw [bo,pM h];rfl)
theorem QP(o ks:List Nat)(p:Nat):(ks.filter fun q=>decide ((o.idxOf p:Int)<(o.idxOf q:Int)))=ks.filter fun q=>decide (o.idxOf p<o.idxOf q):=by refine List.filter_congr fun q _=>?_;rw [nQ,i5,i5];lia
theorem jU(h:o.Perm (List.range n))(hp:p<n)(hq:q<n)(ne:p≠q):o.idxOf p≠o.idxOf q:=fun z=>by
 obtain ⟨h1,e1⟩:=oS ((fu h).mpr hp);obtain ⟨h2,e2⟩:=oS ((fu h).mpr hq);refine ne ?_;rw [←e1,←e2]
 congr 1
theorem HY{wi:TI}(h:wi σ H fun J H1=>gh (fun _ H R=>R J H) ρ tt te σ H1 Q):gh wi ρ tt te σ H Q:=h
end My
namespace L2
open PySem PySem.Spec PyProof.Rows
section
variable {X:Cx} {pins:aQ} {σ:St} {H:Hp} {s:Shared}
end
end L2
namespace My
open PySem L2
variable {n p:Nat}
theorem HZ{o:List Nat}(h:o.Perm (List.range n)){ms:List Nat}(k:oU n o p ms):ms.length≤n-1-o.idxOf p:=by
 have nd:(ms.map fun q=>o.idxOf q-(o.idxOf p+1)).Nodup:=by rw [List.nodup_iff_pairwise_ne,yY];refine yZ (fun{a b} ha hb lt=>?_) k.up;have h1:=k.la a ha;have h2:=k.la b hb;have ne:=jU h (k.lt a ha) (k.lt b hb) (cx lt);lia
 have:=Dg (n:=n-1-o.idxOf p) nd (fun x hx=>by obtain ⟨q,hq,rfl⟩:=cj.mp hx;have h1:=k.la q hq;have h2:=(oS ((fu h).mpr (k.lt q hq))).1;rw [mZ h] at h2;lia)
 rwa [aH] at this
theorem H_{f g:Nat→Nat}:∀{l:List Nat},(∀p∈l,f p≤g p)→(l.map f).sum≤(l.map g).sum
 | [],_=>ay _
 | a::r,h=>by have h1:=h a (d5 ..);have h2:=H_ (l:=r) fun p hp=>h p (eC _ hp);simp only [jC,List.sum_cons];lia
def da(p q:Nat):Int×Int:=(if (q:Int)<(p:Int) then (q:Int) else (p:Int),if (q:Int)>(p:Int) then (q:Int) else (p:Int))
theorem Di{q:Nat}(hp:p<n)(hq:q<n):0≤(da p q).2∧(da p q).2<(n:Int):=by
 unfold da;dsimp only
 split <;> lia
theorem aX.app{H:Hp}{xs ys:List V}{M N:aw}(h:aX H xs M)(h':aX H ys N):aX H (xs++ys) (M++N):=by
 have l1:=h.1;have l2:=h'.1;refine ⟨by simp [l1,l2],fun k v p h1 h2=>?_⟩
 by_cases e:k<xs.length
 ·rw [gM e] at h1
  rw [gM (by lia)] at h2
  exact h.2 k v p h1 h2
 ·rw [gK (by lia)] at h1
  rw [gK (by lia),←l1] at h2
  exact h'.2 _ v p h1 h2
theorem QQ{g:Nat→Nat}{k:Nat}(h:k≤n):((List.range k).map g).sum≤((List.range n).map g).sum:=by
 induction n with
 | zero=>rw [Nat.le_zero.mp h];exact ay _
 | succ n ih=>
  by_cases e:k=n+1;·subst e;exact ay _
  ·have:=ih (by lia)
   rw [sG,fi,List.sum_append];lia
end My
namespace L2
open PySem PySem.Spec PyProof.Rows
theorem QR{X:Cx}{E:XK}(L:tu X E):PassesOwn (model X.prog X.w) X.A X.env X.xe:=by rw [L.xe];exact PassesOwn.leaving
end L2
namespace My
open PySem L2
end My
namespace L2
open PySem PySem.Spec PyProof.Rows
end L2
namespace My
open PySem L2
end My
namespace L2
open PySem PySem.Spec PyProof.Rows
end L2
namespace My
open PySem L2
end My
namespace L2
open PySem PySem.Spec PyProof.Rows
theorem Dj{X:Cx}{K:aJ}(hk:X.K=K:=by rfl):cz X (compareOp .In) (zA K false):=by subst hk;exact Gg
end L2
namespace My
open PySem L2
def tU:V→Nat
 | .int i=>i.toNat
 | _=>0
theorem YV(xs:List V)(k:Nat)(h:k≤xs.length):jH xs none (some (k:Int))=xs.take k:=by
 unfold jH HT.fm;simp only;rw [aa (by lia),d6,Nat.min_eq_left h,Nat.sub_zero]
 rfl
theorem QS(xs:List V)(k:Nat)(h:k≤xs.length):jH xs (some (k:Int)) none=xs.drop k:=by
 unfold jH HT.fm;simp only;rw [aa (by lia),d6,Nat.min_eq_left h]
 exact yM (by rw [vQ];exact ay _)
inductive oW (bG:Nat→Nat→Prop) (bF:Nat→Prop) (s:Nat):Nat→Prop where
 | start:oW bG bF s s
 | step {a b:Nat}:oW bG bF s a→(a=s∨bF a)→bG a b→oW bG bF s b
structure eW (n:Nat) (bG:Nat→Nat→Prop) (bF:Nat→Prop) (s:Nat) (here:Option Nat) (dn:Nat→Prop) (ks ws:List Nat):Prop where
 pl:iQ n ks
 st:s∈ks
 rc:∀k∈ks,oW bG bF s k
 wt:∀w∈ws,w∈ks∧(w=s∨bF w)
 cl:∀k∈ks,(k=s∨bF k)→k∈ws∨∀b,bG k b→b∈ks∨(here=some k∧¬dn b)
variable {n:Nat} {bG:Nat→Nat→Prop} {bF:Nat→Prop} {s:Nat}
variable {dn:Nat→Prop}
theorem eW.start(hs:s<n):eW n bG bF s none dn [s] [s]:=
 ⟨⟨by simp,fun k hk=>by rw [bI.mp hk];exact hs⟩,bI.mpr rfl,fun k hk=>by rw [bI.mp hk];exact .start,fun w hw=>⟨hw,.inl (bI.mp hw)⟩,fun k hk _=>.inl hk⟩
variable {ks ws:List Nat} {h:Nat}
theorem eW.pop(k:eW n bG bF s none dn ks (ws++[h])):eW n bG bF s (some h) (fun _=>False) ks ws:=
 ⟨k.pl,k.st,k.rc,fun w hw=>k.wt w (kK _ hw),fun x hx ox=>by
  rcases k.cl x hx ox with e | e
  ·rcases cY.mp e with e | e
   ·exact .inl e
   ·exact .inr fun b _=>.inr ⟨by rw [bI.mp e],fun z=>z⟩
  ·exact .inr fun b hb=>.inl ((e b hb).resolve_right fun z=>by cases z.1)⟩
variable {b:Nat}
theorem eW.old(k:eW n bG bF s (some h) dn ks ws)(hb:b∈ks):eW n bG bF s (some h) (fun x=>dn x∨x=b) ks ws:=
 ⟨k.pl,k.st,k.rc,k.wt,fun x hx ox=>by
  rcases k.cl x hx ox with e | e;·exact .inl e
  ·refine .inr fun c hc=>?_
   rcases e c hc with e | e;·exact .inl e
   ·by_cases z:c=b
    ·rw [z];exact .inl hb
    ·exact .inr ⟨e.1,fun q=>q.elim e.2 z⟩⟩
theorem eW.new{vs:List Nat}(k:eW n bG bF s (some h) dn ks ws)(hb:b∉ks)(bn:b<n)(hh:h∈ks)(oh:h=s∨bF h)(ab:bG h b)(hv:(bF b∧vs=ws++[b])∨(¬bF b∧vs=ws)):eW n bG bF s (some h) (fun x=>dn x∨x=b) (cX ks b) vs:=by
 have bs:b≠s:=fun z=>hb (z▸k.st);have sub:∀w∈ws,w∈vs:=fun w hw=>by
  rcases hv with ⟨_,rfl⟩ | ⟨_,rfl⟩;·exact kK _ hw
  ·exact hw
 refine ⟨k.pl.add bn,iP.mpr (.inl k.st),fun x hx=>?_,fun w hw=>?_,fun x hx ox=>?_⟩
 ·rcases iP.mp hx with e | rfl
  ·exact k.rc x e
  ·exact .step (k.rc h hh) oh ab
 ·rcases hv with ⟨tb,rfl⟩ | ⟨_,rfl⟩
  ·rcases cY.mp hw with e | e
   ·exact ⟨iP.mpr (.inl (k.wt w e).1),(k.wt w e).2⟩
   ·rw [bI.mp e]
    exact ⟨iP.mpr (.inr rfl),.inr tb⟩
  ·exact ⟨iP.mpr (.inl (k.wt w hw).1),(k.wt w hw).2⟩
 ·rcases iP.mp hx with e | rfl
  ·rcases k.cl x e ox with e | e
   ·exact .inl (sub x e)
   ·refine .inr fun c hc=>?_
    rcases e c hc with e | e;·exact .inl (iP.mpr (.inl e))
    ·by_cases z:c=b
     ·exact .inl (iP.mpr (.inr z))
     ·exact .inr ⟨e.1,fun q=>q.elim e.2 z⟩
  ·rcases hv with ⟨tb,rfl⟩ | ⟨tb,rfl⟩
   ·exact .inl (eQ _ (bI.mpr rfl))
   ·exact absurd ox (fun z=>z.elim bs tb)
theorem eW.next{QT:Nat→Prop}(k:eW n bG bF s (some h) dn ks ws)(all:∀b,bG h b→dn b):eW n bG bF s none QT ks ws:=
 ⟨k.pl,k.st,k.rc,k.wt,fun x hx ox=>by
  rcases k.cl x hx ox with e | e;·exact .inl e
  ·refine .inr fun c hc=>.inl ?_
   rcases e c hc with e | ⟨e,e2⟩;·exact e
   ·cases e
    exact absurd (all c hc) e2⟩
theorem eW.done(k:eW n bG bF s none dn ks [])(x:Nat):x∈ks↔oW bG bF s x:=by
 refine ⟨k.rc x,fun h=>?_⟩
 induction h with
 | start=>exact k.st
 | step _ o ab ih=>
  rcases k.cl _ ih o with e | e;·cases e
  ·exact (e _ ab).resolve_right fun z=>by cases z.1
theorem QU(h:b∉ks):(cX ks b).length=ks.length+1:=by unfold cX;rw [aa h,du];rfl
end My
namespace L2
open PySem PySem.Spec PyProof.Rows
theorem QV{X:Cx}{K:aJ}(hk:X.K=K:=by rfl):cz X (compareOp .NotIn) (zA K true):=by subst hk;exact Nq
end L2
namespace My
open PySem L2
def oX(n:Nat)(f:Nat→List Nat)(a b:Nat):Prop:=a<n∧b∈f a
variable {a:Addr} {σ:St} {H:Hp}
theorem Ia{ob:Obj}{ks:List Nat}{g:TG}{tb:TS}{D:Ends}(Pv:Nat→St→Hp→Prop)(h0:Pv 0 σ H)(hl:∀i σ H,i≤ks.length→Pv i σ H→H a=some (.bb ob (.dK (dk ks))))
  (hs:∀(i k:Nat) σ H,ks[i]?=some k→Pv i σ H→g (.int (k:Int)) σ H fun σ2 H2=>tb {D with nx:=Pv (i+1),ct:=Pv (i+1),bk:=D.nx} σ2 H2) (hd:∀σ H,Pv ks.length σ H→D.nx σ H) :
  ∃W:Nat→Nat→St→Hp→Prop,(∃m,W 0 m σ H)∧∀i m σ H,W i m σ H→
   ((iO a ob (dk ks)).stop i H∧D.nx σ H)∨((iO a ob (dk ks)).go i H∧∃N:St→Hp→Prop,(∀σ' H',N σ' H'→∃m',m'<m∧W (i+1) m' σ' H')∧∀x H',(iO a ob (dk ks)).d8 i H x H'→g x σ H' fun σ2 H2=>tb {D with nx:=N,ct:=N,bk:=D.nx} σ2 H2):=by
 refine ⟨fun i m σ H=>m=ks.length-i∧i≤ks.length∧Pv i σ H,⟨ks.length,by simp,bU _,h0⟩,?_⟩
 rintro i m σ H ⟨rfl,hi,p⟩;have q:=hl i σ H hi p;by_cases aZ:i<ks.length
 ·refine .inr ⟨⟨q,by rw [Ai];exact aZ⟩,Pv (i+1),fun σ' H' p'=>⟨ks.length-(i+1),by lia,rfl,aZ,p'⟩,fun x H' y=>?_⟩
  obtain ⟨e,kv,ek,rfl⟩:=y;subst e;unfold dk at ek;rw [bo,bS aZ] at ek;cases ek;exact hs i _ σ _ (bS aZ) p
 ·have e:i=ks.length:=by lia
  subst e;exact .inl ⟨⟨q,by rw [Ai];exact ay _⟩,hd σ H p⟩
structure dZ (H:Hp) (D:Addr) (n:Nat) (ds:Nat→Addr) (f:Nat→List Nat):Prop where
 lst:H D=some (.lst ((List.range n).map fun i=>V.ref (ds i)))
 at':∀i,i<n→H (ds i)=some (.dK (dk (f i)))∨∃ob,H (ds i)=some (.bb ob (.dK (dk (f i))))
variable {D:Addr} {n:Nat} {ds:Nat→Addr} {f:Nat→List Nat}
theorem dI.fr(h:dI H D n ds (fun _=>True) f):dZ H D n ds f:=⟨h.lst,fun i hi=>.inl (h.at' i hi trivial)⟩
theorem Ak(done:List Nat)(k:Nat):lB (.int (k:Int)) (done.map fun k:Nat=>V.int (k:Int))=decide (k∈done):=by
 unfold lB;rw [nQ,v9,i5];constructor
 ·rintro ⟨y,hy,e⟩
  obtain ⟨j,hj,rfl⟩:=cj.mp hy;have e:((j:Int) == (k:Int))=true:=e;rw [beq_iff_eq] at e;have:j=k:=by lia
  subst this;exact hj
 ·intro h
  exact ⟨_,cj.mpr ⟨k,h,rfl⟩,zL rfl⟩
theorem Dk(done:List Nat):(done.map fun k:Nat=>V.int (k:Int)).all jc=true:=by rw [nY];intro x hx;obtain ⟨j,_,rfl⟩:=cj.mp hx;rfl
variable {kvs:List (Key×V)} {R:It→Hp→Prop}
theorem QW(h:H a=some (.dK kvs)∨∃ob,H a=some (.bb ob (.dK kvs)))(k:∀(ob:Obj) (Hf:Hp),Hf a=some (.bb ob (.dK kvs))→(∀b u,b≠a→H b=some u→Hf b=some u)→R (iO a ob kvs) Hf) :
  (H a=some (.dK kvs)∧∀o,R (iO a o kvs) (upd H a (.bb o (.dK kvs))))∨∃o,H a=some (.bb o (.dK kvs))∧R (iO a o kvs) H:=by
 rcases h with e | ⟨ob,e⟩;·exact .inl ⟨e,fun o=>k o _ au fun b u ne hb=>by rw [aG ne];exact hb⟩
 ·exact .inr ⟨ob,e,k ob H e fun _ _ _ h=>h⟩
theorem dZ.keep{H':Hp}(h:dZ H D n ds f)(k:∀b u,b≠a→H b=some u→H' b=some u)(nD:a≠D)(nd:∀i,i<n→ds i≠a):dZ H' D n ds f:=⟨k _ _ (Ne.symm nD) h.lst,fun i hi=>by
 rcases h.at' i hi with e | ⟨ob,e⟩;·exact .inl (k _ _ (nd i hi) e)
 ·exact .inr ⟨ob,k _ _ (nd i hi) e⟩⟩
theorem dZ.bb{H H':Hp}{D:Addr}{n:Nat}{ds:Nat→Addr}{f:Nat→List Nat}(h:dZ H D n ds f){j:Nat}{ob:Obj}(k:∀b u,b≠ds j→H b=some u→H' b=some u)(hj:j<n)(e:H' (ds j)=some (.bb ob (.dK (dk (f j)))))(inj:∀i j,i<n→j<n→ds i=ds j→i=j)(nD:ds j≠D):dZ H' D n ds f:=⟨k _ _ (Ne.symm nD) h.lst,fun i hi=>by
 by_cases z:i=j;·subst z;exact .inr ⟨ob,e⟩
 ·rcases h.at' i hi with e | ⟨ob,e⟩
  ·exact .inl (k _ _ (fun q=>z (inj i j hi hj q)) e)
  ·exact .inr ⟨ob,k _ _ (fun q=>z (inj i j hi hj q)) e⟩⟩
theorem QX{tl:TE}(hp:∀Q:VK,Q (.ref a) H→tl σ H Q)(h:H a=some (.dK kvs)∨∃ob,H a=some (.bb ob (.dK kvs)))(k:∀(ob:Obj) (Hf:Hp),Hf a=some (.bb ob (.dK kvs))→(∀b u,b≠a→H b=some u→Hf b=some u)→R (iO a ob kvs) Hf):C_ tl σ H R:=hp _ ⟨a,kvs,rfl,QW h k⟩
def g9(g:Nat→List Nat)(i j:Nat):Nat→List Nat:=dP g i (g i++[j])
variable {g:Nat→List Nat} {i j:Nat}
theorem Ib{a b:Nat}:b∈g9 g i j a↔b∈g a∨(a=i∧b=j):=by
 unfold g9 dP;by_cases e:a=i
 ·subst e
  rw [ae rfl,cY,bI];simp
 ·rw [aa e]
  simp [e]
theorem Dl{a:Nat}:(g9 g i j a).length≤(g a).length+1:=by
 unfold g9 dP;by_cases e:a=i
 ·subst e
  rw [ae rfl,du];exact ay _
 ·rw [aa e];lia
theorem fb.snoc{L:aw}(h:fb n L g):fb n (L++[((i:Int),(j:Int))]) (g9 (g9 g i j) j i):=fun a b ha=>by
 rw [Ib,Ib,h a b ha];simp only [cY,bI,Prod.mk.injEq];constructor
 ·rintro (((e | e) | ⟨rfl,rfl⟩) | ⟨rfl,rfl⟩)
  ·exact .inl (.inl e)
  ·exact .inr (.inl e)
  ·exact .inl (.inr ⟨rfl,rfl⟩)
  ·exact .inr (.inr ⟨rfl,rfl⟩)
 ·rintro ((e | ⟨e1,e2⟩) | (e | ⟨e1,e2⟩))
  ·exact .inl (.inl (.inl e))
  ·exact .inl (.inr ⟨by lia,by lia⟩)
  ·exact .inl (.inl (.inr e))
  ·exact .inr ⟨by lia,by lia⟩
structure jm (H:Hp) (D:Addr) (n:Nat) (rs:Nat→Addr) (g:Nat→List Nat):Prop where
 lst:H D=some (.lst ((List.range n).map fun i=>V.ref (rs i)))
 inj:∀i j,i<n→j<n→rs i=rs j→i=j
 ne:∀i,i<n→rs i≠D
 at':∀i,i<n→H (rs i)=some (.lst ((g i).map fun k:Nat=>V.int (k:Int)))
theorem jm.snoc{rs:Nat→Addr}(h:jm H D n rs g)(j:Nat)(hi:i<n):jm (upd H (rs i) (.lst (((g i).map fun k:Nat=>V.int (k:Int))++[V.int (j:Int)]))) D n rs (g9 g i j):=by
 refine ⟨by rw [aG (Ne.symm (h.ne i hi))];exact h.lst,h.inj,h.ne,fun a ha=>?_⟩
 unfold g9 dP;by_cases e:a=i
 ·subst e
  rw [ae rfl,au,fi];rfl
 ·rw [aa e,aG (fun z=>e (h.inj a i ha hi z))]
  exact h.at' a ha
def QY:Sp:=fun vs H Q _=>∃(D d:Addr) (n:Nat) (rs:Nat→Addr) (g:Nat→List Nat) (done:List Nat) (p:Nat),vs=[.ref D,.ref d,.int (p:Int)]∧jm H D n rs g∧(∀i,i<n→∀j∈g i,j<n)∧H d=some (.lst (done.map fun k:Nat=>V.int (k:Int)))∧done.length≤1000∧p<n∧n≤60 ∧
 ∀(H':Hp) (mt:Addr) (ks:List Nat),ak H H'→H mt=none→H' mt=some (.dK (dk ks))→iQ n ks→(∀x,x∈ks↔oW (oX n g) (·∈done) p x)→Q (.ref mt) H'
end My
namespace L2
open PySem PySem.Spec PyProof.Rows
theorem QZ(l:List Int):∀(i:Nat) (k:Int),i≤l.length→((firstMet (fun i=>l.getD i 0) i).any (· == k)=true↔k∈l.take i):=by
 intro i k hi;rw [firstMet_any,v9];constructor
 ·rintro ⟨x,hx,e⟩
  obtain ⟨j,hj,rfl⟩:=cj.mp hx;have dH:=cR.mp hj;have:=eq_of_beq e;subst this;rw [wb];exact ⟨j,by lia,by simp [cG,show j<l.length by lia]⟩
 ·intro h
  obtain ⟨j,hj,rfl⟩:=wb.mp h;exact ⟨_,cj.mpr ⟨j,cR.mpr (by lia),rfl⟩,by simp [cG,show j<l.length by lia]⟩
theorem Ic(l:List Int):∀i:Nat,i≤l.length→((firstMet (fun i=>l.getD i 0) i).length=i↔(l.take i).Nodup)
 | 0,_=>by simp [firstMet_zero]
 | i+1,hi=>by
  have ih:=Ic l i (by lia)
  have le:=firstMet_length_le (fun i=>l.getD i 0) i;rw [firstMet_succ,step_length];have tk:l.take (i+1)=l.take i++[l.getD i 0]:=by rw [j8,cG];simp [show i<l.length by lia]
  rw [tk,ic];have m:=QZ l i (l.getD i 0) (by lia)
  by_cases z:(firstMet (fun i=>l.getD i 0) i).any (· == l.getD i 0)=true
  ·rw [ae z]
   constructor;·intro h;lia
   ·rintro ⟨_,_,h⟩
    exact absurd rfl (h _ (m.mp z) _ (bI.mpr rfl))
  ·rw [aa z]
   constructor
   ·intro h
    refine ⟨ih.mp (by lia),by simp,fun a ha b hb e=>z (m.mpr ?_)⟩
    rw [bI] at hb;rw [←hb,←e];exact ha
   ·rintro ⟨h,_,_⟩
    have:=ih.mpr h;lia
theorem Ie:∀{zs:List Int} {us:List Value},Vals (zs.map V.int) us→IntsAre us zs
 | [],_,r=>by cases r;exact .nil
 | z::zs,_,r=>by
  cases r with
  | cons h t=>obtain ⟨k,rfl⟩:=h;exact .cons _ _ (Ie t)
def Q0(K:aJ):List V→Hp→VK→Prop:=fun xs H Q=>∃(a:Addr) (zs:List Int),xs=[.ref a]∧a7 K H a (zs.map V.int)∧zs.length<1000∧∀(l:Addr) (S:Int→Bool) (n:Nat),H l=none→n≤zs.length→(n=zs.length↔zs.Nodup)→Q (.ref l) (upd H l (.set S n))
variable {X:Cx}
theorem Q1{K:aJ}(hc:X.calm=true)(hK:X.K=K:=by rfl):gB X (.type "set") (Q0 K):=by
 intro pins s σ H xs us Q I r h;subst hK;obtain ⟨p,zs,rfl,hq,hz,q⟩:=h;obtain ⟨u,rfl,ru⟩:=vals1 r;cases ru;obtain ⟨its,rv,pl,_⟩:=I.list hq;have hl:its.length=zs.length:=by rw [←rv.length,aH]
 refine call_set_list (items:=its.toArray) (ns:=zs) (I.ok.hd hc) pl.isList (by simpa using Ie rv) (by rw [b_];unfold scanBound;lia) fun h' tk hS hk=>?_
 have el:=b_ (as:=its);rw [el,hl] at hS;refine ⟨.ref s.heap.objs.size,_,I.laid (t':=tk) (o:=.set (fun k'=>(firstMet (fun i=>zs.getD i 0) zs.length).any (· == k')) (firstMet (fun i=>zs.getD i 0) zs.length).length) (fun b u e=>hk b u (aY e) e) (ay _) hS,rfl,q _ _ _ (I.ax.fresh (ay _)) (firstMet_length_le _ _) ?_⟩;have:=Ic zs zs.length (ay _);rw [gu] at this;exact this
theorem Q2:gB X (.builtin "len") (fun xs H Q=>∃p S n,xs=[.ref p]∧H p=some (.set S n)∧n<1000∧Q (.int (n:Int)) H):=by intro pins s σ H xs us Q I r h;obtain ⟨p,S,n,rfl,hq,n1,q⟩:=h;obtain ⟨u,rfl,rx⟩:=vals1 r;cases rx;have hS:s.heap.SetOf (intKind X.prog X.w) p S n:=I.ax p _ hq;obtain ⟨o,ho,Dm⟩:=hS.objOf;obtain ⟨hex,es,ep,t,hd,_,_,hn,hf⟩:=Dm;subst hn;exact call_len_set ho hex hd hf (Int.lt_of_lt_of_le (Int.ofNat_lt.mpr n1) (by decide)) ⟨.int (es.size:Int),H,I.tok _,⟨s.toks+1,rfl⟩,q⟩
theorem boot_set:bootBuiltins "set"=some (.type "set"):=by decide +kernel
end L2
namespace My
open PySem L2
def Q3(K:aJ):R2:=fun x y H Q=>∃(a b:Addr) (us ws:List V) (L M:aw),x=.ref a∧y=.ref b∧a7 K H a us∧a7 K H b ws∧aX H us L∧aX H ws M∧Q (.bl (decide (L=M))) H
variable {X:Cx}
theorem Ig{pins:aQ}{σ:St}{H:Hp}{s:Shared}(I:Inv X pins σ H s){A:Around}(hu:A.units<cLine){p q:Addr}{x y:Int×Int}(e:H p=some (.tup [.int x.1,.int x.2]))(e':H q=some (.tup [.int y.1,.int y.2])):SeqAt.EqAt A s (.ref p) (.ref q) (decide (x=y)):=by
 by_cases pq:p=q
 ·subst pq
  rw [e] at e';cases x;cases y;simp only [wa,HO.tup.injEq,List.cons.injEq,V.int.injEq,and_true] at e';rw [bA (Prod.ext e'.1 e'.2)];exact SeqAt.EqAt.same _
 obtain ⟨us,r1,t1,_⟩:=I.tuple (.of e);obtain ⟨vs,r2,t2,_⟩:=I.tuple (.of e');obtain ⟨a1,a2,rfl,Dn,Dp⟩:=vals2 r1;obtain ⟨b1,b2,rfl,Dq,Dr⟩:=vals2 r2;have z:=SeqAt.RcAt.tuples (A:=A) (e:=fun j=>if j=0 then d9 (.int x.1) (.int y.1) else d9 (.int x.2) (.int y.2)) t1 t2 hu (fun j z1 z2=>by
  have:j<2:=z1
  match j with
  | 0=>exact oA Dn Dq rfl rfl
  | 1=>exact oA Dp Dr rfl rfl)
 have ec:decide (x=y)=((List.range (min ([a1,a2]:List Value).toArray.size ([b1,b2]:List Value).toArray.size)).all (fun j=>if j=0 then d9 (.int x.1) (.int y.1) else d9 (.int x.2) (.int y.2)) && ([a1,a2]:List Value).toArray.size == ([b1,b2]:List Value).toArray.size):=by cases x;cases y;simp only [Prod.mk.injEq];show _=((List.range 2).all _ && true);simp [sG,d9];rfl
 rw [ec];exact sI pq z
theorem Q4(hu:X.A.units+64<cLine):cz X (compareOp .Eq) (Q3 X.K):=by
 intro pins s σ H x y v u Q I rx ry h;obtain ⟨a,b,xs,ys,L,M,rfl,rfl,h1,h2,k1,k2,q⟩:=h;cases rx;cases ry;obtain ⟨us,r1,t1,_⟩:=I.list h1;obtain ⟨vs,r2,t2,_⟩:=I.list h2;have l1:=r1.length;have l2:=r2.length;have m1:=k1.1;have m2:=k2.1;by_cases hl:L.length=M.length
 ·refine SeqAt.RcAt.lists (e:=fun j=>decide (L.getD j (0,0)=M.getD j (0,0))) t1.isList t2.isList (by simp;lia) (by lia) (fun j z1 z2=>?_) _ _ _ _ ?_
  ·have qw:j<us.length:=by simpa using z1
   have CD:j<vs.length:=by simpa using z2
   obtain ⟨p,ep,hp⟩:=k1.2 j xs[j] (L.getD j (0,0)) (by simp) (by simp [cG,show j<L.length by lia])
   obtain ⟨p',iz,lK⟩:=k2.2 j ys[j] (M.getD j (0,0)) (by simp) (by simp [cG,show j<M.length by lia])
   obtain ⟨x',ke,rx⟩:=r1.get (i:=j) (x:=xs[j]) (by simp)
   obtain ⟨y',mR,ry⟩:=r2.get (i:=j) (x:=ys[j]) (by simp)
   have e1:us.toArray[j]=x':=by simpa using (bW.mp ke).2
   have e2:vs.toArray[j]=y':=by simpa using (bW.mp mR).2
   rw [e1,e2];rw [ep] at rx;rw [iz] at ry;cases rx;cases ry;exact Ig I (by rw [nZ];lia) hp lK
  ·have ea:(List.range us.toArray.size).all (fun j=>decide (L.getD j (0,0)=M.getD j (0,0)))=decide (L=M):=by
    rw [show us.toArray.size=L.length by simp;lia]
    by_cases e:L=M
    ·subst e
     simp
    ·rw [bH e,yJ]
     intro h;rw [nY] at h;refine e (iY hl fun j g1 g2=>?_);have:=h j (cR.mpr g1);simpa [cG,g1,g2] using this
   rw [ea];exact ⟨.bl (decide (L=M)),H,I,rfl,q⟩
 ·rw [bH (fun e=>hl (by rw [e]))] at q
  refine SeqAt.RcAt.lists_lengths t1.isList t2.isList ?_ (by lia) _ _ _ _ ⟨.bl false,H,I,rfl,q⟩
  simp;lia
def gr(zs:List Int):List (Int×Int):=(List.range zs.length).map fun k=>(min (zs.getD k 0) (zs.getD ((k+1) % zs.length) 0),max (zs.getD k 0) (zs.getD ((k+1) % zs.length) 0))
def Am(L:aw)(zs:List Int):List (Int×Int):=L.filter fun p=>decide (p.1∈zs) && decide (p.2∈zs)
end My
namespace L2
open PySem PySem.Spec PyProof.Rows My
structure Ih (J:It) (Z:aw) (H1:Hp):Prop where
 go:∀i Hc,ak H1 Hc→i<Z.length→J.go i Hc
 d8:∀i Hc v H',ak H1 Hc→J.d8 i Hc v H'→ak Hc H'∧∀z,Z[i]?=some z→∃T,v=.ref T∧H' T=some (.tup [.int z.1,.int z.2])
 stop:∀i Hc,ak H1 Hc→Z.length≤i→J.stop i Hc
theorem Q5{K:aJ}{a:Addr}{us:List V}{Z:aw}{H1:Hp}(h:H1 a=some (.tup us))(hZ:aX H1 us Z):Ih (sW K a) Z H1 where
 go:=fun i Hc s hi=>⟨us,us[i]'(by rw [hZ.1];exact hi),.of (s _ _ h),by simp⟩
 d8:=fun i Hc v H' s y=>by obtain ⟨rfl,hy⟩:=y;refine ⟨ak.refl _,fun z hz=>?_⟩;obtain ⟨b,e,g⟩:=hZ.2 i v z (hy us (.of (s _ _ h))) hz;exact ⟨b,e,s _ _ g⟩
 stop:=fun i Hc s hi=>⟨us,.of (s _ _ h),by rw [hZ.1];exact hi⟩
end L2
namespace My
open PySem L2
def m5(z:Int×Int):Int×Int:=(if z.2<z.1 then z.2 else z.1,if z.2>z.1 then z.2 else z.1)
theorem Q6(a b:Int):m5 (a,b)=(min a b,max a b):=by
 unfold m5;refine Prod.ext ?_ ?_
 ·show (if b<a then b else a)=min a b
  split <;> lia
 ·show (if b>a then b else a)=max a b
  split <;> lia
theorem Ds(z:Int)(zs:List Int):lB (.int z) (zs.map V.int)=decide (z∈zs):=by
 unfold lB;rw [List.any_map];by_cases h:z∈zs
 ·rw [bA h,v9]
  exact ⟨z,h,by simp [d9]⟩
 ·rw [bH h,List.any_eq_false]
  intro x hx e;have:x=z:=by simpa [d9] using e
  exact h (this▸hx)
theorem Ii(zs:List Int):(zs.map V.int).all jc=true:=by rw [nY];intro x hx;obtain ⟨z,_,rfl⟩:=cj.mp hx;rfl
def lN(L:aw)(zs:List Int):Prop:=4≤zs.length∧zs.Nodup∧(gr zs).Perm (Am L zs)
instance (L:aw) (zs:List Int):Decidable (lN L zs):=by unfold lN;exact inferInstance
theorem An(zs:List Int):(gr zs).length=zs.length:=by unfold gr;simp
variable {zs:List Int}
theorem Q7{p:Int×Int}(h:p∈gr zs):∃x y,x∈zs∧y∈zs∧p=(min x y,max x y)∧(zs.Nodup→2≤zs.length→x≠y):=by
 unfold gr at h;obtain ⟨k,hk,rfl⟩:=cj.mp h;have hk:=cR.mp hk;have hm:(k+1) % zs.length<zs.length:=Nat.mod_lt _ (by lia)
 have e1:zs.getD k 0=zs[k]:=by simp [cG,hk]
 have e2:zs.getD ((k+1) % zs.length) 0=zs[(k+1) % zs.length]:=by simp [cG,hm]
 refine ⟨zs.getD k 0,zs.getD ((k+1) % zs.length) 0,by rw [e1];exact cy _,by rw [e2];exact cy _,rfl,fun nd l2 e=>?_⟩
 rw [e1,e2] at e;have:=(sj nd).mp e;by_cases z:k+1<zs.length
 ·rw [Nat.mod_eq_of_lt z] at this
  lia
 ·rw [show k+1=zs.length by lia,Nat.mod_self] at this
  lia
def m6(p q:Int×Int):Prop:=p.1*1000+p.2≤q.1*1000+q.2
variable {M:aw}
theorem Q8{p:Array Nat}(P:lG M.length p)(U:oJ (fun i=>(M.getD i (0,0)).1*1000+(M.getD i (0,0)).2) p M.length) :
  (p.toList.map fun i=>M.getD i (0,0)).Perm M∧(p.toList.map fun i=>M.getD i (0,0)).Pairwise m6:=by
 have pm:p.toList.Perm (List.range M.length):=pQ.mp P;have lt:∀i∈p.toList,i<M.length:=fun i hi=>cR.mp (pm.mem_iff.mp hi);refine ⟨?_,?_⟩
 ·have e:((List.range M.length).map fun i=>M.getD i (0,0))=M:=by
   refine iY (by simp) fun i h1 h2=>?_
   rw [i4,pR,getD_at h2]
  have:=pm.map fun i=>M.getD i (0,0);rw [e] at this;exact this
 ·rw [sL]
  intro i j hi hj CK;rw [aH] at hi hj;rw [i4,i4];have sz:=P.size;have u:=U i j (by lia) (by rw [←sz,←gs];exact hj)
  unfold vN at u;have gi:p.getD i 0=p.toList[i]:=by
   have:i<p.size:=by rw [←gs];exact hi
   simp [Array.getD,this]
  have gj:p.getD j 0=p.toList[j]:=by
   have:j<p.size:=by rw [←gs];exact hj
   simp [Array.getD,this]
  rw [gi,gj] at u;exact u
theorem Q9{N R:aw}(p:M.Perm R)(oM:M.Pairwise m6)(oN:N.Pairwise lexLt)(bR:∀q∈R,0≤q.2∧q.2<1000)(bN:∀q∈N,0≤q.2∧q.2<1000):decide (M=N)=decide (R.Perm N):=by
 by_cases h:R.Perm N
 ·rw [bA h]
  refine bA ?_;have Q_:N.Pairwise m6:=yZ (fun{a b} ha hb l=>by have h1:=bN a ha;have h2:=bN b hb;unfold lexLt at l;unfold m6;lia) oN
  refine (p.trans h).eq_of_pairwise (fun a b ha hb h1 h2=>?_) oM Q_;have b1:=bR a (p.mem_iff.mp ha);have b2:=bN b hb;unfold m6 at h1 h2;exact Prod.ext (by lia) (by lia)
 ·rw [bH h]
  refine bH fun e=>h ?_;subst e;exact p.symm
variable {L:aw}
theorem Ra{n:Nat}(ok:iR n L)(n1:n≤1000):∀q∈Am L zs,0≤q.2∧q.2<1000:=fun q hq=>by have:=ok q (fY.mp hq).1;lia
theorem Rb(h:L.Pairwise lexLt):(Am L zs).Pairwise lexLt:=h.filter _
theorem Dt{H:Hp}{l:Addr}{us:List V}{Q:VK}(el:H l=some (.lst us))(hM:aX H us M)(YW:M.length<1000)(b:∀q∈M,0≤q.2∧q.2<1000)
  (k:∀(l':Addr) (ws:List V) (N:aw) (H':Hp),ak H H'→H l'=none→H' l'=some (.lst ws)→aX H' ws N→N.Perm M→N.Pairwise m6→Q (.ref l') H'):Hj [.ref l] H Q:=by
 have lX:=hM.1;refine ⟨l,us,fun i=>(M.getD i (0,0)).1,fun i=>(M.getD i (0,0)).2,rfl,el,by lia,fun i v hv=>?_,fun p l' hp hu m7=>?_⟩
 ·have hi:i<M.length:=by rw [←lX];exact (bW.mp hv).1
  obtain ⟨c,rfl,ec⟩:=hM.2 i v M[i] hv (by simp [hi])
  dsimp only;rw [getD_at hi];exact ⟨⟨c,rfl,ec⟩,b _ (cy hi)⟩
 ·rw [lX] at hp hu
  obtain ⟨pm,pw⟩:=Q8 hp hu;have hP:aX H (p.toList.map fun i=>us.getD i .aN) (p.toList.map fun i=>M.getD i (0,0)):=hM.pick _ fun i hi=>by have:p.toList.Perm (List.range M.length):=pQ.mp hp;exact cR.mp (this.mem_iff.mp hi)
  exact k l' _ _ _ (aO m7) m7 au (hP.mono (aO m7)) pm pw
theorem Ij(nd:zs.Nodup)(h2:2≤zs.length)(b:∀z∈zs,-1≤z∧z<1000):∀q∈gr zs,0≤q.2∧q.2<1000:=fun q hq=>by obtain ⟨x,y,hx,hy,rfl,ne⟩:=Q7 hq;have h1:=b x hx;have h3:=b y hy;have:=ne nd h2;dsimp only;lia
variable {k:Nat}
theorem Rc(h:k<zs.length):(gr zs).take (k+1)=(gr zs).take k++[m5 (zs.getD k 0,zs.getD ((k+1) % zs.length) 0)]:=by
 rw [j8,bS (by rw [An];exact h),Q6]
 unfold gr;simp
theorem Ik(h:k<zs.length):fQ (zs.map V.int) (k:Int)=some (.int (zs.getD k 0)):=by refine lA ?_;rw [bo,bS h,cG,bS h];rfl
end My
namespace L2
open PySem PySem.Spec PyProof.Rows My
theorem Rf{wi:TI}{ρ:St→St}{tt:TT}{te:TE}{σ:St}{H:Hp}{Q:VK}{Z:aw}(pr:Int×Int→Bool)(gm:∀R:It→Hp→Prop,(∀J H1,ak H H1→Ih J Z H1→R J H1)→wi σ H R)(hn:Z.length<sizeLine)
  (test:∀z∈Z,∀(T:Addr) (Hc:Hp) (R:Bool→Hp→Prop),ak H Hc→Hc T=some (.tup [.int z.1,.int z.2])→R (pr z) Hc→tt (some (.ref T)::ρ σ) Hc R)
  (step:∀(T:Addr) (Hc:Hp) (R:VK),R (.ref T) Hc→te (some (.ref T)::ρ σ) Hc R)
  (fin:∀D us Hc,H D=none→ak H Hc→aX Hc us (Z.filter pr)→Hc D=some (.lst us)→Q (.ref D) Hc):gh wi ρ tt te σ H Q:=by
 refine gm _ fun J H1 s1 js=>?_;intro D nD;refine ⟨fun i m us Hc=>m=Z.length-i∧i≤Z.length∧Hc D=some (.lst us)∧ak H1 Hc∧us.length≤i∧aX Hc us ((Z.take i).filter pr),⟨_,rfl,bU _,au,eG (ak.refl H1) nD,ay _,aX.nil _⟩,?_⟩;rintro i m us Hc ⟨rfl,hi,eD,sH,lu,hL⟩;refine ⟨eD,?_⟩;by_cases aZ:i<Z.length
 ·refine .inr ⟨js.go i Hc sH aZ,fun v H' hy=>?_⟩
  obtain ⟨s',k⟩:=js.d8 i Hc v H' sH hy;obtain ⟨T,rfl,eT⟩:=k Z[i] (by simp [aZ])
  have tk:Z.take (i+1)=Z.take i++[Z[i]]:=by rw [j8,bS aZ];rfl
  have mz:Z[i]∈Z:=cy aZ;generalize Z[i]=z at eT tk mz;refine test z mz T _ _ (s1.trans (sH.trans s')) eT ?_;cases e:pr z with
  | true=>
   rw [ae rfl];refine step T _ _ ?_;have e3:=s' _ _ eD;refine ⟨e3,by lia,Z.length-(i+1),by lia,rfl,aZ,au,eG (sH.trans s') nD,by simp;lia,?_⟩
   rw [tk,kS,show [z].filter pr=[z] by simp [e]]
   exact ((hL.mono s').push eT).bK e3 fun b o nb e=>by rw [aG nb];exact e
  | false=>
   rw [aa (by simp)]
   refine ⟨Z.length-(i+1),by lia,rfl,aZ,s' _ _ eD,sH.trans s',by lia,?_⟩
   rw [tk,kS,show [z].filter pr=[] by simp [e],j4]
   exact hL.mono s'
 ·have e:i=Z.length:=by lia
  subst e;rw [gu] at hL;exact .inl ⟨js.stop _ Hc sH (ay _),fin D us Hc (none_of s1 nD) (s1.trans sH) hL eD⟩
end L2
namespace My
open PySem L2
variable {xs:List V}
theorem Rg{v:V}(h1:1≤xs.length)(h:xs[xs.length-1]?=some v):fQ xs (-1)=some v:=by
 unfold fQ;have e:jI xs.length (-1)=some (xs.length-1):=by
  unfold jI
  split
  ·rename_i hh;lia
  ·split
   ·congr 1
    lia
   ·rename_i h2 h3
    lia
 rw [e];exact h
inductive Wk (bG:Nat→Nat→Prop) (bF:Nat→Prop) (s:Nat):Nat→Prop where
 | one {b:Nat}:bG s b→Wk bG bF s b
 | more {a b:Nat}:Wk bG bF s a→bF a→bG a b→Wk bG bF s b
section
variable {bG:Nat→Nat→Prop} {bF xF:Nat→Prop} {s t:Nat}
theorem Rh(t:Nat):oW bG bF s t↔t=s∨Wk bG bF s t:=by
 constructor
 ·intro h
  induction h with
  | start=>exact .inl rfl
  | step _ o ab ih=>
   rcases ih with rfl | w;·exact .inr (.one ab)
   ·rcases o with rfl | o
    ·exact .inr (.one ab)
    ·exact .inr (.more w o ab)
 ·rintro (rfl | h)
  ·exact .start
  ·induction h with
   | one ab=>exact .step .start (.inl rfl) ab
   | more _ o ab ih=>exact .step ih (.inr o) ab
theorem Wk.mono(h:Wk bG bF s t)(k:∀x,bF x→xF x):Wk bG xF s t:=by
 induction h with
 | one ab=>exact .one ab
 | more _ o ab ih=>exact .more ih (k _ o) ab
theorem Wk.imp{Il:Nat→Nat→Prop}(h:Wk bG bF s t)(k:∀a b,bG a b→Il a b):Wk Il bF s t:=by
 induction h with
 | one ab=>exact .one (k _ _ ab)
 | more _ o ab ih=>exact .more ih o (k _ _ ab)
theorem Wk.cons{a:Nat}(ab:bG s a)(ta:bF a)(h:Wk bG bF a t):Wk bG bF s t:=by
 induction h with
 | one e=>exact .more (.one ab) ta e
 | more _ o e ih=>exact .more ih o e
theorem Wk.symm(sy:∀a b,bG a b→bG b a)(h:Wk bG bF s t):Wk bG bF t s:=by
 induction h with
 | one ab=>exact .one (sy _ _ ab)
 | more _ o ab ih=>exact ih.cons (sy _ _ ab) o
theorem Wk.trans{p:Nat}(h:Wk bG bF s p)(tp:bF p)(h':Wk bG bF p t):Wk bG bF s t:=by
 induction h' with
 | one ab=>exact .more h tp ab
 | more _ o ab ih=>exact .more ih o ab
theorem Wk.step{p:Nat}(k:∀x,xF x↔bF x∨x=p):Wk bG xF s t↔Wk bG bF s t∨(Wk bG bF s p∧Wk bG bF p t):=by
 constructor
 ·intro h
  induction h with
  | one ab=>exact .inl (.one ab)
  | more _ o ab ih=>
   rcases (k _).mp o with o | rfl
   ·rcases ih with ih | ⟨i1,i2⟩
    ·exact .inl (.more ih o ab)
    ·exact .inr ⟨i1,.more i2 o ab⟩
   ·rcases ih with ih | ⟨i1,_⟩
    ·exact .inr ⟨ih,.one ab⟩
    ·exact .inr ⟨i1,.one ab⟩
 ·have m:∀x,bF x→xF x:=fun x h=>(k x).mpr (.inl h)
  rintro (h | ⟨h,h'⟩);·exact h.mono m
  ·exact (h.mono m).trans ((k p).mpr (.inr rfl)) (h'.mono m)
end
def aL(n:Nat)(L:aw)(a b:Nat):Prop:=a<n∧b<n∧(((a:Int),(b:Int))∈L∨((b:Int),(a:Int))∈L)
variable {n:Nat} {L:aw}
theorem g_(a b:Nat)(h:aL n L a b):aL n L b a:=⟨h.2.1,h.1,h.2.2.symm⟩
def qH(L:aw):Prop:=∀p∈L,p.1≠p.2
def eL(n:Nat)(o:List Nat)(k x:Nat):Prop:=x<n∧o.idxOf x<k
def qI(n:Nat)(L:aw)(o:List Nat)(k:Nat)(f:Nat→List Nat):Prop:=∀a b:Nat,a<n→b<n→k≤o.idxOf a→k≤o.idxOf b→(b∈f a↔a≠b∧Wk (aL n L) (eL n o k) a b)
variable {o:List Nat}
theorem qI.start{f:Nat→List Nat}(nb:fb n L f)(ns:qH L):qI n L o 0 f:=fun a b ha hb _ _=>by
 rw [nb a b ha];constructor
 ·intro h
  refine ⟨fun e=>?_,.one ⟨ha,hb,h⟩⟩;subst e;rcases h with h | h <;> exact ns _ h rfl
 ·rintro ⟨_,h⟩
  cases h with
  | one ab=>exact ab.2.2
  | more _ o _=>exact absurd o.2 (nX _)
theorem qI.step{n:Nat}{L:aw}{o:List Nat}(ho:o.Perm (List.range n)){k p:Nat}{f g:Nat→List Nat}{ms:List Nat}(h:qI n L o k f)(hp:p<n)(ip:o.idxOf p=k)(hm:∀q,q∈ms↔q∈f p∧k<o.idxOf q)(ml:∀q∈ms,q<n)
  (con:∀a b:Nat,a<n→(b∈g a↔b∈f a∨(a≠b∧a∈ms∧b∈ms))):qI n L o (k+1) g:=fun a b ha hb ka kb=>by
 have th:∀x,eL n o (k+1) x↔eL n o k x∨x=p:=fun x=>by
  unfold eL;constructor
  ·rintro ⟨h1,h2⟩
   by_cases e:o.idxOf x=k
   ·right
    by_cases z:x=p;·exact z
    ·exact absurd (e.trans ip.symm) (jU ho h1 hp z)
   ·exact .inl ⟨h1,by lia⟩
  ·rintro (⟨h1,h2⟩ | rfl)
   ·exact ⟨h1,by lia⟩
   ·exact ⟨hp,by lia⟩
 have ap:a≠p:=fun e=>by subst e;lia
 have bp:b≠p:=fun e=>by subst e;lia
 have ea:=h p a hp ha (by lia) (by lia)
 have eb:=h p b hp hb (by lia) (by lia)
 rw [con a b ha,h a b ha hb (by lia) (by lia),hm a,hm b,ea,eb,Wk.step th]
 constructor
 ·rintro (⟨h1,h2⟩ | ⟨h1,⟨⟨_,h2⟩,_⟩,⟨_,h3⟩,_⟩)
  ·exact ⟨h1,.inl h2⟩
  ·exact ⟨h1,.inr ⟨h2.symm g_,h3⟩⟩
 ·rintro ⟨h1,h2 | ⟨h2,h3⟩⟩
  ·exact .inl ⟨h1,h2⟩
  ·exact .inr ⟨h1,⟨⟨Ne.symm ap,h2.symm g_⟩,by lia⟩,⟨Ne.symm bp,h3⟩,by lia⟩
def xG(n:Nat)(L:aw)(o:List Nat)(p:Nat)(ms:List Nat):Prop:=∀q,q∈ms↔q<n∧o.idxOf p<o.idxOf q∧Wk (aL n L) (eL n o (o.idxOf p)) p q
def Ri(N:Addr):Sp:=fun vs H Q E=>∃(t a:Addr) (n:Nat) (L:aw) (zs:List Int),vs=[.ref t,.ref a]∧cQ H t n L∧iR n L∧qH L∧n≤60∧H a=some (.lst (zs.map V.int))∧zs.length<64 ∧
 (¬kF zs n→∀H',ak H H'→E (.ref N) none H') ∧
 ∀o:List Nat,zs=o.map iN→o.Perm (List.range n)→∀(H':Hp) (D:Addr) (rs:Nat→Addr) (g:Nat→List Nat),ak H H'→H D=none→(∀p,p<n→H (rs p)=none)→HW H' D n rs g→(∀p,p<n→oU n o p (g p)∧xG n L o p (g p))→Q (.ref D) H'
variable {p q:Nat}
theorem Ao{p' q':Nat}(h:da p q=da p' q'):(p=p'∧q=q')∨(p=q'∧q=p'):=by
 unfold da at h;have h1:=eE Prod.fst h;have h2:=eE Prod.snd h;dsimp only at h1 h2
 split at h1 <;> split at h1 <;> split at h2 <;> split at h2 <;> lia
def dQ(n:Nat)(L:aw)(o:List Nat)(M:aw):Prop:=M.Pairwise lexLt∧∀z,z∈M↔∃p q:Nat,p<n∧q<n∧o.idxOf p<o.idxOf q∧Wk (aL n L) (eL n o (o.idxOf p)) p q∧z=da p q
variable {M N:aw}
theorem dQ.uniq(h:dQ n L o M)(h':dQ n L o N):M=N:=Hs h.1 h'.1 fun z=>by rw [h.2 z,h'.2 z]
theorem dQ.lt(h:dQ n L o M):∀z∈M,0≤z.1∧z.1<z.2∧z.2<(n:Int):=fun z hz=>by
 obtain ⟨p,q,hp,hq,hi,_,rfl⟩:=(h.2 z).mp hz;have ne:p≠q:=fun e=>by subst e;lia
 unfold da;dsimp only
 split <;> split <;> lia
theorem Im(h:N.Pairwise m6)(nd:N.Nodup)(b:∀q∈N,0≤q.2∧q.2<1000):N.Pairwise lexLt:=by
 have:=List.Pairwise.and h nd;refine yZ (fun{x y} hx hy Rj=>?_) this;obtain ⟨h1,h2⟩:=Rj;have b1:=b x hx;have b2:=b y hy;obtain ⟨x1,x2⟩:=x;obtain ⟨y1,y2⟩:=y;unfold m6 at h1;unfold lexLt;dsimp only at *;by_cases z:x1<y1;·exact .inl z
 ·right
  have e1:x1=y1:=by lia
  subst e1;refine ⟨rfl,?_⟩;by_cases y:x2=y2
  ·subst y
   exact absurd rfl h2
  ·lia
variable {g:Nat→List Nat}
theorem Rk(h:o.Perm (List.range n))(n9:n≤30)(k:∀p,p<n→oU n o p (g p)):((List.range n).map fun p=>(g p).length).sum≤435:=by
 have a:=H_ (l:=List.range n) (f:=fun p=>(g p).length) (g:=fun p=>n-1-o.idxOf p) fun p hp=>HZ h (k p (cR.mp hp));have b:((List.range n).map fun p=>n-1-o.idxOf p).sum=(o.map fun p=>n-1-o.idxOf p).sum:=((h.map _).symm).sum_nat;have c:(o.map fun p=>n-1-o.idxOf p)=(List.range n).map fun k=>n-1-k:=by
  have nd:=oR h;refine iY (by simp [mZ h]) fun i h1 h2=>?_
  rw [i4,i4,pR,tT nd (by simpa using h1)]
 have d:∀n:Nat,n≤30→((List.range n).map fun k=>n-1-k).sum≤435:=by decide
 rw [c] at b;have:=d n n9;lia
structure Ap (H:Hp) (g:Nat→List Nat) (k:Nat) (xs:List V) (M:aw):Prop where
 at':aX H xs M
 len:M.length=((List.range k).map fun p=>(g p).length).sum
 mem:∀z,z∈M↔∃p q:Nat,p<k∧q∈g p∧z=da p q
 nd:M.Nodup
variable {H:Hp} {k:Nat} {ys:List V}
theorem Ap.more{H':Hp}(h:Ap H g k xs M)(s:aX H xs M→aX H' xs M)(hk:k<n)(hg:∀p,p<n→oU n o p (g p))(hy:aX H' ys ((g k).map (da k))):Ap H' g (k+1) (xs++ys) (M++(g k).map (da k)):=by
 have gk:=hg k hk;refine ⟨(s h.at').app hy,by rw [du,h.len,aH,sG,fi,List.sum_append];simp,fun z=>?_,?_⟩
 ·rw [cY,h.mem,cj]
  constructor
  ·rintro (⟨p,q,h1,h2,h3⟩ | ⟨q,h1,rfl⟩)
   ·exact ⟨p,q,by lia,h2,h3⟩
   ·exact ⟨k,q,by lia,h1,rfl⟩
  ·rintro ⟨p,q,h1,h2,rfl⟩
   by_cases e:p=k
   ·subst e
    exact .inr ⟨q,h2,rfl⟩
   ·exact .inl ⟨p,q,by lia,h2,rfl⟩
 ·refine ic.mpr ⟨h.nd,?_,fun a ha b hb e=>?_⟩
  ·refine xw (List.Pairwise.imp (fun h=>cx h) gk.up) fun q q' hq zG e=>?_
   rcases Ao e with ⟨_,e⟩ | ⟨e1,e2⟩;·exact e
   ·lia
  ·subst e
   obtain ⟨p,q,h1,h2,rfl⟩:=(h.mem a).mp ha;obtain ⟨q',zG,e⟩:=cj.mp hb;rcases Ao e with ⟨e1,e2⟩ | ⟨e1,e2⟩;·lia
   ·have l1:=(hg p (by lia)).la q h2
    have l2:=gk.la q' zG;subst e1;subst e2;lia
def Rm(N:Addr):Sp:=fun vs H Q E=>∃(t a:Addr) (n:Nat) (L:aw) (zs:List Int),vs=[.ref t,.ref a]∧cQ H t n L∧iR n L∧qH L∧n≤30∧H a=some (.lst (zs.map V.int))∧zs.length<64 ∧
 (¬kF zs n→∀H',ak H H'→E (.ref N) none H') ∧
 ∀o:List Nat,zs=o.map iN→o.Perm (List.range n)→∀(H':Hp) (t':Addr) (M:aw),ak H H'→H t'=none→cQ H' t' n M→dQ n L o M→M.length≤435→Q (.ref t') H'
def Rn:R2:=fun x y H Q=>∃(a b:Addr) (n:Nat) (L M:aw),x=.ref a∧y=.ref b∧cQ H a n L∧cQ H b n M∧Q (.bl (decide (L=M))) H
variable {X:Cx}
theorem Ro{pins:aQ}{σ:St}{s:Shared}(I:L2.Inv X pins σ H s){A:Around}(hu:A.units<cLine){us vs:List Value}(k1:aX H xs L)(k2:aX H ys M)(r1:Vals xs us)(r2:Vals ys vs):∀j (z1:j<us.toArray.size) (z2:j<vs.toArray.size),SeqAt.EqAt A s us.toArray[j] vs.toArray[j] (decide (L.getD j (0,0)=M.getD j (0,0))):=fun j z1 z2=>by
 have l1:=r1.length;have l2:=r2.length;have m1:=k1.1;have m2:=k2.1;have qw:j<us.length:=by simpa using z1
 have CD:j<vs.length:=by simpa using z2
 obtain ⟨p,ep,hp⟩:=k1.2 j xs[j] (L.getD j (0,0)) (by simp) (by simp [cG,show j<L.length by lia])
 obtain ⟨p',iz,lK⟩:=k2.2 j ys[j] (M.getD j (0,0)) (by simp) (by simp [cG,show j<M.length by lia])
 obtain ⟨x',ke,rx⟩:=r1.get (i:=j) (x:=xs[j]) (by simp)
 obtain ⟨y',mR,ry⟩:=r2.get (i:=j) (x:=ys[j]) (by simp)
 have e1:us.toArray[j]=x':=by simpa using (bW.mp ke).2
 have e2:vs.toArray[j]=y':=by simpa using (bW.mp mR).2
 rw [e1,e2];rw [ep] at rx;rw [iz] at ry;cases rx;cases ry;exact Ig I hu hp lK
theorem Rp:((List.range (min L.length M.length)).all (fun j=>decide (L.getD j (0,0)=M.getD j (0,0))) && L.length == M.length)=decide (L=M):=by
 by_cases e:L=M
 ·subst e
  simp
 ·rw [bH e,yJ]
  intro h;rw [vR,nY] at h;obtain ⟨h1,h2⟩:=h;have hl:L.length=M.length:=by simpa using h2
  refine e (iY hl fun j g1 g2=>?_);have:=h1 j (cR.mpr (by lia))
  simpa [cG,g1,g2] using this
theorem Rq(hu:X.A.units+64<cLine):cz X (compareOp .Eq) Rn:=by
 intro pins s σ H x y v u Q I rx ry h;obtain ⟨a,b,n,L,M,rfl,rfl,⟨la,ua,Rr,Io,k1⟩,⟨lb,ub,Rt,Du,k2⟩,q⟩:=h;cases rx;cases ry;obtain ⟨us,r1,t1,_⟩:=I.tuple (.of Rr);obtain ⟨vs,r2,t2,_⟩:=I.tuple (.of Rt);obtain ⟨a1,a2,rfl,Dn,Dp⟩:=vals2 r1;obtain ⟨b1,b2,rfl,Dq,Dr⟩:=vals2 r2;cases Dp;cases Dr;have inner:SeqAt.EqAt X.A.in1 s (.ref la) (.ref lb) (decide (L=M)):=by
  by_cases pq:la=lb
  ·subst pq
   rw [Io] at Du;cases Du;have:L=M:=by
    have m1:=k1.1;have m2:=k2.1;refine iY (by lia) fun j g1 g2=>?_
    obtain ⟨p,ep,hp⟩:=k1.2 j (ua[j]'(by lia)) L[j] (by simp) (by simp [g1])
    obtain ⟨p',iz,lK⟩:=k2.2 j (ua[j]'(by lia)) M[j] (by simp) (by simp [g2])
    rw [ep] at iz;cases iz;rw [hp] at lK;simp only [wa,HO.tup.injEq,List.cons.injEq,V.int.injEq,and_true] at lK;exact Prod.ext lK.1 lK.2
   rw [bA this];exact SeqAt.EqAt.same _
  ·obtain ⟨us,r1,t1,_⟩:=I.tuple (.of Io)
   obtain ⟨vs,r2,t2,_⟩:=I.tuple (.of Du);have z:=SeqAt.RcAt.tuples (A:=X.A.in1) t1 t2 (by rw [nZ];lia) (Ro I (by rw [nZ,nZ];lia) k1 k2 r1 r2)
   have e1:us.toArray.size=L.length:=by rw [b_,←r1.length];exact k1.1
   have e2:vs.toArray.size=M.length:=by rw [b_,←r2.length];exact k2.1
   rw [e1,e2,Rp] at z;exact sI pq z
 refine SeqAt.eq_tupleAt (e:=fun j=>if j=0 then d9 (.int (n:Int)) (.int (n:Int)) else decide (L=M)) t1 t2 (by lia) (fun j z1 z2=>?_) ⟨.bl (decide (L=M)),H,I,?_,q⟩
 ·have:j<2:=z1
  match j with
  | 0=>exact oA Dn Dq rfl rfl
  | 1=>exact inner
 ·show RelV _ _
  have e:((List.range 2).all (fun j=>if j=0 then d9 (.int (n:Int)) (.int (n:Int)) else decide (L=M)) && true)=decide (L=M):=by simp [sG,d9]
  exact eE Value.bool e.symm▸rfl
def Ru(N:Addr):Sp:=fun vs H Q E=>∃(t a:Addr) (n:Nat) (L:aw) (zs:List Int),vs=[.ref t,.ref a]∧cQ H t n L∧iR n L∧qH L∧n≤30∧H a=some (.lst (zs.map V.int))∧zs.length<64 ∧
 (¬kF zs n→∀H',ak H H'→E (.ref N) none H') ∧
 ∀o:List Nat,zs=o.map iN→o.Perm (List.range n)→∀(H':Hp) (M:aw),ak H H'→dQ n L o M→Q (.bl (decide (M=L))) H'
structure fV (n:Nat) (L:aw) (o:List Nat) (k j:Nat) (M:aw):Prop where
 mem:∀z,z∈M↔∃p q:Nat,p<n∧q<n∧o.idxOf p<o.idxOf q∧Wk (aL n L) (eL n o (o.idxOf p)) p q∧z=da p q∧(o.idxOf p<k∨(o.idxOf p=k∧o.idxOf q<k+1+j))
 nd:M.Nodup
theorem fV.start(n:Nat)(L:aw)(o:List Nat):fV n L o 0 0 []:=⟨fun z=>⟨(fun h=>by cases h),fun⟨p,q,_,_,h,_,_,h'⟩=>by lia⟩,iZ⟩
variable {j:Nat}
theorem fV.row(h:fV n L o k j M)(ho:o.Perm (List.range n))(hj:n≤k+1+j):fV n L o (k+1) 0 M:=⟨fun z=>by
 rw [h.mem];constructor
 ·rintro ⟨p,q,h1,h2,h3,h4,h5,h6⟩
  exact ⟨p,q,h1,h2,h3,h4,h5,.inl (by lia)⟩
 ·rintro ⟨p,q,h1,h2,h3,h4,h5,h6⟩
  have:=(oS ((fu ho).mpr h2)).1;rw [mZ ho] at this;refine ⟨p,q,h1,h2,h3,h4,h5,?_⟩;by_cases e:o.idxOf p<k;·exact .inl e
  ·exact .inr ⟨by lia,by lia⟩,h.nd⟩
theorem fV.skip(h:fV n L o k j M)(ho:o.Perm (List.range n))(hp:p<n)(hq:q<n)(ip:o.idxOf p=k)(iq:o.idxOf q=k+1+j)(nw:¬Wk (aL n L) (eL n o k) p q):fV n L o k (j+1) M:=⟨fun z=>by
 rw [h.mem];constructor
 ·rintro ⟨p,q,h1,h2,h3,h4,h5,h6⟩
  exact ⟨p,q,h1,h2,h3,h4,h5,by lia⟩
 ·rintro ⟨p',q',h1,h2,h3,h4,h5,h6⟩
  refine ⟨p',q',h1,h2,h3,h4,h5,?_⟩;rcases h6 with h6 | ⟨h6,h7⟩;·exact .inl h6
  ·refine .inr ⟨h6,?_⟩
   by_cases e:o.idxOf q'=k+1+j
   ·have e1:p'=p:=by
     by_cases z:p'=p;·exact z
     ·exact absurd (h6.trans ip.symm) (jU ho h1 hp z)
    have e2:q'=q:=by
     by_cases z:q'=q;·exact z
     ·exact absurd (e.trans iq.symm) (jU ho h2 hq z)
    subst e1;subst e2;rw [ip] at h4;exact absurd h4 nw
   ·lia,h.nd⟩
theorem fV.put(h:fV n L o k j M)(ho:o.Perm (List.range n))(hp:p<n)(hq:q<n)(ip:o.idxOf p=k)(iq:o.idxOf q=k+1+j)(w:Wk (aL n L) (eL n o k) p q):fV n L o k (j+1) (M++[da p q]):=by
 refine ⟨fun z=>?_,ic.mpr ⟨h.nd,by simp,fun a ha b hb e=>?_⟩⟩
 ·rw [cY,bI,h.mem]
  constructor
  ·rintro (⟨p,q,h1,h2,h3,h4,h5,h6⟩ | rfl)
   ·exact ⟨p,q,h1,h2,h3,h4,h5,by lia⟩
   ·exact ⟨p,q,hp,hq,by lia,by rw [ip];exact w,rfl,.inr ⟨ip,by lia⟩⟩
  ·rintro ⟨p',q',h1,h2,h3,h4,h5,h6⟩
   by_cases e:o.idxOf p'=k∧o.idxOf q'=k+1+j
   ·right
    have e1:p'=p:=by
     by_cases z:p'=p;·exact z
     ·exact absurd (e.1.trans ip.symm) (jU ho h1 hp z)
    have e2:q'=q:=by
     by_cases z:q'=q;·exact z
     ·exact absurd (e.2.trans iq.symm) (jU ho h2 hq z)
    rw [h5,e1,e2]
   ·exact .inl ⟨p',q',h1,h2,h3,h4,h5,by lia⟩
 ·subst e
  rw [bI] at hb;obtain ⟨p',q',h1,h2,h3,h4,h5,h6⟩:=(h.mem a).mp ha;rw [hb] at h5;rcases Ao h5 with ⟨rfl,rfl⟩ | ⟨rfl,rfl⟩;·lia
  ·lia
theorem fV.done(h:fV n L o n 0 M)(ho:o.Perm (List.range n))(p:N.Perm M)(so:N.Pairwise m6)(n1:n≤1000):dQ n L o N:=by
 have mem:∀z,z∈N↔∃p q:Nat,p<n∧q<n∧o.idxOf p<o.idxOf q∧Wk (aL n L) (eL n o (o.idxOf p)) p q∧z=da p q:=fun z=>by
  rw [p.mem_iff,h.mem];constructor
  ·rintro ⟨p,q,h1,h2,h3,h4,h5,h6⟩
   exact ⟨p,q,h1,h2,h3,h4,h5⟩
  ·rintro ⟨p,q,h1,h2,h3,h4,h5⟩
   have:=(oS ((fu ho).mpr h1)).1;rw [mZ ho] at this;exact ⟨p,q,h1,h2,h3,h4,h5,.inl this⟩
 refine ⟨Im so (p.nodup_iff.mpr h.nd) fun z hz=>?_,mem⟩;obtain ⟨p,q,h1,h2,_,_,rfl⟩:=(mem z).mp hz;have:=Di h1 h2;lia
theorem fV.bd(h:fV n L o k j M)(n1:n≤1000):∀z∈M,0≤z.2∧z.2<1000:=fun z hz=>by obtain ⟨p,q,h1,h2,_,_,rfl,_⟩:=(h.mem z).mp hz;have:=Di h1 h2;lia
theorem Rv(ho:o.Perm (List.range n))(nb:fb n L g)(en:iR n L)(hk:k≤n)(ne:q≠p):oW (oX n g) (·∈o.take k) p q↔Wk (aL n L) (eL n o k) p q:=by
 have ad:∀a b,oX n g a b↔aL n L a b:=fun a b=>by
  unfold oX aL;constructor
  ·rintro ⟨h1,h2⟩
   have h3:=(nb a b h1).mp h2;refine ⟨h1,?_,h3⟩;rcases h3 with e | e
   ·have:=en _ e
    lia
   ·have:=en _ e
    lia
  ·rintro ⟨h1,_,h3⟩
   exact ⟨h1,(nb a b h1).mpr h3⟩
 have th:∀x,x∈o.take k↔eL n o k x:=fun x=>by
  unfold eL;have nd:=oR ho;constructor
  ·intro h
   obtain ⟨i,hi,e⟩:=wb.mp h;have bw:i<o.length:=by lia
   refine ⟨(fu ho).mp (List.mem_of_mem_take h),?_⟩;rw [←e,tT nd bw];lia
  ·rintro ⟨h1,h2⟩
   obtain ⟨fS,e⟩:=oS ((fu ho).mpr h1);rw [wb];exact ⟨o.idxOf x,by lia,e⟩
 rw [Rh];constructor
 ·rintro (e | h)
  ·exact absurd e ne
  ·exact (h.imp fun a b=>(ad a b).mp).mono fun x=>(th x).mp
 ·intro h
  exact .inr ((h.imp fun a b=>(ad a b).mpr).mono fun x=>(th x).mpr)
end My
namespace L2
open PySem PySem.Spec PyProof.Rows
section
variable {X:Cx} {a b:Expr} {rest:List Expr} {pos:Pos} {ta tb:TE}
def Rw:V→List V→Hp→VK→Prop:=fun x vs H Q=>∃(l:Addr) (zs:List Int) (j:Nat) (z:Int),x=.ref l∧vs=[.int z]∧H l=some (.lst (zs.map V.int))∧zs[j]?=some z∧(∀m,m<j→zs[m]?≠some z)∧Q .aN (upd H l (.lst ((zs.map V.int).eraseIdx j)))
theorem Ip:wQ X "list.remove" Rw:=by
 intro pins s σ H x vs v us Q I rx rv h;obtain ⟨l,zs,j,z,rfl,rfl,hH,hj,Rx,q⟩:=h;cases rx;obtain ⟨u,rfl,ru⟩:=rv.one;obtain ⟨t,rfl⟩:=ru;obtain ⟨sz,its,n,r,hl,e⟩:=I.mK hH;have YX:j<zs.length:=(bW.mp hj).1;rw [aH] at hl sz;have at':∀m (hm:m<its.toArray.size),∃t',its.toArray[m]=.int (zs.getD m 0) t':=fun m hm=>by
  have d_:m<zs.length:=by simp at hm;lia
  obtain ⟨w,hw,f_⟩:=r.get (i:=m) (x:=.int (zs.getD m 0)) (by rw [bo,cG,bS d_];rfl)
  obtain ⟨t',rfl⟩:=f_;exact ⟨t',by simpa using (bW.mp hw).2⟩
 have zj:zs.getD j 0=z:=by rw [cG,hj];rfl
 refine pK F.slot_list_remove ⟨_,e,rfl⟩ F.entry_list_remove (F.args_list_remove_2 _ _) (MeetsSeq.list_remove l its.toArray n (.int z t) (fun v=>numOf v == z) (fun y hy=>?_) j (by rw [b_];lia) ?_ (fun m hm Ry=>?_) (by rw [b_];lia)) ⟨e,?_⟩
 ·obtain ⟨m,hm,rfl⟩:=Array.getElem_of_mem hy
  obtain ⟨t',e'⟩:=at' m hm;rw [e'];exact MeetsSeq.EqGives.int _ _ _ _
 ·obtain ⟨t',e'⟩:=at' j (by rw [b_];lia)
  rw [e',zj];exact yL z
 ·obtain ⟨t',e'⟩:=at' m hm
  rw [e'];have d_:m<zs.length:=by simp at hm;lia
  have:=Rx m Ry;rw [bS d_] at this;have ne:zs.getD m 0≠z:=fun q=>this (by rw [←q,cG,bS d_];rfl)
  show (zs.getD m 0 == z)=false;simpa using ne
 ·refine ⟨.aN,_,I.wR (its':=its.eraseIdx j) hH e ?_ (r.eraseIdx j) ?_,rfl,q⟩
  ·show its.toArray.eraseIdxIfInBounds j=(its.eraseIdx j).toArray
   rw [BI]
  ·have:=Cg (zs.map V.int) j
   rw [aH] at this;lia
end
end L2
namespace My
open PySem L2
theorem Rz{X:Cx}{K:aJ}(hu:X.A.units+64<cLine)(hk:X.K=K:=by rfl):cz X (compareOp .NotEq) (Hl K):=by subst hk;exact Ac hu
theorem Dv:∀{zs:List Nat} {j m:Nat},m<zs.idxOf j→zs[m]?≠some j
 | [],_,_,h=>by simp at h
 | z::zs,j,m,h=>by
  by_cases e:z=j
  ·subst e
   simp [wc] at h
  ·rw [List.idxOf_cons,show (z == j)=false by simpa using e] at h
   dsimp only [cond_false] at h;cases m with
   | zero=>simpa using e
   | succ m=>rw [List.getElem?_cons_succ];exact Dv (by lia)
theorem Dw{α β:Type}(f:α→β):∀(l:List α) (i:Nat),(l.map f).eraseIdx i=(l.eraseIdx i).map f
 | [],_=>rfl
 | _::_,0=>rfl
 | x::l,i+1=>by show f x::(l.map f).eraseIdx i=f x::(l.eraseIdx i).map f;rw [Dw f l i]
end My
namespace L2
open PySem PySem.Spec PyProof.Rows
section
variable {prog:Program} {w:World} {A:Around} {E:aR} {s:Shared}
end
section
variable {prog:Program} {w:World} {A:Around} {E:aR} {s:Shared}
end
section
variable {X:Cx}
end
section
variable {prog:Program} {w:World} {A:Around} {E:aR} {s:Shared}
end
end L2
namespace My
open PySem L2
end My
namespace L2
open PySem PySem.Spec PyProof.Rows
end L2
namespace My
open PySem L2
end My
namespace L2
open PySem PySem.Spec PyProof.Rows
section
variable {X:Cx}
end
end L2
namespace My
open PySem L2
def rL(M:aw)(a b:Nat):Bool:=decide (((a:Int),(b:Int))∈M) || decide (((b:Int),(a:Int))∈M)
variable {M:aw} {a b:Nat}
theorem m8:rL M a b=true↔((a:Int),(b:Int))∈M∨((b:Int),(a:Int))∈M:=by unfold rL;rw [Bool.or_eq_true,i5,i5]
variable {n:Nat} {L:aw} {o:List Nat}
theorem RA(f:dQ n L o M)(h:aL n M a b){k:Nat}(hk:o.idxOf a≤k∨o.idxOf b≤k):Wk (aL n L) (eL n o k) a b:=by
 have go:∀{a b:Nat},((a:Int),(b:Int))∈M→(o.idxOf a≤k∨o.idxOf b≤k)→Wk (aL n L) (eL n o k) a b:=fun{a b} hm hk=>by
  obtain ⟨p,q,hp,hq,pq,w,e⟩:=(f.2 _).mp hm;have e:da a b=da p q:=by rw [←e];have:=f.lt _ hm;unfold da;rw [aa (by lia),ae (by lia)]
  rcases Ao e with ⟨rfl,rfl⟩ | ⟨rfl,rfl⟩;·exact w.mono fun x hx=>⟨hx.1,by have:=hx.2;lia⟩
  ·exact (w.symm g_).mono fun x hx=>⟨hx.1,by have:=hx.2;lia⟩
 rcases h.2.2 with h | h;·exact go h hk
 ·exact (go h hk.symm).symm g_
theorem Iq(f:dQ n L o M)(ha:a<n)(hb:b<n)(ab:o.idxOf a<o.idxOf b):rL M a b=true↔Wk (aL n L) (eL n o (o.idxOf a)) a b:=by
 constructor
 ·intro h
  exact RA f ⟨ha,hb,m8.mp h⟩ (.inl (ay _))
 ·intro w
  have hm:=(f.2 _).mpr ⟨a,b,ha,hb,ab,w,rfl⟩;rw [m8];unfold da at hm;by_cases h:(b:Int)<(a:Int)
  ·rw [ae h,aa (by lia)] at hm
   exact .inr hm
  ·by_cases h':(b:Int)>(a:Int)
   ·rw [aa h,ae h'] at hm
    exact .inl hm
   ·have e:a=b:=by lia
    subst e;lia
def RB:Sp:=fun vs H Q _=>∃(t:Addr) (n:Nat) (L:aw),vs=[.ref t]∧cQ H t n L∧iR n L∧n≤60∧L.length≤500 ∧
 ∀(H':Hp) (D:Addr) (rs:Nat→Addr) (g:Nat→List Nat),ak H H'→H D=none→(∀i,i<n→H (rs i)=none)→jm H' D n rs g→fb n L g→(∀i,(g i).length≤2*L.length)→((∀p∈L,p.1<p.2)→L.Nodup→∀i,(g i).Nodup)→Q (.ref D) H'
end My
namespace L2
open PySem
section
variable {prog:Program} {w:World} {A:Around} {E:aR} {s:Shared}
def hE(h:Heap)(d:Addr)(es:Array DictEntry)(ep:Nat):Prop:=∃o,h.get? d=some o∧o.ExactDict∧o.data=.dict es ep
variable {d:Addr} {es:Array DictEntry} {ep:Nat}
theorem hE.ty(h:hE s.heap d es ep):s.TypeIs (.ref d) "dict":=let ⟨o,ho,hc,_⟩:=h;⟨o,ho,hc.1⟩
theorem hE.to{h h':Heap}(x:hE h d es ep)(e:∀o,h.get? d=some o→h'.get? d=some o):hE h' d es ep:=let ⟨o,ho,r⟩:=x;⟨o,e _ ho,r⟩
variable {Q:aR}
theorem RC(hd:(d == sysModules)=false)(hm:hE s.heap d es ep)
  (hQ:∀h',h'=s.heap.push {cls:=.type "dict_keyiterator",data:=.fields #[.ref d,.int 0 0,.int es.size 0,.int ep 0]}→Q (.ref s.heap.objs.size) {s with heap:=h'}):wpAny (model prog w) A (pyIter (.ref d)) Q E s:=by
 have hT:=hm.ty;obtain ⟨o,ho,hc,lO⟩:=hm;refine wpAny_pyIter_slot hT F.slot_dict_iter (yR F.slot_dict_iter hT F.entry_dict_iter ?_ (F.args_dict_iter_1 _));unfold Builtin.«dict.__iter__»;refine aC ?_;unfold Builtin.Dict.dictSlotNone;refine aC (wpAny_notOrdered_dict hT (ba ?_));show wpAny _ _ (Builtin.Dict.showsAll d >>= _) _ _ s;unfold Builtin.Dict.showsAll;rw [aa (by rw [hd];exact dg)]
 refine aC (ba (aC (wpAny_dictEntries ho lO (aC (wpAny_dictEpoch ho lO ?_)))));refine aC (sC (ba ⟨_,rfl,"dict_keyiterator",_,⟨_,dU _ rfl,rfl⟩,we.lookup,?_⟩));exact hQ _ rfl
variable {it:Addr}
theorem RD{i:Nat}{Q:Option Value→Shared→Prop}(hit:s.heap.IsKeyIter it d i es.size ep)(hm:hE s.heap d es ep)(hi:i<es.size)
  (hQ:∀h',h'.IsKeyIter it d (i+1) es.size ep→Heap.SameBut it s.heap h'→Q (some es[i].key) {s with heap:=h'}):wpAny (model prog w) A (pyNext (.ref it)) Q E s:=by
 have hT:=hit.typeIs;obtain ⟨o,ho,hc,hd⟩:=id hit;obtain ⟨od,xH,dW,xI⟩:=hm;unfold pyNext;refine aC (wpAny_attempt (wpAny_callSpecial?_slot (name:=Str.ofString "__next__") hT we (yR we hT F.entry_dict_keyiterator_next ?_ (F.args_dict_keyiterator_next_1 _))));refine aC (ba (aC (aC ?_)))
 first | refine aC (y4 hT (ba ?_)) | refine aC (y6 hT (ba ?_))
 refine aC (wpAny_fieldsOf ho hd ?_);simp only [show Builtin.Dict_items.ownsTuple "dict_keyiterator"=false from by decide,vW,j6]
 show wpAny _ _ (if (Value.ref d == Value.none)=true then _ else _) _ _ s
 rw [aa (show ¬((Value.ref d == Value.none)=true) from dg)];refine aC (ba (aC (wpAny_dictEntries xH xI ?_)));rw [aa (by simp)]
 refine aC (ba (aC (wpAny_dictEpoch xH xI ?_)));rw [aa (by simp)]
 refine ba ?_;simp only [show ¬((i:Int)<0) from by lia,j6,d6,sN hi]
 refine aC ?_
 first | refine aC (y4 hT (ba ?_)) | refine aC (y6 hT (ba ?_))
 refine aC (wpAny_isOneOf_keyiter hT ?_);show wpAny _ _ (setField (.ref it) 1 (rawInt ((i:Int)+1)) >>= _) _ _ s;refine aC (wpAny_setField ho hd (by simp) ?_)
 have Ir:(s.heap.update it (Obj.mapFields (·.setIfInBounds 1 (rawInt ((i:Int)+1))))).IsKeyIter it d (i+1) es.size ep:=
  ⟨_,sq _ ho (Obj.isFreed_of_fields (Obj.data_mapFields hd _)),(Obj.cls_mapFields ..).trans hc,by rw [Obj.data_mapFields hd];simp [rawInt]⟩
 refine aC (nO ?_);refine aC (wpAny_isOneOf_keyiter (s:={s with heap:=s.heap.update it (Obj.mapFields (·.setIfInBounds 1 (rawInt ((i:Int)+1))))}) Ir.typeIs ?_);show wpAny _ _ (pure es[i].key) _ _ _;exact ba (ba ⟨_,rfl,ba (hQ _ Ir (Heap.SameBut.update ..))⟩)
theorem RE{Q:Option Value→Shared→Prop}(hh:A.handled=none)(hit:s.heap.IsKeyIter it d es.size es.size ep)(hm:hE s.heap d es ep)
  (hQ:∀h',Heap.ExtBut it s.heap h'→Q none {s with heap:=h'}):wpAny (model prog w) A (pyNext (.ref it)) Q E s:=by
 have hT:=hit.typeIs;obtain ⟨o,ho,hc,hd⟩:=id hit;obtain ⟨od,xH,dW,xI⟩:=hm;unfold pyNext;refine aC (wpAny_attempt (wpAny_callSpecial?_slot (name:=Str.ofString "__next__") hT we (yR we hT F.entry_dict_keyiterator_next ?_ (F.args_dict_keyiterator_next_1 _))));refine aC (ba (aC (aC ?_)))
 first | refine aC (y4 hT (ba ?_)) | refine aC (y6 hT (ba ?_))
 refine aC (wpAny_fieldsOf ho hd ?_);simp only [show Builtin.Dict_items.ownsTuple "dict_keyiterator"=false from by decide,vW,j6]
 show wpAny _ _ (if (Value.ref d == Value.none)=true then _ else _) _ _ s
 rw [aa (show ¬((Value.ref d == Value.none)=true) from dg)];refine aC (ba (aC (wpAny_dictEntries xH xI ?_)));rw [aa (by simp)]
 refine aC (ba (aC (wpAny_dictEpoch xH xI ?_)));rw [aa (by simp)]
 refine ba ?_;simp only [show ¬((es.size:Int)<0) from by lia,j6,d6,y7 (ay es.size)]
 refine aC ?_
 first | refine aC (y4 hT (ba ?_)) | refine aC (y6 hT (ba ?_))
 show wpAny _ _ (setField (.ref it) 0 .none >>= _) _ _ s;refine aC (wpAny_setField ho hd (by simp) ?_)
 show wpAny _ _ (newExc (.type "StopIteration") [] >>= _) _ _ _;refine aC ?_;simp only [newExc,newTuple];refine aC (sC ?_ (by size_fits))
 refine aC (m:=firstArgMember _ _) (wpAny_of_eq (a:=Value.none) (by first | rfl | (simp only [firstArgMember];rfl)) ?_)
 refine sC ?_ (by size_fits)
 simp only [raiseNew];refine aC (wpAny_handled ?_);rw [show A.in1.handled=none from hh];refine aC (ba (wpAny_throw ?_));refine aC (wpAny_isInstance (T:="StopIteration") (b:=true) ⟨_,dU _ rfl,rfl⟩ isSubtype_stop ?_);exact ba (hQ _ (((Heap.SameBut.update ..).extBut.push _).push _))
theorem RF(hh:A.handled=none)(I d:Addr)(gg:d≠I)(es:Array DictEntry)(ep:Nat) :
  Walks prog w A I [I,d] [I] es.size (fun i v=>∃e,es[i]?=some e∧v=e.key) (fun i h=>h.IsKeyIter I d i es.size ep∧hE h d es ep) where
 sub:=fun b hb=>by simp at hb;simp [hb]
 frame:=fun _ _ _ st hk=>⟨st.1.at fun o e=>hk I (by simp) o e,st.2.to fun o e=>hk d (by simp) o e⟩
 item:=fun i s Q E hi st hQ=>RD st.1 st.2 hi fun h' RG sb=>hQ _ h' s.toks ⟨_,sN hi,rfl⟩ ⟨RG,st.2.to fun o e=>sb.extBut d o gg e⟩ fun b o hb e=>sb.extBut b o (fun h=>hb (by simp [h])) e
 done:=fun s Q E st hQ=>RE hh st.1 st.2 fun h' RH=>hQ h' s.toks fun b o hb e=>RH b o (fun h=>hb (by simp [h])) e
 self:=fun _ _ _ _ st hQ=>wpAny_pyIter_keyiter st.1 hQ
theorem RI{Q:Bool→Shared→Prop}(hm:hE s.heap d es ep)(h:Q false s):wpAny (model prog w) A (Builtin.List.listLengthHint (.ref d)) Q E s:=by
 unfold Builtin.List.listLengthHint;refine aC (yW hm.ty F.slot_dict_len.lookup ?_);generalize xJ:("dict.__len__":String)=Dx
 wp_delta
 rw [show splitId Dx=some ("dict","__len__") from by subst xJ;decide +kernel]
 subst xJ;refine aC (wpAny_isInstance (T:="dict") (b:=true) hm.ty (by rw [isSubtype_type];kernel_rfl) ?_)
 refine mf (fun hG=>absurd hG (by decide)) (fun _=>?_)
 refine mf (fun _=>?_) (fun hG=>absurd (by decide +kernel) hG)
 exact aC (wpAny_typeOf hm.ty (ba h))
def KeysAre(es:Array DictEntry)(acc:Array Value):Prop:=acc.toList=es.toList.map (·.key)
theorem RJ{acc:Array Value}(h:ItemsOf (fun i v=>∃e,es[i]?=some e∧v=e.key) acc es.size):KeysAre es acc:=by
 refine sE fun i=>?_;rw [bo,pL,pL];by_cases hi:i<acc.size
 ·obtain ⟨e,e1,e2⟩:=h.2 i _ (sN hi)
  rw [sN hi,e1,e2];rfl
 ·rw [y7 (by lia),y7 (by have:=h.1;lia)]
  rfl
variable {R:Result→Shared→Prop}
theorem RK(hh:A.handled=none)(hd:(d == sysModules)=false)(hm:hE s.heap d es ep)(hlen:es.size≤2 ^ 24)(S:Addr)(res:Value)(c₀:Nat)
  (hS:s.heap.get? S=some {cls:=.type "list",data:=.seq #[] c₀})
  (hR:∀h' tk dy c',(∀b o,b≠S→s.heap.get? b=some o→h'.get? b=some o)→h'.get? S=some {cls:=.type "list",dict:=none,data:=.seq dy c',slots:=#[]}→KeysAre es dy→R (.ok (.ret res)) {s with heap:=h',toks:=tk}) :
  wpAny (model prog w) A.in1 (Builtin.List.listExtendWith (.ref S) (.ref d) res)
   (fun fin s'=>match fin with | .done f=>R (.ok f) s' | .again c'=>c'.quiet=true∧codeAny (model prog w) A c' R s') (fun e s'=>R (.error e) s') s:=by
 have hT:=hm.ty;have lQ:S≠d:=fun e=>by obtain ⟨o,ho,hc,lO⟩:=hm;rw [e,ho] at hS;cases hS;cases lO
 have RL:S<s.heap.objs.size:=aY hS;have Iu:S≠s.heap.objs.size:=cx RL;have RM:d≠s.heap.objs.size:=fun e=>by obtain ⟨o,ho,_⟩:=hm;exact fE _ (e▸aY ho)
 have Dy:S∉[s.heap.objs.size,d]:=fun Dz=>by
  rcases bO.mp Dz with e | e;·exact Iu e
  ·exact lQ (bI.mp e)
 have W:=(RF (prog:=prog) (w:=w) (A:=A.in1) hh s.heap.objs.size d RM es ep).toS
 have key:∀(h:Heap) (c₁ tk:Nat),h.IsKeyIter s.heap.objs.size d 0 es.size ep∧hE h d es ep→(∀b o,b≠S→s.heap.get? b=some o→h.get? b=some o)→
   h.get? S=some {cls:=.type "list",data:=.seq #[] c₁}→codeAny (model prog w) A (.builtin "list.extend.loop" ⟨[.ref S,.ref s.heap.objs.size,res],[]⟩) R {s with heap:=h,toks:=tk}:=by
  intro h c₁ tk hit hk qJ;refine codeAny_extend_loopS W (by rw [l_];lia) S Dy res es.size 0 _ #[] c₁ rfl (bU _) hit qJ (ItemsOf.nil _) fun s' dy c' xK gH jo=>?_
  rw [Moved.eq_with xK];refine hR s'.heap s'.toks dy c' (fun b o hb e=>xK.heap b o (fun qK=>?_) (hk b o hb e)) gH (RJ jo);rcases bO.mp qK with e' | qK;·exact hb e'
  ·exact absurd (aY e) (by rw [bI.mp qK];exact fE _)
 unfold Builtin.List.listExtendWith;refine aC (wpAny_typeOf (T:="dict") hT ?_);simp only [show Builtin.List.listSameRef (.ref S) (.ref d)=false from by simp [Builtin.List.listSameRef,lQ],show (Value.type "dict" == Value.type "list")=false from by decide,show (Value.type "dict" == Value.type "tuple")=false from by decide,Bool.or_false,vW,j6]
 refine aC (RC hd hm fun h1 e1=>?_);have k1:∀b o,s.heap.get? b=some o→h1.get? b=some o:=fun b o e=>by rw [e1];exact b8 _ e
 have Iv:h1.IsKeyIter s.heap.objs.size d 0 es.size ep:=⟨_,by rw [e1];exact dU _ rfl,rfl,rfl⟩
 have xM:hE h1 d es ep:=hm.to fun o e=>k1 _ _ e;have qJ:=k1 _ _ hS;refine aC (nO (RI (s:={s with heap:=h1}) xM ?_));refine mf (fun _=>?_) (fun _=>ba ⟨plainId_quiet F.plain_extend_loop _,key _ c₀ _ ⟨Iv,xM⟩ (fun b o _ e=>k1 b o e) qJ⟩);refine aC (n6 (aC ?_));show wpAny _ _ (updateSeq S (·.push .none) >>= fun _=>updateSeq S (·.pop)) _ _ _;refine aC (y8 qJ rfl ?_);have tV:=sq (Obj.mapSeq (·.push Value.none)) qJ rfl;refine y8 (hz:=by seq_fits) tV rfl ?_
 have RN:=sq (Obj.mapSeq (·.pop)) tV rfl;have lR:∀b o,b≠S→h1.get? b=some o→((h1.update S (Obj.mapSeq (·.push Value.none))).update S (Obj.mapSeq (·.pop))).get? b=some o:=fun b o hb e=>(sr _ _ (Ne.symm hb)).trans ((sr _ _ (Ne.symm hb)).trans e);exact ba ⟨plainId_quiet F.plain_extend_loop _,key _ _ _ ⟨Iv.at fun o e=>lR _ o (Ne.symm Iu) e,xM.to fun o e=>lR _ o (Ne.symm lQ) e⟩ (fun b o hb e=>lR b o hb (k1 b o e)) RN⟩
theorem RO(hh:A.handled=none)(hd:(d == sysModules)=false)(hm:hE s.heap d es ep)(hlen:es.size≤2 ^ 24)(S:Addr)
  (hS:s.heap.get? S=some {cls:=.type "list",data:=.seq #[]})
  (hR:∀h' tk dy c',(∀b o,b≠S→s.heap.get? b=some o→h'.get? b=some o)→h'.get? S=some {cls:=.type "list",dict:=none,data:=.seq dy c',slots:=#[]}→KeysAre es dy→R (.ok (.ret .none)) {s with heap:=h',toks:=tk}) :
  wpAny (model prog w) A.in1 (Builtin.«list.__init__» ⟨[.ref S,.ref d],[]⟩)
   (fun fin s'=>match fin with | .done f=>R (.ok f) s' | .again c'=>c'.quiet=true∧codeAny (model prog w) A c' R s') (fun e s'=>R (.error e) s') s:=by
 have lQ:S≠d:=fun e=>by
  obtain ⟨o,ho,hc,lO⟩:=hm
  rw [e,ho] at hS
  cases hS
  cases lO
 show wpAny _ _ (do let old ←Builtin.List.listItems (.ref S);Builtin.List.listUpdate (.ref S) (fun _=>#[]);letGo old.toList.reverse;Builtin.List.listExtendWith (.ref S) (.ref d) .none) _ _ s
 refine aC ?_
 unfold Builtin.List.listItems
 refine aC (wpAny_seqItems hS rfl (ba ?_))
 show wpAny _ _ (updateSeq S (fun _=>#[]) >>= fun _=>letGo (#[]:Array Value).toList.reverse >>= fun _=>Builtin.List.listExtendWith (.ref S) (.ref d) .none) _ _ s
 refine aC (y8 hS rfl ?_)
 have tV:=sq (Obj.mapSeq (fun _=>(#[]:Array Value))) hS rfl
 have lR:∀b o,b≠S→s.heap.get? b=some o→(s.heap.update S (Obj.mapSeq (fun _=>(#[]:Array Value)))).get? b=some o:=fun b o hb e=>(sr _ _ (Ne.symm hb)).trans e
 refine aC (wpAny_letGo ?_)
 exact RK (s:={s with heap:=s.heap.update S (Obj.mapSeq (fun _=>(#[]:Array Value)))}) hh hd (hm.to fun o e=>lR d o (Ne.symm lQ) e) hlen S .none _ tV fun h' tk dy c' hk gH jo=>hR h' tk dy c' (fun b o hb e=>hk b o hb (lR b o hb e)) gH jo
theorem RP(hh:A.handled=none)(hd:(d == sysModules)=false)(hm:hE s.heap d es ep)(hlen:es.size≤2 ^ 24)
  (hQ:∀h' tk dy c',(∀b o,s.heap.get? b=some o→h'.get? b=some o)→h'.get? s.heap.objs.size=some {cls:=.type "list",dict:=none,data:=.seq dy c',slots:=#[]}→KeysAre es dy→Q (.ref s.heap.objs.size) {s with heap:=h',toks:=tk}) :
  wpAny (model prog w) A (call (.type "list") [.ref d]) Q E s:=by
 refine callType_codes (Q₁:=fun obj s₁=>obj=.ref s.heap.objs.size∧s₁={s with heap:=s.heap.push {cls:=.type "list",data:=.seq #[]}}) F.called_list (F.typeCall_list_1 _) F.entry_list_init (code_list_new _ ⟨rfl,rfl⟩) fun obj s₁ h₁=>?_;obtain ⟨rfl,rfl⟩:=h₁;have hS:(s.heap.push {cls:=.type "list",data:=.seq #[]}).get? s.heap.objs.size=some {cls:=.type "list",data:=.seq #[]}:=dU _ rfl;refine ⟨⟨_,hS,rfl⟩,F.args_list_init_2 _ _,RO (s:={s with heap:=s.heap.push {cls:=.type "list",data:=.seq #[]}}) (A:=A.in1) hh hd (hm.to fun o e=>b8 _ e) hlen _ hS fun h' tk dy c' hk gH jo=>?_⟩;exact ⟨rfl,hQ h' tk dy c' (fun b o e=>hk b o (cx (aY e)) (b8 _ e)) gH jo⟩
end
def RQ:List V→Hp→VK→Prop:=fun xs H Q=>∃d kvs,xs=[.ref d]∧H d=some (.dT kvs)∧kvs.length≤10000∧∀l bs,H l=none→bs.length=kvs.length→(∀(i:Nat) (b:V) (k:List Key) (v:V),bs[i]?=some b→kvs[i]?=some (k,v)→∃a,b=.ref a∧H a=some (.tup (k.map kV)))→Q (.ref l) (upd H l (.lst bs))
theorem RR{X:Cx}(hc:X.calm=true):gB X (.type "list") RQ:=by
 intro pins s σ H xs us Q I r h;obtain ⟨d,kvs,rfl,hp,hn,q⟩:=h;obtain ⟨u,rfl,ru⟩:=vals1 r;cases ru;obtain ⟨_,sys,mq,kt,o,es,ep,g,c,dd,e4,e5,e6⟩:=HD I.ax hp;have lk:kvs.length=mq.length:=Paired.length kt;have sz:es.size=kvs.length:=by rw [size_of_entries e4,lk]
 refine RP (I.ok.hd hc) sys ⟨o,g,c,dd⟩ (by lia) fun h' tk acc ct hk hD hit=>?_
 have ek:acc.toList=mq.map fun x=>Value.ref x.2.1:=by rw [hit,e4,dE];rfl
 refine ⟨.ref s.heap.objs.size,_,I.laid (o:=.lst (mq.map fun x=>V.ref x.2.1)) (fun b o e=>hk b o e) (ay _) ⟨?_,acc.toList,ct,?_,?_⟩,rfl,q _ _ (I.ax.fresh (ay _)) (by rw [aH,lk]) ?_⟩
 ·rw [aH,←lk]
  exact b9 hn (by decide)
 ·rw [ek]
  refine Cu (by rw [aH,aH]) fun i x u h1 h2=>?_
  rw [bo] at h1 h2;cases e:mq[i]? with
  | none=>rw [e] at h1;cases h1
  | some y=>rw [e] at h1 h2;cases h1;cases h2;rfl
 ·rw [hD]
 ·intro i b k v hb hk
  have at':∀{l:List (List Key×V)} {m:List (List Key×Addr×Value)},KT H l m→∀(i:Nat) p y,l[i]?=some p→m[i]?=some y→p.1=y.1∧H y.2.1=some (.tup (p.1.map kV)):=by
   intro l m q
   induction q with
   | nil=>intro i p y h;cases h
   | cons hq t ih=>
    intro i p y h h';cases i with
    | zero=>cases h;cases h';exact ⟨hq.1,hq.2.1⟩
    | succ i=>exact ih i p y h h'
  rw [bo] at hb;cases e:mq[i]? with
  | none=>rw [e] at hb;cases hb
  | some y=>rw [e] at hb;cases hb;exact ⟨_,rfl,(at' kt i _ y hk e).2⟩
end L2
namespace My
open PySem L2
variable {L:aw}
theorem RS(nd:L.Nodup){k:Nat}(hk:k<L.length)(h:L[k]∈L.take k):False:=by
 obtain ⟨i,hi,e⟩:=wb.mp h;have:=(List.nodup_iff_pairwise_ne.mp nd);have RT:i<k:=by lia
 exact sL.mp this i k (by lia) hk RT e
variable {g:Nat→List Nat} {i j:Nat}
theorem Iw(h:∀a,(g a).Nodup)(hj:j∉g i)(a:Nat):(g9 g i j a).Nodup:=by
 unfold g9 dP;by_cases e:a=i
 ·subst e
  simp only [if_true];rw [ic];refine ⟨h a,by simp,fun x hx y hy e=>?_⟩
  rw [bI] at hy;subst hy;subst e;exact hj hx
 ·simp only [e,j6]
  exact h a
theorem RU{n:Nat}(h:∀a,(g a).Nodup)(nb:fb n L g)(hi:i<n)(hj:j<n)(ij:i≠j)(h1:((i:Int),(j:Int))∉L)(h2:((j:Int),(i:Int))∉L)(a:Nat):(g9 (g9 g i j) j i a).Nodup:=by
 refine Iw (Iw h fun hm=>?_) (fun hm=>?_) a
 ·rcases (nb i j hi).mp hm with h | h
  ·exact h1 h
  ·exact h2 h
 ·have e:g9 g i j j=g j:=by unfold g9 dP;simp only [Ne.symm ij,j6]
  rw [e] at hm;rcases (nb j i hj).mp hm with h | h;·exact h2 h
  ·exact h1 h
end My
namespace L2
open PySem PySem.Spec PyProof.Rows My
theorem Iy{wi:TI}{ρ:St→St}{tt:TT}{te:TE}{σ:St}{H:Hp}{Q:VK}{xs:List V}(c:V→Bool)(gm:∀R:It→Hp→Prop,(∀J H1,ak H H1→lE J xs H1→R J H1)→wi σ H R)(hn:xs.length<sizeLine)
  (test:∀x∈xs,∀(Hc:Hp) (R:Bool→Hp→Prop),ak H Hc→R (c x) Hc→tt (some x::ρ σ) Hc R)
  (elem:∀(x:V) (Hc:Hp) (R:VK),R x Hc→te (some x::ρ σ) Hc R)
  (fin:∀D Hc,H D=none→ak H Hc→Hc D=some (.lst (xs.filter c))→Q (.ref D) Hc):gh wi ρ tt te σ H Q:=by
 refine gm _ fun J H1 s1 js=>?_;intro D nD;refine ⟨fun i m ys Hc=>m=xs.length-i∧i≤xs.length∧Hc D=some (.lst ys)∧ak H1 Hc∧ys.length≤i∧ys=(xs.take i).filter c,⟨_,rfl,bU _,au,eG (ak.refl H1) nD,ay _,rfl⟩,?_⟩;rintro i m ys Hc ⟨rfl,hi,eD,sH,ly,hP⟩;refine ⟨eD,?_⟩;by_cases aZ:i<xs.length
 ·refine .inr ⟨js.go i Hc sH aZ,fun x H' hy=>?_⟩
  obtain ⟨rfl,hx⟩:=js.d8 i Hc x H' sH hy;have ex:=hx aZ;have mx:x∈xs:=nU ex;have tk:xs.take (i+1)=xs.take i++[x]:=by rw [j8,ex];rfl
  refine test x mx _ _ (s1.trans sH) ?_;by_cases hb:c x=true
  ·rw [ae hb]
   refine elem x _ _ ⟨eD,by lia,xs.length-(i+1),by lia,rfl,aZ,au,eG sH nD,by simp;lia,?_⟩
   rw [tk,kS,←hP,kT,ae hb];rfl
  ·rw [aa hb]
   refine ⟨xs.length-(i+1),by lia,rfl,aZ,eD,sH,by lia,?_⟩
   rw [tk,kS,←hP,kT,aa hb,List.filter_nil,j4]
 ·have e:i=xs.length:=by lia
  subst e;rw [gu] at hP;subst hP;exact .inl ⟨js.stop _ Hc sH (ay _),fin D Hc (none_of s1 nD) (s1.trans sH) eD⟩
end L2
namespace My
open PySem L2
def kz(z:Int×Int):List Key:=[.inl z.1,.inl z.2]
theorem RV{y z:Int×Int}(h:kz y=kz z):y=z:=by unfold kz at h;injection h with h1 h2;injection h2 with h2 _;injection h1 with h1;injection h2 with h2;exact Prod.ext h1 h2
def iS(L:aw):List (List Key×V):=L.map fun z=>(kz z,V.bl true)
def tW(L:aw)(z:Int×Int):List (Int×Int):=if z∈L then L else L++[z]
theorem RW(L:aw)(z:Int×Int):putK (iS L) (kz z) (.bl true)=iS (tW L z):=by
 unfold putK tW;have an:((iS L).any fun kv=>decide (kv.1=kz z))=decide (z∈L):=by
  rw [nQ,v9,i5];constructor
  ·rintro ⟨kv,hm,e⟩
   obtain ⟨y,hy,rfl⟩:=cj.mp hm;exact RV (eR e)▸hy
  ·intro h
   exact ⟨_,cj.mpr ⟨z,h,rfl⟩,bA rfl⟩
 by_cases h:z∈L
 ·rw [ae (an.trans (bA h)),ae h]
  unfold iS;rw [dE];refine ma fun y _=>?_;show (if kz y=kz z then (kz y,V.bl true) else (kz y,V.bl true))=_
  split <;> rfl
 ·rw [aa (by rw [an,bH h];exact dg),aa h]
  unfold iS;rw [fi];rfl
structure gI (P a d:Addr) (H Hc:Hp) (n m:Nat) (L:aw):Prop where
 s:aF P H Hc
 p:a_ Hc P a
 e:Hc d=some (.dT (iS L))
 nd:L.Nodup
 lt:∀z∈L,0≤z.1∧z.1<z.2∧z.2<(n:Int)
 cW:L.length≤m
section
variable {P a d:Addr} {H Hc:Hp} {n m:Nat} {L:aw}
theorem gI.le(h:gI P a d H Hc n m L){m':Nat}(hm:m≤m'):gI P a d H Hc n m' L:=⟨h.s,h.p,h.e,h.nd,h.lt,b9 h.cW hm⟩
theorem gI.step(h:gI P a d H Hc n m L)(nd:d≠P){H':Hp}(s:aF P Hc H')(p:a_ H' P a):gI P a d H H' n m L:=⟨h.s.trans s,p,s.at nd h.e,h.nd,h.lt,h.cW⟩
variable {tp:Addr} {i j:Int}
theorem gI.put(h:gI P a d H Hc n m L)(nd:d≠P)(n0:H d=none)(dJ:Hc tp=none)(i0:0≤i)(ij:i<j)(jn:j<(n:Int)) :
  gI P a d H (upd (upd Hc tp (.tup [.int i,.int j])) d (.dT (putK (iS L) (kz (i,j)) (.bl true)))) n (m+1) (tW L (i,j)):=by
 refine ⟨(h.s.trans (aF.of (aO dJ))).but n0,(h.p.mono (aO dJ)).upd nd,by rw [au,RW],?_,?_,?_⟩
 ·unfold tW
  by_cases e:(i,j)∈L
  ·rw [ae e]
   exact h.nd
  ·rw [aa e,ic]
   refine ⟨h.nd,by simp,fun x hx y hy q=>?_⟩
   rw [bI] at hy;exact e (hy▸q▸hx)
 ·intro z hz
  unfold tW at hz;by_cases e:(i,j)∈L
  ·rw [ae e] at hz
   exact h.lt z hz
  ·rw [aa e] at hz
   rcases cY.mp hz with hz | hz;·exact h.lt z hz
   ·rw [bI.mp hz]
    exact ⟨i0,ij,jn⟩
 ·unfold tW
  have:=h.cW;by_cases e:(i,j)∈L
  ·rw [ae e]
   lia
  ·rw [aa e,du]
   simp only [nW];lia
theorem gI.dput(h:gI P a d H Hc n m L)(m1:m≤1000)(dJ:Hc tp=none) :
  qG (upd Hc tp (.tup [.int i,.int j])) d (.ref tp) (.bl true) (upd (upd Hc tp (.tup [.int i,.int j])) d (.dT (putK (iS L) (kz (i,j)) (.bl true)))):=
 qG.t (aO dJ _ _ h.e) (show upd Hc tp (.tup [.int i,.int j]) tp=some (.tup ((kz (i,j)).map kV)) from au) (cU (by unfold iS;rw [aH];have:=h.cW;lia))
end
def RX:Sp:=fun vs H Q _=>∃(t a:Addr) (n:Nat) (L:aw) (o:List Nat),vs=[.ref t,.ref a]∧cQ H t n L∧iR n L∧n≤30∧L.length≤500∧H a=some (.lst (o.map fun k:Nat=>V.int (k:Int)))∧o.Perm (List.range n) ∧
 ∀(H':Hp) (t':Addr) (M:aw),ak H H'→cQ H' t' n M→dQ n L o M→Q (.ref t') H'
theorem cQ.f9{H H':Hp}{t:Addr}{n:Nat}{L:aw}(h:cQ H t n L)(k:∀b xs,H b=some (.tup xs)→H' b=some (.tup xs)):cQ H' t n L:=by obtain ⟨lt,us,h1,h2,h3⟩:=h;refine ⟨lt,us,k _ _ h1,k _ _ h2,h3.1,fun i v p e1 e2=>?_⟩;obtain ⟨b,e,g⟩:=h3.2 i v p e1 e2;exact ⟨b,e,k _ _ g⟩
section
variable {n:Nat} {E:Nat→Nat→Prop} {pos rk:Nat→Nat}
def m9(n:Nat)(E:Nat→Nat→Prop)(pos:Nat→Nat):Prop:=∀a b c,a<n→b<n→c<n→pos a<pos b→pos a<pos c→b≠c→E a b→E a c→E b c
structure Walk (n:Nat) (E:Nat→Nat→Prop) (p:Nat→Nat) (k:Nat):Prop where
 lt:∀i,i≤k→p i<n
 ne:∀i j,i<j→j≤k→p i≠p j
 ed:∀i j,i<j→j≤k→(E (p i) (p j)↔j=i+1)
theorem Walk.back{p:Nat→Nat}{k:Nat}(sy:∀a b,E a b→E b a)(h:Walk n E p k):Walk n E (fun i=>p (k-i)) k where
 lt:=fun i hi=>h.lt _ (by lia)
 ne:=fun i j ij jk=>(h.ne (k-j) (k-i) (by lia) (by lia)).symm
 ed:=fun i j ij jk=>by
  constructor
  ·intro e
   have:=(h.ed (k-j) (k-i) (by lia) (by lia)).mp (sy _ _ e)
   lia
  ·intro e
   exact sy _ _ ((h.ed (k-j) (k-i) (by lia) (by lia)).mpr (by lia))
theorem RY(cl:m9 n E rk)(inj:∀a b,a<n→b<n→rk a=rk b→a=b)(sy:∀a b,E a b→E b a){c:Nat→Nat}{m:Nat}(m4:4≤m)(lt:∀i,i<m→c i<n)(ne:∀i j,i<j→j<m→c i≠c j)
  (ed:∀i j,i<j→j<m→(E (c i) (c j)↔j=i+1∨(i=0∧j=m-1))):False:=by
 have least:∀k,k<m→∃i,i≤k∧∀j,j≤k→rk (c i)≤rk (c j):=fun k=>by
  induction k with
  | zero=>exact fun _=>⟨0,ay _,fun j hj=>by rw [show j=0 by lia];exact ay _⟩
  | succ k ih=>
   intro hk;obtain ⟨i,hi,h⟩:=ih (by lia)
   by_cases q:rk (c i)≤rk (c (k+1))
   ·refine ⟨i,by lia,fun j hj=>?_⟩
    by_cases e:j=k+1;·rw [e];exact q
    ·exact h j (by lia)
   ·refine ⟨k+1,ay _,fun j hj=>?_⟩
    by_cases e:j=k+1;·rw [e];exact ay _
    ·have:=h j (by lia)
     lia
 obtain ⟨i,hi,h⟩:=least (m-1) (by lia)
 have less:∀j,j<m→j≠i→rk (c i)<rk (c j):=fun j hj ji=>by
  have h1:=h j (by lia)
  by_cases q:rk (c i)=rk (c j)
  ·have e:=inj _ _ (lt i (by lia)) (lt j hj) q
   rcases Nat.lt_or_gt_of_ne ji with z | z;·exact absurd e.symm (ne j i z (by lia))
   ·exact absurd e (ne i j z hj)
  ·lia
 have use:∀a b,a<b→b<m→a≠i→b≠i→E (c i) (c a)→E (c i) (c b)→b=a+1∨(a=0∧b=m-1):=fun a b ab bm ai bi e1 e2=>(ed a b ab bm).mp (cl (c i) (c a) (c b) (lt _ (by lia)) (lt _ (by lia)) (lt _ bm) (less a (by lia) ai) (less b bm bi) (ne a b ab bm) e1 e2)
 by_cases z:i=0
 ·subst z
  have:=use 1 (m-1) (by lia) (by lia) (by lia) (by lia) ((ed 0 1 (by lia) (by lia)).mpr (.inl rfl)) ((ed 0 (m-1) (by lia) (by lia)).mpr (.inr ⟨rfl,rfl⟩))
  lia
 ·by_cases z':i=m-1
  ·have e0:E (c i) (c 0):=sy _ _ ((ed 0 i (by lia) (by lia)).mpr (.inr ⟨rfl,z'⟩))
   have e1:E (c i) (c (m-2)):=sy _ _ ((ed (m-2) i (by lia) (by lia)).mpr (.inl (by lia)))
   have:=use 0 (m-2) (by lia) (by lia) (by lia) (by lia) e0 e1
   lia
  ·have e0:E (c i) (c (i-1)):=sy _ _ ((ed (i-1) i (by lia) (by lia)).mpr (.inl (by lia)))
   have e1:E (c i) (c (i+1)):=(ed i (i+1) (by lia) (by lia)).mpr (.inl rfl)
   have:=use (i-1) (i+1) (by lia) (by lia) (by lia) (by lia) e0 e1
   lia
def DA(n:Nat)(E:Nat→Nat→Prop)(pos:Nat→Nat):Prop:=∀a b c,a<n→b<n→c<n→pos a<pos b→pos b<pos c→E a c→¬E b c→∃d,d<n∧pos b<pos d∧E b d∧¬E a d
theorem Iz{q:Nat→Prop}(h0:q 0):∀k,∃j,j≤k∧q j∧∀i,j<i→i≤k→¬q i
 | 0=>⟨0,ay _,h0,fun i h h'=>by lia⟩
 | k+1=>by
  obtain ⟨j,hj,hq,hn⟩:=Iz h0 k;by_cases z:q (k+1);·exact ⟨k+1,ay _,z,fun i h h'=>by lia⟩
  ·refine ⟨j,by lia,hq,fun i h h'=>?_⟩
   by_cases e:i=k+1;·rw [e];exact z
   ·exact hn i h (by lia)
theorem DB(cl:m9 n E rk)(inj:∀a b,a<n→b<n→rk a=rk b→a=b)(tX:∀a b,a<n→b<n→pos a=pos b→a=b)(sy:∀a b,E a b→E b a)(ir:∀a,¬E a a)(mo:DA n E pos)(pn:∀a,a<n→pos a<n) :
  ∀(d:Nat) (p:Nat→Nat) (k:Nat),n-pos (p 0)≤d→2≤k→Walk n E p k→pos (p 0)<pos (p k)→(∀i,0<i→i<k→pos (p i)<pos (p 0))→False
 | 0,p,k,hd,k2,W,h0,hi=>by
  have:=pn _ (W.lt 0 (by lia))
  lia
 | d+1,p,k,hd,k2,W,h0,hi=>by
  obtain ⟨x,xn,xp,ex,nx⟩:=mo (p (k-1)) (p 0) (p k) (W.lt _ (by lia)) (W.lt _ (by lia)) (W.lt _ (ay _)) (hi _ (by lia) (by lia)) h0 ((W.ed _ _ (by lia) (ay _)).mpr (by lia)) (fun e=>by have:=(W.ed 0 k (by lia) (ay _)).mp e;lia)
  have IA:∀i,i<k→pos (p i)≤pos (p 0):=fun i ik=>by
   by_cases z:i=0;·rw [z];exact ay _
   ·exact nN (hi i (by lia) ik)
  have DC:∀i,i≤k→x≠p i:=fun i ik e=>by
   by_cases z:i=k
   ·subst z
    rw [e] at ex;have:=(W.ed 0 i (by lia) (ay _)).mp ex
    lia
   ·have:=IA i (by lia)
    rw [e] at xp;lia
  obtain ⟨j,hj,ej,nj⟩:=Iz (q:=fun j=>E x (p j)) (sy _ _ ex) (k-1);have jk:j≤k-2:=by
   by_cases z:j=k-1
   ·rw [z] at ej
    exact absurd (sy _ _ ej) nx
   ·lia
  by_cases xk:E x (p k)
  ·
   refine RY cl inj sy (c:=fun i=>if i≤k-j then p (j+i) else x) (m:=k-j+2) (by lia) (fun i im=>?_) (fun i l il lm=>?_) (fun i l il lm=>?_)
   ·show (if i≤k-j then p (j+i) else x)<n
    split
    ·exact W.lt _ (by lia)
    ·exact xn
   ·show (if i≤k-j then p (j+i) else x)≠(if l≤k-j then p (j+l) else x)
    rw [ae (by lia)]
    split
    ·exact W.ne _ _ (by lia) (by lia)
    ·exact (DC _ (by lia)).symm
   ·show E (if i≤k-j then p (j+i) else x) (if l≤k-j then p (j+l) else x)↔_
    rw [ae (show i≤k-j by lia)]
    by_cases z:l≤k-j
    ·rw [ae z,W.ed _ _ (by lia) (by lia)]
     lia
    ·rw [aa z]
     constructor
     ·intro e
      by_cases i0:i=0;·exact .inr ⟨i0,by lia⟩
      ·by_cases i1:i=k-j
       ·exact .inl (by lia)
       ·exact absurd (sy _ _ e) (nj (j+i) (by lia) (by lia))
     ·rintro (e | ⟨e,_⟩)
      ·rw [show j+i=k by lia]
       exact sy _ _ xk
      ·rw [e]
       exact sy _ _ ej
  ·
   have W':Walk n E (fun i=>if i=0 then x else p (j+i-1)) (k-j+1):=by
    refine ⟨fun i hi=>?_,fun i l il lk=>?_,fun i l il lk=>?_⟩
    ·show (if i=0 then x else p (j+i-1))<n
     split
     ·exact xn
     ·exact W.lt _ (by lia)
    ·show (if i=0 then x else p (j+i-1))≠(if l=0 then x else p (j+l-1))
     rw [aa (show ¬l=0 by lia)]
     split
     ·exact DC _ (by lia)
     ·exact W.ne _ _ (by lia) (by lia)
    ·show E (if i=0 then x else p (j+i-1)) (if l=0 then x else p (j+l-1))↔_
     rw [aa (show ¬l=0 by lia)]
     by_cases z:i=0
     ·rw [ae z]
      constructor
      ·intro e
       by_cases l1:l=1;·lia
       ·by_cases zM:j+l-1=k
        ·rw [zM] at e
         exact absurd e xk
        ·exact absurd e (nj _ (by lia) (by lia))
      ·intro e
       rw [show j+l-1=j by lia]
       exact ej
     ·rw [aa z,W.ed _ _ (by lia) (by lia)]
      lia
   have e0:(fun i=>if i=0 then x else p (j+i-1)) 0=x:=rfl
   have ek:(fun i=>if i=0 then x else p (j+i-1)) (k-j+1)=p k:=by
    show (if k-j+1=0 then x else p (j+(k-j+1)-1))=p k
    rw [aa (by lia)]
    congr 1
    lia
   have inner:∀i,0<i→i<k-j+1→pos ((fun i=>if i=0 then x else p (j+i-1)) i)≤pos (p 0):=fun i i0 ik=>by
    show pos (if i=0 then x else p (j+i-1))≤_
    rw [aa (by lia)]
    exact IA _ (by lia)
   have px:=pn x xn;have pk:=pn _ (W.lt k (ay _));generalize (fun i=>if i=0 then x else p (j+i-1))=q at W' e0 ek inner
   by_cases lt:pos x<pos (p k)
   ·refine DB cl inj tX sy ir mo pn d q (k-j+1) (by rw [e0];lia) (by lia) W' (by rw [e0,ek];exact lt) (fun i i0 ik=>?_)
    have:=inner i i0 ik;rw [e0];lia
   ·have ne:pos x≠pos (p k):=fun e=>DC k (ay _) (tX _ _ xn (W.lt _ (ay _)) e)
    have b0:(fun i=>q (k-j+1-i)) 0=p k:=ek;have bk:(fun i=>q (k-j+1-i)) (k-j+1)=x:=by show q (k-j+1-(k-j+1))=x;rw [sD];exact e0
    have Wb:=W'.back sy;have IC:∀i,0<i→i<k-j+1→pos ((fun i=>q (k-j+1-i)) i)≤pos (p 0):=fun i i0 ik=>inner (k-j+1-i) (by lia) (by lia)
    generalize (fun i=>q (k-j+1-i))=q' at Wb b0 bk IC;refine DB cl inj tX sy ir mo pn d q' (k-j+1) (by rw [b0];lia) (by lia) Wb (by rw [b0,bk];lia) (fun i i0 ik=>?_)
    have:=IC i i0 ik;rw [b0];lia
theorem RZ(cl:m9 n E rk)(inj:∀a b,a<n→b<n→rk a=rk b→a=b)(tX:∀a b,a<n→b<n→pos a=pos b→a=b)(sy:∀a b,E a b→E b a)(ir:∀a,¬E a a)(mo:DA n E pos)(pn:∀a,a<n→pos a<n):m9 n E pos:=by
 have go:∀a b c,a<n→b<n→c<n→pos a<pos b→pos b<pos c→E a b→E a c→E b c:=fun a b c an bn cn ab bc e1 e2=>by
  refine ie fun no=>?_;refine DB cl inj tX sy ir mo pn _ (fun i=>if i=0 then b else if i=1 then a else c) 2 (ay _) (ay _) ⟨fun i hi=>?_,fun i j ij j2=>?_,fun i j ij j2=>?_⟩ bc (fun i i0 i2=>?_)
  ·show (if i=0 then b else if i=1 then a else c)<n
   split
   ·exact bn
   ·split
    ·exact an
    ·exact cn
  ·show (if i=0 then b else if i=1 then a else c)≠(if j=0 then b else if j=1 then a else c)
   rw [aa (show ¬j=0 by lia)]
   by_cases z:i=0
   ·rw [ae z]
    split
    ·exact fun e=>by rw [e] at ab;lia
    ·exact fun e=>by rw [e] at bc;lia
   ·rw [aa z,ae (show i=1 by lia),aa (show ¬j=1 by lia)]
    exact fun e=>by rw [e] at ab;lia
  ·show E (if i=0 then b else if i=1 then a else c) (if j=0 then b else if j=1 then a else c)↔_
   rw [aa (show ¬j=0 by lia)]
   by_cases z:i=0
   ·rw [ae z]
    by_cases y:j=1
    ·rw [ae y]
     exact ⟨fun _=>by lia,fun _=>sy _ _ e1⟩
    ·rw [aa y]
     exact ⟨fun e=>absurd e no,fun e=>by lia⟩
   ·rw [aa z,ae (show i=1 by lia),aa (show ¬j=1 by lia)]
    exact ⟨fun _=>by lia,fun _=>e2⟩
  ·show pos (if i=0 then b else if i=1 then a else c)<pos b
   rw [aa (by lia),ae (by lia)]
   exact ab
 intro a b c an bn cn ab ac bc e1 e2;by_cases h:pos b<pos c;·exact go a b c an bn cn ab h e1 e2
 ·have:pos b≠pos c:=fun e=>bc (tX _ _ bn cn e)
  exact sy _ _ (go a c b an cn bn ac (by lia) e2 e1)
end
open PySem PySem.W PyProof.Rows Tm
section
variable {prog:Program} {w:World} {A:Around} {E:aR} {s:Shared}
end
open PySem PySem.W PyProof.Rows
section
variable {prog:Program} {w:World} {A:Around} {E:aR} {s:Shared}
end
end My
namespace L2
open PySem PySem.W PyProof.Rows My
end L2
namespace My
open PySem PySem.W PyProof.Rows
section
variable {prog:Program} {w:World} {A:Around} {E:aR} {s:Shared} {R:Result→Shared→Prop}
end
open PySem PySem.W PyProof.Rows L2
section
variable {prog:Program} {w:World} {A:Around} {s:Shared}
end
end My
namespace L2
open PySem PySem.W PyProof.Rows My
end L2
namespace My
open PySem L2
end My
namespace L2
open PySem PySem.Spec PyProof.Rows My
end L2
namespace My
open PySem L2
end My
namespace L2
open PySem
section
variable {prog:Program} {w:World} {A:Around} {E:aR} {s:Shared}
end
open PySem PySem.Spec PyProof.Rows My
end L2
namespace My
open PySem L2
theorem Aq{n:Nat}{L:aw}{o:List Nat}(ho:o.Perm (List.range n))(cl:m9 n (aL n L) (fun a=>o.idxOf a)):∀(k a b:Nat),a<n→b<n→k≤o.idxOf a→k≤o.idxOf b→a≠b→Wk (aL n L) (eL n o k) a b→aL n L a b
 | 0,a,b,_,_,_,_,_,w=>by
  cases w with
  | one ab=>exact ab
  | more _ t _=>exact absurd t.2 (nX _)
 | k+1,a,b,an,bn,ka,kb,ne,w=>by
  have lo:=mZ ho;have ia:o.idxOf a<o.length:=j9 ((fu ho).mpr an);have hk:k<o.length:=by lia
  have pn:o[k]<n:=(fu ho).mp (cy hk);have ip:o.idxOf o[k]=k:=tT (oR ho) hk;generalize o[k]=p at pn ip;have th:∀x,eL n o (k+1) x↔eL n o k x∨x=p:=fun x=>by
   unfold eL;constructor
   ·rintro ⟨h1,h2⟩
    by_cases e:o.idxOf x=k
    ·right
     refine ie fun z=>?_;exact absurd (e.trans ip.symm) (jU ho h1 pn z)
    ·exact .inl ⟨h1,by lia⟩
   ·rintro (⟨h1,h2⟩ | rfl)
    ·exact ⟨h1,by lia⟩
    ·exact ⟨pn,by lia⟩
  have ap:a≠p:=fun e=>by subst e;lia
  have bp:b≠p:=fun e=>by subst e;lia
  rcases (Wk.step th).mp w with h | ⟨h1,h2⟩;·exact Aq ho cl k a b an bn (by lia) (by lia) ne h
  ·have e1:=Aq ho cl k a p an pn (by lia) (by lia) ap h1
   have e2:=Aq ho cl k p b pn bn (by lia) (by lia) bp.symm h2
   exact cl p a b pn an bn (show o.idxOf p<o.idxOf a by lia) (show o.idxOf p<o.idxOf b by lia) ne (g_ _ _ e1) e2
variable {n:Nat} {L:aw} {o:List Nat}
theorem DD(ho:o.Perm (List.range n))(pw:L.Pairwise lexLt)(lt:∀z∈L,0≤z.1∧z.1<z.2∧z.2<(n:Int))(cl:m9 n (aL n L) (fun a=>o.idxOf a)):dQ n L o L:=by
 refine ⟨pw,fun z=>⟨fun hz=>?_,?_⟩⟩
 ·obtain ⟨z0,z1,z2⟩:=lt z hz
  obtain ⟨i,j⟩:=z;dsimp only at z0 z1 z2;obtain ⟨a,rfl⟩:=fk z0;obtain ⟨b,rfl⟩:=fk (show 0≤j by lia)
  have an:a<n:=by lia
  have bn:b<n:=by lia
  have ne:=jU ho an bn (by lia)
  by_cases h:o.idxOf a<o.idxOf b
  ·refine ⟨a,b,an,bn,h,.one ⟨an,bn,.inl hz⟩,?_⟩
   unfold da;rw [aa (by lia),ae (by lia)]
  ·refine ⟨b,a,bn,an,by lia,.one ⟨bn,an,.inr hz⟩,?_⟩
   unfold da;rw [ae (by lia),aa (by lia)]
 ·rintro ⟨p,q,pn,qn,pq,w,rfl⟩
  have ne:p≠q:=fun e=>by subst e;lia
  have h:=Aq ho cl (o.idxOf p) p q pn qn (ay _) (nN pq) ne w;unfold da;rcases h.2.2 with e | e
  ·have:=lt _ e
   rw [aa (by lia),ae (by lia)]
   exact e
  ·have:=lt _ e
   rw [ae (by lia),aa (by lia)]
   exact e
theorem ID(ho:o.Perm (List.range n))(f:dQ n L o L):m9 n (aL n L) (fun a=>o.idxOf a):=fun a b c an bn cn ab ac bc e1 e2=>by
 have ne:=jU ho bn cn bc;have both:∀k,o.idxOf a<k→Wk (aL n L) (eL n o k) b c:=fun k hk=>(Wk.one (g_ _ _ e1)).more ⟨an,hk⟩ e2;by_cases h:o.idxOf b<o.idxOf c;·exact ⟨bn,cn,m8.mp ((Iq f bn cn h).mpr (both _ ab))⟩
 ·exact g_ _ _ ⟨cn,bn,m8.mp ((Iq f cn bn (by lia)).mpr ((both _ ac).symm g_))⟩
def lS(n:Nat)(r:Nat→Nat→Bool)(P:List Nat):Prop:=∀A b B,P=A++b::B→∀a,a<n→a∉A→(A.filter (r a)).length≤(A.filter (r b)).length
theorem IE{r s:Nat→Bool}:∀{l:List Nat},(∀d∈l,s d=true→r d=true)→∀{c},c∈l→r c=true→s c=false→(l.filter s).length<(l.filter r).length
 | [],_,_,h,_,_=>by cases h
 | x::l,h,c,hc,rc,xN=>by
  have le:(l.filter s).length≤(l.filter r).length:=by
   clear hc rc xN;have h':∀d∈l,s d=true→r d=true:=fun d hd=>h d (eC _ hd);clear h
   induction l with
   | nil=>exact ay _
   | cons y l ih=>
    have ih:=ih fun d hd=>h' d (eC _ hd);have hy:=h' y d5;rw [kT,kT];by_cases sy:s y=true
    ·rw [ae sy,ae (hy sy),fG,fG]
     lia
    ·rw [aa sy]
     split
     ·rw [fG]
      lia
     ·exact ih
  rw [kT,kT];rcases bO.mp hc with rfl | hc
  ·rw [xN,aa (by decide),ae rc,fG]
   lia
  ·have ih:=IE (fun d hd=>h d (eC _ hd)) hc rc xN
   by_cases sx:s x=true
   ·rw [ae sx,ae (h x d5 sx),fG,fG]
    lia
   ·rw [aa sx]
    split
    ·rw [fG]
     lia
    ·exact ih
variable {P:List Nat}
theorem R0(pm:P.Perm (List.range n))(h:lS n (rL L) P):DA n (aL n L) (fun a=>P.reverse.idxOf a):=fun a b c an bn cn ab bc e1 e2=>by
 have po:P.reverse.Perm (List.range n):=(me P).trans pm;obtain ⟨A,B,e⟩:=List.append_of_mem (pm.mem_iff.mpr (cR.mpr bn));have er:P.reverse=B.reverse++b::A.reverse:=by rw [e];simp
 have nd:=oR po;rw [er,ic] at nd;obtain ⟨_,nx,dj⟩:=nd;obtain ⟨nb,_⟩:=kL.mp nx;have ib:P.reverse.idxOf b=B.reverse.length:=by rw [er,n8,aa fun h=>dj b h b d5 rfl,wc,fj]
 have iA:∀d,d∈A→P.reverse.idxOf b<P.reverse.idxOf d:=fun d hd=>by
  have hr:d∈A.reverse:=kP.mpr hd;have db:d≠b:=fun z=>nb (z▸hr);rw [ib,er,n8,aa fun h=>dj d h d (eC _ hr) rfl,List.idxOf_cons,show (b == d)=false from by simpa using db.symm]
  simp only [cond_false];lia
 have iB:∀d,d<n→P.reverse.idxOf b<P.reverse.idxOf d→d∈A:=fun d dn lt=>by
  have hm:=(fu po).mpr dn;rw [er,cY,bO] at hm;rcases hm with hm | rfl | hm
  ·rw [ib,er,n8,ae hm] at lt
   have:=j9 hm;lia
  ·lia
  ·exact kP.mp hm
 refine ie fun no=>?_;have cA:=iB c cn bc;have aA:a∉A:=fun z=>by have:=iA a z;have ab:P.reverse.idxOf a<P.reverse.idxOf b:=ab;lia
 have le:=h A b B e a an aA;have Al:∀d∈A,d<n:=fun d hd=>cR.mp (pm.mem_iff.mp (by rw [e];simp [hd]))
 have lt:=IE (r:=rL L a) (s:=rL L b) (l:=A) (fun d hd sd=>by
  refine ie fun nr=>no ⟨d,Al d hd,iA d hd,⟨bn,Al d hd,m8.mp sd⟩,fun z=>nr (m8.mpr z.2.2)⟩) cA (m8.mpr e1.2.2) (by
  cases z:rL L b c with
  | false=>rfl
  | true=>exact absurd ⟨bn,cn,m8.mp z⟩ e2)
 lia
theorem R1(pw:L.Pairwise lexLt)(lt:∀z∈L,0≤z.1∧z.1<z.2∧z.2<(n:Int))(ho:o.Perm (List.range n))(f:dQ n L o L)(pm:P.Perm (List.range n))(h:lS n (rL L) P):dQ n L P.reverse L:=by
 have po:P.reverse.Perm (List.range n):=(me P).trans pm;refine DD po pw lt (RZ (ID ho f) (fun a b an bn e=>ie fun z=>jU ho an bn z e) (fun a b an bn e=>ie fun z=>jU po an bn z e) g_ (fun a h=>?_) (R0 pm h) fun a an=>?_);·rcases h.2.2 with e | e <;> (have:=lt _ e;lia)
 ·have:=j9 ((fu po).mpr an)
  rw [mZ po] at this;exact this
end My
namespace L2
open PySem PySem.W PyProof.Rows
section
variable {prog:Program} {w:World} {A:Around} {E:aR} {s:Shared}
end
open AutoSeq1 (wpAny_loadPart')
section
variable {prog:Program} {w:World} {A:Around} {E:aR} {s:Shared}
end
end L2
namespace My
open PySem L2
end My
namespace L2
open PySem PySem.Spec PyProof.Rows My
theorem R5{wi:TI}{ρ:St→St}{tt:TT}{te:TE}{σ:St}{H:Hp}{Q:VK}{xs:List V}(c:V→Bool)(gm:∀R:It→Hp→Prop,(∀J H1,ak H H1→lE J xs H1→R J H1)→wi σ H R)(hn:xs.length<sizeLine)
  (test:∀x∈xs,∀(Hc:Hp) (R:Bool→Hp→Prop),ak H Hc→(∀Hd,ak Hc Hd→R (c x) Hd)→tt (some x::ρ σ) Hc R)
  (elem:∀(x:V) (Hc:Hp) (R:VK),R x Hc→te (some x::ρ σ) Hc R)
  (fin:∀D Hc,H D=none→ak H Hc→Hc D=some (.lst (xs.filter c))→Q (.ref D) Hc):gh wi ρ tt te σ H Q:=by
 refine gm _ fun J H1 s1 js=>?_;intro D nD;refine ⟨fun i m ys Hc=>m=xs.length-i∧i≤xs.length∧Hc D=some (.lst ys)∧ak H1 Hc∧ys.length≤i∧ys=(xs.take i).filter c,⟨_,rfl,bU _,au,eG (ak.refl H1) nD,ay _,rfl⟩,?_⟩;rintro i m ys Hc ⟨rfl,hi,eD,sH,ly,hP⟩;refine ⟨eD,?_⟩;by_cases aZ:i<xs.length
 ·refine .inr ⟨js.go i Hc sH aZ,fun x H' hy=>?_⟩
  obtain ⟨rfl,hx⟩:=js.d8 i Hc x H' sH hy;have ex:=hx aZ;have mx:x∈xs:=nU ex;have tk:xs.take (i+1)=xs.take i++[x]:=by rw [j8,ex];rfl
  refine test x mx _ _ (s1.trans sH) fun Hd sd=>?_;have Ar:=sd _ _ eD;have IF:=sH.trans sd;by_cases hb:c x=true
  ·rw [ae hb]
   refine elem x _ _ ⟨Ar,by lia,xs.length-(i+1),by lia,rfl,aZ,au,eG IF nD,by simp;lia,?_⟩
   rw [tk,kS,←hP,kT,ae hb];rfl
  ·rw [aa hb]
   refine ⟨xs.length-(i+1),by lia,rfl,aZ,Ar,IF,by lia,?_⟩
   rw [tk,kS,←hP,kT,aa hb,List.filter_nil,j4]
 ·have e:i=xs.length:=by lia
  subst e;rw [gu] at hP;subst hP;exact .inl ⟨js.stop _ Hc sH (ay _),fin D Hc (none_of s1 nD) (s1.trans sH) eD⟩
end L2
namespace My
open PySem L2
def m_(g:Nat→List Nat)(zs:List Nat)(p:Nat):List Nat:=(g p).filter fun q=>decide (q∈zs)
def tY(g:Nat→List Nat)(zs:List Nat)(p a:Nat):List Nat:=(m_ g zs p).filter fun b=>!decide (b=a) && !decide (b∈g a)
def jV(g:Nat→List Nat)(zs:List Nat)(p:Nat):Bool:=((m_ g zs p).filter fun a=>!(tY g zs p a).isEmpty).isEmpty
theorem DE(c:V→Bool)(l:List Nat):(l.map fun k:Nat=>V.int (k:Int)).filter c=(l.filter fun k:Nat=>c (.int (k:Int))).map fun k:Nat=>V.int (k:Int):=by rw [List.filter_map];rfl
variable {g:Nat→List Nat} {zs:List Nat}
theorem IG{p:Nat}:jV g zs p=true↔∀a b,a∈g p→b∈g p→a∈zs→b∈zs→b≠a→b∈g a:=by
 unfold jV;rw [List.isEmpty_iff,y9];constructor
 ·intro h a b ha hb az bz ne
  have h1:=h a (fY.mpr ⟨ha,bA az⟩);rw [Bool.not_eq_true,Bool.not_eq_false'] at h1;rw [List.isEmpty_iff] at h1;unfold tY at h1;rw [y9] at h1;have h2:=h1 b (fY.mpr ⟨hb,bA bz⟩);rw [bH ne,Bool.not_false,Bool.true_and,Bool.not_eq_true,Bool.not_eq_false'] at h2;exact eR h2
 ·intro h a ha
  rw [Bool.not_eq_true,Bool.not_eq_false',List.isEmpty_iff];unfold tY;rw [y9];intro b hb;obtain ⟨R6,R7⟩:=fY.mp ha;obtain ⟨As,lT⟩:=fY.mp hb;by_cases e:b=a
  ·rw [bA e]
   simp
  ·rw [bA (h a b R6 As (eR R7) (eR lT) e)]
   simp
def R8:Sp:=fun vs H Q _=>∃(D lf:Addr) (n:Nat) (rs:Nat→Addr) (g:Nat→List Nat) (zs:List Nat),vs=[.ref D,.ref lf]∧jm H D n rs g∧(∀i,i<n→∀j∈g i,j<n)∧(∀i,i<n→(g i).length≤900)∧H lf=some (.lst (zs.map fun k:Nat=>V.int (k:Int)))∧(∀z∈zs,z<n)∧zs.length≤100 ∧
 ∀(H':Hp) (r:Addr),ak H H'→H r=none→H' r=some (.lst ((zs.filter (jV g zs)).map fun k:Nat=>V.int (k:Int)))→Q (.ref r) H'
theorem IH(k:Nat):tU (.int (k:Int))=k:=d6 k
structure tZ (n:Nat) (g:Nat→List Nat) (zs fs:List Nat):Prop where
 pm:(zs++fs).Perm (List.range n)
 cl:∀A x B,fs=A++x::B→∀b c,(b∈B∨b∈zs)→(c∈B∨c∈zs)→b≠c→b∈g x→c∈g x→c∈g b
theorem tZ.step{n:Nat}{g:Nat→List Nat}{zs fs:List Nat}{j:Nat}(h:tZ n g zs fs)(jz:j∈zs)(jf:jV g zs j=true):tZ n g (zs.erase j) (fs++[j]):=by
 refine ⟨?_,fun A x B e b c hb hc ne gb gc=>?_⟩
 ·refine List.Perm.trans ?_ h.pm
  have h1:=List.perm_cons_erase jz;have h2:(zs.erase j++(fs++[j])).Perm ((j::zs.erase j)++fs):=by rw [←fF];exact pP
  exact h2.trans (h1.symm.append_right fs)
 ·rcases List.eq_nil_or_concat B with rfl | ⟨B',y,rfl⟩
  ·have e':=y_ e rfl
   have ex:=List.cons.inj e'.2;rw [←ex.1] at gb gc;have jW:b∈zs:=by
    rcases hb with h | h;·cases h
    ·exact za h
   have eS:c∈zs:=by
    rcases hc with h | h;·cases h
    ·exact za h
   exact IG.mp jf b c gb gc jW eS (Ne.symm ne)
  ·have e2:fs++[j]=(A++x::B')++[y]:=by rw [e,List.concat_eq_append];simp
   obtain ⟨e3,e4⟩:=y_ e2 rfl;have ey:=(List.cons.inj e4).1;subst ey;have cv:∀z,(z∈B'.concat j∨z∈zs.erase j)→(z∈B'∨z∈zs):=fun z hz=>by
    rcases hz with h | h
    ·rw [List.concat_eq_append,cY,bI] at h
     rcases h with h | h;·exact .inl h
     ·exact .inr (h▸jz)
    ·exact .inr (za h)
   exact h.cl A x B' e3 b c (cv b hb) (cv c hc) ne gb gc
variable {n:Nat} {L:aw}
theorem tZ.R9{fs:List Nat}(h:tZ n g [] fs)(nb:fb n L g):m9 n (aL n L) (fun a=>fs.idxOf a):=by
 intro a b c an bn cn ab ac bc e1 e2;have pm:=h.pm;rw [vT] at pm;have mem:∀x,x<n→x∈fs:=fun x hx=>pm.mem_iff.mpr (cR.mpr hx);obtain ⟨A,B,e⟩:=List.append_of_mem (mem a an);have nd:fs.Nodup:=pm.nodup_iff.mpr vX;have aA:a∉A:=fun hm=>by rw [e,ic] at nd;exact nd.2.2 a hm a (by simp) rfl
 have ia:fs.idxOf a=A.length:=by rw [e,n8,aa aA,wc];lia
 have II:∀x,x<n→A.length<fs.idxOf x→x∈B:=fun x xn hx=>by
  have hm:=mem x xn;rw [e] at hm;rcases cY.mp hm with h | h
  ·have:fs.idxOf x<A.length:=by rw [e,n8,ae h];exact j9 h
   lia
  ·rcases bO.mp h with h | h
   ·subst h
    lia
   ·exact h
 dsimp only at ab ac;rw [ia] at ab ac;have hb:b∈g a:=(nb a b an).mpr e1.2.2;have hc:c∈g a:=(nb a c an).mpr e2.2.2;exact ⟨bn,cn,(nb b c bn).mp (h.cl A a B e b c (.inl (II b bn ab)) (.inl (II c cn ac)) bc hb hc)⟩
theorem IJ(f:Nat→Nat):∀(zs:List Nat),zs≠[]→∃z∈zs,∀y∈zs,f z≤f y
 | [],h=>absurd rfl h
 | [z],_=>⟨z,by simp,fun y hy=>by rw [bI.mp hy];exact ay _⟩
 | z::w::l,_=>by
  obtain ⟨m,hm,h⟩:=IJ f (w::l) (by simp)
  by_cases e:f z≤f m
  ·refine ⟨z,by simp,fun y hy=>?_⟩
   rcases bO.mp hy with rfl | hy;·exact ay _
   ·exact b9 e (h y hy)
  ·refine ⟨m,eC _ hm,fun y hy=>?_⟩
   rcases bO.mp hy with rfl | hy;·lia
   ·exact h y hy
theorem R_{o:List Nat}(ho:o.Perm (List.range n))(cl:m9 n (aL n L) (fun a=>o.idxOf a))(t8:qH L)(nb:fb n L g)(hz:zs≠[])(zn:∀z∈zs,z<n):zs.filter (jV g zs)≠[]:=by
 obtain ⟨z,mz,h⟩:=IJ (fun a=>o.idxOf a) zs hz;intro e;rw [y9] at e;refine e z mz (IG.mpr fun a b ga gb az bz ne=>?_);have inj:∀x y,x<n→y<n→o.idxOf x=o.idxOf y→x=y:=fun x y hx hy e=>by have mx:x∈o:=ho.mem_iff.mpr (cR.mpr hx);have my:y∈o:=ho.mem_iff.mpr (cR.mpr hy);have h1:=v_ (j9 mx);have h2:=v_ (j9 my);rw [←h1,←h2];simp only [e]
 have nz:∀x,x∈g z→x≠z:=fun x hx e=>by
  subst e;rcases (nb x x (zn _ mz)).mp hx with h | h;·exact t8 _ h rfl
  ·exact t8 _ h rfl
 have lt:∀x,x∈g z→x∈zs→o.idxOf z<o.idxOf x:=fun x hx xz=>by
  have h1:=h x xz;rcases Nat.lt_or_ge (o.idxOf z) (o.idxOf x) with h2 | h2;·exact h2
  ·exact absurd (inj x z (zn x xz) (zn z mz) (by lia)) (nz x hx)
 exact (nb a b (zn a az)).mpr (cl z a b (zn z mz) (zn a az) (zn b bz) (lt a ga az) (lt b gb bz) (Ne.symm ne) ⟨zn z mz,zn a az,(nb z a (zn z mz)).mp ga⟩ ⟨zn z mz,zn b bz,(nb z b (zn z mz)).mp gb⟩).2.2
def Sa(K:aJ):Sp:=fun vs H Q _=>∃(P a tp:Addr) (ns:List Int) (n:Nat) (L:aw),vs=[.ref P,.ref tp]∧a_ H P a∧a7 K (er P H) a (ns.map V.int)∧tp≠P∧cQ H tp n L∧L.Pairwise lexLt∧(∀z∈L,0≤z.1∧z.1<z.2∧z.2<(n:Int))∧1≤n∧n≤30∧L.length≤450 ∧
 (∀H':Hp,aF P H H'→a_ H' P a→(∀o,o.Perm (List.range n)→¬dQ n L o L)→Q .aN H') ∧
 ∀(l:Addr) (o:List Nat) (H':Hp),aF P H H'→a_ H' P a→l≠P→H l=none→H' l=some (.lst (o.map fun k:Nat=>V.int (k:Int)))→o.Perm (List.range n)→dQ n L o L→Q (.ref l) H'
open PySem L2 Classical
theorem eA{a b:TS}{D:Ends}{σ:St}{H:Hp}(h:∀R:St→Hp→Prop,(∀σ H,b D σ H→R σ H)→a {D with nx:=R} σ H):BX a b D σ H:=h _ fun _ _ h=>h
end My
namespace L2
open PySem PySem.Spec PyProof.Rows
def IK(ps:Array Value):Obj:={cls:=.none,data:=.fields ps}
def IL(Pt:Addr)(H:Hp):Prop:=∀b,H b=none∨(∃o xs,H b=some (.bb o (.lst xs)))∨(b=Pt∧H b=some (.c_ #[]))
def kG(base:Heap)(mg:cH):Prop:=
 ∃bm o,mg "__builtins__"=some (.ref bm)∧bm≠builtinsNs∧base.get? bm=some o∧o.cls=.type "module"∧o.dict=some builtinsNs∧o.data=.plain
variable {P:Program} {w:World} {K:aJ} {mg:cH} {k:Nat} {Pt:Addr} {fd:FuncData} {x:Str} {sp:Sp}
theorem Sb{mb:cH}{CX:iF}{fa a:Addr}{s₁:Shared}{vs:List Value}{ns:List Int}
  (KX:K.In s₁.heap) (Au:s₁.heap.Ns mainGlobals mg) (hb:s₁.heap.Ns builtinsNs mb) (qC:∀x:Str,x ≠ "__name__"→mb x=bootBuiltins x) (Sd:s₁.heap.NoLimit) (hg:s₁.gens = #[])
  (hT:s₁.heap.get? Pt=some (IK #[])) (DF:K.lookup Pt=none) (DG:isCodeTable s₁.heap Pt)
  (ha:s₁.heap.get? a=some {cls:=.type "list",data:=.seq vs.toArray}) (hi:IntsAre vs ns) (hl:ns.length≤sizeLine) (hr:dF k callerA)
  (Se:kG s₁.heap mg) (F:∀base:Heap,K.In base→base.Ns mainGlobals mg→kG base mg→bY P w K mg base CX k fa fd [x] sp) (qL:∀(s:Shared) (u:Value),BindsTo s fd ⟨[u],[]⟩ [(x,u)])
  (lq:∀H:Hp,IL Pt H→H Pt=some (.c_ #[])→a7 K H a (ns.map V.int)→sp [.ref a] H (fun v _=>v=.bl true) fun _ _ _=>False)
  (Sf:∀H e s',CX [] H s₁ (fun _ _ _=>False) e s'→False) :
  codeAny (model P w) callerA (.call (.ref fa) ⟨[.ref a],[]⟩) (fun r s'=>r=.ok (.ret (.bool true))∧OldK s₁.heap s'.heap∧s'.os=s₁.os∧AllBare s'.gens) s₁:=by
 have rv:=Gq hi;have Sg:=hi.length;have aT:a≠Pt:=fun z=>by rw [z,hT] at ha;cases ha
 have core:∀H:Hp,IL Pt H→H Pt=some (.c_ #[])→a7 K H a (ns.map V.int)→cq P w H s₁.heap→(∀b,H b≠none→b=a∨b=Pt)→(H a≠none→K.lookup a=none)→
   codeAny (model P w) callerA (.call (.ref fa) ⟨[.ref a],[]⟩) (fun r s'=>r=.ok (.ret (.bool true))∧OldK s₁.heap s'.heap∧s'.os=s₁.os∧AllBare s'.gens) s₁:=by
  intro H hO hP hS ax hA hK;have DH:∀{b:Addr} {o:Obj},s₁.heap.get? b=some o→H b=none→(kW s₁.heap H).get? b=some o:=fun e n=>L6 e n;have wM:∀{b:Addr} {o:Obj} {es:Array DictEntry} {ep:Nat},s₁.heap.get? b=some o→o.data=.dict es ep→H b=none:=fun{b o es ep} e d=>by
   cases q:H b with
   | none=>rfl
   | some u=>
    rcases hA b (by rw [q];simp) with e' | e'
    ·subst e'
     rw [ha] at e;cases e;have d':Data.seq vs.toArray _=Data.dict es ep:=d;cases d'
    ·subst e'
     rw [hT] at e;cases e;have d':Data.fields _=Data.dict es ep:=d;cases d'
  have Av:∀{b:Addr} {m:cH},s₁.heap.Ns b m→(kW s₁.heap H).Ns b m:=fun{b m} ⟨o,es,ep,e,d,r⟩=>⟨o,es,ep,DH e (wM e d),d,r⟩;have IM:K.In (kW s₁.heap H):=fun b o e=>DH (KX b o e) (by
   cases q:H b with
   | none=>rfl
   | some u=>
    rcases hA b (by rw [q];simp) with e' | e'
    ·subst e'
     rw [hK (by rw [q];simp)] at e;cases e
    ·subst e'
     rw [DF] at e;cases e)
  have hM:Mod K mg (kW s₁.heap H):=⟨IM,Av Au,⟨mb,Av hb,qC⟩,let ⟨mc,h1,h2⟩:=Sd;⟨mc,Av h1,h2⟩⟩
  have e0:zw P w K mg (kW s₁.heap H) callerA [] s₁ H:=⟨rfl,hM,fun b o e=>L7 e,Nat.le_of_eq (L5 _ _),trivial,fun b hb=>absurd (show b∈([]:List Addr) from hb) (by simp),ax,.of_eq hg⟩
  have Sh:kG (kW s₁.heap H) mg:=by
   obtain ⟨bm,o,b1,b2,b3,b4,b5,b6⟩:=Se;refine ⟨bm,o,b1,b2,DH b3 ?_,b4,b5,b6⟩;cases q:H bm with
   | none=>rfl
   | some u=>
    rcases hA bm (by rw [q];simp) with e' | e'
    ·subst e'
     rw [ha] at b3;cases b3;cases b6
    ·subst e'
     rw [hT] at b3;cases b3;cases b6
  refine codeAny_mono ((F _ IM (Av Au) Sh).run callerA [] s₁ H ⟨[.ref a],[]⟩ [.ref a] [.ref a] _ _ hr e0 (qL s₁ (.ref a)) (.cons rfl .nil) (lq H hO hP hS)) fun r s' h=>?_;cases r with
  | error e=>exact (Sf H e s' h).elim
  | ok fl=>
   cases fl with
   | next=>exact False.elim h
   | brk=>exact False.elim h
   | cont=>exact False.elim h
   | ret u=>
    obtain ⟨v,H',os,bare,un,IP,r',q⟩:=h;have q':v=.bl true:=q;subst q';obtain rfl:u=Value.bool true:=r';have tab:∃more:Array Value,s'.heap.get? Pt=some (IK (#[]++more)):=by obtain ⟨more,e⟩:=un.gx Pt _ hP;exact ⟨more,(show bV P w H' s'.heap Pt (.c_ (#[]++more)) from IP Pt _ e)⟩
    refine ⟨rfl,⟨fun b o e=>?_,fun b o e=>?_⟩,os,bare⟩
    ·by_cases IQ:b=Pt
     ·subst IQ
      rw [hT] at e;cases e;obtain ⟨more,e⟩:=tab;exact .inr (.inl ⟨DG,rfl,#[],more,rfl,e⟩)
     ·refine .inl ?_
      cases q:H b with
      | none=>exact un.keep b o e q (by intro z;exact absurd (show b∈([]:List Addr) from z) (by simp)) (by simp)
      | some u=>
       rcases hO b with z | ⟨ob,xs,z⟩ | ⟨z,_⟩;·rw [q] at z;cases z
       ·have z2:=un.gw b ob _ z
        obtain ⟨e1,_⟩:=ax b _ z;obtain ⟨e2,_⟩:=IP b _ z2;rw [e] at e1;cases e1;exact e2
       ·exact absurd z IQ
    ·exact un.there b o e (by simp)
 have Aw:∀H:Hp,bV P w H s₁.heap Pt (.c_ #[]):=fun H=>hT;cases hk:K.lookup a with
 | some o=>
  have e:=KX a o hk;rw [ha] at e;cases e;refine core (fun b=>if b=Pt then some (.c_ #[]) else none) (fun b=>?_) (ae rfl) (.inr ⟨_,vs.toArray,_,hk,rfl,rfl,rfl,by rw [b_,Sg];exact hl,by simpa using rv⟩) (fun b u z=>?_) (fun b z=>?_) fun z=>absurd (aa aT) z
  ·by_cases h:b=Pt
   ·exact .inr (.inr ⟨h,ae h⟩)
   ·exact .inl (aa h)
  ·by_cases h:b=Pt
   ·have z':=(ae h).symm.trans z
    cases z';subst h;exact Aw _
   ·have z':=(aa h).symm.trans z
    cases z'
  ·by_cases h:b=Pt
   ·exact .inr h
   ·exact absurd (aa h) z
 | none=>
  refine core (fun b=>if b=a then some (.bb {cls:=.type "list",data:=.seq vs.toArray} (.lst (ns.map V.int))) else if b=Pt then some (.c_ #[]) else none) (fun b=>?_) ((aa (Ne.symm aT)).trans (ae rfl)) (.inl (.inr ⟨{cls:=.type "list",data:=.seq vs.toArray},ae rfl⟩)) (fun b u z=>?_) (fun b z=>?_) fun _=>hk
  ·by_cases hb:b=a
   ·exact .inr (.inl ⟨_,_,ae hb⟩)
   ·by_cases h:b=Pt
    ·exact .inr (.inr ⟨h,(aa hb).trans (ae h)⟩)
    ·exact .inl ((aa hb).trans (aa h))
  ·by_cases hb:b=a
   ·have z':=(ae hb).symm.trans z
    cases z';subst hb;exact ⟨ha,by rw [aH];exact hl,vs,_,rv,ha⟩
   ·have z1:=(aa hb).symm.trans z
    by_cases h:b=Pt
    ·have z':=(ae h).symm.trans z1
     cases z';subst h;exact Aw _
    ·have z':=(aa h).symm.trans z1
     cases z'
  ·by_cases hb:b=a
   ·exact .inl hb
   ·by_cases h:b=Pt
    ·exact .inr h
    ·exact absurd ((aa hb).trans (aa h)) z
open PySem PySem.Spec PyProof.Rows PySem.W
def tabIn(K:aJ)(fd:FuncData)(P:Addr):Bool:=match fd.code with | .ref c=>PySem.W.codeHdIn K c P | _=>false
def xO(c:Addr)(q:Str):HO:=.ext fun h=>h.CodeRec (.ref c) q
def de(Pt:Addr)(pl:Pos)(q:Str)(H:Hp):Prop:=
 H Pt=some (.c_ #[])∨∃c,c≠Pt∧H Pt=some (.c_ #[rawInt pl.line,rawInt pl.col,.ref c])∧H c=some (xO c q)
def dC(Pt:Addr)(H H':Hp):Prop:=∀b o,b≠Pt→H b=some o→H' b=some o
variable {H:Hp} {c:Addr} {q:Str}
theorem xO.ok{h:Heap}(x:h.CodeRec (.ref c) q):bV P w H h c (xO c q):=by
 refine ⟨x,?_,fun h1 h2 y k=>?_⟩
 ·obtain ⟨c',o,vs,t,e,g,_⟩:=x
  cases e;exact ⟨o,g⟩
 ·obtain ⟨c',o,vs,t,e,g,r⟩:=y
  cases e;exact ⟨c,o,vs,t,rfl,k o g,r⟩
def jX(x:Str)(p:Pos):Arguments:={posonlyargs:=[],args:=[{arg:=x,annotation:=none,pos:=p}],vararg:=none,kwonlyargs:=[],kw_defaults:=[],kwarg:=none,defaults:=[]}
def hI(x c:Str):Scope:={kind:=.function,names:=[(x,.local),(c,.free)],isGenerator:=false,isCoroutine:=false,more:=[]}
def jY(x c:Str)(p1 p2 p3:Pos):Expr:=.Subscript (.Name c p1) (.Name x p2) p3
variable {cc:Addr}
theorem Si{c:Str}{env:Env}(h:env.cells.lookup c=some cc):closureFor (hI x c) env=pure [(c,cc)]:=by unfold closureFor hI cellOf;simp [h]
variable {s:Shared} {f c' cnt:Addr} {m:cH} {name cn:Str} {p p1 p2 p3:Pos} {pm fW:Value}
theorem Sj{prog:Program}{A:Around}{h₀:Heap}{L:Addr}{news:aQ}{items:Array Value}{k z:Int}{u t:Tok}
  (Sk:A.depth<recursionLimit) (F:Fr h₀ L s.heap m) (N:News h₀ L s.heap news)
  (hf:s.heap.get? f=some (kla_obj name q (jX x p) (jY x cn p1 p2 p3) (hI x cn) [(cn,cc)] pm c' fW)) (dW:s.heap.CodeRec (.ref c') q)
  (mr:s.heap.IsCell cc (some (.ref cnt))) (hl:s.heap.IsList cnt items) (lim:s.heap.NoLimit) (h0:0≤k) (Cj:k<2 ^ 63) (hx:items[k.toNat]?=some (.int z t))
  (qL:bindArgs (kla_fn name q (jX x p) (jY x cn p1 p2 p3) (hI x cn) [(cn,cc)] pm (.ref c') fW) ⟨[.int k u],[]⟩=pure [(x,.int k u)])
  (gg:(cn == x)=false) (xP:(x == ("__debug__":Str))=false) (hd2:(cn == ("__debug__":Str))=false) (xQ:(cn == ("__classdict__":Str))=false) :
  wpAny (model prog w) A (call (.ref f) [.int k u]) (KskEnd h₀ L m news z s) (fun _ _=>False) s:=by
 refine wpAny_call (kla_callFunE Sk hf rfl rfl rfl rfl dW ?_);rw [qL];refine ba (wpAny_newFunctionEnv ?_ ?_ (fun h₁ Au lF=>?_) rfl)
 ·intro y hy
  rcases bO.mp hy with rfl | hy;·intro z;cases z
  ·rcases bO.mp hy with rfl | hy
   ·intro z;cases z
   ·cases hy
 ·intro y hy
  obtain rfl:y=(x,Value.int k u):=bI.mp hy;show List.lookup x [(x,NameKind.local),(cn,NameKind.free)]=_;simp [List.lookup]
 ·have xR:∀b o,s.heap.get? b=some o→h₁.get? b=some o:=fun b o e=>lF.extBut b o (cx (aY e)) (b8 _ e)
  refine ⟨lim.fresh _ lF,kla_codeExpr ?_⟩;refine Subscript_ (wpAny_Name (wpAny_loadName_free (c:=cc) (v:=.ref cnt) rfl ?_ ?_ ?_ ?_ xQ) hd2)
  ·show List.lookup cn [(x,NameKind.local),(cn,NameKind.free)]=_
   simp [List.lookup,gg]
  ·show List.lookup cn [(cn,cc)]=_
   simp [List.lookup]
  ·obtain ⟨o,ho,hd⟩:=mr
   exact ⟨o,xR _ _ ho,hd⟩
  ·refine wpAny_Name (wpAny_loadName_local (v:=.int k u) rfl ?_ Au ?_ ?_) xP
   ·show List.lookup x [(x,NameKind.local),(cn,NameKind.free)]=_
    simp [List.lookup]
   ·show List.lookup x [(x,Value.int k u)]=_
    simp [List.lookup]
   ·refine item_listR (x:=.int z t) ?_ h0 Cj hx ?_
    ·obtain ⟨o,ho,r⟩:=hl
     exact ⟨o,xR _ _ ho,r⟩
    ·exact ⟨h₁,_,t,rfl,rfl,⟨by obtain ⟨o,es,ep,ho,r⟩:=F.ns;exact ⟨o,es,ep,xR _ _ ho,r⟩,fun b o e=>xR b o (F.keep b o e),F.above⟩,fun p hp=>⟨xR _ _ (N p hp).1,(N p hp).2⟩⟩
open PySem PySem.Spec PyProof.Rows PySem.W Att
variable {X:Cx} {pins:aQ} {σ:St} {h':Heap}
theorem Inv.Sl{t':Nat}(I:Inv X pins σ H s)(hm:s.heap.Ns X.env.locals m)(d_:h'.Ns X.env.locals m)
  (k:∀b o,b≠X.env.locals→s.heap.get? b=some o→h'.get? b=some o):Inv X pins σ H {s with heap:=h',toks:=t'}:=by
 have kY:∀b u,H b=some u→b≠X.env.locals:=fun b u e z=>by rw [z,I.free] at e;cases e
 refine I.step (g':=s.gens) (d':=s.drawn) (ch:=[]) (fun _ z=>nomatch z) (fun b o n _ _ e _=>k b o n e) (fun b o n _ _ e _=>⟨o.slots,k b o n e⟩) (fun _ _ _ _ n=>n) (fun b o _ e=>?_) (fun _ _ e=>e) (fun _ _ _ e=>e) (fun b ps e=>⟨#[],by rw [e];simp⟩) (fun m2 ng=>?_) (fun b u e=>?_) I.bare
 ·by_cases n:b=X.env.locals
  ·obtain ⟨o',_,_,ho,_⟩:=d_
   exact ⟨o',by rw [n];exact ho⟩
  ·exact ⟨o,k b o n e⟩
 ·obtain ⟨o,es,ep,ho,hd,hs,r⟩:=hm
  obtain ⟨o2,YY,YZ,IS,hd2,qj,r2⟩:=ng;rw [ho] at IS;cases IS;rw [hd] at hd2;cases hd2;have:m2=m:=funext fun x=>(r2 x).symm.trans (r x);rw [this];exact d_
 ·refine (I.ax b u e).i6 (fun c v hc q=>k c v ?_ q) (fun _ q=>q) fun _ _ q=>q
  rcases hc with z | z;·rw [z];exact kY b u e
  ·exact kY c _ z
theorem Inv.kY(I:Inv X pins σ H s){b:Addr}{o:Obj}(e:s.heap.get? b=some o)(hd:∀es ep,o.data≠.dict es ep):b≠X.env.locals:=fun z=>by obtain ⟨m,⟨o',es,ep,mj,BS,_⟩,_⟩:=I.loc;rw [z,mj] at e;cases e;exact hd es ep BS
def IT(xs:List Nat)(cs:List Int)(m:Nat):Prop:=m∈xs∧∀y∈xs,cs.getD y 0≤cs.getD m 0
variable {l:Addr}
theorem Sm{xs:List Nat}{cs:List Int}{Q:aR}
  (I:Inv X pins σ H s) (hr:dF 1 X.A)
  (hf:s.heap.get? f=some (kla_obj name q (jX x p) (jY x cn p1 p2 p3) (hI x cn) [(cn,cc)] pm c' fW)) (dW:s.heap.CodeRec (.ref c') q)
  (mr:s.heap.IsCell cc (some (.ref cnt))) (hl:a7 X.K H l (xs.map fun(k:Nat)=>V.int (k:Int))) (gg:xs≠[]) (hc:a7 X.K H cnt (cs.map V.int)) (DJ:∀y∈xs,y<cs.length)
  (qL:∀(k:Int) (u:Tok),bindArgs (kla_fn name q (jX x p) (jY x cn p1 p2 p3) (hI x cn) [(cn,cc)] pm (.ref c') fW) ⟨[.int k u],[]⟩=pure [(x,.int k u)])
  (DK:(cn == x)=false) (xP:(x == ("__debug__":Str))=false) (hd2:(cn == ("__debug__":Str))=false) (xQ:(cn == ("__classdict__":Str))=false)
  (hQ:∀(k:Nat) (t:Tok) (s':Shared),IT xs cs k→Inv X pins σ H s'→Q (.int k t) s') :
  wpAny (model X.prog X.w) X.A (call (.builtin "max") [.ref l] [(Str.ofString "key",.ref f)]) Q X.xe s:=by
 obtain ⟨m,hm,_⟩:=id I.loc;obtain ⟨its,rv,pl,hz⟩:=I.list hl;obtain ⟨Sn,rc,pc,IU⟩:=I.list hc;have xS:its.length=xs.length:=by have:=rv.length;rw [aH] at this;exact this.symm
 have Y0:Sn.length=cs.length:=by have:=rc.length;rw [aH] at this;exact this.symm
 have fL:f≠X.env.locals:=I.kY hf fun _ _ z=>by cases z
 have at':∀{h:Heap} {own:aQ},News (qq s.heap) X.env.locals h (([]++(f,kla_obj name q (jX x p) (jY x cn p1 p2 p3) (hI x cn) [(cn,cc)] pm c' fW)::ledger s.heap X.env.locals f)++own)→
   ∀b o,b≠X.env.locals→s.heap.get? b=some o→h.get? b=some o:=fun{h own} N b o n e=>by
  by_cases hb:b=f
  ·subst hb
   rw [hf] at e;cases e;exact (N _ (kK _ (d5))).1
  ·exact (N (b,o) (kK _ (eC _ (Gp.mpr ⟨n,hb,e⟩)))).1
 have IV:∀{h:Heap},News (qq s.heap) X.env.locals h ([]++(f,kla_obj name q (jX x p) (jY x cn p1 p2 p3) (hI x cn) [(cn,cc)] pm c' fW)::ledger s.heap X.env.locals f)→
   ∀b o,b≠X.env.locals→s.heap.get? b=some o→h.get? b=some o:=fun{h} N=>at' (own:=[]) (by rw [j4];exact N)
 have listAt:∀{h:Heap} {a:Addr} {vs:Array Value},(∀b o,b≠X.env.locals→s.heap.get? b=some o→h.get? b=some o)→PlainL s.heap a vs→h.IsList a vs:=fun{h a vs} k pl=>by obtain ⟨o,n,e,c,d,dd⟩:=pl;exact PlainL.isList ⟨o,n,k a o (I.kY e fun _ _ z=>by rw [dd] at z;cases z) e,c,d,dd⟩
 have kn:∀i,i<xs.length→∃t,its[i]?=some (.int ((xs.getD i 0:Nat):Int) t):=fun i hi=>by
  have e:(xs.map fun(k:Nat)=>V.int (k:Int))[i]?=some (.int ((xs.getD i 0:Nat):Int)):=by rw [bo,bS hi,cG,bS hi];rfl
  obtain ⟨u,eu,ru⟩:=rv.get e;obtain ⟨t,rfl⟩:=ru;exact ⟨t,eu⟩
 have IW:∀i,i<xs.length→xs.getD i 0∈xs:=fun i hi=>by rw [cG,bS hi];exact cy hi
 refine kmk_max (h₀:=qq s.heap) (L:=X.env.locals) (m:=m) (vs:=its) (fun i=>cs.getD (xs.getD i 0) 0) hr.hd (NT hm) (NS fL hf) (fun h F N=>listAt (IV N) pl) (by rw [xS];exact List.length_pos_iff.mpr gg) (fun i v hv h tk own F N=>?_) fun i v h' GB hv hb F N=>?_
 ·have hi:i<xs.length:=by rw [←xS];exact (bW.mp hv).1
  obtain ⟨t,et⟩:=kn i hi;rw [et] at hv;cases hv;have aZ:=DJ _ (IW i hi);have ec:(cs.map V.int)[xs.getD i 0]?=some (.int (cs.getD (xs.getD i 0) 0)):=by rw [bo,bS aZ,cG (l:=cs),bS aZ];rfl
  obtain ⟨u,eu,ru⟩:=rc.get ec;obtain ⟨t2,rfl⟩:=ru;have k:=at' N;refine Sj (A:=X.A.in1) (by have:=hr.dp;show X.A.depth<_;lia) F N (k _ _ fL hf) ?_ ?_ (listAt k pc) ?_ (Int.natCast_nonneg _) ?_ (by simpa using eu) (qL _ _) DK xP hd2 xQ
  ·obtain ⟨c2,o,vs,tt,e,g,dd,r⟩:=dW
   exact ⟨c2,o,vs,tt,e,k _ _ (I.kY g fun _ _ z=>by rw [dd] at z;cases z) g,dd,r⟩
  ·obtain ⟨o,ho,hd⟩:=mr
   exact ⟨o,k _ _ (I.kY ho fun _ _ z=>by rw [hd] at z;cases z) ho,hd⟩
  ·exact I.ok.mod.nolimit.keeps fun b o e=>k b o (fun z=>by have:=aY e;have h1:=I.ok.i8;have h2:=I.ok.above;rw [z] at this;exact absurd (dS this (b9 h1 h2)) (fE _)) (I.bk b o e)
  ·have h1:cs.length≤sizeLine:=by rw [aH] at IU;exact IU
   have h2:=s_;lia
 ·have hi:i<xs.length:=by rw [←xS];exact (bW.mp hv).1
  obtain ⟨t,et⟩:=kn i hi;rw [et] at hv;cases hv;refine hQ (xs.getD i 0) t _ ⟨IW i hi,fun y hy=>?_⟩ (I.Sl hm F.ns (IV N));obtain ⟨j,hj,ej⟩:=sJ hy;have As:=(hb j (by rw [xS];exact hj)).1
  have e2:xs.getD j 0=y:=by rw [←ej,cG,bS hj];rfl
  simp only [e2] at As;exact As
variable {ps:Array Value}
theorem Inv.IY(I:Inv X pins σ H s)(hB:kG X.base X.mg)(hP:H Pt=some (.c_ ps)):s.heap.BuiltinsAt X.mg Pt∧mainGlobals≠Pt:=by
 obtain ⟨bm,o,e1,e2,e3,e4,e5,e6⟩:=hB;refine ⟨⟨bm,o,e1,e2,fun z=>?_,fun z=>?_,I.bk _ _ e3,e4,e5,e6⟩,fun z=>?_⟩
 ·obtain ⟨o',es,ep,ho,hd,_⟩:=I.ok.mod.glob
  rw [z,ho] at e3;cases e3;rw [hd] at e6;cases e6
 ·have:=(I.bs _ _ e3).2
  rw [z,hP] at this;cases this
 ·obtain ⟨o',es,ep,ho,hd,_⟩:=I.ok.mod.glob
  have:=(I.bs _ _ ho).2;rw [z,hP] at this;cases this
variable {pl:Pos}
theorem Inv.grown{fo:Obj}{tk:Nat}(I:Inv X pins σ H s)(hP:H Pt=some (.c_ #[]))(hx:Heap.ExtBut Pt s.heap h')(xT:s.heap.objs.size≤c')(t9:h'.CodeRec (.ref c') q)
  (DL:h'.get? Pt=some (tabObj #[rawInt pl.line,rawInt pl.col,.ref c'])) :
  ∃H',dC Pt H H'∧de Pt pl q H'∧Inv X pins σ H' {s with heap:=h'.push fo,toks:=tk}:=by
 have cP:c'≠Pt:=fun z=>by have e:s.heap.get? Pt=some (tabObj #[]):=I.ax Pt _ hP;have:=aY e;rw [←z] at this;exact absurd (dS this xT) (fE _)
 have cN:H c'=none:=I.ax.fresh xT;have kp:∀b o,b≠Pt→s.heap.get? b=some o→(h'.push fo).get? b=some o:=fun b o n e=>b8 _ (hx b o n e);have So:(h'.push fo).CodeRec (.ref c') q:=t9.push _;have IZ:(h'.push fo).get? Pt=some (tabObj #[rawInt pl.line,rawInt pl.col,.ref c']):=b8 _ DL;refine ⟨upd (upd H Pt (.c_ #[rawInt pl.line,rawInt pl.col,.ref c'])) c' (xO c' q),fun b o n e=>?_,.inr ⟨c',cP,by rw [aG (Ne.symm cP),au],au⟩,I.un ⟨fun b o e n _ _=>?_,fun b o e n hb _=>?_,fun b o e n _=>?_,fun b o e _=>?_,fun b xs e=>?_,fun b o u e=>?_,fun b ps e=>?_⟩ fun b u e=>?_⟩
 ·rw [aG (gv e cN),aG n];exact e
 ·exact kp b o (fun z=>by rw [z,hP] at n;cases n) e
 ·exact ⟨o.slots,kp b o (fun z=>by rw [z,hP] at n;cases n) e⟩
 ·rw [aG (cx (dS (aY e) xT)),aG (fun z=>by rw [z,hP] at n;cases n)];exact n
 ·by_cases n:b=Pt
  ·exact ⟨_,by rw [n];exact IZ⟩
  ·exact ⟨o,kp b o n e⟩
 ·rw [aG (gv e cN),aG (fun z=>by rw [z,hP] at e;cases e)];exact e
 ·rw [aG (gv e cN),aG (fun z=>by rw [z,hP] at e;cases e)];exact e
 ·by_cases n:b=Pt
  ·subst n
   rw [hP] at e;cases e;exact ⟨#[rawInt pl.line,rawInt pl.col,.ref c'],by rw [aG (Ne.symm cP),au];simp⟩
  ·exact ⟨#[],by rw [aG (gv e cN),aG n,e];simp⟩
 ·by_cases hc:b=c'
  ·subst hc
   rw [au] at e;cases e;exact xO.ok So
  ·rw [aG hc] at e
   by_cases n:b=Pt
   ·subst n
    rw [au] at e;cases e;exact IZ
   ·rw [aG n] at e
    refine (I.ax b u e).i6 (fun d v hd g=>kp d v ?_ g) (fun d g=>?_) fun d xs g=>?_
    ·rcases hd with z | z
     ·rw [z];exact n
     ·intro y;rw [y,hP] at z;cases z
    ·rw [aG (gv g cN),aG (fun z=>by rw [z,hP] at g;cases g)];exact g
    ·rw [aG (gv g cN),aG (fun z=>by rw [z,hP] at g;cases g)];exact g
def Sq(K:aJ)(t:TA)(i:Nat)(Pt:Addr)(pl:Pos)(q:Str):TE:=fun σ H Q=>t σ H fun vs H1=>
 ∃(l cnt:Addr) (xs:List Nat) (cs:List Int),vs=[.ref l]∧a7 K H1 l (xs.map fun(k:Nat)=>V.int (k:Int))∧xs≠[]∧σ[i]?=some (some (.ref cnt))∧a7 K H1 cnt (cs.map V.int)∧(∀y∈xs,y<cs.length) ∧
  de Pt pl q H1∧∀(k:Nat) (H2:Hp),IT xs cs k→dC Pt H1 H2→de Pt pl q H2→Q (.int k) H2
theorem a7.st{H':Hp}{xs:List V}(h:a7 K H l xs)(hP:H Pt=some (.c_ ps))(s:dC Pt H H'):a7 K H' l xs:=by
 have ne:∀o,H l=some o→(∀Sr,o≠.c_ Sr)→l≠Pt:=fun o e n z=>by rw [z,hP] at e;exact n ps (Option.some.inj e).symm
 rcases h with (h | ⟨o,h⟩) | h;·exact .inl (.inl (s _ _ (ne _ h fun _ z=>by cases z) h))
 ·exact .inl (.inr ⟨o,s _ _ (ne _ h fun _ z=>by cases z) h⟩)
 ·exact .inr h
theorem Ss{e:Expr}{t:TA}{i:Nat}{pos kp pa:Pos}(ha:PA X [e] t)(hg:Gl X (Str.ofString "max"))(hm:X.mg (Str.ofString "max")=none)(hv:bootBuiltins (Str.ofString "max")=some (.builtin "max"))
  (hr:dF 1 X.A) (hB:kG X.base X.mg) (I0:X.env.code=.ref c) (hC:codeHdIn X.K c Pt=true) (hN:X.N[i]?=some cn) (DM:X.env.kindOf cn=some .cell)
  (qL:∀(cc c':Addr) (q:Str) (pm fW:Value) (k:Int) (u:Tok),bindArgs (kla_fn "<lambda>" q (jX x pa) (jY x cn p1 p2 p3) (hI x cn) [(cn,cc)] pm (.ref c') fW) ⟨[.int k u],[]⟩=pure [(x,.int k u)])
  (DK:(cn == x)=false) (xP:(x == ("__debug__":Str))=false) (hd2:(cn == ("__debug__":Str))=false) (xQ:(cn == ("__classdict__":Str))=false)
  (he:backTo pos (starEach [e] X.env)=(false,eval e X.env)::backTo pos (starEach [] X.env):=by rfl) (lp:(backTo pos (starEach [e] X.env)).any (·.1)=false:=by rfl) :
  PE X (.Call (.Name (Str.ofString "max") p) [e] [⟨some (Str.ofString "key"),.Lambda (jX x pa) (jY x cn p1 p2 p3) (hI x cn) pl,kp⟩] pos) (Sq X.K t i Pt pl (X.env.qual ++ "<lambda>")):=by
 intro pins s σ H Q I h
 refine yI (mB I hg hm hv ?_)
 refine callWith_kw (aK (ha pos pins s σ H _ I h) fun us s1 ⟨xs,H1,I1,r1,q1⟩=>?_) he lp
 obtain ⟨l,cnt,xs,cs,rfl,hl,gg,hσ,hc,DJ,hT,k⟩:=q1
 obtain ⟨u,rfl,ru⟩:=vals1 r1
 cases ru
 show wpAny _ _ (evalAll [(do let v ←eval (.Lambda (jX x pa) (jY x cn p1 p2 p3) (hI x cn) pl) X.env;standAt pos;pure v)]) _ _ s1
 obtain ⟨cc,wA⟩:=I1.ok.has cn (.inl DM)
 have mr:s1.heap.IsCell cc (some (.ref cnt)):=by
  obtain ⟨m,_,hl⟩:=I1.loc
  obtain ⟨u,ru,lk⟩:=hl i cn _ hN hσ (.inr (.inl DM))
  cases ru
  rcases lk with ⟨z,_⟩ | ⟨_,c2,z,g⟩
  ·rw [DM] at z;cases z
  ·rw [wA] at z;cases z;exact g
 have I_:closureFor (hI x cn) X.env=pure [(cn,cc)]:=Si wA
 have Ja:s1.heap.Ns mainGlobals X.mg:=I1.mod.glob.keeps I1.bk
 have Jb:CodeHd s1.heap c Pt:=codeHd_of_K I1.eY hC
 refine wpAny_evalAll_cons (aC (kla_eval rfl ?_))
 have fin:∀(f c':Addr) (pm fW:Value) (s2:Shared) (H2:Hp),dC Pt H1 H2→de Pt pl (X.env.qual ++ "<lambda>") H2→Inv X pins σ H2 s2→s2.heap.IsCell cc (some (.ref cnt))→(∃ps,H1 Pt=some (.c_ ps))→
   s2.heap.get? f=some (kla_obj "<lambda>" (X.env.qual ++ "<lambda>") (jX x pa) (jY x cn p1 p2 p3) (hI x cn) [(cn,cc)] pm c' fW)→s2.heap.CodeRec (.ref c') (X.env.qual ++ "<lambda>")→
   wpAny (model X.prog X.w) X.A (call (.builtin "max") [.ref l] [(Str.ofString "key",.ref f)]) (EP X pins σ Q) X.xe s2:=fun f c' pm fW s2 H2 sm st I2 Su t_ hf dW=>by
  obtain ⟨ps,t_⟩:=t_
  exact Sm I2 hr hf dW Su (hl.st t_ sm) gg (hc.st t_ sm) DJ (fun k u=>qL _ _ _ _ _ k u) DK xP hd2 xQ fun k' t s' mk I3=>⟨.int k',H2,I3,⟨_,rfl⟩,k k' H2 mk sm st⟩
 have Sv:∀{b:Addr} {o:Obj} {v:Option Value},s1.heap.get? b=some o→o.data=.cell v→∀ps,H1 Pt=some (.c_ ps)→b≠Pt:=fun{b o v} g d ps hP z=>by
  have:s1.heap.get? Pt=some (tabObj ps):=I1.ax Pt _ hP
  rw [z,this] at g;cases g;cases d
 rcases hT with hP | ⟨c',cP,hP,Jc⟩
 ·obtain ⟨hb,Jd⟩:=I1.IY hB hP
  refine kla_makeFunction (ps:=#[]) (mg:=X.mg) I_ I1.ok.glob Ja I0 Jb (I1.ax Pt _ hP) trivial rfl Jd hb fun c' fW h' tk hx xT aZ t9 DL=>?_
  refine aC (vM (ba (wpAny_evalAll_nil ?_)))
  obtain ⟨H2,sm,st,I2⟩:=I1.grown (fo:=kla_obj "<lambda>" (X.env.qual ++ "<lambda>") (jX x pa) (jY x cn p1 p2 p3) (hI x cn) [(cn,cc)] ((X.mg "__name__").getD .none) c' fW) (tk:=tk) hP hx xT t9 DL
  refine fin h'.objs.size c' _ fW _ H2 sm st I2 ?_ ⟨_,hP⟩ (dU _ rfl) (t9.push _)
  obtain ⟨o,ho,hd⟩:=mr
  exact ⟨o,b8 _ (hx cc o (Sv ho hd _ hP) ho),hd⟩
 ·obtain ⟨hb,Jd⟩:=I1.IY hB hP
  refine kla_makeFunctionHit (cv:=.ref c') (ps:=#[rawInt pl.line,rawInt pl.col,.ref c']) (mg:=X.mg) I_ I1.ok.glob Ja I0 Jb (I1.ax Pt _ hP) trivial ?_ hb fun fW h' tk hk hsz=>?_
  ·show codeAmong pl [rawInt pl.line,rawInt pl.col,.ref c']=_
   simp [codeAmong,rawInt]
  refine aC (vM (ba (wpAny_evalAll_nil ?_)))
  have kp:∀b o,s1.heap.get? b=some o→(h'.push {cls:=.type "function",data:=.func (kla_fn "<lambda>" (X.env.qual ++ "<lambda>") (jX x pa) (jY x cn p1 p2 p3) (hI x cn) [(cn,cc)] ((X.mg "__name__").getD .none) (.ref c') fW)}).get? b=some o:=fun b o e=>b8 _ (hk b o e)
  have t9:s1.heap.CodeRec (.ref c') (X.env.qual ++ "<lambda>"):=(I1.ax c' _ Jc).1
  refine fin h'.objs.size c' _ fW _ H1 (fun _ _ _ e=>e) (.inr ⟨c',cP,hP,Jc⟩) (I1.kept (t':=tk) kp) ?_ ⟨_,hP⟩ (dU _ rfl) (t9.keeps kp)
  obtain ⟨o,ho,hd⟩:=mr
  exact ⟨o,kp _ _ ho,hd⟩
section
variable {prog:Program} {w:World} {A:Around} {E:aR} {s:Shared}
theorem Sw:typeLookup (.type "list_reverseiterator") "__len__"=pure none:=by rw [typeLookup_type,builtinLookup_eq_fast];kernel_rfl
theorem Sx:typeLookup (.type "list_reverseiterator") "__length_hint__"=pure (some (.builtin "list_reverseiterator.__length_hint__")):=by rw [typeLookup_type,builtinLookup_eq_fast];kernel_rfl
theorem Sy{r:Addr}{Q:Bool→Shared→Prop}(hT:s.TypeIs (.ref r) "list_reverseiterator")(h:Q false s):wpAny (model prog w) A (Builtin.List.listLengthHint (.ref r)) Q E s:=by
 unfold Builtin.List.listLengthHint;refine aC (yW hT Sw ?_);refine mf (fun hG=>absurd hG (by decide)) (fun _=>?_)
 refine mf (fun hG=>absurd hG (by decide)) (fun _=>?_)
 refine aC (yW hT Sx ?_);generalize xJ:("list_reverseiterator.__length_hint__":String)=Dx
 wp_delta
 rw [show splitId Dx=some ("list_reverseiterator","__length_hint__") from by subst xJ;decide +kernel]
 subst xJ;refine aC (wpAny_isInstance (T:="list_reverseiterator") (b:=true) hT (by rw [isSubtype_type];kernel_rfl) ?_)
 refine mf (fun hG=>absurd hG (by decide)) (fun _=>?_)
 refine mf (fun _=>?_) (fun hG=>absurd (by decide +kernel) hG)
 refine mf (fun hG=>absurd hG (by decide +kernel)) (fun _=>?_)
 exact ba h
def Ax(its acc:Array Value):Prop:=acc.toList=its.toList.reverse
variable {its:Array Value}
theorem Sz{acc:Array Value}(h:ItemsOf (fun i v=>its[its.size-1-i]?=some v) acc its.size):Ax its acc:=by
 refine sE fun i=>?_;have ha:=h.1;by_cases hi:i<acc.size
 ·have e1:=h.2 i _ (sN hi)
  rw [pL,sN hi,List.getElem?_reverse (by simpa using (by lia:i<its.size)),gs,pL,e1]
 ·rw [pL,y7 (by lia),vV (by rw [List.length_reverse,gs];lia)]
variable {R:Result→Shared→Prop} {it:Addr}
theorem SA(hh:A.handled=none)(hit:s.heap.IsRevIter it l ((its.size:Int)-1))(hl:s.heap.IsList l its)(gg:l≠it)(hlen:its.size≤2 ^ 24)(S:Addr)(res:Value)(c₀:Nat)
  (hS:s.heap.get? S=some {cls:=.type "list",data:=.seq #[] c₀}) (uc:S≠l)
  (hR:∀h' tk dy c',(∀b o,b≠S→b≠it→s.heap.get? b=some o→h'.get? b=some o)→h'.get? S=some {cls:=.type "list",dict:=none,data:=.seq dy c',slots:=#[]}→Ax its dy→R (.ok (.ret res)) {s with heap:=h',toks:=tk}) :
  wpAny (model prog w) A.in1 (Builtin.List.listExtendWith (.ref S) (.ref it) res)
   (fun fin s'=>match fin with | .done f=>R (.ok f) s' | .again c'=>c'.quiet=true∧codeAny (model prog w) A c' R s') (fun e s'=>R (.error e) s') s:=by
 have hT:=hit.typeIs;have lQ:S≠it:=fun e=>by obtain ⟨o,ho,hc,lO⟩:=hit;rw [e,ho] at hS;cases hS;cases lO
 have Dy:S∉[it,l]:=fun Dz=>by
  rcases bO.mp Dz with e | e;·exact lQ e
  ·exact uc (bI.mp e)
 have W:=(Walks.listRev (prog:=prog) (w:=w) (A:=A.in1) hh it l gg its).toS
 have key:∀(h:Heap) (c₁ tk:Nat),h.IsRevIter it l ((its.size:Int)-1-((0:Nat):Int))∧h.IsList l its→(∀b o,b≠S→s.heap.get? b=some o→h.get? b=some o)→
   h.get? S=some {cls:=.type "list",data:=.seq #[] c₁}→codeAny (model prog w) A (.builtin "list.extend.loop" ⟨[.ref S,.ref it,res],[]⟩) R {s with heap:=h,toks:=tk}:=by
  intro h c₁ tk hit hk qJ;refine codeAny_extend_loopS W (by rw [l_];lia) S Dy res its.size 0 _ #[] c₁ rfl (bU _) ⟨bU _,hit⟩ qJ (ItemsOf.nil _) fun s' dy c' xK gH jo=>?_
  rw [Moved.eq_with xK];refine hR s'.heap s'.toks dy c' (fun b o hb lT e=>xK.heap b o (fun qK=>?_) (hk b o hb e)) gH (Sz jo);rcases bO.mp qK with e' | qK;·exact hb e'
  ·exact lT (bI.mp qK)
 have SD:s.heap.IsRevIter it l ((its.size:Int)-1-((0:Nat):Int)):=by
  have e:(its.size:Int)-1-((0:Nat):Int)=(its.size:Int)-1:=by lia
  rw [e];exact hit
 unfold Builtin.List.listExtendWith;refine aC (wpAny_typeOf (T:="list_reverseiterator") hT ?_);simp only [show Builtin.List.listSameRef (.ref S) (.ref it)=false from by simp [Builtin.List.listSameRef,lQ],show (Value.type "list_reverseiterator" == Value.type "list")=false from by decide,show (Value.type "list_reverseiterator" == Value.type "tuple")=false from by decide,Bool.or_false,vW,j6]
 refine aC (wpAny_pyIter_revIter hit ?_);refine aC (nO (Sy hT ?_));refine mf (fun hG=>absurd hG (by decide)) (fun _=>ba ⟨plainId_quiet F.plain_extend_loop _,key _ c₀ _ ⟨SD,hl⟩ (fun b o _ e=>e) hS⟩)
theorem SE(hh:A.handled=none)(hit:s.heap.IsRevIter it l ((its.size:Int)-1))(hl:s.heap.IsList l its)(gg:l≠it)(hlen:its.size≤2 ^ 24)(S:Addr)
  (hS:s.heap.get? S=some {cls:=.type "list",data:=.seq #[]}) (uc:S≠l)
  (hR:∀h' tk dy c',(∀b o,b≠S→b≠it→s.heap.get? b=some o→h'.get? b=some o)→h'.get? S=some {cls:=.type "list",dict:=none,data:=.seq dy c',slots:=#[]}→Ax its dy→R (.ok (.ret .none)) {s with heap:=h',toks:=tk}) :
  wpAny (model prog w) A.in1 (Builtin.«list.__init__» ⟨[.ref S,.ref it],[]⟩)
   (fun fin s'=>match fin with | .done f=>R (.ok f) s' | .again c'=>c'.quiet=true∧codeAny (model prog w) A c' R s') (fun e s'=>R (.error e) s') s:=by
 have lQ:S≠it:=fun e=>by
  obtain ⟨o,ho,hc,lO⟩:=hit
  rw [e,ho] at hS
  cases hS
  cases lO
 show wpAny _ _ (do let old ←Builtin.List.listItems (.ref S);Builtin.List.listUpdate (.ref S) (fun _=>#[]);letGo old.toList.reverse;Builtin.List.listExtendWith (.ref S) (.ref it) .none) _ _ s
 refine aC ?_
 unfold Builtin.List.listItems
 refine aC (wpAny_seqItems hS rfl (ba ?_))
 show wpAny _ _ (updateSeq S (fun _=>#[]) >>= fun _=>letGo (#[]:Array Value).toList.reverse >>= fun _=>Builtin.List.listExtendWith (.ref S) (.ref it) .none) _ _ s
 refine aC (y8 hS rfl ?_)
 have tV:=sq (Obj.mapSeq (fun _=>(#[]:Array Value))) hS rfl
 have lR:∀b o,b≠S→s.heap.get? b=some o→(s.heap.update S (Obj.mapSeq (fun _=>(#[]:Array Value)))).get? b=some o:=fun b o hb e=>(sr _ _ (Ne.symm hb)).trans e
 refine aC (wpAny_letGo ?_)
 exact SA (s:={s with heap:=s.heap.update S (Obj.mapSeq (fun _=>(#[]:Array Value)))}) hh (hit.at fun o e=>lR it o (Ne.symm lQ) e) (hl.at fun o e=>lR l o (Ne.symm uc) e) gg hlen S .none _ tV uc fun h' tk dy c' hk gH jo=>hR h' tk dy c' (fun b o hb lT e=>hk b o hb lT (lR b o hb e)) gH jo
theorem SF{Q:aR}(hh:A.handled=none)(hit:s.heap.IsRevIter it l ((its.size:Int)-1))(hl:s.heap.IsList l its)(gg:l≠it)(hlen:its.size≤2 ^ 24)
  (hQ:∀h' tk dy c',(∀b o,b≠it→s.heap.get? b=some o→h'.get? b=some o)→h'.get? s.heap.objs.size=some {cls:=.type "list",dict:=none,data:=.seq dy c',slots:=#[]}→Ax its dy→Q (.ref s.heap.objs.size) {s with heap:=h',toks:=tk}) :
  wpAny (model prog w) A (call (.type "list") [.ref it]) Q E s:=by
 refine callType_codes (Q₁:=fun obj s₁=>obj=.ref s.heap.objs.size∧s₁={s with heap:=s.heap.push {cls:=.type "list",data:=.seq #[]}}) F.called_list (F.typeCall_list_1 _) F.entry_list_init (code_list_new _ ⟨rfl,rfl⟩) fun obj s₁ h₁=>?_;obtain ⟨rfl,rfl⟩:=h₁;have hS:(s.heap.push {cls:=.type "list",data:=.seq #[]}).get? s.heap.objs.size=some {cls:=.type "list",data:=.seq #[]}:=dU _ rfl;have uc:s.heap.objs.size≠l:=fun e=>by obtain ⟨o,ho,_⟩:=hl;exact fE _ (e▸aY ho)
 refine ⟨⟨_,hS,rfl⟩,F.args_list_init_2 _ _,SE (s:={s with heap:=s.heap.push {cls:=.type "list",data:=.seq #[]}}) (A:=A.in1) hh (hit.at fun o e=>b8 _ e) (hl.at fun o e=>b8 _ e) gg hlen _ hS uc fun h' tk dy c' hk gH jo=>?_⟩;exact ⟨rfl,hQ h' tk dy c' (fun b o hb e=>hk b o (cx (aY e)) hb (b8 _ e)) gH jo⟩
end
section
variable {X:Cx}
def SG(K:aJ)(ta:TA):TE:=fun σ H Q=>ta σ H fun vs H1=>∃(l:Addr) (xs:List V),vs=[.ref l]∧a7 K H1 l xs∧xs.length≤10000∧∀D,H1 D=none→Q (.ref D) (upd H1 D (.lst xs.reverse))
theorem SH{a:Expr}{ta:TA}{pos Ay:Pos}(hc:X.calm=true)(hg:Gl X "list")(hm:X.mg "list"=none)(SI:Gl X "reversed")(ng:X.mg "reversed"=none)(ha:PA X [a] ta)(hs:starEach [a] X.env=[(false,eval a X.env)]:=by rfl)
  (qj:starEach [.Call (.Name "reversed" p2) [a] [] Ay] X.env=[(false,eval (.Call (.Name "reversed" p2) [a] [] Ay) X.env)]:=by rfl):PE X (.Call (.Name "list" p) [.Call (.Name "reversed" p2) [a] [] Ay] [] pos) (SG X.K ta):=by
 intro pins s σ H Q I h;refine PyProof.Rows.Call_Name1 (mB I hg hm boot_list (callWith_type1 ?_)) qj;refine Call_ (mB I SI ng boot_reversed (vO (aK (ha Ay pins s σ H _ I h) fun us s1 ⟨vs,H1,I1,r1,q1⟩=>?_) hs rfl));obtain ⟨l,xs,e,hq,hx,q⟩:=q1;subst e;cases r1 with
 | cons r rr=>
  cases rr;cases r;obtain ⟨its,rv,pl,hz⟩:=I1.list hq;have xS:=rv.length;obtain ⟨o,n,go,c1,c2,c3⟩:=id pl;refine call_reversed_list pl.isList ?_;refine SF (its:=its.toArray) (l:=l) (I1.ok.hd hc) ⟨_,dU _ rfl,rfl,rfl⟩ ?_ (cx (aY go)) (by rw [b_];lia) fun h' tk acc c hk hD jo=>?_
  ·exact (show PlainL _ l _ from ⟨o,n,b8 _ go,c1,c2,c3⟩).isList
  ·have I2:Inv X pins σ H1 {s1 with heap:=s1.heap.push (revObj l ((its.toArray.size:Int)-1))}:=I1.kept (t':=s1.toks) fun b o e=>b8 _ e
   have kp:∀b o,s1.heap.get? b=some o→h'.get? b=some o:=fun b o e=>hk b o (cx (aY e)) (b8 _ e);have hsz:s1.heap.objs.size≤(s1.heap.push (revObj l ((its.toArray.size:Int)-1))).objs.size:=by rw [Heap.size_push];exact jD _
   refine ⟨.ref _,_,I1.laid (o:=.lst xs.reverse) kp hsz ⟨?_,acc.toList,c,?_,?_⟩,rfl,q _ (I1.ax.fresh hsz)⟩
   ·rw [List.length_reverse]
    exact b9 hx (by decide)
   ·have e:acc.toList=its.reverse:=by rw [jo]
    rw [e];exact rv.reverse
   ·rw [hD]
end
theorem gC.Aw{base:Heap}{qual:Str}{st:Stmt}{N ps:List Str}(F:gC K x qual st f fd)(Je:tabIn K fd Pt=true)(S:cf N ps (bt st))(len:∀vs H Q E,sp vs H Q E→vs.length=ps.length)
  (kh:∀(c:Addr) (A:Around) (outer:List Env) (s:Shared) (H:Hp) (vs:List V) (Q:VK) (E:XK),codeHdIn K c Pt=true→dF k (A.deeper (envOfC qual (bt st) s.heap.objs.size f (.ref c)))→sp vs H Q E→
   ∃t,fN (jG cw P w K mg base N qual (bt st) f (.ref c) A outer s H E).om (lC st) t∧t {nx:=fun _ H'=>Q .aN H',rt:=Q} (start N vs) H):bY P w K mg base cw (k+1) f fd ps sp:=by
 obtain ⟨oc,od,kV,doc,pm,an,b7,ct,kg,rfl,lk,dW⟩:=F.ex;cases b7 with
 | ref c=>have h2:codeHdIn K c Pt=true:=Je;refine B9 lk dW S len fun A outer s H vs Q E hr lq=>?_;obtain ⟨t,h,q⟩:=kh c A outer s H vs Q E h2 hr lq;exact ⟨t,h.om,q⟩
 | _=>cases Je
def Az(K:aJ)(Pt:Addr):Sp:=fun vs H Q E=>H Pt=some (.c_ #[])∧My.Ot K vs H Q E
theorem SJ{l:PySem.W.OpenLaw}{q:Program}{loose:List Str}{XP:(Str→Option Value)→Heap→Prop}{YP:World→Heap→Prop}{d:DefRec}{K:Params→PySem.W.Frag}(hn:l.most=some 63)(wU:d.params.defaults=[])(hr:dF k callerA)
  (hY:∀(w:World) (h:Heap),YP w h→(K w.params).In h) (hP:∀(w:World) (h:Heap),YP w h→h.get? Pt=some (tabObj #[]))
  (F:∀(w:World) (mg:cH) (fa:Addr) (h:Heap),(K w.params).In h→h.Ns mainGlobals mg→mg d.name=some (.ref fa)→
   (K w.params).lookup Pt=none∧(∃ud,tabIn (K w.params) ud Pt=true)∧∃fd:FuncData,(∀(s:Shared) (u:Value),BindsTo s fd ⟨[u],[]⟩ [("script",u)])∧∀base:Heap,(K w.params).In base→base.Ns mainGlobals mg→kG base mg→bY l.prog w (K w.params) mg base cw k fa fd ["script"] (Az (K w.params) Pt)) :
  PySem.W.WalkO q loose XP YP l.row.toRowW d [] (fun f vs=>PySem.call f vs):=by
 refine Att.NR hn wU fun w s₀ s₁ mg mb fa o pm cd doc a vs ns G Y ho hd dW wV Cn hints hlen hg=>?_;have KX:=hY w _ Y;obtain ⟨DF,⟨ud,AA⟩,fd,hb,hF⟩:=F w mg fa _ KX G.T.g wV;have hT:=hP w _ Y;have DG:isCodeTable s₁.heap Pt:=by
  unfold tabIn at AA
  split at AA
  ·exact ((codeHd_of_K KX AA).tab hT).isCodeTable
  ·cases AA
 obtain ⟨bm,ob,b1,b2,b3,b4,b5,b6⟩:=G.T.bmain;exact Sb KX G.T.g G.T.b G.T.builtins G.T.nolimit hg hT DF DG Cn hints (b9 hlen (by decide)) hr ⟨bm,ob,b1,b2,b3,b4,b5,b6⟩ hF hb (fun H hO hP hS=>⟨hP,a,ns,rfl,hS,hlen,fun _=>rfl⟩) fun H e s' z=>z
end L2
namespace My
open PySem L2
abbrev iT:Str:=(Str.ofString "likely_order"++Str.ofString ".<locals>.")++Str.ofString "<lambda>"
def fg(L:aw)(P:List Nat)(a:Nat):Nat:=(P.filter (rL L a)).length
variable {P:List Nat}
theorem SK{L:aw}{a b:Nat}:fg L (P++[b]) a=fg L P a+if rL L a b=true then 1 else 0:=by
 unfold fg;rw [kS,du]
 congr 1
 by_cases h:rL L a b=true;·rw [ae h,List.filter_cons_of_pos h];rfl
 ·rw [aa h,List.filter_cons_of_neg h];rfl
variable {n:Nat} {r:Nat→Nat→Bool}
theorem lS.nil:lS n r []:=fun A b B e=>by have:=eE List.length e;simp at this
theorem lS.snoc{p:Nat}(h:lS n r P)(hp:∀a,a<n→a∉P→(P.filter (r a)).length≤(P.filter (r p)).length):lS n r (P++[p]):=fun A b B e a an aA=>by
 rcases List.eq_nil_or_concat B with rfl | ⟨B',x,rfl⟩
 ·have e2:P++[p]=A++[b]:=e
  obtain ⟨rfl,e3⟩:=y_ e2 rfl;cases e3;exact hp a an aA
 ·have e2:P++[p]=(A++b::B')++[x]:=by rw [e];simp
  obtain ⟨e3,_⟩:=y_ e2 rfl;exact h A b B' e3 a an aA
theorem SM{α:Type}{j:Nat}{g:Nat→α}{v:α}:((List.range n).map g).set j v=(List.range n).map fun a=>if a=j then v else g a:=by
 refine sE fun i=>?_;rw [List.getElem?_set,aH,fH,bo,bo];by_cases hi:i<n
 ·rw [pM hi]
  by_cases e:j=i
  ·subst e
   simp [hi]
  ·rw [aa e]
   simp [Ne.symm e]
 ·rw [vV (by rw [fH];lia)]
  by_cases e:j=i
  ·subst e
   simp [hi]
  ·rw [aa e]
   rfl
theorem getD_map{y:Nat}{g:Nat→Int}(h:y<n):((List.range n).map g).getD y 0=g y:=by rw [cG,bo,pM h];rfl
def SN(Pt:Addr)(pl:Pos):Sp:=fun vs H Q _=>∃(tp:Addr) (n:Nat) (L:aw),vs=[.ref tp]∧cQ H tp n L∧iR n L∧n≤1000∧de Pt pl iT H ∧
 ∀(H':Hp) (D:Addr) (Pk:List Nat),dC Pt H H'→de Pt pl iT H'→H D=none→H' D=some (.lst (Pk.reverse.map fun k:Nat=>V.int (k:Int)))→Pk.Perm (List.range n)→lS n (rL L) Pk→Q (.ref D) H'
end My
namespace L2
open PySem
variable {Pt:Addr} {pl:Pos} {q:Str} {H H':Hp}
theorem de.mono(h:de Pt pl q H)(s:ak H H'):de Pt pl q H':=by
 rcases h with h | ⟨c,n,h1,h2⟩;·exact .inl (s _ _ h)
 ·exact .inr ⟨c,n,s _ _ h1,s _ _ h2⟩
theorem de.at(h:de Pt pl q H):∃ps,H Pt=some (.c_ ps):=by
 rcases h with h | ⟨c,n,h1,h2⟩;·exact ⟨_,h⟩
 ·exact ⟨_,h1⟩
theorem de.off{a:Addr}{u:HO}(h:de Pt pl q H)(ea:H a=some u)(n1:∀ps,u≠.c_ ps)(n2:∀φ,u≠.ext φ)(s:∀b o,b≠a→H b=some o→H' b=some o):de Pt pl q H':=by
 have nP:∀ps,H Pt=some (.c_ ps)→Pt≠a:=fun ps e z=>by rw [z,ea] at e;exact n1 ps (Option.some.inj e)
 rcases h with h | ⟨c,n,h1,h2⟩;·exact .inl (s _ _ (nP _ h) h)
 ·exact .inr ⟨c,n,s _ _ (nP _ h1) h1,s _ _ (fun z=>by rw [z,ea] at h2;exact n2 _ (Option.some.inj h2)) h2⟩
end L2
namespace My
open PySem L2
theorem xU{Pt t:Addr}{H H':Hp}{n:Nat}{L:aw}{ps:Array Value}(h:cQ H t n L)(hP:H Pt=some (.c_ ps))(s:dC Pt H H'):cQ H' t n L:=by
 have at':∀{b:Addr} {xs:List V},H b=some (.tup xs)→H' b=some (.tup xs):=fun{b xs} e=>s b _ (fun z=>by rw [z,hP] at e;cases e) e
 obtain ⟨lt,us,e1,e2,e3,e4⟩:=h;exact ⟨lt,us,at' e1,at' e2,e3,fun k x p h1 h2=>let ⟨b,q1,q2⟩:=e4 k x p h1 h2;⟨b,q1,at' q2⟩⟩
end My
namespace L2
open PySem My
variable {Pt P a:Addr} {pl:Pos} {q:Str} {H H':Hp}
theorem de.Jf(h:de Pt pl q H)(p:a_ H P a)(s:aF P H H'):de Pt pl q H':=by
 obtain ⟨x,y,eP,_⟩:=p;have ne:∀{b:Addr} {o:HO},H b=some o→(∀xs,o≠.lst xs)→b≠P:=fun{b o} e n z=>by rw [z,eP] at e;exact n _ (Option.some.inj e).symm
 rcases h with h | ⟨c,n,h1,h2⟩;·exact .inl (s.at (ne h fun _ z=>by cases z) h)
 ·exact .inr ⟨c,n,s.at (ne h1 fun _ z=>by cases z) h1,s.at (ne h2 fun _ z=>by cases z) h2⟩
theorem de.SO(h:de Pt pl q H)(p:a_ H P a):P≠Pt:=fun z=>by obtain ⟨x,y,eP,_⟩:=p;obtain ⟨ps,e⟩:=h.at;rw [z,e] at eP;cases eP
theorem dC.jK(s:dC Pt H H')(n:P≠Pt)(p:a_ H P a):a_ H' P a:=by obtain ⟨x,y,eP,r⟩:=p;exact ⟨x,y,s _ _ n eP,r⟩
theorem dC.er(s:dC Pt H H'):dC Pt (My.er P H) (My.er P H'):=fun b o n e=>by
 unfold My.er at e ⊢;by_cases z:b=P;·rw [ae z] at e;cases e
 ·rw [aa z] at e ⊢
  exact s b o n e
end L2
namespace My
open PySem L2
section
variable {E:Nat→Nat→Prop}
def oY(E:Nat→Nat→Prop)(V:List Nat)(x c:Nat):Prop:=c∈V∧c≠x∧¬E x c
structure lW (E:Nat→Nat→Prop) (V:List Nat) (x y z:Nat):Prop where
 xV:x∈V
 yV:y∈V
 zV:z∈V
 xy:E x y
 xz:E x z
 ne:y≠z
 no:¬E y z
 wk:Wk E (oY E V x) y z
def Simp(E:Nat→Nat→Prop)(V:List Nat)(s:Nat):Prop:=∀b c,b∈V→c∈V→b≠c→E s b→E s c→E b c
open Classical in
theorem DN(sy:∀a b,E a b→E b a)(ir:∀a,¬E a a):∀(m:Nat) (V:List Nat),V.length≤m→(∀x y z,¬lW E V x y z)→∀x v,x∈V→v∈V→v≠x→¬E x v→∃s,oY E V x s∧Simp E V s
 | 0,V,hm,_,x,_,hx,_,_,_=>by
  cases V with
  | nil=>cases hx
  | cons=>simp at hm
 | m+1,V,hm,nh,x,v,hx,hv,vx,nv=>by
  have tv:oY E V x v:=⟨hv,vx,nv⟩
  let C:Nat→Prop:=fun c=>oY E V x c∧(c=v∨Wk E (oY E V x) v c)
  let S:Nat→Prop:=fun y=>y∈V∧E x y∧∃c,C c∧E c y
  have toV:∀y c,C c→E c y→Wk E (oY E V x) y v:=fun y c hc e=>by
   rcases hc.2 with rfl | h;·exact .one (sy _ _ e)
   ·exact (Wk.one (sy _ _ e)).trans hc.1 (h.symm sy)
  have Sc:∀y z,S y→S z→y≠z→E y z:=fun y z hy hz ne=>by refine ie fun no=>?_;obtain ⟨c,hc,ec⟩:=hy.2.2;obtain ⟨d,hd,ed⟩:=hz.2.2;exact nh x y z ⟨hx,hy.1,hz.1,hy.2.1,hz.2.1,ne,no,(toV y c hc ec).trans tv ((toV z d hd ed).symm sy)⟩
  have Jg:∀t b,C t→b∈V→E t b→C b∨S b:=fun t b ht hb e=>by
   by_cases h:E x b;·exact .inr ⟨hb,h,t,ht,e⟩
   ·have bx:b≠x:=fun z=>ht.1.2.2 (by rw [←z];exact sy _ _ e)
    refine .inl ⟨⟨hb,bx,h⟩,.inr ?_⟩;rcases ht.2 with rfl | w;·exact .one e
    ·exact .more w ht.1 e
  have Y1:∀s,C s→¬S s:=fun s hc hs=>hc.1.2.2 hs.2.1
  let V':=V.filter fun c=>decide (C c∨S c)
  have iU:∀c,c∈V'↔c∈V∧(C c∨S c):=fun c=>by show c∈V.filter _↔_;rw [fY,i5]
  have CV:∀c,C c→c∈V':=fun c h=>(iU c).mpr ⟨h.1.1,.inl h⟩;have SV:∀c,S c→c∈V':=fun c h=>(iU c).mpr ⟨h.1,.inr h⟩;have SQ:x∉V':=fun h=>by
   rcases ((iU x).mp h).2 with h | h;·exact h.1.2.1 rfl
   ·exact ir x h.2.1
  have lt:V'.length≤m:=by
   have h1:V'.length<V.length:=by
    have h2:=List.length_filter_lt_length_iff_exists (l:=V) (p:=fun c=>decide (C c∨S c)) |>.mpr ⟨x,hx,by rw [i5];intro h;exact SQ ((iU x).mpr ⟨hx,h⟩)⟩
    exact h2
   lia
  have Jh:∀x y z,¬lW E V' x y z:=fun a b c h=>nh a b c ⟨((iU _).mp h.xV).1,((iU _).mp h.yV).1,((iU _).mp h.zV).1,h.xy,h.xz,h.ne,h.no,h.wk.mono fun d hd=>⟨((iU _).mp hd.1).1,hd.2⟩⟩;have fin:∀t,C t→Simp E V' t→∃s,oY E V x s∧Simp E V s:=fun t ht hs=>by
   refine ⟨t,ht.1,fun b c hb hc ne eb ec=>hs b c ?_ ?_ ne eb ec⟩;·exact (iU b).mpr ⟨hb,Jg t b ht hb eb⟩
   ·exact (iU c).mpr ⟨hc,Jg t c ht hc ec⟩
  by_cases ha:∃s u,S s∧u∈V'∧u≠s∧¬E s u
  ·obtain ⟨s,u,hs,hu,us,nu⟩:=ha
   obtain ⟨t,ht,st⟩:=DN sy ir m V' lt Jh s u (SV s hs) hu us nu;refine fin t ?_ st;rcases ((iU t).mp ht.1).2 with h | h;·exact h
   ·exact absurd (Sc s t hs h (Ne.symm ht.2.1)) ht.2.2
  ·have full:∀s u,S s→u∈V'→u≠s→E s u:=fun s u hs hu us=>ie fun z=>ha ⟨s,u,hs,hu,us,z⟩
   by_cases hb:∃u w,C u∧C w∧w≠u∧¬E u w
   ·obtain ⟨u,w,hu,hw,uw,nu⟩:=hb
    obtain ⟨t,ht,st⟩:=DN sy ir m V' lt Jh u w (CV u hu) (CV w hw) uw nu;refine fin t ?_ st;rcases ((iU t).mp ht.1).2 with h | h;·exact h
    ·exact absurd (sy _ _ (full t u h (CV u hu) (Ne.symm ht.2.1))) ht.2.2
   ·have vC:C v:=⟨tv,.inl rfl⟩
    refine fin v vC fun b c jW eS ne eb ec=>?_;rcases ((iU b).mp jW).2 with h | h
    ·rcases ((iU c).mp eS).2 with h2 | h2
     ·exact ie fun z=>hb ⟨b,c,h,h2,Ne.symm ne,z⟩
     ·exact sy _ _ (full c b h2 jW ne)
    ·exact full b c h eS (Ne.symm ne)
theorem SR(sy:∀a b,E a b→E b a)(ir:∀a,¬E a a){V:List Nat}(hV:V≠[])(nh:∀x y z,¬lW E V x y z):∃s,s∈V∧Simp E V s:=by
 by_cases h:∃x v,x∈V∧v∈V∧v≠x∧¬E x v
 ·obtain ⟨x,v,hx,hv,vx,nv⟩:=h
  obtain ⟨s,hs,ss⟩:=DN sy ir _ V (ay _) nh x v hx hv vx nv;exact ⟨s,hs.1,ss⟩
 ·cases V with
  | nil=>exact absurd rfl hV
  | cons a V=>exact ⟨a,d5,fun b c hb hc ne _ _=>ie fun z=>h ⟨b,c,hb,hc,Ne.symm ne,z⟩⟩
theorem Ji(sy:∀a b,E a b→E b a)(ir:∀a,¬E a a):∀(m:Nat) (V:List Nat),V.length=m→(∀x y z,¬lW E V x y z)→∃o:List Nat,o.Perm V∧∀A x B,o=A++x::B→∀b c,b∈B→c∈B→b≠c→E x b→E x c→E b c
 | 0,V,hm,_=>by
  cases V with
  | nil=>exact ⟨[],List.Perm.refl _,fun A x B e=>by simp at e⟩
  | cons=>simp at hm
 | m+1,V,hm,nh=>by
  have hV:V≠[]:=fun z=>by rw [z] at hm;simp at hm
  obtain ⟨s,hs,ss⟩:=SR sy ir hV nh;have sub:∀c,c∈V.erase s→c∈V:=fun c h=>za h;obtain ⟨o,po,ho⟩:=Ji sy ir m (V.erase s) (by rw [yX hs];lia) fun a b c h=>nh a b c ⟨sub _ h.xV,sub _ h.yV,sub _ h.zV,h.xy,h.xz,h.ne,h.no,h.wk.mono fun d hd=>⟨sub _ hd.1,hd.2⟩⟩
  refine ⟨s::o,(po.cons s).trans (List.perm_cons_erase hs).symm,fun A x B e b c hb hc ne eb ec=>?_⟩;cases A with
  | nil=>injection e with e1 e2;subst e1;subst e2;exact ss b c (sub _ (po.mem_iff.mp hb)) (sub _ (po.mem_iff.mp hc)) ne eb ec
  | cons a A=>injection e with e1 e2;exact ho A x B e2 b c hb hc ne eb ec
end
variable {n:Nat} {L:aw}
theorem SS(pw:L.Pairwise lexLt)(lt:∀z∈L,0≤z.1∧z.1<z.2∧z.2<(n:Int))(no:∀o:List Nat,o.Perm (List.range n)→¬dQ n L o L):∃x y z,lW (aL n L) (List.range n) x y z:=by
 refine ie fun nh=>?_;have ir:∀a,¬aL n L a a:=fun a h=>by rcases h.2.2 with e | e <;> (have:=lt _ e;lia)
 obtain ⟨o,po,ho⟩:=Ji g_ ir _ (List.range n) rfl fun x y z h=>nh ⟨x,y,z,h⟩;refine no o po (DD po pw lt fun a b c an bn cn ab ac ne e1 e2=>?_);obtain ⟨A,B,e⟩:=List.append_of_mem ((fu po).mpr an);have nd:=oR po;have Jj:∀d,d<n→o.idxOf a<o.idxOf d→d∈B:=fun d dn lt=>by
  have hm:=(fu po).mpr dn;rw [e] at hm lt nd;rw [ic] at nd;have aA:a∉A:=fun z=>nd.2.2 a z a d5 rfl;rw [n8,aa aA,wc] at lt;rcases cY.mp hm with h | h
  ·rw [n8,ae h] at lt
   have:=j9 h;lia
  ·rcases bO.mp h with rfl | h
   ·rw [n8,aa aA,wc] at lt
    lia
   ·exact h
 exact ho A a B e b c (Jj b bn ab) (Jj c cn ac) ne e1 e2
def xW(E:Nat→Nat→Prop):List Nat→Prop
 | []=>True
 | a::r=>(∀b,r.head?=some b→E a b)∧(∀d∈r.drop 1,¬E a d)∧xW E r
theorem xW.at{E:Nat→Nat→Prop}:∀{p:List Nat},xW E p→∀(i j:Nat) (hi:i<p.length) (hj:j<p.length),i<j→(E p[i] p[j]↔j=i+1)
 | [],_,i,_,hi,_,_=>by simp at hi
 | a::r,⟨h1,h2,h3⟩,0,j,_,hj,ij=>by
  obtain ⟨j,rfl⟩:∃k,j=k+1:=⟨j-1,by lia⟩
  have dH:j<r.length:=by simpa using hj
  simp only [BP,wg];constructor
  ·intro e
   refine ie fun z=>h2 r[j] ?_ e;rw [List.mem_iff_getElem];exact ⟨j-1,by rw [vQ];lia,by rw [List.getElem_drop];congr 1;lia⟩
  ·intro e
   have:j=0:=by lia
   subst this;exact h1 _ (by rw [List.head?_eq_getElem?,bS dH])
 | a::r,⟨h1,h2,h3⟩,i+1,j,hi,hj,ij=>by
  obtain ⟨j,rfl⟩:∃k,j=k+1:=⟨j-1,by lia⟩
  simp only [wg];rw [h3.at i j (by simpa using hi) (by simpa using hj) (by lia)]
  lia
theorem SU(pw:L.Pairwise lexLt)(lt:∀z∈L,0≤z.1∧z.1<z.2∧z.2<(n:Int)){r:List Nat}(m4:4≤r.length)(nd:r.Nodup)(rn:∀d∈r,d<n)
  (h:∀(i j:Nat) (hi:i<r.length) (hj:j<r.length),i<j→(aL n L r[i] r[j]↔j=i+1∨(i=0∧j=r.length-1))):lN L (r.map iN):=by
 have lm:(r.map iN).length=r.length:=aH ..;have gz:∀(k:Nat) (hk:k<r.length),(r.map iN).getD k 0=((r[k]:Nat):Int):=fun k hk=>by rw [cG,bo,bS hk];rfl
 have inj:∀(i j:Nat) (hi:i<r.length) (hj:j<r.length),r[i]=r[j]→i=j:=fun i j hi hj e=>(sj nd).mp e;have nx:∀k,k<r.length→(k+1) % r.length<r.length:=fun k _=>Nat.mod_lt _ (by lia)
 have qM:∀k,k<r.length→(k+1<r.length∧(k+1) % r.length=k+1)∨(k=r.length-1∧(k+1) % r.length=0):=fun k hk=>by
  by_cases z:k+1<r.length;·exact .inl ⟨z,Nat.mod_eq_of_lt z⟩
  ·exact .inr ⟨by lia,by rw [show k+1=r.length by lia,Nat.mod_self]⟩
 have lk:∀(i j:Nat) (hi:i<r.length) (hj:j<r.length),i≠j→(aL n L r[i] r[j]↔j=(i+1) % r.length∨i=(j+1) % r.length):=fun i j hi hj ne=>by
  by_cases ij:i<j
  ·rw [h i j hi hj ij]
   rcases qM i hi with ⟨a1,a2⟩ | ⟨a1,a2⟩ <;> rcases qM j hj with ⟨b1,b2⟩ | ⟨b1,b2⟩ <;> lia
  ·have:aL n L r[i] r[j]↔aL n L r[j] r[i]:=⟨g_ _ _,g_ _ _⟩
   rw [this,h j i hj hi (by lia)]
   rcases qM i hi with ⟨a1,a2⟩ | ⟨a1,a2⟩ <;> rcases qM j hj with ⟨b1,b2⟩ | ⟨b1,b2⟩ <;> lia
 have SW:(r.map iN).Nodup:=nd.map (f:=iN) fun a b ne e=>ne (by have:(a:Int)=(b:Int):=e;lia)
 refine ⟨by rw [lm];exact m4,SW,?_⟩
 have SX:L.Nodup:=pw.imp fun h e=>by subst e;unfold lexLt at h;lia
 have SY:(gr (r.map iN)).Nodup:=by
  unfold gr;rw [lm];refine yY.mpr (yZ (fun{a b} ha hb ab=>?_) (vX (n:=r.length)));have ha:=cR.mp ha;have hb:=cR.mp hb;intro e;rw [gz a ha,gz b hb,gz _ (nx a ha),gz _ (nx b hb)] at e;injection e with e1 e2;have key:(r[a]=r[b]∧r[(a+1) % r.length]'(nx a ha)=r[(b+1) % r.length]'(nx b hb))∨(r[a]=r[(b+1) % r.length]'(nx b hb)∧r[(a+1) % r.length]'(nx a ha)=r[b]):=by lia
  rcases key with ⟨k1,_⟩ | ⟨k1,k2⟩;·exact ab (inj a b ha hb k1)
  ·have q1:=inj _ _ ha (nx b hb) k1
   have q2:=inj _ _ (nx a ha) hb k2;rcases qM a ha with ⟨a1,a2⟩ | ⟨a1,a2⟩ <;> rcases qM b hb with ⟨b1,b2⟩ | ⟨b1,b2⟩ <;> lia
 refine (List.perm_ext_iff_of_nodup SY (SX.filter _)).mpr fun p=>?_;constructor
 ·intro hp
  unfold gr at hp;rw [lm] at hp;obtain ⟨k,hk,rfl⟩:=cj.mp hp;have hk:=cR.mp hk;rw [gz k hk,gz _ (nx k hk)];have ne:k≠(k+1) % r.length:=by rcases qM k hk with ⟨a1,a2⟩ | ⟨a1,a2⟩ <;> lia
  have e:=(lk k _ hk (nx k hk) ne).mpr (.inl rfl);have mz:∀(i:Nat) (hi:i<r.length),((r[i]:Nat):Int)∈r.map iN:=fun i hi=>cj.mpr ⟨r[i],cy hi,rfl⟩;have m1:=mz k hk;have m2:=mz _ (nx k hk);rcases e.2.2 with q | q
  ·have l:=lt _ q
   dsimp only at l;rw [Int.min_eq_left (by lia),Int.max_eq_right (by lia)]
   exact fY.mpr ⟨q,by simp only [m1,m2,decide_true,Bool.and_self]⟩
  ·have l:=lt _ q
   dsimp only at l;rw [Int.min_eq_right (by lia),Int.max_eq_left (by lia)]
   exact fY.mpr ⟨q,by simp only [m1,m2,decide_true,Bool.and_self]⟩
 ·intro hp
  obtain ⟨hL,hz⟩:=fY.mp hp;rw [vR] at hz;obtain ⟨i',hi,e1⟩:=sJ (cj.mp (eR hz.1)).choose_spec.1;obtain ⟨j',hj,e2⟩:=sJ (cj.mp (eR hz.2)).choose_spec.1;have f1:=(cj.mp (eR hz.1)).choose_spec.2;have f2:=(cj.mp (eR hz.2)).choose_spec.2;rw [←e1] at f1;rw [←e2] at f2;have f1:((r[i']:Nat):Int)=p.1:=f1;have f2:((r[j']:Nat):Int)=p.2:=f2;have l:=lt _ hL;have ne:i'≠j':=fun z=>by subst z;lia
  have ep:(((r[i']:Nat):Int),((r[j']:Nat):Int))=p:=Prod.ext f1 f2;have e:aL n L r[i'] r[j']:=⟨rn _ (cy hi),rn _ (cy hj),.inl (by rw [ep];exact hL)⟩
  unfold gr;rw [lm];rcases (lk i' j' hi hj ne).mp e with q | q
  ·refine cj.mpr ⟨i',cR.mpr hi,?_⟩
   subst q;rw [gz i' hi,gz _ hj,Int.min_eq_left (by lia),Int.max_eq_right (by lia)]
   exact ep
  ·refine cj.mpr ⟨j',cR.mpr hj,?_⟩
   subst q;rw [gz j' hj,gz _ hi,Int.min_eq_right (by lia),Int.max_eq_left (by lia)]
   exact ep
def oV:Option Nat→V
 | none=>.aN
 | some p=>.int (p:Int)
def dz(wl:List (Nat×Option Nat)):List (Key×V):=wl.map fun q=>((Sum.inl (q.1:Int):Key),oV q.2)
def bT(wl:List (Nat×Option Nat)):List Nat:=wl.map (·.1)
theorem S0(wl:List (Nat×Option Nat)):(dz wl).length=wl.length:=aH ..
theorem kys_len(wl:List (Nat×Option Nat)):(bT wl).length=wl.length:=aH ..
variable {wl:List (Nat×Option Nat)} {k:Nat}
theorem lookup_mem:(wl.lookup k).isSome=true↔k∈bT wl:=by
 induction wl with
 | nil=>simp [bT]
 | cons q r ih=>
  obtain ⟨a,b⟩:=q;unfold bT at ih ⊢;rw [jC,bO,pO];by_cases e:k=a;·subst e;simp
  ·rw [show (k == a)=false from by simpa using e,←ih]
   simp [e]
theorem AB(wl:List (Nat×Option Nat))(k:Nat):fU (dz wl) (Sum.inl (k:Int):Key)=(wl.lookup k).map oV:=by
 induction wl with
 | nil=>rfl
 | cons q r ih=>
  obtain ⟨a,b⟩:=q;unfold fU dz at ih ⊢;rw [jC,pS,pO];by_cases e:k=a;·subst e;simp
  ·rw [show (k == a)=false from by simpa using e,show decide ((Sum.inl (a:Int):Key)=Sum.inl (k:Int))=false from bH (by simp;lia)]
   exact ih
variable {p:Option Nat}
theorem DO(h:k∉bT wl):putK (dz wl) (Sum.inl (k:Int):Key) (oV p)=dz (wl++[(k,p)]):=by
 have ha:((dz wl).any fun kv=>decide (kv.1=(Sum.inl (k:Int):Key)))=false:=by
  rw [List.any_eq_false];intro x hx e;obtain ⟨q,hq,rfl⟩:=cj.mp hx;have e:=eR e;simp at e;have:q.1=k:=by lia
  exact h (cj.mpr ⟨q,hq,this⟩)
 unfold putK;rw [aa (by rw [ha];decide)]
 unfold dz;rw [fi];rfl
theorem Jk{v:Nat}{o:Option Nat}(h:wl.lookup v=some o):(wl++[(k,p)]).lookup v=some o:=by rw [List.lookup_append,h];rfl
theorem Jl(h:k∉bT wl):(wl++[(k,p)]).lookup k=some p:=by
 have:wl.lookup k=none:=by
  cases e:wl.lookup k with
  | none=>rfl
  | some o=>exact absurd (lookup_mem.mp (by rw [e];rfl)) h
 rw [List.lookup_append,this];simp [List.lookup]
inductive Back (wl:List (Nat×Option Nat)):Nat→List Nat→Prop where
 | last {v:Nat}:wl.lookup v=some none→Back wl v [v]
 | step {v p:Nat} {ws:List Nat}:wl.lookup v=some (some p)→Back wl p ws→Back wl v (v::ws)
variable {ws:List Nat}
theorem Back.more{v:Nat}(h:Back wl v ws):Back (wl++[(k,p)]) v ws:=by
 induction h with
 | last h=>exact .last (Jk h)
 | step h _ ih=>exact .step (Jk h) ih
def lY(E:Nat→Nat→Prop)(wl:List (Nat×Option Nat))(d:Nat):Prop:=∀u,E d u→u∈bT wl
variable {E:Nat→Nat→Prop}
theorem lY.more{q:Nat×Option Nat}{d:Nat}(h:lY E wl d):lY E (wl++[q]) d:=fun u e=>by unfold bT;rw [fi];exact kK _ (h u e)
structure fX (n:Nat) (E:Nat→Nat→Prop) (wl:List (Nat×Option Nat)) (x s:Nat) (c:Option Nat) (h:Nat) (ws:List Nat):Prop where
 bk:Back wl h (h::ws)
 ind:xW E (h::ws)
 nd:(h::ws).Nodup
 away:∀d∈h::ws,d=s∨¬E x d
 nx:x∉h::ws
 lt:∀d∈h::ws,d<n
 lst:(h::ws).getLast?=some s
 sh:∀d∈ws,some d=c∨lY E wl d
variable {x s h:Nat}
theorem fX.more{c:Option Nat}(w:fX n E wl x s c h ws)(q:Nat×Option Nat):fX n E (wl++[q]) x s c h ws:=
 ⟨w.bk.more,w.ind,w.nd,w.away,w.nx,w.lt,w.lst,fun d hd=>(w.sh d hd).imp id lY.more⟩
theorem fX.DQ{c:Nat}(w:fX n E wl x s (some c) h ws)(sc:lY E wl c)(c':Option Nat):fX n E wl x s c' h ws:=
 ⟨w.bk,w.ind,w.nd,w.away,w.nx,w.lt,w.lst,fun d hd=>.inr ((w.sh d hd).elim (fun e=>by cases e;exact sc) id)⟩
theorem fX.S1(w:fX n E wl x s none h ws)(c':Option Nat):fX n E wl x s c' h ws:=
 ⟨w.bk,w.ind,w.nd,w.away,w.nx,w.lt,w.lst,fun d hd=>.inr ((w.sh d hd).elim (fun e=>by cases e) id)⟩
theorem Back.keys{v:Nat}(h:Back wl v ws):∀d∈ws,d∈bT wl:=by
 induction h with
 | last h=>intro d hd;rw [bI.mp hd];exact lookup_mem.mp (by rw [h];rfl)
 | step h _ ih=>
  intro d hd;rcases bO.mp hd with rfl | hd;·exact lookup_mem.mp (by rw [h];rfl)
  ·exact ih d hd
variable {o:Nat}
theorem fX.fresh(sy:∀a b,E a b→E b a)(w:fX n E wl x s none h ws)(ho:o∉bT wl):(∀d∈ws,¬E o d)∧o∉h::ws:=by
 refine ⟨fun d hd e=>?_,fun z=>ho (w.bk.keys o z)⟩;rcases w.sh d hd with e' | e';·cases e'
 ·exact ho (e' o (sy _ _ e))
structure fv (n:Nat) (E:Nat→Nat→Prop) (wl:List (Nat×Option Nat)) (x s:Nat) (pend:List Nat) (c:Option Nat):Prop where
 xk:x∈bT wl
 sk:s∈bT wl
 nd:(bT wl).Nodup
 lt:∀k∈bT wl,k<n
 near:∀u∈bT wl,u≠x→u≠s→E x u→E s u
 walk:∀u∈bT wl,u≠x→(u=s∨¬E x u)→some u=c∨lY E wl u∨u∈pend
 way:∀h∈pend,∃ws,fX n E wl x s c h ws
theorem DR{ks:List Nat}(nd:ks.Nodup)(lt:∀k∈ks,k<n):ks.length≤n:=iQ.len ⟨nd,lt⟩
section
variable {n:Nat} {E:Nat→Nat→Prop} {wl:List (Nat×Option Nat)} {x s:Nat} {pend:List Nat} {c:Option Nat}
theorem fv.len(b:fv n E wl x s pend c):wl.length≤n:=by rw [←kys_len];exact DR b.nd b.lt
theorem fv.start(xs:x≠s)(xn:x<n)(sn:s<n):fv n E [(x,none),(s,none)] x s [s] none:=by
 have ks:bT [(x,none),(s,none)]=[x,s]:=rfl;refine ⟨by rw [ks];simp,by rw [ks];simp,by rw [ks];simp [xs],fun k hk=>?_,fun u hu ux us=>?_,fun u hu ux h=>?_,fun h hh=>?_⟩
 ·rw [ks] at hk
  simp at hk;rcases hk with rfl | rfl <;> assumption
 ·rw [ks] at hu
  simp at hu;rcases hu with rfl | rfl;·exact absurd rfl ux
  ·exact absurd rfl us
 ·rw [ks] at hu
  simp at hu;rcases hu with rfl | rfl;·exact absurd rfl ux
  ·exact .inr (.inr (by simp))
 ·rw [bI.mp hh]
  refine ⟨[],.last ?_,⟨(fun b e=>by cases e),(fun d hd=>by simp at hd),trivial⟩,by simp,fun d hd=>.inl (bI.mp hd),fun z=>xs (bI.mp z),fun d hd=>by rw [bI.mp hd];exact sn,rfl,fun d hd=>nomatch hd⟩
  rw [pO,show (s == x)=false from by simpa using Ne.symm xs]
  simp [List.lookup]
theorem fv.opened(b:fv n E wl x s (h::pend) none):fv n E wl x s pend (some h):=
 ⟨b.xk,b.sk,b.nd,b.lt,b.near,fun u hu ux q=>by
  rcases b.walk u hu ux q with e | e | e;·cases e
  ·exact .inr (.inl e)
  ·rcases bO.mp e with rfl | e
   ·exact .inl rfl
   ·exact .inr (.inr e),fun g hg=>let ⟨ws,w⟩:=b.way g (eC _ hg);⟨ws,w.S1 _⟩⟩
theorem fv.DQ(b:fv n E wl x s pend (some h))(sc:lY E wl h):fv n E wl x s pend none:=
 ⟨b.xk,b.sk,b.nd,b.lt,b.near,fun u hu ux q=>by
  rcases b.walk u hu ux q with e | e | e
  ·cases e
   exact .inr (.inl sc)
  ·exact .inr (.inl e)
  ·exact .inr (.inr e),fun g hg=>let ⟨ws,w⟩:=b.way g hg;⟨ws,w.DQ sc _⟩⟩
theorem xX{q:Nat×Option Nat}{u:Nat}:u∈bT (wl++[q])↔u∈bT wl∨u=q.1:=by unfold bT;rw [fi,cY];simp
theorem fv.met(b:fv n E wl x s pend (some h))(ho:o∉bT wl)(on:o<n)(eo:E x o→E s o)(wo:¬E x o→∃ws,fX n E (wl++[(o,some h)]) x s (some h) o ws){tR:List Nat}(hp:∀u,u∈tR↔u∈pend∨(u=o∧¬E x o)):fv n E (wl++[(o,some h)]) x s tR (some h):=by
 refine ⟨xX.mpr (.inl b.xk),xX.mpr (.inl b.sk),?_,fun k hk=>?_,fun u hu ux us e=>?_,fun u hu ux q=>?_,fun g hg=>?_⟩
 ·unfold bT
  rw [fi,ic];refine ⟨b.nd,by simp,fun a ha b' jW e=>?_⟩
  have:b'=o:=by simpa using jW
  subst this;subst e;exact ho ha
 ·rcases xX.mp hk with h | rfl
  ·exact b.lt k h
  ·exact on
 ·rcases xX.mp hu with h | rfl
  ·exact b.near u h ux us e
  ·exact eo e
 ·rcases xX.mp hu with h | rfl
  ·rcases b.walk u h ux q with e | e | e
   ·exact .inl e
   ·exact .inr (.inl e.more)
   ·exact .inr (.inr ((hp u).mpr (.inl e)))
  ·rcases q with q | q
   ·exact absurd b.sk (by rw [←q];exact ho)
   ·exact .inr (.inr ((hp _).mpr (.inr ⟨rfl,q⟩)))
 ·rcases (hp g).mp hg with h | ⟨rfl,h⟩
  ·obtain ⟨ws,w⟩:=b.way g h
   exact ⟨ws,w.more _⟩
  ·exact wo h
theorem fX.next(sy:∀a b,E a b→E b a)(w:fX n E wl x s none h ws)(ho:o∉bT wl)(on:o<n)(xk:x∈bT wl)(e:E h o)(nx:¬E x o):fX n E (wl++[(o,some h)]) x s (some h) o (h::ws):=by
 obtain ⟨f1,f2⟩:=w.fresh sy ho;refine ⟨.step (Jl ho) w.bk.more,⟨fun b eb=>?_,fun d hd=>?_,w.ind⟩,kL.mpr ⟨f2,w.nd⟩,fun d hd=>?_,fun hx=>?_,fun d hd=>?_,?_,fun d hd=>?_⟩
 ·have:h=b:=Option.some.inj eb
  rw [←this];exact sy _ _ e
 ·exact f1 d (by simpa using hd)
 ·rcases bO.mp hd with rfl | hd
  ·exact .inr nx
  ·exact w.away d hd
 ·rcases bO.mp hx with rfl | hx
  ·exact ho xk
  ·exact w.nx hx
 ·rcases bO.mp hd with rfl | hd
  ·exact on
  ·exact w.lt d hd
 ·rw [List.getLast?_cons_cons]
  exact w.lst
 ·rcases bO.mp hd with rfl | hd
  ·exact .inl rfl
  ·rcases w.sh d hd with e | e
   ·cases e
   ·exact .inr e.more
theorem fv.no(ir:∀a,¬E a a)(b:fv n E wl x s [] none)(V:List Nat)(z:Nat):¬lW E V x s z:=fun h=>by
 have sx:s≠x:=fun e=>ir x (by have:=h.xy;rw [e] at this;exact this)
 have sh:∀u∈bT wl,u≠x→(u=s∨¬E x u)→lY E wl u:=fun u hu ux q=>by
  rcases b.walk u hu ux q with e | e | e;·cases e
  ·exact e
  ·cases e
 have all:∀u,Wk E (oY E V x) s u→u∈bT wl:=fun u w=>by
  induction w with
  | one e=>exact sh s b.sk sx (.inl rfl) _ e
  | more _ t e ih=>exact sh _ ih t.2.1 (.inr t.2.2) _ e
 exact h.no (b.near z (all z h.wk) (fun e=>ir x (by have:=h.xz;rw [e] at this;exact this)) (Ne.symm h.ne) h.xz)
end
theorem S2(pw:L.Pairwise lexLt)(lt:∀z∈L,0≤z.1∧z.1<z.2∧z.2<(n:Int))(w:fX n (aL n L) wl x s none h ws)(ho:o∉bT wl)(xk:x∈bT wl)(xs:aL n L x s)(xo:aL n L x o)(so:¬aL n L s o)(e:aL n L h o) :
  lN L ((x::o::h::ws).map iN)∧(x::o::h::ws).Nodup∧∀d∈x::o::h::ws,d<n:=by
 obtain ⟨f1,f2⟩:=w.fresh g_ ho;have hs:h≠s:=fun z=>so (by rw [←z];exact e)
 have ue:ws≠[]:=fun z=>by have:=w.lst;rw [z] at this;exact hs (Option.some.inj this)
 have nd:(x::o::h::ws).Nodup:=kL.mpr ⟨fun hx=>by
  rcases bO.mp hx with rfl | hx;·exact ho xk
  ·exact w.nx hx,kL.mpr ⟨f2,w.nd⟩⟩
 have rn:∀d∈x::o::h::ws,d<n:=fun d hd=>by
  rcases bO.mp hd with rfl | hd;·exact xs.1
  ·rcases bO.mp hd with rfl | hd
   ·exact xo.2.1
   ·exact w.lt d hd
 have ind:xW (aL n L) (o::h::ws):=⟨fun b eb=>by have:h=b:=Option.some.inj eb;rw [←this];exact g_ _ _ e,fun d hd=>f1 d (by simpa using hd),w.ind⟩
 have lw:1≤ws.length:=Nat.pos_of_ne_zero fun z=>ue (List.eq_nil_of_length_eq_zero z);refine ⟨SU pw lt (by simp;lia) nd rn fun i j hi hj ij=>?_,nd,rn⟩
 have ls:(h::ws)[ws.length]?=some s:=by have:=w.lst;rw [List.getLast?_eq_getElem?] at this;simpa using this
 cases i with
 | zero=>
  obtain ⟨j,rfl⟩:∃k,j=k+1:=⟨j-1,by lia⟩
  simp only [BP,wg];have dH:j<(o::h::ws).length:=by simpa using hj
  have hl:(x::o::h::ws).length-1=ws.length+2:=by simp
  rw [hl];cases j with
  | zero=>simp only [BP];simp [xo]
  | succ j=>
   simp only [wg];have xY:j<(h::ws).length:=by simpa using dH
   have lj:j≤ws.length:=by simp at xY;lia
   constructor
   ·intro q
    refine .inr ⟨trivial,?_⟩;rcases w.away _ (cy xY) with z | z
    ·have e1:(h::ws)[j]?=some s:=by rw [bS xY,z]
     have:j=ws.length:=(List.getElem?_inj xY w.nd).mp (e1.trans ls.symm);lia
    ·exact absurd q z
   ·rintro (q | ⟨_,q⟩)
    ·lia
    ·have:j=ws.length:=by lia
     subst this;rw [bS xY] at ls;rw [Option.some.inj ls];exact xs
 | succ i=>
  obtain ⟨j,rfl⟩:∃k,j=k+1:=⟨j-1,by lia⟩
  simp only [wg];rw [ind.at i j (by simpa using hi) (by simpa using hj) (by lia)]
  lia
structure DS (n:Nat) (L:aw) (D:Addr) (ds:Nat→Addr) (f:Nat→List Nat):Prop where
 inj:∀i j,i<n→j<n→ds i=ds j→i=j
 ne:∀i,i<n→ds i≠D
 pl:∀i,i<n→iQ n (f i)
 nb:fb n L f
def hJ(n:Nat)(ds:Nat→Addr)(H H':Hp):Prop:=∀b o,H b=some o→((∀i,i<n→b≠ds i)∨∃ob u,o=.bb ob u)→H' b=some o
variable {H:Hp}
theorem Jm{tl:TE}{σ:St}{R:It→Hp→Prop}{a:Addr}{kvs:List (Key×V)}(hp:∀Q:VK,Q (.ref a) H→tl σ H Q)(h:H a=some (.dK kvs)∨∃ob,H a=some (.bb ob (.dK kvs)))
  (k:∀(ob:Obj) (Hf:Hp),Hf a=some (.bb ob (.dK kvs))→(∀b u,b≠a→H b=some u→Hf b=some u)→(∀xZ u,H a=some (.bb xZ u)→Hf a=some (.bb xZ u))→R (iO a ob kvs) Hf):C_ tl σ H R:=hp _ ⟨a,kvs,rfl,by
 rcases h with e | ⟨ob,e⟩;·exact .inl ⟨e,fun o=>k o _ au (fun b u ne hb=>by rw [aG ne];exact hb) fun xZ u e'=>by rw [e] at e';cases e'⟩
 ·exact .inr ⟨ob,e,k ob H e (fun _ _ _ h=>h) fun _ _ h=>h⟩⟩
def S3:Sp:=fun vs H Q _=>∃(D wd:Addr) (n:Nat) (L:aw) (ds:Nat→Addr) (f:Nat→List Nat) (wl:List (Nat×Option Nat)) (p:Nat),vs=[.ref D,.ref wd,.int (p:Int)]∧DS n L D ds f∧dZ H D n ds f∧H wd=some (.dK (dz wl))∧(∀i,i<n→wd≠ds i)∧p<n∧n≤900 ∧
 ∀(H':Hp) (r:Addr),hJ n ds H H'→dZ H' D n ds f→H r=none→H' r=some (.lst (((f p).filter fun q=>!decide (q∈bT wl)).map fun k:Nat=>V.int (k:Int)))→Q (.ref r) H'
def S4:Sp:=fun vs H Q _=>∃(wd:Addr) (wl:List (Nat×Option Nat)) (v:Nat) (ws:List Nat),vs=[.ref wd,.int (v:Int)]∧H wd=some (.dK (dz wl))∧Back wl v ws∧ws.length≤900 ∧
 ∀(H':Hp) (r:Addr),ak H H'→H r=none→H' r=some (.lst (ws.map fun k:Nat=>V.int (k:Int)))→Q (.ref r) H'
def S5:Sp:=fun vs H Q _=>∃(D:Addr) (n:Nat) (L:aw) (ds:Nat→Addr) (f:Nat→List Nat) (x s:Nat),vs=[.ref D,.int (x:Int),.int (s:Int)]∧DS n L D ds f∧dZ H D n ds f∧L.Pairwise lexLt∧(∀z∈L,0≤z.1∧z.1<z.2∧z.2<(n:Int))∧aL n L x s∧n≤900 ∧
 (∀H',hJ n ds H H'→dZ H' D n ds f→(∀V z,¬lW (aL n L) V x s z)→Q .aN H') ∧
 ∀(H':Hp) (r:Addr) (zs:List Nat),hJ n ds H H'→H r=none→H' r=some (.lst (zs.map fun k:Nat=>V.int (k:Int)))→lN L (zs.map iN)→zs.Nodup→(∀d∈zs,d<n)→Q (.ref r) H'
def S6:Sp:=fun vs H Q _=>∃(tp:Addr) (n:Nat) (L:aw),vs=[.ref tp]∧cQ H tp n L∧L.Pairwise lexLt∧(∀z∈L,0≤z.1∧z.1<z.2∧z.2<(n:Int))∧n≤900 ∧
 (∀H',ak H H'→(∀x y z,¬lW (aL n L) (List.range n) x y z)→Q .aN H') ∧
 ∀(H':Hp) (r:Addr) (zs:List Nat),ak H H'→H r=none→H' r=some (.lst (zs.map fun k:Nat=>V.int (k:Int)))→lN L (zs.map iN)→zs.Nodup→(∀d∈zs,d<n)→Q (.ref r) H'
def S7(Pt:Addr)(pl:Pos):Sp:=fun vs H Q _=>∃(tp:Addr) (n:Nat) (L:aw),vs=[.ref tp]∧cQ H tp n L∧L.Pairwise lexLt∧(∀z∈L,0≤z.1∧z.1<z.2∧z.2<(n:Int))∧n≤30∧de Pt pl iT H ∧
 (∀(H':Hp) (T D:Addr) (o:List Nat),dC Pt H H'→de Pt pl iT H'→H T=none→H D=none→H' T=some (.tup [.str "order",.ref D])→H' D=some (.lst (o.map fun k:Nat=>V.int (k:Int)))→o.Perm (List.range n)→dQ n L o L→Q (.ref T) H') ∧
 ∀(H':Hp) (T D:Addr) (zs:List Nat),dC Pt H H'→de Pt pl iT H'→H T=none→H D=none→H' T=some (.tup [.str "ring",.ref D])→H' D=some (.lst (zs.map fun k:Nat=>V.int (k:Int)))→lN L (zs.map iN)→zs.Nodup→(∀d∈zs,d<n)→(∀o:List Nat,o.Perm (List.range n)→¬dQ n L o L)→Q (.ref T) H'
def S8:Sp:=fun vs H Q _=>∃(tp a:Addr) (n:Nat) (L:aw) (zs:List Int),vs=[.ref tp,.ref a]∧cQ H tp n L∧iR n L∧L.Pairwise lexLt∧n≤1000∧L.length≤500∧H a=some (.lst (zs.map V.int))∧zs.length≤40∧(∀z∈zs,-1≤z∧z<1000)∧∀H',ak H H'→Q (.bl (decide (lN L zs))) H'
def S9(K:aJ):Sp:=fun vs H Q _=>∃(P a:Addr) (ns:List Int),vs=[.ref P,.int 20,.int 30]∧a_ H P a∧a7 K (er P H) a (ns.map V.int) ∧
 ∀(t:Addr) (n:Nat) (L:aw) (H':Hp),aF P H H'→a_ H' P a→er P H t=none→t≠P→cQ (er P H') t n L→g7 n L→L.Pairwise lexLt→1≤n→n≤30→Q (.ref t) H'
def lZ(P:Addr)(H:Hp)(y:V):Prop:=∃(t:Addr) (n:Nat) (L:aw),y=.ref t∧t≠P∧cQ (er P H) t n L∧g7 n L∧L.Pairwise lexLt∧1≤n∧n≤30
variable {P:Addr} {H':Hp} {y:V}
theorem lZ.bK{D:Addr}{xs:List V}(h:lZ P H y)(e:H D=some (.lst xs))(k:∀b o,b≠D→b≠P→H b=some o→H' b=some o):lZ P H' y:=by
 obtain ⟨t,n,L,rfl,tP,sh,r⟩:=h;refine ⟨t,n,L,rfl,tP,sh.f9 fun b us g=>?_,r⟩;have bP:b≠P:=fun z=>by subst z;unfold er at g;rw [ae rfl] at g;cases g
 rw [dG bP] at g ⊢;exact k b _ (fun z=>by rw [z,e] at g;cases g) bP g
theorem lZ.mono(h:lZ P H y)(s:aF P H H'):lZ P H' y:=by obtain ⟨t,n,L,rfl,tP,sh,r⟩:=h;exact ⟨t,n,L,rfl,tP,sh.mono s,r⟩
end My
set_option maxRecDepth 100000
set_option maxHeartbeats 4000000
namespace My
open PySem L2
def top(i:Nat):Stmt:=PySem.Challenge.pw_bandwright_k20_perfect_or_a_bare_ring.main.body.getD i (.Pass ⟨0,0,0,0⟩)
abbrev AD:Stmt:=top 4
abbrev AE:Stmt:=top 6
abbrev AF:Stmt:=top 8
abbrev AG:Stmt:=top 9
abbrev AH:Stmt:=top 10
abbrev AI:Stmt:=top 11
abbrev AJ:Stmt:=top 12
abbrev AK:Stmt:=top 13
abbrev AL:Stmt:=top 15
abbrev AM:Stmt:=top 16
abbrev AN:Stmt:=top 17
abbrev AO:Stmt:=top 18
abbrev AQ:Stmt:=top 19
abbrev AR:Stmt:=top 20
abbrev AS:Stmt:=top 21
abbrev AU:Stmt:=top 23
abbrev AV:Stmt:=top 24
abbrev AW:Stmt:=top 25
abbrev AX:Stmt:=top 26
abbrev AY:Stmt:=top 27
abbrev AZ:Stmt:=top 28
abbrev A0:Stmt:=top 29
abbrev A1:Stmt:=top 30
abbrev A2:Stmt:=top 31
abbrev A3:Stmt:=top 32
abbrev A4:Stmt:=top 33
abbrev A5:Stmt:=top 34
abbrev A6:Stmt:=top 35
abbrev A7:Stmt:=top 36
abbrev A8:Stmt:=top 37
set_option genInjectivity false in
set_option genSizeOf false in
structure DU where
 qN:Addr
 uf:FuncData
 qO:Addr
 ug:FuncData
 qQ:Addr
 uh:FuncData
 qR:Addr
 uj:FuncData
 qS:Addr
 um:FuncData
 qT:Addr
 uo:FuncData
 qU:Addr
 ur:FuncData
 qV:Addr
 uu:FuncData
 qW:Addr
 uv:FuncData
 qX:Addr
 oZ:FuncData
 qY:Addr
 uy:FuncData
 qZ:Addr
 uz:FuncData
 q8:Addr
 uA:FuncData
 q_:Addr
 uB:FuncData
 rd:Addr
 uC:FuncData
 rg:Addr
 uD:FuncData
 rh:Addr
 uE:FuncData
 rj:Addr
 uF:FuncData
 rm:Addr
 uG:FuncData
 rp:Addr
 uH:FuncData
 rq:Addr
 uI:FuncData
 rz:Addr
 uJ:FuncData
 rA:Addr
 uK:FuncData
 rB:Addr
 uL:FuncData
 rC:Addr
 uM:FuncData
 rE:Addr
 uN:FuncData
 rF:Addr
 uO:FuncData
 rG:Addr
 uP:FuncData
 rH:Addr
 uQ:FuncData
 o9:Addr
 rJ:FuncData
 l5:Addr
abbrev df (mg:cH) (x:Str) (f:Addr):Prop:=mg x=some (.ref f)
abbrev S_ (K:aJ) (a:Addr):Prop:=PySem.W.excIn K a [.type "ValueError",.type "Exception",.type "BaseException",.type "object"] "ValueError.__new__"=true
structure Txt (K:aJ) (mg:cH) (t:DU):Prop where
 uR:a8 K "is_whole" AD t.qN t.uf
 Jn:Binds K t.uf ["thing"] []
 Jo:df mg "is_whole" t.qN
 o_:a8 K "neighbours" AE t.qO t.ug
 A9:Binds K t.ug ["shape"] []
 A_:df mg "neighbours" t.qO
 uS:a8 K "is_order" AF t.qQ t.uh
 Jp:Binds K t.uh ["thing","n"] []
 Jq:df mg "is_order" t.qQ
 uT:a8 K "check_order" AG t.qR t.uj
 Jr:Binds K t.uj ["order","n"] []
 Js:df mg "check_order" t.qR
 uU:a8 K "turns_of" AH t.qS t.um
 Jt:Binds K t.um ["order"] []
 Ju:df mg "turns_of" t.qS
 uV:a8 K "link_all" AI t.qT t.uo
 Jv:Binds K t.uo ["linked","places"] []
 Jw:df mg "link_all" t.qT
 uW:a8 K "later" AJ t.qU t.ur
 Jx:Binds K t.ur ["shape","order"] []
 Jy:df mg "later" t.qU
 uX:a8 K "filled" AK t.qV t.uu
 Jz:Binds K t.uu ["shape","order"] []
 JA:df mg "filled" t.qV
 uY:a8 K "is_perfect" AL t.qW t.uv
 JB:Binds K t.uv ["shape","order"] []
 JD:df mg "is_perfect" t.qW
 uZ:a8 K "likely_order" AM t.qX t.oZ
 JE:Binds K t.oZ ["shape"] []
 JF:df mg "likely_order" t.qX
 u0:a8 K "walk_back" AN t.qY t.uy
 JG:Binds K t.uy ["whence","place"] []
 JH:df mg "walk_back" t.qY
 u4:a8 K "unmet" AO t.qZ t.uz
 JI:Binds K t.uz ["linked","whence","place"] []
 JJ:df mg "unmet" t.qZ
 u5:a8 K "ring_over" AQ t.q8 t.uA
 JK:Binds K t.uA ["linked","place","start"] []
 JL:df mg "ring_over" t.q8
 u6:a8 K "bare_ring" AR t.q_ t.uB
 JM:Binds K t.uB ["shape"] []
 JN:df mg "bare_ring" t.q_
 u7:a8 K "perfect" AS t.rd t.uC
 JO:Binds K t.uC ["shape"] []
 JP:df mg "perfect" t.rd
 u9:a8 K "_law_fill" AU t.rg t.uD
 JQ:Binds K t.uD ["_law_cell","_law_at"] []
 JR:df mg "_law_fill" t.rg
 eB:a8 K "_law_next" AV t.rh t.uE
 fw:Binds K t.uE ["_law_pen","_law_many"] []
 fA:df mg "_law_next" t.rh
 rK:a8 K "_law_turned" AW t.rj t.uF
 DV:Binds K t.uF ["_law_pen","_law_some"] []
 DW:df mg "_law_turned" t.rj
 u_:a8 K "_law_tied_by" AX t.rm t.uG
 JS:Binds K t.uG ["_law_pen","_law_way","_law_size","_law_wide","_law_i","_law_j"] []
 JT:df mg "_law_tied_by" t.rm
 va:a8 K "_law_grown_links" AY t.rp t.uH
 JU:Binds K t.uH ["_law_pen","_law_size"] []
 JV:df mg "_law_grown_links" t.rp
 vb:a8 K "_law_drawn" AZ t.rq t.uI
 JW:Binds K t.uI ["_law_pen","_law_most"] []
 JX:df mg "_law_drawn" t.rq
 rM:a8 K "_law_named" A0 t.rz t.uJ
 DX:Binds K t.uJ ["_law_size","_law_links","_law_names"] []
 DY:df mg "_law_named" t.rz
 rN:a8 K "_law_beside" A1 t.rA t.uK
 DZ:Binds K t.uK ["_law_shape"] []
 D3:df mg "_law_beside" t.rA
 vc:a8 K "_law_walks" A2 t.rB t.uL
 JY:Binds K t.uL ["_law_beside_here","_law_through","_law_start"] []
 JZ:df mg "_law_walks" t.rB
 vd:a8 K "_law_filled" A3 t.rC t.uM
 J0:Binds K t.uM ["_law_shape","_law_order"] []
 J1:df mg "_law_filled" t.rC
 ve:a8 K "_law_free" A4 t.rE t.uN
 J2:Binds K t.uN ["_law_beside_here","_law_left"] []
 J3:df mg "_law_free" t.rE
 vf:a8 K "_law_perfect" A5 t.rF t.uO
 J4:Binds K t.uO ["_law_pen","_law_shape"] []
 J5:df mg "_law_perfect" t.rF
 vg:a8 K "_law_bare" A6 t.rG t.uP
 J6:Binds K t.uP ["_law_shape","_law_places"] []
 J7:df mg "_law_bare" t.rG
 vh:a8 K "_law_long" A7 t.rH t.uQ
 J8:Binds K t.uQ ["_law_pen","_law_least","_law_most"] []
 J9:df mg "_law_long" t.rH
 vi:a8 K "law" A8 t.o9 t.rJ
 Ta:Binds K t.rJ ["script"] []
 J_:df mg "law" t.o9
 Ka:df mg "NoOrder" t.l5
 Tb:mg "ValueError"=none
 Kb:mg "all"=none
 Tc:mg "any"=none
 Ki:mg "bool"=none
 D7:mg "enumerate"=none
 Kj:mg "int"=none
 rO:mg "isinstance"=none
 hW:mg "len"=none
 jq:mg "list"=none
 vj:mg "max"=none
 x6:mg "min"=none
 fB:mg "range"=none
 Kk:mg "reversed"=none
 Kl:mg "set"=none
 pb:mg "sorted"=none
 Td:mg "sum"=none
 x8:mg "tuple"=none
 Te:mg "zip"=none
 Km:S_ K t.l5
 tab:L2.tabIn K t.oZ 96=true
 Kn:K.lookup 96=none
section
variable {P:Program} {w:World} {K:aJ} {mg:cH} {base:Heap} {t:DU}
theorem Tf:cf ["thing"] ["thing"] (bt AD):=dq
theorem Tg(T:Txt K mg t):bY P w K mg base cw 1 t.qN t.uf ["thing"] Oq:=by
 have S:=Tf;refine T.uR.dN S (fun _ _ _ _ H _ Q _ hr h=>?_);obtain ⟨v,rfl,ha,k⟩:=h;refine ⟨_,(aE (bX (Mj (cu (tE (K:=K)) rfl T.rO boot_isinstance (aj (pv 0) (aj (sS (v:=.ty "int") rfl T.Kj boot_int rfl) ao))) (FA (Ml (cu (tE (K:=K)) rfl T.rO boot_isinstance (aj (pv 0) (aj (sS (v:=.ty "bool") rfl T.Ki boot_bool rfl) ao)))))))),?_⟩;obtain ⟨Ty,ty,k1,k2,_⟩:=ha.Cq (K:=K);refine ⟨_,rfl,_,_,_,_,rfl,rfl,ty,k1,_,rfl,cI (fun h1=>?_) (fun h1=>?_)⟩
 ·refine ⟨_,rfl,_,_,_,_,rfl,rfl,ty,k2,_,rfl,?_⟩
  have e:(!tJ v)=tI v:=by
   cases h2:tJ v with
   | true=>rw [Oo h2];rfl
   | false=>rw [h2,Bool.or_false] at h1;rw [h1];rfl
  show Q (.bl (!tJ v)) H;rw [e];exact k
 ·have e:tI v=false:=by
   cases h2:tI v with
   | true=>rw [h2] at h1;exact absurd rfl h1
   | false=>rfl
  rw [e] at k;exact k
theorem Th:cf ["shape","linked","i","j"] ["shape"] (bt AE):=dq
theorem D8(T:Txt K mg t):bY P w K mg base cw 1 t.qO t.ug ["shape"] Qt:=by
 have S:=Th;refine T.o_.dN S (fun _ _ _ _ H _ _ _ hr h=>?_);obtain ⟨tp,n,L,rfl,⟨lt,us,dR,elt,hL⟩,ok,n9,kk⟩:=h;have hu:=jE (n_ (show 1≤64 by decide) _) hr.units
 have D9:((List.range n).map fun i:Nat=>V.int (0+(i:Int))).length=n:=by rw [aH,fH]
 refine ⟨_,(aB (zK (i0:=1) (N:=["place"]) (ρ:=(fun σ=>[])) (jg [] rfl) rfl S.nd rfl (Or.inl rfl) (k6 rfl T.fB (aj (aU eF (pv 0) aD) ao)) (fun _ _ _=>.nil) (fun _ _ _=>Qk))
  (aB (dM di rfl (B1 (aU eF (pv 0) aD)) (wI rfl (k4 (cM (i:=2) S.nd rfl (Or.inl rfl)) (k4 (cM (i:=3) S.nd rfl (Or.inl rfl)) wH)))
   (aB (mX hu (aU cg (pv 1) (pv 2)) (pv 3) gy rfl)
  (aE (mX hu (aU cg (pv 1) (pv 3)) (pv 2) gy rfl))))
  (aE (bX (pv 1))))),?_⟩
 refine bg (mP (CB (xs:=(List.range n).map fun i:Nat=>V.int (0+(i:Int))) (n:=n) D9 (fun R h=>⟨_,rfl,tp,_,_,_,rfl,rfl,.of dR,rfl,(n:Int),rfl,by lia,by lia,h _ _ (ak.refl _) (by rw [d6];exact GG)⟩) (cU (by lia)) (fun _ i y Hx=>Hx y=some (.dK (dk []))∧H y=none) ?_ ?_ ?_))
 ·intro D i y Ha Hb ys ⟨h1,h2⟩ hy e f
  exact ⟨f y _ hy h1,h2⟩
 ·intro D i x hx Hc R sc _ kc
  refine fun p np=>kc p _ (eG (ak.refl _) np) np ⟨_,au⟩ ⟨au,?_⟩;cases e:H p with
  | none=>rfl
  | some o=>rw [sc _ _ e] at np;cases np
 ·intro D ds H1 nD s1 inj hA eD
  have K0:dI H1 D n ds (fun _=>True) (fun _=>[]):=⟨eD,inj,fun i hi=>(hA i hi).2,fun i hi _=>(hA i hi).1.1,fun i _=>iQ.nil n⟩;have fr:∀i,i<n→H (ds i)=none:=fun i hi=>(hA i hi).1.2;dsimp only [aM];refine bg ⟨_,rfl,tp,_,_,_,rfl,rfl,.of (s1 _ _ dR),rfl,lt,rfl,⟨_,.of (s1 _ _ elt)⟩,?_⟩;refine FL (K:=K) (a:=lt) (xs:=us) (fun k σ Hc=>∃(f:Nat→List Nat) (v2 v3:Option V),σ=[some (.ref tp),some (.ref D),v2,v3]∧ak H Hc∧dI Hc D n ds (fun _=>True) f∧fb n (L.take k) f) ⟨_,_,_,rfl,s1,K0,fb.nil n⟩ (fun k σ Hc _ ⟨_,_,_,_,sc,_⟩=>.of (sc _ _ elt)) ?_ ?_
  ·rintro k x σ Hc hx ⟨f,v2,v3,rfl,sc,KL,nb⟩
   have hk:k<L.length:=by rw [←hL.1];exact (bW.mp hx).1
   obtain ⟨b,rfl,eb⟩:=hL.2 k x L[k] hx (by simp [hk])
   have pk:=ok L[k] (cy hk);have tk:L.take (k+1)=L.take k++[L[k]]:=by rw [j8,bS hk];rfl
   generalize L[k]=p at eb pk tk;obtain ⟨p1,p2⟩:=p;dsimp only at pk eb;obtain ⟨i,rfl⟩:=fk pk.1;obtain ⟨j,rfl⟩:=fk pk.2.2.1;have hi:i<n:=by lia
   have hj:j<n:=by lia
   refine ⟨b,_,rfl,.of (sc _ _ eb),rfl,_,_,rfl,_,_,rfl,rfl,?_⟩;obtain ⟨q1,K1⟩:=KL.put hi hj trivial n9;obtain ⟨q2,K2⟩:=K1.put hj hi trivial n9;refine ⟨_,rfl,_,rfl,D,_,_,_,rfl,rfl,.of KL.lst,KL.ix hi,_,rfl,_,_,rfl,q1,?_⟩;refine ⟨_,rfl,_,rfl,D,_,_,_,rfl,rfl,.of K1.lst,K1.ix hj,_,rfl,_,_,rfl,q2,?_⟩;have off:∀(Hx:Hp) (i:Nat) (o:HO),i<n→ak H Hx→ak H (upd Hx (ds i) o):=fun Hx i o hi sx a u e=>by
    rw [aG (fun z=>by rw [z,fr i hi] at e;cases e)]
    exact sx _ _ e
   exact ⟨_,_,_,rfl,off _ _ _ hj (off _ _ _ hi sc),K2,by rw [tk];exact nb.more hi hj⟩
  ·rintro σ Hc ⟨f,v2,v3,rfl,sc,KL,nb⟩
   rw [hL.1,gu] at nb;exact ⟨_,rfl,kk _ _ _ _ sc nD fr KL nb⟩
theorem Ti:cf ["thing","n"] ["thing","n"] (bt AF):=dq
theorem Tj(T:Txt K mg t):bY P w K mg base cw 2 t.qQ t.uh ["thing","n"] Qw:=by
 have S:=Ti;refine T.uS.dN S (fun _ _ _ _ H _ _ _ hr h=>?_);obtain ⟨a,zs,n,rfl,ea,ni,n1,k⟩:=h;have fh:=hr.units
 refine ⟨_,(aB (cL (PW.pt (pw_or (qe (mC (cu (tE (K:=K)) rfl T.rO boot_isinstance (aj (pv 0) (aj (sS (v:=.ty "list") rfl T.jq boot_list rfl) ao))))) (pw_or1 (qe (mC (cu (Oh (K:=K) rfl) rfl T.Kb boot_all (aj (mM (N:=["place"]) (ρ:=(fun σ=>[])) (jg [] rfl) rfl (fO (pv 0)) (fun _ _ _=>.nil) (fun _ _ _=>(bC (Tg T) hr T.Jo T.uR.kp T.Jn bJ (aj (pv 0) ao)))) ao))))))) (aE (bX gy)) dw)
  (aE (bX (mJ (Dh fh) (cu Dc rfl T.pb pU (aj (pv 0) ao)) (fP (tG rfl) rfl T.jq boot_list (aj (fP tF rfl T.fB tH (aj (pv 1) ao)) ao)))))),?_⟩
 refine ⟨_,rfl,_,_,_,true,rfl,rfl,.of (.lst ea),GD,true,rfl,eU ?_⟩;unfold Fz tB;refine GO (Ov (xs:=zs.map V.int) (fun R h=>⟨_,rfl,a,rfl,⟨_,.of ea⟩,h _ _ (ak.refl _) (qt (.of ea))⟩) (by rw [aH];exact cU (by lia)) (fun _ i y _=>y=.bl true) (fun _ _ _ _ _ _ h _ _=>h) ?_ ?_)
 ·intro D i v hi Hc R sc _ kc
  obtain ⟨z,rfl⟩:∃z:Int,v=.int z:=by
   rw [bo] at hi;cases e:zs[i]? with
   | none=>rw [e] at hi;cases hi
   | some z=>rw [e] at hi;exact ⟨z,(Option.some.inj hi).symm⟩
  exact ⟨_,rfl,.int z,rfl,.int z,kc _ Hc (ak.refl _) rfl⟩
 ·intro D ys Hc sc Ba hP eD
  refine ⟨D,List.replicate ys.length true,rfl,.of (by rw [eD];exact eE _ (eE _ (OJ hP))),?_⟩
  rw [OK];refine ⟨true,rfl,eU ?_⟩;dsimp only [iC];have ph:=sc _ _ ea;refine ⟨_,rfl,a,zs,rfl,ph,ni,fun ws D2 p o n2=>?_⟩;refine ⟨_,rfl,(n:Int),rfl,fun p1 D_=>⟨p1,n,rfl,au,by lia,fun l nl=>?_⟩⟩
  have d1:D2≠p1:=fun z=>by rw [←z,au] at D_;cases D_
  have d2:D2≠l:=fun z=>by rw [←z,aG d1,au] at nl;cases nl
  refine ⟨D2,l,ws,(List.range n).map iN,rfl,rfl,.of ?_,.of ?_,?_⟩;·rw [aG d2,aG d1,au]
  ·rw [au]
   unfold cC;rw [dE];rfl
  ·rw [HR p o]
   exact k _ (xE (xE (xE sc n2) D_) nl)
theorem Tn:cf ["order","n"] ["order","n"] (bt AG):=dq
theorem To(T:Txt K mg t):bY P w K mg base (iG P w) 3 t.qR t.uj ["order","n"] (Qx t.l5):=by
 have S:=Tn;refine T.uT.je S (fun _ _ _ _ H _ _ _ hr h L=>?_);obtain ⟨a,zs,n,rfl,ea,ni,n1,kE,k⟩:=h;refine ⟨_,(aE (cL (qe (mC (bC (Tj T) hr T.Jq T.uS.kp T.Jp bJ (aj (pv 0) (aj (pv 1) ao))))) (aE (N3 L rfl PySem.F.excBase_ValueError T.Km rfl T.Ka (aj wB ao))) dw)),?_⟩;refine ⟨_,rfl,_,rfl,a,zs,n,rfl,ea,ni,n1,fun H1 s1=>⟨_,rfl,cI (fun hb=>?_) (fun hb=>?_)⟩⟩;·exact ⟨by show 1≤sizeLine;decide,kE (by simpa using hb) _ s1⟩
 ·exact k (by simpa using hb) _ s1
theorem Tp:cf ["order","turns","turn","place"] ["order"] (bt AH):=dq
theorem Tq(T:Txt K mg t):bY P w K mg base cw 1 t.qS t.um ["order"] Qz:=by
 have S:=Tp;refine T.uU.dN S (fun _ _ _ _ H _ _ _ hr h=>?_);obtain ⟨a,n,o,rfl,⟨ea,ho⟩,n1,kk⟩:=h;have lo:=mZ ho;have lm:(o.map fun k:Nat=>V.int (k:Int)).length=n:=by rw [aH,lo]
 refine ⟨_,(aB (putL 1 S.nd (bQ Gn (dm (aj aD ao)) (cu jd rfl T.hW ig (aj (pv 0) ao))))
  (aB (dM di rfl (GR rfl T.D7 (aj (pv 0) ao)) (wI rfl (k4 (cM (i:=2) S.nd rfl (Or.inl rfl)) (k4 (cM (i:=3) S.nd rfl (Or.inl rfl)) wH)))
   (aE (@qh _ _ _ _ _ _ (pv 2) (qg (pv 1) (pv 3) set_list) (by rfl) (by rfl) (by rfl))))
  (aE (bX (pv 1))))),?_⟩
 refine ⟨by show 1≤sizeLine;decide,fun l nl=>?_⟩
 have al:a≠l:=fun z=>by rw [z,nl] at ea;cases ea
 refine ⟨_,rfl,a,_,rfl,.inl (.of (by rw [aG al];exact ea)),l,_,_,rfl,rfl,au,by lia,by rw [lm];lia,?_,fun c nc=>?_⟩
 ·rw [lm,d6]
  show 1*n≤sizeLine;rw [l_];lia
 rw [lm,d6,QC n o];have Ko:H c=none:=none_of (aO nl) nc;have s0:ak H (upd (upd H l (.lst [.int 0])) c (.lst ((List.range n).map fun p=>V.int (jS o 0 p)))):=(aO nl).trans (aO nc);have e0:upd (upd H l (.lst [.int 0])) c (.lst ((List.range n).map fun p=>V.int (jS o 0 p))) c=_:=au;generalize upd (upd H l (.lst [.int 0])) c (.lst ((List.range n).map fun p=>V.int (jS o 0 p)))=H0 at s0 e0 ⊢;dsimp only [aM];refine bg ⟨_,rfl,a,rfl,⟨_,.of (s0 _ _ ea)⟩,?_⟩
 refine GS (K:=K) (l:=a) (xs:=o.map fun k:Nat=>V.int (k:Int)) (fun i σ Hc=>ak H Hc∧∃(v2 v3:Option V),σ=[some (.ref a),some (.ref c),v2,v3]∧Hc c=some (.lst ((List.range n).map fun p=>V.int (jS o i p))))
  ⟨s0,_,_,rfl,e0⟩ (fun i σ Hc ⟨z,_⟩=>.of (z _ _ ea)) ?_ ?_
 ·rintro i x σ Hc Tt hx ⟨sc,v2,v3,rfl,ec⟩ nT
  have hi:i<o.length:=by have:=(bW.mp hx).1;simpa using this
  have ex:x=.int ((o[i]:Nat):Int):=by rw [bo] at hx;simp [hi] at hx;exact hx.symm
  subst ex;have hp:o[i]<n:=(fu ho).mp (cy hi);have sT:ak Hc (upd Hc Tt (.tup [.int (i:Int),.int ((o[i]:Nat):Int)])):=aO nT;have eT:upd Hc Tt (.tup [.int (i:Int),.int ((o[i]:Nat):Int)]) Tt=_:=au;generalize upd Hc Tt (.tup [.int (i:Int),.int ((o[i]:Nat):Int)])=H1 at sT eT ⊢;refine ⟨Tt,_,rfl,.of eT,rfl,_,_,rfl,_,_,rfl,rfl,?_⟩;refine ⟨_,rfl,_,rfl,_,rfl,c,_,_,o[i],rfl,rfl,sT _ _ ec,by rw [aH,fH];exact Aj hp,?_⟩
  exact ⟨eG (sc.trans sT) Ko,_,_,rfl,by rw [au,QB ho hi]⟩
 ·rintro σ Hc ⟨sc,v2,v3,rfl,ec⟩
  rw [aH,QD ho] at ec;exact ⟨_,rfl,kk c Hc sc Ko ec⟩
theorem Ts:cf ["linked","places","one","other"] ["linked","places"] (bt AI):=dq
theorem Tu(T:Txt K mg t):bY P w K mg base cw 1 t.qT t.uo ["linked","places"] QE:=by
 have S:=Ts;refine T.uV.dN S (fun _ _ _ _ H _ _ _ hr h=>?_);obtain ⟨D,pl,n,ds,un,f,ps,rfl,KL,vk,Tv,n9,kk⟩:=h;have hu:=jE (n_ (show 1≤64 by decide) _) hr.units
 have bK:∀i,i<n→un i→pl≠ds i:=fun i hi ui z=>by rw [z,KL.at' i hi ui] at vk;cases vk
 have Kp:∀{i:Nat} {x:V},(ps.map fun k:Nat=>V.int (k:Int))[i]?=some x→∃p:Nat,ps[i]?=some p∧x=.int (p:Int)∧p<n∧un p:=fun{i x} hx=>by
  rw [bo] at hx;cases e:ps[i]? with
  | none=>rw [e] at hx;cases hx
  | some p=>rw [e] at hx;exact ⟨p,rfl,(Option.some.inj hx).symm,Tv p (nU e)⟩
 refine ⟨_,(aE (dM di rfl (fO (pv 1)) (cM (i:=2) S.nd rfl (Or.inl rfl))
   (aE (dM di rfl (fO (pv 1)) (cM (i:=3) S.nd rfl (Or.inl rfl))
   (aE (cL (ck sY (pv 2) (pv 3)) (aE (mX hu (aU cg (pv 0) (pv 2)) (pv 3) gy rfl)) dw)))))),?_⟩
 refine ⟨_,rfl,pl,rfl,⟨_,.of vk⟩,?_⟩;refine k_ (K:=K) (a:=pl) (xs:=ps.map fun k:Nat=>V.int (k:Int)) (fun i σ Hc=>∃(g:Nat→List Nat) (v2 v3:Option V),σ=[some (.ref D),some (.ref pl),v2,v3]∧oT n ds un H Hc∧dI Hc D n ds un g∧gG n f ps i 0 g) ⟨f,_,_,rfl,.refl,KL,gG.start n f ps⟩ (fun i σ Hc _ ⟨_,_,_,_,oc,_⟩=>.of (oc _ _ vk bK)) ?_ ?_
 ·rintro i x σ Hc hx ⟨g,v2,v3,rfl,oc,Kc,la⟩
  obtain ⟨p,hp,rfl,pn,up⟩:=Kp hx;refine ⟨_,rfl,pl,rfl,⟨_,.of (oc _ _ vk bK)⟩,?_⟩;refine k_ (K:=K) (a:=pl) (xs:=ps.map fun k:Nat=>V.int (k:Int)) (fun j σ Hd=>∃(g:Nat→List Nat) (v3:Option V),σ=[some (.ref D),some (.ref pl),some (.int (p:Int)),v3]∧oT n ds un H Hd∧dI Hd D n ds un g∧gG n f ps i j g) ⟨g,_,rfl,oc,Kc,la⟩ (fun i σ Hc _ ⟨_,_,_,oc,_⟩=>.of (oc _ _ vk bK)) ?_ ?_
  ·rintro j y σ Hd hy ⟨g,v3,rfl,od,Kd,la⟩
   obtain ⟨q,hq,rfl,qn,uq⟩:=Kp hy;refine ⟨_,rfl,_,rfl,rfl,_,rfl,cI (fun hb=>?_) (fun hb=>?_)⟩
   ·have ne:p≠q:=fun z=>by subst z;rw [zI,bA rfl] at hb;cases hb
    obtain ⟨q1,K1⟩:=Kd.put pn qn up n9;exact ⟨_,rfl,_,rfl,D,_,_,_,rfl,rfl,.of Kd.lst,Kd.ix pn,_,rfl,_,_,rfl,q1,_,_,rfl,od.put pn up,K1,la.put hp hq ne⟩
   ·have e:p=q:=by
     by_cases z:(p:Int)=(q:Int);·lia
     ·exact absurd (by rw [zI,bH z];rfl) hb
    subst e;exact ⟨_,_,rfl,od,Kd,la.same hp hq⟩
  ·rintro σ Hd ⟨g,v3,rfl,od,Kd,la⟩
   rw [aH] at la;exact ⟨g,_,_,rfl,od,Kd,la.row⟩
 ·rintro σ Hc ⟨g,v2,v3,rfl,oc,Kc,la⟩
  rw [aH] at la;exact kk _ g oc Kc la.done
theorem Tw:cf ["shape","order","linked","turns","told","place"] ["shape","order"] (bt AJ):=dq
theorem Tx(T:Txt K mg t):bY P w K mg base (iG P w) 4 t.qU t.ur ["shape","order"] (Ri t.l5):=by
 have S:=Tw;refine T.uW.je S (fun _ _ _ _ H _ _ _ hr h L=>?_);obtain ⟨tp,a,n,Lk,zs,rfl,hS,hL,ns,Tz,ea,ni,kE,kk⟩:=h;obtain ⟨lt,us,dR,elt,mL⟩:=id hS
 refine ⟨_,(aB (eZ (bC (To T) hr T.Js T.uT.kp T.Jr (Cp L) (aj (pv 1) (aj (aU eF (pv 0) aD) ao))))
  (fN.om (aB (putL 2 S.nd (bC (D8 T) hr T.A_ T.o_.kp T.A9 bJ (aj (pv 0) ao)))
  (aB (zH 3 S.nd (bC (Tq T) hr T.Ju T.uU.kp T.Jt bJ (aj (pv 1) ao)))
  (aB (zK (i0:=4) (N:=["place"]) (ρ:=(fun σ=>[])) (jg [] rfl) rfl S.nd rfl (Or.inl rfl) (fO (pv 1)) (fun _ _ _=>.nil) (fun _ _ _=>(dm ao)))
  (aB (dM di rfl (fO (pv 1)) (cM (i:=5) S.nd rfl (Or.inr rfl))
   (aB (@qh _ _ _ _ _ _ (cu Dc rfl T.pb pU (aj (mM (N:=["other","turns","place"]) (ρ:=(fun σ=>[σ[3]?.join,σ[5]?.join])) (jg [3,5] rfl) rfl (Ah (aU cg (pv 2) (pv 5))) (fun _ _ _=>(.one (ck qo (aU (Cz (K:=K)) (pv 1) (pv 0)) (aU (Cz (K:=K)) (pv 1) (pv 2))))) (fun _ _ _=>(pv 0))) ao)) (qg (pv 4) (pv 5) set_list) (by rfl) (by rfl) (by rfl))
  (aE (eZ (bC (Tu T) hr T.Jw T.uV.kp T.Jv bJ (aj (pv 2) (aj (aU cg (pv 4) (pv 5)) ao)))))))
  (aE (bX (pv 4))))))))),?_⟩
 refine ⟨_,rfl,_,rfl,tp,_,_,_,rfl,rfl,.of dR,rfl,a,zs,n,rfl,ea,ni,by lia,fun no H1 s1=>kE no H1 s1,fun yes H1 s1=>?_⟩
 obtain ⟨o,rfl,ho⟩:=QK yes;have kk:=kk o rfl ho;have lo:=mZ ho;have nd:=oR ho;have x9:H a=some (.lst (o.map fun k:Nat=>V.int (k:Int))):=by rw [ea,dE];rfl
 have lm:(o.map fun k:Nat=>V.int (k:Int)).length=n:=by rw [aH,lo]
 refine ⟨_,rfl,tp,n,Lk,rfl,⟨lt,us,s1 _ _ dR,s1 _ _ elt,mL.mono s1⟩,hL,by lia,fun H2 D ds f s2 nD vn KL nb=>?_⟩
 have Y2:=none_of s1 nD;have Kq:∀i,i<n→H (ds i)=none:=fun i hi=>none_of s1 (vn i hi);have gJ:=s1.trans s2;dsimp only [aM];refine ⟨_,rfl,a,n,o,rfl,⟨gJ _ _ x9,ho⟩,by lia,fun tr H3 s3 TB e3=>?_⟩
 have jr:=gJ.trans s3;have Y3:=none_of gJ TB;have K3:=KL.mono s3;dsimp only [aM];refine bg (mP (CB (xs:=o.map fun k:Nat=>V.int (k:Int)) (n:=n) lm (fun R h=>⟨_,rfl,a,rfl,⟨_,.of (jr _ _ x9)⟩,h _ _ (ak.refl _) (qt (.of (jr _ _ x9)))⟩) (cU (by lia)) (fun _ i y Hx=>H3 y=none) (fun _ _ _ _ _ _ h _ _ _=>h) ?_ ?_))
 ·intro D' i x hx Hc R sc _ kc
  refine ⟨by show 0≤sizeLine;exact bU _,fun p np=>kc p _ (aO np) np ⟨_,au⟩ (none_of sc np)⟩
 ·intro c TC H4 nc s4 _ hA ec
  have nk:=jr.trans s4;have Kr:=none_of jr nc;have K4:=K3.mono s4;have e4:=s4 _ _ e3;have cD:c≠D:=fun z=>by rw [z,K3.lst] at nc;cases nc
  have TF:c≠tr:=fun z=>by rw [z,e3] at nc;cases nc
  dsimp only [aM];refine bg ⟨_,rfl,a,rfl,⟨_,.of (nk _ _ x9)⟩,?_⟩
  refine k_ (K:=K) (a:=a) (xs:=o.map fun k:Nat=>V.int (k:Int)) (fun k σ Hc=>∃(rs:Nat→Addr) (f g:Nat→List Nat) (v5:Option V),σ=[some (.ref tp),some (.ref a),some (.ref D),some (.ref tr),some (.ref c),v5]∧ak H Hc∧dI Hc D n ds (fun p=>k≤o.idxOf p) f∧Hc tr=some (.lst ((List.range n).map fun p=>V.int (o.idxOf p:Int)))∧Hc c=some (.lst ((List.range n).map fun p=>V.ref (rs p))) ∧
    (∀p,p<n→o.idxOf p<k→H (rs p)=none∧rs p≠c∧Hc (rs p)=some (.lst ((g p).map fun k:Nat=>V.int (k:Int)))∧oU n o p (g p)∧xG n Lk o p (g p))∧qI n Lk o k f) ⟨TC,f,fun _=>[],_,rfl,nk,K4.less (fun _ _ _=>trivial),e4,ec,fun p _ h=>absurd h (nX _),qI.start nb ns⟩ (fun k σ Hc _ ⟨_,_,_,_,_,sc,_⟩=>.of (sc _ _ x9)) ?_ ?_
  ·rintro k x σ Hc hx ⟨rs,f,g,v5,rfl,sc,Kc,Ea,Bb,done,Eb⟩
   have hk:k<o.length:=by have:=(bW.mp hx).1;simpa using this
   have ex:x=.int ((o[k]:Nat):Int):=by rw [bo] at hx;simp [hk] at hx;exact hx.symm
   subst ex;have hp:o[k]<n:=(fu ho).mp (cy hk);have ip:o.idxOf o[k]=k:=tT nd hk;generalize o[k]=p at hp ip ⊢;dsimp only [aM];have Bc:=Kc.at' p hp (by lia)
   refine bg (mP (GO (HY ⟨_,rfl,_,rfl,D,_,_,_,rfl,rfl,.of Kc.lst,Kc.ix hp,ds p,dk (f p),rfl,.inl ⟨Bc,fun ob=>?_⟩⟩)));have Kf:dI (upd Hc (ds p) (.bb ob (.dK (dk (f p))))) D n ds (fun q=>k+1≤o.idxOf q) f:=(Kc.less (fun i hi (ui:k+1≤o.idxOf i)=>show k≤o.idxOf i by lia)).upd (Kc.ne p hp) (fun i hi (ui:k+1≤o.idxOf i) z=>by have:=Kc.inj i p hi hp z;subst this;lia)
   have Ec:∀{b:Addr} {xs:List V},Hc b=some (.lst xs)→b≠ds p:=fun{b xs} e z=>by rw [z,Bc] at e;cases e
   have Bd:upd Hc (ds p) (.bb ob (.dK (dk (f p)))) tr=_:=(aG (Ec Ea)).trans Ea;have vp:upd Hc (ds p) (.bb ob (.dK (dk (f p)))) c=_:=(aG (Ec Bb)).trans Bb;have sf:ak H (upd Hc (ds p) (.bb ob (.dK (dk (f p))))):=fun b u e=>by
    rw [aG (fun z=>by rw [z,Kq p hp] at e;cases e)]
    exact sc _ _ e
   have Ed:∀q,q<n→o.idxOf q<k→H (rs q)=none∧rs q≠c∧upd Hc (ds p) (.bb ob (.dK (dk (f p)))) (rs q)=some (.lst ((g q).map fun k:Nat=>V.int (k:Int)))∧oU n o q (g q)∧xG n Lk o q (g q):=fun q hq Be=>by obtain ⟨d1,d2,d3,d4⟩:=done q hq Be;exact ⟨d1,d2,(aG (Ec d3)).trans d3,d4⟩
   have jZ:upd Hc (ds p) (.bb ob (.dK (dk (f p)))) (ds p)=some (.bb ob (.dK (dk (f p)))):=au;generalize upd Hc (ds p) (.bb ob (.dK (dk (f p))))=Hf at Kf Bd vp sf Ed jZ ⊢;have vt:=Kc.pl p hp;refine HU jZ (fun q=>decide ((o.idxOf p:Int)<(o.idxOf q:Int))) (jE vt.len (cU (by lia))) ?_ ?_ ?_
   ·intro q hq Hx R sx hR
    have qn:=vt.2 q hq;exact ⟨_,rfl,_,rfl,tr,_,_,_,rfl,rfl,.of (sx _ _ Bd),jl qn,_,rfl,_,rfl,tr,_,_,_,rfl,rfl,.of (sx _ _ Bd),jl hp,_,_,rfl,rfl,_,rfl,hR⟩
   ·intro q hq Hx R hR
    exact ⟨_,rfl,hR⟩
   ·intro D1 H1 Y4 Ks Kt
    rw [QP] at Kt;have fl:((f p).filter fun q=>decide (o.idxOf p<o.idxOf q)).length≤n:=b9 (vY _ _) vt.len;refine ⟨D1,((f p).filter fun q=>decide (o.idxOf p<o.idxOf q)).map iN,rfl,by rw [Kt,dE];rfl,by rw [aH];lia,fun ws D2 pw so Ku=>?_⟩
    obtain ⟨ms,rfl,pm⟩:=HV pw;have Bf:=QJ vt pm so;have hm:∀q,q∈ms↔q∈f p∧k<o.idxOf q:=fun q=>by rw [pm.mem_iff,fY,i5,ip]
    have TH:xG n Lk o p ms:=fun q=>by
     rw [hm q,ip];constructor
     ·rintro ⟨h1,h2⟩
      have qn:=vt.2 q h1;exact ⟨qn,h2,((Eb p q hp qn (by lia) (by lia)).mp h1).2⟩
     ·rintro ⟨h1,h2,h3⟩
      exact ⟨(Eb p q hp h1 (by lia) (by lia)).mpr ⟨fun e=>by subst e;lia,h3⟩,h2⟩
    have rQ:ak Hf (upd H1 D2 (.lst ((ms.map iN).map V.int))):=xE Ks Ku;have kH:upd H1 D2 (.lst ((ms.map iN).map V.int)) D2=some (.lst (ms.map fun k:Nat=>V.int (k:Int))):=by rw [au,dE];rfl
    have Ee:Hf D2=none:=none_of Ks Ku;have TJ:H D2=none:=none_of sf Ee;generalize upd H1 D2 (.lst ((ms.map iN).map V.int))=Hg at rQ kH ⊢;have Kv:D2≠c:=fun z=>by rw [z,vp] at Ee;cases Ee
    refine ⟨_,rfl,_,rfl,c,_,_,p,rfl,rfl,rQ _ _ vp,by rw [aH,fH];exact Aj hp,?_⟩
    rw [QL];have Kg:=Kf.mono rQ;have Kh:dI (upd Hg c (.lst ((List.range n).map fun q=>V.ref (jT rs p D2 q)))) D n ds (fun q=>k+1≤o.idxOf q) f:=Kg.upd cD (fun i hi ui z=>by have:=Kg.at' i hi ui;rw [z,rQ _ _ vp] at this;cases this)
    have sh:ak H (upd Hg c (.lst ((List.range n).map fun q=>V.ref (jT rs p D2 q)))):=eG (sf.trans rQ) Kr;have Ef:upd Hg c (.lst ((List.range n).map fun q=>V.ref (jT rs p D2 q))) c=_:=au;have Kw:upd Hg c (.lst ((List.range n).map fun q=>V.ref (jT rs p D2 q))) tr=_:=(aG (Ne.symm TF)).trans (rQ _ _ Bd);have Eg:upd Hg c (.lst ((List.range n).map fun q=>V.ref (jT rs p D2 q))) D2=_:=(aG Kv).trans kH;have Kx:∀q,q<n→o.idxOf q<k→upd Hg c (.lst ((List.range n).map fun q=>V.ref (jT rs p D2 q))) (rs q)=some (.lst ((g q).map fun k:Nat=>V.int (k:Int))):=fun q hq Be=>by obtain ⟨d1,d2,d3,d4⟩:=Ed q hq Be;exact (aG d2).trans (rQ _ _ d3)
    generalize upd Hg c (.lst ((List.range n).map fun q=>V.ref (jT rs p D2 q)))=Hh at Kh sh Ef Kw Eg Kx ⊢;refine ⟨_,rfl,_,rfl,_,rfl,c,_,_,_,rfl,rfl,.of Ef,jl hp,?_⟩;rw [HX];refine ⟨D,D2,n,ds,_,f,ms,rfl,Kh,Eg,fun q hq=>⟨Bf.lt q hq,by have:=Bf.la q hq;lia⟩,by lia,fun H5 g5 off K5 con=>?_⟩
    have bK:∀{b:Addr} {xs:List V},Hh b=some (.lst xs)→H5 b=some (.lst xs):=fun{b xs} e=>off _ _ e fun i hi ui z=>by rw [z,Kh.at' i hi ui] at e;cases e
    refine ⟨jT rs p D2,g5,dP g p ms,_,rfl,fun b u e=>off _ _ (sh _ _ e) (fun i hi _ z=>by rw [z,Kq i hi] at e;cases e),K5,bK Kw,bK Ef,fun q hq Be=>?_,Eb.step ho hp ip hm Bf.lt con⟩
    by_cases e:q=p
    ·subst e
     rw [HX,QN];exact ⟨TJ,Kv,bK Eg,Bf,TH⟩
    ·rw [QM e,QO e]
     have ne:=jU ho hq hp e;have Ky:o.idxOf q<k:=by lia
     obtain ⟨d1,d2,d3,d4⟩:=Ed q hq Ky;exact ⟨d1,d2,bK (Kx q hq Ky),d4⟩
  ·rintro σ Hc ⟨rs,f,g,v5,rfl,sc,Kc,Ea,Bb,done,_⟩
   rw [lm] at done;have lt:∀p,p<n→o.idxOf p<n:=fun p hp=>by have:=(oS ((fu ho).mpr hp)).1;lia
   exact ⟨_,rfl,kk Hc c rs g sc Kr (fun p hp=>(done p hp (lt p hp)).1) ⟨Bb,fun p hp=>(done p hp (lt p hp)).2.2.1⟩ fun p hp=>(done p hp (lt p hp)).2.2.2⟩
theorem TK:cf ["shape","order","links","place","others"] ["shape","order"] (bt AK):=dq
theorem TL(T:Txt K mg t):bY P w K mg base (iG P w) 5 t.qV t.uu ["shape","order"] (Rm t.l5):=by
 have S:=TK;refine T.uX.je S (fun _ _ _ _ H _ _ _ hr h L=>?_);obtain ⟨tp,a,n,Lk,zs,rfl,hS,hL,ns,n9,ea,ni,kE,kk⟩:=h;obtain ⟨lt,us,dR,elt,mL⟩:=id hS
 refine ⟨_,(aB (putL 2 S.nd (dm ao))
  (aB (dM (QR L) rfl (GR rfl T.D7 (aj (bC (Tx T) hr T.Jy T.uW.kp T.Jx (Cp L) (aj (pv 0) (aj (pv 1) ao))) ao)) (wI rfl (k4 (cM (i:=3) S.nd rfl (Or.inr rfl)) (k4 (cM (i:=4) S.nd rfl (Or.inl rfl)) wH)))
   (aE (eZ (fq eX PySem.F.slot_list_extend PySem.F.type_list_extend Gk (pv 2) (aj (mM (N:=["other","place"]) (ρ:=(fun σ=>[σ[3]?.join])) (jg [3] rfl) rfl (fO (pv 4)) (fun _ _ _=>.nil) (fun _ _ _=>(gP (aj (cu (zu rfl) rfl T.x6 boot_min (aj (pv 1) (aj (pv 0) ao))) (aj (cu (zt rfl) rfl T.vj boot_max (aj (pv 1) (aj (pv 0) ao))) ao))))) ao)))))
  (aE (bX (gP (aj (aU eF (pv 0) aD) (aj (fP Cb rfl T.x8 boot_tuple (aj (cu Ab rfl T.pb pU (aj (pv 2) ao)) ao)) ao))))))),?_⟩
 refine ⟨bU _,fun l nl=>?_⟩;have s0:ak H (upd H l (.lst [])):=aO nl;have el:upd H l (.lst []) l=some (.lst []):=au;generalize upd H l (.lst [])=H0 at s0 el ⊢;dsimp only [aM];refine bg ⟨_,rfl,_,rfl,tp,a,n,Lk,zs,rfl,hS.mono s0,hL,ns,by lia,s0 _ _ ea,ni,fun no H1 s1=>kE no H1 (s0.trans s1),fun o ez ho H1 D rs g s1 nD Bg la ok=>?_⟩
 have kk:=kk o ez ho;have jQ:∀p,p<n→xG n Lk o p (g p):=fun p hp=>(ok p hp).2;have ok:∀p,p<n→oU n o p (g p):=fun p hp=>(ok p hp).1;have cW:=Rk ho n9 ok;have l6:∀p,p<n→rs p≠l:=fun p hp z=>by have:=Bg p hp;rw [z,el] at this;cases this
 have TM:D≠l:=fun z=>by rw [z,el] at nD;cases nD
 have Kz:((List.range n).map fun p=>V.ref (rs p)).length=n:=by rw [aH,fH]
 refine ⟨D,rfl,⟨_,.of la.1⟩,?_⟩
 refine GS (K:=K) (l:=D) (xs:=(List.range n).map fun p=>V.ref (rs p)) (fun k σ Hc=>∃(xs:List V) (M:aw) (v3 v4:Option V),σ=[some (.ref tp),some (.ref a),some (.ref l),v3,v4]∧ak H Hc∧HW Hc D n rs g∧Hc l=some (.lst xs)∧Ap Hc g k xs M)
  ⟨[],[],_,_,rfl,s0.trans s1,la,s1 _ _ el,⟨⟨rfl,fun k v p h=>by cases h⟩,rfl,fun z=>⟨(fun h=>by cases h),fun⟨p,q,h,_⟩=>absurd h (nX _)⟩,iZ⟩⟩ (fun k σ Hc ⟨_,_,_,_,_,_,z,_⟩=>.of z.1) ?_ ?_
 ·rintro k x σ Hc Tt hx ⟨xs,M,v3,v4,rfl,sc,lc,iV,so⟩ nT
  have hk:k<n:=by have:=(bW.mp hx).1;rw [Kz] at this;exact this
  have ex:x=.ref (rs k):=by rw [bo,pM hk] at hx;exact (Option.some.inj hx).symm
  subst ex;have sT:ak Hc (upd Hc Tt (.tup [.int (k:Int),.ref (rs k)])):=aO nT;have eT:upd Hc Tt (.tup [.int (k:Int),.ref (rs k)]) Tt=_:=au;generalize upd Hc Tt (.tup [.int (k:Int),.ref (rs k)])=H2 at sT eT ⊢;have ek:=ok k hk;have lg:(g k).length≤30:=b9 (HZ ho ek) (by lia)
  have e2:=sT _ _ (lc.2 k hk);refine ⟨Tt,_,rfl,.of eT,rfl,_,_,rfl,_,_,rfl,rfl,?_⟩;refine ⟨_,rfl,.inl ⟨rfl,_,.of (sT _ _ iV)⟩,GL (xs:=(g k).map fun k:Nat=>V.int (k:Int)) (fun R h=>⟨_,rfl,rs k,rfl,⟨_,.of e2⟩,h _ _ (ak.refl _) (qt (.of e2))⟩) (by rw [aH];exact cU (by lia)) (fun _ i y Hz=>∃(b:Addr) (q:Nat),y=.ref b∧(g k)[i]?=some q∧Hz b=some (.tup [.int (da k q).1,.int (da k q).2])) (fun Dd i y Ha Hb ys ⟨b,x,h1,h2,h3⟩ e f=>⟨b,x,h1,h2,f b _ (fun z=>by rw [z,e] at h3;cases h3) h3⟩) ?_ ?_⟩
  ·intro Dd i x hx Hz R sz _ kz
   obtain ⟨q,hq,rfl⟩:∃q:Nat,(g k)[i]?=some q∧x=.int (q:Int):=by
    rw [bo] at hx;cases e:(g k)[i]? with
    | none=>rw [e] at hx;cases hx
    | some q=>rw [e] at hx;exact ⟨q,rfl,(Option.some.inj hx).symm⟩
   refine ⟨_,rfl,_,rfl,_,_,rfl,_,rfl,_,rfl,_,_,rfl,by show 2≤sizeLine;decide,fun tp dJ=>?_⟩
   exact kz _ _ (aO dJ) ⟨tp,q,rfl,hq,au⟩
  ·intro Dd ys H3 TN s3 Bh Ba Eh
   rw [aH] at Bh;have lM:M.length≤435:=by rw [so.len];exact b9 (QQ (g:=fun p=>(g p).length) (nN hk)) cW
   have lx:=so.at'.1;have iW:=s3 _ _ (sT _ _ iV);refine ⟨l,Dd,xs,ys,rfl,rfl,iW,Eh,b9 (show _≤900 by lia) (by decide),?_⟩
   have k9:∀b o,b≠l→H3 b=some o→upd H3 l (.lst (xs++ys)) b=some o:=fun b o nb e=>by rw [aG nb];exact e
   have nB:=sc.trans (sT.trans s3);refine ⟨xs++ys,M++(g k).map (da k),_,_,rfl,fun b u e=>k9 b u (fun z=>by rw [z,nl] at e;cases e) (nB _ _ e),⟨k9 _ _ TM (s3 _ _ (sT _ _ lc.1)),fun p hp=>k9 _ _ (l6 p hp) (s3 _ _ (sT _ _ (lc.2 p hp)))⟩,au,so.more (fun h=>((h.mono sT).mono s3).bK iW k9) hk ok ?_⟩
   refine aX.bK (H:=H3) ⟨by rw [Bh,aH],fun i v p h1 h2=>?_⟩ iW k9
   obtain ⟨b,q,rfl,hq,e⟩:=Ba i v h1;rw [bo,hq] at h2;cases h2;exact ⟨b,rfl,e⟩
 ·rintro σ Hc ⟨xs,M,v3,v4,rfl,sc,lc,iV,so⟩
  rw [Kz] at so;have lM:M.length≤435:=by rw [so.len];exact cW
  have lx:=so.at'.1;have bM:∀z∈M,0≤z.2∧z.2<1000:=fun z hz=>by obtain ⟨p,q,h1,h2,rfl⟩:=(so.mem z).mp hz;have:=Di h1 ((ok p h1).lt q h2);lia
  refine ⟨_,rfl,tp,_,_,_,rfl,rfl,.of (sc _ _ dR),rfl,_,rfl,?_⟩;dsimp only [wL];refine Dt iV so.at' (by lia) bM fun l' ws N H3 s3 m7 jR hN pN oN=>?_
  have s4:=sc.trans s3;refine ⟨l',ws,rfl,.inl ⟨.of jR,fun lt x_=>?_⟩⟩;have ju:ak H3 (upd H3 lt (.tup ws)):=aO x_;have ya:upd H3 lt (.tup ws) lt=some (.tup ws):=au;generalize upd H3 lt (.tup ws)=Hd at ju ya ⊢;refine ⟨by show 2≤sizeLine;decide,fun tq pj=>?_⟩
  have st:ak Hd (upd Hd tq (.tup [.int (n:Int),.ref lt])):=aO pj;have s5:=s4.trans (ju.trans st);have bN:∀z∈N,0≤z.2∧z.2<1000:=fun z hz=>bM z (pN.mem_iff.mp hz);refine kk _ tq N s5 (none_of (s4.trans ju) pj) ⟨lt,ws,au,st _ _ ya,(hN.mono ju).mono st⟩ ⟨Im oN (pN.nodup_iff.mpr so.nd) bN,fun z=>?_⟩ (by rw [pN.length_eq];lia)
  rw [pN.mem_iff,so.mem];constructor
  ·rintro ⟨p,q,h1,h2,h3⟩
   obtain ⟨w1,w2,w3⟩:=(jQ p h1 q).mp h2;exact ⟨p,q,h1,w1,w2,w3,h3⟩
  ·rintro ⟨p,q,h1,w1,w2,w3,h3⟩
   exact ⟨p,q,h1,(jQ p h1 q).mpr ⟨w1,w2,w3⟩,h3⟩
theorem TQ:cf ["shape","order"] ["shape","order"] (bt AL):=dq
theorem TR(T:Txt K mg t):bY P w K mg base (iG P w) 6 t.qW t.uv ["shape","order"] (Ru t.l5):=by have S:=TQ;refine T.uY.je S (fun _ _ _ _ H _ _ _ hr h L=>?_);obtain ⟨tp,a,n,Lk,zs,rfl,hS,hL,ns,n9,ea,ni,kE,kk⟩:=h;have fh:=hr.units;refine ⟨_,(aE (bX (mJ (Rq fh) (bC (TL T) hr T.JA T.uX.kp T.Jz (Cp L) (aj (pv 0) (aj (pv 1) ao))) (pv 0)))),?_⟩;refine ⟨_,rfl,_,rfl,tp,a,n,Lk,zs,rfl,hS,hL,ns,n9,ea,ni,kE,fun o ez ho H1 t1 M s1 _ h1 fs _=>?_⟩;exact ⟨_,rfl,t1,tp,n,M,Lk,rfl,rfl,h1,hS.mono s1,kk o ez ho _ _ s1 fs⟩
abbrev kI:Pos:=(⟨57,30,57,55⟩:Pos)
theorem TU:cf ["shape","linked","left","counts","picked","place","other"] ["shape"] (bt AM):=dq
theorem TV(T:Txt K mg t)(hB:kG base mg):bY P w K mg base cw 3 t.qX t.oZ ["shape"] (SN 96 kI):=by
 have S:=TU;refine T.uZ.Aw T.tab S (fun vs H Q E h=>?_) (fun c A outer s H vs Q E hC hr h=>?_)
 ·obtain ⟨tp,n,L,rfl,_⟩:=h
  rfl
 ·obtain ⟨tp,n,L,rfl,fD,en,n9,tab,kk⟩:=h
  have fh:=hr.units;obtain ⟨lt,us,dR,elt,mL⟩:=id fD
  refine ⟨_,(aB (putL 1 S.nd (bC (D8 T) hr T.A_ T.o_.kp T.A9 bJ (aj (pv 0) ao)))
   (aB (putL 2 S.nd (fP (tG rfl) rfl T.jq boot_list (aj (fP tF rfl T.fB tH (aj (aU eF (pv 0) aD) ao)) ao)))
   (aB (zH 3 S.nd (bQ Gn (dm (aj aD ao)) (aU eF (pv 0) aD)))
   (aB (putL 4 S.nd (dm ao))
   (aB (sV di (ck qo (cu jd rfl T.hW ig (aj (pv 2) ao)) aD) (aB (putL 5 S.nd (Ss (i:=3) (aj (pv 2) ao) rfl T.vj rfl (hr.mono (by decide)) hB rfl hC rfl rfl (fun _ _ _ _ _ _ _=>rfl) rfl rfl rfl rfl))
   (aB (eZ (fq eX PySem.F.slot_list_remove PySem.F.type_list_remove Ip (pv 2) (aj (pv 5) ao)))
   (aB (eZ (fq eX iu iy gf (pv 4) (aj (pv 5) ao)))
   (aE (dM di rfl (Ah (aU cg (pv 1) (pv 5))) (cM (i:=6) S.nd rfl (Or.inl rfl))
    (aE (@Mw _ _ _ _ _ _ _ _ _ _ _ _ _ (pv 3) (pv 6) OR aD Mz set_list (by intros;rfl)))))))))
   (aE (bX (SH rfl rfl T.jq rfl T.Kk (aj (pv 4) ao))))))))),?_⟩
  refine bg ⟨_,rfl,tp,n,L,rfl,fD,en,n9,fun H1 D ds f s1 nD vn KL nb=>?_⟩;have KA:=s1 _ _ dR;have Y5:=tab.mono s1;dsimp only [aM];refine bg ⟨_,rfl,tp,_,_,_,rfl,rfl,.of KA,rfl,(n:Int),rfl,fun q1 pA=>⟨q1,n,rfl,au,by lia,fun l1 rR=>?_⟩⟩
  have s2:ak H1 (upd (upd H1 q1 (.d7 0 (n:Int))) l1 (.lst (cC n))):=(aO pA).trans (aO rR);have e1:upd (upd H1 q1 (.d7 0 (n:Int))) l1 (.lst (cC n)) l1=some (.lst ((List.range n).map fun k:Nat=>V.int (k:Int))):=by rw [au];rfl
  have vv:H1 l1=none:=none_of (aO pA) rR;generalize upd (upd H1 q1 (.d7 0 (n:Int))) l1 (.lst (cC n))=H2 at s2 e1 ⊢;dsimp only [aM];refine bg ⟨by show 1≤sizeLine;decide,fun l nl=>?_⟩
  refine ⟨_,rfl,tp,_,_,_,rfl,rfl,.of ((aO nl) _ _ (s2 _ _ KA)),rfl,l,(n:Int),[.int 0],rfl,rfl,au,by lia,by lia,?_,fun l2 rS=>?_⟩
  ·rw [d6]
   exact b9 (show [V.int 0].length*n≤1000 by simp;lia) (by decide)
  have e0:(List.replicate ((n:Int).toNat) [V.int 0]).flatten=((List.range n).map fun a=>(fg L [] a:Int)).map V.int:=by
   rw [OS n];refine sE fun i=>?_;rw [bo,bo,bo,List.getElem?_replicate];by_cases hi:i<n;·simp [hi,fg]
   ·simp [hi]
  rw [e0];have s3:ak H2 (upd (upd H2 l (.lst [.int 0])) l2 (.lst (((List.range n).map fun a=>(fg L [] a:Int)).map V.int))):=(aO nl).trans (aO rS);have e2:upd (upd H2 l (.lst [.int 0])) l2 (.lst (((List.range n).map fun a=>(fg L [] a:Int)).map V.int)) l2=some (.lst (((List.range n).map fun a=>(fg L [] a:Int)).map V.int)):=au;have pB:H2 l2=none:=none_of (aO nl) rS;generalize upd (upd H2 l (.lst [.int 0])) l2 (.lst (((List.range n).map fun a=>(fg L [] a:Int)).map V.int))=H3 at s3 e2 ⊢;dsimp only [aM];refine bg ⟨bU _,fun l3 jv=>?_⟩;have s4:ak H3 (upd H3 l3 (.lst [])):=aO jv;have e3:upd H3 l3 (.lst []) l3=some (.lst (([]:List Nat).map fun k:Nat=>V.int (k:Int))):=au;generalize upd H3 l3 (.lst [])=H4 at s4 e3 ⊢;have nk:ak H1 H4:=(s2.trans s3).trans s4;have KC:=s1.trans nk;have m1:H l1=none:=none_of s1 vv;have m2:H l2=none:=none_of s1 (none_of s2 pB);have m3:H l3=none:=none_of s1 (none_of (s2.trans s3) jv);have KD:l1≠l2:=fun z=>by rw [z,pB] at e1;cases e1
  have KG:l1≠l3:=fun z=>by rw [←z,s3 _ _ e1] at jv;cases jv
  have KH:l2≠l3:=fun z=>by rw [←z,e2] at jv;cases jv
  have KF:=KL.fr;have y1:l1≠D:=fun z=>absurd KL.lst (by rw [←z,vv];exact fun h=>by cases h)
  have y2:l2≠D:=fun z=>absurd (s2 _ _ KL.lst) (by rw [←z,pB];exact fun h=>by cases h)
  have y3:l3≠D:=fun z=>absurd ((s2.trans s3) _ _ KL.lst) (by rw [←z,jv];exact fun h=>by cases h)
  have z1:∀i,i<n→ds i≠l1:=fun i hi z=>absurd (KL.at' i hi trivial) (by rw [z,vv];exact fun h=>by cases h)
  have z2:∀i,i<n→ds i≠l2:=fun i hi z=>absurd (s2 _ _ (KL.at' i hi trivial)) (by rw [z,pB];exact fun h=>by cases h)
  have z3:∀i,i<n→ds i≠l3:=fun i hi z=>absurd ((s2.trans s3) _ _ (KL.at' i hi trivial)) (by rw [z,jv];exact fun h=>by cases h)
  obtain ⟨Y6,eP⟩:=tab.at;have pt:∀{b:Addr},H b=none→b≠96:=fun h z=>by rw [z,eP] at h;cases h
  have K4:dZ H4 D n ds f:=⟨nk _ _ KF.lst,fun i hi=>(KF.at' i hi).imp (fun e=>nk _ _ e) fun⟨ob,e⟩=>⟨ob,nk _ _ e⟩⟩;dsimp only [aM];refine bg ⟨fun m σ Hc=>∃(zs Pk:List Nat) (v5 v6:Option V),σ=[some (.ref tp),some (.ref D),some (.ref l1),some (.ref l2),some (.ref l3),v5,v6]∧m=zs.length∧dC 96 H Hc∧de 96 kI iT Hc∧dZ Hc D n ds f∧Hc l1=some (.lst (zs.map fun k:Nat=>V.int (k:Int)))∧Hc l2=some (.lst (((List.range n).map fun a=>(fg L Pk a:Int)).map V.int))∧Hc l3=some (.lst (Pk.map fun k:Nat=>V.int (k:Int)))∧(zs++Pk).Perm (List.range n)∧lS n (rL L) Pk,⟨_,List.range n,[],_,_,rfl,rfl,fun b o _ e=>KC _ _ e,tab.mono KC,K4,(s3.trans s4) _ _ e1,s4 _ _ e2,e3,by rw [j4],lS.nil⟩,?_⟩
  rintro m σ Hc ⟨zs,Pk,v5,v6,rfl,rfl,sc,tc,Kc,ez,ec,ep,pm,pk⟩;have ll:=pm.length_eq;rw [du,fH] at ll;have zn:∀z∈zs,z<n:=fun z hz=>cR.mp (pm.mem_iff.mp (kK _ hz));refine ⟨_,rfl,l1,_,rfl,.inl (.of ez),_,_,rfl,rfl,_,rfl,cI (fun hb=>?_) (fun hb=>?_)⟩
  ·have z0:zs≠[]:=fun z=>by subst z;have:=eR hb;simp at this
   refine ⟨_,fun _ _ h=>h,?_⟩;refine bg ⟨_,rfl,l1,l2,zs,_,rfl,.of ez,z0,rfl,.of ec,fun y hy=>by rw [aH,fH];exact zn y hy,tc,fun h H5 mk s5 t5=>?_⟩
   have hz:=mk.1;have hn:=zn h hz;have most:∀a,a<n→a∉Pk→(Pk.filter (rL L a)).length≤(Pk.filter (rL L h)).length:=fun a an aP=>by
    have az:a∈zs:=by
     have:=pm.mem_iff.mpr (cR.mpr an);rcases cY.mp this with h | h;·exact h
     ·exact absurd h aP
    have:=mk.2 a az;rw [getD_map an,getD_map hn] at this;unfold fg at this;lia
   have jw:dC 96 H H5:=fun b o n e=>s5 b o n (sc b o n e);have K5:=Kc.keep (a:=96) (fun b u n e=>s5 b u n e) (fun z=>pt nD z.symm) (fun i hi=>pt (vn i hi));have rT:=s5 _ _ (pt m1) ez;have TY:=s5 _ _ (pt m2) ec;have TZ:=s5 _ _ (pt m3) ep;dsimp only [aM];have ix:zs.idxOf h<zs.length:=j9 hz;have Ei:((zs.map fun k:Nat=>(k:Int)).map V.int).eraseIdx (zs.idxOf h)=(zs.erase h).map fun k:Nat=>V.int (k:Int):=by rw [dE,Dw,List.erase_eq_eraseIdx_of_idxOf rfl];rfl
   refine bg ⟨_,rfl,.inl ⟨rfl,_,.of rT⟩,_,rfl,l1,zs.map fun k:Nat=>(k:Int),zs.idxOf h,(h:Int),rfl,rfl,by rw [rT,dE];rfl,?_,fun m' d_ e=>?_,?_⟩
   ·rw [bo,bS ix,v_]
    rfl
   ·have ng:m'<zs.length:=by lia
    rw [bo,bS ng] at e;have e':((zs[m']:Nat):Int)=(h:Int):=Option.some.inj e;have:=Dv d_;rw [bS ng] at this;exact this (eE some (by lia))
   rw [Ei];have o6:∀b u,b≠l1→H5 b=some u→upd H5 l1 (.lst ((zs.erase h).map fun k:Nat=>V.int (k:Int))) b=some u:=fun b u ne e=>by rw [aG ne];exact e
   have Bi:upd H5 l1 (.lst ((zs.erase h).map fun k:Nat=>V.int (k:Int))) l1=some (.lst ((zs.erase h).map fun k:Nat=>V.int (k:Int))):=au;generalize upd H5 l1 (.lst ((zs.erase h).map fun k:Nat=>V.int (k:Int)))=H6 at o6 Bi ⊢;have Bj:dC 96 H H6:=fun b o n e=>o6 b o (fun z=>by rw [z,m1] at e;cases e) (jw b o n e)
   have t6:=t5.off rT (fun _ z=>by cases z) (fun _ z=>by cases z) o6
   have K6:=K5.keep o6 y1 z1;have T1:=o6 _ _ (Ne.symm KD) TY;have Ej:=o6 _ _ (Ne.symm KG) TZ;dsimp only;refine bg ⟨_,rfl,.inl ⟨rfl,_,.of Ej⟩,_,rfl,l3,_,_,rfl,rfl,Ej,cU (by rw [aH];lia),?_⟩
   have rV:(Pk.map fun k:Nat=>V.int (k:Int))++[V.int (h:Int)]=(Pk++[h]).map fun k:Nat=>V.int (k:Int):=by rw [fi];rfl
   rw [rV];have o7:∀b u,b≠l3→H6 b=some u→upd H6 l3 (.lst ((Pk++[h]).map fun k:Nat=>V.int (k:Int))) b=some u:=fun b u ne e=>by rw [aG ne];exact e
   have KI:upd H6 l3 (.lst ((Pk++[h]).map fun k:Nat=>V.int (k:Int))) l3=some (.lst ((Pk++[h]).map fun k:Nat=>V.int (k:Int))):=au;generalize upd H6 l3 (.lst ((Pk++[h]).map fun k:Nat=>V.int (k:Int)))=H7 at o7 KI ⊢;have rW:dC 96 H H7:=fun b o n e=>o7 b o (fun z=>by rw [z,m3] at e;cases e) (Bj b o n e)
   have t7:=t6.off Ej (fun _ z=>by cases z) (fun _ z=>by cases z) o7
   have K7:=K6.keep o7 y3 z3;have T2:=o7 _ _ KH T1;have yb:=o7 _ _ KG Bi;dsimp only;refine QX (a:=ds h) (kvs:=dk (f h)) (fun Q q=>⟨_,rfl,_,rfl,D,_,_,_,rfl,rfl,.of K7.lst,jl hn,q⟩) (K7.at' h hn) fun ob Hf jZ off=>?_;have Kf:=K7.bb off hn jZ KL.inj (KL.ne h hn);have xN:dC 96 H Hf:=fun b o n e=>off b o (fun z=>by rw [z,vn h hn] at e;cases e) (rW b o n e)
   have tf:de 96 kI iT Hf:=by
    rcases K7.at' h hn with e | ⟨ob,e⟩;·exact t7.off e (fun _ z=>by cases z) (fun _ z=>by cases z) off
    ·exact t7.off e (fun _ z=>by cases z) (fun _ z=>by cases z) off
   have T3:=off _ _ (Ne.symm (z1 h hn)) yb;have vp:=off _ _ (Ne.symm (z2 h hn)) T2;have Bc:=off _ _ (Ne.symm (z3 h hn)) KI;have KJ:=KL.pl h hn;refine Ia (fun i σ He=>∃(v6:Option V),σ=[some (.ref tp),some (.ref D),some (.ref l1),some (.ref l2),some (.ref l3),some (.int (h:Int)),v6]∧dC 96 H He∧de 96 kI iT He∧dZ He D n ds f∧He (ds h)=some (.bb ob (.dK (dk (f h))))∧He l1=some (.lst ((zs.erase h).map fun k:Nat=>V.int (k:Int)))∧He l3=some (.lst ((Pk++[h]).map fun k:Nat=>V.int (k:Int)))∧He l2=some (.lst (((List.range n).map fun a=>(fg L Pk a:Int)+if a∈(f h).take i then 1 else 0).map V.int))) ⟨_,rfl,xN,tf,Kf,jZ,T3,Bc,by rw [vp];simp⟩ (fun i σ He _ ⟨_,_,_,_,_,e,_⟩=>e) ?_ ?_
   ·rintro i k σ He hk ⟨v6,rfl,se,te,Ke,yc,Ek,El,rX⟩
    have km:k∈f h:=nU hk;have kn:k<n:=KJ.2 k km;have tk:=take_snoc hk;have kt:k∉(f h).take i:=fun z=>by have nd:=KJ.1;rw [←n4 (i+1) (f h),tk,fF,ic] at nd;exact nd.2.2 k z k (by simp) rfl
    dsimp only [aM];refine ⟨_,rfl,_,rfl,l2,_,(k:Int),.int ((fg L Pk k:Int)+0),rfl,rfl,Int.natCast_nonneg _,.of rX,?_,_,_,rfl,rfl,l2,_,(k:Int),k,rfl,rfl,rX,?_,?_⟩
    ·refine lA ?_
     rw [bo,bo,pM kn,Option.map_some,Option.map_some,aa kt]
    ·have lr:((List.map (fun a=>(fg L Pk a:Int)+if a∈(f h).take i then 1 else 0) (List.range n)).map V.int).length=n:=by rw [aH,aH,fH]
     rw [lr];unfold jI;rw [ae (Int.natCast_nonneg _),ae (by lia),d6]
    have T5:(((List.range n).map fun a=>(fg L Pk a:Int)+if a∈(f h).take i then 1 else 0).map V.int).set k (.int ((fg L Pk k:Int)+0+1))=((List.range n).map fun a=>(fg L Pk a:Int)+if a∈(f h).take (i+1) then 1 else 0).map V.int:=by
     rw [dE,dE,SM];refine ma fun a _=>?_;by_cases e:a=k
     ·subst e
      rw [ae rfl];show V.int _=V.int (_+if a∈(f h).take (i+1) then 1 else 0)
      rw [ae (by rw [tk];simp)]
      congr 1
     ·rw [aa e]
      show V.int (_+if a∈(f h).take i then 1 else 0)=V.int (_+if a∈(f h).take (i+1) then 1 else 0)
      have:a∈(f h).take (i+1)↔a∈(f h).take i:=by rw [tk];simp [e]
      simp only [this]
    rw [T5];have o8:∀b u,b≠l2→He b=some u→upd He l2 (.lst (((List.range n).map fun a=>(fg L Pk a:Int)+if a∈(f h).take (i+1) then 1 else 0).map V.int)) b=some u:=fun b u ne e=>by rw [aG ne];exact e
    exact ⟨_,rfl,fun b o n e=>o8 b o (fun z=>by rw [z,m2] at e;cases e) (se b o n e),te.off rX (fun _ z=>by cases z) (fun _ z=>by cases z) o8,Ke.keep o8 y2 z2,o8 _ _ (z2 h hn) yc,o8 _ _ KD Ek,o8 _ _ (Ne.symm KH) El,au⟩
   ·rintro σ He ⟨v6,rfl,se,te,Ke,yc,Ek,El,rX⟩
    rw [gu] at rX;have T6:((List.range n).map fun a=>(fg L Pk a:Int)+if a∈f h then 1 else 0)=(List.range n).map fun a=>(fg L (Pk++[h]) a:Int):=by
     refine ma fun a ha=>?_;rw [SK];have e:a∈f h↔rL L a h=true:=by rw [nb h a hn,m8];exact or_comm
     by_cases q:a∈f h;·rw [ae q,ae (e.mp q)];rfl
     ·rw [aa q,aa fun z=>q (e.mpr z)];rfl
    rw [T6] at rX;refine ⟨_,?_,zs.erase h,Pk++[h],_,_,rfl,rfl,se,te,Ke,Ek,rX,El,?_,pk.snoc most⟩
    ·rw [yX hz]
     exact Nat.sub_lt (Nat.pos_of_ne_zero fun z=>z0 (List.eq_nil_of_length_eq_zero z)) Nat.one_pos
    ·refine List.Perm.trans ?_ pm
     have h1:=List.perm_cons_erase hz;refine List.Perm.trans ?_ (h1.symm.append_right Pk);rw [←fF];exact pP
  ·have z0:zs=[]:=by
    cases zs with
    | nil=>rfl
    | cons x r=>refine absurd (bA ?_) hb;show (0:Int)<_;simp
   subst z0;dsimp only;refine ⟨_,rfl,l3,_,rfl,.of ep,?_,fun R nR=>?_⟩
   ·rw [aH]
    simp at ll;lia
   rw [←List.map_reverse];have sR:ak Hc (upd Hc R (.lst (Pk.reverse.map fun k:Nat=>V.int (k:Int)))):=aO nR;rw [vT] at pm;refine kk _ R Pk (fun b o n e=>sR _ _ (sc b o n e)) (tc.mono sR) ?_ au pm pk;cases e:H R with
   | none=>rfl
   | some o=>
    by_cases z:R=96
    ·obtain ⟨ps,e2⟩:=tc.at
     rw [z,e2] at nR;cases nR
    ·rw [sc R o z e] at nR;cases nR
theorem T7:cf ["linked","whence","place"] ["linked","whence","place"] (bt AO):=dq
theorem T8(T:Txt K mg t):bY P w K mg base cw 1 t.qZ t.uz ["linked","whence","place"] S3:=by
 have S:=T7;refine T.u4.dN S (fun _ _ _ _ H _ Q _ hr h=>?_);obtain ⟨D,wd,n,L,ds,f,wl,p,rfl,ls,lf,ew,ue,pn,n9,kk⟩:=h;have hu:=jE (n_ (show 1≤64 by decide) _) hr.units
 refine ⟨_,(aE (bX (mM (N:=["other","whence"]) (ρ:=(fun σ=>[σ[1]?.join])) (jg [1] rfl) rfl (Ah (aU cg (pv 0) (pv 2))) (fun _ _ _=>(.one (wC (Af hu (pv 0) (pv 1)) rfl))) (fun _ _ _=>(pv 0))))),?_⟩;refine CA (HY (Jm (a:=ds p) (kvs:=dk (f p)) (fun Q q=>⟨_,rfl,_,rfl,D,_,_,_,rfl,rfl,.of lf.lst,jl pn,q⟩) (lf.at' p pn) fun ob Hf jZ off fz=>?_));have T9:=off _ _ (ue p pn) ew;have Kf:=lf.bb off pn jZ ls.inj (ls.ne p pn);have vt:=(ls.pl p pn).len;refine HU jZ (fun q=>!decide (q∈bT wl)) (cU (by lia)) ?_ ?_ ?_
 ·intro q hq Hx R sx hR
  refine ⟨_,rfl,_,rfl,wd,_,rfl,.inl ⟨dz wl,Sum.inl (q:Int),.inl (sx _ _ T9),rfl,rfl⟩,_,rfl,?_⟩;have e:(fU (dz wl) (Sum.inl (q:Int):Key)).isSome=decide (q∈bT wl):=by
   rw [AB,vZ];by_cases h:q∈bT wl;·rw [bA h,lookup_mem.mpr h]
   ·rw [bH h]
    cases z:wl.lookup q with
    | none=>rfl
    | some o=>exact absurd (lookup_mem.mp (by rw [z];rfl)) h
  rw [e];exact hR
 ·intro q hq Hx R hR
  exact ⟨_,rfl,hR⟩
 ·intro r Hg nr sg eg
  have T_:hJ n ds H Hg:=fun b u e ne=>by
   refine sg _ _ ?_;by_cases z:b=ds p
   ·rcases ne with h | ⟨xZ,u',rfl⟩
    ·exact absurd z (h p pn)
    ·rw [z] at e ⊢
     exact fz _ _ e
   ·exact off _ _ z e
  refine kk Hg r T_ ⟨sg _ _ Kf.lst,fun i hi=>(Kf.at' i hi).imp (fun e=>sg _ _ e) fun⟨ob,e⟩=>⟨ob,sg _ _ e⟩⟩ ?_ eg;cases e:H r with
  | none=>rfl
  | some o=>
   by_cases z:r=ds p;·rw [z,jZ] at nr;cases nr
   ·rw [off r o z e] at nr;cases nr
theorem Ua:cf ["whence","place","walk"] ["whence","place"] (bt AN):=dq
theorem Ub(T:Txt K mg t):bY P w K mg base cw 1 t.qY t.uy ["whence","place"] S4:=by
 have S:=Ua;refine T.u0.dN S (fun _ _ _ _ H _ _ _ hr h=>?_);obtain ⟨wd,wl,v,ws,rfl,ew,bk,w9,kk⟩:=h;have hu:=jE (n_ (show 1≤64 by decide) _) hr.units
 refine ⟨_,(aB (putL 2 S.nd (dm ao))
  (aB (sV di (ck FV (pv 1) oj) (aB (eZ (fq eX iu iy gf (pv 2) (aj (pv 1) ao)))
  (aE (putL 1 S.nd (Qf hu (pv 0) (pv 1) (fun _ _=>rfl))))))
  (aE (bX (pv 2))))),?_⟩
 refine bg ⟨bU _,fun l nl=>?_⟩;have s0:ak H (upd H l (.lst [])):=aO nl;have el:upd H l (.lst []) l=some (.lst (([]:List Nat).map fun k:Nat=>V.int (k:Int))):=au;generalize upd H l (.lst [])=H0 at s0 el ⊢;dsimp only [aM];refine bg ⟨fun m σ Hc=>∃(as rs:List Nat) (po:Option Nat),σ=[some (.ref wd),some (oV po),some (.ref l)]∧m=rs.length∧ws=as++rs∧(match po with | none=>rs=[] | some p=>Back wl p rs)∧ak H Hc∧Hc l=some (.lst (as.map fun k:Nat=>V.int (k:Int))),⟨_,[],ws,some v,rfl,rfl,rfl,bk,s0,el⟩,?_⟩
 rintro m σ Hc ⟨as,rs,po,rfl,rfl,yd,hp,sc,iV⟩;refine ⟨_,rfl,rfl,_,rfl,cI (fun hb=>?_) (fun hb=>?_)⟩
 ·cases po with
  | none=>exact absurd hb (by decide)
  | some p=>
   have hp:Back wl p rs:=hp;have Y7:as.length+rs.length=ws.length:=by rw [yd,du]
   refine ⟨_,fun _ _ h=>h,?_⟩;refine bg ⟨_,rfl,.inl ⟨rfl,_,.of iV⟩,_,rfl,l,_,_,rfl,rfl,iV,cU (by rw [aH];lia),?_⟩
   have rV:(as.map fun k:Nat=>V.int (k:Int))++[oV (some p)]=(as++[p]).map fun k:Nat=>V.int (k:Int):=by rw [fi];rfl
   rw [rV];have Uc:H l=none:=nl;have s1:ak H (upd Hc l (.lst ((as++[p]).map fun k:Nat=>V.int (k:Int)))):=eG sc Uc;have nC:upd Hc l (.lst ((as++[p]).map fun k:Nat=>V.int (k:Int))) l=some (.lst ((as++[p]).map fun k:Nat=>V.int (k:Int))):=au;generalize upd Hc l (.lst ((as++[p]).map fun k:Nat=>V.int (k:Int)))=H1 at s1 nC ⊢;dsimp only [aM];cases hp with
   | last h1=>
    refine ⟨_,rfl,_,rfl,wd,oV none,rfl,.inl ⟨dz wl,Sum.inl (p:Int),.inl (s1 _ _ ew),rfl,by rw [AB,h1];rfl⟩,?_⟩
    exact ⟨0,Nat.one_pos,as++[p],[],none,rfl,rfl,by rw [yd];simp,rfl,s1,nC⟩
   | @step _ p2 KN h1 h2=>
    refine ⟨_,rfl,_,rfl,wd,oV (some p2),rfl,.inl ⟨dz wl,Sum.inl (p:Int),.inl (s1 _ _ ew),rfl,by rw [AB,h1];rfl⟩,?_⟩
    exact ⟨KN.length,Nat.lt_succ_self _,as++[p],KN,some p2,rfl,rfl,by rw [yd];simp,h2,s1,nC⟩
 ·cases po with
  | some p=>exact absurd (by rfl) hb
  | none=>have hp:rs=[]:=hp;subst hp;rw [j4] at yd;subst yd;exact ⟨_,rfl,kk _ _ sc nl iV⟩
theorem Ud:cf ["linked","place","start","whence","heads","reached","head","fresh","other"] ["linked","place","start"] (bt AQ):=dq
theorem Ue(T:Txt K mg t):bY P w K mg base cw 2 t.q8 t.uA ["linked","place","start"] S5:=by
 have S:=Ud;refine T.u5.dN S (fun _ _ _ _ H _ _ _ hr h=>?_);obtain ⟨D,n,L,ds,f,x,st,rfl,ls,lf,pw,lt,xs,n9,kN,kk⟩:=h;have hu:=jE (n_ (show 1≤64 by decide) _) hr.units
 refine ⟨_,(aB (putL 3 S.nd (HK (C7 (pv 1) oj (C7 (pv 2) oj HH)) rfl rfl (fun h=>by cases h) (by decide)))
  (aB (putL 4 S.nd (dm (aj (pv 2) ao)))
  (aB (sV di (ck qo (cu jd rfl T.hW ig (aj (pv 4) ao)) aD) (aB (putL 5 S.nd (dm ao))
  (aB (dM di rfl (fO (pv 4)) (cM (i:=6) S.nd rfl (Or.inl rfl))
   (aB (putL 7 S.nd (bC (T8 T) hr T.JJ T.u4.kp T.JI bJ (aj (pv 0) (aj (pv 3) (aj (pv 6) ao)))))
  (aE (dM di rfl (fO (pv 7)) (cM (i:=8) S.nd rfl (Or.inl rfl))
   (aB (mX hu (pv 3) (pv 8) (pv 6) rfl)
  (aE (cL (wC (Af hu (pv 8) (aU cg (pv 0) (pv 1))) rfl) (aE (eZ (fq eX iu iy gf (pv 5) (aj (pv 8) ao)))) (aE (cL (wC (Af hu (pv 8) (aU cg (pv 0) (pv 2))) rfl) (aE (bX (bQ Gm (dm (aj (pv 1) ao)) (bC (Ub T) hr T.JH T.u0.kp T.JG bJ (aj (pv 3) (aj (pv 8) ao)))))) dw)))))))))
  (aE (putL 4 S.nd (pv 5))))))
  (aE (bX oj))))),?_⟩
 have xn:x<n:=xs.1;have sn:st<n:=xs.2.1;have nE:∀i j,i<n→(j∈f i↔aL n L i j):=fun i j hi=>by
  constructor
  ·intro h
   exact ⟨hi,(ls.pl i hi).2 j h,(ls.nb i j hi).mp h⟩
  ·intro h
   exact (ls.nb i j hi).mpr h.2.2
 have ir:∀a,¬aL n L a a:=fun a h=>by rcases h.2.2 with e | e <;> (have:=lt _ e;lia)
 have KO:x≠st:=fun z=>ir x (by have:=xs;rw [←z] at this;exact this)
 have Y8:∀(wl:List (Nat×Option Nat)) (q:Nat),(fU (dz wl) (Sum.inl (q:Int):Key)).isSome=decide (q∈bT wl):=fun wl q=>by
  rw [AB,vZ];by_cases h:q∈bT wl;·rw [bA h,lookup_mem.mpr h]
  ·rw [bH h]
   cases z:wl.lookup q with
   | none=>rfl
   | some o=>exact absurd (lookup_mem.mp (by rw [z];rfl)) h
 have inD:∀(i q:Nat),(fU (dk (f i)) (Sum.inl (q:Int):Key)).isSome=decide (q∈f i):=fun i q=>by
  rw [De];by_cases h:q∈f i;·rw [ae h,bA h];rfl
  ·rw [aa h,bH h];rfl
 have ye:∀{Hx:Hp},dZ Hx D n ds f→∀{b:Addr},(Hx b=none∨∃xs,Hx b=some (.lst xs))→∀i,i<n→b≠ds i:=fun{Hx} k {b} hb i hi z=>by subst z;rcases k.at' i hi with e | ⟨ob,e⟩ <;> rcases hb with h | ⟨xs,h⟩ <;> (rw [e] at h;cases h)
 refine bg (mP fun wd vw=>⟨_,rfl,_,rfl,au,[((Sum.inl (x:Int):Key),V.aN),((Sum.inl (st:Int):Key),V.aN)],rfl,by show 2≤15;decide,?_⟩)
 have KP:upd (upd H wd (.dK [])) wd (.dK (kD [] [((Sum.inl (x:Int):Key),V.aN),((Sum.inl (st:Int):Key),V.aN)])) wd=some (.dK (dz [(x,none),(st,none)])):=by
  rw [au];have e1:putK (dz []) (Sum.inl (x:Int):Key) (oV none)=dz ([]++[(x,none)]):=DO (by simp [bT])
  have e2:putK (dz [(x,none)]) (Sum.inl (st:Int):Key) (oV none)=dz ([(x,none)]++[(st,none)]):=DO (by simp [bT];exact Ne.symm KO)
  show some (HO.dK (putK (putK (dz []) (Sum.inl (x:Int):Key) (oV none)) (Sum.inl (st:Int):Key) (oV none)))=_;rw [e1];exact eE (fun z=>some (HO.dK z)) e2
 have s0:ak H (upd (upd H wd (.dK [])) wd (.dK (kD [] [((Sum.inl (x:Int):Key),V.aN),((Sum.inl (st:Int):Key),V.aN)]))):=eG (aO vw) vw;generalize upd (upd H wd (.dK [])) wd (.dK (kD [] [((Sum.inl (x:Int):Key),V.aN),((Sum.inl (st:Int):Key),V.aN)]))=H0 at KP s0 ⊢;have Em:∀i,i<n→wd≠ds i:=ye lf (.inl vw);have wD:wd≠D:=fun z=>by rw [z,lf.lst] at vw;cases vw
 dsimp only [aM];refine bg ⟨_,rfl,by show 1≤sizeLine;decide,fun h0 Ug=>?_⟩
 have s1:ak H0 (upd H0 h0 (.lst [V.int (st:Int)])):=aO Ug;have KQ:upd H0 h0 (.lst [V.int (st:Int)]) h0=some (.lst (([st]:List Nat).map fun k:Nat=>V.int (k:Int))):=au;generalize upd H0 h0 (.lst [V.int (st:Int)])=H1 at s1 KQ ⊢;have Bk:=s0.trans s1;have Uh:dZ H1 D n ds f:=⟨Bk _ _ lf.lst,fun i hi=>(lf.at' i hi).imp (fun e=>Bk _ _ e) fun⟨ob,e⟩=>⟨ob,Bk _ _ e⟩⟩;dsimp only [aM];refine bg ⟨fun m σ Hc=>∃(hl:Addr) (hs:List Nat) (wl:List (Nat×Option Nat)) (v5 v6 v7 v8:Option V),σ=[some (.ref D),some (.int (x:Int)),some (.int (st:Int)),some (.ref wd),some (.ref hl),v5,v6,v7,v8]∧m=2*(n-wl.length)+hs.length∧hJ n ds H Hc∧dZ Hc D n ds f∧Hc wd=some (.dK (dz wl))∧Hc hl=some (.lst (hs.map fun k:Nat=>V.int (k:Int)))∧fv n (aL n L) wl x st hs none,⟨_,h0,[st],[(x,none),(st,none)],_,_,_,_,rfl,rfl,fun b u e _=>Bk _ _ e,Uh,s1 _ _ KP,KQ,fv.start KO xn sn⟩,?_⟩;rintro m σ Hc ⟨hl,hs,wl,v5,v6,v7,v8,rfl,rfl,oc,lc,En,vy,bf⟩;have rY:∀{Hx:Hp},hJ n ds H Hx→dZ Hx D n ds f→∀{b:Addr},Hx b=none→H b=none:=fun{Hx} o k {b} hb=>by
  cases e:H b with
  | none=>rfl
  | some u=>rw [o b u e (.inl (ye k (.inl hb)))] at hb;cases hb
 refine ⟨_,rfl,hl,_,rfl,.inl (.of vy),_,_,rfl,rfl,_,rfl,cI (fun hb=>?_) (fun hb=>?_)⟩
 ·have h1:1≤hs.length:=by have:=eR hb;rw [aH] at this;lia
  refine ⟨_,fun _ _ h=>h,?_⟩;refine bg ⟨bU _,fun rl nF=>?_⟩;have Ui:=rY oc lc nF;have o2:ak Hc (upd Hc rl (.lst [])):=aO nF;have Bl:upd Hc rl (.lst []) rl=some (.lst (([]:List Nat).map fun k:Nat=>V.int (k:Int))):=au;generalize upd Hc rl (.lst [])=H2 at o2 Bl ⊢;have Uj:rl≠hl:=fun z=>by rw [z,vy] at nF;cases nF
  have KR:rl≠wd:=fun z=>by rw [z,En] at nF;cases nF
  have rD:rl≠D:=fun z=>by rw [z,lc.lst] at nF;cases nF
  have Uk:∀i,i<n→ds i≠rl:=fun i hi=>Ne.symm (ye lc (.inl nF) i hi);have Ul:hl≠wd:=fun z=>by rw [z,En] at vy;cases vy
  dsimp only [aM];refine bg ⟨_,rfl,hl,rfl,⟨_,.of (o2 _ _ vy)⟩,?_⟩
  refine k_ (K:=K) (a:=hl) (xs:=hs.map fun k:Nat=>V.int (k:Int)) (fun i σ He=>∃(rs:List Nat) (jx:List (Nat×Option Nat)) (v6 v7 v8:Option V),σ=[some (.ref D),some (.int (x:Int)),some (.int (st:Int)),some (.ref wd),some (.ref hl),some (.ref rl),v6,v7,v8]∧hJ n ds H He∧dZ He D n ds f∧He wd=some (.dK (dz jx))∧He hl=some (.lst (hs.map fun k:Nat=>V.int (k:Int)))∧He rl=some (.lst (rs.map fun k:Nat=>V.int (k:Int)))∧fv n (aL n L) jx x st (hs.drop i++rs) none∧rs.length+wl.length≤jx.length)
   ⟨[],wl,_,_,_,rfl,fun b u e ne=>o2 _ _ (oc b u e ne),⟨o2 _ _ lc.lst,fun i hi=>(lc.at' i hi).imp (fun e=>o2 _ _ e) fun⟨ob,e⟩=>⟨ob,o2 _ _ e⟩⟩,o2 _ _ En,o2 _ _ vy,Bl,by simpa using bf,by simp⟩ (fun i σ He _ ⟨_,_,_,_,_,_,_,_,_,e,_⟩=>.of e) ?_ ?_
  ·rintro i xv σ He qz ⟨rs,jx,v6,v7,v8,rfl,oe,le,yf,Eo,yg,pC,len⟩
   have hi:i<hs.length:=by have:=(bW.mp qz).1;rw [aH] at this;exact this
   have Um:xv=.int ((hs[i]:Nat):Int):=by rw [bo,bS hi] at qz;exact (Option.some.inj qz).symm
   subst Um;have Uo:hs.drop i=hs[i]::hs.drop (i+1):=BO hi;rw [Uo,List.cons_append] at pC;generalize hs[i]=h at pC ⊢;obtain ⟨pD,KS⟩:=pC.way h d5;have hn:h<n:=KS.lt h d5;have Up:=pC.opened;dsimp only [aM];refine bg ⟨_,rfl,_,rfl,_,rfl,D,wd,n,L,ds,f,jx,h,rfl,ls,le,yf,Em,hn,n9,fun H3 r o3 l3 nr er=>?_⟩;have Y9:He r=none:=nr;have Ep:∀{b:Addr} {u:HO},(∀i,i<n→b≠ds i)→He b=some u→H3 b=some u:=fun{b u} ne e=>o3 _ _ e (.inl ne);have Uq:hJ n ds H H3:=fun b u e ne=>o3 _ _ (oe b u e ne) ne;have Ur:=Ep Em yf;have Us:=Ep (ye le (.inr ⟨_,Eo⟩)) Eo;have Ut:=Ep (ye le (.inr ⟨_,yg⟩)) yg;have Y_:=rY oe le nr;have rr:r≠rl:=fun z=>by rw [z,yg] at nr;cases nr
   have f_:r≠wd:=fun z=>by rw [z,yf] at nr;cases nr
   obtain ⟨fr,Bm⟩:∃fr,fr=(f h).filter fun q=>!decide (q∈bT jx):=⟨_,rfl⟩;rw [←Bm] at er;have Uu:fr.Nodup:=by rw [Bm];exact (ls.pl h hn).1.filter _
   have fin:∀q∈fr,q∈f h∧q∉bT jx:=fun q hq=>by rw [Bm] at hq;obtain ⟨q1,q2⟩:=fY.mp hq;exact ⟨q1,fun z=>by rw [bA z] at q2;cases q2⟩
   dsimp only [aM];refine ⟨_,rfl,r,rfl,⟨_,.of er⟩,?_⟩
   refine k_ (K:=K) (a:=r) (xs:=fr.map fun k:Nat=>V.int (k:Int)) (fun j σ Hg=>∃(jy:List Nat) (eN:List (Nat×Option Nat)) (v8:Option V),σ=[some (.ref D),some (.int (x:Int)),some (.int (st:Int)),some (.ref wd),some (.ref hl),some (.ref rl),some (.int (h:Int)),some (.ref r),v8]∧hJ n ds H Hg∧dZ Hg D n ds f∧Hg wd=some (.dK (dz eN))∧Hg hl=some (.lst (hs.map fun k:Nat=>V.int (k:Int)))∧Hg rl=some (.lst (jy.map fun k:Nat=>V.int (k:Int)))∧Hg r=some (.lst (fr.map fun k:Nat=>V.int (k:Int)))∧bT eN=bT jx++fr.take j∧fv n (aL n L) eN x st (hs.drop (i+1)++jy) (some h)∧fX n (aL n L) eN x st none h pD∧jy.length+wl.length≤eN.length)
    ⟨rs,jx,_,rfl,Uq,l3,Ur,Us,Ut,er,by simp,Up,KS,len⟩ (fun j σ Hg _ ⟨_,_,_,_,_,_,_,_,_,e,_⟩=>.of e) ?_ ?_
   ·rintro j yv σ Hg Er ⟨jy,eN,v8,rfl,og,lg,Es,Et,Eu,KU,ek,rZ,Bn,Ew⟩
    have hj:j<fr.length:=by have:=(bW.mp Er).1;rw [aH] at this;exact this
    have Uv:yv=.int ((fr[j]:Nat):Int):=by rw [bo,bS hj] at Er;exact (Option.some.inj Er).symm
    subst Uv;have tk:=take_snoc (bS hj);obtain ⟨yh,pE⟩:=fin fr[j] (cy hj);have r6:fr[j]∉bT eN:=fun z=>by
     rw [ek] at z;rcases cY.mp z with z | z;·exact pE z
     ·have nd:=Uu
      rw [←n4 j fr,ic] at nd;exact nd.2.2 _ z _ (by rw [BO hj];exact d5) rfl
    generalize fr[j]=o at yh pE r6 tk ⊢;have on:o<n:=(ls.pl h hn).2 o yh;have KW:aL n L h o:=(nE h o hn).mp yh;have w9:=rZ.len;dsimp only [aM];refine bg ⟨_,rfl,_,rfl,_,rfl,wd,upd Hg wd (.dK (dz (eN++[(o,some h)]))),rfl,.inl ⟨dz eN,Sum.inl (o:Int),Es,rfl,by rw [S0];exact cU (by lia),by rw [←DO r6];rfl⟩,?_⟩
    have o4:∀b u,b≠wd→Hg b=some u→upd Hg wd (.dK (dz (eN++[(o,some h)]))) b=some u:=fun b u ne e=>by rw [aG ne];exact e
    have Bo:upd Hg wd (.dK (dz (eN++[(o,some h)]))) wd=some (.dK (dz (eN++[(o,some h)]))):=au;generalize upd Hg wd (.dK (dz (eN++[(o,some h)])))=H4 at o4 Bo ⊢;have Ex:hJ n ds H H4:=fun b u e ne=>o4 b u (fun z=>by rw [z,vw] at e;cases e) (og b u e ne)
    have pF:=lg.keep o4 wD (fun i hi=>Ne.symm (Em i hi));have KY:=o4 _ _ Ul Et;have Ey:=o4 _ _ KR Eu;have l7:=o4 _ _ f_ KU;have KZ:bT (eN++[(o,some h)])=bT jx++fr.take (j+1):=by unfold bT at ek ⊢;rw [fi,ek,tk,fF];rfl
    have Ez:=Bn.more (o,some h);have Za:jy.length+wl.length+1≤(eN++[(o,some h)]).length:=by rw [du];exact Nat.succ_le_succ Ew
    dsimp only;have K8:∀i,i<n→∀(Hx:Hp),dZ Hx D n ds f→Rd Hx (ds i) (.dK (dk (f i))):=fun i hi Hx k=>(k.at' i hi).imp id fun⟨ob,e⟩=>⟨ob,e⟩;refine ⟨_,rfl,_,rfl,_,rfl,D,_,_,_,rfl,rfl,.of pF.lst,jl xn,ds x,_,rfl,.inl ⟨dk (f x),Sum.inl (o:Int),K8 x xn _ pF,rfl,rfl⟩,_,rfl,cI (fun hb=>?_) (fun hb=>?_)⟩
    ·have nx:¬aL n L x o:=fun z=>by rw [inD,bA ((nE x o xn).mpr z)] at hb;cases hb
     have Uw:=Bn.next g_ r6 on rZ.xk KW nx;refine ⟨_,rfl,.inl ⟨rfl,_,.of Ey⟩,_,rfl,rl,_,_,rfl,rfl,Ey,cU (by rw [aH];lia),?_⟩
     have rV:(jy.map fun k:Nat=>V.int (k:Int))++[V.int (o:Int)]=(jy++[o]).map fun k:Nat=>V.int (k:Int):=by rw [fi];rfl
     rw [rV];have o5:∀b u,b≠rl→H4 b=some u→upd H4 rl (.lst ((jy++[o]).map fun k:Nat=>V.int (k:Int))) b=some u:=fun b u ne e=>by rw [aG ne];exact e
     refine ⟨jy++[o],eN++[(o,some h)],_,rfl,fun b u e ne=>o5 b u (fun z=>by rw [z,Ui] at e;cases e) (Ex b u e ne),pF.keep o5 rD Uk,o5 _ _ (Ne.symm KR) Bo,o5 _ _ (Ne.symm Uj) KY,au,o5 _ _ rr l7,KZ,?_,Ez,?_⟩
     ·refine rZ.met r6 on (fun z=>absurd z nx) (fun _=>⟨_,Uw⟩) fun u=>?_
      rw [←fF,cY,bI];constructor
      ·rintro (h | h)
       ·exact .inl h
       ·exact .inr ⟨h,nx⟩
      ·rintro (h | ⟨h,_⟩)
       ·exact .inl h
       ·exact .inr h
     ·rw [du]
      show jy.length+1+wl.length≤_;lia
    ·have xo:aL n L x o:=by refine (nE x o xn).mp (ie fun z=>hb ?_);rw [inD,bH z];rfl
     refine ⟨_,rfl,_,rfl,_,rfl,D,_,_,_,rfl,rfl,.of pF.lst,jl sn,ds st,_,rfl,.inl ⟨dk (f st),Sum.inl (o:Int),K8 st sn _ pF,rfl,rfl⟩,_,rfl,cI (fun lT=>?_) (fun lT=>?_)⟩
     ·have so:¬aL n L st o:=fun z=>by rw [inD,bA ((nE st o sn).mpr z)] at lT;cases lT
      obtain ⟨bare,cm,blt⟩:=S2 pw lt Bn r6 rZ.xk xs xo so KW;have K9:(x::o::h::pD).length≤n:=DR cm blt;refine CA (OL ⟨_,rfl,by show 1≤sizeLine;decide,fun l1 rR=>?_⟩)
      have EA:ak H4 (upd H4 l1 (.lst [V.int (x:Int)])):=aO rR;have nC:upd H4 l1 (.lst [V.int (x:Int)]) l1=some (.lst [V.int (x:Int)]):=au;generalize upd H4 l1 (.lst [V.int (x:Int)])=H5 at EA nC ⊢;have Ux:Back (eN++[(o,some h)]) o (o::h::pD):=.step (Jl r6) Ez.bk;refine ⟨_,rfl,_,rfl,wd,eN++[(o,some h)],o,o::h::pD,rfl,EA _ _ Bo,Ux,by simp at K9 ⊢;lia,fun H6 l2 s6 rS Uy=>?_⟩
      have Bl:([V.int (x:Int)]++(o::h::pD).map fun k:Nat=>V.int (k:Int))=(x::o::h::pD).map fun k:Nat=>V.int (k:Int):=rfl;refine ⟨l1,l2,_,_,rfl,rfl,s6 _ _ nC,Uy,?_,fun pr vz=>?_⟩
      ·rw [aH]
       exact nN (cU (show 1+(o::h::pD).length≤1000 by simp at K9 ⊢;lia))
      rw [Bl];have h_:ak H4 H6:=EA.trans s6;have K_:hJ n ds H H6:=fun b u e ne=>h_ _ _ (Ex b u e ne);have Uz:dZ H6 D n ds f:=⟨h_ _ _ pF.lst,fun i hi=>(pF.at' i hi).imp (fun e=>h_ _ _ e) fun⟨ob,e⟩=>⟨ob,h_ _ _ e⟩⟩;exact kk _ pr (x::o::h::pD) (fun b u e ne=>(aO vz) _ _ (K_ b u e ne)) (rY K_ Uz vz) au bare cm blt
     ·have so:aL n L st o:=by refine (nE st o sn).mp (ie fun z=>lT ?_);rw [inD,bH z];rfl
      refine ⟨jy,eN++[(o,some h)],_,rfl,Ex,pF,Bo,KY,Ey,l7,KZ,?_,Ez,by lia⟩
      refine rZ.met r6 on (fun _=>so) (fun z=>absurd xo z) fun u=>?_;constructor;·exact .inl
      ·rintro (h | ⟨_,h⟩)
       ·exact h
       ·exact absurd xo h
   ·rintro σ Hg ⟨jy,eN,v8,rfl,og,lg,Es,Et,Eu,KU,ek,rZ,Bn,Ew⟩
    rw [aH,gu] at ek;have sh:lY (aL n L) eN h:=fun u e=>by
     rw [ek];have UA:=(nE h u hn).mpr e;by_cases z:u∈bT jx;·exact kK _ z
     ·refine eQ _ ?_
      rw [Bm];exact fY.mpr ⟨UA,by rw [bH z];rfl⟩
    exact ⟨jy,eN,_,_,_,rfl,og,lg,Es,Et,Eu,rZ.DQ sh,Ew⟩
  ·rintro σ He ⟨rs,jx,v6,v7,v8,rfl,oe,le,yf,Eo,yg,pC,len⟩
   rw [aH,List.drop_length,vT] at pC;dsimp only [aM];have l9:=pC.len;refine ⟨_,rfl,_,?_,rl,rs,jx,_,_,_,_,rfl,rfl,oe,le,yf,yg,pC⟩;lia
 ·have h0:hs=[]:=by
   cases hs with
   | nil=>rfl
   | cons y r=>refine absurd (bA ?_) hb;show (0:Int)<_;simp
  subst h0;exact kN _ oc lc fun V z=>bf.no ir V z
theorem UB:cf ["shape","linked","place","start","ring"] ["shape"] (bt AR):=dq
theorem UC(T:Txt K mg t):bY P w K mg base cw 3 t.q_ t.uB ["shape"] S6:=by
 have S:=UB;refine T.u6.dN S (fun _ _ _ _ H _ Q _ hr h=>?_);obtain ⟨tp,n,L,rfl,fD,pw,lt,n9,kN,kk⟩:=h;have en:iR n L:=fun p hp=>by have:=lt p hp;exact ⟨this.1,by lia,by lia,this.2.2⟩
 refine ⟨_,(aB (putL 1 S.nd (bC (D8 T) hr T.A_ T.o_.kp T.A9 bJ (aj (pv 0) ao)))
  (aB (dM di rfl (k6 rfl T.fB (aj (aU eF (pv 0) aD) ao)) (cM (i:=2) S.nd rfl (Or.inl rfl))
   (aE (dM di rfl (Ah (aU cg (pv 1) (pv 2))) (cM (i:=3) S.nd rfl (Or.inl rfl))
   (aB (putL 4 S.nd (bC (Ue T) hr T.JL T.u5.kp T.JK bJ (aj (pv 1) (aj (pv 2) (aj (pv 3) ao)))))
  (aE (cL (ck FV (pv 4) oj) (aE (bX (pv 4))) dw))))))
  (aE (bX oj)))),?_⟩
 refine bg ⟨_,rfl,tp,n,L,rfl,fD,en,by lia,fun H1 D ds f s1 nD vn KL nb=>?_⟩
 obtain ⟨Zb,us,dR,elt,mL⟩:=id (fD.mono s1);have ls:DS n L D ds f:=⟨KL.inj,KL.ne,KL.pl,nb⟩;have nE:∀i j,i<n→(j∈f i↔aL n L i j):=fun i j hi=>by
  constructor
  ·intro h
   exact ⟨hi,(ls.pl i hi).2 j h,(ls.nb i j hi).mp h⟩
  ·intro h
   exact (ls.nb i j hi).mpr h.2.2
 have EB:∀{Hx:Hp},hJ n ds H1 Hx→ak H Hx:=fun{Hx} o b u e=>o b u (s1 _ _ e) (.inl fun i hi z=>by rw [z,vn i hi] at e;cases e)
 dsimp only [aM];refine bg ⟨_,rfl,tp,_,_,_,rfl,rfl,.of dR,rfl,(n:Int),rfl,by lia,by lia,?_⟩
 refine mF (fun i σ Hc=>∃(v2 v3 v4:Option V),σ=[some (.ref tp),some (.ref D),v2,v3,v4]∧hJ n ds H1 Hc∧dZ Hc D n ds f∧∀x y z,x<i→¬lW (aL n L) (List.range n) x y z) ⟨_,_,_,rfl,fun b u e _=>e,KL.fr,fun x y z h=>absurd h (nX _)⟩ ?_ ?_
 ·rintro i σ Hc hi ⟨v2,v3,v4,rfl,oc,lc,nh⟩
  have hi:i<n:=by simpa using hi
  dsimp only [aM];refine Jm (a:=ds i) (kvs:=dk (f i)) (fun Q q=>⟨_,rfl,_,rfl,D,_,_,_,rfl,rfl,.of lc.lst,by simpa using jl hi,q⟩) (lc.at' i hi) fun ob Hf jZ off fz=>?_
  have Kf:=lc.bb off hi jZ ls.inj (ls.ne i hi);have yh:hJ n ds H1 Hf:=fun b u e ne=>by
   have e2:=oc b u e ne;by_cases z:b=ds i
   ·rcases ne with h | ⟨xZ,u',rfl⟩
    ·exact absurd z (h i hi)
    ·rw [z] at e2 ⊢
     exact fz _ _ e2
   ·exact off _ _ z e2
  have UD:(0+(i:Int))=(i:Int):=by lia
  rw [UD];refine Ia (fun j σ He=>∃(v3 v4:Option V),σ=[some (.ref tp),some (.ref D),some (.int (i:Int)),v3,v4]∧hJ n ds H1 He∧dZ He D n ds f∧He (ds i)=some (.bb ob (.dK (dk (f i))))∧∀y z,y∈(f i).take j→¬lW (aL n L) (List.range n) i y z) ⟨_,_,rfl,yh,Kf,jZ,fun y z h=>by simp at h⟩ (fun j σ He _ ⟨_,_,_,_,_,e,_⟩=>e) ?_ ?_
  ·rintro j k σ He hk ⟨v3,v4,rfl,oe,le,yc,Bp⟩
   have km:k∈f i:=nU hk;have tk:=take_snoc hk;dsimp only [aM];refine bg ⟨_,rfl,_,rfl,_,rfl,D,n,L,ds,f,i,k,rfl,ls,le,pw,lt,(nE i k hi).mp km,n9,fun H' o' l' no=>?_,fun H' r zs o' nr er bare cm blt=>?_⟩
   ·dsimp only [aM]
    refine ⟨_,rfl,rfl,false,rfl,eU ?_⟩;refine ⟨_,_,rfl,fun b u e ne=>o' _ _ (oe b u e ne) ne,l',o' _ _ yc (.inr ⟨_,_,rfl⟩),fun y z hy=>?_⟩;rw [tk] at hy;rcases cY.mp hy with h | h;·exact Bp y z h
    ·rw [bI.mp h]
     exact no _ z
   ·dsimp only [aM]
    refine ⟨_,rfl,rfl,true,rfl,tm ?_⟩;refine ⟨_,rfl,kk _ r zs (EB fun b u e ne=>o' _ _ (oe b u e ne) ne) ?_ er bare cm blt⟩;cases e:H r with
    | none=>rfl
    | some u=>rw [EB oe _ _ e] at nr;cases nr
  ·rintro σ He ⟨v3,v4,rfl,oe,le,yc,Bp⟩
   rw [gu] at Bp;refine ⟨_,_,_,rfl,oe,le,fun x y z hx h=>?_⟩;by_cases e:x=i
   ·subst e
    exact Bp y z ((nE x y hi).mpr h.xy) h
   ·exact nh x y z (by lia) h
 ·rintro σ Hc ⟨v2,v3,v4,rfl,oc,lc,nh⟩
  refine kN _ (EB oc) fun x y z h=>?_;have:=cR.mp h.xV;exact nh x y z (by simpa using this) h
theorem UE:cf ["shape","order"] ["shape"] (bt AS):=dq
theorem UG(T:Txt K mg t)(hB:kG base mg):bY P w K mg base cw 7 t.rd t.uC ["shape"] (S7 96 kI):=by
 have S:=UE
 have UH:=TV (P:=P) (w:=w) (base:=base) T hB
 refine T.u7.dN S (fun _ _ _ _ H _ _ _ hr h=>?_)
 obtain ⟨tp,n,L,rfl,fD,pw,lt,pG,tab,kk,kR⟩:=h
 have en:iR n L:=fun p hp=>by
  have:=lt p hp
  exact ⟨this.1,by lia,by lia,this.2.2⟩
 have t8:qH L:=fun p hp=>by
  have:=lt p hp
  lia
 refine ⟨_,(aB (putL 1 S.nd (bC UH hr T.JF T.uZ.kp T.JE bJ (aj (pv 0) ao)))
  (aB (cL (mC (bC (TR T) hr T.JD T.uY.kp T.JB NW (aj (pv 0) (aj (pv 1) ao)))) (aE (bX (gP (aj wB (aj (pv 1) ao))))) dw)
  (aE (bX (gP (aj wB (aj (bC (UC T) hr T.JN T.u6.kp T.JM bJ (aj (pv 0) ao)) ao))))))),?_⟩
 refine bg ⟨_,rfl,tp,n,L,rfl,fD,en,by lia,tab,fun H1 D Pk s1 t1 nD eD pm pk=>?_⟩
 obtain ⟨ps,eP⟩:=tab.at
 have vB:=xU fD eP s1
 have pr:Pk.reverse.Perm (List.range n):=(me Pk).trans pm
 have lr:Pk.reverse.length=n:=by rw [pr.length_eq,fH]
 dsimp only [aM]
 refine bg ⟨_,rfl,_,rfl,tp,D,n,L,Pk.reverse.map iN,rfl,vB,en,t8,pG,by rw [eD,dE];rfl,by rw [aH];lia,fun no=>?_,fun o eo po H2 M s2 fM=>?_⟩
 ·exact absurd (pr.map iN) no
 ·have UI:o=Pk.reverse:=by
   have:=eE (List.map Int.toNat) eo
   rw [dE,dE] at this
   have i1:∀l:List Nat,l.map (Int.toNat ∘ iN)=l:=fun l=>by
    conv=>rhs;rw [←List.map_id l]
    exact ma fun a _=>d6 a
   rw [i1,i1] at this
   exact this.symm
  subst UI
  have rY:∀{Hx:Hp},dC 96 H Hx→de 96 kI iT Hx→∀{R:Addr},Hx R=none→H R=none:=fun{Hx} sx tx {R} nR=>by
   cases e:H R with
   | none=>rfl
   | some u=>
    by_cases z:R=96
    ·obtain ⟨ps,e2⟩:=tx.at
     rw [z,e2] at nR;cases nR
    ·rw [sx R u z e] at nR;cases nR
  have Bq:dC 96 H H2:=fun b u n e=>s2 _ _ (s1 b u n e)
  have t2:=t1.mono s2
  by_cases eM:M=L
  ·refine ⟨true,by rw [bA eM],tm ?_⟩
   rw [eM] at fM
   have kH:=s2 _ _ eD
   refine ⟨_,rfl,by show 2≤sizeLine;decide,fun R nR=>?_⟩
   have s3:ak H2 (upd H2 R (.tup [.str "order",.ref D])):=aO nR
   exact kk _ R D Pk.reverse (fun b u n e=>s3 _ _ (Bq b u n e)) (t2.mono s3) (rY Bq t2 nR) nD au (s3 _ _ kH) pr fM
  ·refine ⟨false,by rw [bH eM],eU ?_⟩
   have no:∀o:List Nat,o.Perm (List.range n)→¬dQ n L o L:=fun o po f=>eM (dQ.uniq fM (R1 pw lt po f pm pk))
   dsimp only [iC]
   refine CA ⟨_,rfl,tp,n,L,rfl,vB.mono s2,pw,lt,by lia,fun H3 s3 nh=>?_,fun H3 r zs s3 nr er bare cm blt=>?_⟩
   ·obtain ⟨x,y,z,h⟩:=SS pw lt no
    exact absurd h (nh x y z)
   ·refine ⟨by show 2≤sizeLine;decide,fun R nR=>?_⟩
    have s4:ak H3 (upd H3 R (.tup [.str "ring",.ref r])):=aO nR
    have La:dC 96 H H3:=fun b u n e=>s3 _ _ (Bq b u n e)
    have t3:=t2.mono s3
    exact kR _ R r zs (fun b u n e=>s4 _ _ (La b u n e)) (t3.mono s4) (rY La t3 nR) (rY Bq t2 nr) au (s4 _ _ er) bare cm blt no
theorem UJ:cf ["_law_cell","_law_at","_law_x"] ["_law_cell","_law_at"] (bt AU):=dq
theorem UK(T:Txt K mg t):bY P w K mg base cw 1 t.rg t.uD ["_law_cell","_law_at"] OM:=by
 have S:=UJ;refine T.u9.dN S (fun _ _ _ _ H _ _ _ hr h=>?_);obtain ⟨c,a,rfl,ha,k⟩:=h
 refine ⟨_,(aB (cL (ck MS (pv 0) (bQ MN aD aD)) (aE (bX (pv 0))) dw)
  (aB (putL 2 S.nd (bQ oz (bQ iD (bQ iD (bQ mI (bQ oz (pv 0) aD) aD) (bQ mI (pv 1) aD)) aD) aD))
  (aB (putL 2 S.nd (bQ oz (bQ iD (bQ iD (bQ mI (pv 2) (pv 2)) (bQ mI aD (pv 2))) (pv 1)) aD))
  (aE (bX (bQ iD (bQ mI (pv 2) aD) (bQ oz (bQ iD (bQ mI (pv 2) (pv 2)) (bQ mI aD (pv 1))) aD))))))),?_⟩
 refine ⟨_,rfl,_,_,rfl,rfl,⟨by decide,by decide,by decide⟩,_,_,rfl,rfl,_,rfl,cI (fun h=>?_) (fun h=>?_)⟩
 ·have h:=eR h
  exact ⟨_,rfl,k _ (dA (by decide) h)⟩
 ·refine ⟨_,rfl,_,_,rfl,rfl,(by show (0:Int)<2147483647;decide),_,_,rfl,rfl,.inr ⟨by decide,by decide⟩,_,rfl,_,_,rfl,rfl,.inr ⟨by decide,by decide⟩,_,_,rfl,rfl,_,_,rfl,rfl,_,_,rfl,rfl,(by show (0:Int)<2147483629;decide),?_⟩
  have b0:=mh (c % 2147483647*48271+a*69621+11) (show (2147483629:Int)≠0 by decide)
  have b1:=pV (c % 2147483647*48271+a*69621+11) (show (0:Int)<2147483629 by decide)
  generalize (c % 2147483647*48271+a*69621+11) % 2147483629=x at b0 b1 ⊢;refine ⟨_,rfl,_,rfl,_,_,rfl,rfl,.inl ⟨by lia,by lia⟩,_,rfl,_,_,rfl,rfl,.inl ⟨by decide,by decide⟩,_,_,rfl,rfl,_,rfl,_,_,rfl,rfl,_,_,rfl,rfl,(by show (0:Int)<2147483587;decide),?_⟩
  have c0:=mh (x*x+48271*x+a) (show (2147483587:Int)≠0 by decide)
  have c1:=pV (x*x+48271*x+a) (show (0:Int)<2147483587 by decide)
  generalize (x*x+48271*x+a) % 2147483587=y at c0 c1 ⊢;refine ⟨_,rfl,_,_,rfl,rfl,.inr ⟨by decide,by decide⟩,_,rfl,_,rfl,_,_,rfl,rfl,.inl ⟨by lia,by lia⟩,_,rfl,_,_,rfl,rfl,.inl ⟨by decide,by decide⟩,_,_,rfl,rfl,_,_,rfl,rfl,(by show (0:Int)<2147483579;decide),_,_,rfl,rfl,k _ (Int.add_nonneg (Int.mul_nonneg (mh _ (by decide)) (by decide)) (mh _ (by decide)))⟩
theorem UL:cf ["_law_pen","_law_many","_law_at","_law_cell","_law_found"] ["_law_pen","_law_many"] (bt AV):=dq
theorem jA(T:Txt K mg t):bY P w K mg base cw 2 t.rh t.uE ["_law_pen","_law_many"] (ON K):=by
 have S:=UL;refine T.eB.dN S (fun _ _ _ _ H _ _ _ hr h=>?_);obtain ⟨P0,a,ns,many,rfl,⟨x,y,eP,hx,hy⟩,hS,m1,mm,k⟩:=h;have fh:=hr.units
 refine ⟨_,(aB (cL (ck zr (aU cg (pv 0) aD) (pv 1)) (aB (putL 2 S.nd (aU cg (pv 0) aD))
  (aB (putL 3 S.nd aD)
  (aB (cL (ck zr (pv 2) (cu jd rfl T.hW ig (aj (aU cg (pv 0) aD) ao))) (aE (putL 3 S.nd (aU cg (aU cg (pv 0) aD) (pv 2)))) (aE (cL (ck qo (cu jd rfl T.hW ig (aj (aU cg (pv 0) aD) ao)) aD) (aE (putL 3 S.nd (bQ iD (bQ oz (aU cg (aU cg (pv 0) aD) (bQ oz (bQ mI (pv 2) aD) (cu jd rfl T.hW ig (aj (aU cg (pv 0) aD) ao)))) aD) (bQ mI (pv 2) aD)))) dw)))
  (aB (@qh _ _ _ _ _ _ (bQ iD (pv 2) aD) (qg (pv 0) aD set_list) (by rfl) (by rfl) (by rfl))
  (aE (@qh _ _ _ _ _ _ (bC (UK T) hr T.JR T.u9.kp T.JQ bJ (aj (pv 3) (aj (pv 2) ao))) (qg (pv 0) aD set_list) (by rfl) (by rfl) (by rfl))))))) dw)
  (aB (putL 4 S.nd (bQ oz (aU cg (pv 0) aD) (pv 1)))
  (aB (@qh _ _ _ _ _ _ (bQ Og (aU cg (pv 0) aD) (pv 1)) (qg (pv 0) aD set_list) (by rfl) (by rfl) (by rfl))
  (aE (bX (pv 4)))))),?_⟩
 have gH:=mQ.seq hS;refine ⟨_,rfl,P0,_,_,_,rfl,rfl,.of eP,rfl,_,rfl,_,_,rfl,rfl,_,rfl,cI (fun aZ=>?_) (fun aZ=>?_)⟩
 ·refine ⟨_,rfl,P0,_,_,_,rfl,rfl,.of eP,rfl,?_⟩
  refine ⟨_,rfl,_,rfl,P0,_,_,_,rfl,rfl,.of eP,rfl,a,ns.map V.int,rfl,.inl gH,_,_,rfl,rfl,_,rfl,cI (fun h1=>?_) (fun h1=>?_)⟩
  ·have h1:x<((ns.map V.int).length:Int):=eR h1
   obtain ⟨v,hv,mv⟩:=GF (xs:=ns.map V.int) hx h1;obtain ⟨c,_,rfl⟩:=cj.mp mv;refine ⟨_,rfl,P0,_,_,_,rfl,rfl,.of eP,rfl,_,rfl,a,ns.map V.int,_,_,rfl,rfl,gH,hv,?_⟩;refine ⟨_,rfl,_,_,rfl,rfl,_,rfl,P0,_,1,1,rfl,rfl,eP,rfl,?_⟩;refine ⟨_,rfl,_,rfl,c,x,rfl,hx,fun r yi=>⟨_,rfl,P0,_,2,2,rfl,rfl,au,rfl,?_⟩⟩;have q0:=mh (r) (show many≠0 by lia)
   have q1:=pV (r) (show 0<many by lia)
   have q2:=zb (yi) (show 0≤many by lia)
   refine ⟨_,rfl,P0,_,_,_,rfl,rfl,.of au,rfl,_,rfl,_,_,rfl,rfl,(show 0<many by lia),?_⟩
   refine ⟨_,rfl,P0,_,_,_,rfl,rfl,.of au,rfl,_,rfl,_,_,rfl,rfl,⟨show 0<many by lia,mm⟩,_,rfl,P0,_,2,2,rfl,rfl,au,rfl,?_⟩
   exact ⟨_,rfl,k _ _ q0 q1 (((aF.refl H).trans aF.jK).trans (aF.jK.trans aF.jK)) ⟨x+1,r / many,au,by lia,q2⟩⟩
  ·refine ⟨_,rfl,P0,_,_,_,rfl,rfl,.of eP,rfl,a,ns.map V.int,rfl,.inl gH,_,_,rfl,rfl,_,rfl,?_⟩
   have Br:=eP;have Lb:=gH;have sl:=ak.refl H;refine cI (fun h2=>?_) (fun h2=>?_)
   ·have hl:0<(ns.map V.int).length:=by have:=eR h2;lia
    have UM:=mh (x*7) (show ((ns.map V.int).length:Int)≠0 by lia)
    have xM:=pV (x*7) (show (0:Int)<((ns.map V.int).length:Int) by lia)
    obtain ⟨v,hv,mv⟩:=GF (xs:=ns.map V.int) UM xM;obtain ⟨c,_,rfl⟩:=cj.mp mv;refine ⟨_,rfl,P0,_,_,_,rfl,rfl,.of Br,rfl,_,rfl,_,_,rfl,rfl,.inr ⟨by decide,by decide⟩,_,rfl,P0,_,_,_,rfl,rfl,.of Br,rfl,a,ns.map V.int,rfl,.inl Lb,_,_,rfl,rfl,(show (0:Int)<((ns.map V.int).length:Int) by lia),a,ns.map V.int,_,_,rfl,rfl,Lb,hv,_,_,rfl,rfl,(show (0:Int)<1000003 by decide),_,rfl,_,_,rfl,rfl,.inr ⟨by decide,by decide⟩,_,_,rfl,rfl,?_⟩
    refine ⟨_,rfl,_,_,rfl,rfl,_,rfl,P0,_,1,1,rfl,rfl,Br,rfl,?_⟩;refine ⟨_,rfl,_,rfl,_,x,rfl,hx,fun r yi=>⟨_,rfl,P0,_,2,2,rfl,rfl,au,rfl,?_⟩⟩;have q0:=mh (r) (show many≠0 by lia)
    have q1:=pV (r) (show 0<many by lia)
    have q2:=zb (yi) (show 0≤many by lia)
    refine ⟨_,rfl,P0,_,_,_,rfl,rfl,.of au,rfl,_,rfl,_,_,rfl,rfl,(show 0<many by lia),?_⟩
    refine ⟨_,rfl,P0,_,_,_,rfl,rfl,.of au,rfl,_,rfl,_,_,rfl,rfl,⟨show 0<many by lia,mm⟩,_,rfl,P0,_,2,2,rfl,rfl,au,rfl,?_⟩
    exact ⟨_,rfl,k _ _ q0 q1 (((aF.of sl).trans aF.jK).trans (aF.jK.trans aF.jK)) ⟨x+1,r / many,au,by lia,q2⟩⟩
   ·
    refine ⟨_,rfl,_,_,rfl,rfl,_,rfl,P0,_,1,1,rfl,rfl,Br,rfl,?_⟩;refine ⟨_,rfl,_,rfl,0,x,rfl,hx,fun r yi=>⟨_,rfl,P0,_,2,2,rfl,rfl,au,rfl,?_⟩⟩;have q0:=mh (r) (show many≠0 by lia)
    have q1:=pV (r) (show 0<many by lia)
    have q2:=zb (yi) (show 0≤many by lia)
    refine ⟨_,rfl,P0,_,_,_,rfl,rfl,.of au,rfl,_,rfl,_,_,rfl,rfl,(show 0<many by lia),?_⟩
    refine ⟨_,rfl,P0,_,_,_,rfl,rfl,.of au,rfl,_,rfl,_,_,rfl,rfl,⟨show 0<many by lia,mm⟩,_,rfl,P0,_,2,2,rfl,rfl,au,rfl,?_⟩
    exact ⟨_,rfl,k _ _ q0 q1 (((aF.of sl).trans aF.jK).trans (aF.jK.trans aF.jK)) ⟨x+1,r / many,au,by lia,q2⟩⟩
 ·dsimp only [iC]
  have q0:=mh (y) (show many≠0 by lia)
  have q1:=pV (y) (show 0<many by lia)
  have q2:=zb (hy) (show 0≤many by lia)
  refine ⟨_,rfl,P0,_,_,_,rfl,rfl,.of eP,rfl,_,rfl,_,_,rfl,rfl,(show 0<many by lia),?_⟩
  refine ⟨_,rfl,P0,_,_,_,rfl,rfl,.of eP,rfl,_,rfl,_,_,rfl,rfl,⟨show 0<many by lia,mm⟩,_,rfl,P0,_,2,2,rfl,rfl,eP,rfl,?_⟩
  exact ⟨_,rfl,k _ _ q0 q1 (aF.jK) ⟨x,y / many,au,hx,q2⟩⟩
theorem UN:cf ["_law_pen","_law_some","_law_left","_law_found"] ["_law_pen","_law_some"] (bt AW):=dq
theorem Lc(T:Txt K mg t):bY P w K mg base cw 3 t.rj t.uF ["_law_pen","_law_some"] (PK K):=by
 have S:=UN;refine T.rK.dN S (fun _ _ _ _ H _ _ _ hr h=>?_);obtain ⟨P0,a,l,ns,xs,rfl,pc,hS,nl,el,Zc,kk⟩:=h;have fh:=hr.units
 refine ⟨_,(aB (putL 2 S.nd (fP Nr rfl T.jq boot_list (aj (pv 1) ao)))
  (aB (putL 3 S.nd (dm ao))
  (aB (sV di (ck (Ac fh) (pv 2) (dm ao)) (aE (eZ (fq eX iu iy gf (pv 3) (aj (fq eX PySem.F.slot_list_pop PySem.F.type_list_pop NH (pv 2) (aj (bC (jA T) hr T.fA T.eB.kp T.fw bJ (aj (pv 0) (aj (cu jd rfl T.hW ig (aj (pv 2) ao)) ao))) ao)) ao)))))
  (aE (bX (pv 3)))))),?_⟩
 refine ⟨_,rfl,l,xs,rfl,.inl (.of el),fun l1 n1=>?_⟩;have s1:ak H (upd H l1 (.lst xs)):=aO n1;have e1:upd H l1 (.lst xs) l1=some (.lst xs):=au;dsimp only [aM];generalize upd H l1 (.lst xs)=H1 at s1 e1 ⊢;refine ⟨by show 0≤sizeLine;decide,fun l2 n2=>?_⟩
 have s2:ak H1 (upd H1 l2 (.lst [])):=aO n2;have e2:upd H1 l2 (.lst []) l2=some (.lst []):=au;dsimp only [aM];generalize upd H1 l2 (.lst [])=H2 at s2 e2 ⊢;have Ld:l1≠P0:=pc.ne n1;have Bs:l2≠P0:=(pc.mono s1).ne n2;have Le:H l2=none:=none_of s1 n2;have Lf:l1≠l2:=fun e=>by rw [e,n2] at e1;cases e1
 refine bg ⟨fun m σ Hc=>∃zs ys:List V,σ=[some (.ref P0),some (.ref l),some (.ref l1),some (.ref l2)]∧m=zs.length∧Hc l1=some (.lst zs)∧Hc l2=some (.lst ys)∧(zs++ys).Perm xs∧aF P0 H Hc∧a_ Hc P0 a,⟨_,xs,[],rfl,rfl,s2 _ _ e1,e2,by rw [j4],aF.of (s1.trans s2),(pc.mono s1).mono s2⟩,?_⟩
 rintro m σ Hc ⟨zs,ys,rfl,rfl,ez,ey,pm,sc,p1⟩;have lz:zs.length≤100:=by have:=pm.length_eq;rw [du] at this;lia
 have ly:ys.length≤100:=by have:=pm.length_eq;rw [du] at this;lia
 refine ⟨_,rfl,by show 0≤sizeLine;decide,fun le vD=>?_⟩
 have s3:ak Hc (upd Hc le (.lst [])):=aO vD;have e3:upd Hc le (.lst []) le=some (.lst []):=au;generalize upd Hc le (.lst [])=H3 at s3 e3 ⊢;refine ⟨l1,le,zs,rfl,rfl,.of (s3 _ _ ez),e3,_,rfl,cI (fun hz=>?_) (fun hz=>?_)⟩
 ·have z0:1≤zs.length:=by
   cases zs with
   | nil=>cases hz
   | cons=>simp
  have nB:=sc.trans (aF.of s3);refine ⟨_,fun _ _ h=>h,?_⟩;refine ⟨_,rfl,.inl ⟨rfl,_,.of (s3 _ _ ey)⟩,_,rfl,.inl ⟨rfl,_,.of (s3 _ _ ez)⟩,_,rfl,_,rfl,l1,zs,rfl,.inl (.of (s3 _ _ ez)),P0,a,ns,(zs.length:Int),rfl,p1.mono s3,ak.seq nB hS,by lia,dY.of_lt (by lia) (by lia),fun c H4 c0 c1 s4 p4=>?_⟩
  obtain ⟨k,rfl⟩:=fk c0;have hk:k<zs.length:=by lia
  have vE:=s4.at Ld (s3 _ _ ez);have UO:=s4.at Bs (s3 _ _ ey);have sx:seqIndex? (k:Int) zs.length=some k:=by unfold seqIndex?;simp;lia
  refine ⟨l1,zs,(k:Int),k,zs[k],rfl,rfl,vE,by lia,by lia,sx,by simp [hk],?_⟩
  have nn:l2≠l1:=fun e=>Lf e.symm;refine ⟨l2,ys,zs[k],rfl,rfl,by rw [aG nn];exact UO,cU (by lia),?_⟩
  refine ⟨_,?_,zs.eraseIdx k,ys++[zs[k]],rfl,rfl,by rw [aG Lf,au],au,?_,?_,?_⟩
  ·rw [List.length_eraseIdx_of_lt hk]
   lia
  ·refine List.Perm.trans ?_ pm
   rw [←fF];refine (pP).trans ?_;show (zs[k]::(zs.eraseIdx k++ys)).Perm (zs++ys);exact (Hm zs k hk).append_right ys
  ·exact ((nB.trans s4).but n1).but Le
  ·exact ((p4.upd Ld).upd Bs)
 ·have z0:zs=[]:=by
   cases zs with
   | nil=>rfl
   | cons=>exact absurd rfl hz
  subst z0;refine ⟨_,rfl,kk l2 ys H3 (sc.trans (aF.of s3)) (p1.mono s3) ?_ Bs (s3 _ _ ey) pm⟩;rw [dG Bs];exact Le
theorem UP:cf ["_law_pen","_law_way","_law_size","_law_wide","_law_i","_law_j"] ["_law_pen","_law_way","_law_size","_law_wide","_law_i","_law_j"] (bt AX):=dq
theorem UQ(T:Txt K mg t):bY P w K mg base cw 3 t.rm t.uG ["_law_pen","_law_way","_law_size","_law_wide","_law_i","_law_j"] (PL K):=by
 have S:=UP;refine T.u_.dN S (fun _ _ _ _ H _ _ _ hr h=>?_);obtain ⟨P0,a,ns,way,size,wide,i,j,rfl,pc,hS,kk⟩:=h
 refine ⟨_,(aB (cL (ck iE (pv 1) aD) (aE (bX (mJ iE (bC (jA T) hr T.fA T.eB.kp T.fw bJ (aj (pv 0) (aj aD ao))) aD))) dw)
  (aB (cL (ck iE (pv 1) aD) (aE (bX (mJ iE (bC (jA T) hr T.fA T.eB.kp T.fw bJ (aj (pv 0) (aj aD ao))) aD))) dw)
  (aB (cL (ck iE (pv 1) aD) (aE (bX (mJ qo (bC (jA T) hr T.fA T.eB.kp T.fw bJ (aj (pv 0) (aj aD ao))) aD))) dw)
  (aB (cL (ck iE (pv 1) aD) (aE (bX (Mk (mJ iE (bQ mH (pv 5) (pv 4)) aD) (FA (mJ iE (bQ mH (pv 5) (pv 4)) (bQ mH (pv 2) aD)))))) dw)
  (aE (bX (mJ MR (bQ mH (pv 5) (pv 4)) (pv 3)))))))),?_⟩
 refine ⟨_,rfl,rfl,_,rfl,cI (fun _=>?_) (fun _=>?_)⟩;·exact ⟨_,rfl,P0,a,ns,2,rfl,pc,hS,by decide,dY.of_lt (by decide) (by decide),fun c H1 _ _ s1 p1=>⟨rfl,kk _ H1 s1 p1⟩⟩
 dsimp only [iC];refine ⟨_,rfl,rfl,_,rfl,cI (fun _=>?_) (fun _=>?_)⟩;·exact ⟨_,rfl,P0,a,ns,4,rfl,pc,hS,by decide,dY.of_lt (by decide) (by decide),fun c H1 _ _ s1 p1=>⟨rfl,kk _ H1 s1 p1⟩⟩
 dsimp only [iC];refine ⟨_,rfl,rfl,_,rfl,cI (fun _=>?_) (fun _=>?_)⟩;·exact ⟨_,rfl,P0,a,ns,4,rfl,pc,hS,by decide,dY.of_lt (by decide) (by decide),fun c H1 _ _ s1 p1=>⟨_,_,rfl,rfl,kk _ H1 s1 p1⟩⟩
 dsimp only [iC];refine ⟨_,rfl,rfl,_,rfl,cI (fun _=>?_) (fun _=>?_)⟩
 ·refine ⟨_,rfl,_,rfl,_,_,rfl,rfl,rfl,_,rfl,cI (fun _=>?_) (fun _=>?_)⟩
  ·exact kk _ H (aF.refl _) pc
  ·exact ⟨_,rfl,_,rfl,_,_,rfl,rfl,_,rfl,_,_,rfl,rfl,rfl,kk _ H (aF.refl _) pc⟩
 dsimp only [iC];exact ⟨_,rfl,_,rfl,_,_,rfl,rfl,_,rfl,_,_,rfl,rfl,kk _ H (aF.refl _) pc⟩
theorem UR:cf ["_law_size","_law_links","_law_names","_law_found","_law_i","_law_j","_law_one"] ["_law_size","_law_links","_law_names"] (bt A0):=dq
theorem Lg(T:Txt K mg t):bY P w K mg base cw 3 t.rz t.uJ ["_law_size","_law_links","_law_names"] PQ:=by
 have S:=UR;refine T.rM.dN S (fun _ _ _ _ H _ _ _ hr h=>?_);obtain ⟨l,r,n,us,ws,L,nm,rfl,el,hL,ok,yj,r_,lw,hw,N,kk⟩:=h
 refine ⟨_,(aB (putL 3 S.nd (dm ao))
  (aB (dM di rfl (fO (pv 1)) (wI rfl (k4 (cM (i:=4) S.nd rfl (Or.inl rfl)) (k4 (cM (i:=5) S.nd rfl (Or.inl rfl)) wH)))
   (aB (putL 6 S.nd (cu (zu rfl) rfl T.x6 boot_min (aj (aU cg (pv 2) (pv 4)) (aj (aU cg (pv 2) (pv 5)) ao))))
  (aE (eZ (fq eX iu iy gf (pv 3) (aj (gP (aj (pv 6) (aj (cu (zt rfl) rfl T.vj boot_max (aj (aU cg (pv 2) (pv 4)) (aj (aU cg (pv 2) (pv 5)) ao))) ao))) ao))))))
  (aE (bX (gP (aj (pv 0) (aj (fP Cb rfl T.x8 boot_tuple (aj (cu Ab rfl T.pb pU (aj (pv 3) ao)) ao)) ao))))))),?_⟩
 refine ⟨by show 0≤sizeLine;decide,fun fd dD=>?_⟩
 have s0:ak H (upd H fd (.lst [])):=aO dD;have yk:upd H fd (.lst []) fd=some (.lst []):=au;dsimp only [aM];generalize upd H fd (.lst [])=H1 at s0 yk ⊢;refine ⟨_,rfl,l,rfl,⟨_,.of (s0 _ _ el)⟩,?_⟩;refine k_ (K:=K) (a:=l) (xs:=us) (fun k σ Hc=>∃(xs:List V) (v4 v5 v6:Option V),σ=[some (.int (n:Int)),some (.ref l),some (.ref r),some (.ref fd),v4,v5,v6]∧ak H Hc∧Hc fd=some (.lst xs)∧aX Hc xs ((L.take k).map (g8 nm))) ⟨[],_,_,_,rfl,s0,yk,aX.nil _⟩ (fun k σ Hc _ ⟨_,_,_,_,_,sc,_⟩=>.of (sc _ _ el)) ?_ ?_
 ·rintro k x σ Hc hx ⟨xs,v4,v5,v6,rfl,sc,ef,hX⟩
  have hk:k<L.length:=by rw [←hL.1];exact (bW.mp hx).1
  obtain ⟨b,rfl,eb⟩:=(hL.mono sc).2 k x L[k] hx (by simp [hk])
  have pk:=ok.lt L[k] (cy hk);have tk:(L.take (k+1)).map (g8 nm)=(L.take k).map (g8 nm)++[g8 nm L[k]]:=by rw [j8,bS hk,fi];rfl
  have lX:=hX.1;rw [aH,nS] at lX;have cW:L.length≤450:=b9 ok.cW (by have:n*n≤30*30:=wj yj yj;lia)
  generalize L[k]=p at eb pk tk;obtain ⟨p1,p2⟩:=p;dsimp only at pk;obtain ⟨i,rfl⟩:=fk pk.1;obtain ⟨j,rfl⟩:=fk (show 0≤p2 by lia)
  have Lh:fQ ws (i:Int)=some (.int (nm i)):=lA (hw i (by lia))
  have at2:fQ ws (j:Int)=some (.int (nm j)):=lA (hw j (by lia))
  have Bt:=sc _ _ r_;refine ⟨b,_,rfl,.of eb,rfl,_,_,rfl,_,_,rfl,rfl,?_⟩;refine ⟨_,rfl,_,rfl,r,ws,_,.int (nm i),rfl,rfl,.of Bt,Lh,_,rfl,_,rfl,r,ws,_,.int (nm j),rfl,rfl,.of Bt,at2,nm i,nm j,rfl,?_⟩;dsimp only [aM];refine ⟨_,rfl,.inl ⟨rfl,_,.of ef⟩,_,rfl,_,rfl,_,rfl,r,ws,_,.int (nm i),rfl,rfl,.of Bt,Lh,_,rfl,_,rfl,r,ws,_,.int (nm j),rfl,rfl,.of Bt,at2,nm i,nm j,rfl,by show 2≤sizeLine;decide,fun tp dJ=>?_⟩
  have eq:g8 nm ((i:Int),(j:Int))=(if nm j<nm i then nm j else nm i,if nm j>nm i then nm j else nm i):=by
   unfold g8;simp only [d6];refine Prod.ext ?_ ?_
   ·show min (nm i) (nm j)=_
    split <;> lia
   ·show max (nm i) (nm j)=_
    split <;> lia
  have st:ak Hc (upd Hc tp (.tup [.int (if nm j<nm i then nm j else nm i),.int (if nm j>nm i then nm j else nm i)])):=aO dJ
  have dR:upd Hc tp (.tup [.int (if nm j<nm i then nm j else nm i),.int (if nm j>nm i then nm j else nm i)]) tp=some (.tup [.int (g8 nm ((i:Int),(j:Int))).1,.int (g8 nm ((i:Int),(j:Int))).2]):=by rw [au,eq]
  generalize upd Hc tp (.tup [.int (if nm j<nm i then nm j else nm i),.int (if nm j>nm i then nm j else nm i)])=Hd at st dR ⊢
  have eO:=st _ _ ef;refine ⟨fd,xs,_,rfl,rfl,eO,cU (by lia),xs++[.ref tp],_,_,_,rfl,eG (sc.trans st) dD,au,?_⟩
  rw [tk];exact ((hX.mono st).push dR).bK eO fun b o nb e=>by rw [aG nb];exact e
 ·rintro σ Hc ⟨xs,v4,v5,v6,rfl,sc,ef,hX⟩
  rw [hL.1,gu] at hX;have Bu:=PN ok N;have lX:=hX.1;have cW:L.length≤450:=b9 ok.cW (by have:n*n≤30*30:=wj yj yj;lia)
  have lM:(L.map (g8 nm)).length=L.length:=aH ..;have small:∀q∈L.map (g8 nm),0≤q.2∧q.2<1000:=fun q hq=>by have:=Bu.lt q hq;lia
  generalize hM:L.map (g8 nm)=M at hX Bu lX lM small kk;dsimp only;refine ⟨_,rfl,_,rfl,fd,xs,fun i=>(M.getD i (0,0)).1,fun i=>(M.getD i (0,0)).2,rfl,ef,by lia,fun i v hv=>?_,fun p l' hp hu m7=>?_⟩
  ·have hi:i<M.length:=by rw [←lX];exact (bW.mp hv).1
   obtain ⟨b,rfl,eb⟩:=hX.2 i v M[i] hv (by simp [hi])
   dsimp only;rw [getD_at hi];exact ⟨⟨b,rfl,eb⟩,small _ (cy hi)⟩
  rw [lX] at hp hu;obtain ⟨pm,pw⟩:=PM hp hu Bu.nd small;have sl:ak Hc (upd Hc l' (.lst (p.toList.map fun i=>xs.getD i .aN))):=aO m7;have hP:aX Hc (p.toList.map fun i=>xs.getD i .aN) (p.toList.map fun i=>M.getD i (0,0)):=hX.pick _ fun i hi=>by have:p.toList.Perm (List.range M.length):=pQ.mp hp;exact cR.mp (this.mem_iff.mp hi)
  generalize (p.toList.map fun i=>xs.getD i .aN)=zs at sl hP ⊢;refine ⟨l',zs,rfl,.inl ⟨.of au,fun lt x_=>?_⟩⟩;have ju:=sl.trans (aO (o:=.tup zs) x_);have elt:upd (upd Hc l' (.lst zs)) lt (.tup zs) lt=some (.tup zs):=au;generalize upd (upd Hc l' (.lst zs)) lt (.tup zs)=Hd at ju elt ⊢;refine ⟨by show 2≤sizeLine;decide,fun tp dJ=>?_⟩
  have st:ak Hd (upd Hd tp (.tup [.int (n:Int),.ref lt])):=aO dJ;have sT:=sc.trans (ju.trans st);exact kk tp _ _ sT (none_of (sc.trans ju) dJ) ⟨lt,zs,au,st _ _ elt,(hP.mono ju).mono st⟩ (Bu.perm pm) pw pm
theorem US:cf ["_law_pen","_law_size","_law_ahead","_law_found","_law_j","_law_at","_law_some"] ["_law_pen","_law_size"] (bt AY):=dq
theorem UT(T:Txt K mg t):bY P w K mg base cw 3 t.rp t.uH ["_law_pen","_law_size"] (PU K):=by
 have S:=US;refine T.va.dN S (fun _ _ _ _ H vs _ _ hr h=>?_);obtain ⟨P0,a,ns,n,rfl,pc,hS,n1,yj,kk⟩:=h
 refine ⟨_,(aB (putL 2 S.nd (dm (aj (dm ao) ao)))
  (aB (putL 3 S.nd (dm ao))
  (aB (dM di rfl (FI rfl T.fB (aj aD (aj (pv 1) ao))) (cM (i:=4) S.nd rfl (Or.inr rfl))
   (aB (putL 5 S.nd (bC (jA T) hr T.fA T.eB.kp T.fw bJ (aj (pv 0) (aj (pv 4) ao))))
  (aB (putL 6 S.nd (bQ Gm (dm (aj (pv 5) ao)) (mM (N:=["_law_i","_law_pen"]) (ρ:=(fun σ=>[σ[0]?.join])) (jg [0] rfl) rfl (fO (aU cg (pv 2) (pv 5))) (fun _ _ _=>(.one (ck qo (bC (jA T) hr T.fA T.eB.kp T.fw bJ (aj (pv 1) (aj aD ao))) aD))) (fun _ _ _=>(pv 0)))))
  (aB (cL (ck iE (bC (jA T) hr T.fA T.eB.kp T.fw bJ (aj (pv 0) (aj aD ao))) aD) (aE (putL 6 S.nd (dm ao))) dw)
  (aB (eZ (fq eX iu iy gf (pv 2) (aj (pv 6) ao)))
  (aE (eZ (fq eX PySem.F.slot_list_extend PySem.F.type_list_extend Gk (pv 3) (aj (mM (N:=["_law_i","_law_j"]) (ρ:=(fun σ=>[σ[4]?.join])) (jg [4] rfl) rfl (fO (pv 6)) (fun _ _ _=>.nil) (fun _ _ _=>(gP (aj (pv 0) (aj (pv 1) ao))))) ao)))))))))
  (aE (bX (pv 3)))))),?_⟩
 refine eA fun _ nG=>⟨by show 0≤sizeLine;decide,fun l0 l6=>⟨by show 1≤sizeLine;decide,fun la yl=>?_⟩⟩
 have s1:ak H (upd H l0 (.lst [])):=aO l6;have e0:upd H l0 (.lst []) l0=some (.lst []):=au;generalize upd H l0 (.lst [])=H1 at s1 e0 yl ⊢;have s2:ak H1 (upd H1 la (.lst [.ref l0])):=aO yl;have ea:upd H1 la (.lst [.ref l0]) la=some (.lst [.ref l0]):=au;dsimp only [aM];refine nG _ _ ?_;generalize upd H1 la (.lst [.ref l0])=H2 at s2 ea ⊢;refine eA fun _ kJ=>⟨by show 0≤sizeLine;decide,fun fd dD=>?_⟩
 have s3:ak H2 (upd H2 fd (.lst [])):=aO dD;have ef:upd H2 fd (.lst []) fd=some (.lst []):=au;dsimp only [aM];refine kJ _ _ ?_;generalize upd H2 fd (.lst [])=H3 at s3 ef ⊢;have jr:=s1.trans (s2.trans s3);have ym:la≠P0:=(pc.mono s1).ne yl;have jB:fd≠P0:=((pc.mono s1).mono s2).ne dD;have UU:l0≠P0:=pc.ne l6;have UW:H la=none:=none_of s1 yl;have Bv:H fd=none:=none_of (s1.trans s2) dD;have af:la≠fd:=fun e=>by rw [e,dD] at ea;cases ea
 refine ⟨_,rfl,_,_,rfl,⟨by decide,by decide,by lia,by lia⟩,?_⟩
 rw [show ((n:Int)-1).toNat=n-1 by lia]
 refine mF (fun k σ Hc=>∃(vs us:List V) (L:aw) (D:Nat→List Nat) (v4 v5 v6:Option V),σ=[some (.ref P0),some (.int (n:Int)),some (.ref la),some (.ref fd),v4,v5,v6]∧aF P0 H Hc∧a_ Hc P0 a∧Hc la=some (.lst vs)∧PV (er P0 Hc) vs (k+1) D∧(∀(i:Nat) (b:Addr),vs[i]?=some (V.ref b)→b≠la∧b≠fd)∧Hc fd=some (.lst us)∧aX (er P0 Hc) us L∧mW (k+1) L) ?_ ?_ ?_
 ·refine ⟨[.ref l0],[],[],fun _=>[],_,_,_,rfl,aF.of jr,pc.mono jr,s3 _ _ ea,⟨rfl,fun k hk=>⟨fT.nil k,l0,by rw [show k=0 by lia];rfl,?_⟩⟩,fun i b hb=>?_,ef,aX.nil _,mW.nil⟩
  ·rw [dG UU]
   exact s3 _ _ (s2 _ _ e0)
  ·match i,hb with
   | 0,hb=>cases hb;exact ⟨(fun e=>by rw [e,yl] at e0;cases e0),(fun e=>by rw [←e] at dD;rw [s2 _ _ e0] at dD;cases dD)⟩
   | i+1,hb=>simp at hb
 ·rintro k σ Hc hk ⟨vs,us,L,D,v4,v5,v6,rfl,sc,p1,Bw,ah,ap,eO,hL,ok⟩
  refine ⟨_,rfl,_,rfl,P0,a,ns,1+(k:Int),rfl,p1,ak.seq sc hS,by lia,dY.of_lt (by lia) (by lia),fun c H4 c0 c1 s4 p4=>?_⟩
  obtain ⟨c,rfl⟩:=fk c0;have hc:c<k+1:=by lia
  obtain ⟨fc,b,UX,yn⟩:=ah.2 c hc;have UY:b≠P0:=fun z=>by rw [z] at yn;unfold er at yn;rw [ae rfl] at yn;cases yn
  have UZ:=ah.1;have nH:=sc.trans s4;have U0:=s4.at ym Bw;have Li:H4 b=some (.lst (e_ (D c))):=mQ _ _ (s4 _ _ yn);dsimp only [aM];simp only [pW,pX];refine eA fun _ l8=>⟨_,rfl,by show 1≤sizeLine;decide,fun vF z9=>?_⟩
  have s5:ak H4 (upd H4 vF (.lst [.int (c:Int)])):=aO z9;have e5:upd H4 vF (.lst [.int (c:Int)]) vF=some (.lst [.int (c:Int)]):=au;have U1:vF≠P0:=p4.ne z9;generalize upd H4 vF (.lst [.int (c:Int)])=H5 at s5 e5 ⊢;have lD:(D c).length≤30:=b9 fc.len (by lia)
  have lV:(e_ (D c)).length≤30:=by unfold e_;rw [aH];exact lD
  have jw:=nH.trans (aF.of s5);refine PR (K:=K) (l:=b) (xs:=e_ (D c)) (cU (by lia)) UY (s5 _ _ Li) (p4.mono s5) (fun R h=>⟨_,rfl,_,rfl,la,vs,_,.ref b,rfl,rfl,.of (s5 _ _ U0),lA UX,b,rfl,⟨_,.of (s5 _ _ Li)⟩,h⟩) (fun i x hx Hx R sx px k=>⟨_,rfl,P0,a,ns,3,rfl,px,ak.seq (jw.trans sx) hS,by decide,dY.of_lt (by decide) (by decide),fun c' H' _ _ s' p'=>⟨_,_,rfl,rfl,_,rfl,k _ H' s' p'⟩⟩) (fun x Hx R h=>⟨_,rfl,h⟩) fun D' ys Hx Zd Ze sx px sub Ar=>?_
  obtain ⟨e,Gs,rfl⟩:=C0 sub;have fe:=(fc.sub Gs).put hc;have Zf:(e_ e).length≤30:=b9 sub.length_le lV;refine ⟨vF,D',_,_,rfl,rfl,sx.at U1 e5,Ar,b9 (show _≤900 by simp;lia) (by decide),fun c2 n2=>?_⟩
  have s6:ak Hx (upd Hx c2 (.lst ([.int (c:Int)]++e_ e))):=aO n2;have e6:upd Hx c2 (.lst ([.int (c:Int)]++e_ e)) c2=some (.lst (e_ (c::e))):=au;have Bj:=(jw.trans sx).trans (aF.of s6);have p6:=px.mono s6;have h_:aF P0 H4 (upd Hx c2 (.lst ([.int (c:Int)]++e_ e))):=(aF.of s5).trans (sx.trans (aF.of s6));have EC:c2≠P0:=px.ne n2;have f2:er P0 Hc c2=none:=none_of (s4.trans ((aF.of s5).trans sx)) (by rw [dG EC];exact n2)
  dsimp only [aM];refine l8 _ _ ?_;generalize upd Hx c2 (.lst ([.int (c:Int)]++e_ e))=H6 at s6 e6 Bj p6 h_ ⊢;simp only [pW,pX];refine bg (xu (fun σ Hy=>∃(lc:Addr) (d:List Nat),σ=[some (.ref P0),some (.int (n:Int)),some (.ref la),some (.ref fd),some (.int (1+(k:Int))),some (.int (c:Int)),some (.ref lc)]∧aF P0 Hc Hy∧a_ Hy P0 a∧Hy lc=some (.lst (e_ d))∧fT (k+1) d∧lc≠P0∧er P0 Hc lc=none) ?_ ?_)
  ·rintro σ Hy ⟨lc,d,rfl,sy,py,iV,ED,vG,Bx⟩
   have ly:lc≠la:=fun z=>by rw [z,dG ym,Bw] at Bx;cases Bx
   have lf:lc≠fd:=fun z=>by rw [z,dG jB,eO] at Bx;cases Bx
   have EE:=sy.at ym Bw;have U2:=sy.at jB eO;have Zg:d.length≤30:=b9 ED.len (by lia)
   dsimp only;refine ⟨_,rfl,.inl ⟨rfl,_,.of EE⟩,_,rfl,la,vs,_,rfl,rfl,EE,cU (by lia),?_⟩
   have e7:upd Hy la (.lst (vs++[.ref lc])) la=some (.lst (vs++[.ref lc])):=au;have k7:∀b o,b≠la→Hy b=some o→upd Hy la (.lst (vs++[.ref lc])) b=some o:=fun b o nb e=>by rw [aG nb];exact e
   have p7:=py.upd (o:=.lst (vs++[.ref lc])) ym;have r7:=C1 (P:=P0) (H:=Hy) (r:=la) (o:=.lst (vs++[.ref lc]));have rW:aF P0 H (upd Hy la (.lst (vs++[.ref lc]))):=(sc.trans sy).but UW;generalize upd Hy la (.lst (vs++[.ref lc]))=H7 at e7 k7 p7 r7 rW ⊢;have EF:=k7 fd _ (fun z=>af z.symm) U2;have EG:=k7 lc _ ly iV;have U3:(e_ d).length=d.length:=by unfold e_;rw [aH]
   refine ⟨_,rfl,.inl ⟨rfl,_,.of EF⟩,GL (xs:=e_ d) (fun R h=>⟨_,rfl,lc,rfl,⟨_,.of EG⟩,h _ _ (ak.refl _) (qt (.of EG))⟩) (cU (by lia)) (fun _ i y Hz=>∃(b:Addr) (x:Nat),y=.ref b∧d[i]?=some x∧Hz b=some (.tup [.int (x:Int),.int (1+(k:Int))])) (fun Dd i y Ha Hb ys ⟨b,x,h1,h2,h3⟩ e f=>⟨b,x,h1,h2,f b _ (fun z=>by rw [z,e] at h3;cases h3) h3⟩) ?_ ?_⟩
   ·intro Dd i x hx Hz R sz _ kz
    obtain ⟨y,hy,rfl⟩:=PX hx;refine ⟨_,rfl,_,rfl,by show 2≤sizeLine;decide,fun tp dJ=>?_⟩
    exact kz _ _ (aO dJ) ⟨tp,y,rfl,hy,au⟩
   ·intro Dd zs H8 TN s8 U4 U5 Eh
    have lL:=hL.1;have l2:us.length≤450:=by
     have:=ok.cW;have:(k+1)*(k+1-1)≤30*30:=wj (by lia) (by lia)
     lia
    refine ⟨fd,Dd,us,zs,rfl,rfl,s8 _ _ EF,Eh,b9 (show _≤900 by lia) (by decide),?_⟩
    have k9:∀b o,b≠fd→H8 b=some o→upd H8 fd (.lst (us++zs)) b=some o:=fun b o nb e=>by rw [aG nb];exact e
    have p8:=p7.mono s8;have r9:=C1 (P:=P0) (H:=H8) (r:=fd) (o:=.lst (us++zs));have Lj:er P0 H8 fd=some (.lst us):=by rw [dG jB];exact s8 _ _ EF
    have U6:er P0 Hy la=some (.lst vs):=by rw [dG ym];exact EE
    refine ⟨vs++[.ref lc],us++zs,L++d.map fun(x:Nat)=>((x:Int),((k+1:Nat):Int)),fun i=>if i=k+1 then d else D i,_,_,_,rfl,(rW.trans (aF.of s8)).but Bv,p8.upd jB,k9 la _ af (s8 _ _ e7),⟨by simp [UZ],fun i hi=>?_⟩,fun i b' jW=>?_,au,?_,ok.more ED⟩
    ·dsimp only
     by_cases z:i=k+1
     ·subst z
      rw [ae rfl];refine ⟨ED,lc,by rw [gK (by lia),show k+1-vs.length=0 by lia];rfl,?_⟩
      exact r9 _ _ lf (by rw [dG vG];exact s8 _ _ EG)
     ·rw [aa z]
      obtain ⟨f1,b1,v1,h1⟩:=ah.2 i (by lia)
      obtain ⟨a1,a2⟩:=ap i b1 v1;refine ⟨f1,b1,by rw [gM (by lia)];exact v1,?_⟩
      exact r9 _ _ a2 (zN s8 _ _ (r7 _ _ a1 (sy _ _ h1)))
    ·by_cases z:i<vs.length
     ·rw [gM z] at jW
      exact ap i b' jW
     ·have bw:=(bW.mp jW).1
      rw [du,nW] at bw;rw [gK (by lia),show i-vs.length=0 by lia] at jW
      cases jW;exact ⟨ly,lf⟩
    ·refine aX.cat ?_ ?_
     ·exact (((hL.mono sy).bK U6 r7).mono (zN s8)).bK Lj r9
     ·refine aX.bK (H:=er P0 H8) ⟨by rw [U4,U3,aH],fun i v p h1 h2=>?_⟩ Lj r9
      obtain ⟨b',x,rfl,hx,e'⟩:=U5 i v h1;rw [bo,hx] at h2;cases h2;refine ⟨b',rfl,?_⟩;rw [show (((k+1:Nat):Int))=1+(k:Int) by lia]
      exact xx p8 e'
  ·intro R hR
   refine ⟨_,rfl,P0,a,ns,9,rfl,p6,ak.seq Bj hS,by decide,dY.of_lt (by decide) (by decide),fun c' H7 _ _ s7 p7=>⟨rfl,_,rfl,cI (fun _=>?_) (fun _=>?_)⟩⟩
   ·refine ⟨by show 0≤sizeLine;decide,fun lc vG=>?_⟩
    have nP:=p7.ne vG;have Ll:=s4.trans (h_.trans s7);exact hR _ _ ⟨lc,[],rfl,Ll.trans (aF.of (aO vG)),p7.mono (aO vG),au,fT.nil _,nP,none_of Ll (by rw [dG nP];exact vG)⟩
   ·exact hR _ _ ⟨c2,c::e,rfl,s4.trans (h_.trans s7),p7,s7.at EC e6,fe,EC,f2⟩
 ·rintro σ Hc ⟨vs,us,L,D,v4,v5,v6,rfl,sc,p1,Bw,ah,ap,eO,hL,ok⟩
  rw [show n-1+1=n by lia] at ok
  exact ⟨_,rfl,kk fd us L Hc sc p1 (by rw [dG jB];exact Bv) jB eO hL ok.ok⟩
theorem U7:cf ["_law_pen","_law_most","_law_size","_law_way","_law_wide","_law_links","_law_j","_law_i"] ["_law_pen","_law_most"] (bt AZ):=dq
theorem U8(T:Txt K mg t):bY P w K mg base cw 4 t.rq t.uI ["_law_pen","_law_most"] (PZ K):=by
 have S:=U7;refine T.vb.dN S (fun _ _ _ _ H _ _ _ hr h=>?_);obtain ⟨P0,a,ns,most,rfl,pc,hS,m1,Zh,kk⟩:=h
 refine ⟨_,(aB (putL 2 S.nd (bQ iD aD (bC (jA T) hr T.fA T.eB.kp T.fw bJ (aj (pv 0) (aj (pv 1) ao)))))
  (aB (putL 3 S.nd (bC (jA T) hr T.fA T.eB.kp T.fw bJ (aj (pv 0) (aj aD ao))))
  (aB (putL 4 S.nd (bC (jA T) hr T.fA T.eB.kp T.fw bJ (aj (pv 0) (aj (pv 2) ao))))
  (aB (putL 5 S.nd (dm ao))
  (aB (dM di rfl (k6 rfl T.fB (aj (pv 2) ao)) (cM (i:=6) S.nd rfl (Or.inl rfl))
   (aE (dM di rfl (k6 rfl T.fB (aj (pv 6) ao)) (cM (i:=7) S.nd rfl (Or.inl rfl))
   (aE (cL (mC (bC (UQ T) hr T.JT T.u_.kp T.JS bJ (aj (pv 0) (aj (pv 3) (aj (pv 2) (aj (pv 4) (aj (pv 7) (aj (pv 6) ao)))))))) (aE (eZ (fq eX iu iy gf (pv 5) (aj (gP (aj (pv 7) (aj (pv 6) ao))) ao)))) dw)))))
  (aB (cL (ck iE (pv 3) aD) (aE (putL 5 S.nd (bC (UT T) hr T.JV T.va.kp T.JU bJ (aj (pv 0) (aj (pv 2) ao))))) dw)
  (aE (bX (bC (Lg T) hr T.DY T.rM.kp T.DX bJ (aj (pv 2) (aj (pv 5) (aj (bC (Lc T) hr T.DW T.rK.kp T.DV bJ (aj (pv 0) (aj (fP (tG rfl) rfl T.jq boot_list (aj (fP tF rfl T.fB tH (aj (pv 2) ao)) ao)) ao))) ao)))))))))))),?_⟩
 refine eA fun _ nG=>⟨_,rfl,_,rfl,P0,a,ns,(most:Int),rfl,pc,hS,by lia,dY.of_lt (by lia) (by lia),fun c H1 c0 c1 s1 p1=>⟨_,_,rfl,rfl,?_⟩⟩
 obtain ⟨c,rfl⟩:=fk c0;dsimp only [aM];refine nG _ _ ?_;rw [show 1+(c:Int)=((c+1:Nat):Int) by lia]
 have n1:1≤c+1:=by lia
 have nm:c+1≤most:=by lia
 generalize c+1=n at n1 nm ⊢;have vB:a7 K (er P0 H1) a (ns.map V.int):=ak.seq s1 hS;refine eA fun _ kJ=>⟨_,rfl,P0,a,ns,6,rfl,p1,vB,by decide,dY.of_lt (by decide) (by decide),fun way H2 _ _ s2 p2=>?_⟩
 have gJ:=s1.trans s2;dsimp only [aM];refine kJ _ _ ?_;refine eA fun _ l8=>⟨_,rfl,_,rfl,P0,a,ns,(n:Int),rfl,p2,ak.seq gJ hS,by lia,dY.of_lt (by lia) (by lia),fun wide H3 _ _ s3 p3=>?_⟩
 have jr:=gJ.trans s3;dsimp only [aM];refine l8 _ _ ?_;refine eA fun _ nI=>⟨by show 0≤sizeLine;decide,fun fd dD=>?_⟩
 have s4:ak H3 (upd H3 fd (.lst [])):=aO dD;have ef:upd H3 fd (.lst []) fd=some (.lst []):=au;dsimp only [aM];refine nI _ _ ?_;generalize upd H3 fd (.lst [])=H4 at s4 ef ⊢;have nk:=jr.trans (aF.of s4);have p4:=p3.mono s4;have jB:fd≠P0:=p3.ne dD;have Lm:er P0 H fd=none:=none_of jr (by rw [dG jB];exact dD)
 have Bv:H fd=none:=by rw [dG jB] at Lm;exact Lm
 refine ⟨_,rfl,(n:Int),rfl,by lia,by lia,?_⟩
 rw [d6];refine mF (fun j σ Hc=>∃(us:List V) (L:aw) (v6 v7:Option V),σ=[some (.ref P0),some (.int (most:Int)),some (.int (n:Int)),some (.int way),some (.int wide),some (.ref fd),v6,v7]∧aF P0 H Hc∧a_ Hc P0 a∧Hc fd=some (.lst us)∧aX (er P0 Hc) us L∧gF j 0 L) ⟨[],[],_,_,rfl,nk,p4,ef,aX.nil _,gF.start⟩ ?_ ?_
 ·rintro j σ Hc hj ⟨us,L,v6,v7,rfl,sc,p5,eO,hL,ok⟩
  dsimp only [aM];simp only [pW,pX];refine ⟨_,rfl,(j:Int),by rw [sO],by lia,by lia,?_⟩
  rw [d6];refine mF (fun i σ Hd=>∃(us:List V) (L:aw) (v7:Option V),σ=[some (.ref P0),some (.int (most:Int)),some (.int (n:Int)),some (.int way),some (.int wide),some (.ref fd),some (.int (0+(j:Int))),v7]∧aF P0 H Hd∧a_ Hd P0 a∧Hd fd=some (.lst us)∧aX (er P0 Hd) us L∧gF j i L) ⟨us,L,_,rfl,sc,p5,eO,hL,ok⟩ ?_ ?_
  ·rintro i σ Hd hi ⟨us,L,v7,rfl,sd,p6,eO,hL,ok⟩
   refine ⟨_,rfl,_,rfl,_,rfl,_,rfl,_,rfl,_,rfl,P0,a,ns,way,(n:Int),wide,0+(i:Int),0+(j:Int),rfl,p6,ak.seq sd hS,fun b He se pe=>?_⟩;have EH:=se.at jB eO;have Ln:=hL.mono se;have lL:=hL.1;have l2:us.length≤900:=by
    have:=ok.cW;have:j*(j-1)≤30*30:=wj (by lia) (by lia)
    lia
   cases b with
   | true=>
    refine ⟨true,rfl,tm ?_⟩;refine ⟨_,rfl,.inl ⟨rfl,_,.of EH⟩,_,rfl,_,rfl,by show 2≤sizeLine;decide,fun tp dJ=>?_⟩
    have st:ak He (upd He tp (.tup [.int (0+(i:Int)),.int (0+(j:Int))])):=aO dJ;have et:upd He tp (.tup [.int (0+(i:Int)),.int (0+(j:Int))]) tp=some (.tup [.int (i:Int),.int (j:Int)]):=by rw [au,sO,sO]
    generalize upd He tp (.tup [.int (0+(i:Int)),.int (0+(j:Int))])=Hf at st et ⊢;have pf:=pe.mono st;have Lo:=st _ _ EH;refine ⟨fd,us,_,rfl,rfl,Lo,cU (by lia),us++[.ref tp],L++[((i:Int),(j:Int))],_,rfl,((sd.trans se).trans (aF.of st)).but Bv,pf.upd jB,au,?_,ok.push hi⟩
    refine aX.bK (H:=er P0 Hf) ((Ln.mono (zN st)).push (xx pf et)) (by rw [dG jB];exact Lo) C1
   | false=>exact ⟨false,rfl,eU ⟨us,L,_,rfl,sd.trans se,pe,EH,Ln,ok.skip⟩⟩
  ·rintro σ Hd ⟨us,L,v7,rfl,sd,p6,eO,hL,ok⟩
   exact ⟨us,L,_,_,rfl,sd,p6,eO,hL,ok.next⟩
 ·rintro σ Hc ⟨us,L,v6,v7,rfl,sc,p5,eO,hL,ok⟩
  dsimp only;refine bg (xu (fun σ Hy=>∃(lk:Addr) (us:List V) (L:aw),σ=[some (.ref P0),some (.int (most:Int)),some (.int (n:Int)),some (.int way),some (.int wide),some (.ref lk),v6,v7]∧aF P0 H Hy∧a_ Hy P0 a∧lk≠P0∧Hy lk=some (.lst us)∧aX (er P0 Hy) us L∧g7 n L) ?_ ?_)
  ·rintro σ Hy ⟨lk,us,L,rfl,sy,py,By,Bz,hL,ok⟩
   dsimp only;refine ⟨_,rfl,_,rfl,_,rfl,_,rfl,(n:Int),rfl,fun pr vz=>?_⟩;have s6:ak Hy (upd Hy pr (.d7 0 (n:Int))):=aO vz;refine ⟨pr,n,rfl,au,by lia,fun l0 n0=>?_⟩
   have s7:=s6.trans (aO (o:=.lst (cC n)) n0);have e0:upd (upd Hy pr (.d7 0 (n:Int))) l0 (.lst (cC n)) l0=some (.lst (cC n)):=au;have l6:l0≠P0:=(py.mono s6).ne n0;generalize upd (upd Hy pr (.d7 0 (n:Int))) l0 (.lst (cC n))=Hz at s7 e0 ⊢;have lu:(cC n).length=n:=by unfold cC;simp
   refine ⟨P0,a,l0,ns,cC n,rfl,py.mono s7,ak.seq (sy.trans (aF.of s7)) hS,l6,e0,by lia,fun r ys Hw sw pw fr nr r_ pm=>?_⟩
   obtain ⟨EI,ly,hy,NO⟩:=Hq pm;have nJ:=(aF.of s7).trans sw;refine ⟨lk,r,n,us,ys,L,EI,rfl,nJ.at By Bz,(hL.mono nJ).mono mQ,ok,by lia,r_,ly,hy,NO,fun tt L' Hv sv yo sh pE yp U9=>?_⟩
   have nt:tt≠P0:=pw.ne yo;exact kk tt n L' Hv ((sy.trans nJ).trans (aF.of sv)) (pw.mono sv) (none_of (sy.trans nJ) (by rw [dG nt];exact yo)) nt (sh.er (pw.mono sv)) pE yp n1 nm
  ·intro R hR
   refine ⟨_,rfl,rfl,_,rfl,cI (fun _=>?_) (fun _=>?_)⟩
   ·refine ⟨_,rfl,_,rfl,P0,a,ns,n,rfl,p5,ak.seq sc hS,n1,by lia,fun r Lp L' Hy sy py fr nr r_ U_ pE=>?_⟩
    exact hR _ _ ⟨r,Lp,L',rfl,sc.trans sy,py,nr,r_,U_,pE⟩
   ·exact hR _ _ ⟨fd,us,L,rfl,sc,p5,jB,eO,hL,ok.ok⟩
theorem Va:cf ["_law_beside_here","_law_through","_law_start","_law_met","_law_row","_law_other"] ["_law_beside_here","_law_through","_law_start"] (bt A2):=dq
theorem Vb(T:Txt K mg t):bY P w K mg base cw 1 t.rB t.uL ["_law_beside_here","_law_through","_law_start"] QY:=by
 have S:=Va
 refine T.vc.dN S (fun _ _ _ _ H vs _ _ hr h=>?_)
 obtain ⟨D,d,n,rs,g,done,p,rfl,KL,gn,ed,ld,pn,Tz,kk⟩:=h
 have hu:=jE (n_ (show 1≤64 by decide) _) hr.units
 have fh:=hr.units
 refine ⟨_,(aB (putL 3 S.nd (HK (C7 (pv 2) gy HH) rfl rfl (fun h=>by cases h) (by decide)))
  (aB (putL 4 S.nd (dm (aj (pv 2) ao)))
  (aB (sV di (ck (Ac fh) (pv 4) (dm ao)) (aE (dM di rfl (fO (aU cg (pv 0) (Nv eX PySem.F.slot_list_pop PySem.F.type_list_pop ND (pv 4)))) (cM (i:=5) S.nd rfl (Or.inl rfl))
   (aE (cL (wC (Af hu (pv 5) (pv 3)) rfl) (aB (mX hu (pv 3) (pv 5) gy rfl)
  (aE (cL (sZ Gg (pv 5) (pv 1) rfl) (aE (eZ (fq eX iu iy gf (pv 4) (aj (pv 5) ao)))) dw))) dw)))))
  (aE (bX (pv 3)))))),?_⟩
 refine eA fun _ nG=>(mP fun mt vH=>⟨_,rfl,au,[((Sum.inl (p:Int):Key),V.bl true)],rfl,by show 1≤15;decide,?_⟩)
 have s0:∀b o,b≠mt→H b=some o→upd (upd H mt (.dK [])) mt (.dK (kD [] [((Sum.inl (p:Int):Key),V.bl true)])) b=some o:=fun b o ne e=>by rw [aG ne,aG ne];exact e
 have em:upd (upd H mt (.dK [])) mt (.dK (kD [] [((Sum.inl (p:Int):Key),V.bl true)])) mt=some (.dK (dk [p])):=by rw [au];rfl
 generalize upd (upd H mt (.dK [])) mt (.dK (kD [] [((Sum.inl (p:Int):Key),V.bl true)]))=H1 at s0 em ⊢
 have sm:ak H H1:=fun b o e=>s0 b o (fun z=>by rw [z,vH] at e;cases e) e
 dsimp only [aM]
 refine nG _ _ ?_
 refine eA fun _ kJ=>⟨_,rfl,by show 1≤sizeLine;decide,fun l nl=>?_⟩
 have sl:ak H1 (upd H1 l (.lst [V.int (p:Int)])):=aO nl
 have el:upd H1 l (.lst [V.int (p:Int)]) l=some (.lst (([p]:List Nat).map fun k:Nat=>V.int (k:Int))):=au
 generalize upd H1 l (.lst [V.int (p:Int)])=H2 at sl el ⊢
 have l6:H l=none:=none_of sm nl
 have lm:l≠mt:=fun z=>by rw [z,em] at nl;cases nl
 have s2:=sm.trans sl
 dsimp only [aM]
 refine kJ _ _ ?_
 refine bg ⟨fun m σ Hc=>∃(ks ws:List Nat) (v5:Option V),σ=[some (.ref D),some (.ref d),some (.int (p:Int)),some (.ref mt),some (.ref l),v5]∧m=2*(n-ks.length)+ws.length∧ak H Hc∧Hc mt=some (.dK (dk ks))∧Hc l=some (.lst (ws.map fun k:Nat=>V.int (k:Int)))∧eW n (oX n g) (·∈done) p none (fun _=>True) ks ws∧ws.length≤ks.length,⟨_,[p],[p],_,rfl,rfl,s2,sl _ _ em,el,eW.start pn,ay _⟩,?_⟩
 rintro m' σ Hc ⟨ks,ws,v5,rfl,Zi,oc,Lq,iV,wk,wl⟩
 have Vc:=wk.pl.len
 refine ⟨_,rfl,by show 0≤sizeLine;decide,fun le vD=>?_⟩
 have s3:ak Hc (upd Hc le (.lst [])):=aO vD
 have e3:upd Hc le (.lst []) le=some (.lst []):=au
 generalize upd Hc le (.lst [])=Hn at s3 e3 ⊢
 refine ⟨l,le,_,rfl,rfl,.of (s3 _ _ iV),e3,_,rfl,cI (fun hz=>?_) (fun hz=>?_)⟩
 ·have ue:ws≠[]:=fun z=>by rw [z] at hz;cases hz
  obtain ⟨us,h,rfl⟩:∃us h,ws=us++[h]:=⟨ws.dropLast,ws.getLast ue,(List.dropLast_concat_getLast ue).symm⟩
  have Zj:(us++[h]).length=us.length+1:=by simp
  have hh:=wk.wt h (eQ _ (bI.mpr rfl))
  have hn:h<n:=wk.pl.2 h hh.1
  have yq:=wk.pop
  refine ⟨_,fun _ _ h=>h,?_⟩
  refine ⟨_,rfl,_,rfl,.inl ⟨rfl,_,.of (s3 _ _ iV)⟩,l,_,.int (h:Int),rfl,rfl,s3 _ _ iV,by simp,?_⟩
  rw [fi,jC,vP,List.dropLast_concat]
  have sn:=oc.trans s3
  have o1:∀b u,b≠l→Hn b=some u→upd Hn l (.lst (us.map fun k:Nat=>V.int (k:Int))) b=some u:=fun b u ne e=>by rw [aG ne];exact e
  have nC:upd Hn l (.lst (us.map fun k:Nat=>V.int (k:Int))) l=some (.lst (us.map fun k:Nat=>V.int (k:Int))):=au
  have Lr:∀{Hx Hy:Hp},ak H Hx→(∀b u,b≠l→Hx b=some u→Hy b=some u)→ak H Hy:=fun h k b u e=>k b u (fun z=>by rw [z,l6] at e;cases e) (h b u e)
  have Vd:∀{Hx Hy:Hp},ak H Hx→(∀b u,b≠mt→Hx b=some u→Hy b=some u)→ak H Hy:=fun h k b u e=>k b u (fun z=>by rw [z,vH] at e;cases e) (h b u e)
  have BA:=Lr sn o1
  have Ls:=o1 _ _ (Ne.symm lm) (s3 _ _ Lq)
  generalize upd Hn l (.lst (us.map fun k:Nat=>V.int (k:Int)))=H3 at o1 nC BA Ls ⊢
  refine ⟨D,_,_,_,rfl,rfl,.of (BA _ _ KL.lst),jl hn,rs h,rfl,⟨_,.of (BA _ _ (KL.at' h hn))⟩,?_⟩
  refine k_ (K:=K) (a:=rs h) (xs:=(g h).map fun k:Nat=>V.int (k:Int)) (fun i σ He=>∃(ks us:List Nat) (v5:Option V),σ=[some (.ref D),some (.ref d),some (.int (p:Int)),some (.ref mt),some (.ref l),v5]∧ak H He∧He mt=some (.dK (dk ks))∧He l=some (.lst (us.map fun k:Nat=>V.int (k:Int)))∧eW n (oX n g) (·∈done) p (some h) (·∈(g h).take i) ks us∧us.length≤ks.length∧h∈ks∧2*(n-ks.length)+us.length<m') ⟨ks,us,_,rfl,BA,Ls,nC,⟨yq.pl,yq.st,yq.rc,yq.wt,fun x hx ox=>(yq.cl x hx ox).imp id fun e b hb=>(e b hb).imp id fun z=>⟨z.1,by simp⟩⟩,by lia,hh.1,by lia⟩ (fun i σ He _ ⟨_,_,_,_,e,_⟩=>.of (e _ _ (KL.at' h hn))) ?_ ?_
  ·rintro i x σ He hx ⟨ks,us,v5,rfl,oe,yr,BB,pH,ul,nK,lt⟩
   obtain ⟨k,hk,rfl⟩:∃k:Nat,(g h)[i]?=some k∧x=.int (k:Int):=by
    rw [bo] at hx
    cases e:(g h)[i]? with
    | none=>rw [e] at hx;cases hx
    | some q=>rw [e] at hx;exact ⟨q,rfl,(Option.some.inj hx).symm⟩
   have km:k∈g h:=nU hk
   have kn:k<n:=gn h hn k km
   have tk:=take_snoc hk
   have Zk:=pH.pl.len
   dsimp only [aM]
   refine ⟨_,rfl,_,rfl,mt,_,rfl,.inl ⟨dk ks,Sum.inl (k:Int),.inl yr,rfl,rfl⟩,_,rfl,?_⟩
   rw [De]
   by_cases vI:k∈ks
   ·rw [ae vI]
    refine eU ⟨ks,us,_,rfl,oe,yr,BB,?_,ul,nK,lt⟩
    have w2:=pH.old vI
    refine ⟨w2.pl,w2.st,w2.rc,w2.wt,fun x hx ox=>(w2.cl x hx ox).imp id fun e b hb=>(e b hb).imp id fun z=>⟨z.1,fun q=>z.2 ?_⟩⟩
    rw [tk] at q
    exact (cY.mp q).imp id bI.mp
   ·rw [aa vI]
    refine tm ?_
    have al:=QU vI
    have o4:∀b u,b≠mt→He b=some u→upd He mt (.dK (dk (cX ks k))) b=some u:=fun b u ne e=>by rw [aG ne];exact e
    refine bg ⟨_,rfl,_,rfl,mt,upd He mt (.dK (dk (cX ks k))),rfl,.inl ⟨dk ks,Sum.inl (k:Int),yr,rfl,by rw [Ai];exact cU (by lia),by rw [HQ]⟩,?_⟩
    have EJ:upd He mt (.dK (dk (cX ks k))) mt=some (.dK (dk (cX ks k))):=au
    have BC:=Vd oe o4
    have nM:=o4 _ _ lm BB
    generalize upd He mt (.dK (dk (cX ks k)))=H4 at o4 EJ BC nM ⊢
    have conv:∀{vs:List Nat},eW n (oX n g) (·∈done) p (some h) (fun x=>x∈(g h).take i∨x=k) (cX ks k) vs→eW n (oX n g) (·∈done) p (some h) (·∈(g h).take (i+1)) (cX ks k) vs:=fun w2=>⟨w2.pl,w2.st,w2.rc,w2.wt,fun x hx ox=>(w2.cl x hx ox).imp id fun e b hb=>(e b hb).imp id fun z=>⟨z.1,fun q=>z.2 (by
     rw [tk] at q
     exact (cY.mp q).imp id bI.mp)⟩⟩
    have Zl:=(pH.pl.add kn).len
    dsimp only
    refine ⟨_,rfl,_,rfl,d,_,rfl,.inl (.of (BC _ _ ed)),rfl,Dk done,_,rfl,cI (fun hb=>?_) (fun hb=>?_)⟩
    ·have hb:lB (.int (k:Int)) (done.map fun k:Nat=>V.int (k:Int))=true:=hb
     rw [Ak,i5] at hb
     refine ⟨_,rfl,.inl ⟨rfl,_,.of nM⟩,_,rfl,l,_,_,rfl,rfl,nM,cU (by rw [aH];lia),?_⟩
     have o5:∀b u,b≠l→H4 b=some u→upd H4 l (.lst ((us.map fun k:Nat=>V.int (k:Int))++[V.int (k:Int)])) b=some u:=fun b u ne e=>by rw [aG ne];exact e
     exact ⟨cX ks k,us++[k],_,rfl,Lr BC o5,o5 _ _ (Ne.symm lm) EJ,by rw [au,fi];rfl,conv (pH.new vI kn nK hh.2 ⟨hn,km⟩ (.inl ⟨hb,rfl⟩)),by rw [al,du,nW];lia,iP.mpr (.inl nK),by rw [al,du,nW];lia⟩
    ·have hb:¬lB (.int (k:Int)) (done.map fun k:Nat=>V.int (k:Int))=true:=hb
     rw [Ak,i5] at hb
     exact ⟨cX ks k,us,_,rfl,BC,EJ,nM,conv (pH.new vI kn nK hh.2 ⟨hn,km⟩ (.inr ⟨hb,rfl⟩)),by rw [al];lia,iP.mpr (.inl nK),by rw [al];lia⟩
  ·rintro σ He ⟨ks,us,v5,rfl,oe,yr,BB,pH,ul,nK,lt⟩
   rw [aH,gu] at pH
   exact ⟨_,lt,ks,us,_,rfl,rfl,oe,yr,BB,pH.next fun b hb=>hb.2,ul⟩
 ·have w0:ws=[]:=by
   cases ws with
   | nil=>rfl
   | cons x r=>exact absurd rfl hz
  subst w0
  exact ⟨_,rfl,kk _ mt ks (oc.trans s3) vH (s3 _ _ Lq) wk.pl wk.done⟩
theorem Ve:cf ["_law_shape","_law_found","_law_i","_law_j"] ["_law_shape"] (bt A1):=dq
theorem Lu(T:Txt K mg t):bY P w K mg base cw 1 t.rA t.uK ["_law_shape"] RB:=by
 have S:=Ve;refine T.rN.dN S (fun _ _ _ _ H _ _ _ hr h=>?_);obtain ⟨tp,n,L,rfl,⟨lt,us,dR,elt,hL⟩,ok,n9,l2,kk⟩:=h;have D9:((List.range n).map fun i:Nat=>V.int (0+(i:Int))).length=n:=by rw [aH,fH]
 refine ⟨_,(aB (zK (i0:=1) (N:=["_law_k"]) (ρ:=(fun σ=>[])) (jg [] rfl) rfl S.nd rfl (Or.inl rfl) (k6 rfl T.fB (aj (aU eF (pv 0) aD) ao)) (fun _ _ _=>.nil) (fun _ _ _=>(dm ao)))
  (aB (dM di rfl (B1 (aU eF (pv 0) aD)) (wI rfl (k4 (cM (i:=2) S.nd rfl (Or.inl rfl)) (k4 (cM (i:=3) S.nd rfl (Or.inl rfl)) wH)))
   (aB (eZ (fq eX iu iy gf (aU cg (pv 1) (pv 2)) (aj (pv 3) ao)))
  (aE (eZ (fq eX iu iy gf (aU cg (pv 1) (pv 3)) (aj (pv 2) ao))))))
  (aE (bX (pv 1))))),?_⟩
 refine bg (mP (CB (xs:=(List.range n).map fun i:Nat=>V.int (0+(i:Int))) (n:=n) D9 (fun R h=>⟨_,rfl,tp,_,_,_,rfl,rfl,.of dR,rfl,(n:Int),rfl,by lia,by lia,h _ _ (ak.refl _) (by rw [d6];exact GG)⟩) (cU (by lia)) (fun _ i y Hx=>Hx y=some (.lst [])∧H y=none) ?_ ?_ ?_))
 ·intro D i y Ha Hb ys ⟨h1,h2⟩ hy e f
  exact ⟨f y _ hy h1,h2⟩
 ·intro D i x hx Hc R sc _ kc
  exact ⟨bU _,fun p np=>kc p _ (eG (ak.refl _) np) np ⟨_,au⟩ ⟨au,none_of sc np⟩⟩
 ·intro D rs H1 nD s1 inj hA eD
  have K0:jm H1 D n rs (fun _=>[]):=⟨eD,inj,fun i hi=>(hA i hi).2,fun i hi=>(hA i hi).1.1⟩;have fr:∀i,i<n→H (rs i)=none:=fun i hi=>(hA i hi).1.2;dsimp only [aM];refine bg ⟨_,rfl,tp,_,_,_,rfl,rfl,.of (s1 _ _ dR),rfl,lt,rfl,⟨_,.of (s1 _ _ elt)⟩,?_⟩;refine FL (K:=K) (a:=lt) (xs:=us) (fun k σ Hc=>∃(g:Nat→List Nat) (v2 v3:Option V),σ=[some (.ref tp),some (.ref D),v2,v3]∧ak H Hc∧jm Hc D n rs g∧fb n (L.take k) g∧(∀a,(g a).length≤2*k)∧((∀p∈L,p.1<p.2)→L.Nodup→∀a,(g a).Nodup)) ⟨_,_,_,rfl,s1,K0,fb.nil n,fun _=>ay _,fun _ _ _=>iZ⟩ (fun k σ Hc _ ⟨_,_,_,_,sc,_⟩=>.of (sc _ _ elt)) ?_ ?_
  ·rintro k x σ Hc hx ⟨g,v2,v3,rfl,sc,KL,nb,gl,gn⟩
   have hk:k<L.length:=by rw [←hL.1];exact (bW.mp hx).1
   obtain ⟨b,rfl,eb⟩:=hL.2 k x L[k] hx (by simp [hk])
   have pk:=ok L[k] (cy hk);have tk:L.take (k+1)=L.take k++[L[k]]:=by rw [j8,bS hk];rfl
   have Lv:L.Nodup→L[k]∉L.take k:=fun nd h=>RS nd hk h;have EK:L[k]∈L:=cy hk;generalize L[k]=p at eb pk tk Lv EK;obtain ⟨p1,p2⟩:=p;dsimp only at pk eb;obtain ⟨i,rfl⟩:=fk pk.1;obtain ⟨j,rfl⟩:=fk pk.2.2.1;have hi:i<n:=by lia
   have hj:j<n:=by lia
   refine ⟨b,_,rfl,.of (sc _ _ eb),rfl,_,_,rfl,_,_,rfl,rfl,?_⟩;have off:∀(Hx:Hp) (i:Nat) (o:HO),i<n→ak H Hx→ak H (upd Hx (rs i) o):=fun Hx i o hi sx a u e=>by
    rw [aG (fun z=>by rw [z,fr i hi] at e;cases e)]
    exact sx _ _ e
   have K1:=KL.snoc j hi;have K2:=K1.snoc i hj;have g1:=gl i;have g2:(g9 g i j j).length≤2*k+1:=b9 Dl (by have:=gl j;lia)
   refine ⟨_,rfl,_,rfl,D,_,_,_,rfl,rfl,.of KL.lst,jl hi,.inl ⟨rfl,_,.of (KL.at' i hi)⟩,_,rfl,rs i,_,_,rfl,rfl,KL.at' i hi,cU (by rw [aH];lia),?_⟩
   refine ⟨_,rfl,_,rfl,D,_,_,_,rfl,rfl,.of K1.lst,jl hj,.inl ⟨rfl,_,.of (K1.at' j hj)⟩,_,rfl,rs j,_,_,rfl,rfl,K1.at' j hj,cU (by rw [aH];lia),?_⟩
   exact ⟨_,_,_,rfl,off _ _ _ hj (off _ _ _ hi sc),K2,by rw [tk];exact nb.snoc,fun a=>b9 Dl (by have:=Dl (g:=g) (i:=i) (j:=j) (a:=a);have:=gl a;lia),fun up nd a=>RU (gn up nd) nb hi hj (by have:=up _ EK;dsimp only at this;lia) (Lv nd) (fun h=>by have h1:=up _ (List.mem_of_mem_take h);have h2:=up _ EK;dsimp only at h1 h2;lia) a⟩
  ·rintro σ Hc ⟨g,v2,v3,rfl,sc,KL,nb,gl,gn⟩
   rw [hL.1,gu] at nb;rw [hL.1] at gl;exact ⟨_,rfl,kk _ _ _ _ sc nD fr KL nb gl gn⟩
theorem Vf:cf ["_law_shape","_law_order","_law_beside_here","_law_found","_law_k","_law_ahead","_law_met","_law_other"] ["_law_shape","_law_order"] (bt A3):=dq
theorem Vg(T:Txt K mg t):bY P w K mg base cw 3 t.rC t.uM ["_law_shape","_law_order"] RX:=by
 have S:=Vf;refine T.vd.dN S (fun _ _ _ _ H _ _ _ hr h=>?_);obtain ⟨tp,a,n,L,o,rfl,fD,en,pG,l2,ea,ho,kk⟩:=h;have hu:=jE (n_ (show 1≤64 by decide) _) hr.units
 have lo:=mZ ho;have nd:=oR ho;have lm:(o.map fun k:Nat=>V.int (k:Int)).length=n:=by rw [aH,lo]
 have Vh:∀k,k<n→fQ (o.map fun k:Nat=>V.int (k:Int)) (k:Int)=some (.int ((o.getD k 0:Nat):Int)):=fun k hk=>by
  refine lA ?_;rw [bo,bS (by lia),cG,bS (by lia)]
  rfl
 have Lw:∀k,k<n→o.getD k 0<n∧o.idxOf (o.getD k 0)=k:=fun k hk=>by
  have e:o.getD k 0=o[k]'(by lia):=by simp [cG,show k<o.length by lia]
  rw [e];exact ⟨(fu ho).mp (cy _),tT nd _⟩
 refine ⟨_,(aB (putL 2 S.nd (bC (Lu T) hr T.D3 T.rN.kp T.DZ bJ (aj (pv 0) ao)))
  (aB (putL 3 S.nd (dm ao))
  (aB (dM di rfl (k6 rfl T.fB (aj (aU eF (pv 0) aD) ao)) (cM (i:=4) S.nd rfl (Or.inl rfl))
   (aB (putL 5 S.nd (F8 Ge (pv 1) F5 (F6 (pv 4))))
  (aB (putL 6 S.nd (bC (Vb T) hr T.JZ T.vc.kp T.JY bJ (aj (pv 2) (aj (pv 5) (aj (aU cg (pv 1) (pv 4)) ao)))))
  (aE (dM di rfl (fO (F8 Ge (pv 1) (F6 (bQ iD (pv 4) aD)) F5)) (cM (i:=7) S.nd rfl (Or.inl rfl))
   (aE (cL (wC (Qg hu (pv 7) (pv 6)) rfl) (aE (eZ (fq eX iu iy gf (pv 3) (aj (gP (aj (cu (zu rfl) rfl T.x6 boot_min (aj (aU cg (pv 1) (pv 4)) (aj (pv 7) ao))) (aj (cu (zt rfl) rfl T.vj boot_max (aj (aU cg (pv 1) (pv 4)) (aj (pv 7) ao))) ao))) ao)))) dw)))))))
  (aE (bX (gP (aj (aU eF (pv 0) aD) (aj (fP Cb rfl T.x8 boot_tuple (aj (cu Ab rfl T.pb pU (aj (pv 3) ao)) ao)) ao)))))))),?_⟩
 refine eA fun _ nG=>⟨_,rfl,tp,n,L,rfl,fD,en,by lia,by lia,fun H1 D rs g s1 nD Bg KL nb Lx _=>?_⟩
 have gn:∀i,i<n→∀j∈g i,j<n:=fun i hi j hj=>by
  rcases (nb i j hi).mp hj with e | e
  ·have:=en _ e
   lia
  ·have:=en _ e
   lia
 dsimp only [aM];refine nG _ _ ?_;refine eA fun _ kJ=>⟨bU _,fun fd dD=>?_⟩;have s2:ak H1 (upd H1 fd (.lst [])):=aO dD;have Ly:upd H1 fd (.lst []) fd=some (.lst []):=au;dsimp only [aM];refine kJ _ _ ?_;generalize upd H1 fd (.lst [])=H2 at s2 Ly ⊢;have Lz:H fd=none:=none_of s1 dD;have gJ:=s1.trans s2;obtain ⟨lt,Zm,dR,elt,mL⟩:=id (fD.mono gJ);have Vi:jm H2 D n rs g:=⟨s2 _ _ KL.lst,KL.inj,KL.ne,fun i hi=>s2 _ _ (KL.at' i hi)⟩;have Df:D≠fd:=fun z=>by rw [z] at KL;rw [KL.lst] at dD;cases dD
 have rf:∀i,i<n→rs i≠fd:=fun i hi z=>by have:=KL.at' i hi;rw [z,dD] at this;cases this
 refine bg ⟨_,rfl,tp,_,_,_,rfl,rfl,.of dR,rfl,_,rfl,by lia,by lia,?_⟩
 rw [d6];refine mF (fun k σ Hc=>∃(us:List V) (M:aw) (v4 v5 v6 v7:Option V),σ=[some (.ref tp),some (.ref a),some (.ref D),some (.ref fd),v4,v5,v6,v7]∧ak H Hc∧jm Hc D n rs g∧Hc fd=some (.lst us)∧aX Hc us M∧fV n L o k 0 M∧M.length≤k*30) ⟨[],[],_,_,_,_,rfl,gJ,Vi,Ly,aX.nil _,fV.start n L o,bU _⟩ ?_ ?_
 ·rintro k σ Hc hk ⟨us,M,v4,v5,v6,v7,rfl,sc,yt,ef,hU,fl,lM⟩
  obtain ⟨pn,ip⟩:=Lw k hk;have BD:=Vh k hk;generalize o.getD k 0=p at pn ip BD;have ph:=sc _ _ ea;dsimp only [aM];refine eA fun _ l8=>⟨_,rfl,_,rfl,_,rfl,a,_,rfl,.of ph,fun ah Vj=>?_⟩;rw [sO];have cA:jH (o.map fun k:Nat=>V.int (k:Int)) none (some (k:Int))=(o.take k).map fun k:Nat=>V.int (k:Int):=by rw [Ou,List.map_take]
  rw [cA];have s3:ak Hc (upd Hc ah (.lst ((o.take k).map fun k:Nat=>V.int (k:Int)))):=aO Vj;have LA:upd Hc ah (.lst ((o.take k).map fun k:Nat=>V.int (k:Int))) ah=some (.lst ((o.take k).map fun k:Nat=>V.int (k:Int))):=au;dsimp only [aM];refine l8 _ _ ?_;generalize upd Hc ah (.lst ((o.take k).map fun k:Nat=>V.int (k:Int)))=H3 at s3 LA ⊢;have nB:=sc.trans s3;have Vk:jm H3 D n rs g:=⟨s3 _ _ yt.lst,KL.inj,KL.ne,fun i hi=>s3 _ _ (yt.at' i hi)⟩;refine eA fun _ nI=>⟨_,rfl,_,rfl,_,rfl,_,rfl,a,_,_,_,rfl,rfl,.of (s3 _ _ ph),BD,D,ah,n,rs,g,o.take k,p,rfl,Vk,gn,LA,by rw [nS];lia,pn,by lia,fun H4 mt ks s4 vH Vl Vc nK=>?_⟩
  have nH:=nB.trans s4;have LB:=s3.trans s4;dsimp only [aM];refine nI _ _ ?_;refine ⟨_,rfl,_,rfl,_,_,rfl,rfl,_,rfl,a,_,rfl,.of (nH _ _ ea),fun bh EL=>?_⟩;have cB:jH (o.map fun k:Nat=>V.int (k:Int)) (some ((k:Int)+1)) none=(o.drop (k+1)).map fun k:Nat=>V.int (k:Int):=by
   have:=QS (o.map fun k:Nat=>V.int (k:Int)) (k+1) (by rw [lm];lia)
   rw [show ((k+1:Nat):Int)=(k:Int)+1 from rfl] at this;rw [this,List.map_drop]
  rw [cB];have s5:ak H4 (upd H4 bh (.lst ((o.drop (k+1)).map fun k:Nat=>V.int (k:Int)))):=aO EL;have EM:upd H4 bh (.lst ((o.drop (k+1)).map fun k:Nat=>V.int (k:Int))) bh=some (.lst ((o.drop (k+1)).map fun k:Nat=>V.int (k:Int))):=au;generalize upd H4 bh (.lst ((o.drop (k+1)).map fun k:Nat=>V.int (k:Int)))=H5 at s5 EM ⊢;have BE:=LB.trans s5;have jw:=nH.trans s5;have vJ:=BE _ _ ef;have LC:jm H5 D n rs g:=⟨BE _ _ yt.lst,KL.inj,KL.ne,fun i hi=>BE _ _ (yt.at' i hi)⟩;have Vm:bh≠fd:=fun z=>by rw [z,LB _ _ ef] at EL;cases EL
  have Vn:mt≠fd:=fun z=>by rw [z,s3 _ _ ef] at vH;cases vH
  refine ⟨bh,rfl,⟨_,.of EM⟩,?_⟩;refine k_ (K:=K) (a:=bh) (xs:=(o.drop (k+1)).map fun k:Nat=>V.int (k:Int)) (fun j σ Hd=>∃(us:List V) (M:aw) (v7:Option V),σ=[some (.ref tp),some (.ref a),some (.ref D),some (.ref fd),some (.int (k:Int)),some (.ref ah),some (.ref mt),v7]∧(∀b u,b≠fd→H5 b=some u→Hd b=some u)∧Hd fd=some (.lst us)∧aX Hd us M∧fV n L o k j M∧M.length≤k*30+j) ⟨us,M,_,rfl,fun _ _ _ e=>e,vJ,hU.mono BE,fl,lM⟩ (fun j σ Hd _ ⟨_,_,_,_,e,_⟩=>.of (e _ _ Vm EM)) ?_ ?_
  ·rintro j x σ Hd hx ⟨us,M,v7,rfl,od,eO,yu,fld,LD⟩
   have hj:k+1+j<n:=by have:=(bW.mp hx).1;rw [aH,vQ,lo] at this;lia
   obtain ⟨qn,iq⟩:=Lw (k+1+j) hj;have ex:x=.int ((o.getD (k+1+j) 0:Nat):Int):=by
    rw [bo,List.getElem?_drop,bS (by lia)] at hx
    rw [cG,bS (by lia)]
    exact (Option.some.inj hx).symm
   subst ex;generalize o.getD (k+1+j) 0=q at qn iq ⊢;have ne:q≠p:=fun e=>by subst e;lia
   have mw:=Rv ho nb en (k:=k) (by lia) ne
   have Vo:=od _ _ Vn (s5 _ _ Vl);have yw:Hd a=_:=od _ _ (fun z=>by rw [z,Lz] at ea;cases ea) (jw _ _ ea)
   have lU:=yu.1;dsimp only [aM];refine ⟨_,rfl,_,rfl,mt,_,rfl,.inl ⟨dk ks,Sum.inl (q:Int),.inl Vo,rfl,rfl⟩,_,rfl,?_⟩;rw [De];by_cases qk:q∈ks
   ·rw [ae qk]
    have wq:=mw.mp ((nK q).mp qk);refine tm ?_;refine ⟨_,rfl,.inl ⟨rfl,_,.of eO⟩,_,rfl,_,rfl,a,_,_,_,rfl,rfl,.of yw,BD,_,rfl,_,_,rfl,_,rfl,_,rfl,a,_,_,_,rfl,rfl,.of yw,BD,_,rfl,_,_,rfl,by show 2≤sizeLine;decide,fun tq pj=>?_⟩
    have st:ak Hd (upd Hd tq (.tup [.int (da p q).1,.int (da p q).2])):=aO pj;have EN:upd Hd tq (.tup [.int (da p q).1,.int (da p q).2]) tq=some (.tup [.int (da p q).1,.int (da p q).2]):=au;change ∃l xs u,_;refine ⟨fd,us,_,rfl,rfl,st _ _ eO,cU (by lia),us++[.ref tq],M++[da p q],_,rfl,fun b u nb e=>by rw [aG nb];exact st _ _ (od b u nb e),au,?_,fld.put ho pn qn ip iq wq,by rw [du];simp;lia⟩
    exact ((yu.mono st).push EN).bK (st _ _ eO) fun b o nb e=>by rw [aG nb];exact e
   ·rw [aa qk]
    have wq:¬Wk (aL n L) (eL n o k) p q:=fun h=>qk ((nK q).mpr (mw.mpr h));exact eU ⟨us,M,_,rfl,od,eO,yu,fld.skip ho pn qn ip iq wq,by lia⟩
  ·rintro σ Hd ⟨us,M,v7,rfl,od,eO,yu,fld,LD⟩
   rw [aH,vQ,lo] at fld LD;exact ⟨us,M,_,_,_,_,rfl,fun b u e=>od b u (fun z=>by rw [z,Lz] at e;cases e) (jw _ _ e),⟨od _ _ Df LC.lst,KL.inj,KL.ne,fun i hi=>od _ _ (rf i hi) (LC.at' i hi)⟩,eO,yu,fld.row ho (by lia),by rw [Nat.add_mul];lia⟩
 ·rintro σ Hc ⟨us,M,v4,v5,v6,v7,rfl,sc,yt,ef,hU,fl,lM⟩
  obtain ⟨lt',Lp,Vp,Zn,Zo⟩:=id (fD.mono sc);have Zp:M.length≤900:=b9 lM (by lia)
  dsimp only;refine ⟨_,rfl,tp,_,_,_,rfl,rfl,.of Vp,rfl,_,rfl,?_⟩;dsimp only [wL];refine Dt ef hU (by lia) (fl.bd (by lia)) fun l' ws N H3 s3 m7 jR hN pN oN=>?_
  refine ⟨l',ws,rfl,.inl ⟨.of jR,fun lt x_=>?_⟩⟩;have ju:ak H3 (upd H3 lt (.tup ws)):=aO x_;have ya:upd H3 lt (.tup ws) lt=some (.tup ws):=au;generalize upd H3 lt (.tup ws)=Hd at ju ya ⊢;refine ⟨by show 2≤sizeLine;decide,fun tq pj=>?_⟩
  have st:ak Hd (upd Hd tq (.tup [.int (n:Int),.ref lt])):=aO pj;exact kk _ tq N ((sc.trans s3).trans (ju.trans st)) ⟨lt,ws,au,st _ _ ya,(hN.mono ju).mono st⟩ (fl.done ho pN oN (by lia))
theorem Vq:cf ["_law_beside_here","_law_left","_law_found","_law_place","_law_some","_law_bad"] ["_law_beside_here","_law_left"] (bt A4):=dq
theorem Vr(T:Txt K mg t):bY P w K mg base cw 1 t.rE t.uN ["_law_beside_here","_law_left"] R8:=by
 have S:=Vq;refine T.ve.dN S (fun _ _ _ _ H _ _ _ hr h=>?_);obtain ⟨D,lf,n,rs,g,zs,rfl,KL,gn,gl,EO,zn,z1,kk⟩:=h;have fh:=hr.units
 refine ⟨_,(aB (putL 2 S.nd (dm ao))
  (aB (dM di rfl (fO (pv 1)) (cM (i:=3) S.nd rfl (Or.inl rfl))
   (aB (zH 4 S.nd (mM (N:=["_law_other","_law_left"]) (ρ:=(fun σ=>[σ[1]?.join])) (jg [1] rfl) rfl (fO (aU cg (pv 0) (pv 3))) (fun _ _ _=>(.one (sZ (Dj (K:=K)) (pv 0) (pv 1) rfl))) (fun _ _ _=>(pv 0))))
  (aB (OE (i0:=5) (N:=["_law_one","_law_some","_law_beside_here"]) (ρ:=(fun σ=>[σ[4]?.join,σ[0]?.join])) ⟨rfl,rfl,(fun _=>rfl),(fun _=>rfl),by decide +kernel,(List.forall_mem_cons.mpr ⟨rfl,(List.forall_mem_cons.mpr ⟨rfl,(List.forall_mem_nil _)⟩)⟩),Oz (by rfl),rfl,by decide +kernel,rfl,(fun σ j v h=>match j,h with | 0,h=>⟨4,_,rfl,rfl,join_some h,Or.inr (Or.inl rfl),.inl rfl,.inl rfl⟩ | 1,h=>⟨0,_,rfl,rfl,join_some h,Or.inr (Or.inl rfl),.inl rfl,.inl rfl⟩ | j+2,h=>by cases h),(fun _ _=>rfl)⟩ rfl S.nd rfl (Or.inl rfl) (fO (pv 4)) (fun _ _ _=>(.one (ck (Rz (K:=K) fh) (mM (N:=["_law_other","_law_one","_law_beside_here"]) (ρ:=(fun σ=>[σ[0]?.join,σ[2]?.join])) (jg [0,2] rfl) rfl (OI (K:=K) (pv 1)) (fun _ _ _=>(.one (PW.pt (pw_and (ck sY (pv 0) (pv 1)) (pw_and1 (sZ (QV (K:=K)) (pv 0) (aU (Cz (K:=K)) (pv 2) (pv 1)) rfl)))))) (fun _ _ _=>(pv 0))) (dm ao)))) (fun _ _ _=>(pv 0)))
  (aE (cL (ck (Dh fh) (pv 5) (dm ao)) (aE (eZ (fq eX iu iy gf (pv 2) (aj (pv 3) ao)))) dw)))))
  (aE (bX (pv 2))))),?_⟩
 refine bg ⟨bU _,fun fd dD=>?_⟩;have s1:ak H (upd H fd (.lst [])):=aO dD;have LF:upd H fd (.lst []) fd=some (.lst []):=au;dsimp only [aM];generalize upd H fd (.lst [])=H1 at s1 LF ⊢;refine bg ⟨_,rfl,lf,rfl,⟨_,.of (s1 _ _ EO)⟩,?_⟩;refine k_ (K:=K) (a:=lf) (xs:=zs.map fun k:Nat=>V.int (k:Int)) (fun k σ Hc=>∃(v3 v4 v5:Option V),σ=[some (.ref D),some (.ref lf),some (.ref fd),v3,v4,v5]∧ak H Hc∧Hc fd=some (.lst (((zs.take k).filter (jV g zs)).map fun k:Nat=>V.int (k:Int)))) ⟨_,_,_,rfl,s1,LF⟩ (fun k σ Hc _ ⟨_,_,_,_,sc,_⟩=>.of (sc _ _ EO)) ?_ ?_
 ·rintro k x σ Hc yy ⟨v3,v4,v5,rfl,sc,ef⟩
  rw [bo] at yy;have hk:k<zs.length:=by
   rcases Nat.lt_or_ge k zs.length with h | h;·exact h
   ·rw [vV h] at yy
    cases yy
  rw [bS hk] at yy;cases yy;have pz:zs[k]∈zs:=cy hk;have tk:zs.take (k+1)=zs.take k++[zs[k]]:=by rw [j8,bS hk];rfl
  generalize zs[k]=p at pz tk ⊢;have pn:=zn p pz;have LG:=sc _ _ (KL.at' p pn);dsimp only [aM];refine bg (mP (Iy (xs:=(g p).map fun k:Nat=>V.int (k:Int)) (fun v=>lB v (zs.map fun k:Nat=>V.int (k:Int))) (fun R h=>⟨_,rfl,_,rfl,D,_,_,_,rfl,rfl,.of (sc _ _ KL.lst),jl pn,rs p,rfl,⟨_,.of LG⟩,h _ _ (ak.refl _) (qt (.of LG))⟩) (cU (by rw [aH];have:=gl p pn;lia)) ?_ (fun x Hx R h=>⟨_,rfl,h⟩) fun l H2 nl s2 el=>?_))
  ·intro x ER Hd R sd kR
   obtain ⟨j,hj,rfl⟩:=cj.mp ER;exact ⟨_,rfl,_,rfl,lf,_,rfl,.inl (.of (sd _ _ (sc _ _ EO))),rfl,Dk _,_,rfl,kR⟩
  rw [DE,show ((g p).filter fun k:Nat=>lB (.int (k:Int)) (zs.map fun k:Nat=>V.int (k:Int)))=m_ g zs p from List.filter_congr fun k _=>Ak ..] at el;have sn:∀a∈m_ g zs p,a<n:=fun a ha=>gn p pn a (fY.mp ha).1;have ls:(m_ g zs p).length≤900:=b9 (vY ..) (gl p pn);dsimp only [aM];refine bg (mP (R5 (xs:=(m_ g zs p).map fun k:Nat=>V.int (k:Int)) (fun v=>!(tY g zs p (tU v)).isEmpty) (fun R h=>⟨_,rfl,l,rfl,⟨_,.of el⟩,h _ _ (ak.refl _) (qt (.of el))⟩) (cU (by rw [aH];lia)) ?_ (fun x Hx R h=>⟨_,rfl,h⟩) fun l' H3 m7 s3 jR=>?_))
  ·intro x ER Hd R sd kR
   obtain ⟨j,hj,rfl⟩:=cj.mp ER;have jn:=sn j hj;have Vs:=(sc.trans s2).trans sd;dsimp only [B6,mG];refine Iy (xs:=(m_ g zs p).map fun k:Nat=>V.int (k:Int)) (fun v=>!decide (tU v=j) && !decide (tU v∈g j)) (fun R h=>⟨_,rfl,l,rfl,⟨_,.of (sd _ _ el)⟩,h _ _ (ak.refl _) (qt (.of (sd _ _ el)))⟩) (cU (by rw [aH];lia)) ?_ (fun x Hx R h=>⟨_,rfl,h⟩) fun l3 H7 jv s7 iW=>?_
   ·intro y Vt He R se kR
    obtain ⟨j',dH,rfl⟩:=cj.mp Vt;have LH:=Vs.trans se;refine ⟨_,rfl,_,rfl,rfl,_,rfl,cI (fun hc=>?_) (fun hc=>?_)⟩
    ·refine ⟨_,rfl,_,rfl,_,rfl,D,_,_,_,rfl,rfl,.of (LH _ _ KL.lst),jl jn,rs j,_,rfl,.inl (.of (LH _ _ (KL.at' j jn))),rfl,Dk _,_,rfl,?_⟩
     rw [Ak];have eS:¬j'=j:=fun e=>by subst e;exact absurd hc (by simp [zI])
     have:=kR;simp only [IH,bH eS,Bool.not_false,Bool.true_and] at this;exact this
    ·have eS:j'=j:=by
      by_cases e:(j':Int)=(j:Int);·lia
      ·exact absurd (by simp [zI,e]) hc
     have:=kR;simp only [IH,bA eS,Bool.not_true,Bool.false_and] at this;exact this
   ·refine ⟨bU _,fun p' np=>⟨l3,p',_,rfl,rfl,.of (aO np _ _ iW),au,_,rfl,?_⟩⟩
    have:=kR _ (s7.trans (aO (o:=.lst []) np));rw [DE,List.isEmpty_map];exact this
  have nB:=sc.trans (s2.trans s3);have Vu:=(s2.trans s3) _ _ ef;rw [DE] at jR;dsimp only [aM];refine ⟨_,rfl,bU _,fun e ne=>?_⟩;have se:ak H3 (upd H3 e (.lst [])):=aO ne;have ee:upd H3 e (.lst []) e=some (.lst ([]:List V)):=au;generalize upd H3 e (.lst [])=H4 at se ee ⊢;have l7:=se _ _ Vu;have nM:=se _ _ jR;have tL:jV g zs p=((m_ g zs p).filter fun k:Nat=>!(tY g zs p (tU (.int (k:Int)))).isEmpty).isEmpty:=rfl;generalize ((m_ g zs p).filter fun k:Nat=>!(tY g zs p (tU (.int (k:Int)))).isEmpty)=bs at nM tL;refine ⟨l',e,bs.map iN,[],rfl,rfl,.of (by rw [dE];exact nM),.of ee,_,rfl,cI (fun hb=>?_) (fun hb=>?_)⟩
  ·have b0:bs=[]:=by
    have:=eR hb;cases bs with
    | nil=>rfl
    | cons=>cases this
   subst b0;refine ⟨_,rfl,.inl ⟨rfl,_,.of l7⟩,_,rfl,fd,_,_,rfl,rfl,l7,cU (by rw [aH];have:=vY (jV g zs) (zs.take k);rw [nS] at this;lia),_,_,_,rfl,eG (nB.trans se) dD,?_⟩
   rw [au,tk,kS,kT,ae (show jV g zs p=true from tL),fi];rfl
  ·refine ⟨_,_,_,rfl,nB.trans se,?_⟩
   have b0:jV g zs p=false:=by
    rw [tL];cases bs with
    | nil=>exact absurd (bA rfl) hb
    | cons=>rfl
   rw [l7,tk,kS,kT,b0];simp
 ·rintro σ Hc ⟨v3,v4,v5,rfl,sc,ef⟩
  rw [aH,gu] at ef;exact ⟨_,rfl,kk _ _ sc dD ef⟩
theorem Vv:cf ["_law_pen","_law_shape","_law_beside_here","_law_left","_law_found","_law_some"] ["_law_pen","_law_shape"] (bt A5):=dq
theorem Vw(T:Txt K mg t):bY P w K mg base cw 3 t.rF t.uO ["_law_pen","_law_shape"] (Sa K):=by
 have S:=Vv;refine T.vf.dN S (fun _ A _ _ H _ _ _ hr h=>?_);obtain ⟨P0,a,tp,ns,n,L,rfl,pc,hS,vK,fD,pw,lt,n1,pG,l4,kN,kk⟩:=h;have fh:=hr.units;have en:iR n L:=fun p hp=>by have:=lt p hp;exact ⟨this.1,by lia,by lia,this.2.2⟩
 have t8:qH L:=fun p hp=>by have:=lt p hp;lia
 refine ⟨_,(aB (putL 2 S.nd (bC (Lu T) hr T.D3 T.rN.kp T.DZ bJ (aj (pv 1) ao)))
  (aB (putL 3 S.nd (fP (tG rfl) rfl T.jq boot_list (aj (fP tF rfl T.fB tH (aj (aU eF (pv 1) aD) ao)) ao)))
  (aB (putL 4 S.nd (dm ao))
  (aB (sV di (ck (Ac fh) (pv 3) (dm ao)) (aB (putL 5 S.nd (bC (Vr T) hr T.J3 T.ve.kp T.J2 bJ (aj (pv 2) (aj (pv 3) ao))))
  (aB (cL (ck (Dh fh) (pv 5) (dm ao)) (aE (bX oj)) dw)
  (aB (eZ (fq eX iu iy gf (pv 4) (aj (aU cg (pv 5) (bC (jA T) hr T.fA T.eB.kp T.fw bJ (aj (pv 0) (aj (cu jd rfl T.hW ig (aj (pv 5) ao)) ao)))) ao)))
  (aE (eZ (fq eX PySem.F.slot_list_remove PySem.F.type_list_remove Ip (pv 3) (aj (aU cg (pv 4) (FN FP aD)) ao))))))))
  (aE (bX (pv 4))))))),?_⟩
 refine eA fun _ nG=>⟨_,rfl,tp,n,L,rfl,fD,en,by lia,by lia,fun H1 D rs g s1 nD Bg KL nb Lx _=>?_⟩
 have gn:∀i,i<n→∀j∈g i,j<n:=fun i hi j hj=>by
  rcases (nb i j hi).mp hj with e | e
  ·have:=en _ e
   lia
  ·have:=en _ e
   lia
 have gl:∀i,i<n→(g i).length≤900:=fun i _=>b9 (Lx i) (by lia)
 have p1:=pc.mono s1;have DP:D≠P0:=pc.ne nD;have rP:∀i,i<n→rs i≠P0:=fun i hi=>pc.ne (Bg i hi);have vB:a7 K (er P0 H1) a (ns.map V.int):=ak.seq (aF.of s1) hS;obtain ⟨lt',us,dR,elt,mL⟩:=id (fD.mono s1);dsimp only [aM];refine nG _ _ ?_;refine eA fun _ kJ=>⟨_,rfl,tp,_,_,_,rfl,rfl,.of dR,rfl,(n:Int),rfl,fun q1 pA=>⟨q1,n,rfl,au,by lia,fun l1 rR=>?_⟩⟩
 have s2:ak H1 (upd (upd H1 q1 (.d7 0 (n:Int))) l1 (.lst (cC n))):=(aO pA).trans (aO rR);have e1:upd (upd H1 q1 (.d7 0 (n:Int))) l1 (.lst (cC n)) l1=some (.lst ((List.range n).map fun k:Nat=>V.int (k:Int))):=by rw [au];rfl
 have vv:H1 l1=none:=none_of (aO pA) rR;dsimp only [aM];refine kJ _ _ ?_;generalize upd (upd H1 q1 (.d7 0 (n:Int))) l1 (.lst (cC n))=H2 at s2 e1 ⊢;refine eA fun _ l8=>⟨bU _,fun l2 rS=>?_⟩;have s3:ak H2 (upd H2 l2 (.lst [])):=aO rS;have e2:upd H2 l2 (.lst []) l2=some (.lst (([]:List Nat).map fun k:Nat=>V.int (k:Int))):=au;have pB:H1 l2=none:=none_of s2 rS;have Vx:H l2=none:=none_of s1 pB;have LI:l1≠P0:=p1.ne vv;have ES:l2≠P0:=p1.ne pB;have LJ:l1≠l2:=fun z=>by rw [z,rS] at e1;cases e1
 dsimp only [aM];refine l8 _ _ ?_;generalize upd H2 l2 (.lst [])=H3 at s3 e2 ⊢;have jr:=s2.trans s3;refine bg ⟨fun m σ Hc=>∃(zs fs:List Nat) (v5:Option V),σ=[some (.ref P0),some (.ref tp),some (.ref D),some (.ref l1),some (.ref l2),v5]∧m=zs.length∧Hc l1=some (.lst (zs.map fun k:Nat=>V.int (k:Int)))∧Hc l2=some (.lst (fs.map fun k:Nat=>V.int (k:Int)))∧tZ n g zs fs∧aF P0 H1 Hc∧a_ Hc P0 a,⟨_,List.range n,[],_,rfl,rfl,s3 _ _ e1,e2,⟨by rw [j4],fun A x B e=>by cases A <;> cases e⟩,aF.of jr,p1.mono jr⟩,?_⟩
 rintro m σ Hc ⟨zs,fs,v5,rfl,rfl,ez,ef,pk,sc,p3⟩;have pm:=pk.pm;have ll:=pm.length_eq;rw [du,fH] at ll;have zn:∀z∈zs,z<n:=fun z hz=>cR.mp (pm.mem_iff.mp (kK _ hz));have Zq:(zs.map fun k:Nat=>V.int (k:Int)).length=zs.length:=aH ..;refine ⟨_,rfl,bU _,fun le vD=>?_⟩;have s4:ak Hc (upd Hc le (.lst [])):=aO vD;have e4:upd Hc le (.lst []) le=some (.lst []):=au;generalize upd Hc le (.lst [])=H4 at s4 e4 ⊢;have nH:=sc.trans (aF.of s4);have p4:=p3.mono s4;have vE:=s4 _ _ ez;have l7:=s4 _ _ ef;refine ⟨l1,le,_,rfl,rfl,.of vE,e4,_,rfl,cI (fun hz=>?_) (fun hz=>?_)⟩
 ·have z0:1≤zs.length:=by
   cases zs with
   | nil=>cases hz
   | cons=>simp
  have Vy:jm H4 D n rs g:=⟨nH.at DP KL.lst,KL.inj,KL.ne,fun i hi=>nH.at (rP i hi) (KL.at' i hi)⟩;refine ⟨_,fun _ _ h=>h,?_⟩;refine bg ⟨_,rfl,_,rfl,D,l1,n,rs,g,zs,rfl,Vy,gn,gl,vE,zn,by lia,fun H5 q s5 nq eq=>?_⟩
  have qP:q≠P0:=p4.ne nq;have jw:=nH.trans (aF.of s5);have p5:=p4.mono s5;have rT:=s5 _ _ vE;have vJ:=s5 _ _ l7;dsimp only [aM];refine eA fun _ nI=>⟨_,rfl,bU _,fun e ne=>?_⟩;have se:ak H5 (upd H5 e (.lst [])):=aO ne;have ee:upd H5 e (.lst []) e=some (.lst ([]:List V)):=au;generalize upd H5 e (.lst [])=Zr at se ee ⊢;generalize ET:zs.filter (jV g zs)=ws at eq;have wz:∀w∈ws,w∈zs∧jV g zs w=true:=fun w hw=>by rw [←ET] at hw;exact fY.mp hw
  have lw:ws.length≤zs.length:=by rw [←ET];exact vY ..
  refine ⟨q,e,ws.map iN,[],rfl,rfl,.of (by rw [dE];exact se _ _ eq),.of ee,_,rfl,cI (fun hb=>?_) (fun hb=>?_)⟩
  ·have w0:ws=[]:=by
    have:=eR hb;cases ws with
    | nil=>rfl
    | cons=>cases this
   subst w0;exact kN _ ((aF.of s1).trans (jw.trans (aF.of se))) (p5.mono se) fun o ho f=>R_ ho (ID ho f) t8 nb (fun e=>by rw [e] at z0;cases z0) zn ET
  have w1:1≤ws.length:=by
   cases ws with
   | nil=>exact absurd (bA rfl) hb
   | cons=>simp
  have jw:=jw.trans (aF.of se);have p5:=p5.mono se;have rT:=se _ _ rT;have vJ:=se _ _ vJ;have eq:=se _ _ eq;clear vE l7;dsimp only [iC];refine nI _ _ ?_;have Zs:(ws.map fun k:Nat=>V.int (k:Int)).length=ws.length:=aH ..;refine bg ⟨_,rfl,.inl ⟨rfl,_,.of vJ⟩,_,rfl,_,rfl,_,rfl,q,_,rfl,.inl (.of eq),P0,a,ns,_,rfl,p5,ak.seq jw vB,by lia,dY.of_lt (by lia) (by lia),fun c H6 c0 c1 s6 p6=>?_⟩
  obtain ⟨i,rfl⟩:=fk c0;have iw:i<ws.length:=by lia
  have ej:(ws.map fun k:Nat=>V.int (k:Int))[i]?=some (.int (ws[i]:Nat)):=by rw [bo,bS iw];rfl
  obtain ⟨jz,jf⟩:=wz ws[i] (cy iw);generalize ws[i]=j at ej jz jf;have Bi:=s6.at LI rT;have Vz:=s6.at ES vJ;refine ⟨q,_,_,.int (j:Int),rfl,rfl,.of (s6.at qP eq),lA ej,?_⟩;refine ⟨l2,_,_,rfl,rfl,Vz,cU (by rw [aH];lia),?_⟩
  have rV:(fs.map fun k:Nat=>V.int (k:Int))++[V.int (j:Int)]=(fs++[j]).map fun k:Nat=>V.int (k:Int):=by rw [fi];rfl
  rw [rV];have rW:aF P0 H1 (upd H6 l2 (.lst ((fs++[j]).map fun k:Nat=>V.int (k:Int)))):=(jw.trans s6).but pB;have p7:a_ (upd H6 l2 (.lst ((fs++[j]).map fun k:Nat=>V.int (k:Int)))) P0 a:=p6.upd ES;have EU:upd H6 l2 (.lst ((fs++[j]).map fun k:Nat=>V.int (k:Int))) l2=some (.lst ((fs++[j]).map fun k:Nat=>V.int (k:Int))):=au;have yb:upd H6 l2 (.lst ((fs++[j]).map fun k:Nat=>V.int (k:Int))) l1=_:=(aG LJ).trans Bi;generalize upd H6 l2 (.lst ((fs++[j]).map fun k:Nat=>V.int (k:Int)))=H7 at rW p7 EU yb ⊢;have last:fQ ((fs++[j]).map fun k:Nat=>V.int (k:Int)) (-1)=some (.int (j:Int)):=Rg (by simp) (by simp)
  have ix:zs.idxOf j<zs.length:=j9 jz;refine ⟨_,rfl,.inl ⟨rfl,_,.of yb⟩,_,rfl,1,rfl,l2,_,_,.int (j:Int),rfl,rfl,.of EU,last,l1,zs.map fun k:Nat=>(k:Int),zs.idxOf j,(j:Int),rfl,rfl,by rw [yb,dE];rfl,?_,fun m' d_ e=>?_,?_⟩
  ·rw [bo,bS ix,v_]
   rfl
  ·have ng:m'<zs.length:=by lia
   rw [bo,bS ng] at e;have e':((zs[m']:Nat):Int)=(j:Int):=Option.some.inj e;have:=Dv d_;rw [bS ng] at this;exact this (eE some (by lia))
  ·have Ei:((zs.map fun k:Nat=>(k:Int)).map V.int).eraseIdx (zs.idxOf j)=(zs.erase j).map fun k:Nat=>V.int (k:Int):=by rw [dE,Dw,List.erase_eq_eraseIdx_of_idxOf rfl];rfl
   rw [Ei];refine ⟨(zs.erase j).length,?_,zs.erase j,fs++[j],_,rfl,rfl,au,(aG (Ne.symm LJ)).trans EU,pk.step jz jf,rW.but vv,p7.upd LI⟩;rw [yX jz];lia
 ·have z0:zs=[]:=by
   cases zs with
   | nil=>rfl
   | cons=>exact absurd rfl hz
  subst z0;rw [vT] at pm;exact ⟨_,rfl,kk _ _ _ ((aF.of s1).trans nH) p4 ES Vx l7 pm (DD pm pw lt (pk.R9 nb))⟩
theorem VA:cf ["_law_shape","_law_places","_law_due","_law_k","_law_one","_law_other"] ["_law_shape","_law_places"] (bt A6):=dq
theorem VB(T:Txt K mg t):bY P w K mg base cw 1 t.rG t.uP ["_law_shape","_law_places"] S8:=by
 have S:=VA;refine T.vg.dN S (fun _ _ _ _ H _ Q _ hr h=>?_);obtain ⟨tp,a,n,L,zs,rfl,fD,en,pw,n1,l2,ea,Zt,bz,k⟩:=h;have fh:=hr.units;have lz:(zs.map V.int).length=zs.length:=aH ..
 refine ⟨_,(aB (cL (PW.pt (pw_or (qe (mC (cu (tE (K:=K)) rfl T.rO boot_isinstance (aj (pv 1) (aj (sS (v:=.ty "list") rfl T.jq boot_list rfl) ao))))) (pw_or (ck zr (cu jd rfl T.hW ig (aj (pv 1) ao)) aD) (pw_or1 (ck zr (cu Q2 rfl T.hW ig (aj (fP (Q1 (K:=K) rfl) rfl T.Kl boot_set (aj (pv 1) ao)) ao)) (cu jd rfl T.hW ig (aj (pv 1) ao))))))) (aE (bX gy)) dw)
  (aB (putL 2 S.nd (dm ao))
  (aB (dM di rfl (k6 rfl T.fB (aj (cu jd rfl T.hW ig (aj (pv 1) ao)) ao)) (cM (i:=3) S.nd rfl (Or.inl rfl))
   (aB (putL 4 S.nd (aU cg (pv 1) (pv 3)))
  (aB (putL 5 S.nd (aU cg (pv 1) (bQ oz (bQ iD (pv 3) aD) (cu jd rfl T.hW ig (aj (pv 1) ao)))))
  (aE (eZ (fq eX iu iy gf (pv 2) (aj (gP (aj (cu (zu rfl) rfl T.x6 boot_min (aj (pv 4) (aj (pv 5) ao))) (aj (cu (zt rfl) rfl T.vj boot_max (aj (pv 4) (aj (pv 5) ao))) ao))) ao)))))))
  (aE (bX (mJ (Q4 fh) (cu Ab rfl T.pb pU (aj (pv 2) ao)) (mM (N:=["_law_link","_law_places"]) (ρ:=(fun σ=>[σ[1]?.join])) (jg [1] rfl) rfl (B1 (aU eF (pv 0) aD)) (fun _ _ _=>(.one (PW.pt (pw_and (sZ (Dj (K:=K)) (aU (GN (K:=K)) (pv 0) aD) (pv 1) rfl) (pw_and1 (sZ (Dj (K:=K)) (aU (GN (K:=K)) (pv 0) aD) (pv 1) rfl)))))) (fun _ _ _=>(pv 0))))))))),?_⟩
 have no:∀H',ak H H'→¬lN L zs→Q (.bl false) H':=fun H' s' h=>by have:=k H' s';rw [bH h] at this;exact this
 refine bg ?_;refine ⟨_,rfl,_,_,_,true,rfl,rfl,.of (.lst ea),GD,true,rfl,eU ?_⟩;refine ⟨_,rfl,a,_,rfl,.inl (.of ea),_,_,rfl,rfl,_,rfl,cI (fun h4=>?_) (fun h4=>?_)⟩
 ·have VC:((zs.map V.int).length:Int)<4:=eR h4
  exact no _ (ak.refl _) fun h=>by have:=h.1;lia
 ·have VC:¬((zs.map V.int).length:Int)<4:=fun e=>h4 (bA e)
  refine ⟨_,rfl,a,zs,rfl,.of ea,by lia,fun l S m nl vD LK=>?_⟩
  have s1:ak H (upd H l (.set S m)):=aO nl;refine ⟨l,S,m,rfl,au,by lia,?_⟩
  generalize upd H l (.set S m)=H1 at s1 ⊢;refine ⟨_,rfl,a,_,rfl,.inl (.of (s1 _ _ ea)),_,_,rfl,rfl,_,rfl,cI (fun hn=>?_) (fun hn=>?_)⟩
  ·have BV:(m:Int)<((zs.map V.int).length:Int):=eR hn
   exact no _ s1 fun h=>by have:=LK.mpr h.2.1;lia
  ·have BV:¬(m:Int)<((zs.map V.int).length:Int):=fun e=>hn (bA e)
   have nd:zs.Nodup:=LK.mp (by lia)
   dsimp only [iC];refine bg ⟨by show 0≤sizeLine;decide,fun fd dD=>?_⟩
   dsimp only [aM];have s2:ak H (upd H1 fd (.lst [])):=xE s1 dD;have yk:upd H1 fd (.lst []) fd=some (.lst []):=au;have nf:H fd=none:=none_of s1 dD;generalize upd H1 fd (.lst [])=H2 at s2 yk ⊢;refine bg ⟨_,rfl,a,_,rfl,.inl (.of (s2 _ _ ea)),_,rfl,by lia,by lia,?_⟩
   refine mF (fun i σ Hc=>∃(us:List V) (v3 v4 v5:Option V),σ=[some (.ref tp),some (.ref a),some (.ref fd),v3,v4,v5]∧ak H Hc∧Hc fd=some (.lst us)∧aX Hc us ((gr zs).take i)) ⟨[],_,_,_,rfl,s2,yk,aX.nil _⟩ ?_ ?_
   ·rintro i σ Hc hi ⟨us,v3,v4,v5,rfl,sc,ef,hU⟩
    have bw:i<zs.length:=by lia
    have hm:(i+1) % zs.length<zs.length:=Nat.mod_lt _ (by lia)
    have ph:=sc _ _ ea;dsimp only [aM];refine bg ⟨_,rfl,_,rfl,a,_,_,_,rfl,rfl,.of ph,by rw [sO];exact Ik bw,?_⟩
    dsimp only [aM];have VD:fQ (zs.map V.int) ((0+(i:Int)+1) % ((zs.map V.int).length:Int))=some (.int (zs.getD ((i+1) % zs.length) 0)):=by
     rw [lz,sO,show ((i:Int)+1) % (zs.length:Int)=(((i+1) % zs.length:Nat):Int) by rw [Int.natCast_emod];rfl]
     exact Ik hm
    refine bg ⟨_,rfl,_,rfl,_,_,rfl,rfl,_,rfl,a,_,rfl,.inl (.of ph),_,_,rfl,rfl,by lia,a,_,_,_,rfl,rfl,.of ph,VD,?_⟩
    dsimp only [aM];refine ⟨_,rfl,.inl ⟨rfl,_,.of ef⟩,_,rfl,_,rfl,_,_,rfl,_,rfl,_,rfl,_,_,rfl,by show 2≤sizeLine;decide,fun tq pj=>?_⟩
    have tk:=Rc bw;generalize zs.getD i 0=x at tk ⊢;generalize zs.getD ((i+1) % zs.length) 0=y at tk ⊢;have st:ak Hc (upd Hc tq (.tup [.int (m5 (x,y)).1,.int (m5 (x,y)).2])):=aO pj;have EN:upd Hc tq (.tup [.int (m5 (x,y)).1,.int (m5 (x,y)).2]) tq=some (.tup [.int (m5 (x,y)).1,.int (m5 (x,y)).2]):=au;change ∃l xs u,_;refine ⟨fd,us,_,rfl,rfl,st _ _ ef,cU (by have:=hU.1;rw [nS,An] at this;lia),us++[.ref tq],_,_,_,rfl,eG (sc.trans st) nf,au,?_⟩
    rw [tk];exact ((hU.mono st).push EN).bK (st _ _ ef) fun b o nb e=>by rw [aG nb];exact e
   ·rintro σ Hc ⟨us,v3,v4,v5,rfl,sc,ef,hU⟩
    have VE:aX Hc us (gr zs):=by
     have e:(gr zs).take (zs.map V.int).length=gr zs:=by rw [lz,←An zs,gu]
     exact e▸hU
    obtain ⟨lt,ul,dR,elt,hL⟩:=id (fD.mono sc);dsimp only;refine ⟨_,rfl,?_⟩;dsimp only [wL];refine Dt ef VE (by rw [An];lia) (Ij nd (by lia) bz) fun l' ws N H3 s4 m7 jR hN pN oN=>?_
    have s5:=sc.trans s4;refine Rf (Z:=L) (fun p=>decide (p.1∈zs) && decide (p.2∈zs)) ?_ (cU (by lia)) ?_ (fun T Hc R h=>⟨_,rfl,h⟩) ?_
    ·intro R h
     exact ⟨_,rfl,tp,_,_,_,rfl,rfl,.of (s4 _ _ dR),rfl,lt,rfl,⟨_,.of (s4 _ _ elt)⟩,h _ _ (ak.refl _) (Q5 (s4 _ _ elt) (hL.mono s4))⟩
    ·intro z hz T Hd R sd eT kR
     have yw:=(s5.trans sd) _ _ ea;refine ⟨_,rfl,T,_,_,_,rfl,rfl,.of eT,rfl,_,rfl,a,_,rfl,.inl (.of yw),rfl,Ii _,_,rfl,cI (fun h1=>?_) (fun h1=>?_)⟩
     ·refine ⟨_,rfl,T,_,_,_,rfl,rfl,.of eT,rfl,_,rfl,a,_,rfl,.inl (.of yw),rfl,Ii _,?_⟩
      have h2:decide (z.1∈zs)=true:=by rw [←Ds];exact h1
      rw [h2,Bool.true_and,←Ds] at kR;exact ⟨_,rfl,kR⟩
     ·have h2:decide (z.1∈zs)=false:=by rw [←Ds];exact yJ.mpr h1
      rw [h2,Bool.false_and] at kR;exact kR
    ·intro l4 VF H4 Zu s6 hA nM
     refine ⟨l',l4,ws,VF,N,_,rfl,rfl,.of (s6 _ _ jR),.of nM,hN.mono s6,hA,?_⟩;have e:decide (N=L.filter fun p=>decide (p.1∈zs) && decide (p.2∈zs))=decide (lN L zs):=by
      refine Eq.trans (Q9 (N:=Am L zs) pN oN (Rb pw) (Ij nd (by lia) bz) (Ra en n1)) ?_
      exact yO.mpr ⟨fun h=>⟨by lia,nd,h⟩,fun h=>h.2.2⟩
     rw [e];exact k _ (s5.trans s6)
theorem VG:cf ["_law_pen","_law_least","_law_most","_law_size","_law_way","_law_links","_law_j","_law_i","_law_turn"] ["_law_pen","_law_least","_law_most"] (bt A7):=dq
theorem VH(T:Txt K mg t):bY P w K mg base cw 4 t.rH t.uQ ["_law_pen","_law_least","_law_most"] (S9 K):=by
 have S:=VG;have vL:=jA (P:=P) (w:=w) (base:=base) T;refine T.vh.dN S (fun _ _ _ _ H _ _ _ hr h=>?_);obtain ⟨P0,a,ns,rfl,pc,hS,kk⟩:=h;have hu:=jE (n_ (show 1≤64 by decide) _) hr.units
 refine ⟨_,(aB (putL 3 S.nd (bQ iD (pv 1) (bC vL hr T.fA T.eB.kp T.fw bJ (aj (pv 0) (aj (bQ iD (bQ mH (pv 2) (pv 1)) aD) ao)))))
  (aB (putL 4 S.nd (bC vL hr T.fA T.eB.kp T.fw bJ (aj (pv 0) (aj aD ao))))
  (aB (putL 5 S.nd Ql)
  (aB (dM di rfl (FI rfl T.fB (aj aD (aj (pv 3) ao))) (cM (i:=6) S.nd rfl (Or.inl rfl))
   (aB (putL 7 S.nd (bQ mH (pv 6) aD))
  (aB (cL (ck iE (pv 4) aD) (aE (putL 7 S.nd (bC vL hr T.fA T.eB.kp T.fw bJ (aj (pv 0) (aj (pv 6) ao))))) dw)
  (aB (mX hu (pv 5) (gP (aj (pv 7) (aj (pv 6) ao))) gy rfl)
  (aE (cL (PW.pt (pw_and (ck iE (pv 4) aD) (pw_and1 (ck qo (pv 6) aD)))) (aE (mX hu (pv 5) (gP (aj (bQ mH (pv 6) aD) (aj (pv 6) ao))) gy rfl)) dw))))))
  (aB (cL (ck iE (pv 4) aD) (aE (mX hu (pv 5) (gP (aj aD (aj (bQ mH (pv 3) aD) ao))) gy rfl)) dw)
  (aB (dM di rfl (k6 rfl T.fB (aj (bC vL hr T.fA T.eB.kp T.fw bJ (aj (pv 0) (aj aD ao))) ao)) (cM (i:=8) S.nd rfl (Or.inl rfl))
   (aB (putL 6 S.nd (bQ iD aD (bC vL hr T.fA T.eB.kp T.fw bJ (aj (pv 0) (aj (bQ mH (pv 3) aD) ao)))))
  (aE (mX hu (pv 5) (gP (aj (bC vL hr T.fA T.eB.kp T.fw bJ (aj (pv 0) (aj (pv 6) ao))) (aj (pv 6) ao))) gy rfl))))
  (aE (bX (bC (Lg T) hr T.DY T.rM.kp T.DX bJ (aj (pv 3) (aj (fP (RR rfl) rfl T.jq boot_list (aj (pv 5) ao)) (aj (bC (Lc T) hr T.DW T.rK.kp T.DV bJ (aj (pv 0) (aj (fP (tG rfl) rfl T.jq boot_list (aj (fP tF rfl T.fB tH (aj (pv 3) ao)) ao)) ao))) ao)))))))))))),?_⟩
 refine ⟨_,rfl,_,rfl,_,rfl,_,rfl,_,_,rfl,rfl,_,_,rfl,rfl,P0,a,ns,11,rfl,pc,hS,by decide,dY.of_lt (by decide) (by decide),fun c H1 c0 c1 s1 p1=>⟨_,_,rfl,rfl,?_⟩⟩
 obtain ⟨c,rfl⟩:=fk c0;dsimp only [aM];rw [show 20+(c:Int)=((c+20:Nat):Int) by lia]
 have n1:20≤c+20:=by lia
 have nm:c+20≤30:=by lia
 generalize c+20=n at n1 nm ⊢;refine ⟨_,rfl,P0,a,ns,4,rfl,p1,ak.seq s1 hS,by decide,dY.of_lt (by decide) (by decide),fun way H2 _ _ s2 p2=>?_⟩
 have gJ:=s1.trans s2;dsimp only [aM];intro d nd;have jb:d≠P0:=p2.ne nd;have BF:H d=none:=by
  have:er P0 H d=none:=none_of gJ (by rw [dG jb];exact nd)
  rw [dG jb] at this;exact this
 have D0:gI P0 a d H (upd H2 d (.dT [])) n 0 []:=⟨gJ.trans (aF.of (aO nd)),p2.mono (aO nd),au,iZ,(fun z h=>by cases h),ay _⟩
 generalize upd H2 d (.dT [])=H3 at D0 ⊢;dsimp only [aM];refine ⟨_,rfl,_,_,rfl,⟨by decide,by decide,by lia,by lia⟩,?_⟩
 rw [show ((n:Int)-1).toNat=n-1 by lia]
 refine mF (fun k σ Hc=>∃(L:aw) (v6 v7 v8:Option V),σ=[some (.ref P0),some (.int 20),some (.int 30),some (.int (n:Int)),some (.int way),some (.ref d),v6,v7,v8]∧gI P0 a d H Hc n (2*k) L) ⟨_,_,_,_,rfl,D0⟩ ?_ ?_
 ·rintro k σ Hc hk ⟨L,v6,v7,v8,rfl,DI⟩
  dsimp only [aM];simp only [pW,pX];refine ⟨_,rfl,_,_,rfl,rfl,?_⟩;dsimp only [aM];simp only [pW,pX];refine bg (xu (fun σ Hy=>∃(i:Nat),i<k+1∧σ=[some (.ref P0),some (.int 20),some (.int 30),some (.int (n:Int)),some (.int way),some (.ref d),some (.int (1+(k:Int))),some (.int (i:Int)),v8]∧gI P0 a d H Hy n (2*k) L) ?_ ?_)
  ·rintro σ Hy ⟨i,hi,rfl,DI⟩
   dsimp only;refine ⟨_,rfl,_,rfl,_,rfl,by show 2≤sizeLine;decide,fun tp dJ=>⟨d,_,rfl,DI.dput (by lia) dJ,?_⟩⟩
   have D1:=DI.put jb BF dJ (i:=(i:Int)) (j:=1+(k:Int)) (by lia) (by lia) (by lia)
   generalize upd (upd Hy tp (.tup [.int (i:Int),.int (1+(k:Int))])) d (.dT (putK (iS L) (kz ((i:Int),1+(k:Int))) (.bl true)))=Hz at D1 ⊢;dsimp only;refine ⟨_,rfl,rfl,_,rfl,cI (fun _=>?_) (fun _=>eU ⟨_,_,_,_,rfl,D1.le (by lia)⟩)⟩
   refine ⟨_,rfl,_,_,rfl,rfl,_,rfl,cI (fun hc=>?_) (fun _=>⟨_,_,_,_,rfl,D1.le (by lia)⟩)⟩
   have hc:(1:Int)<1+(k:Int):=eR hc;refine ⟨_,rfl,_,rfl,_,_,rfl,rfl,_,rfl,by show 2≤sizeLine;decide,fun Zv LL=>⟨d,_,rfl,D1.dput (by lia) LL,?_⟩⟩
   exact ⟨_,_,_,_,rfl,(D1.put jb BF LL (i:=1+(k:Int)-2) (j:=1+(k:Int)) (by lia) (by lia) (by lia)).le (by lia)⟩
  ·intro R hR
   refine ⟨_,rfl,rfl,_,rfl,cI (fun _=>?_) (fun _=>?_)⟩
   ·refine ⟨_,rfl,_,rfl,P0,a,ns,1+(k:Int),rfl,DI.p,ak.seq DI.s hS,by lia,dY.of_lt (by lia) (by lia),fun e Hy e0 e1 sy py=>?_⟩
    obtain ⟨e,rfl⟩:=fk e0;exact hR _ _ ⟨e,by lia,rfl,DI.step jb sy py⟩
   ·refine hR _ _ ⟨k,by lia,?_,DI⟩
    rw [show 1+(k:Int)-1=(k:Int) by lia]
 ·rintro σ Hc ⟨L,v6,v7,v8,rfl,DI⟩
  dsimp only;refine bg (xu (fun σ Hy=>∃(L:aw),σ=[some (.ref P0),some (.int 20),some (.int 30),some (.int (n:Int)),some (.int way),some (.ref d),v6,v7,v8]∧gI P0 a d H Hy n (2*n) L) ?_ ?_)
  ·rintro σ Hy ⟨L,rfl,DI⟩
   dsimp only;refine ⟨_,rfl,P0,a,ns,3,rfl,DI.p,ak.seq DI.s hS,by decide,dY.of_lt (by decide) (by decide),fun many H4 m0 m1 s4 p4=>?_⟩
   obtain ⟨many,rfl⟩:=fk m0;refine ⟨(many:Int),rfl,by lia,by lia,?_⟩
   rw [d6];have D4:=DI.step jb s4 p4;refine mF (fun k σ Hc=>∃(L:aw) (v6 v7 v8:Option V),σ=[some (.ref P0),some (.int 20),some (.int 30),some (.int (n:Int)),some (.int way),some (.ref d),v6,v7,v8]∧gI P0 a d H Hc n (2*n+k) L) ⟨_,_,_,_,rfl,D4⟩ ?_ ?_
   ·rintro k σ Hc hk ⟨L,v6,v7,v8,rfl,DI⟩
    dsimp only [aM];simp only [pW,pX];refine ⟨_,rfl,_,rfl,_,_,rfl,rfl,P0,a,ns,(n:Int)-1,rfl,DI.p,ak.seq DI.s hS,by lia,dY.of_lt (by lia) (by lia),fun c H5 c0 c1 s5 p5=>⟨_,_,rfl,rfl,?_⟩⟩
    have D5:=DI.step jb s5 p5;dsimp only [aM];simp only [pW,pX];refine ⟨_,rfl,_,rfl,_,rfl,P0,a,ns,1+c,rfl,D5.p,ak.seq D5.s hS,by lia,dY.of_lt (by lia) (by lia),fun e H6 e0 e1 s6 p6=>?_⟩
    have D6:=D5.step jb s6 p6;refine ⟨_,rfl,by show 2≤sizeLine;decide,fun tp dJ=>⟨d,_,rfl,D6.dput (by lia) dJ,?_⟩⟩
    exact ⟨_,_,_,_,rfl,(D6.put jb BF dJ (i:=e) (j:=1+c) e0 e1 (by lia)).le (by lia)⟩
   ·rintro σ Hy ⟨L,v6,v7,v8,rfl,DI⟩
    dsimp only;have ok:g7 n L:=⟨DI.nd,DI.lt,by have:=DI.cW;have:20*n≤n*n:=Nat.mul_le_mul_right n n1;lia⟩
    have lL:(iS L).length=L.length:=by unfold iS;rw [aH]
    refine ⟨_,rfl,_,rfl,d,iS L,rfl,DI.e,by rw [lL];have:=DI.cW;lia,fun lk bs By VI VJ=>?_⟩
    have hL:aX Hy bs L:=⟨by rw [VI,lL],fun k v p h1 h2=>by
     obtain ⟨b,e1,e2⟩:=VJ k v (kz p) (.bl true) h1 (by unfold iS;rw [bo,h2];rfl)
     exact ⟨b,e1,e2⟩⟩
    have sk:ak Hy (upd Hy lk (.lst bs)):=aO By;have Bz:upd Hy lk (.lst bs) lk=some (.lst bs):=au;have VL:lk≠P0:=DI.p.ne By;have hL:=hL.mono sk;have sy:=DI.s.trans (aF.of sk);have py:=DI.p.mono sk;have hL:=hL.er py;generalize upd Hy lk (.lst bs)=Hy at sk Bz hL sy py ⊢;refine ⟨_,rfl,_,rfl,(n:Int),rfl,fun pr vz=>?_⟩;have s6:ak Hy (upd Hy pr (.d7 0 (n:Int))):=aO vz;refine ⟨pr,n,rfl,au,by lia,fun l0 n0=>?_⟩
    have s7:=s6.trans (aO (o:=.lst (cC n)) n0);have e0:upd (upd Hy pr (.d7 0 (n:Int))) l0 (.lst (cC n)) l0=some (.lst (cC n)):=au;have l6:l0≠P0:=(py.mono s6).ne n0;generalize upd (upd Hy pr (.d7 0 (n:Int))) l0 (.lst (cC n))=Hz at s7 e0 ⊢;have lu:(cC n).length=n:=by unfold cC;simp
    refine ⟨P0,a,l0,ns,cC n,rfl,py.mono s7,ak.seq (sy.trans (aF.of s7)) hS,l6,e0,by lia,fun r ys Hw sw pw fr nr r_ pm=>?_⟩
    obtain ⟨EI,ly,hy,NO⟩:=Hq pm;have nJ:=(aF.of s7).trans sw;refine ⟨lk,r,n,bs,ys,L,EI,rfl,nJ.at VL Bz,(hL.mono nJ).mono mQ,ok,by lia,r_,ly,hy,NO,fun tt L' Hv sv yo sh pE yp U9=>?_⟩
    have nt:tt≠P0:=pw.ne yo;exact kk tt n L' Hv ((sy.trans nJ).trans (aF.of sv)) (pw.mono sv) (none_of (sy.trans nJ) (by rw [dG nt];exact yo)) nt (sh.er (pw.mono sv)) pE yp (by lia) nm
  ·intro R hR
   refine ⟨_,rfl,rfl,_,rfl,cI (fun _=>?_) (fun _=>hR _ _ ⟨L,rfl,DI.le (by lia)⟩)⟩
   refine ⟨_,rfl,_,rfl,_,_,rfl,rfl,by show 2≤sizeLine;decide,fun tp dJ=>⟨d,_,rfl,DI.dput (by lia) dJ,?_⟩⟩
   exact hR _ _ ⟨_,rfl,(DI.put jb BF dJ (i:=0) (j:=(n:Int)-1) (by lia) (by lia) (by lia)).le (by lia)⟩
theorem VM:cf ["script","_law_pen","_law_shapes","_law_shape","_law_own","_law_turn","_law_found"] ["script"] (bt A8):=dq
theorem VN(T:Txt K mg t)(hB:kG base mg):bY P w K mg base cw 9 t.o9 t.rJ ["script"] (Az K 96):=by
 have S:=VM;have VO:=UG (P:=P) (w:=w) (base:=base) T hB;refine T.vi.dN S (fun _ _ _ s H _ _ _ hr h=>?_);obtain ⟨t_,a,ns,rfl,hS,hlen,kQ⟩:=h;have fh:=hr.units;have hu:=hr.MZ
 refine ⟨_,(aB (zH 1 S.nd (dm (aj (pv 0) (aj aD (aj aD ao)))))
  (aB (zK (i0:=2) (N:=["_law_k","_law_pen"]) (ρ:=(fun σ=>[σ[1]?.join])) (jg [1] rfl) rfl S.nd rfl (Or.inl rfl) (k6 rfl T.fB (aj aD ao)) (fun _ _ _=>.nil) (fun _ _ _=>(bC (U8 T) hr T.JX T.vb.kp T.JW bJ (aj (pv 1) (aj aD ao)))))
  (aB (cL (ck iE (bC (jA T) hr T.fA T.eB.kp T.fw bJ (aj (pv 1) (aj aD ao))) aD) (aE (@qh _ _ _ _ _ _ (bC (VH T) hr T.J9 T.vh.kp T.J8 bJ (aj (pv 1) (aj aD (aj aD ao)))) (qg (pv 2) aD set_list) (by rfl) (by rfl) (by rfl))) dw)
  (aB (dM di rfl (fO (pv 2)) (cM (i:=3) S.nd rfl (Or.inl rfl))
   (aB (putL 4 S.nd (bC (Vw T) hr T.J5 T.vf.kp T.J4 bJ (aj (pv 1) (aj (pv 3) ao))))
  (aE (dM di rfl (k6 rfl T.fB (aj aD ao)) (cM (i:=5) S.nd rfl (Or.inl rfl))
   (aB (putL 6 S.nd (bC VO hr T.JP T.u7.kp T.JO bJ (aj (pv 3) ao)))
  (aB (cL (PW.pt (pw_or (qe (mC (cu (tE (K:=K)) rfl T.rO boot_isinstance (aj (pv 6) (aj (sS (v:=.ty "tuple") rfl T.x8 boot_tuple rfl) ao))))) (pw_or (ck sY (cu jd rfl T.hW ig (aj (pv 6) ao)) aD) (pw_or1 (qe (mC (cu (tE (K:=K)) rfl T.rO boot_isinstance (aj (aU eF (pv 6) aD) (aj (sS (v:=.ty "list") rfl T.jq boot_list rfl) ao))))))))) (aE (bX gy)) dw)
  (aB (cL (ck MT (pv 4) oj) (aE (cL (PW.pt (pw_or (ck sY (aU eF (pv 6) aD) wB) (pw_or1 (qe (mC (bC (VB T) hr T.J7 T.vg.kp T.J6 bJ (aj (pv 3) (aj (aU eF (pv 6) aD) ao)))))))) (aE (bX gy)) dw)) (aE (cL (PW.pt (pw_or (ck sY (aU eF (pv 6) aD) wB) (pw_or1 (ck (OU fh) (cu Dc rfl T.pb pU (aj (aU eF (pv 6) aD) ao)) (fP (tG rfl) rfl T.jq boot_list (aj (fP tF rfl T.fB tH (aj (aU eF (pv 3) aD) ao)) ao)))))) (aE (bX gy)) (aE (cL (ck (OY (n:=3) fh) (bC (Vg T) hr T.J1 T.vd.kp T.J0 bJ (aj (pv 3) (aj (aU eF (pv 6) aD) ao))) (pv 3)) (aE (bX gy)) dw)))))
  (aE (@qh _ _ _ _ _ _ (FN FP aD) (qg (aU eF (pv 6) aD) aD set_list) (by rfl) (by rfl) (by rfl))))))))))
  (aE (bX gy)))))),?_⟩
 refine ⟨_,rfl,by show 3≤sizeLine;decide,fun P0 nP=>?_⟩
 have p0:a_ (upd H P0 (.lst [.ref a,.int 0,.int 0])) P0 a:=⟨0,0,au,by decide,by decide⟩
 have yz:a7 K (er P0 (upd H P0 (.lst [.ref a,.int 0,.int 0]))) a (ns.map V.int):=by rw [GP];exact ak.seq (fun b o e=>xc (gv e nP) e) hS
 have t0:de 96 kI iT (upd H P0 (.lst [.ref a,.int 0,.int 0])):=.inl (aO nP _ _ t_);generalize upd H P0 (.lst [.ref a,.int 0,.int 0])=H0 at p0 yz t0 ⊢;dsimp only [aM];refine bg (mP (PJ (P:=P0) (a:=a) (n:=5) (cU (by decide)) (fun R h=>⟨5,rfl,by decide,by decide,h _ (aF.refl _) p0⟩) (fun D i y Hc=>lZ P0 Hc y) ?_ ?_ ?_))
 ·intro D i y Hc H' ys h e nD k
  exact h.bK e k
 ·intro D i hi Hc R sc VP hD Zw kR
  exact ⟨_,rfl,P0,a,ns,14,rfl,VP,ak.seq sc yz,by decide,by decide,fun tp n L H1 s1 p1 dJ vK sh ok pw n1 Zx=>kR _ _ s1 p1 ⟨tp,n,L,rfl,vK,sh,ok,pw,n1,by lia⟩⟩
 intro D ys Hc DP nD sc VQ Bh Ba eD;rw [dG DP] at nD;have LM:∀y∈ys,lZ P0 Hc y:=fun y hy=>by obtain ⟨i,hi⟩:=List.getElem?_of_mem hy;exact Ba i y hi
 dsimp only [aM];refine bg (xu (fun σ Hy=>∃ys:List V,σ=[some (.ref a),some (.ref P0),some (.ref D),none,none,none,none]∧aF P0 H0 Hy∧a_ Hy P0 a∧Hy D=some (.lst ys)∧∀y∈ys,lZ P0 Hy y) ?_ ?_)
 ·rintro σ Hy ⟨ys,rfl,sy,py,eD,all⟩
  have ty:=t0.Jf p0 sy;have VR:a7 K (er P0 Hy) a (ns.map V.int):=ak.seq sy yz;have LN:P0≠96:=ty.SO py;obtain ⟨ps,LO⟩:=ty.at;have EV:er P0 Hy 96=some (.c_ ps):=xc (Ne.symm LN) LO;have VS:er P0 Hy D=some (.lst ys):=xc DP eD;have DT:D≠96:=fun z=>by rw [z,LO] at eD;cases eD
  have VT:∀{Hx:Hp},dC 96 (er P0 Hy) (er P0 Hx)→Hx D=some (.lst ys):=fun s=>mQ _ _ (s _ _ DT VS);dsimp only;refine bg ⟨_,rfl,D,rfl,⟨_,.of eD⟩,?_⟩;refine k_ (K:=K) (a:=D) (xs:=ys) (fun j σ Hc=>∃(v3 v4 v5 v6:Option V),σ=[some (.ref a),some (.ref P0),some (.ref D),v3,v4,v5,v6]∧dC 96 (er P0 Hy) (er P0 Hc)∧a_ Hc P0 a∧de 96 kI iT Hc) ⟨_,_,_,_,rfl,fun _ _ _ e=>e,py,ty⟩ (fun j σ Hc _ ⟨_,_,_,_,_,sc,_⟩=>.of (VT sc)) ?_ ?_
  ·rintro j x σ Hc VU ⟨v3,v4,v5,v6,rfl,sc,pc,tc⟩
   obtain ⟨tp,n,L,rfl,vK,LP,ok,pw,n1,pG⟩:=all x (nU VU);have fD:=xU LP EV sc;have en:iR n L:=fun p hp=>by have:=ok.lt p hp;exact ⟨this.1,by lia,by lia,this.2.2⟩
   have cW:L.length≤450:=b9 ok.cW (by have:n*n≤30*30:=wj pG pG;lia)
   have VW:a7 K (er P0 Hc) a (ns.map V.int):=a7.st VR EV sc;dsimp only [aM];refine eA fun R kJ=>?_;have rest:∀(v:V) (H2:Hp),aF P0 Hc H2→a_ H2 P0 a→((v=.aN∧∀o,o.Perm (List.range n)→¬dQ n L o L)∨∃(l:Addr) (o:List Nat),v=.ref l∧o.Perm (List.range n)∧dQ n L o L)→R [some (.ref a),some (.ref P0),some (.ref D),some (.ref tp),some v,v5,v6] H2:=by
    intro v H2 s2 p2 hv;refine kJ _ _ ?_;refine ⟨2,rfl,by decide,by decide,?_⟩
    refine mF (fun k σ Hd=>∃(v5 v6:Option V),σ=[some (.ref a),some (.ref P0),some (.ref D),some (.ref tp),some v,v5,v6]∧dC 96 (er P0 Hy) (er P0 Hd)∧a_ Hd P0 a∧de 96 kI iT Hd) ⟨_,_,rfl,fun b o n e=>s2 b o (sc b o n e),p2,tc.Jf pc s2⟩ ?_ ?_
    ·rintro k σ Hd hk ⟨v5,v6,rfl,sd,pd,td⟩
     have EW:=xU LP EV sd;dsimp only [aM];have fin:∀(H4 H5:Hp) (l:Addr) (xs:List V),dC 96 Hd H4→de 96 kI iT H4→Hd l=none→H4 l=some (.lst xs)→(∀b o,b≠l→H4 b=some o→H5 b=some o)→dC 96 (er P0 Hy) (er P0 H5)∧a_ H5 P0 a∧de 96 kI iT H5:=by
      intro H4 H5 l xs s4 t4 nl el o5;have lP:l≠P0:=pd.ne nl;refine ⟨fun b o nb e=>?_,?_,t4.off el (fun _ z=>by cases z) (fun _ z=>by cases z) o5⟩
      ·have e4:=s4.er (P:=P0) b o nb (sd b o nb e)
       have bP:b≠P0:=fun z=>by rw [z] at e;unfold er at e;rw [ae rfl] at e;cases e
       have ed:=sd b o nb e;rw [dG bP] at e4 ed ⊢;exact o5 b o (fun z=>by rw [z,nl] at ed;cases ed) e4
      ·obtain ⟨i,j,e,r⟩:=s4.jK LN pd
       exact ⟨i,j,o5 _ _ (Ne.symm lP) e,r⟩
     refine eA fun R2 l8=>⟨_,rfl,tp,n,L,rfl,EW.mono mQ,pw,ok.lt,pG,td,fun H4 T4 l3 o3 s4 t4 nT jv eT iW yA LQ=>?_,fun H4 T4 l3 zs s4 t4 nT jv eT iW bare nd lt no=>?_⟩
     ·dsimp only [aM]
      refine l8 _ _ ?_;have oI:∃l:Addr,v=.ref l:=by
       rcases hv with ⟨_,no⟩ | ⟨l,_,e,_⟩;·exact absurd LQ (no o3 yA)
       ·exact ⟨l,e⟩
      obtain ⟨lv,rfl⟩:=oI;have yB:H4 l3=some (.lst ((o3.map iN).map V.int)):=by rw [iW,dE];rfl
      have yC:cQ H4 tp n L:=xU (EW.mono mQ) (td.at).choose_spec s4;refine eA fun R3 nI=>⟨_,rfl,_,_,_,_,rfl,rfl,.of (.tup eT),rfl,true,rfl,eU ?_⟩;refine ⟨_,rfl,T4,_,rfl,.inr (.of eT),rfl,false,rfl,eU ?_⟩;refine ⟨_,rfl,T4,_,_,_,rfl,rfl,.of eT,rfl,_,_,_,_,rfl,rfl,.of (.lst yB),rfl,true,rfl,eU ?_⟩;dsimp only [iC];refine nI _ _ ?_;refine eA fun R4 EX=>⟨_,rfl,rfl,false,rfl,eU ?_⟩;refine ⟨_,rfl,T4,_,_,_,rfl,rfl,.of eT,rfl,rfl,false,rfl,eU ?_⟩;refine ⟨_,rfl,T4,_,_,_,rfl,rfl,.of eT,rfl,l3,o3.map iN,rfl,yB,by rw [aH,yA.length_eq,fH];lia,fun ws D2 yp so n2=>?_⟩
      obtain ⟨lt,us,dR,elt,mL⟩:=id yC;refine ⟨_,rfl,tp,_,_,_,rfl,rfl,.of ((aO n2) _ _ dR),rfl,(n:Int),rfl,fun q1 pA=>⟨q1,n,rfl,au,by lia,fun l nl=>?_⟩⟩
      have s5:ak H4 (upd (upd (upd H4 D2 (.lst (ws.map V.int))) q1 (.d7 0 (n:Int))) l (.lst (cC n))):=((aO n2).trans (aO pA)).trans (aO nl);have kH:upd (upd (upd H4 D2 (.lst (ws.map V.int))) q1 (.d7 0 (n:Int))) l (.lst (cC n)) D2=some (.lst (ws.map V.int)):=((aO pA).trans (aO nl)) _ _ au;have el:upd (upd (upd H4 D2 (.lst (ws.map V.int))) q1 (.d7 0 (n:Int))) l (.lst (cC n)) l=some (.lst (((List.range n).map iN).map V.int)):=by rw [au];unfold cC;rw [dE];rfl
      generalize upd (upd (upd H4 D2 (.lst (ws.map V.int))) q1 (.d7 0 (n:Int))) l (.lst (cC n))=H5 at s5 kH el ⊢;have Dm:decide (ws=(List.range n).map iN)=true:=by rw [HR yp so];exact bA (yA.map iN)
      refine ⟨D2,l,ws,(List.range n).map iN,rfl,rfl,.of kH,.of el,false,by rw [Dm];rfl,eU ?_⟩
      have VX:=s5 _ _ eT;refine ⟨_,rfl,_,rfl,T4,_,_,_,rfl,rfl,.of VX,rfl,tp,l3,n,L,o3,rfl,yC.mono s5,en,by lia,by lia,s5 _ _ iW,yA,fun H6 t6 M s6 VY VZ=>?_⟩
      have eM:=dQ.uniq VZ LQ;subst eM;have h_:=s5.trans s6;refine ⟨_,rfl,C2 n M,P4 n M,Ht VY,Ht (yC.mono h_),false,rfl,eU ?_⟩;dsimp only [iC];refine EX _ _ ?_;have ne3:0<o3.length:=by rw [yA.length_eq,fH];lia
      refine ⟨_,rfl,_,rfl,T4,_,_,_,rfl,rfl,.of (h_ _ _ eT),rfl,l3,_,0,0,rfl,rfl,h_ _ _ iW,by rw [aH];exact Aj (k:=0) ne3,?_⟩
      exact ⟨_,_,rfl,fin H6 _ l3 _ (fun b o n e=>h_ b o (s4 b o n e)) (t4.mono h_) jv (h_ _ _ iW) fun b o nb e=>(aG nb).trans e⟩
     ·dsimp only [aM]
      refine l8 _ _ ?_;have oI:v=.aN:=by
       rcases hv with ⟨e,_⟩ | ⟨_,o,_,po,fo⟩;·exact e
       ·exact absurd fo (no o po)
      subst oI;have yB:H4 l3=some (.lst ((zs.map iN).map V.int)):=by rw [iW,dE];rfl
      have yC:cQ H4 tp n L:=xU (EW.mono mQ) (td.at).choose_spec s4;refine eA fun R3 nI=>⟨_,rfl,_,_,_,_,rfl,rfl,.of (.tup eT),rfl,true,rfl,eU ?_⟩;refine ⟨_,rfl,T4,_,rfl,.inr (.of eT),rfl,false,rfl,eU ?_⟩;refine ⟨_,rfl,T4,_,_,_,rfl,rfl,.of eT,rfl,_,_,_,_,rfl,rfl,.of (.lst yB),rfl,true,rfl,eU ?_⟩;dsimp only [iC];refine nI _ _ ?_;have zl:zs.length≤30:=by have:=DR nd lt;lia
      have z4:4≤zs.length:=by have:=bare.1;rw [aH] at this;exact this
      refine eA fun R4 EX=>⟨_,rfl,rfl,true,rfl,tm ?_⟩;refine ⟨_,rfl,T4,_,_,_,rfl,rfl,.of eT,rfl,rfl,false,rfl,eU ?_⟩;refine ⟨_,rfl,_,rfl,T4,_,_,_,rfl,rfl,.of eT,rfl,tp,l3,n,L,zs.map iN,rfl,yC,en,pw,by lia,by lia,yB,by rw [aH];lia,(fun z hz=>?_),fun H6 s6=>⟨true,by rw [bA bare],eU ?_⟩⟩
      ·obtain ⟨d,hd,rfl⟩:=cj.mp hz
       have:=lt d hd;unfold iN;lia
      dsimp only [iC];refine EX _ _ ?_;refine ⟨_,rfl,_,rfl,T4,_,_,_,rfl,rfl,.of (s6 _ _ eT),rfl,l3,_,0,0,rfl,rfl,s6 _ _ iW,by rw [aH];exact Aj (k:=0) (by lia),?_⟩
      exact ⟨_,_,rfl,fin H6 _ l3 _ (fun b o n e=>s6 b o (s4 b o n e)) (t4.mono s6) jv (s6 _ _ iW) fun b o nb e=>(aG nb).trans e⟩
    ·rintro σ Hd ⟨v5,v6,rfl,sd,pd,td⟩
     exact ⟨_,_,_,_,rfl,sd,pd,td⟩
   exact ⟨_,rfl,_,rfl,P0,a,tp,ns,n,L,rfl,pc,VW,vK,fD.mono mQ,pw,ok.lt,n1,pG,cW,fun H2 s2 p2 no=>rest _ _ s2 p2 (.inl ⟨rfl,no⟩),fun l o0 H2 s2 p2 lP nl el po fo=>rest _ _ s2 p2 (.inr ⟨l,o0,rfl,po,fo⟩)⟩
  ·rintro σ Hc ⟨v3,v4,v5,v6,rfl,sc,pc,tc⟩
   exact kQ _
 ·intro R hR
  refine ⟨_,rfl,P0,a,ns,4,rfl,VQ,ak.seq sc yz,by decide,dY.of_lt (by decide) (by decide),fun c H1 c0 c1 s1 p1=>⟨rfl,_,rfl,cI (fun _=>?_) (fun _=>?_)⟩⟩
  ·refine ⟨_,rfl,P0,a,ns,rfl,p1,ak.seq (sc.trans s1) yz,fun tp n L H2 s2 p2 dJ vK sh ok pw n1 V0=>?_⟩
   have gJ:=s1.trans s2;have kH:=gJ.at DP eD;refine ⟨_,rfl,D,ys,4,4,rfl,rfl,kH,by rw [Bh];rfl,?_⟩
   refine hR _ _ ⟨_,rfl,(sc.trans gJ).but nD,p2.upd DP,au,fun y hy=>?_⟩;have k:∀b o,b≠D→b≠P0→H2 b=some o→upd H2 D (.lst (ys.set 4 (.ref tp))) b=some o:=fun b o bD _ e=>(aG bD).trans e;rcases List.mem_or_eq_of_mem_set hy with h | h;·exact ((LM y h).mono gJ).bK kH k
   ·subst h
    exact lZ.bK ⟨tp,n,L,rfl,vK,sh,ok,pw,n1,V0⟩ kH k
  ·exact hR _ _ ⟨ys,rfl,sc.trans s1,p1,s1.at DP eD,fun y hy=>(LM y hy).mono s1⟩
theorem V1{l:PySem.W.OpenLaw}(T:Txt K mg t):K.lookup 96=none∧(∃ud,L2.tabIn K ud 96=true)∧∃fd:FuncData,(∀(s:Shared) (v:Value),BindsTo s fd ⟨[v],[]⟩ [("script",v)])∧∀base:Heap,K.In base→base.Ns mainGlobals mg→L2.kG base mg→bY l.prog w K mg base cw 9 t.o9 fd ["script"] (L2.Az K 96):=by obtain ⟨oc,od,kV,doc,pm,an,b7,ct,kg,e,lk,dW⟩:=T.vi.ex;refine ⟨T.Kn,⟨_,T.tab⟩,t.rJ,fun s v=>?_,fun base _ _ hB=>VN T hB⟩;rw [e];exact .of_eq rfl
end
theorem walk{l:PySem.W.OpenLaw}{q:Program}{loose:List Str}{XP:(Str→Option Value)→Heap→Prop}{YP:World→Heap→Prop}{d:DefRec}{K:Params→PySem.W.Frag}(hn:l.most=some 63)(wU:d.params.defaults=[])
  (hY:∀(w:World) (h:Heap),YP w h→(K w.params).In h) (hP:∀(w:World) (h:Heap),YP w h→h.get? 96=some (PySem.W.tabObj #[]))
  (F:∀(w:World) (mg:cH) (fa:Addr) (h:Heap),(K w.params).In h→h.Ns mainGlobals mg→mg d.name=some (.ref fa)→
   (K w.params).lookup 96=none∧(∃ud,L2.tabIn (K w.params) ud 96=true)∧∃fd:FuncData,(∀(s:Shared) (u:Value),BindsTo s fd ⟨[u],[]⟩ [("script",u)])∧∀base:Heap,(K w.params).In base→base.Ns mainGlobals mg→L2.kG base mg→bY l.prog w (K w.params) mg base cw 9 fa fd ["script"] (L2.Az (K w.params) 96)) :
  PySem.W.WalkO q loose XP YP l.row.toRowW d [] (fun f vs=>PySem.call f vs):=
 L2.SJ hn wU ⟨rfl,by decide,by decide⟩ hY hP F
theorem V2{K:aJ}{h:Heap}{mg:cH}(X:K.In h)(G:h.Ns mainGlobals mg)
  {l5:Addr}
  {qN qO qQ qR qS qT qU qV qW qX qY qZ q8 q_ rd rg rh rj rm rp rq rz rA rB rC rE rF rG rH o9:Addr} {uf ug uh uj um uo ur uu uv oZ uy uz uA uB uC uD uE uF uG uH uI uJ uK uL uM uN uO uP uQ rJ:FuncData}
  (EY:PySem.W.nsIn K mainGlobals "NoOrder"=some (some (.ref l5)))
  (V3:mg "is_whole"=some (.ref qN))
  (uR:a8 K "is_whole" AD qN uf)
  (V4:mg "neighbours"=some (.ref qO))
  (o_:a8 K "neighbours" AE qO ug)
  (V5:mg "is_order"=some (.ref qQ))
  (uS:a8 K "is_order" AF qQ uh)
  (V6:mg "check_order"=some (.ref qR))
  (uT:a8 K "check_order" AG qR uj)
  (V7:mg "turns_of"=some (.ref qS))
  (uU:a8 K "turns_of" AH qS um)
  (V8:mg "link_all"=some (.ref qT))
  (uV:a8 K "link_all" AI qT uo)
  (V9:mg "later"=some (.ref qU))
  (uW:a8 K "later" AJ qU ur)
  (V_:mg "filled"=some (.ref qV))
  (uX:a8 K "filled" AK qV uu)
  (Wa:mg "is_perfect"=some (.ref qW))
  (uY:a8 K "is_perfect" AL qW uv)
  (Wc:mg "likely_order"=some (.ref qX))
  (uZ:a8 K "likely_order" AM qX oZ)
  (Wd:mg "walk_back"=some (.ref qY))
  (u0:a8 K "walk_back" AN qY uy)
  (We:mg "unmet"=some (.ref qZ))
  (u4:a8 K "unmet" AO qZ uz)
  (Wf:mg "ring_over"=some (.ref q8))
  (u5:a8 K "ring_over" AQ q8 uA)
  (Wg:mg "bare_ring"=some (.ref q_))
  (u6:a8 K "bare_ring" AR q_ uB)
  (Wh:mg "perfect"=some (.ref rd))
  (u7:a8 K "perfect" AS rd uC)
  (Wi:mg "_law_fill"=some (.ref rg))
  (u9:a8 K "_law_fill" AU rg uD)
  (Wj:mg "_law_next"=some (.ref rh))
  (eB:a8 K "_law_next" AV rh uE)
  (Wl:mg "_law_turned"=some (.ref rj))
  (rK:a8 K "_law_turned" AW rj uF)
  (Wm:mg "_law_tied_by"=some (.ref rm))
  (u_:a8 K "_law_tied_by" AX rm uG)
  (Wn:mg "_law_grown_links"=some (.ref rp))
  (va:a8 K "_law_grown_links" AY rp uH)
  (Wo:mg "_law_drawn"=some (.ref rq))
  (vb:a8 K "_law_drawn" AZ rq uI)
  (Wq:mg "_law_named"=some (.ref rz))
  (rM:a8 K "_law_named" A0 rz uJ)
  (Wr:mg "_law_beside"=some (.ref rA))
  (rN:a8 K "_law_beside" A1 rA uK)
  (Ws:mg "_law_walks"=some (.ref rB))
  (vc:a8 K "_law_walks" A2 rB uL)
  (Wt:mg "_law_filled"=some (.ref rC))
  (vd:a8 K "_law_filled" A3 rC uM)
  (Wu:mg "_law_free"=some (.ref rE))
  (ve:a8 K "_law_free" A4 rE uN)
  (Wv:mg "_law_perfect"=some (.ref rF))
  (vf:a8 K "_law_perfect" A5 rF uO)
  (Ww:mg "_law_bare"=some (.ref rG))
  (vg:a8 K "_law_bare" A6 rG uP)
  (Wx:mg "_law_long"=some (.ref rH))
  (vh:a8 K "_law_long" A7 rH uQ)
  (Wy:mg "law"=some (.ref o9))
  (vi:a8 K "law" A8 o9 rJ)
  (EZ:PySem.W.nsIn K mainGlobals "ValueError"=some none)
  (E1:PySem.W.nsIn K mainGlobals "all"=some none)
  (E2:PySem.W.nsIn K mainGlobals "any"=some none)
  (E3:PySem.W.nsIn K mainGlobals "bool"=some none)
  (E4:PySem.W.nsIn K mainGlobals "enumerate"=some none)
  (E5:PySem.W.nsIn K mainGlobals "int"=some none)
  (E6:PySem.W.nsIn K mainGlobals "isinstance"=some none)
  (E7:PySem.W.nsIn K mainGlobals "len"=some none)
  (E8:PySem.W.nsIn K mainGlobals "list"=some none)
  (E9:PySem.W.nsIn K mainGlobals "max"=some none)
  (E_:PySem.W.nsIn K mainGlobals "min"=some none)
  (Fb:PySem.W.nsIn K mainGlobals "range"=some none)
  (Fc:PySem.W.nsIn K mainGlobals "reversed"=some none)
  (Fd:PySem.W.nsIn K mainGlobals "set"=some none)
  (Fe:PySem.W.nsIn K mainGlobals "sorted"=some none)
  (Ff:PySem.W.nsIn K mainGlobals "sum"=some none)
  (Fg:PySem.W.nsIn K mainGlobals "tuple"=some none)
  (Fi:PySem.W.nsIn K mainGlobals "zip"=some none)
  (Fj:PySem.W.excIn K l5 [.type "ValueError",.type "Exception",.type "BaseException",.type "object"] "ValueError.__new__"=true)
  (Fl:L2.tabIn K oZ 96=true)
  (Fo:K.lookup 96=none)
  : ∃t:DU,Txt K mg t:=by
 refine ⟨⟨qN,uf,qO,ug,qQ,uh,qR,uj,qS,um,qT,uo,qU,ur,qV,uu,qW,uv,qX,oZ,qY,uy,qZ,uz,q8,uA,q_,uB,rd,uC,rg,uD,rh,uE,rj,uF,rm,uG,rp,uH,rq,uI,rz,uJ,rA,uK,rB,uL,rC,uM,rE,uN,rF,uO,rG,uP,rH,uQ,o9,rJ,l5⟩,?_⟩
 exact {
  uR:=uR
  Jn:=uR.cm
  Jo:=V3
  o_:=o_
  A9:=o_.cm
  A_:=V4
  uS:=uS
  Jp:=uS.cm
  Jq:=V5
  uT:=uT
  Jr:=uT.cm
  Js:=V6
  uU:=uU
  Jt:=uU.cm
  Ju:=V7
  uV:=uV
  Jv:=uV.cm
  Jw:=V8
  uW:=uW
  Jx:=uW.cm
  Jy:=V9
  uX:=uX
  Jz:=uX.cm
  JA:=V_
  uY:=uY
  JB:=uY.cm
  JD:=Wa
  uZ:=uZ
  JE:=uZ.cm
  JF:=Wc
  u0:=u0
  JG:=u0.cm
  JH:=Wd
  u4:=u4
  JI:=u4.cm
  JJ:=We
  u5:=u5
  JK:=u5.cm
  JL:=Wf
  u6:=u6
  JM:=u6.cm
  JN:=Wg
  u7:=u7
  JO:=u7.cm
  JP:=Wh
  u9:=u9
  JQ:=u9.cm
  JR:=Wi
  eB:=eB
  fw:=eB.cm
  fA:=Wj
  rK:=rK
  DV:=rK.cm
  DW:=Wl
  u_:=u_
  JS:=u_.cm
  JT:=Wm
  va:=va
  JU:=va.cm
  JV:=Wn
  vb:=vb
  JW:=vb.cm
  JX:=Wo
  rM:=rM
  DX:=rM.cm
  DY:=Wq
  rN:=rN
  DZ:=rN.cm
  D3:=Wr
  vc:=vc
  JY:=vc.cm
  JZ:=Ws
  vd:=vd
  J0:=vd.cm
  J1:=Wt
  ve:=ve
  J2:=ve.cm
  J3:=Wu
  vf:=vf
  J4:=vf.cm
  J5:=Wv
  vg:=vg
  J6:=vg.cm
  J7:=Ww
  vh:=vh
  J8:=vh.cm
  J9:=Wx
  vi:=vi
  Ta:=vi.cm
  J_:=Wy
  Ka:=cZ X G EY
  Tb:=fJ X G EZ
  Kb:=fJ X G E1
  Tc:=fJ X G E2
  Ki:=fJ X G E3
  D7:=fJ X G E4
  Kj:=fJ X G E5
  rO:=fJ X G E6
  hW:=fJ X G E7
  jq:=fJ X G E8
  vj:=fJ X G E9
  x6:=fJ X G E_
  fB:=fJ X G Fb
  Kk:=fJ X G Fc
  Kl:=fJ X G Fd
  pb:=fJ X G Fe
  Td:=fJ X G Ff
  x8:=fJ X G Fg
  Te:=fJ X G Fi
  Km:=Fj
  tab:=Fl
  Kn:=Fo
 }
end My
namespace PySem.W.Fast
def tw9144116625305926356:Unit:=()
def tw7690254075770467830:Unit:=()
def tw2636387497109271173:Unit:=()
def tw9930516586813200302:Unit:=()
def tw5659242731669277219:Unit:=()
def tw8271268324356546675:Unit:=()
def tw5911867278321631578:Unit:=()
def tw12234342467934019181:Unit:=()
def tw5003218836127171900:Unit:=()
def tw1397135508968026281:Unit:=()
def tw2153826617456371895:Unit:=()
def tw13048902133510222976:Unit:=()
def tw10393649848498275708:Unit:=()
def tw11226942210762142672:Unit:=()
def tw10409658091635667656:Unit:=()
def tw5156446526985232273:Unit:=()
def tw6898104157115205248:Unit:=()
def tw15790639039652803240:Unit:=()
def tw17622764624432408504:Unit:=()
def tw4252227541611011399:Unit:=()
def tw5756076208951074222:Unit:=()
def tw1563987792772971129:Unit:=()
def tw2503931447623545766:Unit:=()
def tw17077903521211432273:Unit:=()
def tw16685471999363799625:Unit:=()
def tw13675623643847691420:Unit:=()
def tw15113817761368877625:Unit:=()
def tw6824980129334186302:Unit:=()
def tw924345830175534938:Unit:=()
def tw7214757348691938497:Unit:=()
def tw11162224424625964144:Unit:=()
def tw10266074863836168704:Unit:=()
def tw18113491320388550980:Unit:=()
def tw289176016244946558:Unit:=()
def tw8028136219932762925:Unit:=()
def tw17641551568685322357:Unit:=()
def tw9686578096039057936:Unit:=()
def tw605163689349575624:Unit:=()
def tw5834640627774459710:Unit:=()
def tw1370714428587326194:Unit:=()
def tw11670775530318790168:Unit:=()
def tw15707912774318159739:Unit:=()
def tw8908463270099116252:Unit:=()
def tw11423089807719409660:Unit:=()
def tw13212177970449515335:Unit:=()
def tw9480473714391967943:Unit:=()
def tw14422087919767520759:Unit:=()
def tw9329907279918333771:Unit:=()
def tw18391016171525203590:Unit:=()
def tw14219357149692942452:Unit:=()
def tw17260375870753536769:Unit:=()
def tw427998650379473242:Unit:=()
def tw16518805627527597873:Unit:=()
def tw9680704027222423172:Unit:=()
def tw5136108581534695810:Unit:=()
def tw13853413192357126220:Unit:=()
def tw4026787658076232051:Unit:=()
def tw8062642115603424666:Unit:=()
def tw4084908141765233336:Unit:=()
def tw10277021075833554653:Unit:=()
def tw14835462021996824696:Unit:=()
def tw16523010111626858970:Unit:=()
def tw11600984698495609861:Unit:=()
def tw9469659259083148923:Unit:=()
def tw10877970526662901901:Unit:=()
def tw7150347247374518692:Unit:=()
def tw4919010986699507726:Unit:=()
def tw7300580311242654833:Unit:=()
def tw312544559500988271:Unit:=()
def tw3544704610080491534:Unit:=()
def tw2269100153220393970:Unit:=()
def tw6685827812023418182:Unit:=()
def tw12211603840991842893:Unit:=()
def tw5887733940651210486:Unit:=()
def tw16128696064125019068:Unit:=()
def tw11239857004938688914:Unit:=()
def tw2093282234312677062:Unit:=()
def tw16710356859254649708:Unit:=()
def tw6017676983960133341:Unit:=()
def tw13162047263579016755:Unit:=()
def tw13799654716727795550:Unit:=()
def tw4948599126794146626:Unit:=()
def tw8447964540472432737:Unit:=()
def tw6083407649773320481:Unit:=()
def tw11885573925374265177:Unit:=()
def tw5585838172150273964:Unit:=()
def tw16690040156474994857:Unit:=()
def tw2450348969797570914:Unit:=()
def tw2483007379797691278:Unit:=()
def tw12308280625139842441:Unit:=()
def tw12477544589882629453:Unit:=()
def tw4412836117669419617:Unit:=()
def tw13296597133970617691:Unit:=()
def tw11265707931601836570:Unit:=()
def tw15552146044608277954:Unit:=()
def tw12366854374610158327:Unit:=()
def tw14851112250132591668:Unit:=()
def tw2550125853951551927:Unit:=()
def tw12384163101387496880:Unit:=()
def tw11402207339791023747:Unit:=()
def tw5022727843869888484:Unit:=()
def tw5310908543589069198:Unit:=()
def tw5766149674387727131:Unit:=()
def tw18434346418537322675:Unit:=()
def tw13598147752756208417:Unit:=()
def tw5382454272306985823:Unit:=()
def tw5933836815729836577:Unit:=()
def tw5605267286980024705:Unit:=()
def tw3086887795887231015:Unit:=()
def tw6037036241881635586:Unit:=()
def tw7874766138294352747:Unit:=()
def tw16353265128677818912:Unit:=()
def tw7225095077842309740:Unit:=()
def tw10607684482368455036:Unit:=()
def tw13628107250327521921:Unit:=()
def tw15011189490475257490:Unit:=()
def tw17757700298378960922:Unit:=()
def tw11383876197672598767:Unit:=()
def tw6746165321964321040:Unit:=()
def tw10169679143596618523:Unit:=()
def tw16225589064713046879:Unit:=()
def tw11475097565358546239:Unit:=()
def tw7901836939442334758:Unit:=()
def tw16786747170296004184:Unit:=()
def tw4855659997416614308:Unit:=()
def tw9437766816991050114:Unit:=()
def tw9769604149667044920:Unit:=()
def tw13463550337966042960:Unit:=()
def tw8334602895513958803:Unit:=()
def tw7177531408759860663:Unit:=()
def tw4793767858020260829:Unit:=()
def tw12767064174186583126:Unit:=()
def tw8474576355000430561:Unit:=()
def tw8185072770731198775:Unit:=()
def tw15709684822434607641:Unit:=()
def tw15711813176662146126:Unit:=()
def tw369051241167778143:Unit:=()
def tw11343444626590641076:Unit:=()
def tw6685734037338390331:Unit:=()
def tw15385071299559709023:Unit:=()
def tw1581327741841306634:Unit:=()
def tw8660288376056619455:Unit:=()
def tw15760308466200819174:Unit:=()
def tw16626368372968704766:Unit:=()
def tw9395159510648995219:Unit:=()
def tw6325586642975265038:Unit:=()
def tw14710533005887571609:Unit:=()
def tw3008710848780105811:Unit:=()
def tw16218040065315605063:Unit:=()
def tw12631413996902976224:Unit:=()
def tw9563390299349091315:Unit:=()
def tw3798762880733711421:Unit:=()
def tw8976145715580951175:Unit:=()
def tw1383324578757792975:Unit:=()
def tw9164475130104360743:Unit:=()
def tw13224043370360044281:Unit:=()
def tw17139274848197719027:Unit:=()
def tw391234450021072339:Unit:=()
def tw11377475510419213318:Unit:=()
def tw5224767337948716439:Unit:=()
def tw17985076508167270780:Unit:=()
def tw99004169248949068:Unit:=()
def tw342929847980386297:Unit:=()
def tw14527107013119484457:Unit:=()
def tw17935734806473227913:Unit:=()
def tw7075200004121577756:Unit:=()
def tw17652778340652110929:Unit:=()
def tw16425485150848776879:Unit:=()
def tw10262026798010535072:Unit:=()
def tw15736323575780593098:Unit:=()
def tw14043924283292993238:Unit:=()
def tw1162751509270892268:Unit:=()
def tw6064930589373849012:Unit:=()
def tw14898974633233957803:Unit:=()
def tw9149328117242231641:Unit:=()
def tw3942240074714676231:Unit:=()
def tw11782407241379603741:Unit:=()
def tw15478232497418742692:Unit:=()
def tw14905768899244604592:Unit:=()
def tw9606913043036147460:Unit:=()
def tw1519929859176649914:Unit:=()
def tw6308733077131389242:Unit:=()
def tw14764281639050074395:Unit:=()
def tw4621937185064990467:Unit:=()
def tw7245403030463196472:Unit:=()
def tw3909684954356205604:Unit:=()
def tw7863921922359523381:Unit:=()
def tw18392188480719163901:Unit:=()
def tw4640515847006511744:Unit:=()
def tw11260019955932758407:Unit:=()
def tw3328094064567853256:Unit:=()
def tw17766296153354696662:Unit:=()
def tw18215101344813770915:Unit:=()
def tw15417382578828537246:Unit:=()
def tw10745964575598399175:Unit:=()
def tw5931275218252380003:Unit:=()
def tw2644203668463560871:Unit:=()
def tw14007852158890116503:Unit:=()
def tw10542238253903703642:Unit:=()
def tw4822707022797369976:Unit:=()
def tw2442314480263181977:Unit:=()
def tw6342845946427838433:Unit:=()
def tw6138299894885985239:Unit:=()
def tw16321045185063887279:Unit:=()
def tw10934303792669676780:Unit:=()
def tw10100721918438038394:Unit:=()
def tw15518135237642550085:Unit:=()
def tw17405163902225549745:Unit:=()
def tw13318851721204859778:Unit:=()
def tw702142672007119670:Unit:=()
end PySem.W.Fast
open PySem PySem.W PyProof.Rows
set_option maxRecDepth 100000 in
set_option maxHeartbeats 0 in
theorem PySem.Challenge.cw_bandwright_k20_perfect_or_a_bare_ring_holds : PySem.Challenge.rw_bandwright_k20_perfect_or_a_bare_ring.Holds := by
 w_on;o_law;k_head;(case hw=>w_witness2)
 k_fill
 refine My.walk (l:=PySem.Challenge.rw_bandwright_k20_perfect_or_a_bare_ring) rfl rfl (fun w h Y=>PySem.W.km_in_of Y) (fun w h Y=>PySem.W.km_tabs_of Y 96 (bI.mpr rfl)) ?F
 case F=>
  intro w mg fa h KX G wV
  have T:∃t,My.Txt (L2.Gr KX) mg t:=by
   dsimp only [L2.Gr]
   refine' My.V2 KX G ?EY (cZ KX G ?Wz) (L2.dr (st:=My.AD) ?WA ?WB ?WC) (cZ KX G ?WD) (L2.dr (st:=My.AE) ?WE ?WG ?WH) (cZ KX G ?WI) (L2.dr (st:=My.AF) ?WJ ?WK ?WL) (cZ KX G ?WM) (L2.dr (st:=My.AG) ?WN ?WO ?WQ) (cZ KX G ?WR) (L2.dr (st:=My.AH) ?WS ?WT ?WU) (cZ KX G ?WV) (L2.dr (st:=My.AI) ?WW ?WX ?WY) (cZ KX G ?WZ) (L2.dr (st:=My.AJ) ?W0 ?W2 ?W3) (cZ KX G ?W4) (L2.dr (st:=My.AK) ?W5 ?W6 ?W7) (cZ KX G ?W8) (L2.dr (st:=My.AL) ?W9 ?W_ ?Xa) (cZ KX G ?Xb) (L2.dr (st:=My.AM) ?Xc ?Xd ?Xe) (cZ KX G ?Xf) (L2.dr (st:=My.AN) ?Xg ?Xh ?Xi) (cZ KX G ?Xj) (L2.dr (st:=My.AO) ?Xk ?Xl ?Xm) (cZ KX G ?Xn) (L2.dr (st:=My.AQ) ?Xo ?Xp ?Xq) (cZ KX G ?Xr) (L2.dr (st:=My.AR) ?Xs ?Xu ?Xv) (cZ KX G ?Xw) (L2.dr (st:=My.AS) ?Xx ?Xy ?Xz) (cZ KX G ?XA) (L2.dr (st:=My.AU) ?XC ?XD ?XE) (cZ KX G ?XF) (L2.dr (st:=My.AV) ?XG ?XH ?XI) (cZ KX G ?XJ) (L2.dr (st:=My.AW) ?XM ?XN ?XO) (cZ KX G ?XQ) (L2.dr (st:=My.AX) ?XR ?XS ?XT) (cZ KX G ?XU) (L2.dr (st:=My.AY) ?XW ?XX ?XY) (cZ KX G ?XZ) (L2.dr (st:=My.AZ) ?X0 ?X3 ?X4) (cZ KX G ?X5) (L2.dr (st:=My.A0) ?X6 ?X7 ?X8) (cZ KX G ?X9) (L2.dr (st:=My.A1) ?X_ ?Yb ?Yc) (cZ KX G ?Yd) (L2.dr (st:=My.A2) ?Ye ?Yg ?Yh) (cZ KX G ?Yi) (L2.dr (st:=My.A3) ?Yj ?Yk ?Yl) (cZ KX G ?Ym) (L2.dr (st:=My.A4) ?Yn ?Yo ?Yp) (cZ KX G ?Yq) (L2.dr (st:=My.A5) ?Yr ?Ys ?Yt) (cZ KX G ?Yu) (L2.dr (st:=My.A6) ?Yv ?Yw ?Yx) (cZ KX G ?Yy) (L2.dr (st:=My.A7) ?Yz ?YA ?YB) (cZ KX G ?YC) (L2.dr (st:=My.A8) ?YD ?YE ?YF) ?EZ ?E1 ?E2 ?E3 ?E4 ?E5 ?E6 ?E7 ?E8 ?E9 ?E_ ?Fb ?Fc ?Fd ?Fe ?Ff ?Fg ?Fi ?Fj ?Fl ?Fo
   (case EY|Wz|WA|WB|WC|WD|WE|WG|WH|WI|WJ|WK|WL|WM|WN|WO|WQ|WR|WS|WT|WU|WV|WW|WX|WY|WZ|W0|W2|W3|W4|W5|W6|W7|W8|W9|W_|Xa|Xb|Xc|Xd|Xe|Xf|Xg|Xh|Xi|Xj|Xk|Xl|Xm|Xn|Xo|Xp|Xq|Xr|Xs|Xu|Xv|Xw|Xx|Xy|Xz|XA|XC|XD|XE|XF|XG|XH|XI|XJ|XM|XN|XO|XQ|XR|XS|XT|XU|XW|XX|XY|XZ|X0|X3|X4|X5|X6|X7|X8|X9|X_|Yb|Yc|Yd|Ye|Yg|Yh|Yi|Yj|Yk|Yl|Ym|Yn|Yo|Yp|Yq|Yr|Ys|Yt|Yu|Yv|Yw|Yx|Yy|Yz|YA|YB|YC|YD|YE|YF|EZ|E1|E2|E3|E4|E5|E6|E7|E8|E9|E_|Fb|Fc|Fd|Fe|Ff|Fg|Fi=>k_is)
   (case Fj=>k_exc)
   (case Fl|Fo=>kernel_rfl)
  obtain ⟨t,T⟩:=T
  have e0:=wV.symm.trans T.J_
  cases e0
  exact My.V1 T
#print axioms PySem.Challenge.cw_bandwright_k20_perfect_or_a_bare_ring_holds
