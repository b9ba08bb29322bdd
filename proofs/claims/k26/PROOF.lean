import PyProof.Rows.All
import Wide.All
import OpenK.AllK
import Wide.FinOn
import Lean
import PyProof.EqAt
import PyProof.EqKinds
import PyProof.TupleCall
import PySem.Challenge.RW_bandwright_k26_worths_of_all_parts
set_option Elab.async false
set_option linter.all false
set_option maxRecDepth 100000
abbrev bP:=@decide_eq_false
abbrev zu:=@List.getElem?_eq_none_iff
abbrev ae:=@if_pos
abbrev aa:=@if_neg
abbrev aW:=@PySem.Heap.lt_size
abbrev cY:=@Nat.lt_of_lt_of_le
abbrev dB:=@Nat.lt_irrefl
abbrev bC:=@Nat.ne_of_lt
abbrev vZ:=@PySem.W.hideAll_get
abbrev cQ:=@List.mem_filter
abbrev cx:=@List.mem_range
abbrev bf:=@Nat.le_trans
abbrev tI:=@Nat.le_of_lt
abbrev v9:=@List.filterMap_cons
abbrev cR:=@List.mem_cons_self
abbrev cV:=@List.mem_cons_of_mem
abbrev b6:=@List.mem_cons
abbrev cL:=@List.mem_append
abbrev m4:=@List.mem_append_left
abbrev bL:=@List.getElem?_eq_some_iff
abbrev v_:=@List.getElem_inj
abbrev bG:=@PySem.wpAny_mono
abbrev kD:=@PySem.wpAny_truthy_bool
abbrev eE:=@Array.length_toList
abbrev dH:=@congrArg
abbrev wa:=@PySem.wpAny_execs_nil
abbrev ao:=@PySem.wpAny_bind
abbrev gP:=@PySem.wpAny_holding
abbrev p9:=@PySem.wpAny_standAt
abbrev m5:=@PySem.wpAny_passesOwn
abbrev b7:=@Bool.false_ne_true
abbrev aI:=@PySem.wpAny_pure
abbrev zv:=@PySem.wpAny_pyIter_rangeiter
abbrev tJ:=@PySem.wpAny_pyIter_list
abbrev bQ:=@PySem.Heap.get?_push_of_some
abbrev cM:=@PySem.Heap.get?_push_size
abbrev ay:=@Nat.le_refl
abbrev tK:=@PyProof.Rows.callWith_type1
abbrev dI:=@List.mem_append_right
abbrev bH:=@Nat.zero_le
abbrev m6:=@Bool.eq_iff_iff
abbrev gQ:=@PySem.sizeLine_eq
abbrev gR:=@PySem.W.kia_one
abbrev p_:=@List.append_nil
abbrev tL:=@PySem.wpAny_Call_Name_kw
abbrev gT:=@List.nodup_cons
abbrev m7:=@List.length_take
abbrev kF:=@PySem.mem_of_lookup
abbrev gq:=@List.getElem?_append_right
abbrev gr:=@List.getElem?_append_left
abbrev bU:=@List.getElem?_map
abbrev iG:=@List.mem_of_getElem?
abbrev cS:=@List.length_append
abbrev aE:=@List.length_map
abbrev dS:=@List.length_cons
abbrev tM:=@List.length_nil
abbrev b8:=@decide_eq_true
abbrev zw:=@PySem.F.slot_tuple_add
abbrev zA:=@PySem.F.entry_tuple_add
abbrev zB:=@PySem.F.args_tuple_add_2
abbrev bM:=@List.size_toArray
abbrev qa:=@List.map_nil
abbrev cZ:=@List.map_cons
abbrev jO:=@if_true
abbrev jb:=@if_false
abbrev m8:=@List.any_cons
abbrev zC:=@PySem.Calls.callWith_builtin
abbrev qb:=@List.replicate_succ
abbrev tN:=@List.flatten_cons
abbrev l9:=@Nat.le_succ
abbrev gU:=@List.append_assoc
abbrev jP:=@List.length_singleton
abbrev zD:=@Array.getElem?_toList
abbrev cf:=@PySem.W.mg_of
abbrev gW:=@Nat.lt_of_le_of_lt
abbrev zE:=@PySem.F.typeOf_object_class
abbrev tO:=@PySem.wpAny_loadPart_at
abbrev qc:=@PySem.codeAny_builtin
abbrev qe:=@List.all_eq_true
abbrev zF:=@PySem.wpAny_comprehension_free
abbrev l_:=@PySem.wpAny_newObj_type
abbrev ma:=@PySem.lookup_relabel_local
abbrev zG:=@PySem.codeAny_compStart_list
abbrev cB:=@Int.le_of_lt
abbrev dU:=@List.getD_eq_getElem?_getD
abbrev bR:=@List.mem_singleton
abbrev dz:=@List.length_range
abbrev qf:=@List.getElem?_range
abbrev c_:=@List.getElem_mem
abbrev qg:=@Nat.pow_le_pow_right
abbrev tP:=@Nat.sub_self
abbrev gX:=@List.take_length
abbrev m9:=@List.not_mem_nil
abbrev jQ:=@Nat.lt_succ_of_lt
abbrev dJ:=@List.map_append
abbrev gu:=@List.map_congr_left
abbrev jc:=@List.ext_getElem
abbrev ar:=@PyProof.Rows.wpS_bind
abbrev gY:=@PyProof.Rows.wpS_get
abbrev aq:=@PyProof.Rows.wpS_pure
abbrev eF:=@PyProof.Rows.wpS_forRange
abbrev eR:=@PyProof.Rows.wpS_mono
abbrev tQ:=@List.pairwise_append
abbrev tR:=@List.perm_append_comm
abbrev m_:=@List.take_append_drop
abbrev zH:=@List.Perm.append_left
abbrev wb:=@List.take_of_length_le
abbrev ng:=@List.getElem_of_mem
abbrev fO:=@Int.le_refl
abbrev nh:=@List.pairwise_iff_getElem
abbrev jd:=@PyProof.Rows.wpS_modify
abbrev gZ:=@of_decide_eq_true
abbrev cC:=@Int.le_trans
abbrev md:=@Array.toList_push
abbrev jR:=@Array.toList_append
abbrev je:=@PySem.wpAny_rule
abbrev zI:=@List.pairwise_reverse
abbrev qh:=@Array.toList_reverse
abbrev me:=@List.mem_reverse
abbrev mf:=@List.reverse_perm
abbrev dC:=@Nat.zero_add
abbrev tS:=@Nat.not_lt_zero
abbrev tT:=@Nat.add_zero
abbrev qi:=@Array.perm_iff_toList_perm
abbrev bV:=@List.getElem?_eq_getElem
abbrev qj:=@decide_eq_decide
abbrev cE:=@List.map_map
abbrev mh:=@PyProof.Rows.get?_update_seq
abbrev tU:=@PySem.Heap.size_update
abbrev mj:=@PySem.Heap.get?_push_ne
abbrev ni:=@PyProof.Rows.size_push'
abbrev qk:=@PySem.Heap.get?_update_ne
abbrev qo:=@PyProof.Rows.listUpdate_at
abbrev qq:=@PySem.wpAny_newList
abbrev nj:=@Bool.false_eq_true
abbrev mq:=@PySem.wpAny_call_entry
abbrev zJ:=@List.length_eq_zero_iff
abbrev jS:=@List.nodup_range
abbrev jT:=@List.getElem_map
abbrev qr:=@List.getElem_range
abbrev qt:=@List.nodup_nil
abbrev cg:=@List.mem_map
abbrev g6:=@Int.eq_ofNat_of_zero_le
abbrev dq:=@Int.toNat_natCast
abbrev kG:=@List.take_succ
abbrev mr:=@List.pairwise_cons
abbrev kH:=@List.nodup_append
abbrev tV:=@Nat.add_sub_cancel
abbrev wc:=@List.filter_append
abbrev jU:=@List.length_filter_le
abbrev nk:=@List.pairwise_map
abbrev wd:=@List.pairwise_lt_range
abbrev qu:=@List.find?_cons
abbrev zK:=@Option.map_eq_some_iff
abbrev we:=@PySem.tupleKind_room_in1
abbrev wg:=@List.any_eq_true
abbrev fk:=@decide_eq_true_iff
abbrev wj:=@List.idxOf_lt_length_of_mem
abbrev nu:=@List.map_id
abbrev qv:=@List.perm_ext_iff_of_nodup
abbrev fu:=@List.sum_cons
abbrev nz:=@List.filter_cons
abbrev qw:=@List.idxOf_append
abbrev zL:=@Array.getElem?_eq_getElem
abbrev zM:=@List.pairwise_singleton
abbrev kJ:=@PySem.Heap.SameBut.update
abbrev wm:=@PySem.F.entry_min_loop
abbrev tW:=@PySem.Around.under_plainId
abbrev mw:=@PySem.F.plain_min_loop
abbrev tX:=@PySem.wpAny_tryCatch
abbrev tY:=@PySem.plainId_quiet
abbrev jf:=@PySem.wpAny_of_eq
abbrev fP:=@Int.zero_add
abbrev qy:=@List.map_eq_nil_iff
abbrev zN:=@Classical.byContradiction
abbrev zO:=@PySem.F.slot_range_reversed
abbrev tZ:=@PySem.size_of_entries
abbrev nC:=@PySem.wpAny_dictEntries
abbrev t5:=@PySem.wpAny_dictEpoch
abbrev t6:=@PySem.F.slot_dict_valueiterator_next
abbrev wq:=@PySem.wpAny_typeNameOfWhole_valiter
abbrev wu:=@PySem.wpAny_typeNameOf_valiter
abbrev zP:=@PySem.wpAny_isOneOf_valiter
abbrev kK:=@Nat.add_le_add_left
abbrev dD:=@PySem.PassesOwn.never
abbrev iH:=@PySem.boot_len
abbrev gv:=@PySem.F.plainAttrs_list
abbrev zQ:=@PySem.F.slot_list_pop
abbrev zR:=@PySem.F.type_list_pop
abbrev jV:=@PySem.F.slot_list_append
abbrev jW:=@PySem.F.type_list_append
abbrev qz:=@PyProof.Rows.boot_sorted
abbrev kL:=@Int.emod_nonneg
abbrev nE:=@Int.emod_lt_of_pos
abbrev wx:=@Int.ediv_nonneg
abbrev t7:=@Nat.mul_le_mul
abbrev eU:=@PySem.W.mg_none_of
abbrev Ts:=List (List (Int×Int))
abbrev aA:=List (Int×Int)
abbrev Tx:=Nat→Nat→Int
abbrev cN:=PySem.Str→Option PySem.Value
abbrev aF:=PySem.Value→PySem.Shared→Prop
abbrev aG:=PySem.W.Frag
abbrev aO:=List (PySem.Addr×PySem.Obj)
namespace L2
open PySem PySem.Spec PyProof.Rows
abbrev Key:=Sum Int Str
def nG:Key→Value→Bool
 | .inl k,v=>Value.isInt k v
 | .inr x,v=>Value.isStrOf x v
def Jb(w:World):Key→Int
 | .inl k=>hashInt k
 | .inr x=>hashStr w x
theorem jX:∀{k:Key} {v:Value},nG k v=true→(∃i t,k=Sum.inl i∧v=Value.int i t)∨(∃x t,k=Sum.inr x∧v=Value.str x t)
 | .inl i,v,h=>by obtain ⟨t,e⟩:=Value.isInt_shape (k:=i) (v:=v) h;exact .inl ⟨i,t,rfl,e⟩
 | .inr x,v,h=>by obtain ⟨t,e⟩:=Value.isStrOf_shape (x:=x) (v:=v) h;exact .inr ⟨x,t,rfl,e⟩
theorem Jc(i:Int)(t:Tok):nG (.inl i) (.int i t)=true:=by simp [nG,Value.isInt]
theorem Jd(x:Str)(t:Tok):nG (.inr x) (.str x t)=true:=by simp [nG,Value.isStrOf]
theorem Je(a b:Int):decide ((Sum.inl a:Key)=Sum.inl b)=(a == b):=by
 by_cases e:a=b;·subst e;simp
 ·have h:¬(Sum.inl a:Key)=Sum.inl b:=fun q=>e (Sum.inl.inj q)
  rw [bP h];exact (beq_eq_false_iff_ne.mpr e).symm
theorem Jf(a b:Str):decide ((Sum.inr a:Key)=Sum.inr b)=decide (a=b):=by
 by_cases e:a=b;·subst e;simp
 ·have h:¬(Sum.inr a:Key)=Sum.inr b:=fun q=>e (Sum.inr.inj q)
  rw [bP h,bP e]
theorem Jg(a:Int)(b:Str):decide ((Sum.inl a:Key)=Sum.inr b)=false:=bP (fun q=>nomatch q)
theorem Jh(a:Str)(b:Int):decide ((Sum.inr a:Key)=Sum.inl b)=false:=bP (fun q=>nomatch q)
def eV(prog:Program)(w:World):PySem.KeyKind prog w Key where
 is:=nG
 hash:=Jb w
 inj:=fun v a b ha hb=>by
  rcases jX ha with ⟨i,t,rfl,rfl⟩ | ⟨x,t,rfl,rfl⟩
  ·rcases jX hb with ⟨j,u,rfl,e⟩ | ⟨y,u,rfl,e⟩
   ·injection e with e1 _;rw [e1]
   ·exact nomatch e
  ·rcases jX hb with ⟨j,u,rfl,e⟩ | ⟨y,u,rfl,e⟩
   ·exact nomatch e
   ·injection e with e1 _;rw [e1]
 byValue:=fun k v h=>by
  rcases jX h with ⟨i,t,rfl,rfl⟩ | ⟨x,t,rfl,rfl⟩ <;> rfl
 pyHash:=fun hv h=>by
  rcases jX hv with ⟨i,t,rfl,rfl⟩ | ⟨x,t,rfl,rfl⟩
  ·exact wpAny_pyHash_int h
  ·exact wpAny_pyHash_str h
 eqBool:=fun hu hv h=>by
  rcases jX hu with ⟨i,t,rfl,rfl⟩ | ⟨x,t,rfl,rfl⟩
  ·rcases jX hv with ⟨j,u,rfl,rfl⟩ | ⟨y,u,rfl,rfl⟩
   ·rw [Je] at h;exact wpAny_eqBool_int h
   ·rw [Jg] at h;exact SeqAt.EqAt.int_str i t y u _ _ _ _ h
  ·rcases jX hv with ⟨j,u,rfl,rfl⟩ | ⟨y,u,rfl,rfl⟩
   ·rw [Jh] at h;exact SeqAt.EqAt.str_int x t j u _ _ _ _ h
   ·rw [Jf] at h;exact wpAny_eqBool_str h
 «strs»:=fun k x t v h=>by
  rcases jX h with ⟨i,u,rfl,e⟩ | ⟨y,u,rfl,e⟩
  ·exact nomatch e
  ·injection e with e1 _
   subst e1
   cases v <;> rfl
theorem Ji(prog:Program)(w:World)(i:Int)(t:Tok):(eV prog w).is (.inl i) (.int i t)=true:=Jc i t
theorem Jj(prog:Program)(w:World)(x:Str)(t:Tok):(eV prog w).is (.inr x) (.str x t)=true:=Jd x t
inductive V where
 | aP | bl (b:Bool) | int (i:Int) | str (x:Str) | jg (b:Array UInt8) | qA (b:UInt64) | ref (a:Addr) | ty (n:String)
 deriving DecidableEq
def RelV:V→Value→Prop
 | .aP,u=>u=Value.none
 | .bl b,u=>u=Value.bool b
 | .int i,u=>∃t,u=Value.int i t
 | .str x,u=>∃t,u=Value.str x t
 | .jg b,u=>∃t,u=Value.bytes b t
 | .qA b,u=>∃t,u=Value.float b t
 | .ref a,u=>u=Value.ref a
 | .ty n,u=>u=Value.type n
abbrev Vals:List V→List Value→Prop:=Paired RelV
variable {xs:List V} {us:List Value}
theorem Vals.length(r:Vals xs us):xs.length=us.length:=Paired.length r
theorem Vals.get:∀{xs:List V} {us:List Value} {i:Nat} {x:V},Vals xs us→xs[i]?=some x→∃u,us[i]?=some u∧RelV x u
 | _,_,_,_,.nil,e=>by simp at e
 | _,_,0,_,.cons r _,e=>by simp at e;subst e;exact ⟨_,rfl,r⟩
 | _,_,i+1,x,.cons _ t,e=>by
  obtain ⟨u,h1,h2⟩:=Vals.get (i:=i) (x:=x) t (by simpa using e)
  exact ⟨u,by simpa using h1,h2⟩
theorem Vals.set{x:V}{u:Value}(r:RelV x u):∀{xs:List V} {us:List Value} (i:Nat),Vals xs us→Vals (xs.set i x) (us.set i u)
 | _,_,_,.nil=>.nil
 | _,_,0,.cons _ t=>.cons r t
 | _,_,i+1,.cons q t=>.cons q (Vals.set r i t)
theorem Vals.append:∀{xs ys:List V} {us ws:List Value},Vals xs us→Vals ys ws→Vals (xs++ys) (us++ws)
 | _,_,_,_,.nil,s=>s
 | _,_,_,_,.cons r t,s=>.cons r (Vals.append t s)
theorem Vals.take:∀{xs:List V} {us:List Value} (n:Nat),Vals xs us→Vals (xs.take n) (us.take n)
 | _,_,0,_=>.nil
 | _,_,_+1,.nil=>.nil
 | _,_,n+1,.cons r t=>.cons r (Vals.take n t)
theorem Vals.drop:∀{xs:List V} {us:List Value} (n:Nat),Vals xs us→Vals (xs.drop n) (us.drop n)
 | _,_,0,r=>r
 | _,_,_+1,.nil=>.nil
 | _,_,n+1,.cons _ t=>Vals.drop n t
theorem Vals.none_of:∀{xs:List V} {us:List Value} {i:Nat},Vals xs us→xs[i]?=none→us[i]?=none:=fun{xs us i} r e=>by have h1:=r.length;have h2:xs.length≤i:=zu.mp e;exact zu.mpr (by omega)
def iI:Option V→Option Value→Prop
 | some v,some u=>RelV v u
 | none,none=>True
 | _,_=>False
def KV{κ:Type}:List (κ×V)→List (κ×Value)→Prop:=Paired fun(p:κ×V) (q:κ×Value)=>p.1=q.1∧RelV p.2 q.2
def kV:Key→V
 | .inl i=>.int i
 | .inr x=>.str x
inductive HO where
 | lst (xs:List V)
 | tup (xs:List V)
 | dK (kvs:List (Key×V)) | dT (kvs:List (List Key×V))
 | set (S:Int→Bool) (n:Nat)
 | ins (C dx:Addr) (fs:List (Str×V))
 | own (x:Addr)
 | xd (fs:List (Str×V))
 | met (f x:Addr)
 | g7 (lo hi:Int)
 | aX (o:Obj) (u:HO)
 | kM (ps:Array Value)
 | ext (φ:Heap→Prop)
abbrev Hp:=Addr→Option HO
def upd(H:Hp)(a:Addr)(o:HO):Hp:=fun b=>if b=a then some o else H b
variable {H:Hp} {a:Addr} {o:HO}
theorem aw:upd H a o a=some o:=by unfold upd;rw [ae rfl]
variable {b:Addr}
theorem aB(h:b≠a):upd H a o b=H b:=by unfold upd;rw [aa h]
theorem Jk{u:HO}(h:H a=some o)(h':H b=some u)(d:o≠u):a≠b:=by intro e;subst e;rw [h] at h';exact d (Option.some.inj h')
theorem jY(h:H a=some o)(h':H b=none):a≠b:=by intro e;subst e;rw [h] at h';cases h'
section
variable (P:Program) (w:World)
def bI(H:Hp)(h:Heap)(a:Addr):HO→Prop
 | .lst xs=>xs.length≤sizeLine∧∃(ai:List Value) (n:Nat),Vals xs ai∧h.get? a=some {cls:=.type "list",data:=.seq ai.toArray n}
 | .tup xs=>xs.length≤sizeLine∧∃ai:List Value,Vals xs ai∧IsTup h a ai.toArray
 | .dK kvs=>kvs.length≤sizeLine∧(a == sysModules)=false∧∃vs,KV kvs vs∧h.DictOf (eV P w) a vs
 | .dT kvs=>kvs.length≤sizeLine∧(a == sysModules)=false∧∃xs:List (List Key×Addr×Value),
   Paired (fun(p:List Key×V) (q:List Key×Addr×Value)=>p.1=q.1∧H q.2.1=some (.tup (p.1.map kV))∧RelV p.2 q.2.2) kvs xs ∧
   ∃o es ep,h.get? a=some o∧o.ExactDict∧o.data=.dict es ep∧es.toList=xs.map (entryOfKey (tupleKind (eV P w)))∧(xs.map (·.1)).Nodup
 | .set S n=>h.SetOf (intKind P w) a S n
 | .ins C dx fs=>H dx=some (.own a)∧fs.length≤1000∧dx≠a∧h.get? a=some (PySem.W.instObj C dx) ∧
   ∃mA,h.Ns1 dx mA∧(∀f,iI (fs.lookup f) (mA f))∧PySem.Within mA (fs.map (·.1))
 | .own _=>∃o,h.get? a=some o
 | .xd fs=>∃mA,h.Ns1 a mA∧∀f,iI (fs.lookup f) (mA f)
 | .g7 lo hi=>∃t u v,h.get? a=some {cls:=.type "range",data:=.fields #[.int lo t,.int hi u,.int 1 v]}
 | .aX o u=>h.get? a=some o∧bI H h a u
 | .kM ps=>h.get? a=some {cls:=.none,data:=.fields ps}
 | .met f x=>h.get? a=some (PySem.W.methodObj (.ref f) (.ref x))
 | .ext φ=>φ h∧(∃o,h.get? a=some o)∧∀h1 h2:Heap,φ h1→(∀o,h1.get? a=some o→h2.get? a=some o)→φ h2
def bY(H:Hp)(h:Heap):Prop:=∀a o,H a=some o→bI P w H h a o
end
section
variable {P:Program} {w:World} {H H':Hp} {h h':Heap} {a:Addr} {o:HO}
theorem bI.lt(x:bI P w H h a o):a<h.objs.size:=by
 cases o with
 | lst xs=>obtain ⟨_,_,_,_,e⟩:=x;exact aW e
 | tup xs=>obtain ⟨_,_,_,p⟩:=x;exact p.lt
 | dK kvs=>obtain ⟨_,_,_,_,o,_,_,e,_⟩:=x;exact aW e
 | dT kvs=>obtain ⟨_,_,_,_,o,_,_,e,_⟩:=x;exact aW e
 | set S n=>obtain ⟨o,_,_,_,e,_⟩:=x;exact aW e
 | ins C dx fs=>obtain ⟨_,_,_,e,_⟩:=x;exact aW e
 | own y=>obtain ⟨_,e⟩:=x;exact aW e
 | xd fs=>obtain ⟨_,⟨_,_,_,e,_⟩,_⟩:=x;exact aW e
 | g7 lo hi=>obtain ⟨_,_,_,e⟩:=x;exact aW e
 | aX ob u=>obtain ⟨e,_⟩:=x;exact aW e
 | kM ps=>exact aW (show h.get? a=some _ from x)
 | met f y=>exact aW (show h.get? a=some _ from x)
 | ext φ=>obtain ⟨_,⟨_,e⟩,_⟩:=x;exact aW e
theorem Paired.wA{α β:Type}{F G:α→β→Prop}:∀{l₁:List α} {l₂:List β},Paired F l₁ l₂→(∀a b,F a b→G a b)→Paired G l₁ l₂
 | _,_,.nil,_=>.nil
 | _,_,.cons r t,f=>.cons (f _ _ r) (Paired.wA t f)
theorem bI.g8(x:bI P w H h a o)(k:∀b u,(b=a∨H b=some (.own a))→h.get? b=some u→h'.get? b=some u)
  (ho:∀b,H b=some (.own a)→H' b=some (.own a)) (ht:∀b xs,H b=some (.tup xs)→H' b=some (.tup xs)):bI P w H' h' a o:=by
 induction o with
 | lst xs=>obtain ⟨z,ai,n,r,e⟩:=x;exact ⟨z,ai,n,r,k _ _ (.inl rfl) e⟩
 | tup xs=>obtain ⟨z,ai,r,ob,e,c⟩:=x;exact ⟨z,ai,r,ob,k _ _ (.inl rfl) e,c⟩
 | dK kvs=>obtain ⟨z,y,vs,r,ob,es,ep,e,c⟩:=x;exact ⟨z,y,vs,r,ob,es,ep,k _ _ (.inl rfl) e,c⟩
 | dT kvs=>obtain ⟨z,y,xs,r,ob,es,ep,e,c⟩:=x;exact ⟨z,y,xs,Paired.wA r fun p q z=>⟨z.1,ht _ _ z.2.1,z.2.2⟩,ob,es,ep,k _ _ (.inl rfl) e,c⟩
 | set S n=>obtain ⟨ob,es,ep,t,e,c⟩:=x;exact ⟨ob,es,ep,t,k _ _ (.inl rfl) e,c⟩
 | ins C dx fs=>obtain ⟨d,z,ne,e,mA,⟨od,es,ep,e2,c⟩,r⟩:=x;exact ⟨ho _ d,z,ne,k _ _ (.inl rfl) e,mA,⟨od,es,ep,k _ _ (.inr d) e2,c⟩,r⟩
 | own y=>obtain ⟨ob,e⟩:=x;exact ⟨ob,k _ _ (.inl rfl) e⟩
 | xd fs=>obtain ⟨mA,⟨od,es,ep,e,c⟩,r⟩:=x;exact ⟨mA,⟨od,es,ep,k _ _ (.inl rfl) e,c⟩,r⟩
 | g7 lo hi=>obtain ⟨t,u,v,e⟩:=x;exact ⟨t,u,v,k _ _ (.inl rfl) e⟩
 | aX ob u ih=>obtain ⟨e,q⟩:=x;exact ⟨k _ _ (.inl rfl) e,ih q⟩
 | kM ps=>have e:h.get? a=some {cls:=.none,data:=.fields ps}:=x;show h'.get? a=some {cls:=.none,data:=.fields ps};exact k a _ (.inl rfl) e
 | met f y=>have e:h.get? a=some (PySem.W.methodObj (.ref f) (.ref y)):=x;show h'.get? a=some (PySem.W.methodObj (.ref f) (.ref y));exact k a _ (.inl rfl) e
 | ext φ=>obtain ⟨p,⟨o,e⟩,st⟩:=x;exact ⟨st _ _ p fun o q=>k _ _ (.inl rfl) q,⟨o,k _ _ (.inl rfl) e⟩,st⟩
theorem bY.lt(x:bY P w H h)(e:H a=some o):a<h.objs.size:=(x a o e).lt
theorem bY.fresh(x:bY P w H h)(e:h.objs.size≤a):H a=none:=by
 cases q:H a with
 | none=>rfl
 | some u=>exact absurd (cY (x.lt q) e) (dB _)
theorem bY.kept(x:bY P w H h)(k:∀b u,h.get? b=some u→h'.get? b=some u):bY P w H h':=fun a o e=>(x a o e).g8 (fun b u _ q=>k b u q) (fun _ q=>q) fun _ _ q=>q
theorem bY.laid(x:bY P w H h)(k:∀b u,h.get? b=some u→h'.get? b=some u)(hp:h.objs.size≤a)(new:bI P w (upd H a o) h' a o):bY P w (upd H a o) h':=fun b u e=>by
 have hn:=x.fresh hp;by_cases hb:b=a;·subst hb;rw [aw] at e;cases e;exact new
 ·rw [aB hb] at e
  exact (x b u e).g8 (fun c v _ q=>k c v q) (fun c q=>by rw [aB (jY q hn)];exact q) fun c xs q=>by rw [aB (jY q hn)];exact q
end
def Rd(H:Hp)(a:Addr)(u:HO):Prop:=H a=some u∨∃o,H a=some (.aX o u)
variable {P:Program} {w:World} {h:Heap}
theorem Rd.ok{u:HO}(r:Rd H a u)(x:bY P w H h):bI P w H h a u:=by
 rcases r with r | ⟨o,r⟩;·exact x a u r
 ·obtain ⟨_,q⟩:=x a _ r
  exact q
def t8:Option HO→Prop
 | some (.lst _)=>True
 | some (.dK _)=>True
 | some (.dT _)=>True
 | some (.set _ _)=>True
 | some (.ins _ _ _)=>True
 | some (.ext _)=>True
 | _=>False
section
variable {P:Program} {w:World} {H:Hp} {h h':Heap} {x e:Addr} {o':HO}
theorem bY.write(ok:bY P w H h)(mu:t8 (H x))(he:e=x∨H e=some (.own x))(k:∀b u,b≠e→h.get? b=some u→h'.get? b=some u)(qB:∃u,h'.get? e=some u)
  (new:bI P w (upd H x o') h' x o'):bY P w (upd H x o') h':=fun b u q=>by
 have CZ:∀c y,H c=some (.own y)→c≠x:=fun c y r z=>by subst z;rw [r] at mu;exact mu
 have Jl:∀c xs,H c=some (.tup xs)→c≠x:=fun c xs r z=>by subst z;rw [r] at mu;exact mu
 by_cases hb:b=x;·subst hb;rw [aw] at q;cases q;exact new
 ·rw [aB hb] at q
  by_cases nH:b=e
  ·have q':H b=some (.own x):=by
    rcases he with z | z;·exact absurd (nH.trans z) hb
    ·rw [nH];exact z
   rw [q] at q';cases q';obtain ⟨v,hv⟩:=qB;exact ⟨v,by rw [nH];exact hv⟩
  ·refine (ok b u q).g8 (fun c v hc r=>k c v ?_ r) (fun c r=>by rw [aB (CZ c b r)];exact r) fun c xs r=>by rw [aB (Jl c xs r)];exact r
   rcases hc with rfl | hc;·exact nH
   ·rintro rfl
    rcases he with z | z;·exact CZ c b hc z
    ·rw [hc] at z;cases z;exact hb rfl
end
structure Un (fs ex:List Addr) (H H':Hp) (h h':Heap):Prop where
 keep:∀b o,h.get? b=some o→H b=none→b∉fs→b∉ex→h'.get? b=some o
 slot:∀b o,h.get? b=some o→H b=none→b∈fs→b∉ex→∃sl,h'.get? b=some {o with slots:=sl}
 free:∀b o,h.get? b=some o→H b=none→b∉ex→H' b=none
 there:∀b o,h.get? b=some o→b∉ex→∃o',h'.get? b=some o'
 fv:∀b xs,H b=some (.tup xs)→H' b=some (.tup xs)
 eG:∀b o u,H b=some (.aX o u)→H' b=some (.aX o u)
 fz:∀b ps,H b=some (.kM ps)→∃more,H' b=some (.kM (ps++more))
section
variable {fs zS ex zT:List Addr} {H H1 H2:Hp} {h h1 h2 h':Heap} {a x e:Addr} {o:HO}
theorem Un.any(u:Un fs ex H H1 h h1){ob:Obj}(q:h.get? b=some ob)(n:H b=none)(hx:b∉ex):∃sl,h1.get? b=some {ob with slots:=sl}:=by
 by_cases hb:b∈fs;·exact u.slot b ob q n hb hx
 ·exact ⟨ob.slots,u.keep b ob q n hb hx⟩
theorem Un.kept(k:∀b u,h.get? b=some u→h'.get? b=some u):Un fs ex H H h h':=
 ⟨fun b ob q _ _ _=>k b ob q,fun b ob q _ _ _=>⟨ob.slots,k b ob q⟩,fun _ _ _ n _=>n,fun b ob q _=>⟨ob,k b ob q⟩,fun _ _ q=>q,fun _ _ _ q=>q,fun _ ps q=>⟨#[],by rw [q];simp⟩⟩
theorem Un.refl:Un fs ex H H h h:=Un.kept fun _ _ q=>q
theorem Un.laid(k:∀b u,h.get? b=some u→h'.get? b=some u)(hp:h.objs.size≤a)(hn:H a=none):Un fs ex H (upd H a o) h h' where
 keep:=fun b u q _ _ _=>k b u q
 slot:=fun b u q _ _ _=>⟨u.slots,k b u q⟩
 free:=fun b u q n _=>by rw [aB (bC (cY (aW q) hp))];exact n
 there:=fun b u q _=>⟨u,k b u q⟩
 fv:=fun b xs q=>by rw [aB (jY q hn)];exact q
 eG:=fun b u xs q=>by rw [aB (jY q hn)];exact q
 fz:=fun b ps q=>⟨#[],by rw [aB (jY q hn),q];simp⟩
theorem Un.write(mu:t8 (H x))(he:e=x∨H e=some (.own x))(k:∀b u,b≠e→h.get? b=some u→h'.get? b=some u)(qB:∃u,h'.get? e=some u):Un fs ex H (upd H x o) h h':=by
 have hx:∀b,H b=none→b≠x:=fun b n z=>by subst z;rw [n] at mu;exact mu
 have hb:∀b,H b=none→b≠e:=fun b n z=>by
  subst z;rcases he with r | r;·exact hx b n r
  ·rw [n] at r;cases r
 have hm:∀b u,H b=some u→¬t8 (some u)→b≠x:=fun b u q nm z=>by subst z;rw [q] at mu;exact nm mu
 refine ⟨fun b u q n _ _=>k b u (hb b n) q,fun b u q n _ _=>⟨u.slots,k b u (hb b n) q⟩,fun b u q n _=>by rw [aB (hx b n)];exact n,fun b u q _=>?_,
  fun b xs q=>by rw [aB (hm b _ q fun z=>z)];exact q,fun b u xs q=>by rw [aB (hm b _ q fun z=>z)];exact q,fun b ps q=>⟨#[],by rw [aB (hm b _ q fun z=>z),q];simp⟩⟩
 by_cases nH:b=e;·subst nH;exact qB
 ·exact ⟨u,k b u nH q⟩
end
def wB(h:Heap)(H:Hp):List Addr:=(List.range h.objs.size).filter fun a=>(H a).isSome
def kN(h:Heap)(H:Hp):Heap:=PySem.W.hideAll h (wB h H)
theorem Jm(h:Heap)(H:Hp):(kN h H).objs.size=h.objs.size:=PySem.W.hideAll_size _ _
theorem Jn{o:Obj}(e:h.get? b=some o)(n:H b=none):(kN h H).get? b=some o:=
 vZ _ e fun hm=>by have q:(H b).isSome=true:=(cQ.mp hm).2;rw [n] at q;simp at q
theorem Jo{o:Obj}(e:(kN h H).get? b=some o):h.get? b=some o∧H b=none:=by
 have e':h.get? b=some o:=PySem.W.of_hideAll (wB h H) e;refine ⟨e',?_⟩;cases q:H b with
 | none=>rfl
 | some x=>
  have hm:b∈wB h H:=cQ.mpr ⟨cx.mpr (aW e'),by simp [q]⟩
  have z:(kN h H).get? b=none:=PySem.W.hideAll_none (wB h H) hm;rw [z] at e;cases e
structure Mod (K:aG) (mg:cN) (base:Heap):Prop where
 cO:K.In base
 glob:base.Ns mainGlobals mg
 blt:∃mb,base.Ns builtinsNs mb∧∀x:Str,x ≠ "__name__"→mb x=bootBuiltins x
 nolimit:base.NoLimit
structure Cx where
 prog:Program
 w:World
 K:PySem.W.Frag
 mg:Str→Option Value
 base:Heap
 A:Around
 N:List Str
 s₀:Shared
 H₀:Hp
 env:Env
 outer:List Env
 stack:List Env
 ex:List Addr
 fn:Str→Bool
 calm:Bool
 pn:List (Addr×Obj)
 xe:Value→Shared→Prop
def cm(l:List Env):List Addr:=l.filterMap (·.frame)
abbrev Cx.fs (X:Cx):List Addr:=cm X.outer
def nI(sc:Scope)(x:Str):Prop:=sc.names.lookup x=some .local∨sc.names.lookup x=some .cell∨sc.names.lookup x=some .free
def Loc(sc:Scope)(x:Str):Prop:=sc.names.lookup x=some .local∨sc.names.lookup x=some .cell
def Look(env:Env)(h:Heap)(m:cN)(x:Str)(u:Value):Prop:=
 (env.kindOf x=some .local∧m x=some u)∨((env.kindOf x=some .cell∨env.kindOf x=some .free)∧∃c,env.cells.lookup x=some c∧h.IsCell c (some u))
structure Cx.Ok (X:Cx):Prop where
 mod:Mod X.K X.mg X.base
 kind:X.env.scope.kind=.function
 glob:X.env.globals=mainGlobals
 blt:X.env.builtins=builtinsNs
 above:X.s₀.heap.objs.size≤X.env.locals
 inj:∀x y c,X.env.cells.lookup x=some c→X.env.cells.lookup y=some c→x=y
 has:∀x,(X.env.kindOf x=some .cell∨X.env.kindOf x=some .free)→∃c,X.env.cells.lookup x=some c
 t9:∀x c,X.fn x=true→X.env.cells.lookup x=some c→X.s₀.heap.objs.size≤c
 hd:X.calm=true→X.A.handled=none
 frames:X.A.frames=some X.stack
 g9:X.stack=X.outer∨(X.stack=X.env::X.outer∧X.env.frame=some X.env.locals)
 C0:∀b∈X.ex,b≠X.env.locals∧∀x c,X.env.cells.lookup x=some c→c≠b
 bs:∀b o,X.base.get? b=some o→X.s₀.heap.get? b=some o∧X.H₀ b=none
 iJ:X.base.objs.size≤X.s₀.heap.objs.size
 nJ:∀b o,X.base.get? b=some o→b∉X.ex
 nK:∀b∈X.ex,b∉X.fs
 jh:X.s₀.heap.FunFrames X.base X.outer
 my:∀b∈X.fs,X.H₀ b=none
structure Inv (X:Cx) (pins:aO) (σ:List (Option V)) (H:Hp) (s:Shared):Prop where
 ok:X.Ok
 os:s.os=X.s₀.os
 bare:AllBare s.gens
 base:Un X.fs X.ex X.H₀ H X.s₀.heap s.heap
 loc:∃m,s.heap.Ns X.env.locals m∧∀(i:Nat) (x:Str) (v:V),X.N[i]?=some x→σ[i]?=some (some v)→nI X.env.scope x→∃u,RelV v u∧Look X.env s.heap m x u
 cell:∀x c,X.env.cells.lookup x=some c→∃v,s.heap.IsCell c v
 free:H X.env.locals=none
 g_:∀x c,X.env.cells.lookup x=some c→H c=none
 pin:∀p∈X.pn++pins,s.heap.get? p.1=some p.2∧H p.1=none∧p.1≠X.env.locals∧p.1∉X.fs∧∀v,p.2.data≠.cell v
 ax:bY X.prog X.w H s.heap
 len:σ.length=X.N.length
section
variable {X:Cx} {pins:aO} {σ:List (Option V)} {H H':Hp} {s:Shared} {h':Heap}
theorem Cx.Ok.Jp(ok:X.Ok){o:Obj}(e:X.base.get? b=some o):b∉X.fs:=fun hb=>by have:=(ok.jh.mem hb).1;rw [e] at this;cases this
theorem Inv.bs(I:Inv X pins σ H s):∀b o,X.base.get? b=some o→s.heap.get? b=some o∧H b=none:=fun b o e=>⟨I.base.keep b o (I.ok.bs b o e).1 (I.ok.bs b o e).2 (I.ok.Jp e) (I.ok.nJ b o e),I.base.free b o (I.ok.bs b o e).1 (I.ok.bs b o e).2 (I.ok.nJ b o e)⟩
theorem Inv.bk(I:Inv X pins σ H s):∀b o,X.base.get? b=some o→s.heap.get? b=some o:=fun b o e=>(I.bs b o e).1
theorem Inv.mod(I:Inv X pins σ H s):Mod X.K X.mg X.base:=I.ok.mod
theorem Inv.ei(I:Inv X pins σ H s):X.K.In s.heap:=I.ok.mod.cO.keeps I.bk
theorem Inv.lt(I:Inv X pins σ H s):X.env.locals<s.heap.objs.size:=let ⟨_,hn,_⟩:=I.loc;hn.lt
theorem Inv.sz(I:Inv X pins σ H s):X.s₀.heap.objs.size≤s.heap.objs.size:=bf I.ok.above (tI I.lt)
theorem Inv.Jq(I:Inv X pins σ H s)(h:s.heap.objs.size≤a):a∉X.fs:=fun hb=>by obtain ⟨_,o,ho,_⟩:=I.ok.jh.mem hb;exact absurd (cY (aW ho) (bf I.sz h)) (dB _)
theorem Inv.nM(I:Inv X pins σ H s):∀x c,X.env.cells.lookup x=some c→c≠X.env.locals:=fun x c e z=>by obtain ⟨v,o,ho,hd⟩:=I.cell x c e;obtain ⟨m,⟨o',es,ep,kO,Jr,_⟩,_⟩:=I.loc;rw [z,kO] at ho;cases ho;rw [Jr] at hd;cases hd
theorem Inv.jh(I:Inv X pins σ H s):s.heap.FunFrames X.base X.outer:=by
 have all:∀(l:List Env),(∀b∈cm l,b∈X.fs)→X.s₀.heap.FunFrames X.base l→s.heap.FunFrames X.base l:=by
  intro l
  induction l with
  | nil=>intro _ _;trivial
  | cons env r ih=>
   intro hs hl;obtain ⟨hk,⟨L,o,hf,hn,ho,hd⟩,hr⟩:=hl;have hL:L∈X.fs:=hs L (by unfold cm;rw [v9,hf];exact cR)
   obtain ⟨sl,e⟩:=I.base.slot L o ho (I.ok.my L hL) hL fun z=>I.ok.nK L z hL;exact ⟨hk,⟨L,_,hf,hn,e,hd⟩,ih (fun b hb=>hs b (by unfold cm;rw [v9,hf];exact cV _ hb)) hr⟩
 exact all X.outer (fun _ hb=>hb) I.ok.jh
theorem Inv.stack(I:Inv X pins σ H s):s.heap.FunFrames X.base X.stack:=by
 rcases I.ok.g9 with e | ⟨e,hf⟩;·rw [e];exact I.jh
 ·rw [e]
  obtain ⟨m,hn,_⟩:=I.loc;refine .cons (by rw [I.ok.kind];decide) hf hn ?_ I.jh
  exact Heap.get?_none_of_le (bf I.ok.iJ I.ok.above)
theorem Inv.t_(I:Inv X pins σ H s):∀b∈cm X.stack,b∈X.env.locals::X.fs:=fun b hb=>by
 rcases I.ok.g9 with e | ⟨e,hf⟩;·rw [e] at hb;exact cV _ hb
 ·rw [e] at hb
  unfold cm at hb;rw [v9,hf] at hb;exact hb
theorem Inv.ua(I:Inv X pins σ H s):∀b∈cm X.stack,H b=none:=fun b hb=>by
 rcases b6.mp (I.t_ b hb) with e | hb;·rw [e];exact I.free
 ·obtain ⟨_,o,ho,_⟩:=I.ok.jh.mem hb
  exact I.base.free b o ho (I.ok.my b hb) fun z=>I.ok.nK b z hb
variable {g':Array GenState} {t':Nat} {d':Drawn} {ch:List Addr}
theorem Inv.step(I:Inv X pins σ H s)
  (jZ:∀b∈ch,(b∈X.ex∨X.s₀.heap.objs.size≤b)∧b≠X.env.locals∧(∀x c,X.env.cells.lookup x=some c→c≠b)∧∀p∈X.pn++pins,p.1≠b)
  (keep:∀b o,b≠X.env.locals→b∉X.fs→b∉ch→s.heap.get? b=some o→H b=none→h'.get? b=some o)
  (slot:∀b o,b≠X.env.locals→b∈X.fs→b∉ch→s.heap.get? b=some o→H b=none→∃sl,h'.get? b=some {o with slots:=sl}) (free:∀b o,b∉ch→s.heap.get? b=some o→H b=none→H' b=none)
  (there:∀b o,b∉ch→s.heap.get? b=some o→∃o',h'.get? b=some o')
  (fv:∀b xs,H b=some (.tup xs)→H' b=some (.tup xs)) (eG:∀b o u,H b=some (.aX o u)→H' b=some (.aX o u)) (fz:∀b ps,H b=some (.kM ps)→∃more,H' b=some (.kM (ps++more)))
  (ns:∀m,s.heap.Ns X.env.locals m→h'.Ns X.env.locals m) (ax:bY X.prog X.w H' h') (hg:AllBare g') :
  Inv X pins σ H' {s with heap:=h',gens:=g',drawn:=d',toks:=t'}:=by
 have C1:∀b o,X.s₀.heap.get? b=some o→b≠X.env.locals:=fun b o e=>bC (cY (aW e) I.ok.above);have wC:∀b o,X.s₀.heap.get? b=some o→b∉X.ex→b∉ch:=fun b o e hx hb=>by
  rcases (jZ b hb).1 with z | z;·exact hx z
  ·exact absurd (cY (aW e) z) (dB _)
 have cellK:∀x c,X.env.cells.lookup x=some c→∀v,s.heap.IsCell c v→h'.IsCell c v:=fun x c e v ⟨o,ho,hd⟩=>by
  have ub:c∉ch:=fun z=>(jZ c z).2.2.1 x c e rfl;by_cases hc:c∈X.fs
  ·obtain ⟨sl,q⟩:=slot c o (I.nM x c e) hc ub ho (I.g_ x c e)
   exact ⟨_,q,hd⟩
  ·exact ⟨o,keep c o (I.nM x c e) hc ub ho (I.g_ x c e),hd⟩
 refine ⟨I.ok,I.os,hg,⟨fun b o e n hb hx=>?_,fun b o e n hb hx=>?_,fun b o e n hx=>?_,fun b o e hx=>?_,fun b xs e=>fv b xs (I.base.fv b xs e),fun b o xs e=>eG b o xs (I.base.eG b o xs e),fun b ps e=>?_⟩,?_,fun x c e=>?_,?_,fun x c e=>?_,fun p hp=>?_,ax,I.len⟩;·exact keep b o (C1 b o e) hb (wC b o e hx) (I.base.keep b o e n hb hx) (I.base.free b o e n hx)
 ·obtain ⟨sl,e1⟩:=I.base.slot b o e n hb hx
  obtain ⟨Js,e2⟩:=slot b _ (C1 b o e) hb (wC b o e hx) e1 (I.base.free b o e n hx);exact ⟨Js,e2⟩
 ·obtain ⟨o',e1⟩:=I.base.there b o e hx
  exact free b o' (wC b o e hx) e1 (I.base.free b o e n hx)
 ·obtain ⟨o',e1⟩:=I.base.there b o e hx
  exact there b o' (wC b o e hx) e1
 ·obtain ⟨m1,e1⟩:=I.base.fz b ps e
  obtain ⟨m2,e2⟩:=fz b _ e1;exact ⟨m1++m2,by rw [e2,Array.append_assoc]⟩
 ·obtain ⟨m,hn,hl⟩:=I.loc
  refine ⟨m,ns m hn,fun i x v e1 e2 e3=>?_⟩;obtain ⟨u,r,l⟩:=hl i x v e1 e2 e3;refine ⟨u,r,?_⟩;rcases l with l | ⟨k,c,e,z⟩;·exact .inl l
  ·exact .inr ⟨k,c,e,cellK x c e _ z⟩
 ·obtain ⟨v,z⟩:=I.cell x c e
  exact ⟨v,cellK x c e v z⟩
 ·obtain ⟨m,⟨o,_,_,ho,_⟩,_⟩:=I.loc
  exact free _ o (fun z=>(jZ _ z).2.1 rfl) ho I.free
 ·obtain ⟨v,o,ho,hd⟩:=I.cell x c e
  exact free c o (fun z=>(jZ c z).2.2.1 x c e rfl) ho (I.g_ x c e)
 ·obtain ⟨e,n,ne,nf,d⟩:=I.pin p hp
  have ub:p.1∉ch:=fun z=>(jZ p.1 z).2.2.2 p hp rfl;exact ⟨keep p.1 p.2 ne nf ub e n,free p.1 p.2 ub e n,ne,nf,d⟩
theorem Inv.un(I:Inv X pins σ H s)(u:Un X.fs [] H H' s.heap h')(ax:bY X.prog X.w H' h'):Inv X pins σ H' {s with heap:=h',toks:=t'}:=by
 obtain ⟨m,⟨o,es,ep,ho,r⟩,_⟩:=id I.loc;obtain ⟨sl,hL⟩:=u.any ho I.free (by simp)
 exact I.step (g':=s.gens) (d':=s.drawn) (ch:=[]) (fun _ z=>nomatch z) (fun b o _ hb _ e n=>u.keep b o e n hb (by simp)) (fun b o _ hb _ e n=>u.slot b o e n hb (by simp)) (fun b o _ e n=>u.free b o e n (by simp)) (fun b o _ e=>u.there b o e (by simp)) u.fv u.eG u.fz (fun m' hm=>by obtain ⟨o',wG,qC,kO,r'⟩:=hm;rw [ho] at kO;cases kO;exact ⟨_,wG,qC,hL,r'⟩) ax I.bare
theorem Inv.call(I:Inv X pins σ H s)(u:Un (cm X.stack) ch H H' s.heap h')(ax:bY X.prog X.w H' h')(hg:AllBare g')
  (jZ:∀b∈ch,(b∈X.ex∨X.s₀.heap.objs.size≤b)∧b≠X.env.locals∧(∀x c,X.env.cells.lookup x=some c→c≠b)∧∀p∈X.pn++pins,p.1≠b) :
  Inv X pins σ H' {s with heap:=h',gens:=g',drawn:=d',toks:=t'}:=by
 obtain ⟨m,⟨o,es,ep,ho,r⟩,_⟩:=id I.loc;obtain ⟨sl,hL⟩:=u.any ho I.free fun z=>(jZ _ z).2.1 rfl;exact I.step (ch:=ch) jZ (fun b o hL hb hc e n=>u.keep b o e n (fun z=>(b6.mp (I.t_ b z)).elim hL hb) hc) (fun b o _ _ hc e n=>u.any e n hc) (fun b o hc e n=>u.free b o e n hc) (fun b o hc e=>u.there b o e hc) u.fv u.eG u.fz (fun m' hm=>by obtain ⟨o',wG,qC,kO,r'⟩:=hm;rw [ho] at kO;cases kO;exact ⟨_,wG,qC,hL,r'⟩) ax hg
theorem Inv.turned{it:Addr}(I:Inv X pins σ H s)(k:∀b o,b≠it→s.heap.get? b=some o→h'.get? b=some o)(hn:H it=none)(hL:it≠X.env.locals)
  (h1:it∈X.ex∨X.s₀.heap.objs.size≤it) (h2:∀x c,X.env.cells.lookup x=some c→c≠it) (h3:∀p∈X.pn++pins,p.1≠it):Inv X pins σ H {s with heap:=h',toks:=t'}:=by
 have C2:∀b u,H b=some u→b≠it:=fun b u e z=>by rw [z,hn] at e;cases e
 refine I.step (g':=s.gens) (d':=s.drawn) (ch:=[it]) (fun b hb=>?_) (fun b o _ _ hc e _=>k b o (fun z=>hc (by simp [z])) e) (fun b o _ _ hc e _=>⟨o.slots,k b o (fun z=>hc (by simp [z])) e⟩) (fun _ _ _ _ n=>n)
  (fun b o hc e=>⟨o,k b o (fun z=>hc (by simp [z])) e⟩) (fun _ _ e=>e) (fun _ _ _ e=>e) (fun b ps e=>⟨#[],by rw [e];simp⟩) (fun m hm=>?_) (fun b u e=>?_) I.bare
 ·have e:b=it:=by simpa using hb
  subst e;exact ⟨h1,hL,h2,h3⟩
 ·obtain ⟨o,es,ep,ho,r⟩:=hm
  exact ⟨o,es,ep,k _ o (Ne.symm hL) ho,r⟩
 ·refine (I.ax b u e).g8 (fun c v hc q=>k c v ?_ q) (fun _ q=>q) fun _ _ q=>q
  rcases hc with z | z;·rw [z];exact C2 b u e
  ·exact C2 c _ z
theorem Inv.tok(I:Inv X pins σ H s)(t:Nat):Inv X pins σ H {s with toks:=t}:=I.un (h':=s.heap) (t':=t) Un.refl I.ax
theorem Inv.kept(I:Inv X pins σ H s)(k:∀b u,s.heap.get? b=some u→h'.get? b=some u):Inv X pins σ H {s with heap:=h',toks:=t'}:=I.un (Un.kept k) (I.ax.kept k)
theorem Inv.laid(I:Inv X pins σ H s)(k:∀b u,s.heap.get? b=some u→h'.get? b=some u)(hp:s.heap.objs.size≤a)(new:bI X.prog X.w (upd H a o) h' a o) :
  Inv X pins σ (upd H a o) {s with heap:=h',toks:=t'}:=I.un (Un.laid k hp (I.ax.fresh hp)) (I.ax.laid k hp new)
theorem Inv.write{x e:Addr}(I:Inv X pins σ H s)(mu:t8 (H x))(he:e=x∨H e=some (.own x))(k:∀b u,b≠e→s.heap.get? b=some u→h'.get? b=some u)(qB:∃u,h'.get? e=some u)
  (new:bI X.prog X.w (upd H x o) h' x o):Inv X pins σ (upd H x o) {s with heap:=h',toks:=t'}:=I.un (Un.write mu he k qB) (I.ax.write mu he k qB new)
theorem Inv.C3{C4:aO}(I:Inv X pins σ H s)(h:∀p∈C4,s.heap.get? p.1=some p.2∧H p.1=none∧p.1≠X.env.locals∧p.1∉X.fs∧∀v,p.2.data≠.cell v):Inv X C4 σ H s:=
 ⟨I.ok,I.os,I.bare,I.base,I.loc,I.cell,I.free,I.g_,fun p hp=>(cL.mp hp).elim (fun z=>I.pin p (m4 _ z)) (h p),I.ax,I.len⟩
variable {i:Nat} {x:Str}
theorem C5{N:List Str}(hN:N.Nodup){j:Nat}(a:N[i]?=some x)(b:N[j]?=some x):i=j:=by obtain ⟨h1,e1⟩:=bL.mp a;obtain ⟨h2,e2⟩:=bL.mp b;exact (v_ hN).mp (e1.trans e2.symm)
variable {M:Model} {A:Around} {E:aF} {u:Value} {Q:Unit→Shared→Prop}
theorem C6{v:V}(I:Inv X pins σ H s)(hN:X.N.Nodup)(hi:X.N[i]?=some x)(hx:Loc X.env.scope x)(r:RelV v u)
  (h:∀s',Inv X pins (σ.set i (some v)) H s'→(∃a,Heap.SameBut a s.heap s'.heap∧(a=X.env.locals∨X.env.cells.lookup x=some a))→Q () s') (hf:X.fn x=true∨X.env.scope.names.lookup x=some .local:=by first | exact .inl rfl | exact .inr rfl | assumption):wpAny M A (storeName X.env x u) Q E s:=by
 obtain ⟨m,hn,hl⟩:=id I.loc;have Jt:(X.env.scope.kind == .class || (X.env.scope.kind == .module && X.env.locals != X.env.globals))=false:=by rw [I.ok.kind];rfl
 have C7:i<σ.length:=by rw [I.len];exact (bL.mp hi).1
 have nM:=I.nM;have tracked:∀{a:Addr} {h':Heap},(∃o,s.heap.get? a=some o∧H a=none)→Heap.SameBut a s.heap h'→bY X.prog X.w H h':=fun{a h'} ha hs b ob e=>by
  obtain ⟨_,_,C8⟩:=ha;refine (I.ax b ob e).g8 (fun c w' hc q=>(hs.2 c ?_).trans q) (fun _ q=>q) fun _ _ q=>q;rintro rfl;rcases hc with rfl | hc;·rw [C8] at e;cases e
  ·rw [C8] at hc;cases hc
 rcases hx with hk | hk
 ·refine wpAny_storeName_local hk hn (fun h' Ju hs=>?_) Jt
  obtain ⟨oL,_,_,Jv,_⟩:=id hn;refine h _ ⟨I.ok,I.os,I.bare,⟨fun b o e n hb hx=>?_,fun b o e n hb hx=>?_,I.base.free,fun b o e hx=>?_,I.base.fv,I.base.eG,I.base.fz⟩,⟨_,Ju,fun j y v' e1 e2 e3=>?_⟩,fun y c e=>?_,I.free,I.g_,fun p hp=>?_,tracked ⟨oL,Jv,I.free⟩ hs,by simpa using I.len⟩ ⟨_,hs,.inl rfl⟩
  ·exact (hs.2 b (bC (cY (aW e) I.ok.above))).trans (I.base.keep b o e n hb hx)
  ·obtain ⟨sl,e1⟩:=I.base.slot b o e n hb hx
   exact ⟨sl,(hs.2 b (bC (cY (aW e) I.ok.above))).trans e1⟩
  ·obtain ⟨o',e1⟩:=I.base.there b o e hx
   exact ⟨o',(hs.2 b (bC (cY (aW e) I.ok.above))).trans e1⟩
  ·by_cases hj:j=i
   ·subst hj
    rw [hi] at e1;cases e1;rw [List.getElem?_set_self C7] at e2;cases e2;exact ⟨u,r,.inl ⟨hk,by simp⟩⟩
   ·rw [List.getElem?_set_ne (Ne.symm hj)] at e2
    obtain ⟨u',r',q⟩:=hl j y v' e1 e2 e3;refine ⟨u',r',?_⟩;rcases q with ⟨k,e⟩ | ⟨k,c,e,z⟩
    ·refine .inl ⟨k,?_⟩
     have:y≠x:=fun e=>hj (C5 hN e1 (e▸hi));simp [this,e]
    ·exact .inr ⟨k,c,e,z.sameBut hs (nM y c e)⟩
  ·obtain ⟨w',z⟩:=I.cell y c e
   exact ⟨w',z.sameBut hs (nM y c e)⟩
  ·obtain ⟨e,n,ne,nf,d⟩:=I.pin p hp
   exact ⟨(hs.2 p.1 ne).trans e,n,ne,nf,d⟩
 ·have zU:X.fn x=true:=by
   rcases hf with z | z;·exact z
   ·rw [z] at hk;cases hk
  obtain ⟨c,hc⟩:=I.ok.has x (.inl hk);obtain ⟨w',z⟩:=I.cell x c hc;refine wpAny_storeName_cell I.ok.kind hk hc z (fun h' iK hs=>?_);obtain ⟨oc,C9,Jw⟩:=id z;refine h {s with heap:=h'} ⟨I.ok,I.os,I.bare,⟨fun b o e n hb hx=>?_,fun b o e n hb hx=>?_,I.base.free,fun b o e hx=>?_,I.base.fv,I.base.eG,I.base.fz⟩,⟨m,hn.sameBut hs (Ne.symm (nM x c hc)),fun j y v' e1 e2 e3=>?_⟩,fun y c' e=>?_,I.free,I.g_,fun p hp=>?_,tracked ⟨oc,C9,I.g_ x c hc⟩ hs,by simpa using I.len⟩ ⟨c,hs,.inr hc⟩
  ·exact (hs.2 b (bC (cY (aW e) (I.ok.t9 x c zU hc)))).trans (I.base.keep b o e n hb hx)
  ·obtain ⟨sl,e1⟩:=I.base.slot b o e n hb hx
   exact ⟨sl,(hs.2 b (bC (cY (aW e) (I.ok.t9 x c zU hc)))).trans e1⟩
  ·obtain ⟨o',e1⟩:=I.base.there b o e hx
   exact ⟨o',(hs.2 b (bC (cY (aW e) (I.ok.t9 x c zU hc)))).trans e1⟩
  ·by_cases hj:j=i
   ·subst hj
    rw [hi] at e1;cases e1;rw [List.getElem?_set_self C7] at e2;cases e2;exact ⟨u,r,.inr ⟨.inl hk,c,hc,iK⟩⟩
   ·rw [List.getElem?_set_ne (Ne.symm hj)] at e2
    obtain ⟨u',r',q⟩:=hl j y v' e1 e2 e3;refine ⟨u',r',?_⟩;rcases q with q | ⟨k,c',e,z'⟩;·exact .inl q
    ·refine .inr ⟨k,c',e,z'.sameBut hs ?_⟩
     rintro rfl;exact hj (C5 hN e1 (I.ok.inj _ _ _ e hc▸hi))
  ·by_cases C_:c'=c
   ·subst C_;exact ⟨_,iK⟩
   ·obtain ⟨w2,z2⟩:=I.cell y c' e
    exact ⟨w2,z2.sameBut hs C_⟩
  ·obtain ⟨e,n,ne,nf,d⟩:=I.pin p hp
   refine ⟨(hs.2 p.1 ?_).trans e,n,ne,nf,d⟩;intro q;rw [q,C9] at e;have q':oc=p.2:=Option.some.inj e;exact d w' (by rw [←q'];exact Jw)
theorem De{v:V}(I:Inv X pins σ H s)(hN:X.N.Nodup)(hi:X.N[i]?=some x)(hx:Loc X.env.scope x)(r:RelV v u)
  (h:∀s',Inv X pins (σ.set i (some v)) H s'→Q () s') (hf:X.fn x=true∨X.env.scope.names.lookup x=some .local:=by first | exact .inl rfl | exact .inr rfl | assumption):wpAny M A (storeName X.env x u) Q E s:=
 C6 I hN hi hx r (fun s' I' _=>h s' I') hf
theorem Inv.qD{s':Shared}(I:Inv X pins σ H s)(ho:s'.os=s.os)(u:Un (cm X.stack) ch H H' s.heap s'.heap)(ax:bY X.prog X.w H' s'.heap)(hg:AllBare s'.gens)
  (jZ:∀b∈ch,(b∈X.ex∨X.s₀.heap.objs.size≤b)∧b≠X.env.locals∧(∀x c,X.env.cells.lookup x=some c→c≠b)∧∀p∈X.pn++pins,p.1≠b):Inv X pins σ H' s':=by
 obtain ⟨h',g',d',t',o'⟩:=s';have e:o'=s.os:=ho;subst e;exact I.call (g':=g') (t':=t') (d':=d') u ax hg jZ
end
abbrev XK:=Value→Option Addr→Hp→Prop
abbrev St:=List (Option V)
abbrev VK:=V→Hp→Prop
abbrev TE:=St→Hp→VK→Prop
abbrev TT:=St→Hp→(Bool→Hp→Prop)→Prop
abbrev TA:=St→Hp→(List V→Hp→Prop)→Prop
structure Ends where
 nx:St→Hp→Prop
 rt:VK
 bk:St→Hp→Prop:=fun _ _=>False
 ct:St→Hp→Prop:=fun _ _=>False
abbrev TS:=Ends→St→Hp→Prop
def EP(X:Cx)(pins:aO)(σ:St)(Q:VK)(u:Value)(s':Shared):Prop:=∃v H',Inv X pins σ H' s'∧RelV v u∧Q v H'
def TP(X:Cx)(pins:aO)(σ:St)(Q:Bool→Hp→Prop)(b:Bool)(s':Shared):Prop:=∃H',Inv X pins σ H' s'∧Q b H'
def AP(X:Cx)(pins:aO)(σ:St)(Q:List V→Hp→Prop)(us:List Value)(s':Shared):Prop:=∃vs H',Inv X pins σ H' s'∧Vals vs us∧Q vs H'
def SP(X:Cx)(pins:aO)(D:Ends)(f:Flow)(s':Shared):Prop:=
 match f with
 | .next=>∃σ' H',Inv X pins σ' H' s'∧D.nx σ' H'
 | .brk=>∃σ' H',Inv X pins σ' H' s'∧D.bk σ' H'
 | .cont=>∃σ' H',Inv X pins σ' H' s'∧D.ct σ' H'
 | .ret u=>∃v σ' H',Inv X pins σ' H' s'∧RelV v u∧D.rt v H'
def PE(X:Cx)(e:Expr)(t:TE):Prop:=
 ∀(pins:aO) (s:Shared) (σ:St) (H:Hp) (Q:VK),Inv X pins σ H s→t σ H Q→wpAny (model X.prog X.w) X.A (eval e X.env) (EP X pins σ Q) X.xe s
def PT(X:Cx)(e:Expr)(t:TT):Prop:=
 ∀(pins:aO) (s:Shared) (σ:St) (H:Hp) (Q:Bool→Hp→Prop),Inv X pins σ H s→t σ H Q→wpAny (model X.prog X.w) X.A (isTrue e X.env (eval e X.env)) (TP X pins σ Q) X.xe s
def PW(X:Cx)(e:Expr)(t:TT):Prop:=
 ∀(whole:Sem Value) (pins:aO) (s:Shared) (σ:St) (H:Hp) (Q:Bool→Hp→Prop),Inv X pins σ H s→t σ H Q→wpAny (model X.prog X.w) X.A (isTrue e X.env whole) (TP X pins σ Q) X.xe s
variable {X:Cx}
theorem PW.pt{e:Expr}{t:TT}(h:PW X e t):PT X e t:=h _
def PA(X:Cx)(es:List Expr)(t:TA):Prop:=
 ∀(pos:Pos) (pins:aO) (s:Shared) (σ:St) (H:Hp) (Q:List V→Hp→Prop),Inv X pins σ H s→t σ H Q→wpAny (model X.prog X.w) X.A (spliced (backTo pos (starEach es X.env))) (AP X pins σ Q) X.xe s
def PS(X:Cx)(st:Stmt)(t:TS):Prop:=
 ∀(pins:aO) (s:Shared) (σ:St) (H:Hp) (D:Ends),Inv X pins σ H s→t D σ H→wpAny (model X.prog X.w) X.A (exec st X.env) (SP X pins D) X.xe s
def eJ(X:Cx)(st:List Stmt)(t:TS):Prop:=
 ∀(pins:aO) (s:Shared) (σ:St) (H:Hp) (D:Ends),Inv X pins σ H s→t D σ H→wpAny (model X.prog X.w) X.A (execs st X.env) (SP X pins D) X.xe s
variable {M:Model} {A:Around} {E:aF} {s:Shared}
theorem aJ{α:Type}{t:Sem α}{Q Q':α→Shared→Prop}(h:wpAny M A t Q E s)(hQ:∀a s,Q a s→Q' a s):wpAny M A t Q' E s:=bG h hQ fun _ _ x=>x
section
variable {X:Cx}
variable {pins:aO} {σ:St}
theorem bin{a b:Expr}{ta tb:TE}(ha:PE X a ta)(hb:PE X b tb){R:V→V→Hp→Prop}(I:Inv X pins σ H s)(h:ta σ H fun x H1=>tb σ H1 fun y H2=>R x y H2)
  {α:Type} {Q:α→Shared→Prop} {f:Value→Value→Sem α}
  (hf:∀v u s2 x y H2,Inv X pins σ H2 s2→RelV x v→RelV y u→R x y H2→wpAny (model X.prog X.w) X.A (f v u) Q X.xe s2) :
  wpAny (model X.prog X.w) X.A (eval a X.env) (fun v s₁=>wpAny (model X.prog X.w) X.A (eval b X.env) (fun u s₂=>wpAny (model X.prog X.w) X.A (f v u) Q X.xe s₂) X.xe s₁) X.xe s:=by
 refine aJ (ha pins s σ H _ I h) fun v s1 ⟨x,H1,I1,r1,q1⟩=>?_;refine aJ (hb pins s1 σ H1 _ I1 q1) fun u s2 ⟨y,H2,I2,r2,q2⟩=>?_;exact hf v u s2 x y H2 I2 r1 r2 q2
def Dg(i:Nat):TE:=fun σ H Q=>∃v,σ[i]?=some (some v)∧Q v H
def tC(v:V):TE:=fun _ H Q=>Q v H
variable {x:Str} {pos:Pos}
theorem Jx{i:Nat}(hN:X.N[i]?=some x)(hv:nI X.env.scope x)(hd:(x == ("__debug__":Str))=false:=by decide)(fA:(x == ("__classdict__":Str))=false:=by decide):PE X (.Name x pos) (Dg i):=by
 intro pins s σ H Q I h;obtain ⟨v,e,h⟩:=h;obtain ⟨m,hn,hl⟩:=I.loc;obtain ⟨u,r,l⟩:=hl i x v hN e hv;have fin:EP X pins σ Q u s:=⟨v,H,I,r,h⟩;rcases l with ⟨hk,hm⟩ | ⟨hk,c,hc,Dh⟩;·exact wpAny_Name (wpAny_loadName_local I.ok.kind hk hn hm fin) hd
 ·rcases hk with hk | hk
  ·exact wpAny_Name (wpAny_loadName_cell I.ok.kind hk hc Dh fin) hd
  ·exact wpAny_Name (wpAny_loadName_free I.ok.kind hk hc Dh fin fA) hd
theorem aH{i j pos}:PE X (.Constant (.int i) j pos) (tC (.int i)):=fun _ _ _ H _ I h=>wpAny_Constant_int ⟨.int i,H,I.tok _,⟨_,rfl⟩,h⟩
theorem hE{b j pos}:PE X (.Constant (.bool b) j pos) (tC (.bl b)):=fun _ _ _ H _ I h=>Constant_bool ⟨.bl b,H,I,rfl,h⟩
theorem Di{x j pos}:PE X (.Constant (.str x) j pos) (tC (.str x)):=fun _ _ _ H _ I h=>Calls.Constant_str ⟨.str x,H,I.tok _,⟨_,rfl⟩,h⟩
def Gl(X:Cx)(x:Str):Prop:=X.env.kindOf x=some .globalImplicit
variable {u:Value} {Q:aF}
theorem zV(I:Inv X pins σ H s)(hg:Gl X x)(hm:X.mg x=some u)(h:Q u s)
  (hd:(x == ("__debug__":Str))=false:=by decide):wpAny (model X.prog X.w) X.A (eval (.Name x pos) X.env) Q E s:=
 Calls.Name_function_global I.ok.kind hg (Calls.loadGlobal_global (by rw [I.ok.glob];exact I.mod.glob.keeps I.bk) hm h) hd
theorem ji(I:Inv X pins σ H s)(hg:Gl X x)(hm:X.mg x=none)(hv:bootBuiltins x=some u)(h:Q u s)
  (hn:x ≠ "__name__":=by decide) (hd:(x == ("__debug__":Str))=false:=by decide):wpAny (model X.prog X.w) X.A (eval (.Name x pos) X.env) Q E s:=by
 obtain ⟨mb,h1,h2⟩:=I.mod.blt;exact Calls.Name_function_global I.ok.kind hg (Calls.loadGlobal_builtin (by rw [I.ok.glob];exact I.mod.glob.keeps I.bk) hm (by rw [I.ok.blt];exact h1.keeps I.bk) ((h2 x hn).trans hv) h) hd
theorem Jy{v:V}(hg:Gl X x)(hm:X.mg x=some u)(r:RelV v u)(hd:(x == ("__debug__":Str))=false:=by decide):PE X (.Name x pos) (tC v):=
 fun _ _ _ H _ I h=>zV I hg hm ⟨v,H,I,r,h⟩ hd
theorem uc{v:V}(hg:Gl X x)(hm:X.mg x=none)(hv:bootBuiltins x=some u)(r:RelV v u)(hn:x ≠ "__name__":=by decide)(hd:(x == ("__debug__":Str))=false:=by decide):PE X (.Name x pos) (tC v):=
 fun _ _ _ H _ I h=>ji I hg hm hv ⟨v,H,I,r,h⟩ hn hd
variable {a b:Expr} {ta tb:TE} {pos:Pos}
def PC(X:Cx)(op:CmpOp)(a b:Expr)(t:TE):Prop:=
 ∀(pins:aO) (s:Shared) (σ:St) (H:Hp) (Q:VK),Inv X pins σ H s→t σ H Q→
  wpAny (model X.prog X.w) X.A (eval a X.env) (fun v s₁=>wpAny (model X.prog X.w) X.A (eval b X.env) (fun u s₂=>wpAny (model X.prog X.w) X.A (compareOp op v u) (EP X pins σ Q) X.xe s₂) X.xe s₁) X.xe s
def tB(t:TE):TT:=fun σ H Q=>t σ H fun x H1=>∃c,x=.bl c∧Q c H1
theorem Dj{op:CmpOp}{t:TE}(h:PC X op a b t)(h1:behindInMarks op b=false:=by first | exact TB _ (by decide) (by decide) | rfl):PT X (.Compare a [op] [b] pos) (tB t):=by intro pins s σ H Q I hw;refine wpAny_isTrue_Compare1 (aJ (h pins s σ H _ I hw) fun v s1 h1=>aJ h1 fun u s2 h2=>aJ h2 fun c s3 ⟨x,H1,I1,r1,q1⟩=>?_) h1;obtain ⟨d,rfl,q⟩:=q1;cases r1;exact kD ⟨H1,I1,q⟩
theorem qE{e:Expr}{t:TE}(h:PE X e t)(he:∀whole,isTrue e X.env whole=(do let v ←whole;standAt e.pos;holding [v] (truthy v)):=by intro _;rfl):PT X e (tB t):=by
 intro pins s σ H Q I hw
 refine isTrue_plain (aJ (h pins s σ H _ I hw) fun v s1 ⟨x,H1,I1,r1,q1⟩=>?_) (he _)
 obtain ⟨d,rfl,q⟩:=q1
 cases r1
 exact kD ⟨H1,I1,q⟩
variable {tA ud:TT} {rest:List Expr}
def Jz(t u:TT):TT:=fun σ H Q=>t σ H fun c H1=>if c=true then u σ H1 Q else Q false H1
def JA(t u:TT):TT:=fun σ H Q=>t σ H fun c H1=>if c=true then Q true H1 else u σ H1 Q
def Dk(t:TT):TT:=fun σ H Q=>t σ H fun c H1=>Q (!c) H1
theorem pw_and1(ha:PT X a tA):PW X (.BoolOp .And [a] pos) tA:=by
 intro wh pins s σ H Q I h;refine isTrue_and (aJ (ha pins s σ H Q I h) fun c s1 e=>?_);cases c with
 | true=>exact isTrue_and_nil e
 | false=>exact e
theorem pw_or1(ha:PT X a tA):PW X (.BoolOp .Or [a] pos) tA:=by
 intro wh pins s σ H Q I h;refine isTrue_or (aJ (ha pins s σ H Q I h) fun c s1 e=>?_);cases c with
 | false=>exact isTrue_or_nil e
 | true=>exact e
theorem pw_and(ha:PT X a tA)(hb:PW X (.BoolOp .And (b::rest) pos) ud):PW X (.BoolOp .And (a::b::rest) pos) (Jz tA ud):=by
 intro wh pins s σ H Q I h;refine isTrue_and (aJ (ha pins s σ H _ I h) fun c s1 ⟨H1,I1,q1⟩=>?_);cases c with
 | true=>exact hb wh pins s1 σ H1 Q I1 q1
 | false=>exact ⟨H1,I1,q1⟩
theorem pw_or(ha:PT X a tA)(hb:PW X (.BoolOp .Or (b::rest) pos) ud):PW X (.BoolOp .Or (a::b::rest) pos) (JA tA ud):=by
 intro wh pins s σ H Q I h;refine isTrue_or (aJ (ha pins s σ H _ I h) fun c s1 ⟨H1,I1,q1⟩=>?_);cases c with
 | true=>exact ⟨H1,I1,q1⟩
 | false=>exact hb wh pins s1 σ H1 Q I1 q1
theorem wH(ha:PT X a tA):PT X (.UnaryOp .Not a pos) (Dk tA):=by intro pins s σ H Q I h;exact isTrue_not (ha pins s σ H (fun c H1=>Q (!c) H1) I h)
def JB(ta tb:TE):TE:=fun σ H Q=>ta σ H fun x H1=>∃c,x=.bl c∧if c=true then tb σ H1 Q else Q (.bl false) H1
def JD(ta tb:TE):TE:=fun σ H Q=>ta σ H fun x H1=>∃c,x=.bl c∧if c=true then Q (.bl true) H1 else tb σ H1 Q
def JE(ta:TE):TE:=fun σ H Q=>ta σ H fun x H1=>∃c,x=.bl c∧Q (.bl (!c)) H1
theorem Dl{op}{t:TE}(h:PE X a t):PE X (.BoolOp op [a] pos) t:=fun pins s σ H Q I hw=>BoolOp_one (h pins s σ H Q I hw)
theorem JF(ha:PE X a ta)(hb:PE X (.BoolOp .And (b::rest) pos) tb):PE X (.BoolOp .And (a::b::rest) pos) (JB ta tb):=by
 intro pins s σ H Q I h;refine BoolOp_and (aJ (ha pins s σ H _ I h) fun v s1 ⟨x,H1,I1,r1,q1⟩=>?_);obtain ⟨c,rfl,q1⟩:=q1;cases r1;refine kD ?_;cases c with
 | true=>exact hb pins s1 σ H1 Q I1 q1
 | false=>exact ⟨.bl false,H1,I1,rfl,q1⟩
theorem JG(ha:PE X a ta)(hb:PE X (.BoolOp .Or (b::rest) pos) tb):PE X (.BoolOp .Or (a::b::rest) pos) (JD ta tb):=by
 intro pins s σ H Q I h;refine BoolOp_or (aJ (ha pins s σ H _ I h) fun v s1 ⟨x,H1,I1,r1,q1⟩=>?_);obtain ⟨c,rfl,q1⟩:=q1;cases r1;refine kD ?_;cases c with
 | false=>exact hb pins s1 σ H1 Q I1 q1
 | true=>exact ⟨.bl true,H1,I1,rfl,q1⟩
theorem JH(ha:PE X a ta):PE X (.UnaryOp .Not a pos) (JE ta):=by intro pins s σ H Q I h;refine UnaryOp_ (aJ (ha pins s σ H _ I h) fun v s1 ⟨x,H1,I1,r1,q1⟩=>?_);obtain ⟨c,rfl,q1⟩:=q1;cases r1;exact not_of (kD ⟨.bl (!c),H1,I1,rfl,q1⟩)
end
def bj(K:aG)(H:Hp)(a:Addr)(xs:List V):Prop:=
 Rd H a (.lst xs) ∨
  ∃(o:Obj) (ai:Array Value) (n:Nat),K.lookup a=some o∧o.cls=.type "list"∧o.dict=none∧o.data=.seq ai n∧ai.size≤sizeLine∧Vals xs ai.toList
def dc(K:aG)(H:Hp)(a:Addr)(xs:List V):Prop:=
 Rd H a (.tup xs) ∨
  ∃(o:Obj) (ai:Array Value) (n:Nat),K.lookup a=some o∧o.cls=.type "tuple"∧o.data=.seq ai n∧ai.size≤sizeLine∧Vals xs ai.toList
def JI:Value→Option V
 | .none=>some .aP
 | .bool b=>some (.bl b)
 | .int i _=>some (.int i)
 | .str x _=>some (.str x)
 | .bytes b _=>some (.jg b)
 | .float b _=>some (.qA b)
 | .ref a=>some (.ref a)
 | .type n=>some (.ty n)
 | _=>none
variable {x:V} {u:Value}
theorem RelV.abs(r:RelV x u):JI u=some x:=by
 cases x with
 | aP=>cases r;rfl
 | bl _=>cases r;rfl
 | int _=>obtain ⟨t,rfl⟩:=r;rfl
 | str _=>obtain ⟨t,rfl⟩:=r;rfl
 | jg _=>obtain ⟨t,rfl⟩:=r;rfl
 | qA _=>obtain ⟨t,rfl⟩:=r;rfl
 | ref _=>cases r;rfl
 | ty _=>cases r;rfl
theorem RelV.inj{y:V}(r:RelV x u)(q:RelV y u):x=y:=Option.some.inj (r.abs.symm.trans q.abs)
theorem Vals.inj:∀{xs ys:List V} {us:List Value},Vals xs us→Vals ys us→xs=ys
 | _,_,_,.nil,.nil=>rfl
 | _,_,_,.cons r t,.cons r' t'=>by rw [r.inj r',Vals.inj t t']
section
variable {X:Cx} {pins:aO} {σ:St} {H:Hp} {s:Shared} {a:Addr} {xs ys:List V}
variable {K:aG}
theorem bj.of(h:H a=some (.lst xs)):bj K H a xs:=.inl (.inl h)
theorem dc.of(h:H a=some (.tup xs)):dc K H a xs:=.inl (.inl h)
theorem Inv.list(I:Inv X pins σ H s)(h:bj X.K H a xs):∃ai:List Value,Vals xs ai∧PlainL s.heap a ai.toArray∧xs.length≤sizeLine:=by
 rcases h with h | ⟨o,ai,n,hk,hc,hd,hs,hz,r⟩
 ·obtain ⟨z,ai,n,r,e⟩:=h.ok I.ax
  exact ⟨ai,r,⟨_,n,e,rfl,rfl,rfl⟩,z⟩
 ·refine ⟨ai.toList,r,⟨o,n,I.ei a o hk,hc,hd,by simpa using hs⟩,?_⟩
  have e:=r.length;simp only [eE] at e;omega
theorem Inv.tuple(I:Inv X pins σ H s)(h:dc X.K H a xs):∃ai:List Value,Vals xs ai∧IsTup s.heap a ai.toArray∧xs.length≤sizeLine:=by
 rcases h with h | ⟨o,ai,n,hk,hc,hs,hz,r⟩
 ·obtain ⟨z,ai,r,p⟩:=h.ok I.ax
  exact ⟨ai,r,p,z⟩
 ·refine ⟨ai.toList,r,⟨o,I.ei a o hk,hc,n,by simpa using hs⟩,?_⟩
  have e:=r.length;simp only [eE] at e;omega
theorem Inv.Dm(I:Inv X pins σ H s)(h:bj X.K H a xs)(h':bj X.K H a ys):xs=ys:=by
 obtain ⟨ai,r,⟨o,n,e,_,_,d⟩,_⟩:=I.list h;obtain ⟨its',r',⟨o',n',e',_,_,d'⟩,_⟩:=I.list h';rw [e] at e';cases e';rw [d] at d';injection d' with d1 _;have:ai=its':=by simpa using dH Array.toList d1
 subst this;exact r.inj r'
theorem Inv.JJ(I:Inv X pins σ H s)(h:dc X.K H a xs)(h':dc X.K H a ys):xs=ys:=by
 obtain ⟨ai,r,⟨o,e,_,n,d⟩,_⟩:=I.tuple h;obtain ⟨its',r',⟨o',e',_,n',d'⟩,_⟩:=I.tuple h';rw [e] at e';cases e';rw [d] at d';injection d' with d1 _;have:ai=its':=by simpa using dH Array.toList d1
 subst this;exact r.inj r'
end
abbrev Cx.j4 (X:Cx) (E:aF):Cx:={X with xe:=E}
abbrev Cx.nN (X:Cx):Cx:=X.j4 fun _ _=>False
theorem Cx.Ok.j4(ok:X.Ok)(E:aF):(X.j4 E).Ok:=
 ⟨ok.mod,ok.kind,ok.glob,ok.blt,ok.above,ok.inj,ok.has,ok.t9,ok.hd,ok.frames,ok.g9,ok.C0,ok.bs,ok.iJ,ok.nJ,ok.nK,ok.jh,ok.my⟩
theorem Cx.Ok.mB(ok:(X.j4 E).Ok):X.Ok:=
 ⟨ok.mod,ok.kind,ok.glob,ok.blt,ok.above,ok.inj,ok.has,ok.t9,ok.hd,ok.frames,ok.g9,ok.C0,ok.bs,ok.iJ,ok.nJ,ok.nK,ok.jh,ok.my⟩
section
variable {X:Cx} {pins:aO} {σ:St} {H:Hp} {s:Shared} {E:aF}
theorem Inv.j4(I:Inv X pins σ H s)(E:aF):Inv (X.j4 E) pins σ H s:=⟨I.ok.j4 E,I.os,I.bare,I.base,I.loc,I.cell,I.free,I.g_,I.pin,I.ax,I.len⟩
theorem Inv.mB(I:Inv (X.j4 E) pins σ H s):Inv X pins σ H s:=⟨I.ok.mB,I.os,I.bare,I.base,I.loc,I.cell,I.free,I.g_,I.pin,I.ax,I.len⟩
theorem SP.mB{D:Ends}{f:Flow}{s':Shared}(h:SP (X.j4 E) pins D f s'):SP X pins D f s':=by
 cases f with
 | next=>obtain ⟨σ',H',I,q⟩:=h;exact ⟨σ',H',I.mB,q⟩
 | brk=>obtain ⟨σ',H',I,q⟩:=h;exact ⟨σ',H',I.mB,q⟩
 | cont=>obtain ⟨σ',H',I,q⟩:=h;exact ⟨σ',H',I.mB,q⟩
 | ret u=>obtain ⟨v,σ',H',I,r,q⟩:=h;exact ⟨v,σ',H',I.mB,r,q⟩
theorem eJ.nN{st:List Stmt}{t:TS}(h:eJ X.nN st t):eJ X st t:=fun pins s σ H D I hw=>bG (h pins s σ H D (I.j4 _) hw) (fun _ _ q=>q.mB) fun _ _ z=>False.elim z
end
section
variable {X:Cx} {st:Stmt} {rest:List Stmt} {t u:TS} {e:Expr} {te:TE} {pos:Pos}
def kP:TS:=fun D σ H=>D.nx σ H
def zW(t u:TS):TS:=fun D σ H=>t {D with nx:=u D} σ H
theorem dr:eJ X [] kP:=fun _ _ σ H _ I h=>wa ⟨σ,H,I,h⟩
theorem aC(h1:PS X st t)(h2:eJ X rest u):eJ X (st::rest) (zW t u):=by
 intro pins s σ H D I h;refine wpAny_execs_cons (aJ (h1 pins s σ H {D with nx:=u D} I h) fun f s1 q=>?_);cases f with
 | next=>obtain ⟨σ',H',I',q⟩:=q;exact h2 pins s1 σ' H' D I' q
 | ret v=>exact q
 | brk=>exact q
 | cont=>exact q
theorem aK(h1:PS X st t):eJ X [st] t:=by
 intro pins s σ H D I h;refine wpAny_execs_cons (aJ (h1 pins s σ H D I h) fun f s1 q=>?_);cases f with
 | next=>exact wa q
 | ret v=>exact q
 | brk=>exact q
 | cont=>exact q
theorem Inv.quiet{pins:aO}{σ:St}(I:Inv X pins σ H s):interactive X.env=false:=by simp [interactive,I.ok.kind]
def JK(te:TE):TS:=fun D σ H=>te σ H fun _ H1=>D.nx σ H1
theorem fQ(he:PE X e te)(hs:swapsWith e none pos.line X.env=pure false:=by rfl):PS X (.Expr e pos) (JK te):=by intro pins s σ H D I h;exact wpAny_Expr_any (aJ (he pins s σ H _ I h) fun v s1 ⟨x,H1,I1,r1,q1⟩=>⟨σ,H1,I1,q1⟩) I.quiet hs
def Dn(te:TE):TS:=fun D σ H=>te σ H D.rt
theorem bW(he:PE X e te):PS X (.Return (some e) pos) (Dn te):=by intro pins s σ H D I h;exact wpAny_Return_some (aJ (he pins s σ H _ I h) fun v s1 ⟨x,H1,I1,r1,q1⟩=>⟨x,σ,H1,I1,r1,q1⟩)
def wI(c:TT)(t u:TS):TS:=fun D σ H=>c σ H fun b H1=>if b=true then t D σ H1 else u D σ H1
theorem dt{c:Expr}{a b:List Stmt}{tc:TT}(hc:PT X c tc)(ha:eJ X a t)(hb:eJ X b u):PS X (.If c a b pos) (wI tc t u):=by
 intro pins s σ H D I h;refine wpAny_If (aJ (hc pins s σ H _ I h) fun d s1 ⟨H1,I1,q1⟩=>?_);cases d with
 | true=>exact ha pins s1 σ H1 D I1 q1
 | false=>exact hb pins s1 σ H1 D I1 q1
end
abbrev TG:=V→St→Hp→(St→Hp→Prop)→Prop
abbrev nO:=List V→St→Hp→(St→Hp→Prop)→Prop
def PG(X:Cx)(target:Expr)(t:TG):Prop:=
 ∀(pins:aO) (s:Shared) (σ:St) (H:Hp) (v:V) (u:Value) (Q:St→Hp→Prop),Inv X pins σ H s→RelV v u→t v σ H Q→
  wpAny (model X.prog X.w) X.A (assign target X.env u) (fun _ s'=>∃σ' H',Inv X pins σ' H' s'∧Q σ' H') X.xe s
def wJ(X:Cx)(ts:List Expr)(t:nO):Prop:=
 ∀(pins:aO) (s:Shared) (σ:St) (H:Hp) (vs:List V) (us:List Value) (Q:St→Hp→Prop),Inv X pins σ H s→Vals vs us→t vs σ H Q→
  wpAny (model X.prog X.w) X.A (assignInOrder ((assignEach ts X.env).map (·.2)) us) (fun _ s'=>∃σ' H',Inv X pins σ' H' s'∧Q σ' H') X.xe s
abbrev zX:=V→V→V→Hp→(Hp→Prop)→Prop
def Dp(X:Cx)(t:zX):Prop:=
 ∀(pins:aO) (s:Shared) (σ:St) (H:Hp) (o i v:V) (ov iv u:Value) (Q:Hp→Prop),Inv X pins σ H s→RelV o ov→RelV i iv→RelV v u→t o i v H Q→
  wpAny (model X.prog X.w) X.A (setItem ov iv u) (fun _ s'=>∃H',Inv X pins σ H' s'∧Q H') X.xe s
section
variable {X:Cx} {pos:Pos}
def aT(i:Nat):TG:=fun v σ H Q=>Q (σ.set i (some v)) H
variable {i:Nat}
theorem cy{x:Str}(hN:X.N.Nodup)(hi:X.N[i]?=some x)(hx:Loc X.env.scope x)(hf:X.fn x=true∨X.env.scope.names.lookup x=some .local:=by first | exact .inl rfl | exact .inr rfl | assumption):PG X (.Name x pos) (aT i):=by intro pins s σ H v u Q I r h;exact wpAny_assign_Name (De I hN hi hx r (fun s' I'=>⟨_,H,I',h⟩) hf)
def Dq:nO:=fun vs σ H Q=>vs=[]∧Q σ H
def zY(t:TG)(u:nO):nO:=fun vs σ H Q=>∃v r,vs=v::r∧t v σ H fun σ' H'=>u r σ' H' Q
theorem qF:wJ X [] Dq:=by intro pins s σ H vs us Q I r h;obtain ⟨e,h⟩:=h;subst e;cases r;exact assignInOrder_nil ⟨σ,H,I,h⟩
variable {e:Expr} {es:List Expr}
theorem iL{t:TG}{u:nO}(h1:PG X e t)(h2:wJ X es u)
  (hs:(assignEach (e::es) X.env).map (·.2)=assign e X.env::(assignEach es X.env).map (·.2):=by rfl):wJ X (e::es) (zY t u):=by
 intro pins s σ H vs us Q I r h;obtain ⟨v,vr,e1,h⟩:=h;subst e1;cases r with
 | cons r rr=>rw [hs];refine assignInOrder_cons (aJ (h1 pins s σ H _ _ _ I r h) fun _ s1 ⟨σ1,H1,I1,q1⟩=>?_);exact h2 pins s1 σ1 H1 _ _ Q I1 rr q1
def Dr(K:aG)(n:Nat)(t:nO):TG:=fun v σ H Q=>∃a xs,v=.ref a∧dc K H a xs∧xs.length=n∧t xs σ H Q
theorem qG{k:Nat}{t:nO}{n:Nat}(hc:X.calm=true)(h:wJ X es t)
  (hn:(assignEach es X.env).length=n:=by rfl) (JL:(assignEach es X.env).findIdx? (·.1)=none:=by rfl):PG X (.Tuple es k pos) (Dr X.K n t):=by
 intro pins s σ H v u Q I r hw;obtain ⟨a,xs,e1,hq,hl,hw⟩:=hw;subst e1;cases r;obtain ⟨ai,rv,ht,hz⟩:=I.tuple hq;refine assign_Tuple_tuple (I.ok.hd hc) ht (by simp [hn,←hl,rv.length]) JL fun h' hx=>?_
 have I1:Inv X pins σ H {s with heap:=h'}:=I.kept (t':=s.toks) fun b o e=>hx b o (bC (aW e)) e;exact h pins _ σ H xs _ Q I1 (by simpa using rv) hw
def JM(to ti:TE)(t:zX):TG:=fun v σ H Q=>to σ H fun o H1=>ti σ H1 fun i H2=>t o i v H2 fun H3=>Q σ H3
theorem ue{o i:Expr}{to ti:TE}{t:zX}(ho:PE X o to)(hi:PE X i ti)(hs:Dp X t)
  (ha:∀v,assign (.Subscript o i pos) X.env v=(do
   let ov ←holding [v] (eval o X.env)
   let iv ←holding [v,ov] (eval i X.env)
   standAt pos
   holding [v,ov,iv] (setItem ov iv v)
   release [v,ov,iv] []):=by intro _;rfl):PG X (.Subscript o i pos) (JM to ti t):=by
 intro pins s σ H v u Q I r h
 rw [ha]
 refine ao (gP (aJ (ho pins s σ H _ I h) fun ov s1 ⟨x,H1,I1,r1,q1⟩=>?_))
 refine ao (gP (aJ (hi pins s1 σ H1 _ I1 q1) fun iv s2 ⟨y,H2,I2,r2,q2⟩=>?_))
 refine ao (p9 (ao (gP (aJ (hs pins s2 σ H2 x y v ov iv u _ I2 r1 r2 r q2) fun _ s3 ⟨H3,I3,q3⟩=>?_))))
 exact wpAny_release ⟨σ,H3,I3,q3⟩
def nQ(te:TE)(g:TG):TS:=fun D σ H=>te σ H fun x H1=>g x σ H1 D.nx
theorem qH{tg e:Expr}{te:TE}{g:TG}(he:PE X e te)(hg:PG X tg g)(hs:swapsWithSole [tg] e pos.line X.env=pure false:=by rfl)(hw:swappedStores [tg] e X.env=pure none:=by rfl)
  (h1:(assignEach [tg] X.env).map (·.2)=[assign tg X.env]:=by rfl):PS X (.Assign [tg] e pos) (nQ te g):=by
 intro pins s σ H D I h;refine wpAny_Assign_stores (aJ (he pins s σ H _ I h) fun v s1 ⟨x,H1,I1,r1,q1⟩=>?_) hs hw;rw [h1];exact aJ (hg pins s1 σ H1 x v _ I1 r1 q1) fun _ s2 q=>q
theorem JN{x:Str}{te:TE}{pos':Pos}(hN:X.N.Nodup)(hi:X.N[i]?=some x)(hx:Loc X.env.scope x)(he:PE X e te)(hs:swapsWith e (some (.Name x pos')) pos.line X.env=pure false:=by rfl)(hf:X.fn x=true∨X.env.scope.names.lookup x=some .local:=by first | exact .inl rfl | exact .inr rfl | assumption) :
  PS X (.Assign [.Name x pos'] e pos) (nQ te (aT i)):=by
 intro pins s σ H D I h;refine wpAny_Assign_Name (aJ (he pins s σ H _ I h) fun v s1 ⟨y,H1,I1,r1,q1⟩=>?_) hs;exact De I1 hN hi hx r1 (fun s2 I2=>⟨_,H1,I2,q1⟩) hf
end
section
variable {X:Cx} {pos:Pos}
def JO(c:TT)(tb:TS):TS:=fun D σ H=>∃W:Nat→St→Hp→Prop,(∃m,W m σ H)∧∀m σ H,W m σ H→
 c σ H fun b H1=>if b=true then ∃N:St→Hp→Prop,(∀σ' H',N σ' H'→∃m',m'<m∧W m' σ' H')∧tb {D with nx:=N,ct:=N,bk:=D.nx} σ H1 else D.nx σ H1
theorem wK{c:Expr}{body:List Stmt}{tc:TT}{tb:TS}(hp:PassesOwn (model X.prog X.w) X.A X.env X.xe)(hc:PT X c tc)(hb:eJ X body tb):PS X (.While c body [] pos) (JO tc tb):=by
 intro pins s σ H D I h;obtain ⟨W,⟨m0,w0⟩,turn⟩:=h;refine wpAny_While (codeAny_whileLoop (fun n s'=>∃σ' H',Inv X pins σ' H' s'∧W n σ' H') ?_ m0 ⟨σ,H,I,w0⟩);rintro n s1 ⟨σ1,H1,I1,w1⟩;refine m5 hp (aJ (hc pins s1 σ1 H1 _ I1 (turn n σ1 H1 w1)) fun b s2 ⟨H2,I2,q2⟩=>?_);cases b with
 | true=>
  obtain ⟨N,hN,q2⟩:=q2;rw [ae rfl];refine m5 hp (aJ (hb pins s2 σ1 H2 _ I2 q2) fun f s3 q3=>?_);cases f with
  | next=>obtain ⟨σ3,H3,I3,n3⟩:=q3;obtain ⟨m',hm,w3⟩:=hN σ3 H3 n3;exact ⟨m',hm,σ3,H3,I3,w3⟩
  | cont=>obtain ⟨σ3,H3,I3,n3⟩:=q3;obtain ⟨m',hm,w3⟩:=hN σ3 H3 n3;exact ⟨m',hm,σ3,H3,I3,w3⟩
  | brk=>exact q3
  | ret v=>exact q3
 | false=>rw [aa b7];exact wa ⟨σ1,H2,I2,q2⟩
end
structure It where
 go:Nat→Hp→Prop
 du:Nat→Hp→V→Hp→Prop
 stop:Nat→Hp→Prop
def kT(X:Cx)(pins:aO)(H:Hp)(b:Addr):Prop:=
 H b=none∧b≠X.env.locals∧b∉X.fs∧(b∈X.ex∨X.s₀.heap.objs.size≤b)∧(∀x c,X.env.cells.lookup x=some c→c≠b)∧∀p∈X.pn++pins,p.1≠b
variable {σ:St}
theorem Inv.nR{pins:aO}{H':Hp}(I:Inv X pins σ H s)(hb:s.heap.objs.size≤b)(hn:H' b=none):kT X pins H' b:=by
 refine ⟨hn,Nat.ne_of_gt (cY I.lt hb),I.Jq hb,.inr (bf I.sz hb),fun x c e z=>?_,fun p hp z=>?_⟩
 ·obtain ⟨v,q⟩:=I.cell x c e
  exact absurd (cY q.lt (by rw [z];exact hb)) (dB _)
 ·exact absurd (cY (aW (I.pin p hp).1) (by rw [z];exact hb)) (dB _)
structure Turn (P:Program) (w:World) (K:aG) (tg:Expr) (J:It) (fp:List Addr) (it:Addr) (tn:Nat→Heap→Prop):Prop where
 mem:it∈fp
 obj:∀i h,tn i h→∀b∈fp,∃o,h.get? b=some o∧∀v,o.data≠.cell v
 keep:∀i h h',tn i h→(∀b∈fp,∀o,h.get? b=some o→h'.get? b=some o)→tn i h'
 item:∀(X:Cx),X.prog=P→X.w=w→X.K=K→X.calm=true→∀(i:Nat) (pins:aO) (s:Shared) (σ:St) (H:Hp) (E:aF),Inv X pins σ H s→(∀b∈fp,kT X pins H b)→tn i s.heap→J.go i H→
  wpAny (model P w) X.A (pyNext (.ref it)) (fun r s1=>∃u,r=some u ∧
   wpAny (model P w) X.A (letOwnedTupleGo tg (.ref it) u) (fun _ s2=>∃x H',Inv X pins σ H' s2∧RelV x u∧J.du i H x H'∧tn (i+1) s2.heap∧∀b∈fp,H' b=none) E s1) E s
 done:∀(X:Cx),X.prog=P→X.w=w→X.K=K→X.calm=true→∀(i:Nat) (pins:aO) (s:Shared) (σ:St) (H:Hp) (E:aF),Inv X pins σ H s→(∀b∈fp,kT X pins H b)→tn i s.heap→J.stop i H→
  wpAny (model P w) X.A (pyNext (.ref it)) (fun r s1=>r=none∧Inv X pins σ H s1) E s
 self:∀(A:Around) (i:Nat) (s:Shared) (Q:aF) (E:aF),tn i s.heap→Q (.ref it) s→wpAny (model P w) A (pyIter (.ref it)) Q E s
abbrev TI:=St→Hp→(It→Hp→Prop)→Prop
def zZ(X:Cx)(pins:aO)(σ:St)(tg:Expr)(R:It→Hp→Prop)(uf:Value)(s2:Shared):Prop:=
 ∃(it:Addr) (fp:List Addr) (tn:Nat→Heap→Prop) (J:It) (H':Hp),uf=.ref it∧Inv X pins σ H' s2∧Turn X.prog X.w X.K tg J fp it tn∧tn 0 s2.heap∧(∀b∈fp,kT X pins H' b)∧R J H'
def PI(X:Cx)(tg iter:Expr)(wi:TI):Prop:=
 ∀(pins:aO) (s:Shared) (σ:St) (H:Hp) (R:It→Hp→Prop),Inv X pins σ H s→wi σ H R→
  wpAny (model X.prog X.w) X.A (eval iter X.env) (fun v s1=>wpAny (model X.prog X.w) X.A (pyIter v) (zZ X pins σ tg R) X.xe s1) X.xe s
variable {tg:Expr}
theorem qI{it:Addr}{o:Obj}{n:String}{vs:Array Value}{Q:Unit→Shared→Prop}(ho:s.heap.get? it=some o)(hc:o.cls=.type n)(hd:o.data=.fields vs)
    (hn:["enumerate","zip","dict_itemiterator","dict_reverseitemiterator","odict_iterator","itertools.zip_longest","itertools.pairwise"].contains n=false) (hQ:Q () s):wpAny M A (letOwnedTupleGo tg (.ref it) u) Q E s:=by
  unfold letOwnedTupleGo
  cases tg <;> first
    | exact aI hQ
    | (cases u <;> first
        | exact aI hQ
        | (refine ao (wpAny_load ho ?_)
           rw [hc,hd];show wpAny M A (if (["enumerate","zip","dict_itemiterator","dict_reverseitemiterator","odict_iterator","itertools.zip_longest","itertools.pairwise"].contains n && vs[0]? == some (rawInt _))=true then _ else _) Q E s
           rw [aa (by intro h;rw [hn,Bool.false_and] at h;cases h)]
           exact aI hQ))
def iM(K:aG)(a:Addr):It:=
 ⟨fun i H=>∃xs x,bj K H a xs∧xs[i]?=some x,fun i H x H'=>H'=H∧∀xs,bj K H a xs→xs[i]?=some x,fun i H=>∃xs,bj K H a xs∧xs.length≤i⟩
def ug(K:aG)(a:Addr):It:=
 ⟨fun i H=>∃xs x,dc K H a xs∧xs[i]?=some x,fun i H x H'=>H'=H∧∀xs,dc K H a xs→xs[i]?=some x,fun i H=>∃xs,dc K H a xs∧xs.length≤i⟩
def mC(lo:Int)(n:Nat):It:=⟨fun i _=>i<n,fun i H x H'=>H'=H∧x=.int (lo+i),fun i _=>n≤i⟩
variable {K:aG}
theorem JP(a it:Addr):Turn P w K tg (iM K a) [it] it (fun i h=>h.IsListIter it a i) where
 mem:=by simp
 obj:=fun i h st b hb=>by
  have e:b=it:=by simpa using hb
  subst e;obtain ⟨o,e,c,d⟩:=st;exact ⟨o,e,fun v z=>by rw [d] at z;cases z⟩
 keep:=fun i h h' st k=>st.at fun o e=>k it (by simp) o e
 item:=by
  intro X hP hw hK hc i pins s σ H E I hf st hg;subst hP hw hK;obtain ⟨xs,x,hq,hx⟩:=hg;obtain ⟨ai,rv,p,hz⟩:=I.list hq;obtain ⟨u,hu,ru⟩:=rv.get hx;obtain ⟨f0,f1,f2,f3,f4,f5⟩:=hf it (by simp)
  refine wpAny_pyNext_list_item st p.isList (x:=u) (by simpa using hu) fun h' av sb=>?_
  have I1:Inv X pins σ H {s with heap:=h'}:=I.turned (t':=s.toks) (fun b o hb e=>(sb.2 b hb).trans e) f0 f1 f3 f4 f5;obtain ⟨o,e,c,d⟩:=id av;exact ⟨u,rfl,qI (s:={s with heap:=h'}) e c d (by decide) ⟨x,H,I1,ru,⟨rfl,fun ys hy=>by rw [I.Dm hy hq];exact hx⟩,av,fun b hb=>(hf b hb).1⟩⟩
 done:=by
  intro X hP hw hK hc i pins s σ H E I hf st hg;subst hP hw hK;obtain ⟨xs,hq,hx⟩:=hg;obtain ⟨ai,rv,p,hz⟩:=I.list hq;obtain ⟨f0,f1,f2,f3,f4,f5⟩:=hf it (by simp)
  have hl:=rv.length;exact wpAny_pyNext_list_end (I.ok.hd hc) st p.isList (by simp;omega) fun h' eb=>⟨rfl,I.turned (t':=s.toks) (fun b o hb e=>eb b o hb e) f0 f1 f3 f4 f5⟩
 self:=fun _ _ _ _ _ st h=>wpAny_pyIter_listiter st h
theorem JQ(a it:Addr):Turn P w K tg (ug K a) [it] it (fun i h=>h.IsTupleIter it a i) where
 mem:=by simp
 obj:=fun i h st b hb=>by
  have e:b=it:=by simpa using hb
  subst e;obtain ⟨o,e,c,d⟩:=st;exact ⟨o,e,fun v z=>by rw [d] at z;cases z⟩
 keep:=fun i h h' st k=>st.at fun o e=>k it (by simp) o e
 item:=by
  intro X hP hw hK hc i pins s σ H E I hf st hg;subst hP hw hK;obtain ⟨xs,x,hq,hx⟩:=hg;obtain ⟨ai,rv,p,hz⟩:=I.tuple hq;obtain ⟨u,hu,ru⟩:=rv.get hx;obtain ⟨f0,f1,f2,f3,f4,f5⟩:=hf it (by simp)
  refine wpAny_pyNext_tuple_item st (show s.heap.IsTuple a ai.toArray from p) (x:=u) (by simpa using hu) fun h' av sb=>?_
  have I1:Inv X pins σ H {s with heap:=h'}:=I.turned (t':=s.toks) (fun b o hb e=>(sb.2 b hb).trans e) f0 f1 f3 f4 f5;obtain ⟨o,e,c,d⟩:=id av;exact ⟨u,rfl,qI (s:={s with heap:=h'}) e c d (by decide) ⟨x,H,I1,ru,⟨rfl,fun ys hy=>by rw [I.JJ hy hq];exact hx⟩,av,fun b hb=>(hf b hb).1⟩⟩
 done:=by
  intro X hP hw hK hc i pins s σ H E I hf st hg;subst hP hw hK;obtain ⟨xs,hq,hx⟩:=hg;obtain ⟨ai,rv,p,hz⟩:=I.tuple hq;obtain ⟨f0,f1,f2,f3,f4,f5⟩:=hf it (by simp)
  have hl:=rv.length;exact wpAny_pyNext_tuple_end (I.ok.hd hc) st (show s.heap.IsTuple a ai.toArray from p) (by simp;omega) fun h' eb=>⟨rfl,I.turned (t':=s.toks) (fun b o hb e=>eb b o hb e) f0 f1 f3 f4 f5⟩
 self:=fun _ _ _ _ _ st h=>wpAny_pyIter_tupleiter st h
theorem JR(it:Addr)(lo:Int)(n:Nat):Turn P w K tg (mC lo n) [it] it (fun i h=>IsRangeIter h it (lo+(i:Nat)*1) ((n:Int)-(i:Nat)) 1) where
 mem:=by simp
 obj:=fun i h st b hb=>by
  have e:b=it:=by simpa using hb
  subst e;exact ⟨_,st,fun v z=>by have z':Data.fields _=Data.cell v:=z;cases z'⟩
 keep:=fun i h h' st k=>k it (by simp) _ st
 item:=by
  intro X hP hw hK hc i pins s σ H E I hf st hg;subst hP hw hK;obtain ⟨f0,f1,f2,f3,f4,f5⟩:=hf it (by simp)
  have W:=Walks.range (prog:=X.prog) (w:=X.w) (I.ok.hd hc) it lo 1 n;refine W.item i s _ _ hg st fun v h' tk hv av kk=>?_;obtain ⟨t,rfl⟩:=hv;have I1:Inv X pins σ H {s with heap:=h',toks:=tk}:=I.turned (fun b o hb e=>kk b o (by simpa using hb) e) f0 f1 f3 f4 f5
  refine ⟨_,rfl,qI (s:={s with heap:=h',toks:=tk}) (n:="range_iterator") av rfl rfl (by decide) ⟨.int (lo+i),H,I1,⟨t,?_⟩,⟨rfl,rfl⟩,av,fun b hb=>(hf b hb).1⟩⟩
  rw [Int.mul_one]
 done:=by
  intro X hP hw hK hc i pins s σ H E I hf st hg;subst hP hw hK;obtain ⟨f0,f1,f2,f3,f4,f5⟩:=hf it (by simp)
  exact wpAny_pyNext_range_end (I.ok.hd hc) st (by have:n≤i:=hg;omega) fun h' eb=>⟨rfl,I.turned (t':=s.toks) (fun b o hb e=>eb b o hb e) f0 f1 f3 f4 f5⟩
 self:=fun _ _ _ _ _ st h=>zv st h
section
variable {X:Cx} {tg:Expr}
def Ds(K:aG)(tl:TE):TI:=fun σ H R=>tl σ H fun x H1=>∃a,x=.ref a∧(∃xs,bj K H1 a xs)∧R (iM K a) H1
def JS(K:aG)(tl:TE):TI:=fun σ H R=>tl σ H fun x H1=>∃a,x=.ref a∧(∃xs,dc K H1 a xs)∧R (ug K a) H1
variable {l:Expr} {tl:TE}
theorem eW(hl:PE X l tl):PI X tg l (Ds X.K tl):=by
 intro pins s σ H R I h;refine aJ (hl pins s σ H _ I h) fun v s1 ⟨x,H1,I1,r1,q1⟩=>?_;obtain ⟨a,e,⟨xs,hq⟩,q⟩:=q1;subst e;cases r1;obtain ⟨ai,rv,p,hz⟩:=I1.list hq;refine tJ p.isList ?_;refine ⟨s1.heap.objs.size,[s1.heap.objs.size],_,_,H1,rfl,I1.kept (t':=s1.toks) fun b o e=>bQ _ e,JP a _,⟨_,cM _ rfl,rfl,rfl⟩,fun b hb=>?_,q⟩;have e:b=s1.heap.objs.size:=by simpa using hb
 subst e;exact I1.nR (ay _) (I1.ax.fresh (ay _))
theorem Dt(hl:PE X l tl):PI X tg l (JS X.K tl):=by
 intro pins s σ H R I h;refine aJ (hl pins s σ H _ I h) fun v s1 ⟨x,H1,I1,r1,q1⟩=>?_;obtain ⟨a,e,⟨xs,hq⟩,q⟩:=q1;subst e;cases r1;obtain ⟨ai,rv,p,hz⟩:=I1.tuple hq;refine wpAny_pyIter_tuple (show s1.heap.IsTuple a ai.toArray from p) ?_;refine ⟨s1.heap.objs.size,[s1.heap.objs.size],_,_,H1,rfl,I1.kept (t':=s1.toks) fun b o e=>bQ _ e,JQ a _,⟨_,cM _ rfl,rfl,rfl⟩,fun b hb=>?_,q⟩;have e:b=s1.heap.objs.size:=by simpa using hb
 subst e;exact I1.nR (ay _) (I1.ax.fresh (ay _))
variable {pins:aO}
theorem Du{R:It→Hp→Prop}{lo hi:Int}{t u v:Tok}{tk:Nat}(I:Inv X pins σ H s)(h1:-(2 ^ 62)≤lo)(h2:lo<2 ^ 62)(h3:-(2 ^ 62)≤hi)(h4:hi<2 ^ 62)
  (q:R (mC lo (hi-lo).toNat) H):wpAny (model X.prog X.w) X.A (pyIter (.ref s.heap.objs.size)) (zZ X pins σ tg R) E {s with heap:=s.heap.push {cls:=.type "range",data:=.fields #[.int lo t,.int hi u,.int 1 v]},toks:=tk}:=by
 refine wpAny_pyIter_range (IsRange.new ..) (small_one h1 h2 h3 h4) ?_;have I1:Inv X pins σ H {s with heap:=s.heap.push {cls:=.type "range",data:=.fields #[.int lo t,.int hi u,.int 1 v]},toks:=tk}:=I.kept fun b o e=>bQ _ e
 refine ⟨(s.heap.push {cls:=.type "range",data:=.fields #[.int lo t,.int hi u,.int 1 v]}).objs.size,[(s.heap.push {cls:=.type "range",data:=.fields #[.int lo t,.int hi u,.int 1 v]}).objs.size],_,_,H,rfl,
  I1.kept (t':=tk) fun b o e=>bQ _ e,JR _ lo (hi-lo).toNat,?_,fun b hb=>?_,q⟩
 ·have e1:lo+((0:Nat):Int)*1=lo:=by simp
  have e2:(((hi-lo).toNat:Nat):Int)-((0:Nat):Int)=Builtin.Range.rangeSize lo hi 1:=by rw [rangeSize_one];split <;> omega
  show IsRangeIter _ _ (lo+((0:Nat):Int)*1) ((((hi-lo).toNat:Nat):Int)-((0:Nat):Int)) 1;rw [e1,e2];exact cM _ rfl
 ·have e:b=(s.heap.push {cls:=.type "range",data:=.fields #[.int lo t,.int hi u,.int 1 v]}).objs.size:=by simpa using hb
  subst e;exact I1.nR (ay _) (I1.ax.fresh (ay _))
def JT(ta:TA):TI:=fun σ H R=>ta σ H fun vs H1=>∃j:Int,vs=[.int j]∧-(2 ^ 62)≤j∧j<2 ^ 62∧R (mC 0 j.toNat) H1
def JU(ta:TA):TI:=fun σ H R=>ta σ H fun vs H1=>∃i j:Int,vs=[.int i,.int j]∧(-(2 ^ 62)≤i∧i<2 ^ 62∧-(2 ^ 62)≤j∧j<2 ^ 62)∧R (mC i (j-i).toNat) H1
variable {ta:TA} {p pos:Pos}
theorem jj{a:Expr}(hg:Gl X "range")(hm:X.mg "range"=none)(ha:PA X [a] ta)(hs:starEach [a] X.env=[(false,eval a X.env)]:=by rfl):PI X tg (.Call (.Name "range" p) [a] [] pos) (JT ta):=by
 intro pins s σ H R I h;refine Call_ (ji I hg hm boot_range (tK (aJ (ha pos pins s σ H _ I h) fun us s1 ⟨vs,H1,I1,r1,q1⟩=>?_) hs rfl));obtain ⟨j,e,q1,q2,q⟩:=q1;subst e;cases r1 with
 | cons r rr=>cases rr;obtain ⟨t,rfl⟩:=r;exact call_range_1 (Du I1 (by omega) (by omega) q1 q2 (by simpa using q))
theorem JV{a b:Expr}(hg:Gl X "range")(hm:X.mg "range"=none)(ha:PA X [a,b] ta)(hs:starEach [a,b] X.env=[(false,eval a X.env),(false,eval b X.env)]:=by rfl)(qJ:starEach [b] X.env=[(false,eval b X.env)]:=by rfl) :
  PI X tg (.Call (.Name "range" p) [a,b] [] pos) (JU ta):=by
 intro pins s σ H R I h;refine Call_ (ji I hg hm boot_range (tK (aJ (ha pos pins s σ H _ I h) fun us s1 ⟨vs,H1,I1,r1,q1⟩=>?_) (by rw [hs,qJ]) (by rw [qJ];rfl)))
 obtain ⟨i,j,e,⟨q1,q2,q3,q4⟩,q⟩:=q1;subst e;cases r1 with
 | cons r rr=>
  cases rr with
  | cons r' rr=>cases rr;obtain ⟨t,rfl⟩:=r;obtain ⟨t',rfl⟩:=r';exact call_range_2 (Du I1 q1 q2 q3 q4 q)
def Dw(wi:TI)(g:TG)(tb:TS):TS:=fun D σ H=>wi σ H fun J H1=>∃W:Nat→Nat→St→Hp→Prop,(∃m,W 0 m σ H1)∧∀i m σ H,W i m σ H→
 (J.stop i H∧D.nx σ H)∨(J.go i H∧∃N:St→Hp→Prop,(∀σ' H',N σ' H'→∃m',m'<m∧W (i+1) m' σ' H')∧∀x H',J.du i H x H'→g x σ H' fun σ2 H2=>tb {D with nx:=N,ct:=N,bk:=D.nx} σ2 H2)
def j6(fp:List Addr)(h:Heap):List (Addr×Obj):=fp.filterMap fun b=>(h.get? b).map fun o=>(b,o)
variable {fp:List Addr}
theorem mE{o:Obj}(hb:b∈fp)(e:h.get? b=some o):(b,o)∈j6 fp h:=List.mem_filterMap.mpr ⟨b,hb,by rw [e];rfl⟩
theorem JW{p:Addr×Obj}(hp:p∈j6 fp h):p.1∈fp∧h.get? p.1=some p.2:=by
 obtain ⟨b,hb,e⟩:=List.mem_filterMap.mp hp;cases q:h.get? b with
 | none=>rw [q] at e;cases e
 | some o=>rw [q] at e;have e':(b,o)=p:=Option.some.inj e;subst e';exact ⟨hb,q⟩
theorem Inv.pinned(I:Inv X pins σ H s)(hf:∀b∈fp,kT X pins H b)(ho:∀b∈fp,∃o,s.heap.get? b=some o∧∀v,o.data≠.cell v):Inv X (pins++j6 fp s.heap) σ H s:=
 I.C3 fun p hp=>(cL.mp hp).elim (fun z=>I.pin p (dI _ z)) fun z=>by obtain ⟨hb,e⟩:=JW z;obtain ⟨f0,f1,f2,_⟩:=hf p.1 hb;obtain ⟨o,e',d⟩:=ho p.1 hb;rw [e] at e';cases e';exact ⟨e,f0,f1,f2,d⟩
theorem Inv.qK{pl:aO}(I:Inv X (pins++pl) σ H s):Inv X pins σ H s:=I.C3 fun p hp=>I.pin p (dI _ (m4 _ hp))
theorem dW{iter:Expr}{body:List Stmt}{wi:TI}{g:TG}{tb:TS}(hp:PassesOwn (model X.prog X.w) X.A X.env X.xe)(hc:X.calm=true)(hi:PI X tg iter wi)(hg:PG X tg g)(hb:eJ X body tb)
  (hs:∀x,foldedSetIterable iter X.env x=pure x:=by intro _;rfl):PS X (.For tg iter body [] pos) (Dw wi g tb):=by
 intro pins s σ H D I h;refine wpAny_For (aJ (hi pins s σ H _ I h) fun v s1 h1=>aJ h1 fun uf s2 h2=>?_) hs;obtain ⟨it,fp,tn,J,H2,e,I2,T,hG,f2,W,⟨m0,w0⟩,turn⟩:=h2;subst e;have fR:∀{H':Hp},(∀b∈fp,H' b=none)→∀b∈fp,kT X pins H' b:=fun hn b hb=>⟨hn b hb,(f2 b hb).2⟩;refine codeAny_forLoop_any (fun n s'=>∃i σ' H',Inv X pins σ' H' s'∧tn i s'.heap∧(∀b∈fp,H' b=none)∧W i n σ' H') ?_ m0 ⟨0,σ,H2,I2,hG,fun b hb=>(f2 b hb).1,w0⟩;rintro n s3 ⟨i,σ3,H3,I3,Dy,Dz,w3⟩;rcases turn i n σ3 H3 w3 with ⟨stop,qn⟩ | ⟨go,N,hN,step⟩
 ·refine m5 hp (aJ (T.done X rfl rfl rfl hc i pins s3 σ3 H3 X.xe I3 (fR Dz) Dy stop) fun r s4 ⟨hr,I4⟩=>?_)
  subst hr;exact wa ⟨σ3,H3,I4,qn⟩
 ·refine m5 hp (aJ (T.item X rfl rfl rfl hc i pins s3 σ3 H3 X.xe I3 (fR Dz) Dy go) fun r s4 ⟨u,hr,h4⟩=>?_)
  subst hr;refine m5 hp (aJ h4 fun _ s5 ⟨x,H5,I5,r5,y5,fS,nS⟩=>?_);have nU:=I5.pinned (fR nS) (T.obj _ _ fS);refine m5 hp (aJ (hg _ s5 σ3 H5 x u _ nU r5 (step x H5 y5)) fun _ s6 ⟨σ6,H6,I6,q6⟩=>?_);refine m5 hp (aJ (hb _ s6 σ6 H6 _ I6 q6) fun f s7 q7=>?_);have again:∀{σ7:St} {H7:Hp},Inv X (pins++j6 fp s5.heap) σ7 H7 s7→N σ7 H7→∃m,m<n∧∃i σ' H',Inv X pins σ' H' s7∧tn i s7.heap∧(∀b∈fp,H' b=none)∧W i m σ' H':=fun{σ7 H7} I7 n7=>by obtain ⟨m',hm,w7⟩:=hN σ7 H7 n7;refine ⟨m',hm,i+1,σ7,H7,I7.qK,T.keep _ _ _ fS fun b hb o e=>(I7.pin (b,o) (dI _ (dI _ (mE hb e)))).1,fun b hb=>?_,w7⟩;obtain ⟨o,e,d⟩:=T.obj _ _ fS b hb;exact (I7.pin (b,o) (dI _ (dI _ (mE hb e)))).2.1
  cases f with
  | next=>obtain ⟨σ7,H7,I7,n7⟩:=q7;exact again I7 n7
  | cont=>obtain ⟨σ7,H7,I7,n7⟩:=q7;exact again I7 n7
  | brk=>obtain ⟨σ7,H7,I7,q7⟩:=q7;exact ⟨σ7,H7,I7.qK,q7⟩
  | ret v=>obtain ⟨x7,σ7,H7,I7,r7,q7⟩:=q7;exact ⟨x7,σ7,H7,I7.qK,r7,q7⟩
end
variable {g:TG} {tb:TS} {D:Ends}
theorem nV(Pv:Nat→St→Hp→Prop)(h0:Pv 0 σ H)(hl:∀i σ H,i≤xs.length→Pv i σ H→bj K H a xs)
  (hs:∀i x σ H,xs[i]?=some x→Pv i σ H→g x σ H fun σ2 H2=>tb {D with nx:=Pv (i+1),ct:=Pv (i+1),bk:=D.nx} σ2 H2) (hd:∀σ H,Pv xs.length σ H→D.nx σ H) :
  ∃W:Nat→Nat→St→Hp→Prop,(∃m,W 0 m σ H)∧∀i m σ H,W i m σ H→
   ((iM K a).stop i H∧D.nx σ H)∨((iM K a).go i H∧∃N:St→Hp→Prop,(∀σ' H',N σ' H'→∃m',m'<m∧W (i+1) m' σ' H')∧∀x H',(iM K a).du i H x H'→g x σ H' fun σ2 H2=>tb {D with nx:=N,ct:=N,bk:=D.nx} σ2 H2):=by
 refine ⟨fun i m σ H=>m=xs.length-i∧i≤xs.length∧Pv i σ H,⟨xs.length,by simp,bH _,h0⟩,?_⟩
 rintro i m σ H ⟨rfl,hi,p⟩;have q:=hl i σ H hi p;by_cases a7:i<xs.length
 ·refine .inr ⟨⟨xs,xs[i],q,by simp [a7]⟩,Pv (i+1),fun σ' H' p'=>⟨xs.length-(i+1),by omega,rfl,a7,p'⟩,fun x H' y=>?_⟩
  obtain ⟨e,y⟩:=y;subst e;exact hs i x σ _ (y xs q) p
 ·have e:i=xs.length:=by omega
  subst e;exact .inl ⟨⟨xs,q,ay _⟩,hd σ H p⟩
theorem DA(Pv:Nat→St→Hp→Prop)(h0:Pv 0 σ H)(hl:∀i σ H,i≤xs.length→Pv i σ H→dc K H a xs)
  (hs:∀i x σ H,xs[i]?=some x→Pv i σ H→g x σ H fun σ2 H2=>tb {D with nx:=Pv (i+1),ct:=Pv (i+1),bk:=D.nx} σ2 H2) (hd:∀σ H,Pv xs.length σ H→D.nx σ H) :
  ∃W:Nat→Nat→St→Hp→Prop,(∃m,W 0 m σ H)∧∀i m σ H,W i m σ H→
   ((ug K a).stop i H∧D.nx σ H)∨((ug K a).go i H∧∃N:St→Hp→Prop,(∀σ' H',N σ' H'→∃m',m'<m∧W (i+1) m' σ' H')∧∀x H',(ug K a).du i H x H'→g x σ H' fun σ2 H2=>tb {D with nx:=N,ct:=N,bk:=D.nx} σ2 H2):=by
 refine ⟨fun i m σ H=>m=xs.length-i∧i≤xs.length∧Pv i σ H,⟨xs.length,by simp,bH _,h0⟩,?_⟩
 rintro i m σ H ⟨rfl,hi,p⟩;have q:=hl i σ H hi p;by_cases a7:i<xs.length
 ·refine .inr ⟨⟨xs,xs[i],q,by simp [a7]⟩,Pv (i+1),fun σ' H' p'=>⟨xs.length-(i+1),by omega,rfl,a7,p'⟩,fun x H' y=>?_⟩
  obtain ⟨e,y⟩:=y;subst e;exact hs i x σ _ (y xs q) p
 ·have e:i=xs.length:=by omega
  subst e;exact .inl ⟨⟨xs,q,ay _⟩,hd σ H p⟩
variable {n:Nat}
theorem kU{lo:Int}(Pv:Nat→St→Hp→Prop)(h0:Pv 0 σ H)
  (hs:∀i σ H,i<n→Pv i σ H→g (.int (lo+i)) σ H fun σ2 H2=>tb {D with nx:=Pv (i+1),ct:=Pv (i+1),bk:=D.nx} σ2 H2) (hd:∀σ H,Pv n σ H→D.nx σ H) :
  ∃W:Nat→Nat→St→Hp→Prop,(∃m,W 0 m σ H)∧∀i m σ H,W i m σ H→
   ((mC lo n).stop i H∧D.nx σ H)∨((mC lo n).go i H∧∃N:St→Hp→Prop,(∀σ' H',N σ' H'→∃m',m'<m∧W (i+1) m' σ' H')∧∀x H',(mC lo n).du i H x H'→g x σ H' fun σ2 H2=>tb {D with nx:=N,ct:=N,bk:=D.nx} σ2 H2):=by
 refine ⟨fun i m σ H=>m=n-i∧i≤n∧Pv i σ H,⟨n,by simp,bH _,h0⟩,?_⟩
 rintro i m σ H ⟨rfl,hi,p⟩;by_cases a7:i<n
 ·refine .inr ⟨a7,Pv (i+1),fun σ' H' p'=>⟨n-(i+1),by omega,rfl,a7,p'⟩,fun x H' y=>?_⟩
  obtain ⟨e,y⟩:=y;subst e y;exact hs i σ _ a7 p
 ·have e:i=n:=by omega
  subst e;exact .inl ⟨ay _,hd σ H p⟩
abbrev R2:=V→V→Hp→VK→Prop
def cz(X:Cx)(f:Value→Value→Sem Value)(r:R2):Prop:=
 ∀(pins:aO) (s:Shared) (σ:St) (H:Hp) (x y:V) (v u:Value) (Q:VK),Inv X pins σ H s→RelV x v→RelV y u→r x y H Q→
  wpAny (model X.prog X.w) X.A (f v u) (EP X pins σ Q) X.xe s
def z5(X:Cx)(f:Value→Sem Value)(r:V→Hp→VK→Prop):Prop:=
 ∀(pins:aO) (s:Shared) (σ:St) (H:Hp) (x:V) (v:Value) (Q:VK),Inv X pins σ H s→RelV x v→r x H Q→
  wpAny (model X.prog X.w) X.A (f v) (EP X pins σ Q) X.xe s
def en(X:Cx)(f:Value)(r:List V→Hp→VK→Prop):Prop:=
 ∀(pins:aO) (s:Shared) (σ:St) (H:Hp) (xs:List V) (us:List Value) (Q:VK),Inv X pins σ H s→Vals xs us→r xs H Q→
  wpAny (model X.prog X.w) X.A (call f us) (EP X pins σ Q) X.xe s
def nW(r:R2)(ta tb:TE):TE:=fun σ H Q=>ta σ H fun x H1=>tb σ H1 fun y H2=>r x y H2 Q
def JX(r:V→Hp→VK→Prop)(ta:TE):TE:=fun σ H Q=>ta σ H fun x H1=>r x H1 Q
def rI(C:Int→Int→Prop)(g:Int→Int→V):R2:=fun x y H Q=>∃i j,x=.int i∧y=.int j∧C i j∧Q (g i j) H
def mF(g:Int→Int→V):R2:=fun x y H Q=>∃i j,x=.int i∧y=.int j∧Q (g i j) H
def rU(g:Int→V):V→Hp→VK→Prop:=fun x H Q=>∃i,x=.int i∧Q (g i) H
section
variable {X:Cx} {a b c:Expr} {ta tb tc:TE} {pos:Pos}
variable {f:Value→Value→Sem Value}
theorem z6(ha:PE X a ta)(hb:PE X b tb){pins:aO}{R:V→V→Hp→Prop}(I:Inv X pins σ H s)
  (h:ta σ H fun x H1=>tb σ H1 fun y H2=>R x y H2) {Q:aF}
  (hf:∀v u s2 x y H2,Inv X pins σ H2 s2→RelV x v→RelV y u→R x y H2→wpAny (model X.prog X.w) X.A (f v u) Q X.xe s2) :
  wpAny (model X.prog X.w) X.A (eval a X.env) (fun v s₁=>wpAny (model X.prog X.w) X.A (eval b X.env) (fun u s₂=>wpAny (model X.prog X.w) X.A (f v u) Q X.xe s₂) X.xe s₁) X.xe s:=by
 refine aJ (ha pins s σ H _ I h) fun v s1 ⟨x,H1,I1,r1,q1⟩=>?_;refine aJ (hb pins s1 σ H1 _ I1 q1) fun u s2 ⟨y,H2,I2,r2,q2⟩=>?_;exact hf v u s2 x y H2 I2 r1 r2 q2
theorem ba{op:Operator}{r:R2}(ho:cz X (binaryOp op) r)(ha:PE X a ta)(hb:PE X b tb):PE X (.BinOp a op b pos) (nW r ta tb):=by intro pins s σ H Q I h;exact wpAny_BinOp (z6 ha hb I h fun v u s2 x y H2 I2 rx ry q=>ho pins s2 σ H2 x y v u Q I2 rx ry q)
theorem JY{op:UnaryOp}{r:V→Hp→VK→Prop}(ho:z5 X (unaryOp op) r)(ha:PE X a ta):PE X (.UnaryOp op a pos) (JX r ta):=by intro pins s σ H Q I h;exact UnaryOp_ (aJ (ha pins s σ H _ I h) fun v s1 ⟨x,H1,I1,r1,q1⟩=>ho pins s1 σ H1 x v Q I1 r1 q1)
theorem wL{C:Int→Int→Prop}{g:Int→Int→Int}
  (rule:∀(i j:Int) (t u:Tok) (s:Shared) (Q:aF) (E:aF),C i j→Q (.int (g i j) s.toks) {s with toks:=s.toks+1}→wpAny (model X.prog X.w) X.A (f (.int i t) (.int j u)) Q E s) :
  cz X f (rI C fun i j=>.int (g i j)):=by
 intro pins s σ H x y v u Q I rx ry h;obtain ⟨i,j,rfl,rfl,hc,q⟩:=h;obtain ⟨t,rfl⟩:=rx;obtain ⟨t',rfl⟩:=ry;exact rule i j t t' s _ _ hc ⟨.int (g i j),H,I.tok _,⟨_,rfl⟩,q⟩
theorem DB{g:Int→Int→Int}
  (rule:∀(i j:Int) (t u:Tok) (s:Shared) (Q:aF) (E:aF),Q (.int (g i j) s.toks) {s with toks:=s.toks+1}→wpAny (model X.prog X.w) X.A (f (.int i t) (.int j u)) Q E s) :
  cz X f (mF fun i j=>.int (g i j)):=by
 intro pins s σ H x y v u Q I rx ry h;obtain ⟨i,j,rfl,rfl,q⟩:=h;obtain ⟨t,rfl⟩:=rx;obtain ⟨t',rfl⟩:=ry;exact rule i j t t' s _ _ ⟨.int (g i j),H,I.tok _,⟨_,rfl⟩,q⟩
theorem wM{g:Int→Int→Bool}
  (rule:∀(i j:Int) (t u:Tok) (s:Shared) (Q:aF) (E:aF),Q (.bool (g i j)) s→wpAny (model X.prog X.w) X.A (f (.int i t) (.int j u)) Q E s) :
  cz X f (mF fun i j=>.bl (g i j)):=by
 intro pins s σ H x y v u Q I rx ry h;obtain ⟨i,j,rfl,rfl,q⟩:=h;obtain ⟨t,rfl⟩:=rx;obtain ⟨t',rfl⟩:=ry;exact rule i j t t' s _ _ ⟨.bl (g i j),H,I,rfl,q⟩
def JZ(i j:Int):Prop:=0≤j∧j≤1000000∧i.natAbs<2 ^ 64
def z7(i j:Int):Prop:=(-(2 ^ 64)<i∧i<2 ^ 64)∨(-(2 ^ 64)<j∧j<2 ^ 64)
theorem z7.ok{i j:Int}(h:z7 i j):IntMulOk i j:=by
 rcases h with ⟨h1,h2⟩ | ⟨h1,h2⟩;·exact .of_left (intBits_le_64 h1 h2)
 ·exact .of_right (intBits_le_64 h1 h2)
theorem fB:cz X (binaryOp .Add) (mF fun i j=>.int (i+j)):=DB fun _ _ _ _ _ _ _ q=>add_int q
theorem wN:cz X (binaryOp .Sub) (mF fun i j=>.int (i-j)):=DB fun _ _ _ _ _ _ _ q=>sub_int q
theorem hJ:cz X (binaryOp .Mult) (rI z7 fun i j=>.int (i*j)):=wL fun _ _ _ _ _ _ _ hc q=>mul_int q hc.ok
theorem nX:cz X (binaryOp .Mod) (rI (fun _ j=>0<j) fun i j=>.int (i % j)):=wL fun i j _ _ _ _ _ hc q=>by have h1:(0:Int)<j:=hc;exact mod_int' (by omega) (by rw [Int.fmod_eq_emod_of_nonneg i (by omega)];exact q)
theorem DC:cz X (binaryOp .Pow) (rI JZ fun i j=>.int (i ^ j.toNat)):=wL fun _ _ _ _ _ _ _ hc q=>pow_int_small hc.1 hc.2.1 hc.2.2 q
theorem J0{f:Value→Sem Value}{g:Int→Int}
  (rule:∀(i:Int) (t:Tok) (s:Shared) (Q:aF) (E:aF),Q (.int (g i) s.toks) {s with toks:=s.toks+1}→wpAny (model X.prog X.w) X.A (f (.int i t)) Q E s) :
  z5 X f (rU fun i=>.int (g i)):=by
 intro pins s σ H x v Q I rx h;obtain ⟨i,rfl,q⟩:=h;obtain ⟨t,rfl⟩:=rx;exact rule i t s _ _ ⟨.int (g i),H,I.tok _,⟨_,rfl⟩,q⟩
theorem J1:z5 X (unaryOp .USub) (rU fun i=>.int (-i)):=J0 fun _ _ _ _ _ q=>neg_int q
end
def DD:V→V→Bool
 | .aP,.aP=>true | .aP,.int _=>true | .int _,.aP=>true | .aP,.bl _=>true | .bl _,.aP=>true | .aP,.str _=>true | .str _,.aP=>true
 | .int _,.int _=>true | .bl _,.bl _=>true | .str _,.str _=>true | .jg _,.jg _=>true
 | .int _,.str _=>true | .str _,.int _=>true | .bl _,.str _=>true | .str _,.bl _=>true
 | _,_=>false
def J2:R2:=fun x y H Q=>DD x y=true∧Q (.bl (decide (x=y))) H
def J3:R2:=fun x y H Q=>DD x y=true∧Q (.bl (!decide (x=y))) H
theorem DE{i j:Int}:decide (V.int i=V.int j)=(i == j):=by rw [m6];simp
theorem DF{i j:Bool}:decide (V.bl i=V.bl j)=(i == j):=by rw [m6];simp
theorem DG{i j:Str}:decide (V.str i=V.str j)=(i == j):=by rw [m6];simp
theorem DH{i j:Array UInt8}:decide (V.jg i=V.jg j)=(i.toList == j.toList):=by rw [m6];cases i;cases j;simp
section
variable {X:Cx} {a b c:Expr} {ta tb tc:TE} {pos:Pos}
theorem cF{pins:aO}{Q:VK}{k k':Bool}(I:Inv X pins σ H s)(q:Q (.bl k) H)(e:k=k'):EP X pins σ Q (.bool k') s:=by subst e;exact ⟨.bl k,H,I,rfl,q⟩
theorem jk:cz X (compareOp .Eq) J2:=by
 intro pins s σ H x y v u Q I rx ry h;obtain ⟨hs,q⟩:=h;cases x with
 | aP=>
  cases rx;cases y with
  | aP=>cases ry;exact PySem.EqNone.eq_none_none (cF I q (by simp))
  | bl j=>cases ry;exact PySem.EqNone.eq_none_bool (cF I q (by simp))
  | int j=>obtain ⟨t',rfl⟩:=ry;exact PySem.EqNone.eq_none_int (cF I q (by simp))
  | str j=>obtain ⟨t',rfl⟩:=ry;exact PySem.EqNone.eq_none_str (cF I q (by simp))
  | _=>exact absurd (show false=true from hs) b7
 | bl i=>
  cases rx;cases y with
  | aP=>cases ry;exact PySem.EqNone.eq_bool_none (cF I q (by simp))
  | bl j=>cases ry;exact eq_bool (cF I q DF)
  | str j=>obtain ⟨t',rfl⟩:=ry;exact PySem.EqMixed.eq_bool_str (cF I q (by simp))
  | _=>exact absurd (show false=true from hs) b7
 | int i=>
  obtain ⟨t,rfl⟩:=rx;cases y with
  | aP=>cases ry;exact PySem.EqNone.eq_int_none (cF I q (by simp))
  | int j=>obtain ⟨t',rfl⟩:=ry;exact eq_int (cF I q DE)
  | str j=>obtain ⟨t',rfl⟩:=ry;exact PySem.EqMixed.eq_int_str (cF I q (by simp))
  | _=>exact absurd (show false=true from hs) b7
 | str i=>
  obtain ⟨t,rfl⟩:=rx;cases y with
  | aP=>cases ry;exact PySem.EqNone.eq_str_none (cF I q (by simp))
  | bl j=>cases ry;exact PySem.EqMixed.eq_str_bool (cF I q (by simp))
  | int j=>obtain ⟨t',rfl⟩:=ry;exact PySem.EqMixed.eq_str_int (cF I q (by simp))
  | str j=>obtain ⟨t',rfl⟩:=ry;exact eq_str (cF I q DG)
  | _=>exact absurd (show false=true from hs) b7
 | jg i=>
  obtain ⟨t,rfl⟩:=rx;cases y with
  | jg j=>obtain ⟨t',rfl⟩:=ry;exact PySem.W.eq_bytes (cF I q DH)
  | _=>exact absurd (show false=true from hs) b7
 | _=>cases y <;> exact absurd (show false=true from hs) b7
theorem uh:cz X (compareOp .NotEq) J3:=by
 intro pins s σ H x y v u Q I rx ry h;obtain ⟨hs,q⟩:=h;cases x with
 | aP=>
  cases rx;cases y with
  | aP=>cases ry;exact PySem.EqNone.ne_none_none (cF I q (by simp))
  | bl j=>cases ry;exact PySem.EqNone.ne_none_bool (cF I q (by simp))
  | int j=>obtain ⟨t',rfl⟩:=ry;exact PySem.EqNone.ne_none_int (cF I q (by simp))
  | str j=>obtain ⟨t',rfl⟩:=ry;exact PySem.EqNone.ne_none_str (cF I q (by simp))
  | _=>exact absurd (show false=true from hs) b7
 | bl i=>
  cases rx;cases y with
  | aP=>cases ry;exact PySem.EqNone.ne_bool_none (cF I q (by simp))
  | bl j=>cases ry;exact ne_bool (cF I q (dH not DF))
  | str j=>obtain ⟨t',rfl⟩:=ry;exact PySem.EqMixed.ne_bool_str (cF I q (by simp))
  | _=>exact absurd (show false=true from hs) b7
 | int i=>
  obtain ⟨t,rfl⟩:=rx;cases y with
  | aP=>cases ry;exact PySem.EqNone.ne_int_none (cF I q (by simp))
  | int j=>obtain ⟨t',rfl⟩:=ry;exact ne_int (cF I q (dH not DE))
  | str j=>obtain ⟨t',rfl⟩:=ry;exact PySem.EqMixed.ne_int_str (cF I q (by simp))
  | _=>exact absurd (show false=true from hs) b7
 | str i=>
  obtain ⟨t,rfl⟩:=rx;cases y with
  | aP=>cases ry;exact PySem.EqNone.ne_str_none (cF I q (by simp))
  | bl j=>cases ry;exact PySem.EqMixed.ne_str_bool (cF I q (by simp))
  | int j=>obtain ⟨t',rfl⟩:=ry;exact PySem.EqMixed.ne_str_int (cF I q (by simp))
  | str j=>obtain ⟨t',rfl⟩:=ry;exact ne_str (cF I q (dH not DG))
  | _=>exact absurd (show false=true from hs) b7
 | jg i=>
  obtain ⟨t,rfl⟩:=rx;cases y with
  | jg j=>obtain ⟨t',rfl⟩:=ry;exact PySem.W.ne_bytes (cF I q (dH not DH))
  | _=>exact absurd (show false=true from hs) b7
 | _=>cases y <;> exact absurd (show false=true from hs) b7
theorem wO:cz X (compareOp .Lt) (mF fun i j=>.bl (decide (i<j))):=wM fun _ _ _ _ _ _ _ q=>lt_int q
theorem J4:cz X (compareOp .LtE) (mF fun i j=>.bl (decide (i≤j))):=wM fun _ _ _ _ _ _ _ q=>le_int q
theorem qL:cz X (compareOp .Gt) (mF fun i j=>.bl (decide (j<i))):=wM fun _ _ _ _ _ _ _ q=>gt_int q
theorem J5:cz X (compareOp .GtE) (mF fun i j=>.bl (decide (j≤i))):=wM fun _ _ _ _ _ _ _ q=>ge_int q
variable {op:CmpOp}
theorem DI(b:Expr)(h:op≠.In:=by decide)(h2:op≠.NotIn:=by decide):behindInMarks op b=false:=by
 have e1:(op == CmpOp.In)=false:=by cases op <;> first | rfl | exact absurd rfl h
 have e2:(op == CmpOp.NotIn)=false:=by cases op <;> first | rfl | exact absurd rfl h2
 cases b <;> simp [behindInMarks,e1,e2]
variable {r:R2}
theorem J6(ho:cz X (compareOp op) r)(ha:PE X a ta)(hb:PE X b tb)(hm:behindInMarks op b=false):PE X (.Compare a [op] [b] pos) (nW r ta tb):=by intro pins s σ H Q I h;exact wpAny_Compare1 (z6 ha hb I h fun v u s2 x y H2 I2 rx ry q=>ho pins s2 σ H2 x y v u Q I2 rx ry q) hm
theorem nY(ho:cz X (compareOp op) r)(ha:PE X a ta)(hb:PE X b tb)(hm:behindInMarks op b=false:=by exact DI _):PE X (.Compare a [op] [b] pos) (nW r ta tb):=J6 ho ha hb hm
def DJ(t:TE):TT:=fun σ H Q=>t σ H fun x H'=>∃k,x=.bl k∧Q k H'
theorem nZ(ho:cz X (compareOp op) r)(ha:PE X a ta)(hb:PE X b tb)(hm:behindInMarks op b=false):PT X (.Compare a [op] [b] pos) (DJ (nW r ta tb)):=by intro pins s σ H Q I h;refine wpAny_isTrue_Compare1 (aJ (ha pins s σ H _ I h) fun v s1 ⟨x,H1,I1,r1,q1⟩=>aJ (hb pins s1 σ H1 _ I1 q1) fun u s2 ⟨y,H2,I2,r2,q2⟩=>aJ (ho pins s2 σ H2 x y v u _ I2 r1 r2 q2) fun c s3 ⟨z,H3,I3,r3,k,e,q3⟩=>?_) hm;subst e;cases r3;exact kD ⟨H3,I3,q3⟩
theorem df(ho:cz X (compareOp op) r)(ha:PE X a ta)(hb:PE X b tb)(hm:behindInMarks op b=false:=by exact DI _):PT X (.Compare a [op] [b] pos) (DJ (nW r ta tb)):=nZ ho ha hb hm
theorem wQ:(sizeLine:Nat)<2 ^ 63:=by rw [gQ];decide
theorem vals1(r:Vals [x] us):∃u,us=[u]∧RelV x u:=by
 cases r with
 | cons r1 r2=>cases r2;exact ⟨_,rfl,r1⟩
theorem vals2{y:V}(r:Vals [x,y] us):∃u w',us=[u,w']∧RelV x u∧RelV y w':=by
 cases r with
 | cons r1 r2=>
  cases r2 with
  | cons r3 r4=>cases r4;exact ⟨_,_,rfl,r1,r3⟩
theorem J7(hc:X.calm=true):en X (.builtin "max") (fun xs H Q=>∃i j,xs=[.int i,.int j]∧Q (.int (if j>i then j else i)) H):=by
 intro pins s σ H xs us Q I r h;obtain ⟨i,j,rfl,q⟩:=h;obtain ⟨u,w',rfl,⟨t,rfl⟩,⟨t',rfl⟩⟩:=vals2 r;refine max_two_ints (I.ok.hd hc) fun h' tk k=>⟨_,H,I.kept k,?_,q⟩;by_cases hj:j>i;·rw [ae hj,ae hj];exact ⟨_,rfl⟩
 ·rw [aa hj,aa hj];exact ⟨_,rfl⟩
theorem J8(hc:X.calm=true):en X (.builtin "min") (fun xs H Q=>∃i j,xs=[.int i,.int j]∧Q (.int (if j<i then j else i)) H):=by
 intro pins s σ H xs us Q I r h;obtain ⟨i,j,rfl,q⟩:=h;obtain ⟨u,w',rfl,⟨t,rfl⟩,⟨t',rfl⟩⟩:=vals2 r;refine min_two_ints (I.ok.hd hc) fun h' tk k=>⟨_,H,I.kept k,?_,q⟩;by_cases hj:j<i;·rw [ae hj,ae hj];exact ⟨_,rfl⟩
 ·rw [aa hj,aa hj];exact ⟨_,rfl⟩
end
structure z8 (h:Heap) (x dx C:Addr) (mA:cN):Prop where
 obj:h.get? x=some (PySem.W.instObj C dx)
 ns:h.Ns1 dx mA
 ne:dx≠x
variable {dx:Addr} {mA:cN}
theorem J9(n:h.Ns1 dx mA):∃od,h.get? dx=some od∧∀name,PySem.W.lookIn name od=some (mA name):=by
 obtain ⟨o,es,ep,ho,hd,hk,_,hm⟩:=n;refine ⟨o,ho,fun name=>?_⟩;have e:=hm name;unfold nsFind findBy at e;rw [←Array.find?_toList] at e;unfold PySem.W.lookIn;rw [hd];dsimp only
 split
 ·rename_i y q
  rw [q] at e;exact dH some e
 ·rename_i q
  rw [q] at e;have a:es.toList.any (·.refKey)=false:=by rw [List.any_eq_false];intro y hy;obtain ⟨z,t,J_⟩:=hk y (Array.mem_toList_iff.mp hy);simp [DictEntry.refKey,J_]
  have a':¬es.toList.any (·.refKey)=true:=by rw [a];exact b7
  rw [aa a'];exact dH some e
theorem z8.look{x C:Addr}(I:z8 h x dx C mA):∃od,PySem.W.InstAt h x (PySem.W.instObj C dx) C (some od)∧∀name,PySem.W.lookIn name od=some (mA name):=
 let ⟨od,ho,hl⟩:=J9 I.ns
 ⟨od,⟨I.obj,rfl,rfl,ho⟩,hl⟩
section
variable {prog:Program} {w:World} {A:Around} {E:aF} {s:Shared} {K:aG} {x dx C f:Addr} {mA:cN} {name:Str} {v:Value}
end
theorem iI.some_of{v:V}{o:Option Value}(r:iI (some v) o):∃u,o=some u∧RelV v u:=by
 cases o with
 | none=>exact (show False from r).elim
 | some u=>exact ⟨u,rfl,r⟩
section
variable {P:Program} {w:World} {H H':Hp} {h h':Heap} {a C dx:Addr} {fs zS:List (Str×V)}
theorem Ka(ax:bY P w H h)(e:H a=some (.ins C dx fs)):∃mA,z8 h a dx C mA∧(∀f,iI (fs.lookup f) (mA f))∧PySem.Within mA (fs.map (·.1))∧fs.length≤1000∧H dx=some (.own a):=by obtain ⟨d,z,ne,ob,mA,n,r,q⟩:=(show bI P w H h a (.ins C dx fs) from ax a _ e);exact ⟨mA,⟨ob,n,ne⟩,r,q,z,d⟩
end
structure z9 (K:aG) (C:Addr):Prop where
 pg:PySem.W.plainGet K C Str.empty=true
 hd:PySem.W.hasDictIn K C=true
 po:PySem.W.plainOver K C=true
 sa:PySem.W.findIn K (.ref C) "__setattr__"=some (some (.builtin "object.__setattr__"))
theorem z9.get{K:aG}{C:Addr}(c:z9 K C)(f:Str):PySem.W.plainGet K C f=true:=c.pg
section
variable {X:Cx} {pins:aO} {σ:St} {H:Hp} {s:Shared} {a C dx:Addr} {fs:List (Str×V)} {f:Str} {v:V} {A:Around} {E:aF}
end
section
variable {X:Cx} {o e value:Expr} {f:Str} {pos pos' wR:Pos} {ta tv:TE}
end
section
variable {X:Cx} {pins:aO} {σ:St} {H:Hp} {s:Shared} {A:Around} {E:aF} {Q:aF} {c:Value} {b:Bool}
inductive hU (K:aG) (H:Hp):V→Value→Prop where
 | aP:hU K H .aP (.type "NoneType")
 | bl (x:Bool):hU K H (.bl x) (.type "bool")
 | int (i:Int):hU K H (.int i) (.type "int")
 | str (x:Str):hU K H (.str x) (.type "str")
 | qA (x:UInt64):hU K H (.qA x) (.type "float")
 | lst {a:Addr} {xs:List V} (e:H a=some (.lst xs)):hU K H (.ref a) (.type "list")
 | aX {a:Addr} {o:Obj} {xs:List V} (e:H a=some (.aX o (.lst xs))):hU K H (.ref a) (.type "list")
 | tup {a:Addr} {xs:List V} (e:H a=some (.tup xs)):hU K H (.ref a) (.type "tuple")
 | dK {a:Addr} {kvs:List (Key×V)} (e:H a=some (.dK kvs)):hU K H (.ref a) (.type "dict")
 | dT {a:Addr} {kvs:List (List Key×V)} (e:H a=some (.dT kvs)):hU K H (.ref a) (.type "dict")
 | ins {a C dx:Addr} {fs:List (Str×V)} (e:H a=some (.ins C dx fs)) (cl:z9 K C) (ha:PySem.W.findIn K (.ref C) "__class__"=some (some (.builtin "object.__class__")))
   (hn:PySem.W.specialIn K (.builtin "object.__class__") "__get__"=some (some (.builtin "getset_descriptor.__get__"))) (DK:PySem.W.takesIn K (.builtin "object.__class__")=some true)
   (hm:PySem.W.mroIn K C (.type "object")=some true):hU K H (.ref a) (.ref C)
theorem Kb{t:Value}(I:Inv X pins σ H s)(rx:RelV x u)(ty:hU X.K H x t)(e:PySem.W.kitOne X.K t c=some b)(h:∀tk,Q (.bool b) {s with toks:=tk}) :
  wpAny (model X.prog X.w) A (call (.builtin "isinstance") [u,c]) Q E s:=by
 cases ty with
 | aP=>cases (show u=Value.none from rx);exact gR PySem.W.kitx_none I.ei True.intro e (fun z=>nomatch z) h
 | bl y=>cases (show u=Value.bool y from rx);exact gR PySem.W.kitx_bool I.ei True.intro e (fun z=>nomatch z) h
 | int i=>obtain ⟨t,q⟩:=(show ∃t,u=Value.int i t from rx);cases q;exact gR PySem.W.kitx_int I.ei True.intro e (fun z=>nomatch z) h
 | str y=>obtain ⟨t,q⟩:=(show ∃t,u=Value.str y t from rx);cases q;exact gR PySem.W.kitx_str I.ei True.intro e (fun z=>nomatch z) h
 | qA y=>obtain ⟨t,q⟩:=(show ∃t,u=Value.float y t from rx);cases q;exact gR PySem.W.kitx_float I.ei True.intro e (fun z=>nomatch z) h
 | @lst a xs ea=>cases (show u=Value.ref a from rx);obtain ⟨_,_,n,_,h1⟩:=(show bI X.prog X.w H s.heap a (.lst xs) from I.ax a _ ea);exact gR PySem.W.kitx_list I.ei ⟨_,h1,rfl⟩ e (fun z=>nomatch z) h
 | @aX a ob xs ea=>cases (show u=Value.ref a from rx);obtain ⟨_,_,_,n,_,h1⟩:=(show bI X.prog X.w H s.heap a (.aX ob (.lst xs)) from I.ax a _ ea);exact gR PySem.W.kitx_list I.ei ⟨_,h1,rfl⟩ e (fun z=>nomatch z) h
 | @tup a xs ea=>cases (show u=Value.ref a from rx);obtain ⟨_,_,_,p⟩:=(show bI X.prog X.w H s.heap a (.tup xs) from I.ax a _ ea);obtain ⟨o,h1,h2,_⟩:=p;exact gR PySem.W.kitx_tuple I.ei ⟨o,h1,h2⟩ e (fun z=>nomatch z) h
 | @dK a kvs ea=>cases (show u=Value.ref a from rx);obtain ⟨_,_,vs,_,p⟩:=(show bI X.prog X.w H s.heap a (.dK kvs) from I.ax a _ ea);obtain ⟨o,es,ep,h1,h2,_⟩:=p;exact gR PySem.W.kitx_dict I.ei ⟨o,h1,h2.1⟩ e (fun z=>nomatch z) h
 | @dT a kvs ea=>cases (show u=Value.ref a from rx);obtain ⟨_,_,xs,_,o,es,ep,h1,h2,_⟩:=(show bI X.prog X.w H s.heap a (.dT kvs) from I.ax a _ ea);exact gR PySem.W.kitx_dict I.ei ⟨o,h1,h2.1⟩ e (fun z=>nomatch z) h
 | @ins a C dx fs ea cl ha hn DK hm=>cases (show u=Value.ref a from rx);obtain ⟨mA,O,_⟩:=Ka I.ax ea;obtain ⟨od,J,_⟩:=O.look;exact gR (PySem.W.kitx_own (cl.get _) cl.hd ha hn DK hm) I.ei J e (fun z=>nomatch z) h
end
structure dX (k:Nat) (A:Around):Prop where
 hd:A.handled=none
 dp:A.depth+3*k+5<recursionLimit
 un:A.units+16*k+200<cLine
variable {k:Nat}
theorem dX.mono{j:Nat}(r:dX k A)(h:j≤k):dX j A:=⟨r.hd,by have:=r.dp;omega,by have:=r.un;omega⟩
theorem dX.deeper(r:dX (k+1) A)(env:Env):dX k (A.deeper env):=
 ⟨r.hd,by have:=r.dp;show A.depth+1+3*k+5<_;omega,by have:=r.un;show A.units+3+16*k+200<_;omega⟩
theorem dX.depth(r:dX k A):A.depth<recursionLimit:=by have:=r.dp;omega
theorem dX.units(r:dX k A):A.units+64<cLine:=by have:=r.un;omega
def z_:TA:=fun _ H Q=>Q [] H
def uj(ta:TE)(tr:TA):TA:=fun σ H Q=>ta σ H fun x H1=>tr σ H1 fun xs H2=>Q (x::xs) H2
section
variable {X:Cx} {e:Expr} {es:List Expr} {te:TE} {t:TA} {pos:Pos}
theorem au:PA X [] z_:=fun _ _ _ _ H Q I h=>Calls.spliced_nil ⟨[],H,I,.nil,h⟩
theorem Ki(ha:PE X e te)(hr:PA X es t)(hs:starEach (e::es) X.env=(false,eval e X.env)::starEach es X.env:=by rfl):PA X (e::es) (uj te t):=by intro pos pins s σ H Q I h;rw [hs];show wpAny _ _ (spliced ((false,eval e X.env)::backTo pos (starEach es X.env))) _ _ s;refine Calls.spliced_cons (aJ (ha pins s σ H _ I h) fun u s1 ⟨x,H1,I1,r1,q1⟩=>?_);exact aJ (hr pos pins s1 σ H1 _ I1 q1) fun us s2 ⟨xs,H2,I2,r2,q2⟩=>⟨x::xs,H2,I2,.cons r1 r2,q2⟩
def Kj(t:TA):TE:=fun σ H Q=>t σ H fun xs H1=>xs.length≤sizeLine∧∀p,H1 p=none→Q (.ref p) (upd H1 p (.tup xs))
def Kk(t:TA):TE:=fun σ H Q=>t σ H fun xs H1=>xs.length≤sizeLine∧∀p,H1 p=none→Q (.ref p) (upd H1 p (.lst xs))
theorem eX{x1}(h:PA X es t):PE X (.Tuple es x1 pos) (Kj t):=by
 intro pins s σ H Q I hq;refine wpAny_Tuple_spliced (aJ (h pos pins s σ H _ I hq) fun us s1 ⟨xs,H1,I1,r,z,q⟩=>⟨by rw [←r.length];exact z,?_⟩)
 have hf:H1 s1.heap.objs.size=none:=I1.ax.fresh (ay _);refine ⟨.ref s1.heap.objs.size,upd H1 s1.heap.objs.size (.tup xs),I1.laid (t':=s1.toks) (fun b u e=>bQ _ e) (ay _) ?_,rfl,q _ hf⟩;exact ⟨z,us,r,⟨_,cM _ rfl,rfl,_,rfl⟩⟩
theorem dM(h:PA X es t):PE X (.List es pos) (Kk t):=by
 intro pins s σ H Q I hq;refine wpAny_List_spliced (aJ (h pos pins s σ H _ I hq) fun us s1 ⟨xs,H1,I1,r,z,q⟩=>⟨by rw [←r.length];exact z,?_⟩)
 have hf:H1 s1.heap.objs.size=none:=I1.ax.fresh (ay _);refine ⟨.ref s1.heap.objs.size,upd H1 s1.heap.objs.size (.lst xs),I1.laid (t':=s1.toks) (fun b u e=>bQ _ e) (ay _) ?_,rfl,q _ hf⟩;exact ⟨z,us,0,r,cM _ rfl⟩
end
abbrev Sp:=List V→Hp→VK→XK→Prop
abbrev fT:=List Env→Hp→Shared→XK→Value→Shared→Prop
structure wU (P:Program) (w:World) (K:aG) (mg:cN) (base:Heap) (A:Around) (outer:List Env) (s:Shared) (H:Hp):Prop where
 frames:A.frames=some outer
 mod:Mod K mg base
 bs:∀b o,base.get? b=some o→s.heap.get? b=some o∧H b=none
 iJ:base.objs.size≤s.heap.objs.size
 jh:s.heap.FunFrames base outer
 my:∀b∈cm outer,H b=none
 ax:bY P w H s.heap
 bare:AllBare s.gens
def CE(outer:List Env)(P:Program)(w:World)(H:Hp)(s:Shared)(Q:VK)(u:Value)(s':Shared):Prop:=
 ∃v H',s'.os=s.os∧AllBare s'.gens∧Un (cm outer) [] H H' s.heap s'.heap∧bY P w H' s'.heap∧RelV v u∧Q v H'
def CR(CX:fT)(outer:List Env)(P:Program)(w:World)(H:Hp)(s:Shared)(Q:VK)(E:XK)(r:Result)(s':Shared):Prop:=
 match r with
 | .ok (.ret u)=>CE outer P w H s Q u s'
 | .ok _=>False
 | .error e=>CX outer H s E e s'
structure bF (P:Program) (w:World) (K:aG) (mg:cN) (base:Heap) (CX:fT) (k:Nat) (f:Addr) (fd:FuncData) (ps:List Str) (sp:Sp):Prop where
 len:∀vs H Q E,sp vs H Q E→vs.length=ps.length
 run:∀(A:Around) (outer:List Env) (s:Shared) (H:Hp) (args:Args) (us:List Value) (vs:List V) (Q:VK) (E:XK),dX k A→wU P w K mg base A outer s H→BindsTo s fd args (ps.zip us)→Vals vs us→sp vs H Q E→
  codeAny (model P w) A (.call (.ref f) args) (CR CX outer P w H s Q E) s
section
variable {X:Cx} {pins:aO} {σ:St} {H:Hp} {s s':Shared}
theorem Inv.Kl(I:Inv X pins σ H s):wU X.prog X.w X.K X.mg X.base X.A X.stack s H:=
 ⟨I.ok.frames,I.ok.mod,I.bs,bf I.ok.iJ I.sz,I.stack,I.ua,I.ax,I.bare⟩
theorem Inv.after{Q:VK}(I:Inv X pins σ H s)(h:CE X.stack X.prog X.w H s Q u s'):EP X pins σ Q u s':=by obtain ⟨v,H',os,bare,un,ax,r,q⟩:=h;obtain ⟨hh,g,d,t,Km⟩:=s';obtain rfl:Km=s.os:=os;exact ⟨v,H',I.call (h':=hh) (g':=g) (d':=d) (t':=t) (ch:=[]) un ax bare (fun b z=>absurd z (by simp)),r,q⟩
end
def DL(sp:Sp)(j7:List V)(E:XK)(t:TA):TE:=fun σ H Q=>t σ H fun vs H1=>sp (vs++j7) H1 Q E
def Binds(K:aG)(fd:FuncData)(ps:List Str)(ds:List Value):Prop:=
 ∀(s:Shared) (us:List Value),K.In s.heap→(us++ds).length=ps.length→BindsTo s fd ⟨us,[]⟩ (ps.zip (us++ds))
variable {ps:List Str}
theorem Binds.all{fd:FuncData}(h:∀us:List Value,us.length=ps.length→bindArgs fd ⟨us,[]⟩=pure (ps.zip us)):Binds K fd ps []:=fun s us _ hl=>by rw [p_] at hl ⊢;exact .of_eq (h us hl)
def Passes(CX:fT)(X:Cx)(E:XK):Prop:=∀(pins:aO) (σ:St) (H:Hp) (s:Shared) (e:Value) (s':Shared),Inv X pins σ H s→CX X.stack H s E e s'→X.xe e s'
section
variable {X:Cx} {CX:fT} {k:Nat} {f C:Addr} {fd:FuncData} {ps:List Str} {sp:Sp} {j7:List V} {ds:List Value} {E:XK} {x m:Str} {p pos apos:Pos} {e o:Expr} {es:List Expr} {ta:TE} {t:TA}
theorem Kn{pins:aO}{Q:VK}{vs:List V}(F:bF X.prog X.w X.K X.mg X.base CX k f fd ps sp)(hr:dX k X.A)(hb:Binds X.K fd ps ds)(hd:Vals j7 ds)(hx:Passes CX X E)
  (I:Inv X pins σ H s) (r:Vals vs us) (h:sp (vs++j7) H Q E):wpAny (model X.prog X.w) X.A (call (.ref f) us) (EP X pins σ Q) X.xe s:=by
 have r2:Vals (vs++j7) (us++ds):=r.append hd;have hl:(us++ds).length=ps.length:=by rw [←r2.length];exact F.len _ _ _ _ h
 refine wpAny_call (codeAny_mono (F.run X.A X.stack s H ⟨us,[]⟩ (us++ds) (vs++j7) Q E hr I.Kl (hb s us I.ei hl) r2 h) fun r s' hq=>?_);cases r with
 | error e=>exact hx pins σ H s e s' I hq
 | ok fl=>
  cases fl with
  | ret u=>exact I.after hq
  | next=>exact False.elim hq
  | brk=>exact False.elim hq
  | cont=>exact False.elim hq
theorem Ko(F:bF X.prog X.w X.K X.mg X.base CX k f fd ps sp)(hr:dX k X.A)(hg:Gl X x)(hm:X.mg x=some (.ref f))(hk:PySem.W.keepIn X.K (.ref f)=true)(hb:Binds X.K fd ps ds)(hd:Vals j7 ds)(hx:Passes CX X E)
  (ha:PA X (e::es) t) (jl:(x == ("__debug__":Str))=false:=by decide) (he:starEach (e::es) X.env=(false,eval e X.env)::starEach es X.env:=by rfl) (iO:(backTo pos (starEach es X.env)).any (·.1)=false:=by rfl) :
  PE X (.Call (.Name x p) (e::es) [] pos) (DL sp j7 E t):=by
 intro pins s σ H Q I h;refine tL (zV I hg hm ?_ jl);refine PySem.W.callWith_K (h₀:=X.base) I.ok.mod.cO hk (aJ (ha pos pins s σ H _ I h) fun us s1 ⟨vs,H1,I1,r,q⟩=>⟨I1.ei,?_⟩) he iO;exact Kn F hr hb hd hx I1 r q
theorem bx{j:Nat}(F:bF X.prog X.w X.K X.mg X.base CX k f fd ps sp)(hr:dX j X.A)(hm:X.mg x=some (.ref f))(hk:PySem.W.keepIn X.K (.ref f)=true)(hb:Binds X.K fd ps [])(hx:Passes CX X E)
  (ha:PA X (e::es) t) (hj:k≤j:=by decide) (hg:Gl X x:=by exact rfl) (jl:(x == ("__debug__":Str))=false:=by decide) (he:starEach (e::es) X.env=(false,eval e X.env)::starEach es X.env:=by rfl) (iO:(backTo pos (starEach es X.env)).any (·.1)=false:=by rfl) :
  PE X (.Call (.Name x p) (e::es) [] pos) (DL sp [] E t):=Ko F (hr.mono hj) hg hm hk hb .nil hx ha jl he iO
end
section
variable {X:Cx} {CX:fT} {k:Nat} {f C:Addr} {fd:FuncData} {ps ks:List Str} {sp:Sp} {E:XK} {x m:Str} {p pos apos DM:Pos} {e o:Expr} {es:List Expr} {Kp:List Keyword} {te ta:TE} {t tk:TA} {nm:Option Str}
variable {g:List Value→List Value→List Value} {gV:List V→List V→List V}
end
structure bX (N P:List Str) (sc:Scope):Prop where
 kind:sc.kind=.function
 co:sc.isCoroutine=false
 gen:sc.isGenerator=false
 nd:N.Nodup
 pre:N.take P.length=P
 par:∀x∈P,sc.names.lookup x=some .local∨sc.names.lookup x=some .cell
 Kq:∀y∈sc.names,y.2≠.free
variable {N:List Str} {sc:Scope}
theorem cG{P:List Str}(h1:sc.kind=.function:=by rfl)(h2:sc.isCoroutine=false:=by rfl)(h3:sc.isGenerator=false:=by rfl)(h4:N.Nodup:=by decide +kernel)(h5:N.take P.length=P:=by rfl)(h6:∀x∈P,sc.names.lookup x=some .local∨sc.names.lookup x=some .cell:=by decide +kernel)(h7:∀y∈sc.names,y.2≠.free:=by decide +kernel):bX N P sc:=⟨h1,h2,h3,h4,h5,h6,h7⟩
theorem DN{kindOf:Str→Option NameKind}{x:Str}:∀{binds:List (Str×Value)} {m:cN},(∀v,(x,v)∉binds)→bindL kindOf binds m x=m x
 | [],_,_=>rfl
 | (n,v)::r,m,h=>by
  unfold bindL;rw [DN fun w hw=>h w (cV _ hw)]
  split
  ·have:x≠n:=by rintro rfl;exact h v cR
   simp [this]
  ·rfl
theorem DO{kindOf:Str→Option NameKind}{x:Str}:∀{binds:List (Str×Value)} {m:cN},(∀v,(x,v)∉binds)→bindC kindOf binds m x=m x
 | [],_,_=>rfl
 | (n,v)::r,m,h=>by
  unfold bindC;rw [DO fun w hw=>h w (cV _ hw)]
  split
  ·rfl
  ·have:x≠n:=by rintro rfl;exact h v cR
   simp [this]
theorem DP{kindOf:Str→Option NameKind}{x:Str}{v:Value}:∀{P:List Str} {vs:List Value} {i:Nat} {m:cN},P.Nodup→P[i]?=some x→vs[i]?=some v→kindOf x=some .local→
  bindL kindOf (P.zip vs) m x=some v
 | [],_,_,_,_,h,_,_=>by simp at h
 | _::_,[],_,_,_,_,h,_=>by simp at h
 | p::P,w::vs,0,m,nd,h1,h2,hk=>by simp at h1 h2;subst h1;subst h2;show bindL kindOf ((p,w)::P.zip vs) m p=_;unfold bindL;rw [DN fun v hv=>(gT.mp nd).1 (List.of_mem_zip hv).1,ae hk];simp
 | p::P,w::vs,i+1,m,nd,h1,h2,hk=>by show bindL kindOf ((p,w)::P.zip vs) m x=_;unfold bindL;exact DP (i:=i) (gT.mp nd).2 (by simpa using h1) (by simpa using h2) hk
theorem DQ{kindOf:Str→Option NameKind}{x:Str}{v:Value}:∀{P:List Str} {vs:List Value} {i:Nat} {m:cN},P.Nodup→P[i]?=some x→vs[i]?=some v→kindOf x≠some .local→
  bindC kindOf (P.zip vs) m x=some v
 | [],_,_,_,_,h,_,_=>by simp at h
 | _::_,[],_,_,_,_,h,_=>by simp at h
 | p::P,w::vs,0,m,nd,h1,h2,hk=>by simp at h1 h2;subst h1;subst h2;show bindC kindOf ((p,w)::P.zip vs) m p=_;unfold bindC;rw [DO fun v hv=>(gT.mp nd).1 (List.of_mem_zip hv).1,aa hk];simp
 | p::P,w::vs,i+1,m,nd,h1,h2,hk=>by show bindC kindOf ((p,w)::P.zip vs) m x=_;unfold bindC;exact DQ (i:=i) (gT.mp nd).2 (by simpa using h1) (by simpa using h2) hk
def start(N:List Str)(vs:List V):St:=vs.map some++List.replicate (N.length-vs.length) none
def jm(CX:fT)(P:Program)(w:World)(K:aG)(mg:cN)(base:Heap)(N:List Str)(qual:Str)(scope:Scope)(f:Addr)(cd:Value)(A:Around)(outer:List Env)(s:Shared)(H:Hp)(E:XK):Cx where
 prog:=P
 w:=w
 K:=K
 mg:=mg
 base:=base
 A:=A.deeper (envOfC qual scope s.heap.objs.size f cd)
 N:=N
 s₀:=s
 H₀:=H
 env:=envOfC qual scope s.heap.objs.size f cd
 outer:=outer
 stack:=envOfC qual scope s.heap.objs.size f cd::outer
 ex:=[]
 calm:=true
 fn:=fun _=>true
 pn:=[]
 xe:=fun e s'=>wpAny (model P w) (A.deeper (envOfC qual scope s.heap.objs.size f cd)) (leaving (envOfC qual scope s.heap.objs.size f cd) e) (fun _ fC=>CX outer H s E e fC) (fun e' fC=>CX outer H s E e' fC) s'
theorem DR{x:Str}(h:sc.names.lookup x=some .cell):∃c,(cellsFrom n sc.names []).lookup x=some c:=by have q:=PySem.W.cellsFrom_some sc.names n [] (.inl h);exact Option.isSome_iff_exists.mp q
variable {CX:fT} {mg:cN} {base:Heap} {qual:Str} {scope:Scope} {f:Addr}
theorem Kr{cd:Value}{outer:List Env}{s1:Shared}{E:XK}{vs:List V}
  (S:bX N ps scope) (hd:A.handled=none) (e0:wU P w K mg base A outer s H) (hl:vs.length=ps.length) (r:Vals vs us)
  (x:InCallC s s.heap.objs.size (bindL (envOfC qual scope s.heap.objs.size f cd).kindOf (ps.zip us) fun _=>none) (cellsFrom (s.heap.objs.size+1) scope.names []) (bindC (envOfC qual scope s.heap.objs.size f cd).kindOf (ps.zip us) fun _=>none) s1) :
  Inv (jm CX P w K mg base N qual scope f cd A outer s H E) [] (start N vs) H s1:=by
 have iO:ps.length≤N.length:=by have:=dH List.length S.pre;rw [m7] at this;omega
 obtain ⟨h1,tk,rfl,hk⟩:=x.done;have um:∀b:Addr,b∉(jm CX P w K mg base N qual scope f cd A outer s H E).ex:=fun b z=>absurd (show b∈([]:List Addr) from z) (by simp)
 refine ⟨⟨e0.mod,S.kind,rfl,rfl,ay _,fun y z c h1 h2=>?_,fun y hy=>?_,fun y c _ h=>?_,fun _=>hd,Around.frames_deeper e0.frames,.inr ⟨rfl,rfl⟩,fun b z=>absurd z (um b),e0.bs,e0.iJ,fun b _ _=>um b,fun b z=>absurd z (um b),e0.jh,e0.my⟩,
  rfl,e0.bare,Un.kept hk,⟨_,x.toInCall.ns,fun i y v h1 h2 h3=>?_⟩,fun y c h=>⟨_,x.cell y c h⟩,e0.ax.fresh (ay _),fun y c h=>?_,fun p hp=>absurd (show p∈([]:aO) from hp) (by simp),e0.ax.kept hk,?_⟩
 ·exact name_of_addr x.apart (kF h1) (kF h2)
 ·have hy:scope.names.lookup y=some .cell∨scope.names.lookup y=some .free:=hy
  rcases hy with hy | hy;·exact DR hy
  ·exact absurd rfl (S.Kq _ (kF hy))
 ·exact tI (x.above y c (kF h))
 ·have hi:i<vs.length:=by
   unfold start at h2;by_cases hi:i<vs.length;·exact hi
   ·rw [gq (by simpa using hi)] at h2
    rw [List.getElem?_replicate] at h2
    split at h2 <;> cases h2
  have ha:vs[i]?=some v:=by
   unfold start at h2;rw [gr (by simpa using hi),bU] at h2
   cases e:vs[i]? with
   | none=>rw [e] at h2;cases h2
   | some a=>rw [e] at h2;cases h2;rfl
  obtain ⟨u,hu,rv⟩:=r.get ha;have hp:ps[i]?=some y:=by rw [←S.pre,List.getElem?_take_of_lt (by omega)];exact h1
  have DS:ps.Nodup:=by rw [←S.pre];exact S.nd.sublist (List.take_sublist _ _)
  refine ⟨u,rv,?_⟩;rcases S.par y (iG hp) with k | k;·exact .inl ⟨k,DP DS hp hu k⟩
  ·obtain ⟨c,e⟩:=DR (n:=s.heap.objs.size+1) k
   refine .inr ⟨.inl k,c,e,?_⟩;have q:=x.cell y c e;rw [DQ DS hp hu (by show scope.names.lookup y≠_;rw [k];decide)] at q
   exact q
 ·exact e0.ax.fresh (tI (x.above y c (kF h)))
 ·unfold start
  show _=N.length;rw [cS,aE,List.length_replicate];omega
theorem DT{name:Str}{params:Arguments}{body:List Stmt}{dV kV doc pm bN ct oc:Value}{an od:Option Addr}
  {j8:Array (Option Value)} {sp:Sp} (lk:K.lookup f=some ⟨oc,od,.func (PySem.W.fnOf name qual params body scope dV kV doc pm an bN ct),j8⟩) (fA:PySem.W.codeIn K bN qual=true) (S:bX N ps scope)
  (len:∀vs H Q E,sp vs H Q E→vs.length=ps.length)
  (kW:∀(A:Around) (outer:List Env) (s:Shared) (H:Hp) (vs:List V) (Q:VK) (E:XK),dX k (A.deeper (envOfC qual scope s.heap.objs.size f bN))→sp vs H Q E→
   ∃t,eJ (jm CX P w K mg base N qual scope f bN A outer s H E) body t∧t {nx:=fun _ H'=>Q .aP H',rt:=Q} (start N vs) H) :
  bF P w K mg base CX (k+1) f (PySem.W.fnOf name qual params body scope dV kV doc pm an bN ct) ps sp:=by
 refine ⟨len,fun A outer s H args us vs Q E hr e0 hb r j9=>?_⟩;have hl:=len _ _ _ _ j9;have KX:K.In s.heap:=e0.mod.cO.keeps fun b o e=>(e0.bs b o e).1;have lim:s.heap.NoLimit:=e0.mod.nolimit.keeps fun b o e=>(e0.bs b o e).1;have Ks:∀y∈ps.zip us,scope.names.lookup y.1=some .local∨(scope.names.lookup y.1=some .cell∧((cellsFrom (s.heap.objs.size+1) scope.names []).lookup y.1).isSome=true):=fun⟨n,v⟩ hy=>by
  rcases S.par n (List.of_mem_zip hy).1 with q | q;·exact .inl q
  ·exact .inr ⟨q,PySem.W.cellsFrom_some _ _ _ (.inl q)⟩
 refine codeAny_call_function hr.depth (KX _ _ lk) rfl S.co S.gen rfl (PySem.W.codeRec_of KX fA) (hb _ _ _ _ ?_);refine wpAny_newFunctionEnv_cells S.kind Ks fun env he s1 x=>?_;subst he;refine ⟨lim.keeps x.toInCall.keep,codeAny_func ?_⟩;obtain ⟨t,ht,hq⟩:=kW A outer s H vs Q E (hr.deeper _) j9;have I:Inv (jm CX P w K mg base N qual scope f bN A outer s H E) [] (start N vs) H s1:=Kr S hr.hd e0 hl r x;refine bG (ht [] s1 (start N vs) H _ I hq) (fun fl s' hs=>?_) fun e s' hs=>hs;have fin:∀{σ':St} {H':Hp} {v:V} {u:Value},Inv (jm CX P w K mg base N qual scope f bN A outer s H E) [] σ' H' s'→RelV v u→Q v H'→CE outer P w H s Q u s':=
  fun{σ' H' v u} J rv q=>⟨v,H',J.os,J.bare,J.base,J.ax,rv,q⟩
 cases fl with
 | ret u=>obtain ⟨v,σ',H',J,rv,q⟩:=hs;exact fin J rv q
 | next=>obtain ⟨σ',H',J,q⟩:=hs;exact fin (v:=V.aP) (u:=Value.none) J rfl q
 | brk=>obtain ⟨_,_,_,q⟩:=hs;exact False.elim q
 | cont=>obtain ⟨_,_,_,q⟩:=hs;exact False.elim q
section
variable {X:Cx} {x:Str} {p pos:Pos} {e:Expr} {es:List Expr} {t:TA} {id T:String} {r:List V→Hp→VK→Prop}
def uo(r:List V→Hp→VK→Prop)(t:TA):TE:=fun σ H Q=>t σ H fun vs H1=>r vs H1 Q
theorem cT(hc:en X (.builtin id) r)(hg:Gl X x)(hm:X.mg x=none)(hv:bootBuiltins x=some (.builtin id))(ha:PA X (e::es) t)(hn:x ≠ "__name__":=by decide)(jl:(x == ("__debug__":Str))=false:=by decide)
  (he:starEach (e::es) X.env=(false,eval e X.env)::starEach es X.env:=by rfl) (iO:(backTo pos (starEach es X.env)).any (·.1)=false:=by rfl):PE X (.Call (.Name x p) (e::es) [] pos) (uo r t):=by
 intro pins s σ H Q I h;refine tL (ji I hg hm hv ?_ hn jl);exact PyProof.Rows.callWith_builtin1 (aJ (ha pos pins s σ H _ I h) fun us s1 ⟨vs,H1,I1,r1,q1⟩=>hc pins s1 σ H1 vs us Q I1 r1 q1) he iO
theorem j_(hc:en X (.type T) r)(hg:Gl X x)(hm:X.mg x=none)(hv:bootBuiltins x=some (.type T))(ha:PA X (e::es) t)(hn:x ≠ "__name__":=by decide)(jl:(x == ("__debug__":Str))=false:=by decide)
  (he:starEach (e::es) X.env=(false,eval e X.env)::starEach es X.env:=by rfl) (iO:(backTo pos (starEach es X.env)).any (·.1)=false:=by rfl):PE X (.Call (.Name x p) (e::es) [] pos) (uo r t):=by
 intro pins s σ H Q I h;refine tL (ji I hg hm hv ?_ hn jl);exact tK (aJ (ha pos pins s σ H _ I h) fun us s1 ⟨vs,H1,I1,r1,q1⟩=>hc pins s1 σ H1 vs us Q I1 r1 q1) he iO
end
end L2
namespace HT
open PySem PyProof.Rows
def lexLt:List Int→List Int→Bool
 | [],[]=>false
 | [],_::_=>true
 | _::_,[]=>false
 | x::xs,y::ys=>if x=y then lexLt xs ys else decide (x<y)
theorem Aa(x y:Int)(xs ys:List Int):lexLt (x::xs) (y::ys)=if x=y then lexLt xs ys else decide (x<y):=rfl
theorem Kt:lexLt [] []=false:=rfl
theorem Ku(y:Int)(ys:List Int):lexLt [] (y::ys)=true:=rfl
theorem Kv(x:Int)(xs:List Int):lexLt (x::xs) []=false:=rfl
theorem Kw(A:Around)(s:Shared)(a:Int)(t:Tok)(c:Int)(u:Tok):∃e,SeqAt.EqAt A s (.int a t) (.int c u) e∧(e=true↔a=c):=
 ⟨(a == c),SeqAt.EqAt.int_int a t c u,by simp⟩
theorem DU(A:Around)(s:Shared)(a:Int)(t:Tok)(c:Int)(u:Tok)(prog:Program)(w:World)(E:aF)(Q:aF)(h:Q (.bool (decide (a<c))) s) :
  wpAny (model prog w) A (richCompare .Lt (.int a t) (.int c u)) Q E s:=
 (PyProof.Rows.lt_int h:wpAny (model prog w) A (compareOp .Lt (.int a t) (.int c u)) Q E s)
section
open PySem.SeqAt
open PySem.AutoSeq1 (wpAny_loadPart')
open PySem.MeetsSeq PySem.MeetsSeq2 PySem.MeetsSeq3
theorem Kx(l b:Addr)(items items2:Array Value)(n n2:Nat)(dd mG:Option Addr)(sl hV:Array (Option Value))(ns ms:List Int)(hi:IntsAre items.toList ns)(hj:IntsAre items2.toList ms) :
  Meets (Builtin.«tuple.__lt__» ⟨[.ref l,.ref b],[]⟩)
   (fun _ R s=>s.heap.get? l=some {cls:=.type "tuple",dict:=dd,data:=.seq items n,slots:=sl}∧s.heap.get? b=some {cls:=.type "tuple",dict:=mG,data:=.seq items2 n2,slots:=hV} ∧
    R (.ok (.ret (.bool (lexLt ns ms)))) s):=
 .of_wp fun prog w A R s h=>by
  obtain ⟨hp,g,d,tk,os⟩:=s;obtain ⟨hl,hb,h⟩:=h;have f2:=AutoSeq1.sub_tuple_tuple;have z1:items.size=ns.length:=by rw [←hi.length];simp
  have z2:items2.size=ms.length:=by rw [←hj.length];simp
  wp_walk using wpAny_loadPart' hl,wpAny_loadPart' hb,wpAny_forIn_list _ (fun rest b s'=>b.1=none∧s'=⟨hp,g,d,tk,os⟩∧∃(vs ws:List Value) (iP qM:List Int),rest=vs.zip ws ∧
   IntsAre vs iP∧IntsAre ws qM∧iP.length+items2.size=qM.length+items.size∧R (.ok (.ret (.bool (lexLt iP qM)))) ⟨hp,g,d,tk,os⟩) _
  case turn=>
   rintro ⟨y,x⟩ rest b s' ⟨fD,rfl,vs,ws,iP,qM,hz,Ab,eK,hlen,hR⟩;cases Ab with
   | nil=>rw [List.zip_nil_left] at hz;cases hz
   | cons a t Ky=>
    cases eK with
    | nil=>rw [List.zip_nil_right] at hz;cases hz
    | cons c u Kz=>
     rw [List.zip_cons_cons] at hz;injection hz with KA Ac;injection KA with hy hx;subst hy hx;rw [Aa] at hR;simp only [dS] at hlen;obtain ⟨e,he,DV⟩:=Kw A.in1 ⟨hp,g,d,tk,os⟩ a t c u;refine ao (he prog w _ _ ?_);cases e with
     | true=>
      rw [ae (DV.mp rfl)] at hR
      wp_walk
      exact ⟨rfl,rfl,_,_,_,_,Ac,Ky,Kz,by omega,hR⟩
     | false=>
      rw [aa (fun q=>absurd (DV.mpr q) b7)] at hR;have KC:=DU A.in1 ⟨hp,g,d,tk,os⟩ a t c u prog w
      wp_walk using KC
      exact ⟨_,rfl,by simpa using hR⟩
  case fin=>
   rintro ⟨b1,b2⟩ s' ⟨fD,rfl,vs,ws,iP,qM,hz,Ab,eK,hlen,hR⟩;simp only at fD;subst fD;have hv:lexLt iP qM=decide (items.size<items2.size):=by
    cases Ab with
    | nil=>
     cases eK with
     | nil=>simp only [tM] at hlen;rw [Kt];exact (bP (by omega)).symm
     | cons c u hw=>simp only [tM,dS] at hlen;rw [Ku];exact (b8 (by omega)).symm
    | cons a t hv=>
     cases eK with
     | nil=>simp only [tM,dS] at hlen;rw [Kv];exact (bP (by omega)).symm
     | cons c u hw=>rw [List.zip_cons_cons] at hz;cases hz
   rw [hv] at hR
   wp_walk
   exact ⟨_,rfl,by simpa [Builtin.Tuple.tupleCompareSizes] using hR⟩
  case h=>exact ⟨rfl,rfl,items.toList,items2.toList,ns,ms,rfl,hi,hj,by omega,h⟩
end
section
variable {prog:Program} {w:World} {A:Around} {E:aF} {s:Shared}
variable {b:Addr} {Q:aF}
theorem KD{l:Addr}{items items2:Array Value}{ns ms:List Int}(hl:IsTup s.heap l items)(hb:IsTup s.heap b items2)(hi:IntsAre items.toList ns)(hj:IntsAre items2.toList ms)
  (hu:A.units<cLine) (h:Q (.bool (lexLt ns ms)) s):wpAny (model prog w) A (compareOp .Lt (.ref l) (.ref b)) Q E s:=by
 obtain ⟨⟨cls,dd,data,sl⟩,ho,hc,n,hd⟩:=id hl;obtain ⟨⟨DW,mG,data2,hV⟩,kd,fE,n2,hd2⟩:=id hb;simp only at hc hd fE hd2;subst hc hd fE hd2
 exact richCompare_meets_room (op:=.Lt) ⟨_,ho,rfl⟩ ⟨_,kd,rfl⟩ PySem.F.slot_tuple_lt PySem.F.entry_tuple_lt (PySem.F.args_tuple_lt_2 _ _) (Kx l b items items2 n n2 dd mG sl hV ns ms hi hj)
  ⟨ho,kd,show Value.bool (lexLt ns ms)≠Value.notImplemented∧Q (.bool (lexLt ns ms)) s from ⟨(fun x=>nomatch x),h⟩⟩ hu
theorem KG{t:Addr}{vs ws:List Value}(ht:IsTup s.heap t vs.toArray)(hb:IsTup s.heap b ws.toArray)(hv:vs≠[])
  (h1:ws=[]→Q (.ref t) s) (h2:ws≠[]→Q (.ref s.heap.objs.size) {s with heap:=s.heap.push {cls:=.type "tuple",data:=.seq (vs++ws).toArray}})
  (hsz:vs.length+ws.length≤sizeLine):wpAny (model prog w) A (binaryOp .Add (.ref t) (.ref b)) Q E s:=by
 obtain ⟨⟨cls,dd,data,sl⟩,ho,hc,n,hd⟩:=id ht;obtain ⟨⟨DW,mG,data2,hV⟩,kd,fE,n2,hd2⟩:=id hb;simp only at hc hd fE hd2;subst hc hd fE hd2;have e:vs.toArray++ws.toArray=(vs++ws).toArray:=by simp
 by_cases hw:ws=[]
 ·exact concat_meets ⟨_,ho,rfl⟩ ⟨_,kd,rfl⟩ noFill_tuple_add seq_tuple_add zw zA (zB _ _)
   (tuple_addW1 t b vs.toArray ws.toArray n n2 dd mG sl hV (by simpa using hv) (by simp [hw])) ⟨ho,kd,h1 hw⟩
 ·refine concat_meets ⟨_,ho,rfl⟩ ⟨_,kd,rfl⟩ noFill_tuple_add seq_tuple_add zw zA (zB _ _)
   (tuple_addW2 t b vs.toArray ws.toArray n n2 dd mG sl hV (by simpa using hv) (by simpa using hw) (by rw [bM,bM];exact hsz)) ⟨ho,kd,?_⟩
  rw [e];exact h2 hw
def fU(n d:Nat):Option Int→Nat
 | none=>d
 | some v=>if v<0 then (v+(n:Int)).toNat else min v.toNat n
end
end HT
namespace L2
open PySem PySem.Spec PyProof.Rows
theorem intsAre_of{ns:List Int}:∀{us:List Value},Vals (ns.map V.int) us→IntsAre us ns:=by
 induction ns with
 | nil=>intro us r;rw [qa] at r;cases r;exact .nil
 | cons n ns ih=>
  intro us r;rw [cZ] at r;cases r with
  | cons r1 r2=>obtain ⟨t,e⟩:=r1;subst e;exact .cons n t (ih r2)
section
variable {X:Cx} {e:Expr} {te:TE} {lo hi:Option Expr} {tl th:TO} {pos p2:Pos}
def KH(X:Cx)(r:V→Option Int→Option Int→Hp→VK→Prop):Prop:=
 ∀(pins:aO) (s:Shared) (σ:St) (H:Hp) (x:V) (v vl vu:Value) (lo hi:Option Int) (sl:Addr) (Q:VK),Inv X pins σ H s→RelV x v→s.heap.IsSliceOf sl vl vu .none→IsPart vl lo→IsPart vu hi→r x lo hi H Q→
  ∃T id,typeLookup (.type T) "__getitem__"=pure (some (.builtin id))∧s.TypeIs v T∧wpAny (model X.prog X.w) X.A (getItem v (.ref sl)) (EP X pins σ Q) X.xe s
def wV(xs:List V)(lo hi:Option Int):List V:=(xs.drop (HT.fU xs.length 0 lo)).take (HT.fU xs.length xs.length hi-HT.fU xs.length 0 lo)
theorem KI(xs:List V)(lo hi:Option Int):(wV xs lo hi).length≤xs.length:=by unfold wV;rw [m7,List.length_drop];omega
def KJ(K:aG):R2:=fun x y H Q=>∃a b xs ys,x=.ref a∧y=.ref b∧dc K H a xs∧dc K H b ys∧xs≠[]∧xs.length+ys.length≤sizeLine ∧
 (ys=[]→Q (.ref a) H)∧(ys≠[]→∀p,H p=none→Q (.ref p) (upd H p (.tup (xs++ys))))
theorem Vals.wX{xs:List V}{us:List Value}(r:Vals xs us):us=[]↔xs=[]:=by
 cases r with
 | nil=>simp
 | cons _ _=>simp
theorem KN:cz X (binaryOp .Add) (KJ X.K):=by
 intro pins s σ H x y v u Q I rx ry h;obtain ⟨a,b,xs,ys,rfl,rfl,ha,hb,hx,hz,q1,q2⟩:=h;cases rx;cases ry;obtain ⟨ai,r1,p1,_⟩:=I.tuple ha;obtain ⟨gx,r2,p2,_⟩:=I.tuple hb;refine HT.KG p1 p2 (fun z=>hx (r1.wX.mp z)) (fun z=>⟨.ref a,H,I,rfl,q1 (r2.wX.mp z)⟩) (fun z=>?_) (by rw [←r1.length,←r2.length];exact hz)
 refine ⟨.ref s.heap.objs.size,_,I.laid (t':=s.toks) (o:=.tup (xs++ys)) (fun b ob q=>bQ _ q) (ay _) ?_,rfl,q2 (fun w=>z (r2.wX.mpr w)) _ (I.ax.fresh (ay _))⟩;exact ⟨by rw [cS];exact hz,_,r1.append r2,IsTup.new _ _⟩
end
def kX(n:Nat)(i:Int):Option Nat:=if 0≤i then (if i<n then some i.toNat else none) else if -(n:Int)≤i then some (i+n).toNat else none
def jo{α:Type}(xs:List α)(i:Int):Option α:=(kX xs.length i).bind fun j=>xs[j]?
variable {i:Int} {j:Nat}
theorem DX{n:Nat}(h:kX n i=some j):seqIndex? i n=some j∧j<n∧-(n:Int)≤i∧i<n:=by
 unfold kX at h;by_cases h0:0≤i
 ·rw [ae h0] at h
  by_cases h1:i<n
  ·rw [ae h1] at h
   have e:i.toNat=j:=Option.some.inj h;exact ⟨by rw [seqIndex_of h0 h1,e],by omega,by omega,h1⟩
  ·rw [aa h1] at h;cases h
 ·rw [aa h0] at h
  by_cases h1:-(n:Int)≤i
  ·rw [ae h1] at h
   have e:(i+n).toNat=j:=Option.some.inj h;exact ⟨by rw [seqIndex_neg (by omega) h1,e],by omega,h1,by omega⟩
  ·rw [aa h1] at h;cases h
theorem DY{α:Type}{xs:List α}{v:α}(h:jo xs i=some v):∃j,seqIndex? i xs.length=some j∧xs[j]?=some v∧j<xs.length∧-(xs.length:Int)≤i∧i<xs.length:=by
 unfold jo at h;cases e:kX xs.length i with
 | none=>rw [e] at h;cases h
 | some j=>rw [e] at h;obtain ⟨h1,h2,h3,h4⟩:=DX e;exact ⟨j,h1,h,h2,h3,h4⟩
theorem qN{α:Type}{xs:List α}{v:α}(h:xs[j]?=some v):jo xs (j:Int)=some v:=by
 have hj:j<xs.length:=(bL.mp h).1;have e:kX xs.length (j:Int)=some j:=by unfold kX;rw [ae (by omega),ae (by omega)];simp
 unfold jo;rw [e];exact h
def DZ(b:Expr):Prop:=∀o i,subscripted b false o i=operate [o,i] (getItem o i)
def ur(X:Cx)(r:R2):Prop:=
 ∀(value slice:Expr) (pins:aO) (s:Shared) (σ:St) (H:Hp) (x y:V) (v u:Value) (Q:VK),Inv X pins σ H s→RelV x v→RelV y u→r x y H Q→
  subscripted slice false v u=operate [v,u] (getItem v u)→wpAny (model X.prog X.w) X.A (subscriptTail value slice v u) (EP X pins σ Q) X.xe s
def D4(X:Cx)(id:String)(r:V→List V→Hp→VK→Prop):Prop:=
 ∀(pins:aO) (s:Shared) (σ:St) (H:Hp) (x:V) (xs:List V) (v:Value) (us:List Value) (Q:VK),Inv X pins σ H s→RelV x v→Vals xs us→r x xs H Q→
  wpAny (model X.prog X.w) X.A (call (.builtin id) (v::us)) (EP X pins σ Q) X.xe s
section
variable {X:Cx} {a b:Expr} {ta tb:TE} {pos:Pos}
variable {r:R2}
theorem KO(hr:ur X r)(ha:PE X a ta)(hb:PE X b tb)(hs:DZ b):PE X (.Subscript a b pos) (nW r ta tb):=by intro pins s σ H Q I h;exact Subscript_ (z6 ha hb I h fun v u s2 x y H2 I2 rx ry q=>hr a b pins s2 σ H2 x y v u Q I2 rx ry q (hs _ _))
theorem bJ(hr:ur X r)(ha:PE X a ta)(hb:PE X b tb)(hs:DZ b:=by exact fun _ _=>rfl):PE X (.Subscript a b pos) (nW r ta tb):=KO hr ha hb hs
def D5(K:aG):R2:=fun x y H Q=>∃p xs i v,x=.ref p∧y=.int i∧bj K H p xs∧jo xs i=some v∧Q v H
def KP(K:aG):R2:=fun x y H Q=>∃p xs i v,x=.ref p∧y=.int i∧dc K H p xs∧jo xs i=some v∧Q v H
theorem dg:ur X (D5 X.K):=by
 intro value slice pins s σ H x y v u Q I rx ry h hs;obtain ⟨p,xs,i,z,rfl,rfl,hq,he,q⟩:=h;cases rx;obtain ⟨t,rfl⟩:=ry;obtain ⟨ai,r,pl,hz⟩:=I.list hq;obtain ⟨j,h1,h2,h3,h4,h5⟩:=DY he;obtain ⟨w,ew,h_⟩:=r.get h2;have hl:=r.length;have hn:=wQ;have fin:EP X pins σ Q w s:=⟨z,H,I,h_,q⟩;by_cases h0:0≤i
 ·have hj:i.toNat=j:=by rw [seqIndex_of h0 h5] at h1;exact Option.some.inj h1
  exact item_listR pl.isList h0 (by omega) (by rw [hj];simpa using ew) fin hs
 ·have hj:(i+(ai.toArray.size:Int)).toNat=j:=by
   rw [seqIndex_neg (by omega) h4] at h1
   rw [bM,←hl];exact Option.some.inj h1
  exact subscriptTail_builtinR (x:=w) pl.isList.typeIs slot_list_getitem.lookup
   (wpAny_getItem_list_neg (Q:=fun r s'=>r=w∧EP X pins σ Q r s') pl.isList (by omega) (by rw [bM] <;> omega) (by omega) (by rw [hj];simpa using ew) ⟨rfl,fin⟩) hs
theorem gy:ur X (KP X.K):=by
 intro value slice pins s σ H x y v u Q I rx ry h hs;obtain ⟨p,xs,i,z,rfl,rfl,hq,he,q⟩:=h;cases rx;obtain ⟨t,rfl⟩:=ry;obtain ⟨ai,r,pl,hz⟩:=I.tuple hq;obtain ⟨j,h1,h2,h3,h4,h5⟩:=DY he;obtain ⟨w,ew,h_⟩:=r.get h2;have hl:=r.length;have hn:=wQ;have fin:EP X pins σ Q w s:=⟨z,H,I,h_,q⟩
 exact subscriptTail_builtinR (x:=w) pl.typeIs slot_tuple_getitem.lookup
  (getItem_tuple (j:=j) (Q:=fun r s'=>r=w∧EP X pins σ Q r s') pl (by omega) (by omega) (by rw [bM,←hl];exact h1) (by simpa using ew) ⟨rfl,fin⟩) hs
theorem KQ(ai:List Value)(n j:Nat)(u:Value):Obj.mapSeq (·.setIfInBounds j u) {cls:=.type "list",data:=.seq ai.toArray n}={cls:=.type "list",data:=.seq (ai.set j u).toArray n}:=by simp [Obj.mapSeq]
theorem Inv.lst{pins:aO}{σ:St}{H:Hp}{s:Shared}{p:Addr}{xs:List V}(I:Inv X pins σ H s)(h:H p=some (.lst xs)) :
  ∃(ai:List Value) (n:Nat),Vals xs ai∧s.heap.get? p=some {cls:=.type "list",data:=.seq ai.toArray n}∧xs.length≤sizeLine:=by
 obtain ⟨z,ai,n,r,e⟩:=I.ax p _ h;exact ⟨ai,n,r,e,z⟩
variable {pins:aO} {σ:St} {H:Hp} {s:Shared}
theorem Inv.KR{p:Addr}{xs ys:List V}{ai its':List Value}{n n':Nat}{f:Obj→Obj}(I:Inv X pins σ H s)(h:H p=some (.lst xs))
  (ho:s.heap.get? p=some {cls:=.type "list",data:=.seq ai.toArray n}) (hf:f {cls:=.type "list",data:=.seq ai.toArray n}={cls:=.type "list",data:=.seq its'.toArray n'}) (r:Vals ys its') (hz:ys.length≤sizeLine) (t:Nat) :
  Inv X pins σ (upd H p (.lst ys)) {s with heap:=s.heap.update p f,toks:=t}:=by
 have e:(s.heap.update p f).get? p=some {cls:=.type "list",data:=.seq its'.toArray n'}:=by rw [Heap.get?_update_self f ho (by rw [hf] <;> rfl),hf]
 refine I.write (x:=p) (e:=p) (by rw [h];trivial) (.inl rfl) (fun b u hb q=>(Heap.get?_update_other _ _ (Ne.symm hb)).trans q) ⟨_,e⟩ ?_
 exact ⟨hz,its',n',r,e⟩
def KS:V→V→V→Hp→(Hp→Prop)→Prop:=fun o i v H Q=>∃p xs k j,o=.ref p∧i=.int k∧H p=some (.lst xs)∧kX xs.length k=some j∧Q (upd H p (.lst (xs.set j v)))
theorem set_list:Dp X KS:=by
 intro pins s σ H o i v ov iv u Q I ro ri rv h;obtain ⟨p,xs,k,j,rfl,rfl,hp,hj,q⟩:=h;cases ro;obtain ⟨t,rfl⟩:=ri;obtain ⟨ai,n,r,ho,hz⟩:=I.lst hp;obtain ⟨h1,h2,h3,h4⟩:=DX hj;have hl:=r.length;have hn:=wQ;have I':Inv X pins σ (upd H p (.lst (xs.set j v))) {s with heap:=s.heap.update p (Obj.mapSeq (·.setIfInBounds j u))}:=
  I.KR hp ho (KQ ai n j u) (r.set rv j) (by rw [List.length_set];exact hz) s.toks
 by_cases h0:0≤k
 ·have hk:k.toNat=j:=by rw [seqIndex_of h0 h4] at h1;exact Option.some.inj h1
  exact PySem.W.ki_setAt ho h0 (by omega) (by rw [bM,←hl];exact h4) (by rw [hk];exact ⟨_,I',q⟩)
 ·have hk:(k+(ai.toArray.size:Int)).toNat=j:=by
   rw [seqIndex_neg (by omega) h3] at h1
   rw [bM,←hl];exact Option.some.inj h1
  exact PySem.W.ki_setBack ho (by omega) (by rw [bM,←hl];exact h3) (by omega) (by rw [hk];exact ⟨_,I',q⟩)
theorem KU(lo hi:Option Int)(n:Nat):(sliceBounds lo hi none n).1=((HT.fU n 0 lo:Nat):Int)∧(sliceBounds lo hi none n).2.1=((HT.fU n n hi:Nat):Int)∧(sliceBounds lo hi none n).2.2=1:=by
 refine ⟨?_,?_,rfl⟩
 ·cases lo with
  | none=>simp [sliceBounds,HT.fU]
  | some i=>
   simp only [sliceBounds,HT.fU,Option.getD_none,show (1:Int)>0 by decide,jO]
   by_cases h:i<0;·simp only [h,jO] <;> omega
   ·simp only [h,jb] <;> omega
 ·cases hi with
  | none=>simp [sliceBounds,HT.fU]
  | some i=>
   simp only [sliceBounds,HT.fU,Option.getD_none,show (1:Int)>0 by decide,jO]
   by_cases h:i<0;·simp only [h,jO] <;> omega
   ·simp only [h,jb] <;> omega
theorem KW(ai:List Value)(lo hi:Option Int):slicePick ai.toArray lo hi none=((ai.drop (HT.fU ai.length 0 lo)).take (HT.fU ai.length ai.length hi-HT.fU ai.length 0 lo)).toArray:=by obtain ⟨h1,h2,h3⟩:=KU lo hi ai.toArray.size;unfold slicePick;rw [h1,h2,h3];simp only [sliceRange_one,pick_run,bM] <;> rfl
def KY(K:aG):V→Option Int→Option Int→Hp→VK→Prop:=fun x lo hi H Q=>∃a xs,x=.ref a∧bj K H a xs∧∀p,H p=none→Q (.ref p) (upd H p (.lst (wV xs lo hi)))
theorem TC:KH X (KY X.K):=by
 intro pins s σ H x v vl vu lo hi sl Q I rx hs pl pu h;obtain ⟨a,xs,rfl,hx,q⟩:=h;cases rx;obtain ⟨ai,r,ht,hz⟩:=I.list hx;have hlen:=r.length;refine ⟨"list",_,slot_list_getitem.lookup,ht.isList.typeIs,?_⟩;refine wpAny_getItem_list_slice ht.isList hs pl pu .none (by simp) ?_ (by rw [bM] <;> omega)
 rw [KW,←hlen];refine ⟨.ref s.heap.objs.size,_,I.laid (t':=s.toks) (o:=.lst (wV xs lo hi)) (fun b ob q=>bQ _ q) (ay _) ?_,rfl,q _ (I.ax.fresh (ay _))⟩;exact ⟨bf (KI xs lo hi) hz,_,0,(r.drop (HT.fU xs.length 0 lo)).take (HT.fU xs.length xs.length hi-HT.fU xs.length 0 lo),cM _ rfl⟩
def gz:V→Bool
 | .aP=>true
 | .bl _=>true
 | .int _=>true
 | .str _=>true
 | _=>false
def gA:V→V→Bool
 | .aP,.aP=>true
 | .bl a,.bl b=>a == b
 | .bl a,.int b=>(if a then 1 else 0) == b
 | .int a,.bl b=>a == (if b then 1 else 0)
 | .int a,.int b=>a == b
 | .str a,.str b=>a == b
 | _,_=>false
variable {y x:V} {u:Value}
theorem Ad{A:Around}{v:Value}(ry:RelV y u)(rx:RelV x v)(fy:gz y=true)(fx:gz x=true):SeqAt.EqAt A s u v (gA y x):=by
 cases y with
 | aP=>
  cases ry;cases x with
  | aP=>cases rx;exact SeqAt.EqAt.same _
  | bl b=>cases rx;exact SeqAt.EqAt.none_bool b
  | int b=>obtain ⟨t,rfl⟩:=rx;exact SeqAt.EqAt.none_int b t
  | str b=>obtain ⟨t,rfl⟩:=rx;exact SeqAt.EqAt.none_str b t
  | _=>exact absurd (show false=true from fx) b7
 | bl a=>
  cases ry;cases x with
  | aP=>cases rx;exact SeqAt.EqAt.bool_none a
  | bl b=>cases rx;exact SeqAt.EqAt.bool_bool a b
  | int b=>obtain ⟨t,rfl⟩:=rx;exact SeqAt.EqAt.bool_int a b t
  | str b=>obtain ⟨t,rfl⟩:=rx;exact SeqAt.EqAt.bool_str a b t
  | _=>exact absurd (show false=true from fx) b7
 | int a=>
  obtain ⟨t',rfl⟩:=ry;cases x with
  | aP=>cases rx;exact SeqAt.EqAt.int_none a t'
  | bl b=>cases rx;exact SeqAt.EqAt.int_bool a t' b
  | int b=>obtain ⟨t,rfl⟩:=rx;exact SeqAt.EqAt.int_int a t' b t
  | str b=>obtain ⟨t,rfl⟩:=rx;exact SeqAt.EqAt.int_str a t' b t
  | _=>exact absurd (show false=true from fx) b7
 | str a=>
  obtain ⟨t',rfl⟩:=ry;cases x with
  | aP=>cases rx;exact SeqAt.EqAt.str_none a t'
  | bl b=>cases rx;exact SeqAt.EqAt.str_bool a t' b
  | int b=>obtain ⟨t,rfl⟩:=rx;exact SeqAt.EqAt.str_int a t' b t
  | str b=>obtain ⟨t,rfl⟩:=rx;exact SeqAt.EqAt.str_str a t' b t
  | _=>exact absurd (show false=true from fx) b7
 | _=>exact absurd (show false=true from fy) b7
def fV(x:V)(u:Value):Bool:=match u with
 | .none=>gA .aP x
 | .bool b=>gA (.bl b) x
 | .int i _=>gA (.int i) x
 | .str z _=>gA (.str z) x
 | _=>false
theorem D6(r:RelV y u)(f:gz y=true):fV x u=gA y x:=by
 cases y with
 | aP=>cases r;rfl
 | bl b=>cases r;rfl
 | int i=>obtain ⟨t,rfl⟩:=r;rfl
 | str z=>obtain ⟨t,rfl⟩:=r;rfl
 | _=>exact absurd (show false=true from f) b7
theorem uu{x:V}:∀{xs:List V} {us:List Value},Vals xs us→xs.all gz=true→us.any (fV x)=xs.any fun y=>gA y x
 | _,_,.nil,_=>rfl
 | y::xs,u::us,.cons r t,f=>by rw [List.all_cons,Bool.and_eq_true] at f;rw [m8,m8,D6 r f.1,uu t f.2]
theorem uv{A:Around}{s:Shared}{x:V}{v:Value}(rx:RelV x v)(fx:gz x=true):∀{xs:List V} {us:List Value},Vals xs us→xs.all gz=true→∀u∈us,SeqAt.EqAt A s u v (fV x u)
 | _,_,.nil,_=>fun u hu=>by cases hu
 | y::xs,u::us,.cons r t,f=>fun u' hu=>by
  rw [List.all_cons,Bool.and_eq_true] at f;rcases b6.mp hu with rfl | hu;·rw [D6 r f.1];exact Ad r rx f.1 fx
  ·exact uv rx fx t f.2 u' hu
def gB(x:V)(xs:List V):Bool:=xs.any fun y=>gA y x
def Ae(K:aG)(neg:Bool):R2:=fun x y H Q=>∃p xs,y=.ref p∧(bj K H p xs∨dc K H p xs)∧gz x=true∧xs.all gz=true∧Q (.bl (if neg then !gB x xs else gB x xs)) H
theorem D7:cz X (compareOp .In) (Ae X.K false):=by
 intro pins s σ H x y v u Q I rx ry h;obtain ⟨p,xs,rfl,hq,fx,fs,q⟩:=h;cases ry;rcases hq with hq | hq
 ·obtain ⟨ai,r,pl,hz⟩:=I.list hq
  refine SeqAt.in_listAt (fV x) pl.isList (fun w hw=>uv rx fx r fs w (by simpa using hw)) ⟨.bl _,H,I,rfl,?_⟩
  rw [show ai.toArray.any (fV x)=ai.any (fV x) by simp,uu r fs]
  exact q
 ·obtain ⟨ai,r,pl,hz⟩:=I.tuple hq
  refine SeqAt.in_tupleAt (fV x) pl (fun w hw=>uv rx fx r fs w (by simpa using hw)) ⟨.bl _,H,I,rfl,?_⟩
  rw [show ai.toArray.any (fV x)=ai.any (fV x) by simp,uu r fs]
  exact q
theorem KZ:cz X (compareOp .NotIn) (Ae X.K true):=by
 intro pins s σ H x y v u Q I rx ry h;obtain ⟨p,xs,rfl,hq,fx,fs,q⟩:=h;cases ry;rcases hq with hq | hq
 ·obtain ⟨ai,r,pl,hz⟩:=I.list hq
  refine SeqAt.notIn_listAt (fV x) pl.isList (fun w hw=>uv rx fx r fs w (by simpa using hw)) ⟨.bl _,H,I,rfl,?_⟩
  rw [show ai.toArray.any (fV x)=ai.any (fV x) by simp,uu r fs]
  exact q
 ·obtain ⟨ai,r,pl,hz⟩:=I.tuple hq
  refine SeqAt.notIn_tupleAt (fV x) pl (fun w hw=>uv rx fx r fs w (by simpa using hw)) ⟨.bl _,H,I,rfl,?_⟩
  rw [show ai.toArray.any (fV x)=ai.any (fV x) by simp,uu r fs]
  exact q
theorem ke:en X (.builtin "len") (fun xs H Q=>∃p ys,xs=[.ref p]∧(bj X.K H p ys∨dc X.K H p ys)∧Q (.int ys.length) H):=by
 intro pins s σ H xs us Q I r h;obtain ⟨p,ys,rfl,hq,q⟩:=h;obtain ⟨u,rfl,rx⟩:=vals1 r;cases rx;have hn:=wQ;rcases hq with hq | hq
 ·obtain ⟨ai,r',pl,hz⟩:=I.list hq
  have hlen:=r'.length;exact Calls.call_len_list pl.isList (by simp only [bM] <;> omega) ⟨.int ys.length,H,I.tok _,⟨s.toks+1,by rw [bM,hlen]⟩,q⟩
 ·obtain ⟨ai,r',pl,hz⟩:=I.tuple hq
  have hlen:=r'.length;exact len_tuple pl (by simp only [bM] <;> omega) ⟨.int ys.length,H,I.tok _,⟨s.toks+1,by rw [bM,hlen]⟩,q⟩
theorem K6:en X (.type "list") (fun xs H Q=>∃p ys,xs=[.ref p]∧(bj X.K H p ys∨dc X.K H p ys)∧∀l,H l=none→Q (.ref l) (upd H l (.lst ys))):=by
 intro pins s σ H xs us Q I r h;obtain ⟨p,ys,rfl,hq,q⟩:=h;obtain ⟨u,rfl,rx⟩:=vals1 r;cases rx
 have fin:∀(ai:List Value),Vals ys ai→ys.length≤sizeLine→∀(h':Heap) (c':Nat),(∀b o',s.heap.get? b=some o'→h'.get? b=some o')→
   h'.get? s.heap.objs.size=some {cls:=.type "list",dict:=none,data:=.seq ai.toArray c',slots:=#[]}→EP X pins σ Q (.ref s.heap.objs.size) {s with heap:=h'}:=fun ai r' hz h' c' kp e=>
  ⟨.ref s.heap.objs.size,_,I.laid (t':=s.toks) kp (ay _) (show bI X.prog X.w _ h' _ (.lst ys) from ⟨hz,ai,c',r',e⟩),rfl,q _ (I.ax.fresh (ay _))⟩
 rcases hq with hq | hq
 ·obtain ⟨ai,r',pl,hz⟩:=I.list hq
  have hlen:=r'.length;obtain ⟨o,ho,hc,n,hd⟩:=pl.isList;exact call_list_seq p (.inl rfl) ho hc hd (fun h' c' kp e=>fin ai r' hz h' c' kp e) (by simp only [bM] <;> omega)
 ·obtain ⟨ai,r',pl,hz⟩:=I.tuple hq
  have hlen:=r'.length;obtain ⟨o,ho,hc,n,hd⟩:=pl;exact call_list_seq p (.inr rfl) ho hc hd (fun h' c' kp e=>fin ai r' hz h' c' kp e) (by simp only [bM] <;> omega)
theorem Af:en X (.type "tuple") (fun xs H Q=>∃p ys,xs=[.ref p]∧((bj X.K H p ys∧∀l,H l=none→Q (.ref l) (upd H l (.tup ys)))∨(dc X.K H p ys∧Q (.ref p) H))):=by
 intro pins s σ H xs us Q I r h;obtain ⟨p,ys,rfl,h⟩:=h;obtain ⟨u,rfl,rx⟩:=vals1 r;cases rx;rcases h with ⟨hq,q⟩ | ⟨hq,q⟩
 ·obtain ⟨ai,r',pl,hz⟩:=I.list hq
  have hlen:=r'.length;refine call_tuple_list pl.isList (fun h' kp=>?_) (by simp only [bM] <;> omega)
  have I1:Inv X pins σ H {s with heap:=h'}:=I.kept (t':=s.toks) kp;have I2:Inv X pins σ (upd H h'.objs.size (.tup ys)) {s with heap:=h'.push {cls:=.type "tuple",data:=.seq ai.toArray}}:=
   I1.laid (t':=s.toks) (fun b o e=>bQ _ e) (ay _) (show bI X.prog X.w _ _ _ (.tup ys) from ⟨hz,ai,r',IsTup.new _ _⟩)
  exact ⟨.ref h'.objs.size,_,I2,rfl,q _ (I1.ax.fresh (ay _))⟩
 ·obtain ⟨ai,r',pl,hz⟩:=I.tuple hq
  exact call_tuple_same pl ⟨.ref p,H,I,rfl,q⟩
def wY(K:aG)(T:String)(x:V)(H:Hp):Prop:=match x with
 | .str _=>T="str"
 | .int _=>T="int"
 | .ref p=>(T="list"∧∃xs,bj K H p xs)∨(T="tuple"∧∃o,K.lookup p=some o∧o.cls=.type "tuple"∧o.dict=none) ∨
   (T="dict"∧((∃kvs,H p=some (.dK kvs))∨∃kvs,H p=some (.dT kvs)))∨(T="set"∧∃S n,H p=some (.set S n))
 | _=>False
theorem Ag{T:String}{v:Value}(I:Inv X pins σ H s)(r:RelV x v)(ty:wY X.K T x H) :
  s.TypeIs v T∧∀a,v=.ref a→∃ob,s.heap.get? a=some ob∧ob.dict=none:=by
 cases x with
 | str z=>obtain ⟨t,rfl⟩:=r;cases (show T="str" from ty);exact ⟨typeIs_str s z t,fun _ e=>nomatch e⟩
 | int i=>obtain ⟨t,rfl⟩:=r;cases (show T="int" from ty);exact ⟨typeIs_int s i t,fun _ e=>nomatch e⟩
 | ref p=>
  cases r;rcases ty with ⟨rfl,xs,hq⟩ | ⟨rfl,o,hk,hc,hd⟩ | ⟨rfl,hk⟩ | ⟨rfl,S,n,hk⟩
  ·obtain ⟨ai,_,pl,_⟩:=I.list hq
   refine ⟨pl.isList.typeIs,fun a e=>?_⟩;cases e;obtain ⟨o,n,e,c,hd,_⟩:=pl;exact ⟨o,e,hd⟩
  ·refine ⟨⟨o,I.ei p o hk,hc⟩,fun a e=>?_⟩
   cases e;exact ⟨o,I.ei _ o hk,hd⟩
  ·have z:∃o,s.heap.get? p=some o∧o.ExactDict:=by
    rcases hk with ⟨kvs,hk⟩ | ⟨kvs,hk⟩
    ·obtain ⟨_,_,_,_,o,_,_,e,ex,_⟩:=I.ax p _ hk
     exact ⟨o,e,ex⟩
    ·obtain ⟨_,_,_,_,o,_,_,e,ex,_⟩:=I.ax p _ hk
     exact ⟨o,e,ex⟩
   obtain ⟨o,e,ex⟩:=z;refine ⟨⟨o,e,ex.1⟩,fun a e2=>?_⟩;cases e2;exact ⟨o,e,ex.2.1⟩
  ·obtain ⟨o,_,_,_,e,ex,_⟩:=I.ax p _ hk
   refine ⟨⟨o,e,ex.1⟩,fun a e2=>?_⟩;cases e2;exact ⟨o,e,ex.2.1⟩
 | _=>exact False.elim ty
def K7(K:aG)(T:String)(r:V→List V→Hp→VK→Prop)(to:TE):TE:=fun σ H Q=>to σ H fun x H1=>wY K T x H1∧r x [] H1 Q
def K8(K:aG)(T:String)(r:V→List V→Hp→VK→Prop)(to:TE)(t:TA):TE:=fun σ H Q=>to σ H fun x H1=>wY K T x H1∧t σ H1 fun xs H2=>r x xs H2 Q
variable {o e:Expr} {es:List Expr} {to:TE} {t:TA} {name:Str} {apos eL:Pos} {T id:String} {r:V→List V→Hp→VK→Prop}
theorem D8(pa:PlainAttrs T)(slot:Slot T name id)(Ah:typeOf (.builtin id)=pure (.type "method_descriptor"))(hm:D4 X id r)(ho:PE X o to)
  (uw:attributeBase o name X.env (eval o X.env)=eval o X.env:=by rfl) (ux:(apos.endLine == eL.line)=true:=by rfl):PE X (.Call (.Attribute o name apos) [] [] eL) (K7 X.K T r to):=by
 intro pins s σ H Q I h;refine wpAny_Call_method0_late uw ux (aJ (ho pins s σ H _ I h) fun v s1 ⟨x,H1,I1,r1,ty,q1⟩=>?_);obtain ⟨h1,h2⟩:=Ag I1 r1 ty;exact ⟨T,id,pa,slot,Ah,h1,h2,zC rfl (PySem.evalArgs_none (hm pins s1 σ H1 x [] v [] Q I1 r1 .nil q1))⟩
theorem iQ(pa:PlainAttrs T)(slot:Slot T name id)(Ah:typeOf (.builtin id)=pure (.type "method_descriptor"))(hm:D4 X id r)(ho:PE X o to)(ha:PA X (e::es) t)
  (uw:attributeBase o name X.env (eval o X.env)=eval o X.env:=by rfl)
  (K9:((backTo eL (starEach (e::es) X.env)).all (fun x=>!x.1) && (backToKw eL (keywordEach [] X.env)).all (fun x=>x.1.isSome)
   && decide ((e::es).length+([]:List Keyword).length+(if ([]:List Keyword).isEmpty then 0 else 1)<30))=true:=by rfl)
  (ux:(apos.endLine == eL.line)=true:=by rfl) (hs:starEach (e::es) X.env=(false,eval e X.env)::starEach es X.env:=by rfl) (K_:(backTo eL (starEach es X.env)).any (·.1)=false:=by rfl) :
  PE X (.Call (.Attribute o name apos) (e::es) [] eL) (K8 X.K T r to t):=by
 intro pins s σ H Q I h;refine wpAny_Call_method_late uw K9 ux rfl (aJ (ho pins s σ H _ I h) fun v s1 ⟨x,H1,I1,r1,ty,q1⟩=>?_);obtain ⟨h1,h2⟩:=Ag I1 r1 ty;refine ⟨T,id,pa,slot,Ah,h1,h2,?_⟩;have hA:=ha eL pins s1 σ H1 _ I1 q1;rw [hs] at hA ⊢;refine zC (by show (false || (backTo eL (starEach es X.env)).any (·.1))=false;rw [K_] <;> rfl) (Calls.evalArgs_plain ?_)
 exact aJ hA fun us s2 ⟨vs,H2,I2,r2,q2⟩=>hm pins s2 σ H2 x vs v us Q I2 r1 r2 q2
end
def wZ(X:Cx)(id:String)(r:V→List V→Hp→VK→Prop):Prop:=
 ∀(pins:aO) (s:Shared) (σ:St) (H:Hp) (x:V) (xs:List V) (v:Value) (us:List Value) (Q:VK),Inv X pins σ H s→RelV x v→Vals xs us→r x xs H Q→
  wpAny (model X.prog X.w) X.A (call (.builtin id) (v::us)) (EP X pins σ Q) X.xe s
theorem Vals.one:∀{x:V} {us:List Value},Vals [x] us→∃u,us=[u]∧RelV x u
 | _,_,.cons r .nil=>⟨_,rfl,r⟩
theorem Vals.zero:∀{us:List Value},Vals [] us→us=[]
 | _,.nil=>rfl
theorem Vals.dropLast{xs:List V}{us:List Value}(h:Vals xs us):Vals xs.dropLast us.dropLast:=by
 induction h with
 | nil=>exact .nil
 | cons r t ih=>
  cases t with
  | nil=>exact .nil
  | cons q t'=>exact .cons r ih
theorem Vals.eraseIdx:∀{xs:List V} {us:List Value} (i:Nat),Vals xs us→Vals (xs.eraseIdx i) (us.eraseIdx i)
 | _,_,_,.nil=>.nil
 | _,_,0,.cons _ t=>t
 | _,_,i+1,.cons r t=>.cons r (Vals.eraseIdx i t)
theorem Vals.rep{xs:List V}{us:List Value}(h:Vals xs us):∀k:Nat,Vals (List.replicate k xs).flatten (List.replicate k us).flatten
 | 0=>.nil
 | k+1=>by rw [qb,qb,tN,tN];exact Vals.append h (Vals.rep h k)
variable {α:Type}
theorem La(l:List α):l.eraseIdx (l.length-1)=l.dropLast:=by
 induction l with
 | nil=>rfl
 | cons a r ih=>
  cases r with
  | nil=>rfl
  | cons b r=>
   have e:(a::b::r).length-1=((b::r).length-1)+1:=by have h1:(a::b::r).length=r.length+2:=rfl;have h2:(b::r).length=r.length+1:=rfl;omega
   rw [e,List.eraseIdx_cons_succ,ih]
   all_goals rfl
theorem D9{α:Type}:∀(l:List α) (i:Nat),(l.eraseIdx i).length≤l.length
 | [],_=>ay _
 | _::_,0=>l9 _
 | _::r,i+1=>Nat.succ_le_succ (D9 r i)
theorem foldl_rep(ai:List Value):∀(k:Nat) (acc:List Value),
  List.foldl (fun x1 x2=>x1++x2) acc.toArray (List.replicate k ai.toArray)=(acc++(List.replicate k ai).flatten).toArray
 | 0,acc=>by simp
 | k+1,acc=>by
  have e:acc.toArray++ai.toArray=(acc++ai).toArray:=by simp
  have e2:(acc++ai)++(List.replicate k ai).flatten=acc++(List.replicate (k+1) ai).flatten:=by rw [qb,tN,gU]
  rw [←e2,←foldl_rep ai k (acc++ai),←e,qb,List.foldl_cons]
section
variable {X:Cx} {pins:aO} {σ:St} {H:Hp} {s:Shared} {l b:Addr} {xs ys zs:List V}
variable {ai:List Value} {n t':Nat}
theorem Inv.w5{its':List Value}{f:Array Value→Array Value}(I:Inv X pins σ H s)(hH:H l=some (.lst xs))
  (e:s.heap.get? l=some {cls:=.type "list",data:=.seq ai.toArray n}) (hf:f ai.toArray=its'.toArray) (hv:Vals ys its') (hz:ys.length≤sizeLine) :
  Inv X pins σ (upd H l (.lst ys)) {s with heap:=s.heap.update l (Obj.mapSeq f),toks:=t'}:=by
 have q:=PySem.IsL.update e f;rw [hf] at q;refine I.write (x:=l) (e:=l) (by rw [hH];exact trivial) (.inl rfl) (fun b' u hb hu=>(Heap.get?_update_other s.heap (Obj.mapSeq f) (Ne.symm hb)).trans hu) ⟨_,q⟩ ?_
 exact ⟨hz,its',_,hv,q⟩
theorem Inv.D_(I:Inv X pins σ H s)(hv:Vals ys ai)(hz:ys.length≤sizeLine) :
  Inv X pins σ (upd H s.heap.objs.size (.lst ys)) {s with heap:=s.heap.push {cls:=.type "list",data:=.seq ai.toArray},toks:=t'}:=
 I.laid (fun _ _ q=>bQ _ q) (ay _) ⟨hz,ai,0,hv,cM _ rfl⟩
theorem Inv.fresh(I:Inv X pins σ H s):H s.heap.objs.size=none:=I.ax.fresh (ay _)
theorem Inv.mH(I:Inv X pins σ H s)(hH:H l=some (.lst xs)):xs.length≤sizeLine∧∃(ai:List Value) (n:Nat),Vals xs ai∧xs.length=ai.length∧s.heap.get? l=some {cls:=.type "list",data:=.seq ai.toArray n}:=by obtain ⟨z,ai,n,r,e⟩:=I.ax l _ hH;exact ⟨z,ai,n,r,r.length,e⟩
theorem Ea(h:n≤sizeLine):Builtin.List.listTooLong n=false:=by unfold Builtin.List.listTooLong;exact bP (by omega)
end
section
variable {X:Cx}
def Lb:V→List V→Hp→VK→Prop:=fun x vs H Q=>∃l xs y,x=.ref l∧vs=[y]∧H l=some (.lst xs)∧xs.length<sizeLine∧Q .aP (upd H l (.lst (xs++[y])))
theorem ic:wZ X "list.append" Lb:=by
 intro pins s σ H x vs v us Q I rx rv h;obtain ⟨l,xs,y,rfl,rfl,hH,hz,q⟩:=h;cases rx;obtain ⟨u,rfl,ru⟩:=rv.one;obtain ⟨z,ai,n,r,hl,e⟩:=I.mH hH;refine call_meets F.slot_list_append ⟨_,e,rfl⟩ F.entry_list_append (F.args_list_append_2 _ _) (PySem.list_append l ai.toArray n u (by rw [bM];omega)) ⟨e,?_⟩
 refine ⟨.aP,_,I.w5 (its':=ai++[u]) hH e (by simp) (r.append (.cons ru .nil)) ?_,rfl,q⟩
 rw [cS,jP];omega
def Lc:V→List V→Hp→VK→Prop:=fun x vs H Q=>∃l b xs zs,x=.ref l∧vs=[.ref b]∧H l=some (.lst xs)∧H b=some (.lst zs)∧xs.length+zs.length≤sizeLine∧Q .aP (upd H l (.lst (xs++zs)))
theorem Ld:wZ X "list.extend" Lc:=by
 intro pins s σ H x vs v us Q I rx rv h;obtain ⟨l,b,xs,zs,rfl,rfl,hH,hB,hz,q⟩:=h;cases rx;obtain ⟨u,rfl,ru⟩:=rv.one;cases ru;obtain ⟨z,ai,n,r,hl,e⟩:=I.mH hH;obtain ⟨z2,gx,n2,r2,Le,e2⟩:=I.mH hB;have hsz:ai.toArray.size+gx.toArray.size≤sizeLine:=by rw [bM,bM];omega
 have Ai:¬(!ai.toArray.isEmpty && Builtin.List.listTooLong (ai.toArray.size+gx.toArray.size))=true:=by rw [Ea hsz,Bool.and_false];exact b7
 refine call_meets F.slot_list_extend ⟨_,e,rfl⟩ F.entry_list_extend (F.args_list_extend_2 _ _)
  (AutoSeq1.list_extend_list_list_0 l ai.toArray n b gx.toArray n2 Ai (by rw [bM];omega) (by omega)) ⟨e,e2,?_⟩
 refine ⟨.aP,_,I.w5 (its':=ai++gx) hH e (by simp) (r.append r2) ?_,rfl,q⟩
 rw [cS];omega
def Lf:V→List V→Hp→VK→Prop:=fun x vs H Q=>∃l xs y,x=.ref l∧vs=[]∧H l=some (.lst xs)∧xs[xs.length-1]?=some y∧Q y (upd H l (.lst xs.dropLast))
theorem Eb:wZ X "list.pop" Lf:=by
 intro pins s σ H x vs v us Q I rx rv h;obtain ⟨l,xs,y,rfl,rfl,hH,hy,q⟩:=h;cases rx;have kY:=rv.zero;subst kY;obtain ⟨z,ai,n,r,hl,e⟩:=I.mH hH;obtain ⟨u,hu,ru⟩:=r.get hy;have Lg:ai.toArray[ai.toArray.size-1]?=some u:=by show ai.toArray[ai.length-1]?=some u;rw [←zD,←hl];exact hu
 refine call_meets F.slot_list_pop ⟨_,e,rfl⟩ F.entry_list_pop (F.args_list_pop_1 _) (MeetsSeq.list_pop_last l ai.toArray n u Lg (by rw [bM];omega)) ⟨e,?_⟩
 refine ⟨y,_,I.w5 (its':=ai.dropLast) hH e ?_ r.dropLast ?_,ru,q⟩
 ·show ai.toArray.eraseIdxIfInBounds (ai.toArray.size-1)=ai.dropLast.toArray
  rw [bM,List.eraseIdxIfInBounds_toArray,La]
 ·rw [List.length_dropLast]
  omega
def Lh:V→List V→Hp→VK→Prop:=fun x vs H Q=>∃l xs i k y,x=.ref l∧vs=[.int i]∧H l=some (.lst xs)∧-(2 ^ 63)≤i∧i<2 ^ 63∧seqIndex? i xs.length=some k∧xs[k]?=some y∧Q y (upd H l (.lst (xs.eraseIdx k)))
theorem Li:wZ X "list.pop" Lh:=by
 intro pins s σ H x vs v us Q I rx rv h;obtain ⟨l,xs,i,k,y,rfl,rfl,hH,h1,h2,hk,hy,q⟩:=h;cases rx;obtain ⟨u,rfl,ru⟩:=rv.one;obtain ⟨t,rfl⟩:=ru;obtain ⟨z,ai,n,r,hl,e⟩:=I.mH hH;obtain ⟨w,hw,h_⟩:=r.get hy
 refine call_meets F.slot_list_pop ⟨_,e,rfl⟩ F.entry_list_pop (F.args_list_pop_2 _ _)
  (MeetsSeq.list_pop_at l ai.toArray n i t k w (fitsIndex_both h1 h2) (by rw [bM,←hl];exact hk) (by rw [←zD];exact hw) (by rw [bM];omega)) ⟨e,?_⟩
 refine ⟨y,_,I.w5 (its':=ai.eraseIdx k) hH e ?_ (r.eraseIdx k) ?_,h_,q⟩
 ·show ai.toArray.eraseIdxIfInBounds k=(ai.eraseIdx k).toArray
  rw [List.eraseIdxIfInBounds_toArray]
 ·have:=D9 xs k
  omega
def Lj:R2:=fun x y H Q=>∃l b xs zs,x=.ref l∧y=.ref b∧H l=some (.lst xs)∧H b=some (.lst zs)∧xs.length+zs.length≤sizeLine∧∀p,H p=none→Q (.ref p) (upd H p (.lst (xs++zs)))
theorem w6:cz X (binaryOp .Add) Lj:=by
 intro pins s σ H x y v u Q I rx ry h;obtain ⟨l,b,xs,zs,rfl,rfl,hH,hB,hz,q⟩:=h;cases rx;cases ry;obtain ⟨z,ai,n,r,hl,e⟩:=I.mH hH;obtain ⟨z2,gx,n2,r2,Le,e2⟩:=I.mH hB;refine PySem.P.add_list e e2 ?_ (by rw [bM,bM];omega)
 have ea:ai.toArray++gx.toArray=(ai++gx).toArray:=by simp
 rw [ea];exact ⟨.ref _,_,I.D_ (t':=s.toks) (r.append r2) (by rw [cS];omega),rfl,q _ I.fresh⟩
def Ll:R2:=fun x y H Q=>∃l k xs,x=.ref l∧y=.int k∧H l=some (.lst xs)∧-(2 ^ 63)≤k∧k<2 ^ 63∧xs.length*k.toNat≤sizeLine ∧
 ∀p,H p=none→Q (.ref p) (upd H p (.lst (List.replicate k.toNat xs).flatten))
theorem len_rep(xs:List α)(k:Nat):(List.replicate k xs).flatten.length=k*xs.length:=by
 induction k with
 | zero=>simp
 | succ k ih=>rw [qb,tN,cS,ih,Nat.succ_mul,Nat.add_comm]
theorem Lm:cz X (binaryOp .Mult) Ll:=by
 intro pins s σ H x y v u Q I rx ry h;obtain ⟨l,k,xs,rfl,rfl,hH,h1,h2,hz,q⟩:=h;cases rx;obtain ⟨t,rfl⟩:=ry;obtain ⟨z,ai,n,r,hl,e⟩:=I.mH hH;have hlen:ai.toArray.size*k.toNat≤sizeLine:=by rw [bM,←hl];exact hz
 have Ln:¬ai.toArray.size*k.toNat>(2 ^ 63-1) / 8:=by
  have:(sizeLine:Nat)≤(2 ^ 63-1) / 8:=by decide
  omega
 have Lo:¬(!Builtin.List.listFitsIndex k)=true:=by rw [fitsIndex_both h1 h2];exact b7
 have Ai:¬Builtin.List.listTooLong (ai.toArray.size*k.toNat)=true:=by rw [Ea hlen];exact b7
 have Lp:List.foldl (fun x1 x2=>x1++x2) #[] (List.replicate (if ai.toArray.isEmpty=true then 0 else k.toNat) ai.toArray)=(List.replicate k.toNat ai).flatten.toArray:=by
  have f0:∀m:Nat,List.foldl (fun x1 x2=>x1++x2) #[] (List.replicate m ai.toArray)=(List.replicate m ai).flatten.toArray:=fun m=>by have:=foldl_rep ai m [];rw [List.nil_append] at this;exact this
  rw [f0];cases ai with
  | nil=>simp
  | cons a r'=>rw [aa (by simp)]
 refine wpAny_binaryOp_repeat_ref (T:="list") (U:="int") (by decide) ⟨_,e,rfl⟩ (fun s'=>typeIs_int s' k t) noFill_list_mul F.fills_int_mul F.slot_int_rmul repeat_list F.slot_int_index.lookup
  (call_meets F.slot_int_rmul (typeIs_int s k t) F.entry_int_rmul (F.args_int_rmul_2 _ _) (int___rmul___int_list k t l ai.toArray n)
   ⟨e,rfl,⟨_,e,rfl⟩,call_meets F.slot_list_mul ⟨_,e,rfl⟩ F.entry_list_mul (F.args_list_mul_2 _ _) (AutoListH.list___mul___list_int_3 l ai.toArray n k t Lo Ln Ai) ⟨e,?_⟩⟩)
 rw [Lp];exact ⟨.ref _,_,I.D_ (t':=s.toks) (r.rep k.toNat) (by rw [len_rep,Nat.mul_comm];exact hz),rfl,q _ I.fresh⟩
end
section
variable {prog:Program} {w:World} {A:Around} {E:aF} {s:Shared}
end
section
variable {X:Cx}
end
end L2
namespace w9
open PySem PySem.W PySem.Calls PyProof.Rows
variable {P:Params} {h:Heap}
theorem Lq:∀(ns:List Int) (vs:List Value),WellAll P h vs (ns.map WData.int)→IntsAre vs ns:=by
 intro ns
 induction ns with
 | nil=>intro vs w;rw [qa] at w;cases w;exact .nil
 | cons n ns ih=>
  intro vs w;rw [cZ] at w;cases w with
  | cons a b=>cases a;exact .cons _ _ (ih _ b)
variable {l:OpenLaw} {n:Nat}
theorem Lr(hn:l.most=some n){args:List WData}{vals:List Value}
  (w_:l.row.toRowW.claim.pre args=true) (Aj:WellAll P h vals args) :
  ∃a vs ns,vals=[Value.ref a]∧args=[WData.list (ns.map WData.int)]∧h.get? a=some {cls:=.type "list",data:=.seq vs.toArray}∧IntsAre vs ns∧ns.length≤n:=by
 have Ls:WShape.hasAll [] args [.list .int]=true:=(pre_splitW w_).1;have hc:l.pre.holds [] {args:=args}=true:=(pre_splitW w_).2;obtain ⟨d,r,rfl,h1,h2⟩:=hasAllW_cons Ls;obtain rfl:=hasAllW_nil h2;obtain ⟨xs,rfl,h3⟩:=hasW_list h1;obtain ⟨ns,rfl⟩:=items_int h3;have hlen:ns.length≤n:=by
  unfold OpenLaw.pre at hc;have h4:(WTm.not (.lt (.lit (.int (n:Int))) (.len (.arg 0)))).holds [] {args:=[.list (ns.map .int)]}=true:=by have h4:=(holds_andW hc).1;rw [hn] at h4;exact h4
  have h5:=condW_of h4 (w_not (w_lt w_lit (w_len_list (w_arg rfl))));rw [aE] at h5;refine Nat.le_of_not_lt fun q=>?_;have q':(n:Int)<((ns.length:Nat):Int):=by omega
  first
   | (rw [b8 q'] at h5;exact absurd h5 (by decide))
   | (simp at h5;omega)
 cases Aj with
 | cons w1 w2=>
  cases w2;cases w1 with
  | list ho Ak=>exact ⟨_,_,ns,rfl,rfl,ho,Lq ns _ Ak,hlen⟩
theorem Lu(l:OpenLaw)(args:List WData):l.row.toRowW.claim.post args (.bool true) args=true:=
 postW_of (r:=l.row.toRowW) (X:=(true == true))
  (show WShape.has [] (.bool true) .bool=true by first | rfl | decide | simp [WShape.has,WShape.arms,WShape.armsAll])
  (show (WTm.eq .res (.lit (.bool true))).value [] {args:=args,res:=some (.bool true),after:=args}=some (.bool (true == true)) from w_eq_bool (w_res rfl) w_lit) rfl
theorem Lv{q:Program}{loose:List Str}{XP:(Str→Option Value)→Heap→Prop}{YP:World→Heap→Prop}{d:DefRec}
  (hn:l.most=some n) (uy:d.params.defaults=[])
  (call:∀(w:World) (s₀ s₁:Shared) (mg mb:cN) (fa:Addr) (o:Obj) (pm cd doc:Value) (a:Addr) (vs:List Value) (ns:List Int),
   Ground q loose [] XP w s₀ mg mb s₁.heap→YP w s₁.heap→
   s₁.heap.get? fa=some o→o.data=.func (docDef d.name d.params d.body d.scope pm cd doc)→s₁.heap.CodeRec cd d.name→mg d.name=some (.ref fa)→
   s₁.heap.get? a=some {cls:=.type "list",data:=.seq vs.toArray}→IntsAre vs ns→ns.length≤n→s₁.gens = #[]→
   codeAny (model l.prog w) callerA (.call (.ref fa) ⟨[.ref a],[]⟩) (fun r s'=>r=.ok (.ret (.bool true))∧OldK s₁.heap s'.heap∧s'.os=s₁.os∧AllBare s'.gens) s₁) :
  WalkO q loose XP YP l.row.toRowW d [] (fun f vs=>PySem.call f vs):=by
 intro w s₀ s₁ mg mb G Y fa o pm cd doc dV kV ho hd fA hD uz hg args vals as w_ TK T1 Aj T2;obtain rfl:dV=.none:=Dflts.none hD uy;obtain rfl:kV=.none:=Dflts.noKw hD;obtain ⟨a,vs,ns,rfl,rfl,Al,hints,hlen⟩:=Lr hn w_ Aj;refine enter_call (codeAny_mono (call w s₀ s₁ mg mb fa o pm cd doc a vs ns G Y ho (fd_plain hd) fA uz Al hints hlen hg) fun r s' hq=>?_);obtain ⟨rfl,h2,h3,h4⟩:=hq;exact ⟨.inl ⟨.bool true,.bool true,[],rfl,fun _=>rfl,.bool true,Lu l _,fun _=>⟨List.Pairwise.nil,fun _ hm=>(nomatch hm)⟩⟩,h2,h3,h4⟩
section
variable {prog:Program} {w:World} {A:Around} {E:aF} {s:Shared} {K:Frag}
end
end w9
namespace L2
open PySem PySem.Spec PyProof.Rows
theorem Ec:∀{vs:List Value} {ns:List Int},IntsAre vs ns→Vals (ns.map V.int) vs
 | _,_,.nil=>.nil
 | _,_,.cons n t h=>.cons ⟨t,rfl⟩ (Ec h)
def Am(H:Hp):Prop:=∀b,H b=none∨∃o xs,H b=some (.aX o (.lst xs))
variable {K:aG} {k:Nat} {a:Addr} {x:Str}
theorem Lw{P:Program}{w:World}{mg mb:cN}{CX:fT}{fa:Addr}{fd:FuncData}{sp:Sp}{s₁:Shared}{vs:List Value}{ns:List Int}
  (KX:K.In s₁.heap) (Ed:s₁.heap.Ns mainGlobals mg) (hb:s₁.heap.Ns builtinsNs mb) (n4:∀x:Str,x ≠ "__name__"→mb x=bootBuiltins x) (Lx:s₁.heap.NoLimit) (hg:s₁.gens = #[])
  (ha:s₁.heap.get? a=some {cls:=.type "list",data:=.seq vs.toArray}) (hi:IntsAre vs ns) (hl:ns.length≤sizeLine) (hr:dX k callerA)
  (F:∀base:Heap,K.In base→base.Ns mainGlobals mg→bF P w K mg base CX k fa fd [x] sp) (Ly:∀(s:Shared) (u:Value),BindsTo s fd ⟨[u],[]⟩ [(x,u)])
  (j9:∀H:Hp,Am H→bj K H a (ns.map V.int)→sp [.ref a] H (fun v _=>v=.bl true) fun _ _ _=>False)
  (An:∀H e s',CX [] H s₁ (fun _ _ _=>False) e s'→False) :
  codeAny (model P w) callerA (.call (.ref fa) ⟨[.ref a],[]⟩) (fun r s'=>r=.ok (.ret (.bool true))∧OldK s₁.heap s'.heap∧s'.os=s₁.os∧AllBare s'.gens) s₁:=by
 have rv:=Ec hi;have Lz:=hi.length
 have core:∀H:Hp,Am H→bj K H a (ns.map V.int)→bY P w H s₁.heap→(∀b,H b≠none→b=a)→(H a≠none→K.lookup a=none)→
   codeAny (model P w) callerA (.call (.ref fa) ⟨[.ref a],[]⟩) (fun r s'=>r=.ok (.ret (.bool true))∧OldK s₁.heap s'.heap∧s'.os=s₁.os∧AllBare s'.gens) s₁:=by
  intro H hO hS ax hA hK;have Ee:∀{b:Addr} {o:Obj},s₁.heap.get? b=some o→H b=none→(kN s₁.heap H).get? b=some o:=fun e n=>Jn e n;have um:∀{b:Addr} {o:Obj} {es:Array DictEntry} {ep:Nat},s₁.heap.get? b=some o→o.data=.dict es ep→H b=none:=fun{b o es ep} e d=>by
   cases q:H b with
   | none=>rfl
   | some u=>
    have e':b=a:=hA b (by rw [q];simp)
    subst e';rw [ha] at e;cases e;have d':Data.seq vs.toArray _=Data.dict es ep:=d;cases d'
  have xc:∀{b:Addr} {m:cN},s₁.heap.Ns b m→(kN s₁.heap H).Ns b m:=fun{b m} ⟨o,es,ep,e,d,r⟩=>⟨o,es,ep,Ee e (um e d),d,r⟩;have Ef:K.In (kN s₁.heap H):=fun b o e=>Ee (KX b o e) (by
   cases q:H b with
   | none=>rfl
   | some u=>
    have e':b=a:=hA b (by rw [q];simp)
    subst e';rw [hK (by rw [q];simp)] at e;cases e)
  have hM:Mod K mg (kN s₁.heap H):=⟨Ef,xc Ed,⟨mb,xc hb,n4⟩,let ⟨mc,h1,h2⟩:=Lx;⟨mc,xc h1,h2⟩⟩
  have e0:wU P w K mg (kN s₁.heap H) callerA [] s₁ H:=⟨rfl,hM,fun b o e=>Jo e,Nat.le_of_eq (Jm _ _),trivial,fun b hb=>absurd (show b∈([]:List Addr) from hb) (by simp),ax,.of_eq hg⟩
  refine codeAny_mono ((F _ Ef (xc Ed)).run callerA [] s₁ H ⟨[.ref a],[]⟩ [.ref a] [.ref a] _ _ hr e0 (Ly s₁ (.ref a)) (.cons rfl .nil) (j9 H hO hS)) fun r s' h=>?_;cases r with
  | error e=>exact (An H e s' h).elim
  | ok fl=>
   cases fl with
   | next=>exact False.elim h
   | brk=>exact False.elim h
   | cont=>exact False.elim h
   | ret u=>
    obtain ⟨v,H',os,bare,un,LA,r',q⟩:=h;have q':v=.bl true:=q;subst q';obtain rfl:u=Value.bool true:=r';refine ⟨rfl,OldK.of_keep fun b o e=>?_,os,bare⟩;cases q:H b with
    | none=>exact un.keep b o e q (by intro z;exact absurd (show b∈([]:List Addr) from z) (by simp)) (by simp)
    | some u=>
     rcases hO b with z | ⟨ob,xs,z⟩;·rw [q] at z;cases z
     ·have z2:=un.eG b ob _ z
      obtain ⟨e1,_⟩:=ax b _ z;obtain ⟨e2,_⟩:=LA b _ z2;rw [e] at e1;cases e1;exact e2
 cases hk:K.lookup a with
 | some o=>have e:=KX a o hk;rw [ha] at e;cases e;refine core (fun _=>none) (fun _=>.inl rfl) (.inr ⟨_,vs.toArray,_,hk,rfl,rfl,rfl,by rw [bM,Lz];exact hl,by simpa using rv⟩) (fun b u z=>by have z':(none:Option HO)=some u:=z;cases z') (fun b z=>absurd rfl z) fun z=>absurd rfl z
 | none=>
  refine core (fun b=>if b=a then some (.aX {cls:=.type "list",data:=.seq vs.toArray} (.lst (ns.map V.int))) else none) (fun b=>?_) (.inl (.inr ⟨{cls:=.type "list",data:=.seq vs.toArray},ae rfl⟩)) (fun b u z=>?_) (fun b z=>?_) fun _=>hk
  ·by_cases hb:b=a
   ·exact .inr ⟨_,_,ae hb⟩
   ·exact .inl (aa hb)
  ·by_cases hb:b=a
   ·have z':=(ae hb).symm.trans z
    cases z';subst hb;exact ⟨ha,by rw [aE];exact hl,vs,_,rv,ha⟩
   ·have z':=(aa hb).symm.trans z
    cases z'
  ·by_cases hb:b=a
   ·exact hb
   ·exact absurd (aa hb) z
abbrev Eg {K:aG} {h:Heap} (_:K.In h):PySem.W.Frag:=K
variable {n:Nat}
theorem LB{l:PySem.W.OpenLaw}{q:Program}{loose:List Str}{XP:(Str→Option Value)→Heap→Prop}{YP:World→Heap→Prop}{d:DefRec}{K:Params→PySem.W.Frag}{CX:World→fT}{sp:World→Sp}
  (hn:l.most=some n) (LC:n≤sizeLine) (uy:d.params.defaults=[]) (hr:dX k callerA)
  (hY:∀(w:World) (h:Heap),YP w h→(K w.params).In h)
  (F:∀(w:World) (mg:cN) (fa:Addr) (h:Heap),(K w.params).In h→h.Ns mainGlobals mg→mg d.name=some (.ref fa)→
   ∃fd:FuncData,(∀(s:Shared) (u:Value),BindsTo s fd ⟨[u],[]⟩ [(x,u)]) ∧
    ∀base:Heap,(K w.params).In base→base.Ns mainGlobals mg→bF l.prog w (K w.params) mg base (CX w) k fa fd [x] (sp w))
  (j9:∀(w:World) (H:Hp) (a:Addr) (ns:List Int),ns.length≤n→Am H→bj (K w.params) H a (ns.map V.int)→sp w [.ref a] H (fun v _=>v=.bl true) fun _ _ _=>False)
  (An:∀(w:World) (H:Hp) (s:Shared) (e:Value) (s':Shared),CX w [] H s (fun _ _ _=>False) e s'→False) :
  PySem.W.WalkO q loose XP YP l.row.toRowW d [] (fun f vs=>PySem.call f vs):=by
 refine w9.Lv hn uy fun w s₀ s₁ mg mb fa o pm cd doc a vs ns G Y ho hd fA uz Al hints hlen hg=>?_;have KX:=hY w _ Y;obtain ⟨fd,hb,hF⟩:=F w mg fa _ KX G.T.g uz;exact Lw KX G.T.g G.T.b G.T.builtins G.T.nolimit hg Al hints (bf hlen LC) hr hF hb (fun H hO hS=>j9 w H a ns hlen hO hS) fun H e s'=>An w H s₁ e s'
def uA(s:Stmt):Arguments:=match s with
 | .FunctionDef _ a _ _ _ _ _ _ _ _=>a
 | _=>{posonlyargs:=[],args:=[],vararg:=none,kwonlyargs:=[],kw_defaults:=[],kwarg:=none,defaults:=[]}
def kZ(s:Stmt):List Stmt:=match s with
 | .FunctionDef _ _ b _ _ _ _ _ _ _=>b
 | _=>[]
def bo(s:Stmt):Scope:=match s with
 | .FunctionDef _ _ _ _ _ _ sc _ _ _=>sc
 | _=>{kind:=.function,names:=[],isGenerator:=false,isCoroutine:=false}
abbrev cH:fT:=fun _ _ _ _ _ _=>False
abbrev E0:XK:=fun _ _ _=>False
theorem b9{X:Cx}:Passes cH X E0:=fun _ _ _ _ _ _ _ h=>h.elim
structure gC (K:aG) (x qual:Str) (st:Stmt) (f:Addr) (fd:FuncData):Prop where
 ex:∃(oc:Value) (od:Option Addr) (kV doc pm:Value) (an:Option Addr) (bN ct:Value) (j8:Array (Option Value)),
  fd=PySem.W.fnOf x qual (uA st) (kZ st) (bo st) .none kV doc pm an bN ct∧K.lookup f=some ⟨oc,od,.func fd,j8⟩∧PySem.W.codeIn K bN qual=true
 kp:PySem.W.keepIn K (.ref f)=true
abbrev aY (K:aG) (x:Str) (st:Stmt) (f:Addr) (fd:FuncData):Prop:=gC K x x st f fd
section
variable {P:Program} {w:World} {K:aG} {mg:cN} {base:Heap}
variable {qual:Str} {st:Stmt} {f:Addr} {fd:FuncData} {N ps:List Str} {sp:Sp}
theorem gC.ok(F:gC K x qual st f fd)(S:bX N ps (bo st))(len:∀vs H Q E,sp vs H Q E→vs.length=ps.length)
  (kW:∀(bN:Value) (A:Around) (outer:List Env) (s:Shared) (H:Hp) (vs:List V) (Q:VK) (E:XK),dX k (A.deeper (envOfC qual (bo st) s.heap.objs.size f bN))→sp vs H Q E→
   ∃t,eJ (jm cH P w K mg base N qual (bo st) f bN A outer s H E).nN (kZ st) t∧t {nx:=fun _ H'=>Q .aP H',rt:=Q} (start N vs) H):bF P w K mg base cH (k+1) f fd ps sp:=by
 obtain ⟨oc,od,kV,doc,pm,an,bN,ct,j8,rfl,lk,fA⟩:=F.ex;refine DT lk fA S len fun A outer s H vs Q E hr j9=>?_;obtain ⟨t,h,q⟩:=kW bN A outer s H vs Q E hr j9;exact ⟨t,h.nN,q⟩
theorem gC.dN(F:gC K x qual st f fd)(S:bX N ps (bo st))
  (kW:∀(bN:Value) (A:Around) (outer:List Env) (s:Shared) (H:Hp) (vs:List V) (Q:VK) (E:XK),dX k (A.deeper (envOfC qual (bo st) s.heap.objs.size f bN))→sp vs H Q E→
   ∃t,eJ (jm cH P w K mg base N qual (bo st) f bN A outer s H E).nN (kZ st) t∧t {nx:=fun _ H'=>Q .aP H',rt:=Q} (start N vs) H)
  (len:∀vs H Q E,sp vs H Q E→vs.length=ps.length:=by intro vs H Q E h;repeat first | (obtain ⟨rfl,_⟩:=h;rfl) | (subst h;rfl) | obtain ⟨_,h⟩:=h):bF P w K mg base cH (k+1) f fd ps sp:=F.ok S len kW
theorem gC.binds(F:gC K x qual st f fd)
  (h:∀(kV doc pm:Value) (an:Option Addr) (bN ct:Value) (us:List Value),us.length=ps.length→bindArgs (PySem.W.fnOf x qual (uA st) (kZ st) (bo st) .none kV doc pm an bN ct) ⟨us,[]⟩=pure (ps.zip us)):Binds K fd ps []:=by
 obtain ⟨oc,od,kV,doc,pm,an,bN,ct,j8,rfl,lk,fA⟩:=F.ex;exact .all (h kV doc pm an bN ct)
theorem gC.cI(F:gC K x qual st f fd)
  (h:∀(kV doc pm:Value) (an:Option Addr) (bN ct:Value) (us:List Value),us.length=ps.length→bindArgs (PySem.W.fnOf x qual (uA st) (kZ st) (bo st) .none kV doc pm an bN ct) ⟨us,[]⟩=pure (ps.zip us):=by intro _ _ _ _ _ _ us hl;rcases us with _ | ⟨_,_ | ⟨_,_ | ⟨_,_ | ⟨_,_ | ⟨_,_ | ⟨_,_ | ⟨_,_⟩⟩⟩⟩⟩⟩⟩ <;> first | rfl | (simp at hl;done)):Binds K fd ps []:=F.binds h
theorem cJ{oc:Value}{od an:Option Addr}{j8:Array (Option Value)}{kV doc pm bN ct:Value}(l:K.lookup f=some ⟨oc,od,.func (PySem.W.fnOf x qual (uA st) (kZ st) (bo st) .none kV doc pm an bN ct),j8⟩)
  (c:PySem.W.codeIn K bN qual=true) (k:PySem.W.keepIn K (.ref f)=true):gC K x qual st f (PySem.W.fnOf x qual (uA st) (kZ st) (bo st) .none kV doc pm an bN ct):=⟨⟨oc,od,kV,doc,pm,an,bN,ct,j8,rfl,l,c⟩,k⟩
end
theorem cj(h:n≤1000):n<sizeLine:=gW h (by decide)
section
variable {X:Cx}
theorem pv(i:Nat){pos:Pos}(hN:X.N[i]?=some x:=by rfl)(hv:nI X.env.scope x:=by first | exact Or.inl rfl | exact Or.inr (Or.inl rfl) | exact Or.inr (Or.inr rfl))(hd:(x == ("__debug__":Str))=false:=by decide)
  (fA:(x == ("__classdict__":Str))=false:=by decide):PE X (.Name x pos) (Dg i):=Jx hN hv hd fA
end
variable {A B:Prop}
theorem jq(h:B):if false=true then A else B:=by rw [aa b7];exact h
theorem Ao(h:A):if true=true then A else B:=by rw [ae rfl];exact h
theorem dv{c:Prop}[Decidable c](h1:c→A)(h2:¬c→B):if c then A else B:=by
 by_cases h:c
 ·rw [ae h]
  exact h1 h
 ·rw [aa h]
  exact h2 h
def aj(H H':Hp):Prop:=∀b o,H b=some o→H' b=some o
theorem aj.refl(H:Hp):aj H H:=fun _ _ h=>h
variable {H:Hp}
theorem aj.trans{H1 H2:Hp}(a:aj H H1)(b:aj H1 H2):aj H H2:=fun c o h=>b c o (a c o h)
theorem aj.seq{H':Hp}{xs:List V}(e:aj H H')(h:bj K H a xs):bj K H' a xs:=by
 rcases h with (h | ⟨o,h⟩) | h;·exact .inl (.inl (e _ _ h))
 ·exact .inl (.inr ⟨o,e _ _ h⟩)
 ·exact .inr h
end L2
set_option maxHeartbeats 4000000
namespace L2
open PySem PySem.Spec PyProof.Rows
structure xf (P:Program) (w:World) (outer:List Env) (H:Hp) (s:Shared) (H':Hp) (ea C:Addr) (B:Heap) (t:Addr) (s':Shared):Prop where
 os:s'.os=s.os
 bare:AllBare s'.gens
 fl:Heap.FlyingW B outer ea (.ref C) (.ref t) s'.heap
 ax:bY P w H' B
 kb:∀b o,s.heap.get? b=some o→H b=none→b∉cm outer→B.get? b=some o
 tb:∀b o,s.heap.get? b=some o→b∉cm outer→∃o',B.get? b=some o'
 sl:∀b o,s.heap.get? b=some o→H b=none→b∈cm outer→∃l,s'.heap.get? b=some {o with slots:=l}
 U2:∀b∈cm outer,H b=none
 LD:∀b o,s.heap.get? b=some o→H b=none→H' b=none
 fv:∀b xs,H b=some (.tup xs)→H' b=some (.tup xs)
 eG:∀b o u,H b=some (.aX o u)→H' b=some (.aX o u)
 fz:∀b ps,H b=some (.kM ps)→∃more,H' b=some (.kM (ps++more))
def eM(P:Program)(w:World):fT:=fun outer H s E e s'=>∃ea C H' B t,e=.ref ea∧xf P w outer H s H' ea C B t s'∧E (.ref C) none H'
section
variable {P:Program} {w:World} {outer:List Env} {H H':Hp} {s s':Shared} {ea C t:Addr} {B:Heap}
def ExcAt(ea C:Addr)(h:Heap):Prop:=∃oe,h.get? ea=some oe∧oe.cls=.ref C∧PySem.W.notCls oe=true
def LF(ea C:Addr):HO:=.ext (ExcAt ea C)
end
section
variable {X:Cx} {pins:aO} {σ:St} {H H':Hp} {s s':Shared} {ea C t:Addr} {B:Heap}
structure qO (X:Cx) (E:XK):Prop where
 g9:X.stack=X.env::X.outer
 fr:X.env.frame=some X.env.locals
 ex:X.ex=[]
 xe:X.xe=fun e s'=>wpAny (model X.prog X.w) X.A (leaving X.env e) (fun _ fC=>eM X.prog X.w X.outer X.H₀ X.s₀ E e fC) (fun e' fC=>eM X.prog X.w X.outer X.H₀ X.s₀ E e' fC) s'
theorem xg{env:Env}{outer:List Env}{L:Addr}(h:env.frame=some L):cm (env::outer)=L::cm outer:=by unfold cm;rw [v9,h]
variable {E:XK}
theorem xf.leave(L:qO X E)(I:Inv X pins σ H s)(f:xf X.prog X.w X.stack H s H' ea C B t s'){h:Heap}(x:Heap.FlyingW B X.outer ea (.ref C) (.ref t) h)(up:s'.heap.UpToSlots h):xf X.prog X.w X.outer X.H₀ X.s₀ H' ea C B t {s' with heap:=h}:=by
 have nL:∀b o,X.s₀.heap.get? b=some o→b≠X.env.locals:=fun b o e=>bC (cY (aW e) I.ok.above);have ns:∀b o,X.s₀.heap.get? b=some o→b∉cm X.outer→b∉cm X.stack:=fun b o e nb z=>by
  rw [L.g9,xg L.fr] at z;rcases b6.mp z with z | z;·exact nL b o e z
  ·exact nb z
 have nx:∀b:Addr,b∉X.ex:=fun b z=>by rw [L.ex] at z;cases z
 refine ⟨f.os.trans I.os,f.bare,x,f.ax,fun b o e n nb=>?_,fun b o e nb=>?_,fun b o e n hb=>?_,I.ok.my,fun b o e n=>?_,fun b xs e=>f.fv b xs (I.base.fv b xs e),fun b o u e=>f.eG b o u (I.base.eG b o u e),fun b ps e=>?_⟩;·exact f.kb b o (I.base.keep b o e n nb (nx b)) (I.base.free b o e n (nx b)) (ns b o e nb)
 ·obtain ⟨o',e'⟩:=I.base.there b o e (nx b)
  exact f.tb b o' e' (ns b o e nb)
 ·obtain ⟨l,q⟩:=I.base.slot b o e n hb (nx b)
  have hs:b∈cm X.stack:=by rw [L.g9,xg L.fr];exact cV _ hb
  obtain ⟨l2,q2⟩:=f.sl b _ q (I.base.free b o e n (nx b)) hs;obtain ⟨_,o2,q3,nf⟩:=f.fl.2.2.1.mem hs;rw [q2] at q3;cases q3;obtain ⟨l3,q4⟩:=up b _ q2 nf;exact ⟨l3,q4⟩
 ·obtain ⟨o',e'⟩:=I.base.there b o e (nx b)
  exact f.LD b o' e' (I.base.free b o e n (nx b))
 ·obtain ⟨m1,e1⟩:=I.base.fz b ps e
  obtain ⟨m2,e2⟩:=f.fz b _ e1;exact ⟨m1++m2,by rw [e2,Array.append_assoc]⟩
theorem uB:Passes (eM X.prog X.w) X (fun _ _ _=>False):=fun pins σ H s e s' I h=>by obtain ⟨_,_,_,_,_,_,_,q⟩:=h;exact q.elim
theorem n5(L:qO X E):Passes (eM X.prog X.w) X E:=fun pins σ H s e s' I h=>by
 obtain ⟨ea,C,H',B,t,rfl,f,q⟩:=h;rw [L.xe];refine wpAny_leaves_onW (by rw [I.ok.frames,L.g9]) L.fr (by have z:=f.fl;rw [L.g9] at z;exact z) fun h' x up=>?_
 exact ⟨ea,C,H',B,t,rfl,f.leave L I x up,q⟩
end
variable {K:aG} {h:Heap}
theorem LG{C:Addr}{qP:List Value}{newId:String}(cO:K.In h)(hq:PySem.W.excIn K C qP newId=true) :
  ∃bm N nm qn bs hdct sn sub ab col dd k0 k1 k2 k3 k5 mN,h.get? C=some (excClassObj nm qn C N bs bm hdct sn sub ab col dd k0 k1 k2 k3 k5 newId)∧h.Ns N mN∧mN "__init__"=none∧OwnTail h qP bm∧PySem.W.mroIn K C=fun b=>some ((Value.ref C::bm).contains b):=by
 unfold PySem.W.excIn at hq
 split at hq
 ·rename_i qQ cls slt look
  split at hq
  ·rename_i CC rest a0 a1 a2 a3 nn a5 em es
   simp only [Bool.and_eq_true,beq_iff_eq,Bool.not_eq_true'] at hq;obtain ⟨⟨⟨⟨⟨e1,e2⟩,e3⟩,e4⟩,e5⟩,e6⟩:=hq;subst e1 e2;have LH:PySem.W.mroIn K CC=fun b=>some ((Value.ref CC::rest).contains b):=by
    funext b
    unfold PySem.W.mroIn PySem.W.clsIn;rw [look];simp [em]
   obtain ⟨c1,c2,c3,c4,c5,c6,c7,c8,c9,LI,VG⟩:=cls;dsimp only at em e3 e5 e6;subst em e3;have LJ:slt = #[a0,a1,a2,a3,some (.builtin nn),a5]:=by obtain ⟨ll⟩:=slt;simp only at es;rw [es]
   subst LJ;exact ⟨rest,c4,c1,c5,c2,c6,c7,c8,c9,LI,qQ,a0,a1,a2,a3,a5,_,cO _ _ look,.of_isNs (PySem.W.isNs_of_in cO e5),PySem.W.nsMap_none_of_in cO e5 e6,PySem.W.tail_of_in cO e4,LH⟩
  ·cases hq
 ·cases hq
section
variable {X:Cx} {E:XK} {x:Str} {C:Addr} {np eL pos:Pos} {e:Expr} {es:List Expr} {ta:TA} {B newId LK:String} {qP:List Value}
def LL(C:Addr)(E:XK)(ta:TA):TS:=fun _ σ H=>ta σ H fun vs H1=>vs.length≤sizeLine∧E (.ref C) none H1
theorem Eh(L:qO X E)(hc:X.calm=true)(FB:ExcBaseFacts B newId LK qP)(hq:PySem.W.excIn X.K C qP newId=true)(hg:Gl X x)(hm:X.mg x=some (.ref C))(ha:PA X (e::es) ta)
  (hs:starEach (e::es) X.env=(false,eval e X.env)::starEach es X.env:=by rfl) (hp:(backTo eL (starEach es X.env)).any (·.1)=false:=by rfl) (hd:(x == ("__debug__":Str))=false:=by decide) :
  PS X (.Raise (some (.Call (.Name x np) (e::es) [] eL)) none pos) (LL C E ta):=by
 intro pins s σ H D I h;obtain ⟨bm,N,nm,qn,bs,hdct,sn,sub,ab,col,dd,k0,k1,k2,k3,k5,mN,hC,hN,LM,T,_⟩:=LG I.ok.mod.cO hq
 refine wpAny_Raise_call_subT (C:=C) (nm:=nm) (q:=qn) (N:=N) (bs:=bs) (bm:=bm) (hdct:=hdct) (sn:=sn) (sub:=sub) (ab:=ab) (col:=col) (dd:=dd) (k0:=k0) (k1:=k1) (k2:=k2) (k3:=k3) (k5:=k5) FB (mN:=mN) (T.hasType FB.hasBase) (I.ok.hd hc)
  (by rw [hs];show (false || (backTo eL (starEach es X.env)).any (·.1))=false;rw [hp];rfl) LM (zV I hg hm ⟨rfl,?_⟩ hd)
 have h1:=ha eL pins s σ H _ I h;rw [hs] at h1 ⊢;refine Calls.evalArgs_plain (aJ h1 fun us s2 ⟨vs,H1,I1,r,hl,q⟩=>⟨rfl,by rw [←r.length];exact hl,I1.bk _ _ hC,hN.keeps I1.bk,T.keeps I1.bk,fun h' ea mk=>?_⟩)
 rw [L.xe];have nL:∀b o,X.s₀.heap.get? b=some o→b≠X.env.locals:=fun b o q=>bC (cY (aW q) I1.ok.above);have ns:∀b o,X.s₀.heap.get? b=some o→b∉cm X.outer→b∉cm X.stack:=fun b o q nb z=>by
  rw [L.g9,xg L.fr] at z;rcases b6.mp z with z | z;·exact nL b o q z
  ·exact nb z
 have nx:∀b:Addr,b∉X.ex:=fun b z=>by rw [L.ex] at z;cases z
 have ff:s2.heap.FunFrames (PySem.W.hideAll s2.heap (cm X.stack)) (X.env::X.outer):=by have z:=I1.stack;rw [←L.g9];exact PySem.W.funFrames_hide z fun env he a hf=>List.mem_filterMap.mpr ⟨env,he,hf⟩
 refine wpAny_leaves_madeW (base:=PySem.W.hideAll s2.heap (cm X.stack)) (h:=s2.heap) (by rw [I1.ok.frames,L.g9]) L.fr (fun b o q=>PySem.W.of_hideAll _ q) ff mk fun h2 t fl _ _ up=>?_
 refine ⟨ea,C,H1,_,t,rfl,⟨I1.os,I1.bare,fl,fun a o e1=>?_,fun b o e1 n nb=>?_,fun b o e1 nb=>?_,fun b o e1 n hb=>?_,I1.ok.my,fun b o e1 n=>?_,I1.base.fv,I1.base.eG,I1.base.fz⟩,q⟩
 ·refine (I1.ax a o e1).g8 (fun b u hb e2=>vZ _ e2 fun z=>?_) (fun _ z=>z) fun _ _ z=>z
  have n0:=I1.ua b z;rcases hb with hb | hb
  ·subst hb
   rw [e1] at n0;cases n0
  ·rw [hb] at n0
   cases n0
 ·exact vZ _ (I1.base.keep b o e1 n nb (nx b)) (ns b o e1 nb)
 ·obtain ⟨o',e2⟩:=I1.base.there b o e1 (nx b)
  exact ⟨o',vZ _ e2 (ns b o e1 nb)⟩
 ·obtain ⟨l,e2⟩:=I1.base.slot b o e1 n hb (nx b)
  have qJ:b∈cm X.stack:=by rw [L.g9,xg L.fr];exact cV _ hb
  obtain ⟨_,o2,e3,nf⟩:=I1.stack.mem qJ;rw [e2] at e3;cases e3;obtain ⟨l2,e4⟩:=up b _ (mk.keeps _ _ e2) nf;exact ⟨l2,e4⟩
 ·obtain ⟨o',e2⟩:=I1.base.there b o e1 (nx b)
  exact I1.base.free b o e1 n (nx b)
end
section
variable {X:Cx} {k:Nat} {f C:Addr} {fd:FuncData} {ps:List Str} {sp:Sp} {j7:List V} {ds:List Value} {x m:Str} {p pos apos:Pos} {e o:Expr} {es:List Expr} {ta:TE} {t:TA}
variable {te:TX} {i:Nat} {pos':Pos}
end
section
variable {X:Cx} {pins:aO} {σ:St} {H:Hp} {s:Shared} {ea:Addr}
end
section
variable {M:Model} {A:Around} {E:aF} {h:Heap} {g:Array GenState} {d:Drawn} {t:Nat} {os:OsState} {e:Addr} {oe:Obj} {Q:Bool→Shared→Prop}
variable {nm q VH q':Str} {C N D N':Addr} {bs bm VI VJ:List Value} {hdct VL:Bool} {sn VM:List Str} {sub Ei:List Value} {ab VN:Bool} {col VO:Option Bool} {dd mI:Option Addr} {k0 k1 k2 k3 k5 j0 j1 j2 j3 j5:Option Value} {newId VP:String}
end
section
variable {X:Cx} {body:List Stmt} {b₀:Stmt} {VQ:List Stmt} {np VR pos:Pos} {x n:Str} {D:Addr} {tb:VS} {ts:TS} {qP:List Value} {newId:String} {i:Nat}
end
section
variable {P:Program} {w:World} {K:aG} {mg:cN} {base:Heap}
variable {x qual:Str} {st:Stmt} {f:Addr} {fd:FuncData} {N ps:List Str} {k:Nat} {sp:Sp}
theorem gC.LN(F:gC K x qual st f fd)(S:bX N ps (bo st))(len:∀vs H Q E,sp vs H Q E→vs.length=ps.length)
  (kW:∀(bN:Value) (A:Around) (outer:List Env) (s:Shared) (H:Hp) (vs:List V) (Q:VK) (E:XK),dX k (A.deeper (envOfC qual (bo st) s.heap.objs.size f bN))→sp vs H Q E→
   qO (jm (eM P w) P w K mg base N qual (bo st) f bN A outer s H E) E→
   ∃t,eJ (jm (eM P w) P w K mg base N qual (bo st) f bN A outer s H E) (kZ st) t∧t {nx:=fun _ H'=>Q .aP H',rt:=Q} (start N vs) H):bF P w K mg base (eM P w) (k+1) f fd ps sp:=by
 obtain ⟨oc,od,kV,doc,pm,an,bN,ct,j8,rfl,lk,fA⟩:=F.ex;exact DT lk fA S len fun A outer s H vs Q E hr j9=>kW bN A outer s H vs Q E hr j9 ⟨rfl,rfl,rfl,rfl⟩
theorem gC.eY(F:gC K x qual st f fd)(S:bX N ps (bo st))
  (kW:∀(bN:Value) (A:Around) (outer:List Env) (s:Shared) (H:Hp) (vs:List V) (Q:VK) (E:XK),dX k (A.deeper (envOfC qual (bo st) s.heap.objs.size f bN))→sp vs H Q E→
   qO (jm (eM P w) P w K mg base N qual (bo st) f bN A outer s H E) E→
   ∃t,eJ (jm (eM P w) P w K mg base N qual (bo st) f bN A outer s H E) (kZ st) t∧t {nx:=fun _ H'=>Q .aP H',rt:=Q} (start N vs) H)
  (len:∀vs H Q E,sp vs H Q E→vs.length=ps.length:=by intro vs H Q E h;repeat first | (obtain ⟨rfl,_⟩:=h;rfl) | (subst h;rfl) | obtain ⟨_,h⟩:=h):bF P w K mg base (eM P w) (k+1) f fd ps sp:=F.LN S len kW
end
structure n8 (K:aG) (C:Addr):Prop where
 ci:PySem.W.hasDictIn K C=true
 ga:PySem.W.findIn K (.ref C) "__getattribute__"=some (some (.builtin "BaseException.__getattribute__"))
 gn:PySem.W.findIn K (.ref C) "__getattr__"=some none
 ca:PySem.W.findIn K (.ref C) "__class__"=some (some (.builtin "object.__class__"))
 mo:PySem.W.mroIn K C (.type "object")=some true
 mb:PySem.W.mroIn K C (.type "BaseException")=some true
section
variable {prog:Program} {w:World} {A:Around} {E:aF} {h:Heap} {g:Array GenState} {d:Drawn} {t:Nat} {os:OsState} {K:aG} {a C:Addr} {o:Obj}
theorem LO{R:Result→Shared→Prop}(cO:K.In h)(c:n8 K C)(hx:h.get? a=some o)(hc:o.cls=.ref C)(hq:R (.ok (.ret (.ref C))) ⟨h,g,d,t,os⟩) :
  codeAny (model prog w) A (.call (.builtin "getset_descriptor.__get__") ⟨[.builtin "object.__class__",.ref a,.ref C],[]⟩) R ⟨h,g,d,t,os⟩:=by
 have Ej:(⟨h,g,d,t,os⟩:Shared).TypeIs (.builtin "object.__class__") "getset_descriptor":=zE;have L1:=PySem.W.looks_mroIn (M:=model prog w) cO c.mo;have ow:=F.owner_object_class;refine codeAny_call_builtin F.slot_gs_get.plain F.entry_gs_get (F.slot_gs_get.check _ _ _ _ _ _ _ _ Ej (F.args_gs_get _ _ _) ?_)
 repeat (any_goals (first | assumption | (with_reducible refine tO hx ?_;rw [hc]) | (rw [ow];with_reducible refine L1.at ?_) | wp_step))
 refine ⟨Code.quiet_builtin _ (by decide +kernel),qc F.entry_object_class ?_⟩
 repeat (any_goals (first | assumption | (with_reducible refine tO hx ?_;rw [hc]) | wp_step))
variable {tk:Tok}
theorem LP{Q:Fin→Shared→Prop}(cO:K.In h)(c:n8 K C)(hx:h.get? a=some o)(hc:o.cls=.ref C)(hq:Q (.done (.ret (.ref C))) ⟨h,g,d,t,os⟩) :
  wpAny (model prog w) A (Builtin.«object.__getattribute__» ⟨[.ref a,.str "__class__" tk],[]⟩) Q E ⟨h,g,d,t,os⟩:=by
 have Ej:(⟨h,g,d,t,os⟩:Shared).TypeIs (.builtin "object.__class__") "getset_descriptor":=zE;have L1:=PySem.W.looks_findIn (M:=model prog w) cO c.ca;have f5:=zE;have f6:=F.slot_gs_get.lookup;have f7:=F.slot_gs_set.lookup
 repeat (any_goals (first | assumption | (with_reducible refine tO hx ?_;rw [hc]) | with_reducible refine L1.at ?_ | wp_step))
 refine LO cO c hx hc ?_
 repeat (any_goals (first | assumption | wp_step))
theorem LQ{M:Model}{nv:Value}{Q:Unit→Shared→Prop}(cO:K.In h)(c:n8 K C)(hx:h.get? a=some o)(hc:o.cls=.ref C)(hq:Q () ⟨h,g,d,t,os⟩) :
  wpAny M A (checkBuiltinCall "BaseException.__getattribute__" ⟨[.ref a,nv],[]⟩) Q E ⟨h,g,d,t,os⟩:=by
 have hk:builtinKind "BaseException.__getattribute__"=some .slot:=by decide +kernel
 have hs:splitId "BaseException.__getattribute__"=some ("BaseException","__getattribute__"):=by decide +kernel
 have L1:=PySem.W.looks_mroIn (M:=M) cO c.mb;have ha:=F.args_bexc_ga (.ref a) nv;simp only [checkBuiltinCall,hk,hs];refine ao ?_;unfold isInstance
 repeat (first | (with_reducible refine tO hx ?_;rw [hc]) | with_reducible refine L1.at ?_ | wp_step)
 exact hq
theorem LR{fill expr:Bool}{Q:aF}(cO:K.In h)(c:n8 K C)(hx:h.get? a=some o)(hc:o.cls=.ref C)(hq:Q (.ref C) ⟨h,g,d,t,os⟩) :
  wpAny (model prog w) A (getAttrBy (.ref a) (.str "__class__" tk) fill expr) Q E ⟨h,g,d,t,os⟩:=by
 have f3:=F.attrBase_ValueError.ga.bind (.ref a);have z0:(expr && onTheHeap (Value.builtin "BaseException.__getattribute__"))=false:=by cases expr <;> rfl
 have z2:(Value.builtin "BaseException.__getattribute__" == Value.builtin "object.__getattribute__")=false:=by decide +kernel
 have z1:(onTheHeap (Value.ref C) && Value.builtin "BaseException.__getattribute__" == Value.builtin "object.__getattribute__")=false:=by rw [z2];rfl
 have L1:=PySem.W.looks_findIn (M:=model prog w) cO c.ga;have L2:=PySem.W.looks_findIn (M:=model prog w) cO c.gn
 repeat (any_goals (first | assumption | (with_reducible refine tO hx ?_;rw [hc]) | with_reducible refine L1.at ?_ | with_reducible refine L2.at ?_ | wp_step))
 refine codeAny_call_builtin F.attrBase_ValueError.ga.plain F.entry_bexc_ga (LQ cO c hx hc (LP cO c hx hc ?_))
 repeat (any_goals (first | assumption | wp_step))
theorem LS{Q:Option Value→Shared→Prop}(cO:K.In h)(c:n8 K C)(hx:h.get? a=some o)(hc:o.cls=.ref C)(hq:Q (some (.ref C)) ⟨h,g,d,t+1,os⟩) :
  wpAny (model prog w) A (getAttr? (.ref a) "__class__") Q E ⟨h,g,d,t,os⟩:=by
 unfold getAttr? getAttrBy?
 repeat (any_goals (first | assumption | with_reducible apply LR cO c hx hc | wp_step))
theorem LU(c:n8 K C):PySem.W.KitX K (.ref a) (.ref C) (ExcAt a C) where
 ty:=fun M h _ k=>by obtain ⟨oe,e1,e2,_⟩:=k;exact e2▸(PySem.W.Looks.ld e1).andThen .now
 it:=fun M h cO _=>by
  obtain ⟨cd,hc,_⟩:=PySem.W.any_some c.ci;unfold PySem.W.clsIn at hc
  split at hc
  ·rename_i look
   intro A' Q' E' s' k q;unfold isType loadHead;exact ao (wpAny_loadPart (k _ _ (cO _ _ look)) (aI q))
  ·cases hc
 ne:=fun h tp dd ai n sl cO LV=>by
  obtain ⟨cd,hc,_⟩:=PySem.W.any_some c.ci;refine Bool.eq_false_iff.mpr fun q=>?_;have e:C=tp:=Value.ref.inj (beq_iff_eq.mp q);subst e;unfold PySem.W.clsIn at hc
  split at hc
  ·rename_i look
   have z:=(cO _ _ look).symm.trans LV;cases z
  ·cases hc
 ca:=fun{prog w A E Q s} cO k z=>by obtain ⟨oe,e1,e2,_⟩:=k;obtain ⟨h,g,d,t,os⟩:=s;exact LS cO c e1 e2 z
end
def xh(a:Addr)(h:Heap):Prop:=∃o ep,h.get? a=some o∧o.ExactDict∧o.data=.dict #[] ep∧(a == sysModules)=false
theorem xh.Ap{a:Addr}(e:xh a h):PySem.W.KitAt a "dict" h:=by obtain ⟨o,_,e,c,_⟩:=e;exact ⟨o,e,c.1⟩
def Ek(a:Addr):HO:=.ext (xh a)
inductive uC (K:aG) (H:Hp):V→Value→Prop where
 | of {x:V} {t:Value} (h:hU K H x t):uC K H x t
 | exc {a C:Addr} (e:H a=some (LF a C)) (c:n8 K C):uC K H (.ref a) (.ref C)
 | qQ {a:Addr} (e:H a=some (Ek a)):uC K H (.ref a) (.type "dict")
def El:V→Value
 | .ty n=>.type n
 | .ref a=>.ref a
 | _=>.none
def LW:V→Bool
 | .ty _=>true
 | .ref _=>true
 | _=>false
def LX(K:aG):List V→Hp→VK→Prop:=fun xs H Q=>∃x c t b,xs=[x,c]∧LW c=true∧uC K H x t∧PySem.W.kitOne K t (El c)=some b∧Q (.bl b) H
theorem uD{X:Cx}(hK:X.K=K:=by rfl):en X (.builtin "isinstance") (LX K):=by
 intro pins s σ H xs us Q I r h;subst hK;obtain ⟨x,c,t,b,rfl,hc,ty,e,q⟩:=h;obtain ⟨u,cv,rfl,rx,rc⟩:=vals2 r;have ec:cv=El c:=by
  cases c with
  | ty n=>exact rc
  | ref a=>exact rc
  | _=>cases hc
 subst ec;cases ty with
 | of ty=>exact Kb I rx ty e fun tk=>⟨.bl b,H,I.tok tk,rfl,q⟩
 | @qQ a ea=>cases rx;obtain ⟨k,_,_⟩:=(show bI X.prog X.w H s.heap a (.ext (xh a)) from I.ax a _ ea);exact gR PySem.W.kitx_dict I.ei k.Ap e (fun z=>nomatch z) fun tk=>⟨.bl b,H,I.tok tk,rfl,q⟩
 | @exc a C ea cc=>cases rx;obtain ⟨k,_,_⟩:=(show bI X.prog X.w H s.heap a (.ext (ExcAt a C)) from I.ax a _ ea);exact gR (LU cc) I.ei k e (fun z=>nomatch z) fun tk=>⟨.bl b,H,I.tok tk,rfl,q⟩
theorem boot_isinstance:bootBuiltins "isinstance"=some (.builtin "isinstance"):=by decide +kernel
theorem boot_min:bootBuiltins "min"=some (.builtin "min"):=by decide +kernel
theorem boot_max:bootBuiltins "max"=some (.builtin "max"):=by decide +kernel
theorem boot_int:bootBuiltins "int"=some (.type "int"):=by decide +kernel
theorem boot_bool:bootBuiltins "bool"=some (.type "bool"):=by decide +kernel
theorem boot_tuple:bootBuiltins "tuple"=some (.type "tuple"):=by decide +kernel
theorem boot_list:bootBuiltins "list"=some (.type "list"):=by decide +kernel
end L2
namespace My
open PySem L2
end My
namespace L2
open PySem PySem.Spec PyProof.Rows
abbrev Cx.bA (X:Cx) (N:List Str) (scope:Scope) (cl:List (Str×Addr)) (s₃:Shared) (H₃:Hp) (fp:List Addr):Cx:=
 {X with N:=N,s₀:=s₃,H₀:=H₃,env:=compEnvC scope cl s₃.heap.objs.size X.env,outer:=X.stack,stack:=X.stack,ex:=fp,fn:=fun _=>false,pn:=[],xe:=fun _ _=>False}
inductive mJ (X:Cx):List Expr→TT→Prop where
 | nil:mJ X [] (fun _ H Q=>Q true H)
 | one {c:Expr} {t:TT} (h:PT X c t):mJ X [c] t
def ie(wi:TI)(ρ:St→St)(tt:TT)(te:TE):TE:=fun σ H Q=>wi σ H fun J H1=>∀D,H1 D=none→∃W:Nat→Nat→List V→Hp→Prop,(∃m,W 0 m [] (upd H1 D (.lst []))) ∧
 ∀i m ys Hc,W i m ys Hc→Hc D=some (.lst ys)∧((J.stop i Hc∧Q (.ref D) Hc)∨(J.go i Hc∧∀x H',J.du i Hc x H'→tt (some x::ρ σ) H' fun b H2=>
  if b=true then te (some x::ρ σ) H2 fun y H3=>H3 D=some (.lst ys)∧ys.length<sizeLine∧∃m',m'<m∧W (i+1) m' (ys++[y]) (upd H3 D (.lst (ys++[y]))) else ∃m',m'<m∧W (i+1) m' ys H2))
section
variable {X:Cx} {N:List Str} {scope:Scope} {cl:List (Str×Addr)} {x:Str} {px pos:Pos} {iter elt:Expr} {ifs:List Expr} {wi:TI} {ρ:St→St} {tt:TT} {te:TE}
structure Aq (X:Cx) (N:List Str) (scope:Scope) (cl:List (Str×Addr)) (x:Str) (ρ:St→St):Prop where
 xi:closureFor scope X.env=pure cl
 kind:scope.kind=.function
 xj:∀y∈scope.names,y.2≠.cell
 names:∀y∈scope.names,y.2=.local→scope.names.lookup y.1=some .local
 sub:∀p∈cl,X.env.cells.lookup p.1=some p.2
 has:∀y,((relabel scope X.env).names.lookup y=some .cell∨(relabel scope X.env).names.lookup y=some .free)→∃c,cl.lookup y=some c
 n0:N[0]?=some x
 nd:N.Nodup
 hx:scope.names.lookup x=some .local
 xk:∀(σ:St) (j:Nat) (v:V),(ρ σ)[j]?=some (some v)→∃(i:Nat) (y:Str),N[j+1]?=some y∧X.N[i]?=some y∧σ[i]?=some (some v)∧nI X.env.scope y∧(X.env.kindOf y=some .cell∨X.env.kindOf y=some .free)∧((relabel scope X.env).names.lookup y=some .cell∨(relabel scope X.env).names.lookup y=some .free)
 len:∀σ:St,σ.length=X.N.length→(ρ σ).length+1=N.length
theorem Em{names:List (Str×NameKind)}(h:(names.all fun q=>(q.2 != .cell && q.2 != .free) || (cl.lookup q.1).isSome)=true) :
  ∀y,(names.lookup y=some .cell∨names.lookup y=some .free)→∃c,cl.lookup y=some c:=fun y hy=>by
 have key:∀k:NameKind,(k != .cell && k != .free)=false→names.lookup y=some k→∃c,cl.lookup y=some c:=fun k hk e=>by have z:=qe.mp h (y,k) (kF e);rw [hk,Bool.false_or] at z;exact Option.isSome_iff_exists.mp z
 rcases hy with e | e;·exact key .cell rfl e
 ·exact key .free rfl e
theorem join_some{o:Option (Option V)}{v:V}(h:some o.join=some (some v)):o=some (some v):=by
 cases o with
 | none=>cases h
 | some o=>cases h;rfl
def xl(X:Cx)(sc:Scope):List Str→List Nat→Prop
 | n::ns,i::is=>(X.N[i]?=some n∧nI X.env.scope n∧(X.env.kindOf n=some .cell∨X.env.kindOf n=some .free)∧((relabel sc X.env).names.lookup n=some .cell∨(relabel sc X.env).names.lookup n=some .free))∧xl X sc ns is
 | _,[]=>True
 | [],_::_=>False
theorem Ar{X:Cx}{sc:Scope}:∀{ns:List Str} {is:List Nat},xl X sc ns is→∀(σ:St) (j:Nat) (v:V),(is.map fun i=>σ[i]?.join)[j]?=some (some v)→∃(i:Nat) (n:Str),ns[j]?=some n∧X.N[i]?=some n∧σ[i]?=some (some v)∧nI X.env.scope n∧(X.env.kindOf n=some .cell∨X.env.kindOf n=some .free)∧((relabel sc X.env).names.lookup n=some .cell∨(relabel sc X.env).names.lookup n=some .free)
 | _,[],_,_,_,_,e=>by cases e
 | [],_::_,h,_,_,_,_=>h.elim
 | n::_,i::_,h,_,0,_,e=>⟨i,n,rfl,h.1.1,join_some e,h.1.2⟩
 | _::_,_::_,h,σ,j+1,v,e=>Ar h.2 σ j v e
theorem fF(is:List Nat)(h1:closureFor scope X.env=pure cl)(h:xl X scope N.tail is:=by repeat' first | exact True.intro | refine And.intro ⟨rfl,Or.inr (Or.inl rfl),.inl rfl,.inl rfl⟩ ?_)(h2:scope.kind=.function:=by rfl)(h3:∀y∈scope.names,y.2≠.cell:=by decide +kernel)(h4:∀y∈scope.names,y.2=.local→scope.names.lookup y.1=some .local:=by decide +kernel)(h5:∀p∈cl,X.env.cells.lookup p.1=some p.2:=by repeat' first | exact List.forall_mem_nil _ | refine List.forall_mem_cons.mpr ⟨rfl,?_⟩)(h6:((relabel scope X.env).names.all fun q=>(q.2 != .cell && q.2 != .free) || (cl.lookup q.1).isSome)=true:=by rfl)(h7:N[0]?=some x:=by rfl)(h8:N.Nodup:=by decide +kernel)(h9:scope.names.lookup x=some .local:=by rfl)(hr:∀σ:St,ρ σ=is.map fun i=>σ[i]?.join:=by exact fun _=>rfl)(hl:is.length+1=N.length:=by rfl):Aq X N scope cl x ρ:=
 ⟨h1,h2,h3,h4,h5,Em h6,h7,h8,h9,fun σ j v e=>by rw [hr] at e;rw [←List.getElem?_tail];exact Ar h σ j v e,fun σ _=>by rw [hr,aE];exact hl⟩
theorem iR(B:Aq X N scope cl x ρ)(hc:X.calm=true)(hi:PI X (.Name x px) iter wi)(ht:∀s₃ H₃ fp,mJ (X.bA N scope cl s₃ H₃ fp) ifs tt)(he:∀s₃ H₃ fp,PE (X.bA N scope cl s₃ H₃ fp) elt te)
  (hs:∀x,foldedSetIterable iter X.env x=pure x:=by intro _;rfl):PE X (.ListComp elt [⟨.Name x px,iter,ifs,0⟩] scope pos) (ie wi ρ tt te):=by
 intro pins s σ H Q I h
 rw [eval_ListComp]
 refine zF (use:=none) rfl hs B.xi B.kind B.names (aJ (hi pins s σ H _ I h) fun v s1 h1=>aJ h1 fun uf s2 h2=>?_)
 obtain ⟨it,fp,tn,J,H2,rfl,I2,T,hG,f2,q2⟩:=h2
 have nD:H2 s2.heap.objs.size=none:=I2.ax.fresh (ay _)
 obtain ⟨W,⟨m0,w0⟩,turn⟩:=q2 _ nD
 refine l_ (wpAny_newFunctionEnv B.xj (by intro y hy;simp at hy) (fun h₁ gD gE=>?_) B.kind)
 dsimp only at gD gE ⊢
 generalize hD:s2.heap.objs.size=D at nD w0 turn gD gE ⊢
 generalize jr:({s2 with heap:=s2.heap.push {cls:=.type "list",dict:=none,data:=.seq ([]:List Value).toArray}}:Shared)=s3
 have I3:Inv X pins σ (upd H2 D (.lst [])) s3:=by
  subst hD jr
  exact I2.laid (t':=s2.toks) (fun b u e=>bQ _ e) (ay _) ⟨bH _,[],_,.nil,cM _ rfl⟩
 have e3:s3.heap=s2.heap.push {cls:=.type "list",dict:=none,data:=.seq ([]:List Value).toArray}:=by rw [←jr]
 have gF:∀b o,s2.heap.get? b=some o→s3.heap.get? b=some o:=fun b o e=>by rw [e3];exact bQ _ e
 rw [←e3] at gD gE ⊢
 have below:∀b o,s3.heap.get? b=some o→b≠s3.heap.objs.size:=fun b o e=>bC (aW e)
 have d7:∀b o,s3.heap.get? b=some o→h₁.get? b=some o:=fun b o e=>gE.extBut b o (below b o e) (bQ _ e)
 have jt:∀b∈fp,∃o,s2.heap.get? b=some o∧∀v,o.data≠.cell v:=T.obj _ _ hG
 have uE:∀b∈fp,b≠D:=fun b hb z=>by
  obtain ⟨o,e,_⟩:=jt b hb
  rw [z,←hD] at e
  exact absurd (aW e) (dB _)
 have dE:∀y c,cl.lookup y=some c→X.env.cells.lookup y=some c:=fun y c e=>B.sub (y,c) (kF e)
 have uF:=I3.ua
 have eY:(X.bA N scope cl s3 (upd H2 D (.lst [])) fp).Ok:=by
  refine ⟨I.ok.mod,B.kind,I.ok.glob,I.ok.blt,ay _,fun a b c e1 e2=>I.ok.inj a b c (dE a c e1) (dE b c e2),fun y hy=>B.has y hy,(fun _ _ z _=>absurd z b7),(fun _=>I.ok.hd hc),I.ok.frames,.inl rfl,fun b hb=>⟨?_,fun y c e z=>?_⟩,fun b o e=>?_,bf I.ok.iJ I3.sz,fun b o e hb=>?_,fun b hb z=>?_,I3.stack,uF⟩
  ·obtain ⟨o,e,_⟩:=jt b hb
   exact below b o (gF b o e)
  ·exact (f2 b hb).2.2.2.2.1 y c (dE y c e) z
  ·exact I3.bs b o e
  ·rcases (f2 b hb).2.2.2.1 with z | z
   ·exact I.ok.nJ b o e z
   ·exact absurd (cY (aW e) (bf I.ok.iJ z)) (dB _)
  ·rcases b6.mp (I3.t_ b z) with z | z
   ·exact (f2 b hb).2.1 z
   ·exact (f2 b hb).2.2.1 z
 have IB:∀tk:Nat,Inv (X.bA N scope cl s3 (upd H2 D (.lst [])) fp) [] (none::ρ σ) (upd H2 D (.lst [])) {s3 with heap:=h₁,toks:=tk}:=fun tk=>by
  refine ⟨eY,rfl,I3.bare,Un.kept d7,⟨_,gD,fun j y v e1 e2 e3=>?_⟩,fun y c e=>?_,?_,fun y c e=>I3.g_ y c (dE y c e),(fun p hp=>nomatch hp),I3.ax.kept d7,?_⟩
  ·cases j with
   | zero=>cases e2
   | succ j=>
    obtain ⟨i,y',a1,a2,a3,a4,a5,a6⟩:=B.xk σ j v e2
    have n_:N[j+1]?=some y:=e1
    rw [n_] at a1
    cases a1
    obtain ⟨m,hn,hl⟩:=I3.loc
    obtain ⟨u,r,l⟩:=hl i y v a2 a3 a4
    refine ⟨u,r,.inr ⟨a6,?_⟩⟩
    obtain ⟨c,ec⟩:=B.has y a6
    rcases l with ⟨k,_⟩ | ⟨_,c',mK,z⟩
    ·rcases a5 with q | q <;> (rw [k] at q;cases q)
    ·have:=dE y c ec
     rw [this] at mK
     cases mK
     obtain ⟨o,ho,hd⟩:=z
     exact ⟨c,ec,o,d7 _ _ ho,hd⟩
  ·obtain ⟨v,o,ho,hd⟩:=I3.cell y c (dE y c e)
   exact ⟨v,o,d7 _ _ ho,hd⟩
  ·exact I3.ax.fresh (ay _)
  ·show (none::ρ σ).length=N.length
   rw [dS]
   exact B.len σ I.len
 have fin:∀{σ':St} {H':Hp} {s':Shared},Inv (X.bA N scope cl s3 (upd H2 D (.lst [])) fp) [] σ' H' s'→Q (.ref D) H'→compPost (model X.prog X.w) X.A X.xe none (EP X pins σ Q) (.ref D) s3.heap.objs.size (.ok .next) s':=fun{σ' H' s'} J q=>by
  obtain ⟨m,hn,_⟩:=J.loc
  refine ⟨m,hn,fun h' gG=>⟨.ref D,H',?_,rfl,q⟩⟩
  have old:∀b o,s3.heap.get? b=some o→b≠s3.heap.objs.size:=below
  have u1:Un (cm X.stack) fp (upd H2 D (.lst [])) H' s3.heap h':=by
   refine ⟨fun b o e n hb hx=>?_,fun b o e n hb hx=>?_,J.base.free,fun b o e hx=>?_,J.base.fv,J.base.eG,J.base.fz⟩
   ·exact (gG.2 b (old b o e)).trans (J.base.keep b o e n hb hx)
   ·obtain ⟨sl,z⟩:=J.base.slot b o e n hb hx
    exact ⟨sl,(gG.2 b (old b o e)).trans z⟩
   ·obtain ⟨o',z⟩:=J.base.there b o e hx
    exact ⟨o',(gG.2 b (old b o e)).trans z⟩
  have uG:bY X.prog X.w H' h':=fun b u e=>by
   refine (J.ax b u e).g8 (fun c v hc z=>(gG.2 c fun y=>?_).trans z) (fun _ z=>z) fun _ _ z=>z
   have fr:=J.free
   have y':c=s3.heap.objs.size:=y
   rcases hc with hc | hc
   ·rw [←hc,y'] at e
    exact absurd (fr.symm.trans e) (by simp)
   ·rw [y'] at hc
    exact absurd (fr.symm.trans hc) (by simp)
  refine I3.qD (s':={s' with heap:=h'}) (ch:=fp) (J.os) u1 uG J.bare fun b hb=>?_
  obtain ⟨g0,g1,g2,g3,g4,g5⟩:=f2 b hb
  exact ⟨g3,g1,g4,g5⟩
 have fR:∀{H':Hp},(∀b∈fp,H' b=none)→∀b∈fp,kT (X.bA N scope cl s3 (upd H2 D (.lst [])) fp) [] H' b:=fun hn b hb=>by
  refine ⟨hn b hb,?_,?_,.inl hb,fun y c e z=>(f2 b hb).2.2.2.2.1 y c (dE y c e) z,fun p hp=>nomatch hp⟩
  ·obtain ⟨o,e,_⟩:=jt b hb
   exact below b o (gF b o e)
  ·exact eY.nK b hb
 have loop:∀tk:Nat,codeAny (model X.prog X.w) X.A (.compLoop (.ListComp elt [⟨.Name x px,iter,ifs,0⟩] scope pos) 0 (.ref it) (.ref D) (compEnvC scope cl s3.heap.objs.size X.env))
   (compPost (model X.prog X.w) X.A X.xe none (EP X pins σ Q) (.ref D) s3.heap.objs.size) {s3 with heap:=h₁,toks:=tk}:=fun tk=>by
  refine codeAny_compLoop_tests (fun n s'=>∃i ys o H',Inv (X.bA N scope cl s3 (upd H2 D (.lst [])) fp) [] (o::ρ σ) H' s'∧tn i s'.heap∧(∀b∈fp,H' b=none)∧W i n ys H') ?_ m0
   ⟨0,[],none,_,IB tk,T.keep _ _ _ hG fun b hb o e=>d7 _ _ (gF _ _ e),fun b hb=>by rw [aB (uE b hb)];exact (f2 b hb).1,w0⟩
  rintro n s4 ⟨i,ys,o,H4,I4,mL,mM,w4⟩
  obtain ⟨En,uH⟩:=turn i n ys H4 w4
  rcases uH with ⟨stop,qn⟩ | ⟨go,step⟩
  ·refine bG (T.done (X.bA N scope cl s3 (upd H2 D (.lst [])) fp) rfl rfl rfl hc i [] s4 _ H4 (fun _ _=>False) I4 (fR mM) mL stop) (fun r s5 ⟨hr,I5⟩=>?_) fun _ _ z=>z.elim
   subst hr
   exact fin I5 qn
  ·refine bG (T.item (X.bA N scope cl s3 (upd H2 D (.lst [])) fp) rfl rfl rfl hc i [] s4 _ H4 (fun _ _=>False) I4 (fR mM) mL go) (fun r s5 ⟨u,hr,h5⟩=>?_) fun _ _ z=>z.elim
   subst hr
   have z:letOwnedTupleGo (.Name x px) (.ref it) u=pure ():=rfl
   rw [z] at h5
   show wpAny _ _ ((pure ():Sem Unit) >>= fun _=>assign (.Name x px) (compEnvC scope cl s3.heap.objs.size X.env) u) _ _ s5
   refine ao (bG h5 (fun _ s5 ⟨y,H5,I5,r5,y5,fS,nS⟩=>?_) fun _ _ z=>z.elim)
   have nU:=I5.pinned (fR nS) (T.obj _ _ fS)
   have pg:PG (X.bA N scope cl s3 (upd H2 D (.lst [])) fp) (.Name x px) (aT 0):=cy (i:=0) B.nd B.n0 (.inl (ma B.hx)) (.inr (ma B.hx))
   have again:∀{σ7:St} {H7:Hp} {s7:Shared},Inv (X.bA N scope cl s3 (upd H2 D (.lst [])) fp) ([]++j6 fp s5.heap) σ7 H7 s7→Inv (X.bA N scope cl s3 (upd H2 D (.lst [])) fp) [] σ7 H7 s7∧tn (i+1) s7.heap∧∀b∈fp,H7 b=none:=fun{σ7 H7 s7} I7=>by
    refine ⟨I7.qK,T.keep _ _ _ fS fun b hb o e=>(I7.pin (b,o) (dI _ (dI _ (mE hb e)))).1,fun b hb=>?_⟩
    obtain ⟨o,e,d⟩:=T.obj _ _ fS b hb
    exact (I7.pin (b,o) (dI _ (dI _ (mE hb e)))).2.1
   refine bG (pg _ s5 _ H5 y u (fun σ2 H6=>σ2=some y::ρ σ∧H6=H5) nU r5 ⟨rfl,rfl⟩) (fun _ s6 ⟨σ6,H6,I6,q6⟩=>?_) fun _ _ z=>z.elim
   obtain ⟨rfl,rfl⟩:=q6
   have uI:=step y _ y5
   have tests:∀{ju:TT},mJ (X.bA N scope cl s3 (upd H2 D (.lst [])) fp) ifs ju→∀{R:Bool→Hp→Prop},ju (some y::ρ σ) H6 R→wpAny (model X.prog X.w) X.A
     (forIn ifs true fun c r=>if r=true then do let ok ←isTrue c (compEnvC scope cl s3.heap.objs.size X.env) (eval c (compEnvC scope cl s3.heap.objs.size X.env));pure (ForInStep.yield ok) else pure (ForInStep.yield r))
     (fun ok s7=>∃H7,Inv (X.bA N scope cl s3 (upd H2 D (.lst [])) fp) ([]++j6 fp s5.heap) (some y::ρ σ) H7 s7∧R ok H7) (fun _ _=>False) s6:=fun{ju} p {R} hR=>by
    cases p with
    | nil=>exact wpAny_tests_nil ⟨_,I6,hR⟩
    | one p=>exact wpAny_tests_one (p _ s6 _ _ _ I6 hR)
   refine bG (tests (ht s3 _ fp) uI) (fun ok s7 ⟨H7,I7,q7⟩=>?_) fun _ _ z=>z.elim
   cases ok with
   | false=>
    obtain ⟨m',jv,w7⟩:=q7
    obtain ⟨a1,a2,a3⟩:=again I7
    exact ⟨m',jv,i+1,ys,_,H7,a1,a2,a3,w7⟩
   | true=>
    refine bG (he s3 _ fp _ s7 _ H7 _ I7 q7) (fun ev s8 ⟨z,H8,I8,r8,uJ,hz,m',jv,w8⟩=>?_) fun _ _ z=>z.elim
    refine bG (ic (X:=X.bA N scope cl s3 (upd H2 D (.lst [])) fp) _ s8 _ H8 (.ref D) [z] (.ref D) [ev] (fun _ H9=>H9=upd H8 D (.lst (ys++[z]))) I8 rfl (.cons r8 .nil) ⟨D,ys,z,rfl,rfl,uJ,hz,rfl⟩) (fun _ s9 ⟨_,H9,I9,_,q9⟩=>?_) fun _ _ z=>z.elim
    subst q9
    obtain ⟨a1,a2,a3⟩:=again I9
    exact ⟨m',jv,i+1,ys++[z],_,_,a1,a2,a3,w8⟩
 have start:=loop (s3.toks+([]:List (Str×Value)).length)
 have es:({s3 with heap:=h₁,toks:=s3.toks+([]:List (Str×Value)).length}:Shared)={s2 with heap:=h₁,toks:=s2.toks+([]:List (Str×Value)).length}:=by rw [←jr]
 rw [es] at start
 exact zG start (T.self _ 0 _ _ _ (T.keep _ _ _ hG fun b hb o e=>d7 _ _ (gF _ _ e)) start)
end
def fG(i:Int):Prop:=i.natAbs<2 ^ 2048
theorem fG.log{i:Int}(h:fG i):i.natAbs.log2<2048:=by
 by_cases z:i.natAbs=0;·rw [z];decide
 ·exact (Nat.log2_lt z).mpr h
theorem Eo:∀{xs:List V} {us:List Value},xs.length=us.length→(∀(i:Nat) (x:V) (u:Value),xs[i]?=some x→us[i]?=some u→RelV x u)→Vals xs us
 | [],[],_,_=>.nil
 | [],_::_,h,_=>by simp at h
 | _::_,[],h,_=>by simp at h
 | x::xs,u::us,h,k=>.cons (k 0 x u rfl rfl) (Eo (by simpa using h) fun i a b h1 h2=>k (i+1) a b (by simpa using h1) (by simpa using h2))
section
variable {X:Cx}
def LY(i j:Int):Prop:=0<j∧fG j
theorem LZ:cz X (binaryOp .FloorDiv) (rI LY fun i j=>.int (i / j)):=wL fun i j _ _ _ _ _ hc q=>floordiv_int (Int.ne_of_gt hc.1) (by rw [Int.fdiv_eq_ediv_of_nonneg i (cB hc.1)];exact q) (.inl (PyProof.noPylong_of_log2 (cY hc.2.log (by decide))))
def allR(K:aG):List V→Hp→VK→Prop:=fun xs H Q=>∃(p:Addr) (bs:List Bool),xs=[.ref p]∧bj K H p (bs.map V.bl)∧Q (.bl (bs.all id)) H
theorem L0{K:aG}(hc:X.calm=true)(hK:X.K=K:=by rfl):en X (.builtin "all") (allR K):=by
 intro pins s σ H xs us Q I r h;subst hK;obtain ⟨p,bs,rfl,hq,q⟩:=h;obtain ⟨u,rfl,ru⟩:=vals1 r;cases ru;obtain ⟨ai,rv,pl,hz⟩:=I.list hq;have og:p≠s.heap.objs.size:=by obtain ⟨o,e,_⟩:=pl.isList;exact bC (aW e)
 have hl:ai.length=bs.length:=by rw [←rv.length,aE]
 refine call_all_walk (tJ pl.isList ?_);refine ⟨s.heap.objs.size,_,_,_,_,_,fun i=>bs.getD i true,rfl,Walks.list (A:=X.A.in1) (show X.A.in1.handled=none from I.ok.hd hc) s.heap.objs.size p og ai.toArray,⟨⟨_,cM _ rfl,rfl,rfl⟩,pl.isList.push _⟩,fun i v s' Q' E' hv qR=>?_,fun h' tk hk=>?_⟩
 ·have fH:ai[i]?=some v:=by simpa using hv
  cases eb:bs[i]? with
  | none=>
   have:=rv.none_of (i:=i) (by rw [bU,eb];rfl)
   rw [this] at fH;cases fH
  | some b=>
   obtain ⟨u,hu,ru⟩:=rv.get (i:=i) (x:=V.bl b) (by rw [bU,eb];rfl)
   rw [hu] at fH;cases fH;cases ru;have e:bs.getD i true=b:=by rw [dU,eb];rfl
   have uK:Q' (bs.getD i true) s':=qR;rw [e] at uK;exact kD uK
 ·refine ⟨.bl (bs.all id),H,I.kept fun b o e=>hk b o (fun z=>?_) (bQ _ e),?_,q⟩
  ·exact absurd (aW e) (by rw [bR.mp z];exact dB _)
  ·show Value.bool _=Value.bool _
   congr 1
   rw [bM,hl];clear hk q rv pl hz hl hq
   induction bs with
   | nil=>rfl
   | cons b bs ih=>rw [dS,List.range_succ_eq_map,List.all_cons,List.all_map,List.all_cons];show (b && (List.range bs.length).all fun i=>bs.getD i true)=(b && bs.all id);rw [ih]
def L3:List V→Hp→VK→Prop:=fun xs H Q=>∃j:Int,xs=[.int j]∧∀p,H p=none→Q (.ref p) (upd H p (.g7 0 j))
theorem As:en X (.type "range") L3:=by intro pins s σ H xs us Q I r h;obtain ⟨j,rfl,q⟩:=h;obtain ⟨u,rfl,ru⟩:=vals1 r;obtain ⟨t,rfl⟩:=ru;refine call_range_1 ⟨.ref s.heap.objs.size,_,I.laid (o:=.g7 0 j) (fun b o e=>bQ _ e) (ay _) ⟨_,_,_,cM _ rfl⟩,rfl,q _ (I.ax.fresh (ay _))⟩
def dh(n:Nat):List V:=(List.range n).map fun i:Nat=>V.int (i:Int)
def L4:List V→Hp→VK→Prop:=fun xs H Q=>∃p n,xs=[.ref p]∧H p=some (.g7 0 (n:Nat))∧n≤10000∧∀l,H l=none→Q (.ref l) (upd H l (.lst (dh n)))
theorem Au(hc:X.calm=true):en X (.type "list") L4:=by
 intro pins s σ H xs us Q I r h;obtain ⟨p,n,rfl,hp,hn,q⟩:=h;obtain ⟨u,rfl,ru⟩:=vals1 r;cases ru;obtain ⟨t,u,v,e⟩:=(show bI X.prog X.w H s.heap p (.g7 0 n) from I.ax p _ hp);refine call_list_range (n:=n) (I.ok.hd hc) e (small_one (by omega) (by omega) (by omega) (by omega)) (by rw [rangeSize_one];split <;> omega) (by omega) fun h' tk acc c hk hD hit=>?_
 refine ⟨.ref s.heap.objs.size,_,I.laid (o:=.lst (dh n)) (fun b o e=>hk b o e) (ay _) ⟨?_,acc.toList,c,?_,?_⟩,rfl,q _ (I.ax.fresh (ay _))⟩
 ·unfold dh
  rw [aE,dz];exact bf hn (by decide)
 ·refine Eo ?_ fun i x u h1 h2=>?_
  ·unfold dh
   rw [aE,dz,eE,hit.1]
  ·have Ep:acc[i]?=some u:=by simpa using h2
   obtain ⟨cK,e'⟩:=hit.2 i u Ep;unfold dh at h1;rw [bU] at h1;have hi:i<n:=by have z:=(Array.getElem?_eq_some_iff.mp Ep).1;rw [hit.1] at z;exact z
   rw [qf hi] at h1;cases h1;exact ⟨cK,by rw [e'];simp⟩
 ·rw [hD]
end
theorem boot_all:bootBuiltins "all"=some (.builtin "all"):=by decide +kernel
theorem Av:bootBuiltins "range"=some (.type "range"):=by decide +kernel
def Aw:Expr→Bool
 | .Starred _ _=>false
 | _=>true
variable {e:Expr} {es:List Expr}
theorem L5{env:Env}(h:Aw e=true):starEach (e::es) env=(false,eval e env)::starEach es env:=by cases e <;> first | rfl | cases h
variable {X:Cx} {te:TE}
theorem L6{t:TA}(hs:Aw e=true)(ha:PE X e te)(hr:PA X es t):PA X (e::es) (uj te t):=
 Ki ha hr (L5 hs)
theorem ak{t:TA}(ha:PE X e te)(hr:PA X es t)(hs:Aw e=true:=by rfl):PA X (e::es) (uj te t):=L6 hs ha hr
variable {pos pos':Pos} {x:Str}
theorem Er{i:Nat}(hs:swapsWith e (some (.Name x pos')) pos.line X.env=pure false)(hf:X.fn x=true∨X.env.scope.names.lookup x=some .local)(hN:X.N.Nodup)(hi:X.N[i]?=some x)(hx:Loc X.env.scope x)(he:PE X e te) :
  PS X (.Assign [.Name x pos'] e pos) (nQ te (aT i)):=JN hN hi hx he hs hf
theorem putL(i:Nat)(hN:X.N.Nodup)(he:PE X e te)(hs:swapsWith e (some (.Name x pos')) pos.line X.env=pure false:=by rfl)(hi:X.N[i]?=some x:=by rfl)(hx:X.env.scope.names.lookup x=some .local:=by rfl) :
  PS X (.Assign [.Name x pos'] e pos) (nQ te (aT i)):=Er hs (.inr hx) hN hi (.inl hx) he
theorem L7(i:Nat)(hN:X.N.Nodup)(he:PE X e te)(hs:swapsWith e (some (.Name x pos')) pos.line X.env=pure false:=by rfl)(hf:X.fn x=true∨X.env.scope.names.lookup x=some .local:=by first | exact .inl rfl | exact .inr rfl | assumption)(hi:X.N[i]?=some x:=by rfl)(hx:X.env.scope.names.lookup x=some .cell:=by rfl) :
  PS X (.Assign [.Name x pos'] e pos) (nQ te (aT i)):=Er hs hf hN hi (.inr hx) he
end L2
namespace My
open PySem L2
theorem qT(a b:Int):decide (V.int a=V.int b)=decide (a=b):=by
 by_cases h:a=b;·subst h;simp
 ·rw [bP h];exact bP fun e=>h (V.int.inj e)
variable {K:aG}
theorem L8{T:String}:PySem.W.kitOne K (.type T) (.type T)=some true:=by unfold PySem.W.kitOne;rw [ae (beq_self_eq_true _)]
variable {H:Hp}
theorem aN{p:Addr}{o:HO}(h:H p=none):aj H (upd H p o):=fun b u e=>by rw [aB (jY e h)];exact e
variable {i:Int}
theorem Es{α:Type}{xs:List α}(h0:0≤i)(h1:i<xs.length):∃v,jo xs i=some v∧v∈xs:=by
 obtain ⟨k,rfl⟩:∃k:Nat,i=(k:Int):=⟨i.toNat,by omega⟩
 have hk:k<xs.length:=by omega
 exact ⟨xs[k],qN (by simp [hk]),c_ _⟩
inductive Any (H:Hp):V→Prop where
 | aP:Any H .aP
 | bl (b:Bool):Any H (.bl b)
 | int (i:Int):Any H (.int i)
 | str (x:Str):Any H (.str x)
 | lst {a:Addr} {xs:List V} (e:H a=some (.lst xs)):Any H (.ref a)
 | tup {a:Addr} {xs:List V} (e:H a=some (.tup xs)):Any H (.ref a)
 | qQ {a:Addr} (e:H a=some (Ek a)):Any H (.ref a)
def qU:V→Bool
 | .int _=>true
 | _=>false
def qV:V→Bool
 | .bl _=>true
 | _=>false
def xo(H:Hp):V→Bool
 | .ref a=>(match H a with | some (.tup _)=>true | _=>false)
 | _=>false
theorem Any.Ap{v:V}(h:Any H v):∃T:String,uC K H v (.type T)∧PySem.W.kitOne K (.type T) (.type "int")=some (qU v || qV v)∧PySem.W.kitOne K (.type T) (.type "bool")=some (qV v) ∧
  PySem.W.kitOne K (.type T) (.type "tuple")=some (xo H v):=by
 cases h with
 | aP=>exact ⟨"NoneType",.of .aP,rfl,rfl,rfl⟩
 | bl b=>exact ⟨"bool",.of (.bl b),rfl,rfl,rfl⟩
 | int i=>exact ⟨"int",.of (.int i),rfl,rfl,rfl⟩
 | str x=>exact ⟨"str",.of (.str x),rfl,rfl,rfl⟩
 | lst e=>exact ⟨"list",.of (.lst e),rfl,rfl,by unfold xo;dsimp only;rw [e];rfl⟩
 | tup e=>exact ⟨"tuple",.of (.tup e),rfl,rfl,by unfold xo;dsimp only;rw [e];rfl⟩
 | qQ e=>exact ⟨"dict",.qQ e,rfl,rfl,by unfold xo;dsimp only;rw [e];rfl⟩
theorem L9{v:V}(h:qV v=true):qU v=false:=by cases v <;> first | rfl | cases h
theorem fG.of_lt(h1:-(10 ^ 70)<i)(h2:i<10 ^ 70):fG i:=by
 have h3:i.natAbs<2 ^ 240:=by omega
 exact cY h3 (qg (by decide) (by decide))
def L_:Sp:=fun vs H Q _=>∃v:V,vs=[v]∧Any H v∧Q (.bl (qU v)) H
def xp(K:aG):Sp:=fun vs H Q _=>∃(a:Addr) (ns:List Int),vs=[.ref a]∧bj K H a (ns.map V.int)∧ns.length≤63∧∀H',Q (.bl true) H'
end My
namespace L2
open PySem PySem.Spec PyProof.Rows
end L2
namespace My
open PySem L2
end My
namespace L2
open PySem PySem.Spec PyProof.Rows
section
variable {P:Program} {w:World} {K:aG} {mg:cN} {base:Heap}
end
section
variable {X:Cx} {CX:fT} {k:Nat} {f C:Addr} {fd:FuncData} {ps:List Str} {y:Str} {sp:Sp} {E:XK} {m:Str} {pos apos DM:Pos} {e e' o:Expr} {ta:TE} {t tk:TA}
end
end L2
namespace My
open PySem L2
end My
namespace L2
open PySem PySem.Spec PyProof.Rows
section
variable {X:Cx}
end
end L2
namespace My
open PySem L2
section
variable {C N z:Addr} {q:Int} {v u:V} {t b t' b':Int} {H:Hp} {Q:VK} {E:XK}
end
end My
namespace L2
open PySem PySem.Spec PyProof.Rows
structure jw (J:It) (xs:List V) (H1:Hp):Prop where
 go:∀i Hc,aj H1 Hc→i<xs.length→J.go i Hc
 du:∀i Hc x H',aj H1 Hc→J.du i Hc x H'→H'=Hc∧(i<xs.length→xs[i]?=some x)
 stop:∀i Hc,aj H1 Hc→xs.length≤i→J.stop i Hc
variable {xs:List V} {H1:Hp}
theorem k6{K:aG}{a:Addr}(h:bj K H1 a xs):jw (iM K a) xs H1 where
 go:=fun i Hc s hi=>⟨xs,xs[i],s.seq h,by simp [hi]⟩
 du:=fun i Hc x H' s y=>⟨y.1,fun _=>y.2 xs (s.seq h)⟩
 stop:=fun i Hc s hi=>⟨xs,s.seq h,hi⟩
theorem Ax{lo:Int}{n:Nat}:jw (mC lo n) ((List.range n).map fun i:Nat=>V.int (lo+(i:Int))) H1 where
 go:=fun i Hc s hi=>by
  have hi:i<n:=by simpa using hi
  exact hi
 du:=fun i Hc x H' s y=>⟨y.1,fun hi=>by
  have hi:i<n:=by simpa using hi
  rw [y.2];simp [hi]⟩
 stop:=fun i Hc s hi=>by
  have hi:n≤i:=by simpa using hi
  exact hi
variable {H:Hp} {D:Addr}
theorem eZ{H':Hp}{o:HO}(s:aj H H')(n:H D=none):aj H (upd H' D o):=fun b u e=>by rw [aB (jY e n)];exact s b u e
variable {te:TE} {Q:VK}
theorem Et{J:It}{ρσ:St}(js:jw J xs H1)(nD:H1 D=none)(hn:xs.length<sizeLine)
  (P:Nat→V→Hp→Prop) (mono:∀i y H H' ys,P i y H→H D=some (.lst ys)→(∀b o,b≠D→H b=some o→H' b=some o)→P i y H')
  (step:∀i x,xs[i]?=some x→∀(Hc:Hp) (R:VK),aj H1 Hc→(∃ys,Hc D=some (.lst ys))→(∀y H3,aj Hc H3→P i y H3→R y H3)→te (some x::ρσ) Hc R)
  (fin:∀ys Hc,aj H1 Hc→ys.length=xs.length→(∀i y,ys[i]?=some y→P i y Hc)→Hc D=some (.lst ys)→Q (.ref D) Hc) :
  ∃W:Nat→Nat→List V→Hp→Prop,(∃m,W 0 m [] (upd H1 D (.lst []))) ∧
   ∀i m ys Hc,W i m ys Hc→Hc D=some (.lst ys)∧((J.stop i Hc∧Q (.ref D) Hc)∨(J.go i Hc∧∀x H',J.du i Hc x H'→
    if true=true then te (some x::ρσ) H' fun y H3=>H3 D=some (.lst ys)∧ys.length<sizeLine∧∃m',m'<m∧W (i+1) m' (ys++[y]) (upd H3 D (.lst (ys++[y]))) else ∃m',m'<m∧W (i+1) m' ys H')):=by
 refine ⟨fun i m ys Hc=>m=xs.length-i∧i≤xs.length∧Hc D=some (.lst ys)∧aj H1 Hc∧ys.length=i∧∀j y,ys[j]?=some y→P j y Hc,⟨_,rfl,bH _,aw,eZ (aj.refl H1) nD,rfl,fun j y e=>by simp at e⟩,?_⟩
 rintro i m ys Hc ⟨rfl,hi,eD,sH,el,hP⟩;refine ⟨eD,?_⟩;by_cases a7:i<xs.length
 ·refine .inr ⟨js.go i Hc sH a7,fun x H' hy=>?_⟩
  obtain ⟨rfl,hx⟩:=js.du i Hc x H' sH hy;rw [ae rfl];refine step i x (hx a7) _ _ sH ⟨ys,eD⟩ fun y H3 s3 hp=>?_;have e3:=s3 _ _ eD;refine ⟨e3,by omega,xs.length-(i+1),by omega,rfl,a7,aw,eZ (sH.trans s3) nD,by simp [el],fun j y' e=>?_⟩
  have bZ:∀b o,b≠D→H3 b=some o→upd H3 D (.lst (ys++[y])) b=some o:=fun b o nb e=>by rw [aB nb];exact e
  by_cases hj:j<i
  ·have e':ys[j]?=some y':=by rw [gr (by omega)] at e;exact e
   refine mono j y' H' _ ys (hP j y' e') eD fun b o nb e=>?_;exact bZ b o nb (s3 _ _ e)
  ·have hj:j=i:=by have:=(bL.mp e).1;simp at this;omega
   subst hj;have e':y'=y:=by rw [gq (by omega),el,tP] at e;simpa using e.symm
   subst e';exact mono _ _ H3 _ ys hp e3 bZ
 ·have e:i=xs.length:=by omega
  subst e;exact .inl ⟨js.stop _ Hc sH (ay _),fin ys Hc sH el hP eD⟩
variable {wi:TI} {ρ:St→St} {σ:St}
theorem Ma(eK:∀R:It→Hp→Prop,(∀J H1,aj H H1→jw J xs H1→R J H1)→wi σ H R)(hn:xs.length<sizeLine)
  (P:Addr→Nat→V→Hp→Prop) (mono:∀D i y H H' ys,P D i y H→H D=some (.lst ys)→(∀b o,b≠D→H b=some o→H' b=some o)→P D i y H')
  (step:∀D i x,xs[i]?=some x→∀(Hc:Hp) (R:VK),aj H Hc→(∃ys,Hc D=some (.lst ys))→(∀y H3,aj Hc H3→P D i y H3→R y H3)→te (some x::ρ σ) Hc R)
  (fin:∀D ys Hc,aj H Hc→ys.length=xs.length→(∀i y,ys[i]?=some y→P D i y Hc)→Hc D=some (.lst ys)→Q (.ref D) Hc):ie wi ρ (fun _ H Q=>Q true H) te σ H Q:=by
 refine eK _ fun J H1 s1 js=>?_;intro D nD;exact Et (ρσ:=ρ σ) (te:=te) (Q:=Q) js nD hn (P D) (mono D) (fun i x hx Hc R sc=>step D i x hx Hc R (s1.trans sc)) (fun ys Hc sc=>fin D ys Hc (s1.trans sc))
theorem ig{g:TG}{D:Ends}(h:te σ H fun x H1=>g x σ H1 D.nx):nQ te g D σ H:=h
theorem dY{a b:TS}{D:Ends}(h:a {D with nx:=fun σ H=>b D σ H} σ H):zW a b D σ H:=h
section
variable {X:Cx} {N:List Str} {scope:Scope} {cl:List (Str×Addr)} {x:Str} {px pos:Pos} {iter elt:Expr} {ifs:List Expr} {wi:TI} {ρ:St→St} {tt:TT} {te:TE}
theorem xq{y:Str}{py Eu:Pos}{i0:Nat}(B:Aq X N scope cl x ρ)(hc:X.calm=true)(hN:X.N.Nodup)(Mb:X.N[i0]?=some y)(hy:Loc X.env.scope y)(hi:PI X (.Name x px) iter wi)(ht:∀s₃ H₃ fp,mJ (X.bA N scope cl s₃ H₃ fp) ifs tt)(he:∀s₃ H₃ fp,PE (X.bA N scope cl s₃ H₃ fp) elt te)
  (Mc:swapsWith (.ListComp elt [⟨.Name x px,iter,ifs,0⟩] scope pos) (some (.Name y py)) Eu.line X.env=pure true:=by rfl) (hf:X.fn y=true∨X.env.scope.names.lookup y=some .local:=by first | exact .inl rfl | exact .inr rfl | assumption)
  (hs:∀x,foldedSetIterable iter X.env x=pure x:=by intro _;rfl):PS X (.Assign [.Name y py] (.ListComp elt [⟨.Name x px,iter,ifs,0⟩] scope pos) Eu) (nQ (ie wi ρ tt te) (aT i0)):=by
 intro pins s σ H D0 I h
 have h:ie wi ρ tt te σ H (fun v H1=>D0.nx (σ.set i0 (some v)) H1):=h
 rw [exec_Assign_Name_used _ _ _ _ Mc]
 refine ao (p9 (ao ?_))
 show wpAny _ X.A (do let _ ←comprehension (.ListComp elt [⟨.Name x px,iter,ifs,0⟩] scope pos) scope X.env _ (newList []) false (eval iter X.env) (some (assign (.Name y py) X.env))) _ _ s
 refine ao (bG (Q:=fun _ s'=>SP X pins D0 .next s') ?_ (fun _ s' hq=>aI (aI hq)) fun _ _ e=>e)
 refine zF (use:=some (assign (.Name y py) X.env)) rfl hs B.xi B.kind B.names (aJ (hi pins s σ H _ I h) fun v s1 h1=>aJ h1 fun uf s2 h2=>?_)
 obtain ⟨it,fp,tn,J,H2,rfl,I2,T,hG,f2,q2⟩:=h2
 have nD:H2 s2.heap.objs.size=none:=I2.ax.fresh (ay _)
 obtain ⟨W,⟨m0,w0⟩,turn⟩:=q2 _ nD
 refine l_ (wpAny_newFunctionEnv B.xj (by intro y hy;simp at hy) (fun h₁ gD gE=>?_) B.kind)
 dsimp only at gD gE ⊢
 generalize hD:s2.heap.objs.size=D at nD w0 turn gD gE ⊢
 generalize jr:({s2 with heap:=s2.heap.push {cls:=.type "list",dict:=none,data:=.seq ([]:List Value).toArray}}:Shared)=s3
 have I3:Inv X pins σ (upd H2 D (.lst [])) s3:=by
  subst hD jr
  exact I2.laid (t':=s2.toks) (fun b u e=>bQ _ e) (ay _) ⟨bH _,[],_,.nil,cM _ rfl⟩
 have e3:s3.heap=s2.heap.push {cls:=.type "list",dict:=none,data:=.seq ([]:List Value).toArray}:=by rw [←jr]
 have gF:∀b o,s2.heap.get? b=some o→s3.heap.get? b=some o:=fun b o e=>by rw [e3];exact bQ _ e
 rw [←e3] at gD gE ⊢
 have below:∀b o,s3.heap.get? b=some o→b≠s3.heap.objs.size:=fun b o e=>bC (aW e)
 have d7:∀b o,s3.heap.get? b=some o→h₁.get? b=some o:=fun b o e=>gE.extBut b o (below b o e) (bQ _ e)
 have jt:∀b∈fp,∃o,s2.heap.get? b=some o∧∀v,o.data≠.cell v:=T.obj _ _ hG
 have uE:∀b∈fp,b≠D:=fun b hb z=>by
  obtain ⟨o,e,_⟩:=jt b hb
  rw [z,←hD] at e
  exact absurd (aW e) (dB _)
 have dE:∀y c,cl.lookup y=some c→X.env.cells.lookup y=some c:=fun y c e=>B.sub (y,c) (kF e)
 have uF:=I3.ua
 have eY:(X.bA N scope cl s3 (upd H2 D (.lst [])) fp).Ok:=by
  refine ⟨I.ok.mod,B.kind,I.ok.glob,I.ok.blt,ay _,fun a b c e1 e2=>I.ok.inj a b c (dE a c e1) (dE b c e2),fun y hy=>B.has y hy,(fun _ _ z _=>absurd z b7),(fun _=>I.ok.hd hc),I.ok.frames,.inl rfl,fun b hb=>⟨?_,fun y c e z=>?_⟩,fun b o e=>?_,bf I.ok.iJ I3.sz,fun b o e hb=>?_,fun b hb z=>?_,I3.stack,uF⟩
  ·obtain ⟨o,e,_⟩:=jt b hb
   exact below b o (gF b o e)
  ·exact (f2 b hb).2.2.2.2.1 y c (dE y c e) z
  ·exact I3.bs b o e
  ·rcases (f2 b hb).2.2.2.1 with z | z
   ·exact I.ok.nJ b o e z
   ·exact absurd (cY (aW e) (bf I.ok.iJ z)) (dB _)
  ·rcases b6.mp (I3.t_ b z) with z | z
   ·exact (f2 b hb).2.1 z
   ·exact (f2 b hb).2.2.1 z
 have IB:∀tk:Nat,Inv (X.bA N scope cl s3 (upd H2 D (.lst [])) fp) [] (none::ρ σ) (upd H2 D (.lst [])) {s3 with heap:=h₁,toks:=tk}:=fun tk=>by
  refine ⟨eY,rfl,I3.bare,Un.kept d7,⟨_,gD,fun j y v e1 e2 e3=>?_⟩,fun y c e=>?_,?_,fun y c e=>I3.g_ y c (dE y c e),(fun p hp=>nomatch hp),I3.ax.kept d7,?_⟩
  ·cases j with
   | zero=>cases e2
   | succ j=>
    obtain ⟨i,y',a1,a2,a3,a4,a5,a6⟩:=B.xk σ j v e2
    have n_:N[j+1]?=some y:=e1
    rw [n_] at a1
    cases a1
    obtain ⟨m,hn,hl⟩:=I3.loc
    obtain ⟨u,r,l⟩:=hl i y v a2 a3 a4
    refine ⟨u,r,.inr ⟨a6,?_⟩⟩
    obtain ⟨c,ec⟩:=B.has y a6
    rcases l with ⟨k,_⟩ | ⟨_,c',mK,z⟩
    ·rcases a5 with q | q <;> (rw [k] at q;cases q)
    ·have:=dE y c ec
     rw [this] at mK
     cases mK
     obtain ⟨o,ho,hd⟩:=z
     exact ⟨c,ec,o,d7 _ _ ho,hd⟩
  ·obtain ⟨v,o,ho,hd⟩:=I3.cell y c (dE y c e)
   exact ⟨v,o,d7 _ _ ho,hd⟩
  ·exact I3.ax.fresh (ay _)
  ·show (none::ρ σ).length=N.length
   rw [dS]
   exact B.len σ I.len
 have Ay:∀b o,s3.heap.get? b=some o→b≠s3.heap.objs.size:=below
 have fin:∀{σ':St} {H':Hp} {s':Shared},Inv (X.bA N scope cl s3 (upd H2 D (.lst [])) fp) [] σ' H' s'→D0.nx (σ.set i0 (some (.ref D))) H'→compPost (model X.prog X.w) X.A X.xe (some (assign (.Name y py) X.env)) (fun _ s'=>SP X pins D0 .next s') (.ref D) s3.heap.objs.size (.ok .next) s':=fun{σ' H' s'} J q=>by
  obtain ⟨m,hn,_⟩:=J.loc
  have hn:s'.heap.Ns s3.heap.objs.size m:=hn
  have JC:H' s3.heap.objs.size=none:=J.free
  have u1:Un (cm X.stack) fp (upd H2 D (.lst [])) H' s3.heap s'.heap:=by
   refine ⟨fun b o e n hb hx=>J.base.keep b o e n hb hx,fun b o e n hb hx=>J.base.slot b o e n hb hx,J.base.free,fun b o e hx=>J.base.there b o e hx,J.base.fv,J.base.eG,J.base.fz⟩
  have IX:Inv X pins σ H' s':=I3.qD (ch:=fp) (J.os) u1 J.ax J.bare fun b hb=>by
   obtain ⟨g0,g1,g2,g3,g4,g5⟩:=f2 b hb
   exact ⟨g3,g1,g4,g5⟩
  have nl:X.env.locals≠s3.heap.objs.size:=by
   obtain ⟨m3,⟨o3,_,_,e3,_⟩,_⟩:=I3.loc
   exact Ay _ _ e3
  have nc:∀z c,X.env.cells.lookup z=some c→c≠s3.heap.objs.size:=fun z c e=>by
   obtain ⟨v3,o3,e3,_⟩:=I3.cell z c e
   exact Ay _ _ e3
  refine wpAny_assign_Name (C6 (v:=.ref D) IX hN Mb hy rfl (fun fC Az AA=>?_) hf)
  obtain ⟨a,AA,ha⟩:=AA
  have na:s3.heap.objs.size≠a:=by
   rcases ha with rfl | e
   ·exact fun z=>nl z.symm
   ·exact fun z=>nc _ _ e z.symm
  refine ⟨m,hn.sameBut AA na,fun h' gG=>⟨σ.set i0 (some (.ref D)),H',?_,q⟩⟩
  have u2:Un (cm X.stack) [s3.heap.objs.size] H' H' fC.heap h':=by
   refine ⟨fun b o e n hb hx=>(gG.2 b (by simpa using hx)).trans e,fun b o e n hb hx=>⟨o.slots,(gG.2 b (by simpa using hx)).trans e⟩,fun b o e n hx=>n,fun b o e hx=>⟨o,(gG.2 b (by simpa using hx)).trans e⟩,fun b xs z=>z,fun b o u z=>z,fun b ps z=>⟨#[],by simpa using z⟩⟩
  have uG:bY X.prog X.w H' h':=fun b u e=>by
   refine (Az.ax b u e).g8 (fun c v hc z=>(gG.2 c fun y=>?_).trans z) (fun _ z=>z) fun _ _ z=>z
   have y':c=s3.heap.objs.size:=y
   rcases hc with hc | hc
   ·rw [←hc,y',JC] at e
    cases e
   ·rw [y',JC] at hc
    cases hc
  refine Az.qD (s':={fC with heap:=h'}) (ch:=[s3.heap.objs.size]) rfl u2 uG Az.bare fun b hb=>?_
  have eb:b=s3.heap.objs.size:=by simpa using hb
  subst eb
  refine ⟨.inr I3.sz,fun z=>nl z.symm,fun z c e=>nc z c e,fun p hp=>?_⟩
  exact Ay _ _ (I3.pin p hp).1
 have fR:∀{H':Hp},(∀b∈fp,H' b=none)→∀b∈fp,kT (X.bA N scope cl s3 (upd H2 D (.lst [])) fp) [] H' b:=fun hn b hb=>by
  refine ⟨hn b hb,?_,?_,.inl hb,fun y c e z=>(f2 b hb).2.2.2.2.1 y c (dE y c e) z,fun p hp=>nomatch hp⟩
  ·obtain ⟨o,e,_⟩:=jt b hb
   exact below b o (gF b o e)
  ·exact eY.nK b hb
 have loop:∀tk:Nat,codeAny (model X.prog X.w) X.A (.compLoop (.ListComp elt [⟨.Name x px,iter,ifs,0⟩] scope pos) 0 (.ref it) (.ref D) (compEnvC scope cl s3.heap.objs.size X.env))
   (compPost (model X.prog X.w) X.A X.xe (some (assign (.Name y py) X.env)) (fun _ s'=>SP X pins D0 .next s') (.ref D) s3.heap.objs.size) {s3 with heap:=h₁,toks:=tk}:=fun tk=>by
  refine codeAny_compLoop_tests (fun n s'=>∃i ys o H',Inv (X.bA N scope cl s3 (upd H2 D (.lst [])) fp) [] (o::ρ σ) H' s'∧tn i s'.heap∧(∀b∈fp,H' b=none)∧W i n ys H') ?_ m0
   ⟨0,[],none,_,IB tk,T.keep _ _ _ hG fun b hb o e=>d7 _ _ (gF _ _ e),fun b hb=>by rw [aB (uE b hb)];exact (f2 b hb).1,w0⟩
  rintro n s4 ⟨i,ys,o,H4,I4,mL,mM,w4⟩
  obtain ⟨En,uH⟩:=turn i n ys H4 w4
  rcases uH with ⟨stop,qn⟩ | ⟨go,step⟩
  ·refine bG (T.done (X.bA N scope cl s3 (upd H2 D (.lst [])) fp) rfl rfl rfl hc i [] s4 _ H4 (fun _ _=>False) I4 (fR mM) mL stop) (fun r s5 ⟨hr,I5⟩=>?_) fun _ _ z=>z.elim
   subst hr
   exact fin I5 qn
  ·refine bG (T.item (X.bA N scope cl s3 (upd H2 D (.lst [])) fp) rfl rfl rfl hc i [] s4 _ H4 (fun _ _=>False) I4 (fR mM) mL go) (fun r s5 ⟨u,hr,h5⟩=>?_) fun _ _ z=>z.elim
   subst hr
   have z:letOwnedTupleGo (.Name x px) (.ref it) u=pure ():=rfl
   rw [z] at h5
   show wpAny _ _ ((pure ():Sem Unit) >>= fun _=>assign (.Name x px) (compEnvC scope cl s3.heap.objs.size X.env) u) _ _ s5
   refine ao (bG h5 (fun _ s5 ⟨y,H5,I5,r5,y5,fS,nS⟩=>?_) fun _ _ z=>z.elim)
   have nU:=I5.pinned (fR nS) (T.obj _ _ fS)
   have pg:PG (X.bA N scope cl s3 (upd H2 D (.lst [])) fp) (.Name x px) (aT 0):=cy (i:=0) B.nd B.n0 (.inl (ma B.hx)) (.inr (ma B.hx))
   have again:∀{σ7:St} {H7:Hp} {s7:Shared},Inv (X.bA N scope cl s3 (upd H2 D (.lst [])) fp) ([]++j6 fp s5.heap) σ7 H7 s7→Inv (X.bA N scope cl s3 (upd H2 D (.lst [])) fp) [] σ7 H7 s7∧tn (i+1) s7.heap∧∀b∈fp,H7 b=none:=fun{σ7 H7 s7} I7=>by
    refine ⟨I7.qK,T.keep _ _ _ fS fun b hb o e=>(I7.pin (b,o) (dI _ (dI _ (mE hb e)))).1,fun b hb=>?_⟩
    obtain ⟨o,e,d⟩:=T.obj _ _ fS b hb
    exact (I7.pin (b,o) (dI _ (dI _ (mE hb e)))).2.1
   refine bG (pg _ s5 _ H5 y u (fun σ2 H6=>σ2=some y::ρ σ∧H6=H5) nU r5 ⟨rfl,rfl⟩) (fun _ s6 ⟨σ6,H6,I6,q6⟩=>?_) fun _ _ z=>z.elim
   obtain ⟨rfl,rfl⟩:=q6
   have uI:=step y _ y5
   have tests:∀{ju:TT},mJ (X.bA N scope cl s3 (upd H2 D (.lst [])) fp) ifs ju→∀{R:Bool→Hp→Prop},ju (some y::ρ σ) H6 R→wpAny (model X.prog X.w) X.A
     (forIn ifs true fun c r=>if r=true then do let ok ←isTrue c (compEnvC scope cl s3.heap.objs.size X.env) (eval c (compEnvC scope cl s3.heap.objs.size X.env));pure (ForInStep.yield ok) else pure (ForInStep.yield r))
     (fun ok s7=>∃H7,Inv (X.bA N scope cl s3 (upd H2 D (.lst [])) fp) ([]++j6 fp s5.heap) (some y::ρ σ) H7 s7∧R ok H7) (fun _ _=>False) s6:=fun{ju} p {R} hR=>by
    cases p with
    | nil=>exact wpAny_tests_nil ⟨_,I6,hR⟩
    | one p=>exact wpAny_tests_one (p _ s6 _ _ _ I6 hR)
   refine bG (tests (ht s3 _ fp) uI) (fun ok s7 ⟨H7,I7,q7⟩=>?_) fun _ _ z=>z.elim
   cases ok with
   | false=>
    obtain ⟨m',jv,w7⟩:=q7
    obtain ⟨a1,a2,a3⟩:=again I7
    exact ⟨m',jv,i+1,ys,_,H7,a1,a2,a3,w7⟩
   | true=>
    refine bG (he s3 _ fp _ s7 _ H7 _ I7 q7) (fun ev s8 ⟨z,H8,I8,r8,uJ,hz,m',jv,w8⟩=>?_) fun _ _ z=>z.elim
    refine bG (ic (X:=X.bA N scope cl s3 (upd H2 D (.lst [])) fp) _ s8 _ H8 (.ref D) [z] (.ref D) [ev] (fun _ H9=>H9=upd H8 D (.lst (ys++[z]))) I8 rfl (.cons r8 .nil) ⟨D,ys,z,rfl,rfl,uJ,hz,rfl⟩) (fun _ s9 ⟨_,H9,I9,_,q9⟩=>?_) fun _ _ z=>z.elim
    subst q9
    obtain ⟨a1,a2,a3⟩:=again I9
    exact ⟨m',jv,i+1,ys++[z],_,_,a1,a2,a3,w8⟩
 have start:=loop (s3.toks+([]:List (Str×Value)).length)
 have es:({s3 with heap:=h₁,toks:=s3.toks+([]:List (Str×Value)).length}:Shared)={s2 with heap:=h₁,toks:=s2.toks+([]:List (Str×Value)).length}:=by rw [←jr]
 rw [es] at start
 exact zG start (T.self _ 0 _ _ _ (T.keep _ _ _ hG fun b hb o e=>d7 _ _ (gF _ _ e)) start)
end
section
variable {X:Cx}
end
section
variable {prog:Program} {w:World} {A:Around} {R:Result→Shared→Prop} {s:Shared}
theorem Md{elt target iter:Expr}{ifs:List Expr}{scope:Scope}{pos:Pos}{it acc:Value}{env:Env}(I:Nat→Shared→Prop)
  (turn:∀n s,I n s→wpAny (model prog w) A (pyNext it) (fun r s₁=>match r with
   | none=>R (.ok .next) s₁
   | some v=>wpAny (model prog w) A (letOwnedTupleGo target it v) (fun _ s₁=>wpAny (model prog w) A (assign target env v) (fun _ s₂=>
     wpAny (model prog w) A (forIn ifs true fun c r=>if r=true then do let ok ←isTrue c env (eval c env);pure (ForInStep.yield ok) else pure (ForInStep.yield r)) (fun ok s₃=>
      if ok=true then wpAny (model prog w) A (eval elt env) (fun x s₄=>
       wpAny (model prog w) A (call (.builtin "list.append") [acc,x]) (fun _ s₅=>∃m,m<n∧I m s₅) (notedBy (model prog w) A env fun e s'=>R (.error e) s') s₄) (notedBy (model prog w) A env fun e s'=>R (.error e) s') s₃
      else ∃m,m<n∧I m s₃) (notedBy (model prog w) A env fun e s'=>R (.error e) s') s₂) (notedBy (model prog w) A env fun e s'=>R (.error e) s') s₁) (notedBy (model prog w) A env fun e s'=>R (.error e) s') s₁) (notedBy (model prog w) A env fun e s'=>R (.error e) s') s)
  (n:Nat) (h:I n s):codeAny (model prog w) A (.compLoop (.ListComp elt [⟨target,iter,ifs,0⟩] scope pos) 0 it acc env) R s:=by
 refine codeAny_loop rfl I (fun n s hI=>?_) n h
 show wpAny _ A ((compTurn (.ListComp elt [⟨target,iter,ifs,0⟩] scope pos) 0 it acc env).onRaise (fun x=>do noteFrame x env;theTreesLotGoes x)) _ _ s
 refine wpAny_noted ?_
 rw [compTurn_list]
 refine ao (p9 (ao (bG (turn n s hI) (fun r s₁ h₁=>?_) fun _ _ h'=>h')))
 cases r with
 | none=>exact aI h₁
 | some v=>
  refine ao (bG h₁ (fun _ s₁ h₁=>?_) fun _ _ h'=>h')
  refine ao (bG h₁ (fun _ s₂ h₂=>ao (bG h₂ (fun ok s₃ h₃=>?_) fun _ _ h'=>h')) fun _ _ h'=>h')
  cases ok with
  | false=>exact aI ⟨rfl,h₃⟩
  | true=>
   exact ao (ao (bG h₃ (fun x s₄ h₄=>ao (bG h₄ (fun _ s₅ h₅=>aI (aI ⟨rfl,h₅⟩)) fun _ _ h'=>h')) fun _ _ h'=>h'))
end
def xr(K:aG)(wi:TI)(ρ:St→St)(tt:TT)(te:TE):TE:=fun σ H Q=>wi σ H fun J H1=>∀D,H1 D=none→∃W:Nat→Nat→List V→Hp→Prop,(∃m,W 0 m [] (upd H1 D (.lst []))) ∧
 ∀i m ys Hc,W i m ys Hc→Hc D=some (.lst ys)∧((J.stop i Hc∧Q (.ref D) Hc)∨(J.go i Hc∧∀v H',J.du i Hc v H'→∃T x1 x2,v=.ref T∧dc K H' T [x1,x2]∧tt (some x1::some x2::ρ σ) H' fun b H2=>
  if b=true then te (some x1::some x2::ρ σ) H2 fun y H3=>H3 D=some (.lst ys)∧ys.length<sizeLine∧∃m',m'<m∧W (i+1) m' (ys++[y]) (upd H3 D (.lst (ys++[y]))) else ∃m',m'<m∧W (i+1) m' ys H2))
section
variable {X:Cx} {N:List Str} {scope:Scope} {cl:List (Str×Addr)} {x y:Str} {px py pos tp:Pos} {uL:Nat} {iter elt:Expr} {ifs:List Expr} {wi:TI} {ρ:St→St} {tt:TT} {te:TE}
structure Ew (X:Cx) (N:List Str) (scope:Scope) (cl:List (Str×Addr)) (x y:Str) (ρ:St→St):Prop where
 xi:closureFor scope X.env=pure cl
 kind:scope.kind=.function
 xj:∀y∈scope.names,y.2≠.cell
 names:∀y∈scope.names,y.2=.local→scope.names.lookup y.1=some .local
 sub:∀p∈cl,X.env.cells.lookup p.1=some p.2
 has:∀y,((relabel scope X.env).names.lookup y=some .cell∨(relabel scope X.env).names.lookup y=some .free)→∃c,cl.lookup y=some c
 n0:N[0]?=some x
 n1:N[1]?=some y
 nd:N.Nodup
 hx:scope.names.lookup x=some .local
 hy:scope.names.lookup y=some .local
 xk:∀(σ:St) (j:Nat) (v:V),(ρ σ)[j]?=some (some v)→∃(i:Nat) (y:Str),N[j+1+1]?=some y∧X.N[i]?=some y∧σ[i]?=some (some v)∧nI X.env.scope y∧(X.env.kindOf y=some .cell∨X.env.kindOf y=some .free)∧((relabel scope X.env).names.lookup y=some .cell∨(relabel scope X.env).names.lookup y=some .free)
 len:∀σ:St,σ.length=X.N.length→(ρ σ).length+1+1=N.length
theorem Me(is:List Nat)(h1:closureFor scope X.env=pure cl)(h:xl X scope N.tail.tail is:=by repeat' first | exact True.intro | refine And.intro ⟨rfl,Or.inr (Or.inl rfl),.inl rfl,.inl rfl⟩ ?_)(h2:scope.kind=.function:=by rfl)(h3:∀y∈scope.names,y.2≠.cell:=by decide +kernel)(h4:∀y∈scope.names,y.2=.local→scope.names.lookup y.1=some .local:=by decide +kernel)(h5:∀p∈cl,X.env.cells.lookup p.1=some p.2:=by repeat' first | exact List.forall_mem_nil _ | refine List.forall_mem_cons.mpr ⟨rfl,?_⟩)(h6:((relabel scope X.env).names.all fun q=>(q.2 != .cell && q.2 != .free) || (cl.lookup q.1).isSome)=true:=by rfl)(h7:N[0]?=some x:=by rfl)(Mf:N[1]?=some y:=by rfl)(h8:N.Nodup:=by decide +kernel)(h9:scope.names.lookup x=some .local:=by rfl)(Mg:scope.names.lookup y=some .local:=by rfl)(hr:∀σ:St,ρ σ=is.map fun i=>σ[i]?.join:=by exact fun _=>rfl)(hl:is.length+1+1=N.length:=by rfl):Ew X N scope cl x y ρ:=
 ⟨h1,h2,h3,h4,h5,Em h6,h7,Mf,h8,h9,Mg,fun σ j v e=>by rw [hr] at e;rw [←List.getElem?_tail,←List.getElem?_tail];exact Ar h σ j v e,fun σ _=>by rw [hr,aE];exact hl⟩
theorem Mh(B:Ew X N scope cl x y ρ)(hc:X.calm=true)(hi:PI X (.Tuple [.Name x px,.Name y py] uL tp) iter wi)(ht:∀s₃ H₃ fp,mJ (X.bA N scope cl s₃ H₃ fp) ifs tt)(he:∀s₃ H₃ fp,PE (X.bA N scope cl s₃ H₃ fp) elt te)
  (hs:∀x,foldedSetIterable iter X.env x=pure x:=by intro _;rfl):PE X (.ListComp elt [⟨.Tuple [.Name x px,.Name y py] uL tp,iter,ifs,0⟩] scope pos) (xr X.K wi ρ tt te):=by
 intro pins s σ H Q I h
 rw [eval_ListComp]
 refine zF (use:=none) rfl hs B.xi B.kind B.names (aJ (hi pins s σ H _ I h) fun v s1 h1=>aJ h1 fun uf s2 h2=>?_)
 obtain ⟨it,fp,tn,J,H2,rfl,I2,T,hG,f2,q2⟩:=h2
 have nD:H2 s2.heap.objs.size=none:=I2.ax.fresh (ay _)
 obtain ⟨W,⟨m0,w0⟩,turn⟩:=q2 _ nD
 refine l_ (wpAny_newFunctionEnv B.xj (by intro y hy;simp at hy) (fun h₁ gD gE=>?_) B.kind)
 dsimp only at gD gE ⊢
 generalize hD:s2.heap.objs.size=D at nD w0 turn gD gE ⊢
 generalize jr:({s2 with heap:=s2.heap.push {cls:=.type "list",dict:=none,data:=.seq ([]:List Value).toArray}}:Shared)=s3
 have I3:Inv X pins σ (upd H2 D (.lst [])) s3:=by
  subst hD jr
  exact I2.laid (t':=s2.toks) (fun b u e=>bQ _ e) (ay _) ⟨bH _,[],_,.nil,cM _ rfl⟩
 have e3:s3.heap=s2.heap.push {cls:=.type "list",dict:=none,data:=.seq ([]:List Value).toArray}:=by rw [←jr]
 have gF:∀b o,s2.heap.get? b=some o→s3.heap.get? b=some o:=fun b o e=>by rw [e3];exact bQ _ e
 rw [←e3] at gD gE ⊢
 have below:∀b o,s3.heap.get? b=some o→b≠s3.heap.objs.size:=fun b o e=>bC (aW e)
 have d7:∀b o,s3.heap.get? b=some o→h₁.get? b=some o:=fun b o e=>gE.extBut b o (below b o e) (bQ _ e)
 have jt:∀b∈fp,∃o,s2.heap.get? b=some o∧∀v,o.data≠.cell v:=T.obj _ _ hG
 have uE:∀b∈fp,b≠D:=fun b hb z=>by
  obtain ⟨o,e,_⟩:=jt b hb
  rw [z,←hD] at e
  exact absurd (aW e) (dB _)
 have dE:∀y c,cl.lookup y=some c→X.env.cells.lookup y=some c:=fun y c e=>B.sub (y,c) (kF e)
 have uF:=I3.ua
 have eY:(X.bA N scope cl s3 (upd H2 D (.lst [])) fp).Ok:=by
  refine ⟨I.ok.mod,B.kind,I.ok.glob,I.ok.blt,ay _,fun a b c e1 e2=>I.ok.inj a b c (dE a c e1) (dE b c e2),fun y hy=>B.has y hy,(fun _ _ z _=>absurd z b7),(fun _=>I.ok.hd hc),I.ok.frames,.inl rfl,fun b hb=>⟨?_,fun y c e z=>?_⟩,fun b o e=>?_,bf I.ok.iJ I3.sz,fun b o e hb=>?_,fun b hb z=>?_,I3.stack,uF⟩
  ·obtain ⟨o,e,_⟩:=jt b hb
   exact below b o (gF b o e)
  ·exact (f2 b hb).2.2.2.2.1 y c (dE y c e) z
  ·exact I3.bs b o e
  ·rcases (f2 b hb).2.2.2.1 with z | z
   ·exact I.ok.nJ b o e z
   ·exact absurd (cY (aW e) (bf I.ok.iJ z)) (dB _)
  ·rcases b6.mp (I3.t_ b z) with z | z
   ·exact (f2 b hb).2.1 z
   ·exact (f2 b hb).2.2.1 z
 have IB:∀tk:Nat,Inv (X.bA N scope cl s3 (upd H2 D (.lst [])) fp) [] (none::none::ρ σ) (upd H2 D (.lst [])) {s3 with heap:=h₁,toks:=tk}:=fun tk=>by
  refine ⟨eY,rfl,I3.bare,Un.kept d7,⟨_,gD,fun j y v e1 e2 e3=>?_⟩,fun y c e=>?_,?_,fun y c e=>I3.g_ y c (dE y c e),(fun p hp=>nomatch hp),I3.ax.kept d7,?_⟩
  ·cases j with
   | zero=>cases e2
   | succ j=>
   cases j with
   | zero=>cases e2
   | succ j=>
    obtain ⟨i,y',a1,a2,a3,a4,a5,a6⟩:=B.xk σ j v e2
    have n_:N[j+1+1]?=some y:=e1
    rw [n_] at a1
    cases a1
    obtain ⟨m,hn,hl⟩:=I3.loc
    obtain ⟨u,r,l⟩:=hl i y v a2 a3 a4
    refine ⟨u,r,.inr ⟨a6,?_⟩⟩
    obtain ⟨c,ec⟩:=B.has y a6
    rcases l with ⟨k,_⟩ | ⟨_,c',mK,z⟩
    ·rcases a5 with q | q <;> (rw [k] at q;cases q)
    ·have:=dE y c ec
     rw [this] at mK
     cases mK
     obtain ⟨o,ho,hd⟩:=z
     exact ⟨c,ec,o,d7 _ _ ho,hd⟩
  ·obtain ⟨v,o,ho,hd⟩:=I3.cell y c (dE y c e)
   exact ⟨v,o,d7 _ _ ho,hd⟩
  ·exact I3.ax.fresh (ay _)
  ·show (none::none::ρ σ).length=N.length
   rw [dS,dS]
   exact B.len σ I.len
 have fin:∀{σ':St} {H':Hp} {s':Shared},Inv (X.bA N scope cl s3 (upd H2 D (.lst [])) fp) [] σ' H' s'→Q (.ref D) H'→compPost (model X.prog X.w) X.A X.xe none (EP X pins σ Q) (.ref D) s3.heap.objs.size (.ok .next) s':=fun{σ' H' s'} J q=>by
  obtain ⟨m,hn,_⟩:=J.loc
  refine ⟨m,hn,fun h' gG=>⟨.ref D,H',?_,rfl,q⟩⟩
  have old:∀b o,s3.heap.get? b=some o→b≠s3.heap.objs.size:=below
  have u1:Un (cm X.stack) fp (upd H2 D (.lst [])) H' s3.heap h':=by
   refine ⟨fun b o e n hb hx=>?_,fun b o e n hb hx=>?_,J.base.free,fun b o e hx=>?_,J.base.fv,J.base.eG,J.base.fz⟩
   ·exact (gG.2 b (old b o e)).trans (J.base.keep b o e n hb hx)
   ·obtain ⟨sl,z⟩:=J.base.slot b o e n hb hx
    exact ⟨sl,(gG.2 b (old b o e)).trans z⟩
   ·obtain ⟨o',z⟩:=J.base.there b o e hx
    exact ⟨o',(gG.2 b (old b o e)).trans z⟩
  have uG:bY X.prog X.w H' h':=fun b u e=>by
   refine (J.ax b u e).g8 (fun c v hc z=>(gG.2 c fun y=>?_).trans z) (fun _ z=>z) fun _ _ z=>z
   have fr:=J.free
   have y':c=s3.heap.objs.size:=y
   rcases hc with hc | hc
   ·rw [←hc,y'] at e
    exact absurd (fr.symm.trans e) (by simp)
   ·rw [y'] at hc
    exact absurd (fr.symm.trans hc) (by simp)
  refine I3.qD (s':={s' with heap:=h'}) (ch:=fp) (J.os) u1 uG J.bare fun b hb=>?_
  obtain ⟨g0,g1,g2,g3,g4,g5⟩:=f2 b hb
  exact ⟨g3,g1,g4,g5⟩
 have fR:∀{H':Hp},(∀b∈fp,H' b=none)→∀b∈fp,kT (X.bA N scope cl s3 (upd H2 D (.lst [])) fp) [] H' b:=fun hn b hb=>by
  refine ⟨hn b hb,?_,?_,.inl hb,fun y c e z=>(f2 b hb).2.2.2.2.1 y c (dE y c e) z,fun p hp=>nomatch hp⟩
  ·obtain ⟨o,e,_⟩:=jt b hb
   exact below b o (gF b o e)
  ·exact eY.nK b hb
 have loop:∀tk:Nat,codeAny (model X.prog X.w) X.A (.compLoop (.ListComp elt [⟨.Tuple [.Name x px,.Name y py] uL tp,iter,ifs,0⟩] scope pos) 0 (.ref it) (.ref D) (compEnvC scope cl s3.heap.objs.size X.env))
   (compPost (model X.prog X.w) X.A X.xe none (EP X pins σ Q) (.ref D) s3.heap.objs.size) {s3 with heap:=h₁,toks:=tk}:=fun tk=>by
  refine Md (fun n s'=>∃i ys o o2 H',Inv (X.bA N scope cl s3 (upd H2 D (.lst [])) fp) [] (o::o2::ρ σ) H' s'∧tn i s'.heap∧(∀b∈fp,H' b=none)∧W i n ys H') ?_ m0
   ⟨0,[],none,none,_,IB tk,T.keep _ _ _ hG fun b hb o e=>d7 _ _ (gF _ _ e),fun b hb=>by rw [aB (uE b hb)];exact (f2 b hb).1,w0⟩
  rintro n s4 ⟨i,ys,o,o2,H4,I4,mL,mM,w4⟩
  obtain ⟨En,uH⟩:=turn i n ys H4 w4
  rcases uH with ⟨stop,qn⟩ | ⟨go,step⟩
  ·refine bG (T.done (X.bA N scope cl s3 (upd H2 D (.lst [])) fp) rfl rfl rfl hc i [] s4 _ H4 (fun _ _=>False) I4 (fR mM) mL stop) (fun r s5 ⟨hr,I5⟩=>?_) fun _ _ z=>z.elim
   subst hr
   exact fin I5 qn
  ·refine bG (T.item (X.bA N scope cl s3 (upd H2 D (.lst [])) fp) rfl rfl rfl hc i [] s4 _ H4 (fun _ _=>False) I4 (fR mM) mL go) (fun r s5 ⟨u,hr,h5⟩=>?_) fun _ _ z=>z.elim
   subst hr
   refine bG h5 (fun _ s5 ⟨y0,H5,I5,r5,y5,fS,nS⟩=>?_) fun _ _ z=>z.elim
   obtain ⟨Tt,x1,x2,e0,Mi,uI⟩:=step y0 _ y5
   subst e0
   have nU:=I5.pinned (fR nS) (T.obj _ _ fS)
   have pg:PG (X.bA N scope cl s3 (upd H2 D (.lst [])) fp) (.Tuple [.Name x px,.Name y py] uL tp) (Dr X.K 2 (zY (aT 0) (zY (aT 1) Dq))):=
    qG (X:=X.bA N scope cl s3 (upd H2 D (.lst [])) fp) hc (iL (cy (i:=0) B.nd B.n0 (.inl (ma B.hx)) (.inr (ma B.hx))) (iL (cy (i:=1) B.nd B.n1 (.inl (ma B.hy)) (.inr (ma B.hy))) qF))
   have again:∀{σ7:St} {H7:Hp} {s7:Shared},Inv (X.bA N scope cl s3 (upd H2 D (.lst [])) fp) ([]++j6 fp s5.heap) σ7 H7 s7→Inv (X.bA N scope cl s3 (upd H2 D (.lst [])) fp) [] σ7 H7 s7∧tn (i+1) s7.heap∧∀b∈fp,H7 b=none:=fun{σ7 H7 s7} I7=>by
    refine ⟨I7.qK,T.keep _ _ _ fS fun b hb o e=>(I7.pin (b,o) (dI _ (dI _ (mE hb e)))).1,fun b hb=>?_⟩
    obtain ⟨o,e,d⟩:=T.obj _ _ fS b hb
    exact (I7.pin (b,o) (dI _ (dI _ (mE hb e)))).2.1
   refine bG (pg _ s5 _ H5 (.ref Tt) u (fun σ2 H6=>σ2=some x1::some x2::ρ σ∧H6=H5) nU r5 ⟨Tt,_,rfl,Mi,rfl,_,_,rfl,_,_,rfl,rfl,rfl,rfl⟩) (fun _ s6 ⟨σ6,H6,I6,q6⟩=>?_) fun _ _ z=>z.elim
   obtain ⟨rfl,rfl⟩:=q6
   have tests:∀{ju:TT},mJ (X.bA N scope cl s3 (upd H2 D (.lst [])) fp) ifs ju→∀{R:Bool→Hp→Prop},ju (some x1::some x2::ρ σ) H6 R→wpAny (model X.prog X.w) X.A
     (forIn ifs true fun c r=>if r=true then do let ok ←isTrue c (compEnvC scope cl s3.heap.objs.size X.env) (eval c (compEnvC scope cl s3.heap.objs.size X.env));pure (ForInStep.yield ok) else pure (ForInStep.yield r))
     (fun ok s7=>∃H7,Inv (X.bA N scope cl s3 (upd H2 D (.lst [])) fp) ([]++j6 fp s5.heap) (some x1::some x2::ρ σ) H7 s7∧R ok H7) (fun _ _=>False) s6:=fun{ju} p {R} hR=>by
    cases p with
    | nil=>exact wpAny_tests_nil ⟨_,I6,hR⟩
    | one p=>exact wpAny_tests_one (p _ s6 _ _ _ I6 hR)
   refine bG (tests (ht s3 _ fp) uI) (fun ok s7 ⟨H7,I7,q7⟩=>?_) fun _ _ z=>z.elim
   cases ok with
   | false=>
    obtain ⟨m',jv,w7⟩:=q7
    obtain ⟨a1,a2,a3⟩:=again I7
    exact ⟨m',jv,i+1,ys,_,_,H7,a1,a2,a3,w7⟩
   | true=>
    refine bG (he s3 _ fp _ s7 _ H7 _ I7 q7) (fun ev s8 ⟨z,H8,I8,r8,uJ,hz,m',jv,w8⟩=>?_) fun _ _ z=>z.elim
    refine bG (ic (X:=X.bA N scope cl s3 (upd H2 D (.lst [])) fp) _ s8 _ H8 (.ref D) [z] (.ref D) [ev] (fun _ H9=>H9=upd H8 D (.lst (ys++[z]))) I8 rfl (.cons r8 .nil) ⟨D,ys,z,rfl,rfl,uJ,hz,rfl⟩) (fun _ s9 ⟨_,H9,I9,_,q9⟩=>?_) fun _ _ z=>z.elim
    subst q9
    obtain ⟨a1,a2,a3⟩:=again I9
    exact ⟨m',jv,i+1,ys++[z],_,_,_,a1,a2,a3,w8⟩
 have start:=loop (s3.toks+([]:List (Str×Value)).length)
 have es:({s3 with heap:=h₁,toks:=s3.toks+([]:List (Str×Value)).length}:Shared)={s2 with heap:=h₁,toks:=s2.toks+([]:List (Str×Value)).length}:=by rw [←jr]
 rw [es] at start
 exact zG start (T.self _ 0 _ _ _ (T.keep _ _ _ hG fun b hb o e=>d7 _ _ (gF _ _ e)) start)
end
section
variable {X:Cx}
def anyR(K:aG):List V→Hp→VK→Prop:=fun xs H Q=>∃(p:Addr) (bs:List Bool),xs=[.ref p]∧bj K H p (bs.map V.bl)∧Q (.bl (bs.any id)) H
variable {K:aG}
theorem Mj(hc:X.calm=true)(hK:X.K=K:=by rfl):en X (.builtin "any") (anyR K):=by
 intro pins s σ H xs us Q I r h;subst hK;obtain ⟨p,bs,rfl,hq,q⟩:=h;obtain ⟨u,rfl,ru⟩:=vals1 r;cases ru;obtain ⟨ai,rv,pl,hz⟩:=I.list hq;have og:p≠s.heap.objs.size:=by obtain ⟨o,e,_⟩:=pl.isList;exact bC (aW e)
 have hl:ai.length=bs.length:=by rw [←rv.length,aE]
 refine call_any_walk (tJ pl.isList ?_);refine ⟨s.heap.objs.size,_,_,_,_,_,fun i=>bs.getD i false,rfl,Walks.list (A:=X.A.in1) (show X.A.in1.handled=none from I.ok.hd hc) s.heap.objs.size p og ai.toArray,⟨⟨_,cM _ rfl,rfl,rfl⟩,pl.isList.push _⟩,fun i v s' Q' E' hv qR=>?_,fun h' tk hk=>?_⟩
 ·have fH:ai[i]?=some v:=by simpa using hv
  cases eb:bs[i]? with
  | none=>
   have:=rv.none_of (i:=i) (by rw [bU,eb];rfl)
   rw [this] at fH;cases fH
  | some b=>
   obtain ⟨u,hu,ru⟩:=rv.get (i:=i) (x:=V.bl b) (by rw [bU,eb];rfl)
   rw [hu] at fH;cases fH;cases ru;have e:bs.getD i false=b:=by rw [dU,eb];rfl
   have uK:Q' (bs.getD i false) s':=qR;rw [e] at uK;exact kD uK
 ·refine ⟨.bl (bs.any id),H,I.kept fun b o e=>hk b o (fun z=>?_) (bQ _ e),?_,q⟩
  ·exact absurd (aW e) (by rw [bR.mp z];exact dB _)
  ·show Value.bool _=Value.bool _
   congr 1
   rw [bM,hl];clear hk q rv pl hz hl hq
   induction bs with
   | nil=>rfl
   | cons b bs ih=>rw [dS,List.range_succ_eq_map,m8,List.any_map,m8];show (b || (List.range bs.length).any fun i=>bs.getD i false)=(b || bs.any id);rw [ih]
def Mk(K:aG):List V→Hp→VK→Prop:=fun xs H Q=>∃(p:Addr) (ns:List Int),xs=[.ref p]∧bj K H p (ns.map V.int)∧Q (.int ns.sum) H
theorem Ml:∀(ns:List Int),preSum (fun i=>ns.getD i 0) ns.length=ns.sum:=by
 intro ns;have key:∀k,k≤ns.length→preSum (fun i=>ns.getD i 0) k=(ns.take k).sum:=by
  intro k
  induction k with
  | zero=>intro _;rfl
  | succ k ih=>
   intro hk;show preSum (fun i=>ns.getD i 0) k+ns.getD k 0=_;rw [ih (by omega),List.take_add_one,List.sum_append]
   have e:ns[k]?=some ns[k]:=by simp [show k<ns.length by omega]
   rw [dU,e];simp
 rw [key ns.length (ay _),gX]
theorem Mm(hc:X.calm=true)(hK:X.K=K:=by rfl):en X (.builtin "sum") (Mk K):=by
 intro pins s σ H xs us Q I r h;subst hK;obtain ⟨p,ns,rfl,hq,q⟩:=h;obtain ⟨u,rfl,ru⟩:=vals1 r;cases ru;obtain ⟨ai,rv,pl,hz⟩:=I.list hq;have og:p≠s.heap.objs.size:=by obtain ⟨o,e,_⟩:=pl.isList;exact bC (aW e)
 have hl:ai.length=ns.length:=by rw [←rv.length,aE]
 refine call_sum_walkG (tJ pl.isList ?_);refine ⟨s.heap.objs.size,_,_,_,_,_,fun i=>ns.getD i 0,rfl,Walks.list (A:=X.A.in1) (show X.A.in1.handled=none from I.ok.hd hc) s.heap.objs.size p og ai.toArray,⟨⟨_,cM _ rfl,rfl,rfl⟩,pl.isList.push _⟩,?_,fun i v hv=>?_,fun h' tk t' hk=>?_⟩
 ·intro b hb
  rw [Heap.size_push];simp only [b6,m9,or_false] at hb;rcases hb with rfl | rfl;·exact Nat.lt_succ_self _
  ·obtain ⟨o,e,_⟩:=pl.isList
   exact jQ (aW e)
 ·have fH:ai[i]?=some v:=by simpa using hv
  cases eb:ns[i]? with
  | none=>
   have:=rv.none_of (i:=i) (by rw [bU,eb];rfl)
   rw [this] at fH;cases fH
  | some b=>
   obtain ⟨u,hu,ru⟩:=rv.get (i:=i) (x:=V.int b) (by rw [bU,eb];rfl)
   rw [hu] at fH;cases fH;obtain ⟨t,rfl⟩:=ru;exact ⟨t,by show Value.int b t=Value.int (ns.getD i 0) t;rw [dU,eb];rfl⟩
 ·refine ⟨.int ns.sum,H,I.kept fun b o e=>hk b o (fun z=>?_) (bQ _ e),⟨t',?_⟩,q⟩
  ·exact absurd (aW e) (by rw [bR.mp z];exact dB _)
  ·congr 1
   rw [bM,hl];exact Ml ns
end
theorem boot_any:bootBuiltins "any"=some (.builtin "any"):=by decide +kernel
theorem boot_sum:bootBuiltins "sum"=some (.builtin "sum"):=by decide +kernel
section
variable {M:Model} {A:Around} {E:aF} {s:Shared}
end
section
variable {X:Cx} {N:List Str} {scope:Scope} {cl:List (Str×Addr)} {x:Str} {px pos:Pos} {iter elt:Expr} {ifs:List Expr} {wi:TI} {ρ:St→St} {tt:TT} {te:TE}
end
theorem Ex{v:V}(h:gz v=true):gA v v=true:=by
 cases v with
 | aP=>rfl
 | bl b=>show (b == b)=true;simp
 | int i=>show (i == i)=true;simp
 | str x=>show (x == x)=true;simp
 | _=>cases h
theorem all_range(n:Nat):(List.range n).all (fun _=>true)=true:=by simp
section
variable {X:Cx} {pins:aO} {σ:St} {H:Hp} {s:Shared}
end
section
variable {X:Cx}
end
section
variable {X:Cx} {N:List Str} {scope:Scope} {cl:List (Str×Addr)} {x:Str} {px pos:Pos} {iter elt:Expr} {ifs:List Expr} {wi:TI} {ρ:St→St} {tt:TT} {te:TE}
end
theorem qW(eK:∀R:It→Hp→Prop,(∀J H1,aj H H1→jw J xs H1→R J H1)→wi σ H R)(hn:xs.length<sizeLine)
  (P:Addr→Nat→V→Hp→Prop) (mono:∀D i y H H' ys,P D i y H→H D=some (.lst ys)→(∀b o,b≠D→H b=some o→H' b=some o)→P D i y H')
  (step:∀D i x,xs[i]?=some x→∀(Hc:Hp) (R:VK),aj H Hc→(∃ys,Hc D=some (.lst ys))→(∀y H3,aj Hc H3→P D i y H3→R y H3)→te (some x::ρ σ) Hc R)
  (fin:∀D ys Hc,H D=none→aj H Hc→ys.length=xs.length→(∀(i:Nat) (y:V),ys[i]?=some y→P D i y Hc)→Hc D=some (.lst ys)→Q (.ref D) Hc):ie wi ρ (fun _ H Q=>Q true H) te σ H Q:=by
 refine eK _ fun J H1 s1 js=>?_;intro D nD;have hD:H D=none:=by
  cases e:H D with
  | none=>rfl
  | some o=>rw [s1 _ _ e] at nD;cases nD
 exact Et (ρσ:=ρ σ) (te:=te) (Q:=Q) js nD hn (P D) (mono D) (fun i x hx Hc R sc=>step D i x hx Hc R (s1.trans sc)) (fun ys Hc sc=>fin D ys Hc hD (s1.trans sc))
section
variable {X:Cx} {K:aG}
theorem Ey(hK:X.K=K:=by rfl):ur X (D5 K):=by subst hK;exact dg
def Mn(K:aG):List V→Hp→VK→Prop:=fun xs H Q=>∃p ys,xs=[.ref p]∧(bj K H p ys∨dc K H p ys)∧Q (.int (ys.length:Int)) H
theorem Ez(hK:X.K=K:=by rfl):en X (.builtin "len") (Mn K):=by subst hK;exact ke
end
end L2
namespace My
open PySem L2
variable {te:TE} {σ:St} {H:Hp}
theorem uN{r:List V→Hp→VK→Prop}{Q:VK}(h:te σ H fun x H1=>r [x] H1 Q):uo r (uj te z_) σ H Q:=h
theorem AB{D:Ends}(h:te σ H D.rt):Dn te D σ H:=h
theorem Mo{vs:List V}{b:Bool}(h:∀(i:Nat) (v:V),vs[i]?=some v→v=.bl b):vs=(List.replicate vs.length b).map V.bl:=by
 refine List.ext_getElem? fun i=>?_;rw [bU];by_cases hi:i<vs.length
 ·rw [show vs[i]?=some vs[i] by simp [hi],h i vs[i] (by simp [hi])]
  simp [hi]
 ·rw [List.getElem?_eq_none (by omega),List.getElem?_eq_none (by simp;omega)]
  rfl
theorem Mp(n:Nat):(List.replicate n true).all id=true:=by simp
variable {H':Hp} {b:Addr}
theorem none_of(s:aj H H')(h:H' b=none):H b=none:=by
 cases e:H b with
 | none=>rfl
 | some o=>rw [s _ _ e] at h;cases h
theorem getD_at{α:Type}{xs:List α}{d:α}{i:Nat}(hi:i<xs.length):xs.getD i d=xs[i]:=by
 rw [dU,show xs[i]?=some xs[i] by simp [hi]]
 rfl
def er(P:Addr)(H:Hp):Hp:=fun b=>if b=P then none else H b
variable {P:Addr}
theorem xt:aj (er P H) H:=fun b o e=>by
 unfold er at e
 split at e
 ·cases e
 ·exact e
theorem eA(h:b≠P):er P H b=H b:=aa h
variable {o:HO}
theorem AD(h:b≠P)(e:H b=some o):er P H b=some o:=by rw [eA h];exact e
theorem xu(s:aj H H'):aj (er P H) (er P H'):=fun b o e=>by
 unfold er at e ⊢
 split at e
 ·cases e
 ·rename_i h
  rw [aa h];exact s _ _ e
theorem EA:er P (upd H P o)=er P H:=funext fun b=>by
 unfold er
 split
 ·rfl
 ·rename_i h
  exact aB h
def b3(H:Hp)(P a:Addr):Prop:=∃x y:Int,H P=some (.lst [.ref a,.int x,.int y])∧0≤x∧0≤y
variable {a:Addr}
theorem b3.mono(h:b3 H P a)(s:aj H H'):b3 H' P a:=by obtain ⟨x,y,e,h1,h2⟩:=h;exact ⟨x,y,s _ _ e,h1,h2⟩
variable {D:Addr}
theorem b3.upd(h:b3 H P a)(n:D≠P):b3 (L2.upd H D o) P a:=by obtain ⟨x,y,e,h1,h2⟩:=h;exact ⟨x,y,by rw [aB n.symm];exact e,h1,h2⟩
theorem b3.ne(h:b3 H P a)(n:H D=none):D≠P:=fun z=>by obtain ⟨x,y,e,_⟩:=h;rw [z,e] at n;cases n
def aM(P:Addr)(H H':Hp):Prop:=aj (er P H) (er P H')
theorem aM.refl(H:Hp):aM P H H:=aj.refl _
theorem aM.trans{H2:Hp}(s:aM P H H')(t:aM P H' H2):aM P H H2:=aj.trans s t
theorem aM.of(s:aj H H'):aM P H H':=xu s
theorem aM.kg:aM P H (upd H P o):=by unfold aM;rw [EA];exact aj.refl _
theorem aM.but(s:aM P H H')(n:H D=none):aM P H (upd H' D o):=fun b u e=>by
 have e0:=s b u e;have nb:b≠P:=fun z=>by unfold er at e;rw [ae z] at e;cases e
 rw [eA nb] at e e0 ⊢;rw [aB (jY e n)];exact e0
theorem aM.at(s:aM P H H')(nb:b≠P)(e:H b=some o):H' b=some o:=by have z:=s b o (AD nb e);rw [eA nb] at z;exact z
end My
namespace L2
open PySem PySem.Spec PyProof.Rows
end L2
namespace My
open PySem L2
def Mq:Sp:=fun vs H Q _=>∃c a:Int,vs=[.int c,.int a]∧0≤a∧∀r:Int,0≤r→Q (.int r) H
def Mr(K:aG):Sp:=fun vs H Q _=>∃(P a:Addr) (ns:List Int) (many:Int),vs=[.ref P,.int many]∧b3 H P a∧bj K (er P H) a (ns.map V.int)∧1≤many∧fG many∧∀(r:Int) (H':Hp),0≤r→r<many→aM P H H'→b3 H' P a→Q (.int r) H'
end My
namespace L2
open PySem PySem.Spec PyProof.Rows
end L2
namespace My
open PySem L2
end My
namespace L2
open PySem PySem.Spec PyProof.Rows
def uO(K:aG)(l:Addr):It:=
  ⟨fun i H=>∃xs x,bj K H l xs∧xs[i]?=some x,
   fun i H v H'=>∃T x,H T=none∧v=.ref T∧H'=upd H T (.tup [.int (i:Int),x])∧∀xs,bj K H l xs→xs[i]?=some x,
   fun i H=>∃xs,bj K H l xs∧xs.length≤i⟩
variable {K:aG} {l:Addr}
theorem Ms{P:Program}{w:World}{elts:List Expr}{k:Nat}{pos:Pos}{e it:Addr}(EB:e≠it):Turn P w K (.Tuple elts k pos) (uO K l) [e,it] e
  (fun i h=>(∃old,IsEnum h e it (i:Int) old)∧h.IsListIter it l i) where
 mem:=by simp
 obj:=fun i h st b hb=>by
  obtain ⟨⟨old,he⟩,h1⟩:=st;simp only [b6,m9,or_false] at hb;rcases hb with rfl | rfl;·exact ⟨_,he,fun v z=>by cases z⟩
  ·obtain ⟨o,e,c,d⟩:=h1
   exact ⟨o,e,fun v z=>by rw [d] at z;cases z⟩
 keep:=fun i h h' st k=>by obtain ⟨⟨old,he⟩,h1⟩:=st;exact ⟨⟨old,k _ (by simp) _ he⟩,h1.at fun o e=>k _ (by simp) o e⟩
 item:=by
  intro X hP hw hK hc i pins s σ H E I hf st hg;subst hP hw hK;obtain ⟨⟨old,he⟩,h1⟩:=st;obtain ⟨xs,x,qX,hx⟩:=hg;obtain ⟨ai,rv,p,_⟩:=I.list qX;obtain ⟨u,hu,ru⟩:=rv.get hx;refine wpAny_pyNext_enum_item he h1 p.isList (x:=u) (by simpa using hu) EB fun h' g1 g2 g3 g4 g5=>⟨_,rfl,?_⟩
  refine wpAny_letOwnedTupleGo_enum g1 fun xv q1 sb=>?_;have EC:H s.heap.objs.size=none:=I.ax.fresh (ay _);have lt:∀b o,s.heap.get? b=some o→b≠s.heap.objs.size:=fun b o e=>bC (aW e);have keep:∀b o,b∉[e,it]→s.heap.get? b=some o→xv.get? b=some o:=fun b o nb e=>by simp only [b6,m9,or_false,not_or] at nb;exact sb.extBut _ _ nb.1 (g5 b o nb.1 nb.2 e)
  have elt:e≠s.heap.objs.size:=lt _ _ he;have pT:=sb.extBut _ _ elt.symm g3;have uP:∀{b:Addr} {o:HO} (e:H b=some o),upd H s.heap.objs.size (.tup [.int (i:Int),x]) b=some o:=fun e=>by rw [aB (jY e EC)];exact e
  have ax:bY X.prog X.w (upd H s.heap.objs.size (.tup [.int (i:Int),x])) xv:=fun b o e=>by
   by_cases hb:b=s.heap.objs.size
   ·subst hb
    rw [aw] at e;cases e;exact ⟨by show 2≤sizeLine;decide,[.int i s.toks,u],.cons ⟨_,rfl⟩ (.cons ru .nil),⟨_,pT,rfl,_,rfl⟩⟩
   ·rw [aB hb] at e
    refine (I.ax b o e).g8 (fun c v iK q=>keep c v (fun m=>?_) q) (fun c q=>uP q) fun c xs q=>uP q;have nn:=(hf c m).1;rcases iK with rfl | iK;·rw [nn] at e;cases e
    ·rw [nn] at iK;cases iK
  have u1:Un (cm X.stack) [e,it] H (upd H s.heap.objs.size (.tup [.int (i:Int),x])) s.heap xv:=
   ⟨fun b o e n _ hx=>keep b o hx e,fun b o e n _ hx=>⟨o.slots,keep b o hx e⟩,fun b o e n hx=>by rw [aB (lt b o e)];exact n,fun b o e hx=>⟨o,keep b o hx e⟩,fun b xs e=>uP e,fun b o u e=>uP e,fun b ps e=>⟨#[],by rw [uP e];simp⟩⟩
  refine ⟨.ref s.heap.objs.size,upd H s.heap.objs.size (.tup [.int (i:Int),x]),I.qD (s':={s with heap:=xv,toks:=s.toks+1}) (ch:=[e,it]) rfl u1 ax I.bare (fun b hb=>?_),rfl,⟨_,x,EC,rfl,rfl,fun as ha=>by rw [I.Dm ha qX];exact hx⟩,?_,fun b hb=>?_⟩
  ·obtain ⟨f0,f1,f2,f3,f4,f5⟩:=hf b hb
   exact ⟨f3,f1,f4,f5⟩
  ·refine ⟨⟨u,?_⟩,g2.extBut sb.extBut EB.symm⟩
   have z:((i+1:Nat):Int)=(i:Int)+1:=by omega
   rw [z];exact q1
  ·have nb:b≠s.heap.objs.size:=by
    simp only [b6,m9,or_false] at hb;rcases hb with rfl | rfl;·exact lt _ _ he
    ·obtain ⟨o,e,_⟩:=h1;exact lt _ _ e
   rw [aB nb];exact (hf b hb).1
 done:=by
  intro X hP hw hK hc i pins s σ H E I hf st hg;subst hP hw hK;obtain ⟨⟨old,he⟩,h1⟩:=st;obtain ⟨xs,qX,hx⟩:=hg;obtain ⟨ai,rv,p,_⟩:=I.list qX;have hl:=rv.length;refine wpAny_pyNext_enum_end (I.ok.hd hc) he h1 p.isList (by simp;omega) fun h' g=>⟨rfl,?_⟩
  have keep:∀b o,b∉[e,it]→s.heap.get? b=some o→h'.get? b=some o:=fun b o nb e=>by simp only [b6,m9,or_false,not_or] at nb;exact g b o nb.2 e
  have ax:bY X.prog X.w H h':=fun b o e=>by
   refine (I.ax b o e).g8 (fun c v iK q=>keep c v (fun m=>?_) q) (fun c q=>q) fun c xs q=>q;have nn:=(hf c m).1;rcases iK with rfl | iK;·rw [nn] at e;cases e
   ·rw [nn] at iK;cases iK
  have u1:Un (cm X.stack) [e,it] H H s.heap h':=
   ⟨fun b o e n _ hx=>keep b o hx e,fun b o e n _ hx=>⟨o.slots,keep b o hx e⟩,fun b o e n hx=>n,fun b o e hx=>⟨o,keep b o hx e⟩,fun b xs e=>e,fun b o u e=>e,fun b ps e=>⟨#[],by rw [e];simp⟩⟩
  refine I.qD (s':={s with heap:=h'}) (ch:=[e,it]) rfl u1 ax I.bare fun b hb=>?_;obtain ⟨f0,f1,f2,f3,f4,f5⟩:=hf b hb;exact ⟨f3,f1,f4,f5⟩
 self:=fun _ _ _ _ _ st h=>by obtain ⟨⟨old,he⟩,_⟩:=st;exact wpAny_pyIter_enum he h
theorem boot_enumerate:bootBuiltins "enumerate"=some (.type "enumerate"):=by decide +kernel
def Mt(K:aG)(ta:TA):TI:=fun σ H R=>ta σ H fun vs H1=>∃l,vs=[.ref l]∧(∃xs,bj K H1 l xs)∧R (uO K l) H1
section
variable {X:Cx}
theorem Mu{elts:List Expr}{k:Nat}{wR:Pos}{a:Expr}{ta:TA}{p pos:Pos}(hg:Gl X "enumerate")(hm:X.mg "enumerate"=none)(ha:PA X [a] ta)(hs:starEach [a] X.env=[(false,eval a X.env)]:=by rfl) :
  PI X (.Tuple elts k wR) (.Call (.Name "enumerate" p) [a] [] pos) (Mt X.K ta):=by
 intro pins s σ H R I h;refine Call_ (ji I hg hm boot_enumerate (tK (aJ (ha pos pins s σ H _ I h) fun us s1 ⟨vs,H1,I1,r1,q1⟩=>?_) hs rfl));obtain ⟨l,e,⟨xs,qX⟩,q⟩:=q1;subst e;obtain ⟨u,rfl,ru⟩:=vals1 r1;cases ru;obtain ⟨ai,rv,p1,_⟩:=I1.list qX;refine call_enumerate_list p1.isList fun h' z1 z2 z3 z4=>?_;refine wpAny_pyIter_enum (s:={s1 with heap:=h'}) z1 ?_;refine ⟨_,_,_,_,H1,rfl,I1.kept (t':=s1.toks) z4,Ms (Nat.succ_ne_self _),⟨⟨_,z1⟩,z2⟩,fun b hb=>?_,q⟩;have le:s1.heap.objs.size≤b:=by
  simp only [b6,m9,or_false] at hb;rcases hb with rfl | rfl;·exact Nat.le_add_right ..
  ·exact ay _
 exact I1.nR le (I1.ax.fresh le)
end
theorem Mv{xs:List V}{g:TG}{tb:TS}{D:Ends}{σ:St}{H:Hp}(Pv:Nat→St→Hp→Prop)(h0:Pv 0 σ H)(hl:∀i σ H,Pv i σ H→bj K H l xs)
  (hs:∀(i:Nat) (x:V) σ H T,xs[i]?=some x→Pv i σ H→H T=none→g (.ref T) σ (upd H T (.tup [.int (i:Int),x])) fun σ2 H2=>tb {D with nx:=Pv (i+1),ct:=Pv (i+1),bk:=D.nx} σ2 H2) (hd:∀σ H,Pv xs.length σ H→D.nx σ H) :
  ∃W:Nat→Nat→St→Hp→Prop,(∃m,W 0 m σ H)∧∀i m σ H,W i m σ H→
   ((uO K l).stop i H∧D.nx σ H)∨((uO K l).go i H∧∃N:St→Hp→Prop,(∀σ' H',N σ' H'→∃m',m'<m∧W (i+1) m' σ' H')∧∀x H',(uO K l).du i H x H'→g x σ H' fun σ2 H2=>tb {D with nx:=N,ct:=N,bk:=D.nx} σ2 H2):=by
 refine ⟨fun i m σ H=>m=xs.length-i∧i≤xs.length∧Pv i σ H,⟨xs.length,by simp,bH _,h0⟩,?_⟩
 rintro i m σ H ⟨rfl,hi,p⟩;have q1:=hl i σ H p;by_cases a7:i<xs.length
 ·refine .inr ⟨⟨xs,xs[i],q1,by simp [a7]⟩,Pv (i+1),fun σ' H' p'=>⟨xs.length-(i+1),by omega,rfl,a7,p'⟩,fun v H' hy=>?_⟩
  obtain ⟨T,x,nT,rfl,rfl,hx⟩:=hy;exact hs i x σ H T (hx xs q1) p nT
 ·have e:i=xs.length:=by omega
  subst e;exact .inl ⟨⟨xs,q1,ay _⟩,hd σ H p⟩
end L2
namespace My
open PySem L2
end My
namespace L2
open PySem PySem.Spec PyProof.Rows
section
variable {X:Cx} {tg:Expr}
def uQ(lo:Int)(n:Nat):It:=⟨fun i _=>i<n,fun i H x H'=>H'=H∧x=.int (lo-i),fun i _=>n≤i⟩
theorem Mw{P:Program}{w:World}{K:aG}(it:Addr)(lo:Int)(n:Nat):Turn P w K tg (uQ lo n) [it] it (fun i h=>IsRangeIter h it (lo+(i:Nat)*(-1)) ((n:Int)-(i:Nat)) (-1)) where
 mem:=by simp
 obj:=fun i h st b hb=>by
  have e:b=it:=by simpa using hb
  subst e;exact ⟨_,st,fun v z=>by have z':Data.fields _=Data.cell v:=z;cases z'⟩
 keep:=fun i h h' st k=>k it (by simp) _ st
 item:=by
  intro X hP hw hK hc i pins s σ H E I hf st hg;subst hP hw hK;obtain ⟨f0,f1,f2,f3,f4,f5⟩:=hf it (by simp)
  have W:=Walks.range (prog:=X.prog) (w:=X.w) (I.ok.hd hc) it lo (-1) n;refine W.item i s _ _ hg st fun v h' tk hv av kk=>?_;obtain ⟨t,rfl⟩:=hv;have I1:Inv X pins σ H {s with heap:=h',toks:=tk}:=I.turned (fun b o hb e=>kk b o (by simpa using hb) e) f0 f1 f3 f4 f5
  refine ⟨_,rfl,qI (s:={s with heap:=h',toks:=tk}) (n:="range_iterator") av rfl rfl (by decide) ⟨.int (lo-i),H,I1,⟨t,?_⟩,⟨rfl,rfl⟩,av,fun b hb=>(hf b hb).1⟩⟩
  rw [show lo+(i:Int)*(-1)=lo-i by omega]
 done:=by
  intro X hP hw hK hc i pins s σ H E I hf st hg;subst hP hw hK;obtain ⟨f0,f1,f2,f3,f4,f5⟩:=hf it (by simp)
  exact wpAny_pyNext_range_end (I.ok.hd hc) st (by have:n≤i:=hg;omega) fun h' eb=>⟨rfl,I.turned (t':=s.toks) (fun b o hb e=>eb b o hb e) f0 f1 f3 f4 f5⟩
 self:=fun _ _ _ _ _ st h=>zv st h
theorem Mx{lo:Int}{n:Nat}{g:TG}{tb:TS}{D:Ends}{σ:St}{H:Hp}(Pv:Nat→St→Hp→Prop)(h0:Pv 0 σ H)
  (hs:∀i σ H,i<n→Pv i σ H→g (.int (lo-i)) σ H fun σ2 H2=>tb {D with nx:=Pv (i+1),ct:=Pv (i+1),bk:=D.nx} σ2 H2) (hd:∀σ H,Pv n σ H→D.nx σ H) :
  ∃W:Nat→Nat→St→Hp→Prop,(∃m,W 0 m σ H)∧∀i m σ H,W i m σ H→
   ((uQ lo n).stop i H∧D.nx σ H)∨((uQ lo n).go i H∧∃N:St→Hp→Prop,(∀σ' H',N σ' H'→∃m',m'<m∧W (i+1) m' σ' H')∧∀x H',(uQ lo n).du i H x H'→g x σ H' fun σ2 H2=>tb {D with nx:=N,ct:=N,bk:=D.nx} σ2 H2):=by
 refine ⟨fun i m σ H=>m=n-i∧i≤n∧Pv i σ H,⟨n,by simp,bH _,h0⟩,?_⟩
 rintro i m σ H ⟨rfl,hi,p⟩;by_cases a7:i<n
 ·refine .inr ⟨a7,Pv (i+1),fun σ' H' p'=>⟨n-(i+1),by omega,rfl,a7,p'⟩,fun x H' y=>?_⟩
  obtain ⟨e,y⟩:=y;subst e y;exact hs i σ _ a7 p
 ·have e:i=n:=by omega
  subst e;exact .inl ⟨ay _,hd σ H p⟩
end
section
variable {X:Cx} {e:Expr} {te:TE} {pos p2:Pos}
end
end L2
namespace My
open PySem L2
theorem AE{wi:TI}{ρ:St→St}{te:TE}{σ:St}{H:Hp}{Q:VK}{xs:List V}{n:Nat}(hl:xs.length=n)(eK:∀R:It→Hp→Prop,(∀J H1,aj H H1→jw J xs H1→R J H1)→wi σ H R)(hn:n<sizeLine)
  (P:Addr→Nat→Addr→Hp→Prop) (mono:∀D i y H H' ys,P D i y H→y≠D→H D=some (.lst ys)→(∀b o,b≠D→H b=some o→H' b=some o)→P D i y H')
  (step:∀D (i:Nat) (x:V),xs[i]?=some x→∀(Hc:Hp) (R:VK),aj H Hc→(∃ys,Hc D=some (.lst ys))→(∀y H3,aj Hc H3→Hc y=none→(∃o,H3 y=some o)→P D i y H3→R (.ref y) H3)→te (some x::ρ σ) Hc R)
  (fin:∀D (A:Nat→Addr) Hc,H D=none→aj H Hc→(∀i j,i<n→j<n→A i=A j→i=j)→(∀i,i<n→P D i (A i) Hc∧A i≠D)→Hc D=some (.lst ((List.range n).map fun i=>V.ref (A i)))→Q (.ref D) Hc):ie wi ρ (fun _ H Q=>Q true H) te σ H Q:=by
 refine eK _ fun J H1 s1 js=>?_;intro D nD;have hD:H D=none:=by
  cases e:H D with
  | none=>rfl
  | some o=>rw [s1 _ _ e] at nD;cases nD
 refine ⟨fun i m ys Hc=>m=n-i∧i≤n∧Hc D=some (.lst ys)∧aj H1 Hc∧∃A:Nat→Addr,ys=(List.range i).map (fun j=>V.ref (A j))∧(∀a b,a<i→b<i→A a=A b→a=b)∧∀j,j<i→P D j (A j) Hc∧A j≠D∧∃o,Hc (A j)=some o,⟨_,rfl,bH _,aw,eZ (aj.refl H1) nD,fun _=>D,rfl,(fun a b h=>by omega),fun j h=>by omega⟩,?_⟩
 rintro i m ys Hc ⟨rfl,hi,eD,sH,A,rfl,inj,hA⟩;refine ⟨eD,?_⟩;by_cases a7:i<n
 ·refine .inr ⟨js.go i Hc sH (by omega),fun x H' hy=>?_⟩
  obtain ⟨rfl,hx⟩:=js.du i Hc x H' sH hy;rw [ae rfl];refine step D i x (hx (by omega)) _ _ (s1.trans sH) ⟨_,eD⟩ fun y H3 s3 ny ⟨o,ho⟩ hp=>?_
  have e3:=s3 _ _ eD;have yD:y≠D:=fun e=>by rw [e,eD] at ny;cases ny
  have bZ:∀b o,b≠D→H3 b=some o→upd H3 D (.lst ((List.range i).map (fun j=>V.ref (A j))++[.ref y])) b=some o:=fun b o nb e=>by rw [aB nb];exact e
  have nA:∀j,j<i→A j≠y:=fun j hj e=>by obtain ⟨_,_,o',h'⟩:=hA j hj;rw [e,ny] at h';cases h'
  refine ⟨e3,by simp;omega,n-(i+1),by omega,rfl,a7,aw,eZ (sH.trans s3) nD,fun j=>if j=i then y else A j,?_,fun a b ha hb e=>?_,fun j hj=>?_⟩
  ·rw [List.range_succ,dJ]
   congr 1
   ·refine gu fun j hj=>?_
    dsimp only;rw [aa (by have:=cx.mp hj;omega)]
   ·simp
  ·dsimp only at e
   by_cases z1:a=i
   ·by_cases z2:b=i
    ·omega
    ·rw [ae z1,aa z2] at e
     exact absurd e.symm (nA b (by omega))
   ·by_cases z2:b=i
    ·rw [aa z1,ae z2] at e
     exact absurd e (nA a (by omega))
    ·rw [aa z1,aa z2] at e
     exact inj a b (by omega) (by omega) e
  ·dsimp only
   by_cases z:j=i
   ·rw [ae z,z]
    exact ⟨mono D i y H3 _ _ hp yD e3 bZ,yD,o,bZ _ _ yD ho⟩
   ·rw [aa z]
    obtain ⟨h1,h2,o',h3⟩:=hA j (by omega)
    exact ⟨mono D j (A j) H' _ _ h1 h2 eD (fun b o nb e=>bZ b o nb (s3 _ _ e)),h2,o',bZ _ _ h2 (s3 _ _ h3)⟩
 ·have e:i=n:=by omega
  subst e;exact .inl ⟨js.stop _ Hc sH (by omega),fin D A Hc hD (s1.trans sH) inj (fun j hj=>⟨(hA j hj).1,(hA j hj).2.1⟩) eD⟩
end My
namespace L2
open PySem PySem.Spec PyProof.Rows
theorem Mz{xs ys:List Int}(h:xs.length=ys.length):((List.range xs.length).all fun j=>gA (.int (xs.getD j 0)) (.int (ys.getD j 0)))=decide (xs=ys):=by
 by_cases e:xs=ys
 ·subst e
  rw [b8 rfl,qe];intro j _;exact Ex rfl
 ·rw [bP e]
  cases z:((List.range xs.length).all fun j=>gA (.int (xs.getD j 0)) (.int (ys.getD j 0))) with
  | false=>rfl
  | true=>refine absurd (jc h fun j h1 h2=>?_) e;have:=qe.mp z j (cx.mpr h1);have this:(xs.getD j 0 == ys.getD j 0)=true:=this;rw [beq_iff_eq,dU,dU] at this;simpa [h1,h2] using this
end L2
namespace My
open PySem L2
end My
namespace L2
open PySem PySem.Spec PyProof.Rows
end L2
namespace My
open PySem L2
end My
namespace L2
open PySem PySem.Spec PyProof.Rows
section
variable {X:Cx}
end
end L2
namespace My
open PySem L2
end My
namespace L2
open PySem PySem.Spec PyProof.Rows
end L2
namespace My
open PySem L2
end My
namespace L2
open PySem PySem.Spec PyProof.Rows
section
variable {X:Cx} {N:List Str} {scope:Scope} {cl:List (Str×Addr)} {x y:Str} {px py pos tp:Pos} {uL:Nat} {iter elt:Expr} {ifs:List Expr} {wi:TI} {ρ:St→St} {tt:TT} {te:TE}
end
section
variable {X:Cx} {pins:aO} {σ:St} {H:Hp} {s:Shared}
end
end L2
namespace My
open PySem PySem.W PyProof.Rows
section
variable {n:Nat} {c:Nat→Int}
def k8(n:Nat)(p:Array Nat):Prop:=p.Perm (List.toArray (List.range n))
theorem k8.size{p:Array Nat}(h:k8 n p):p.size=n:=by rw [Array.Perm.size_eq h];simp
def vN(c:Nat→Int)(p:Array Nat)(i:Nat):Int:=c (p.getD i 0)
def oi(c:Nat→Int)(p:Array Nat)(k:Nat):Prop:=∀a b,a≤b→b<k→vN c p a≤vN c p b
end
end My
namespace Tm
open PySem PySem.W PyProof.Rows
def mO:Bool→Keyed→Array Keyed→Nat→Nat→Nat→StateT SortSt Sem (Option Nat):=sortPriv% PySem.Builtin.gallop
def uR:Nat→StateT SortSt Sem Unit:=sortPriv% PySem.Builtin.setMinGallop
def AF:Array Keyed→Array Keyed→StateT SortSt Sem (Array Keyed):=sortPriv% PySem.Builtin.mergeLo
def AG:Array Keyed→Array Keyed→StateT SortSt Sem (Array Keyed):=sortPriv% PySem.Builtin.mergeHi
def oj(left:Bool)(key:Keyed)(arr:Array Keyed)(base i:Nat):StateT SortSt Sem (Option Bool):=do
 let x ←elem' arr (base+i)
 if left then lt' x key else return (←lt' key x).map (!·)
theorem MA(left:Bool)(key:Keyed)(arr:Array Keyed)(base n hint:Nat):mO left key arr base n hint=(do
 let mut xw:=0
 let mut bb:=1
 let mut lo:=0
 let mut hi:=0
 let some right ←oj left key arr base hint | return none
 if right then
  let uS:=n-hint
  for _ in [0:n] do
   if bb≥uS then break
   let some more ←oj left key arr base (hint+bb) | return none
   if !more then break
   xw:=bb
   bb:=2*bb+1
  lo:=hint+xw+1
  hi:=hint+min bb uS
 else
  let uS:=hint+1
  for _ in [0:n] do
   if bb≥uS then break
   let some found ←oj left key arr base (hint-bb) | return none
   if found then break
   xw:=bb
   bb:=2*bb+1
  lo:=hint+1-min bb uS
  hi:=hint-xw
 for _ in [0:n] do
  if lo≥hi then break
  let m:=lo+(hi-lo) / 2
  let some more ←oj left key arr base m | return none
  if more then lo:=m+1 else hi:=m
 return some hi):=rfl
section
variable {prog:Program} {w:World} {A:Around} {E:aF} {s:Shared} {κ:SortKind} {key:Keyed→Int} {Ok:Keyed→Prop}
def iq(prog:Program)(w:World)(A:Around)(s:Shared)(κ:SortKind)(key:Keyed→Int)(Ok:Keyed→Prop):Prop:=
 ∀x y,Ok x→Ok y→∀C:Bool→Shared→Prop,C (decide (key x<key y)) s→wpAny (model prog w) A (keyLt' κ x.1 y.1) C (fun _ _=>False) s
variable {st:SortSt} {Q:Option Bool→SortSt→Prop}
theorem uT(h:iq prog w A s κ key Ok){x y:Keyed}(ox:Ok x)(oy:Ok y)(hk:kindOf st=κ)(q:Q (some (decide (key x<key y))) st):wpS (model prog w) A E s (lt' x y) Q st:=by rw [lt'_eq];refine ar (gY ?_);rw [hk];refine ar (wpS_lift (wpAny_attempt (bG (h x y ox oy (fun c s'=>s'=s∧wpS (model prog w) A E s (pure (some c)) Q st) ⟨rfl,aq q⟩) (fun c s' hc=>?_) fun _ _ hF=>hF.elim)));exact hc
def nn:Keyed:=(Value.none,Value.none)
variable {arr:Array Keyed} {i:Nat}
theorem bg(hi:i<arr.size){Q:Keyed→SortSt→Prop}(q:Q (arr.getD i nn) st):wpS (model prog w) A E s (elem' arr i) Q st:=by
 rw [elem'_eq];have e:arr[i]?=some (arr.getD i nn):=by simp [Array.getD,hi]
 rw [e];exact aq q
def d8(Ok:Keyed→Prop)(arr:Array Keyed):Prop:=∀i,i<arr.size→Ok (arr.getD i nn)
def bB(left:Bool)(k a:Int):Bool:=if left=true then decide (a<k) else !decide (k<a)
variable {left:Bool} {kx:Keyed} {base:Nat}
theorem gH(h:iq prog w A s κ key Ok)(hi:base+i<arr.size)(ha:d8 Ok arr)(ox:Ok kx)(hk:kindOf st=κ)(q:Q (some (bB left (key kx) (key (arr.getD (base+i) nn)))) st):wpS (model prog w) A E s (oj left kx arr base i) Q st:=by
 unfold oj;refine ar (bg hi ?_);unfold bB at q;cases left with
 | true=>rw [ae rfl] at q ⊢;exact uT h (ha _ hi) ox hk q
 | false=>
  rw [aa (by simp)] at q ⊢
  exact ar (uT h ox (ha _ hi) hk (aq q))
theorem gJ{n hint:Nat}{f:Nat→Bool}
  (hb:∀i,i<n→∀Q:Option Bool→SortSt→Prop,Q (some (f i)) st→wpS (model prog w) A E s (oj left kx arr base i) Q st)
  (hh:hint<n) (mono:∀i j,i≤j→j<n→f j=true→f i=true) {Q:Option Nat→SortSt→Prop}
  (k:∀m,m≤n→(∀i,i<m→f i=true)→(∀i,m≤i→i<n→f i=false)→Q (some m) st):wpS (model prog w) A E s (mO left kx arr base n hint) Q st:=by
 rw [MA];refine ar (hb hint hh _ ?_);dsimp only;have AH:∀i j,i≤j→j<n→f i=false→f j=false:=fun i j h1 h2 h3=>by
  cases e:f j with
  | false=>rfl
  | true=>rw [mono i j h1 h2 e] at h3;cases h3
 have bs:∀(lo hi:Nat) (body:Nat→Option (Option Nat)×Nat×Nat→StateT SortSt Sem (ForInStep (Option (Option Nat)×Nat×Nat))) (R:Option (Option Nat)×Nat×Nat→SortSt→Prop),lo≤hi→hi≤n→(∀i,i<lo→f i=true)→(∀i,hi≤i→i<n→f i=false)→
   (∀x lo hi (R:ForInStep (Option (Option Nat)×Nat×Nat)→SortSt→Prop),lo≥hi→R (.done (none,lo,hi)) st→wpS (model prog w) A E s (body x (none,lo,hi)) R st)→
   (∀x lo hi (R:ForInStep (Option (Option Nat)×Nat×Nat)→SortSt→Prop),lo<hi→hi≤n→R (.yield (if f (lo+(hi-lo) / 2)=true then (none,lo+(hi-lo) / 2+1,hi) else (none,lo,lo+(hi-lo) / 2))) st→wpS (model prog w) A E s (body x (none,lo,hi)) R st)→
   (∀m,m≤n→(∀i,i<m→f i=true)→(∀i,m≤i→i<n→f i=false)→R (none,m,m) st)→
   wpS (model prog w) A E s (forIn [0:n] (none,lo,hi) body) R st:=fun lo hi body R h1 h2 h3 h4 b1 b2 kk=>by
  refine eF (I:=fun x c av=>av=st∧∃lo hi,c=(none,lo,hi)∧lo≤hi∧hi≤n∧hi-lo+x≤n∧(∀i,i<lo→f i=true)∧(∀i,hi≤i→i<n→f i=false)) ?_ ?_ ⟨rfl,lo,hi,rfl,h1,h2,by omega,h3,h4⟩
  ·rintro x c av _ hx ⟨rfl,lo,hi,rfl,g1,g2,g3,g4,g5⟩
   by_cases z:lo≥hi
   ·refine b1 x lo hi _ z ?_
    obtain rfl:lo=hi:=by omega
    exact kk lo g2 g4 g5
   ·refine b2 x lo hi _ (by omega) g2 ?_
    cases e:f (lo+(hi-lo) / 2) with
    | true=>rw [ae rfl];exact ⟨rfl,_,_,rfl,by omega,g2,by omega,fun i aR=>mono i (lo+(hi-lo) / 2) (by omega) (by omega) e,g5⟩
    | false=>
     rw [aa (by simp)]
     exact ⟨rfl,_,_,rfl,by omega,by omega,by omega,g4,fun i h1 h2=>AH (lo+(hi-lo) / 2) i h1 h2 e⟩
  ·rintro c av ⟨rfl,lo,hi,rfl,g1,g2,g3,g4,g5⟩
   have:lo=hi:=by
    have:max 0 n=n:=by omega
    omega
   subst this;exact kk lo g2 g4 g5
 cases e:f hint with
 | true=>
  rw [ae rfl]
  refine ar (eR (eF (I:=fun x c av=>av=st∧∃la bb,c=(none,la,bb)∧x+1≤bb∧la<bb∧la<n-hint∧f (hint+la)=true)
   (Q:=fun c av=>av=st∧∃la bb,c=(none,la,bb)∧la<bb∧la<n-hint∧f (hint+la)=true∧(bb≥n-hint∨f (hint+bb)=false)) ?_ ?_ ⟨rfl,0,1,rfl,ay _,by omega,by omega,by simpa using e⟩) ?_)
  ·rintro x c av _ hx ⟨rfl,la,bb,rfl,g1,g2,g3,g4⟩
   dsimp only;by_cases z:bb≥n-hint
   ·rw [ae z]
    exact aq ⟨rfl,la,bb,rfl,g2,g3,g4,.inl z⟩
   ·rw [aa z]
    refine ar (hb _ (by omega) _ ?_)
    dsimp only;cases e':f (hint+bb) with
    | true=>
     rw [aa (by simp)]
     exact aq ⟨rfl,_,_,rfl,by omega,by omega,by omega,e'⟩
    | false=>
     rw [ae (by simp)]
     exact aq ⟨rfl,la,bb,rfl,g2,g3,g4,.inr e'⟩
  ·rintro c av ⟨rfl,la,bb,rfl,g1,g2,g3,g4⟩
   have:max 0 n=n:=by omega
   exact ⟨rfl,la,bb,rfl,g2,g3,g4,.inl (by omega)⟩
  ·rintro c av ⟨rfl,la,bb,rfl,g2,g3,g4,g5⟩
   refine ar (bs (hint+la+1) (hint+min bb (n-hint)) _ _ (by omega) (by omega) (fun i hi=>mono i (hint+la) (by omega) (by omega) g4) (fun i h1 h2=>?_) ?_ ?_ ?_)
   ·rcases g5 with g5 | g5
    ·omega
    ·by_cases z:bb≥n-hint
     ·omega
     ·exact AH (hint+bb) i (by omega) h2 g5
   ·intro x lo hi R z hR
    dsimp only;rw [ae z];exact aq hR
   ·intro x lo hi R z z2 hR
    dsimp only;rw [aa (by omega)]
    refine ar (hb _ (by omega) _ ?_)
    dsimp only;cases e:f (lo+(hi-lo) / 2) with
    | true=>rw [e,ae rfl] at hR;rw [ae rfl];exact aq hR
    | false=>
     rw [e,aa (by simp)] at hR
     rw [aa (by simp)]
     exact aq hR
   ·exact fun m m1 m2 m3=>aq (k m m1 m2 m3)
 | false=>
  rw [aa (by simp)]
  refine ar (eR (eF (I:=fun x c av=>av=st∧∃la bb,c=(none,la,bb)∧x+1≤bb∧la<bb∧la≤hint∧f (hint-la)=false)
   (Q:=fun c av=>av=st∧∃la bb,c=(none,la,bb)∧la<bb∧la≤hint∧f (hint-la)=false∧(bb≥hint+1∨f (hint-bb)=true)) ?_ ?_ ⟨rfl,0,1,rfl,ay _,by omega,by omega,by simpa using e⟩) ?_)
  ·rintro x c av _ hx ⟨rfl,la,bb,rfl,g1,g2,g3,g4⟩
   dsimp only;by_cases z:bb≥hint+1
   ·rw [ae z]
    exact aq ⟨rfl,la,bb,rfl,g2,g3,g4,.inl z⟩
   ·rw [aa z]
    refine ar (hb _ (by omega) _ ?_)
    dsimp only;cases e':f (hint-bb) with
    | true=>rw [ae rfl];exact aq ⟨rfl,la,bb,rfl,g2,g3,g4,.inr e'⟩
    | false=>
     rw [aa (by simp)]
     exact aq ⟨rfl,_,_,rfl,by omega,by omega,by omega,e'⟩
  ·rintro c av ⟨rfl,la,bb,rfl,g1,g2,g3,g4⟩
   have:max 0 n=n:=by omega
   exact ⟨rfl,la,bb,rfl,g2,g3,g4,.inl (by omega)⟩
  ·rintro c av ⟨rfl,la,bb,rfl,g2,g3,g4,g5⟩
   refine ar (bs (hint+1-min bb (hint+1)) (hint-la) _ _ (by omega) (by omega) (fun i hi=>?_) (fun i h1 h2=>AH (hint-la) i (by omega) h2 g4) ?_ ?_ ?_)
   ·rcases g5 with g5 | g5
    ·omega
    ·by_cases z:bb≥hint+1
     ·omega
     ·exact mono i (hint-bb) (by omega) (by omega) g5
   ·intro x lo hi R z hR
    dsimp only;rw [ae z];exact aq hR
   ·intro x lo hi R z z2 hR
    dsimp only;rw [aa (by omega)]
    refine ar (hb _ (by omega) _ ?_)
    dsimp only;cases e:f (lo+(hi-lo) / 2) with
    | true=>rw [e,ae rfl] at hR;rw [ae rfl];exact aq hR
    | false=>
     rw [e,aa (by simp)] at hR
     rw [aa (by simp)]
     exact aq hR
   ·exact fun m m1 m2 m3=>aq (k m m1 m2 m3)
end
def a9(K:Keyed→Int)(l:List Keyed):Prop:=l.Pairwise fun x y=>K x≤K y
variable {K:Keyed→Int} {l:List Keyed}
theorem a9.take(h:a9 K l)(k:Nat):a9 K (l.take k):=List.Pairwise.sublist (List.take_sublist k l) h
theorem a9.drop(h:a9 K l)(k:Nat):a9 K (l.drop k):=List.Pairwise.sublist (List.drop_sublist k l) h
variable {m:List Keyed}
theorem a9.app(h:a9 K l)(h':a9 K m)(k:∀x∈l,∀y∈m,K x≤K y):a9 K (l++m):=tQ.mpr ⟨h,h',k⟩
structure MI (K:Keyed→Int) (A B O:List Keyed) (i j:Nat):Prop where
 pm:O.Perm (A.take i++B.take j)
 so:a9 K O
 ca:∀x∈O,∀y∈A.drop i,K x≤K y
 cb:∀x∈O,∀y∈B.drop j,K x≤K y
variable {A B O:List Keyed} {i j:Nat}
theorem MI.flip(h:MI K A B O i j):MI K B A O j i:=⟨h.pm.trans tR,h.so,h.cb,h.ca⟩
theorem MI.xx(h:MI K A B O i j)(sA:a9 K A)(k:Nat)(hk:∀x∈(A.drop i).take k,∀y∈B.drop j,K x≤K y):MI K A B (O++(A.drop i).take k) (i+k) j:=by
 have e:A.take (i+k)=A.take i++(A.drop i).take k:=List.take_add;have d:A.drop (i+k)=(A.drop i).drop k:=by rw [List.drop_drop]
 have sd:=sA.drop i;have sp:(A.drop i).take k++(A.drop i).drop k=A.drop i:=m_ ..;have cr:∀x∈(A.drop i).take k,∀y∈(A.drop i).drop k,K x≤K y:=by have:=sd;rw [←sp] at this;exact (tQ.mp this).2.2
 refine ⟨?_,h.so.app (sd.take k) fun x hx y hy=>h.ca x hx y (List.mem_of_mem_take hy),fun x hx y hy=>?_,fun x hx y hy=>?_⟩
 ·rw [e]
  refine (h.pm.append_right _).trans ?_;rw [gU,gU];exact zH _ tR
 ·rw [d] at hy
  rcases cL.mp hx with hx | hx;·exact h.ca x hx y (List.mem_of_mem_drop hy)
  ·exact cr x hx y hy
 ·rcases cL.mp hx with hx | hx
  ·exact h.cb x hx y hy
  ·exact hk x hx y hy
theorem MI.AI(h:MI K A B O i j)(sB:a9 K B)(k:Nat)(hk:∀x∈(B.drop j).take k,∀y∈A.drop i,K x≤K y):MI K A B (O++(B.drop j).take k) i (j+k):=(h.flip.xx sB k hk).flip
theorem MI.done(h:MI K A B O i j)(sA:a9 K A)(sB:a9 K B)(k:∀x∈A.drop i,∀y∈B.drop j,K x≤K y):(O++A.drop i++B.drop j).Perm (A++B)∧a9 K (O++A.drop i++B.drop j):=by
 refine ⟨?_,(h.so.app (sA.drop i) h.ca).app (sB.drop j) fun x hx y hy=>?_⟩
 ·have e1:A.take i++A.drop i=A:=m_ ..
  have e2:B.take j++B.drop j=B:=m_ ..;have:(A.take i++B.take j++A.drop i++B.drop j).Perm ((A.take i++A.drop i)++(B.take j++B.drop j)):=by rw [gU,gU,gU];refine zH _ ?_;rw [←gU,←gU];exact List.Perm.append_right _ tR
  rw [e1,e2] at this;exact ((h.pm.append_right _).append_right _).trans this
 ·rcases cL.mp hx with hx | hx
  ·exact h.cb x hx y hy
  ·exact k x hx y hy
theorem MI.ED(h:MI K A B O i j)(sA:a9 K A)(sB:a9 K B)(k:∀x∈A.drop i,∀y∈B.drop j,K y≤K x):(O++B.drop j++A.drop i).Perm (A++B)∧a9 K (O++B.drop j++A.drop i):=by have:=h.flip.done sB sA fun x hx y hy=>k y hy x hx;exact ⟨this.1.trans tR,this.2⟩
theorem MB(a b:Array Keyed):AF a b=(do
 rule "list.sort.merge-lo"
 let total:=a.size+b.size
 let done (out:Array Keyed) (ia ib:Nat):=out++a.extract ia a.size++b.extract ib b.size
 let xy (out:Array Keyed) (ia ib:Nat):=out++b.extract ib b.size++a.extract ia a.size
 let mut out:Array Keyed:=#[←elem' b 0]
 let mut ia:=0
 let mut ib:=1
 if ib == b.size then return done out ia ib
 if ia+1 == a.size then return xy out ia ib
 let mut minGallop:=gallopOf (←get)
 for _ in [0:total] do
  let mut ir:=0
  let mut iu:=0
  for _ in [0:total] do
   let some MC ←lt' (←elem' b ib) (←elem' a ia) | return done out ia ib
   if MC then
    out:=out.push (←elem' b ib);ib:=ib+1;iu:=iu+1;ir:=0
    if ib == b.size then return done out ia ib
    if iu≥minGallop then break
   else
    out:=out.push (←elem' a ia);ia:=ia+1;ir:=ir+1;iu:=0
    if ia+1 == a.size then return xy out ia ib
    if ir≥minGallop then break
  rule "list.sort.gallop"
  minGallop:=minGallop+1
  for _ in [0:total] do
   if minGallop>1 then minGallop:=minGallop-1
   uR minGallop
   let some k ←mO false (←elem' b ib) a ia (a.size-ia) 0 | return done out ia ib
   ir:=k
   if k>0 then
    out:=out++a.extract ia (ia+k);ia:=ia+k
    if ia+1 == a.size then return xy out ia ib
    if ia == a.size then return done out ia ib
   out:=out.push (←elem' b ib);ib:=ib+1
   if ib == b.size then return done out ia ib
   let some k ←mO true (←elem' a ia) b ib (b.size-ib) 0 | return done out ia ib
   iu:=k
   if k>0 then
    out:=out++b.extract ib (ib+k);ib:=ib+k
    if ib == b.size then return done out ia ib
   out:=out.push (←elem' a ia);ia:=ia+1
   if ia+1 == a.size then return xy out ia ib
   if ir<7 && iu<7 then break
  minGallop:=minGallop+1
  uR minGallop
 unsupported "internal:list.sort.merge-bound"):=rfl
section
variable {prog:Program} {w:World} {A:Around} {E:aF} {s:Shared} {κ:SortKind} {key:Keyed→Int} {Ok:Keyed→Prop}
def setG(st:SortSt)(g:Nat):SortSt:=SortSt.mk' (kindOf st) (arrOf st) (pendingOf st) g (failedOf st)
variable {a:Array Keyed}
theorem uU(hi:i<a.size):(a.toList.drop i).take 1=[a.getD i nn]:=by
 have hl:i<a.toList.length:=by simpa using hi
 rw [List.drop_eq_getElem_cons hl];simp [Array.getD,hi]
theorem iS(a:Array Keyed)(i j:Nat):(a.extract i j).toList=(a.toList.drop i).take (j-i):=by rw [Array.toList_extract,List.extract_eq_take_drop]
theorem xA(a:Array Keyed)(i:Nat):(a.extract i a.size).toList=a.toList.drop i:=by rw [iS];refine wb ?_;simp
variable {x:Keyed}
theorem om(h:x∈a.toList.drop i):∃j,i≤j∧j<a.size∧x=a.getD j nn:=by
 obtain ⟨j,hj,rfl⟩:=ng h;have cU:i+j<a.size:=by simp at hj;omega
 refine ⟨i+j,by omega,cU,?_⟩
 rw [List.getElem_drop];simp [Array.getD,cU]
theorem AJ{k:Nat}(h:x∈(a.toList.drop i).take k):∃j,j<k∧i+j<a.size∧x=a.getD (i+j) nn:=by
 obtain ⟨j,hj,rfl⟩:=ng h;have cU:i+j<a.size∧j<k:=by simp at hj;omega
 refine ⟨j,cU.2,cU.1,?_⟩;rw [List.getElem_take,List.getElem_drop];simp [Array.getD,cU.1]
theorem eN(h:a9 key a.toList)(xB:i≤j)(hj:j<a.size):key (a.getD i nn)≤key (a.getD j nn):=by
 have hi:i<a.size:=by omega
 by_cases e:i=j;·subst e;exact fO _
 ·have:=nh.mp h i j (by simpa using hi) (by simpa using hj) (by omega)
  simpa [Array.getD,hi,hj] using this
variable {st:SortSt}
theorem dZ{c:Prop}[Decidable c]{α:Type}{m1 m2:StateT SortSt Sem α}{Q:α→SortSt→Prop}(h1:c→wpS (model prog w) A E s m1 Q st)(h2:¬c→wpS (model prog w) A E s m2 Q st):wpS (model prog w) A E s (if c then m1 else m2) Q st:=by
 by_cases h:c;·rw [ae h];exact h1 h
 ·rw [aa h];exact h2 h
theorem qY{g:Nat}{Q:Unit→SortSt→Prop}(q:Q () (setG st g)):wpS (model prog w) A E s (uR g) Q st:=jd q
variable {k:Int}
theorem fW{a:Int}(h:bB true k a=true):a<k:=gZ h
theorem gK{a:Int}(h:bB true k a=false):k≤a:=Int.not_lt.mp (of_decide_eq_false h)
theorem kh{a:Int}(h:bB false k a=true):a≤k:=by have:(!decide (k<a))=true:=h;simpa using this
theorem mP{a:Int}(h:bB false k a=false):k<a:=by have:(!decide (k<a))=false:=h;simpa using this
variable {b:Array Keyed} {o:Nat}
theorem mQ(sb:a9 key b.toList):∀i j,i≤j→j<b.size-o→bB true k (key (b.getD (o+j) nn))=true→bB true k (key (b.getD (o+i) nn))=true:=fun i j h1 h2 h3=>b8 (Int.lt_of_le_of_lt (eN sb (by omega) (by omega)) (fW h3))
theorem xC(sb:a9 key b.toList):∀i j,i≤j→j<b.size-o→bB false k (key (b.getD (o+j) nn))=true→bB false k (key (b.getD (o+i) nn))=true:=fun i j h1 h2 h3=>by
 have:key (b.getD (o+i) nn)≤k:=cC (eN sb (by omega) (by omega)) (kh h3)
 show (!decide (k<key (b.getD (o+i) nn)))=true;simpa using this
section
variable {a b:Array Keyed} (sa:a9 key a.toList) (sb:a9 key b.toList) {out:Array Keyed} {ia ib:Nat}
include sa sb
theorem qZ(m:MI key a.toList b.toList out.toList ia ib)(hb:ib<b.size)(k:∀j,ia≤j→j<a.size→key (b.getD ib nn)≤key (a.getD j nn)):MI key a.toList b.toList (out.push (b.getD ib nn)).toList ia (ib+1):=by
 have:=m.AI sb 1 fun x hx y hy=>by rw [uU hb,bR] at hx;subst hx;obtain ⟨j,h1,h2,rfl⟩:=om hy;exact k j h1 h2
 rw [uU hb] at this;rw [md];exact this
theorem k_(m:MI key a.toList b.toList out.toList ia ib)(ha:ia<a.size)(k:∀j,ib≤j→j<b.size→key (a.getD ia nn)≤key (b.getD j nn)):MI key a.toList b.toList (out.push (a.getD ia nn)).toList (ia+1) ib:=by
 have:=m.xx sa 1 fun x hx y hy=>by rw [uU ha,bR] at hx;subst hx;obtain ⟨j,h1,h2,rfl⟩:=om hy;exact k j h1 h2
 rw [uU ha] at this;rw [md];exact this
variable {n:Nat}
theorem EE(m:MI key a.toList b.toList out.toList ia ib)(k:∀i j,i<n→ia+i<a.size→ib≤j→j<b.size→key (a.getD (ia+i) nn)≤key (b.getD j nn)):MI key a.toList b.toList (out++a.extract ia (ia+n)).toList (ia+n) ib:=by
 have:=m.xx sa n fun x hx y hy=>by obtain ⟨i,h3,h4,rfl⟩:=AJ hx;obtain ⟨j,h1,h2,rfl⟩:=om hy;exact k i j h3 h4 h1 h2
 rw [jR,iS,show ia+n-ia=n by omega]
 exact this
theorem xD(m:MI key a.toList b.toList out.toList ia ib)(k:∀i j,i<n→ib+i<b.size→ia≤j→j<a.size→key (b.getD (ib+i) nn)≤key (a.getD j nn)):MI key a.toList b.toList (out++b.extract ib (ib+n)).toList ia (ib+n):=by
 have:=m.AI sb n fun x hx y hy=>by obtain ⟨i,h3,h4,rfl⟩:=AJ hx;obtain ⟨j,h1,h2,rfl⟩:=om hy;exact k i j h3 h4 h1 h2
 rw [jR,iS,show ib+n-ib=n by omega]
 exact this
theorem iT(m:MI key a.toList b.toList out.toList ia ib)(e:ib=b.size∨ia=a.size):(out++a.extract ia a.size++b.extract ib b.size).toList.Perm (a.toList++b.toList)∧a9 key (out++a.extract ia a.size++b.extract ib b.size).toList:=by rw [jR,jR,xA,xA];refine m.done sa sb fun x hx y hy=>?_;obtain ⟨i,h1,h2,_⟩:=om hx;obtain ⟨j,h3,h4,_⟩:=om hy;omega
theorem iU(m:MI key a.toList b.toList out.toList ia ib)(hl:∀y∈b.toList,key y≤key (a.getD (a.size-1) nn))(e:ia+1=a.size):(out++b.extract ib b.size++a.extract ia a.size).toList.Perm (a.toList++b.toList)∧a9 key (out++b.extract ib b.size++a.extract ia a.size).toList:=by
 rw [jR,jR,xA,xA];refine m.ED sa sb fun x hx y hy=>?_;obtain ⟨i,h1,h2,rfl⟩:=om hx;have:=hl y (List.mem_of_mem_drop hy);rw [show i=a.size-1 by omega]
 exact this
end
theorem MD(h:iq prog w A s κ key Ok)(oa:d8 Ok a)(ob:d8 Ok b)(sa:a9 key a.toList)(sb:a9 key b.toList)(a1:1≤a.size)(b1:1≤b.size)
  (h0:∀x∈a.toList,key (b.getD 0 nn)≤key x) (hl:∀y∈b.toList,key y≤key (a.getD (a.size-1) nn)) (hk:kindOf st=κ) {Q:Array Keyed→SortSt→Prop}
  (q:∀m g,m.toList.Perm (a.toList++b.toList)→a9 key m.toList→Q m (setG st g)):wpS (model prog w) A E s (AF a b) Q st:=by
 rw [MB];refine ar (wpS_lift (je ⟨rfl,?_⟩));refine ar (bg (by omega) ?_)
 dsimp only;have m0:MI key a.toList b.toList (#[b.getD 0 nn]:Array Keyed).toList 0 1:=by
  have:MI key a.toList b.toList (#[]:Array Keyed).toList 0 0:=⟨by simp,List.Pairwise.nil,fun x hx=>by simp at hx,fun x hx=>by simp at hx⟩
  exact qZ sa sb this (by omega) fun j _ hj=>h0 _ (by simp [Array.getD,hj])
 have cn:∀g,kindOf (setG st g)=κ:=fun _=>hk;by_cases e1:(1 == b.size)=true
 ·rw [ae e1]
  have:=iT sa sb m0 (.inl (eq_of_beq e1));exact aq (q _ (gallopOf st) this.1 this.2)
 rw [aa e1];by_cases e2:(0+1 == a.size)=true
 ·rw [ae e2]
  have:=iU sa sb m0 hl (eq_of_beq e2);exact aq (q _ (gallopOf st) this.1 this.2)
 rw [aa e2];have b2:1<b.size:=by
  have:1≠b.size:=fun e=>e1 (by simp [←e])
  omega
 have a2:0+1<a.size:=by
  have:0+1≠a.size:=fun e=>e2 (by simp [←e])
  omega
 refine ar (gY ?_)
 refine ar (eR (eF (I:=fun x c av=>∃out ia ib mg g,c=(none,out,ia,ib,mg)∧av=setG st g∧MI key a.toList b.toList out.toList ia ib∧ia+1<a.size∧ib<b.size∧x≤ia+ib)
  (Q:=fun c av=>∃m g,c.1=some m∧av=setG st g∧m.toList.Perm (a.toList++b.toList)∧a9 key m.toList) ?_ ?_ ⟨_,_,_,_,gallopOf st,rfl,rfl,m0,a2,b2,bH _⟩) ?_)
 ·rintro x c av _ hx ⟨out,ia,ib,mg,g,rfl,rfl,mi,ha,hb,AK⟩
  dsimp only
  refine ar (eR (eF (I:=fun y c av=>∃out fI fX ac bc,c=(none,out,fI,fX,ac,bc)∧av=setG st g∧MI key a.toList b.toList out.toList fI fX∧fI+1<a.size∧fX<b.size∧ia+ib+y≤fI+fX)
   (Q:=fun c av=>av=setG st g∧((∃m,c.1=some m∧m.toList.Perm (a.toList++b.toList)∧a9 key m.toList)∨∃out fI fX ac bc,c=(none,out,fI,fX,ac,bc)∧MI key a.toList b.toList out.toList fI fX∧fI+1<a.size∧fX<b.size∧ia+ib+1≤fI+fX)) ?_ ?_ ⟨_,_,_,_,_,rfl,rfl,mi,ha,hb,ay _⟩) ?_)
  ·rintro y c av _ hy ⟨out,fI,fX,ac,bc,rfl,rfl,mi,ha,hb,fY⟩
   dsimp only;refine ar (bg hb (ar (bg (by omega) (ar (uT h (ob _ hb) (oa fI (by omega)) (cn _) ?_)))))
   dsimp only;by_cases z:key (b.getD fX nn)<key (a.getD fI nn)
   ·rw [b8 z,ae rfl]
    refine ar (bg hb ?_);have fZ:=qZ sa sb mi hb fun j h1 h2=>cC (cB z) (eN sa h1 h2);by_cases z1:(fX+1 == b.size)=true
    ·rw [ae z1]
     exact aq ⟨rfl,.inl ⟨_,rfl,iT sa sb fZ (.inl (eq_of_beq z1))⟩⟩
    ·rw [aa z1]
     have xE:fX+1≠b.size:=fun e=>z1 (by simp [←e])
     by_cases z2:bc+1≥mg
     ·rw [ae z2]
      exact aq ⟨rfl,.inr ⟨_,_,_,_,_,rfl,fZ,ha,by omega,by omega⟩⟩
     ·rw [aa z2]
      exact aq ⟨_,_,_,_,_,rfl,rfl,fZ,ha,by omega,by omega⟩
   ·rw [bP z,aa (by simp)]
    refine ar (bg (by omega) ?_)
    have fZ:=k_ sa sb mi (by omega) fun j h1 h2=>cC (Int.not_lt.mp z) (eN sb h1 h2)
    by_cases z1:(fI+1+1 == a.size)=true
    ·rw [ae z1]
     exact aq ⟨rfl,.inl ⟨_,rfl,iU sa sb fZ hl (eq_of_beq z1)⟩⟩
    ·rw [aa z1]
     have xE:fI+1+1≠a.size:=fun e=>z1 (by simp [←e])
     by_cases z2:ac+1≥mg
     ·rw [ae z2]
      exact aq ⟨rfl,.inr ⟨_,_,_,_,_,rfl,fZ,by omega,hb,by omega⟩⟩
     ·rw [aa z2]
      exact aq ⟨_,_,_,_,_,rfl,rfl,fZ,by omega,hb,by omega⟩
  ·rintro c av ⟨out,fI,fX,ac,bc,rfl,rfl,mi,ha,hb,fY⟩
   exact ⟨rfl,.inr ⟨_,_,_,_,_,rfl,mi,ha,hb,by omega⟩⟩
  ·rintro c av ⟨rfl,⟨m,e,pm⟩ | ⟨out,fI,fX,ac,bc,rfl,mi,ha,hb,fY⟩⟩
   ·obtain ⟨c1,c2⟩:=c
    dsimp only at e;subst e;exact aq ⟨m,g,rfl,rfl,pm⟩
   ·dsimp only
    refine ar (wpS_lift (je ⟨rfl,?_⟩))
    refine ar (eR (eF (I:=fun y c av=>∃out i j mg ac bc g,c=(none,out,i,j,mg,ac,bc)∧av=setG st g∧MI key a.toList b.toList out.toList i j∧i+1<a.size∧j<b.size∧x+1≤i+j)
     (Q:=fun c av=>(∃m g,c.1=some m∧av=setG st g∧m.toList.Perm (a.toList++b.toList)∧a9 key m.toList)∨∃out i j mg ac bc g,c=(none,out,i,j,mg,ac,bc)∧av=setG st g∧MI key a.toList b.toList out.toList i j∧i+1<a.size∧j<b.size∧x+1≤i+j) ?_ ?_ ⟨_,_,_,_,_,_,g,rfl,rfl,mi,ha,hb,by omega⟩) ?_)
    ·clear mi ha hb fY
     rintro y c av _ hy ⟨out,ia,ib,mg,ac,bc,g,rfl,rfl,mi,ha,hb,fY⟩;dsimp only;rcases Nat.lt_or_ge 1 mg with zm | zm
     ·rw [ae zm]
      refine ar (qY ?_);refine ar (bg hb (ar (gJ (f:=fun i=>bB false (key (b.getD ib nn)) (key (a.getD (ia+i) nn))) (fun i hi Q q=>gH h (by omega) oa (ob _ hb) (cn _) q) (by omega) (xC sa) fun k k1 k2 k3=>?_)))
      dsimp only;by_cases zk:k>0
      ·rw [ae zk]
       have f9:=EE sa sb mi (n:=k) fun i j hi aR hj cU=>cC (kh (k2 i hi)) (eN sb hj cU);by_cases w1:(ia+k+1 == a.size)=true
       ·rw [ae w1]
        exact aq (.inl ⟨_,_,rfl,rfl,iU sa sb f9 hl (eq_of_beq w1)⟩)
       ·rw [aa w1]
        have AL:ia+k+1≠a.size:=fun e=>w1 (by simp [←e])
        by_cases w2:(ia+k == a.size)=true
        ·rw [ae w2]
         exact aq (.inl ⟨_,_,rfl,rfl,iT sa sb f9 (.inr (eq_of_beq w2))⟩)
        ·rw [aa w2]
         have ME:ia+k≠a.size:=fun e=>w2 (by simp [←e])
         refine ar (bg hb ?_);have b4:=qZ sa sb f9 hb fun j h1 h2=>by have:=mP (k3 (j-ia) (by omega) (by omega));rw [show ia+(j-ia)=j by omega] at this;exact cB this
         by_cases x1:(ib+1 == b.size)=true
         ·rw [ae x1]
          exact aq (.inl ⟨_,_,rfl,rfl,iT sa sb b4 (.inl (eq_of_beq x1))⟩)
         ·rw [aa x1]
          have oo:ib+1≠b.size:=fun e=>x1 (by simp [←e])
          refine ar (bg (by omega) (ar (gJ (f:=fun i=>bB true (key (a.getD (ia+k) nn)) (key (b.getD (ib+1+i) nn))) (fun i hi Q q=>gH h (by omega) ob (oa _ (by omega)) (cn _) q) (by omega) (mQ sb) fun k' q1 q2 q3=>?_)))
          dsimp only;by_cases dF:k'>0
          ·rw [ae dF]
           have cW:=xD sa sb b4 (n:=k') fun i j hi aR hj cU=>cC (cB (fW (q2 i hi))) (eN sa hj cU);by_cases x2:(ib+1+k' == b.size)=true
           ·rw [ae x2]
            exact aq (.inl ⟨_,_,rfl,rfl,iT sa sb cW (.inl (eq_of_beq x2))⟩)
           ·rw [aa x2]
            have oq:ib+1+k'≠b.size:=fun e=>x2 (by simp [←e])
            refine ar (bg (by omega) ?_)
            have aU:=k_ sa sb cW (by omega) fun j h1 h2=>by have:=gK (q3 (j-(ib+1)) (by omega) (by omega));rwa [show ib+1+(j-(ib+1))=j by omega] at this
            by_cases y1:(ia+k+1+1 == a.size)=true
            ·rw [ae y1]
             exact aq (.inl ⟨_,_,rfl,rfl,iU sa sb aU hl (eq_of_beq y1)⟩)
            ·rw [aa y1]
             have f_:ia+k+1+1≠a.size:=fun e=>y1 (by simp [←e])
             exact dZ (fun _=>aq (.inr ⟨_,_,_,_,_,_,_,rfl,rfl,aU,by omega,by omega,by omega⟩)) (fun _=>aq ⟨_,_,_,_,_,_,_,rfl,rfl,aU,by omega,by omega,by omega⟩)
          ·rw [aa dF]
           obtain rfl:k'=0:=by omega
           refine ar (bg (by omega) ?_)
           have aU:=k_ sa sb b4 (by omega) fun j h1 h2=>by have:=gK (q3 (j-(ib+1)) (by omega) (by omega));rwa [show ib+1+(j-(ib+1))=j by omega] at this
           by_cases y1:(ia+k+1+1 == a.size)=true
           ·rw [ae y1]
            exact aq (.inl ⟨_,_,rfl,rfl,iU sa sb aU hl (eq_of_beq y1)⟩)
           ·rw [aa y1]
            have f_:ia+k+1+1≠a.size:=fun e=>y1 (by simp [←e])
            exact dZ (fun _=>aq (.inr ⟨_,_,_,_,_,_,_,rfl,rfl,aU,by omega,by omega,by omega⟩)) (fun _=>aq ⟨_,_,_,_,_,_,_,rfl,rfl,aU,by omega,by omega,by omega⟩)
      ·rw [aa zk]
       obtain rfl:k=0:=by omega
       refine ar (bg hb ?_);have b4:=qZ sa sb mi hb fun j h1 h2=>by have:=mP (k3 (j-ia) (by omega) (by omega));rw [show ia+(j-ia)=j by omega] at this;exact cB this
       by_cases x1:(ib+1 == b.size)=true
       ·rw [ae x1]
        exact aq (.inl ⟨_,_,rfl,rfl,iT sa sb b4 (.inl (eq_of_beq x1))⟩)
       ·rw [aa x1]
        have oo:ib+1≠b.size:=fun e=>x1 (by simp [←e])
        refine ar (bg (by omega) (ar (gJ (f:=fun i=>bB true (key (a.getD (ia) nn)) (key (b.getD (ib+1+i) nn))) (fun i hi Q q=>gH h (by omega) ob (oa _ (by omega)) (cn _) q) (by omega) (mQ sb) fun k' q1 q2 q3=>?_)))
        dsimp only;by_cases dF:k'>0
        ·rw [ae dF]
         have cW:=xD sa sb b4 (n:=k') fun i j hi aR hj cU=>cC (cB (fW (q2 i hi))) (eN sa hj cU);by_cases x2:(ib+1+k' == b.size)=true
         ·rw [ae x2]
          exact aq (.inl ⟨_,_,rfl,rfl,iT sa sb cW (.inl (eq_of_beq x2))⟩)
         ·rw [aa x2]
          have oq:ib+1+k'≠b.size:=fun e=>x2 (by simp [←e])
          refine ar (bg (by omega) ?_)
          have aU:=k_ sa sb cW (by omega) fun j h1 h2=>by have:=gK (q3 (j-(ib+1)) (by omega) (by omega));rwa [show ib+1+(j-(ib+1))=j by omega] at this
          by_cases y1:(ia+1+1 == a.size)=true
          ·rw [ae y1]
           exact aq (.inl ⟨_,_,rfl,rfl,iU sa sb aU hl (eq_of_beq y1)⟩)
          ·rw [aa y1]
           have f_:ia+1+1≠a.size:=fun e=>y1 (by simp [←e])
           exact dZ (fun _=>aq (.inr ⟨_,_,_,_,_,_,_,rfl,rfl,aU,by omega,by omega,by omega⟩)) (fun _=>aq ⟨_,_,_,_,_,_,_,rfl,rfl,aU,by omega,by omega,by omega⟩)
        ·rw [aa dF]
         obtain rfl:k'=0:=by omega
         refine ar (bg (by omega) ?_)
         have aU:=k_ sa sb b4 (by omega) fun j h1 h2=>by have:=gK (q3 (j-(ib+1)) (by omega) (by omega));rwa [show ib+1+(j-(ib+1))=j by omega] at this
         by_cases y1:(ia+1+1 == a.size)=true
         ·rw [ae y1]
          exact aq (.inl ⟨_,_,rfl,rfl,iU sa sb aU hl (eq_of_beq y1)⟩)
         ·rw [aa y1]
          have f_:ia+1+1≠a.size:=fun e=>y1 (by simp [←e])
          exact dZ (fun _=>aq (.inr ⟨_,_,_,_,_,_,_,rfl,rfl,aU,by omega,by omega,by omega⟩)) (fun _=>aq ⟨_,_,_,_,_,_,_,rfl,rfl,aU,by omega,by omega,by omega⟩)
     ·rw [aa (by omega)]
      refine ar (qY ?_);refine ar (bg hb (ar (gJ (f:=fun i=>bB false (key (b.getD ib nn)) (key (a.getD (ia+i) nn))) (fun i hi Q q=>gH h (by omega) oa (ob _ hb) (cn _) q) (by omega) (xC sa) fun k k1 k2 k3=>?_)))
      dsimp only;by_cases zk:k>0
      ·rw [ae zk]
       have f9:=EE sa sb mi (n:=k) fun i j hi aR hj cU=>cC (kh (k2 i hi)) (eN sb hj cU);by_cases w1:(ia+k+1 == a.size)=true
       ·rw [ae w1]
        exact aq (.inl ⟨_,_,rfl,rfl,iU sa sb f9 hl (eq_of_beq w1)⟩)
       ·rw [aa w1]
        have AL:ia+k+1≠a.size:=fun e=>w1 (by simp [←e])
        by_cases w2:(ia+k == a.size)=true
        ·rw [ae w2]
         exact aq (.inl ⟨_,_,rfl,rfl,iT sa sb f9 (.inr (eq_of_beq w2))⟩)
        ·rw [aa w2]
         have ME:ia+k≠a.size:=fun e=>w2 (by simp [←e])
         refine ar (bg hb ?_);have b4:=qZ sa sb f9 hb fun j h1 h2=>by have:=mP (k3 (j-ia) (by omega) (by omega));rw [show ia+(j-ia)=j by omega] at this;exact cB this
         by_cases x1:(ib+1 == b.size)=true
         ·rw [ae x1]
          exact aq (.inl ⟨_,_,rfl,rfl,iT sa sb b4 (.inl (eq_of_beq x1))⟩)
         ·rw [aa x1]
          have oo:ib+1≠b.size:=fun e=>x1 (by simp [←e])
          refine ar (bg (by omega) (ar (gJ (f:=fun i=>bB true (key (a.getD (ia+k) nn)) (key (b.getD (ib+1+i) nn))) (fun i hi Q q=>gH h (by omega) ob (oa _ (by omega)) (cn _) q) (by omega) (mQ sb) fun k' q1 q2 q3=>?_)))
          dsimp only;by_cases dF:k'>0
          ·rw [ae dF]
           have cW:=xD sa sb b4 (n:=k') fun i j hi aR hj cU=>cC (cB (fW (q2 i hi))) (eN sa hj cU);by_cases x2:(ib+1+k' == b.size)=true
           ·rw [ae x2]
            exact aq (.inl ⟨_,_,rfl,rfl,iT sa sb cW (.inl (eq_of_beq x2))⟩)
           ·rw [aa x2]
            have oq:ib+1+k'≠b.size:=fun e=>x2 (by simp [←e])
            refine ar (bg (by omega) ?_)
            have aU:=k_ sa sb cW (by omega) fun j h1 h2=>by have:=gK (q3 (j-(ib+1)) (by omega) (by omega));rwa [show ib+1+(j-(ib+1))=j by omega] at this
            by_cases y1:(ia+k+1+1 == a.size)=true
            ·rw [ae y1]
             exact aq (.inl ⟨_,_,rfl,rfl,iU sa sb aU hl (eq_of_beq y1)⟩)
            ·rw [aa y1]
             have f_:ia+k+1+1≠a.size:=fun e=>y1 (by simp [←e])
             exact dZ (fun _=>aq (.inr ⟨_,_,_,_,_,_,_,rfl,rfl,aU,by omega,by omega,by omega⟩)) (fun _=>aq ⟨_,_,_,_,_,_,_,rfl,rfl,aU,by omega,by omega,by omega⟩)
          ·rw [aa dF]
           obtain rfl:k'=0:=by omega
           refine ar (bg (by omega) ?_)
           have aU:=k_ sa sb b4 (by omega) fun j h1 h2=>by have:=gK (q3 (j-(ib+1)) (by omega) (by omega));rwa [show ib+1+(j-(ib+1))=j by omega] at this
           by_cases y1:(ia+k+1+1 == a.size)=true
           ·rw [ae y1]
            exact aq (.inl ⟨_,_,rfl,rfl,iU sa sb aU hl (eq_of_beq y1)⟩)
           ·rw [aa y1]
            have f_:ia+k+1+1≠a.size:=fun e=>y1 (by simp [←e])
            exact dZ (fun _=>aq (.inr ⟨_,_,_,_,_,_,_,rfl,rfl,aU,by omega,by omega,by omega⟩)) (fun _=>aq ⟨_,_,_,_,_,_,_,rfl,rfl,aU,by omega,by omega,by omega⟩)
      ·rw [aa zk]
       obtain rfl:k=0:=by omega
       refine ar (bg hb ?_);have b4:=qZ sa sb mi hb fun j h1 h2=>by have:=mP (k3 (j-ia) (by omega) (by omega));rw [show ia+(j-ia)=j by omega] at this;exact cB this
       by_cases x1:(ib+1 == b.size)=true
       ·rw [ae x1]
        exact aq (.inl ⟨_,_,rfl,rfl,iT sa sb b4 (.inl (eq_of_beq x1))⟩)
       ·rw [aa x1]
        have oo:ib+1≠b.size:=fun e=>x1 (by simp [←e])
        refine ar (bg (by omega) (ar (gJ (f:=fun i=>bB true (key (a.getD (ia) nn)) (key (b.getD (ib+1+i) nn))) (fun i hi Q q=>gH h (by omega) ob (oa _ (by omega)) (cn _) q) (by omega) (mQ sb) fun k' q1 q2 q3=>?_)))
        dsimp only;by_cases dF:k'>0
        ·rw [ae dF]
         have cW:=xD sa sb b4 (n:=k') fun i j hi aR hj cU=>cC (cB (fW (q2 i hi))) (eN sa hj cU);by_cases x2:(ib+1+k' == b.size)=true
         ·rw [ae x2]
          exact aq (.inl ⟨_,_,rfl,rfl,iT sa sb cW (.inl (eq_of_beq x2))⟩)
         ·rw [aa x2]
          have oq:ib+1+k'≠b.size:=fun e=>x2 (by simp [←e])
          refine ar (bg (by omega) ?_)
          have aU:=k_ sa sb cW (by omega) fun j h1 h2=>by have:=gK (q3 (j-(ib+1)) (by omega) (by omega));rwa [show ib+1+(j-(ib+1))=j by omega] at this
          by_cases y1:(ia+1+1 == a.size)=true
          ·rw [ae y1]
           exact aq (.inl ⟨_,_,rfl,rfl,iU sa sb aU hl (eq_of_beq y1)⟩)
          ·rw [aa y1]
           have f_:ia+1+1≠a.size:=fun e=>y1 (by simp [←e])
           exact dZ (fun _=>aq (.inr ⟨_,_,_,_,_,_,_,rfl,rfl,aU,by omega,by omega,by omega⟩)) (fun _=>aq ⟨_,_,_,_,_,_,_,rfl,rfl,aU,by omega,by omega,by omega⟩)
        ·rw [aa dF]
         obtain rfl:k'=0:=by omega
         refine ar (bg (by omega) ?_)
         have aU:=k_ sa sb b4 (by omega) fun j h1 h2=>by have:=gK (q3 (j-(ib+1)) (by omega) (by omega));rwa [show ib+1+(j-(ib+1))=j by omega] at this
         by_cases y1:(ia+1+1 == a.size)=true
         ·rw [ae y1]
          exact aq (.inl ⟨_,_,rfl,rfl,iU sa sb aU hl (eq_of_beq y1)⟩)
         ·rw [aa y1]
          have f_:ia+1+1≠a.size:=fun e=>y1 (by simp [←e])
          exact dZ (fun _=>aq (.inr ⟨_,_,_,_,_,_,_,rfl,rfl,aU,by omega,by omega,by omega⟩)) (fun _=>aq ⟨_,_,_,_,_,_,_,rfl,rfl,aU,by omega,by omega,by omega⟩)
    ·rintro c av ⟨out,i,j,mg,ac,bc,g,rfl,rfl,mi,ha,hb,fY⟩
     exact .inr ⟨_,_,_,_,_,_,_,rfl,rfl,mi,ha,hb,fY⟩
    ·rintro c av (⟨m,g,e,rfl,pm⟩ | ⟨out,i,j,mg,ac,bc,g,rfl,rfl,mi,ha,hb,fY⟩)
     ·obtain ⟨c1,c2⟩:=c
      dsimp only at e;subst e;exact aq ⟨m,g,rfl,rfl,pm⟩
     ·dsimp only
      exact ar (qY (aq ⟨_,_,_,_,_,rfl,rfl,mi,ha,hb,by omega⟩))
 ·rintro c av ⟨out,ia,ib,mg,g,rfl,rfl,mi,ha,hb,AK⟩
  exfalso
  omega
 ·rintro c av ⟨m,g,e,rfl,pm,sm⟩
  obtain ⟨c1,c2⟩:=c;dsimp only at e;subst e;exact aq (q m g pm sm)
end
theorem MF(a b:Array Keyed):AG a b=(do
 rule "list.sort.merge-hi"
 let total:=a.size+b.size
 let done (out:Array Keyed) (na nb:Nat):=a.extract 0 na++b.extract 0 nb++out.reverse
 let xF (out:Array Keyed) (na nb:Nat):=b.extract 0 nb++a.extract 0 na++out.reverse
 let mut na:=a.size-1
 let mut nb:=b.size
 let mut out:Array Keyed:=#[←elem' a na]
 if na == 0 then return done out na nb
 if nb == 1 then return xF out na nb
 let mut minGallop:=gallopOf (←get)
 for _ in [0:total] do
  let mut ir:=0
  let mut iu:=0
  for _ in [0:total] do
   let some MG ←lt' (←elem' b (nb-1)) (←elem' a (na-1)) | return done out na nb
   if MG then
    na:=na-1;out:=out.push (←elem' a na);ir:=ir+1;iu:=0
    if na == 0 then return done out na nb
    if ir≥minGallop then break
   else
    nb:=nb-1;out:=out.push (←elem' b nb);iu:=iu+1;ir:=0
    if nb == 1 then return xF out na nb
    if iu≥minGallop then break
  rule "list.sort.gallop"
  minGallop:=minGallop+1
  for _ in [0:total] do
   if minGallop>1 then minGallop:=minGallop-1
   uR minGallop
   let some at_ ←mO false (←elem' b (nb-1)) a 0 na (na-1) | return done out na nb
   let k:=na-at_
   ir:=k
   if k>0 then
    out:=out++(a.extract at_ na).reverse;na:=at_
    if na == 0 then return done out na nb
   nb:=nb-1;out:=out.push (←elem' b nb)
   if nb == 1 then return xF out na nb
   let some at_ ←mO true (←elem' a (na-1)) b 0 nb (nb-1) | return done out na nb
   let k:=nb-at_
   iu:=k
   if k>0 then
    out:=out++(b.extract at_ nb).reverse;nb:=at_
    if nb == 1 then return xF out na nb
    if nb == 0 then return done out na nb
   na:=na-1;out:=out.push (←elem' a na)
   if na == 0 then return done out na nb
   if ir<7 && iu<7 then break
  minGallop:=minGallop+1
  uR minGallop
 unsupported "internal:list.sort.merge-bound"):=rfl
section
variable {key:Keyed→Int}
theorem q5(h:a9 key l):a9 (fun x=>-key x) l.reverse:=by unfold a9;rw [zI];exact List.Pairwise.imp (fun h=>Int.neg_le_neg h) h
theorem EF(h:a9 (fun x=>-key x) l):a9 key l.reverse:=by unfold a9;rw [zI];exact List.Pairwise.imp (fun h=>Int.le_of_neg_le_neg h) h
variable {a:Array Keyed} {n:Nat}
theorem jx(h:n≤a.size):a.toList.reverse.drop (a.size-n)=(a.extract 0 n).toList.reverse:=by rw [List.drop_reverse,iS,List.drop_zero,Nat.sub_zero,eE,show a.size-(a.size-n)=n by omega]
theorem xG{m:Nat}(h:n≤a.size)(hm:m≤n):(a.toList.reverse.drop (a.size-n)).take (n-m)=(a.extract m n).reverse.toList:=by rw [jx h,qh,iS,iS,List.drop_zero,Nat.sub_zero,List.take_reverse,m7,eE,show min n a.size-(n-m)=m by omega,List.drop_take]
theorem lh{m:Nat}(h:n≤a.size){x:Keyed}(hx:x∈(a.extract m n).toList):∃j,m≤j∧j<n∧x=a.getD j nn:=by rw [iS] at hx;obtain ⟨j,h1,h2,rfl⟩:=AJ hx;exact ⟨m+j,by omega,by omega,rfl⟩
theorem EG(h:n≤a.size)(h1:1≤n):(a.extract (n-1) n).reverse.toList=[a.getD (n-1) nn]:=by
 rw [qh,iS,show n-(n-1)=1 by omega,uU (by omega)]
 rfl
def MH(key:Keyed→Int)(a b out:Array Keyed)(na nb:Nat):Prop:=MI (fun x=>-key x) a.toList.reverse b.toList.reverse out.toList (a.size-na) (b.size-nb)∧na≤a.size∧nb≤b.size
variable {a b:Array Keyed} (sa:a9 key a.toList) (sb:a9 key b.toList) {out:Array Keyed} {na nb:Nat}
include sa sb
variable {k:Nat}
theorem AM(m:MH key a b out na nb)(hk:k≤na)(c:∀i j,k≤i→i<na→j<nb→key (b.getD j nn)≤key (a.getD i nn)):MH key a b (out++(a.extract k na).reverse) k nb:=by
 obtain ⟨m,ha,hb⟩:=m;refine ⟨?_,by omega,hb⟩
 have:=m.xx (q5 sa) (na-k) fun x hx y hy=>by rw [xG ha hk,qh,me] at hx;rw [jx hb,me] at hy;obtain ⟨i,i1,i2,rfl⟩:=lh ha hx;obtain ⟨j,j1,j2,rfl⟩:=lh hb hy;have:=c i j i1 i2 j2;omega
 rw [xG ha hk,show a.size-na+(na-k)=a.size-k by omega] at this
 rw [jR];exact this
theorem uV(m:MH key a b out na nb)(hk:k≤nb)(c:∀i j,k≤i→i<nb→j<na→key (a.getD j nn)≤key (b.getD i nn)):MH key a b (out++(b.extract k nb).reverse) na k:=by
 obtain ⟨m,ha,hb⟩:=m;refine ⟨?_,ha,by omega⟩
 have:=m.AI (q5 sb) (nb-k) fun x hx y hy=>by rw [xG hb hk,qh,me] at hx;rw [jx ha,me] at hy;obtain ⟨i,i1,i2,rfl⟩:=lh hb hx;obtain ⟨j,j1,j2,rfl⟩:=lh ha hy;have:=c i j i1 i2 j2;omega
 rw [xG hb hk,show b.size-nb+(nb-k)=b.size-k by omega] at this
 rw [jR];exact this
theorem kj(m:MH key a b out na nb)(h1:1≤na)(c:∀j,j<nb→key (b.getD j nn)≤key (a.getD (na-1) nn)):MH key a b (out.push (a.getD (na-1) nn)) (na-1) nb:=by
 have:=AM sa sb m (k:=na-1) (by omega) fun i j i1 i2 j1=>by
  rw [show i=na-1 by omega]
  exact c j j1
 have e:out++(a.extract (na-1) na).reverse=out.push (a.getD (na-1) nn):=by apply Array.toList_inj.mp;rw [jR,EG m.2.1 h1,md]
 rw [e] at this;exact this
theorem uW(m:MH key a b out na nb)(h1:1≤nb)(c:∀j,j<na→key (a.getD j nn)≤key (b.getD (nb-1) nn)):MH key a b (out.push (b.getD (nb-1) nn)) na (nb-1):=by
 have:=uV sa sb m (k:=nb-1) (by omega) fun i j i1 i2 j1=>by
  rw [show i=nb-1 by omega]
  exact c j j1
 have e:out++(b.extract (nb-1) nb).reverse=out.push (b.getD (nb-1) nn):=by apply Array.toList_inj.mp;rw [jR,EG m.2.2 h1,md]
 rw [e] at this;exact this
theorem fJ(m:MH key a b out na nb)(e:na=0∨nb=0):(a.extract 0 na++b.extract 0 nb++out.reverse).toList.Perm (a.toList++b.toList)∧a9 key (a.extract 0 na++b.extract 0 nb++out.reverse).toList:=by
 obtain ⟨m,ha,hb⟩:=m;have:=m.ED (q5 sa) (q5 sb) fun x hx y hy=>by rw [jx ha,me] at hx;rw [jx hb,me] at hy;obtain ⟨i,i1,i2,_⟩:=lh ha hx;obtain ⟨j,j1,j2,_⟩:=lh hb hy;omega
 rw [jx ha,jx hb] at this;have er:(a.extract 0 na++b.extract 0 nb++out.reverse).toList=(out.toList++(b.extract 0 nb).toList.reverse++(a.extract 0 na).toList.reverse).reverse:=by simp
 rw [er];refine ⟨(mf _).trans (this.1.trans ?_),EF this.2⟩;exact (mf _).append (mf _)
theorem ko(m:MH key a b out na nb)(h0:∀x∈a.toList,key (b.getD 0 nn)≤key x)(e:nb=1):(b.extract 0 nb++a.extract 0 na++out.reverse).toList.Perm (a.toList++b.toList)∧a9 key (b.extract 0 nb++a.extract 0 na++out.reverse).toList:=by
 obtain ⟨m,ha,hb⟩:=m;have:=m.done (q5 sa) (q5 sb) fun x hx y hy=>by
  rw [jx ha,me] at hx;rw [jx hb,me] at hy;obtain ⟨i,i1,i2,rfl⟩:=lh ha hx;obtain ⟨j,j1,j2,rfl⟩:=lh hb hy;have:=h0 (a.getD i nn) (by simp [Array.getD,show i<a.size by omega])
  rw [show j=0 by omega]
  omega
 rw [jx ha,jx hb] at this;have er:(b.extract 0 nb++a.extract 0 na++out.reverse).toList=(out.toList++(a.extract 0 na).toList.reverse++(b.extract 0 nb).toList.reverse).reverse:=by simp
 rw [er];refine ⟨(mf _).trans (this.1.trans ?_),EF this.2⟩;exact (mf _).append (mf _)
end
section
variable {prog:Program} {w:World} {A:Around} {E:aF} {s:Shared} {κ:SortKind} {key:Keyed→Int} {Ok:Keyed→Prop}
theorem MJ(h:iq prog w A s κ key Ok){a b:Array Keyed}(oa:d8 Ok a)(ob:d8 Ok b)(sa:a9 key a.toList)(sb:a9 key b.toList)(a1:1≤a.size)(b1:1≤b.size)
  (h0:∀x∈a.toList,key (b.getD 0 nn)≤key x) (hl:∀y∈b.toList,key y≤key (a.getD (a.size-1) nn)) {st:SortSt} (hk:kindOf st=κ) {Q:Array Keyed→SortSt→Prop}
  (q:∀m g,m.toList.Perm (a.toList++b.toList)→a9 key m.toList→Q m (setG st g)):wpS (model prog w) A E s (AG a b) Q st:=by
 rw [MF];refine ar (wpS_lift (je ⟨rfl,?_⟩));refine ar (bg (by omega) ?_)
 dsimp only;have m0:MH key a b (#[a.getD (a.size-1) nn]:Array Keyed) (a.size-1) b.size:=by
  have:MH key a b (#[]:Array Keyed) a.size b.size:=⟨⟨by simp,List.Pairwise.nil,fun x hx=>by simp at hx,fun x hx=>by simp at hx⟩,ay _,ay _⟩
  exact kj sa sb this a1 fun j hj=>hl _ (by simp [Array.getD,hj])
 have cn:∀g,kindOf (setG st g)=κ:=fun _=>hk;by_cases e1:(a.size-1 == 0)=true
 ·rw [ae e1]
  have:=fJ sa sb m0 (.inl (eq_of_beq e1));exact aq (q _ (gallopOf st) this.1 this.2)
 rw [aa e1];by_cases e2:(b.size == 1)=true
 ·rw [ae e2]
  have:=ko sa sb m0 h0 (eq_of_beq e2);exact aq (q _ (gallopOf st) this.1 this.2)
 rw [aa e2];have a2:1≤a.size-1:=by
  have:a.size-1≠0:=fun e=>e1 (by simp [e])
  omega
 have b2:2≤b.size:=by
  have:b.size≠1:=fun e=>e2 (by simp [e])
  omega
 refine ar (gY ?_)
 refine ar (eR (eF (I:=fun x c av=>∃(out:Array Keyed) (na nb mg g:Nat),c=(none,na,nb,out,mg)∧av=setG st g∧MH key a b out na nb∧1≤na∧2≤nb∧x+na+nb≤a.size+b.size)
  (Q:=fun c av=>∃(m:Array Keyed) (g:Nat),c.1=some m∧av=setG st g∧m.toList.Perm (a.toList++b.toList)∧a9 key m.toList) ?_ ?_ ⟨_,a.size-1,b.size,_,gallopOf st,rfl,rfl,m0,a2,b2,show 0+(a.size-1)+b.size≤a.size+b.size by omega⟩) ?_)
 ·rintro x c av _ hx ⟨out,na,nb,mg,g,rfl,rfl,mi,ha,hb,AK⟩
  dsimp only
  refine ar (eR (eF (I:=fun y c av=>∃(out:Array Keyed) (a_ bO ac bc:Nat),c=(none,a_,bO,out,ac,bc)∧av=setG st g∧MH key a b out a_ bO∧1≤a_∧2≤bO∧y+a_+bO≤na+nb)
   (Q:=fun c av=>av=setG st g∧((∃m:Array Keyed,c.1=some m∧m.toList.Perm (a.toList++b.toList)∧a9 key m.toList)∨∃(out:Array Keyed) (a_ bO ac bc:Nat),c=(none,a_,bO,out,ac,bc)∧MH key a b out a_ bO∧1≤a_∧2≤bO∧1+a_+bO≤na+nb)) ?_ ?_ ⟨_,na,nb,_,_,rfl,rfl,mi,ha,hb,show 0+na+nb≤na+nb by omega⟩) ?_)
  ·rintro y c av _ hy ⟨out,a_,bO,ac,bc,rfl,rfl,mi,ha,hb,fY⟩
   have uX:=mi.2.1;have n4:=mi.2.2;dsimp only;refine ar (bg (by omega) (ar (bg (by omega) (ar (uT h (ob (bO-1) (by omega)) (oa (a_-1) (by omega)) (cn _) ?_)))))
   dsimp only;by_cases z:key (b.getD (bO-1) nn)<key (a.getD (a_-1) nn)
   ·rw [b8 z,ae rfl]
    refine ar (bg (by omega) ?_)
    have fZ:=kj sa sb mi ha fun j hj=>cC (eN sb (by omega) (by omega)) (cB z)
    by_cases z1:(a_-1 == 0)=true
    ·rw [ae z1]
     exact aq ⟨rfl,.inl ⟨_,rfl,fJ sa sb fZ (.inl (eq_of_beq z1))⟩⟩
    ·rw [aa z1]
     have xE:a_-1≠0:=fun e=>z1 (by simp [e])
     exact dZ (fun _=>aq ⟨rfl,.inr ⟨_,_,_,_,_,rfl,fZ,by omega,hb,by omega⟩⟩) (fun _=>aq ⟨_,_,_,_,_,rfl,rfl,fZ,by omega,hb,by omega⟩)
   ·rw [bP z,aa (by simp)]
    refine ar (bg (by omega) ?_)
    have fZ:=uW sa sb mi (by omega) fun j hj=>cC (eN sa (by omega) (by omega)) (Int.not_lt.mp z)
    by_cases z1:(bO-1 == 1)=true
    ·rw [ae z1]
     exact aq ⟨rfl,.inl ⟨_,rfl,ko sa sb fZ h0 (eq_of_beq z1)⟩⟩
    ·rw [aa z1]
     have xE:bO-1≠1:=fun e=>z1 (by simp [e])
     exact dZ (fun _=>aq ⟨rfl,.inr ⟨_,_,_,_,_,rfl,fZ,ha,by omega,by omega⟩⟩) (fun _=>aq ⟨_,_,_,_,_,rfl,rfl,fZ,ha,by omega,by omega⟩)
  ·rintro c av ⟨out,a_,bO,ac,bc,rfl,rfl,mi,ha,hb,fY⟩
   exact ⟨rfl,.inr ⟨_,_,_,_,_,rfl,mi,ha,hb,by omega⟩⟩
  ·rintro c av ⟨rfl,⟨m,e,pm⟩ | ⟨out,a_,bO,ac,bc,rfl,mi,ha,hb,fY⟩⟩
   ·obtain ⟨c1,c2⟩:=c
    dsimp only at e;subst e;exact aq ⟨m,g,rfl,rfl,pm⟩
   ·dsimp only
    refine ar (wpS_lift (je ⟨rfl,?_⟩))
    refine ar (eR (eF (I:=fun y c av=>∃(out:Array Keyed) (i j mg ac bc g:Nat),c=(none,i,j,out,mg,ac,bc)∧av=setG st g∧MH key a b out i j∧1≤i∧2≤j∧x+1+i+j≤a.size+b.size)
     (Q:=fun c av=>(∃(m:Array Keyed) (g:Nat),c.1=some m∧av=setG st g∧m.toList.Perm (a.toList++b.toList)∧a9 key m.toList)∨∃(out:Array Keyed) (i j mg ac bc g:Nat),c=(none,i,j,out,mg,ac,bc)∧av=setG st g∧MH key a b out i j∧1≤i∧2≤j∧x+1+i+j≤a.size+b.size) ?_ ?_ ⟨_,a_,bO,_,_,_,g,rfl,rfl,mi,ha,hb,by omega⟩) ?_)
    ·clear mi ha hb fY
     rintro y c av _ hy ⟨out,na,nb,mg,ac,bc,g,rfl,rfl,mi,ha,hb,fY⟩;have uX:=mi.2.1;have n4:=mi.2.2;dsimp only;rcases Nat.lt_or_ge 1 mg with zm | zm
     ·rw [ae zm]
      refine ar (qY ?_);refine ar (bg (by omega) (ar (gJ (f:=fun i=>bB false (key (b.getD (nb-1) nn)) (key (a.getD (0+i) nn))) (fun i hi Q q=>gH h (by omega) oa (ob _ (by omega)) (cn _) q) (by omega) (fun i j h1 h2 h3=>xC sa (o:=0) i j h1 (by omega) h3) fun k k1 k2 k3=>?_)))
      dsimp only;by_cases zk:na-k>0
      ·rw [ae zk]
       have f9:=AM sa sb mi (k:=k) k1 fun i j hi aR hj=>by have:=mP (k3 i hi aR);rw [dC] at this;exact cC (eN sb (by omega) (by omega)) (cB this)
       by_cases w1:(k == 0)=true
       ·rw [ae w1]
        exact aq (.inl ⟨_,_,rfl,rfl,fJ sa sb f9 (.inl (eq_of_beq w1))⟩)
       ·rw [aa w1]
        have AL:k≠0:=fun e=>w1 (by simp [e])
        refine ar (bg (by have:=f9.2.2;omega) ?_)
        have b4:=uW sa sb f9 (by omega) fun j h1=>by have:=kh (k2 j h1);rw [dC] at this;exact this
        by_cases x1:(nb-1 == 1)=true
        ·rw [ae x1]
         exact aq (.inl ⟨_,_,rfl,rfl,ko sa sb b4 h0 (eq_of_beq x1)⟩)
        ·rw [aa x1]
         have oo:nb-1≠1:=fun e=>x1 (by simp [e])
         have n4:=b4.2.2;refine ar (bg (by omega) (ar (gJ (f:=fun i=>bB true (key (a.getD (k-1) nn)) (key (b.getD (0+i) nn))) (fun i hi Q q=>gH h (by omega) ob (oa _ (by omega)) (cn _) q) (by omega) (fun i j h1 h2 h3=>mQ sb (o:=0) i j h1 (by omega) h3) fun k' q1 q2 q3=>?_)))
         dsimp only;by_cases dF:nb-1-k'>0
         ·rw [ae dF]
          have cW:=uV sa sb b4 (k:=k') q1 fun i j hi aR hj=>by have:=gK (q3 i hi aR);rw [dC] at this;exact cC (eN sa (by omega) (by omega)) this
          by_cases x2:(k' == 1)=true
          ·rw [ae x2]
           exact aq (.inl ⟨_,_,rfl,rfl,ko sa sb cW h0 (eq_of_beq x2)⟩)
          ·rw [aa x2]
           have oq:k'≠1:=fun e=>x2 (by simp [e])
           by_cases x3:(k' == 0)=true
           ·rw [ae x3]
            exact aq (.inl ⟨_,_,rfl,rfl,fJ sa sb cW (.inr (eq_of_beq x3))⟩)
           ·rw [aa x3]
            have AN:k'≠0:=fun e=>x3 (by simp [e])
            refine ar (bg (by omega) ?_)
            have aU:=kj sa sb cW (by omega) fun j h1=>by have:=fW (q2 j h1);rw [dC] at this;exact cB this
            by_cases y1:(k-1 == 0)=true
            ·rw [ae y1]
             exact aq (.inl ⟨_,_,rfl,rfl,fJ sa sb aU (.inl (eq_of_beq y1))⟩)
            ·rw [aa y1]
             have f_:k-1≠0:=fun e=>y1 (by simp [e])
             exact dZ (fun _=>aq (.inr ⟨_,_,_,_,_,_,_,rfl,rfl,aU,by omega,by omega,by omega⟩)) (fun _=>aq ⟨_,_,_,_,_,_,_,rfl,rfl,aU,by omega,by omega,by omega⟩)
         ·rw [aa dF]
          obtain rfl:k'=nb-1:=by omega
          refine ar (bg (by omega) ?_)
          have aU:=kj sa sb b4 (by omega) fun j h1=>by have:=fW (q2 j h1);rw [dC] at this;exact cB this
          by_cases y1:(k-1 == 0)=true
          ·rw [ae y1]
           exact aq (.inl ⟨_,_,rfl,rfl,fJ sa sb aU (.inl (eq_of_beq y1))⟩)
          ·rw [aa y1]
           have f_:k-1≠0:=fun e=>y1 (by simp [e])
           exact dZ (fun _=>aq (.inr ⟨_,_,_,_,_,_,_,rfl,rfl,aU,by omega,by omega,by omega⟩)) (fun _=>aq ⟨_,_,_,_,_,_,_,rfl,rfl,aU,by omega,by omega,by omega⟩)
      ·rw [aa zk]
       obtain rfl:k=na:=by omega
       refine ar (bg (by have:=mi.2.2;omega) ?_)
       have b4:=uW sa sb mi (by omega) fun j h1=>by have:=kh (k2 j h1);rw [dC] at this;exact this
       by_cases x1:(nb-1 == 1)=true
       ·rw [ae x1]
        exact aq (.inl ⟨_,_,rfl,rfl,ko sa sb b4 h0 (eq_of_beq x1)⟩)
       ·rw [aa x1]
        have oo:nb-1≠1:=fun e=>x1 (by simp [e])
        have n4:=b4.2.2;refine ar (bg (by omega) (ar (gJ (f:=fun i=>bB true (key (a.getD (k-1) nn)) (key (b.getD (0+i) nn))) (fun i hi Q q=>gH h (by omega) ob (oa _ (by omega)) (cn _) q) (by omega) (fun i j h1 h2 h3=>mQ sb (o:=0) i j h1 (by omega) h3) fun k' q1 q2 q3=>?_)))
        dsimp only;by_cases dF:nb-1-k'>0
        ·rw [ae dF]
         have cW:=uV sa sb b4 (k:=k') q1 fun i j hi aR hj=>by have:=gK (q3 i hi aR);rw [dC] at this;exact cC (eN sa (by omega) (by omega)) this
         by_cases x2:(k' == 1)=true
         ·rw [ae x2]
          exact aq (.inl ⟨_,_,rfl,rfl,ko sa sb cW h0 (eq_of_beq x2)⟩)
         ·rw [aa x2]
          have oq:k'≠1:=fun e=>x2 (by simp [e])
          by_cases x3:(k' == 0)=true
          ·rw [ae x3]
           exact aq (.inl ⟨_,_,rfl,rfl,fJ sa sb cW (.inr (eq_of_beq x3))⟩)
          ·rw [aa x3]
           have AN:k'≠0:=fun e=>x3 (by simp [e])
           refine ar (bg (by omega) ?_)
           have aU:=kj sa sb cW (by omega) fun j h1=>by have:=fW (q2 j h1);rw [dC] at this;exact cB this
           by_cases y1:(k-1 == 0)=true
           ·rw [ae y1]
            exact aq (.inl ⟨_,_,rfl,rfl,fJ sa sb aU (.inl (eq_of_beq y1))⟩)
           ·rw [aa y1]
            have f_:k-1≠0:=fun e=>y1 (by simp [e])
            exact dZ (fun _=>aq (.inr ⟨_,_,_,_,_,_,_,rfl,rfl,aU,by omega,by omega,by omega⟩)) (fun _=>aq ⟨_,_,_,_,_,_,_,rfl,rfl,aU,by omega,by omega,by omega⟩)
        ·rw [aa dF]
         obtain rfl:k'=nb-1:=by omega
         refine ar (bg (by omega) ?_)
         have aU:=kj sa sb b4 (by omega) fun j h1=>by have:=fW (q2 j h1);rw [dC] at this;exact cB this
         by_cases y1:(k-1 == 0)=true
         ·rw [ae y1]
          exact aq (.inl ⟨_,_,rfl,rfl,fJ sa sb aU (.inl (eq_of_beq y1))⟩)
         ·rw [aa y1]
          have f_:k-1≠0:=fun e=>y1 (by simp [e])
          exact dZ (fun _=>aq (.inr ⟨_,_,_,_,_,_,_,rfl,rfl,aU,by omega,by omega,by omega⟩)) (fun _=>aq ⟨_,_,_,_,_,_,_,rfl,rfl,aU,by omega,by omega,by omega⟩)
     ·rw [aa (by omega)]
      refine ar (qY ?_);refine ar (bg (by omega) (ar (gJ (f:=fun i=>bB false (key (b.getD (nb-1) nn)) (key (a.getD (0+i) nn))) (fun i hi Q q=>gH h (by omega) oa (ob _ (by omega)) (cn _) q) (by omega) (fun i j h1 h2 h3=>xC sa (o:=0) i j h1 (by omega) h3) fun k k1 k2 k3=>?_)))
      dsimp only;by_cases zk:na-k>0
      ·rw [ae zk]
       have f9:=AM sa sb mi (k:=k) k1 fun i j hi aR hj=>by have:=mP (k3 i hi aR);rw [dC] at this;exact cC (eN sb (by omega) (by omega)) (cB this)
       by_cases w1:(k == 0)=true
       ·rw [ae w1]
        exact aq (.inl ⟨_,_,rfl,rfl,fJ sa sb f9 (.inl (eq_of_beq w1))⟩)
       ·rw [aa w1]
        have AL:k≠0:=fun e=>w1 (by simp [e])
        refine ar (bg (by have:=f9.2.2;omega) ?_)
        have b4:=uW sa sb f9 (by omega) fun j h1=>by have:=kh (k2 j h1);rw [dC] at this;exact this
        by_cases x1:(nb-1 == 1)=true
        ·rw [ae x1]
         exact aq (.inl ⟨_,_,rfl,rfl,ko sa sb b4 h0 (eq_of_beq x1)⟩)
        ·rw [aa x1]
         have oo:nb-1≠1:=fun e=>x1 (by simp [e])
         have n4:=b4.2.2;refine ar (bg (by omega) (ar (gJ (f:=fun i=>bB true (key (a.getD (k-1) nn)) (key (b.getD (0+i) nn))) (fun i hi Q q=>gH h (by omega) ob (oa _ (by omega)) (cn _) q) (by omega) (fun i j h1 h2 h3=>mQ sb (o:=0) i j h1 (by omega) h3) fun k' q1 q2 q3=>?_)))
         dsimp only;by_cases dF:nb-1-k'>0
         ·rw [ae dF]
          have cW:=uV sa sb b4 (k:=k') q1 fun i j hi aR hj=>by have:=gK (q3 i hi aR);rw [dC] at this;exact cC (eN sa (by omega) (by omega)) this
          by_cases x2:(k' == 1)=true
          ·rw [ae x2]
           exact aq (.inl ⟨_,_,rfl,rfl,ko sa sb cW h0 (eq_of_beq x2)⟩)
          ·rw [aa x2]
           have oq:k'≠1:=fun e=>x2 (by simp [e])
           by_cases x3:(k' == 0)=true
           ·rw [ae x3]
            exact aq (.inl ⟨_,_,rfl,rfl,fJ sa sb cW (.inr (eq_of_beq x3))⟩)
           ·rw [aa x3]
            have AN:k'≠0:=fun e=>x3 (by simp [e])
            refine ar (bg (by omega) ?_)
            have aU:=kj sa sb cW (by omega) fun j h1=>by have:=fW (q2 j h1);rw [dC] at this;exact cB this
            by_cases y1:(k-1 == 0)=true
            ·rw [ae y1]
             exact aq (.inl ⟨_,_,rfl,rfl,fJ sa sb aU (.inl (eq_of_beq y1))⟩)
            ·rw [aa y1]
             have f_:k-1≠0:=fun e=>y1 (by simp [e])
             exact dZ (fun _=>aq (.inr ⟨_,_,_,_,_,_,_,rfl,rfl,aU,by omega,by omega,by omega⟩)) (fun _=>aq ⟨_,_,_,_,_,_,_,rfl,rfl,aU,by omega,by omega,by omega⟩)
         ·rw [aa dF]
          obtain rfl:k'=nb-1:=by omega
          refine ar (bg (by omega) ?_)
          have aU:=kj sa sb b4 (by omega) fun j h1=>by have:=fW (q2 j h1);rw [dC] at this;exact cB this
          by_cases y1:(k-1 == 0)=true
          ·rw [ae y1]
           exact aq (.inl ⟨_,_,rfl,rfl,fJ sa sb aU (.inl (eq_of_beq y1))⟩)
          ·rw [aa y1]
           have f_:k-1≠0:=fun e=>y1 (by simp [e])
           exact dZ (fun _=>aq (.inr ⟨_,_,_,_,_,_,_,rfl,rfl,aU,by omega,by omega,by omega⟩)) (fun _=>aq ⟨_,_,_,_,_,_,_,rfl,rfl,aU,by omega,by omega,by omega⟩)
      ·rw [aa zk]
       obtain rfl:k=na:=by omega
       refine ar (bg (by have:=mi.2.2;omega) ?_)
       have b4:=uW sa sb mi (by omega) fun j h1=>by have:=kh (k2 j h1);rw [dC] at this;exact this
       by_cases x1:(nb-1 == 1)=true
       ·rw [ae x1]
        exact aq (.inl ⟨_,_,rfl,rfl,ko sa sb b4 h0 (eq_of_beq x1)⟩)
       ·rw [aa x1]
        have oo:nb-1≠1:=fun e=>x1 (by simp [e])
        have n4:=b4.2.2;refine ar (bg (by omega) (ar (gJ (f:=fun i=>bB true (key (a.getD (k-1) nn)) (key (b.getD (0+i) nn))) (fun i hi Q q=>gH h (by omega) ob (oa _ (by omega)) (cn _) q) (by omega) (fun i j h1 h2 h3=>mQ sb (o:=0) i j h1 (by omega) h3) fun k' q1 q2 q3=>?_)))
        dsimp only;by_cases dF:nb-1-k'>0
        ·rw [ae dF]
         have cW:=uV sa sb b4 (k:=k') q1 fun i j hi aR hj=>by have:=gK (q3 i hi aR);rw [dC] at this;exact cC (eN sa (by omega) (by omega)) this
         by_cases x2:(k' == 1)=true
         ·rw [ae x2]
          exact aq (.inl ⟨_,_,rfl,rfl,ko sa sb cW h0 (eq_of_beq x2)⟩)
         ·rw [aa x2]
          have oq:k'≠1:=fun e=>x2 (by simp [e])
          by_cases x3:(k' == 0)=true
          ·rw [ae x3]
           exact aq (.inl ⟨_,_,rfl,rfl,fJ sa sb cW (.inr (eq_of_beq x3))⟩)
          ·rw [aa x3]
           have AN:k'≠0:=fun e=>x3 (by simp [e])
           refine ar (bg (by omega) ?_)
           have aU:=kj sa sb cW (by omega) fun j h1=>by have:=fW (q2 j h1);rw [dC] at this;exact cB this
           by_cases y1:(k-1 == 0)=true
           ·rw [ae y1]
            exact aq (.inl ⟨_,_,rfl,rfl,fJ sa sb aU (.inl (eq_of_beq y1))⟩)
           ·rw [aa y1]
            have f_:k-1≠0:=fun e=>y1 (by simp [e])
            exact dZ (fun _=>aq (.inr ⟨_,_,_,_,_,_,_,rfl,rfl,aU,by omega,by omega,by omega⟩)) (fun _=>aq ⟨_,_,_,_,_,_,_,rfl,rfl,aU,by omega,by omega,by omega⟩)
        ·rw [aa dF]
         obtain rfl:k'=nb-1:=by omega
         refine ar (bg (by omega) ?_)
         have aU:=kj sa sb b4 (by omega) fun j h1=>by have:=fW (q2 j h1);rw [dC] at this;exact cB this
         by_cases y1:(k-1 == 0)=true
         ·rw [ae y1]
          exact aq (.inl ⟨_,_,rfl,rfl,fJ sa sb aU (.inl (eq_of_beq y1))⟩)
         ·rw [aa y1]
          have f_:k-1≠0:=fun e=>y1 (by simp [e])
          exact dZ (fun _=>aq (.inr ⟨_,_,_,_,_,_,_,rfl,rfl,aU,by omega,by omega,by omega⟩)) (fun _=>aq ⟨_,_,_,_,_,_,_,rfl,rfl,aU,by omega,by omega,by omega⟩)
    ·rintro c av ⟨out,i,j,mg,ac,bc,g,rfl,rfl,mi,ha,hb,fY⟩
     exact .inr ⟨_,_,_,_,_,_,_,rfl,rfl,mi,ha,hb,fY⟩
    ·rintro c av (⟨m,g,e,rfl,pm⟩ | ⟨out,i,j,mg,ac,bc,g,rfl,rfl,mi,ha,hb,fY⟩)
     ·obtain ⟨c1,c2⟩:=c
      dsimp only at e;subst e;exact aq ⟨m,g,rfl,rfl,pm⟩
     ·dsimp only
      exact ar (qY (aq ⟨_,_,_,_,_,rfl,rfl,mi,ha,hb,by omega⟩))
 ·rintro c av ⟨out,ia,ib,mg,g,rfl,rfl,mi,ha,hb,AK⟩
  exfalso
  omega
 ·rintro c av ⟨m,g,e,rfl,pm,sm⟩
  obtain ⟨c1,c2⟩:=c;dsimp only at e;subst e;exact aq (q m g pm sm)
end
section
variable {prog:Program} {w:World} {A:Around} {E:aF} {s:Shared} {κ:SortKind} {key:Keyed→Int} {Ok:Keyed→Prop}
def vA(key:Keyed→Int)(arr:Array Keyed)(i:Nat):Int:=key (arr.getD i nn)
def cq(key:Keyed→Int)(arr:Array Keyed)(lo hi:Nat):Prop:=∀i j,lo≤i→i≤j→j<hi→vA key arr i≤vA key arr j
def iV(key:Keyed→Int)(arr:Array Keyed)(lo hi:Nat):Prop:=∀i j,lo≤i→i≤j→j<hi→vA key arr j≤vA key arr i
structure Rl (arr aQ:Array Keyed) (lo hi:Nat):Prop where
 pm:aQ.Perm arr
 out:∀k,k<lo∨hi≤k→aQ[k]?=arr[k]?
theorem Rl.refl(arr:Array Keyed)(lo hi:Nat):Rl arr arr lo hi:=⟨Array.Perm.refl _,fun _ _=>rfl⟩
variable {arr aQ:Array Keyed} {lo hi:Nat}
theorem Rl.trans{aD:Array Keyed}(h:Rl arr aQ lo hi)(h':Rl aQ aD lo hi):Rl arr aD lo hi:=⟨h'.pm.trans h.pm,fun k hk=>(h'.out k hk).trans (h.out k hk)⟩
theorem Rl.size(h:Rl arr aQ lo hi):aQ.size=arr.size:=h.pm.size_eq
theorem Rl.wide{AO aR:Nat}(h:Rl arr aQ lo hi)(h1:AO≤lo)(h2:hi≤aR):Rl arr aQ AO aR:=⟨h.pm,fun k hk=>h.out k (by omega)⟩
theorem jy(arr:Array Keyed)(i:Nat):arr.getD i nn=arr[i]?.getD nn:=by by_cases z:i<arr.size <;> simp [Array.getD,z]
variable {k:Nat}
theorem Rl.v(h:Rl arr aQ lo hi)(hk:k<lo∨hi≤k):vA key aQ k=vA key arr k:=by unfold vA;rw [jy,jy,h.out k hk]
theorem q8(h:d8 Ok arr)(p:aQ.Perm arr):d8 Ok aQ:=fun i hi=>by
 have e:aQ.getD i nn=aQ[i]:=by simp [Array.getD,hi]
 rw [e];have m:aQ[i]∈arr:=(Array.Perm.mem_iff p).mp (Array.getElem_mem hi);obtain ⟨j,hj,ej⟩:=Array.getElem_of_mem m;rw [←ej];have:=h j hj;simpa [Array.getD,hj] using this
theorem Rl.ok(h:Rl arr aQ lo hi)(ok:d8 Ok arr):d8 Ok aQ:=q8 ok h.pm
theorem jz(hj:j≤arr.size):Rl arr (mirror arr i j ((j-i) / 2)) i j:=⟨mirror_perm ..,fun k hk=>by rw [getElem?_mirror_all hj,aa (by omega)]⟩
theorem xH(hj:j≤arr.size)(h1:i≤k)(h2:k<j):vA key (mirror arr i j ((j-i) / 2)) k=vA key arr (i+j-1-k):=by unfold vA;rw [jy,jy,getElem?_mirror_all hj,ae ⟨h1,h2⟩]
abbrev a8 (κ:SortKind) (arr:Array Keyed) (pend:Array (Nat×Nat×Nat)) (g:Nat):SortSt:=SortSt.mk' κ arr pend g none
variable {arr:Array Keyed} {pend:Array (Nat×Nat×Nat)} {g:Nat}
theorem jA(h:iq prog w A s κ key Ok)(ok:d8 Ok arr)(hi:i<arr.size)(hj:j<arr.size){Q:Option Bool→SortSt→Prop}(q:Q (some (decide (vA key arr i<vA key arr j))) (a8 κ arr pend g)):wpS (model prog w) A E s (ltAt' i j) Q (a8 κ arr pend g):=by rw [ltAt'_eq];refine ar (gY ?_);exact ar (bg hi (ar (bg hj (uT h (ok _ hi) (ok _ hj) rfl q))))
theorem lA{Q:Unit→SortSt→Prop}(q:Q () (a8 κ (mirror arr i j ((j-i) / 2)) pend g)):wpS (model prog w) A E s (reverseSlice' i j) Q (a8 κ arr pend g):=by rw [reverseSlice'_eq];exact jd q
variable {n:Nat}
theorem cq.more(h:cq key arr lo (lo+n))(n1:1≤n)(c:vA key arr (lo+n-1)≤vA key arr (lo+n)):cq key arr lo (lo+(n+1)):=fun i j h1 h2 h3=>by
 by_cases z:j<lo+n;·exact h i j h1 h2 z
 ·obtain rfl:j=lo+n:=by omega
  by_cases y:i=lo+n;·rw [y];exact fO _
  ·exact cC (h i (lo+n-1) h1 (by omega) (by omega)) c
theorem iV.more(h:iV key arr lo (lo+n))(n1:1≤n)(c:vA key arr (lo+n)≤vA key arr (lo+n-1)):iV key arr lo (lo+(n+1)):=fun i j h1 h2 h3=>by
 by_cases z:j<lo+n;·exact h i j h1 h2 z
 ·obtain rfl:j=lo+n:=by omega
  by_cases y:i=lo+n;·rw [y];exact fO _
  ·exact cC c (h i (lo+n-1) h1 (by omega) (by omega))
def uY(key:Keyed→Int)(arr:Array Keyed)(lo n q:Nat):Prop:=q+1≤n∧∀i,lo+n-(q+1)≤i→i<lo+n→vA key arr i=vA key arr (lo+n-1)
theorem xI{q:Nat}(hz:lo+n≤arr.size)(d:iV key arr lo (lo+n))(e:uY key arr lo n q):iV key (mirror arr (lo+n-(q+1)) (lo+n) ((lo+n-(lo+n-(q+1))) / 2)) lo (lo+n)∧∀k,vA key (mirror arr (lo+n-(q+1)) (lo+n) ((lo+n-(lo+n-(q+1))) / 2)) k=vA key arr k:=by
 have hv:∀k,vA key (mirror arr (lo+n-(q+1)) (lo+n) ((lo+n-(lo+n-(q+1))) / 2)) k=vA key arr k:=fun k=>by
  by_cases z:lo+n-(q+1)≤k∧k<lo+n;·rw [xH hz z.1 z.2,e.2 _ (by have:=e.1;omega) (by omega),e.2 k z.1 z.2]
  ·exact (jz hz).v (by omega)
 refine ⟨fun i j h1 h2 h3=>?_,hv⟩;rw [hv,hv];exact d i j h1 h2 h3
theorem xJ(hz:lo+n≤arr.size)(d:iV key arr lo (lo+n)):cq key (mirror arr lo (lo+n) ((lo+n-lo) / 2)) lo (lo+n):=fun i j h1 h2 h3=>by
 rw [xH hz h1 (by omega),xH hz (by omega) h3]
 exact d _ _ (by omega) (by omega) (by omega)
end
section
variable {prog:Program} {w:World} {A:Around} {E:aF} {s:Shared} {κ:SortKind} {key:Keyed→Int} {Ok:Keyed→Prop} {arr:Array Keyed} {pend:Array (Nat×Nat×Nat)} {g:Nat}
variable {lo b5:Nat}
theorem uZ(h:iq prog w A s κ key Ok)(ok:d8 Ok arr){m:Nat}(hz:lo+b5≤arr.size)(m1:1≤m)(mn:m≤b5)(sg:cq key arr lo (lo+m)){body:Nat→Option (Option Nat)×Nat→StateT SortSt Sem (ForInStep (Option (Option Nat)×Nat))}{R:Option (Option Nat)×Nat→SortSt→Prop}
  (hb:∀x n (R:ForInStep (Option (Option Nat)×Nat)→SortSt→Prop),1≤n→n<b5→R (if vA key arr (lo+n)<vA key arr (lo+n-1) then .done (none,n) else .yield (none,n+1)) (a8 κ arr pend g)→wpS (model prog w) A E s (body x (none,n)) R (a8 κ arr pend g))
  (k:∀n,m≤n→n≤b5→cq key arr lo (lo+n)→(n<b5→vA key arr (lo+n)<vA key arr (lo+n-1))→R (none,n) (a8 κ arr pend g)) :
  wpS (model prog w) A E s (forIn [m:b5] (none,m) body) R (a8 κ arr pend g):=by
 refine eF (I:=fun x c av=>av=a8 κ arr pend g∧c=(none,x)∧m≤x∧x≤b5∧cq key arr lo (lo+x)) ?_ ?_ ⟨rfl,rfl,ay _,mn,sg⟩
 ·rintro x c av _ hx ⟨rfl,rfl,g1,g2,g3⟩
  refine hb x x _ (by omega) hx ?_
  by_cases z:vA key arr (lo+x)<vA key arr (lo+x-1)
  ·rw [ae z]
   exact k x g1 g2 g3 fun _=>z
  ·rw [aa z]
   exact ⟨rfl,rfl,by omega,by omega,g3.more (by omega) (Int.not_lt.mp z)⟩
 ·rintro c av ⟨rfl,rfl,g1,g2,g3⟩
  have e:max m b5=b5:=by omega
  rw [e] at g3 ⊢;exact k b5 mn (ay _) g3 fun z=>absurd z (dB _)
theorem MK(h:iq prog w A s κ key Ok)(ok:d8 Ok arr)(hz:lo+b5≤arr.size)(n1:1≤b5){Q:Option Nat→SortSt→Prop}
  (k:∀n aQ,1≤n→n≤b5→Rl arr aQ lo (lo+b5)→cq key aQ lo (lo+n)→Q (some n) (a8 κ aQ pend g)):wpS (model prog w) A E s (countRun' lo b5) Q (a8 κ arr pend g):=by
 rw [countRun'_eq];refine ar (uZ h ok hz (ay 1) n1 (fun i j h1 h2 h3=>by rw [show i=j by omega];exact fO _) ?_ fun n m1 mn sg br=>?_)
 ·intro x n R a1 a2 r
  dsimp only;refine ar (jA h ok (by omega) (by omega) ?_)
  dsimp only;by_cases z:vA key arr (lo+n)<vA key arr (lo+n-1)
  ·rw [ae z] at r
   rw [b8 z,ae rfl];exact aq r
  ·rw [aa z] at r
   rw [bP z,aa (by simp)]
   exact aq r
 dsimp only;by_cases e1:(n == b5)=true
 ·rw [ae e1]
  exact aq (k n arr m1 mn (Rl.refl ..) sg)
 rw [aa e1];have a7:n<b5:=by
  have:n≠b5:=fun e=>e1 (by simp [e])
  omega
 have EH:=br a7;by_cases e2:n>1
 ·rw [ae e2]
  refine ar (jA h ok (by omega) (by omega) ?_)
  dsimp only;by_cases z:vA key arr lo<vA key arr (lo+n-1)
  ·rw [b8 z,ae rfl]
   exact aq (k n arr m1 mn (Rl.refl ..) sg)
  ·rw [bP z,aa (by simp)]
   refine ar (lA ?_);have ev:∀i,lo≤i→i<lo+n→vA key arr i=vA key arr (lo+n-1):=fun i h1 h2=>by
    have a1:=sg lo i (ay _) h1 h2;have a2:=sg i (lo+n-1) h1 (by omega) (by omega)
    omega
   have hv:∀i,vA key (mirror arr lo (lo+n) ((lo+n-lo) / 2)) i=vA key arr i:=fun i=>by
    by_cases y:lo≤i∧i<lo+n;·rw [xH (by omega) y.1 y.2,ev _ (by omega) (by omega),ev i y.1 y.2]
    ·exact (jz (by omega)).v (by omega)
   have d1:iV key (mirror arr lo (lo+n) ((lo+n-lo) / 2)) lo (lo+n):=fun i j h1 h2 h3=>by
    rw [hv,hv,ev i h1 (by omega),ev j (by omega) h3]
    exact fO _
   have xK:Rl arr (mirror arr lo (lo+n) ((lo+n-lo) / 2)) lo (lo+b5):=(jz (by omega)).wide (ay _) (by omega)
   have EI:vA key (mirror arr lo (lo+n) ((lo+n-lo) / 2)) (lo+n)<vA key (mirror arr lo (lo+n) ((lo+n-lo) / 2)) (lo+n-1):=by rw [hv,hv];exact EH
   generalize mirror arr lo (lo+n) ((lo+n-lo) / 2)=ML at d1 xK EI ⊢;refine ar (wpS_lift (je ⟨rfl,?_⟩))
   refine ar (eR (eF (I:=fun x c av=>∃(aD:Array Keyed) (q:Nat),av=a8 κ aD pend g∧c=(none,x,q)∧Rl arr aD lo (lo+b5)∧iV key aD lo (lo+x)∧uY key aD lo x q∧x≤b5∧1≤x)
    (Q:=fun c av=>∃(aD:Array Keyed) (n q:Nat),av=a8 κ aD pend g∧c=(none,n,q)∧Rl arr aD lo (lo+b5)∧iV key aD lo (lo+n)∧uY key aD lo n q∧n≤b5∧1≤n) ?_ ?_ ⟨ML,0,rfl,rfl,xK,d1.more (by omega) (cB EI),⟨by omega,fun i h1 h2=>by rw [show i=lo+(n+1)-1 by omega]⟩,by omega,by omega⟩) ?_)
   ·rintro x c av _ hx ⟨aD,q,rfl,rfl,dw,d2,e2,x1,x2⟩
    have lB:=dw.ok ok;have z2:=dw.size;dsimp only;refine ar (jA h lB (by omega) (by omega) ?_)
    dsimp only;by_cases z:vA key aD (lo+x)<vA key aD (lo+x-1)
    ·rw [b8 z,ae rfl]
     by_cases y:q>0
     ·rw [ae y]
      refine ar (lA (aq ?_));obtain ⟨d3,hv⟩:=xI (by omega) d2 e2
      refine ⟨_,0,rfl,rfl,dw.trans ((jz (by omega)).wide (by have:=e2.1;omega) (by omega)),d3.more (by omega) (by rw [hv,hv];exact cB z),⟨by omega,fun i h1 h2=>by rw [show i=lo+(x+1)-1 by omega]⟩,by omega,by omega⟩
     ·rw [aa y]
      exact aq ⟨_,0,rfl,rfl,dw,d2.more (by omega) (cB z),⟨by omega,fun i h1 h2=>by rw [show i=lo+(x+1)-1 by omega]⟩,by omega,by omega⟩
    ·rw [bP z,aa (by simp)]
     refine ar (jA h lB (by omega) (by omega) ?_)
     dsimp only;by_cases y:vA key aD (lo+x-1)<vA key aD (lo+x)
     ·rw [b8 y,ae rfl]
      exact aq ⟨_,_,_,rfl,rfl,dw,d2,e2,x1,x2⟩
     ·rw [bP y,aa (by simp)]
      have ev:vA key aD (lo+x)=vA key aD (lo+x-1):=by omega
      refine aq ⟨_,_,rfl,rfl,dw,d2.more (by omega) (by omega),⟨by have:=e2.1;omega,fun i h1 h2=>?_⟩,by omega,by omega⟩
      rw [show lo+(x+1)-1=lo+x by omega]
      by_cases w:i=lo+x;·rw [w]
      ·rw [ev]
       exact e2.2 i (by omega) (by omega)
   ·rintro c av ⟨aD,q,rfl,rfl,dw,d2,e2,x1,x2⟩
    exact ⟨aD,_,q,rfl,rfl,dw,d2,e2,x1,x2⟩
   ·rintro c av ⟨aD,n2,q2,rfl,rfl,dw,d2,e2,x1,x2⟩
    have z2:=dw.size;dsimp only;by_cases y:q2>0
    ·rw [ae y]
     obtain ⟨d3,hv⟩:=xI (by omega) d2 e2
     refine ar (lA (ar (lA ?_)));have jB:=dw.trans ((jz (arr:=aD) (i:=lo+n2-(q2+1)) (j:=lo+n2) (by omega)).wide (by have:=e2.1;omega) (show lo+n2≤lo+b5 by omega))
     generalize mirror aD (lo+n2-(q2+1)) (lo+n2) _=b_ at d3 jB ⊢;have z3:=jB.size;have e_:=xJ (by omega) d3
     have bE:=jB.trans ((jz (arr:=b_) (i:=lo) (j:=lo+n2) (by omega)).wide (ay lo) (show lo+n2≤lo+b5 by omega))
     generalize mirror b_ lo (lo+n2) _=aV at e_ bE ⊢;have jC:=Rl.ok bE ok;have z4:=Rl.size bE;refine ar (uZ h jC (by omega) (by omega) (by omega) e_ ?_ fun m m1 mn ot _=>aq (k m aV (by omega) mn bE ot))
     intro x n R a1 a2 r;dsimp only;refine ar (jA h jC (by omega) (by omega) ?_)
     dsimp only;by_cases z:vA key aV (lo+n)<vA key aV (lo+n-1)
     ·rw [ae z] at r
      rw [b8 z,ae rfl];exact aq r
     ·rw [aa z] at r
      rw [bP z,aa (by simp)]
      exact aq r
    ·rw [aa y]
     refine ar (lA ?_);have e_:=xJ (by omega) d2
     have bE:=dw.trans ((jz (arr:=aD) (i:=lo) (j:=lo+n2) (by omega)).wide (ay lo) (show lo+n2≤lo+b5 by omega))
     generalize mirror aD lo (lo+n2) _=aV at e_ bE ⊢;have jC:=Rl.ok bE ok;have z4:=Rl.size bE;refine ar (uZ h jC (by omega) (by omega) (by omega) e_ ?_ fun m m1 mn ot _=>aq (k m aV (by omega) mn bE ot))
     intro x n R a1 a2 r;dsimp only;refine ar (jA h jC (by omega) (by omega) ?_)
     dsimp only;by_cases z:vA key aV (lo+n)<vA key aV (lo+n-1)
     ·rw [ae z] at r
      rw [b8 z,ae rfl];exact aq r
     ·rw [aa z] at r
      rw [bP z,aa (by simp)]
      exact aq r
 ·rw [aa e2]
  have d1:iV key arr lo (lo+n):=fun i j h1 h2 h3=>by
   rw [show i=j by omega]
   exact fO _
  have xK:Rl arr arr lo (lo+b5):=Rl.refl ..;refine ar (wpS_lift (je ⟨rfl,?_⟩))
  refine ar (eR (eF (I:=fun x c av=>∃(aD:Array Keyed) (q:Nat),av=a8 κ aD pend g∧c=(none,x,q)∧Rl arr aD lo (lo+b5)∧iV key aD lo (lo+x)∧uY key aD lo x q∧x≤b5∧1≤x)
   (Q:=fun c av=>∃(aD:Array Keyed) (n q:Nat),av=a8 κ aD pend g∧c=(none,n,q)∧Rl arr aD lo (lo+b5)∧iV key aD lo (lo+n)∧uY key aD lo n q∧n≤b5∧1≤n) ?_ ?_ ⟨arr,0,rfl,rfl,xK,d1.more (by omega) (cB EH),⟨by omega,fun i h1 h2=>by rw [show i=lo+(n+1)-1 by omega]⟩,by omega,by omega⟩) ?_)
  ·rintro x c av _ hx ⟨aD,q,rfl,rfl,dw,d2,e2,x1,x2⟩
   have lB:=dw.ok ok;have z2:=dw.size;dsimp only;refine ar (jA h lB (by omega) (by omega) ?_)
   dsimp only;by_cases z:vA key aD (lo+x)<vA key aD (lo+x-1)
   ·rw [b8 z,ae rfl]
    by_cases y:q>0
    ·rw [ae y]
     refine ar (lA (aq ?_));obtain ⟨d3,hv⟩:=xI (by omega) d2 e2
     refine ⟨_,0,rfl,rfl,dw.trans ((jz (by omega)).wide (by have:=e2.1;omega) (by omega)),d3.more (by omega) (by rw [hv,hv];exact cB z),⟨by omega,fun i h1 h2=>by rw [show i=lo+(x+1)-1 by omega]⟩,by omega,by omega⟩
    ·rw [aa y]
     exact aq ⟨_,0,rfl,rfl,dw,d2.more (by omega) (cB z),⟨by omega,fun i h1 h2=>by rw [show i=lo+(x+1)-1 by omega]⟩,by omega,by omega⟩
   ·rw [bP z,aa (by simp)]
    refine ar (jA h lB (by omega) (by omega) ?_)
    dsimp only;by_cases y:vA key aD (lo+x-1)<vA key aD (lo+x)
    ·rw [b8 y,ae rfl]
     exact aq ⟨_,_,_,rfl,rfl,dw,d2,e2,x1,x2⟩
    ·rw [bP y,aa (by simp)]
     have ev:vA key aD (lo+x)=vA key aD (lo+x-1):=by omega
     refine aq ⟨_,_,rfl,rfl,dw,d2.more (by omega) (by omega),⟨by have:=e2.1;omega,fun i h1 h2=>?_⟩,by omega,by omega⟩
     rw [show lo+(x+1)-1=lo+x by omega]
     by_cases w:i=lo+x;·rw [w]
     ·rw [ev]
      exact e2.2 i (by omega) (by omega)
  ·rintro c av ⟨aD,q,rfl,rfl,dw,d2,e2,x1,x2⟩
   exact ⟨aD,_,q,rfl,rfl,dw,d2,e2,x1,x2⟩
  ·rintro c av ⟨aD,n2,q2,rfl,rfl,dw,d2,e2,x1,x2⟩
   have z2:=dw.size;dsimp only;by_cases y:q2>0
   ·rw [ae y]
    obtain ⟨d3,hv⟩:=xI (by omega) d2 e2
    refine ar (lA (ar (lA ?_)));have jB:=dw.trans ((jz (arr:=aD) (i:=lo+n2-(q2+1)) (j:=lo+n2) (by omega)).wide (by have:=e2.1;omega) (show lo+n2≤lo+b5 by omega))
    generalize mirror aD (lo+n2-(q2+1)) (lo+n2) _=b_ at d3 jB ⊢;have z3:=jB.size;have e_:=xJ (by omega) d3
    have bE:=jB.trans ((jz (arr:=b_) (i:=lo) (j:=lo+n2) (by omega)).wide (ay lo) (show lo+n2≤lo+b5 by omega))
    generalize mirror b_ lo (lo+n2) _=aV at e_ bE ⊢;have jC:=Rl.ok bE ok;have z4:=Rl.size bE;refine ar (uZ h jC (by omega) (by omega) (by omega) e_ ?_ fun m m1 mn ot _=>aq (k m aV (by omega) mn bE ot))
    intro x n R a1 a2 r;dsimp only;refine ar (jA h jC (by omega) (by omega) ?_)
    dsimp only;by_cases z:vA key aV (lo+n)<vA key aV (lo+n-1)
    ·rw [ae z] at r
     rw [b8 z,ae rfl];exact aq r
    ·rw [aa z] at r
     rw [bP z,aa (by simp)]
     exact aq r
   ·rw [aa y]
    refine ar (lA ?_);have e_:=xJ (by omega) d2
    have bE:=dw.trans ((jz (arr:=aD) (i:=lo) (j:=lo+n2) (by omega)).wide (ay lo) (show lo+n2≤lo+b5 by omega))
    generalize mirror aD lo (lo+n2) _=aV at e_ bE ⊢;have jC:=Rl.ok bE ok;have z4:=Rl.size bE;refine ar (uZ h jC (by omega) (by omega) (by omega) e_ ?_ fun m m1 mn ot _=>aq (k m aV (by omega) mn bE ot))
    intro x n R a1 a2 r;dsimp only;refine ar (jA h jC (by omega) (by omega) ?_)
    dsimp only;by_cases z:vA key aV (lo+n)<vA key aV (lo+n-1)
    ·rw [ae z] at r
     rw [b8 z,ae rfl];exact aq r
    ·rw [aa z] at r
     rw [bP z,aa (by simp)]
     exact aq r
end
section
variable {prog:Program} {w:World} {A:Around} {E:aF} {s:Shared} {κ:SortKind} {key:Keyed→Int} {Ok:Keyed→Prop} {arr:Array Keyed} {pend:Array (Nat×Nat×Nat)} {g:Nat}
theorem MM{Q:Unit→SortSt→Prop}(q:Q () (a8 κ (bubble arr i (i-j)) pend g)):wpS (model prog w) A E s (moveDown' i j) Q (a8 κ arr pend g):=by rw [moveDown'_eq];exact jd q
variable {d:Nat}
theorem EJ{k:Nat}(hi:i<arr.size)(hd:d≤i):vA key (bubble arr i d) k=if k=i-d then vA key arr i else if i-d<k∧k≤i then vA key arr (k-1) else vA key arr k:=by
 unfold vA;rw [jy,getElem?_bubble hi d hd,jy arr i,jy arr (k-1),jy arr k];by_cases a:k=i-d;·rw [ae a,ae a]
 ·rw [aa a,aa a]
  by_cases b:i-d<k∧k≤i;·rw [ae b,ae b]
  ·rw [aa b,aa b]
variable {lo:Nat}
theorem MN{hi:Nat}(h:i<arr.size)(hd:d≤i)(h1:lo≤i-d)(h2:i<hi):Rl arr (bubble arr i d) lo hi:=⟨bubble_perm ..,fun k hk=>by rw [getElem?_bubble h d hd,aa (by omega),aa (by omega)]⟩
theorem MO(h:iq prog w A s κ key Ok)(ok:d8 Ok arr){n m:Nat}(hz:lo+n≤arr.size)(m1:1≤m)(mn:m≤n)(sg:cq key arr lo (lo+m)){Q:Bool→SortSt→Prop}
  (k:∀aQ,Rl arr aQ lo (lo+n)→cq key aQ lo (lo+n)→Q true (a8 κ aQ pend g)):wpS (model prog w) A E s (binarySort' lo n m) Q (a8 κ arr pend g):=by
 rw [binarySort'_eq];have em:max m 1=m:=by omega
 rw [em]
 refine ar (eR (eF (I:=fun x c av=>∃aD:Array Keyed,av=a8 κ aD pend g∧c=(none,())∧Rl arr aD lo (lo+n)∧cq key aD lo (lo+x)∧m≤x∧x≤n)
  (Q:=fun c av=>∃aD:Array Keyed,av=a8 κ aD pend g∧c=(none,())∧Rl arr aD lo (lo+n)∧cq key aD lo (lo+n)) ?_ ?_ ⟨arr,rfl,rfl,Rl.refl ..,sg,ay _,mn⟩) ?_)
 ·rintro x c av _ hx ⟨aD,rfl,rfl,rl,sg,x1,x2⟩
  have lB:=rl.ok ok;have z2:=rl.size;dsimp only
  refine ar (eR (eF (I:=fun y c av=>∃l r:Nat,av=a8 κ aD pend g∧c=(none,l,r)∧l≤r∧r≤x∧r-l+y≤x∧(∀i,i<l→vA key aD (lo+i)≤vA key aD (lo+x))∧(∀i,r≤i→i<x→vA key aD (lo+x)≤vA key aD (lo+i)))
   (Q:=fun c av=>∃l:Nat,av=a8 κ aD pend g∧c=(none,l,l)∧l≤x∧(∀i,i<l→vA key aD (lo+i)≤vA key aD (lo+x))∧(∀i,l≤i→i<x→vA key aD (lo+x)≤vA key aD (lo+i))) ?_ ?_ ⟨0,x,rfl,rfl,by omega,ay _,show x-0+0≤x by omega,fun i hi=>absurd hi (tS _),fun i h1 h2=>by omega⟩) ?_)
  ·rintro y c av _ hy ⟨l,r,rfl,rfl,g1,g2,g3,g4,g5⟩
   dsimp only;by_cases z:l≥r
   ·rw [ae z]
    obtain rfl:l=r:=by omega
    exact aq ⟨l,rfl,rfl,g2,g4,g5⟩
   ·rw [aa z]
    refine ar (jA h lB (by omega) (by omega) ?_)
    dsimp only;by_cases w:vA key aD (lo+x)<vA key aD (lo+(l+r) / 2)
    ·rw [b8 w,ae rfl]
     exact aq ⟨l,_,rfl,rfl,by omega,by omega,by omega,g4,fun i h1 h2=>cC (cB w) (sg _ _ (by omega) (by omega) (by omega))⟩
    ·rw [bP w,aa (by simp)]
     exact aq ⟨_,r,rfl,rfl,by omega,g2,by omega,fun i h1=>cC (sg _ _ (by omega) (by omega) (by omega)) (Int.not_lt.mp w),g5⟩
  ·rintro c av ⟨l,r,rfl,rfl,g1,g2,g3,g4,g5⟩
   have:max 0 x=x:=by omega
   obtain rfl:l=r:=by omega
   exact ⟨l,rfl,rfl,g2,g4,g5⟩
  ·rintro c av ⟨l,rfl,rfl,g2,g4,g5⟩
   dsimp only;refine ar (MM (aq ?_));have ed:lo+x-(lo+l)=x-l:=by omega
   rw [ed];refine ⟨_,rfl,rfl,rl.trans (MN (by omega) (by omega) (by omega) (by omega)),fun i j h1 h2 h3=>?_,by omega,by omega⟩
   have e0:lo+x-(x-l)=lo+l:=by omega
   rw [EJ (by omega) (by omega),EJ (by omega) (by omega),e0]
   have f4:∀i,lo≤i→i<lo+l→vA key aD i≤vA key aD (lo+x):=fun i a b=>by have:=g4 (i-lo) (by omega);rwa [show lo+(i-lo)=i by omega] at this
   have f5:∀i,lo+l≤i→i<lo+x→vA key aD (lo+x)≤vA key aD i:=fun i a b=>by have:=g5 (i-lo) (by omega) (by omega);rwa [show lo+(i-lo)=i by omega] at this
   by_cases a1:i=lo+l
   ·rw [ae a1]
    by_cases b1:j=lo+l;·rw [ae b1];exact fO _
    ·rw [aa b1,ae (by omega)]
     exact f5 _ (by omega) (by omega)
   ·rw [aa a1]
    by_cases a2:lo+l<i∧i≤lo+x
    ·rw [ae a2,aa (by omega),ae (by omega)]
     exact sg _ _ (by omega) (by omega) (by omega)
    ·rw [aa a2]
     by_cases b1:j=lo+l
     ·rw [ae b1]
      exact f4 i h1 (by omega)
     ·rw [aa b1]
      by_cases b2:lo+l<j∧j≤lo+x
      ·rw [ae b2]
       exact cC (f4 i h1 (by omega)) (f5 _ (by omega) (by omega))
      ·rw [aa b2]
       exact sg _ _ (by omega) (by omega) (by omega)
 ·rintro c av ⟨aD,rfl,rfl,rl,sg,x1,x2⟩
  have:max m n=n:=by omega
  rw [this] at sg;exact ⟨aD,rfl,rfl,rl,sg⟩
 ·rintro c av ⟨aD,rfl,rfl,rl,sg⟩
  exact aq (k aD rl sg)
end
theorem MP(i:Nat):mergeAt' i=(do
 let s ←get
 let (some (sa,na,power),some (sb,nb,_)):=((pendingOf s)[i]?,(pendingOf s)[i+1]?) | unsupported "internal:list.sort.pending"
 set (setPending s (((pendingOf s).setIfInBounds i (sa,na+nb,power)).eraseIdxIfInBounds (i+1)))
 let some k ←mO false (←elem' (arrOf s) sb) (arrOf s) sa na 0 | return false
 let (sa,na):=(sa+k,na-k)
 if na == 0 then return true
 let some nb ←mO true (←elem' (arrOf s) (sa+na-1)) (arrOf s) sb nb (nb-1) | return false
 if nb == 0 then return true
 let x:=(arrOf s).extract sa sb
 let y:=(arrOf s).extract sb (sb+nb)
 let merged ←if na≤nb then AF x y else AG x y
 modify fun s=>setArr s (merged.toList.zipIdx.foldl (fun a (p,j)=>a.setIfInBounds (sa+j) p) (arrOf s))
 return (failedOf (←get)).isNone):=rfl
def putL(m:List Keyed)(o:Nat)(arr:Array Keyed)(n:Nat):Array Keyed:=(m.zipIdx n).foldl (fun a (p,j)=>a.setIfInBounds (o+j) p) arr
theorem EK(m:List Keyed)(o:Nat):∀(arr:Array Keyed) (n k:Nat),o+n+m.length≤arr.size→(putL m o arr n)[k]?=if o+n≤k∧k<o+n+m.length then m[k-(o+n)]? else arr[k]?:=by
 induction m with
 | nil=>
  intro arr n k _;rw [aa (by simp)]
  rfl
 | cons x m ih=>
  intro arr n k hz;rw [dS] at hz ⊢;show (putL m o (arr.setIfInBounds (o+n) x) (n+1))[k]?=_;rw [ih _ _ _ (by simp;omega)]
  by_cases a:o+(n+1)≤k∧k<o+(n+1)+m.length
  ·rw [ae a,ae (by omega),show k-(o+n)=(k-(o+(n+1)))+1 by omega]
   rfl
  ·rw [aa a]
   by_cases b:k=o+n
   ·subst b
    rw [ae (by omega),tP]
    simp [show o+n<arr.size by omega]
   ·rw [aa (by omega)]
    rw [Array.getElem?_setIfInBounds_ne (by omega)]
theorem MQ{o:Nat}{arr:Array Keyed}(hz:o+m.length≤arr.size):(putL m o arr 0).toList=arr.toList.take o++m++arr.toList.drop (o+m.length):=by
 refine List.ext_getElem? fun k=>?_;have e:(putL m o arr 0).toList[k]?=(putL m o arr 0)[k]?:=by simp
 rw [e,EK m o arr 0 k (by omega),tT]
 by_cases a:k<o
 ·rw [aa (by omega),gU,gr (by simp;omega),List.getElem?_take_of_lt a]
  simp
 ·by_cases b:k<o+m.length
  ·rw [ae (by omega),gU,gq (by simp;omega),gr (by simp;omega)]
   congr 1
   simp;omega
  ·rw [aa (by omega),gq (by simp;omega),List.getElem?_drop]
   have:o+m.length+(k-(arr.toList.take o++m).length)=k:=by simp;omega
   rw [this];simp
section
variable {prog:Program} {w:World} {A:Around} {E:aF} {s:Shared} {κ:SortKind} {key:Keyed→Int} {Ok:Keyed→Prop} {arr:Array Keyed} {pend:Array (Nat×Nat×Nat)} {g:Nat}
variable {lo hi:Nat}
theorem EL(h:cq key arr lo hi)(hz:hi≤arr.size):a9 key (arr.extract lo hi).toList:=by
 unfold a9;rw [nh];intro i j aR hj xB;have h1:i<hi-lo∧j<hi-lo:=by simp at aR hj;omega
 have:=h (lo+i) (lo+j) (by omega) (by omega) (by omega)
 unfold vA at this;simpa [Array.getD,show lo+i<arr.size by omega,show lo+j<arr.size by omega] using this
theorem AQ(hz:hi≤arr.size)(aR:lo+i<hi):(arr.extract lo hi).getD i nn=arr.getD (lo+i) nn:=by simp [Array.getD,show lo+i<arr.size by omega,show i<min hi arr.size-lo by omega]
theorem EM(ok:d8 Ok arr)(hz:hi≤arr.size):d8 Ok (arr.extract lo hi):=fun i aR=>by
 have:lo+i<hi:=by simp at aR;omega
 rw [AQ hz this];exact ok _ (by omega)
theorem ext_mem(hz:hi≤arr.size){x:Keyed}(hx:x∈(arr.extract lo hi).toList):∃j,lo≤j∧j<hi∧x=arr.getD j nn:=lh hz hx
theorem MR{σ:Type}{st av:σ}{Q:PUnit→σ→Prop}{M:Model}(q:Q ⟨⟩ av):wpS M A E s (set av:StateT σ Sem PUnit) Q st:=by unfold wpS;rw [StateT.run_set];exact aI ⟨rfl,q⟩
variable {sa na nb:Nat}
theorem MS{sb a_ bO:Nat}{m:Array Keyed}(hz:sb+nb≤arr.size)(h0:sa+na=sb)(hk:a_≤na)(hb:bO≤nb)(pm:m.toList.Perm ((arr.extract (sa+a_) sb).toList++(arr.extract sb (sb+bO)).toList))(sm:a9 key m.toList)
  (s1:cq key arr sa sb) (s2:cq key arr sb (sb+nb)) (u0:a_<na) (EN:1≤nb)
  (c1:∀i,i<a_→vA key arr (sa+i)≤vA key arr sb) (c2:∀i,bO≤i→i<nb→vA key arr (sb-1)≤vA key arr (sb+i)) :
  Rl arr (putL m.toList (sa+a_) arr 0) sa (sb+nb)∧cq key (putL m.toList (sa+a_) arr 0) sa (sb+nb):=by
 have lm:m.toList.length=(na-a_)+bO:=by rw [pm.length_eq,cS,iS,iS];simp;omega
 have hsz:sa+a_+m.toList.length≤arr.size:=by omega
 have at':=EK m.toList (sa+a_) arr 0;have rl:Rl arr (putL m.toList (sa+a_) arr 0) sa (sb+nb):=by
  refine ⟨qi.mpr ?_,fun k cn=>?_⟩
  ·rw [MQ hsz]
   have e:arr.toList=arr.toList.take (sa+a_)++((arr.extract (sa+a_) sb).toList++(arr.extract sb (sb+bO)).toList)++arr.toList.drop (sa+a_+m.toList.length):=by
    rw [iS,iS,show sa+a_+m.toList.length=sb+bO by omega,show sb+bO-sb=bO by omega]
    have t1:arr.toList.drop (sa+a_)=(arr.toList.drop (sa+a_)).take (sb-(sa+a_))++arr.toList.drop sb:=by
     have:=(m_ (sb-(sa+a_)) (arr.toList.drop (sa+a_))).symm;rw [List.drop_drop,show sa+a_+(sb-(sa+a_))=sb by omega] at this
     exact this
    have t2:arr.toList.drop sb=(arr.toList.drop sb).take bO++arr.toList.drop (sb+bO):=by have:=(m_ bO (arr.toList.drop sb)).symm;rw [List.drop_drop] at this;exact this
    have t0:=(m_ (sa+a_) arr.toList).symm;rw [t1,t2] at t0;rw [gU,gU];exact t0
   refine List.Perm.trans ?_ (List.Perm.of_eq e.symm);exact List.Perm.append_right _ (zH _ pm)
  ·rw [at' k (by omega),aa (by omega)]
 have vo:∀k,k<sa+a_∨sb+bO≤k→vA key (putL m.toList (sa+a_) arr 0) k=vA key arr k:=fun k cn=>by unfold vA;rw [jy,at' k (by omega),aa (by omega),jy]
 have vm:∀k,sa+a_≤k→k<sb+bO→∃hj:k-(sa+a_)<m.toList.length,vA key (putL m.toList (sa+a_) arr 0) k=key (m.toList[k-(sa+a_)]'hj):=fun k h1 h2=>by
  have hj:k-(sa+a_)<m.toList.length:=by omega
  refine ⟨hj,?_⟩;unfold vA;rw [jy,at' k (by omega),ae (by omega),tT,bV hj]
  rfl
 have vq:∀k,sa+a_≤k→k<sb+bO→∃q,sa+a_≤q∧q<sb+bO∧vA key (putL m.toList (sa+a_) arr 0) k=vA key arr q:=fun k h1 h2=>by
  obtain ⟨hj,e⟩:=vm k h1 h2;have mm:=pm.mem_iff.mp (c_ hj);rcases cL.mp mm with mm | mm
  ·obtain ⟨q,q1,q2,eq⟩:=ext_mem (by omega) mm
   exact ⟨q,q1,by omega,by rw [e,eq];rfl⟩
  ·obtain ⟨q,q1,q2,eq⟩:=ext_mem (by omega) mm
   exact ⟨q,by omega,q2,by rw [e,eq];rfl⟩
 have d1:∀i,sa≤i→i<sa+a_→vA key arr i≤vA key arr sb:=fun i a b=>by
  have:=c1 (i-sa) (by omega)
  rwa [show sa+(i-sa)=i by omega] at this
 have d2:∀j,sb+bO≤j→j<sb+nb→vA key arr (sb-1)≤vA key arr j:=fun j a b=>by
  have:=c2 (j-sb) (by omega) (by omega)
  rwa [show sb+(j-sb)=j by omega] at this
 refine ⟨rl,fun i j h1 h2 h3=>?_⟩;by_cases i1:i<sa+a_
 ·rw [vo i (.inl i1)]
  by_cases j1:j<sa+a_
  ·rw [vo j (.inl j1)]
   exact s1 i j h1 h2 (by omega)
  ·by_cases j2:j<sb+bO
   ·obtain ⟨q,q1,q2,e⟩:=vq j (by omega) j2
    rw [e];by_cases q3:q<sb;·exact s1 i q h1 (by omega) q3
    ·exact cC (d1 i h1 i1) (s2 sb q (ay _) (by omega) (by omega))
   ·rw [vo j (.inr (by omega))]
    exact cC (d1 i h1 i1) (s2 sb j (ay _) (by omega) h3)
 ·by_cases i2:i<sb+bO
  ·by_cases j2:j<sb+bO
   ·obtain ⟨x1,e1⟩:=vm i (by omega) i2
    obtain ⟨x2,e2⟩:=vm j (by omega) j2
    rw [e1,e2];by_cases z:i=j;·subst z;exact fO _
    ·exact nh.mp sm _ _ x1 x2 (by omega)
   ·obtain ⟨q,q1,q2,e⟩:=vq i (by omega) i2
    rw [e,vo j (.inr (by omega))]
    by_cases q3:q<sb;·exact cC (s1 q (sb-1) (by omega) (by omega) (by omega)) (d2 j (by omega) h3)
    ·exact s2 q j (by omega) (by omega) h3
  ·rw [vo i (.inr (by omega)),vo j (.inr (by omega))]
   exact s2 i j (by omega) h2 h3
theorem MT(h:iq prog w A s κ key Ok)(ok:d8 Ok arr){pw lC:Nat}(e1:pend[i]?=some (sa,na,pw))(e2:pend[i+1]?=some (sa+na,nb,lC))(u0:1≤na)(EN:1≤nb)(hz:sa+na+nb≤arr.size)
  (s1:cq key arr sa (sa+na)) (s2:cq key arr (sa+na) (sa+na+nb)) {Q:Bool→SortSt→Prop}
  (k:∀aQ g',Rl arr aQ sa (sa+na+nb)→cq key aQ sa (sa+na+nb)→Q true (a8 κ aQ ((pend.setIfInBounds i (sa,na+nb,pw)).eraseIdxIfInBounds (i+1)) g')):wpS (model prog w) A E s (mergeAt' i) Q (a8 κ arr pend g):=by
 rw [MP];refine ar (gY ?_);have n_:(pendingOf (a8 κ arr pend g))[i]?=some (sa,na,pw):=e1;have MU:(pendingOf (a8 κ arr pend g))[i+1]?=some (sa+na,nb,lC):=e2;rw [n_,MU];dsimp only;refine ar (MR ?_);refine ar (bg (by show sa+na<arr.size;omega) ?_)
 refine ar (gJ (f:=fun j=>bB false (vA key arr (sa+na)) (vA key arr (sa+j))) (fun j hj Q q=>gH (κ:=κ) h (by show sa+j<arr.size;omega) ok (ok _ (by omega)) rfl q) (by omega) ?_ fun t t1 t2 t3=>?_)
 ·intro i j h1 h2 h3
  have:vA key arr (sa+i)≤vA key arr (sa+na):=cC (s1 _ _ (by omega) (by omega) (by omega)) (kh h3)
  show (!decide (vA key arr (sa+na)<vA key arr (sa+i)))=true;simpa using this
 dsimp only;by_cases z1:(na-t == 0)=true
 ·rw [ae z1]
  have tz:t=na:=by have:=eq_of_beq z1;omega
  subst tz;refine aq (k arr g (Rl.refl ..) fun i j h1 h2 h3=>?_);by_cases i1:i<sa+t
  ·by_cases j1:j<sa+t
   ·exact s1 i j h1 h2 j1
   ·have:=kh (t2 (i-sa) (by omega))
    rw [show sa+(i-sa)=i by omega] at this
    exact cC this (s2 _ _ (ay _) (by omega) (by omega))
  ·exact s2 i j (by omega) h2 (by omega)
 rw [aa z1];have tn:t<na:=by
  have:na-t≠0:=fun e=>z1 (by simp [e])
  omega
 refine ar (bg (by show sa+t+(na-t)-1<arr.size;omega) ?_)
 have el:sa+t+(na-t)-1=sa+na-1:=by omega
 rw [el];refine ar (gJ (f:=fun j=>bB true (vA key arr (sa+na-1)) (vA key arr (sa+na+j))) (fun j hj Q q=>gH (κ:=κ) h (by show sa+na+j<arr.size;omega) ok (ok _ (by omega)) rfl q) (by omega) ?_ fun u u1 u2 u3=>?_)
 ·intro i j h1 h2 h3
  exact b8 (Int.lt_of_le_of_lt (s2 _ _ (by omega) (by omega) (by omega)) (fW h3))
 dsimp only;have MV:=mP (t3 (na-1) (by omega) (by omega))
 rw [show sa+(na-1)=sa+na-1 by omega] at MV
 by_cases z2:(u == 0)=true
 ·exfalso
  have:=gK (u3 0 (by have:=eq_of_beq z2;omega) (by omega))
  rw [tT] at this;omega
 rw [aa z2];have un:1≤u:=by
  have:u≠0:=fun e=>z2 (by simp [e])
  omega
 have ox:=EM ok (lo:=sa+t) (hi:=sa+na) (by omega)
 have oy:=EM ok (lo:=sa+na) (hi:=sa+na+u) (by omega)
 have sx:a9 key (arr.extract (sa+t) (sa+na)).toList:=EL (fun i j h1 h2 h3=>s1 i j (by omega) h2 h3) (by omega)
 have sy:a9 key (arr.extract (sa+na) (sa+na+u)).toList:=EL (fun i j h1 h2 h3=>s2 i j h1 h2 (by omega)) (by omega)
 have zx:(arr.extract (sa+t) (sa+na)).size=na-t:=by simp;omega
 have zy:(arr.extract (sa+na) (sa+na+u)).size=u:=by simp;omega
 have h0:∀x∈(arr.extract (sa+t) (sa+na)).toList,key ((arr.extract (sa+na) (sa+na+u)).getD 0 nn)≤key x:=fun x hx=>by
  obtain ⟨j,j1,j2,rfl⟩:=ext_mem (by omega) hx
  rw [AQ (by omega) (by omega),tT]
  have:=mP (t3 (j-sa) (by omega) (by omega))
  rw [show sa+(j-sa)=j by omega] at this
  exact cB this
 have hl:∀y∈(arr.extract (sa+na) (sa+na+u)).toList,key y≤key ((arr.extract (sa+t) (sa+na)).getD ((arr.extract (sa+t) (sa+na)).size-1) nn):=fun y hy=>by
  obtain ⟨j,j1,j2,rfl⟩:=ext_mem (by omega) hy
  rw [zx,AQ (by omega) (by omega),show sa+t+(na-t-1)=sa+na-1 by omega]
  have:=fW (u2 (j-(sa+na)) (by omega))
  rw [show sa+na+(j-(sa+na))=j by omega] at this
  exact cB this
 have fin:∀(m:Array Keyed) (g':Nat),m.toList.Perm ((arr.extract (sa+t) (sa+na)).toList++(arr.extract (sa+na) (sa+na+u)).toList)→a9 key m.toList→Q true (a8 κ (putL m.toList (sa+t) arr 0) ((pend.setIfInBounds i (sa,na+nb,pw)).eraseIdxIfInBounds (i+1)) g'):=fun m g' pm sm=>by obtain ⟨rl,sg⟩:=MS (sb:=sa+na) hz rfl (tI tn) u1 pm sm s1 s2 tn EN (fun i hi=>kh (t2 i hi)) (fun i h1 h2=>gK (u3 i h1 h2));exact k _ g' rl sg
 refine dZ (fun _=>?_) (fun _=>?_)
 ·refine ar (MD (κ:=κ) h ox oy sx sy (by omega) (by omega) h0 hl rfl fun m g' pm sm=>?_)
  exact ar (jd (ar (gY (aq (fin m g' pm sm)))))
 ·refine ar (MJ (κ:=κ) h ox oy sx sy (by omega) (by omega) h0 hl rfl fun m g' pm sm=>?_)
  exact ar (jd (ar (gY (aq (fin m g' pm sm)))))
end
def ck(key:Keyed→Int)(arr:Array Keyed):List (Nat×Nat×Nat)→Nat→Nat→Prop
 | [],lo,hi=>lo=hi
 | p::r,lo,hi=>p.1=lo∧1≤p.2.1∧cq key arr lo (lo+p.2.1)∧ck key arr r (lo+p.2.1) hi
section
variable {key:Keyed→Int} {arr aQ:Array Keyed}
theorem ck.le:∀{l:List (Nat×Nat×Nat)} {lo hi:Nat},ck key arr l lo hi→lo+l.length≤hi
 | [],lo,hi,h=>by have:lo=hi:=h;simp;omega
 | p::r,lo,hi,h=>by have:=ck.le h.2.2.2;have:=h.2.1;simp only [dS];omega
variable {hi:Nat}
theorem cq.bZ{lo a b:Nat}(h:cq key arr lo hi)(rl:Rl arr aQ a b)(d:hi≤a∨b≤lo):cq key aQ lo hi:=fun i j h1 h2 h3=>by
 rw [rl.v (by omega),rl.v (by omega)]
 exact h i j h1 h2 h3
theorem ck.bZ:∀{l:List (Nat×Nat×Nat)} {lo hi a b:Nat},ck key arr l lo hi→Rl arr aQ a b→hi≤a∨b≤lo→ck key aQ l lo hi
 | [],lo,hi,a,b,h,_,_=>h
 | p::r,lo,hi,a,b,h,rl,d=>by have:=h.2.2.2.le;refine ⟨h.1,h.2.1,h.2.2.1.bZ rl (by omega),h.2.2.2.bZ rl (by omega)⟩
theorem ck.snoc:∀{l:List (Nat×Nat×Nat)} {lo hi n pw:Nat},ck key arr l lo hi→1≤n→cq key arr hi (hi+n)→ck key arr (l++[(hi,n,pw)]) lo (hi+n)
 | [],lo,hi,n,pw,h,n1,s=>by obtain rfl:lo=hi:=h;exact ⟨rfl,n1,s,rfl⟩
 | p::r,lo,hi,n,pw,h,n1,s=>⟨h.1,h.2.1,h.2.2.1,h.2.2.2.snoc n1 s⟩
theorem ck.two:∀{l:List (Nat×Nat×Nat)} {lo hi i:Nat},ck key arr l lo hi→i+1<l.length→∃sa na pw nb lC,l[i]?=some (sa,na,pw)∧l[i+1]?=some (sa+na,nb,lC)∧1≤na∧1≤nb∧lo≤sa∧sa+na+nb≤hi∧cq key arr sa (sa+na)∧cq key arr (sa+na) (sa+na+nb) ∧
  ∀aQ,Rl arr aQ sa (sa+na+nb)→cq key aQ sa (sa+na+nb)→ck key aQ ((l.set i (sa,na+nb,pw)).eraseIdx (i+1)) lo hi
 | [],lo,hi,i,h,aR=>by simp at aR
 | [p],lo,hi,i,h,aR=>by simp at aR
 | p::q::r,lo,hi,0,h,_=>by
  obtain ⟨p1,p2,pw⟩:=p;obtain ⟨q1,q2,lC⟩:=q;obtain ⟨e1,n1,s1,e2,n2,s2,c⟩:=h;dsimp only at e1 n1 s1 e2 n2 s2 c;subst e1;subst e2;have:=c.le;refine ⟨p1,p2,pw,q2,lC,rfl,rfl,n1,n2,ay _,by omega,s1,s2,fun aQ rl sg=>?_⟩
  show ck key aQ ((p1,p2+q2,pw)::r) p1 hi;refine ⟨rfl,by show 1≤p2+q2;omega,by show cq key aQ p1 (p1+(p2+q2));rw [←Nat.add_assoc];exact sg,?_⟩
  show ck key aQ r (p1+(p2+q2)) hi;rw [←Nat.add_assoc];exact c.bZ rl (.inr (ay _))
 | p::q::r,lo,hi,i+1,h,aR=>by
  obtain ⟨sa,na,pw,nb,lC,e1,e2,n1,n2,l1,l2,s1,s2,k⟩:=h.2.2.2.two (i:=i) (by simpa using aR)
  refine ⟨sa,na,pw,nb,lC,e1,e2,n1,n2,by omega,l2,s1,s2,fun aQ rl sg=>?_⟩
  exact ⟨h.1,h.2.1,h.2.2.1.bZ rl (.inl l1),k aQ rl sg⟩
theorem ck.last:∀{l:List (Nat×Nat×Nat)} {lo hi pw:Nat},ck key arr l lo hi→ck key arr (l.modify (l.length-1) fun x=>(x.1,x.2.1,pw)) lo hi
 | [],lo,hi,pw,h=>h
 | [p],lo,hi,pw,h=>h
 | p::q::r,lo,hi,pw,h=>⟨h.1,h.2.1,h.2.2.1,h.2.2.2.last⟩
theorem ck.one{l:List (Nat×Nat×Nat)}(h:ck key arr l 0 hi)(hl:l.length≤1):cq key arr 0 hi:=by
 match l,h,hl with
 | [],h,_=>have:0=hi:=h;exact fun i j h1 h2 h3=>by omega
 | [p],h,_=>have:=h.2.2.1;have e:0+p.2.1=hi:=h.2.2.2;rw [←e];exact this
 | p::q::r,_,hl=>simp at hl
end
section
variable {prog:Program} {w:World} {A:Around} {E:aF} {s:Shared} {κ:SortKind} {key:Keyed→Int} {Ok:Keyed→Prop} {arr:Array Keyed} {pend:Array (Nat×Nat×Nat)} {g:Nat}
theorem AR(h:iq prog w A s κ key Ok)(ok:d8 Ok arr){hi:Nat}(c:ck key arr pend.toList 0 hi)(hz:hi≤arr.size)(aR:i+1<pend.size){Q:Bool→SortSt→Prop}
  (k:∀aQ AS g',Rl arr aQ 0 hi→ck key aQ AS.toList 0 hi→AS.size+1=pend.size→Q true (a8 κ aQ AS g')):wpS (model prog w) A E s (mergeAt' i) Q (a8 κ arr pend g):=by
 obtain ⟨sa,na,pw,nb,lC,e1,e2,n1,n2,l1,l2,s1,s2,kk⟩:=c.two (i:=i) (by simpa using aR)
 refine MT h ok (by simpa using e1) (by simpa using e2) n1 n2 (by omega) s1 s2 fun aQ g' rl sg=>?_
 refine k _ _ _ (rl.wide (bH _) l2) ?_ ?_
 ·have:=kk aQ rl sg
  simpa using this
 ·rw [←eE,Array.toList_eraseIdxIfInBounds,List.length_eraseIdx,ae (by simpa using aR)]
  simp;omega
theorem EO(h:iq prog w A s κ key Ok)(ok:d8 Ok arr){Q:Unit→SortSt→Prop}
  (k:∀aQ av,aQ.Perm arr→cq key aQ 0 arr.size→arrOf av=aQ→failedOf av=none→Q () av):wpS (model prog w) A E s sortRuns' Q (a8 κ arr #[] g):=by
 rw [sortRuns'_eq];refine ar (gY ?_);dsimp only;have es:(arrOf (a8 κ arr #[] g)).size=arr.size:=rfl;rw [es]
 refine ar (eR (eF (I:=fun x c av=>∃(aD:Array Keyed) (dO:Array (Nat×Nat×Nat)) (g2 lo:Nat),av=a8 κ aD dO g2∧c=(none,lo)∧aD.Perm arr∧ck key aD dO.toList 0 lo∧lo≤arr.size∧x≤lo)
  (Q:=fun c av=>∃(aD:Array Keyed) (dO:Array (Nat×Nat×Nat)) (g2:Nat),av=a8 κ aD dO g2∧c=(none,arr.size)∧aD.Perm arr∧ck key aD dO.toList 0 arr.size) ?_ ?_ ⟨arr,#[],g,0,rfl,rfl,Array.Perm.refl _,rfl,bH _,ay _⟩) ?_)
 ·rintro x c av _ hx ⟨aD,dO,g2,lo,rfl,rfl,mR,ou,l1,l2⟩
  have lB:=q8 ok mR;have z2:=mR.size_eq;dsimp only;by_cases z:lo≥arr.size
  ·rw [ae z]
   obtain rfl:lo=arr.size:=by omega
   exact aq ⟨aD,dO,g2,rfl,rfl,mR,ou⟩
  rw [aa z];refine ar (MK h lB (by omega) (by omega) fun n b_ n1 nn jB sg=>?_)
  have dP:=jB.pm.trans mR;have ER:=q8 ok dP;have z3:=dP.size_eq;have gM:=ou.bZ jB (.inl (ay _));dsimp only;by_cases y:n<minRun' arr.size arr.size 0
  ·rw [ae y]
   refine ar (wpS_lift (je ⟨rfl,?_⟩));refine ar (MO h ER (n:=min (arr.size-lo) (minRun' arr.size arr.size 0)) (by omega) n1 (by omega) sg fun aV bE e_=>?_)
   rw [aa (by simp)]
   have fb:=gM.bZ bE (.inl (ay _));have AU:=bE.pm.trans dP;clear gM dP ER z3 sg jB bE;have f1:1≤min (arr.size-lo) (minRun' arr.size arr.size 0):=by omega
   have f2:lo+min (arr.size-lo) (minRun' arr.size arr.size 0)≤arr.size:=by omega
   generalize min (arr.size-lo) (minRun' arr.size arr.size 0)=fo at e_ f1 f2 ⊢
   revert fb AU e_
   generalize aV=b_;intro gM dP e_;refine ar (gY ?_);have eb:(pendingOf (a8 κ b_ dO g2)).back?=dO.back?:=rfl;rw [eb];cases dO.back? with
   | none=>dsimp only;exact ar (jd (aq ⟨b_,dO.push (lo,fo,0),g2,lo+fo,rfl,rfl,dP,by rw [md];exact gM.snoc f1 e_,f2,by have:=f1;omega⟩))
   | some p=>
    obtain ⟨MW,xM,MX⟩:=p;dsimp only;have z3:=dP.size_eq
    refine ar (eR (eF (I:=fun y c av=>∃(aV:Array Keyed) (bw:Array (Nat×Nat×Nat)) (g4:Nat),av=a8 κ aV bw g4∧c=(none,())∧Rl b_ aV 0 lo∧ck key aV bw.toList 0 lo)
     (Q:=fun c av=>∃(aV:Array Keyed) (bw:Array (Nat×Nat×Nat)) (g4:Nat),av=a8 κ aV bw g4∧c=(none,())∧Rl b_ aV 0 lo∧ck key aV bw.toList 0 lo) ?_ (fun c av hh=>hh) ⟨b_,dO,g2,rfl,rfl,Rl.refl ..,gM⟩) ?_)
    ·rintro y c av _ hy ⟨aV,bw,g4,rfl,rfl,bE,fb⟩
     have z4:=bE.size;refine ar (gY ?_);have hx:∀o,o=(if (pendingOf (a8 κ aV bw g4)).size>1 then (pendingOf (a8 κ aV bw g4))[(pendingOf (a8 κ aV bw g4)).size-2]? else none)→o.isSome=true→bw.size>1:=fun o ho hs=>by
      by_cases z:bw.size>1;·exact z
      ·rw [aa z] at ho
       rw [ho] at hs;cases hs
     generalize eo:(if (pendingOf (a8 κ aV bw g4)).size>1 then (pendingOf (a8 κ aV bw g4))[(pendingOf (a8 κ aV bw g4)).size-2]? else none)=o
     cases o with
     | none=>exact aq ⟨aV,bw,g4,rfl,rfl,bE,fb⟩
     | some p=>
      have gt:=hx _ eo.symm rfl;obtain ⟨q1,q2,MY⟩:=p;dsimp only;refine dZ (fun _=>aq ⟨aV,bw,g4,rfl,rfl,bE,fb⟩) (fun _=>?_);refine ar (AR h (q8 ok (bE.pm.trans dP)) fb (by omega) (show bw.size-2+1<bw.size by omega) fun AV AW g5 AX AY _=>?_)
      rw [aa (by simp)]
      exact aq ⟨AV,AW,g5,rfl,rfl,bE.trans AX,AY⟩
    ·rintro c av ⟨aV,bw,g4,rfl,rfl,bE,fb⟩
     dsimp only;refine ar (jd (ar (jd (aq ⟨aV,_,g4,lo+fo,rfl,rfl,bE.pm.trans dP,?_,f2,by have:=f1;omega⟩))))
     rw [md];refine ck.snoc ?_ f1 (cq.bZ e_ bE (.inr (ay _)));rw [Array.toList_modify];exact fb.last
  ·rw [aa y]
   have f2:lo+n≤arr.size:=by omega
   refine ar (gY ?_);have eb:(pendingOf (a8 κ b_ dO g2)).back?=dO.back?:=rfl;rw [eb];cases dO.back? with
   | none=>dsimp only;exact ar (jd (aq ⟨b_,dO.push (lo,n,0),g2,lo+n,rfl,rfl,dP,by rw [md];exact gM.snoc n1 sg,f2,by have:=n1;omega⟩))
   | some p=>
    obtain ⟨MW,xM,MX⟩:=p;dsimp only;have z3:=dP.size_eq
    refine ar (eR (eF (I:=fun y c av=>∃(aV:Array Keyed) (bw:Array (Nat×Nat×Nat)) (g4:Nat),av=a8 κ aV bw g4∧c=(none,())∧Rl b_ aV 0 lo∧ck key aV bw.toList 0 lo)
     (Q:=fun c av=>∃(aV:Array Keyed) (bw:Array (Nat×Nat×Nat)) (g4:Nat),av=a8 κ aV bw g4∧c=(none,())∧Rl b_ aV 0 lo∧ck key aV bw.toList 0 lo) ?_ (fun c av hh=>hh) ⟨b_,dO,g2,rfl,rfl,Rl.refl ..,gM⟩) ?_)
    ·rintro y c av _ hy ⟨aV,bw,g4,rfl,rfl,bE,fb⟩
     have z4:=bE.size;refine ar (gY ?_);have hx:∀o,o=(if (pendingOf (a8 κ aV bw g4)).size>1 then (pendingOf (a8 κ aV bw g4))[(pendingOf (a8 κ aV bw g4)).size-2]? else none)→o.isSome=true→bw.size>1:=fun o ho hs=>by
      by_cases z:bw.size>1;·exact z
      ·rw [aa z] at ho
       rw [ho] at hs;cases hs
     generalize eo:(if (pendingOf (a8 κ aV bw g4)).size>1 then (pendingOf (a8 κ aV bw g4))[(pendingOf (a8 κ aV bw g4)).size-2]? else none)=o
     cases o with
     | none=>exact aq ⟨aV,bw,g4,rfl,rfl,bE,fb⟩
     | some p=>
      have gt:=hx _ eo.symm rfl;obtain ⟨q1,q2,MY⟩:=p;dsimp only;refine dZ (fun _=>aq ⟨aV,bw,g4,rfl,rfl,bE,fb⟩) (fun _=>?_);refine ar (AR h (q8 ok (bE.pm.trans dP)) fb (by omega) (show bw.size-2+1<bw.size by omega) fun AV AW g5 AX AY _=>?_)
      rw [aa (by simp)]
      exact aq ⟨AV,AW,g5,rfl,rfl,bE.trans AX,AY⟩
    ·rintro c av ⟨aV,bw,g4,rfl,rfl,bE,fb⟩
     dsimp only;refine ar (jd (ar (jd (aq ⟨aV,_,g4,lo+n,rfl,rfl,bE.pm.trans dP,?_,f2,by have:=n1;omega⟩))))
     rw [md];refine ck.snoc ?_ n1 (cq.bZ sg bE (.inr (ay _)));rw [Array.toList_modify];exact fb.last
 ·rintro c av ⟨aD,dO,g2,lo,rfl,rfl,mR,ou,l1,l2⟩
  obtain rfl:lo=arr.size:=by omega
  exact ⟨aD,dO,g2,rfl,rfl,mR,ou⟩
 ·rintro c av ⟨aD,dO,g2,rfl,rfl,mR,ou⟩
  dsimp only;have pz:=ou.le
  refine ar (eR (eF (I:=fun x c av=>∃(b_:Array Keyed) (dQ:Array (Nat×Nat×Nat)) (g3:Nat),av=a8 κ b_ dQ g3∧c=(none,())∧b_.Perm arr∧ck key b_ dQ.toList 0 arr.size∧dQ.size+x≤arr.size)
   (Q:=fun c av=>∃(b_:Array Keyed) (dQ:Array (Nat×Nat×Nat)) (g3:Nat),av=a8 κ b_ dQ g3∧c=(none,())∧b_.Perm arr∧ck key b_ dQ.toList 0 arr.size∧dQ.size≤1) ?_ ?_ ⟨aD,dO,g2,rfl,rfl,mR,ou,show dO.size+0≤arr.size by simpa using pz⟩) ?_)
  ·rintro x c av _ hx ⟨b_,dQ,g3,rfl,rfl,dP,gM,l3⟩
   have z3:=dP.size_eq;refine ar (gY ?_);by_cases z:(pendingOf (a8 κ b_ dQ g3)).size≤1
   ·rw [ae z]
    exact aq ⟨b_,dQ,g3,rfl,rfl,dP,gM,z⟩
   ·rw [aa z]
    have z':1<dQ.size:=Nat.lt_of_not_le z;have go:∀i,i+1<dQ.size→wpS (model prog w) A E s (mergeAt' i) (fun b av=>b=true∧∃(aV:Array Keyed) (bw:Array (Nat×Nat×Nat)) (g4:Nat),av=a8 κ aV bw g4∧aV.Perm arr∧ck key aV bw.toList 0 arr.size∧bw.size+(x+1)≤arr.size) (a8 κ b_ dQ g3):=fun i hi=>by refine AR h (q8 ok dP) gM (by omega) hi fun aV bw g4 bE fb sz=>⟨rfl,aV,bw,g4,rfl,bE.pm.trans dP,fb,by omega⟩
    refine ar (eR (go _ ?_) ?_)
    ·show (if _ then _ else _)+1<dQ.size
     have e:(pendingOf (a8 κ b_ dQ g3)).size=dQ.size:=rfl;rw [e];have:∀c:Bool,(if c=true then dQ.size-2-1 else dQ.size-2)+1<dQ.size:=fun c=>by cases c <;> simp <;> omega
     exact this _
    ·rintro b av ⟨rfl,aV,bw,g4,rfl,AU,fb,l4⟩
     rw [aa (by simp)]
     exact aq ⟨aV,bw,g4,rfl,rfl,AU,fb,l4⟩
  ·rintro c av ⟨b_,dQ,g3,rfl,rfl,dP,gM,l3⟩
   exact ⟨b_,dQ,g3,rfl,rfl,dP,gM,by omega⟩
  ·rintro c av ⟨b_,dQ,g3,rfl,rfl,dP,gM,l3⟩
   exact aq (k b_ _ dP (gM.one (by simpa using l3)) rfl rfl)
end
end Tm
namespace My
open PySem PySem.W PyProof.Rows Tm
section
variable {prog:Program} {w:World} {A:Around} {E:aF} {s:Shared}
def dR(h:Heap)(v:Value)(x y:Int):Prop:=∃a o t u e,v=.ref a∧h.get? a=some o∧o.cls=.type "tuple"∧o.data=.seq #[.int x t,.int y u] e
variable {x y x' y':Int}
theorem MZ{v v':Value}(h1:dR s.heap v x y)(h2:dR s.heap v' x' y'){Q:Bool→Shared→Prop}(h:Q (decide (x<x'∨x=x'∧y<y')) s):wpAny (model prog w) A (keyLt' (tuples' true) v v') Q E s:=by
 obtain ⟨a,o,t,u,e,rfl,g,_,d⟩:=h1;obtain ⟨a',o',t',u',e',rfl,g',_,d'⟩:=h2;refine kat_lt g d g' d' ?_;show KatLex prog w A true (decide (2<2)) Q [(.int x t,.int x' t'),(.int y u,.int y' u')] 0 s;refine kat_cons (wpAny_eqBool_int ?_);by_cases z:x=x'
 ·subst z
  rw [show (x == x)=true by simp]
  refine kat_yes (kat_cons (wpAny_eqBool_int ?_));by_cases z2:y=y'
  ·subst z2
   rw [show (y == y)=true by simp]
   refine kat_yes (kat_nil ?_);rw [bP (by omega)] at h
   exact h
  ·rw [show (y == y')=false by simp [z2]]
   refine kat_no ?_;show wpAny (model prog w) A (oneLt' false (.int y u) (.int y' u')) Q _ s;refine kat_one _ _ (lt_int ?_);show Q (decide (y<y')) s;rw [show decide (y<y')=decide (x<x∨x=x∧y<y') from qj.mpr (by omega)]
   exact h
 ·rw [show (x == x')=false by simp [z]]
  refine kat_no ?_;show wpAny (model prog w) A (oneLt' true (.int x t) (.int x' t')) Q _ s;refine oneLt_int ?_;rw [show decide (x<x')=decide (x<x'∨x=x'∧y<y') from qj.mpr (by omega)]
  exact h
theorem ES{h:Heap}:∀{vs:List Value},(∀v∈vs,∃x y,dR h v x y)→∃fs:List Value,KatTups h vs fs∧fs.length=vs.length∧∀f∈fs,∃n t,f=.int n t
 | [],_=>⟨[],.nil,rfl,fun f hf=>by cases hf⟩
 | v::vs,hv=>by
  obtain ⟨fs,k,l,i⟩:=ES (vs:=vs) fun v h=>hv v (cV _ h);obtain ⟨x,y,a,o,t,u,e,rfl,g,c,d⟩:=hv v cR;refine ⟨.int x t::fs,.cons g c d rfl k,by rw [dS,dS,l],fun f hf=>?_⟩
  rcases b6.mp hf with rfl | hf;·exact ⟨x,t,rfl⟩
  ·exact i f hf
theorem perm_back{α β:Type}{f:α→β}{l m:List β}(h:l.Perm m):∀q:List α,m=q.map f→∃p:List α,p.Perm q∧l=p.map f:=by
 induction h with
 | nil=>intro q e;exact ⟨q,List.Perm.refl _,e⟩
 | cons x _ ih=>
  intro q e
  match q,e with
  | a::q,e=>obtain ⟨rfl,e'⟩:=List.cons.inj e;obtain ⟨p,hp,rfl⟩:=ih q e';exact ⟨a::p,hp.cons a,rfl⟩
 | swap x y _=>
  intro q e
  match q,e with
  | a::b::q,e=>obtain ⟨rfl,e'⟩:=List.cons.inj e;obtain ⟨rfl,rfl⟩:=List.cons.inj e';exact ⟨b::a::q,List.Perm.swap ..,rfl⟩
 | trans _ _ M0 M1=>intro q e;obtain ⟨p,hp,e1⟩:=M1 q e;obtain ⟨p',M3,e2⟩:=M0 p e1;exact ⟨p',M3.trans hp,e2⟩
variable {h:Heap}
theorem dR.uniq{v:Value}(h1:dR h v x y)(h2:dR h v x' y'):x=x'∧y=y':=by obtain ⟨a,o,t,u,e,rfl,g,_,d⟩:=h1;obtain ⟨a',o',t',u',e',ev,g',_,d'⟩:=h2;cases ev;rw [g] at g';cases g';rw [d] at d';simp at d';exact ⟨d'.1.1.1,d'.1.2.1⟩
open Classical in
noncomputable def AZ (h:Heap) (k:Keyed):Int:=if e:∃z:Int×Int,dR h k.1 z.1 z.2 then (choose e).1*1000+(choose e).2 else 0
theorem xN{v u:Value}(p:dR h v x y):AZ h (v,u)=x*1000+y:=by have e:∃z:Int×Int,dR h (v,u).1 z.1 z.2:=⟨(x,y),p⟩;unfold AZ;rw [dif_pos e];obtain ⟨a,b⟩:=(Classical.choose_spec e).uniq p;rw [a,b]
variable {vs:List Value}
theorem M4{x y:Nat→Int}(h2:2≤vs.length)(hv:∀i v,vs[i]?=some v→dR s.heap v (x i) (y i)∧0≤y i∧y i<1000){Q:SortSt→Shared→Prop}
  (hQ:∀(p:Array Nat) (st:SortSt),k8 vs.length p→oi (fun i=>x i*1000+y i) p vs.length→(arrOf st).map (·.2)=List.toArray (p.toList.map fun i=>vs.getD i Value.none)→failedOf st=none→Q st s) :
  wpAny (model prog w) A (sortRuns'.run (SortSt.mk' (tuples' true) (vs.toArray.zip vs.toArray) #[] 7 none)) (fun r s'=>Q r.2 s') E s:=by
 have az:(vs.toArray.zip vs.toArray).size=vs.length:=by simp
 have ag:∀i,i<vs.length→(vs.toArray.zip vs.toArray).getD i nn=(vs.getD i Value.none,vs.getD i Value.none):=fun i hi=>by simp [Array.getD,hi]
 have ga:∀i (hi:i<vs.length),dR s.heap (vs.getD i Value.none) (x i) (y i)∧0≤y i∧y i<1000:=fun i hi=>by refine hv i _ ?_;simp [hi]
 have lt:iq prog w A s (tuples' true) (AZ s.heap) (fun k=>∃a b,dR s.heap k.1 a b∧0≤b∧b<1000):=by
  rintro ⟨u,u'⟩ ⟨v,v'⟩ ⟨a,b,p1,b0,b1⟩ ⟨c,d,p2,d0,d1⟩ C hC;refine MZ p1 p2 ?_;rw [xN p1,xN p2] at hC;rw [show decide (a<c∨a=c∧b<d)=decide (a*1000+b<c*1000+d) from qj.mpr (by omega)]
  exact hC
 have ok:d8 (fun k=>∃a b,dR s.heap k.1 a b∧0≤b∧b<1000) (vs.toArray.zip vs.toArray):=fun i hi=>by rw [az] at hi;rw [ag i hi];exact ⟨_,_,ga i hi⟩
 refine bG (EO (E:=E) (Q:=fun _ st=>Q st s) (g:=7) lt ok fun aQ st pm sg ha hf=>?_) (fun r s' h'=>by obtain ⟨rfl,h'⟩:=h';exact h') fun _ _ e=>e
 have el:(vs.toArray.zip vs.toArray).toList=(List.range vs.length).map fun i=>(vs.getD i Value.none,vs.getD i Value.none):=by
  refine jc (by simp) fun i h1 h2=>?_
  have hi:i<vs.length:=by simpa using h2
  simp [hi]
 obtain ⟨p,hp,ep⟩:=perm_back (qi.mp pm) _ el;have pl:p.length=vs.length:=by rw [hp.length_eq,dz]
 have A0:∀i∈p,i<vs.length:=fun i hi=>cx.mp (hp.mem_iff.mp hi);have hsz:aQ.size=vs.length:=by rw [pm.size_eq,az]
 have gd:∀i,i<vs.length→aQ.getD i nn=(vs.getD (p.toArray.getD i 0) Value.none,vs.getD (p.toArray.getD i 0) Value.none)∧p.toArray.getD i 0<vs.length:=fun i hi=>by
  have e1:aQ.getD i nn=aQ.toList[i]'(by simp;omega):=by simp [Array.getD,show i<aQ.size by omega]
  have e2:p.toArray.getD i 0=p[i]'(by omega):=by simp [Array.getD,show i<p.length by omega]
  rw [e1,e2];refine ⟨?_,A0 _ (c_ _)⟩;simp [ep]
 refine hQ p.toArray st (qi.mpr (by simpa using hp)) (fun i j h1 h3=>?_) ?_ hf
 ·have:=sg i j (bH _) h1 (by rw [az];exact h3)
  unfold vA at this;obtain ⟨e1,l1⟩:=gd i (by omega)
  obtain ⟨e2,l2⟩:=gd j h3;rw [e1,e2,xN (ga _ l1).1,xN (ga _ l2).1] at this;exact this
 ·rw [ha]
  apply Array.toList_inj.mp;rw [Array.toList_map,ep,cE];rfl
theorem M5{Q:SortKind→Shared→Prop}(h1:1≤vs.length)(hv:∀v∈vs,∃x y,dR s.heap v x y)(h:Q (tuples' true) s):wpAny (model prog w) A (keyKind' vs.toArray) Q E s:=by
 obtain ⟨fs,k,l,i⟩:=ES hv;refine kat_kind (T:=Value.type "int") k (by omega) (fun v hv=>?_) rfl h
 obtain ⟨n,t,rfl⟩:=i v hv;exact .now
theorem dR.mono{h':Heap}{v:Value}(k:∀b o,h.get? b=some o→h'.get? b=some o)(p:dR h v x y):dR h' v x y:=by obtain ⟨a,o,t,u,e,rfl,g,c,d⟩:=p;exact ⟨a,o,t,u,e,rfl,k _ _ g,c,d⟩
theorem M6{a:Addr}{n:Nat}{x y:Nat→Int}{P:PySem.Fin→Shared→Prop}(ho:s.heap.get? a=some (seqObj "list" vs.toArray n))(u4:vs.length<1000)(hv:∀i v,vs[i]?=some v→dR s.heap v (x i) (y i)∧0≤y i∧y i<1000)
  (h:∀(p:Array Nat),k8 vs.length p→oi (fun i=>x i*1000+y i) p vs.length→P (.done (.ret .none)) {s with heap:=sortedHeap s.heap a vs (List.toArray (p.toList.map fun i=>vs.getD i Value.none))}) :
  wpAny (model prog w) A (Builtin.«list.sort» ⟨[.ref a],[]⟩) P E s:=by
 have sl:vs.length≤sizeLine:=by rw [gQ];omega
 have lt:=aW ho
 obtain ⟨e1,g1⟩:∃e,(s.heap.update a (Obj.mapSeq fun _=>#[])).get? a=some (seqObj "list" #[] e):=⟨_,mh ho fun _=>#[]⟩
 have z1:(s.heap.update a (Obj.mapSeq fun _=>#[])).objs.size=s.heap.objs.size:=tU _ _ _
 have up:∀b u,b<s.heap.objs.size→(s.heap.update a (Obj.mapSeq fun _=>#[])).get? b=some u→(((s.heap.update a (Obj.mapSeq fun _=>#[])).push (seqObj "tuple" vs.toArray 0)).push (seqObj "list" #[] 0)).get? b=some u:=fun b u hb hu=>by
  rw [mj _ _ _ (bC (by rw [ni,z1];exact jQ hb)),mj _ _ _ (bC (by rw [z1];exact hb))]
  exact hu
 have g3:=up a _ lt g1
 have ET:∀i v,vs[i]?=some v→dR (((s.heap.update a (Obj.mapSeq fun _=>#[])).push (seqObj "tuple" vs.toArray 0)).push (seqObj "list" #[] 0)) v (x i) (y i)∧0≤y i∧y i<1000:=fun i v hi=>by
  obtain ⟨⟨b,o,t,u,e,rfl,g,cc,d⟩,y0⟩:=hv i v hi
  have nb:b≠a:=fun q=>by
   rw [q,ho] at g
   cases g
   exact absurd (Value.type.inj cc) (by decide)
  refine ⟨⟨b,o,t,u,e,rfl,up b o (aW g) ?_,cc,d⟩,y0⟩
  rw [qk _ _ _ _ nb]
  exact g
 rw [list_sort_plain]
 refine ao (listItems_at ho rfl (ao (qo ho rfl ?_ (by rw [bM];omega) (bH _))))
 refine ao (seqEpoch_at g1 rfl (ao (wpAny_newTuple ?_ (by show vs.length≤_;omega))))
 refine ao (qq (gP ?_) (bH _))
 show wpAny (model prog w) A _ P E {s with heap:=((s.heap.update a (Obj.mapSeq fun _=>#[])).push (seqObj "tuple" vs.toArray 0)).push (seqObj "list" #[] 0)}
 dsimp only
 have fin:∀(st:SortSt) (p:Array Nat),k8 vs.length p→oi (fun i=>x i*1000+y i) p vs.length→(arrOf st).map (·.2)=List.toArray (p.toList.map fun i=>vs.getD i Value.none)→failedOf st=none→
   wpAny (model prog w) A (do
    let touched:=(←seqEpoch a) != e1
    Builtin.List.listUpdate (.ref a) fun _=>(arrOf st).map (·.2)
    if let some e:=failedOf st then rule "list.sort.comparison-raised";throw e
    if touched then rule "list.sort.modified";raiseError "ValueError" "list modified during sort"
    ret .none) P E {s with heap:=((s.heap.update a (Obj.mapSeq fun _=>#[])).push (seqObj "tuple" vs.toArray 0)).push (seqObj "list" #[] 0)}:=fun st p hp hu ha hf=>by
  refine ao (seqEpoch_at g3 rfl (ao (qo g3 rfl ?_ (bH _) ?_)))
  ·rw [hf,ha]
   simp only [bne_self_eq_false,nj,jb]
   exact aI (h p hp hu)
  ·rw [ha,bM,aE,eE,hp.size]
   omega
 by_cases z:vs.toArray.size<2
 ·rw [ae z,ae z]
  refine ao (aI ?_)
  rw [StateT.run_pure]
  refine ao (aI ?_)
  have len:vs.length<2:=by simpa using z
  refine fin _ (List.toArray (List.range vs.length)) (Array.Perm.refl _) (fun a b h1 h2=>by
   obtain rfl:a=b:=by omega
   exact fO _) ?_ rfl
  match vs,len with
  | [],_=>
   show Array.map (·.2) ((#[]:Array Value).zip #[])=_
   simp
  | [v],_=>
   show Array.map (·.2) (#[v].zip #[v])=_
   simp
 ·rw [aa z,aa z]
  have len:2≤vs.length:=by simpa using z
  refine ao (M5 (by omega) (fun v hm=>?_) ?_)
  ·obtain ⟨i,hi,rfl⟩:=ng hm
   exact ⟨_,_,(ET i _ (by simp [hi])).1⟩
  ·refine ao (bG (M4 (Q:=fun st s'=>s'={s with heap:=((s.heap.update a (Obj.mapSeq fun _=>#[])).push (seqObj "tuple" vs.toArray 0)).push (seqObj "list" #[] 0)}∧∃p,k8 vs.length p∧oi (fun i=>x i*1000+y i) p vs.length∧(arrOf st).map (·.2)=List.toArray (p.toList.map fun i=>vs.getD i Value.none)∧failedOf st=none) len ET fun p st a1 a2 a3 a4=>⟨rfl,p,a1,a2,a3,a4⟩) ?_ fun _ _ e=>e)
   rintro ⟨⟨⟩,st⟩ s' ⟨rfl,p,a1,a2,a3,a4⟩
   exact fin st p a1 a2 a3 a4
end
open PySem PySem.W PyProof.Rows
section
variable {prog:Program} {w:World} {A:Around} {E:aF} {s:Shared}
theorem M7{l:Addr}{vs:List Value}{x y:Nat→Int}{Q:aF}(hl:s.heap.IsList l vs.toArray)(u4:vs.length<1000)(hv:∀i v,vs[i]?=some v→dR s.heap v (x i) (y i)∧0≤y i∧y i<1000)
  (h:∀(p:Array Nat) (h':Heap) (c:Nat),k8 vs.length p→oi (fun i=>x i*1000+y i) p vs.length→(∀b o,s.heap.get? b=some o→h'.get? b=some o)→h'.get? (s.heap.objs.size+1)=some (seqObj "list" (List.toArray (p.toList.map fun i=>vs.getD i Value.none)) c)→Q (.ref (s.heap.objs.size+1)) {s with heap:=h'}) :
  wpAny (model prog w) A (call (.builtin "sorted") [.ref l]) Q E s:=by
 have sl:vs.length≤sizeLine:=by rw [gQ];omega
 refine Calls.call_function_entry kind_sorted plain_sorted entry_sorted (args_sorted1 _) ?_;unfold Builtin.«sorted»;refine ao (m:=checkCount "sorted" 1 1 _) (aI (ao (collect_list hl (ao (qq ?_ sl)) sl)));have zz:((s.heap.push (seqObj "list" #[] 0)).update s.heap.objs.size (Obj.mapSeq (·++vs.toArray))).objs.size=s.heap.objs.size+1:=by rw [tU,ni]
 have kp:∀b o,s.heap.get? b=some o→(((s.heap.push (seqObj "list" #[] 0)).update s.heap.objs.size (Obj.mapSeq (·++vs.toArray))).push (seqObj "list" vs.toArray 0)).get? b=some o:=fun b o g=>by
  have lt:=aW g;rw [mj _ _ _ (bC (by rw [zz];exact jQ lt)),qk _ _ _ _ (bC lt),mj _ _ _ (bC lt)]
  exact g
 have gL:(((s.heap.push (seqObj "list" #[] 0)).update s.heap.objs.size (Obj.mapSeq (·++vs.toArray))).push (seqObj "list" vs.toArray 0)).get? (s.heap.objs.size+1)=some (seqObj "list" vs.toArray 0):=by rw [←zz];exact cM _ rfl
 show wpAny _ _ _ _ _ {s with heap:=((s.heap.push (seqObj "list" #[] 0)).update s.heap.objs.size (Obj.mapSeq (·++vs.toArray))).push (seqObj "list" vs.toArray 0)};rw [zz];generalize ((s.heap.push (seqObj "list" #[] 0)).update s.heap.objs.size (Obj.mapSeq (·++vs.toArray))).push (seqObj "list" vs.toArray 0)=h1 at kp gL;refine ao (gP (mq slot_list_sort ⟨_,gL,rfl⟩ entry_list_sort (M6 (s:={s with heap:=h1}) gL u4 (fun i v hi=>⟨(hv i v hi).1.mono kp,(hv i v hi).2⟩) fun p hp hu=>⟨_,rfl,?_⟩) (args_list_sort _)));have M8:=aW gL;have z1:(h1.update (s.heap.objs.size+1) (Obj.mapSeq fun _=>#[])).objs.size=h1.objs.size:=tU _ _ _;obtain ⟨e1,g1⟩:∃e,(h1.update (s.heap.objs.size+1) (Obj.mapSeq fun _=>#[])).get? (s.heap.objs.size+1)=some (seqObj "list" #[] e):=⟨_,mh gL fun _=>#[]⟩;have up:∀b u,b<h1.objs.size→(h1.update (s.heap.objs.size+1) (Obj.mapSeq fun _=>#[])).get? b=some u→(((h1.update (s.heap.objs.size+1) (Obj.mapSeq fun _=>#[])).push (seqObj "tuple" vs.toArray 0)).push (seqObj "list" #[] 0)).get? b=some u:=fun b u hb hu=>by
  rw [mj _ _ _ (bC (by rw [ni,z1];exact jQ hb)),mj _ _ _ (bC (by rw [z1];exact hb))]
  exact hu
 have g3:=up _ _ M8 g1;refine aI ⟨_,rfl,h p _ _ hp hu (fun b o g=>?_) (mh g3 fun _=>List.toArray (p.toList.map fun i=>vs.getD i Value.none))⟩;have g':=kp b o g;have ne:b≠s.heap.objs.size+1:=bC (jQ (aW g));show (Heap.update _ _ _).get? b=some o;rw [qk _ _ _ _ ne];refine up b o (aW g') ?_;rw [qk _ _ _ _ ne];exact g'
end
end My
namespace L2
open PySem PySem.W PyProof.Rows My
def M9:List V→Hp→VK→Prop:=fun xs H Q=>∃(a:Addr) (vs:List V) (x y:Nat→Int),xs=[.ref a]∧H a=some (.lst vs)∧vs.length<1000∧(∀(i:Nat) (v:V),vs[i]?=some v→(∃b,v=.ref b∧H b=some (.tup [.int (x i),.int (y i)]))∧0≤y i∧y i<1000) ∧
 ∀(p:Array Nat) (l:Addr),k8 vs.length p→oi (fun i=>x i*1000+y i) p vs.length→H l=none→Q (.ref l) (upd H l (.lst (p.toList.map fun i=>vs.getD i .aP)))
theorem A1{xs:List V}{us:List Value}(r:Vals xs us):∀(ns:List Nat),(∀i∈ns,i<xs.length)→Vals (ns.map fun i=>xs.getD i .aP) (ns.map fun i=>us.getD i Value.none)
 | [],_=>.nil
 | i::ns,h=>by
  have hi:=h i cR;obtain ⟨u,e,ru⟩:=r.get (i:=i) (x:=xs[i]) (by simp [hi])
  refine .cons ?_ (A1 r ns fun j hj=>h j (cV _ hj));dsimp only;rw [show xs.getD i .aP=xs[i] by simp [hi],show us.getD i Value.none=u by rw [dU,e];rfl]
  exact ru
theorem M_{X:Cx}:en X (.builtin "sorted") M9:=by
 intro pins s σ H xs us Q I r h;obtain ⟨a,vs,x,y,rfl,ha,u4,hv,k⟩:=h;obtain ⟨u,rfl,ru⟩:=vals1 r;cases ru;obtain ⟨ai,rv,pl,hz⟩:=I.list (.of ha);have hl:=rv.length;refine M7 (x:=x) (y:=y) pl.isList (by omega) (fun i v hi=>?_) fun p h' c hp hu kp g=>?_
 ·have aR:i<vs.length:=by have:=(bL.mp hi).1;omega
  have gi:vs[i]?=some vs[i]:=by simp [aR]
  obtain ⟨⟨b,eb,hb⟩,A2⟩:=hv i _ gi;obtain ⟨u,eu,ru⟩:=rv.get gi;rw [hi] at eu;cases eu;rw [eb] at ru;cases ru;obtain ⟨_,gx,r2,o,g,cl,e,d⟩:=(show bI X.prog X.w H s.heap b (.tup [.int (x i),.int (y i)]) from I.ax b _ hb);obtain ⟨u1,u2,rfl,q1,q2⟩:=vals2 r2;obtain ⟨t1,rfl⟩:=q1;obtain ⟨t2,rfl⟩:=q2;exact ⟨⟨b,o,t1,t2,e,rfl,g,cl,d⟩,A2⟩
 ·rw [←hl] at hp hu
  have sz:=hp.size;refine ⟨.ref (s.heap.objs.size+1),_,I.laid (t':=s.toks) (o:=.lst (p.toList.map fun i=>vs.getD i .aP)) kp (l9 _) ⟨?_,p.toList.map fun i=>ai.getD i Value.none,c,?_,g⟩,rfl,k p _ hp hu (I.ax.fresh (l9 _))⟩
  ·rw [aE,eE,sz]
   exact hz
  ·refine A1 rv _ fun i hi=>?_
   have m:i∈List.toArray (List.range vs.length):=(Array.Perm.mem_iff hp).mp (Array.mem_toList_iff.mp hi);simpa using m
end L2
namespace My
open PySem L2
def Na(K:aG):R2:=fun x y H Q=>∃a b xs,x=.ref a∧y=.ref b∧bj K H a xs∧H b=some (.lst [])∧Q (.bl (!xs.isEmpty)) H
theorem EU{X:Cx}(hu:X.A.units+64<cLine):cz X (compareOp .NotEq) (Na X.K):=by
 intro pins s σ H x y v u Q I rx ry h;obtain ⟨a,b,xs,rfl,rfl,h1,h2,q⟩:=h;cases rx;cases ry;obtain ⟨us,r1,t1,_⟩:=I.list h1;obtain ⟨vs,r2,t2,_⟩:=I.list (bj.of h2);have l1:=r1.length;have l2:=r2.length;cases xs with
 | nil=>
  refine SeqAt.RcNeAt.lists (e:=fun _=>true) t1.isList t2.isList (by simp at l1 l2 ⊢;omega) (by omega) (fun j z1 z2=>?_) _ _ _ _ ?_
  ·simp at l1
   have:us=[]:=zJ.mp l1.symm;subst this;simp at z1
  ·rw [all_range]
   exact ⟨.bl false,H,I,rfl,q⟩
 | cons w ws=>
  refine SeqAt.RcNeAt.lists_lengths t1.isList t2.isList ?_ (by omega) _ _ _ _ ⟨.bl true,H,I,rfl,q⟩
  simp at l1 l2 ⊢;omega
variable {σ:St} {H:Hp}
theorem EV{c:TT}{t u:TS}{D:Ends}(M:St→Hp→Prop)(hM:∀σ H,M σ H→D.nx σ H)(k:∀R:St→Hp→Prop,(∀σ H,M σ H→R σ H)→wI c t u {D with nx:=R} σ H):wI c t u D σ H:=k D.nx hM
def Nb(K:aG):Sp:=fun vs H Q _=>∃(P a l:Addr) (ns:List Int) (xs:List V),vs=[.ref P,.ref l]∧b3 H P a∧bj K (er P H) a (ns.map V.int)∧l≠P∧H l=some (.lst xs)∧xs.length≤100 ∧
 ∀(r:Addr) (ys:List V) (H':Hp),aM P H H'→b3 H' P a→er P H r=none→r≠P→H' r=some (.lst ys)→ys.Perm xs→Q (.ref r) H'
def Nc(K:aG):Sp:=fun vs H Q _=>∃(P a:Addr) (ns:List Int) (way size wide i j:Int),vs=[.ref P,.int way,.int size,.int wide,.int i,.int j]∧b3 H P a∧bj K (er P H) a (ns.map V.int) ∧
 ∀(b:Bool) (H':Hp),aM P H H'→b3 H' P a→Q (.bl b) H'
theorem EW{α:Type}:∀(zs:List α) (k:Nat) (h:k<zs.length),(zs[k]::zs.eraseIdx k).Perm zs
 | _::_,0,_=>.refl _
 | z::zs,k+1,h=>(List.Perm.swap _ _ _).trans ((EW zs k (by simpa using h)).cons z)
def bS(H:Hp)(vs:List V)(L:aA):Prop:=vs.length=L.length∧∀(k:Nat) (v:V) (p:Int×Int),vs[k]?=some v→L[k]?=some p→∃b,v=.ref b∧H b=some (.tup [.int p.1,.int p.2])
theorem bS.nil(H:Hp):bS H [] []:=⟨rfl,fun k v p h=>by simp at h⟩
variable {H':Hp} {vs:List V} {L:aA}
theorem bS.mono(h:bS H vs L)(s:aj H H'):bS H' vs L:=⟨h.1,fun k v p h1 h2=>by obtain ⟨b,e,g⟩:=h.2 k v p h1 h2;exact ⟨b,e,s _ _ g⟩⟩
variable {r:Addr} {xs:List V}
theorem bS.bZ(h:bS H vs L)(e:H r=some (.lst xs))(k:∀b o,b≠r→H b=some o→H' b=some o):bS H' vs L:=⟨h.1,fun i v p h1 h2=>by obtain ⟨b,eb,g⟩:=h.2 i v p h1 h2;refine ⟨b,eb,k b _ (fun z=>?_) g⟩;rw [z,e] at g;cases g⟩
variable {b:Addr} {p:Int×Int}
theorem bS.push(h:bS H vs L)(e:H b=some (.tup [.int p.1,.int p.2])):bS H (vs++[.ref b]) (L++[p]):=⟨by simp [h.1],fun k v q h1 h2=>by
 have hl:=h.1;by_cases z:k<vs.length
 ·rw [gr z] at h1
  rw [gr (by omega)] at h2
  exact h.2 k v q h1 h2
 ·have hk:=(bL.mp h1).1
  rw [cS,jP] at hk;obtain rfl:k=vs.length:=by omega
  rw [gq (ay _),tP] at h1;rw [gq (by omega),show vs.length-L.length=0 by omega] at h2
  cases h1;cases h2;exact ⟨b,rfl,e⟩⟩
structure iW (n:Nat) (L:aA):Prop where
 nd:L.Nodup
 lt:∀p∈L,0≤p.1∧p.1<p.2∧p.2<n
 d5:L.length≤n*n / 2
def lexLt(p q:Int×Int):Prop:=p.1<q.1∨p.1=q.1∧p.2<q.2
variable {M:aA}
theorem Nd{p:Array Nat}(P:k8 M.length p)(U:oi (fun i=>(M.getD i (0,0)).1*1000+(M.getD i (0,0)).2) p M.length)(nd:M.Nodup)(b:∀q∈M,0≤q.2∧q.2<1000) :
  (p.toList.map fun i=>M.getD i (0,0)).Perm M∧(p.toList.map fun i=>M.getD i (0,0)).Pairwise lexLt:=by
 have pm:p.toList.Perm (List.range M.length):=qi.mp P;have pn:p.toList.Nodup:=pm.nodup_iff.mpr jS;have lt:∀i∈p.toList,i<M.length:=fun i hi=>cx.mp (pm.mem_iff.mp hi);refine ⟨?_,?_⟩
 ·have e:((List.range M.length).map fun i=>M.getD i (0,0))=M:=by
   refine jc (by simp) fun i h1 h2=>?_
   rw [jT,qr,getD_at h2]
  have:=pm.map fun i=>M.getD i (0,0);rw [e] at this;exact this
 ·rw [nh]
  intro i j hi hj xB;rw [aE] at hi hj;rw [jT,jT];have sz:=P.size;have li:p.toList[i]<M.length:=lt _ (c_ _);have lj:p.toList[j]<M.length:=lt _ (c_ _);have u:=U i j (by omega) (by rw [←sz,←eE];exact hj)
  unfold vN at u;have gi:p.getD i 0=p.toList[i]:=by
   have:i<p.size:=by rw [←eE];exact hi
   simp [Array.getD,this]
  have gj:p.getD j 0=p.toList[j]:=by
   have:j<p.size:=by rw [←eE];exact hj
   simp [Array.getD,this]
  rw [gi,gj] at u;dsimp only at u;rw [getD_at li,getD_at lj] at u;rw [getD_at li,getD_at lj];have ne:M[p.toList[i]]≠M[p.toList[j]]:=fun e=>by have e1:=(v_ nd).mp e;have e2:=(v_ pn).mp e1;omega
  have b1:=b _ (c_ li);have b2:=b _ (c_ lj);generalize M[p.toList[i]]=x at u ne b1;generalize M[p.toList[j]]=y at u ne b2;obtain ⟨x1,x2⟩:=x;obtain ⟨y1,y2⟩:=y;unfold lexLt;dsimp only at u b1 b2 ⊢;by_cases z:x1<y1;·exact .inl z
  ·right
   have e1:x1=y1:=by omega
   subst e1;refine ⟨rfl,?_⟩;by_cases y:x2=y2
   ·subst y
    exact absurd rfl ne
   ·omega
theorem xO{α β:Type}{f:α→β}:∀{L:List α},L.Nodup→(∀p q,p∈L→q∈L→f p=f q→p=q)→(L.map f).Nodup
 | [],_,_=>qt
 | x::L,h,k=>by obtain ⟨h1,h2⟩:=gT.mp h;refine gT.mpr ⟨fun m=>?_,xO h2 fun p q hp hq=>k p q (cV _ hp) (cV _ hq)⟩;obtain ⟨y,hy,e⟩:=cg.mp m;have:=k y x (cV _ hy) cR e;rw [this] at hy;exact h1 hy
def gc(nm:Nat→Int)(p:Int×Int):Int×Int:=(min (nm p.1.toNat) (nm p.2.toNat),max (nm p.1.toNat) (nm p.2.toNat))
structure A3 (n:Nat) (nm:Nat→Int):Prop where
 lt:∀i,i<n→0≤nm i∧nm i<n
 inj:∀i j,i<n→j<n→nm i=nm j→i=j
variable {n:Nat}
theorem Nf{nm:Nat→Int}(h:iW n L)(N:A3 n nm):iW n (L.map (gc nm)) where
 nd:=by
  refine xO h.nd fun p q hp hq e=>?_;have a:=h.lt p hp;have b:=h.lt q hq;obtain ⟨p1,p2⟩:=p;obtain ⟨q1,q2⟩:=q;obtain ⟨i,rfl⟩:=g6 (show 0≤p1 by dsimp only at a;omega)
  obtain ⟨j,rfl⟩:=g6 (show 0≤p2 by dsimp only at a;omega)
  obtain ⟨k,rfl⟩:=g6 (show 0≤q1 by dsimp only at b;omega)
  obtain ⟨l,rfl⟩:=g6 (show 0≤q2 by dsimp only at b;omega)
  dsimp only at a b;have e1:=dH Prod.fst e;have e2:=dH Prod.snd e;unfold gc at e1 e2;simp only [dq] at e1 e2;have ij:nm i≠nm j:=fun z=>by have:=N.inj i j (by omega) (by omega) z;omega
  have kl:nm k≠nm l:=fun z=>by have:=N.inj k l (by omega) (by omega) z;omega
  by_cases z:nm i=nm k
  ·have e3:nm j=nm l:=by omega
   have i1:=N.inj i k (by omega) (by omega) z
   have i2:=N.inj j l (by omega) (by omega) e3
   rw [i1,i2]
  ·have e3:nm i=nm l:=by omega
   have e4:nm j=nm k:=by omega
   have i1:=N.inj i l (by omega) (by omega) e3
   have i2:=N.inj j k (by omega) (by omega) e4
   omega
 lt:=fun p hp=>by
  obtain ⟨q,hq,rfl⟩:=cg.mp hp;have a:=h.lt q hq;have n1:=N.lt q.1.toNat (by omega)
  have n2:=N.lt q.2.toNat (by omega)
  have ne:nm q.1.toNat≠nm q.2.toNat:=fun z=>by have:=N.inj _ _ (by omega) (by omega) z;omega
  unfold gc;dsimp only;omega
 d5:=by rw [aE];exact h.d5
theorem iW.perm{L':aA}(h:iW n L)(p:L'.Perm L):iW n L':=⟨p.nodup_iff.mpr h.nd,fun q hq=>h.lt q (p.mem_iff.mp hq),by rw [p.length_eq];exact h.d5⟩
def d9(H:Hp)(t:Addr)(n:Nat)(L:aA):Prop:=∃(lt:Addr) (us:List V),H t=some (.tup [.int (n:Int),.ref lt])∧H lt=some (.tup us)∧bS H us L
def Ng:Sp:=fun vs H Q _=>∃(l r:Addr) (n:Nat) (us ws:List V) (L:aA) (nm:Nat→Int),vs=[.int (n:Int),.ref l,.ref r]∧H l=some (.lst us)∧bS H us L∧iW n L∧n≤30∧H r=some (.lst ws)∧ws.length=n∧(∀i,i<n→ws[i]?=some (.int (nm i)))∧A3 n nm ∧
 ∀(t:Addr) (L':aA) (H':Hp),aj H H'→H t=none→d9 H' t n L'→iW n L'→L'.Pairwise lexLt→L'.Perm (L.map (gc nm))→Q (.ref t) H'
variable {us:List V}
theorem bS.pick(h:bS H us M)(ns:List Nat)(hn:∀i∈ns,i<M.length):bS H (ns.map fun i=>us.getD i .aP) (ns.map fun i=>M.getD i (0,0)):=⟨by simp,fun k v p h1 h2=>by
 have hl:=h.1;have hk:k<ns.length:=by have:=(bL.mp h1).1;simpa using this
 have hi:=hn ns[k] (c_ hk);rw [bU,bV hk] at h1 h2;cases h1;cases h2;dsimp only;have aR:ns[k]<us.length:=by omega
 rw [getD_at hi];have e:us.getD ns[k] .aP=us[ns[k]]:=by simp [aR]
 rw [e];exact h.2 ns[k] _ _ (by simp [aR]) (by simp [hi])⟩
variable {wi:TI} {ρ:St→St} {tt:TT} {te:TE} {Q:VK} {P a:Addr}
theorem Nh{K:aG}{l:Addr}(hn:xs.length<sizeLine)(nl:l≠P)(el:H l=some (.lst xs))(pc:b3 H P a)
  (eK:∀R:It→Hp→Prop,R (iM K l) H→wi σ H R)
  (test:∀(i:Nat) (x:V),xs[i]?=some x→∀(Hc:Hp) (R:Bool→Hp→Prop),aM P H Hc→b3 Hc P a→(∀b H3,aM P Hc H3→b3 H3 P a→R b H3)→tt (some x::ρ σ) Hc R)
  (elem:∀(x:V) (Hc:Hp) (R:VK),R x Hc→te (some x::ρ σ) Hc R)
  (fin:∀(D:Addr) (ys:List V) (Hc:Hp),D≠P→er P H D=none→aM P H Hc→b3 Hc P a→ys.Sublist xs→Hc D=some (.lst ys)→Q (.ref D) Hc):ie wi ρ tt te σ H Q:=by
 refine eK _ fun D nD=>?_;have nP:=pc.ne nD;have lD:l≠D:=fun e=>by rw [e,nD] at el;cases el
 refine ⟨fun i m ys Hc=>m=xs.length-i∧i≤xs.length∧Hc D=some (.lst ys)∧aM P H Hc∧b3 Hc P a∧ys.Sublist (xs.take i),⟨_,rfl,bH _,aw,(aM.refl H).but nD,pc.upd nP,by simp⟩,?_⟩
 rintro i m ys Hc ⟨rfl,hi,eD,sH,EX,sub⟩;refine ⟨eD,?_⟩;have A4:=sH.at nl el;by_cases a7:i<xs.length
 ·refine .inr ⟨⟨xs,xs[i],.of A4,by simp [a7]⟩,fun x H' hy=>?_⟩
  obtain ⟨rfl,hx⟩:=hy;have ex:=hx xs (.of A4);refine test i x ex _ _ sH EX fun b H3 s3 p3=>?_;have tk:xs.take (i+1)=xs.take i++[x]:=by rw [kG,ex];rfl
  have e3:=s3.at nP eD;cases b with
  | true=>
   rw [ae rfl];refine elem x H3 _ ⟨e3,?_,xs.length-(i+1),by omega,rfl,a7,aw,(sH.trans s3).but nD,p3.upd nP,?_⟩
   ·have:=sub.length_le
    rw [m7] at this;omega
   ·rw [tk]
    exact sub.append (List.Sublist.refl _)
  | false=>
   rw [aa (by simp)]
   refine ⟨xs.length-(i+1),by omega,rfl,a7,e3,sH.trans s3,p3,?_⟩
   rw [tk];exact sub.trans (List.sublist_append_left _ _)
 ·have e:i=xs.length:=by omega
  subst e;rw [gX] at sub;exact .inl ⟨⟨xs,.of A4,by omega⟩,fin D ys Hc nP (by rw [eA nP];exact nD) sH EX sub eD⟩
def eO(k:Nat)(d:List Nat):Prop:=d.Pairwise (fun a b=>b<a)∧∀x∈d,x<k
theorem eO.len:∀{d:List Nat} {k:Nat},eO k d→d.length≤k
 | [],_,_=>bH _
 | x::d,k,h=>by obtain ⟨h1,h2⟩:=mr.mp h.1;have:=eO.len (k:=x) ⟨h2,fun y hy=>h1 y hy⟩;have:=h.2 x cR;rw [dS];omega
theorem eO.nil(k:Nat):eO k []:=⟨List.Pairwise.nil,fun x hx=>by cases hx⟩
variable {k:Nat} {d:List Nat}
theorem eO.sub{e:List Nat}(h:eO k d)(s:e.Sublist d):eO k e:=⟨h.1.sublist s,fun x hx=>h.2 x (s.subset hx)⟩
variable {j:Nat}
theorem eO.put(h:eO k d)(hk:k<j):eO j (k::d):=⟨mr.mpr ⟨h.2,h.1⟩,fun x hx=>by
 rcases b6.mp hx with rfl | hx;·exact hk
 ·have:=h.2 x hx
  omega⟩
theorem eO.nd(h:eO k d):d.Nodup:=h.1.imp fun h=>by omega
def d_(d:List Nat):List V:=d.map fun(x:Nat)=>V.int (x:Int)
theorem A5:∀{d:List Nat} {ys:List V},ys.Sublist (d_ d)→∃e:List Nat,e.Sublist d∧ys=d_ e
 | [],ys,h=>⟨[],List.Sublist.refl _,by have h:ys.Sublist []:=h;rw [List.sublist_nil.mp h];rfl⟩
 | x::d,ys,h=>by
  have h:ys.Sublist (V.int (x:Int)::d_ d):=h;cases h with
  | cons _ h=>obtain ⟨e,h1,h2⟩:=A5 h;exact ⟨e,h1.cons _,h2⟩
  | cons_cons _ h=>obtain ⟨e,h1,h2⟩:=A5 h;exact ⟨x::e,.cons_cons _ h1,by rw [h2];rfl⟩
structure lE (j:Nat) (L:aA):Prop where
 nd:L.Nodup
 lt:∀p∈L,0≤p.1∧p.1<p.2∧p.2<j
 d5:2*L.length≤j*(j-1)
theorem lE.nil:lE 1 []:=⟨qt,(fun p hp=>by cases hp),by simp⟩
theorem lE.ok(h:lE n L):iW n L:=⟨h.nd,h.lt,by
 have:=h.d5;have:n*(n-1)≤n*n:=Nat.mul_le_mul_left _ (by omega)
 omega⟩
theorem lE.more(h:lE j L)(hd:eO j d):lE (j+1) (L++d.map fun(x:Nat)=>((x:Int),(j:Int))) where
 nd:=by
  refine kH.mpr ⟨h.nd,xO hd.nd fun p q _ _ e=>by have:=dH Prod.fst e;dsimp only at this;omega,fun p hp q hq e=>?_⟩
  obtain ⟨x,_,rfl⟩:=cg.mp hq;have:=h.lt p hp;rw [e] at this;dsimp only at this;omega
 lt:=fun p hp=>by
  rcases cL.mp hp with hp | hp
  ·have:=h.lt p hp
   omega
  ·obtain ⟨x,hx,rfl⟩:=cg.mp hp
   have:=hd.2 x hx;dsimp only;omega
 d5:=by
  have a:=h.d5;have b:=hd.len;rw [cS,aE,tV];cases j with
  | zero=>rw [Nat.zero_mul] at a;rw [Nat.mul_zero];omega
  | succ j=>
   rw [tV] at a;have e:(j+1+1)*(j+1)=(j+1)*j+2*(j+1):=by grind
   rw [e];omega
def Ni(K:aG):Sp:=fun vs H Q _=>∃(P a:Addr) (ns:List Int) (n:Nat),vs=[.ref P,.int (n:Int)]∧b3 H P a∧bj K (er P H) a (ns.map V.int)∧1≤n∧n≤30 ∧
 ∀(r:Addr) (us:List V) (L:aA) (H':Hp),aM P H H'→b3 H' P a→er P H r=none→r≠P→H' r=some (.lst us)→bS (er P H') us L→iW n L→Q (.ref r) H'
def Nj(H:Hp)(vs:List V)(j:Nat)(D:Nat→List Nat):Prop:=vs.length=j∧∀k,k<j→eO k (D k)∧∃b,vs[k]?=some (.ref b)∧H b=some (.lst (d_ (D k)))
theorem A6{o:HO}:∀b o',b≠r→er P H b=some o'→er P (upd H r o) b=some o':=fun b o' nb e=>by
 by_cases z:b=P
 ·subst z
  unfold er at e;rw [ae rfl] at e;cases e
 ·rw [eA z] at e ⊢
  rw [aB nb];exact e
theorem bS.cat{zs:List V}(h:bS H us L)(g:bS H zs M):bS H (us++zs) (L++M):=⟨by simp [h.1,g.1],fun k v p h1 h2=>by
 have hl:=h.1;by_cases z:k<us.length
 ·rw [gr z] at h1
  rw [gr (by omega)] at h2
  exact h.2 k v p h1 h2
 ·rw [gq (by omega)] at h1
  rw [gq (by omega),show k-L.length=k-us.length by omega] at h2
  exact g.2 _ v p h1 h2⟩
variable {i:Nat}
theorem Nk{x:V}(h:(d_ d)[i]?=some x):∃y,d[i]?=some y∧x=.int (y:Int):=by
 unfold d_ at h;rw [bU] at h;cases e:d[i]? with
 | none=>rw [e] at h;cases h
 | some y=>rw [e] at h;cases h;exact ⟨y,rfl,rfl⟩
theorem u5(p:b3 H P a)(e:H b=some (.tup xs)):er P H b=some (.tup xs):=by refine AD (fun z=>?_) e;obtain ⟨x,y,eP,_⟩:=p;rw [z,eP] at e;cases e
structure fK (j i:Nat) (L:aA):Prop where
 nd:L.Nodup
 lt:∀p∈L,0≤p.1∧p.1<p.2∧(p.2<j∨p.2=j∧p.1<i)
 d5:2*L.length≤j*(j-1)+2*i
theorem fK.start:fK 0 0 []:=⟨qt,(fun p hp=>by cases hp),by simp⟩
theorem fK.skip(h:fK j i L):fK j (i+1) L:=⟨h.nd,fun p hp=>by
 have:=h.lt p hp;omega,by
 have:=h.d5;omega⟩
theorem fK.push(h:fK j i L)(hi:i<j):fK j (i+1) (L++[((i:Int),(j:Int))]) where
 nd:=by
  refine kH.mpr ⟨h.nd,by simp,fun p hp q hq e=>?_⟩
  rw [bR.mp hq] at e;have:=h.lt p hp;rw [e] at this;dsimp only at this;omega
 lt:=fun p hp=>by
  rcases cL.mp hp with hp | hp
  ·have:=h.lt p hp
   omega
  ·rw [bR.mp hp]
   dsimp only;omega
 d5:=by have:=h.d5;rw [cS,jP];omega
theorem fK.next(h:fK j j L):fK (j+1) 0 L:=⟨h.nd,fun p hp=>by
 have:=h.lt p hp;omega,by
 have a:=h.d5;rw [tV];cases j with
 | zero=>omega
 | succ j=>
  rw [tV] at a;have e:(j+1+1)*(j+1)=(j+1)*j+2*(j+1):=by grind
  rw [e];omega⟩
theorem fK.ok(h:fK n 0 L):iW n L:=⟨h.nd,fun p hp=>by
 have:=h.lt p hp;omega,by
 have:=h.d5;have:n*(n-1)≤n*n:=Nat.mul_le_mul_left _ (by omega)
 omega⟩
theorem Nl(n:Nat):(dh n).Nodup:=xO jS fun p q _ _ e=>by have:=V.int.inj e;omega
theorem Nm{ys:List V}(h:ys.Perm (dh n)):∃nm:Nat→Int,ys.length=n∧(∀i,i<n→ys[i]?=some (.int (nm i)))∧A3 n nm:=by
 have ln:ys.length=n:=by rw [h.length_eq];unfold dh;simp
 have nd:ys.Nodup:=h.nodup_iff.mpr (Nl n);have each:∀i,∃x:Int,i<n→ys[i]?=some (.int x)∧0≤x∧x<n:=fun i=>by
  by_cases hi:i<n
  ·have aR:i<ys.length:=by omega
   have m:ys[i]∈dh n:=h.mem_iff.mp (c_ aR);obtain ⟨k,hk,e⟩:=cg.mp m;have:=cx.mp hk;exact ⟨(k:Int),fun _=>⟨by rw [e];simp [aR],by omega,by omega⟩⟩
  ·exact ⟨0,fun z=>absurd z hi⟩
 obtain ⟨nm,hn⟩:=Classical.axiomOfChoice each;refine ⟨nm,ln,fun i hi=>(hn i hi).1,fun i hi=>(hn i hi).2,fun i j hi hj e=>?_⟩;have a:=(hn i hi).1;have b:=(hn j hj).1;rw [e] at a;have aR:i<ys.length:=by omega
 have cU:j<ys.length:=by omega
 rw [bV aR] at a;rw [bV cU] at b;exact (v_ nd).mp ((Option.some.inj a).trans (Option.some.inj b).symm)
def Nn(K:aG):Sp:=fun vs H Q _=>∃(P a:Addr) (ns:List Int) (most:Nat),vs=[.ref P,.int (most:Int)]∧b3 H P a∧bj K (er P H) a (ns.map V.int)∧1≤most∧most≤30 ∧
 ∀(t:Addr) (n:Nat) (L:aA) (H':Hp),aM P H H'→b3 H' P a→er P H t=none→t≠P→d9 (er P H') t n L→iW n L→L.Pairwise lexLt→1≤n→n≤most→Q (.ref t) H'
theorem bS.er(h:bS H us L)(p:b3 H P a):bS (er P H) us L:=⟨h.1,fun k v q h1 h2=>by obtain ⟨b,e,g⟩:=h.2 k v q h1 h2;exact ⟨b,e,u5 p g⟩⟩
theorem d9.er{t:Addr}(h:d9 H t n L)(p:b3 H P a):d9 (er P H) t n L:=by obtain ⟨lt,us,h1,h2,h3⟩:=h;exact ⟨lt,us,u5 p h1,u5 p h2,h3.er p⟩
theorem d9.mono{t:Addr}(h:d9 H t n L)(s:aj H H'):d9 H' t n L:=by obtain ⟨lt,us,h1,h2,h3⟩:=h;exact ⟨lt,us,s _ _ h1,s _ _ h2,h3.mono s⟩
theorem Np(pr:Nat→Bool)(eK:∀R:It→Hp→Prop,(∀J,jw J xs H→R J H)→wi σ H R)(hn:xs.length<sizeLine)
  (P:Addr→Nat→V→Hp→Prop) (mono:∀D i y H H' ys,P D i y H→H D=some (.lst ys)→(∀b o,b≠D→H b=some o→H' b=some o)→P D i y H')
  (test:∀(i:Nat) (x:V),xs[i]?=some x→∀(Hc:Hp) (R:Bool→Hp→Prop),aj H Hc→R (pr i) Hc→tt (some x::ρ σ) Hc R)
  (step:∀D (i:Nat) (x:V),xs[i]?=some x→∀(Hc:Hp) (R:VK),aj H Hc→(∃ys,Hc D=some (.lst ys))→(∀y H3,aj Hc H3→P D i y H3→R y H3)→te (some x::ρ σ) Hc R)
  (fin:∀D ys Hc,H D=none→aj H Hc→ys.length=((List.range xs.length).filter pr).length→(∀(k i:Nat) (y:V),ys[k]?=some y→((List.range xs.length).filter pr)[k]?=some i→P D i y Hc)→Hc D=some (.lst ys)→Q (.ref D) Hc):ie wi ρ tt te σ H Q:=by
 refine eK _ fun J js=>?_;intro D nD;refine ⟨fun i m ys Hc=>m=xs.length-i∧i≤xs.length∧Hc D=some (.lst ys)∧aj H Hc∧ys.length=((List.range i).filter pr).length∧∀(k i':Nat) (y:V),ys[k]?=some y→((List.range i).filter pr)[k]?=some i'→P D i' y Hc,⟨_,rfl,bH _,aw,eZ (aj.refl H) nD,rfl,fun k i y h=>by simp at h⟩,?_⟩
 rintro i m ys Hc ⟨rfl,hi,eD,sH,ly,hP⟩;refine ⟨eD,?_⟩;by_cases a7:i<xs.length
 ·refine .inr ⟨js.go i Hc sH a7,fun x H' hy=>?_⟩
  obtain ⟨rfl,hx⟩:=js.du i Hc x H' sH hy;refine test i x (hx a7) _ _ sH ?_;have fs:(List.range (i+1)).filter pr=(List.range i).filter pr++(if pr i=true then [i] else []):=by
   rw [List.range_succ,wc]
   congr 1
   cases e:pr i <;> simp [e]
  have fl:((List.range i).filter pr).length≤i:=bf (jU _ _) (by simp)
  cases e:pr i with
  | true=>
   rw [ae rfl];refine step D i x (hx a7) _ _ sH ⟨_,eD⟩ fun y H3 s3 hp=>?_;have e3:=s3 _ _ eD;have bZ:∀b o,b≠D→H3 b=some o→upd H3 D (.lst (ys++[y])) b=some o:=fun b o nb e=>by rw [aB nb];exact e
   refine ⟨e3,by omega,xs.length-(i+1),by omega,rfl,a7,aw,eZ (sH.trans s3) nD,?_,fun k i' y' h1 h2=>?_⟩
   ·rw [fs,e,ae rfl,cS,cS,ly]
    rfl
   ·rw [fs,e,ae rfl] at h2
    by_cases z:k<ys.length
    ·rw [gr z] at h1
     rw [gr (by omega)] at h2
     refine mono D i' y' H' _ ys (hP k i' y' h1 h2) eD fun b o nb e=>bZ b o nb (s3 _ _ e)
    ·have hk:=(bL.mp h1).1
     rw [cS,jP] at hk;obtain rfl:k=ys.length:=by omega
     rw [gq (ay _),tP] at h1;rw [gq (by omega),show ys.length-((List.range i).filter pr).length=0 by omega] at h2
     cases h1;cases h2;exact mono D _ _ H3 _ ys hp e3 bZ
  | false=>
   rw [aa (by simp)]
   refine ⟨xs.length-(i+1),by omega,rfl,a7,eD,sH,?_,fun k i' y' h1 h2=>?_⟩
   ·rw [fs,e,aa (by simp),p_]
    exact ly
   ·rw [fs,e,aa (by simp),p_] at h2
    exact hP k i' y' h1 h2
 ·have e:i=xs.length:=by omega
  subst e;exact .inl ⟨js.stop _ Hc sH (ay _),fin D ys Hc nD sH ly hP eD⟩
def A7(n:Nat)(f:Nat→Nat→Bool)(i:Nat):List (Int×Int):=((List.range (n-(i+1))).filter fun k=>f i (i+1+k)).map fun k=>((i:Int),((i+1+k:Nat):Int))
def u6(n:Nat)(f:Nat→Nat→Bool):Nat→List (Int×Int)
 | 0=>[]
 | i+1=>u6 n f i++A7 n f i
variable {f:Nat→Nat→Bool}
theorem EY(h:p∈A7 n f i):∃j,i<j∧j<n∧f i j=true∧p=((i:Int),(j:Int)):=by obtain ⟨k,hk,rfl⟩:=cg.mp h;obtain ⟨h1,h2⟩:=cQ.mp hk;have:=cx.mp h1;exact ⟨i+1+k,by omega,by omega,h2,rfl⟩
theorem Nq(h1:i<j)(h2:j<n)(h3:f i j=true):((i:Int),(j:Int))∈A7 n f i:=by
 refine cg.mpr ⟨j-(i+1),cQ.mpr ⟨cx.mpr (by omega),?_⟩,?_⟩
 ·show f i (i+1+(j-(i+1)))=true
  rw [show i+1+(j-(i+1))=j by omega]
  exact h3
 ·rw [show i+1+(j-(i+1))=j by omega]
theorem mem_of{n:Nat}{f:Nat→Nat→Bool}{p:Int×Int}:∀{k:Nat},p∈u6 n f k→∃i j,i<k∧i<j∧j<n∧f i j=true∧p=((i:Int),(j:Int))
 | 0,h=>by cases h
 | k+1,h=>by
  rcases cL.mp h with h | h
  ·obtain ⟨i,j,h1,h2⟩:=mem_of h
   exact ⟨i,j,by omega,h2⟩
  ·obtain ⟨j,h1⟩:=EY h
   exact ⟨k,j,by omega,h1⟩
theorem EZ{n:Nat}{f:Nat→Nat→Bool}{i j:Nat}(h1:i<j)(h2:j<n)(h3:f i j=true):∀{k:Nat},i<k→((i:Int),(j:Int))∈u6 n f k
 | k+1,h=>by
  by_cases z:i=k
  ·subst z
   exact dI _ (Nq h1 h2 h3)
  ·exact m4 _ (EZ h1 h2 h3 (by omega))
theorem E1{n:Nat}{f:Nat→Nat→Bool}:∀k,(u6 n f k).Pairwise lexLt
 | 0=>List.Pairwise.nil
 | k+1=>by
  refine tQ.mpr ⟨E1 k,?_,fun p hp q hq=>?_⟩
  ·refine nk.mpr ((wd.sublist List.filter_sublist).imp fun h=>?_)
   right;dsimp only;omega
  ·obtain ⟨i,j,h1,_,_,_,rfl⟩:=mem_of hp
   obtain ⟨j',_,_,_,rfl⟩:=EY hq;left;dsimp only;omega
end My
namespace L2
open PySem PySem.Spec PyProof.Rows
end L2
namespace My
open PySem L2
end My
namespace L2
open PySem PySem.Spec PyProof.Rows
section
variable (P:Program) (w:World)
end
section
variable {P:Program} {w:World} {H H':Hp} {h h':Heap} {a:Addr} {o:HO}
end
section
variable {P:Program} {w:World} {H:Hp} {h h':Heap} {x e:Addr} {o':HO}
end
section
variable {fs zS ex zT:List Addr} {H H1 H2:Hp} {h h1 h2 h':Heap} {a x e:Addr} {o:HO}
end
section
variable {X:Cx} {pins:aO} {σ:List (Option V)} {H H':Hp} {s:Shared} {h':Heap}
end
section
variable {X:Cx}
variable {a b:Expr} {ta tb:TE} {pos:Pos}
variable {tA ud:TT} {rest:List Expr}
end
section
variable {X:Cx} {pins:aO} {σ:St} {H:Hp} {s:Shared} {a:Addr} {xs ys:List V}
end
section
variable {X:Cx} {pins:aO} {σ:St} {H:Hp} {s:Shared} {E:aF}
end
section
variable {X:Cx} {st:Stmt} {rest:List Stmt} {t u:TS} {e:Expr} {te:TE} {pos:Pos}
end
section
variable {X:Cx} {pos:Pos}
end
section
variable {X:Cx} {pos:Pos}
end
section
variable {X:Cx} {tg:Expr}
end
section
variable {X:Cx} {a b c:Expr} {ta tb tc:TE} {pos:Pos}
end
section
variable {X:Cx} {a b c:Expr} {ta tb tc:TE} {pos:Pos}
end
section
variable {prog:Program} {w:World} {A:Around} {E:aF} {s:Shared} {K:aG} {x dx C f:Addr} {mA:cN} {name:Str} {v:Value}
end
section
variable {P:Program} {w:World} {H H':Hp} {h h':Heap} {a C dx:Addr} {fs zS:List (Str×V)}
end
section
variable {X:Cx} {pins:aO} {σ:St} {H:Hp} {s:Shared} {a C dx:Addr} {fs:List (Str×V)} {f:Str} {v:V} {A:Around} {E:aF}
end
section
variable {X:Cx} {o e value:Expr} {f:Str} {pos pos' wR:Pos} {ta tv:TE}
end
section
variable {X:Cx} {pins:aO} {σ:St} {H:Hp} {s:Shared} {A:Around} {E:aF} {Q:aF} {c:Value} {b:Bool}
end
section
variable {X:Cx} {e:Expr} {es:List Expr} {te:TE} {t:TA} {pos:Pos}
end
section
variable {X:Cx} {pins:aO} {σ:St} {H:Hp} {s s':Shared}
end
section
variable {X:Cx} {CX:fT} {k:Nat} {f C:Addr} {fd:FuncData} {ps:List Str} {sp:Sp} {j7:List V} {ds:List Value} {E:XK} {x m:Str} {p pos apos:Pos} {e o:Expr} {es:List Expr} {ta:TE} {t:TA}
end
section
variable {X:Cx} {CX:fT} {k:Nat} {f C:Addr} {fd:FuncData} {ps ks:List Str} {sp:Sp} {E:XK} {x m:Str} {p pos apos DM:Pos} {e o:Expr} {es:List Expr} {Kp:List Keyword} {te ta:TE} {t tk:TA} {nm:Option Str}
variable {g:List Value→List Value→List Value} {gV:List V→List V→List V}
end
section
variable {X:Cx} {x:Str} {p pos:Pos} {e:Expr} {es:List Expr} {t:TA} {id T:String} {r:List V→Hp→VK→Prop}
end
section
variable {κ:Type} [DecidableEq κ]
def eB(kvs:List (κ×V))(k:κ):Option V:=(kvs.find? fun kv=>decide (kv.1=k)).map (·.2)
def putK(kvs:List (κ×V))(k:κ)(v:V):List (κ×V):=
 if (kvs.any fun kv=>decide (kv.1=k))=true then kvs.map (fun kv=>if kv.1=k then (kv.1,v) else kv) else kvs++[(k,v)]
variable {p:κ×V} {r:List (κ×V)} {k:κ}
theorem u7(e:p.1=k):eB (p::r) k=some p.2:=by simp [eB,qu,e]
theorem u9(e:¬p.1=k):eB (p::r) k=eB r k:=by simp [eB,qu,e]
theorem E2(k:κ):∀kvs:List (κ×V),(kvs.any fun kv=>decide (kv.1=k))=(eB kvs k).isSome
 | []=>rfl
 | p::r=>by
  rw [m8];by_cases e:p.1=k;·simp only [u7 e,b8 e,Bool.true_or,Option.isSome_some]
  ·rw [u9 e,bP e,Bool.false_or];exact E2 k r
theorem A8(kvs:List (κ×V))(k:κ)(v:V):(putK kvs k v).length≤kvs.length+1:=by
 unfold putK
 split
 ·rw [aE];omega
 ·rw [cS,dS,tM];omega
theorem iI.A9{o:Option V}{u:Option Value}(r:iI o u):o.isSome=u.isSome:=by
 cases o with
 | none=>cases u with
  | none=>rfl
  | some _=>exact (show False from r).elim
 | some _=>cases u with
  | none=>exact (show False from r).elim
  | some _=>rfl
variable {kvs:List (κ×V)} {vs:List (κ×Value)}
theorem KV.val(r:KV kvs vs)(k:κ):iI (eB kvs k) (valueAt vs k):=by
 unfold KV at r
 induction r with
 | nil=>exact True.intro
 | @cons p q ps qs h t ih=>
  obtain ⟨h1,h2⟩:=h;by_cases e:p.1=k
  ·have e':q.1=k:=h1.symm.trans e
   have b:valueAt (q::qs) k=some q.2:=by simp [valueAt,qu,e']
   rw [u7 e,b];exact h2
  ·have e':¬q.1=k:=fun z=>e (h1.trans z)
   have b:valueAt (q::qs) k=valueAt qs k:=by simp [valueAt,qu,e']
   rw [u9 e,b];exact ih
theorem KV.any(r:KV kvs vs)(k:κ):(kvs.any fun kv=>decide (kv.1=k))=vs.any fun kv=>decide (kv.1=k):=by
 unfold KV at r
 induction r with
 | nil=>rfl
 | cons h t ih=>rw [m8,m8,ih,h.1]
variable {y:V} {u:Value}
theorem KV.A_(r:KV kvs vs)(k:κ)(ry:RelV y u) :
  KV (kvs.map fun kv=>if kv.1=k then (kv.1,y) else kv) (vs.map fun kv=>if kv.1=k then (kv.1,u) else kv):=by
 unfold KV at r ⊢
 induction r with
 | nil=>exact .nil
 | @cons p q ps qs h t ih=>
  rw [cZ,cZ];refine .cons ?_ ih;obtain ⟨h1,h2⟩:=h;by_cases e:p.1=k;·rw [ae e,ae (h1.symm.trans e)];exact ⟨h1,ry⟩
  ·rw [aa e,aa (fun z=>e (h1.trans z))];exact ⟨h1,h2⟩
theorem KV.put(r:KV kvs vs)(k:κ)(ry:RelV y u):KV (putK kvs k y) (stored vs k u):=by
 unfold putK stored;rw [r.any k];by_cases e:(vs.any fun kv=>decide (kv.1=k))=true;·rw [ae e,ae e];exact r.A_ k ry
 ·rw [aa e,aa e];exact Paired.snoc r ⟨rfl,ry⟩
theorem KV.length(r:KV kvs vs):kvs.length=vs.length:=Paired.length r
end
variable {P:Program} {w:World} {u:Value}
theorem u_{k:Key}(r:RelV (kV k) u):(eV P w).is k u=true:=by
 cases k with
 | inl i=>obtain ⟨t,e⟩:=(show ∃t,u=Value.int i t from r);subst e;exact Ji P w i t
 | inr x=>obtain ⟨t,e⟩:=(show ∃t,u=Value.str x t from r);subst e;exact Jj P w x t
theorem E3{P:Program}{w:World}:∀{ks:List Key} {us:List Value},Vals (ks.map kV) us→ItemsAre (eV P w) ks us
 | [],_,r=>by rw [qa] at r;cases r;exact .nil
 | k::ks,_,r=>by
  rw [cZ] at r;cases r with
  | cons h t=>exact .cons (u_ h) (E3 t)
abbrev KT (H:Hp):List (List Key×V)→List (List Key×Addr×Value)→Prop:=Paired fun p q=>p.1=q.1∧H q.2.1=some (.tup (p.1.map kV))∧RelV p.2 q.2.2
variable {H:Hp} {kvs:List (List Key×V)} {xs:List (List Key×Addr×Value)}
theorem KT.val(r:KT H kvs xs)(k:List Key):iI (eB kvs k) ((atKey xs k).map (·.2)):=by
 induction r with
 | nil=>exact True.intro
 | @cons p q ps qs h t ih=>
  obtain ⟨h1,_,h2⟩:=h;by_cases e:p.1=k
  ·have e':q.1=k:=h1.symm.trans e
   have b:atKey (q::qs) k=some q.2:=by simp [atKey,qu,e']
   rw [u7 e,b];exact h2
  ·have e':¬q.1=k:=fun z=>e (h1.trans z)
   have b:atKey (q::qs) k=atKey qs k:=by simp [atKey,qu,e']
   rw [u9 e,b];exact ih
variable {y:V}
theorem KT.A_(r:KT H kvs xs)(k:List Key)(ry:RelV y u) :
  KT H (kvs.map fun kv=>if kv.1=k then (kv.1,y) else kv) (xs.map (putAt k u)):=by
 induction r with
 | nil=>exact .nil
 | @cons p q ps qs h t ih=>
  rw [cZ,cZ];refine .cons ?_ ih;obtain ⟨h1,h2,h3⟩:=h;unfold putAt;by_cases e:p.1=k;·rw [ae e,ae (h1.symm.trans e)];exact ⟨h1,h2,ry⟩
  ·rw [aa e,aa (fun z=>e (h1.trans z))];exact ⟨h1,h2,h3⟩
variable {b:Addr}
theorem KT.put(r:KT H kvs xs)(k:List Key)(hb:H b=some (.tup (k.map kV)))(ry:RelV y u) :
  KT H (putK kvs k y) (storedH xs k b u):=by
 have e:(kvs.any fun kv=>decide (kv.1=k))=(atKey xs k).isSome:=by rw [E2,(r.val k).A9,Option.isSome_map]
 unfold putK storedH;rw [e];by_cases q:(atKey xs k).isSome=true;·rw [ae q,ae q];exact r.A_ k ry
 ·rw [aa q,aa q];exact Paired.snoc r ⟨rfl,hb,ry⟩
theorem KT.keeps{H':Hp}(r:KT H kvs xs)(ht:∀b ys,H b=some (.tup ys)→H' b=some (.tup ys)):KT H' kvs xs:=
 Paired.wA r fun _ _ z=>⟨z.1,ht _ _ z.2.1,z.2.2⟩
section
variable {P:Program} {w:World} {H:Hp} {h:Heap} {a:Addr}
theorem E4{u:HO}(ok:bY P w H h)(e:Rd H a u):bI P w H h a u:=e.ok ok
theorem xP{kvs:List (Key×V)}(ok:bY P w H h)(e:Rd H a (.dK kvs)):kvs.length≤sizeLine∧(a == sysModules)=false∧∃vs,KV kvs vs∧h.DictOf (eV P w) a vs:=
 show bI P w H h a (.dK kvs) from E4 ok e
theorem E5{kvs:List (Key×V)}(ok:bY P w H h)(e:H a=some (.dK kvs)):kvs.length≤sizeLine∧(a == sysModules)=false∧∃vs,KV kvs vs∧h.DictOf (eV P w) a vs:=xP ok (.inl e)
theorem xQ{ks:List Key}(ok:bY P w H h)(e:H a=some (.tup (ks.map kV))):(tupleKind (eV P w)).is h ks a:=by obtain ⟨_,ai,r,o,h1,h2,n,h3⟩:=(show bI P w H h a (.tup (ks.map kV)) from ok a _ e);exact ⟨o,ai.toArray,n,h1,h2,h3,by simpa using E3 r⟩
theorem xR(ok:bY P w H h)(e:Rd H a (.dT kvs)):kvs.length≤sizeLine∧(a == sysModules)=false ∧
  ∃xs,KT H kvs xs∧h.DictOfH (tupleKind (eV P w)) a xs:=by
 obtain ⟨z,y,xs,r,o,es,ep,h1,h2,h3,h4,h5⟩:=(show bI P w H h a (.dT kvs) from E4 ok e);refine ⟨z,y,xs,r,o,es,ep,h1,h2,h3,h4,fun x hx=>?_,h5⟩;have all:∀{l:List (List Key×V)} {m:List (List Key×Addr×Value)},KT H l m→∀x∈m,(tupleKind (eV P w)).is h x.1 x.2.1:=by
  intro l m q
  induction q with
  | nil=>intro x hx;exact nomatch hx
  | @cons p q ps qs hq t ih=>
   intro x hx;rcases b6.mp hx with e | hx
   ·subst e
    exact xQ ok (by rw [←hq.1];exact hq.2.1)
   ·exact ih x hx
 exact all r x hx
theorem Ba(ok:bY P w H h)(e:H a=some (.dT kvs)):kvs.length≤sizeLine∧(a == sysModules)=false ∧
  ∃xs,KT H kvs xs∧h.DictOfH (tupleKind (eV P w)) a xs:=xR ok (.inl e)
end
def iX(H:Hp)(a:Addr)(y:V)(r:Option V):Prop:=
 (∃kvs k,Rd H a (.dK kvs)∧y=kV k∧r=eB kvs k)∨∃kvs k b,Rd H a (.dT kvs)∧y=.ref b∧H b=some (.tup (k.map kV))∧r=eB kvs k
def lF(H:Hp)(a:Addr)(y v:V)(H':Hp):Prop:=
 (∃kvs k,H a=some (.dK kvs)∧y=kV k∧kvs.length<sizeLine∧H'=upd H a (.dK (putK kvs k v))) ∨
 ∃kvs k b,H a=some (.dT kvs)∧y=.ref b∧H b=some (.tup (k.map kV))∧kvs.length<sizeLine∧H'=upd H a (.dT (putK kvs k v))
variable {a:Addr} {k:List Key}
theorem iX.t(e:H a=some (.dT kvs))(eb:H b=some (.tup (k.map kV))):iX H a (.ref b) (eB kvs k):=.inr ⟨kvs,k,b,.inl e,rfl,eb,rfl⟩
theorem lF.t{v:V}(e:H a=some (.dT kvs))(eb:H b=some (.tup (k.map kV)))(hl:kvs.length<sizeLine) :
  lF H a (.ref b) v (upd H a (.dT (putK kvs k v))):=.inr ⟨kvs,k,b,e,rfl,eb,hl,rfl⟩
section
variable {X:Cx} {pins:aO} {σ:St} {H:Hp} {s:Shared} {a:Addr} {y v:V} {u r:Value} {o:Option V} {A:Around} {E:aF}
theorem Inv.big(I:Inv X pins σ H s):sysModules<s.heap.objs.size:=by have h:mainGlobals<s.heap.objs.size:=(I.mod.glob.keeps I.bk).lt;exact Nat.lt_trans (by decide) h
variable {Q:aF}
theorem Nr(hu:A.units+1<cLine)(I:Inv X pins σ H s)(g:iX H a y (some v))(ry:RelV y u)(h:∀w' s',Inv X pins σ H s'→RelV v w'→Q w' s') :
  wpAny (model X.prog X.w) A (getItem (.ref a) u) Q E s:=by
 rcases g with ⟨kvs,k,e,ey,l⟩ | ⟨kvs,k,b,e,ey,eb,l⟩
 ·subst ey
  obtain ⟨z,hd,vs,rel,dd⟩:=xP I.ax e;obtain ⟨w',hw,h_⟩:=iI.some_of (v:=v) (o:=valueAt vs k) (by rw [l];exact rel.val k)
  exact wpAny_getItem_of (u_ ry) dd.mapOf hw (h w' _ (I.tok _) h_)
 ·subst ey
  cases (show u=Value.ref b from ry);obtain ⟨z,hd,xs,rel,dd⟩:=xR I.ax e;obtain ⟨w',hw,h_⟩:=iI.some_of (v:=v) (o:=(atKey xs k).map (·.2)) (by rw [l];exact rel.val k)
  obtain ⟨p,hp,Nt⟩:=zK.mp hw;refine wpAny_getItem_heap (we hu) (xQ I.ax eb) dd hp ?_;rw [Nt];exact h w' _ (I.tok _) h_
theorem Nu(hu:A.units+1<cLine)(I:Inv X pins σ H s)(g:iX H a y o)(ry:RelV y u)(h:∀s',Inv X pins σ H s'→Q (.bool (!o.isSome)) s') :
  wpAny (model X.prog X.w) A (compareOp .NotIn u (.ref a)) Q E s:=by
 rcases g with ⟨kvs,k,e,ey,l⟩ | ⟨kvs,k,b,e,ey,eb,l⟩
 ·subst ey
  obtain ⟨z,hd,vs,rel,dd⟩:=xP I.ax e;refine wpAny_notIn_of (u_ ry) hd dd.mapOf ?_;rw [←(rel.val k).A9,←l];exact h _ (I.tok _)
 ·subst ey
  cases (show u=Value.ref b from ry);obtain ⟨z,hd,xs,rel,dd⟩:=xR I.ax e;refine wpAny_notIn_heap (we hu) (xQ I.ax eb) hd dd ?_;have q:=(rel.val k).A9;rw [Option.isSome_map] at q;rw [←q,←l];exact h _ (I.tok _)
variable {h':Heap}
theorem Bb{t':Nat}{ob:HO}(I:Inv X pins σ H s)(mu:t8 (H a))(hs:Heap.SameBut a s.heap h')(he:∃q,h'.get? a=some q)(new:bI X.prog X.w (upd H a ob) h' a ob) :
  Inv X pins σ (upd H a ob) {s with heap:=h',toks:=t'}:=
 I.write (x:=a) (e:=a) mu (.inl rfl) (fun b q hb z=>(hs.2 b hb).trans z) he new
variable {H':Hp}
theorem E6{kvs:List (Key×V)}{vs:List (Key×Value)}(z:kvs.length≤sizeLine)(hd:(a == sysModules)=false)(rel:KV kvs vs)(dd:h'.DictOf (eV P w) a vs) :
  bI P w H' h' a (.dK kvs):=⟨z,hd,vs,rel,dd⟩
theorem Nv{Q:Unit→Shared→Prop}(hu:A.units+1<cLine)(I:Inv X pins σ H s)(g:lF H a y v H')(ry:RelV y u)(rv:RelV v r)(h:∀s',Inv X pins σ H' s'→Q () s') :
  wpAny (model X.prog X.w) A (setItem (.ref a) u r) Q E s:=by
 rcases g with ⟨kvs,k,e,ey,l,eH⟩ | ⟨kvs,k,b,e,ey,eb,l,eH⟩
 ·subst ey eH
  obtain ⟨z,hd,vs,rel,dd⟩:=E5 I.ax e;have hz:vs.length≤sizeLine:=by rw [←rel.length];exact z
  have hl:(putK kvs k v).length≤sizeLine:=by have:=A8 kvs k v;omega
  refine wpAny_setItem_pairs (hsz:=hz) (u_ ry) dd fun h' mI hs=>h _ ?_;have he:∃q,h'.get? a=some q:=let ⟨q,_,_,hq,_⟩:=mI;⟨q,hq⟩
  exact Bb I (by rw [e];exact True.intro) hs he (E6 hl hd (rel.put k rv) mI)
 ·subst ey eH
  cases (show u=Value.ref b from ry);obtain ⟨z,hd,xs,rel,dd⟩:=Ba I.ax e;have hz:xs.length≤sizeLine:=by rw [←Paired.length rel];exact z
  have hl:(putK kvs k v).length≤sizeLine:=by have:=A8 kvs k v;omega
  refine wpAny_setItem_heap (hsz:=hz) (we hu) (xQ I.ax eb) dd fun h' mI hs=>h _ ?_;obtain ⟨q,es,ep,hq,h2,h3,h4,_,h5⟩:=mI;refine Bb I (by rw [e];exact True.intro) hs ⟨q,hq⟩ ⟨hl,hd,_,(rel.put k eb rv).keeps fun c ys ec=>?_,q,es,ep,hq,h2,h3,h4,h5⟩
  rw [aB (Jk ec e (fun z=>nomatch z))];exact ec
end
section
variable {X:Cx} {pins:aO} {σ:St} {H:Hp} {s:Shared} {a:Addr} {kvs:List (Key×V)} {k:Key} {u:Value} {A:Around} {E:aF}
end
def E7(i:Expr):Prop:=∀ov iv,subscripted i false ov iv=operate [ov,iv] (getItem ov iv)
variable {s:Shared} {pos:Pos}
theorem Nw{prog:Program}{A:Around}{E:aF}{env:Env}{value slice:Expr}{T id:String}{Q:aF}
  (hl:typeLookup (.type T) "__getitem__"=pure (some (.builtin id))) (hs:E7 slice)
  (h:wpAny (model prog w) A (eval value env) (fun o s₁=>wpAny (model prog w) A (eval slice env) (fun i s₂=>s₂.TypeIs o T∧wpAny (model prog w) A (getItem o i) Q E s₂) E s₁) E s) :
  wpAny (model prog w) A (eval (.Subscript value slice pos) env) Q E s:=by
 refine Subscript_ (bG h (fun o s₁ h₁=>bG h₁ (fun i s₂ h₂=>?_) fun _ _ x=>x) fun _ _ x=>x);obtain ⟨hT,h₂⟩:=h₂;unfold subscriptTail;refine ao ?_;rw [getitemInPython_of_ne hT.not_modules];refine ao (wpAny_specialOf hT hl ?_);have fin:wpAny (model prog w) A (subscripted slice false o i) (fun r s₃=>wpAny (model prog w) A (letTemporaryGo value o r >>= fun _=>pure r) Q E s₃) E s₂:=by rw [hs o i];exact wpAny_operating (bG h₂ (fun r s₃ h₃=>ao (wpAny_letTemporaryGo (aI h₃))) fun _ _ x=>x)
 first
  | exact aI (ao fin)
  | exact ao (aI (ao fin))
  | exact ao fin
variable {X:Cx}
theorem Nx{pins:aO}{σ:St}{o:Option V}(I:Inv X pins σ H s)(g:iX H a y o):s.TypeIs (.ref a) "dict":=by
 rcases g with ⟨kvs,k,e,_,_⟩ | ⟨kvs,k,b,e,_,_,_⟩
 ·obtain ⟨_,_,vs,_,dd⟩:=xP I.ax e
  exact dd.typeIs
 ·obtain ⟨_,_,xs,_,dd⟩:=xR I.ax e
  exact dd.typeIs
def Ny(td ty:TE):TE:=fun σ H Q=>td σ H fun x H1=>ty σ H1 fun y H2=>∃a v,x=.ref a∧iX H2 a y (some v)∧Q v H2
def Nz(ty td:TE):TE:=fun σ H Q=>ty σ H fun y H1=>td σ H1 fun x H2=>∃a o,x=.ref a∧iX H2 a y o∧Q (.bl (!o.isSome)) H2
def NA(td ty tv:TE):TS:=fun D σ H=>tv σ H fun v H1=>td σ H1 fun x H2=>ty σ H2 fun y H3=>∃a H4,x=.ref a∧lF H3 a y v H4∧D.nx σ H4
section
variable {X:Cx} {o i e value:Expr} {pos pos' wR:Pos} {td ty tv:TE}
theorem va(hu:X.A.units+1<cLine)(ho:PE X o td)(hi:PE X i ty)(hs:E7 i):PE X (.Subscript o i pos) (Ny td ty):=by intro pins s σ H Q I h;refine Nw PySem.F.slot_dict_getitem.lookup hs (aJ (ho pins s σ H _ I h) fun u s1 ⟨x,H1,I1,rx,q1⟩=>aJ (hi pins s1 σ H1 _ I1 q1) fun iv s2 ⟨y,H2,I2,ry,a,v,ex,g,q2⟩=>?_);subst ex;obtain rfl:u=Value.ref a:=rx;exact ⟨Nx I2 g,Nr hu I2 g ry fun w' s3 I3 h_=>⟨v,H2,I3,h_,q2⟩⟩
theorem E8(hu:X.A.units+1<cLine)(hi:PE X i ty)(ho:PE X o td):PC X .NotIn i o (Nz ty td):=by intro pins s σ H Q I h;refine aJ (hi pins s σ H _ I h) fun iv s1 ⟨y,H1,I1,ry,q1⟩=>aJ (ho pins s1 σ H1 _ I1 q1) fun u s2 ⟨x,H2,I2,rx,a,ov,ex,g,q2⟩=>?_;subst ex;obtain rfl:u=Value.ref a:=rx;exact Nu hu I2 g ry fun s3 I3=>⟨.bl (!ov.isSome),H2,I3,rfl,q2⟩
theorem lG(hu:X.A.units+1<cLine)(ho:PE X o td)(hi:PE X i ty)(hv:PE X value tv)(hs:swapsWith value (some (.Subscript o i pos')) pos.line X.env=pure false) :
  PS X (.Assign [.Subscript o i pos'] value pos) (NA td ty tv):=by
 intro pins s σ H D I h;refine wpAny_Assign_Subscript (aJ (hv pins s σ H _ I h) fun r s1 ⟨v,H1,I1,rv,q1⟩=>aJ (ho pins s1 σ H1 _ I1 q1) fun u s2 ⟨x,H2,I2,rx,q2⟩=>aJ (hi pins s2 σ H2 _ I2 q2) fun iv s3 ⟨y,H3,I3,ry,a,H4,ex,g,q3⟩=>?_) hs;subst ex;obtain rfl:u=Value.ref a:=rx;exact Nv hu I3 g ry rv fun s4 I4=>⟨σ,H4,I4,q3⟩
end
theorem E9(h:Heap)(hb:sysModules<h.objs.size):bI P w H (h.push {cls:=.type "dict",data:=.dict #[]}) h.objs.size (.dK []):=
 ⟨bH _,beq_eq_false_iff_ne.mpr (Ne.symm (bC hb)),[],.nil,Heap.DictOf.new h⟩
theorem NB(h:Heap)(hb:sysModules<h.objs.size):bI P w H (h.push {cls:=.type "dict",data:=.dict #[]}) h.objs.size (.dT []):=
 ⟨bH _,beq_eq_false_iff_ne.mpr (Ne.symm (bC hb)),[],.nil,_,#[],0,cM _ rfl,⟨rfl,rfl,rfl⟩,rfl,rfl,qt⟩
def NC:TE:=fun _ H Q=>∀p,H p=none→Q (.ref p) (upd H p (.dK []))
def ND:TE:=fun _ H Q=>∀p,H p=none→Q (.ref p) (upd H p (.dT []))
section
variable {X:Cx} {pos:Pos}
theorem NF:PE X (.Dict [] [] pos) NC:=fun pins s σ H Q I h=>wpAny_Dict_empty ⟨.ref s.heap.objs.size,_,I.laid (a:=s.heap.objs.size) (o:=.dK []) (t':=s.toks) (fun _ _ q=>bQ _ q) (ay _) (E9 s.heap I.big),rfl,h _ (I.ax.fresh (ay _))⟩
theorem E_:PE X (.Dict [] [] pos) ND:=fun pins s σ H Q I h=>wpAny_Dict_empty ⟨.ref s.heap.objs.size,_,I.laid (a:=s.heap.objs.size) (o:=.dT []) (t':=s.toks) (fun _ _ q=>bQ _ q) (ay _) (NB s.heap I.big),rfl,h _ (I.ax.fresh (ay _))⟩
end
def Bc:List (TE×TE)→St→Hp→(List (V×V)→Hp→Prop)→Prop
 | [],_,H,Q=>Q [] H
 | (tk,tv)::r,σ,H,Q=>tk σ H fun x H1=>tv σ H1 fun y H2=>Bc r σ H2 fun ps H3=>Q ((x,y)::ps) H3
abbrev VV:List (V×V)→List (Value×Value)→Prop:=Paired fun p q=>RelV p.1 q.1∧RelV p.2 q.2
def xS(X:Cx)(pos:Pos)(keys:List (Option Expr))(values:List Expr)(lH:List (TE×TE)):Prop:=
 ∀(pins:aO) (s:Shared) (σ:St) (H:Hp) (Q:List (V×V)→Hp→Prop),Inv X pins σ H s→Bc lH σ H Q→
  wpAny (model X.prog X.w) X.A (evalPairs (pairTrees keys values X.env pos)) (fun vs s'=>∃ps H',Inv X pins σ H' s'∧VV ps vs∧Q ps H') X.xe s
theorem Fb:xS X pos [] [] []:=fun pins s σ H Q I h=>pairTrees_nil_walk ⟨[],H,I,.nil,h⟩
variable {lH:List (TE×TE)}
theorem Fc{k v:Expr}{ks:List (Option Expr)}{vs:List Expr}{tk tv:TE}(hk:PE X k tk)(hv:PE X v tv)(hr:xS X pos ks vs lH) :
  xS X pos (some k::ks) (v::vs) ((tk,tv)::lH):=fun pins s σ H Q I h=>
 pairTrees_cons_walk (aJ (hk pins s σ H _ I h) fun u s1 ⟨x,H1,I1,rx,q1⟩=>aJ (hv pins s1 σ H1 _ I1 q1) fun w2 s2 ⟨y,H2,I2,ry,q2⟩=>aJ (hr pins s2 σ H2 _ I2 q2) fun ws s3 ⟨ps,H3,I3,rel,q3⟩=>⟨(x,y)::ps,H3,I3,.cons ⟨rx,ry⟩ rel,q3⟩)
def jD(kvs more:List (Key×V)):List (Key×V):=more.foldl (fun acc kv=>putK acc kv.1 kv.2) kvs
theorem KV.merge:∀{more:List (Key×V)} {rs:List (Key×Value)} {kvs:List (Key×V)} {vs:List (Key×Value)},KV more rs→KV kvs vs→KV (jD kvs more) (merged vs rs):=by
 intro more rs kvs vs r;unfold KV at r
 induction r generalizing kvs vs with
 | nil=>intro q;exact q
 | @cons p q ps qs h t ih=>
  intro r0;have e:KV (putK kvs p.1 p.2) (stored vs q.1 q.2):=by have:=r0.put p.1 h.2;rw [←h.1];exact this
  exact ih e
theorem Fd:∀(more kvs:List (Key×V)),(jD kvs more).length≤kvs.length+more.length
 | [],kvs=>by show kvs.length≤kvs.length+0;omega
 | p::r,kvs=>by have h1:=Fd r (putK kvs p.1 p.2);have h2:=A8 kvs p.1 p.2;show (jD (putK kvs p.1 p.2) r).length≤_;rw [dS];omega
theorem Fe{P:Program}{w:World}:∀{kvs:List (Key×V)} {ws:List (Value×Value)},VV (kvs.map fun kv=>(kV kv.1,kv.2)) ws→∃rs,Carries (eV P w) ws rs∧KV kvs rs
 | [],_,r=>by rw [qa] at r;cases r;exact ⟨[],True.intro,.nil⟩
 | p::kvs,_,r=>by
  rw [cZ] at r;cases r with
  | @cons a b as bs h t=>obtain ⟨rs,c,q⟩:=Fe (P:=P) (w:=w) t;obtain ⟨b1,b2⟩:=b;exact ⟨(p.1,b2)::rs,⟨u_ h.1,rfl,c⟩,.cons ⟨rfl,h.2⟩ q⟩
def NG(lH:List (TE×TE)):TE:=fun σ H Q=>∀p,H p=none→Bc lH σ (upd H p (.dK [])) fun ps H2=>H2 p=some (.dK [])∧∃kvs:List (Key×V),ps=kvs.map (fun kv=>(kV kv.1,kv.2))∧kvs.length≤15∧Q (.ref p) (upd H2 p (.dK (jD [] kvs)))
theorem Ff{keys:List (Option Expr)}{values:List Expr}(h:xS X pos keys values lH)(Ak:keys.all (·.isSome)=true)(hl:keys.length=values.length)(h0:keys≠[])
  (NH:keys.length≤15):PE X (.Dict keys values pos) (NG lH):=by
 intro pins s σ H Q I q;have hn:=I.ax.fresh (ay s.heap.objs.size);have I1:=I.laid (a:=s.heap.objs.size) (o:=.dK []) (h':=s.heap.push {cls:=.type "dict",data:=.dict #[]}) (t':=s.toks) (fun _ _ q=>bQ _ q) (ay _) (E9 s.heap I.big);refine wpAny_Dict_walk (knd:=eV X.prog X.w) Ak hl h0 NH (aJ (h pins _ σ _ _ I1 (q _ hn)) fun ws s2 ⟨ps,H2,I2,rel,e,kvs,ep,lk,q2⟩=>?_);subst ep;obtain ⟨rs,c,rk⟩:=Fe (P:=X.prog) (w:=X.w) rel;obtain ⟨z,hd,VT,r0,dd⟩:=E5 I2.ax e;cases r0;refine ⟨rs,c,dd,fun h' mI hs=>⟨.ref s.heap.objs.size,_,?_,rfl,q2⟩⟩;have hz:(jD [] kvs).length≤sizeLine:=by have h1:=Fd kvs [];rw [tM] at h1;rw [gQ];omega
 have he:∃q,h'.get? s.heap.objs.size=some q:=let ⟨q,_,_,hq,_⟩:=mI;⟨q,hq⟩
 exact Bb I2 (by rw [e];exact True.intro) hs he (E6 hz hd (rk.merge .nil) mI)
section
variable {X:Cx} {pins:aO} {σ:St} {H:Hp} {s:Shared} {a:Addr} {y d:V} {u r:Value} {o:Option V} {A:Around} {E:aF}
end
section
variable {X:Cx} {o e f:Expr} {apos eL:Pos} {td ty tx:TE}
end
section
variable {X:Cx} {pins:aO} {σ:St} {H:Hp} {s:Shared} {a:Addr} {kvs:List (Key×V)} {A:Around} {E:aF}
end
section
variable {X:Cx} {pins:aO} {σ:St} {H:Hp} {s:Shared} {a:Addr} {y:V} {u:Value} {A:Around} {E:aF}
end
end L2
namespace w9
open PySem PySem.W PySem.Calls PyProof.Rows
section
variable {prog:Program} {w:World} {A:Around} {E:aF} {s:Shared} {K:Frag}
end
end w9
namespace L2
open PySem PySem.Spec PyProof.Rows
section
variable {P:Program} {w:World} {K:aG} {mg:cN} {base:Heap}
end
section
variable {X:Cx}
end
section
variable {κ:Type} [DecidableEq κ]
end
def mS(o:Obj):Nat:=match o.data with
 | .dict _ ep=>ep
 | _=>0
def iw(a:Addr)(o:Obj)(kvs:List (Key×V)):It:=
 ⟨fun i H=>H a=some (.aX o (.dK kvs))∧i<kvs.length,fun i H x H'=>H'=H∧∃kv,kvs[i]?=some kv∧x=kV kv.1,fun i H=>H a=some (.aX o (.dK kvs))∧kvs.length≤i⟩
theorem NI{k:Key}{v:Value}(h:nG k v=true):RelV (kV k) v:=by
 rcases jX h with ⟨i,t,rfl,rfl⟩ | ⟨x,t,rfl,rfl⟩;·exact ⟨t,rfl⟩
 ·exact ⟨t,rfl⟩
theorem Fg{kvs:List (Key×V)}{vs:List (Key×Value)}:∀{i:Nat} {kv:Key×V},KV kvs vs→kvs[i]?=some kv→∃v,vs[i]?=some (kv.1,v)
 | _,_,.nil,h=>by simp at h
 | 0,kv,.cons (b:=b) r _,h=>by simp at h;subst h;obtain ⟨k,v⟩:=b;have e:_=k:=r.1;exact ⟨v,by rw [e];rfl⟩
 | i+1,kv,.cons _ t,h=>by simp at h;obtain ⟨v,e⟩:=Fg t h;exact ⟨v,by simpa using e⟩
section
variable {X:Cx} {pins:aO} {σ:St} {H:Hp} {s:Shared}
theorem Inv.Bd{a:Addr}{o:Obj}{kvs:List (Key×V)}(I:Inv X pins σ H s)(h:H a=some (.aX o (.dK kvs))):∃vs,KV kvs vs∧s.heap.DictAt (eV X.prog X.w) a vs (mS o):=by obtain ⟨g,_,_,vs,r,o',es,ep,g',c,d,rest⟩:=(show bI X.prog X.w H s.heap a (.aX o (.dK kvs)) from I.ax a _ h);rw [g] at g';cases g';refine ⟨vs,r,o,es,g,c,?_,rest⟩;rw [d];unfold mS;rw [d]
end
theorem NJ{P:Program}{w:World}{K:aG}{tg:Expr}(a it:Addr)(o:Obj)(kvs:List (Key×V)):Turn P w K tg (iw a o kvs) [it] it (fun i h=>h.IsKeyIter it a i kvs.length (mS o)) where
 mem:=by simp
 obj:=fun i h st b hb=>by
  have e:b=it:=by simpa using hb
  subst e;obtain ⟨o,e,c,d⟩:=st;exact ⟨o,e,fun v z=>by rw [d] at z;cases z⟩
 keep:=fun i h h' st k=>by obtain ⟨o,e,c,d⟩:=st;exact ⟨o,k it (by simp) o e,c,d⟩
 item:=by
  intro X hP hw hK hc i pins s σ H E I hf st hg;subst hP hw hK;obtain ⟨eH,hi⟩:=hg;obtain ⟨vs,r,hm⟩:=I.Bd eH;have lr:kvs.length=vs.length:=Paired.length r;have ek:kvs[i]?=some kvs[i]:=by simp [hi]
  obtain ⟨v,ev⟩:=Fg r ek;obtain ⟨f0,f1,f2,f3,f4,f5⟩:=hf it (by simp)
  rw [lr] at st;refine wpAny_pyNext_dict_item st hm ev fun key h' hk av sb=>?_;have I1:Inv X pins σ H {s with heap:=h'}:=I.turned (t':=s.toks) (fun b o hb e=>(sb.2 b hb).trans e) f0 f1 f3 f4 f5;obtain ⟨o',e,c,d⟩:=id av;rw [←lr] at av;exact ⟨key,rfl,qI (s:={s with heap:=h'}) e c d (by decide) ⟨kV kvs[i].1,H,I1,NI hk,⟨rfl,_,ek,rfl⟩,av,fun b hb=>(hf b hb).1⟩⟩
 done:=by
  intro X hP hw hK hc i pins s σ H E I hf st hg;subst hP hw hK;obtain ⟨eH,hi⟩:=hg;obtain ⟨vs,r,hm⟩:=I.Bd eH;have lr:kvs.length=vs.length:=Paired.length r;obtain ⟨f0,f1,f2,f3,f4,f5⟩:=hf it (by simp)
  rw [lr] at st;exact wpAny_pyNext_dict_end (I.ok.hd hc) st hm (by simp;omega) fun h' eb=>⟨rfl,I.turned (t':=s.toks) (fun b o hb e=>eb b o hb e) f0 f1 f3 f4 f5⟩
 self:=fun _ _ _ _ _ st h=>wpAny_pyIter_keyiter st h
section
variable {X:Cx} {tg:Expr}
def Fh(tl:TE):TI:=fun σ H R=>tl σ H fun x H1=>∃a kvs,x=.ref a∧((H1 a=some (.dK kvs)∧∀o,R (iw a o kvs) (upd H1 a (.aX o (.dK kvs))))∨∃o,H1 a=some (.aX o (.dK kvs))∧R (iw a o kvs) H1)
theorem xT{l:Expr}{tl:TE}(hl:PE X l tl):PI X tg l (Fh tl):=by
 intro pins s σ H R I h;refine aJ (hl pins s σ H _ I h) fun v s1 ⟨x,H1,I1,r1,q1⟩=>?_;obtain ⟨a,kvs,e,q⟩:=q1;subst e;cases r1;have main:∀{H2:Hp} {o:Obj},Inv X pins σ H2 s1→H2 a=some (.aX o (.dK kvs))→R (iw a o kvs) H2→wpAny (model X.prog X.w) X.A (pyIter (.ref a)) (zZ X pins σ tg R) X.xe s1:=fun{H2 o} I2 eH q=>by
  obtain ⟨vs,r,hm⟩:=I2.Bd eH;obtain ⟨_,_,sys,_⟩:=(show bI X.prog X.w H2 s1.heap a (.aX o (.dK kvs)) from I2.ax a _ eH);have lr:kvs.length=vs.length:=Paired.length r;refine wpAny_pyIter_dict sys hm ?_;refine ⟨s1.heap.objs.size,[s1.heap.objs.size],_,_,H2,rfl,I2.kept (t':=s1.toks) fun b o e=>bQ _ e,NJ a _ o kvs,⟨_,cM _ rfl,rfl,by rw [lr];rfl⟩,fun b hb=>?_,q⟩
  have e:b=s1.heap.objs.size:=by simpa using hb
  subst e;exact I2.nR (ay _) (I2.ax.fresh (ay _))
 rcases q with ⟨eH,q⟩ | ⟨o,eH,q⟩
 ·obtain ⟨hz,sys,vs,r,o,es,ep,g,c,d,rest⟩:=(show bI X.prog X.w H1 s1.heap a (.dK kvs) from I1.ax a _ eH)
  refine main (H2:=upd H1 a (.aX o (.dK kvs))) ?_ aw (q o);exact I1.write (t':=s1.toks) (x:=a) (e:=a) (by rw [eH];exact trivial) (.inl rfl) (fun b u _ e=>e) ⟨o,g⟩ ⟨g,hz,sys,vs,r,o,es,ep,g,c,d,rest⟩
 ·exact main I1 eH q
end
theorem Be:∀{us:List Value} {ns:List Int},IntsAre us ns→Vals (ns.map V.int) us
 | _,_,.nil=>.nil
 | _,_,.cons a u r=>.cons ⟨u,rfl⟩ (Be r)
def NK:List V→Hp→VK→Prop:=fun xs H Q=>∃(a:Addr) (zs:List Int),xs=[.ref a]∧H a=some (.lst (zs.map V.int))∧zs.length<64∧∀(ws:List Int) (D:Addr),ws.Perm zs→ws.Pairwise (·≤·)→H D=none→Q (.ref D) (upd H D (.lst (ws.map V.int)))
theorem Fi{X:Cx}:en X (.builtin "sorted") NK:=by
 intro pins s σ H xs us Q I r h;obtain ⟨a,zs,rfl,ha,u4,k⟩:=h;obtain ⟨u,rfl,ru⟩:=vals1 r;cases ru;obtain ⟨ai,rv,pl,hz⟩:=I.list (.of ha);have hl:=rv.length;rw [aE] at hl;refine sorted_ints pl.isList (intsAre_of rv) (by omega) fun out iP a1 a2 a3=>?_
 obtain ⟨e,he⟩:=sortedAll_at s.heap ai out;refine ⟨.ref (s.heap.objs.size+1),_,I.laid (t':=s.toks) (o:=.lst (iP.map .int)) (fun _ _=>sortedAll_old) (l9 _) ⟨?_,out.toList,e,Be a1,?_⟩,rfl,k iP _ a2 a3 (I.ax.fresh (l9 _))⟩
 ·rw [aE,a2.length_eq]
  rw [gQ];omega
 ·simpa using he
end L2
namespace My
open PySem L2
def dk(ks:List Nat):List (Key×V):=ks.map fun k:Nat=>((Sum.inl (k:Int):Key),V.bl true)
def bK(ks:List Nat)(k:Nat):List Nat:=if k∈ks then ks else ks++[k]
theorem Fj{a b:Nat}:((Sum.inl (a:Int):Key)=Sum.inl (b:Int))↔a=b:=by
 constructor
 ·intro h
  have:=Sum.inl.inj h;omega
 ·rintro rfl;rfl
theorem vc(ks:List Nat):(dk ks).length=ks.length:=aE _
theorem NL(ks:List Nat)(k:Nat):((dk ks).any fun kv=>decide (kv.1=(Sum.inl (k:Int):Key)))=decide (k∈ks):=by
 rw [m6,wg,fk];constructor
 ·rintro ⟨kv,h1,h2⟩
  obtain ⟨j,hj,rfl⟩:=cg.mp h1;have:=Fj.mp (gZ h2);subst this;exact hj
 ·intro h
  exact ⟨_,cg.mpr ⟨k,h,rfl⟩,b8 rfl⟩
theorem Bf(ks:List Nat)(k:Nat):putK (dk ks) (Sum.inl (k:Int):Key) (V.bl true)=dk (bK ks k):=by
 unfold putK bK;rw [NL];by_cases h:k∈ks
 ·rw [ae (b8 h),ae h]
  unfold dk;rw [cE];refine gu fun j _=>?_;show (if _ then _ else _)=_
  split <;> rfl
 ·rw [aa (by rw [fk];exact h),aa h]
  unfold dk;rw [dJ];rfl
theorem Fl(ks:List Nat)(k:Nat):eB (dk ks) (Sum.inl (k:Int):Key)=if k∈ks then some (V.bl true) else none:=by
 induction ks with
 | nil=>simp [dk,eB]
 | cons j r ih=>
  by_cases h:j=k
  ·subst h
   rw [ae (cR ..)];exact u7 rfl
  ·show eB ((Sum.inl (j:Int),V.bl true)::dk r) _=_
   rw [u9 (fun e=>h (Fj.mp e)),ih];by_cases m:k∈r;·rw [ae m,ae (cV _ m)]
   ·rw [aa m,aa (fun x=>by rcases b6.mp x with e | e;exact h e.symm;exact m e)]
variable {ks:List Nat} {k j:Nat}
theorem fL:j∈bK ks k↔j∈ks∨j=k:=by
 unfold bK;by_cases h:k∈ks
 ·rw [ae h]
  constructor;·exact .inl
  ·rintro (e | rfl)
   ·exact e
   ·exact h
 ·rw [aa h,cL,bR]
theorem NM(h:ks.Nodup):(bK ks k).Nodup:=by
 unfold bK;by_cases m:k∈ks;·rw [ae m];exact h
 ·rw [aa m]
  refine kH.mpr ⟨h,(by simp),fun a ha b hb=>?_⟩
  rw [bR] at hb;subst hb;rintro rfl;exact m ha
def iy(n:Nat)(ks:List Nat):Prop:=ks.Nodup∧∀k∈ks,k<n
theorem iy.nil(n:Nat):iy n []:=⟨qt,fun _ h=>by cases h⟩
variable {n:Nat}
theorem iy.add(h:iy n ks)(hk:k<n):iy n (bK ks k):=⟨NM h.1,fun j hj=>by
 rcases fL.mp hj with e | rfl;·exact h.2 j e
 ·exact hk⟩
theorem Bg:∀{n:Nat} {ks:List Nat},ks.Nodup→(∀k∈ks,k<n)→ks.length≤n
 | 0,ks,_,h=>by
  cases ks with
  | nil=>exact ay _
  | cons a r=>exact absurd (h a (cR ..)) (tS _)
 | n+1,ks,nd,h=>by
  have e:=Bg (n:=n) (ks:=ks.erase n) (nd.erase n) (fun k hk=>by have m:=(List.Nodup.mem_erase_iff nd).mp hk;have:=h k m.2;have:=m.1;omega)
  by_cases hm:n∈ks
  ·have:=List.length_erase_of_mem hm
   omega
  ·rw [List.erase_of_not_mem hm] at e
   omega
theorem iy.len(h:iy n ks):ks.length≤n:=Bg h.1 h.2
structure cX (H:Hp) (D:Addr) (n:Nat) (ds:Nat→Addr) (un:Nat→Prop) (f:Nat→List Nat):Prop where
 lst:H D=some (.lst ((List.range n).map fun i=>V.ref (ds i)))
 inj:∀i j,i<n→j<n→ds i=ds j→i=j
 ne:∀i,i<n→ds i≠D
 at':∀i,i<n→un i→H (ds i)=some (.dK (dk (f i)))
 pl:∀i,i<n→iy n (f i)
def dG(f:Nat→List Nat)(i:Nat)(ks:List Nat):Nat→List Nat:=fun j=>if j=i then ks else f j
variable {H:Hp} {D:Addr} {ds:Nat→Addr} {f:Nat→List Nat} {i:Nat}
theorem cX.put{un:Nat→Prop}(h:cX H D n ds un f)(hi:i<n)(hj:j<n)(ui:un i)(hn:n≤1000) :
  lF H (ds i) (.int (j:Int)) (.bl true) (upd H (ds i) (.dK (dk (bK (f i) j))))∧cX (upd H (ds i) (.dK (dk (bK (f i) j)))) D n ds un (dG f i (bK (f i) j)):=by
 refine ⟨.inl ⟨dk (f i),Sum.inl (j:Int),h.at' i hi ui,rfl,?_,by rw [Bf]⟩,?_,h.inj,h.ne,fun k hk uk=>?_,fun k hk=>?_⟩
 ·rw [vc]
  have:=(h.pl i hi).len;exact gW this (gW hn (by rw [gQ];decide))
 ·rw [aB (Ne.symm (h.ne i hi))]
  exact h.lst
 ·unfold dG
  by_cases e:k=i
  ·subst e
   rw [ae rfl,aw]
  ·rw [aa e,aB (fun z=>e (h.inj k i hk hi z))]
   exact h.at' k hk uk
 ·unfold dG
  by_cases e:k=i;·rw [ae e];exact (h.pl i hi).add hj
  ·rw [aa e];exact h.pl k hk
theorem cX.ix{un:Nat→Prop}(h:cX H D n ds un f)(hi:i<n):jo ((List.range n).map fun i=>V.ref (ds i)) (i:Int)=some (V.ref (ds i)):=
 qN (by rw [bU,qf hi];rfl)
def gf(n:Nat)(L:aA):Prop:=∀p∈L,0≤p.1∧p.1<(n:Int)∧0≤p.2∧p.2<(n:Int)
def d6(n:Nat)(L:aA)(f:Nat→List Nat):Prop:=∀i j:Nat,i<n→(j∈f i↔((i:Int),(j:Int))∈L∨((j:Int),(i:Int))∈L)
theorem d6.nil(n:Nat):d6 n [] (fun _=>[]):=fun i j _=>by simp
theorem d6.more{L:aA}(h:d6 n L f)(hi:i<n)(hj:j<n):d6 n (L++[((i:Int),(j:Int))]) (dG (dG f i (bK (f i) j)) j (bK (dG f i (bK (f i) j) j) i)):=fun a b ha=>by
 have e1:∀x y:Nat,y∈dG f i (bK (f i) j) x↔y∈f x∨(x=i∧y=j):=fun x y=>by
  unfold dG;by_cases e:x=i
  ·subst e
   rw [ae rfl,fL];simp
  ·rw [aa e]
   simp [e]
 have e2:b∈dG (dG f i (bK (f i) j)) j (bK (dG f i (bK (f i) j) j) i) a↔b∈dG f i (bK (f i) j) a∨(a=j∧b=i):=by
  unfold dG;by_cases e:a=j
  ·subst e
   rw [ae rfl,fL];simp
  ·rw [aa e]
   simp [e]
 rw [e2,e1,h a b ha];simp only [cL,bR,Prod.mk.injEq];constructor
 ·rintro ((e | e) | ⟨rfl,rfl⟩)
  ·rcases e with e | e
   ·exact .inl (.inl e)
   ·exact .inr (.inl e)
  ·exact .inl (.inr ⟨by omega,by omega⟩)
  ·exact .inr (.inr ⟨rfl,rfl⟩)
 ·rintro ((e | ⟨e1,e2⟩) | (e | ⟨e1,e2⟩))
  ·exact .inl (.inl (.inl e))
  ·exact .inl (.inr ⟨by omega,by omega⟩)
  ·exact .inl (.inl (.inr e))
  ·exact .inr ⟨by omega,by omega⟩
def NN:Sp:=fun vs H Q _=>∃(t:Addr) (n:Nat) (L:aA),vs=[.ref t]∧d9 H t n L∧gf n L∧n≤1000 ∧
 ∀(H':Hp) (D:Addr) (ds:Nat→Addr) (f:Nat→List Nat),aj H H'→H D=none→(∀i,i<n→H (ds i)=none)→cX H' D n ds (fun _=>True) f→d6 n L f→Q (.ref D) H'
end My
namespace L2
open PySem PySem.Spec PyProof.Rows
def NP(K:aG):R2:=fun x y H Q=>∃(a b:Addr) (xs ys:List Int),x=.ref a∧y=.ref b∧bj K H a (xs.map V.int)∧bj K H b (ys.map V.int)∧Q (.bl (decide (xs=ys))) H
theorem Fm{X:Cx}(hu:X.A.units+64<cLine):cz X (compareOp .Eq) (NP X.K):=by
 intro pins s σ H x y v u Q I rx ry h;obtain ⟨a,b,xs,ys,rfl,rfl,h1,h2,q⟩:=h;cases rx;cases ry;obtain ⟨us,r1,t1,_⟩:=I.list h1;obtain ⟨vs,r2,t2,_⟩:=I.list h2;have l1:=r1.length;have l2:=r2.length;rw [aE] at l1 l2;by_cases hl:xs.length=ys.length
 ·refine SeqAt.RcAt.lists (e:=fun j=>gA (.int (xs.getD j 0)) (.int (ys.getD j 0))) t1.isList t2.isList (by simp;omega) (by omega) (fun j z1 z2=>?_) _ _ _ _ ?_
  ·have xE:j<us.length:=by simpa using z1
   have VU:j<vs.length:=by simpa using z2
   have ex:(xs.map V.int)[j]?=some (.int (xs.getD j 0)):=by rw [bU,dU];simp [show j<xs.length by omega]
   have ey:(ys.map V.int)[j]?=some (.int (ys.getD j 0)):=by rw [bU,dU];simp [show j<ys.length by omega]
   obtain ⟨x',zT,rx⟩:=r1.get ex;obtain ⟨y',NQ,ry⟩:=r2.get ey;have e1:us.toArray[j]=x':=by simpa using (bL.mp zT).2
   have e2:vs.toArray[j]=y':=by simpa using (bL.mp NQ).2
   rw [e1,e2];exact Ad rx ry rfl rfl
  ·rw [show us.toArray.size=xs.length by simp;omega,Mz hl]
   exact ⟨.bl (decide (xs=ys)),H,I,rfl,q⟩
 ·rw [bP (fun e=>hl (by rw [e]))] at q
  refine SeqAt.RcAt.lists_lengths t1.isList t2.isList ?_ (by omega) _ _ _ _ ⟨.bl false,H,I,rfl,q⟩
  simp;omega
end L2
namespace My
open PySem L2
def iN(k:Nat):Int:=(k:Int)
def kr(zs:List Int)(n:Nat):Prop:=zs.Perm ((List.range n).map iN)
instance (zs:List Int) (n:Nat):Decidable (kr zs n):=by unfold kr;exact inferInstance
theorem NR(n:Nat):((List.range n).map iN).Pairwise (·≤·):=by rw [nk];exact List.Pairwise.imp (fun h=>by unfold iN;omega) wd
variable {ws zs:List Int} {n:Nat}
theorem NS(p:ws.Perm zs)(o:ws.Pairwise (·≤·)):decide (ws=(List.range n).map iN)=decide (kr zs n):=by
 by_cases h:kr zs n
 ·rw [b8 h]
  refine b8 ?_;exact (p.trans h).eq_of_pairwise (fun a b _ _ h1 h2=>by omega) o (NR n)
 ·rw [bP h]
  refine bP fun e=>h ?_;subst e;exact p.symm
def NT:Sp:=fun vs H Q _=>∃(a:Addr) (zs:List Int) (n:Nat),vs=[.ref a,.int (n:Int)]∧H a=some (.lst (zs.map V.int))∧zs.length<64∧n≤1000∧(∀H',aj H H'→Q (.bl (decide (kr zs n))) H')
def NU(N:Addr):Sp:=fun vs H Q E=>∃(a:Addr) (zs:List Int) (n:Nat),vs=[.ref a,.int (n:Int)]∧H a=some (.lst (zs.map V.int))∧zs.length<64∧n≤1000 ∧
 (¬kr zs n→∀H',aj H H'→E (.ref N) none H')∧(kr zs n→∀H',aj H H'→Q .aP H')
def NV(H:Hp)(a:Addr)(n:Nat)(o:List Nat):Prop:=H a=some (.lst (o.map fun k:Nat=>V.int (k:Int)))∧o.Perm (List.range n)
def NW:Sp:=fun vs H Q _=>∃(a:Addr) (n:Nat) (o:List Nat),vs=[.ref a]∧NV H a n o∧n≤1000 ∧
 ∀(r:Addr) (H':Hp),aj H H'→H r=none→H' r=some (.lst ((List.range n).map fun p=>V.int (o.idxOf p:Int)))→Q (.ref r) H'
variable {H H1:Hp} {D:Addr}
theorem NX(s:aj H H1)(e:H1 D=none):H D=none:=by
 cases z:H D with
 | none=>rfl
 | some o=>rw [s _ _ z] at e;cases e
theorem xU(s:aj H H1){o:HO}(e:H1 D=none):aj H (upd H1 D o):=eZ s (NX s e)
variable {k:Nat}
theorem Fn(h:k<n):kX n (k:Int)=some k:=by unfold kX;rw [ae (by omega),ae (by omega),dq]
def iY(o:List Nat)(k p:Nat):Int:=if o.idxOf p<k then (o.idxOf p:Int) else 0
variable {o:List Nat}
theorem vd(h:o.Perm (List.range n)):o.Nodup:=h.nodup_iff.mpr jS
theorem ve(h:o.Perm (List.range n)):o.length=n:=by rw [h.length_eq,dz]
variable {p:Nat}
theorem iz(h:o.Perm (List.range n)):p∈o↔p<n:=by rw [h.mem_iff,cx]
theorem Fo(nd:o.Nodup)(hk:k<o.length):o.idxOf o[k]=k:=nd.idxOf_getElem k hk
theorem vf(h:p∈o):∃hk:o.idxOf p<o.length,o[o.idxOf p]=p:=⟨wj h,List.getElem_idxOf _⟩
theorem NY(h:o.Perm (List.range n))(hk:k<o.length):((List.range n).map fun p=>V.int (iY o k p)).set o[k] (.int (k:Int))=(List.range n).map fun p=>V.int (iY o (k+1) p):=by
 have nd:=vd h;refine jc (by simp) fun q h1 h2=>?_
 have hq:q<n:=by simpa using h2
 rw [List.getElem_set];by_cases e:o[k]=q
 ·rw [ae e]
  simp only [jT,qr];unfold iY;rw [←e,Fo nd hk,ae (Nat.lt_succ_self k)]
 ·rw [aa e]
  simp only [jT,qr];unfold iY;have ne:o.idxOf q≠k:=fun z=>by obtain ⟨hz,ez⟩:=vf ((iz h).mpr hq);subst z;exact e ez
  by_cases z:o.idxOf q<k;·rw [ae z,ae (by omega)]
  ·rw [aa z,aa (by omega)]
theorem NZ(n:Nat)(o:List Nat):(List.replicate n [V.int 0]).flatten=(List.range n).map fun p=>V.int (iY o 0 p):=by
 have e:∀n:Nat,(List.replicate n [V.int 0]).flatten=List.replicate n (V.int 0):=fun n=>by
  induction n with
  | zero=>rfl
  | succ n ih=>rw [qb,tN,ih];rfl
 rw [e];refine jc (by simp) fun q h1 h2=>?_
 simp [iY]
theorem N0(h:o.Perm (List.range n)):(List.range n).map (fun p=>V.int (iY o o.length p))=(List.range n).map fun p=>V.int (o.idxOf p:Int):=by refine gu fun p hp=>?_;unfold iY;rw [ae (wj ((iz h).mpr (cx.mp hp)))]
def mT(n:Nat)(ds:Nat→Addr)(un:Nat→Prop)(H H':Hp):Prop:=∀b o,H b=some o→(∀i,i<n→un i→b≠ds i)→H' b=some o
variable {ds:Nat→Addr}
theorem mT.refl{un:Nat→Prop}:mT n ds un H H:=fun _ _ h _=>h
variable {i:Nat}
theorem mT.put{un:Nat→Prop}(h:mT n ds un H H1)(hi:i<n)(ui:un i){o:HO}:mT n ds un H (upd H1 (ds i) o):=fun b u e k=>by rw [aB (k i hi ui)];exact h b u e k
theorem take_snoc{α:Type}{xs:List α}{x:α}(h:xs[i]?=some x):xs.take (i+1)=xs.take i++[x]:=by rw [kG,h];rfl
def fN(n:Nat)(f:Nat→List Nat)(ps:List Nat)(i j:Nat)(g:Nat→List Nat):Prop:=∀a b:Nat,a<n→(b∈g a↔b∈f a∨(a≠b∧(a∈ps.take i∧b∈ps∨ps[i]?=some a∧b∈ps.take j)))
theorem fN.start(n:Nat)(f:Nat→List Nat)(ps:List Nat):fN n f ps 0 0 f:=fun a b _=>by simp
variable {f g:Nat→List Nat} {ps:List Nat}
theorem fN.row(h:fN n f ps i ps.length g):fN n f ps (i+1) 0 g:=fun a b ha=>by
 rw [h a b ha,gX];cases e:ps[i]? with
 | none=>
  have:ps.length≤i:=zu.mp e;rw [wb this,wb (by omega)]
  simp
 | some x=>
  rw [take_snoc e];simp only [cL,bR,Option.some.injEq,List.take_zero,m9,and_false,or_false];constructor
  ·rintro (z | ⟨z,z1 | z1⟩)
   ·exact .inl z
   ·exact .inr ⟨z,.inl z1.1,z1.2⟩
   ·exact .inr ⟨z,.inr z1.1.symm,z1.2⟩
  ·rintro (z | ⟨z,z1 | z1,z2⟩)
   ·exact .inl z
   ·exact .inr ⟨z,.inl ⟨z1,z2⟩⟩
   ·exact .inr ⟨z,.inr ⟨z1.symm,z2⟩⟩
variable {j:Nat}
theorem fN.same{x:Nat}(h:fN n f ps i j g)(hi:ps[i]?=some x)(hj:ps[j]?=some x):fN n f ps i (j+1) g:=fun a b ha=>by
 rw [h a b ha,take_snoc hj];simp only [cL,bR,hi,Option.some.injEq];constructor
 ·rintro (z | ⟨z,z1 | z1⟩)
  ·exact .inl z
  ·exact .inr ⟨z,.inl z1⟩
  ·exact .inr ⟨z,.inr ⟨z1.1,.inl z1.2⟩⟩
 ·rintro (z | ⟨z,z1 | ⟨z1,z2 | z2⟩⟩)
  ·exact .inl z
  ·exact .inr ⟨z,.inl z1⟩
  ·exact .inr ⟨z,.inr ⟨z1,z2⟩⟩
  ·exact absurd (z1.symm.trans z2.symm) z
theorem fN.put{x y:Nat}(h:fN n f ps i j g)(hi:ps[i]?=some x)(hj:ps[j]?=some y)(ne:x≠y):fN n f ps i (j+1) (dG g x (bK (g x) y)):=fun a b ha=>by
 have e1:b∈dG g x (bK (g x) y) a↔b∈g a∨(a=x∧b=y):=by
  unfold dG;by_cases e:a=x
  ·subst e
   rw [ae rfl,fL];simp
  ·rw [aa e]
   simp [e]
 rw [e1,h a b ha,take_snoc hj];simp only [cL,bR,hi,Option.some.injEq];constructor
 ·rintro ((z | ⟨z,z1 | z1⟩) | ⟨rfl,rfl⟩)
  ·exact .inl z
  ·exact .inr ⟨z,.inl z1⟩
  ·exact .inr ⟨z,.inr ⟨z1.1,.inl z1.2⟩⟩
  ·exact .inr ⟨ne,.inr ⟨rfl,.inr rfl⟩⟩
 ·rintro (z | ⟨z,z1 | ⟨z1,z2 | z2⟩⟩)
  ·exact .inl (.inl z)
  ·exact .inl (.inr ⟨z,.inl z1⟩)
  ·exact .inl (.inr ⟨z,.inr ⟨z1,z2⟩⟩)
  ·exact .inr ⟨z1.symm,z2⟩
theorem fN.done(h:fN n f ps ps.length 0 g):∀a b:Nat,a<n→(b∈g a↔b∈f a∨(a≠b∧a∈ps∧b∈ps)):=fun a b ha=>by rw [h a b ha,gX];simp
def N1:Sp:=fun vs H Q _=>∃(D pl:Addr) (n:Nat) (ds:Nat→Addr) (un:Nat→Prop) (f:Nat→List Nat) (ps:List Nat),vs=[.ref D,.ref pl]∧cX H D n ds un f∧H pl=some (.lst (ps.map fun k:Nat=>V.int (k:Int)))∧(∀p∈ps,p<n∧un p)∧n≤1000 ∧
 ∀(H':Hp) (g:Nat→List Nat),mT n ds un H H'→cX H' D n ds un g→(∀a b:Nat,a<n→(b∈g a↔b∈f a∨(a≠b∧a∈ps∧b∈ps)))→Q .aP H'
theorem cX.mono{H':Hp}{un:Nat→Prop}(h:cX H D n ds un f)(s:aj H H'):cX H' D n ds un f:=⟨s _ _ h.lst,h.inj,h.ne,fun i hi ui=>s _ _ (h.at' i hi ui),h.pl⟩
theorem cX.less{un Fp:Nat→Prop}(h:cX H D n ds un f)(k:∀i,i<n→Fp i→un i):cX H D n ds Fp f:=⟨h.lst,h.inj,h.ne,fun i hi ui=>h.at' i hi (k i hi ui),h.pl⟩
variable {x:Addr}
theorem cX.upd{un:Nat→Prop}(h:cX H D n ds un f){o:HO}(n1:x≠D)(n2:∀i,i<n→un i→ds i≠x):cX (upd H x o) D n ds un f:=⟨by rw [aB (Ne.symm n1)];exact h.lst,h.inj,h.ne,fun i hi ui=>by rw [aB (n2 i hi ui)];exact h.at' i hi ui,h.pl⟩
variable {a:Addr}
theorem N2{o:Obj}{kvs:List (Key×V)}(h:H1 a=some (.aX o (.dK kvs))):jw (iw a o kvs) (kvs.map fun kv=>kV kv.1) H1 where
 go:=fun i Hc s hi=>⟨s _ _ h,by simpa using hi⟩
 du:=fun i Hc x H' s y=>⟨y.1,fun _=>by obtain ⟨kv,e,rfl⟩:=y.2;rw [bU,e];rfl⟩
 stop:=fun i Hc s hi=>⟨s _ _ h,by simpa using hi⟩
theorem N3(ks:List Nat):(dk ks).map (fun kv=>kV kv.1)=ks.map fun k:Nat=>V.int (k:Int):=by unfold dk;rw [cE];rfl
theorem N4(ks:List Nat):(List.range ks.length).map (fun i=>ks.getD i 0)=ks:=by
 refine jc (by simp) fun i h1 h2=>?_
 simp [dU,h2]
theorem N5(ks:List Nat)(pr:Nat→Bool):((List.range ks.length).filter fun i=>pr (ks.getD i 0)).map (fun i=>ks.getD i 0)=ks.filter pr:=by have e:=List.filter_map (f:=fun i=>ks.getD i 0) (l:=List.range ks.length) (p:=pr);rw [N4] at e;exact e.symm
variable {ρ:St→St} {tt:TT} {te:TE} {σ:St} {Q:VK} {ks:List Nat}
theorem Bh{ob:Obj}(h:H a=some (.aX ob (.dK (dk ks))))(pr:Nat→Bool)(hl:ks.length<sizeLine)
  (test:∀k∈ks,∀(Hc:Hp) (R:Bool→Hp→Prop),aj H Hc→R (pr k) Hc→tt (some (.int (k:Int))::ρ σ) Hc R)
  (step:∀k∈ks,∀(Hc:Hp) (R:VK),R (.int (k:Int)) Hc→te (some (.int (k:Int))::ρ σ) Hc R)
  (fin:∀D Hc,H D=none→aj H Hc→Hc D=some (.lst ((ks.filter pr).map fun k:Nat=>V.int (k:Int)))→Q (.ref D) Hc):ie (fun _ H R=>R (iw a ob (dk ks)) H) ρ tt te σ H Q:=by
 have at':∀{i:Nat} {x:V},(ks.map fun k:Nat=>V.int (k:Int))[i]?=some x→i<ks.length∧x=.int ((ks.getD i 0:Nat):Int)∧ks.getD i 0∈ks:=fun{i x} hx=>by
  have hi:i<ks.length:=by have:=(bL.mp hx).1;simpa using this
  rw [bU] at hx;simp [hi] at hx;rw [getD_at hi];exact ⟨hi,hx.symm,c_ hi⟩
 refine Np (xs:=ks.map fun k:Nat=>V.int (k:Int)) (fun i=>pr (ks.getD i 0)) (fun R k=>k _ (by rw [←N3];exact N2 h)) (by rw [aE];exact hl) (fun _ i y _=>y=.int ((ks.getD i 0:Nat):Int)) (fun _ _ _ _ _ _ h _ _=>h) ?_ ?_ ?_
 ·intro i x hx Hc R sc hR
  obtain ⟨_,rfl,m⟩:=at' hx;exact test _ m Hc R sc hR
 ·intro D i x hx Hc R sc _ kc
  obtain ⟨_,rfl,m⟩:=at' hx;exact step _ m Hc R (kc _ Hc (aj.refl _) rfl)
 ·intro D ys Hc nD sc ly hP eD
  refine fin D Hc nD sc ?_;rw [eD,←N5 ks pr,cE];rw [aE] at ly hP
  congr 2
  refine jc (by simpa using ly) fun k h1 h2=>?_
  have h3:k<((List.range ks.length).filter fun i=>pr (ks.getD i 0)).length:=by simpa using h2
  rw [jT];exact hP k _ _ (bV h1) (bV h3)
theorem Fq(p:ws.Perm (ks.map iN)):∃ms:List Nat,ws=ms.map iN∧ms.Perm ks:=by
 refine ⟨ws.map Int.toNat,?_,?_⟩
 ·rw [cE]
  conv=>lhs;rw [←nu ws]
  refine gu fun z hz=>?_
  obtain ⟨k,_,rfl⟩:=cg.mp (p.mem_iff.mp hz)
  show iN k=iN (Int.toNat (iN k))
  unfold iN
  rw [dq]
 ·have:=p.map Int.toNat
  rw [cE] at this
  have e:ks.map (Int.toNat ∘ iN)=ks:=by
   conv=>rhs;rw [←nu ks]
   exact gu fun k _=>dq k
  rw [e] at this
  exact this
structure iZ (n:Nat) (o:List Nat) (p:Nat) (ms:List Nat):Prop where
 up:ms.Pairwise (· < ·)
 lt:∀q∈ms,q<n
 la:∀q∈ms,o.idxOf p<o.idxOf q
theorem N6{ms:List Nat}(hk:iy n ks)(h:ms.Perm (ks.filter fun q=>decide (o.idxOf p<o.idxOf q)))(s:(ms.map iN).Pairwise (·≤·)):iZ n o p ms:=by
 have m:∀q∈ms,q∈ks∧o.idxOf p<o.idxOf q:=fun q hq=>by have:=cQ.mp (h.mem_iff.mp hq);exact ⟨this.1,by simpa using this.2⟩
 refine ⟨?_,fun q hq=>hk.2 q (m q hq).1,fun q hq=>(m q hq).2⟩;have nd:ms.Nodup:=h.nodup_iff.mpr (hk.1.filter _);rw [nk] at s;refine List.Pairwise.imp₂ (fun a b h1 h2=>?_) s nd;have h1:(a:Int)≤(b:Int):=h1;have h2:a≠b:=h2;omega
def N7(H:Hp)(D:Addr)(n:Nat)(rs:Nat→Addr)(g:Nat→List Nat):Prop:=H D=some (.lst ((List.range n).map fun p=>V.ref (rs p)))∧∀p,p<n→H (rs p)=some (.lst ((g p).map fun k:Nat=>V.int (k:Int)))
theorem N8(h:kr zs n):∃o:List Nat,zs=o.map iN∧o.Perm (List.range n):=Fq h
def i3(rs:Nat→Addr)(p:Nat)(x:Addr):Nat→Addr:=fun q=>if q=p then x else rs q
theorem N9(n:Nat)(rs:Nat→Addr)(p:Nat)(x:Addr):((List.range n).map fun q=>V.ref (rs q)).set p (.ref x)=(List.range n).map fun q=>V.ref (i3 rs p x q):=by
 refine jc (by simp) fun q h1 h2=>?_
 rw [List.getElem_set,jT,qr,jT,qr];unfold i3;by_cases e:p=q
 ·subst e
  rw [ae rfl,ae rfl]
 ·rw [aa e,aa (Ne.symm e)]
variable {rs:Nat→Addr}
theorem Fs:i3 rs p x p=x:=ae rfl
variable {q:Nat}
theorem N_(h:q≠p):i3 rs p x q=rs q:=aa h
theorem Oa{x:List Nat}:dG f p x p=x:=ae rfl
theorem Ob{x:List Nat}(h:q≠p):dG f p x q=f q:=aa h
theorem oz{g:Nat→V}(h:p<n):jo ((List.range n).map g) (p:Int)=some (g p):=qN (by rw [bU,qf h];rfl)
theorem Oc(o ks:List Nat)(p:Nat):(ks.filter fun q=>decide ((o.idxOf p:Int)<(o.idxOf q:Int)))=ks.filter fun q=>decide (o.idxOf p<o.idxOf q):=by refine List.filter_congr fun q _=>?_;rw [m6,fk,fk];omega
theorem vg(h:o.Perm (List.range n))(hp:p<n)(hq:q<n)(ne:p≠q):o.idxOf p≠o.idxOf q:=fun z=>by
 obtain ⟨h1,e1⟩:=vf ((iz h).mpr hp);obtain ⟨h2,e2⟩:=vf ((iz h).mpr hq);refine ne ?_;rw [←e1,←e2]
 congr 1
theorem vh{wi:TI}(h:wi σ H fun J H1=>ie (fun _ H R=>R J H) ρ tt te σ H1 Q):ie wi ρ tt te σ H Q:=h
end My
namespace L2
open PySem PySem.Spec PyProof.Rows
section
variable {X:Cx} {pins:aO} {σ:St} {H:Hp} {s:Shared}
end
end L2
namespace My
open PySem L2
theorem Od{n:Nat}{o:List Nat}(h:o.Perm (List.range n)){p:Nat}{ms:List Nat}(k:iZ n o p ms):ms.length≤n-1-o.idxOf p:=by
 have nd:(ms.map fun q=>o.idxOf q-(o.idxOf p+1)).Nodup:=by rw [List.nodup_iff_pairwise_ne,nk];refine List.Pairwise.imp_of_mem (fun{a b} ha hb lt=>?_) k.up;have h1:=k.la a ha;have h2:=k.la b hb;have ne:=vg h (k.lt a ha) (k.lt b hb) (bC lt);omega
 have:=Bg (n:=n-1-o.idxOf p) nd (fun x hx=>by obtain ⟨q,hq,rfl⟩:=cg.mp hx;have h1:=k.la q hq;have h2:=(vf ((iz h).mpr (k.lt q hq))).1;rw [ve h] at h2;omega)
 rwa [aE] at this
def iA(p q:Nat):Int×Int:=(if (q:Int)<(p:Int) then (q:Int) else (p:Int),if (q:Int)>(p:Int) then (q:Int) else (p:Int))
end My
namespace L2
open PySem PySem.Spec PyProof.Rows
theorem Ft{X:Cx}{E:XK}(L:qO X E):PassesOwn (model X.prog X.w) X.A X.env X.xe:=by rw [L.xe];exact PassesOwn.leaving
end L2
namespace My
open PySem L2
def Oe:Sp:=fun vs H Q _=>∃m:Nat,vs=[.int (m:Int)]∧m≤1000∧Q (.int ((m:Int)*m+3*m+1)) H
def Of:Sp:=fun vs H Q _=>∃(t:Addr) (n:Nat) (L:aA),vs=[.ref t]∧d9 H t n L∧n≤9∧Q .aP H
end My
namespace L2
open PySem PySem.Spec PyProof.Rows
def Fu(K:aG):R2:=fun x y H Q=>∃a b xs ys,x=.ref a∧y=.ref b∧dc K H a xs∧dc K H b ys∧ys≠[]∧xs.length+ys.length≤sizeLine ∧
 (xs=[]→Q (.ref b) H)∧(xs≠[]→∀p,H p=none→Q (.ref p) (upd H p (.tup (xs++ys))))
theorem Fv{X:Cx}:cz X (binaryOp .Add) (Fu X.K):=by
 intro pins s σ H x y v u Q I rx ry h;by_cases hx:∃a b xs ys,x=.ref a∧y=.ref b∧dc X.K H a xs∧dc X.K H b ys∧xs=[]∧Q (.ref b) H
 ·obtain ⟨a,b,xs,ys,rfl,rfl,ha,hb,rfl,q⟩:=hx
  cases rx;cases ry;obtain ⟨ai,r1,p1,_⟩:=I.tuple ha;obtain ⟨gx,r2,p2,_⟩:=I.tuple hb;have e0:ai=[]:=r1.wX.mpr rfl;subst e0;obtain ⟨⟨cls,dd,data,sl⟩,ho,hc,n,hd⟩:=id p1;obtain ⟨⟨DW,mG,data2,hV⟩,kd,fE,n2,hd2⟩:=id p2;simp only at hc hd fE hd2;subst hc hd fE hd2
  exact concat_meets ⟨_,ho,rfl⟩ ⟨_,kd,rfl⟩ noFill_tuple_add seq_tuple_add zw zA (zB _ _)
   (tuple_addW0 a b _ gx.toArray n n2 dd mG sl hV (by simp)) ⟨ho,kd,⟨.ref b,H,I,rfl,q⟩⟩
 ·obtain ⟨a,b,xs,ys,rfl,rfl,ha,hb,hy,hz,q1,q2⟩:=h
  have ne:xs≠[]:=fun z=>hx ⟨a,b,xs,ys,rfl,rfl,ha,hb,z,q1 z⟩;exact KN pins s σ H _ _ v u Q I rx ry ⟨a,b,xs,ys,rfl,rfl,ha,hb,ne,hz,fun z=>absurd z hy,fun _=>q2 ne⟩
end L2
namespace My
open PySem L2
end My
namespace L2
open PySem PySem.Spec PyProof.Rows
theorem Bi{X:Cx}{K:aG}(hk:X.K=K:=by rfl):cz X (binaryOp .Add) (Fu K):=by subst hk;exact Fv
end L2
namespace My
open PySem L2
end My
namespace L2
open PySem PySem.Spec PyProof.Rows
end L2
namespace My
open PySem L2
def Bj:V→Nat
 | .int i=>i.toNat
 | _=>0
theorem Og{ys:List V}{n:Nat}(p:ys.Perm (dh n)):∃o:List Nat,ys=o.map (fun k:Nat=>V.int (k:Int))∧o.Perm (List.range n):=by
 refine ⟨ys.map Bj,?_,?_⟩
 ·rw [cE]
  conv=>lhs;rw [←nu ys]
  refine gu fun y hy=>?_
  obtain ⟨k,_,rfl⟩:=cg.mp (p.mem_iff.mp hy)
  show V.int (k:Int)=V.int (((k:Int).toNat:Nat):Int)
  rw [dq]
 ·have:=p.map Bj
  unfold dh at this
  rw [cE] at this
  have e:(List.range n).map (Bj ∘ fun i:Nat=>V.int (i:Int))=List.range n:=by
   conv=>rhs;rw [←nu (List.range n)]
   exact gu fun k _=>dq k
  rw [e] at this
  exact this
inductive ku (bu:Nat→Nat→Prop) (bt:Nat→Prop) (s:Nat):Nat→Prop where
 | start:ku bu bt s s
 | step {a b:Nat}:ku bu bt s a→(a=s∨bt a)→bu a b→ku bu bt s b
structure di (n:Nat) (bu:Nat→Nat→Prop) (bt:Nat→Prop) (s:Nat) (here:Option Nat) (dn:Nat→Prop) (ks ws:List Nat):Prop where
 pl:iy n ks
 st:s∈ks
 rc:∀k∈ks,ku bu bt s k
 wt:∀w∈ws,w∈ks∧(w=s∨bt w)
 cl:∀k∈ks,(k=s∨bt k)→k∈ws∨∀b,bu k b→b∈ks∨(here=some k∧¬dn b)
variable {n:Nat} {bu:Nat→Nat→Prop} {bt:Nat→Prop} {s:Nat}
variable {dn:Nat→Prop}
theorem di.start(hs:s<n):di n bu bt s none dn [s] [s]:=
 ⟨⟨by simp,fun k hk=>by rw [bR.mp hk];exact hs⟩,bR.mpr rfl,fun k hk=>by rw [bR.mp hk];exact .start,fun w hw=>⟨hw,.inl (bR.mp hw)⟩,fun k hk _=>.inl hk⟩
variable {ks ws:List Nat} {h:Nat}
theorem di.pop(k:di n bu bt s none dn ks (ws++[h])):di n bu bt s (some h) (fun _=>False) ks ws:=
 ⟨k.pl,k.st,k.rc,fun w hw=>k.wt w (m4 _ hw),fun x hx ox=>by
  rcases k.cl x hx ox with e | e
  ·rcases cL.mp e with e | e
   ·exact .inl e
   ·exact .inr fun b _=>.inr ⟨by rw [bR.mp e],fun z=>z⟩
  ·exact .inr fun b hb=>.inl ((e b hb).resolve_right fun z=>by cases z.1)⟩
variable {b:Nat}
theorem di.old(k:di n bu bt s (some h) dn ks ws)(hb:b∈ks):di n bu bt s (some h) (fun x=>dn x∨x=b) ks ws:=
 ⟨k.pl,k.st,k.rc,k.wt,fun x hx ox=>by
  rcases k.cl x hx ox with e | e;·exact .inl e
  ·refine .inr fun c hc=>?_
   rcases e c hc with e | e;·exact .inl e
   ·by_cases z:c=b
    ·rw [z];exact .inl hb
    ·exact .inr ⟨e.1,fun q=>q.elim e.2 z⟩⟩
theorem di.new{vs:List Nat}(k:di n bu bt s (some h) dn ks ws)(hb:b∉ks)(bn:b<n)(hh:h∈ks)(oh:h=s∨bt h)(ab:bu h b)(hv:(bt b∧vs=ws++[b])∨(¬bt b∧vs=ws)):di n bu bt s (some h) (fun x=>dn x∨x=b) (bK ks b) vs:=by
 have bs:b≠s:=fun z=>hb (z▸k.st);have sub:∀w∈ws,w∈vs:=fun w hw=>by
  rcases hv with ⟨_,rfl⟩ | ⟨_,rfl⟩;·exact m4 _ hw
  ·exact hw
 refine ⟨k.pl.add bn,fL.mpr (.inl k.st),fun x hx=>?_,fun w hw=>?_,fun x hx ox=>?_⟩
 ·rcases fL.mp hx with e | rfl
  ·exact k.rc x e
  ·exact .step (k.rc h hh) oh ab
 ·rcases hv with ⟨tb,rfl⟩ | ⟨_,rfl⟩
  ·rcases cL.mp hw with e | e
   ·exact ⟨fL.mpr (.inl (k.wt w e).1),(k.wt w e).2⟩
   ·rw [bR.mp e]
    exact ⟨fL.mpr (.inr rfl),.inr tb⟩
  ·exact ⟨fL.mpr (.inl (k.wt w hw).1),(k.wt w hw).2⟩
 ·rcases fL.mp hx with e | rfl
  ·rcases k.cl x e ox with e | e
   ·exact .inl (sub x e)
   ·refine .inr fun c hc=>?_
    rcases e c hc with e | e;·exact .inl (fL.mpr (.inl e))
    ·by_cases z:c=b
     ·exact .inl (fL.mpr (.inr z))
     ·exact .inr ⟨e.1,fun q=>q.elim e.2 z⟩
  ·rcases hv with ⟨tb,rfl⟩ | ⟨tb,rfl⟩
   ·exact .inl (dI _ (bR.mpr rfl))
   ·exact absurd ox (fun z=>z.elim bs tb)
theorem di.next{Oh:Nat→Prop}(k:di n bu bt s (some h) dn ks ws)(all:∀b,bu h b→dn b):di n bu bt s none Oh ks ws:=
 ⟨k.pl,k.st,k.rc,k.wt,fun x hx ox=>by
  rcases k.cl x hx ox with e | e;·exact .inl e
  ·refine .inr fun c hc=>.inl ?_
   rcases e c hc with e | ⟨e,e2⟩;·exact e
   ·cases e
    exact absurd (all c hc) e2⟩
theorem di.done(k:di n bu bt s none dn ks [])(x:Nat):x∈ks↔ku bu bt s x:=by
 refine ⟨k.rc x,fun h=>?_⟩
 induction h with
 | start=>exact k.st
 | step _ o ab ih=>
  rcases k.cl _ ih o with e | e;·cases e
  ·exact (e _ ab).resolve_right fun z=>by cases z.1
theorem Oi{ms:List Nat}(h1:ks.Nodup)(h2:ms.Nodup)(e:∀x,x∈ks↔x∈ms)(p:Nat→Bool):(ks.filter p).length=(ms.filter p).length:=by have pm:ks.Perm ms:=(qv h1 h2).mpr e;exact (pm.filter p).length_eq
theorem Fw(h:b∉ks):(bK ks b).length=ks.length+1:=by unfold bK;rw [aa h,cS];rfl
end My
namespace L2
open PySem PySem.Spec PyProof.Rows
theorem xV{X:Cx}{K:aG}(hk:X.K=K:=by rfl):cz X (compareOp .NotIn) (Ae K true):=by subst hk;exact KZ
end L2
namespace My
open PySem L2
def fg(n:Nat)(f:Nat→List Nat)(a b:Nat):Prop:=a<n∧b∈f a
def jE(n:Nat)(f:Nat→List Nat)(done:List Nat)(p:Nat)(c:Nat):Prop:=∃ks:List Nat,iy n ks∧(∀x,x∈ks↔ku (fg n f) (·∈done) p x)∧c=(ks.filter fun q=>!decide (q=p) && !decide (q∈done)).length
def Oj:Sp:=fun vs H Q _=>∃(D d:Addr) (n:Nat) (ds:Nat→Addr) (f:Nat→List Nat) (done:List Nat) (p:Nat),vs=[.ref D,.ref d,.int (p:Int)]∧cX H D n ds (fun _=>True) f∧H d=some (.tup (done.map fun k:Nat=>V.int (k:Int)))∧done.length≤1000∧p<n∧n≤60 ∧
 ∀(H':Hp) (r:Addr) (xs:List V),(∀b o,H b=some o→(∀i,i<n→b≠ds i)→H' b=some o)→H' r=some (.lst xs)→jE n f done p xs.length→Q (.ref r) H'
variable {a:Addr} {σ:St} {H:Hp}
theorem Ol{ob:Obj}{ks:List Nat}{g:TG}{tb:TS}{D:Ends}(Pv:Nat→St→Hp→Prop)(h0:Pv 0 σ H)(hl:∀i σ H,i≤ks.length→Pv i σ H→H a=some (.aX ob (.dK (dk ks))))
  (hs:∀(i k:Nat) σ H,ks[i]?=some k→Pv i σ H→g (.int (k:Int)) σ H fun σ2 H2=>tb {D with nx:=Pv (i+1),ct:=Pv (i+1),bk:=D.nx} σ2 H2) (hd:∀σ H,Pv ks.length σ H→D.nx σ H) :
  ∃W:Nat→Nat→St→Hp→Prop,(∃m,W 0 m σ H)∧∀i m σ H,W i m σ H→
   ((iw a ob (dk ks)).stop i H∧D.nx σ H)∨((iw a ob (dk ks)).go i H∧∃N:St→Hp→Prop,(∀σ' H',N σ' H'→∃m',m'<m∧W (i+1) m' σ' H')∧∀x H',(iw a ob (dk ks)).du i H x H'→g x σ H' fun σ2 H2=>tb {D with nx:=N,ct:=N,bk:=D.nx} σ2 H2):=by
 refine ⟨fun i m σ H=>m=ks.length-i∧i≤ks.length∧Pv i σ H,⟨ks.length,by simp,bH _,h0⟩,?_⟩
 rintro i m σ H ⟨rfl,hi,p⟩;have q:=hl i σ H hi p;by_cases a7:i<ks.length
 ·refine .inr ⟨⟨q,by rw [vc];exact a7⟩,Pv (i+1),fun σ' H' p'=>⟨ks.length-(i+1),by omega,rfl,a7,p'⟩,fun x H' y=>?_⟩
  obtain ⟨e,kv,ek,rfl⟩:=y;subst e;unfold dk at ek;rw [bU,bV a7] at ek;cases ek;exact hs i _ σ _ (bV a7) p
 ·have e:i=ks.length:=by omega
  subst e;exact .inl ⟨⟨q,by rw [vc];exact ay _⟩,hd σ H p⟩
structure lJ (H:Hp) (D:Addr) (n:Nat) (ds:Nat→Addr) (f:Nat→List Nat):Prop where
 lst:H D=some (.lst ((List.range n).map fun i=>V.ref (ds i)))
 at':∀i,i<n→H (ds i)=some (.dK (dk (f i)))∨∃ob,H (ds i)=some (.aX ob (.dK (dk (f i))))
variable {D:Addr} {n:Nat} {ds:Nat→Addr} {f:Nat→List Nat}
theorem cX.fr(h:cX H D n ds (fun _=>True) f):lJ H D n ds f:=⟨h.lst,fun i hi=>.inl (h.at' i hi trivial)⟩
theorem lK(done:List Nat)(k:Nat):gB (.int (k:Int)) (done.map fun k:Nat=>V.int (k:Int))=decide (k∈done):=by
 unfold gB;rw [m6,wg,fk];constructor
 ·rintro ⟨y,hy,e⟩
  obtain ⟨j,hj,rfl⟩:=cg.mp hy;have e:((j:Int) == (k:Int))=true:=e;rw [beq_iff_eq] at e;have:j=k:=by omega
  subst this;exact hj
 ·intro h
  exact ⟨_,cg.mpr ⟨k,h,rfl⟩,Ex rfl⟩
theorem xW(done:List Nat):(done.map fun k:Nat=>V.int (k:Int)).all gz=true:=by rw [qe];intro x hx;obtain ⟨j,_,rfl⟩:=cg.mp hx;rfl
variable {kvs:List (Key×V)} {R:It→Hp→Prop}
theorem Om(h:H a=some (.dK kvs)∨∃ob,H a=some (.aX ob (.dK kvs)))(k:∀(ob:Obj) (Hf:Hp),Hf a=some (.aX ob (.dK kvs))→(∀b u,b≠a→H b=some u→Hf b=some u)→R (iw a ob kvs) Hf) :
  (H a=some (.dK kvs)∧∀o,R (iw a o kvs) (upd H a (.aX o (.dK kvs))))∨∃o,H a=some (.aX o (.dK kvs))∧R (iw a o kvs) H:=by
 rcases h with e | ⟨ob,e⟩;·exact .inl ⟨e,fun o=>k o _ aw fun b u ne hb=>by rw [aB ne];exact hb⟩
 ·exact .inr ⟨ob,e,k ob H e fun _ _ _ h=>h⟩
theorem lJ.keep{H':Hp}(h:lJ H D n ds f)(k:∀b u,b≠a→H b=some u→H' b=some u)(nD:a≠D)(nd:∀i,i<n→ds i≠a):lJ H' D n ds f:=⟨k _ _ (Ne.symm nD) h.lst,fun i hi=>by
 rcases h.at' i hi with e | ⟨ob,e⟩;·exact .inl (k _ _ (nd i hi) e)
 ·exact .inr ⟨ob,k _ _ (nd i hi) e⟩⟩
theorem lJ.aX{H H':Hp}{D:Addr}{n:Nat}{ds:Nat→Addr}{f:Nat→List Nat}(h:lJ H D n ds f){j:Nat}{ob:Obj}(k:∀b u,b≠ds j→H b=some u→H' b=some u)(hj:j<n)(e:H' (ds j)=some (.aX ob (.dK (dk (f j)))))(inj:∀i j,i<n→j<n→ds i=ds j→i=j)(nD:ds j≠D):lJ H' D n ds f:=⟨k _ _ (Ne.symm nD) h.lst,fun i hi=>by
 by_cases z:i=j;·subst z;exact .inr ⟨ob,e⟩
 ·rcases h.at' i hi with e | ⟨ob,e⟩
  ·exact .inl (k _ _ (fun q=>z (inj i j hi hj q)) e)
  ·exact .inr ⟨ob,k _ _ (fun q=>z (inj i j hi hj q)) e⟩⟩
def oA(n:Nat)(ds:Nat→Addr)(H H':Hp):Prop:=∀b o,H b=some o→(∀i,i<n→b≠ds i)→H' b=some o
theorem Bk{tl:TE}(hp:∀Q:VK,Q (.ref a) H→tl σ H Q)(h:H a=some (.dK kvs)∨∃ob,H a=some (.aX ob (.dK kvs)))(k:∀(ob:Obj) (Hf:Hp),Hf a=some (.aX ob (.dK kvs))→(∀b u,b≠a→H b=some u→Hf b=some u)→R (iw a ob kvs) Hf):Fh tl σ H R:=hp _ ⟨a,kvs,rfl,Om h k⟩
def Oo:Sp:=fun vs H Q _=>∃(t d:Addr) (n:Nat) (L:aA) (done:List Nat) (p:Nat),vs=[.ref t,.ref d,.int (p:Int)]∧d9 H t n L∧gf n L∧n≤9∧H d=some (.tup (done.map fun k:Nat=>V.int (k:Int)))∧done.length≤1000∧p<n ∧
 ∀(H':Hp) (f:Nat→List Nat) (c:Nat),aj H H'→d6 n L f→jE n f done p c→Q (.int ((c:Int)*c+3*c+1)) H'
variable {p c:Nat}
theorem jE.le{done:List Nat}(h:jE n f done p c):c≤n:=by obtain ⟨ks,pl,_,rfl⟩:=h;exact bf (jU _ _) pl.len
variable {L:aA} {g:Nat→List Nat}
theorem jE.same{done:List Nat}{e:Nat}(hf:d6 n L f)(hg:d6 n L g)(h:jE n f done p c)(k:jE n g done p e):c=e:=by
 obtain ⟨ks,pk,ik,rfl⟩:=h;obtain ⟨ms,pm,im,rfl⟩:=k;have ad:fg n f=fg n g:=by
  funext a b
  unfold fg;refine propext ⟨fun⟨x,y⟩=>⟨x,(hg a b x).mpr ((hf a b x).mp y)⟩,fun⟨x,y⟩=>⟨x,(hf a b x).mpr ((hg a b x).mp y)⟩⟩
 refine Oi pk.1 pm.1 (fun x=>?_) _;rw [ik,im,ad]
def lN(g:Nat→List Nat)(i j:Nat):Nat→List Nat:=dG g i (g i++[j])
variable {i j:Nat}
theorem Fx{a b:Nat}:b∈lN g i j a↔b∈g a∨(a=i∧b=j):=by
 unfold lN dG;by_cases e:a=i
 ·subst e
  rw [ae rfl,cL,bR];simp
 ·rw [aa e]
  simp [e]
theorem Bl{a:Nat}:(lN g i j a).length≤(g a).length+1:=by
 unfold lN dG;by_cases e:a=i
 ·subst e
  rw [ae rfl,cS];exact ay _
 ·rw [aa e];omega
theorem d6.snoc(h:d6 n L g):d6 n (L++[((i:Int),(j:Int))]) (lN (lN g i j) j i):=fun a b ha=>by
 rw [Fx,Fx,h a b ha];simp only [cL,bR,Prod.mk.injEq];constructor
 ·rintro (((e | e) | ⟨rfl,rfl⟩) | ⟨rfl,rfl⟩)
  ·exact .inl (.inl e)
  ·exact .inr (.inl e)
  ·exact .inl (.inr ⟨rfl,rfl⟩)
  ·exact .inr (.inr ⟨rfl,rfl⟩)
 ·rintro ((e | ⟨e1,e2⟩) | (e | ⟨e1,e2⟩))
  ·exact .inl (.inl (.inl e))
  ·exact .inl (.inr ⟨by omega,by omega⟩)
  ·exact .inl (.inl (.inr e))
  ·exact .inr ⟨by omega,by omega⟩
structure gg (H:Hp) (D:Addr) (n:Nat) (rs:Nat→Addr) (g:Nat→List Nat):Prop where
 lst:H D=some (.lst ((List.range n).map fun i=>V.ref (rs i)))
 inj:∀i j,i<n→j<n→rs i=rs j→i=j
 ne:∀i,i<n→rs i≠D
 at':∀i,i<n→H (rs i)=some (.lst ((g i).map fun k:Nat=>V.int (k:Int)))
theorem gg.snoc{rs:Nat→Addr}(h:gg H D n rs g)(j:Nat)(hi:i<n):gg (upd H (rs i) (.lst (((g i).map fun k:Nat=>V.int (k:Int))++[V.int (j:Int)]))) D n rs (lN g i j):=by
 refine ⟨by rw [aB (Ne.symm (h.ne i hi))];exact h.lst,h.inj,h.ne,fun a ha=>?_⟩
 unfold lN dG;by_cases e:a=i
 ·subst e
  rw [ae rfl,aw,dJ];rfl
 ·rw [aa e,aB (fun z=>e (h.inj a i ha hi z))]
  exact h.at' a ha
def Oq:Sp:=fun vs H Q _=>∃(t:Addr) (n:Nat) (L:aA),vs=[.ref t]∧d9 H t n L∧gf n L∧n≤60∧L.length≤200 ∧
 ∀(H':Hp) (D:Addr) (rs:Nat→Addr) (g:Nat→List Nat),aj H H'→H D=none→(∀i,i<n→H (rs i)=none)→gg H' D n rs g→d6 n L g→Q (.ref D) H'
end My
namespace L2
open PySem PySem.Spec PyProof.Rows
end L2
namespace My
open PySem L2
end My
namespace L2
open PySem PySem.Spec PyProof.Rows My
structure Fy (J:It) (Z:aA) (H1:Hp):Prop where
 go:∀i Hc,aj H1 Hc→i<Z.length→J.go i Hc
 du:∀i Hc v H',aj H1 Hc→J.du i Hc v H'→aj Hc H'∧∀z,Z[i]?=some z→∃T,v=.ref T∧H' T=some (.tup [.int z.1,.int z.2])
 stop:∀i Hc,aj H1 Hc→Z.length≤i→J.stop i Hc
end L2
namespace My
open PySem L2
end My
namespace L2
open PySem PySem.Spec PyProof.Rows My
end L2
namespace My
open PySem L2
inductive Wk (bu:Nat→Nat→Prop) (bt:Nat→Prop) (s:Nat):Nat→Prop where
 | one {b:Nat}:bu s b→Wk bu bt s b
 | more {a b:Nat}:Wk bu bt s a→bt a→bu a b→Wk bu bt s b
section
variable {bu:Nat→Nat→Prop} {bt vi:Nat→Prop} {s t:Nat}
theorem Ot(t:Nat):ku bu bt s t↔t=s∨Wk bu bt s t:=by
 constructor
 ·intro h
  induction h with
  | start=>exact .inl rfl
  | step _ o ab ih=>
   rcases ih with rfl | w;·exact .inr (.one ab)
   ·rcases o with rfl | o
    ·exact .inr (.one ab)
    ·exact .inr (.more w o ab)
 ·rintro (rfl | h)
  ·exact .start
  ·induction h with
   | one ab=>exact .step .start (.inl rfl) ab
   | more _ o ab ih=>exact .step ih (.inr o) ab
theorem Wk.mono(h:Wk bu bt s t)(k:∀x,bt x→vi x):Wk bu vi s t:=by
 induction h with
 | one ab=>exact .one ab
 | more _ o ab ih=>exact .more ih (k _ o) ab
theorem Wk.imp{Fz:Nat→Nat→Prop}(h:Wk bu bt s t)(k:∀a b,bu a b→Fz a b):Wk Fz bt s t:=by
 induction h with
 | one ab=>exact .one (k _ _ ab)
 | more _ o ab ih=>exact .more ih o (k _ _ ab)
theorem Wk.cons{a:Nat}(ab:bu s a)(ta:bt a)(h:Wk bu bt a t):Wk bu bt s t:=by
 induction h with
 | one e=>exact .more (.one ab) ta e
 | more _ o e ih=>exact .more ih o e
theorem Wk.symm(sy:∀a b,bu a b→bu b a)(h:Wk bu bt s t):Wk bu bt t s:=by
 induction h with
 | one ab=>exact .one (sy _ _ ab)
 | more _ o ab ih=>exact ih.cons (sy _ _ ab) o
variable {p:Nat}
theorem Wk.trans(h:Wk bu bt s p)(tp:bt p)(h':Wk bu bt p t):Wk bu bt s t:=by
 induction h' with
 | one ab=>exact .more h tp ab
 | more _ o ab ih=>exact .more ih o ab
theorem Wk.step(k:∀x,vi x↔bt x∨x=p):Wk bu vi s t↔Wk bu bt s t∨(Wk bu bt s p∧Wk bu bt p t):=by
 constructor
 ·intro h
  induction h with
  | one ab=>exact .inl (.one ab)
  | more _ o ab ih=>
   rcases (k _).mp o with o | rfl
   ·rcases ih with ih | ⟨i1,i2⟩
    ·exact .inl (.more ih o ab)
    ·exact .inr ⟨i1,.more i2 o ab⟩
   ·rcases ih with ih | ⟨i1,_⟩
    ·exact .inr ⟨ih,.one ab⟩
    ·exact .inr ⟨i1,.one ab⟩
 ·have m:∀x,bt x→vi x:=fun x h=>(k x).mpr (.inl h)
  rintro (h | ⟨h,h'⟩);·exact h.mono m
  ·exact (h.mono m).trans ((k p).mpr (.inr rfl)) (h'.mono m)
end
def aL(n:Nat)(L:aA)(a b:Nat):Prop:=a<n∧b<n∧(((a:Int),(b:Int))∈L∨((b:Int),(a:Int))∈L)
variable {n:Nat} {L:aA}
theorem q_(a b:Nat)(h:aL n L a b):aL n L b a:=⟨h.2.1,h.1,h.2.2.symm⟩
def xX(L:aA):Prop:=∀p∈L,p.1≠p.2
def eC(n:Nat)(o:List Nat)(k x:Nat):Prop:=x<n∧o.idxOf x<k
def oB(n:Nat)(L:aA)(o:List Nat)(k:Nat)(f:Nat→List Nat):Prop:=∀a b:Nat,a<n→b<n→k≤o.idxOf a→k≤o.idxOf b→(b∈f a↔a≠b∧Wk (aL n L) (eC n o k) a b)
variable {o:List Nat} {f:Nat→List Nat}
theorem oB.start(nb:d6 n L f)(ns:xX L):oB n L o 0 f:=fun a b ha hb _ _=>by
 rw [nb a b ha];constructor
 ·intro h
  refine ⟨fun e=>?_,.one ⟨ha,hb,h⟩⟩;subst e;rcases h with h | h <;> exact ns _ h rfl
 ·rintro ⟨_,h⟩
  cases h with
  | one ab=>exact ab.2.2
  | more _ o _=>exact absurd o.2 (tS _)
variable {p:Nat}
theorem oB.step(ho:o.Perm (List.range n)){k:Nat}{g:Nat→List Nat}{ms:List Nat}(h:oB n L o k f)(hp:p<n)(ip:o.idxOf p=k)(hm:∀q,q∈ms↔q∈f p∧k<o.idxOf q)(ml:∀q∈ms,q<n)
  (con:∀a b:Nat,a<n→(b∈g a↔b∈f a∨(a≠b∧a∈ms∧b∈ms))):oB n L o (k+1) g:=fun a b ha hb ka kb=>by
 have th:∀x,eC n o (k+1) x↔eC n o k x∨x=p:=fun x=>by
  unfold eC;constructor
  ·rintro ⟨h1,h2⟩
   by_cases e:o.idxOf x=k
   ·right
    by_cases z:x=p;·exact z
    ·exact absurd (e.trans ip.symm) (vg ho h1 hp z)
   ·exact .inl ⟨h1,by omega⟩
  ·rintro (⟨h1,h2⟩ | rfl)
   ·exact ⟨h1,by omega⟩
   ·exact ⟨hp,by omega⟩
 have ap:a≠p:=fun e=>by subst e;omega
 have bp:b≠p:=fun e=>by subst e;omega
 have ea:=h p a hp ha (by omega) (by omega)
 have eb:=h p b hp hb (by omega) (by omega)
 rw [con a b ha,h a b ha hb (by omega) (by omega),hm a,hm b,ea,eb,Wk.step th]
 constructor
 ·rintro (⟨h1,h2⟩ | ⟨h1,⟨⟨_,h2⟩,_⟩,⟨_,h3⟩,_⟩)
  ·exact ⟨h1,.inl h2⟩
  ·exact ⟨h1,.inr ⟨h2.symm q_,h3⟩⟩
 ·rintro ⟨h1,h2 | ⟨h2,h3⟩⟩
  ·exact .inl ⟨h1,h2⟩
  ·exact .inr ⟨h1,⟨⟨Ne.symm ap,h2.symm q_⟩,by omega⟩,⟨Ne.symm bp,h3⟩,by omega⟩
def jF(n:Nat)(L:aA)(o:List Nat)(p:Nat)(ms:List Nat):Prop:=∀q,q∈ms↔q<n∧o.idxOf p<o.idxOf q∧Wk (aL n L) (eC n o (o.idxOf p)) p q
def Ou(N:Addr):Sp:=fun vs H Q E=>∃(t a:Addr) (n:Nat) (L:aA) (zs:List Int),vs=[.ref t,.ref a]∧d9 H t n L∧gf n L∧xX L∧n≤60∧H a=some (.lst (zs.map V.int))∧zs.length<64 ∧
 (¬kr zs n→∀H',aj H H'→E (.ref N) none H') ∧
 ∀o:List Nat,zs=o.map iN→o.Perm (List.range n)→∀(H':Hp) (D:Addr) (rs:Nat→Addr) (g:Nat→List Nat),aj H H'→H D=none→(∀p,p<n→H (rs p)=none)→N7 H' D n rs g→(∀p,p<n→iZ n o p (g p)∧jF n L o p (g p))→Q (.ref D) H'
theorem Ov{q p' q':Nat}(h:iA p q=iA p' q'):(p=p'∧q=q')∨(p=q'∧q=p'):=by
 unfold iA at h;have h1:=dH Prod.fst h;have h2:=dH Prod.snd h;dsimp only at h1 h2
 split at h1 <;> split at h1 <;> split at h2 <;> split at h2 <;> omega
def jG(n:Nat)(L:aA)(o:List Nat)(M:aA):Prop:=M.Pairwise lexLt∧∀z,z∈M↔∃p q:Nat,p<n∧q<n∧o.idxOf p<o.idxOf q∧Wk (aL n L) (eC n o (o.idxOf p)) p q∧z=iA p q
theorem jG.lt{M:aA}(h:jG n L o M):∀z∈M,0≤z.1∧z.1<z.2∧z.2<(n:Int):=fun z hz=>by
 obtain ⟨p,q,hp,hq,hi,_,rfl⟩:=(h.2 z).mp hz;have ne:p≠q:=fun e=>by subst e;omega
 unfold iA;dsimp only
 split <;> split <;> omega
end My
namespace L2
open PySem PySem.Spec PyProof.Rows
section
variable {X:Cx} {a b:Expr} {rest:List Expr} {pos:Pos} {ta tb:TE}
end
end L2
namespace My
open PySem L2
end My
namespace L2
open PySem PySem.Spec PyProof.Rows
section
variable {prog:Program} {w:World} {A:Around} {E:aF} {s:Shared}
end
section
variable {prog:Program} {w:World} {A:Around} {E:aF} {s:Shared}
end
section
variable {X:Cx}
end
section
variable {prog:Program} {w:World} {A:Around} {E:aF} {s:Shared}
end
end L2
namespace My
open PySem L2
end My
namespace L2
open PySem PySem.Spec PyProof.Rows
end L2
namespace My
open PySem L2
end My
namespace L2
open PySem PySem.Spec PyProof.Rows
section
variable {X:Cx}
end
end L2
namespace My
open PySem L2
theorem FA:∀{A B:List Nat},A.Pairwise (· < ·)→B.Pairwise (· < ·)→(∀p,p∈A↔p∈B)→A=B:=fun{A B} h1 h2 e=>by have nA:A.Nodup:=List.Pairwise.imp (fun h=>bC h) h1;have nB:B.Nodup:=List.Pairwise.imp (fun h=>bC h) h2;exact ((qv nA nB).mpr e).eq_of_pairwise (fun a b _ _ h h'=>by omega) h1 h2
theorem Ow{A B:List Nat}(p:A.Perm B)(nd:B.Nodup)(s:(A.map iN).Pairwise (·≤·)):A.Pairwise (· < ·):=by rw [nk] at s;refine List.Pairwise.imp₂ (fun a b h1 h2=>?_) s (p.nodup_iff.mpr nd);have h1:(a:Int)≤(b:Int):=h1;have h2:a≠b:=h2;omega
def p2(g:Nat→Nat→Nat):List Nat→Nat
 | []=>0
 | x::l=>(l.map (g x)).sum+p2 g l
def p3(f:Nat→Nat→Nat→Nat):List Nat→Nat
 | []=>0
 | x::l=>p2 (f x) l+p3 f l
variable {g:Nat→Nat→Nat} {l l':List Nat}
theorem FC(sy:∀x y,g x y=g y x)(p:l.Perm l'):p2 g l=p2 g l':=by
 induction p with
 | nil=>rfl
 | cons x p ih=>simp only [p2,ih];rw [(p.map (g x)).sum_nat]
 | swap x y l=>simp only [p2,cZ,fu];rw [sy x y];omega
 | trans _ _ h1 h2=>exact h1.trans h2
theorem Ox{f:Nat→Nat→Nat→Nat}(s1:∀x y z,f x y z=f y x z)(s2:∀x y z,f x y z=f x z y)(p:l.Perm l'):p3 f l=p3 f l':=by
 induction p with
 | nil=>rfl
 | cons x p ih=>simp only [p3,ih];rw [FC (s2 x) p]
 | swap x y l=>simp only [p3,p2];rw [show l.map (f y x)=l.map (f x y) from gu fun z _=>s1 y x z];omega
 | trans _ _ h1 h2=>exact h1.trans h2
variable {f:Nat→Nat}
theorem rd{g:Nat→Nat}(h:∀x∈l,f x=g x):(l.map f).sum=(l.map g).sum:=dH List.sum (gu h)
theorem xY(h:∀x∈l,f x=0):(l.map f).sum=0:=by
 induction l with
 | nil=>rfl
 | cons x l ih=>rw [cZ,fu,h x cR,ih fun y hy=>h y (cV _ hy)]
theorem Oy{g:Nat→Nat}:(l.map fun x=>f x+g x).sum=(l.map f).sum+(l.map g).sum:=by
 induction l with
 | nil=>rfl
 | cons x l ih=>simp only [cZ,fu,ih];omega
variable {b c:Nat}
theorem Oz(nd:l.Nodup)(hb:b∈l):(l.map fun y=>if y=b then c else 0).sum=c:=by
 induction l with
 | nil=>cases hb
 | cons x l ih=>
  rw [cZ,fu];obtain ⟨n1,n2⟩:=gT.mp nd;rcases b6.mp hb with rfl | h
  ·rw [ae rfl,xY fun y hy=>aa (fun e:y=b=>n1 (e▸hy))]
   omega
  ·rw [aa (fun e:x=b=>n1 (e▸h)),ih n2 h]
   omega
variable {g':Nat→Nat→Nat}
theorem FD(nd:l.Nodup)(h:∀x∈l,∀y∈l,x≠y→g x y=g' x y):p2 g l=p2 g' l:=by
 induction l with
 | nil=>rfl
 | cons x l ih=>obtain ⟨n1,n2⟩:=gT.mp nd;show (l.map (g x)).sum+p2 g l=(l.map (g' x)).sum+p2 g' l;rw [rd fun y hy=>h x cR y (cV _ hy) fun e=>n1 (e▸hy),ih n2 fun a ha b hb=>h a (cV _ ha) b (cV _ hb)]
theorem OA:p2 (fun x y=>g x y+g' x y) l=p2 g l+p2 g' l:=by
 induction l with
 | nil=>rfl
 | cons x l ih=>simp only [p2,ih,Oy];omega
theorem FE(h:∀x∈l,∀y,g x y=0):p2 g l=0:=by
 induction l with
 | nil=>rfl
 | cons x l ih=>show (l.map (g x)).sum+p2 g l=0;rw [xY fun y _=>h x cR y,ih fun a ha=>h a (cV _ ha)]
variable {a:Nat}
theorem OB(pw:l.Pairwise (· < ·))(ha:a∈l)(hb:b∈l)(ab:a<b):p2 (fun i j=>if i=a∧j=b then c else 0) l=c:=by
 induction l with
 | nil=>cases ha
 | cons x l ih=>
  obtain ⟨n1,n2⟩:=mr.mp pw;have nd:l.Nodup:=n2.imp fun h=>bC h;show (l.map fun j=>if x=a∧j=b then c else 0).sum+p2 _ l=c
  rcases b6.mp ha with rfl | h
  ·have fD:b∈l:=by
    rcases b6.mp hb with rfl | h;·omega
    ·exact h
   rw [show (l.map fun j=>if a=a∧j=b then c else 0).sum=(l.map fun y=>if y=b then c else 0).sum from rd fun y _=>by simp,Oz nd fD,FE fun i hi j=>aa fun e=>by have:=n1 i hi;omega]
   omega
  ·have xa:=n1 a h
   have fD:b∈l:=by
    rcases b6.mp hb with rfl | h;·omega
    ·exact h
   rw [xY fun y _=>aa fun e=>by omega,ih n2 h fD]
   omega
theorem FF(pw:l.Pairwise (· < ·)):p2 g l=(l.map fun y=>(l.map fun z=>if y<z then g y z else 0).sum).sum:=by
 induction l with
 | nil=>rfl
 | cons x l ih=>
  obtain ⟨n1,n2⟩:=mr.mp pw;show (l.map (g x)).sum+p2 g l=_;rw [cZ,fu,cZ,fu,aa (dB x),ih n2];rw [show (l.map fun z=>if x<z then g x z else 0).sum=(l.map (g x)).sum from rd fun z hz=>ae (n1 z hz)]
  rw [show (l.map fun y=>((x::l).map fun z=>if y<z then g y z else 0).sum).sum=(l.map fun y=>(l.map fun z=>if y<z then g y z else 0).sum).sum from rd fun y hy=>by
   rw [cZ,fu,aa (by have:=n1 y hy;omega)]
   omega]
  omega
theorem xZ(n:Nat):(List.range n).Pairwise (· < ·):=wd
theorem FG{n:Nat}{W:Nat→Nat→Nat}:∀{M:aA},M.Nodup→(∀z∈M,0≤z.1∧z.1<z.2∧z.2<(n:Int))→(M.map fun z=>W z.1.toNat z.2.toNat).sum=p2 (fun i j=>if ((i:Int),(j:Int))∈M then W i j else 0) (List.range n)
 | [],_,_=>by rw [FE fun i _ j=>aa fun h=>nomatch h];rfl
 | z::M,nd,lt=>by
  obtain ⟨n1,n2⟩:=gT.mp nd;obtain ⟨z0,z1,z2⟩:=lt z cR;rw [cZ,fu,FG n2 fun y hy=>lt y (cV _ hy)];have d:=OB (c:=W z.1.toNat z.2.toNat) (xZ n) (a:=z.1.toNat) (b:=z.2.toNat) (cx.mpr (by omega)) (cx.mpr (by omega)) (by omega)
  rw [←d,←OA];refine FD jS fun i _ j _ _=>?_;by_cases e:i=z.1.toNat∧j=z.2.toNat
  ·have ez:((i:Int),(j:Int))=z:=by obtain ⟨e1,e2⟩:=e;subst e1;subst e2;rw [Int.toNat_of_nonneg z0,Int.toNat_of_nonneg (by omega)]
   obtain ⟨e1,e2⟩:=e;have hm:((i:Int),(j:Int))∈z::M:=ez.symm▸cR;have hn:¬((i:Int),(j:Int))∈M:=fun h=>n1 (ez▸h);rw [ae ⟨e1,e2⟩,ae hm,aa hn,←e1,←e2,tT]
  ·rw [aa e]
   have:((i:Int),(j:Int))≠z:=fun h=>e (by subst h;exact ⟨(dq i).symm,(dq j).symm⟩)
   by_cases h:((i:Int),(j:Int))∈M
   ·rw [ae h,ae (cV _ h)]
    omega
   ·rw [aa h,aa fun h'=>(b6.mp h').elim this h]
def rL(M:aA)(a b:Nat):Bool:=decide (((a:Int),(b:Int))∈M) || decide (((b:Int),(a:Int))∈M)
variable {M:aA}
theorem vj:rL M a b=true↔((a:Int),(b:Int))∈M∨((b:Int),(a:Int))∈M:=by unfold rL;rw [Bool.or_eq_true,fk,fk]
theorem x4(M:aA)(a b:Nat):rL M a b=rL M b a:=Bool.or_comm ..
def oC(r:Nat→Nat→Bool)(x y:Nat):Nat:=if r x y then 1 else 0
def i4(r:Nat→Nat→Bool)(x y z:Nat):Nat:=if r x y && r x z && r y z then 1 else 0
def FH(n:Nat)(M:aA):Nat:=p3 (i4 (rL M)) (List.range n)
def rf(n:Nat)(M:aA):Nat:=4*M.length+2*FH n M+n
variable {n:Nat}
theorem OC(nd:M.Nodup)(lt:∀z∈M,0≤z.1∧z.1<z.2∧z.2<(n:Int)):M.length=p2 (oC (rL M)) (List.range n):=by
 have:=FG (W:=fun _ _=>1) nd lt;rw [show (M.map fun z=>(fun _ _=>1:Nat→Nat→Nat) z.1.toNat z.2.toNat).sum=M.length from by
  clear this nd lt
  induction M with
  | nil=>rfl
  | cons z M ih=>rw [cZ,fu,ih,dS];exact Nat.add_comm 1 _] at this
 rw [this,FF (xZ n),FF (xZ n)];refine rd fun i _=>rd fun j _=>?_;by_cases ij:i<j
 ·rw [ae ij,ae ij]
  unfold oC;by_cases h:((i:Int),(j:Int))∈M;·rw [ae h,ae (vj.mpr (.inl h))]
  ·rw [aa h,aa fun h'=>by
    rcases vj.mp h' with h' | h';·exact h h'
    ·have:=lt _ h'
     omega]
 ·rw [aa ij,aa ij]
theorem OD(M:aA)(x y z:Nat):i4 (rL M) x y z=i4 (rL M) y x z:=by unfold i4;rw [x4 M y x];cases rL M x y <;> cases rL M x z <;> cases rL M y z <;> rfl
theorem OE(M:aA)(x y z:Nat):i4 (rL M) x y z=i4 (rL M) x z y:=by unfold i4;rw [x4 M z y];cases rL M x y <;> cases rL M x z <;> cases rL M y z <;> rfl
theorem FI(a:Nat→Bool):∀l:List Nat,2*p2 (fun y z=>if a y && a z then 1 else 0) l+(l.map fun y=>if a y then 1 else 0).sum=(l.map fun y=>if a y then 1 else 0).sum*(l.map fun y=>if a y then 1 else 0).sum
 | []=>rfl
 | x::l=>by
  have ih:=FI a l;simp only [p2,cZ,fu];by_cases h:a x
  ·simp only [h,Bool.true_and,jO]
   simp only [Nat.add_mul,Nat.mul_add];omega
  ·simp only [h,Bool.false_and,nj,jb]
   rw [xY fun _ _=>rfl,dC,dC];exact ih
def Good(r:Nat→Nat→Bool)(m:Nat→Nat):List Nat→Prop
 | []=>True
 | x::l=>m x=(l.map fun y=>if r x y then 1 else 0).sum∧(∀y∈l,∀z∈l,y≠z→r x y=true→r x z=true→r y z=true)∧Good r m l
theorem FJ{r:Nat→Nat→Bool}{m:Nat→Nat}:∀{l:List Nat},l.Nodup→Good r m l→(l.map fun x=>m x*m x+3*m x+1).sum=4*p2 (oC r) l+2*p3 (i4 r) l+l.length
 | [],_,_=>rfl
 | x::l,nd,⟨h1,h2,h3⟩=>by
  obtain ⟨n1,n2⟩:=gT.mp nd;have ih:=FJ n2 h3;have e:p2 (i4 r x) l=p2 (fun y z=>if r x y && r x z then 1 else 0) l:=FD n2 fun y hy z hz yz=>by
   unfold i4;by_cases a:r x y <;> by_cases b:r x z;·simp [a,b,h2 y hy z hz yz a b]
   ·simp [a,b]
   ·simp [a,b]
   ·simp [a,b]
  have e2:(l.map (oC r x)).sum=m x:=h1.symm;have pk:=FI (r x) l;rw [←h1] at pk;show m x*m x+3*m x+1+(l.map fun x=>m x*m x+3*m x+1).sum=4*((l.map (oC r x)).sum+p2 (oC r) l)+2*(p2 (i4 r x) l+p3 (i4 r) l)+(l.length+1);rw [ih,e2,e];omega
variable {L:aA} {o:List Nat}
theorem OF(f:jG n L o M)(h:aL n M a b){k:Nat}(hk:o.idxOf a≤k∨o.idxOf b≤k):Wk (aL n L) (eC n o k) a b:=by
 have go:∀{a b:Nat},((a:Int),(b:Int))∈M→(o.idxOf a≤k∨o.idxOf b≤k)→Wk (aL n L) (eC n o k) a b:=fun{a b} hm hk=>by
  obtain ⟨p,q,hp,hq,pq,w,e⟩:=(f.2 _).mp hm;have e:iA a b=iA p q:=by rw [←e];have:=f.lt _ hm;unfold iA;rw [aa (by omega),ae (by omega)]
  rcases Ov e with ⟨rfl,rfl⟩ | ⟨rfl,rfl⟩;·exact w.mono fun x hx=>⟨hx.1,by have:=hx.2;omega⟩
  ·exact (w.symm q_).mono fun x hx=>⟨hx.1,by have:=hx.2;omega⟩
 rcases h.2.2 with h | h;·exact go h hk
 ·exact (go h hk.symm).symm q_
theorem rg(f:jG n L o M)(ha:a<n)(hb:b<n)(ab:o.idxOf a<o.idxOf b):rL M a b=true↔Wk (aL n L) (eC n o (o.idxOf a)) a b:=by
 constructor
 ·intro h
  exact OF f ⟨ha,hb,vj.mp h⟩ (.inl (ay _))
 ·intro w
  have hm:=(f.2 _).mpr ⟨a,b,ha,hb,ab,w,rfl⟩;rw [vj];unfold iA at hm;by_cases h:(b:Int)<(a:Int)
  ·rw [ae h,aa (by omega)] at hm
   exact .inr hm
  ·by_cases h':(b:Int)>(a:Int)
   ·rw [aa h,ae h'] at hm
    exact .inl hm
   ·have e:a=b:=by omega
    subst e;omega
theorem OG(l:List Nat)(c:Nat→Bool):(l.map fun k=>if c k then 1 else 0).sum=(l.filter c).length:=by
 induction l with
 | nil=>rfl
 | cons x l ih=>
  rw [nz,cZ,fu];by_cases h:c x;·rw [ae h,ae h,dS,ih];omega
  ·rw [aa h,aa h,ih];omega
theorem FK{n:Nat}{L M:aA}{o:List Nat}(ho:o.Perm (List.range n))(f:jG n L o M){g:Nat→List Nat}(hg:∀p,p<n→iZ n o p (g p)∧jF n L o p (g p)):∀(l pre:List Nat),o=pre++l→Good (rL M) (fun x=>(g x).length) l
 | [],_,_=>trivial
 | x::l,pre,e=>by
  have nd:=vd ho;have vk:=nd;rw [e,kH] at vk;obtain ⟨np,nx,dj⟩:=vk;obtain ⟨OH,nl⟩:=gT.mp nx;have hx:x<n:=(iz ho).mp (by rw [e];simp)
  have ix:o.idxOf x=pre.length:=by rw [e,qw,aa fun h=>dj x h x cR rfl,List.idxOf_cons_self,dC]
  have il:∀y,y∈l↔y<n∧o.idxOf x<o.idxOf y:=fun y=>by
   constructor
   ·intro h
    refine ⟨(iz ho).mp (by rw [e];simp [h]),?_⟩
    have yx:y≠x:=fun q=>OH (q▸h);rw [ix,e,qw,aa fun h'=>dj y h' y (cV _ h) rfl,List.idxOf_cons,show (x == y)=false from by simpa using yx.symm]
    simp only [cond_false];omega
   ·rintro ⟨h,h'⟩
    have hm:=(iz ho).mpr h;rw [e,cL,b6] at hm;rcases hm with hm | rfl | hm
    ·rw [ix,e,qw,ae hm] at h'
     have:=wj hm;omega
    ·omega
    ·exact hm
  refine ⟨?_,?_,FK ho f hg l (pre++[x]) (by rw [e];simp)⟩
  ·rw [OG]
   obtain ⟨gk,gw⟩:=hg x hx;refine ((qv (gk.up.imp fun h=>bC h) (nl.filter _)).mpr fun q=>?_).length_eq;rw [gw q,cQ,il q];constructor
   ·rintro ⟨h1,h2,h3⟩
    exact ⟨⟨h1,h2⟩,(rg f hx h1 h2).mpr h3⟩
   ·rintro ⟨⟨h1,h2⟩,h3⟩
    exact ⟨h1,h2,(rg f hx h1 h2).mp h3⟩
  ·intro y hy z hz yz ry rz
   obtain ⟨y1,y2⟩:=(il y).mp hy;obtain ⟨z1,z2⟩:=(il z).mp hz;have wy:=(rg f hx y1 y2).mp ry;have wz:=(rg f hx z1 z2).mp rz;have ne:=vg ho y1 z1 yz;have both:∀k,o.idxOf x<k→Wk (aL n L) (eC n o k) y z:=fun k hk=>by
    have m:∀t,eC n o (o.idxOf x) t→eC n o k t:=fun t ht=>⟨ht.1,by have:=ht.2;omega⟩
    exact ((wy.symm q_).mono m).trans ⟨hx,hk⟩ (wz.mono m)
   by_cases h:o.idxOf y<o.idxOf z;·exact (rg f y1 z1 h).mpr (both _ y2)
   ·rw [x4]
    exact (rg f z1 y1 (by omega)).mpr ((both _ z2).symm q_)
theorem FL(ho:o.Perm (List.range n))(f:jG n L o M){g:Nat→List Nat}(hg:∀p,p<n→iZ n o p (g p)∧jF n L o p (g p)) :
  ((List.range n).map fun x=>(g x).length*(g x).length+3*(g x).length+1).sum=rf n M:=by
 have nd:M.Nodup:=f.1.imp fun h e=>by subst e;unfold lexLt at h;omega
 have gs:=FJ (vd ho) (FK ho f hg o [] rfl);rw [←(ho.map fun x=>(g x).length*(g x).length+3*(g x).length+1).sum_nat,gs];unfold rf FH;rw [OC nd f.lt,FC (fun x y=>by unfold oC;rw [x4]) ho,Ox (OD M) (OE M) ho,ho.length_eq,dz]
def OI(N:Addr):Sp:=fun vs H Q E=>∃(t a:Addr) (n:Nat) (L:aA) (zs:List Int),vs=[.ref t,.ref a]∧d9 H t n L∧gf n L∧xX L∧n≤30∧H a=some (.lst (zs.map V.int))∧zs.length<64 ∧
 (¬kr zs n→∀H',aj H H'→E (.ref N) none H') ∧
 ∀o:List Nat,zs=o.map iN→o.Perm (List.range n)→∀(H':Hp),aj H H'→∀d:Nat,(∀M,jG n L o M→d=rf n M)→Q (.int (d:Int)) H'
end My
namespace L2
open PySem
section
variable {prog:Program} {w:World} {A:Around} {E:aF} {s:Shared}
def jH(h:Heap)(d:Addr)(es:Array DictEntry)(ep:Nat):Prop:=∃o,h.get? d=some o∧o.ExactDict∧o.data=.dict es ep
variable {d:Addr} {es:Array DictEntry} {ep:Nat}
theorem jH.ty(h:jH s.heap d es ep):s.TypeIs (.ref d) "dict":=let ⟨o,ho,hc,_⟩:=h;⟨o,ho,hc.1⟩
theorem jH.to{h h':Heap}(x:jH h d es ep)(e:∀o,h.get? d=some o→h'.get? d=some o):jH h' d es ep:=let ⟨o,ho,r⟩:=x;⟨o,e _ ho,r⟩
end
end L2
namespace My
open PySem L2
end My
namespace L2
open PySem PySem.Spec PyProof.Rows My
theorem FN{wi:TI}{ρ:St→St}{tt:TT}{te:TE}{σ:St}{H:Hp}{Q:VK}{xs:List V}(c:V→Bool)(eK:∀R:It→Hp→Prop,(∀J H1,aj H H1→jw J xs H1→R J H1)→wi σ H R)(hn:xs.length<sizeLine)
  (test:∀x∈xs,∀(Hc:Hp) (R:Bool→Hp→Prop),aj H Hc→R (c x) Hc→tt (some x::ρ σ) Hc R)
  (elem:∀(x:V) (Hc:Hp) (R:VK),R x Hc→te (some x::ρ σ) Hc R)
  (fin:∀D Hc,H D=none→aj H Hc→Hc D=some (.lst (xs.filter c))→Q (.ref D) Hc):ie wi ρ tt te σ H Q:=by
 refine eK _ fun J H1 s1 js=>?_;intro D nD;refine ⟨fun i m ys Hc=>m=xs.length-i∧i≤xs.length∧Hc D=some (.lst ys)∧aj H1 Hc∧ys.length≤i∧ys=(xs.take i).filter c,⟨_,rfl,bH _,aw,eZ (aj.refl H1) nD,ay _,rfl⟩,?_⟩;rintro i m ys Hc ⟨rfl,hi,eD,sH,ly,hP⟩;refine ⟨eD,?_⟩;by_cases a7:i<xs.length
 ·refine .inr ⟨js.go i Hc sH a7,fun x H' hy=>?_⟩
  obtain ⟨rfl,hx⟩:=js.du i Hc x H' sH hy;have ex:=hx a7;have mx:x∈xs:=iG ex;have tk:xs.take (i+1)=xs.take i++[x]:=by rw [kG,ex];rfl
  refine test x mx _ _ (s1.trans sH) ?_;by_cases hb:c x=true
  ·rw [ae hb]
   refine elem x _ _ ⟨eD,by omega,xs.length-(i+1),by omega,rfl,a7,aw,eZ sH nD,by simp;omega,?_⟩
   rw [tk,wc,←hP,nz,ae hb];rfl
  ·rw [aa hb]
   refine ⟨xs.length-(i+1),by omega,rfl,a7,eD,sH,by omega,?_⟩
   rw [tk,wc,←hP,nz,aa hb,List.filter_nil,p_]
 ·have e:i=xs.length:=by omega
  subst e;rw [gX] at hP;subst hP;exact .inl ⟨js.stop _ Hc sH (ay _),fin D Hc (none_of s1 nD) (s1.trans sH) eD⟩
end L2
namespace My
open PySem L2
section
variable {P a d:Addr} {H Hc:Hp} {n m:Nat} {L:aA}
end
section
variable {n:Nat} {E:Nat→Nat→Prop} {pos rk:Nat→Nat}
end
open PySem PySem.W PyProof.Rows Tm
section
variable {prog:Program} {w:World} {A:Around} {E:aF} {s:Shared}
def Bm(k:Keyed):Int:=match k.1 with | .int n _=>n | _=>0
structure mU (n:Nat) (kz:Nat→Int) (p:List Nat):Prop where
 pm:p.Perm (List.range n)
 dn:p.Pairwise fun i j=>kz j≤kz i
variable {vs:List Value}
theorem OJ{ns:List Int}(h:IntsAre vs ns):∀(i:Nat) (z:Int),ns[i]?=some z→∃t,vs[i]?=some (.int z t):=by
 induction h with
 | nil=>intro i z hz;cases hz
 | cons _ _ _ ih=>
  intro i z hz;cases i with
  | zero=>cases hz;exact ⟨_,rfl⟩
  | succ i=>exact ih i z hz
variable {kz:Nat→Int}
theorem OK{keys:Array Value}(hk:IntsAre keys.toList ((List.range vs.length).map kz)){Q:SortSt→Shared→Prop}
  (hQ:∀(p:List Nat) (st:SortSt),mU vs.length kz p→((arrOf st).map (·.2)).reverse.toList=p.map (fun i=>vs.getD i Value.none)→failedOf st=none→Q st s) :
  wpAny (model prog w) A (sortRuns'.run (SortSt.mk' oneType' (keys.zip vs.toArray).reverse #[] 7 none)) (fun r s'=>Q r.2 s') E s:=by
 have hl:=hk.length;rw [eE,aE,dz] at hl;have ki:∀i,i<vs.length→∃t,keys.toList.getD i Value.none=.int (kz i) t:=fun i hi=>by
  obtain ⟨t,e⟩:=OJ hk i (kz i) (by rw [bU,qf hi];rfl)
  exact ⟨t,by rw [dU,e];rfl⟩
 have el:(keys.zip vs.toArray).toList=(List.range vs.length).map fun i=>(keys.toList.getD i Value.none,vs.getD i Value.none):=by
  refine jc (by simp [hl]) fun i h1 h2=>?_
  have hi:i<vs.length:=by simpa using h2
  have aR:i<keys.size:=by omega
  simp [hi,aR]
 have er:(keys.zip vs.toArray).reverse.toList=((List.range vs.length).reverse).map fun i=>(keys.toList.getD i Value.none,vs.getD i Value.none):=by rw [qh,el,List.map_reverse]
 have az:(keys.zip vs.toArray).reverse.size=vs.length:=by simp [hl]
 have lt:iq prog w A s oneType' Bm (fun k=>∃n t,k.1=.int n t):=by rintro ⟨u,u'⟩ ⟨v,v'⟩ ⟨a,t,rfl⟩ ⟨b,t',rfl⟩ C hC;exact kat_lt_int hC
 have ok:d8 (fun k=>∃n t,k.1=.int n t) (keys.zip vs.toArray).reverse:=fun i hi=>by
  have e1:(keys.zip vs.toArray).reverse.getD i nn=(keys.zip vs.toArray).reverse.toList[i]'(by rw [eE];exact hi):=by rw [Array.getD_eq_getD_getElem?,zL hi];simp
  have e2:=dH (fun l=>l[i]?) er;have hm:(keys.zip vs.toArray).reverse.toList[i]'(by rw [eE];exact hi)∈(keys.zip vs.toArray).reverse.toList:=c_ _
  rw [e1];generalize (keys.zip vs.toArray).reverse.toList[i]'(by rw [eE];exact hi)=x at hm
  rw [er] at hm;obtain ⟨j,hj,rfl⟩:=cg.mp hm;obtain ⟨t,e⟩:=ki j (by simpa using hj)
  exact ⟨_,_,e⟩
 refine bG (EO (E:=E) (Q:=fun _ st=>Q st s) (g:=7) lt ok fun aQ st pm sg ha hf=>?_) (fun r s' h'=>by obtain ⟨rfl,h'⟩:=h';exact h') fun _ _ e=>e
 obtain ⟨p,hp,ep⟩:=perm_back (qi.mp pm) _ er;have pl:p.length=vs.length:=by rw [hp.length_eq,List.length_reverse,dz]
 have A0:∀i∈p,i<vs.length:=fun i hi=>by simpa using hp.mem_iff.mp hi
 have hsz:aQ.size=vs.length:=by rw [pm.size_eq,az]
 have kv:∀i (hi:i<p.length),vA Bm aQ i=kz p[i]:=fun i hi=>by
  have e1:aQ.getD i nn=(keys.toList.getD p[i] Value.none,vs.getD p[i] Value.none):=by
   have e2:aQ.toList[i]?=some (keys.toList.getD p[i] Value.none,vs.getD p[i] Value.none):=by rw [ep,bU,bV hi];rfl
   rw [Array.getD_eq_getD_getElem?,←zD,e2];rfl
  unfold vA;rw [e1];obtain ⟨t,e⟩:=ki p[i] (A0 _ (c_ _));unfold Bm;rw [e]
 refine hQ p.reverse st ⟨(mf p).trans (hp.trans (mf _)),?_⟩ ?_ hf
 ·rw [zI]
  refine nh.mpr fun i j hi hj ij=>?_;have:=sg i j (bH _) (by omega) (by rw [az];omega)
  rw [kv i hi,kv j hj] at this;exact this
 ·rw [ha,qh,Array.toList_map,ep,cE,List.map_reverse]
  rfl
variable {n:Nat}
theorem OL(h:n<2):mU n kz (List.range n):=by
 refine ⟨List.Perm.refl _,?_⟩
 match n,h with
 | 0,_=>exact .nil
 | 1,_=>exact zM _ _
theorem OM{kA:Array Value}(h:vs.length<2)(hs:kA.size=vs.length):(((kA.zip vs.toArray).reverse).map (·.2)).reverse.toList=(List.range vs.length).map (fun i=>vs.getD i Value.none):=by
 match vs,h,hs with
 | [],_,_=>simp
 | [v],_,hs=>obtain ⟨k,rfl⟩:=Array.size_eq_one_iff.mp hs;simp
theorem ON{a:Addr}{P:PySem.Fin→Shared→Prop}(ho:s.heap.get? a=some (seqObj "list" vs.toArray n))(h1:vs.length<10000)
  (turn:∀i v,vs[i]?=some v→∀(h:Heap) (tk:Nat) (Q:aF),(∀b o,b≠a→s.heap.get? b=some o→h.get? b=some o)→(∀t cK,Q (.int (kz i) t) {s with heap:=h,toks:=cK})→wpAny (model prog w) A (call (.builtin "len") [v]) Q (fun _ _=>False) {s with heap:=h,toks:=tk})
  (h:∀h' tk out c p,mU vs.length kz p→(∀b o,b≠a→s.heap.get? b=some o→h'.get? b=some o)→h'.get? a=some (seqObj "list" out c)→out.toList=p.map (fun i=>vs.getD i Value.none)→P (.done (.ret .none)) {s with heap:=h',toks:=tk}) :
  wpAny (model prog w) A (ksk_tree a (.builtin "len") true) P E s:=by
 have sl:vs.length≤sizeLine:=by rw [gQ];omega
 have lt:=aW ho;obtain ⟨e1,g1⟩:∃e,(s.heap.update a (Obj.mapSeq fun _=>#[])).get? a=some (seqObj "list" #[] e):=⟨_,mh ho fun _=>#[]⟩;have z1:(s.heap.update a (Obj.mapSeq fun _=>#[])).objs.size=s.heap.objs.size:=tU _ _ _;have z2:((s.heap.update a (Obj.mapSeq fun _=>#[])).push (seqObj "tuple" vs.toArray 0)).objs.size=s.heap.objs.size+1:=by rw [ni,z1]
 unfold ksk_tree;refine ao (listItems_at ho rfl (ao (qo ho rfl ?_ (by rw [bM];omega) (bH _))))
 refine ao (seqEpoch_at g1 rfl (ao (wpAny_newTuple ?_ (by show vs.length≤_;omega))))
 refine ao (qq (gP ?_) (bH _));show wpAny (model prog w) A (ksk_rest a (.builtin "len") true vs.toArray e1 (.ref ((s.heap.update a (Obj.mapSeq fun _=>#[])).push (seqObj "tuple" vs.toArray 0)).objs.size)) P E {s with heap:=((s.heap.update a (Obj.mapSeq fun _=>#[])).push (seqObj "tuple" vs.toArray 0)).push (seqObj "list" #[] 0)};have gk:(((s.heap.update a (Obj.mapSeq fun _=>#[])).push (seqObj "tuple" vs.toArray 0)).push (seqObj "list" #[] 0)).get? (s.heap.objs.size+1)=some (seqObj "list" #[] 0):=by rw [←z2];exact cM _ rfl
 have up:∀b u,(s.heap.update a (Obj.mapSeq fun _=>#[])).get? b=some u→(((s.heap.update a (Obj.mapSeq fun _=>#[])).push (seqObj "tuple" vs.toArray 0)).push (seqObj "list" #[] 0)).get? b=some u:=fun b u hu=>bQ _ (bQ _ hu);have ga:=up a _ g1;have FO:∀b o,b≠a→s.heap.get? b=some o→(((s.heap.update a (Obj.mapSeq fun _=>#[])).push (seqObj "tuple" vs.toArray 0)).push (seqObj "list" #[] 0)).get? b=some o:=fun b o nb g=>up b o (by rw [qk _ _ _ _ nb];exact g)
 rw [z2];generalize ((s.heap.update a (Obj.mapSeq fun _=>#[])).push (seqObj "tuple" vs.toArray 0)).push (seqObj "list" #[] 0)=hp at gk ga FO;have ka:s.heap.objs.size+1≠a:=Nat.ne_of_gt (jQ lt);have old:∀b o,s.heap.get? b=some o→b≠s.heap.objs.size+1:=fun b o g=>bC (jQ (aW g));generalize s.heap.objs.size+1=kS at gk ka old;unfold ksk_rest;refine ao (je ?_)
 first
  | rw [List.forIn_toArray]
  | (rw [←Array.forIn_toList];simp only [List.toList_toArray])
  | rw [←Array.forIn_toList]
 refine ao (ksk_fold (fun i s'=>∃h' tk kA e,s'={s with heap:=h',toks:=tk}∧h'.get? kS=some (seqObj "list" kA e)∧h'.get? a=some (seqObj "list" #[] e1)∧(∀b o,b≠a→s.heap.get? b=some o→h'.get? b=some o)∧IntsAre kA.toList (((List.range vs.length).map kz).take i)) vs 0 _
  ⟨hp,s.toks,#[],0,rfl,gk,ga,FO,by simpa using IntsAre.nil⟩ ?step ?done)
 case step=>
  rintro j x s' hx ⟨h',tk,kA,e,rfl,vn,uX,x5,hk⟩;simp only [dC] at hk ⊢;have hj:j<vs.length:=(bL.mp hx).1;have hz:kA.size≤vs.length:=by have h1:=hk.length;rw [eE,m7,aE,dz] at h1;omega
  refine ao (wpAny_attempt (bG (turn j x hx h' tk (fun v fC=>∃t cK,v=.int (kz j) t∧fC={s with heap:=h',toks:=cK}) x5 fun t cK=>⟨t,cK,rfl,rfl⟩) (fun v fC he=>?_) fun _ _ hF=>hF.elim));obtain ⟨t,cK,rfl,rfl⟩:=he
  try dsimp only
  have sb:=kJ h' kS (Obj.mapSeq (·.push (.int (kz j) t)));obtain ⟨c2,fE⟩:∃c2,(h'.update kS (Obj.mapSeq (·.push (.int (kz j) t)))).get? kS=some (seqObj "list" (kA.push (.int (kz j) t)) c2):=⟨_,mh vn (·.push (.int (kz j) t))⟩;have ek:((List.range vs.length).map kz).take (j+1)=((List.range vs.length).map kz).take j++[kz j]:=by rw [List.take_add_one,bU,qf hj];rfl
  have ea:(kA.push (Value.int (kz j) t)).toList=kA.toList++[Value.int (kz j) t]:=by simp
  refine ao (qo vn rfl ?_ (by rw [gQ];omega) (bf (Nat.le_of_eq (Array.size_push ..)) (by rw [gQ];omega)))
  exact aI ⟨rfl,_,_,kA.push (.int (kz j) t),c2,rfl,fE,(sb.2 a ka.symm).trans uX,fun b o nb g=>(sb.2 b (old b o g)).trans (x5 b o nb g),by rw [ea,ek];exact ksk_snoc hk⟩
 case done=>
  rintro s' ⟨h',tk,kA,e,rfl,vn,uX,x5,hk⟩;have cn:IntsAre kA.toList ((List.range vs.length).map kz):=by
   rw [wb (by rw [aE,dz];omega)] at hk
   exact hk
  have hsz:kA.size=vs.length:=by have h1:=cn.length;rw [eE,aE,dz] at h1;exact h1
  try dsimp only
  refine ao (listItems_at vn rfl ?_);have fin:∀(st:SortSt) (p:List Nat),mU vs.length kz p→((arrOf st).map (·.2)).reverse.toList=p.map (fun i=>vs.getD i Value.none)→failedOf st=none→wpAny (model prog w) A (ksk_tail a true e1 (.ref kS) st) P E {s with heap:=h',toks:=tk}:=fun st p fp FP hf=>by
   have sb:=kJ h' kS (Obj.mapSeq fun _=>(#[]:Array Value));have u0:(h'.update kS (Obj.mapSeq fun _=>(#[]:Array Value))).get? a=some (seqObj "list" #[] e1):=(sb.2 a ka.symm).trans uX;have OO:=kJ (h'.update kS (Obj.mapSeq fun _=>(#[]:Array Value))) a (Obj.mapSeq fun _=>((arrOf st).map (·.2)).reverse);obtain ⟨c2,fE⟩:∃c2,((h'.update kS (Obj.mapSeq fun _=>(#[]:Array Value))).update a (Obj.mapSeq fun _=>((arrOf st).map (·.2)).reverse)).get? a=some (seqObj "list" ((arrOf st).map (·.2)).reverse c2):=⟨_,mh u0 fun _=>((arrOf st).map (·.2)).reverse⟩;have lo:((arrOf st).map (·.2)).reverse.size=vs.length:=by rw [←eE,FP,aE,fp.pm.length_eq,dz]
   unfold ksk_tail
   try dsimp only
   refine ao (qo vn rfl ?_ (by rw [hsz];omega) (bH _))
   refine ao (wpAny_letGo (ao (seqEpoch_at u0 rfl ?_)));refine ao (qo u0 rfl ?_ (bH _) (by simp only [jO];rw [lo];omega))
   rw [hf];simp only [bne_self_eq_false,nj,jb,jO];exact aI (h _ _ _ c2 p fp (fun b o nb g=>(OO.2 b nb).trans ((sb.2 b (old b o g)).trans (x5 b o nb g))) fE FP)
  unfold ksk_end
  try dsimp only
  simp only [jO];refine ao (je ?_);by_cases h2:vs.toArray.size<2
  ·rw [ae h2,ae h2]
   refine ao (aI ?_);rw [StateT.run_pure];refine ao (aI ?_);have len:vs.length<2:=by simpa using h2
   exact fin _ (List.range vs.length) (OL len) (OM len hsz) rfl
  ·rw [aa h2,aa h2]
   have len:2≤vs.length:=by simpa using h2
   rw [ksk_kind cn (by rw [hsz];exact len)]
   refine ao (aI ?_);refine ao (bG (OK (s:={s with heap:=h',toks:=tk}) (vs:=vs) (keys:=kA) (kz:=kz) cn (Q:=fun st s'=>s'={s with heap:=h',toks:=tk}∧∃p,mU vs.length kz p∧((arrOf st).map (·.2)).reverse.toList=p.map (fun i=>vs.getD i Value.none)∧failedOf st=none) fun p st a1 a2 a3=>⟨rfl,p,a1,a2,a3⟩) ?_ fun _ _ e=>e);rintro ⟨⟨⟩,st⟩ s' ⟨rfl,p,a1,a2,a3⟩;exact fin st p a1 a2 a3
end
open PySem PySem.W PyProof.Rows
section
variable {prog:Program} {w:World} {A:Around} {E:aF} {s:Shared}
theorem IsTup.to{h h':Heap}{a:Addr}{ai:Array Value}(t:IsTup h a ai)(k:∀o,h.get? a=some o→h'.get? a=some o):IsTup h' a ai:=let ⟨o,g,r⟩:=t;⟨o,k _ g,r⟩
theorem OP{l:Addr}{vs:List Value}{kz:Nat→Int}{Q:aF}(hl:s.heap.IsList l vs.toArray)(h1:vs.length<10000)(hv:∀i v,vs[i]?=some v→∃b ai,v=.ref b∧IsTup s.heap b ai∧kz i=ai.size∧ai.size<10000)
  (h:∀h' tk out c p,mU vs.length kz p→(∀b o,s.heap.get? b=some o→h'.get? b=some o)→h'.get? (s.heap.objs.size+1)=some (seqObj "list" out c)→out.toList=p.map (fun i=>vs.getD i Value.none)→Q (.ref (s.heap.objs.size+1)) {s with heap:=h',toks:=tk}) :
  wpAny (model prog w) A (call (.builtin "sorted") [.ref l] [(Str.ofString "key",.builtin "len"),(Str.ofString "reverse",.bool true)]) Q E s:=by
 have sl:vs.length≤sizeLine:=by rw [gQ];omega
 refine call_function_entry_kw kind_sorted plain_sorted entry_sorted (ksk_s2 _ _ _) ?_;unfold Builtin.«sorted»;refine ao (m:=checkCount "sorted" 1 1 _) (aI (ao (collect_list hl (ao (qq ?_ sl)) sl)));have zz:((s.heap.push (seqObj "list" #[] 0)).update s.heap.objs.size (Obj.mapSeq (·++vs.toArray))).objs.size=s.heap.objs.size+1:=by rw [tU,ni]
 have kp:∀b o,s.heap.get? b=some o→(((s.heap.push (seqObj "list" #[] 0)).update s.heap.objs.size (Obj.mapSeq (·++vs.toArray))).push (seqObj "list" vs.toArray 0)).get? b=some o:=fun b o g=>by
  have lt:=aW g;rw [mj _ _ _ (bC (by rw [zz];exact jQ lt)),qk _ _ _ _ (bC lt),mj _ _ _ (bC lt)]
  exact g
 have gL:(((s.heap.push (seqObj "list" #[] 0)).update s.heap.objs.size (Obj.mapSeq (·++vs.toArray))).push (seqObj "list" vs.toArray 0)).get? (s.heap.objs.size+1)=some (seqObj "list" vs.toArray 0):=by rw [←zz];exact cM _ rfl
 show wpAny _ _ _ _ _ {s with heap:=((s.heap.push (seqObj "list" #[] 0)).update s.heap.objs.size (Obj.mapSeq (·++vs.toArray))).push (seqObj "list" vs.toArray 0)};rw [zz];generalize ((s.heap.push (seqObj "list" #[] 0)).update s.heap.objs.size (Obj.mapSeq (·++vs.toArray))).push (seqObj "list" vs.toArray 0)=hp at kp gL;have ne:∀b o,s.heap.get? b=some o→b≠s.heap.objs.size+1:=fun b o g=>bC (jQ (aW g));refine ao (gP (wpAny_call_entry_kw slot_list_sort ⟨_,gL,rfl⟩ entry_list_sort ?_ (ksk_l2 _ _ _)));rw [ksk_t5];refine ON (s:={s with heap:=hp}) (kz:=kz) gL h1 (fun i v hi h' tk Q' kk hQ=>?_) fun h' tk out c p fp kk g e=>⟨_,rfl,aI ⟨_,rfl,h h' tk out c p fp (fun b o gb=>kk b o (ne b o gb) (kp b o gb)) g e⟩⟩;obtain ⟨b,ai,rfl,t,ek,i1⟩:=hv i v hi;rw [ek] at hQ;refine len_tuple (s:={s with heap:=h',toks:=tk}) (items:=ai) (IsTup.to t fun o g=>kk b o (ne b o g) (kp b o g)) (by omega) ?_
 exact hQ _ _
end
end My
namespace L2
open PySem PySem.W PyProof.Rows My
def OQ(t:TA):TE:=fun σ H Q=>t σ H fun xs H1=>∃(l:Addr) (vs:List V) (ks:Nat→Nat),xs=[.ref l]∧H1 l=some (.lst vs)∧vs.length<10000∧(∀(i:Nat) (v:V),vs[i]?=some v→∃b ys,v=.ref b∧H1 b=some (.tup ys)∧ks i=ys.length∧ys.length<10000) ∧
 ∀(D:Addr) (p:List Nat),H1 D=none→mU vs.length (fun i=>(ks i:Int)) p→Q (.ref D) (upd H1 D (.lst (p.map fun i=>vs.getD i .aP)))
variable {X:Cx}
theorem OR{e:Expr}{es:List Expr}{t:TA}{p p2 pos Bn OS cp:Pos}{j:Nat}(ha:PA X (e::es) t)(hg:Gl X (Str.ofString "sorted"))(hm:X.mg (Str.ofString "sorted")=none)(hv:bootBuiltins (Str.ofString "sorted")=some (.builtin "sorted"))
  (Bo:Gl X (Str.ofString "len")) (Bp:X.mg (Str.ofString "len")=none) (OT:bootBuiltins (Str.ofString "len")=some (.builtin "len"))
  (he:backTo pos (starEach (e::es) X.env)=(false,eval e X.env)::backTo pos (starEach es X.env):=by rfl) (iO:(backTo pos (starEach (e::es) X.env)).any (·.1)=false:=by rfl) :
  PE X (.Call (.Name (Str.ofString "sorted") p) (e::es) [⟨some (Str.ofString "key"),.Name (Str.ofString "len") p2,Bn⟩,⟨some (Str.ofString "reverse"),.Constant (.bool true) j cp,OS⟩] pos) (OQ t):=by
 intro pins s σ H Q I h
 refine tL (ji I hg hm hv ?_)
 refine callWith_kw (aJ (ha pos pins s σ H _ I h) fun us s1 ⟨xs,H1,I1,r1,q1⟩=>?_) he iO
 obtain ⟨l,vs,ks,rfl,hl,h1,fH,k⟩:=q1
 obtain ⟨u,rfl,ru⟩:=vals1 r1
 cases ru
 show wpAny _ _ (evalAll [(do let v ←eval (.Name (Str.ofString "len") p2) X.env;standAt pos;pure v),(do let v ←eval (.Constant (.bool true) j cp) X.env;standAt pos;pure v)]) _ _ s1
 refine wpAny_evalAll_cons (ao (ji I1 Bo Bp OT (ao (p9 (aI ?_)))))
 refine wpAny_evalAll_cons (ao (Constant_bool (ao (p9 (aI ?_)))))
 refine wpAny_evalAll_nil ?_
 show wpAny _ _ (call (.builtin "sorted") [.ref l] [(Str.ofString "key",.builtin "len"),(Str.ofString "reverse",.bool true)]) _ _ s1
 obtain ⟨ai,rv,pl,hz⟩:=I1.list (.of hl)
 have mV:=rv.length
 refine OP (kz:=fun i=>(ks i:Int)) pl.isList (by omega) (fun i v hi=>?_) fun h' tk out c p fp kp g e=>?_
 ·have aR:i<vs.length:=by
   have:=(bL.mp hi).1
   omega
  have gi:vs[i]?=some vs[i]:=by simp [aR]
  obtain ⟨b,ys,eb,hb,ek,y1⟩:=fH i _ gi
  obtain ⟨u,eu,ru⟩:=rv.get gi
  rw [hi] at eu
  cases eu
  rw [eb] at ru
  cases ru
  obtain ⟨gx,r2,tp,_⟩:=I1.tuple (.of hb)
  have l2:=r2.length
  exact ⟨b,gx.toArray,rfl,tp,by rw [bM,←l2,ek],by rw [bM];omega⟩
 ·rw [←mV] at fp
  refine ⟨.ref (s1.heap.objs.size+1),_,I1.laid (t':=tk) (o:=.lst (p.map fun i=>vs.getD i .aP)) kp (l9 _) ⟨?_,p.map fun i=>ai.getD i Value.none,c,?_,?_⟩,rfl,k _ p (I1.ax.fresh (l9 _)) fp⟩
  ·rw [aE,fp.pm.length_eq,dz]
   exact bf (tI h1) (by decide)
  ·exact A1 rv p fun i hi=>cx.mp (fp.pm.mem_iff.mp hi)
  ·rw [g,←e,Array.toArray_toList]
def Bq:List V→Hp→VK→Prop:=fun xs H Q=>∃(a:Addr) (zs:List Int),xs=[.ref a]∧H a=some (.tup (zs.map V.int))∧zs.length<64∧∀(ws:List Int) (D:Addr),ws.Perm zs→ws.Pairwise (·≤·)→H D=none→Q (.ref D) (upd H D (.lst (ws.map V.int)))
theorem FQ:en X (.builtin "sorted") Bq:=by
 intro pins s σ H xs us Q I r h;obtain ⟨a,zs,rfl,ha,u4,k⟩:=h;obtain ⟨u,rfl,ru⟩:=vals1 r;cases ru;obtain ⟨ai,rv,⟨o,g,c,n,d⟩,hz⟩:=I.tuple (.of ha);have hl:=rv.length;rw [aE] at hl;have sl:ai.length≤sizeLine:=by rw [gQ];omega
 refine Calls.call_function_entry kind_sorted plain_sorted entry_sorted (args_sorted1 _) ?_;unfold Builtin.«sorted»;refine ao (m:=checkCount "sorted" 1 1 _) (aI (ao (wpAny_collect_seq a (.inr rfl) g c d (fun h1 k1=>ao (qq ?_ sl)) (by rw [bM];exact sl))))
 have I1:Inv X pins σ H {s with heap:=h1}:=I.kept (t':=s.toks) k1;have gL:(h1.push (seqObj "list" ai.toArray 0)).get? h1.objs.size=some (seqObj "list" ai.toArray 0):=cM _ rfl;show wpAny _ _ _ _ _ {s with heap:=h1.push (seqObj "list" ai.toArray 0)};refine ao (gP (mq slot_list_sort ⟨_,gL,rfl⟩ entry_list_sort (list_sort_tree (s:={s with heap:=h1.push (seqObj "list" ai.toArray 0)}) gL (intsAre_of rv) (by omega) fun out iP a1 a2 a3=>⟨_,rfl,?_⟩) (args_list_sort _)))
 obtain ⟨e,he⟩:=sortedHeap_at (out:=out) gL;refine aI ⟨_,rfl,.ref h1.objs.size,_,I1.laid (t':=s.toks) (o:=.lst (iP.map .int)) (fun b u gb=>?_) (ay _) ⟨?_,out.toList,e,Be a1,?_⟩,rfl,k iP _ a2 a3 (I1.ax.fresh (ay _))⟩
 ·have lt:=aW gb
  rw [sortedHeap_old (bC lt) (by rw [ni];exact jQ lt)]
  exact bQ _ gb
 ·rw [aE,a2.length_eq]
  rw [gQ];omega
 ·simpa using he
end L2
namespace My
open PySem PySem.W PyProof.Rows
section
variable {prog:Program} {w:World} {A:Around} {E:aF} {s:Shared} {R:Result→Shared→Prop}
def i5(s:Shared)(h:Heap):Prop:=∀b o,s.heap.get? b=some o→h.get? b=some o
def x6(prog:Program)(w:World)(A:Around)(s:Shared)(vs:List Value)(kf:Nat→Int):Prop:=∀i j v u,vs[i]?=some v→vs[j]?=some u→∀(h:Heap) (tk:Nat) (Q:aF),i5 s h→(∀cK,Q (.bool (decide (kf i<kf j))) {s with heap:=h,toks:=cK})→wpAny (model prog w) A (richCompare .Lt v u) Q (fun _ _=>False) {s with heap:=h,toks:=tk}
variable {l:Addr} {vs:List Value} {kf:Nat→Int} {kw:List (Str×Value)}
theorem OU{I S:Addr}(hh:A.handled=none)(hl:s.heap.IsList l vs.toArray)(hI:s.heap.objs.size≤I)(hS:s.heap.objs.size≤S)(oD:S≠I)(cmp:x6 prog w A.in1 s vs kf)
  (hR:∀i v h' cK,vs[i]?=some v→(∀j,j<vs.length→kf i≤kf j∧(j<i→kf i<kf j))→i5 s h'→R (.ok (.ret v)) {s with heap:=h',toks:=cK}) :
  ∀(r j i:Nat) (h:Heap) (tk:Nat) (vb:Value) (c:Nat),vs.length-(j+1)=r→j+1≤vs.length→i5 s h→h.get? S=some (seqObj "list" #[vb,vb] c)→h.IsListIter I l (j+1)→vs[i]?=some vb→i≤j→(∀j',j'≤j→kf i≤kf j'∧(j'<i→kf i<kf j'))→
   codeAny (model prog w) A (.builtin "min.loop" ⟨[.ref I,.none,.ref S],kw⟩) R {s with heap:=h,toks:=tk}:=by
 have vp:(toString "min"++toString ".loop":String)="min.loop":=by decide
 have lI:l≠I:=fun e=>by obtain ⟨o,g,_⟩:=hl;exact dB _ (cY (aW g) (e▸hI))
 have W:=Walks.list (prog:=prog) (w:=w) (A:=A.in1) hh I l lI vs.toArray;have hsz:vs.toArray.size=vs.length:=bM ..;have lk:∀{h:Heap},i5 s h→h.IsList l vs.toArray:=fun{h} kp=>by obtain ⟨o,g,r⟩:=hl;exact ⟨o,kp _ _ g,r⟩
 have kI:∀{h h':Heap},i5 s h→(∀b o,b∉[I]→h.get? b=some o→h'.get? b=some o)→i5 s h':=fun kp k b o g=>k b o (fun z=>by rw [bR.mp z] at g;exact dB _ (cY (aW g) hI)) (kp b o g)
 have kS:∀{h:Heap} {f:Obj→Obj},i5 s h→i5 s (h.update S f):=fun{h f} kp b o g=>((kJ h S f).2 b (fun z=>by rw [z] at g;exact dB _ (cY (aW g) hS))).trans (kp b o g)
 intro r
 induction r with
 | zero=>
  intro j i h tk vb c hr hj kp gS hit x8 xB oE;have OV:j+1=vs.length:=by omega
  refine qc wm ?_;rw [tW mw _];show wpAny _ A.in1 (seqItems? (.ref S) >>= _) _ _ _;refine ao (wpAny_seqItems gS rfl ?_);show wpAny _ A.in1 (tryCatch (pyNext (.ref I)) _ >>= _) _ _ _;refine ao (tX (W.done _ _ _ ⟨by rw [hsz,←OV];exact hit,lk kp⟩ fun h' cK cn=>?_))
  have mW:=cn S _ (by simpa using oD) gS
  show wpAny _ A.in1 (updateSeq S (fun _=>#[]) >>= _) _ _ _;refine ao (wpAny_updateSeq mW rfl (ao (wpAny_letGo (aI ?_))));exact hR i vb _ _ x8 (fun j' cU=>oE j' (by omega)) (kS (kI kp cn))
 | succ r ih=>
  intro j i h tk vb c hr hj kp gS hit x8 xB oE;have a7:j+1<vs.length:=by omega
  refine qc wm ?_;rw [tW mw _];show wpAny _ A.in1 (seqItems? (.ref S) >>= _) _ _ _;refine ao (wpAny_seqItems gS rfl ?_);show wpAny _ A.in1 (tryCatch (pyNext (.ref I)) _ >>= _) _ _ _;refine ao (tX (W.item (j+1) _ _ _ (by rw [hsz];exact a7) ⟨hit,lk kp⟩ fun v h' cK hP x9 cn=>?_))
  have hv:vs[j+1]?=some v:=by simpa using hP
  have vt:=kI kp cn;have mW:=cn S _ (by simpa using oD) gS
  show wpAny _ A.in1 (tryCatch (holding [v,v] (richCompare .Lt v vb >>= _)) _ >>= _) _ _ _;refine ao (tX (gP (ao (bG (cmp (j+1) i v vb hv x8 h' cK (fun a fC=>∃x_,a=.bool (decide (kf (j+1)<kf i))∧fC={s with heap:=h',toks:=x_}) vt fun x_=>⟨x_,rfl,rfl⟩) (fun a fC he=>?_) fun _ _ hF=>hF.elim))));obtain ⟨x_,rfl,rfl⟩:=he;refine ao (gP (kD ?_));refine ao (wpAny_letGo (aI ?_));by_cases fD:kf (j+1)<kf i
  ·obtain ⟨c2,fE⟩:∃c2,(h'.update S (Obj.mapSeq fun _=>#[v,v])).get? S=some (seqObj "list" #[v,v] c2):=⟨_,mh mW fun _=>#[v,v]⟩
   simp only [fD,decide_true,jO];refine ao (wpAny_updateSeq mW rfl (ao (wpAny_letGo ?_)));rw [vp];obtain ⟨oI,g1,g2⟩:=id x9.1;refine aI ⟨tY mw _,ih (j+1) (j+1) _ _ v c2 (by omega) a7 (kS vt) fE ⟨oI,((kJ h' S _).2 I oD.symm).trans g1,g2⟩ hv (ay _) fun j' cU=>?_⟩
   by_cases e:j'=j+1
   ·subst e
    exact ⟨by omega,fun _=>by omega⟩
   ·have OW:=oE j' (by omega)
    have VW:=OW.1;exact ⟨by omega,fun _=>by omega⟩
  ·simp only [fD,decide_false,nj,jb]
   refine ao (wpAny_letGo ?_);rw [vp];refine aI ⟨tY mw _,ih (j+1) i _ _ vb c (by omega) a7 vt mW x9.1 x8 (by omega) fun j' cU=>?_⟩
   by_cases e:j'=j+1
   ·subst e
    exact ⟨by omega,fun _=>by omega⟩
   ·exact oE j' (by omega)
theorem Br{dflt:Option Value}{Q:aF}(hh:A.handled=none)(ha:argsOk "min" ⟨[.ref l],kw⟩)(hb:Builtin.Builtins.bindParams "min" ["key","default"] 0 ⟨[],kw⟩=pure [none,dflt])
  (hl:s.heap.IsList l vs.toArray) (cmp:x6 prog w A.in1 s vs kf) (og:0<vs.length∨∃d,dflt=some d)
  (hQ:∀i v h' cK,vs[i]?=some v→(∀j,j<vs.length→kf i≤kf j∧(j<i→kf i<kf j))→i5 s h'→Q v {s with heap:=h',toks:=cK})
  (hD:vs.length=0→∀d,dflt=some d→∀h' cK,i5 s h'→Q d {s with heap:=h',toks:=cK}) :
  wpAny (model prog w) A (call (.builtin "min") [.ref l] kw) Q E s:=by
 have vp:(toString "min"++toString ".loop":String)="min.loop":=by decide
 obtain ⟨ol,OX,_⟩:=id hl;have mV:l<s.heap.objs.size:=aW OX;refine kmk_tree PySem.F.kind_min PySem.F.plain_min PySem.F.entry_min ha ?_;show wpAny _ A.in1 (Builtin.Builtins.bindParams "min" ["key","default"] 0 ⟨[],kw⟩ >>= _) _ _ s;refine ao (jf hb ?_);refine ao (aI ?_);refine ao (tJ hl ?_);refine ao (qq ?_ (bH _));rw [vp];have hS:(s.heap.push {cls:=.type "list_iterator",data:=.fields #[.ref l,.int 0 0]}).objs.size=s.heap.objs.size+1:=ni ..;have gI:((s.heap.push {cls:=.type "list_iterator",data:=.fields #[.ref l,.int 0 0]}).push (seqObj "list" #[] 0)).get? s.heap.objs.size=some {cls:=.type "list_iterator",data:=.fields #[.ref l,.int 0 0]}:=bQ _ (cM _ rfl);have gS:((s.heap.push {cls:=.type "list_iterator",data:=.fields #[.ref l,.int 0 0]}).push (seqObj "list" #[] 0)).get? (s.heap.objs.size+1)=some (seqObj "list" #[] 0):=by rw [←hS];exact cM _ rfl
 have kp:i5 s ((s.heap.push {cls:=.type "list_iterator",data:=.fields #[.ref l,.int 0 0]}).push (seqObj "list" #[] 0)):=fun b o e=>bQ _ (bQ _ e);refine aI ⟨tY mw _,?_⟩;rw [hS];show codeAny _ _ _ _ {s with heap:=(s.heap.push {cls:=.type "list_iterator",data:=.fields #[.ref l,.int 0 0]}).push (seqObj "list" #[] 0)};generalize (s.heap.push {cls:=.type "list_iterator",data:=.fields #[.ref l,.int 0 0]}).push (seqObj "list" #[] 0)=hp at gI gS kp;obtain ⟨S,eS⟩:∃S,S=s.heap.objs.size+1:=⟨_,rfl⟩;obtain ⟨I,eI⟩:∃I,I=s.heap.objs.size:=⟨_,rfl⟩;have oD:S≠I:=by rw [eS,eI];exact Nat.ne_of_gt (Nat.lt_succ_self _)
 have FR:s.heap.objs.size≤I:=Nat.le_of_eq eI.symm;have vv:s.heap.objs.size≤S:=by rw [eS];exact l9 _
 have OY:l≠I:=by rw [eI];exact bC mV
 rw [←eS] at gS ⊢;rw [←eI] at gI ⊢;have W:=Walks.list (prog:=prog) (w:=w) (A:=A.in1) hh I l OY vs.toArray;have hsz:vs.toArray.size=vs.length:=bM ..;have lk:hp.IsList l vs.toArray:=by obtain ⟨o,g,r⟩:=hl;exact ⟨o,kp _ _ g,r⟩
 have kI:∀{h':Heap},(∀b o,b∉[I]→hp.get? b=some o→h'.get? b=some o)→i5 s h':=fun k b o g=>k b o (fun z=>by rw [bR.mp z] at g;exact dB _ (cY (aW g) FR)) (kp b o g)
 by_cases hz:0<vs.length
 ·refine qc wm ?_
  rw [tW mw _];show wpAny _ A.in1 (seqItems? (.ref S) >>= _) _ _ _;refine ao (wpAny_seqItems gS rfl ?_);show wpAny _ A.in1 (tryCatch (pyNext (.ref I)) _ >>= _) _ _ _;refine ao (tX (W.item 0 _ _ _ (by rw [hsz];exact hz) ⟨⟨_,gI,rfl,rfl⟩,lk⟩ fun v h' cK hP x9 cn=>?_))
  have hv:vs[0]?=some v:=by simpa using hP
  obtain ⟨OZ,O0,oF⟩:=id x9.1;have mW:=cn S _ (by simpa using oD) gS
  have vt:=kI cn;obtain ⟨c2,fE⟩:∃c2,(h'.update S (Obj.mapSeq fun _=>#[v,v])).get? S=some (seqObj "list" #[v,v] c2):=⟨_,mh mW fun _=>#[v,v]⟩;show wpAny _ A.in1 (updateSeq S (fun _=>#[v,v]) >>= _) _ _ _;refine ao (wpAny_updateSeq mW rfl ?_);rw [vp];refine aI ⟨tY mw _,OU hh hl FR vv oD cmp hQ _ 0 0 _ _ v c2 rfl hz (fun b o g=>((kJ h' S _).2 b (fun z=>?_)).trans (vt b o g)) fE ⟨OZ,((kJ h' S _).2 I oD.symm).trans O0,oF⟩ hv (ay _) fun j' cU=>?_⟩
  ·rw [z] at g
   exact dB _ (cY (aW g) vv)
  ·have e:j'=0:=by omega
   subst e;exact ⟨fO _,fun h=>absurd h (dB _)⟩
 ·have z0:vs.length=0:=by omega
  obtain ⟨d,rfl⟩:∃d,dflt=some d:=og.elim (fun h=>absurd h hz) id;refine qc wm ?_;rw [tW mw _];show wpAny _ A.in1 (seqItems? (.ref S) >>= _) _ _ _;refine ao (wpAny_seqItems gS rfl ?_);show wpAny _ A.in1 (tryCatch (pyNext (.ref I)) _ >>= _) _ _ _;refine ao (tX (W.done _ _ _ ⟨⟨_,gI,rfl,by rw [hsz,z0];rfl⟩,lk⟩ fun h' cK cn=>?_))
  exact ao (je (aI (hD z0 d rfl h' cK (kI cn))))
end
open PySem PySem.W PyProof.Rows L2
theorem O1(a v:Value):argsOk "min" ⟨[a],[(Str.ofString "default",v)]⟩:=by unfold argsOk;kernel_rfl
theorem FT(a:Value):argsOk "min" ⟨[a],[]⟩:=by unfold argsOk;kernel_rfl
section
variable {prog:Program} {w:World} {A:Around} {s:Shared}
variable {vs:List Value}
theorem FU{kf:Nat→Int}(hv:∀(i:Nat) (v:Value),vs[i]?=some v→∃t,v=Value.int (kf i) t):x6 prog w A s vs kf:=fun i j v u hi hj h tk Q kp hQ=>by obtain ⟨t,rfl⟩:=hv i v hi;obtain ⟨t',rfl⟩:=hv j u hj;exact HT.DU A _ _ _ _ _ prog w _ Q (hQ tk)
theorem O2{x y:Nat→Int}(hu:A.units<cLine)(hv:∀i v,vs[i]?=some v→dR s.heap v (x i) (y i)∧0≤y i∧y i<1000):x6 prog w A s vs (fun i=>x i*1000+y i):=fun i j v u hi hj h tk Q kp hQ=>by
 obtain ⟨⟨a,o,t1,t2,e,rfl,g,c,d⟩,y0,y1⟩:=hv i v hi;obtain ⟨⟨b,o',t3,t4,e',rfl,g',c',d'⟩,y2,y3⟩:=hv j u hj;have:=hQ tk;rw [show decide (x i*1000+y i<x j*1000+y j)=HT.lexLt [x i,y i] [x j,y j] from by
  rw [HT.Aa,HT.Aa];by_cases q:x i=x j
  ·rw [ae q]
   by_cases q':y i=y j
   ·rw [ae q']
    exact bP (by omega)
   ·rw [aa q']
    exact qj.mpr (by omega)
  ·rw [aa q]
   exact qj.mpr (by omega)] at this
 exact HT.KD (s:={s with heap:=h,toks:=tk}) (items:=#[.int (x i) t1,.int (y i) t2]) (items2:=#[.int (x j) t3,.int (y j) t4]) ⟨o,kp _ _ g,c,e,d⟩ ⟨o',kp _ _ g',c',e',d'⟩ (.cons _ _ (.cons _ _ .nil)) (.cons _ _ (.cons _ _ .nil)) hu this
end
end My
namespace L2
open PySem PySem.W PyProof.Rows My
def Bs(zs:List Int)(d m:Int):Prop:=(zs=[]∧m=d)∨(m∈zs∧∀z∈zs,m≤z)
def FV(t:TA)(td:TE):TE:=fun σ H Q=>t σ H fun xs H1=>td σ H1 fun y H2=>∃(l:Addr) (zs:List Int) (d:Int),xs=[.ref l]∧y=.int d∧H2 l=some (.lst (zs.map V.int))∧zs.length≤10000∧∀m,Bs zs d m→Q (.int m) H2
variable {X:Cx}
theorem O3{e de:Expr}{es:List Expr}{t:TA}{td:TE}{p pos Bn:Pos}(hc:X.calm=true)(ha:PA X (e::es) t)(hd:PE X de td)(hg:Gl X (Str.ofString "min"))(hm:X.mg (Str.ofString "min")=none)(hv:bootBuiltins (Str.ofString "min")=some (.builtin "min"))
  (he:backTo pos (starEach (e::es) X.env)=(false,eval e X.env)::backTo pos (starEach es X.env):=by rfl) (iO:(backTo pos (starEach (e::es) X.env)).any (·.1)=false:=by rfl) :
  PE X (.Call (.Name (Str.ofString "min") p) (e::es) [⟨some (Str.ofString "default"),de,Bn⟩] pos) (FV t td):=by
 intro pins s σ H Q I h
 refine tL (ji I hg hm hv ?_)
 refine callWith_kw (aJ (ha pos pins s σ H _ I h) fun us s1 ⟨xs,H1,I1,r1,q1⟩=>?_) he iO
 show wpAny _ _ (evalAll [(do let v ←eval de X.env;standAt pos;pure v)]) _ _ s1
 refine wpAny_evalAll_cons (ao (aJ (hd pins s1 σ H1 _ I1 q1) fun u s2 ⟨y,H2,I2,r2,q2⟩=>ao (p9 (aI (wpAny_evalAll_nil ?_)))))
 obtain ⟨l,zs,d,rfl,rfl,hl,h1,k⟩:=q2
 obtain ⟨u',rfl,ru⟩:=vals1 r1
 cases ru
 obtain ⟨Bt,rfl⟩:=r2
 show wpAny _ _ (call (.builtin "min") [.ref l] [(Str.ofString "default",.int d Bt)]) _ _ s2
 obtain ⟨ai,rv,pl,hz⟩:=I2.list (.of hl)
 have mV:=rv.length
 rw [aE] at mV
 have at':∀(i:Nat) (v:Value),ai[i]?=some v→∃t,v=Value.int (zs.getD i 0) t:=fun i v hi=>by
  have aR:i<zs.length:=by
   have:=(bL.mp hi).1
   omega
  obtain ⟨u,eu,ru⟩:=rv.get (i:=i) (x:=.int (zs[i])) (by simp [aR])
  rw [hi] at eu
  cases eu
  obtain ⟨t,rfl⟩:=ru
  exact ⟨t,by rw [dU,bV aR];rfl⟩
 refine Br (kf:=fun i=>zs.getD i 0) (dflt:=some (.int d Bt)) (I2.ok.hd hc) (O1 _ _) rfl pl.isList (FU at') (.inr ⟨_,rfl⟩) (fun i v h' cK hi best kp=>?_) (fun z0 d' e' h' cK kp=>?_)
 ·obtain ⟨t,rfl⟩:=at' i v hi
  have aR:i<zs.length:=by
   have:=(bL.mp hi).1
   omega
  have gd:∀j (hj:j<zs.length),zs.getD j 0=zs[j]:=fun j hj=>by rw [dU,bV hj];rfl
  refine ⟨.int (zs.getD i 0),H2,I2.kept (t':=cK) kp,⟨t,rfl⟩,k _ (.inr ⟨by rw [gd i aR];exact c_ _,fun z hz=>?_⟩)⟩
  obtain ⟨j,hj,rfl⟩:=ng hz
  have:=(best j (by omega)).1
  rw [gd j hj] at this
  exact this
 ·cases e'
  have z1:zs=[]:=zJ.mp (by omega)
  exact ⟨.int d,H2,I2.kept (t':=cK) kp,⟨Bt,rfl⟩,k _ (.inl ⟨z1,rfl⟩)⟩
def O4:List V→Hp→VK→Prop:=fun xs H Q=>∃(l:Addr) (vs:List V) (x y:Nat→Int),xs=[.ref l]∧H l=some (.lst vs)∧0<vs.length∧(∀(i:Nat) (v:V),vs[i]?=some v→(∃b,v=.ref b∧H b=some (.tup [.int (x i),.int (y i)]))∧0≤y i∧y i<1000) ∧
 ∀(i:Nat) (v:V),vs[i]?=some v→(∀j,j<vs.length→x i*1000+y i≤x j*1000+y j)→Q v H
theorem O5(hc:X.calm=true)(hu:X.A.units+64<cLine):en X (.builtin "min") O4:=by
 intro pins s σ H xs us Q I r h;obtain ⟨l,vs,x,y,rfl,hl,h0,hv,k⟩:=h;obtain ⟨u,rfl,ru⟩:=vals1 r;cases ru;obtain ⟨ai,rv,pl,hz⟩:=I.list (.of hl);have mV:=rv.length;have at':∀i v,ai[i]?=some v→dR s.heap v (x i) (y i)∧0≤y i∧y i<1000:=fun i v hi=>by
  have aR:i<vs.length:=by have:=(bL.mp hi).1;omega
  have gi:vs[i]?=some vs[i]:=by simp [aR]
  obtain ⟨⟨b,eb,hb⟩,A2⟩:=hv i _ gi;obtain ⟨u,eu,ru⟩:=rv.get gi;rw [hi] at eu;cases eu;rw [eb] at ru;cases ru;obtain ⟨_,gx,r2,o,g,cl,e,d⟩:=(show bI X.prog X.w H s.heap b (.tup [.int (x i),.int (y i)]) from I.ax b _ hb);obtain ⟨u1,u2,rfl,q1,q2⟩:=vals2 r2;obtain ⟨t1,rfl⟩:=q1;obtain ⟨t2,rfl⟩:=q2;exact ⟨⟨b,o,t1,t2,e,rfl,g,cl,d⟩,A2⟩
 have O6:X.A.in1.units<cLine:=by show X.A.units+1<cLine;omega
 refine Br (kf:=fun i=>x i*1000+y i) (dflt:=none) (I.ok.hd hc) (FT _) rfl pl.isList (O2 O6 at') (.inl (by omega)) (fun i v h' cK hi best kp=>?_) (fun z0=>by omega)
 have aR:i<vs.length:=by have:=(bL.mp hi).1;omega
 have gi:vs[i]?=some vs[i]:=by simp [aR]
 obtain ⟨u,eu,ru⟩:=rv.get gi;rw [hi] at eu;cases eu;exact ⟨vs[i],H,I.kept (t':=cK) kp,ru,k i _ gi fun j hj=>(best j (by omega)).1⟩
end L2
namespace My
open PySem L2
theorem Bu{k:Nat}(h:k≤1000):k≤sizeLine:=bf h (by decide)
def O7:Sp:=fun vs H Q _=>∃(d:Addr) (done:List Int) (p:Int),vs=[.ref d,.int p]∧H d=some (.tup (done.map V.int))∧done.length≤60 ∧
 ∀(H':Hp) (t:Addr) (ws:List Int),ws.Perm (done++[p])→ws.Pairwise (·≤·)→H t=none→aj H H'→H' t=some (.tup (ws.map V.int))→Q (.ref t) H'
def aS:Nat→List (List Nat)
 | 0=>[[]]
 | k+1=>aS k++(aS k).map (·++[k])
theorem rh:∀n,(aS n).length=2 ^ n
 | 0=>rfl
 | n+1=>by unfold aS;rw [cS,aE,rh n,Nat.pow_succ];omega
theorem dm:∀{n:Nat} {q:List Nat},q∈aS n↔q.Pairwise (· < ·)∧∀x∈q,x<n
 | 0,q=>by
  show q∈[[]]↔_;rw [bR];constructor
  ·rintro rfl
   exact ⟨.nil,fun x h=>by cases h⟩
  ·rintro ⟨_,h⟩
   cases q with
   | nil=>rfl
   | cons a _=>exact absurd (h a cR) (tS _)
 | n+1,q=>by
  show q∈aS n++(aS n).map (·++[n])↔_;rw [cL,cg];constructor
  ·rintro (h | ⟨p,h,rfl⟩)
   ·obtain ⟨h1,h2⟩:=dm.mp h
    exact ⟨h1,fun x hx=>by have:=h2 x hx;omega⟩
   ·obtain ⟨h1,h2⟩:=dm.mp h
    refine ⟨tQ.mpr ⟨h1,zM _ _,fun a ha b hb=>?_⟩,fun x hx=>?_⟩
    ·rw [bR.mp hb]
     exact h2 a ha
    ·rcases cL.mp hx with hx | hx
     ·have:=h2 x hx
      omega
     ·rw [bR.mp hx]
      omega
  ·rintro ⟨h1,h2⟩
   by_cases hn:n∈q
   ·right
    obtain ⟨a,b,rfl⟩:=List.append_of_mem hn;obtain ⟨p1,p2,p3⟩:=tQ.mp h1;have b0:b=[]:=by
     cases b with
     | nil=>rfl
     | cons c b=>
      have c1:=(mr.mp p2).1 c cR;have c2:=h2 c (by simp)
      omega
    subst b0;exact ⟨a,dm.mpr ⟨p1,fun x hx=>p3 x hx n cR⟩,rfl⟩
   ·left
    refine dm.mpr ⟨h1,fun x hx=>?_⟩;have:=h2 x hx;have:x≠n:=fun e=>hn (e▸hx);omega
variable {n:Nat}
theorem oG{q:List Nat}(h1:q.Pairwise (· < ·))(h2:∀x∈q,x<n):q.length≤n:=by
 have:=(jS (n:=n));have sub:q ⊆ List.range n:=fun x hx=>cx.mpr (h2 x hx);have nd:q.Nodup:=h1.imp fun h=>bC h;have:=nd.length_le_of_subset sub
 rwa [dz] at this
def fh(H:Hp)(xs:List V)(qs:List (List Nat)):Prop:=xs.length=qs.length∧∀(i:Nat) (v:V) (q:List Nat),xs[i]?=some v→qs[i]?=some q→∃b,v=.ref b∧H b=some (.tup (q.map fun k:Nat=>V.int (k:Int)))
variable {H:Hp} {xs:List V} {qs:List (List Nat)}
theorem fh.mono{H':Hp}(h:fh H xs qs)(s:aj H H'):fh H' xs qs:=⟨h.1,fun i v q h1 h2=>by obtain ⟨b,e,g⟩:=h.2 i v q h1 h2;exact ⟨b,e,s _ _ g⟩⟩
theorem fh.cat{ys:List V}{rs:List (List Nat)}(h:fh H xs qs)(h':fh H ys rs):fh H (xs++ys) (qs++rs):=⟨by rw [cS,cS,h.1,h'.1],fun i v q h1 h2=>by
 by_cases z:i<xs.length
 ·rw [gr z] at h1
  rw [gr (by have:=h.1;omega)] at h2
  exact h.2 i v q h1 h2
 ·rw [gq (by omega)] at h1
  rw [gq (by have:=h.1;omega),←h.1] at h2
  exact h'.2 _ v q h1 h2⟩
def FW:Sp:=fun vs H Q _=>∃n:Nat,vs=[.int (n:Int)]∧n≤9∧∀(D:Addr) (xs:List V) (H':Hp),aj H H'→H D=none→H' D=some (.lst xs)→fh H' xs (aS n)→Q (.ref D) H'
def Bv(n:Nat)(L:aA)(done:List Nat)(p c:Nat):Prop:=∃f,d6 n L f∧jE n f done p c
open Classical in
noncomputable def cA (n:Nat) (L:aA) (done:List Nat) (p:Nat):Int:=if h:∃c,Bv n L done p c then ((choose h:Nat):Int)*(choose h:Nat)+3*(choose h:Nat)+1 else 0
variable {p:Nat}
theorem ya{L:aA}{f:Nat→List Nat}{done:List Nat}{c:Nat}(nb:d6 n L f)(h:jE n f done p c):(c:Int)*c+3*c+1=cA n L done p:=by have e:∃c,Bv n L done p c:=⟨c,f,nb,h⟩;unfold cA;rw [dif_pos e];obtain ⟨g,bO,h'⟩:=Classical.choose_spec e;rw [jE.same nb bO h h']
def bh(n:Nat)(done:List Nat):List Nat:=(List.range n).filter fun p=>!decide (p∈done)
def aZ:List Nat→Nat→List Nat
 | [],p=>[p]
 | x::l,p=>if p<x then p::x::l else x::aZ l p
theorem jI:∀{l:List Nat} {p q:Nat},q∈aZ l p↔q=p∨q∈l
 | [],p,q=>by simp [aZ]
 | x::l,p,q=>by
  unfold aZ
  split
  ·simp
  ·rw [b6,jI,b6]
   constructor
   ·rintro (h | h | h)
    ·exact .inr (.inl h)
    ·exact .inl h
    ·exact .inr (.inr h)
   ·rintro (h | h | h)
    ·exact .inr (.inl h)
    ·exact .inl h
    ·exact .inr (.inr h)
theorem mX:∀{l:List Nat} {p:Nat},l.Pairwise (· < ·)→p∉l→(aZ l p).Pairwise (· < ·)
 | [],p,_,_=>zM _ _
 | x::l,p,h,hp=>by
  obtain ⟨h1,h2⟩:=mr.mp h;unfold aZ
  split
  ·rename_i lt
   exact mr.mpr ⟨fun a ha=>by
    rcases b6.mp ha with rfl | ha;·exact lt
    ·have:=h1 a ha
     omega,h⟩
  ·rename_i lt
   have px:p≠x:=fun e=>hp (e▸cR);refine mr.mpr ⟨fun a ha=>?_,mX h2 fun z=>hp (cV _ z)⟩;rcases jI.mp ha with rfl | ha;·omega
   ·exact h1 a ha
theorem vw:∀{l:List Nat} {p:Nat},(aZ l p).length=l.length+1
 | [],p=>rfl
 | x::l,p=>by
  unfold aZ
  split
  ·rfl
  ·rw [dS,vw,dS]
theorem Bw{done:List Nat}{ws:List Int}(up:done.Pairwise (· < ·))(hp:p∉done)(pm:ws.Perm (done.map iN++[(p:Int)]))(so:ws.Pairwise (·≤·)):ws=(aZ done p).map iN:=by
 obtain ⟨vs,pv,rfl⟩:=perm_back pm (done++[p]) (by rw [dJ];rfl)
 have nd:(done++[p]).Nodup:=by
  rw [kH];refine ⟨up.imp fun h=>bC h,by simp,fun a ha b hb e=>?_⟩
  rw [bR] at hb;subst hb;subst e;exact hp ha
 have vu:vs.Pairwise (· < ·):=Ow pv nd so;rw [FA vu (mX up hp) fun q=>by rw [pv.mem_iff,jI,cL,bR];exact Or.comm]
def vx(done:List Nat):V→Bool
 | .int z=>!decide (z.toNat∈done)
 | _=>false
theorem O8(done:List Nat)(q:Nat):vx done (.int (0+(q:Int))) = !gB (.int (0+(q:Int))) (done.map fun k:Nat=>V.int (k:Int)):=by rw [fP,lK];show (!decide (((q:Nat):Int).toNat∈done))=_;rw [dq]
theorem O9(n:Nat)(done:List Nat):((List.range n).map fun i:Nat=>V.int (0+(i:Int))).filter (vx done)=(bh n done).map fun k:Nat=>V.int (k:Int):=by
 rw [List.filter_map];unfold bh;rw [show (List.range n).filter (vx done ∘ fun i:Nat=>V.int (0+(i:Int)))=(List.range n).filter (fun p=>!decide (p∈done)) from List.filter_congr fun q _=>by show vx done (.int (0+(q:Int)))=_;rw [fP];show (!decide (((q:Nat):Int).toNat∈done))=_;rw [dq]]
 exact gu fun q _=>by rw [fP]
def bT(q:List Nat):List Key:=q.map fun k:Nat=>.inl (k:Int)
def FX(H:Hp)(n:Nat)(L:aA)(W:List Nat→Int)(done:List Nat)(xs:List V):Prop:=xs.length=(bh n done).length∧∀(i:Nat) (v:V) (p:Nat),xs[i]?=some v→(bh n done)[i]?=some p→∃b,v=.ref b∧H b=some (.tup [.int (cA n L done p+W (aZ done p)),.int (p:Int)])
def O_:Sp:=fun vs H Q _=>∃(tp d wo:Addr) (n:Nat) (L:aA) (done:List Nat) (kvs:List (List Key×V)) (W:List Nat→Int),vs=[.ref tp,.ref d,.ref wo]∧d9 H tp n L∧gf n L∧n≤9∧H d=some (.tup (done.map fun k:Nat=>V.int (k:Int)))∧done∈aS n∧H wo=some (.dT kvs) ∧
 (∀p,p<n→p∉done→eB kvs (bT (aZ done p))=some (.int (W (aZ done p))))∧∀(H':Hp) (D:Addr) (xs:List V),aj H H'→H' D=some (.lst xs)→FX H' n L W done xs→Q (.ref D) H'
end My
namespace L2
open PySem PySem.Spec PyProof.Rows My
variable {K:aG} {Z:aA}
theorem Pa{a:Addr}{us:List V}{H1:Hp}(h:H1 a=some (.lst us))(hZ:bS H1 us Z):Fy (iM K a) Z H1:=by
 have js:jw (iM K a) us H1:=k6 (.of h);refine ⟨fun i Hc s hi=>js.go i Hc s (by rw [hZ.1];exact hi),fun i Hc v H' s y=>?_,fun i Hc s hi=>js.stop i Hc s (by rw [hZ.1];exact hi)⟩
 obtain ⟨rfl,hx⟩:=js.du i Hc v H' s y;refine ⟨aj.refl _,fun z hz=>?_⟩;have hi:i<us.length:=by rw [hZ.1];exact (bL.mp hz).1
 obtain ⟨b,e,g⟩:=hZ.2 i v z (hx hi) hz;exact ⟨b,e,s _ _ g⟩
theorem Pb{wi:TI}{ρ:St→St}{te:TE}{σ:St}{H:Hp}{Q:VK}(eK:∀R:It→Hp→Prop,(∀J H1,aj H H1→Fy J Z H1→R J H1)→wi σ H R)(hn:Z.length<sizeLine)
  (step:∀z∈Z,∀(Hc:Hp) (R:VK),R (.int z.1) Hc→te (some (.int z.1)::some (.int z.2)::ρ σ) Hc R)
  (fin:∀D Hc,H D=none→aj H Hc→Hc D=some (.lst ((Z.map (·.1)).map V.int))→Q (.ref D) Hc):xr K wi ρ (fun _ H Q=>Q true H) te σ H Q:=by
 refine eK _ fun J H1 s1 js=>?_;intro D nD;refine ⟨fun i m us Hc=>m=Z.length-i∧i≤Z.length∧Hc D=some (.lst us)∧aj H1 Hc∧us.length≤i∧us=((Z.take i).map (·.1)).map V.int,⟨_,rfl,bH _,aw,eZ (aj.refl H1) nD,ay _,rfl⟩,?_⟩;rintro i m us Hc ⟨rfl,hi,eD,sH,lu,hL⟩;refine ⟨eD,?_⟩;by_cases a7:i<Z.length
 ·refine .inr ⟨js.go i Hc sH a7,fun v H' hy=>?_⟩
  obtain ⟨s',k⟩:=js.du i Hc v H' sH hy;obtain ⟨T,rfl,eT⟩:=k Z[i] (by simp [a7])
  have tk:Z.take (i+1)=Z.take i++[Z[i]]:=by rw [kG,bV a7];rfl
  have mz:Z[i]∈Z:=c_ a7;generalize Z[i]=z at eT tk mz;refine ⟨T,_,_,rfl,.of eT,?_⟩;dsimp only;rw [ae rfl];refine step z mz _ _ ?_;refine ⟨s' _ _ eD,by omega,Z.length-(i+1),by omega,rfl,a7,aw,eZ (sH.trans s') nD,by simp;omega,?_⟩
  rw [tk,dJ,dJ,←hL];rfl
 ·have e:i=Z.length:=by omega
  subst e;rw [gX] at hL;subst hL;exact .inl ⟨js.stop _ Hc sH (ay _),fin D Hc (none_of s1 nD) (s1.trans sH) eD⟩
end L2
namespace My
open PySem L2
def lO(d:Int):List Int→Int
 | []=>d
 | z::zs=>zs.foldl min z
theorem fold_min:∀(zs:List Int) (z:Int),zs.foldl min z∈z::zs∧∀y∈z::zs,zs.foldl min z≤y
 | [],z=>⟨cR,fun y hy=>by rw [bR.mp hy];exact fO _⟩
 | x::zs,z=>by
  obtain ⟨h1,h2⟩:=fold_min zs (min z x);show zs.foldl min (min z x)∈_∧_;constructor
  ·rcases b6.mp h1 with e | h
   ·rw [e]
    by_cases q:z≤x
    ·rw [Int.min_eq_left q]
     exact cR
    ·rw [Int.min_eq_right (by omega)]
     exact cV _ cR
   ·exact cV _ (cV _ h)
  ·intro y hy
   have h0:=h2 _ cR;rcases b6.mp hy with e | hy
   ·rw [e]
    exact cC h0 (Int.min_le_left _ _)
   ·rcases b6.mp hy with e | hy
    ·rw [e]
     exact cC h0 (Int.min_le_right _ _)
    ·exact h2 y (cV _ hy)
variable {zs:List Int}
theorem FY{d m:Int}(h:Bs zs d m):m=lO d zs:=by
 rcases h with ⟨rfl,rfl⟩ | ⟨h1,h2⟩;·rfl
 ·cases zs with
  | nil=>cases h1
  | cons z zs=>obtain ⟨f1,f2⟩:=fold_min zs z;exact Int.le_antisymm (h2 _ f1) (f2 _ h1)
noncomputable def wF (n:Nat) (L:aA):Nat→List Nat→Int
 | 0,_=>0
 | k+1,S=>lO 0 ((bh n S).map fun p=>cA n L S p+wF n L k (aZ S p))
noncomputable def wW (n:Nat) (L:aA) (S:List Nat):Int:=wF n L (n-S.length) S
variable {n:Nat} {S:List Nat}
theorem FZ(h:S∈aS n)(hl:n≤S.length):bh n S=[]:=by
 obtain ⟨h1,h2⟩:=dm.mp h;refine List.eq_nil_iff_forall_not_mem.mpr fun p hp=>?_;obtain ⟨p1,p2⟩:=cQ.mp hp;have pn:=cx.mp p1;have pS:p∉S:=by simpa using p2
 have up:=mX h1 pS;have:=oG (n:=n) up fun x hx=>by
  rcases jI.mp hx with rfl | hx;·exact pn
  ·exact h2 x hx
 rw [vw] at this;omega
variable {L:aA}
theorem rj(h:S∈aS n):wW n L S=lO 0 ((bh n S).map fun p=>cA n L S p+wW n L (aZ S p)):=by
 unfold wW;by_cases hl:S.length<n
 ·obtain ⟨k,hk⟩:∃k,n-S.length=k+1:=⟨n-S.length-1,by omega⟩
  rw [hk];show lO 0 _=_
  congr 1
  refine gu fun p hp=>?_;rw [vw,show n-(S.length+1)=k by omega]
 ·rw [FZ h (by omega),show n-S.length=0 by omega]
  rfl
theorem yb{a b:List Nat}(h:bT a=bT b):a=b:=by
 have h1:∀l:List Nat,(bT l).map (fun k=>match k with | .inl z=>z.toNat | .inr _=>0)=l:=fun l=>by
  unfold bT
  rw [cE]
  conv=>rhs;rw [←nu l]
  exact gu fun k _=>dq k
 rw [←h1 a,←h1 b,h]
def wD(W:List Nat→Int)(qs:List (List Nat)):List (List Key×V):=qs.map fun q=>(bT q,.int (W q))
theorem oH(W:List Nat→Int):∀{qs:List (List Nat)} {q:List Nat},q∈qs→eB (wD W qs) (bT q)=some (.int (W q))
 | [],_,h=>by cases h
 | r::qs,q,h=>by
  by_cases e:r=q
  ·subst e
   exact u7 rfl
  ·show eB ((bT r,V.int (W r))::wD W qs) (bT q)=_
   rw [u9 fun z=>e (yb z)];exact oH W ((b6.mp h).resolve_left fun z=>e z.symm)
variable {qs:List (List Nat)} {q:List Nat}
theorem Pc(W:List Nat→Int)(h:q∉qs):putK (wD W qs) (bT q) (.int (W q))=wD W (qs++[q]):=by
 unfold putK;rw [aa fun z=>?_]
 ·unfold wD
  rw [dJ];rfl
 ·obtain ⟨kv,hm,e⟩:=wg.mp z
  obtain ⟨r,hr,rfl⟩:=cg.mp hm;exact h (yb (gZ e)▸hr)
theorem vy:∀n,(aS n).Nodup
 | 0=>by show [[]].Nodup;simp
 | n+1=>by
  show (aS n++(aS n).map (·++[n])).Nodup;rw [kH];refine ⟨vy n,(nk.mpr ((vy n).imp fun h e=>h (List.append_cancel_right e))),fun a ha b hb e=>?_⟩;obtain ⟨c,_,rfl⟩:=cg.mp hb;have:=(dm.mp ha).2 n (by rw [e];simp)
  omega
def Pd:Sp:=fun vs H Q _=>∃(tp:Addr) (n:Nat) (L:aA),vs=[.ref tp]∧d9 H tp n L∧gf n L∧n≤9 ∧
 ∀(H':Hp) (D:Addr) (qs:List (List Nat)),aj H H'→H D=none→H' D=some (.dT (wD (wW n L) qs))→qs.Perm (aS n)→Q (.ref D) H'
variable {H:Hp}
theorem Pe{K:aG}{wi:TI}{ρ:St→St}{tt:TT}{te td:TE}{σ:St}{Q:VK}(h:xr K wi ρ tt te σ H fun x H1=>td σ H1 fun y H2=>∃(l:Addr) (zs:List Int) (d:Int),[x]=[V.ref l]∧y=.int d∧H2 l=some (.lst (zs.map V.int))∧zs.length≤10000∧∀m,Bs zs d m→Q (.int m) H2):FV (uj (xr K wi ρ tt te) z_) td σ H Q:=h
structure Bx (n:Nat) (qs:List (List Nat)):Prop where
 pm:qs.Perm (aS n)
 dn:qs.Pairwise fun a b=>b.length≤a.length
theorem Pf{p:List Nat}(h:mU (aS n).length (fun i=>((((aS n).getD i []).length:Nat):Int)) p):Bx n (p.map fun i=>(aS n).getD i []):=by
 refine ⟨?_,?_⟩
 ·have e:(List.range (aS n).length).map (fun i=>(aS n).getD i [])=aS n:=by
   refine jc (by simp) fun i h1 h2=>?_
   simp [h2]
  have:=h.pm.map fun i=>(aS n).getD i [];rw [e] at this;exact this
 ·rw [nk]
  exact h.dn.imp fun h=>Int.ofNat_le.mp h
variable {j p:Nat}
theorem Pg(h:Bx n qs)(hq:qs[j]?=some q)(pn:p<n)(pq:p∉q):aZ q p∈qs.take j:=by
 have hj:=(bL.mp hq).1;obtain ⟨q1,q2⟩:=dm.mp (h.pm.mem_iff.mp (iG hq));have hm:aZ q p∈qs:=h.pm.mem_iff.mpr (dm.mpr ⟨mX q1 pq,fun x hx=>by
  rcases jI.mp hx with rfl | hx;·exact pn
  ·exact q2 x hx⟩)
 obtain ⟨i,hi,e⟩:=ng hm;by_cases ij:i<j;·exact List.mem_take_iff_getElem.mpr ⟨i,by omega,e⟩
 ·exfalso
  have gN:qs[j]=q:=by have:=bV hj;rw [hq] at this;exact (Option.some.inj this).symm
  have l1:=vw (l:=q) (p:=p);by_cases z:i=j
  ·subst z
   rw [←e,gN] at l1;omega
  ·have:=nh.mp h.dn j i hj hi (by omega)
   rw [e,gN,l1] at this;omega
theorem Ph(h:Bx n qs)(hq:qs[j]?=some q):q∉qs.take j∧qs.take (j+1)=qs.take j++[q]:=by
 have hj:=(bL.mp hq).1;have nd:qs.Nodup:=h.pm.nodup_iff.mpr (vy n);refine ⟨fun hm=>?_,by rw [kG,hq];rfl⟩
 obtain ⟨i,hi,e⟩:=List.mem_take_iff_getElem.mp hm;have gN:qs[j]=q:=by have:=bV hj;rw [hq] at this;exact (Option.some.inj this).symm
 exact nh.mp (List.nodup_iff_pairwise_ne.mp nd) i j (by omega) hj (by omega) (e.trans gN.symm)
variable {xs:List V}
theorem Pj(h:fh H xs qs){p:List Nat}(hp:∀i∈p,i<qs.length):fh H (p.map fun i=>xs.getD i .aP) (p.map fun i=>qs.getD i []):=by
 refine ⟨by rw [aE,aE],fun k v q h1 h2=>?_⟩
 rw [bU] at h1 h2;cases e:p[k]? with
 | none=>rw [e] at h1;cases h1
 | some i=>
  rw [e] at h1 h2;cases h1;cases h2;have hi:=hp i (iG e);have hx:i<xs.length:=by rw [h.1];exact hi
  refine h.2 i _ _ ?_ ?_
  ·show xs[i]?=some (xs.getD i V.aP)
   rw [dU,bV hx];rfl
  ·show qs[i]?=some (qs.getD i [])
   rw [dU,bV hi];rfl
theorem F0{W:List Nat→Int}{done:List Nat}(h:FX H n L W done xs):bS H xs ((bh n done).map fun p=>(cA n L done p+W (aZ done p),(p:Int))):=by
 refine ⟨by rw [h.1,aE],fun k v z h1 h2=>?_⟩
 rw [bU] at h2;cases e:(bh n done)[k]? with
 | none=>rw [e] at h2;cases h2
 | some p=>rw [e] at h2;cases h2;exact h.2 k v p h1 e
noncomputable def gh (n:Nat) (L:aA):List Nat→List Nat→Int
 | _,[]=>0
 | S,p::o=>cA n L S p+gh n L (aZ S p) o
theorem F1(n:Nat)(L:aA):∀(o:List Nat) (S:List Nat) (p:Nat),gh n L S (o++[p])=gh n L S o+cA n L (o.foldl aZ S) p
 | [],S,p=>by show cA n L S p+0=0+cA n L S p;omega
 | x::o,S,p=>by show cA n L S x+gh n L (aZ S x) (o++[p])=cA n L S x+gh n L (aZ S x) o+cA n L (o.foldl aZ (aZ S x)) p;rw [F1 n L o (aZ S x) p];omega
theorem F2{z:Int}(h:zs≠[]):lO z zs∈zs∧∀y∈zs,lO z zs≤y:=by
 cases zs with
 | nil=>exact absurd rfl h
 | cons x zs=>exact fold_min zs x
structure oJ (n:Nat) (L:aA) (o S:List Nat):Prop where
 eq:S=o.foldl aZ []
 pm:S.Perm o
 mem:S∈aS n
 F3:gh n L [] o+wW n L S=wW n L []
theorem oJ.start(n:Nat)(L:aA):oJ n L [] []:=⟨rfl,.nil,dm.mpr ⟨.nil,fun x h=>by cases h⟩,by show 0+_=_;omega⟩
theorem F4:∀(l:List Nat) (p:Nat),(aZ l p).Perm (l++[p])
 | [],p=>.refl _
 | x::l,p=>by
  unfold aZ
  split
  ·exact (List.perm_append_singleton p (x::l)).symm
  ·exact (F4 l p).cons x
variable {o:List Nat}
theorem oJ.next(h:oJ n L o S)(hp:p∈bh n S)(hm:∀q∈bh n S,cA n L S p+wW n L (aZ S p)≤cA n L S q+wW n L (aZ S q)):oJ n L (o++[p]) (aZ S p):=by
 obtain ⟨p1,p2⟩:=cQ.mp hp;have pn:=cx.mp p1;have pS:p∉S:=by simpa using p2
 obtain ⟨m1,m2⟩:=dm.mp h.mem;refine ⟨by rw [List.foldl_append,←h.eq];rfl,(F4 S p).trans (h.pm.append_right [p]),dm.mpr ⟨mX m1 pS,fun x hx=>?_⟩,?_⟩
 ·rcases jI.mp hx with rfl | hx
  ·exact pn
  ·exact m2 x hx
 ·have st:=rj (L:=L) h.mem
  obtain ⟨f1,f2⟩:=F2 (z:=0) (zs:=(bh n S).map fun p=>cA n L S p+wW n L (aZ S p)) (fun e=>by rw [qy] at e;rw [e] at hp;cases hp)
  rw [←st] at f1 f2;obtain ⟨q,hq,e⟩:=cg.mp f1;have h1:=hm q hq;have h2:=f2 _ (cg.mpr ⟨p,hp,rfl⟩);have:=h.F3;rw [F1,←h.eq];omega
theorem Pk(h:S∈aS n)(hl:S.length<n):0<(bh n S).length:=by
 refine Nat.pos_of_ne_zero fun e=>?_;have e:=zJ.mp e;have sub:List.range n ⊆ S:=fun x hx=>by
  refine zN fun no=>?_;have:x∈bh n S:=cQ.mpr ⟨hx,by simpa using no⟩
  rw [e] at this;cases this
 have:=(jS (n:=n)).length_le_of_subset sub;rw [dz] at this;omega
theorem Pl(h:S∈aS n)(hl:S.length=n):S=List.range n:=by
 obtain ⟨h1,h2⟩:=dm.mp h;refine FA h1 (xZ n) fun p=>⟨fun hp=>cx.mpr (h2 p hp),fun hp=>?_⟩;refine zN fun no=>?_;have:p∈bh n S:=cQ.mpr ⟨hp,by simpa using no⟩
 rw [FZ h (by omega)] at this
 cases this
def Pm:Sp:=fun vs H Q _=>∃(tp:Addr) (n:Nat) (L:aA),vs=[.ref tp]∧d9 H tp n L∧gf n L∧n≤9 ∧
 ∀(H':Hp) (t lo:Addr) (o:List Nat),aj H H'→H lo=none→H' t=some (.tup [.ref lo,.int (wW n L [])])→H' lo=some (.lst (o.map fun k:Nat=>V.int (k:Int)))→o.Perm (List.range n)→gh n L [] o=wW n L []→Q (.ref t) H'
theorem Pn(h:(p::o).Perm (bh n S)):o.Perm (bh n (aZ S p)):=by
 have nl:(bh n S).Nodup:=jS.filter _;have nd:=h.nodup_iff.mpr nl;obtain ⟨n1,n2⟩:=gT.mp nd;refine (qv n2 (jS.filter _)).mpr fun q=>?_;have hq:=h.mem_iff (a:=q);have e1:∀T:List Nat,q∈bh n T↔q<n∧q∉T:=fun T=>by unfold bh;rw [cQ,cx];simp
 rw [e1,b6] at hq;show q∈o↔q∈bh n (aZ S p);rw [e1,jI];constructor
 ·intro ho
  have:=hq.mp (.inr ho);exact ⟨this.1,fun z=>z.elim (fun e=>n1 (e▸ho)) this.2⟩
 ·rintro ⟨h1,h2⟩
  rcases hq.mpr ⟨h1,fun z=>h2 (.inr z)⟩ with e | ho;·exact absurd (.inl e) h2
  ·exact ho
theorem F5{n:Nat}{L:aA}:∀(o S:List Nat),S∈aS n→o.Perm (bh n S)→wW n L S≤gh n L S o
 | [],S,hS,h=>by have e:bh n S=[]:=h.symm.eq_nil;rw [rj hS,e];exact fO _
 | p::o,S,hS,h=>by
  have hp:p∈bh n S:=h.mem_iff.mp cR;obtain ⟨p1,p2⟩:=cQ.mp hp;have pn:=cx.mp p1;have pS:p∉S:=by simpa using p2
  obtain ⟨m1,m2⟩:=dm.mp hS;have ih:=F5 (L:=L) o (aZ S p) (dm.mpr ⟨mX m1 pS,fun x hx=>by
   rcases jI.mp hx with rfl | hx;·exact pn
   ·exact m2 x hx⟩) (Pn h)
  have f2:=(F2 (z:=0) (zs:=(bh n S).map fun p=>cA n L S p+wW n L (aZ S p)) (fun e=>by rw [qy] at e;rw [e] at hp;cases hp)).2
  rw [←rj hS] at f2;have h2:=f2 _ (cg.mpr ⟨p,hp,rfl⟩);show wW n L S≤cA n L S p+gh n L (aZ S p) o;omega
theorem Po(ho:o.Perm (List.range n)):wW n L []≤gh n L [] o:=by
 refine F5 o [] (dm.mpr ⟨.nil,fun x h=>by cases h⟩) (ho.trans ?_)
 have:bh n []=List.range n:=by unfold bh;exact List.filter_eq_self.mpr fun a _=>by simp
 rw [this]
theorem F6:∀(pre S:List Nat) (q:Nat),q∈pre.foldl aZ S↔q∈pre∨q∈S
 | [],S,q=>by simp
 | x::pre,S,q=>by
  show q∈pre.foldl aZ (aZ S x)↔_;rw [F6 pre,jI,b6];constructor
  ·rintro (h | h | h)
   ·exact .inl (.inr h)
   ·exact .inl (.inl h)
   ·exact .inr h
  ·rintro ((h | h) | h)
   ·exact .inr (.inl h)
   ·exact .inl h
   ·exact .inr (.inr h)
open Classical in
theorem Pp(ho:o.Perm (List.range n))(cu:gf n L){x:Nat}(xn:x<n)(hS:∀y,y∈S↔eC n o (o.idxOf x) y){ms:List Nat}(h:iZ n o x ms∧jF n L o x ms):((ms.length:Nat):Int)*ms.length+3*ms.length+1=cA n L S x:=by
 have nb:d6 n L (fun i=>(List.range n).filter fun j=>rL L i j):=fun i j hi=>by
  rw [cQ,cx,vj];constructor;·exact fun h=>h.2
  ·intro h
   refine ⟨?_,h⟩;rcases h with e | e
   ·have:=cu _ e
    omega
   ·have:=cu _ e
    omega
 generalize (fun i=>(List.range n).filter fun j=>rL L i j)=f at nb;have ad:∀a b,fg n f a b↔aL n L a b:=fun a b=>by
  unfold fg aL;constructor
  ·rintro ⟨h1,h2⟩
   have h3:=(nb a b h1).mp h2;refine ⟨h1,?_,h3⟩;rcases h3 with e | e
   ·have:=cu _ e
    omega
   ·have:=cu _ e
    omega
  ·rintro ⟨h1,_,h3⟩
   exact ⟨h1,(nb a b h1).mpr h3⟩
 have rc:∀q,ku (fg n f) (·∈S) x q↔q=x∨Wk (aL n L) (eC n o (o.idxOf x)) x q:=fun q=>by
  rw [Ot];constructor
  ·rintro (e | w)
   ·exact .inl e
   ·exact .inr ((w.imp fun a b=>(ad a b).mp).mono fun y=>(hS y).mp)
  ·rintro (e | w)
   ·exact .inl e
   ·exact .inr ((w.imp fun a b=>(ad a b).mpr).mono fun y=>(hS y).mpr)
 have wl:∀q,Wk (aL n L) (eC n o (o.idxOf x)) x q→q<n:=fun q w=>by
  cases w with
  | one ab=>exact ab.2.1
  | more _ _ ab=>exact ab.2.1
 refine ya nb ⟨(List.range n).filter fun q=>decide (ku (fg n f) (·∈S) x q),⟨jS.filter _,fun k hk=>cx.mp (cQ.mp hk).1⟩,fun q=>?_,?_⟩
 ·rw [cQ,cx,fk]
  refine ⟨fun h=>h.2,fun h=>⟨?_,h⟩⟩;rcases (rc q).mp h with e | w;·rw [e];exact xn
  ·exact wl q w
 ·refine ((qv (h.1.up.imp fun h=>bC h) ((jS.filter _).filter _)).mpr fun q=>?_).length_eq
  rw [h.2 q,cQ,cQ,cx,fk,rc q];constructor
  ·rintro ⟨h1,h2,h3⟩
   refine ⟨⟨h1,.inr h3⟩,?_⟩;have qx:q≠x:=fun e=>by subst e;omega
   have qS:q∉S:=fun z=>by have:=((hS q).mp z).2;omega
   simp [qx,qS]
  ·rintro ⟨⟨h1,h2⟩,h3⟩
   have qx:q≠x:=fun e=>by simp [e] at h3
   have qS:q∉S:=fun z=>by simp [z] at h3
   refine ⟨h1,?_,h2.resolve_left qx⟩;have ne:=vg ho h1 xn qx;have:¬o.idxOf q<o.idxOf x:=fun z=>qS ((hS q).mpr ⟨h1,z⟩);omega
theorem F7{n:Nat}{L:aA}{o:List Nat}(ho:o.Perm (List.range n))(cu:gf n L){g:Nat→List Nat}(hg:∀p,p<n→iZ n o p (g p)∧jF n L o p (g p)):∀(l pre:List Nat),o=pre++l→gh n L (pre.foldl aZ []) l=(l.map fun x=>(((g x).length:Nat):Int)*(g x).length+3*(g x).length+1).sum
 | [],_,_=>rfl
 | x::l,pre,e=>by
  have nd:=vd ho;rw [e,kH] at nd;obtain ⟨np,nx,dj⟩:=nd;have xn:x<n:=(iz ho).mp (by rw [e];simp)
  have ix:o.idxOf x=pre.length:=by rw [e,qw,aa fun h=>dj x h x cR rfl,List.idxOf_cons_self,dC]
  have hS:∀y,y∈pre.foldl aZ []↔eC n o (o.idxOf x) y:=fun y=>by
   rw [F6,ix];unfold eC;constructor
   ·rintro (h | h)
    ·refine ⟨(iz ho).mp (by rw [e];simp [h]),?_⟩
     rw [e,qw,ae h];exact wj h
    ·cases h
   ·rintro ⟨h1,h2⟩
    refine .inl (zN fun no=>?_);rw [e,qw,aa no] at h2;omega
  have c:=Pp ho cu xn hS (hg x xn);have ih:=F7 ho cu hg l (pre++[x]) (by rw [e];simp)
  rw [List.foldl_append] at ih;show cA n L (pre.foldl aZ []) x+gh n L (aZ (pre.foldl aZ []) x) l=_;rw [cZ,fu,←c];exact dH _ ih
theorem Pq{M:aA}(ho:o.Perm (List.range n))(cu:gf n L)(f:jG n L o M){g:Nat→List Nat}(hg:∀p,p<n→iZ n o p (g p)∧jF n L o p (g p)):gh n L [] o=(rf n M:Int):=by
 have h1:=F7 ho cu hg o [] rfl;have h2:=FL ho f hg;have h3:∀l:List Nat,(l.map fun x=>(((g x).length:Nat):Int)*(g x).length+3*(g x).length+1).sum=(((l.map fun x=>(g x).length*(g x).length+3*(g x).length+1).sum:Nat):Int):=fun l=>by
  induction l with
  | nil=>rfl
  | cons x l ih=>rw [cZ,fu,cZ,fu,ih];push_cast;rfl
 show gh n L (([]:List Nat).foldl aZ []) o=_;rw [h1,h3,←h2,(ho.map fun x=>(g x).length*(g x).length+3*(g x).length+1).sum_nat]
end My
namespace L2
open PySem
section
variable {prog:Program} {w:World} {A:Around} {E:aF} {s:Shared}
end
open PySem PySem.Spec PyProof.Rows My
end L2
namespace My
open PySem L2
end My
namespace L2
open PySem PySem.W PyProof.Rows
section
variable {prog:Program} {w:World} {A:Around} {E:aF} {s:Shared}
end
open AutoSeq1 (wpAny_loadPart')
section
variable {prog:Program} {w:World} {A:Around} {E:aF} {s:Shared}
end
end L2
namespace My
open PySem L2
end My
namespace L2
open PySem PySem.Spec PyProof.Rows My
end L2
namespace My
open PySem L2
open PySem L2 Classical
theorem F8(n:Nat)(L:aA)(o:List Nat)(p:Nat):∃ms,iZ n o p ms∧jF n L o p ms:=by
 refine ⟨(List.range n).filter fun q=>decide (o.idxOf p<o.idxOf q∧Wk (aL n L) (eC n o (o.idxOf p)) p q),⟨wd.sublist List.filter_sublist,fun q hq=>?_,fun q hq=>?_⟩,fun q=>?_⟩;·exact cx.mp (cQ.mp hq).1
 ·exact (gZ (cQ.mp hq).2).1
 ·rw [cQ,cx,fk]
theorem Pr(n:Nat)(L:aA)(o:List Nat):∃g:Nat→List Nat,∀p,p<n→iZ n o p (g p)∧jF n L o p (g p):=
 ⟨fun p=>choose (F8 n L o p),fun p _=>choose_spec (F8 n L o p)⟩
variable {n:Nat} {L M:aA} {o:List Nat}
theorem F9(ho:o.Perm (List.range n))(cu:gf n L)(f:jG n L o M):gh n L [] o=(rf n M:Int):=by obtain ⟨g,hg⟩:=Pr n L o;exact Pq ho cu f hg
theorem Pt(ho:o.Perm (List.range n))(cu:gf n L)(f:jG n L o M):wW n L []≤(rf n M:Int):=by rw [←F9 ho cu f];exact Po ho
theorem F_(n:Nat)(L:aA)(o:List Nat):∃M,jG n L o M:=by
 let f:Nat→Nat→Bool:=fun i j=>decide (∃p q:Nat,p<n∧q<n∧o.idxOf p<o.idxOf q∧Wk (aL n L) (eC n o (o.idxOf p)) p q∧((i:Int),(j:Int))=iA p q)
 refine ⟨u6 n f n,E1 n,fun z=>⟨fun h=>?_,?_⟩⟩
 ·obtain ⟨i,j,_,_,_,hf,rfl⟩:=mem_of h
  exact gZ hf
 ·rintro ⟨p,q,hp,hq,By,hw,rfl⟩
  have ne:p≠q:=fun e=>by rw [e] at By;exact absurd By (dB _)
  obtain ⟨i,j,ij,jn,e⟩:∃i j:Nat,i<j∧j<n∧iA p q=((i:Int),(j:Int)):=by
   by_cases h:q<p
   ·refine ⟨q,p,h,hp,?_⟩
    unfold iA;rw [ae (by omega),aa (by omega)]
   ·refine ⟨p,q,by omega,hq,?_⟩
    unfold iA;rw [aa (by omega),ae (by omega)]
  rw [e];exact EZ ij jn (b8 ⟨p,q,hp,hq,By,hw,e.symm⟩) (by omega)
theorem Pu(n:Nat):[]∈aS n:=dm.mpr ⟨List.Pairwise.nil,fun _ h=>by cases h⟩
theorem cP{a b:TS}{D:Ends}{σ:St}{H:Hp}(h:∀R:St→Hp→Prop,(∀σ H,b D σ H→R σ H)→a {D with nx:=R} σ H):zW a b D σ H:=h _ fun _ _ h=>h
end My
namespace L2
open PySem PySem.Spec PyProof.Rows
section
variable {prog:Program} {w:World} {A:Around} {E:aF} {s:Shared}
theorem vz{x:Int}(h1:-(2 ^ 62)-2≤x)(h2:x<2 ^ 62+2):Builtin.Range.rangeFitsLong x=true:=by unfold Builtin.Range.rangeFitsLong;simp;omega
variable {r:Addr} {n:Int} {u:Tok} {Q:aF}
theorem Pw{t v:Tok}(hr:IsRange s.heap r 0 n 1 t u v)(h1:0≤n)(h2:n<2 ^ 62)
  (h:Q (.ref s.heap.objs.size) {s with heap:=s.heap.push {cls:=.type "range_iterator",data:=.fields #[rawInt (n-1),rawInt n,rawInt (-1)]}}):wpAny (model prog w) A (call (.builtin "range.__reversed__") [.ref r]) Q E s:=by
 have hT:s.TypeIs (.ref r) "range":=⟨_,hr,rfl⟩;refine mq zO hT F.entry_range_reversed ?_ (F.args_range_reversed_1 _);have e:Builtin.Range.rangeSize 0 n 1=n:=by
  unfold Builtin.Range.rangeSize;rw [ae (by decide)]
  split
  ·rw [Int.ediv_one];omega
  ·omega
 unfold Builtin.«range.__reversed__»;refine ao (jf (a:=Value.ref r) rfl ?_);show wpAny _ _ (Builtin.Range.rangeFields (.ref r) >>= _) _ _ s;unfold Builtin.Range.rangeFields;refine ao ?_;refine ao (wpAny_field hr rfl (x:=.int 0 t) rfl ?_);refine ao (jf (a:=some 0) rfl ?_);refine ao (wpAny_field hr rfl (x:=.int n u) rfl ?_);refine ao (jf (a:=some n) rfl ?_);refine ao (wpAny_field hr rfl (x:=.int 1 v) rfl ?_);refine ao (jf (a:=some 1) rfl ?_);refine aI ?_;dsimp only;rw [e,vz (x:=0) (by omega) (by omega),vz (x:=n) (by omega) (by omega),vz (x:=1) (by omega) (by omega),vz (x:=-1) (by omega) (by omega),vz (x:=0-1) (by omega) (by omega)]
 simp only [Bool.true_and,Bool.and_true,jO,Bool.not_true,nj,jb];refine ao (l_ (aI ⟨_,rfl,?_⟩));have e2:(0:Int)+(n-1)*1=n-1:=by omega
 rw [e2];exact h
theorem Px{t v:Tok}{Q₁:aF}(hr:IsRange s.heap r 0 n 1 t u v)(h1:0≤n)(h2:n<2 ^ 62)
  (h:Q₁ (.ref s.heap.objs.size) {s with heap:=s.heap.push {cls:=.type "range_iterator",data:=.fields #[rawInt (n-1),rawInt n,rawInt (-1)]}}) :
  codeAny (model prog w) A (.call (.builtin "reversed.__new__") ⟨[.type "reversed",.ref r],[]⟩) (wants Q₁ E) s:=by
 have hT:s.TypeIs (.ref r) "range":=⟨_,hr,rfl⟩
 refine codeAny_of_tree ?_
 show wpAny _ A.in1 (do checkBuiltinCall "reversed.__new__" ⟨[.type "reversed",.ref r],[]⟩;again (.builtin "reversed.__new__" ⟨[.type "reversed",.ref r],[]⟩)) _ _ s
 refine ao (jf (F.newCall_reversed_1 _) (aI ⟨tY F.plain_reversed_new _,qc F.entry_reversed_new ?_⟩))
 rw [tW F.plain_reversed_new _]
 unfold Builtin.«reversed.__new__»
 refine ao (jf (newClass_reversed _) ?_)
 dsimp only
 refine ao (jf (a:=()) (by first | rfl | kernel_rfl) ?_)
 refine ao (jf (a:=()) (by first | rfl | kernel_rfl) ?_)
 try dsimp only
 refine ao (wpAny_specialOf hT zO.lookup ?_)
 dsimp only
 refine ao (jf (zO.bind _) ?_)
 show wpAny _ _ (if (Value.builtin "range.__reversed__" == Value.none)=true then _ else _) _ _ _
 rw [aa (show ¬((Value.builtin "range.__reversed__" == Value.none)=true) from b7)]
 refine ao (je ?_)
 refine ao (m:=runValue (.call (.builtin "range.__reversed__") ⟨[.ref r],[]⟩)) (show wpAny _ _ (call (.builtin "range.__reversed__") [.ref r]) _ _ _ from Pw hr h1 h2 ?_)
 first
 | exact aI h
 | exact ao (aI (aI h))
theorem Py:isSubtype (.type "range_iterator") (.type "reversed")=pure false:=by rw [isSubtype_type];kernel_rfl
theorem Pz{t v:Tok}(hr:IsRange s.heap r 0 n 1 t u v)(h1:0≤n)(h2:n<2 ^ 62)
  (h:Q (.ref s.heap.objs.size) {s with heap:=s.heap.push {cls:=.type "range_iterator",data:=.fields #[rawInt (n-1),rawInt n,rawInt (-1)]}}):wpAny (model prog w) A (call (.type "reversed") [.ref r]) Q E s:=by
 refine callType_other (U:="range_iterator") (Q₁:=fun obj s₁=>obj=.ref s.heap.objs.size∧s₁={s with heap:=s.heap.push {cls:=.type "range_iterator",data:=.fields #[rawInt (n-1),rawInt n,rawInt (-1)]}}) (by decide +kernel) F.create_reversed ⟨_,_,F.mro_reversed⟩ F.made_reversed Py (F.typeCall_reversed_1 _) (Px hr h1 h2 ⟨rfl,rfl⟩) ?_
 rintro obj s₁ ⟨rfl,rfl⟩;exact ⟨⟨_,cM _ rfl,rfl⟩,h⟩
end
section
variable {X:Cx} {tg:Expr}
def PB(ta:TA):TI:=fun σ H R=>ta σ H fun vs H1=>∃j:Int,vs=[.int j]∧0≤j∧j<2 ^ 62∧R (uQ (j-1) j.toNat) H1
theorem PD{a:Expr}{ta:TA}{p pos p2 yc:Pos}(hg:Gl X "reversed")(hm:X.mg "reversed"=none)(Bo:Gl X "range")(Bp:X.mg "range"=none)(ha:PA X [a] ta)(hs:starEach [a] X.env=[(false,eval a X.env)]:=by rfl)
  (qJ:starEach [.Call (.Name "range" p2) [a] [] yc] X.env=[(false,eval (.Call (.Name "range" p2) [a] [] yc) X.env)]:=by rfl):PI X tg (.Call (.Name "reversed" p) [.Call (.Name "range" p2) [a] [] yc] [] pos) (PB ta):=by
 intro pins s σ H R I h;refine PyProof.Rows.Call_Name1 (ji I hg hm boot_reversed (callWith_type1 ?_)) qJ;refine Call_ (ji I Bo Bp boot_range (tK (aJ (ha yc pins s σ H _ I h) fun us s1 ⟨vs,H1,I1,r1,q1⟩=>?_) hs rfl));obtain ⟨j,e,q1,q2,q⟩:=q1;subst e;cases r1 with
 | cons r rr=>
  cases rr;obtain ⟨t,rfl⟩:=r;refine call_range_1 ?_;refine Pz (IsRange.new ..) q1 q2 ?_;refine zv (cM _ rfl) ?_;generalize hB:({cls:=.type "range",data:=.fields #[.int 0 _,.int j _,.int 1 _]}:Obj)=ob;have I2:Inv X pins σ H1 {s1 with heap:=s1.heap.push ob,toks:=s1.toks+1+1}:=I1.kept fun b o e=>bQ _ e;refine ⟨(s1.heap.push ob).objs.size,[(s1.heap.push ob).objs.size],_,_,H1,rfl,I2.kept (t':=s1.toks+1+1) fun b o e=>bQ _ e,Mw _ (j-1) j.toNat,?_,fun b hb=>?_,q⟩
  ·have e1:j-1+((0:Nat):Int)*(-1)=j-1:=by simp
   have e2:((j.toNat:Nat):Int)-((0:Nat):Int)=j:=by omega
   show IsRangeIter _ _ (j-1+((0:Nat):Int)*(-1)) (((j.toNat:Nat):Int)-((0:Nat):Int)) (-1);rw [e1,e2];exact cM _ rfl
  ·have e:b=(s1.heap.push ob).objs.size:=by simpa using hb
   subst e;exact I2.nR (ay _) (I2.ax.fresh (ay _))
end
section
variable {prog:Program} {w:World} {K:Type} [DecidableEq K] {knd:HeapKind prog w K} {A:Around} {E:aF} {s:Shared}
variable {a b:Addr} {xa xb:List (K×Addr×Value)}
theorem PF{nm:String}{Q:Bool→Shared→Prop}(ha:(a == sysModules)=false)(hb:(b == sysModules)=false)(hu:knd.room A)
  (da:s.heap.DictOfH knd a xa) (db:s.heap.DictOfH knd b xb) (hl:xa.length=xb.length) (hits:∀x∈xa,∃(j:Nat) (p:Addr×Value),xb[j]?=some (x.1,p)∧SeqAt.EqAt A s x.2.2 p.2 true) (h:Q true s) :
  wpAny (model prog w) A (Builtin.Dict.samePairs nm a b) Q E s:=by
 obtain ⟨oa,es,ep,yd,_,ye,Ga,PH,VX⟩:=da;obtain ⟨ob,wG,qC,Bz,_,jl,BA,PJ,Gb⟩:=db;have PK:=tZ Ga;have PL:=tZ BA;unfold Builtin.Dict.samePairs Builtin.Dict.showsAll;rw [aa (show ¬(a == sysModules)=true by rw [ha];exact b7),aa (show ¬(b == sysModules)=true by rw [hb];exact b7)]
 refine ao (aI (ao (aI ?_)));refine ao (nC yd ye ?_);dsimp only;refine ao (nC Bz jl ?_);rw [aa (by rw [PK,PL,hl];simp)]
 refine ao (t5 yd ye ?_);refine ao ?_;rw [Std.Legacy.Range.forIn_eq_forIn_range'];simp only [Std.Legacy.Range.size,Nat.sub_zero,tV,Nat.div_one];refine wpAny_forIn_list _ (fun rest q s'=>s'=s∧q=(none,())∧∃i,rest=List.range' i (es.size-i)∧i≤es.size) _ ?_ ?_ _ _ ⟨rfl,rfl,0,by simp,bH _⟩
 ·rintro x rest q s' ⟨rfl,rfl,i,hr,hi⟩
  have a7:i<es.size:=by
   rcases Nat.lt_or_ge i es.size with h | h;·exact h
   ·rw [Nat.sub_eq_zero_of_le h] at hr;simp at hr
  obtain ⟨rfl,Ac⟩:x=i∧rest=List.range' (i+1) (es.size-(i+1)):=by
   have e:es.size-i=(es.size-(i+1))+1:=by omega
   rw [e,List.range'_succ] at hr;injection hr with h1 h2;exact ⟨h1,h2⟩
  refine ao (nC yd ye ?_);have Gd:x<xa.length:=by omega
  rw [entry_at Ga,bV Gd];have hm:=c_ Gd;generalize xa[x]=z at hm;obtain ⟨k,c,v⟩:=z;obtain ⟨j,p,hj,he⟩:=hits _ hm;show wpAny _ _ (holding [Value.ref c,v] _ >>= _) _ _ _;refine ao (gP (ao (wpAny_dictFind_heap hu (PH _ hm) Bz jl BA PJ Gb ?_ ?_)))
  ·intro PM
   exact absurd hj (PM j p)
  ·intro j' p' cU
   have ej:=idxH_unique Gb hj cU;subst ej;rw [hj] at cU;have qC:p=p':=(Prod.mk.inj (Option.some.inj cU)).2;subst qC;refine ao (nC Bz jl ?_);rw [entry_at BA,hj];refine gP (he prog w _ _ ?_);show wpAny _ _ (if (!true)=true then _ else _) _ _ _
   rw [aa (by decide)]
   refine ao (t5 yd ye ?_);rw [aa (by simp)]
   exact aI ⟨rfl,rfl,x+1,Ac,a7⟩
 ·rintro q s' ⟨rfl,rfl,i,hr,hi⟩
  exact aI h
theorem PN{Q:aF}(ha:(a == sysModules)=false)(hb:(b == sysModules)=false)(hu:A.units<cLine)(hr:knd.room A.in1)
  (da:s.heap.DictOfH knd a xa) (db:s.heap.DictOfH knd b xb) (hl:xa.length=xb.length) (hits:∀x∈xa,∃(j:Nat) (p:Addr×Value),xb[j]?=some (x.1,p)∧SeqAt.EqAt A.in1 s x.2.2 p.2 true) (h:Q (.bool false) s) :
  wpAny (model prog w) A (compareOp .NotEq (.ref a) (.ref b)) Q E s:=by
 refine wpAny_richCompare_same_room (op:=.NotEq) da.typeIs db.typeIs PySem.F.slot_dict_ne (mq PySem.F.slot_dict_ne da.typeIs PySem.F.entry_dict_ne ?_ (PySem.F.args_dict_ne_2 _ _)) hu;show wpAny _ _ (Builtin.Dict.dictSlotArgs "__ne__" ⟨[.ref a,.ref b],[]⟩ >>= _) _ _ s;refine ao ?_;unfold Builtin.Dict.dictSlotArgs;refine ao (wpAny_notOrdered_dict da.typeIs ?_);show wpAny _ _ (pure (Value.ref a,Value.ref b)) _ _ s;refine aI ?_;refine ao (wpAny_isInstance (T:="dict") db.typeIs PySem.F.sub_dict_dict ?_);simp only [Bool.not_true,nj,jb];refine ao (aI (ao (aI ?_)));refine ao (PF ha hb hr da db hl hits ?_);refine aI ⟨_,rfl,?_,?_⟩;·exact fun x=>nomatch x
 ·simpa using h
end
theorem PO{H:Hp}{kvs:List (List Key×V)}{xs:List (List Key×Addr×Value)}(r:KT H kvs xs):∀x∈xs,∃p∈kvs,p.1=x.1∧RelV p.2 x.2.2:=by
 induction r with
 | nil=>intro x hx;exact nomatch hx
 | @cons p q ps qs h t ih=>
  intro x hx;rcases b6.mp hx with e | hx
  ·subst e
   exact ⟨p,cR,h.1,h.2.2⟩
  ·obtain ⟨p,hp,e⟩:=ih x hx
   exact ⟨p,cV _ hp,e⟩
variable {X:Cx}
theorem PQ(hu:X.A.units+1<cLine):cz X (compareOp .NotEq) (fun x y H Q=>∃a b ka kb,x=V.ref a∧y=V.ref b∧H a=some (.dT ka)∧H b=some (.dT kb)∧ka.length=kb.length ∧
  (∀p∈ka,∃v,eB kb p.1=some v∧gz p.2=true∧gz v=true∧gA p.2 v=true)∧Q (.bl false) H):=by
 intro pins s σ H x y v u Q I rx ry h;obtain ⟨a,b,ka,kb,rfl,rfl,ea,eb,hl,hk,q⟩:=h;cases rx;cases ry;obtain ⟨_,sa,xa,ra,da⟩:=Ba I.ax ea;obtain ⟨_,sb,xb,rb,db⟩:=Ba I.ax eb;have l1:=Paired.length ra;have l2:=Paired.length rb;refine PN sa sb (by omega) (we hu) da db (by omega) (fun x hx=>?_) ⟨.bl false,H,I,rfl,q⟩
 obtain ⟨p,hp,e1,e2⟩:=PO ra x hx;obtain ⟨v,ev,f1,f2,ee⟩:=hk p hp;obtain ⟨w',hw,h_⟩:=iI.some_of (v:=v) (o:=(atKey xb p.1).map (·.2)) (by rw [←ev];exact rb.val p.1)
 obtain ⟨z,hz,PR⟩:=zK.mp hw;unfold atKey at hz;obtain ⟨y,hy,PU⟩:=zK.mp hz;have ey:y.1=p.1:=by simpa using List.find?_some hy
 obtain ⟨j,hj⟩:=List.getElem?_of_mem (List.mem_of_find?_eq_some hy);refine ⟨j,y.2,by rw [hj,←e1,←ey],?_⟩
 rw [←ee,PU,PR];exact Ad e2 h_ f1 f2
section
variable {prog:Program} {w:World} {A:Around} {E:aF} {s:Shared}
variable {d:Addr} {es:Array DictEntry} {ep:Nat} {Q:aF}
theorem PV(hd:(d == sysModules)=false)(hm:jH s.heap d es ep)
  (h:Q (.ref s.heap.objs.size) {s with heap:=s.heap.push {cls:=.type "dict_values",data:=.fields #[.ref d]}}):wpAny (model prog w) A (call (.builtin "dict.values") [.ref d]) Q E s:=by
 refine mq PySem.F.slot_dict_values hm.ty PySem.F.entry_dict_values ?_ (PySem.F.args_dict_values_1 _);refine ao ?_;unfold Builtin.Dict.noArgs;refine ao (wpAny_notOrdered_dict hm.ty (aI ?_));show wpAny _ _ (Builtin.Dict.showsAll d >>= _) _ _ s;unfold Builtin.Dict.showsAll;rw [aa (by rw [hd];exact b7)]
 exact ao (aI (ao (l_ (aI ⟨_,rfl,h⟩))))
theorem PX{v:Addr}(hv:s.heap.IsValuesView v d)(hm:jH s.heap d es ep)
  (hQ:Q (.ref s.heap.objs.size) {s with heap:=s.heap.push {cls:=.type "dict_valueiterator",data:=.fields #[.ref d,.int 0 0,.int es.size 0,.int ep 0]}}) :
  wpAny (model prog w) A (pyIter (.ref v)) Q E s:=by
 obtain ⟨ov,PY,VY,PZ⟩:=id hv;obtain ⟨o,ho,hc,Ge⟩:=id hm;refine wpAny_pyIter_slot hv.typeIs PySem.F.slot_dict_values_iter (mq PySem.F.slot_dict_values_iter hv.typeIs PySem.F.entry_dict_values_iter ?_ (PySem.F.args_dict_values_iter_1 _));unfold Builtin.«dict_values.__iter__»;refine ao (aI (ao ?_));unfold Builtin.Dict_items.dictOf;refine ao (wpAny_field PY PZ (x:=.ref d) rfl (aI (ao ?_)));unfold Builtin.Dict_items.newIterator;refine ao (nC ho Ge (ao (t5 ho Ge ?_)));have P1:Builtin.Dict_items.ownsTuple "dict_valueiterator"=false:=by decide
 simp only [P1,nj,jb];exact l_ (aI ⟨_,rfl,"dict_valueiterator",_,⟨_,cM _ rfl,rfl⟩,t6.lookup,by simpa [rawInt] using hQ⟩)
variable {it:Addr} {i:Nat}
theorem P2{Q:Option Value→Shared→Prop}(hit:s.heap.IsValIter it d i es.size ep)(hm:jH s.heap d es ep)(hi:i<es.size)
  (hQ:∀h',h'.IsValIter it d (i+1) es.size ep→Heap.SameBut it s.heap h'→Q (some es[i].val) {s with heap:=h'}):wpAny (model prog w) A (pyNext (.ref it)) Q E s:=by
 have hT:=hit.typeIs;obtain ⟨o,ho,hc,hd⟩:=id hit;obtain ⟨od,oF,fA,vB⟩:=id hm;unfold pyNext;refine ao (wpAny_attempt (wpAny_callSpecial?_slot (name:=Str.ofString "__next__") hT t6 (mq t6 hT PySem.F.entry_dict_valueiterator_next ?_ (PySem.F.args_dict_valueiterator_next_1 _))));refine ao (aI (ao (ao ?_)))
 first | refine ao (wq hT (aI ?_)) | refine ao (wu hT (aI ?_))
 refine ao (wpAny_fieldsOf ho hd ?_);rw [aa (show ¬Builtin.Dict_items.ownsTuple "dict_valueiterator"=true by decide)]
 show wpAny _ _ (if (Value.ref d == Value.none)=true then _ else _) _ _ s
 rw [aa (show ¬((Value.ref d == Value.none)=true) from b7)];refine ao (aI (ao (nC oF vB ?_)));rw [aa (by simp)]
 refine ao (aI (ao (t5 oF vB ?_)));rw [aa (by simp)]
 refine aI ?_;simp only [show ¬((i:Int)<0) from by omega,jb,dq,zL hi]
 refine ao ?_
 first | refine ao (wq hT (aI ?_)) | refine ao (wu hT (aI ?_))
 refine ao (zP hT ?_);show wpAny _ _ (setField (.ref it) 1 (rawInt ((i:Int)+1)) >>= _) _ _ s;refine ao (wpAny_setField ho hd (by simp) ?_)
 have Gf:(s.heap.update it (Obj.mapFields (·.setIfInBounds 1 (rawInt ((i:Int)+1))))).IsValIter it d (i+1) es.size ep:=
  ⟨_,Heap.get?_update_self _ ho (Obj.isFreed_of_fields (Obj.data_mapFields hd _)),(Obj.cls_mapFields ..).trans hc,by rw [Obj.data_mapFields hd];simp [rawInt]⟩
 have Gg:=Heap.IsValIter.typeIs (s:={s with heap:=s.heap.update it (Obj.mapFields (·.setIfInBounds 1 (rawInt ((i:Int)+1))))}) Gf;refine ao (gP (ao (zP Gg (ao (zP Gg ?_)))));show wpAny _ _ (pure es[i].val) _ _ _;exact aI (aI ⟨_,rfl,aI (hQ _ Gf (kJ ..))⟩)
theorem P4{Q:Option Value→Shared→Prop}(hh:A.handled=none)(hit:s.heap.IsValIter it d i es.size ep)(hm:jH s.heap d es ep)(hi:es.size≤i)
  (hQ:∀h',Heap.ExtBut it s.heap h'→Q none {s with heap:=h'}):wpAny (model prog w) A (pyNext (.ref it)) Q E s:=by
 have hT:=hit.typeIs;obtain ⟨o,ho,hc,hd⟩:=id hit;obtain ⟨od,oF,fA,vB⟩:=id hm;unfold pyNext;refine ao (wpAny_attempt (wpAny_callSpecial?_slot (name:=Str.ofString "__next__") hT t6 (mq t6 hT PySem.F.entry_dict_valueiterator_next ?_ (PySem.F.args_dict_valueiterator_next_1 _))));refine ao (aI (ao (ao ?_)))
 first | refine ao (wq hT (aI ?_)) | refine ao (wu hT (aI ?_))
 refine ao (wpAny_fieldsOf ho hd ?_);rw [aa (show ¬Builtin.Dict_items.ownsTuple "dict_valueiterator"=true by decide)]
 show wpAny _ _ (if (Value.ref d == Value.none)=true then _ else _) _ _ s
 rw [aa (show ¬((Value.ref d == Value.none)=true) from b7)];refine ao (aI (ao (nC oF vB ?_)));rw [aa (by simp)]
 refine ao (aI (ao (t5 oF vB ?_)));rw [aa (by simp)]
 refine aI ?_;simp only [show ¬((i:Int)<0) from by omega,jb,dq,Array.getElem?_eq_none hi]
 refine ao ?_
 first | refine ao (wq hT (aI ?_)) | refine ao (wu hT (aI ?_))
 show wpAny _ _ (setField (.ref it) 0 .none >>= _) _ _ s;refine ao (wpAny_setField ho hd (by simp) ?_)
 show wpAny _ _ (newExc (.type "StopIteration") [] >>= _) _ _ _;refine ao ?_;simp only [newExc,newTuple];refine ao (l_ ?_ (by size_fits))
 refine ao (m:=firstArgMember _ _) (jf (a:=Value.none) (by first | rfl | (simp only [firstArgMember];rfl)) ?_)
 refine l_ ?_ (by size_fits)
 simp only [raiseNew];refine ao (wpAny_handled ?_);rw [show A.in1.handled=none from hh];refine ao (aI (wpAny_throw ?_));refine ao (wpAny_isInstance (T:="StopIteration") (b:=true) ⟨_,cM _ rfl,rfl⟩ isSubtype_stop ?_);exact aI (hQ _ (((kJ ..).extBut.push _).push _))
end
def yf(a:Addr)(o:Obj)(kvs:List (List Key×V)):It:=
 ⟨fun i H=>H a=some (.aX o (.dT kvs))∧i<kvs.length,fun i H x H'=>H'=H∧∃kv,kvs[i]?=some kv∧x=kv.2,fun i H=>H a=some (.aX o (.dT kvs))∧kvs.length≤i⟩
theorem Gh{H:Hp}{kvs:List (List Key×V)}{xs:List (List Key×Addr×Value)}:∀{i:Nat} {kv:List Key×V},KT H kvs xs→kvs[i]?=some kv→∃x,xs[i]?=some x∧RelV kv.2 x.2.2
 | _,_,.nil,h=>by simp at h
 | 0,kv,.cons (b:=b) r _,h=>by simp at h;subst h;exact ⟨b,rfl,r.2.2⟩
 | i+1,kv,.cons _ t,h=>by simp at h;obtain ⟨v,e,r⟩:=Gh t h;exact ⟨v,by simpa using e,r⟩
section
variable {X:Cx} {pins:aO} {σ:St} {H:Hp} {s:Shared}
variable {a:Addr} {o:Obj} {kvs:List (List Key×V)}
theorem Inv.Gi(I:Inv X pins σ H s)(h:H a=some (.aX o (.dT kvs))):∃(xs:List (List Key×Addr×Value)) (es:Array DictEntry),KT H kvs xs∧(a == sysModules)=false∧jH s.heap a es (mS o)∧es.toList=xs.map (entryOfKey (tupleKind (eV X.prog X.w))):=by obtain ⟨g,_,sys,xs,r,o',es,ep,g',c,d,e,_⟩:=(show bI X.prog X.w H s.heap a (.aX o (.dT kvs)) from I.ax a _ h);rw [g] at g';cases g';refine ⟨xs,es,r,sys,⟨o,g,c,?_⟩,e⟩;rw [d];unfold mS;rw [d]
theorem Inv.P5(I:Inv X pins σ H s)(h:H a=some (.aX o (.dT kvs)))(h0:∀ob u,X.H₀ a≠some (.aX ob u)):Inv X pins σ (upd H a (.dT kvs)) s:=by
 have nn:∀b,H b=none→upd H a (.dT kvs) b=none:=fun b e=>(aB (fun z=>by rw [z,h] at e;cases e)).trans e
 have nt:∀b xs,H b=some (.tup xs)→upd H a (.dT kvs) b=some (.tup xs):=fun b xs e=>(aB (fun z=>by rw [z,h] at e;cases e)).trans e
 have no:∀b c,H b=some (.own c)→upd H a (.dT kvs) b=some (.own c):=fun b xs e=>(aB (fun z=>by rw [z,h] at e;cases e)).trans e
 refine ⟨I.ok,I.os,I.bare,⟨I.base.keep,I.base.slot,fun b o q n hx=>nn b (I.base.free b o q n hx),I.base.there,fun b xs e=>nt b xs (I.base.fv b xs e),fun b ob u e=>?_,fun b ps e=>?_⟩,I.loc,I.cell,nn _ I.free,fun x c e=>nn _ (I.g_ x c e),fun p hp=>?_,fun b u e=>?_,I.len⟩
 ·rw [aB (fun z=>by subst z;exact h0 _ _ e)]
  exact I.base.eG b ob u e
 ·obtain ⟨m,e2⟩:=I.base.fz b ps e
  exact ⟨m,(aB (fun z=>by rw [z,h] at e2;cases e2)).trans e2⟩
 ·obtain ⟨e,n,r⟩:=I.pin p hp
  exact ⟨e,nn _ n,r⟩
 ·by_cases hb:b=a
  ·subst hb
   rw [aw] at e;cases e;obtain ⟨_,q⟩:=(show bI X.prog X.w H s.heap b (.aX o (.dT kvs)) from I.ax b _ h);exact bI.g8 q (fun _ _ _ e=>e) (fun c e=>no c _ e) nt
  ·rw [aB hb] at e
   exact bI.g8 (I.ax b u e) (fun _ _ _ e=>e) (fun c e=>no c _ e) nt
end
theorem P6{P:Program}{w:World}{K:aG}{tg:Expr}(a it:Addr)(o:Obj)(kvs:List (List Key×V)):Turn P w K tg (yf a o kvs) [it] it (fun i h=>h.IsValIter it a i kvs.length (mS o)) where
 mem:=by simp
 obj:=fun i h st b hb=>by
  have e:b=it:=by simpa using hb
  subst e;obtain ⟨o,e,c,d⟩:=st;exact ⟨o,e,fun v z=>by rw [d] at z;cases z⟩
 keep:=fun i h h' st k=>by obtain ⟨o,e,c,d⟩:=st;exact ⟨o,k it (by simp) o e,c,d⟩
 item:=by
  intro X hP hw hK hc i pins s σ H E I hf st hg;subst hP hw hK;obtain ⟨eH,hi⟩:=hg;obtain ⟨xs,es,r,_,hm,he⟩:=I.Gi eH;have lr:kvs.length=xs.length:=Paired.length r;have sz:=tZ he;have ek:kvs[i]?=some kvs[i]:=by simp [hi]
  obtain ⟨x,ex,rx⟩:=Gh r ek;obtain ⟨f0,f1,f2,f3,f4,f5⟩:=hf it (by simp)
  have sk:kvs.length=es.size:=by omega
  have aR:i<es.size:=by omega
  have ee:es[i].val=x.2.2:=by have:=entry_at he i;rw [ex,zL aR] at this;rw [Option.some.inj this];rfl
  rw [sk] at st;refine P2 st hm aR fun h' av sb=>?_;have I1:Inv X pins σ H {s with heap:=h'}:=I.turned (t':=s.toks) (fun b o hb e=>(sb.2 b hb).trans e) f0 f1 f3 f4 f5;obtain ⟨o',e,c,d⟩:=id av;rw [←sk] at av;exact ⟨_,rfl,qI (s:={s with heap:=h'}) e c d (by decide) ⟨kvs[i].2,H,I1,by rw [ee];exact rx,⟨rfl,_,ek,rfl⟩,av,fun b hb=>(hf b hb).1⟩⟩
 done:=by
  intro X hP hw hK hc i pins s σ H E I hf st hg;subst hP hw hK;obtain ⟨eH,hi⟩:=hg;obtain ⟨xs,es,r,_,hm,he⟩:=I.Gi eH;have lr:kvs.length=xs.length:=Paired.length r;have sz:=tZ he;obtain ⟨f0,f1,f2,f3,f4,f5⟩:=hf it (by simp)
  have sk:kvs.length=es.size:=by omega
  rw [sk] at st;exact P4 (I.ok.hd hc) st hm (by omega) fun h' eb=>⟨rfl,I.turned (t':=s.toks) (fun b o hb e=>eb b o hb e) f0 f1 f3 f4 f5⟩
 self:=fun _ _ _ _ _ st h=>wpAny_pyIter_valiter st h
section
variable {X:Cx} {tg:Expr}
def P7(tl:TE):TI:=fun σ H R=>tl σ H fun x H1=>∃a kvs,x=.ref a∧H1 a=some (.dT kvs)∧∀o,R (yf a o kvs) (upd H1 a (.aX o (.dT kvs)))
theorem P8{l:Expr}{tl:TE}{apos eL:Pos}(hl:PE X l tl)(uw:attributeBase l "values" X.env (eval l X.env)=eval l X.env:=by rfl)(ux:(apos.endLine == eL.line)=true:=by rfl):PI X tg (.Call (.Attribute l "values" apos) [] [] eL) (P7 tl):=by
 intro pins s σ H R I h;refine wpAny_Call_method0_late uw ux (aJ (hl pins s σ H _ I h) fun v s1 ⟨x,H1,I1,r1,q1⟩=>?_);obtain ⟨a,kvs,e,eH,q⟩:=q1;subst e;cases r1;obtain ⟨h1,h2⟩:=Ag (x:=.ref a) (v:=.ref a) I1 rfl (show wY X.K "dict" (.ref a) H1 from .inr (.inr (.inl ⟨rfl,.inr ⟨kvs,eH⟩⟩)));refine ⟨"dict","dict.values",PySem.F.plainAttrs_dict,PySem.F.slot_dict_values,PySem.F.type_dict_values,h1,h2,zC rfl (PySem.evalArgs_none ?_)⟩;obtain ⟨hz,sys,xs,r,o,es,ep,g,c,d,e,nd⟩:=(show bI X.prog X.w H1 s1.heap a (.dT kvs) from I1.ax a _ eH);have I2:Inv X pins σ (upd H1 a (.aX o (.dT kvs))) s1:=I1.write (t':=s1.toks) (x:=a) (e:=a) (by rw [eH];exact trivial) (.inl rfl) (fun b u _ e=>e) ⟨o,g⟩ ⟨g,hz,sys,xs,Paired.wA r fun p q z=>⟨z.1,(aB (fun y=>by rw [y,eH] at z;cases z.2.1)).trans z.2.1,z.2.2⟩,o,es,ep,g,c,d,e,nd⟩
 have lr:kvs.length=xs.length:=Paired.length r;have sz:=tZ e;have hm:jH s1.heap a es ep:=⟨o,g,c,d⟩;refine PV sys hm ?_;have I3:Inv X pins σ (upd H1 a (.aX o (.dT kvs))) {s1 with heap:=s1.heap.push {cls:=.type "dict_values",data:=.fields #[.ref a]}}:=I2.kept (t':=s1.toks) fun b o e=>bQ _ e;refine PX (d:=a) ⟨_,cM _ rfl,rfl,rfl⟩ (hm.to fun o e=>bQ _ e) ?_;refine ⟨_,[(s1.heap.push {cls:=.type "dict_values",data:=.fields #[.ref a]}).objs.size],_,_,_,rfl,I3.kept (t':=s1.toks) fun b o e=>bQ _ e,P6 a _ o kvs,⟨_,cM _ rfl,rfl,?_⟩,fun b hb=>?_,q o⟩
 ·have eo:mS o=ep:=by unfold mS;rw [d]
  rw [eo,lr,←sz];rfl
 ·have e:b=(s1.heap.push {cls:=.type "dict_values",data:=.fields #[.ref a]}).objs.size:=by simpa using hb
  subst e;exact I3.nR (ay _) (I3.ax.fresh (ay _))
def Gj(te:TE):TE:=fun σ H Q=>te σ H fun v H1=>∃a kvs ks o,H a=some (.dT kvs)∧H1 a=some (.aX o (.dT ks))∧Q v (upd H1 a (.dT ks))
theorem P9{e:Expr}{te:TE}(he:PE X e te):PE X e (Gj te):=by intro pins s σ H Q I h;refine aJ (he pins s σ H _ I h) fun v s1 ⟨x,H1,I1,r1,a,kvs,ks,o,ea,eb,q⟩=>?_;exact ⟨x,_,I1.P5 eb (fun ob u z=>by have y:=I.base.eG a ob u z;rw [ea] at y;cases y),r1,q⟩
end
open PySem PySem.W PyProof.Rows My
theorem P_(hc:X.calm=true):en X (.builtin "min") (fun xs H Q=>∃(l:Addr) (zs:List Int),xs=[V.ref l]∧H l=some (.lst (zs.map V.int))∧0<zs.length∧∀m,m∈zs→(∀z∈zs,m≤z)→Q (.int m) H):=by
 intro pins s σ H xs us Q I r h;obtain ⟨l,zs,rfl,hl,h0,k⟩:=h;obtain ⟨u,rfl,ru⟩:=vals1 r;cases ru;obtain ⟨ai,rv,pl,hz⟩:=I.list (.of hl);have mV:=rv.length;rw [aE] at mV;have at':∀(i:Nat) (v:Value),ai[i]?=some v→∃t,v=Value.int (zs.getD i 0) t:=fun i v hi=>by
  have aR:i<zs.length:=by have:=(bL.mp hi).1;omega
  obtain ⟨u,eu,ru⟩:=rv.get (i:=i) (x:=.int (zs[i])) (by simp [aR])
  rw [hi] at eu;cases eu;obtain ⟨t,rfl⟩:=ru;exact ⟨t,by rw [dU,bV aR];rfl⟩
 refine Br (kf:=fun i=>zs.getD i 0) (dflt:=none) (I.ok.hd hc) (FT _) rfl pl.isList (FU at') (.inl (by omega)) (fun i v h' cK hi best kp=>?_) (fun z0=>by omega)
 obtain ⟨t,rfl⟩:=at' i v hi;have aR:i<zs.length:=by have:=(bL.mp hi).1;omega
 have gd:∀j (hj:j<zs.length),zs.getD j 0=zs[j]:=fun j hj=>by rw [dU,bV hj];rfl
 refine ⟨.int (zs.getD i 0),H,I.kept (t':=cK) kp,⟨t,rfl⟩,k _ (by rw [gd i aR];exact c_ _) fun z hz=>?_⟩
 obtain ⟨j,hj,rfl⟩:=ng hz;have:=(best j (by omega)).1
 rw [gd j hj] at this;exact this
end L2
namespace My
open PySem L2
def Qa:Sp:=fun vs H Q _=>∃(D d:Addr) (n:Nat) (rs:Nat→Addr) (g:Nat→List Nat) (done:List Nat) (p:Nat),vs=[.ref D,.ref d,.int (p:Int)]∧gg H D n rs g∧(∀i,i<n→∀j∈g i,j<n)∧H d=some (.tup (done.map fun k:Nat=>V.int (k:Int)))∧done.length≤1000∧p<n∧n≤60 ∧
 ∀(H':Hp) (mt:Addr) (ks:List Nat),aj H H'→H mt=none→H' mt=some (.dK (dk ks))→iy n ks→(∀x,x∈ks↔ku (fg n g) (·∈done) p x)→Q (.ref mt) H'
def Qb:Sp:=fun vs H Q _=>∃(D d:Addr) (n:Nat) (rs:Nat→Addr) (g:Nat→List Nat) (done:List Nat) (p:Nat),vs=[.ref D,.ref d,.int (p:Int)]∧gg H D n rs g∧(∀i,i<n→∀j∈g i,j<n)∧H d=some (.tup (done.map fun k:Nat=>V.int (k:Int)))∧done.length≤1000∧p<n∧n≤60 ∧
 ∀(H':Hp) (c:Nat),aj H H'→jE n g done p c→Q (.int ((c:Int)*c+3*c+1)) H'
def Qc:Sp:=fun vs H Q _=>∃(tp:Addr) (n:Nat) (L:aA),vs=[.ref tp]∧d9 H tp n L∧gf n L∧n≤9∧L.length≤200 ∧
 ∀(H':Hp) (D:Addr) (qs:List (List Nat)),aj H H'→H D=none→H' D=some (.dT (wD (wW n L) qs))→qs.Perm (aS n)→Q (.ref D) H'
variable {n:Nat} {L:aA} {S:List Nat}
theorem Gk{p:Nat}(n9:n≤9):0≤cA n L S p∧cA n L S p≤109:=by
 by_cases e:∃c,Bv n L S p c
 ·obtain ⟨c,f,nb,h⟩:=e
  rw [←ya nb h];obtain ⟨ks,pl,_,rfl⟩:=h;have:=pl.len;have c9:(ks.filter fun q=>!decide (q=p) && !decide (q∈S)).length≤9:=bf (jU _ _) (by omega)
  generalize (ks.filter fun q=>!decide (q=p) && !decide (q∈S)).length=c at c9 ⊢;have:(c:Int)*c≤9*9:=Int.mul_le_mul (by omega) (by omega) (by omega) (by omega)
  have:(0:Int)≤(c:Int)*c:=Int.mul_nonneg (by omega) (by omega)
  omega
 ·unfold cA
  rw [dif_neg e];omega
theorem Qd{zs:List Int}{b:Int}(h:∀z∈zs,0≤z∧z≤b)(hb:0≤b):0≤lO 0 zs∧lO 0 zs≤b:=by
 cases zs with
 | nil=>exact ⟨fO _,hb⟩
 | cons z zs=>exact h _ (fold_min zs z).1
theorem Gm{n:Nat}{L:aA}(n9:n≤9):∀(k:Nat) (S:List Nat),0≤wF n L k S∧wF n L k S≤109*k
 | 0,S=>⟨fO _,fO _⟩
 | k+1,S=>by
  refine Qd (fun z hz=>?_) (by omega)
  obtain ⟨p,_,rfl⟩:=cg.mp hz;have h1:=Gk (n:=n) (L:=L) (S:=S) (p:=p) n9;have h2:=Gm (L:=L) n9 k (aZ S p);omega
theorem Qe(n9:n≤9):0≤wW n L S∧wW n L S≤1000:=by have h:=Gm (L:=L) n9 (n-S.length) S;unfold wW;omega
noncomputable def dy (n:Nat) (L:aA) (S:List Nat) (k:Nat):List Int:=(bh k S).map fun p=>cA n L S p+wW n L (aZ S p)
theorem Gn{k:Nat}:dy n L S (k+1)=dy n L S k++if k∈S then [] else [cA n L S k+wW n L (aZ S k)]:=by
 unfold dy bh;rw [List.range_succ,wc,dJ]
 congr 1
 by_cases h:k∈S
 ·rw [ae h,nz,b8 h]
  rfl
 ·rw [aa h,nz,bP h]
  rfl
theorem Qf{m:Int}(n9:n≤9)(hS:S∈aS n)(ne:dy n L S n≠[])(h1:m∈dy n L S n++[10 ^ 9])(h2:∀z∈dy n L S n++[10 ^ 9],m≤z):m=wW n L S:=by
 have bd:∀z∈dy n L S n,z≤2000:=fun z hz=>by obtain ⟨p,_,rfl⟩:=cg.mp hz;have h1:=Gk (n:=n) (L:=L) (S:=S) (p:=p) n9;have h2:=Qe (L:=L) (S:=aZ S p) n9;omega
 have hm:m∈dy n L S n:=by
  rcases cL.mp h1 with h | h;·exact h
  ·obtain ⟨z,hz⟩:=List.exists_mem_of_ne_nil _ ne
   have:=h2 z (m4 _ hz);have:=bd z hz;have:=bR.mp h;omega
 rw [rj hS];exact FY (zs:=dy n L S n) (d:=0) (.inr ⟨hm,fun z hz=>h2 z (m4 _ hz)⟩)
theorem Qg(hS:S∈aS n)(e:dy n L S n=[]):wW n L S=0:=by rw [rj hS];show lO 0 (dy n L S n)=0;rw [e];rfl
variable {qs:List (List Nat)} {q:List Nat}
theorem BB(W:List Nat→Int)(h:q∉qs)(v:V):putK (wD W qs) (bT q) v=wD W qs++[(bT q,v)]:=by unfold putK;rw [aa fun z=>?_];obtain ⟨kv,hm,e⟩:=wg.mp z;obtain ⟨r,hr,rfl⟩:=cg.mp hm;exact h (yb (gZ e)▸hr)
theorem Qh(W:List Nat→Int)(h:q∉qs)(v v':V):putK (putK (wD W qs) (bT q) v) (bT q) v'=wD W qs++[(bT q,v')]:=by
 rw [BB W h]
 unfold putK
 rw [ae (by rw [List.any_append];simp),dJ]
 congr 1
 ·conv=>rhs;rw [←nu (wD W qs)]
  refine gu fun kv hm=>?_
  obtain ⟨r,hr,rfl⟩:=cg.mp hm
  have ne:¬bT r=bT q:=fun z=>h (yb z▸hr)
  rw [aa ne]
  rfl
 ·simp
theorem Gp(W:List Nat→Int)(qs:List (List Nat))(q:List Nat):wD W qs++[(bT q,V.int (W q))]=wD W (qs++[q]):=by unfold wD;rw [dJ];rfl
theorem Gq{H:Hp}{c:V→Bool}{f:List Nat→Bool}:∀{xs:List V} {qs:List (List Nat)},fh H xs qs→(∀(i:Nat) (v:V) (q:List Nat),xs[i]?=some v→qs[i]?=some q→c v=f q)→fh H (xs.filter c) (qs.filter f)
 | [],[],h,_=>h
 | [],_::_,h,_=>by have:=h.1;simp at this
 | _::_,[],h,_=>by have:=h.1;simp at this
 | x::xs,q::qs,h,hc=>by
  have ih:=Gq (H:=H) (c:=c) (f:=f) (xs:=xs) (qs:=qs) ⟨by have:=h.1;simpa using this,fun i v q h1 h2=>h.2 (i+1) v q (by simpa using h1) (by simpa using h2)⟩ fun i v q h1 h2=>hc (i+1) v q (by simpa using h1) (by simpa using h2)
  have e:=hc 0 x q rfl rfl;obtain ⟨b,eb,gb⟩:=h.2 0 x q rfl rfl;rw [nz,nz,e]
  split
  ·refine ⟨by simpa using ih.1,fun i v r h1 h2=>?_⟩
   cases i with
   | zero=>cases h1;cases h2;exact ⟨b,eb,gb⟩
   | succ i=>exact ih.2 i v r (by simpa using h1) (by simpa using h2)
  ·exact ih
def vC(H:Hp)(m:Nat):V→Bool
 | .ref b=>match H b with
  | some (.tup q)=>decide (q.length=m)
  | _=>false
 | _=>false
variable {H:Hp}
theorem Gr{m:Nat}{b:Addr}{q:List V}(h:H b=some (.tup q)):vC H m (.ref b)=decide (q.length=m):=by unfold vC;dsimp only;rw [h]
variable {H':Hp} {D:Addr} {rs:Nat→Addr} {g:Nat→List Nat}
theorem gg.Gs(h:gg H D n rs g)(k:∀b ys,H b=some (.lst ys)→H' b=some (.lst ys)):gg H' D n rs g:=⟨k _ _ h.lst,h.inj,h.ne,fun i hi=>k _ _ (h.at' i hi)⟩
theorem gg.mono(h:gg H D n rs g)(k:aj H H'):gg H' D n rs g:=h.Gs fun b _ e=>k b _ e
end My
namespace L2
open PySem
theorem Qi{K:aG}{tl:TE}{g:TG}{tb:TS}{D:Ends}{σ:St}{H:Hp}(h:tl σ H fun x H1=>∃a,x=.ref a∧(∃xs,bj K H1 a xs)∧∃W:Nat→Nat→St→Hp→Prop,(∃m,W 0 m σ H1)∧∀i m σ H,W i m σ H→
  ((iM K a).stop i H∧D.nx σ H)∨((iM K a).go i H∧∃N:St→Hp→Prop,(∀σ' H',N σ' H'→∃m',m'<m∧W (i+1) m' σ' H')∧∀x H',(iM K a).du i H x H'→g x σ H' fun σ2 H2=>tb {D with nx:=N,ct:=N,bk:=D.nx} σ2 H2)):Dw (Ds K tl) g tb D σ H:=h
end L2
namespace My
theorem Qj{α:Type}{l:List α}{j:Nat}{q:α}(nd:l.Nodup)(h:l[j]?=some q):q∉l.take j:=fun z=>by obtain ⟨hj,e⟩:=bL.mp h;rw [←m_ j l,List.drop_eq_getElem_cons hj,e,kH] at nd;exact nd.2.2 q z q cR rfl
theorem Gu{α:Type}[DecidableEq α]:∀{l m:List α},l.Nodup→(∀x∈l,x∈m)→l.length≤m.length
 | [],_,_,_=>bH _
 | x::l,m,nd,h=>by obtain ⟨nx,nd⟩:=gT.mp nd;have xm:=h x cR;have:=Gu (m:=m.erase x) nd fun y hy=>(List.mem_erase_of_ne (fun e:y=x=>nx (e▸hy))).mpr (h y (cV _ hy));rw [List.length_erase_of_mem xm] at this;have:=List.length_pos_of_mem xm;rw [dS];omega
end My
namespace L2
open PySem My
variable {H:Hp} {a:Addr} {o:Obj} {kvs:List (List Key×V)}
theorem Qk(h:H a=some (.aX o (.dT kvs))):jw (yf a o kvs) (kvs.map (·.2)) H:=by
 refine ⟨fun i Hc s hi=>⟨s _ _ h,by simpa using hi⟩,fun i Hc x H' s y=>?_,fun i Hc s hi=>⟨s _ _ h,by simpa using hi⟩⟩
 obtain ⟨rfl,kv,e,rfl⟩:=y;exact ⟨rfl,fun _=>by rw [bU,e];rfl⟩
variable {te:TE} {σ:St} {Q:VK}
theorem Ql{ρ:St→St}(h:H a=some (.aX o (.dT kvs)))(y0:V)(hl:kvs.length<sizeLine)
  (step:∀kv∈kvs,∀(Hc:Hp) (R:VK),R y0 Hc→te (some kv.2::ρ σ) Hc R)
  (fin:∀D Hc,H D=none→aj H Hc→Hc D=some (.lst (List.replicate kvs.length y0))→Q (.ref D) Hc):ie (fun _ H R=>R (yf a o kvs) H) ρ (fun _ H Q=>Q true H) te σ H Q:=by
 refine qW (xs:=kvs.map (·.2)) (fun R k=>k _ _ (aj.refl _) (Qk h)) (by rw [aE];exact hl) (fun _ i y _=>y=y0) (fun _ _ _ _ _ _ h _ _=>h) ?_ ?_
 ·intro D i x hx Hc R sc _ kc
  rw [bU] at hx;cases e:kvs[i]? with
  | none=>rw [e] at hx;cases hx
  | some kv=>rw [e] at hx;cases hx;exact step kv (iG e) Hc R (kc _ Hc (aj.refl _) rfl)
 ·intro D ys Hc nD sc ly hP eD
  refine fin D Hc nD sc ?_;rw [eD]
  congr 2
  rw [aE] at ly;exact List.eq_replicate_iff.mpr ⟨ly,fun y hy=>by obtain ⟨i,hi⟩:=List.getElem?_of_mem hy;exact hP i y hi⟩
open PySem
theorem boot_dict:bootBuiltins "dict"=some (.type "dict"):=by decide +kernel
theorem Qm(h:te σ H fun v H1=>∃a kvs ks o,H a=some (.dT kvs)∧H1 a=some (.aX o (.dT ks))∧Q v (upd H1 a (.dT ks))):Gj te σ H Q:=h
theorem Qn{t:TE}{a b:TS}{D:Ends}(h:tB t σ H fun b' H1=>if b'=true then a D σ H1 else b D σ H1):wI (tB t) a b D σ H:=h
end L2
set_option maxRecDepth 100000
set_option maxHeartbeats 4000000
namespace My
open PySem L2
def top(i:Nat):Stmt:=PySem.Challenge.pw_bandwright_k26_worths_of_all_parts.main.body.getD i (.Pass ⟨0,0,0,0⟩)
abbrev yg:Stmt:=top 5
abbrev yh:Stmt:=top 7
abbrev yi:Stmt:=top 9
abbrev yj:Stmt:=top 10
abbrev yk:Stmt:=top 11
abbrev yl:Stmt:=top 12
abbrev ym:Stmt:=top 13
abbrev yn:Stmt:=top 14
abbrev yo:Stmt:=top 15
abbrev yp:Stmt:=top 18
abbrev yq:Stmt:=top 19
abbrev yr:Stmt:=top 20
abbrev yt:Stmt:=top 21
abbrev yu:Stmt:=top 22
abbrev yv:Stmt:=top 23
abbrev yw:Stmt:=top 24
abbrev yy:Stmt:=top 25
abbrev yA:Stmt:=top 27
abbrev yB:Stmt:=top 28
abbrev yC:Stmt:=top 29
abbrev yE:Stmt:=top 30
abbrev yF:Stmt:=top 31
abbrev yG:Stmt:=top 32
abbrev yH:Stmt:=top 33
abbrev yI:Stmt:=top 34
abbrev yJ:Stmt:=top 35
abbrev yK:Stmt:=top 36
abbrev yL:Stmt:=top 37
abbrev yM:Stmt:=top 38
abbrev yN:Stmt:=top 39
set_option genInjectivity false in
set_option genSizeOf false in
structure BC where
 oK:Addr
 rm:FuncData
 oM:Addr
 rn:FuncData
 oN:Addr
 rp:FuncData
 oO:Addr
 rq:FuncData
 oP:Addr
 rA:FuncData
 oQ:Addr
 rB:FuncData
 oR:Addr
 rC:FuncData
 oS:Addr
 rD:FuncData
 oT:Addr
 rE:FuncData
 oU:Addr
 rF:FuncData
 oV:Addr
 rG:FuncData
 oW:Addr
 rH:FuncData
 oX:Addr
 rJ:FuncData
 oY:Addr
 rK:FuncData
 oZ:Addr
 rN:FuncData
 o6:Addr
 rO:FuncData
 o7:Addr
 rQ:FuncData
 o8:Addr
 rR:FuncData
 o9:Addr
 rS:FuncData
 o_:Addr
 rT:FuncData
 pb:Addr
 rV:FuncData
 ph:Addr
 rW:FuncData
 pj:Addr
 rX:FuncData
 pA:Addr
 rY:FuncData
 pB:Addr
 rZ:FuncData
 pC:Addr
 r6:FuncData
 pD:Addr
 r_:FuncData
 pE:Addr
 si:FuncData
 pF:Addr
 sj:FuncData
 mY:Addr
 pG:FuncData
 lQ:Addr
 sq:Addr
abbrev cw (mg:cN) (x:Str) (f:Addr):Prop:=mg x=some (.ref f)
abbrev Gv (K:aG) (a:Addr):Prop:=PySem.W.excIn K a [.type "ValueError",.type "Exception",.type "BaseException",.type "object"] "ValueError.__new__"=true
structure Txt (K:aG) (mg:cN) (t:BC):Prop where
 sr:aY K "is_whole" yg t.oK t.rm
 Gw:Binds K t.rm ["thing"] []
 Gx:cw mg "is_whole" t.oK
 pH:aY K "neighbours" yh t.oM t.rn
 BD:Binds K t.rn ["shape"] []
 BE:cw mg "neighbours" t.oM
 su:aY K "is_order" yi t.oN t.rp
 Gy:Binds K t.rp ["thing","n"] []
 Gz:cw mg "is_order" t.oN
 sC:aY K "check_order" yj t.oO t.rq
 GA:Binds K t.rq ["order","n"] []
 GB:cw mg "check_order" t.oO
 sF:aY K "turns_of" yk t.oP t.rA
 GC:Binds K t.rA ["order"] []
 GD:cw mg "turns_of" t.oP
 sG:aY K "link_all" yl t.oQ t.rB
 GF:Binds K t.rB ["linked","places"] []
 GG:cw mg "link_all" t.oQ
 sI:aY K "later" ym t.oR t.rC
 GH:Binds K t.rC ["shape","order"] []
 GI:cw mg "later" t.oR
 pI:aY K "place_deeds" yn t.oS t.rD
 BF:Binds K t.rD ["many"] []
 BG:cw mg "place_deeds" t.oS
 pJ:aY K "deeds" yo t.oT t.rE
 BH:Binds K t.rE ["shape","order"] []
 BI:cw mg "deeds" t.oT
 pK:aY K "check_size" yp t.oU t.rF
 BJ:Binds K t.rF ["shape"] []
 BK:cw mg "check_size" t.oU
 sJ:aY K "still_near" yq t.oV t.rG
 GJ:Binds K t.rG ["linked","done","place"] []
 GK:cw mg "still_near" t.oV
 sL:aY K "cost" yr t.oW t.rH
 GL:Binds K t.rH ["shape","done","place"] []
 GN:cw mg "cost" t.oW
 sM:aY K "rising_tuples" yt t.oX t.rJ
 GO:Binds K t.rJ ["n"] []
 GP:cw mg "rising_tuples" t.oX
 pL:aY K "and_done" yu t.oY t.rK
 BL:Binds K t.rK ["done","place"] []
 BM:cw mg "and_done" t.oY
 pM:aY K "choices" yv t.oZ t.rN
 BN:Binds K t.rN ["shape","done","worth_of"] []
 BO:cw mg "choices" t.oZ
 pN:aY K "worths" yw t.o6 t.rO
 BP:Binds K t.rO ["shape"] []
 BQ:cw mg "worths" t.o6
 sN:aY K "fewest" yy t.o7 t.rQ
 GQ:Binds K t.rQ ["shape"] []
 GR:cw mg "fewest" t.o7
 sO:aY K "_law_fill" yA t.o8 t.rR
 GS:Binds K t.rR ["_law_cell","_law_at"] []
 GU:cw mg "_law_fill" t.o8
 gm:aY K "_law_next" yB t.o9 t.rS
 jJ:Binds K t.rS ["_law_pen","_law_many"] []
 jK:cw mg "_law_next" t.o9
 pO:aY K "_law_turned" yC t.o_ t.rT
 BR:Binds K t.rT ["_law_pen","_law_some"] []
 BS:cw mg "_law_turned" t.o_
 sP:aY K "_law_tied_by" yE t.pb t.rV
 GV:Binds K t.rV ["_law_pen","_law_way","_law_size","_law_wide","_law_i","_law_j"] []
 GW:cw mg "_law_tied_by" t.pb
 sQ:aY K "_law_grown_links" yF t.ph t.rW
 GX:Binds K t.rW ["_law_pen","_law_size"] []
 GY:cw mg "_law_grown_links" t.ph
 sR:aY K "_law_drawn" yG t.pj t.rX
 GZ:Binds K t.rX ["_law_pen","_law_most"] []
 G0:cw mg "_law_drawn" t.pj
 sS:aY K "_law_named" yH t.pA t.rY
 G1:Binds K t.rY ["_law_size","_law_links","_law_names"] []
 G2:cw mg "_law_named" t.pA
 sU:aY K "_law_beside" yI t.pB t.rZ
 G3:Binds K t.rZ ["_law_shape"] []
 G4:cw mg "_law_beside" t.pB
 sV:aY K "_law_walks" yJ t.pC t.r6
 G5:Binds K t.r6 ["_law_beside_here","_law_through","_law_start"] []
 G6:cw mg "_law_walks" t.pC
 sW:aY K "_law_cost" yK t.pD t.r_
 G7:Binds K t.r_ ["_law_beside_here","_law_done","_law_place"] []
 G8:cw mg "_law_cost" t.pD
 sX:aY K "_law_parts" yL t.pE t.si
 G9:Binds K t.si ["_law_size"] []
 G_:cw mg "_law_parts" t.pE
 sY:aY K "_law_worths" yM t.pF t.sj
 Hi:Binds K t.sj ["_law_shape"] []
 Hj:cw mg "_law_worths" t.pF
 sZ:aY K "law" yN t.mY t.pG
 Qo:Binds K t.pG ["script"] []
 Hk:cw mg "law" t.mY
 Hl:cw mg "NoOrder" t.lQ
 Hm:cw mg "NoSize" t.sq
 Qp:mg "ValueError"=none
 Ho:mg "all"=none
 Hq:mg "any"=none
 BU:mg "bool"=none
 Hr:mg "dict"=none
 Hs:mg "enumerate"=none
 Ht:mg "int"=none
 s_:mg "isinstance"=none
 iB:mg "len"=none
 tj:mg "list"=none
 Hu:mg "max"=none
 vD:mg "min"=none
 fi:mg "range"=none
 HA:mg "reversed"=none
 pP:mg "sorted"=none
 HB:mg "sum"=none
 yO:mg "tuple"=none
 HC:∃u,mg "MOST"=some u∧RelV (.int 9) u
 HD:Gv K t.lQ
 HE:Gv K t.sq
section
variable {P:Program} {w:World} {K:aG} {mg:cN} {base:Heap} {t:BC}
theorem Qq:bX ["thing"] ["thing"] (bo yg):=cG
theorem Qr(T:Txt K mg t):bF P w K mg base cH 1 t.oK t.rm ["thing"] L_:=by
 have S:=Qq;refine T.sr.dN S (fun _ _ _ _ H _ Q _ hr h=>?_);obtain ⟨v,rfl,ha,k⟩:=h;refine ⟨_,(aK (bW (JF (cT (uD (K:=K)) rfl T.s_ boot_isinstance (ak (pv 0) (ak (uc (v:=.ty "int") rfl T.Ht boot_int rfl) au))) (Dl (JH (cT (uD (K:=K)) rfl T.s_ boot_isinstance (ak (pv 0) (ak (uc (v:=.ty "bool") rfl T.BU boot_bool rfl) au)))))))),?_⟩;obtain ⟨Ty,ty,k1,k2,_⟩:=ha.Ap (K:=K);refine ⟨_,rfl,_,_,_,_,rfl,rfl,ty,k1,_,rfl,dv (fun h1=>?_) (fun h1=>?_)⟩
 ·refine ⟨_,rfl,_,_,_,_,rfl,rfl,ty,k2,_,rfl,?_⟩
  have e:(!qV v)=qU v:=by
   cases h2:qV v with
   | true=>rw [L9 h2];rfl
   | false=>rw [h2,Bool.or_false] at h1;rw [h1];rfl
  show Q (.bl (!qV v)) H;rw [e];exact k
 ·have e:qU v=false:=by
   cases h2:qU v with
   | true=>rw [h2] at h1;exact absurd rfl h1
   | false=>rfl
  rw [e] at k;exact k
theorem Qs:bX ["shape","linked","i","j"] ["shape"] (bo yh):=cG
theorem HF(T:Txt K mg t):bF P w K mg base cH 1 t.oM t.rn ["shape"] NN:=by
 have S:=Qs;refine T.pH.dN S (fun _ _ _ _ H _ _ _ hr h=>?_);obtain ⟨tp,n,L,rfl,⟨lt,us,dA,elt,hL⟩,ok,n9,kk⟩:=h;have hu:=gW (kK (show 1≤64 by decide) _) hr.units
 have yP:((List.range n).map fun i:Nat=>V.int (0+(i:Int))).length=n:=by rw [aE,dz]
 refine ⟨_,(aC (xq (i0:=1) (N:=["place"]) (ρ:=(fun σ=>[])) (fF [] rfl) rfl S.nd rfl (Or.inl rfl) (jj rfl T.fi (ak (bJ gy (pv 0) aH) au)) (fun _ _ _=>.nil) (fun _ _ _=>NF))
  (aC (dW dD rfl (Dt (bJ gy (pv 0) aH)) (qG rfl (iL (cy (i:=2) S.nd rfl (Or.inl rfl)) (iL (cy (i:=3) S.nd rfl (Or.inl rfl)) qF)))
   (aC (lG hu (bJ dg (pv 1) (pv 2)) (pv 3) hE rfl)
  (aK (lG hu (bJ dg (pv 1) (pv 3)) (pv 2) hE rfl))))
  (aK (bW (pv 1))))),?_⟩
 refine dY (ig (AE (xs:=(List.range n).map fun i:Nat=>V.int (0+(i:Int))) (n:=n) yP (fun R h=>⟨_,rfl,tp,_,_,_,rfl,rfl,.of dA,rfl,(n:Int),rfl,by omega,by omega,h _ _ (aj.refl _) (by rw [dq];exact Ax)⟩) (cj (by omega)) (fun _ i y Hx=>Hx y=some (.dK (dk []))∧H y=none) ?_ ?_ ?_))
 ·intro D i y Ha Hb ys ⟨h1,h2⟩ hy e f
  exact ⟨f y _ hy h1,h2⟩
 ·intro D i x hx Hc R sc _ kc
  refine fun p np=>kc p _ (eZ (aj.refl _) np) np ⟨_,aw⟩ ⟨aw,?_⟩;cases e:H p with
  | none=>rfl
  | some o=>rw [sc _ _ e] at np;cases np
 ·intro D ds H1 nD s1 inj hA eD
  have K0:cX H1 D n ds (fun _=>True) (fun _=>[]):=⟨eD,inj,fun i hi=>(hA i hi).2,fun i hi _=>(hA i hi).1.1,fun i _=>iy.nil n⟩;have fr:∀i,i<n→H (ds i)=none:=fun i hi=>(hA i hi).1.2;dsimp only [aT];refine dY ⟨_,rfl,tp,_,_,_,rfl,rfl,.of (s1 _ _ dA),rfl,lt,rfl,⟨_,.of (s1 _ _ elt)⟩,?_⟩;refine DA (K:=K) (a:=lt) (xs:=us) (fun k σ Hc=>∃(f:Nat→List Nat) (v2 v3:Option V),σ=[some (.ref tp),some (.ref D),v2,v3]∧aj H Hc∧cX Hc D n ds (fun _=>True) f∧d6 n (L.take k) f) ⟨_,_,_,rfl,s1,K0,d6.nil n⟩ (fun k σ Hc _ ⟨_,_,_,_,sc,_⟩=>.of (sc _ _ elt)) ?_ ?_
  ·rintro k x σ Hc hx ⟨f,v2,v3,rfl,sc,KL,nb⟩
   have hk:k<L.length:=by rw [←hL.1];exact (bL.mp hx).1
   obtain ⟨b,rfl,eb⟩:=hL.2 k x L[k] hx (by simp [hk])
   have pk:=ok L[k] (c_ hk);have tk:L.take (k+1)=L.take k++[L[k]]:=by rw [kG,bV hk];rfl
   generalize L[k]=p at eb pk tk;obtain ⟨p1,p2⟩:=p;dsimp only at pk eb;obtain ⟨i,rfl⟩:=g6 pk.1;obtain ⟨j,rfl⟩:=g6 pk.2.2.1;have hi:i<n:=by omega
   have hj:j<n:=by omega
   refine ⟨b,_,rfl,.of (sc _ _ eb),rfl,_,_,rfl,_,_,rfl,rfl,?_⟩;obtain ⟨q1,K1⟩:=KL.put hi hj trivial n9;obtain ⟨q2,K2⟩:=K1.put hj hi trivial n9;refine ⟨_,rfl,_,rfl,D,_,_,_,rfl,rfl,.of KL.lst,KL.ix hi,_,rfl,_,_,rfl,q1,?_⟩;refine ⟨_,rfl,_,rfl,D,_,_,_,rfl,rfl,.of K1.lst,K1.ix hj,_,rfl,_,_,rfl,q2,?_⟩;have off:∀(Hx:Hp) (i:Nat) (o:HO),i<n→aj H Hx→aj H (upd Hx (ds i) o):=fun Hx i o hi sx a u e=>by
    rw [aB (fun z=>by rw [z,fr i hi] at e;cases e)]
    exact sx _ _ e
   exact ⟨_,_,_,rfl,off _ _ _ hj (off _ _ _ hi sc),K2,by rw [tk];exact nb.more hi hj⟩
  ·rintro σ Hc ⟨f,v2,v3,rfl,sc,KL,nb⟩
   rw [hL.1,gX] at nb;exact ⟨_,rfl,kk _ _ _ _ sc nD fr KL nb⟩
theorem Qt:bX ["many"] ["many"] (bo yn):=cG
theorem HG(T:Txt K mg t):bF P w K mg base cH 1 t.oS t.rD ["many"] Oe:=by have S:=Qt;refine T.pI.dN S (fun _ _ _ _ H _ _ _ hr h=>?_);obtain ⟨m,rfl,m1,k⟩:=h;refine ⟨_,(aK (bW (ba fB (ba fB (ba hJ (pv 0) (pv 0)) (ba hJ aH (pv 0))) aH))),?_⟩;exact ⟨_,rfl,_,rfl,_,_,rfl,rfl,.inl ⟨by omega,by omega⟩,_,rfl,_,_,rfl,rfl,.inl ⟨by omega,by omega⟩,_,_,rfl,rfl,_,_,rfl,rfl,k⟩
theorem Qu:bX ["shape"] ["shape"] (bo yp):=cG
theorem HH(T:Txt K mg t):bF P w K mg base (eM P w) 1 t.oU t.rF ["shape"] Of:=by
 have S:=Qu;obtain ⟨uM,hM,rM⟩:=T.HC;refine T.pK.eY S (fun _ _ _ _ H _ _ _ hr h L=>?_);obtain ⟨tp,n,Lk,rfl,⟨lt,us,dA,elt,kY⟩,n9,k⟩:=h;refine ⟨_,(aK (dt (df qL (bJ gy (pv 0) aH) (Jy (v:=.int 9) rfl hM rM)) (aK (Eh L rfl PySem.F.excBase_ValueError T.HE rfl T.Hm (ak Di au))) dr)),?_⟩;refine ⟨_,rfl,tp,_,_,_,rfl,rfl,.of dA,rfl,_,_,rfl,rfl,_,rfl,dv (fun hc=>?_) (fun hc=>?_)⟩
 ·have hc:(9:Int)<(n:Int):=gZ hc
  omega
 ·exact k
theorem Qv:bX ["linked","done","place","met","waiting","here","other"] ["linked","done","place"] (bo yq):=cG
theorem Qw(T:Txt K mg t):bF P w K mg base cH 1 t.oV t.rG ["linked","done","place"] Oj:=by
 have S:=Qv
 refine T.sJ.dN S (fun _ _ _ _ H vs Q _ hr h=>?_)
 obtain ⟨D,d,n,ds,f,done,p,rfl,KL,ed,ld,pn,yQ,kk⟩:=h
 have hu:=gW (kK (show 1≤64 by decide) _) hr.units
 refine ⟨_,(aC (putL 3 S.nd (Ff (Fc (pv 2) hE Fb) rfl rfl (fun h=>by cases h) (by decide)))
  (aC (putL 4 S.nd (dM (ak (pv 2) au)))
  (aC (wK dD (df qL (cT ke rfl T.iB iH (ak (pv 4) au)) aH) (aC (putL 5 S.nd (D8 gv zQ zR Eb (pv 4)))
  (aK (dW dD rfl (xT (bJ dg (pv 0) (pv 5))) (cy (i:=6) S.nd rfl (Or.inl rfl))
   (aK (dt (Dj (E8 hu (pv 6) (pv 3)) rfl) (aC (lG hu (pv 3) (pv 6) hE rfl)
  (aK (dt (nZ D7 (pv 6) (pv 1) rfl) (aK (fQ (iQ gv jV jW ic (pv 4) (ak (pv 6) au)))) dr))) dr))))))
  (aK (bW (iR (N:=["other","place","done"]) (ρ:=(fun σ=>[σ[2]?.join,σ[1]?.join])) (fF [2,1] rfl) rfl (xT (pv 3)) (fun _ _ _=>(.one (PW.pt (pw_and (df uh (pv 0) (pv 1)) (pw_and1 (nZ (xV (K:=K)) (pv 0) (pv 2) rfl)))))) (fun _ _ _=>(pv 0)))))))),?_⟩
 refine cP fun _ i6=>(ig fun mt iC=>⟨_,rfl,aw,[((Sum.inl (p:Int):Key),V.bl true)],rfl,by show 1≤15;decide,?_⟩)
 have VZ:=iC
 have s0:∀b o,b≠mt→H b=some o→upd (upd H mt (.dK [])) mt (.dK (jD [] [((Sum.inl (p:Int):Key),V.bl true)])) b=some o:=fun b o ne e=>by rw [aB ne,aB ne];exact e
 have em:upd (upd H mt (.dK [])) mt (.dK (jD [] [((Sum.inl (p:Int):Key),V.bl true)])) mt=some (.dK (dk [p])):=by rw [aw];rfl
 generalize upd (upd H mt (.dK [])) mt (.dK (jD [] [((Sum.inl (p:Int):Key),V.bl true)]))=H1 at s0 em ⊢
 have sm:aj H H1:=fun b o e=>s0 b o (fun z=>by rw [z,iC] at e;cases e) e
 dsimp only [aT]
 refine i6 _ _ ?_
 refine cP fun _ i7=>⟨_,rfl,by show 1≤sizeLine;decide,fun l nl=>?_⟩
 have sl:aj H1 (upd H1 l (.lst [V.int (p:Int)])):=aN nl
 have el:upd H1 l (.lst [V.int (p:Int)]) l=some (.lst (([p]:List Nat).map fun k:Nat=>V.int (k:Int))):=aw
 generalize upd H1 l (.lst [V.int (p:Int)])=H2 at sl el ⊢
 have ky:H l=none:=none_of sm nl
 have lm:l≠mt:=fun z=>by rw [z,em] at nl;cases nl
 have s2:=sm.trans sl
 have mD:mt≠D:=fun z=>absurd KL.lst (by rw [←z,iC];exact fun h=>by cases h)
 have lD:l≠D:=fun z=>absurd KL.lst (by rw [←z,ky];exact fun h=>by cases h)
 have BV:∀i,i<n→ds i≠mt:=fun i hi z=>absurd (KL.at' i hi trivial) (by rw [z,iC];exact fun h=>by cases h)
 have yR:∀i,i<n→ds i≠l:=fun i hi z=>absurd (KL.at' i hi trivial) (by rw [z,ky];exact fun h=>by cases h)
 have HI:∀i,i<n→d≠ds i:=fun i hi z=>absurd (KL.at' i hi trivial) (by rw [←z,ed];exact fun h=>by cases h)
 dsimp only [aT]
 refine i7 _ _ ?_
 refine dY ⟨fun m σ Hc=>∃(ks ws:List Nat) (v5 v6:Option V),σ=[some (.ref D),some (.ref d),some (.int (p:Int)),some (.ref mt),some (.ref l),v5,v6]∧m=2*(n-ks.length)+ws.length∧oA n ds H Hc∧lJ Hc D n ds f∧Hc mt=some (.dK (dk ks))∧Hc l=some (.lst (ws.map fun k:Nat=>V.int (k:Int)))∧di n (fg n f) (·∈done) p none (fun _=>True) ks ws∧ws.length≤ks.length,⟨_,[p],[p],_,_,rfl,rfl,fun b o e _=>s2 _ _ e,(KL.mono s2).fr,sl _ _ em,el,di.start pn,ay _⟩,?_⟩
 rintro m' σ Hc ⟨ks,ws,v5,v6,rfl,Qx,oc,Kc,vE,lR,wk,wl⟩
 have BW:=wk.pl.len
 refine ⟨_,rfl,l,_,rfl,.inl (.of lR),_,_,rfl,rfl,_,rfl,dv (fun hb=>?_) (fun hb=>?_)⟩
 ·have hb:(0:Int)<((ws.map fun k:Nat=>V.int (k:Int)).length:Int):=gZ hb
  rw [aE] at hb
  have vF:ws≠[]:=fun z=>by rw [z] at hb;simp at hb
  obtain ⟨us,h,rfl⟩:∃us h,ws=us++[h]:=⟨ws.dropLast,ws.getLast vF,(List.dropLast_concat_getLast vF).symm⟩
  have Qy:(us++[h]).length=us.length+1:=by simp
  have hh:=wk.wt h (dI _ (bR.mpr rfl))
  have hn:h<n:=wk.pl.2 h hh.1
  have jL:=wk.pop
  refine ⟨_,fun _ _ h=>h,?_⟩
  refine ⟨_,rfl,.inl ⟨rfl,_,.of lR⟩,l,_,.int (h:Int),rfl,rfl,lR,by simp,?_⟩
  rw [dJ,cZ,qa,List.dropLast_concat]
  have o1:∀b u,b≠l→Hc b=some u→upd Hc l (.lst (us.map fun k:Nat=>V.int (k:Int))) b=some u:=fun b u ne e=>by rw [aB ne];exact e
  have vG:upd Hc l (.lst (us.map fun k:Nat=>V.int (k:Int))) l=some (.lst (us.map fun k:Nat=>V.int (k:Int))):=aw
  have vH:∀{Hx Hy:Hp},oA n ds H Hx→(∀b u,b≠l→Hx b=some u→Hy b=some u)→oA n ds H Hy:=fun h k b u e ne=>k b u (fun z=>by rw [z,ky] at e;cases e) (h b u e ne)
  have BX:∀{Hx Hy:Hp},oA n ds H Hx→(∀b u,b≠mt→Hx b=some u→Hy b=some u)→oA n ds H Hy:=fun h k b u e ne=>k b u (fun z=>by rw [z,iC] at e;cases e) (h b u e ne)
  have K1:=Kc.keep o1 lD yR
  have pQ:=vH oc o1
  have vI:=o1 _ _ (Ne.symm lm) vE
  generalize upd Hc l (.lst (us.map fun k:Nat=>V.int (k:Int)))=H3 at o1 vG K1 pQ vI ⊢
  dsimp only [aT]
  refine Bk (a:=ds h) (kvs:=dk (f h)) (fun Q q=>⟨_,rfl,_,rfl,D,_,_,_,rfl,rfl,.of K1.lst,oz hn,q⟩) (K1.at' h hn) fun ob Hf lT off=>?_
  have Kf:=K1.aX off hn lT KL.inj (KL.ne h hn)
  have Qz:oA n ds H Hf:=fun b u e ne=>off b u (ne h hn) (pQ b u e ne)
  have QA:=off _ _ (Ne.symm (BV h hn)) vI
  have QB:=off _ _ (Ne.symm (yR h hn)) vG
  refine Ol (fun i σ He=>∃(ks us:List Nat) (v6:Option V),σ=[some (.ref D),some (.ref d),some (.int (p:Int)),some (.ref mt),some (.ref l),some (.int (h:Int)),v6]∧oA n ds H He∧lJ He D n ds f∧He (ds h)=some (.aX ob (.dK (dk (f h))))∧He mt=some (.dK (dk ks))∧He l=some (.lst (us.map fun k:Nat=>V.int (k:Int)))∧di n (fg n f) (·∈done) p (some h) (·∈(f h).take i) ks us∧us.length≤ks.length∧h∈ks∧2*(n-ks.length)+us.length<m') ⟨ks,us,_,rfl,Qz,Kf,lT,QA,QB,⟨jL.pl,jL.st,jL.rc,jL.wt,fun x hx ox=>(jL.cl x hx ox).imp id fun e b hb=>(e b hb).imp id fun z=>⟨z.1,by simp⟩⟩,by omega,hh.1,by omega⟩ (fun i σ He _ ⟨_,_,_,_,_,_,e,_⟩=>e) ?_ ?_
  ·rintro i k σ He hk ⟨ks,us,v6,rfl,oe,Ke,BY,jM,lU,fj,ul,iD,lt⟩
   have km:k∈f h:=iG hk
   have kn:k<n:=(KL.pl h hn).2 k km
   have tk:=take_snoc hk
   have QC:=fj.pl.len
   dsimp only [aT]
   refine ⟨_,rfl,_,rfl,mt,_,rfl,.inl ⟨dk ks,Sum.inl (k:Int),.inl jM,rfl,rfl⟩,_,rfl,?_⟩
   rw [Fl]
   by_cases iE:k∈ks
   ·rw [ae iE]
    refine jq ⟨ks,us,_,rfl,oe,Ke,BY,jM,lU,?_,ul,iD,lt⟩
    have w2:=fj.old iE
    refine ⟨w2.pl,w2.st,w2.rc,w2.wt,fun x hx ox=>(w2.cl x hx ox).imp id fun e b hb=>(e b hb).imp id fun z=>⟨z.1,fun q=>z.2 ?_⟩⟩
    rw [tk] at q
    exact (cL.mp q).imp id bR.mp
   ·rw [aa iE]
    refine Ao ?_
    have al:=Fw iE
    have o4:∀b u,b≠mt→He b=some u→upd He mt (.dK (dk (bK ks k))) b=some u:=fun b u ne e=>by rw [aB ne];exact e
    refine dY ⟨_,rfl,_,rfl,mt,upd He mt (.dK (dk (bK ks k))),rfl,.inl ⟨dk ks,Sum.inl (k:Int),jM,rfl,by rw [vc];exact cj (by omega),by rw [Bf]⟩,?_⟩
    have pR:upd He mt (.dK (dk (bK ks k))) mt=some (.dK (dk (bK ks k))):=aw
    have K4:=Ke.keep o4 mD BV
    have lW:=BX oe o4
    have lY:=o4 _ _ lm lU
    have BZ:=o4 _ _ (BV h hn) BY
    generalize upd He mt (.dK (dk (bK ks k)))=H4 at o4 pR K4 lW lY BZ ⊢
    have conv:∀{vs:List Nat},di n (fg n f) (·∈done) p (some h) (fun x=>x∈(f h).take i∨x=k) (bK ks k) vs→di n (fg n f) (·∈done) p (some h) (·∈(f h).take (i+1)) (bK ks k) vs:=fun w2=>⟨w2.pl,w2.st,w2.rc,w2.wt,fun x hx ox=>(w2.cl x hx ox).imp id fun e b hb=>(e b hb).imp id fun z=>⟨z.1,fun q=>z.2 (by
     rw [tk] at q
     exact (cL.mp q).imp id bR.mp)⟩⟩
    have QD:=(fj.pl.add kn).len
    dsimp only
    refine ⟨_,rfl,_,rfl,d,_,rfl,.inr (.of (lW d _ ed HI)),rfl,xW done,_,rfl,dv (fun hb=>?_) (fun hb=>?_)⟩
    ·have hb:gB (.int (k:Int)) (done.map fun k:Nat=>V.int (k:Int))=true:=hb
     rw [lK,fk] at hb
     refine ⟨_,rfl,.inl ⟨rfl,_,.of lY⟩,_,rfl,l,_,_,rfl,rfl,lY,cj (by rw [aE];omega),?_⟩
     have o5:∀b u,b≠l→H4 b=some u→upd H4 l (.lst ((us.map fun k:Nat=>V.int (k:Int))++[V.int (k:Int)])) b=some u:=fun b u ne e=>by rw [aB ne];exact e
     exact ⟨bK ks k,us++[k],_,rfl,vH lW o5,K4.keep o5 lD yR,o5 _ _ (yR h hn) BZ,o5 _ _ (Ne.symm lm) pR,by rw [aw,dJ];rfl,conv (fj.new iE kn iD hh.2 ⟨hn,km⟩ (.inl ⟨hb,rfl⟩)),by rw [al,cS,jP];omega,fL.mpr (.inl iD),by rw [al,cS,jP];omega⟩
    ·have hb:¬gB (.int (k:Int)) (done.map fun k:Nat=>V.int (k:Int))=true:=hb
     rw [lK,fk] at hb
     exact ⟨bK ks k,us,_,rfl,lW,K4,BZ,pR,lY,conv (fj.new iE kn iD hh.2 ⟨hn,km⟩ (.inr ⟨hb,rfl⟩)),by rw [al];omega,fL.mpr (.inl iD),by rw [al];omega⟩
  ·rintro σ He ⟨ks,us,v6,rfl,oe,Ke,BY,jM,lU,fj,ul,iD,lt⟩
   rw [gX] at fj
   exact ⟨_,lt,ks,us,_,_,rfl,rfl,oe,Ke,jM,lU,fj.next fun b hb=>hb.2,ul⟩
 ·have w0:ws=[]:=by
   cases ws with
   | nil=>rfl
   | cons x r=>
    refine absurd (b8 ?_) hb
    show (0:Int)<_
    simp
  subst w0
  dsimp only
  refine AB (vh (Bk (a:=mt) (kvs:=dk ks) (fun Q q=>⟨_,rfl,q⟩) (.inl vE) fun ob Hf lT off=>?_))
  have B0:Hf d=some (.tup (done.map fun k:Nat=>V.int (k:Int))):=off _ _ (fun z=>by rw [z,iC] at ed;cases ed) (oc d _ ed HI)
  refine Bh lT (fun q=>!decide (q=p) && !decide (q∈done)) (cj (by omega)) ?_ ?_ ?_
  ·intro q hq Hx R sx hR
   refine ⟨_,rfl,_,rfl,rfl,_,rfl,dv (fun hb=>?_) (fun hb=>?_)⟩
   ·have ne:¬q=p:=fun z=>by
     subst z
     rw [qT,b8 rfl] at hb
     cases hb
    refine ⟨_,rfl,_,rfl,d,_,rfl,.inr (.of (sx _ _ B0)),rfl,xW done,_,rfl,?_⟩
    rw [bP ne,Bool.not_false,Bool.true_and] at hR
    have e:(if true=true then !gB (.int (q:Int)) (done.map fun k:Nat=>V.int (k:Int)) else gB (.int (q:Int)) (done.map fun k:Nat=>V.int (k:Int))) = !decide (q∈done):=by rw [ae rfl,lK]
    rw [e]
    exact hR
   ·have eq:q=p:=by
     by_cases z:(q:Int)=(p:Int)
     ·omega
     ·exact absurd (by rw [qT,bP z];rfl) hb
    rw [b8 eq,Bool.not_true,Bool.false_and] at hR
    exact hR
  ·intro q hq Hx R hR
   exact ⟨_,rfl,hR⟩
  ·intro r Hg nr sg eg
   refine kk Hg r _ (fun b u e ne=>sg _ _ (off _ _ (fun z=>by rw [z,iC] at e;cases e) (oc b u e ne))) eg ⟨ks,wk.pl,wk.done,by rw [aE]⟩
theorem QE:bX ["shape","done","place"] ["shape","done","place"] (bo yr):=cG
theorem QF(T:Txt K mg t):bF P w K mg base (eM P w) 2 t.oW t.rH ["shape","done","place"] Oo:=by
 have S:=QE;refine T.sL.eY S (fun _ _ _ _ H _ _ _ hr h L=>?_);obtain ⟨tp,d,n,Lk,done,p,rfl,hS,hL,n9,ed,ld,pn,kk⟩:=h
 refine ⟨_,(aC (fQ (bx (HH T) hr T.BK T.pK.kp T.BJ (n5 L) (ak (pv 0) au)))
  (aK (bW (bx (HG T) hr T.BG T.pI.kp T.BF b9 (ak (cT ke rfl T.iB iH (ak (bx (Qw T) hr T.GK T.sJ.kp T.GJ b9 (ak (bx (HF T) hr T.BE T.pH.kp T.BD b9 (ak (pv 0) au)) (ak (pv 1) (ak (pv 2) au)))) au)) au))))),?_⟩
 refine ⟨_,rfl,tp,n,Lk,rfl,hS,n9,?_⟩;refine ⟨_,rfl,tp,n,Lk,rfl,hS,hL,by omega,fun H1 D ds f s1 nD B1 KL nb=>?_⟩
 refine ⟨_,rfl,_,rfl,D,d,n,ds,f,done,p,rfl,KL,s1 _ _ ed,ld,pn,by omega,fun H2 r xs off er near=>?_⟩
 have s2:aj H H2:=fun b u e=>off b u (s1 _ _ e) fun i hi z=>by rw [z,B1 i hi] at e;cases e
 have c9:=near.le;exact ⟨r,xs,rfl,.inl (.of er),xs.length,rfl,by omega,kk H2 f xs.length s2 nb near⟩
theorem QG:bX ["done","place"] ["done","place"] (bo yu):=cG
theorem HJ(T:Txt K mg t):bF P w K mg base cH 1 t.oY t.rK ["done","place"] O7:=by
 have S:=QG;refine T.pL.dN S (fun _ _ _ _ H _ Q _ hr h=>?_);obtain ⟨d,done,p,rfl,ed,l1,kk⟩:=h;refine ⟨_,(aK (bW (j_ Af rfl T.yO boot_tuple (ak (cT FQ rfl T.pP qz (ak (ba (Bi (K:=K)) (pv 0) (eX (ak (pv 1) au))) au)) au)))),?_⟩;have fin:∀(H1:Hp) (b:Addr),aj H H1→H1 b=some (.tup ((done++[p]).map V.int))→uo Bq (fun σ H Q=>Q [.ref b] H) [] H1 (fun x H2=>∃q ys,[x]=[V.ref q]∧((bj K H2 q ys∧∀l,H2 l=none→Q (.ref l) (upd H2 l (.tup ys)))∨(dc K H2 q ys∧Q (.ref q) H2))):=fun H1 b s1 eb=>by
  refine ⟨b,done++[p],rfl,eb,by simp;omega,fun ws D pm so nD=>⟨D,_,rfl,.inl ⟨.of aw,fun l nl=>?_⟩⟩⟩
  exact kk _ l ws pm so (none_of s1 (none_of (aN nD) nl)) (s1.trans ((aN nD).trans (aN nl))) aw
 refine ⟨_,rfl,_,rfl,by show 1≤sizeLine;decide,fun b nb=>?_⟩
 have s1:aj H (upd H b (.tup [.int p])):=aN nb;have eb:upd H b (.tup [.int p]) b=some (.tup [.int p]):=aw;generalize upd H b (.tup [.int p])=H1 at s1 eb ⊢;refine ⟨d,b,_,_,rfl,rfl,.of (s1 _ _ ed),.of eb,by simp,Bu (by rw [aE];simp;omega),fun e0=>?_,fun e1 c nc=>?_⟩
 ·have:done=[]:=qy.mp e0
  subst this;exact fin H1 b s1 eb
 ·refine fin _ c (s1.trans (aN nc)) ?_
  rw [aw,dJ];rfl
theorem QH:bX ["n","told","place"] ["n"] (bo yt):=cG
theorem QI(T:Txt K mg t):bF P w K mg base cH 1 t.oX t.rJ ["n"] FW:=by
 have S:=QH;refine T.sM.dN S (fun _ _ _ _ H _ _ _ hr h=>?_);obtain ⟨n,rfl,n9,kk⟩:=h
 refine ⟨_,(aC (putL 1 S.nd (dM (ak (eX au) au)))
  (aC (dW dD rfl (jj rfl T.fi (ak (pv 0) au)) (cy (i:=2) S.nd rfl (Or.inr rfl))
   (aK (putL 1 S.nd (ba w6 (pv 1) (iR (N:=["each","place"]) (ρ:=(fun σ=>[σ[2]?.join])) (fF [2] rfl) rfl (eW (pv 1)) (fun _ _ _=>.nil) (fun _ _ _=>(ba (Bi (K:=K)) (pv 0) (eX (ak (pv 1) au)))))))))
  (aK (bW (pv 1))))),?_⟩
 refine ⟨bH _,fun b nb=>⟨by show 1≤sizeLine;decide,fun l nl=>?_⟩⟩
 have s0:aj H (upd (upd H b (.tup [])) l (.lst [.ref b])):=(aN nb).trans (aN nl);have lb:b≠l:=fun z=>by rw [z,aw] at nl;cases nl
 have eb:upd (upd H b (.tup [])) l (.lst [.ref b]) b=some (.tup []):=by rw [aB lb,aw]
 have el:upd (upd H b (.tup [])) l (.lst [.ref b]) l=some (.lst [.ref b]):=aw;generalize upd (upd H b (.tup [])) l (.lst [.ref b])=H0 at s0 eb el ⊢;dsimp only [aT];refine dY ⟨_,rfl,(n:Int),rfl,by omega,by omega,?_⟩
 rw [dq];refine kU (fun k σ Hc=>∃(D:Addr) (xs:List V) (v2:Option V),σ=[some (.int (n:Int)),some (.ref D),v2]∧aj H Hc∧H D=none∧Hc D=some (.lst xs)∧fh Hc xs (aS k)) ⟨l,_,_,rfl,s0,none_of (aN nb) nl,el,⟨rfl,fun i v q h1 h2=>?_⟩⟩ ?_ ?_
 ·match i,h1,h2 with
  | 0,h1,h2=>cases h1;cases h2;exact ⟨b,rfl,eb⟩
  | i+1,h1,h2=>simp at h1
 ·rintro k σ Hc hk ⟨D,xs,v2,rfl,sc,nD,eD,tu⟩
  have p2:2 ^ k≤512:=bf (qg (by decide) (show k≤9 by omega)) (by decide)
  have lx:xs.length=2 ^ k:=tu.1.trans (rh k);dsimp only [aT];refine ig ⟨_,rfl,qW (xs:=xs) (fun R h=>⟨_,rfl,D,rfl,⟨_,.of eD⟩,h _ _ (aj.refl _) (k6 (.of eD))⟩) (cj (by omega)) (fun _ i y Hz=>∀q,(aS k)[i]?=some q→∃(b:Addr),y=.ref b∧Hz b=some (.tup ((q++[k]).map fun k:Nat=>V.int (k:Int)))) (fun Dd i y Ha Hb ys h e f q hq=>by obtain ⟨b,h1,h2⟩:=h q hq;exact ⟨b,h1,f b _ (fun z=>by rw [z,e] at h2;cases h2) h2⟩) ?_ ?_⟩
  ·intro Dd i x hx Hz R sz _ kz
   have hi:i<(aS k).length:=by rw [←tu.1];exact (bL.mp hx).1
   obtain ⟨b,rfl,eb⟩:=tu.2 i x _ hx (bV hi);have gN:(aS k)[i]?=some (aS k)[i]:=bV hi;generalize (aS k)[i]=us at eb gN;have lu:us.length≤60:=by obtain ⟨u1,u2⟩:=dm.mp (iG gN);have:=oG u1 u2;omega
   refine ⟨_,rfl,_,rfl,by show 1≤sizeLine;decide,fun q nq=>?_⟩
   have jN:=sz _ _ eb;have bq:b≠q:=fun z=>by rw [z,nq] at jN;cases jN
   have B2:upd Hz q (.tup [V.int (0+(k:Int))]) b=some (.tup (us.map fun k:Nat=>V.int (k:Int))):=(aB bq).trans jN;refine ⟨b,q,_,_,rfl,rfl,.of B2,.of aw,by simp,bf (show _≤100 by simp;omega) (by decide),fun e=>?_,fun ne p np=>?_⟩
   ·refine kz _ _ (aN nq) fun r hr=>⟨q,rfl,?_⟩
    rw [gN] at hr;cases hr;have:us=[]:=qy.mp e;subst this;rw [aw,fP];rfl
   ·refine kz _ _ ((aN nq).trans (aN np)) fun r hr=>⟨p,rfl,?_⟩
    rw [gN] at hr;cases hr;rw [aw,fP,dJ];rfl
  ·intro Dd ys Hd B3 sd kB lZ pU
   refine ⟨D,Dd,xs,ys,rfl,rfl,sd _ _ eD,pU,bf (show _≤2000 by omega) (by decide),fun l2 l5=>?_⟩
   have ty:fh Hd ys ((aS k).map (·++[k])):=⟨by rw [kB,aE,tu.1],fun i v q h1 h2=>by
    rw [bU] at h2;cases e:(aS k)[i]? with
    | none=>rw [e] at h2;cases h2
    | some r=>rw [e] at h2;cases h2;exact lZ i v h1 r e⟩
   exact ⟨l2,_,_,rfl,(sc.trans sd).trans (aN l5),none_of (sc.trans sd) l5,aw,((tu.mono sd).cat ty).mono (aN l5)⟩
 ·rintro σ Hc ⟨D,xs,v2,rfl,sc,nD,eD,tu⟩
  exact ⟨_,rfl,kk D xs Hc sc nD eD tu⟩
theorem QJ:bX ["shape","done","worth_of","left"] ["shape","done","worth_of"] (bo yv):=cG
theorem HK(T:Txt K mg t):bF P w K mg base (eM P w) 3 t.oZ t.rN ["shape","done","worth_of"] O_:=by
 have S:=QJ;refine T.pM.eY S (fun _ _ _ _ H _ _ _ hr h L=>?_);obtain ⟨tp,d,wo,n,Lk,done,kvs,W,rfl,gp,cu,n9,ed,hd,QK,hW,kk⟩:=h;have i8:=hr.units;have QL:=gW (kK (show 1≤64 by decide) _) hr.units
 refine ⟨_,(aC (xq (i0:=3) (N:=["place","done"]) (ρ:=(fun σ=>[σ[1]?.join])) (fF [1] rfl) rfl S.nd rfl (Or.inl rfl) (jj rfl T.fi (ak (bJ gy (pv 0) aH) au)) (fun _ _ _=>(.one (nZ (xV (K:=K)) (pv 0) (pv 1) rfl))) (fun _ _ _=>(pv 0)))
  (aK (bW (iR (N:=["place","shape","done","worth_of"]) (ρ:=(fun σ=>[σ[0]?.join,σ[1]?.join,σ[2]?.join])) (fF [0,1,2] rfl) rfl (eW (pv 3)) (fun _ _ _=>.nil) (fun _ _ _=>(eX (ak (ba fB (bx (QF T) hr T.GN T.sL.kp T.GL uB (ak (pv 1) (ak (pv 2) (ak (pv 0) au)))) (va QL (pv 3) (bx (HJ T) hr T.BM T.pL.kp T.BL b9 (ak (pv 2) (ak (pv 0) au))) (fun _ _=>rfl))) (ak (pv 0) au)))))))),?_⟩
 obtain ⟨lt,us,dA,elt,kY⟩:=id gp;obtain ⟨dup,QM⟩:=dm.mp hd;have dl:done.length≤9:=bf (oG dup QM) n9;have fl:(done.map fun k:Nat=>V.int (k:Int)).all gz=true:=by rw [qe];intro v hv;obtain ⟨q,_,rfl⟩:=cg.mp hv;rfl
 have yP:((List.range n).map fun i:Nat=>V.int (0+(i:Int))).length=n:=by rw [aE,dz]
 refine dY (ig (FN (xs:=(List.range n).map fun i:Nat=>V.int (0+(i:Int))) (vx done) (fun R h=>⟨_,rfl,tp,_,_,_,rfl,rfl,.of dA,rfl,(n:Int),rfl,by omega,by omega,h _ _ (aj.refl _) (by rw [dq];exact Ax)⟩) (cj (by omega)) ?_ (fun x Hx R h=>⟨_,rfl,h⟩) fun l H1 nl s1 el=>?_))
 ·intro x QN Hd R sd kR
  obtain ⟨q,hq,rfl⟩:=cg.mp QN;refine ⟨_,rfl,_,rfl,d,_,rfl,.inr (.of (sd _ _ ed)),rfl,fl,_,rfl,?_⟩;rw [O8] at kR;exact kR
 rw [O9] at el;dsimp only [aT];have V0:(bh n done).length≤n:=bf (jU _ _) (by rw [dz];exact ay _)
 refine AB (qW (xs:=(bh n done).map fun k:Nat=>V.int (k:Int)) (fun R h=>⟨_,rfl,l,rfl,⟨_,.of el⟩,h _ _ (aj.refl _) (k6 (.of el))⟩) (cj (by rw [aE];omega)) (fun _ i y Hz=>∀p,(bh n done)[i]?=some p→∃b,y=.ref b∧Hz b=some (.tup [.int (cA n Lk done p+W (aZ done p)),.int (p:Int)])) (fun Dd i y Ha Hb ys h e f q hq=>by obtain ⟨b,h1,h2⟩:=h q hq;exact ⟨b,h1,f b _ (fun z=>by rw [z,e] at h2;cases h2) h2⟩) ?_ ?_)
 ·intro Dd i x hx Hz R sz _ kz
  rw [bU] at hx;cases ep:(bh n done)[i]? with
  | none=>rw [ep] at hx;cases hx
  | some p=>
   rw [ep] at hx;cases hx;have pm:=iG ep;have pn:p<n:=by have:=(cQ.mp pm).1;exact cx.mp this
   have pd:p∉done:=by have:=(cQ.mp pm).2;simpa using this
   have B4:=s1.trans sz;refine ⟨_,rfl,_,rfl,_,rfl,tp,d,n,Lk,done,p,rfl,gp.mono B4,cu,n9,B4 _ _ ed,by omega,pn,fun H2 f c s2 nb near=>?_⟩
   have l6:=B4.trans s2;refine ⟨_,rfl,_,rfl,_,rfl,d,done.map iN,(p:Int),rfl,by rw [l6 _ _ ed,cE];rfl,by rw [aE];omega,fun H3 tq ws pm so l7 s3 tm=>?_⟩
   have ew:=Bw dup pd pm so;subst ew;have gO:=l6.trans s3;refine ⟨wo,_,rfl,(hW p pn pd)▸iX.t (k:=bT (aZ done p)) (gO _ _ QK) (by rw [tm];unfold bT;rw [cE,cE];rfl),_,_,rfl,rfl,_,rfl,by show 2≤sizeLine;decide,fun q nq=>?_⟩
   refine kz _ _ ((s2.trans s3).trans (aN nq)) fun r hr=>⟨q,rfl,?_⟩;rw [ep] at hr;cases hr;rw [aw,ya nb near]
 ·intro Dd ys Hd B3 sd kB lZ pU
  rw [aE] at kB;exact kk Hd Dd ys (s1.trans sd) pU ⟨kB,fun i v p h1 h2=>lZ i v h1 p h2⟩
theorem QO:bX ["shape","told","done"] ["shape"] (bo yw):=cG
theorem HL(T:Txt K mg t):bF P w K mg base (eM P w) 4 t.o6 t.rO ["shape"] Pd:=by
 have S:=QO;refine T.pN.eY S (fun _ _ _ _ H _ _ _ hr h L=>?_);obtain ⟨tp,n,Lk,rfl,gp,cu,n9,kk⟩:=h;have hu:=gW (kK (show 1≤64 by decide) _) hr.units
 refine ⟨_,(aC (fQ (bx (HH T) hr T.BK T.pK.kp T.BJ (n5 L) (ak (pv 0) au)))
  (aC (putL 1 S.nd E_)
  (aC (dW (Ft L) rfl (eW (OR (ak (bx (QI T) hr T.GP T.sM.kp T.GO b9 (ak (bJ gy (pv 0) aH) au)) au) rfl T.pP qz rfl T.iB iH)) (cy (i:=2) S.nd rfl (Or.inl rfl))
   (aK (lG hu (pv 1) (pv 2) (O3 rfl (ak (Mh (N:=["total","place"]) (ρ:=(fun σ=>[])) (Me [] rfl) rfl (eW (bx (HK T) hr T.BO T.pM.kp T.BN (n5 L) (ak (pv 0) (ak (pv 2) (ak (pv 1) au))))) (fun _ _ _=>.nil) (fun _ _ _=>(pv 0))) au) aH rfl T.vD boot_min) rfl)))
  (aK (bW (pv 1)))))),?_⟩
 refine ⟨_,rfl,tp,n,Lk,rfl,gp,n9,?_⟩;intro D nD;have s0:aj H (upd H D (.dT [])):=aN nD;have pV:upd H D (.dT []) D=some (.dT []):=aw;dsimp only [aT];generalize upd H D (.dT [])=H0 at s0 pV ⊢;obtain ⟨lt,us,dA,elt,kY⟩:=id (gp.mono s0);refine dY ⟨_,rfl,tp,_,_,_,rfl,rfl,.of dA,rfl,n,rfl,n9,fun Dx xs H1 s1 QP vJ tu=>?_⟩;have yS:(aS n).length≤512:=by rw [rh];exact bf (qg (by decide) n9) (by decide)
 refine ⟨Dx,xs,fun i=>((aS n).getD i []).length,rfl,vJ,by have:=tu.1;omega,(fun i v hv=>?_),fun D2 p vK fp=>?_⟩
 ·have hi:i<(aS n).length:=by rw [←tu.1];exact (bL.mp hv).1
  obtain ⟨b,e,g⟩:=tu.2 i v _ hv (bV hi);have lq:(aS n)[i].length≤9:=by obtain ⟨q1,q2⟩:=dm.mp (c_ hi);exact bf (oG q1 q2) n9
  exact ⟨b,_,e,g,by rw [aE];show ((aS n).getD i []).length=_;rw [dU,bV hi];rfl,by rw [aE];omega⟩
 rw [tu.1] at fp;have fq:=Pf fp;have tq:=(Pj tu (p:=p) fun i hi=>cx.mp (fp.pm.mem_iff.mp hi)).mono (aN (o:=.lst (p.map fun i=>xs.getD i .aP)) vK);have i9:upd H1 D2 (.lst (p.map fun i=>xs.getD i .aP)) D2=some (.lst (p.map fun i=>xs.getD i .aP)):=aw;have vL:aj H0 (upd H1 D2 (.lst (p.map fun i=>xs.getD i .aP))):=s1.trans (aN vK);generalize upd H1 D2 (.lst (p.map fun i=>xs.getD i .aP))=H2 at tq i9 vL ⊢;generalize (p.map fun i=>xs.getD i .aP)=QQ at tq i9 ⊢;generalize (p.map fun i=>(aS n).getD i [])=qs at tq fq;have V1:qs.length≤512:=by rw [fq.pm.length_eq];exact yS
 have QR:D2≠D:=fun z=>by rw [z,vL _ _ pV] at i9;cases i9
 refine ⟨D2,rfl,⟨_,.of i9⟩,?_⟩;refine nV (K:=K) (a:=D2) (xs:=QQ) (fun j σ Hc=>∃(v2:Option V),σ=[some (.ref tp),some (.ref D),v2]∧aj H Hc∧(∀b o,b≠D→H2 b=some o→Hc b=some o)∧Hc D=some (.dT (wD (wW n Lk) (qs.take j)))) ⟨_,rfl,s0.trans vL,fun b o _ e=>e,vL _ _ pV⟩ (fun j σ Hc _ ⟨_,_,_,kc,_⟩=>.of (kc _ _ QR i9)) ?_ ?_
 ·rintro j x σ Hc hx ⟨v2,rfl,sc,kc,eD⟩
  have hj:j<qs.length:=by rw [←tq.1];exact (bL.mp hx).1
  have hq:qs[j]?=some qs[j]:=bV hj;obtain ⟨b,rfl,eb⟩:=tq.2 j x _ hx hq;generalize qs[j]=q at hq eb;have bD:b≠D:=fun z=>by rw [z,vL _ _ pV] at eb;cases eb
  have pW:=kc _ _ bD eb;have qm:q∈aS n:=fq.pm.mem_iff.mp (iG hq);obtain ⟨nq,tk⟩:=Ph fq hq;have ll:(bh n q).length≤9:=bf (jU _ _) (by rw [dz];exact n9)
  dsimp only [aT];refine Pe (Pb (Z:=(bh n q).map fun p=>(cA n Lk q p+wW n Lk (aZ q p),(p:Int))) (fun R h=>?_) (cj (by rw [aE];omega)) (fun z _ Hx R h=>⟨_,rfl,h⟩) fun D3 H4 V2 s4 i_=>?_)
  ·refine ⟨_,rfl,_,rfl,_,rfl,tp,b,D,n,Lk,q,_,wW n Lk,rfl,gp.mono sc,cu,n9,pW,qm,eD,(fun p pn pq=>oH _ (Pg fq hq pn pq)),fun H3 Dc ys s3 tw ch=>?_⟩
   exact ⟨Dc,rfl,⟨_,.of tw⟩,h _ _ s3 (Pa tw (F0 ch))⟩
  ·refine ⟨D3,_,0,rfl,rfl,i_,by rw [aE,aE];omega,fun m hm=>?_⟩
   have em:m=wW n Lk q:=by rw [FY hm,cE,rj qm];rfl
   subst em;refine ⟨_,rfl,_,rfl,D,_,rfl,lF.t (k:=bT q) (s4 _ _ eD) (by rw [s4 _ _ pW];unfold bT;rw [cE];rfl) (cj (by unfold wD;rw [aE,m7];omega)),?_⟩
   refine ⟨_,rfl,fun c o e=>?_,fun c o cD e=>(aB cD).trans (s4 _ _ (kc c o cD e)),by rw [aw,Pc _ nq,tk]⟩
   rw [aB (fun z=>by rw [z,nD] at e;cases e)]
   exact s4 _ _ (sc _ _ e)
 ·rintro σ Hc ⟨v2,rfl,sc,kc,eD⟩
  rw [tq.1,gX] at eD;exact ⟨_,rfl,kk Hc D qs sc nD eD fq.pm⟩
theorem QS:bX ["shape","worth_of","order","done","place"] ["shape"] (bo yy):=cG
theorem QT(T:Txt K mg t):bF P w K mg base (eM P w) 5 t.o7 t.rQ ["shape"] Pm:=by
 have S:=QS;refine T.sN.eY S (fun _ _ _ _ H _ _ _ hr h L=>?_);obtain ⟨tp,n,Lk,rfl,gp,cu,n9,kk⟩:=h;have i8:=hr.units;have hu:=gW (kK (show 1≤64 by decide) _) hr.units
 refine ⟨_,(aC (putL 1 S.nd (bx (HL T) hr T.BQ T.pN.kp T.BP (n5 L) (ak (pv 0) au)))
  (aC (putL 2 S.nd (dM au))
  (aC (putL 3 S.nd (eX au))
  (aC (wK (Ft L) (df wO (cT ke rfl T.iB iH (ak (pv 2) au)) (bJ gy (pv 0) aH)) (aC (putL 4 S.nd (bJ gy (cT (O5 rfl i8) rfl T.vD boot_min (ak (bx (HK T) hr T.BO T.pM.kp T.BN (n5 L) (ak (pv 0) (ak (pv 3) (ak (pv 1) au)))) au)) aH))
  (aC (fQ (iQ gv jV jW ic (pv 2) (ak (pv 4) au)))
  (aK (putL 3 S.nd (bx (HJ T) hr T.BM T.pL.kp T.BL b9 (ak (pv 3) (ak (pv 4) au))))))))
  (aK (bW (eX (ak (pv 2) (ak (va hu (pv 1) (eX au) (fun _ _=>rfl)) au))))))))),?_⟩
 refine ⟨_,rfl,tp,n,Lk,rfl,gp,cu,n9,fun H1 D qs s1 nD eD pq=>?_⟩;dsimp only [aT];refine ⟨bH _,fun lo B5=>?_⟩;have s2:aj H1 (upd H1 lo (.lst [])):=aN B5;have yT:upd H1 lo (.lst []) lo=some (.lst []):=aw;have HM:H lo=none:=none_of s1 B5;have i9:=s2 _ _ eD;dsimp only [aT];generalize upd H1 lo (.lst [])=H2 at s2 yT i9 ⊢;refine ⟨bH _,fun td QU=>?_⟩;have s3:aj H2 (upd H2 td (.tup [])):=aN QU;have HN:upd H2 td (.tup []) td=some (.tup []):=aw;have yU:=s3 _ _ yT;have i_:=s3 _ _ i9;dsimp only [aT];generalize upd H2 td (.tup [])=H3 at s3 HN yU i_ ⊢;have gO:=s1.trans (s2.trans s3);have QV:lo≠D:=fun z=>by rw [z,i_] at yU;cases yU
 have HP:∀q,q∈aS n→eB (wD (wW n Lk) qs) (bT q)=some (.int (wW n Lk q)):=fun q hq=>oH _ (pq.mem_iff.mpr hq);refine dY ⟨fun m σ Hc=>∃(o Sd:List Nat) (dn:Addr) (v4:Option V),σ=[some (.ref tp),some (.ref D),some (.ref lo),some (.ref dn),v4]∧m=n-o.length∧aj H Hc∧Hc D=some (.dT (wD (wW n Lk) qs))∧Hc lo=some (.lst (o.map fun k:Nat=>V.int (k:Int)))∧Hc dn=some (.tup (Sd.map fun k:Nat=>V.int (k:Int)))∧oJ n Lk o Sd,⟨_,[],[],td,_,rfl,rfl,gO,i_,yU,HN,oJ.start n Lk⟩,?_⟩;rintro m σ Hc ⟨o,Sd,dn,v4,rfl,rfl,sc,tw,yV,yW,fw⟩;obtain ⟨lt,us,dA,elt,kY⟩:=id (gp.mono sc);obtain ⟨m1,m2⟩:=dm.mp fw.mem;have lS:Sd.length=o.length:=fw.pm.length_eq;have V3:o.length≤n:=by rw [←lS];exact oG m1 m2
 refine ⟨_,rfl,lo,_,rfl,.inl (.of yV),_,rfl,tp,_,_,_,rfl,rfl,.of dA,rfl,_,_,rfl,rfl,_,rfl,dv (fun hc=>?_) (fun hc=>?_)⟩
 ·have hc:((o.map fun k:Nat=>V.int (k:Int)).length:Int)<(n:Int):=gZ hc
  rw [aE] at hc;have V4:o.length<n:=by omega
  refine ⟨_,fun _ _ h=>h,?_⟩;refine ⟨_,rfl,_,rfl,_,rfl,tp,dn,D,n,Lk,Sd,_,wW n Lk,rfl,gp.mono sc,cu,n9,yW,fw.mem,tw,(fun p pn pd=>HP _ (dm.mpr ⟨mX m1 pd,fun x hx=>by
   rcases jI.mp hx with rfl | hx;·exact pn
   ·exact m2 x hx⟩)),fun H4 Dc ys s4 QW ch=>?_⟩
  have QX:0<(bh n Sd).length:=Pk fw.mem (by omega)
  have lk:=F0 ch;refine ⟨Dc,ys,(fun i=>(((bh n Sd).map fun p=>(cA n Lk Sd p+wW n Lk (aZ Sd p),(p:Int))).getD i (0,0)).1),(fun i=>(((bh n Sd).map fun p=>(cA n Lk Sd p+wW n Lk (aZ Sd p),(p:Int))).getD i (0,0)).2),rfl,QW,by rw [ch.1];exact QX,(fun i v hv=>?_),fun i v hv best=>?_⟩
  ·have hi:i<(bh n Sd).length:=by rw [←ch.1];exact (bL.mp hv).1
   obtain ⟨b,e,g⟩:=ch.2 i v _ hv (bV hi);have pl:(bh n Sd)[i]<n:=cx.mp (cQ.mp (c_ hi)).1;simp only [dU,bU,bV hi,Option.map_some,Option.getD_some];exact ⟨⟨b,e,g⟩,by omega,by omega⟩
  ·have hi:i<(bh n Sd).length:=by rw [←ch.1];exact (bL.mp hv).1
   obtain ⟨b,rfl,g⟩:=ch.2 i v _ hv (bV hi);have vM:(bh n Sd)[i]∈bh n Sd:=c_ hi;have pl:(bh n Sd)[i]<n:=cx.mp (cQ.mp vM).1;have oE:∀q∈bh n Sd,cA n Lk Sd (bh n Sd)[i]+wW n Lk (aZ Sd (bh n Sd)[i])≤cA n Lk Sd q+wW n Lk (aZ Sd q):=fun q hq=>by
    obtain ⟨j,hj,rfl⟩:=ng hq;have ql:(bh n Sd)[j]<n:=cx.mp (cQ.mp hq).1;have:=best j (by rw [ch.1];exact hj)
    simp only [dU,bU,bV hi,bV hj,Option.map_some,Option.getD_some] at this;omega
   generalize (bh n Sd)[i]=p at g vM pl oE;have pS:p∉Sd:=by have:=(cQ.mp vM).2;simpa using this
   have HQ:=s4 _ _ yV;refine ⟨b,_,_,_,rfl,rfl,.of g,rfl,?_⟩;dsimp only [aT];refine ⟨_,rfl,.inl ⟨rfl,_,.of HQ⟩,_,rfl,lo,_,_,rfl,rfl,HQ,cj (by rw [aE];omega),?_⟩
   have off:∀c u,c≠lo→H4 c=some u→upd H4 lo (.lst ((o.map fun k:Nat=>V.int (k:Int))++[V.int (p:Int)])) c=some u:=fun c u cl e=>(aB cl).trans e;have HR:upd H4 lo (.lst ((o.map fun k:Nat=>V.int (k:Int))++[V.int (p:Int)])) lo=some (.lst ((o++[p]).map fun k:Nat=>V.int (k:Int))):=by rw [aw,dJ];rfl
   have QY:dn≠lo:=fun z=>by rw [z,yV] at yW;cases yW
   have HS:=off _ _ QY (s4 _ _ yW);have HU:=off _ _ QV.symm (s4 _ _ tw);have s5:aj H (upd H4 lo (.lst ((o.map fun k:Nat=>V.int (k:Int))++[V.int (p:Int)]))):=fun c u e=>off c u (fun z=>by rw [z,HM] at e;cases e) (s4 _ _ (sc _ _ e))
   generalize upd H4 lo (.lst ((o.map fun k:Nat=>V.int (k:Int))++[V.int (p:Int)]))=H5 at HR HS HU s5 ⊢;dsimp only;refine ⟨_,rfl,_,rfl,dn,Sd.map iN,(p:Int),rfl,by rw [HS,cE];rfl,by rw [aE];omega,fun H6 tq ws pm so l7 s6 tm=>?_⟩
   have ew:=Bw m1 pS pm so;subst ew;refine ⟨_,?_,o++[p],aZ Sd p,tq,_,rfl,rfl,s5.trans s6,s6 _ _ HU,s6 _ _ HR,by rw [tm,cE];rfl,fw.next vM oE⟩
   rw [cS];simp only [jP];omega
 ·have hc:¬((o.map fun k:Nat=>V.int (k:Int)).length:Int)<(n:Int):=fun z=>hc (b8 z)
  rw [aE] at hc;have oe:o.length=n:=by omega
  have sf:=Pl fw.mem (by omega)
  have w0:wW n Lk Sd=0:=by unfold wW;rw [lS,oe,tP];rfl
  have tt:=fw.F3;refine ⟨_,rfl,_,rfl,bH _,fun e0 QZ=>?_⟩;have s6:aj Hc (upd Hc e0 (.tup [])):=aN QZ;have e6:upd Hc e0 (.tup []) e0=some (.tup []):=aw;generalize upd Hc e0 (.tup [])=H6 at s6 e6 ⊢;refine ⟨D,_,rfl,(HP [] (dm.mpr ⟨.nil,fun x h=>by cases h⟩))▸iX.t (k:=bT []) (s6 _ _ tw) e6,by show 2≤sizeLine;decide,fun t nt=>?_⟩
  exact kk _ t lo o (sc.trans (s6.trans (aN nt))) HM aw (aN nt _ _ (s6 _ _ yV)) (fw.pm.symm.trans (sf▸.refl _)) (by omega)
theorem Q0:bX ["thing","n"] ["thing","n"] (bo yi):=cG
theorem Q1(T:Txt K mg t):bF P w K mg base cH 2 t.oN t.rp ["thing","n"] NT:=by
 have S:=Q0;refine T.su.dN S (fun _ _ _ _ H _ _ _ hr h=>?_);obtain ⟨a,zs,n,rfl,ea,pX,n1,k⟩:=h;have i8:=hr.units
 refine ⟨_,(aC (dt (PW.pt (pw_or (wH (qE (cT (uD (K:=K)) rfl T.s_ boot_isinstance (ak (pv 0) (ak (uc (v:=.ty "list") rfl T.tj boot_list rfl) au))))) (pw_or1 (wH (qE (cT (L0 (K:=K) rfl) rfl T.Ho boot_all (ak (iR (N:=["place"]) (ρ:=(fun σ=>[])) (fF [] rfl) rfl (eW (pv 0)) (fun _ _ _=>.nil) (fun _ _ _=>(bx (Qr T) hr T.Gx T.sr.kp T.Gw b9 (ak (pv 0) au)))) au))))))) (aK (bW hE)) dr)
  (aK (bW (nY (Fm i8) (cT Fi rfl T.pP qz (ak (pv 0) au)) (j_ (Au rfl) rfl T.tj boot_list (ak (j_ As rfl T.fi Av (ak (pv 1) au)) au)))))),?_⟩
 refine ⟨_,rfl,_,_,_,true,rfl,rfl,.of (.lst ea),L8,true,rfl,jq ?_⟩;unfold Dk tB;refine uN (Ma (xs:=zs.map V.int) (fun R h=>⟨_,rfl,a,rfl,⟨_,.of ea⟩,h _ _ (aj.refl _) (k6 (.of ea))⟩) (by rw [aE];exact cj (by omega)) (fun _ i y _=>y=.bl true) (fun _ _ _ _ _ _ h _ _=>h) ?_ ?_)
 ·intro D i v hi Hc R sc _ kc
  obtain ⟨z,rfl⟩:∃z:Int,v=.int z:=by
   rw [bU] at hi;cases e:zs[i]? with
   | none=>rw [e] at hi;cases hi
   | some z=>rw [e] at hi;exact ⟨z,(Option.some.inj hi).symm⟩
  exact ⟨_,rfl,.int z,rfl,.int z,kc _ Hc (aj.refl _) rfl⟩
 ·intro D ys Hc sc lZ hP eD
  refine ⟨D,List.replicate ys.length true,rfl,.of (by rw [eD];exact dH _ (dH _ (Mo hP))),?_⟩
  rw [Mp];refine ⟨true,rfl,jq ?_⟩;dsimp only [kP];have Q2:=sc _ _ ea;refine ⟨_,rfl,a,zs,rfl,Q2,pX,fun ws D2 p o n2=>?_⟩;refine ⟨_,rfl,(n:Int),rfl,fun p1 B6=>⟨p1,n,rfl,aw,by omega,fun l nl=>?_⟩⟩
  have d1:D2≠p1:=fun z=>by rw [←z,aw] at B6;cases B6
  have d2:D2≠l:=fun z=>by rw [←z,aB d1,aw] at nl;cases nl
  refine ⟨D2,l,ws,(List.range n).map iN,rfl,rfl,.of ?_,.of ?_,?_⟩;·rw [aB d2,aB d1,aw]
  ·rw [aw]
   unfold dh;rw [cE];rfl
  ·rw [NS p o]
   exact k _ (xU (xU (xU sc n2) B6) nl)
theorem Q3:bX ["order","n"] ["order","n"] (bo yj):=cG
theorem Q4(T:Txt K mg t):bF P w K mg base (eM P w) 3 t.oO t.rq ["order","n"] (NU t.lQ):=by
 have S:=Q3;refine T.sC.eY S (fun _ _ _ _ H _ _ _ hr h L=>?_);obtain ⟨a,zs,n,rfl,ea,pX,n1,kE,k⟩:=h;refine ⟨_,(aK (dt (wH (qE (bx (Q1 T) hr T.Gz T.su.kp T.Gy b9 (ak (pv 0) (ak (pv 1) au))))) (aK (Eh L rfl PySem.F.excBase_ValueError T.HD rfl T.Hl (ak Di au))) dr)),?_⟩;refine ⟨_,rfl,_,rfl,a,zs,n,rfl,ea,pX,n1,fun H1 s1=>⟨_,rfl,dv (fun hb=>?_) (fun hb=>?_)⟩⟩;·exact ⟨by show 1≤sizeLine;decide,kE (by simpa using hb) _ s1⟩
 ·exact k (by simpa using hb) _ s1
theorem Q5:bX ["order","turns","turn","place"] ["order"] (bo yk):=cG
theorem Q6(T:Txt K mg t):bF P w K mg base cH 1 t.oP t.rA ["order"] NW:=by
 have S:=Q5;refine T.sF.dN S (fun _ _ _ _ H _ _ _ hr h=>?_);obtain ⟨a,n,o,rfl,⟨ea,ho⟩,n1,kk⟩:=h;have lo:=ve ho;have lm:(o.map fun k:Nat=>V.int (k:Int)).length=n:=by rw [aE,lo]
 refine ⟨_,(aC (putL 1 S.nd (ba Lm (dM (ak aH au)) (cT ke rfl T.iB iH (ak (pv 0) au))))
  (aC (dW dD rfl (Mu rfl T.Hs (ak (pv 0) au)) (qG rfl (iL (cy (i:=2) S.nd rfl (Or.inl rfl)) (iL (cy (i:=3) S.nd rfl (Or.inl rfl)) qF)))
   (aK (@qH _ _ _ _ _ _ (pv 2) (ue (pv 1) (pv 3) set_list) (by rfl) (by rfl) (by rfl))))
  (aK (bW (pv 1))))),?_⟩
 refine ⟨by show 1≤sizeLine;decide,fun l nl=>?_⟩
 have al:a≠l:=fun z=>by rw [z,nl] at ea;cases ea
 refine ⟨_,rfl,a,_,rfl,.inl (.of (by rw [aB al];exact ea)),l,_,_,rfl,rfl,aw,by omega,by rw [lm];omega,?_,fun c nc=>?_⟩
 ·rw [lm,dq]
  show 1*n≤sizeLine;rw [gQ];omega
 rw [lm,dq,NZ n o];have yX:H c=none:=none_of (aN nl) nc;have s0:aj H (upd (upd H l (.lst [.int 0])) c (.lst ((List.range n).map fun p=>V.int (iY o 0 p)))):=(aN nl).trans (aN nc);have e0:upd (upd H l (.lst [.int 0])) c (.lst ((List.range n).map fun p=>V.int (iY o 0 p))) c=_:=aw;generalize upd (upd H l (.lst [.int 0])) c (.lst ((List.range n).map fun p=>V.int (iY o 0 p)))=H0 at s0 e0 ⊢;dsimp only [aT];refine dY ⟨_,rfl,a,rfl,⟨_,.of (s0 _ _ ea)⟩,?_⟩
 refine Mv (K:=K) (l:=a) (xs:=o.map fun k:Nat=>V.int (k:Int)) (fun i σ Hc=>aj H Hc∧∃(v2 v3:Option V),σ=[some (.ref a),some (.ref c),v2,v3]∧Hc c=some (.lst ((List.range n).map fun p=>V.int (iY o i p))))
  ⟨s0,_,_,rfl,e0⟩ (fun i σ Hc ⟨z,_⟩=>.of (z _ _ ea)) ?_ ?_
 ·rintro i x σ Hc Tt hx ⟨sc,v2,v3,rfl,ec⟩ nT
  have hi:i<o.length:=by have:=(bL.mp hx).1;simpa using this
  have ex:x=.int ((o[i]:Nat):Int):=by rw [bU] at hx;simp [hi] at hx;exact hx.symm
  subst ex;have hp:o[i]<n:=(iz ho).mp (c_ hi);have sT:aj Hc (upd Hc Tt (.tup [.int (i:Int),.int ((o[i]:Nat):Int)])):=aN nT;have eT:upd Hc Tt (.tup [.int (i:Int),.int ((o[i]:Nat):Int)]) Tt=_:=aw;generalize upd Hc Tt (.tup [.int (i:Int),.int ((o[i]:Nat):Int)])=H1 at sT eT ⊢;refine ⟨Tt,_,rfl,.of eT,rfl,_,_,rfl,_,_,rfl,rfl,?_⟩;refine ⟨_,rfl,_,rfl,_,rfl,c,_,_,o[i],rfl,rfl,sT _ _ ec,by rw [aE,dz];exact Fn hp,?_⟩
  exact ⟨eZ (sc.trans sT) yX,_,_,rfl,by rw [aw,NY ho hi]⟩
 ·rintro σ Hc ⟨sc,v2,v3,rfl,ec⟩
  rw [aE,N0 ho] at ec;exact ⟨_,rfl,kk c Hc sc yX ec⟩
theorem Q7:bX ["linked","places","one","other"] ["linked","places"] (bo yl):=cG
theorem Q8(T:Txt K mg t):bF P w K mg base cH 1 t.oQ t.rB ["linked","places"] N1:=by
 have S:=Q7;refine T.sG.dN S (fun _ _ _ _ H _ _ _ hr h=>?_);obtain ⟨D,pl,n,ds,un,f,ps,rfl,KL,tD,Q9,n9,kk⟩:=h;have hu:=gW (kK (show 1≤64 by decide) _) hr.units
 have bZ:∀i,i<n→un i→pl≠ds i:=fun i hi ui z=>by rw [z,KL.at' i hi ui] at tD;cases tD
 have HV:∀{i:Nat} {x:V},(ps.map fun k:Nat=>V.int (k:Int))[i]?=some x→∃p:Nat,ps[i]?=some p∧x=.int (p:Int)∧p<n∧un p:=fun{i x} hx=>by
  rw [bU] at hx;cases e:ps[i]? with
  | none=>rw [e] at hx;cases hx
  | some p=>rw [e] at hx;exact ⟨p,rfl,(Option.some.inj hx).symm,Q9 p (iG e)⟩
 refine ⟨_,(aK (dW dD rfl (eW (pv 1)) (cy (i:=2) S.nd rfl (Or.inl rfl))
   (aK (dW dD rfl (eW (pv 1)) (cy (i:=3) S.nd rfl (Or.inl rfl))
   (aK (dt (df uh (pv 2) (pv 3)) (aK (lG hu (bJ dg (pv 0) (pv 2)) (pv 3) hE rfl)) dr)))))),?_⟩
 refine ⟨_,rfl,pl,rfl,⟨_,.of tD⟩,?_⟩;refine nV (K:=K) (a:=pl) (xs:=ps.map fun k:Nat=>V.int (k:Int)) (fun i σ Hc=>∃(g:Nat→List Nat) (v2 v3:Option V),σ=[some (.ref D),some (.ref pl),v2,v3]∧mT n ds un H Hc∧cX Hc D n ds un g∧fN n f ps i 0 g) ⟨f,_,_,rfl,.refl,KL,fN.start n f ps⟩ (fun i σ Hc _ ⟨_,_,_,_,oc,_⟩=>.of (oc _ _ tD bZ)) ?_ ?_
 ·rintro i x σ Hc hx ⟨g,v2,v3,rfl,oc,Kc,la⟩
  obtain ⟨p,hp,rfl,pn,up⟩:=HV hx;refine ⟨_,rfl,pl,rfl,⟨_,.of (oc _ _ tD bZ)⟩,?_⟩;refine nV (K:=K) (a:=pl) (xs:=ps.map fun k:Nat=>V.int (k:Int)) (fun j σ Hd=>∃(g:Nat→List Nat) (v3:Option V),σ=[some (.ref D),some (.ref pl),some (.int (p:Int)),v3]∧mT n ds un H Hd∧cX Hd D n ds un g∧fN n f ps i j g) ⟨g,_,rfl,oc,Kc,la⟩ (fun i σ Hc _ ⟨_,_,_,oc,_⟩=>.of (oc _ _ tD bZ)) ?_ ?_
  ·rintro j y σ Hd hy ⟨g,v3,rfl,od,Kd,la⟩
   obtain ⟨q,hq,rfl,qn,uq⟩:=HV hy;refine ⟨_,rfl,_,rfl,rfl,_,rfl,dv (fun hb=>?_) (fun hb=>?_)⟩
   ·have ne:p≠q:=fun z=>by subst z;rw [qT,b8 rfl] at hb;cases hb
    obtain ⟨q1,K1⟩:=Kd.put pn qn up n9;exact ⟨_,rfl,_,rfl,D,_,_,_,rfl,rfl,.of Kd.lst,Kd.ix pn,_,rfl,_,_,rfl,q1,_,_,rfl,od.put pn up,K1,la.put hp hq ne⟩
   ·have e:p=q:=by
     by_cases z:(p:Int)=(q:Int);·omega
     ·exact absurd (by rw [qT,bP z];rfl) hb
    subst e;exact ⟨_,_,rfl,od,Kd,la.same hp hq⟩
  ·rintro σ Hd ⟨g,v3,rfl,od,Kd,la⟩
   rw [aE] at la;exact ⟨g,_,_,rfl,od,Kd,la.row⟩
 ·rintro σ Hc ⟨g,v2,v3,rfl,oc,Kc,la⟩
  rw [aE] at la;exact kk _ g oc Kc la.done
theorem Q_:bX ["shape","order","linked","turns","told","place"] ["shape","order"] (bo ym):=cG
theorem Ra(T:Txt K mg t):bF P w K mg base (eM P w) 4 t.oR t.rC ["shape","order"] (Ou t.lQ):=by
 have S:=Q_;refine T.sI.eY S (fun _ _ _ _ H _ _ _ hr h L=>?_);obtain ⟨tp,a,n,Lk,zs,rfl,hS,hL,ns,yQ,ea,pX,kE,kk⟩:=h;obtain ⟨lt,us,dA,elt,kY⟩:=id hS
 refine ⟨_,(aC (fQ (bx (Q4 T) hr T.GB T.sC.kp T.GA (n5 L) (ak (pv 1) (ak (bJ gy (pv 0) aH) au))))
  (eJ.nN (aC (putL 2 S.nd (bx (HF T) hr T.BE T.pH.kp T.BD b9 (ak (pv 0) au)))
  (aC (L7 3 S.nd (bx (Q6 T) hr T.GD T.sF.kp T.GC b9 (ak (pv 1) au)))
  (aC (xq (i0:=4) (N:=["place"]) (ρ:=(fun σ=>[])) (fF [] rfl) rfl S.nd rfl (Or.inl rfl) (eW (pv 1)) (fun _ _ _=>.nil) (fun _ _ _=>(dM au)))
  (aC (dW dD rfl (eW (pv 1)) (cy (i:=5) S.nd rfl (Or.inr rfl))
   (aC (@qH _ _ _ _ _ _ (cT Fi rfl T.pP qz (ak (iR (N:=["other","turns","place"]) (ρ:=(fun σ=>[σ[3]?.join,σ[5]?.join])) (fF [3,5] rfl) rfl (xT (bJ dg (pv 2) (pv 5))) (fun _ _ _=>(.one (df qL (bJ (Ey (K:=K)) (pv 1) (pv 0)) (bJ (Ey (K:=K)) (pv 1) (pv 2))))) (fun _ _ _=>(pv 0))) au)) (ue (pv 4) (pv 5) set_list) (by rfl) (by rfl) (by rfl))
  (aK (fQ (bx (Q8 T) hr T.GG T.sG.kp T.GF b9 (ak (pv 2) (ak (bJ dg (pv 4) (pv 5)) au)))))))
  (aK (bW (pv 4))))))))),?_⟩
 refine ⟨_,rfl,_,rfl,tp,_,_,_,rfl,rfl,.of dA,rfl,a,zs,n,rfl,ea,pX,by omega,fun no H1 s1=>kE no H1 s1,fun yes H1 s1=>?_⟩
 obtain ⟨o,rfl,ho⟩:=N8 yes;have kk:=kk o rfl ho;have lo:=ve ho;have nd:=vd ho;have vO:H a=some (.lst (o.map fun k:Nat=>V.int (k:Int))):=by rw [ea,cE];rfl
 have lm:(o.map fun k:Nat=>V.int (k:Int)).length=n:=by rw [aE,lo]
 refine ⟨_,rfl,tp,n,Lk,rfl,⟨lt,us,s1 _ _ dA,s1 _ _ elt,kY.mono s1⟩,hL,by omega,fun H2 D ds f s2 nD B1 KL nb=>?_⟩
 have vP:=none_of s1 nD;have HW:∀i,i<n→H (ds i)=none:=fun i hi=>none_of s1 (B1 i hi);have l6:=s1.trans s2;dsimp only [aT];refine ⟨_,rfl,a,n,o,rfl,⟨l6 _ _ vO,ho⟩,by omega,fun tr H3 s3 Rb e3=>?_⟩
 have gO:=l6.trans s3;have V5:=none_of l6 Rb;have K3:=KL.mono s3;dsimp only [aT];refine dY (ig (AE (xs:=o.map fun k:Nat=>V.int (k:Int)) (n:=n) lm (fun R h=>⟨_,rfl,a,rfl,⟨_,.of (gO _ _ vO)⟩,h _ _ (aj.refl _) (k6 (.of (gO _ _ vO)))⟩) (cj (by omega)) (fun _ i y Hx=>H3 y=none) (fun _ _ _ _ _ _ h _ _ _=>h) ?_ ?_))
 ·intro D' i x hx Hc R sc _ kc
  refine ⟨by show 0≤sizeLine;exact bH _,fun p np=>kc p _ (aN np) np ⟨_,aw⟩ (none_of sc np)⟩
 ·intro c Rc H4 nc s4 _ hA ec
  have yY:=gO.trans s4;have HX:=none_of gO nc;have K4:=K3.mono s4;have e4:=s4 _ _ e3;have cD:c≠D:=fun z=>by rw [z,K3.lst] at nc;cases nc
  have Rf:c≠tr:=fun z=>by rw [z,e3] at nc;cases nc
  dsimp only [aT];refine dY ⟨_,rfl,a,rfl,⟨_,.of (yY _ _ vO)⟩,?_⟩
  refine nV (K:=K) (a:=a) (xs:=o.map fun k:Nat=>V.int (k:Int)) (fun k σ Hc=>∃(rs:Nat→Addr) (f g:Nat→List Nat) (v5:Option V),σ=[some (.ref tp),some (.ref a),some (.ref D),some (.ref tr),some (.ref c),v5]∧aj H Hc∧cX Hc D n ds (fun p=>k≤o.idxOf p) f∧Hc tr=some (.lst ((List.range n).map fun p=>V.int (o.idxOf p:Int)))∧Hc c=some (.lst ((List.range n).map fun p=>V.ref (rs p))) ∧
    (∀p,p<n→o.idxOf p<k→H (rs p)=none∧rs p≠c∧Hc (rs p)=some (.lst ((g p).map fun k:Nat=>V.int (k:Int)))∧iZ n o p (g p)∧jF n Lk o p (g p))∧oB n Lk o k f) ⟨Rc,f,fun _=>[],_,rfl,yY,K4.less (fun _ _ _=>trivial),e4,ec,fun p _ h=>absurd h (tS _),oB.start nb ns⟩ (fun k σ Hc _ ⟨_,_,_,_,_,sc,_⟩=>.of (sc _ _ vO)) ?_ ?_
  ·rintro k x σ Hc hx ⟨rs,f,g,v5,rfl,sc,Kc,B7,yZ,done,B8⟩
   have hk:k<o.length:=by have:=(bL.mp hx).1;simpa using this
   have ex:x=.int ((o[k]:Nat):Int):=by rw [bU] at hx;simp [hk] at hx;exact hx.symm
   subst ex;have hp:o[k]<n:=(iz ho).mp (c_ hk);have ip:o.idxOf o[k]=k:=Fo nd hk;generalize o[k]=p at hp ip ⊢;dsimp only [aT];have HY:=Kc.at' p hp (by omega)
   refine dY (ig (uN (vh ⟨_,rfl,_,rfl,D,_,_,_,rfl,rfl,.of Kc.lst,Kc.ix hp,ds p,dk (f p),rfl,.inl ⟨HY,fun ob=>?_⟩⟩)));have Kf:cX (upd Hc (ds p) (.aX ob (.dK (dk (f p))))) D n ds (fun q=>k+1≤o.idxOf q) f:=(Kc.less (fun i hi (ui:k+1≤o.idxOf i)=>show k≤o.idxOf i by omega)).upd (Kc.ne p hp) (fun i hi (ui:k+1≤o.idxOf i) z=>by have:=Kc.inj i p hi hp z;subst this;omega)
   have B9:∀{b:Addr} {xs:List V},Hc b=some (.lst xs)→b≠ds p:=fun{b xs} e z=>by rw [z,HY] at e;cases e
   have y4:upd Hc (ds p) (.aX ob (.dK (dk (f p)))) tr=_:=(aB (B9 B7)).trans B7;have y6:upd Hc (ds p) (.aX ob (.dK (dk (f p)))) c=_:=(aB (B9 yZ)).trans yZ;have sf:aj H (upd Hc (ds p) (.aX ob (.dK (dk (f p))))):=fun b u e=>by
    rw [aB (fun z=>by rw [z,HW p hp] at e;cases e)]
    exact sc _ _ e
   have B_:∀q,q<n→o.idxOf q<k→H (rs q)=none∧rs q≠c∧upd Hc (ds p) (.aX ob (.dK (dk (f p)))) (rs q)=some (.lst ((g q).map fun k:Nat=>V.int (k:Int)))∧iZ n o q (g q)∧jF n Lk o q (g q):=fun q hq y7=>by obtain ⟨d1,d2,d3,d4⟩:=done q hq y7;exact ⟨d1,d2,(aB (B9 d3)).trans d3,d4⟩
   have lT:upd Hc (ds p) (.aX ob (.dK (dk (f p)))) (ds p)=some (.aX ob (.dK (dk (f p)))):=aw;generalize upd Hc (ds p) (.aX ob (.dK (dk (f p))))=Hf at Kf y4 y6 sf B_ lT ⊢;have vQ:=Kc.pl p hp;refine Bh lT (fun q=>decide ((o.idxOf p:Int)<(o.idxOf q:Int))) (gW vQ.len (cj (by omega))) ?_ ?_ ?_
   ·intro q hq Hx R sx hR
    have qn:=vQ.2 q hq;exact ⟨_,rfl,_,rfl,tr,_,_,_,rfl,rfl,.of (sx _ _ y4),oz qn,_,rfl,_,rfl,tr,_,_,_,rfl,rfl,.of (sx _ _ y4),oz hp,_,_,rfl,rfl,_,rfl,hR⟩
   ·intro q hq Hx R hR
    exact ⟨_,rfl,hR⟩
   ·intro D1 H1 V6 HZ H_
    rw [Oc] at H_;have fl:((f p).filter fun q=>decide (o.idxOf p<o.idxOf q)).length≤n:=bf (jU _ _) vQ.len;refine ⟨D1,((f p).filter fun q=>decide (o.idxOf p<o.idxOf q)).map iN,rfl,by rw [H_,cE];rfl,by rw [aE];omega,fun ws D2 pw so vK=>?_⟩
    obtain ⟨ms,rfl,pm⟩:=Fq pw;have y8:=N6 vQ pm so;have hm:∀q,q∈ms↔q∈f p∧k<o.idxOf q:=fun q=>by rw [pm.mem_iff,cQ,fk,ip]
    have Rg:jF n Lk o p ms:=fun q=>by
     rw [hm q,ip];constructor
     ·rintro ⟨h1,h2⟩
      have qn:=vQ.2 q h1;exact ⟨qn,h2,((B8 p q hp qn (by omega) (by omega)).mp h1).2⟩
     ·rintro ⟨h1,h2,h3⟩
      exact ⟨(B8 p q hp h1 (by omega) (by omega)).mpr ⟨fun e=>by subst e;omega,h3⟩,h2⟩
    have pY:aj Hf (upd H1 D2 (.lst ((ms.map iN).map V.int))):=xU HZ vK;have i9:upd H1 D2 (.lst ((ms.map iN).map V.int)) D2=some (.lst (ms.map fun k:Nat=>V.int (k:Int))):=by rw [aw,cE];rfl
    have Ca:Hf D2=none:=none_of HZ vK;have Rh:H D2=none:=none_of sf Ca;generalize upd H1 D2 (.lst ((ms.map iN).map V.int))=Hg at pY i9 ⊢;have Ia:D2≠c:=fun z=>by rw [z,y6] at Ca;cases Ca
    refine ⟨_,rfl,_,rfl,c,_,_,p,rfl,rfl,pY _ _ y6,by rw [aE,dz];exact Fn hp,?_⟩
    rw [N9];have Kg:=Kf.mono pY;have Kh:cX (upd Hg c (.lst ((List.range n).map fun q=>V.ref (i3 rs p D2 q)))) D n ds (fun q=>k+1≤o.idxOf q) f:=Kg.upd cD (fun i hi ui z=>by have:=Kg.at' i hi ui;rw [z,pY _ _ y6] at this;cases this)
    have sh:aj H (upd Hg c (.lst ((List.range n).map fun q=>V.ref (i3 rs p D2 q)))):=eZ (sf.trans pY) HX;have Cb:upd Hg c (.lst ((List.range n).map fun q=>V.ref (i3 rs p D2 q))) c=_:=aw;have Ib:upd Hg c (.lst ((List.range n).map fun q=>V.ref (i3 rs p D2 q))) tr=_:=(aB (Ne.symm Rf)).trans (pY _ _ y4);have Cc:upd Hg c (.lst ((List.range n).map fun q=>V.ref (i3 rs p D2 q))) D2=_:=(aB Ia).trans i9;have Ic:∀q,q<n→o.idxOf q<k→upd Hg c (.lst ((List.range n).map fun q=>V.ref (i3 rs p D2 q))) (rs q)=some (.lst ((g q).map fun k:Nat=>V.int (k:Int))):=fun q hq y7=>by obtain ⟨d1,d2,d3,d4⟩:=B_ q hq y7;exact (aB d2).trans (pY _ _ d3)
    generalize upd Hg c (.lst ((List.range n).map fun q=>V.ref (i3 rs p D2 q)))=Hh at Kh sh Cb Ib Cc Ic ⊢;refine ⟨_,rfl,_,rfl,_,rfl,c,_,_,_,rfl,rfl,.of Cb,oz hp,?_⟩;rw [Fs];refine ⟨D,D2,n,ds,_,f,ms,rfl,Kh,Cc,fun q hq=>⟨y8.lt q hq,by have:=y8.la q hq;omega⟩,by omega,fun H5 g5 off K5 con=>?_⟩
    have bZ:∀{b:Addr} {xs:List V},Hh b=some (.lst xs)→H5 b=some (.lst xs):=fun{b xs} e=>off _ _ e fun i hi ui z=>by rw [z,Kh.at' i hi ui] at e;cases e
    refine ⟨i3 rs p D2,g5,dG g p ms,_,rfl,fun b u e=>off _ _ (sh _ _ e) (fun i hi _ z=>by rw [z,HW i hi] at e;cases e),K5,bZ Ib,bZ Cb,fun q hq y7=>?_,B8.step ho hp ip hm y8.lt con⟩
    by_cases e:q=p
    ·subst e
     rw [Fs,Oa];exact ⟨Rh,Ia,bZ Cc,y8,Rg⟩
    ·rw [N_ e,Ob e]
     have ne:=vg ho hq hp e;have Ie:o.idxOf q<k:=by omega
     obtain ⟨d1,d2,d3,d4⟩:=B_ q hq Ie;exact ⟨d1,d2,bZ (Ic q hq Ie),d4⟩
  ·rintro σ Hc ⟨rs,f,g,v5,rfl,sc,Kc,B7,yZ,done,_⟩
   rw [lm] at done;have lt:∀p,p<n→o.idxOf p<n:=fun p hp=>by have:=(vf ((iz ho).mpr hp)).1;omega
   exact ⟨_,rfl,kk Hc c rs g sc HX (fun p hp=>(done p hp (lt p hp)).1) ⟨yZ,fun p hp=>(done p hp (lt p hp)).2.2.1⟩ fun p hp=>(done p hp (lt p hp)).2.2.2⟩
theorem Ri:bX ["shape","order"] ["shape","order"] (bo yo):=cG
theorem Ig(T:Txt K mg t):bF P w K mg base (eM P w) 5 t.oT t.rE ["shape","order"] (OI t.lQ):=by
 have S:=Ri;refine T.pJ.eY S (fun _ _ _ _ H _ _ _ hr h L=>?_);obtain ⟨tp,a,n,Lk,zs,rfl,hS,hL,ns,n9,ea,pX,kE,kk⟩:=h
 refine ⟨_,(aC (bW (cT (Mm (K:=K) rfl) rfl T.HB boot_sum (ak (iR (N:=["others"]) (ρ:=(fun σ=>[])) (fF [] rfl) rfl (eW (bx (Ra T) hr T.GI T.sI.kp T.GH (n5 L) (ak (pv 0) (ak (pv 1) au)))) (fun _ _ _=>.nil) (fun _ _ _=>(bx (HG T) hr T.BG T.pI.kp T.BF b9 (ak (cT (Ez (K:=K)) rfl T.iB iH (ak (pv 0) au)) au)))) au)))
  (eJ.nN dr)),?_⟩
 refine AB (uN (vh ⟨_,rfl,_,rfl,tp,a,n,Lk,zs,rfl,hS,hL,ns,by omega,ea,pX,kE,fun o ez ho H1 D rs g s1 nD Rj la ok=>⟨D,rfl,⟨_,.of la.1⟩,?_⟩⟩))
 have Cd:((List.range n).map fun p=>V.ref (rs p)).length=n:=by rw [aE,dz]
 refine qW (xs:=(List.range n).map fun p=>V.ref (rs p)) (fun R h=>h _ _ (aj.refl _) (k6 (.of la.1))) (by rw [Cd];exact cj (by omega)) (fun _ i y _=>y=.int (((g i).length:Int)*(g i).length+3*(g i).length+1)) (fun _ _ _ _ _ _ h _ _=>h) ?_ ?_
 ·intro D' k x hx Hc R sc _ kc
  have hk:k<n:=by have:=(bL.mp hx).1;rw [Cd] at this;exact this
  have ex:x=.ref (rs k):=by rw [bU,qf hk] at hx;exact (Option.some.inj hx).symm
  subst ex;have lg:(g k).length≤30:=bf (Od ho (ok k hk).1) (by omega)
  refine ⟨_,rfl,rs k,_,rfl,.inl (.of (sc _ _ (la.2 k hk))),(g k).length,by rw [aE];rfl,by omega,kc _ Hc (aj.refl _) rfl⟩
 ·intro D' ys Hc Ce sc kB lZ Cf
  rw [Cd] at kB;have ey:ys=((List.range n).map fun i=>((g i).length:Int)*(g i).length+3*(g i).length+1).map V.int:=by
   refine jc (by simp [kB]) fun i h1 h2=>?_
   rw [jT,jT,qr];exact lZ i _ (bV h1)
  have es:((List.range n).map fun i=>((g i).length:Int)*(g i).length+3*(g i).length+1).sum=((((List.range n).map fun i=>(g i).length*(g i).length+3*(g i).length+1).sum:Nat):Int):=by
   generalize List.range n=l;clear ey lZ kB kk
   induction l with
   | nil=>rfl
   | cons x l ih=>rw [cZ,fu,cZ,fu,ih];push_cast;rfl
  refine ⟨D',_,rfl,.of (by rw [Cf,ey]),?_⟩
  rw [es];exact kk o ez ho _ (s1.trans sc) _ fun M fs=>FL ho fs ok
theorem Rk:bX ["_law_cell","_law_at","_law_x"] ["_law_cell","_law_at"] (bo yA):=cG
theorem Rm(T:Txt K mg t):bF P w K mg base cH 1 t.o8 t.rR ["_law_cell","_law_at"] Mq:=by
 have S:=Rk;refine T.sO.dN S (fun _ _ _ _ H _ _ _ hr h=>?_);obtain ⟨c,a,rfl,ha,k⟩:=h
 refine ⟨_,(aC (dt (df J5 (pv 0) (ba DC aH aH)) (aK (bW (pv 0))) dr)
  (aC (putL 2 S.nd (ba nX (ba fB (ba fB (ba hJ (ba nX (pv 0) aH) aH) (ba hJ (pv 1) aH)) aH) aH))
  (aC (putL 2 S.nd (ba nX (ba fB (ba fB (ba hJ (pv 2) (pv 2)) (ba hJ aH (pv 2))) (pv 1)) aH))
  (aK (bW (ba fB (ba hJ (pv 2) aH) (ba nX (ba fB (ba hJ (pv 2) (pv 2)) (ba hJ aH (pv 1))) aH))))))),?_⟩
 refine ⟨_,rfl,_,_,rfl,rfl,⟨by decide,by decide,by decide⟩,_,_,rfl,rfl,_,rfl,dv (fun h=>?_) (fun h=>?_)⟩
 ·have h:=gZ h
  exact ⟨_,rfl,k _ (cC (by decide) h)⟩
 ·refine ⟨_,rfl,_,_,rfl,rfl,(by show (0:Int)<2147483647;decide),_,_,rfl,rfl,.inr ⟨by decide,by decide⟩,_,rfl,_,_,rfl,rfl,.inr ⟨by decide,by decide⟩,_,_,rfl,rfl,_,_,rfl,rfl,_,_,rfl,rfl,(by show (0:Int)<2147483629;decide),?_⟩
  have b0:=kL (c % 2147483647*48271+a*69621+11) (show (2147483629:Int)≠0 by decide)
  have b1:=nE (c % 2147483647*48271+a*69621+11) (show (0:Int)<2147483629 by decide)
  generalize (c % 2147483647*48271+a*69621+11) % 2147483629=x at b0 b1 ⊢;refine ⟨_,rfl,_,rfl,_,_,rfl,rfl,.inl ⟨by omega,by omega⟩,_,rfl,_,_,rfl,rfl,.inl ⟨by decide,by decide⟩,_,_,rfl,rfl,_,rfl,_,_,rfl,rfl,_,_,rfl,rfl,(by show (0:Int)<2147483587;decide),?_⟩
  have c0:=kL (x*x+48271*x+a) (show (2147483587:Int)≠0 by decide)
  have c1:=nE (x*x+48271*x+a) (show (0:Int)<2147483587 by decide)
  generalize (x*x+48271*x+a) % 2147483587=y at c0 c1 ⊢;refine ⟨_,rfl,_,_,rfl,rfl,.inr ⟨by decide,by decide⟩,_,rfl,_,rfl,_,_,rfl,rfl,.inl ⟨by omega,by omega⟩,_,rfl,_,_,rfl,rfl,.inl ⟨by decide,by decide⟩,_,_,rfl,rfl,_,_,rfl,rfl,(by show (0:Int)<2147483579;decide),_,_,rfl,rfl,k _ (Int.add_nonneg (Int.mul_nonneg (kL _ (by decide)) (by decide)) (kL _ (by decide)))⟩
theorem Rn:bX ["_law_pen","_law_many","_law_at","_law_cell","_law_found"] ["_law_pen","_law_many"] (bo yB):=cG
theorem kC(T:Txt K mg t):bF P w K mg base cH 2 t.o9 t.rS ["_law_pen","_law_many"] (Mr K):=by
 have S:=Rn;refine T.gm.dN S (fun _ _ _ _ H _ _ _ hr h=>?_);obtain ⟨P0,a,ns,many,rfl,⟨x,y,eP,hx,hy⟩,hS,m1,mm,k⟩:=h;have i8:=hr.units
 refine ⟨_,(aC (dt (df wO (bJ dg (pv 0) aH) (pv 1)) (aC (putL 2 S.nd (bJ dg (pv 0) aH))
  (aC (putL 3 S.nd aH)
  (aC (dt (df wO (pv 2) (cT ke rfl T.iB iH (ak (bJ dg (pv 0) aH) au))) (aK (putL 3 S.nd (bJ dg (bJ dg (pv 0) aH) (pv 2)))) (aK (dt (df qL (cT ke rfl T.iB iH (ak (bJ dg (pv 0) aH) au)) aH) (aK (putL 3 S.nd (ba fB (ba nX (bJ dg (bJ dg (pv 0) aH) (ba nX (ba hJ (pv 2) aH) (cT ke rfl T.iB iH (ak (bJ dg (pv 0) aH) au)))) aH) (ba hJ (pv 2) aH)))) dr)))
  (aC (@qH _ _ _ _ _ _ (ba fB (pv 2) aH) (ue (pv 0) aH set_list) (by rfl) (by rfl) (by rfl))
  (aK (@qH _ _ _ _ _ _ (bx (Rm T) hr T.GU T.sO.kp T.GS b9 (ak (pv 3) (ak (pv 2) au))) (ue (pv 0) aH set_list) (by rfl) (by rfl) (by rfl))))))) dr)
  (aC (putL 4 S.nd (ba nX (bJ dg (pv 0) aH) (pv 1)))
  (aC (@qH _ _ _ _ _ _ (ba LZ (bJ dg (pv 0) aH) (pv 1)) (ue (pv 0) aH set_list) (by rfl) (by rfl) (by rfl))
  (aK (bW (pv 4)))))),?_⟩
 have y9:=xt.seq hS;refine ⟨_,rfl,P0,_,_,_,rfl,rfl,.of eP,rfl,_,rfl,_,_,rfl,rfl,_,rfl,dv (fun a7=>?_) (fun a7=>?_)⟩
 ·refine ⟨_,rfl,P0,_,_,_,rfl,rfl,.of eP,rfl,?_⟩
  refine ⟨_,rfl,_,rfl,P0,_,_,_,rfl,rfl,.of eP,rfl,a,ns.map V.int,rfl,.inl y9,_,_,rfl,rfl,_,rfl,dv (fun h1=>?_) (fun h1=>?_)⟩
  ·have h1:x<((ns.map V.int).length:Int):=gZ h1
   obtain ⟨v,hv,mv⟩:=Es (xs:=ns.map V.int) hx h1;obtain ⟨c,_,rfl⟩:=cg.mp mv;refine ⟨_,rfl,P0,_,_,_,rfl,rfl,.of eP,rfl,_,rfl,a,ns.map V.int,_,_,rfl,rfl,y9,hv,?_⟩;refine ⟨_,rfl,_,_,rfl,rfl,_,rfl,P0,_,1,1,rfl,rfl,eP,rfl,?_⟩;refine ⟨_,rfl,_,rfl,c,x,rfl,hx,fun r vR=>⟨_,rfl,P0,_,2,2,rfl,rfl,aw,rfl,?_⟩⟩;have q0:=kL (r) (show many≠0 by omega)
   have q1:=nE (r) (show 0<many by omega)
   have q2:=wx (vR) (show 0≤many by omega)
   refine ⟨_,rfl,P0,_,_,_,rfl,rfl,.of aw,rfl,_,rfl,_,_,rfl,rfl,(show 0<many by omega),?_⟩
   refine ⟨_,rfl,P0,_,_,_,rfl,rfl,.of aw,rfl,_,rfl,_,_,rfl,rfl,⟨show 0<many by omega,mm⟩,_,rfl,P0,_,2,2,rfl,rfl,aw,rfl,?_⟩
   exact ⟨_,rfl,k _ _ q0 q1 (((aM.refl H).trans aM.kg).trans (aM.kg.trans aM.kg)) ⟨x+1,r / many,aw,by omega,q2⟩⟩
  ·refine ⟨_,rfl,P0,_,_,_,rfl,rfl,.of eP,rfl,a,ns.map V.int,rfl,.inl y9,_,_,rfl,rfl,_,rfl,?_⟩
   have y_:=eP;have Ih:=y9;have sl:=aj.refl H;refine dv (fun h2=>?_) (fun h2=>?_)
   ·have hl:0<(ns.map V.int).length:=by have:=gZ h2;omega
    have Ro:=kL (x*7) (show ((ns.map V.int).length:Int)≠0 by omega)
    have Rp:=nE (x*7) (show (0:Int)<((ns.map V.int).length:Int) by omega)
    obtain ⟨v,hv,mv⟩:=Es (xs:=ns.map V.int) Ro Rp;obtain ⟨c,_,rfl⟩:=cg.mp mv;refine ⟨_,rfl,P0,_,_,_,rfl,rfl,.of y_,rfl,_,rfl,_,_,rfl,rfl,.inr ⟨by decide,by decide⟩,_,rfl,P0,_,_,_,rfl,rfl,.of y_,rfl,a,ns.map V.int,rfl,.inl Ih,_,_,rfl,rfl,(show (0:Int)<((ns.map V.int).length:Int) by omega),a,ns.map V.int,_,_,rfl,rfl,Ih,hv,_,_,rfl,rfl,(show (0:Int)<1000003 by decide),_,rfl,_,_,rfl,rfl,.inr ⟨by decide,by decide⟩,_,_,rfl,rfl,?_⟩
    refine ⟨_,rfl,_,_,rfl,rfl,_,rfl,P0,_,1,1,rfl,rfl,y_,rfl,?_⟩;refine ⟨_,rfl,_,rfl,_,x,rfl,hx,fun r vR=>⟨_,rfl,P0,_,2,2,rfl,rfl,aw,rfl,?_⟩⟩;have q0:=kL (r) (show many≠0 by omega)
    have q1:=nE (r) (show 0<many by omega)
    have q2:=wx (vR) (show 0≤many by omega)
    refine ⟨_,rfl,P0,_,_,_,rfl,rfl,.of aw,rfl,_,rfl,_,_,rfl,rfl,(show 0<many by omega),?_⟩
    refine ⟨_,rfl,P0,_,_,_,rfl,rfl,.of aw,rfl,_,rfl,_,_,rfl,rfl,⟨show 0<many by omega,mm⟩,_,rfl,P0,_,2,2,rfl,rfl,aw,rfl,?_⟩
    exact ⟨_,rfl,k _ _ q0 q1 (((aM.of sl).trans aM.kg).trans (aM.kg.trans aM.kg)) ⟨x+1,r / many,aw,by omega,q2⟩⟩
   ·
    refine ⟨_,rfl,_,_,rfl,rfl,_,rfl,P0,_,1,1,rfl,rfl,y_,rfl,?_⟩;refine ⟨_,rfl,_,rfl,0,x,rfl,hx,fun r vR=>⟨_,rfl,P0,_,2,2,rfl,rfl,aw,rfl,?_⟩⟩;have q0:=kL (r) (show many≠0 by omega)
    have q1:=nE (r) (show 0<many by omega)
    have q2:=wx (vR) (show 0≤many by omega)
    refine ⟨_,rfl,P0,_,_,_,rfl,rfl,.of aw,rfl,_,rfl,_,_,rfl,rfl,(show 0<many by omega),?_⟩
    refine ⟨_,rfl,P0,_,_,_,rfl,rfl,.of aw,rfl,_,rfl,_,_,rfl,rfl,⟨show 0<many by omega,mm⟩,_,rfl,P0,_,2,2,rfl,rfl,aw,rfl,?_⟩
    exact ⟨_,rfl,k _ _ q0 q1 (((aM.of sl).trans aM.kg).trans (aM.kg.trans aM.kg)) ⟨x+1,r / many,aw,by omega,q2⟩⟩
 ·dsimp only [kP]
  have q0:=kL (y) (show many≠0 by omega)
  have q1:=nE (y) (show 0<many by omega)
  have q2:=wx (hy) (show 0≤many by omega)
  refine ⟨_,rfl,P0,_,_,_,rfl,rfl,.of eP,rfl,_,rfl,_,_,rfl,rfl,(show 0<many by omega),?_⟩
  refine ⟨_,rfl,P0,_,_,_,rfl,rfl,.of eP,rfl,_,rfl,_,_,rfl,rfl,⟨show 0<many by omega,mm⟩,_,rfl,P0,_,2,2,rfl,rfl,eP,rfl,?_⟩
  exact ⟨_,rfl,k _ _ q0 q1 (aM.kg) ⟨x,y / many,aw,hx,q2⟩⟩
theorem Rq:bX ["_law_pen","_law_some","_law_left","_law_found"] ["_law_pen","_law_some"] (bo yC):=cG
theorem Ii(T:Txt K mg t):bF P w K mg base cH 3 t.o_ t.rT ["_law_pen","_law_some"] (Nb K):=by
 have S:=Rq;refine T.pO.dN S (fun _ _ _ _ H _ _ _ hr h=>?_);obtain ⟨P0,a,l,ns,xs,rfl,pc,hS,nl,el,V7,kk⟩:=h;have i8:=hr.units
 refine ⟨_,(aC (putL 2 S.nd (j_ K6 rfl T.tj boot_list (ak (pv 1) au)))
  (aC (putL 3 S.nd (dM au))
  (aC (wK dD (df (EU i8) (pv 2) (dM au)) (aK (fQ (iQ gv jV jW ic (pv 3) (ak (iQ gv zQ zR Li (pv 2) (ak (bx (kC T) hr T.jK T.gm.kp T.jJ b9 (ak (pv 0) (ak (cT ke rfl T.iB iH (ak (pv 2) au)) au))) au)) au)))))
  (aK (bW (pv 3)))))),?_⟩
 refine ⟨_,rfl,l,xs,rfl,.inl (.of el),fun l1 n1=>?_⟩;have s1:aj H (upd H l1 (.lst xs)):=aN n1;have e1:upd H l1 (.lst xs) l1=some (.lst xs):=aw;dsimp only [aT];generalize upd H l1 (.lst xs)=H1 at s1 e1 ⊢;refine ⟨by show 0≤sizeLine;decide,fun l2 n2=>?_⟩
 have s2:aj H1 (upd H1 l2 (.lst [])):=aN n2;have e2:upd H1 l2 (.lst []) l2=some (.lst []):=aw;dsimp only [aT];generalize upd H1 l2 (.lst [])=H2 at s2 e2 ⊢;have Ij:l1≠P0:=pc.ne n1;have za:l2≠P0:=(pc.mono s1).ne n2;have Ik:H l2=none:=none_of s1 n2;have Il:l1≠l2:=fun e=>by rw [e,n2] at e1;cases e1
 refine dY ⟨fun m σ Hc=>∃zs ys:List V,σ=[some (.ref P0),some (.ref l),some (.ref l1),some (.ref l2)]∧m=zs.length∧Hc l1=some (.lst zs)∧Hc l2=some (.lst ys)∧(zs++ys).Perm xs∧aM P0 H Hc∧b3 Hc P0 a,⟨_,xs,[],rfl,rfl,s2 _ _ e1,e2,by rw [p_],aM.of (s1.trans s2),(pc.mono s1).mono s2⟩,?_⟩
 rintro m σ Hc ⟨zs,ys,rfl,rfl,ez,ey,pm,sc,p1⟩;have lz:zs.length≤100:=by have:=pm.length_eq;rw [cS] at this;omega
 have ly:ys.length≤100:=by have:=pm.length_eq;rw [cS] at this;omega
 refine ⟨_,rfl,by show 0≤sizeLine;decide,fun le Cg=>?_⟩
 have s3:aj Hc (upd Hc le (.lst [])):=aN Cg;have e3:upd Hc le (.lst []) le=some (.lst []):=aw;generalize upd Hc le (.lst [])=H3 at s3 e3 ⊢;refine ⟨l1,le,zs,rfl,rfl,.of (s3 _ _ ez),e3,_,rfl,dv (fun hz=>?_) (fun hz=>?_)⟩
 ·have z0:1≤zs.length:=by
   cases zs with
   | nil=>cases hz
   | cons=>simp
  have Im:=sc.trans (aM.of s3);refine ⟨_,fun _ _ h=>h,?_⟩;refine ⟨_,rfl,.inl ⟨rfl,_,.of (s3 _ _ ey)⟩,_,rfl,.inl ⟨rfl,_,.of (s3 _ _ ez)⟩,_,rfl,_,rfl,l1,zs,rfl,.inl (.of (s3 _ _ ez)),P0,a,ns,(zs.length:Int),rfl,p1.mono s3,aj.seq Im hS,by omega,fG.of_lt (by omega) (by omega),fun c H4 c0 c1 s4 p4=>?_⟩
  obtain ⟨k,rfl⟩:=g6 c0;have hk:k<zs.length:=by omega
  have Rr:=s4.at Ij (s3 _ _ ez);have Rt:=s4.at za (s3 _ _ ey);have sx:seqIndex? (k:Int) zs.length=some k:=by unfold seqIndex?;simp;omega
  refine ⟨l1,zs,(k:Int),k,zs[k],rfl,rfl,Rr,by omega,by omega,sx,by simp [hk],?_⟩
  have nn:l2≠l1:=fun e=>Il e.symm;refine ⟨l2,ys,zs[k],rfl,rfl,by rw [aB nn];exact Rt,cj (by omega),?_⟩
  refine ⟨_,?_,zs.eraseIdx k,ys++[zs[k]],rfl,rfl,by rw [aB Il,aw],aw,?_,?_,?_⟩
  ·rw [List.length_eraseIdx_of_lt hk]
   omega
  ·refine List.Perm.trans ?_ pm
   rw [←gU];refine (tR).trans ?_;show (zs[k]::(zs.eraseIdx k++ys)).Perm (zs++ys);exact (EW zs k hk).append_right ys
  ·exact ((Im.trans s4).but n1).but Ik
  ·exact ((p4.upd Ij).upd za)
 ·have z0:zs=[]:=by
   cases zs with
   | nil=>rfl
   | cons=>exact absurd rfl hz
  subst z0;refine ⟨_,rfl,kk l2 ys H3 (sc.trans (aM.of s3)) (p1.mono s3) ?_ za (s3 _ _ ey) pm⟩;rw [eA za];exact Ik
theorem Ru:bX ["_law_pen","_law_way","_law_size","_law_wide","_law_i","_law_j"] ["_law_pen","_law_way","_law_size","_law_wide","_law_i","_law_j"] (bo yE):=cG
theorem Rv(T:Txt K mg t):bF P w K mg base cH 3 t.pb t.rV ["_law_pen","_law_way","_law_size","_law_wide","_law_i","_law_j"] (Nc K):=by
 have S:=Ru;refine T.sP.dN S (fun _ _ _ _ H _ _ _ hr h=>?_);obtain ⟨P0,a,ns,way,size,wide,i,j,rfl,pc,hS,kk⟩:=h
 refine ⟨_,(aC (dt (df jk (pv 1) aH) (aK (bW (nY jk (bx (kC T) hr T.jK T.gm.kp T.jJ b9 (ak (pv 0) (ak aH au))) aH))) dr)
  (aC (dt (df jk (pv 1) aH) (aK (bW (nY jk (bx (kC T) hr T.jK T.gm.kp T.jJ b9 (ak (pv 0) (ak aH au))) aH))) dr)
  (aC (dt (df jk (pv 1) aH) (aK (bW (nY qL (bx (kC T) hr T.jK T.gm.kp T.jJ b9 (ak (pv 0) (ak aH au))) aH))) dr)
  (aC (dt (df jk (pv 1) aH) (aK (bW (JG (nY jk (ba wN (pv 5) (pv 4)) aH) (Dl (nY jk (ba wN (pv 5) (pv 4)) (ba wN (pv 2) aH)))))) dr)
  (aK (bW (nY J4 (ba wN (pv 5) (pv 4)) (pv 3)))))))),?_⟩
 refine ⟨_,rfl,rfl,_,rfl,dv (fun _=>?_) (fun _=>?_)⟩;·exact ⟨_,rfl,P0,a,ns,2,rfl,pc,hS,by decide,fG.of_lt (by decide) (by decide),fun c H1 _ _ s1 p1=>⟨rfl,kk _ H1 s1 p1⟩⟩
 dsimp only [kP];refine ⟨_,rfl,rfl,_,rfl,dv (fun _=>?_) (fun _=>?_)⟩;·exact ⟨_,rfl,P0,a,ns,4,rfl,pc,hS,by decide,fG.of_lt (by decide) (by decide),fun c H1 _ _ s1 p1=>⟨rfl,kk _ H1 s1 p1⟩⟩
 dsimp only [kP];refine ⟨_,rfl,rfl,_,rfl,dv (fun _=>?_) (fun _=>?_)⟩;·exact ⟨_,rfl,P0,a,ns,4,rfl,pc,hS,by decide,fG.of_lt (by decide) (by decide),fun c H1 _ _ s1 p1=>⟨_,_,rfl,rfl,kk _ H1 s1 p1⟩⟩
 dsimp only [kP];refine ⟨_,rfl,rfl,_,rfl,dv (fun _=>?_) (fun _=>?_)⟩
 ·refine ⟨_,rfl,_,rfl,_,_,rfl,rfl,rfl,_,rfl,dv (fun _=>?_) (fun _=>?_)⟩
  ·exact kk _ H (aM.refl _) pc
  ·exact ⟨_,rfl,_,rfl,_,_,rfl,rfl,_,rfl,_,_,rfl,rfl,rfl,kk _ H (aM.refl _) pc⟩
 dsimp only [kP];exact ⟨_,rfl,_,rfl,_,_,rfl,rfl,_,rfl,_,_,rfl,rfl,kk _ H (aM.refl _) pc⟩
theorem Rw:bX ["_law_size","_law_links","_law_names","_law_found","_law_i","_law_j","_law_one"] ["_law_size","_law_links","_law_names"] (bo yH):=cG
theorem Rx(T:Txt K mg t):bF P w K mg base cH 3 t.pA t.rY ["_law_size","_law_links","_law_names"] Ng:=by
 have S:=Rw;refine T.sS.dN S (fun _ _ _ _ H _ _ _ hr h=>?_);obtain ⟨l,r,n,us,ws,L,nm,rfl,el,hL,ok,vS,vT,lw,hw,N,kk⟩:=h
 refine ⟨_,(aC (putL 3 S.nd (dM au))
  (aC (dW dD rfl (eW (pv 1)) (qG rfl (iL (cy (i:=4) S.nd rfl (Or.inl rfl)) (iL (cy (i:=5) S.nd rfl (Or.inl rfl)) qF)))
   (aC (putL 6 S.nd (cT (J8 rfl) rfl T.vD boot_min (ak (bJ dg (pv 2) (pv 4)) (ak (bJ dg (pv 2) (pv 5)) au))))
  (aK (fQ (iQ gv jV jW ic (pv 3) (ak (eX (ak (pv 6) (ak (cT (J7 rfl) rfl T.Hu boot_max (ak (bJ dg (pv 2) (pv 4)) (ak (bJ dg (pv 2) (pv 5)) au))) au))) au))))))
  (aK (bW (eX (ak (pv 0) (ak (j_ Af rfl T.yO boot_tuple (ak (cT M_ rfl T.pP qz (ak (pv 3) au)) au)) au))))))),?_⟩
 refine ⟨by show 0≤sizeLine;decide,fun fd eQ=>?_⟩
 have s0:aj H (upd H fd (.lst [])):=aN eQ;have Io:upd H fd (.lst []) fd=some (.lst []):=aw;dsimp only [aT];generalize upd H fd (.lst [])=H1 at s0 Io ⊢;refine ⟨_,rfl,l,rfl,⟨_,.of (s0 _ _ el)⟩,?_⟩;refine nV (K:=K) (a:=l) (xs:=us) (fun k σ Hc=>∃(xs:List V) (v4 v5 v6:Option V),σ=[some (.int (n:Int)),some (.ref l),some (.ref r),some (.ref fd),v4,v5,v6]∧aj H Hc∧Hc fd=some (.lst xs)∧bS Hc xs ((L.take k).map (gc nm))) ⟨[],_,_,_,rfl,s0,Io,bS.nil _⟩ (fun k σ Hc _ ⟨_,_,_,_,_,sc,_⟩=>.of (sc _ _ el)) ?_ ?_
 ·rintro k x σ Hc hx ⟨xs,v4,v5,v6,rfl,sc,ef,hX⟩
  have hk:k<L.length:=by rw [←hL.1];exact (bL.mp hx).1
  obtain ⟨b,rfl,eb⟩:=(hL.mono sc).2 k x L[k] hx (by simp [hk])
  have pk:=ok.lt L[k] (c_ hk);have tk:(L.take (k+1)).map (gc nm)=(L.take k).map (gc nm)++[gc nm L[k]]:=by rw [kG,bV hk,dJ];rfl
  have lX:=hX.1;rw [aE,m7] at lX;have d5:L.length≤450:=bf ok.d5 (by have:n*n≤30*30:=t7 vS vS;omega)
  generalize L[k]=p at eb pk tk;obtain ⟨p1,p2⟩:=p;dsimp only at pk;obtain ⟨i,rfl⟩:=g6 pk.1;obtain ⟨j,rfl⟩:=g6 (show 0≤p2 by omega)
  have Ip:jo ws (i:Int)=some (.int (nm i)):=qN (hw i (by omega))
  have at2:jo ws (j:Int)=some (.int (nm j)):=qN (hw j (by omega))
  have zb:=sc _ _ vT;refine ⟨b,_,rfl,.of eb,rfl,_,_,rfl,_,_,rfl,rfl,?_⟩;refine ⟨_,rfl,_,rfl,r,ws,_,.int (nm i),rfl,rfl,.of zb,Ip,_,rfl,_,rfl,r,ws,_,.int (nm j),rfl,rfl,.of zb,at2,nm i,nm j,rfl,?_⟩;dsimp only [aT];refine ⟨_,rfl,.inl ⟨rfl,_,.of ef⟩,_,rfl,_,rfl,_,rfl,r,ws,_,.int (nm i),rfl,rfl,.of zb,Ip,_,rfl,_,rfl,r,ws,_,.int (nm j),rfl,rfl,.of zb,at2,nm i,nm j,rfl,by show 2≤sizeLine;decide,fun tp l8=>?_⟩
  have eq:gc nm ((i:Int),(j:Int))=(if nm j<nm i then nm j else nm i,if nm j>nm i then nm j else nm i):=by
   unfold gc;simp only [dq];refine Prod.ext ?_ ?_
   ·show min (nm i) (nm j)=_
    split <;> omega
   ·show max (nm i) (nm j)=_
    split <;> omega
  have st:aj Hc (upd Hc tp (.tup [.int (if nm j<nm i then nm j else nm i),.int (if nm j>nm i then nm j else nm i)])):=aN l8
  have dA:upd Hc tp (.tup [.int (if nm j<nm i then nm j else nm i),.int (if nm j>nm i then nm j else nm i)]) tp=some (.tup [.int (gc nm ((i:Int),(j:Int))).1,.int (gc nm ((i:Int),(j:Int))).2]):=by rw [aw,eq]
  generalize upd Hc tp (.tup [.int (if nm j<nm i then nm j else nm i),.int (if nm j>nm i then nm j else nm i)])=Hd at st dA ⊢
  have eh:=st _ _ ef;refine ⟨fd,xs,_,rfl,rfl,eh,cj (by omega),xs++[.ref tp],_,_,_,rfl,eZ (sc.trans st) eQ,aw,?_⟩
  rw [tk];exact ((hX.mono st).push dA).bZ eh fun b o nb e=>by rw [aB nb];exact e
 ·rintro σ Hc ⟨xs,v4,v5,v6,rfl,sc,ef,hX⟩
  rw [hL.1,gX] at hX;have zc:=Nf ok N;have lX:=hX.1;have d5:L.length≤450:=bf ok.d5 (by have:n*n≤30*30:=t7 vS vS;omega)
  have lM:(L.map (gc nm)).length=L.length:=aE ..;have small:∀q∈L.map (gc nm),0≤q.2∧q.2<1000:=fun q hq=>by have:=zc.lt q hq;omega
  generalize hM:L.map (gc nm)=M at hX zc lX lM small kk;dsimp only;refine ⟨_,rfl,_,rfl,fd,xs,fun i=>(M.getD i (0,0)).1,fun i=>(M.getD i (0,0)).2,rfl,ef,by omega,fun i v hv=>?_,fun p l' hp hu Ry=>?_⟩
  ·have hi:i<M.length:=by rw [←lX];exact (bL.mp hv).1
   obtain ⟨b,rfl,eb⟩:=hX.2 i v M[i] hv (by simp [hi])
   dsimp only;rw [getD_at hi];exact ⟨⟨b,rfl,eb⟩,small _ (c_ hi)⟩
  rw [lX] at hp hu;obtain ⟨pm,pw⟩:=Nd hp hu zc.nd small;have sl:aj Hc (upd Hc l' (.lst (p.toList.map fun i=>xs.getD i .aP))):=aN Ry;have hP:bS Hc (p.toList.map fun i=>xs.getD i .aP) (p.toList.map fun i=>M.getD i (0,0)):=hX.pick _ fun i hi=>by have:p.toList.Perm (List.range M.length):=qi.mp hp;exact cx.mp (this.mem_iff.mp hi)
  generalize (p.toList.map fun i=>xs.getD i .aP)=zs at sl hP ⊢;refine ⟨l',zs,rfl,.inl ⟨.of aw,fun lt Rz=>?_⟩⟩;have hV:=sl.trans (aN (o:=.tup zs) Rz);have elt:upd (upd Hc l' (.lst zs)) lt (.tup zs) lt=some (.tup zs):=aw;generalize upd (upd Hc l' (.lst zs)) lt (.tup zs)=Hd at hV elt ⊢;refine ⟨by show 2≤sizeLine;decide,fun tp l8=>?_⟩
  have st:aj Hd (upd Hd tp (.tup [.int (n:Int),.ref lt])):=aN l8;have sT:=sc.trans (hV.trans st);exact kk tp _ _ sT (none_of (sc.trans hV) l8) ⟨lt,zs,aw,st _ _ elt,(hP.mono hV).mono st⟩ (zc.perm pm) pw pm
theorem RA:bX ["_law_pen","_law_size","_law_ahead","_law_found","_law_j","_law_at","_law_some"] ["_law_pen","_law_size"] (bo yF):=cG
theorem RB(T:Txt K mg t):bF P w K mg base cH 3 t.ph t.rW ["_law_pen","_law_size"] (Ni K):=by
 have S:=RA;refine T.sQ.dN S (fun _ _ _ _ H vs _ _ hr h=>?_);obtain ⟨P0,a,ns,n,rfl,pc,hS,n1,vS,kk⟩:=h
 refine ⟨_,(aC (putL 2 S.nd (dM (ak (dM au) au)))
  (aC (putL 3 S.nd (dM au))
  (aC (dW dD rfl (JV rfl T.fi (ak aH (ak (pv 1) au))) (cy (i:=4) S.nd rfl (Or.inr rfl))
   (aC (putL 5 S.nd (bx (kC T) hr T.jK T.gm.kp T.jJ b9 (ak (pv 0) (ak (pv 4) au))))
  (aC (putL 6 S.nd (ba w6 (dM (ak (pv 5) au)) (iR (N:=["_law_i","_law_pen"]) (ρ:=(fun σ=>[σ[0]?.join])) (fF [0] rfl) rfl (eW (bJ dg (pv 2) (pv 5))) (fun _ _ _=>(.one (df qL (bx (kC T) hr T.jK T.gm.kp T.jJ b9 (ak (pv 1) (ak aH au))) aH))) (fun _ _ _=>(pv 0)))))
  (aC (dt (df jk (bx (kC T) hr T.jK T.gm.kp T.jJ b9 (ak (pv 0) (ak aH au))) aH) (aK (putL 6 S.nd (dM au))) dr)
  (aC (fQ (iQ gv jV jW ic (pv 2) (ak (pv 6) au)))
  (aK (fQ (iQ gv PySem.F.slot_list_extend PySem.F.type_list_extend Ld (pv 3) (ak (iR (N:=["_law_i","_law_j"]) (ρ:=(fun σ=>[σ[4]?.join])) (fF [4] rfl) rfl (eW (pv 6)) (fun _ _ _=>.nil) (fun _ _ _=>(eX (ak (pv 0) (ak (pv 1) au))))) au)))))))))
  (aK (bW (pv 3)))))),?_⟩
 refine cP fun _ i6=>⟨by show 0≤sizeLine;decide,fun l0 ky=>⟨by show 1≤sizeLine;decide,fun la vU=>?_⟩⟩
 have s1:aj H (upd H l0 (.lst [])):=aN ky;have e0:upd H l0 (.lst []) l0=some (.lst []):=aw;generalize upd H l0 (.lst [])=H1 at s1 e0 vU ⊢;have s2:aj H1 (upd H1 la (.lst [.ref l0])):=aN vU;have ea:upd H1 la (.lst [.ref l0]) la=some (.lst [.ref l0]):=aw;dsimp only [aT];refine i6 _ _ ?_;generalize upd H1 la (.lst [.ref l0])=H2 at s2 ea ⊢;refine cP fun _ i7=>⟨by show 0≤sizeLine;decide,fun fd eQ=>?_⟩
 have s3:aj H2 (upd H2 fd (.lst [])):=aN eQ;have ef:upd H2 fd (.lst []) fd=some (.lst []):=aw;dsimp only [aT];refine i7 _ _ ?_;generalize upd H2 fd (.lst [])=H3 at s3 ef ⊢;have gO:=s1.trans (s2.trans s3);have vV:la≠P0:=(pc.mono s1).ne vU;have iF:fd≠P0:=((pc.mono s1).mono s2).ne eQ;have RC:l0≠P0:=pc.ne ky;have RD:H la=none:=none_of s1 vU;have zd:H fd=none:=none_of (s1.trans s2) eQ;have af:la≠fd:=fun e=>by rw [e,eQ] at ea;cases ea
 refine ⟨_,rfl,_,_,rfl,⟨by decide,by decide,by omega,by omega⟩,?_⟩
 rw [show ((n:Int)-1).toNat=n-1 by omega]
 refine kU (fun k σ Hc=>∃(vs us:List V) (L:aA) (D:Nat→List Nat) (v4 v5 v6:Option V),σ=[some (.ref P0),some (.int (n:Int)),some (.ref la),some (.ref fd),v4,v5,v6]∧aM P0 H Hc∧b3 Hc P0 a∧Hc la=some (.lst vs)∧Nj (er P0 Hc) vs (k+1) D∧(∀(i:Nat) (b:Addr),vs[i]?=some (V.ref b)→b≠la∧b≠fd)∧Hc fd=some (.lst us)∧bS (er P0 Hc) us L∧lE (k+1) L) ?_ ?_ ?_
 ·refine ⟨[.ref l0],[],[],fun _=>[],_,_,_,rfl,aM.of gO,pc.mono gO,s3 _ _ ea,⟨rfl,fun k hk=>⟨eO.nil k,l0,by rw [show k=0 by omega];rfl,?_⟩⟩,fun i b hb=>?_,ef,bS.nil _,lE.nil⟩
  ·rw [eA RC]
   exact s3 _ _ (s2 _ _ e0)
  ·match i,hb with
   | 0,hb=>cases hb;exact ⟨(fun e=>by rw [e,vU] at e0;cases e0),(fun e=>by rw [←e] at eQ;rw [s2 _ _ e0] at eQ;cases eQ)⟩
   | i+1,hb=>simp at hb
 ·rintro k σ Hc hk ⟨vs,us,L,D,v4,v5,v6,rfl,sc,p1,ze,ah,ap,eh,hL,ok⟩
  refine ⟨_,rfl,_,rfl,P0,a,ns,1+(k:Int),rfl,p1,aj.seq sc hS,by omega,fG.of_lt (by omega) (by omega),fun c H4 c0 c1 s4 p4=>?_⟩
  obtain ⟨c,rfl⟩:=g6 c0;have hc:c<k+1:=by omega
  obtain ⟨fc,b,RE,vW⟩:=ah.2 c hc;have RF:b≠P0:=fun z=>by rw [z] at vW;unfold er at vW;rw [ae rfl] at vW;cases vW
  have RG:=ah.1;have RH:=sc.trans s4;have RI:=s4.at vV ze;have Iq:H4 b=some (.lst (d_ (D c))):=xt _ _ (s4 _ _ vW);dsimp only [aT];simp only [List.set_cons_zero,List.set_cons_succ];refine cP fun _ mZ=>⟨_,rfl,by show 1≤sizeLine;decide,fun tE xM=>?_⟩
  have s5:aj H4 (upd H4 tE (.lst [.int (c:Int)])):=aN xM;have e5:upd H4 tE (.lst [.int (c:Int)]) tE=some (.lst [.int (c:Int)]):=aw;have RJ:tE≠P0:=p4.ne xM;generalize upd H4 tE (.lst [.int (c:Int)])=H5 at s5 e5 ⊢;have lD:(D c).length≤30:=bf fc.len (by omega)
  have lV:(d_ (D c)).length≤30:=by unfold d_;rw [aE];exact lD
  have Ir:=RH.trans (aM.of s5);refine Nh (K:=K) (l:=b) (xs:=d_ (D c)) (cj (by omega)) RF (s5 _ _ Iq) (p4.mono s5) (fun R h=>⟨_,rfl,_,rfl,la,vs,_,.ref b,rfl,rfl,.of (s5 _ _ RI),qN RE,b,rfl,⟨_,.of (s5 _ _ Iq)⟩,h⟩) (fun i x hx Hx R sx px k=>⟨_,rfl,P0,a,ns,3,rfl,px,aj.seq (Ir.trans sx) hS,by decide,fG.of_lt (by decide) (by decide),fun c' H' _ _ s' p'=>⟨_,_,rfl,rfl,_,rfl,k _ H' s' p'⟩⟩) (fun x Hx R h=>⟨_,rfl,h⟩) fun D' ys Hx Ce V8 sx px sub Cf=>?_
  obtain ⟨e,Ei,rfl⟩:=A5 sub;have fe:=(fc.sub Ei).put hc;have V9:(d_ e).length≤30:=bf sub.length_le lV;refine ⟨tE,D',_,_,rfl,rfl,sx.at RJ e5,Cf,bf (show _≤900 by simp;omega) (by decide),fun c2 n2=>?_⟩
  have s6:aj Hx (upd Hx c2 (.lst ([.int (c:Int)]++d_ e))):=aN n2;have e6:upd Hx c2 (.lst ([.int (c:Int)]++d_ e)) c2=some (.lst (d_ (c::e))):=aw;have tF:=(Ir.trans sx).trans (aM.of s6);have p6:=px.mono s6;have Ci:aM P0 H4 (upd Hx c2 (.lst ([.int (c:Int)]++d_ e))):=(aM.of s5).trans (sx.trans (aM.of s6));have Cj:c2≠P0:=px.ne n2;have f2:er P0 Hc c2=none:=none_of (s4.trans ((aM.of s5).trans sx)) (by rw [eA Cj];exact n2)
  dsimp only [aT];refine mZ _ _ ?_;generalize upd Hx c2 (.lst ([.int (c:Int)]++d_ e))=H6 at s6 e6 tF p6 Ci ⊢;simp only [List.set_cons_zero,List.set_cons_succ];refine dY (EV (fun σ Hy=>∃(lc:Addr) (d:List Nat),σ=[some (.ref P0),some (.int (n:Int)),some (.ref la),some (.ref fd),some (.int (1+(k:Int))),some (.int (c:Int)),some (.ref lc)]∧aM P0 Hc Hy∧b3 Hy P0 a∧Hy lc=some (.lst (d_ d))∧eO (k+1) d∧lc≠P0∧er P0 Hc lc=none) ?_ ?_)
  ·rintro σ Hy ⟨lc,d,rfl,sy,py,lR,Ck,tG,zf⟩
   have ly:lc≠la:=fun z=>by rw [z,eA vV,ze] at zf;cases zf
   have lf:lc≠fd:=fun z=>by rw [z,eA iF,eh] at zf;cases zf
   have Cm:=sy.at vV ze;have RK:=sy.at iF eh;have V_:d.length≤30:=bf Ck.len (by omega)
   dsimp only;refine ⟨_,rfl,.inl ⟨rfl,_,.of Cm⟩,_,rfl,la,vs,_,rfl,rfl,Cm,cj (by omega),?_⟩
   have e7:upd Hy la (.lst (vs++[.ref lc])) la=some (.lst (vs++[.ref lc])):=aw;have k7:∀b o,b≠la→Hy b=some o→upd Hy la (.lst (vs++[.ref lc])) b=some o:=fun b o nb e=>by rw [aB nb];exact e
   have p7:=py.upd (o:=.lst (vs++[.ref lc])) vV;have r7:=A6 (P:=P0) (H:=Hy) (r:=la) (o:=.lst (vs++[.ref lc]));have Iu:aM P0 H (upd Hy la (.lst (vs++[.ref lc]))):=(sc.trans sy).but RD;generalize upd Hy la (.lst (vs++[.ref lc]))=H7 at e7 k7 p7 r7 Iu ⊢;have Cn:=k7 fd _ (fun z=>af z.symm) RK;have Co:=k7 lc _ ly lR;have RL:(d_ d).length=d.length:=by unfold d_;rw [aE]
   refine ⟨_,rfl,.inl ⟨rfl,_,.of Cn⟩,qW (xs:=d_ d) (fun R h=>⟨_,rfl,lc,rfl,⟨_,.of Co⟩,h _ _ (aj.refl _) (k6 (.of Co))⟩) (cj (by omega)) (fun _ i y Hz=>∃(b:Addr) (x:Nat),y=.ref b∧d[i]?=some x∧Hz b=some (.tup [.int (x:Int),.int (1+(k:Int))])) (fun Dd i y Ha Hb ys ⟨b,x,h1,h2,h3⟩ e f=>⟨b,x,h1,h2,f b _ (fun z=>by rw [z,e] at h3;cases h3) h3⟩) ?_ ?_⟩
   ·intro Dd i x hx Hz R sz _ kz
    obtain ⟨y,hy,rfl⟩:=Nk hx;refine ⟨_,rfl,_,rfl,by show 2≤sizeLine;decide,fun tp l8=>?_⟩
    exact kz _ _ (aN l8) ⟨tp,y,rfl,hy,aw⟩
   ·intro Dd zs H8 B3 s8 RM RN pU
    have lL:=hL.1;have l2:us.length≤450:=by
     have:=ok.d5;have:(k+1)*(k+1-1)≤30*30:=t7 (by omega) (by omega)
     omega
    refine ⟨fd,Dd,us,zs,rfl,rfl,s8 _ _ Cn,pU,bf (show _≤900 by omega) (by decide),?_⟩
    have k9:∀b o,b≠fd→H8 b=some o→upd H8 fd (.lst (us++zs)) b=some o:=fun b o nb e=>by rw [aB nb];exact e
    have p8:=p7.mono s8;have r9:=A6 (P:=P0) (H:=H8) (r:=fd) (o:=.lst (us++zs));have Iv:er P0 H8 fd=some (.lst us):=by rw [eA iF];exact s8 _ _ Cn
    have RO:er P0 Hy la=some (.lst vs):=by rw [eA vV];exact Cm
    refine ⟨vs++[.ref lc],us++zs,L++d.map fun(x:Nat)=>((x:Int),((k+1:Nat):Int)),fun i=>if i=k+1 then d else D i,_,_,_,rfl,(Iu.trans (aM.of s8)).but zd,p8.upd iF,k9 la _ af (s8 _ _ e7),⟨by simp [RG],fun i hi=>?_⟩,fun i b' fD=>?_,aw,?_,ok.more Ck⟩
    ·dsimp only
     by_cases z:i=k+1
     ·subst z
      rw [ae rfl];refine ⟨Ck,lc,by rw [gq (by omega),show k+1-vs.length=0 by omega];rfl,?_⟩
      exact r9 _ _ lf (by rw [eA tG];exact s8 _ _ Co)
     ·rw [aa z]
      obtain ⟨f1,b1,v1,h1⟩:=ah.2 i (by omega)
      obtain ⟨a1,a2⟩:=ap i b1 v1;refine ⟨f1,b1,by rw [gr (by omega)];exact v1,?_⟩
      exact r9 _ _ a2 (xu s8 _ _ (r7 _ _ a1 (sy _ _ h1)))
    ·by_cases z:i<vs.length
     ·rw [gr z] at fD
      exact ap i b' fD
     ·have aR:=(bL.mp fD).1
      rw [cS,jP] at aR;rw [gq (by omega),show i-vs.length=0 by omega] at fD
      cases fD;exact ⟨ly,lf⟩
    ·refine bS.cat ?_ ?_
     ·exact (((hL.mono sy).bZ RO r7).mono (xu s8)).bZ Iv r9
     ·refine bS.bZ (H:=er P0 H8) ⟨by rw [RM,RL,aE],fun i v p h1 h2=>?_⟩ Iv r9
      obtain ⟨b',x,rfl,hx,e'⟩:=RN i v h1;rw [bU,hx] at h2;cases h2;refine ⟨b',rfl,?_⟩;rw [show (((k+1:Nat):Int))=1+(k:Int) by omega]
      exact u5 p8 e'
  ·intro R hR
   refine ⟨_,rfl,P0,a,ns,9,rfl,p6,aj.seq tF hS,by decide,fG.of_lt (by decide) (by decide),fun c' H7 _ _ s7 p7=>⟨rfl,_,rfl,dv (fun _=>?_) (fun _=>?_)⟩⟩
   ·refine ⟨by show 0≤sizeLine;decide,fun lc tG=>?_⟩
    have nP:=p7.ne tG;have Iw:=s4.trans (Ci.trans s7);exact hR _ _ ⟨lc,[],rfl,Iw.trans (aM.of (aN tG)),p7.mono (aN tG),aw,eO.nil _,nP,none_of Iw (by rw [eA nP];exact tG)⟩
   ·exact hR _ _ ⟨c2,c::e,rfl,s4.trans (Ci.trans s7),p7,s7.at Cj e6,fe,Cj,f2⟩
 ·rintro σ Hc ⟨vs,us,L,D,v4,v5,v6,rfl,sc,p1,ze,ah,ap,eh,hL,ok⟩
  rw [show n-1+1=n by omega] at ok
  exact ⟨_,rfl,kk fd us L Hc sc p1 (by rw [eA iF];exact zd) iF eh hL ok.ok⟩
theorem RP:bX ["_law_pen","_law_most","_law_size","_law_way","_law_wide","_law_links","_law_j","_law_i"] ["_law_pen","_law_most"] (bo yG):=cG
theorem RQ(T:Txt K mg t):bF P w K mg base cH 4 t.pj t.rX ["_law_pen","_law_most"] (Nn K):=by
 have S:=RP;refine T.sR.dN S (fun _ _ _ _ H _ _ _ hr h=>?_);obtain ⟨P0,a,ns,most,rfl,pc,hS,m1,Wa,kk⟩:=h
 refine ⟨_,(aC (putL 2 S.nd (ba fB aH (bx (kC T) hr T.jK T.gm.kp T.jJ b9 (ak (pv 0) (ak (pv 1) au)))))
  (aC (putL 3 S.nd (bx (kC T) hr T.jK T.gm.kp T.jJ b9 (ak (pv 0) (ak aH au))))
  (aC (putL 4 S.nd (bx (kC T) hr T.jK T.gm.kp T.jJ b9 (ak (pv 0) (ak (pv 2) au))))
  (aC (putL 5 S.nd (dM au))
  (aC (dW dD rfl (jj rfl T.fi (ak (pv 2) au)) (cy (i:=6) S.nd rfl (Or.inl rfl))
   (aK (dW dD rfl (jj rfl T.fi (ak (pv 6) au)) (cy (i:=7) S.nd rfl (Or.inl rfl))
   (aK (dt (qE (bx (Rv T) hr T.GW T.sP.kp T.GV b9 (ak (pv 0) (ak (pv 3) (ak (pv 2) (ak (pv 4) (ak (pv 7) (ak (pv 6) au)))))))) (aK (fQ (iQ gv jV jW ic (pv 5) (ak (eX (ak (pv 7) (ak (pv 6) au))) au)))) dr)))))
  (aC (dt (df jk (pv 3) aH) (aK (putL 5 S.nd (bx (RB T) hr T.GY T.sQ.kp T.GX b9 (ak (pv 0) (ak (pv 2) au))))) dr)
  (aK (bW (bx (Rx T) hr T.G2 T.sS.kp T.G1 b9 (ak (pv 2) (ak (pv 5) (ak (bx (Ii T) hr T.BS T.pO.kp T.BR b9 (ak (pv 0) (ak (j_ (Au rfl) rfl T.tj boot_list (ak (j_ As rfl T.fi Av (ak (pv 2) au)) au)) au))) au)))))))))))),?_⟩
 refine cP fun _ i6=>⟨_,rfl,_,rfl,P0,a,ns,(most:Int),rfl,pc,hS,by omega,fG.of_lt (by omega) (by omega),fun c H1 c0 c1 s1 p1=>⟨_,_,rfl,rfl,?_⟩⟩
 obtain ⟨c,rfl⟩:=g6 c0;dsimp only [aT];refine i6 _ _ ?_;rw [show 1+(c:Int)=((c+1:Nat):Int) by omega]
 have n1:1≤c+1:=by omega
 have nm:c+1≤most:=by omega
 generalize c+1=n at n1 nm ⊢;have RR:bj K (er P0 H1) a (ns.map V.int):=aj.seq s1 hS;refine cP fun _ i7=>⟨_,rfl,P0,a,ns,6,rfl,p1,RR,by decide,fG.of_lt (by decide) (by decide),fun way H2 _ _ s2 p2=>?_⟩
 have l6:=s1.trans s2;dsimp only [aT];refine i7 _ _ ?_;refine cP fun _ mZ=>⟨_,rfl,_,rfl,P0,a,ns,(n:Int),rfl,p2,aj.seq l6 hS,by omega,fG.of_lt (by omega) (by omega),fun wide H3 _ _ s3 p3=>?_⟩
 have gO:=l6.trans s3;dsimp only [aT];refine mZ _ _ ?_;refine cP fun _ tH=>⟨by show 0≤sizeLine;decide,fun fd eQ=>?_⟩
 have s4:aj H3 (upd H3 fd (.lst [])):=aN eQ;have ef:upd H3 fd (.lst []) fd=some (.lst []):=aw;dsimp only [aT];refine tH _ _ ?_;generalize upd H3 fd (.lst [])=H4 at s4 ef ⊢;have yY:=gO.trans (aM.of s4);have p4:=p3.mono s4;have iF:fd≠P0:=p3.ne eQ;have Iy:er P0 H fd=none:=none_of gO (by rw [eA iF];exact eQ)
 have zd:H fd=none:=by rw [eA iF] at Iy;exact Iy
 refine ⟨_,rfl,(n:Int),rfl,by omega,by omega,?_⟩
 rw [dq];refine kU (fun j σ Hc=>∃(us:List V) (L:aA) (v6 v7:Option V),σ=[some (.ref P0),some (.int (most:Int)),some (.int (n:Int)),some (.int way),some (.int wide),some (.ref fd),v6,v7]∧aM P0 H Hc∧b3 Hc P0 a∧Hc fd=some (.lst us)∧bS (er P0 Hc) us L∧fK j 0 L) ⟨[],[],_,_,rfl,yY,p4,ef,bS.nil _,fK.start⟩ ?_ ?_
 ·rintro j σ Hc hj ⟨us,L,v6,v7,rfl,sc,p5,eh,hL,ok⟩
  dsimp only [aT];simp only [List.set_cons_zero,List.set_cons_succ];refine ⟨_,rfl,(j:Int),by rw [fP],by omega,by omega,?_⟩
  rw [dq];refine kU (fun i σ Hd=>∃(us:List V) (L:aA) (v7:Option V),σ=[some (.ref P0),some (.int (most:Int)),some (.int (n:Int)),some (.int way),some (.int wide),some (.ref fd),some (.int (0+(j:Int))),v7]∧aM P0 H Hd∧b3 Hd P0 a∧Hd fd=some (.lst us)∧bS (er P0 Hd) us L∧fK j i L) ⟨us,L,_,rfl,sc,p5,eh,hL,ok⟩ ?_ ?_
  ·rintro i σ Hd hi ⟨us,L,v7,rfl,sd,p6,eh,hL,ok⟩
   refine ⟨_,rfl,_,rfl,_,rfl,_,rfl,_,rfl,_,rfl,P0,a,ns,way,(n:Int),wide,0+(i:Int),0+(j:Int),rfl,p6,aj.seq sd hS,fun b He se pe=>?_⟩;have Cp:=se.at iF eh;have Iz:=hL.mono se;have lL:=hL.1;have l2:us.length≤900:=by
    have:=ok.d5;have:j*(j-1)≤30*30:=t7 (by omega) (by omega)
    omega
   cases b with
   | true=>
    refine ⟨true,rfl,Ao ?_⟩;refine ⟨_,rfl,.inl ⟨rfl,_,.of Cp⟩,_,rfl,_,rfl,by show 2≤sizeLine;decide,fun tp l8=>?_⟩
    have st:aj He (upd He tp (.tup [.int (0+(i:Int)),.int (0+(j:Int))])):=aN l8;have et:upd He tp (.tup [.int (0+(i:Int)),.int (0+(j:Int))]) tp=some (.tup [.int (i:Int),.int (j:Int)]):=by rw [aw,fP,fP]
    generalize upd He tp (.tup [.int (0+(i:Int)),.int (0+(j:Int))])=Hf at st et ⊢;have pf:=pe.mono st;have IA:=st _ _ Cp;refine ⟨fd,us,_,rfl,rfl,IA,cj (by omega),us++[.ref tp],L++[((i:Int),(j:Int))],_,rfl,((sd.trans se).trans (aM.of st)).but zd,pf.upd iF,aw,?_,ok.push hi⟩
    refine bS.bZ (H:=er P0 Hf) ((Iz.mono (xu st)).push (u5 pf et)) (by rw [eA iF];exact IA) A6
   | false=>exact ⟨false,rfl,jq ⟨us,L,_,rfl,sd.trans se,pe,Cp,Iz,ok.skip⟩⟩
  ·rintro σ Hd ⟨us,L,v7,rfl,sd,p6,eh,hL,ok⟩
   exact ⟨us,L,_,_,rfl,sd,p6,eh,hL,ok.next⟩
 ·rintro σ Hc ⟨us,L,v6,v7,rfl,sc,p5,eh,hL,ok⟩
  dsimp only;refine dY (EV (fun σ Hy=>∃(lk:Addr) (us:List V) (L:aA),σ=[some (.ref P0),some (.int (most:Int)),some (.int (n:Int)),some (.int way),some (.int wide),some (.ref lk),v6,v7]∧aM P0 H Hy∧b3 Hy P0 a∧lk≠P0∧Hy lk=some (.lst us)∧bS (er P0 Hy) us L∧iW n L) ?_ ?_)
  ·rintro σ Hy ⟨lk,us,L,rfl,sy,py,RS,RT,hL,ok⟩
   dsimp only;refine ⟨_,rfl,_,rfl,_,rfl,_,rfl,(n:Int),rfl,fun pr RU=>?_⟩;have s6:aj Hy (upd Hy pr (.g7 0 (n:Int))):=aN RU;refine ⟨pr,n,rfl,aw,by omega,fun l0 n0=>?_⟩
   have s7:=s6.trans (aN (o:=.lst (dh n)) n0);have e0:upd (upd Hy pr (.g7 0 (n:Int))) l0 (.lst (dh n)) l0=some (.lst (dh n)):=aw;have ky:l0≠P0:=(py.mono s6).ne n0;generalize upd (upd Hy pr (.g7 0 (n:Int))) l0 (.lst (dh n))=Hz at s7 e0 ⊢;have lu:(dh n).length=n:=by unfold dh;simp
   refine ⟨P0,a,l0,ns,dh n,rfl,py.mono s7,aj.seq (sy.trans (aM.of s7)) hS,ky,e0,by omega,fun r ys Hw sw pw fr nr vT pm=>?_⟩
   obtain ⟨RV,ly,hy,NO⟩:=Nm pm;have zg:=(aM.of s7).trans sw;refine ⟨lk,r,n,us,ys,L,RV,rfl,zg.at RS RT,(hL.mono zg).mono xt,ok,by omega,vT,ly,hy,NO,fun tt L' Hv sv IC sh Cq RW vM=>?_⟩
   have nt:tt≠P0:=pw.ne IC;exact kk tt n L' Hv ((sy.trans zg).trans (aM.of sv)) (pw.mono sv) (none_of (sy.trans zg) (by rw [eA nt];exact IC)) nt (sh.er (pw.mono sv)) Cq RW n1 nm
  ·intro R hR
   refine ⟨_,rfl,rfl,_,rfl,dv (fun _=>?_) (fun _=>?_)⟩
   ·refine ⟨_,rfl,_,rfl,P0,a,ns,n,rfl,p5,aj.seq sc hS,n1,by omega,fun r RX L' Hy sy py fr nr vT RY Cq=>?_⟩
    exact hR _ _ ⟨r,RX,L',rfl,sc.trans sy,py,nr,vT,RY,Cq⟩
   ·exact hR _ _ ⟨fd,us,L,rfl,sc,p5,iF,eh,hL,ok.ok⟩
theorem RZ:bX ["_law_shape","_law_found","_law_i","_law_j"] ["_law_shape"] (bo yI):=cG
theorem R0(T:Txt K mg t):bF P w K mg base cH 1 t.pB t.rZ ["_law_shape"] Oq:=by
 have S:=RZ;refine T.sU.dN S (fun _ _ _ _ H _ _ _ hr h=>?_);obtain ⟨tp,n,L,rfl,⟨lt,us,dA,elt,hL⟩,ok,n9,l2,kk⟩:=h;have yP:((List.range n).map fun i:Nat=>V.int (0+(i:Int))).length=n:=by rw [aE,dz]
 refine ⟨_,(aC (xq (i0:=1) (N:=["_law_k"]) (ρ:=(fun σ=>[])) (fF [] rfl) rfl S.nd rfl (Or.inl rfl) (jj rfl T.fi (ak (bJ gy (pv 0) aH) au)) (fun _ _ _=>.nil) (fun _ _ _=>(dM au)))
  (aC (dW dD rfl (Dt (bJ gy (pv 0) aH)) (qG rfl (iL (cy (i:=2) S.nd rfl (Or.inl rfl)) (iL (cy (i:=3) S.nd rfl (Or.inl rfl)) qF)))
   (aC (fQ (iQ gv jV jW ic (bJ dg (pv 1) (pv 2)) (ak (pv 3) au)))
  (aK (fQ (iQ gv jV jW ic (bJ dg (pv 1) (pv 3)) (ak (pv 2) au))))))
  (aK (bW (pv 1))))),?_⟩
 refine dY (ig (AE (xs:=(List.range n).map fun i:Nat=>V.int (0+(i:Int))) (n:=n) yP (fun R h=>⟨_,rfl,tp,_,_,_,rfl,rfl,.of dA,rfl,(n:Int),rfl,by omega,by omega,h _ _ (aj.refl _) (by rw [dq];exact Ax)⟩) (cj (by omega)) (fun _ i y Hx=>Hx y=some (.lst [])∧H y=none) ?_ ?_ ?_))
 ·intro D i y Ha Hb ys ⟨h1,h2⟩ hy e f
  exact ⟨f y _ hy h1,h2⟩
 ·intro D i x hx Hc R sc _ kc
  exact ⟨bH _,fun p np=>kc p _ (eZ (aj.refl _) np) np ⟨_,aw⟩ ⟨aw,none_of sc np⟩⟩
 ·intro D rs H1 nD s1 inj hA eD
  have K0:gg H1 D n rs (fun _=>[]):=⟨eD,inj,fun i hi=>(hA i hi).2,fun i hi=>(hA i hi).1.1⟩;have fr:∀i,i<n→H (rs i)=none:=fun i hi=>(hA i hi).1.2;dsimp only [aT];refine dY ⟨_,rfl,tp,_,_,_,rfl,rfl,.of (s1 _ _ dA),rfl,lt,rfl,⟨_,.of (s1 _ _ elt)⟩,?_⟩;refine DA (K:=K) (a:=lt) (xs:=us) (fun k σ Hc=>∃(g:Nat→List Nat) (v2 v3:Option V),σ=[some (.ref tp),some (.ref D),v2,v3]∧aj H Hc∧gg Hc D n rs g∧d6 n (L.take k) g∧∀a,(g a).length≤2*k) ⟨_,_,_,rfl,s1,K0,d6.nil n,fun _=>ay _⟩ (fun k σ Hc _ ⟨_,_,_,_,sc,_⟩=>.of (sc _ _ elt)) ?_ ?_
  ·rintro k x σ Hc hx ⟨g,v2,v3,rfl,sc,KL,nb,gl⟩
   have hk:k<L.length:=by rw [←hL.1];exact (bL.mp hx).1
   obtain ⟨b,rfl,eb⟩:=hL.2 k x L[k] hx (by simp [hk])
   have pk:=ok L[k] (c_ hk);have tk:L.take (k+1)=L.take k++[L[k]]:=by rw [kG,bV hk];rfl
   generalize L[k]=p at eb pk tk;obtain ⟨p1,p2⟩:=p;dsimp only at pk eb;obtain ⟨i,rfl⟩:=g6 pk.1;obtain ⟨j,rfl⟩:=g6 pk.2.2.1;have hi:i<n:=by omega
   have hj:j<n:=by omega
   refine ⟨b,_,rfl,.of (sc _ _ eb),rfl,_,_,rfl,_,_,rfl,rfl,?_⟩;have off:∀(Hx:Hp) (i:Nat) (o:HO),i<n→aj H Hx→aj H (upd Hx (rs i) o):=fun Hx i o hi sx a u e=>by
    rw [aB (fun z=>by rw [z,fr i hi] at e;cases e)]
    exact sx _ _ e
   have K1:=KL.snoc j hi;have K2:=K1.snoc i hj;have g1:=gl i;have g2:(lN g i j j).length≤2*k+1:=bf Bl (by have:=gl j;omega)
   refine ⟨_,rfl,_,rfl,D,_,_,_,rfl,rfl,.of KL.lst,oz hi,.inl ⟨rfl,_,.of (KL.at' i hi)⟩,_,rfl,rs i,_,_,rfl,rfl,KL.at' i hi,cj (by rw [aE];omega),?_⟩
   refine ⟨_,rfl,_,rfl,D,_,_,_,rfl,rfl,.of K1.lst,oz hj,.inl ⟨rfl,_,.of (K1.at' j hj)⟩,_,rfl,rs j,_,_,rfl,rfl,K1.at' j hj,cj (by rw [aE];omega),?_⟩
   exact ⟨_,_,_,rfl,off _ _ _ hj (off _ _ _ hi sc),K2,by rw [tk];exact nb.snoc,fun a=>bf Bl (by have:=Bl (g:=g) (i:=i) (j:=j) (a:=a);have:=gl a;omega)⟩
  ·rintro σ Hc ⟨g,v2,v3,rfl,sc,KL,nb,_⟩
   rw [hL.1,gX] at nb;exact ⟨_,rfl,kk _ _ _ _ sc nD fr KL nb⟩
theorem R1:bX ["_law_beside_here","_law_through","_law_start","_law_met","_law_row","_law_other"] ["_law_beside_here","_law_through","_law_start"] (bo yJ):=cG
theorem R3(T:Txt K mg t):bF P w K mg base cH 1 t.pC t.r6 ["_law_beside_here","_law_through","_law_start"] Qa:=by
 have S:=R1
 refine T.sV.dN S (fun _ _ _ _ H vs _ _ hr h=>?_)
 obtain ⟨D,d,n,rs,g,done,p,rfl,KL,gn,ed,ld,pn,yQ,kk⟩:=h
 have hu:=gW (kK (show 1≤64 by decide) _) hr.units
 have i8:=hr.units
 refine ⟨_,(aC (putL 3 S.nd (Ff (Fc (pv 2) hE Fb) rfl rfl (fun h=>by cases h) (by decide)))
  (aC (putL 4 S.nd (dM (ak (pv 2) au)))
  (aC (wK dD (df (EU i8) (pv 4) (dM au)) (aK (dW dD rfl (eW (bJ dg (pv 0) (D8 gv zQ zR Eb (pv 4)))) (cy (i:=5) S.nd rfl (Or.inl rfl))
   (aK (dt (Dj (E8 hu (pv 5) (pv 3)) rfl) (aC (lG hu (pv 3) (pv 5) hE rfl)
  (aK (dt (nZ D7 (pv 5) (pv 1) rfl) (aK (fQ (iQ gv jV jW ic (pv 4) (ak (pv 5) au)))) dr))) dr)))))
  (aK (bW (pv 3)))))),?_⟩
 refine cP fun _ i6=>(ig fun mt iC=>⟨_,rfl,aw,[((Sum.inl (p:Int):Key),V.bl true)],rfl,by show 1≤15;decide,?_⟩)
 have s0:∀b o,b≠mt→H b=some o→upd (upd H mt (.dK [])) mt (.dK (jD [] [((Sum.inl (p:Int):Key),V.bl true)])) b=some o:=fun b o ne e=>by rw [aB ne,aB ne];exact e
 have em:upd (upd H mt (.dK [])) mt (.dK (jD [] [((Sum.inl (p:Int):Key),V.bl true)])) mt=some (.dK (dk [p])):=by rw [aw];rfl
 generalize upd (upd H mt (.dK [])) mt (.dK (jD [] [((Sum.inl (p:Int):Key),V.bl true)]))=H1 at s0 em ⊢
 have sm:aj H H1:=fun b o e=>s0 b o (fun z=>by rw [z,iC] at e;cases e) e
 dsimp only [aT]
 refine i6 _ _ ?_
 refine cP fun _ i7=>⟨_,rfl,by show 1≤sizeLine;decide,fun l nl=>?_⟩
 have sl:aj H1 (upd H1 l (.lst [V.int (p:Int)])):=aN nl
 have el:upd H1 l (.lst [V.int (p:Int)]) l=some (.lst (([p]:List Nat).map fun k:Nat=>V.int (k:Int))):=aw
 generalize upd H1 l (.lst [V.int (p:Int)])=H2 at sl el ⊢
 have ky:H l=none:=none_of sm nl
 have lm:l≠mt:=fun z=>by rw [z,em] at nl;cases nl
 have s2:=sm.trans sl
 dsimp only [aT]
 refine i7 _ _ ?_
 refine dY ⟨fun m σ Hc=>∃(ks ws:List Nat) (v5:Option V),σ=[some (.ref D),some (.ref d),some (.int (p:Int)),some (.ref mt),some (.ref l),v5]∧m=2*(n-ks.length)+ws.length∧aj H Hc∧Hc mt=some (.dK (dk ks))∧Hc l=some (.lst (ws.map fun k:Nat=>V.int (k:Int)))∧di n (fg n g) (·∈done) p none (fun _=>True) ks ws∧ws.length≤ks.length,⟨_,[p],[p],_,rfl,rfl,s2,sl _ _ em,el,di.start pn,ay _⟩,?_⟩
 rintro m' σ Hc ⟨ks,ws,v5,rfl,Qx,oc,vE,lR,wk,wl⟩
 have BW:=wk.pl.len
 refine ⟨_,rfl,by show 0≤sizeLine;decide,fun le Cg=>?_⟩
 have s3:aj Hc (upd Hc le (.lst [])):=aN Cg
 have e3:upd Hc le (.lst []) le=some (.lst []):=aw
 generalize upd Hc le (.lst [])=Hn at s3 e3 ⊢
 refine ⟨l,le,_,rfl,rfl,.of (s3 _ _ lR),e3,_,rfl,dv (fun hz=>?_) (fun hz=>?_)⟩
 ·have vF:ws≠[]:=fun z=>by rw [z] at hz;cases hz
  obtain ⟨us,h,rfl⟩:∃us h,ws=us++[h]:=⟨ws.dropLast,ws.getLast vF,(List.dropLast_concat_getLast vF).symm⟩
  have Qy:(us++[h]).length=us.length+1:=by simp
  have hh:=wk.wt h (dI _ (bR.mpr rfl))
  have hn:h<n:=wk.pl.2 h hh.1
  have jL:=wk.pop
  refine ⟨_,fun _ _ h=>h,?_⟩
  refine ⟨_,rfl,_,rfl,.inl ⟨rfl,_,.of (s3 _ _ lR)⟩,l,_,.int (h:Int),rfl,rfl,s3 _ _ lR,by simp,?_⟩
  rw [dJ,cZ,qa,List.dropLast_concat]
  have sn:=oc.trans s3
  have o1:∀b u,b≠l→Hn b=some u→upd Hn l (.lst (us.map fun k:Nat=>V.int (k:Int))) b=some u:=fun b u ne e=>by rw [aB ne];exact e
  have vG:upd Hn l (.lst (us.map fun k:Nat=>V.int (k:Int))) l=some (.lst (us.map fun k:Nat=>V.int (k:Int))):=aw
  have vH:∀{Hx Hy:Hp},aj H Hx→(∀b u,b≠l→Hx b=some u→Hy b=some u)→aj H Hy:=fun h k b u e=>k b u (fun z=>by rw [z,ky] at e;cases e) (h b u e)
  have BX:∀{Hx Hy:Hp},aj H Hx→(∀b u,b≠mt→Hx b=some u→Hy b=some u)→aj H Hy:=fun h k b u e=>k b u (fun z=>by rw [z,iC] at e;cases e) (h b u e)
  have pQ:=vH sn o1
  have vI:=o1 _ _ (Ne.symm lm) (s3 _ _ vE)
  generalize upd Hn l (.lst (us.map fun k:Nat=>V.int (k:Int)))=H3 at o1 vG pQ vI ⊢
  refine ⟨D,_,_,_,rfl,rfl,.of (pQ _ _ KL.lst),oz hn,rs h,rfl,⟨_,.of (pQ _ _ (KL.at' h hn))⟩,?_⟩
  refine nV (K:=K) (a:=rs h) (xs:=(g h).map fun k:Nat=>V.int (k:Int)) (fun i σ He=>∃(ks us:List Nat) (v5:Option V),σ=[some (.ref D),some (.ref d),some (.int (p:Int)),some (.ref mt),some (.ref l),v5]∧aj H He∧He mt=some (.dK (dk ks))∧He l=some (.lst (us.map fun k:Nat=>V.int (k:Int)))∧di n (fg n g) (·∈done) p (some h) (·∈(g h).take i) ks us∧us.length≤ks.length∧h∈ks∧2*(n-ks.length)+us.length<m') ⟨ks,us,_,rfl,pQ,vI,vG,⟨jL.pl,jL.st,jL.rc,jL.wt,fun x hx ox=>(jL.cl x hx ox).imp id fun e b hb=>(e b hb).imp id fun z=>⟨z.1,by simp⟩⟩,by omega,hh.1,by omega⟩ (fun i σ He _ ⟨_,_,_,_,e,_⟩=>.of (e _ _ (KL.at' h hn))) ?_ ?_
  ·rintro i x σ He hx ⟨ks,us,v5,rfl,oe,jM,lU,fj,ul,iD,lt⟩
   obtain ⟨k,hk,rfl⟩:∃k:Nat,(g h)[i]?=some k∧x=.int (k:Int):=by
    rw [bU] at hx
    cases e:(g h)[i]? with
    | none=>rw [e] at hx;cases hx
    | some q=>rw [e] at hx;exact ⟨q,rfl,(Option.some.inj hx).symm⟩
   have km:k∈g h:=iG hk
   have kn:k<n:=gn h hn k km
   have tk:=take_snoc hk
   have QC:=fj.pl.len
   dsimp only [aT]
   refine ⟨_,rfl,_,rfl,mt,_,rfl,.inl ⟨dk ks,Sum.inl (k:Int),.inl jM,rfl,rfl⟩,_,rfl,?_⟩
   rw [Fl]
   by_cases iE:k∈ks
   ·rw [ae iE]
    refine jq ⟨ks,us,_,rfl,oe,jM,lU,?_,ul,iD,lt⟩
    have w2:=fj.old iE
    refine ⟨w2.pl,w2.st,w2.rc,w2.wt,fun x hx ox=>(w2.cl x hx ox).imp id fun e b hb=>(e b hb).imp id fun z=>⟨z.1,fun q=>z.2 ?_⟩⟩
    rw [tk] at q
    exact (cL.mp q).imp id bR.mp
   ·rw [aa iE]
    refine Ao ?_
    have al:=Fw iE
    have o4:∀b u,b≠mt→He b=some u→upd He mt (.dK (dk (bK ks k))) b=some u:=fun b u ne e=>by rw [aB ne];exact e
    refine dY ⟨_,rfl,_,rfl,mt,upd He mt (.dK (dk (bK ks k))),rfl,.inl ⟨dk ks,Sum.inl (k:Int),jM,rfl,by rw [vc];exact cj (by omega),by rw [Bf]⟩,?_⟩
    have pR:upd He mt (.dK (dk (bK ks k))) mt=some (.dK (dk (bK ks k))):=aw
    have lW:=BX oe o4
    have lY:=o4 _ _ lm lU
    generalize upd He mt (.dK (dk (bK ks k)))=H4 at o4 pR lW lY ⊢
    have conv:∀{vs:List Nat},di n (fg n g) (·∈done) p (some h) (fun x=>x∈(g h).take i∨x=k) (bK ks k) vs→di n (fg n g) (·∈done) p (some h) (·∈(g h).take (i+1)) (bK ks k) vs:=fun w2=>⟨w2.pl,w2.st,w2.rc,w2.wt,fun x hx ox=>(w2.cl x hx ox).imp id fun e b hb=>(e b hb).imp id fun z=>⟨z.1,fun q=>z.2 (by
     rw [tk] at q
     exact (cL.mp q).imp id bR.mp)⟩⟩
    have QD:=(fj.pl.add kn).len
    dsimp only
    refine ⟨_,rfl,_,rfl,d,_,rfl,.inr (.of (lW _ _ ed)),rfl,xW done,_,rfl,dv (fun hb=>?_) (fun hb=>?_)⟩
    ·have hb:gB (.int (k:Int)) (done.map fun k:Nat=>V.int (k:Int))=true:=hb
     rw [lK,fk] at hb
     refine ⟨_,rfl,.inl ⟨rfl,_,.of lY⟩,_,rfl,l,_,_,rfl,rfl,lY,cj (by rw [aE];omega),?_⟩
     have o5:∀b u,b≠l→H4 b=some u→upd H4 l (.lst ((us.map fun k:Nat=>V.int (k:Int))++[V.int (k:Int)])) b=some u:=fun b u ne e=>by rw [aB ne];exact e
     exact ⟨bK ks k,us++[k],_,rfl,vH lW o5,o5 _ _ (Ne.symm lm) pR,by rw [aw,dJ];rfl,conv (fj.new iE kn iD hh.2 ⟨hn,km⟩ (.inl ⟨hb,rfl⟩)),by rw [al,cS,jP];omega,fL.mpr (.inl iD),by rw [al,cS,jP];omega⟩
    ·have hb:¬gB (.int (k:Int)) (done.map fun k:Nat=>V.int (k:Int))=true:=hb
     rw [lK,fk] at hb
     exact ⟨bK ks k,us,_,rfl,lW,pR,lY,conv (fj.new iE kn iD hh.2 ⟨hn,km⟩ (.inr ⟨hb,rfl⟩)),by rw [al];omega,fL.mpr (.inl iD),by rw [al];omega⟩
  ·rintro σ He ⟨ks,us,v5,rfl,oe,jM,lU,fj,ul,iD,lt⟩
   rw [aE,gX] at fj
   exact ⟨_,lt,ks,us,_,rfl,rfl,oe,jM,lU,fj.next fun b hb=>hb.2,ul⟩
 ·have w0:ws=[]:=by
   cases ws with
   | nil=>rfl
   | cons x r=>exact absurd rfl hz
  subst w0
  exact ⟨_,rfl,kk _ mt ks (oc.trans s3) iC (s3 _ _ vE) wk.pl wk.done⟩
theorem R4:bX ["_law_beside_here","_law_done","_law_place","_law_met","_law_many"] ["_law_beside_here","_law_done","_law_place"] (bo yK):=cG
theorem R5(T:Txt K mg t):bF P w K mg base cH 2 t.pD t.r_ ["_law_beside_here","_law_done","_law_place"] Qb:=by
 have S:=R4;refine T.sW.dN S (fun _ _ _ _ H _ Q _ hr h=>?_);obtain ⟨D,d,n,rs,g,done,p,rfl,KL,gn,ed,ld,pn,yQ,kk⟩:=h
 refine ⟨_,(aC (putL 3 S.nd (bx (R3 T) hr T.G6 T.sV.kp T.G5 b9 (ak (pv 0) (ak (pv 1) (ak (pv 2) au)))))
  (aC (putL 4 S.nd (cT ke rfl T.iB iH (ak (iR (N:=["_law_other","_law_place","_law_done"]) (ρ:=(fun σ=>[σ[2]?.join,σ[1]?.join])) (fF [2,1] rfl) rfl (xT (pv 3)) (fun _ _ _=>(.one (PW.pt (pw_and (df uh (pv 0) (pv 1)) (pw_and1 (nZ (xV (K:=K)) (pv 0) (pv 2) rfl)))))) (fun _ _ _=>(pv 0))) au)))
  (aK (bW (ba fB (ba fB (ba hJ (pv 4) (pv 4)) (ba hJ aH (pv 4))) aH))))),?_⟩
 refine ⟨_,rfl,_,rfl,_,rfl,D,d,n,rs,g,done,p,rfl,KL,gn,ed,ld,pn,yQ,fun H1 mt ks s1 iC R6 pl ik=>?_⟩;dsimp only [aT];have BW:=pl.len;refine dY (ig (uN (vh (Bk (a:=mt) (kvs:=dk ks) (fun Q q=>⟨_,rfl,q⟩) (.inl R6) fun ob Hf lT off=>?_))));have sf:aj H Hf:=fun b u e=>off _ _ (fun z=>by rw [z,iC] at e;cases e) (s1 _ _ e)
 have B0:=sf _ _ ed;refine Bh lT (fun q=>!decide (q=p) && !decide (q∈done)) (cj (by omega)) ?_ ?_ ?_
 ·intro q hq Hx R sx hR
  refine ⟨_,rfl,_,rfl,rfl,_,rfl,dv (fun hb=>?_) (fun hb=>?_)⟩
  ·have ne:¬q=p:=fun z=>by subst z;rw [qT,b8 rfl] at hb;cases hb
   refine ⟨_,rfl,_,rfl,d,_,rfl,.inr (.of (sx _ _ B0)),rfl,xW done,_,rfl,?_⟩;rw [bP ne,Bool.not_false,Bool.true_and] at hR;have e:(if true=true then !gB (.int (q:Int)) (done.map fun k:Nat=>V.int (k:Int)) else gB (.int (q:Int)) (done.map fun k:Nat=>V.int (k:Int))) = !decide (q∈done):=by rw [ae rfl,lK]
   rw [e];exact hR
  ·have eq:q=p:=by
    by_cases z:(q:Int)=(p:Int);·omega
    ·exact absurd (by rw [qT,bP z];rfl) hb
   rw [b8 eq,Bool.not_true,Bool.false_and] at hR;exact hR
 ·intro q hq Hx R hR
  exact ⟨_,rfl,hR⟩
 ·intro r Hg nr sg eg
  have c9:(ks.filter fun q=>!decide (q=p) && !decide (q∈done)).length≤n:=bf (jU _ _) BW;have lmap:((ks.filter fun q=>!decide (q=p) && !decide (q∈done)).map fun k:Nat=>V.int (k:Int)).length=(ks.filter fun q=>!decide (q=p) && !decide (q∈done)).length:=aE _;refine ⟨r,_,rfl,.inl (.of eg),?_⟩;dsimp only [aT];rw [lmap];exact ⟨_,rfl,_,rfl,_,_,rfl,rfl,.inl ⟨by omega,by omega⟩,_,rfl,_,_,rfl,rfl,.inl ⟨by omega,by omega⟩,_,_,rfl,rfl,_,_,rfl,rfl,kk Hg _ (sf.trans sg) ⟨ks,pl,ik,rfl⟩⟩
theorem R7:bX ["_law_size","_law_found","_law_place"] ["_law_size"] (bo yL):=cG
theorem R8(T:Txt K mg t):bF P w K mg base cH 1 t.pE t.si ["_law_size"] FW:=by
 have S:=R7;refine T.sX.dN S (fun _ _ _ _ H _ _ _ hr h=>?_);obtain ⟨n,rfl,n9,kk⟩:=h
 refine ⟨_,(aC (putL 1 S.nd (dM (ak (eX au) au)))
  (aC (dW dD rfl (jj rfl T.fi (ak (pv 0) au)) (cy (i:=2) S.nd rfl (Or.inr rfl))
   (aK (putL 1 S.nd (ba w6 (pv 1) (iR (N:=["_law_part","_law_place"]) (ρ:=(fun σ=>[σ[2]?.join])) (fF [2] rfl) rfl (eW (pv 1)) (fun _ _ _=>.nil) (fun _ _ _=>(ba (Bi (K:=K)) (pv 0) (eX (ak (pv 1) au)))))))))
  (aK (bW (pv 1))))),?_⟩
 refine ⟨bH _,fun b nb=>⟨by show 1≤sizeLine;decide,fun l nl=>?_⟩⟩
 have s0:aj H (upd (upd H b (.tup [])) l (.lst [.ref b])):=(aN nb).trans (aN nl);have lb:b≠l:=fun z=>by rw [z,aw] at nl;cases nl
 have eb:upd (upd H b (.tup [])) l (.lst [.ref b]) b=some (.tup []):=by rw [aB lb,aw]
 have el:upd (upd H b (.tup [])) l (.lst [.ref b]) l=some (.lst [.ref b]):=aw;generalize upd (upd H b (.tup [])) l (.lst [.ref b])=H0 at s0 eb el ⊢;dsimp only [aT];refine dY ⟨_,rfl,(n:Int),rfl,by omega,by omega,?_⟩
 rw [dq];refine kU (fun k σ Hc=>∃(D:Addr) (xs:List V) (v2:Option V),σ=[some (.int (n:Int)),some (.ref D),v2]∧aj H Hc∧H D=none∧Hc D=some (.lst xs)∧fh Hc xs (aS k)) ⟨l,_,_,rfl,s0,none_of (aN nb) nl,el,⟨rfl,fun i v q h1 h2=>?_⟩⟩ ?_ ?_
 ·match i,h1,h2 with
  | 0,h1,h2=>cases h1;cases h2;exact ⟨b,rfl,eb⟩
  | i+1,h1,h2=>simp at h1
 ·rintro k σ Hc hk ⟨D,xs,v2,rfl,sc,nD,eD,tu⟩
  have p2:2 ^ k≤512:=bf (qg (by decide) (show k≤9 by omega)) (by decide)
  have lx:xs.length=2 ^ k:=tu.1.trans (rh k);dsimp only [aT];refine ig ⟨_,rfl,qW (xs:=xs) (fun R h=>⟨_,rfl,D,rfl,⟨_,.of eD⟩,h _ _ (aj.refl _) (k6 (.of eD))⟩) (cj (by omega)) (fun _ i y Hz=>∀q,(aS k)[i]?=some q→∃(b:Addr),y=.ref b∧Hz b=some (.tup ((q++[k]).map fun k:Nat=>V.int (k:Int)))) (fun Dd i y Ha Hb ys h e f q hq=>by obtain ⟨b,h1,h2⟩:=h q hq;exact ⟨b,h1,f b _ (fun z=>by rw [z,e] at h2;cases h2) h2⟩) ?_ ?_⟩
  ·intro Dd i x hx Hz R sz _ kz
   have hi:i<(aS k).length:=by rw [←tu.1];exact (bL.mp hx).1
   obtain ⟨b,rfl,eb⟩:=tu.2 i x _ hx (bV hi);have gN:(aS k)[i]?=some (aS k)[i]:=bV hi;generalize (aS k)[i]=us at eb gN;have lu:us.length≤60:=by obtain ⟨u1,u2⟩:=dm.mp (iG gN);have:=oG u1 u2;omega
   refine ⟨_,rfl,_,rfl,by show 1≤sizeLine;decide,fun q nq=>?_⟩
   have jN:=sz _ _ eb;have bq:b≠q:=fun z=>by rw [z,nq] at jN;cases jN
   have B2:upd Hz q (.tup [V.int (0+(k:Int))]) b=some (.tup (us.map fun k:Nat=>V.int (k:Int))):=(aB bq).trans jN;refine ⟨b,q,_,_,rfl,rfl,.of B2,.of aw,by simp,bf (show _≤100 by simp;omega) (by decide),fun e=>?_,fun ne p np=>?_⟩
   ·refine kz _ _ (aN nq) fun r hr=>⟨q,rfl,?_⟩
    rw [gN] at hr;cases hr;have:us=[]:=qy.mp e;subst this;rw [aw,fP];rfl
   ·refine kz _ _ ((aN nq).trans (aN np)) fun r hr=>⟨p,rfl,?_⟩
    rw [gN] at hr;cases hr;rw [aw,fP,dJ];rfl
  ·intro Dd ys Hd B3 sd kB lZ pU
   refine ⟨D,Dd,xs,ys,rfl,rfl,sd _ _ eD,pU,bf (show _≤2000 by omega) (by decide),fun l2 l5=>?_⟩
   have ty:fh Hd ys ((aS k).map (·++[k])):=⟨by rw [kB,aE,tu.1],fun i v q h1 h2=>by
    rw [bU] at h2;cases e:(aS k)[i]? with
    | none=>rw [e] at h2;cases h2
    | some r=>rw [e] at h2;cases h2;exact lZ i v h1 r e⟩
   exact ⟨l2,_,_,rfl,(sc.trans sd).trans (aN l5),none_of (sc.trans sd) l5,aw,((tu.mono sd).cat ty).mono (aN l5)⟩
 ·rintro σ Hc ⟨D,xs,v2,rfl,sc,nD,eD,tu⟩
  exact ⟨_,rfl,kk D xs Hc sc nD eD tu⟩
theorem R9:bX ["_law_shape","_law_beside_here","_law_found","_law_some","_law_many","_law_part","_law_best","_law_place","_law_later"] ["_law_shape"] (bo yM):=cG
theorem R_(T:Txt K mg t):bF P w K mg base cH 3 t.pF t.sj ["_law_shape"] Qc:=by
 have S:=R9;refine T.sY.dN S (fun _ _ _ _ H _ Q _ hr h=>?_);obtain ⟨tp,n,L,rfl,gp,cu,n9,l2,kk⟩:=h;have i8:=hr.units;have hu:=gW (kK (show 1≤64 by decide) _) hr.units
 refine ⟨_,(aC (putL 1 S.nd (bx (R0 T) hr T.G4 T.sU.kp T.G3 b9 (ak (pv 0) au)))
  (aC (putL 2 S.nd E_)
  (aC (putL 3 S.nd (bx (R8 T) hr T.G_ T.sX.kp T.G9 b9 (ak (bJ gy (pv 0) aH) au)))
  (aC (dW dD rfl (PD rfl T.HA rfl T.fi (ak (ba fB (bJ gy (pv 0) aH) aH) au)) (cy (i:=4) S.nd rfl (Or.inr rfl))
   (aK (dW dD rfl (eW (iR (N:=["_law_one","_law_many"]) (ρ:=(fun σ=>[σ[4]?.join])) (fF [4] rfl) rfl (eW (pv 3)) (fun _ _ _=>(.one (df jk (cT (Ez (K:=K)) rfl T.iB iH (ak (pv 0) au)) (pv 1)))) (fun _ _ _=>(pv 0)))) (cy (i:=5) S.nd rfl (Or.inl rfl))
   (aC (putL 6 S.nd (dM au))
  (aC (dW dD rfl (jj rfl T.fi (ak (bJ gy (pv 0) aH) au)) (cy (i:=7) S.nd rfl (Or.inl rfl))
   (aK (dt (nZ (xV (K:=K)) (pv 7) (pv 5) rfl) (aC (putL 8 S.nd (j_ Af rfl T.yO boot_tuple (ak (cT FQ rfl T.pP qz (ak (ba Fv (pv 5) (eX (ak (pv 7) au))) au)) au)))
  (aK (fQ (iQ gv jV jW ic (pv 6) (ak (ba fB (bx (R5 T) hr T.G8 T.sW.kp T.G7 b9 (ak (pv 1) (ak (pv 5) (ak (pv 7) au)))) (va hu (pv 2) (pv 8) (fun _ _=>rfl))) au))))) dr)))
  (aC (lG hu (pv 2) (pv 5) (cT (P_ rfl) rfl T.vD boot_min (ak (ba w6 (pv 6) (dM (ak (ba DC aH aH) au))) au)) rfl)
  (aK (dt (df (Fm i8) (pv 6) (dM au)) (aK (lG hu (pv 2) (pv 5) aH rfl)) dr))))))))
  (aK (bW (pv 2))))))),?_⟩
 refine cP fun _ i6=>⟨_,rfl,tp,n,L,rfl,gp,cu,by omega,l2,fun H1 B rs g s1 nB Rj KL nb=>?_⟩
 refine i6 _ _ ?_
 try dsimp only [aT]
 refine cP fun _ i7=>ig fun D nD=>?_;refine i7 _ _ ?_;have sD:aj H1 (upd H1 D (.dT [])):=aN nD;have pV:upd H1 D (.dT []) D=some (.dT []):=aw;have vP:H D=none:=none_of s1 nD;have Cr:=s1.trans sD;have ID:=KL.mono sD;generalize upd H1 D (.dT [])=H2 at sD pV Cr ID ⊢;obtain ⟨lt,us,dA,elt,kY⟩:=id (gp.mono Cr)
 try dsimp only [aT]
 refine cP fun _ mZ=>⟨_,rfl,tp,_,_,_,rfl,rfl,.of dA,rfl,n,rfl,n9,fun Dx xs H3 s3 QP vJ tu=>?_⟩;refine mZ _ _ ?_;have i_:=s3 _ _ pV;have Sa:=ID.mono s3;have zh:=s3 _ _ dA;have IE:=Cr.trans s3;have Sb:Dx≠D:=fun z=>by rw [z,i_] at vJ;cases vJ
 have IF:tp≠D:=fun z=>by rw [z,i_] at zh;cases zh
 have yS:(aS n).length≤512:=by rw [rh];exact bf (qg (by decide) n9) (by decide)
 try dsimp only [aT]
 refine cP fun _ tH=>⟨_,rfl,tp,_,_,_,rfl,rfl,.of zh,rfl,_,_,rfl,rfl,(n:Int)+1,rfl,by omega,by omega,?_⟩
 rw [show (n:Int)+1-1=(n:Int) by omega,show ((n:Int)+1).toNat=n+1 by omega]
 refine Mx (lo:=(n:Int)) (n:=n+1) (fun i σ Hc=>∃(qs:List (List Nat)) (v4 v5 v6 v7 v8:Option V),σ=[some (.ref tp),some (.ref B),some (.ref D),some (.ref Dx),v4,v5,v6,v7,v8]∧(∀b o,b≠D→H3 b=some o→Hc b=some o)∧Hc D=some (.dT (wD (wW n L) qs))∧qs.Nodup∧∀q,q∈qs↔q∈aS n∧n<q.length+i) ⟨[],_,_,_,_,_,rfl,fun b o _ e=>e,i_,qt,fun q=>⟨(fun h=>by cases h),fun h=>?_⟩⟩ ?_ ?_
 ·obtain ⟨u1,u2⟩:=dm.mp h.1
  have:=oG u1 u2;omega
 ·rintro i σ Hc hi ⟨qs,v4,v5,v6,v7,v8,rfl,kc,eD,nd,hq⟩
  dsimp only [aT];have zi:fh Hc xs (aS n):=⟨tu.1,fun k v q h1 h2=>by obtain ⟨b,e,gb⟩:=tu.2 k v q h1 h2;exact ⟨b,e,kc _ _ (fun z=>by rw [z,i_] at gb;cases gb) gb⟩⟩
  have Cs:=kc _ _ Sb vJ;refine Qi (FN (xs:=xs) (vC Hc (n-i)) (fun R h=>⟨_,rfl,Dx,rfl,⟨_,.of Cs⟩,h _ _ (aj.refl _) (k6 (.of Cs))⟩) (cj (by have:=tu.1;omega)) ?_ (fun x Hx R h=>⟨_,rfl,h⟩) fun Df H4 Wb s4 vX=>?_)
  ·intro x hx Hx R sx hR
   obtain ⟨k,hk⟩:=List.getElem?_of_mem hx;have Se:k<(aS n).length:=by rw [←tu.1];exact (bL.mp hk).1
   obtain ⟨b,rfl,eb⟩:=zi.2 k x _ hk (bV Se);generalize (aS n)[k]=q at eb;rw [Gr eb] at hR;refine ⟨_,rfl,b,_,rfl,.inr (.of (sx _ _ eb)),_,rfl,rfl,_,rfl,?_⟩;have e:decide (V.int ((q.map fun k:Nat=>V.int (k:Int)).length:Int)=V.int ((n:Int)-(i:Int)))=decide ((q.map fun k:Nat=>V.int (k:Int)).length=n-i):=by
    refine qj.mpr ⟨fun z=>?_,fun z=>?_⟩
    ·injection z with z
     omega
    ·congr 1
     omega
   rw [e];exact hR
  have tf:=(Gq (c:=vC Hc (n-i)) (f:=fun q=>decide (q.length=n-i)) zi fun k v q h1 h2=>by obtain ⟨b,rfl,eb⟩:=zi.2 k v q h1 h2;rw [Gr eb,aE]).mono s4
  have fl:((aS n).filter fun q=>decide (q.length=n-i)).length≤512:=bf (jU _ _) yS;have fm:∀q,q∈(aS n).filter (fun q=>decide (q.length=n-i))↔q∈aS n∧q.length=n-i:=fun q=>by rw [cQ,fk]
  have IG:((aS n).filter fun q=>decide (q.length=n-i)).Nodup:=(vy n).filter _;generalize (aS n).filter (fun q=>decide (q.length=n-i))=F at tf fl fm IG;generalize xs.filter (vC Hc (n-i))=ys at tf vX;have zj:=s4 _ _ eD;have Sf:Df≠D:=fun z=>by rw [z,zj] at vX;cases vX
  have k4:∀b o,b≠D→H3 b=some o→H4 b=some o:=fun b o ne e=>s4 _ _ (kc b o ne e);refine ⟨Df,rfl,⟨_,.of vX⟩,?_⟩;refine nV (K:=K) (a:=Df) (xs:=ys) (fun j σ Hc=>∃(qs:List (List Nat)) (v5 v6 v7 v8:Option V),σ=[some (.ref tp),some (.ref B),some (.ref D),some (.ref Dx),some (.int ((n:Int)-(i:Int))),v5,v6,v7,v8]∧(∀b o,b≠D→H4 b=some o→Hc b=some o)∧Hc D=some (.dT (wD (wW n L) qs))∧qs.Nodup∧∀q,q∈qs↔(q∈aS n∧n<q.length+i)∨q∈F.take j) ⟨qs,_,_,_,_,rfl,fun b o _ e=>e,zj,nd,fun q=>by rw [hq q];simp⟩ (fun j σ Hc _ ⟨_,_,_,_,_,_,kc,_⟩=>.of (kc _ _ Sf vX)) ?_ ?_
  ·have Sg:=zj
   clear hq nd zj eD Cs zi kc;rintro j x σ Hc hx ⟨qs,v5,v6,v7,v8,rfl,kc,eD,nd,hq⟩;have hj:j<F.length:=by rw [←tf.1];exact (bL.mp hx).1
   have zl:F[j]?=some F[j]:=bV hj;obtain ⟨b,rfl,eb⟩:=tf.2 j x _ hx zl;have tk:F.take (j+1)=F.take j++[F[j]]:=by rw [kG,zl];rfl
   have nF:F[j]∉F.take j:=Qj IG zl;have qm:=(fm F[j]).mp (c_ hj);generalize F[j]=q at eb tk nF qm zl;obtain ⟨qp,ql⟩:=qm;have nq:q∉qs:=fun z=>by
    rcases (hq q).mp z with z | z
    ·have:=z.2
     omega
    ·exact nF z
   have ln:q.length≤9:=by omega
   have bD:b≠D:=fun z=>by rw [z,Sg] at eb;cases eb
   have pW:=kc _ _ bD eb;have Sh:gg Hc B n rs g:=Sa.Gs fun c ys e=>kc _ _ (fun z=>by rw [z,i_] at e;cases e) (k4 _ _ (fun z=>by rw [z,i_] at e;cases e) e)
   have Si:=kc _ _ IF (k4 _ _ IF zh);have Ct:=dm.mp qp;have gn:∀i,i<n→∀j∈g i,j<n:=fun i hi j hj=>by
    rcases (nb i j hi).mp hj with h | h
    ·have:=(cu _ h).2.2.2
     omega
    ·have:=(cu _ h).2.1
     omega
   have fl:(q.map fun k:Nat=>V.int (k:Int)).all gz=true:=by rw [qe];intro v hv;obtain ⟨q,_,rfl⟩:=cg.mp hv;rfl
   dsimp only [aT];refine cP fun _ zo=>ig ⟨bH _,fun lb zp=>?_⟩;refine zo _ _ ?_;have s5:aj Hc (upd Hc lb (.lst [])):=aN zp;have IH:upd Hc lb (.lst []) lb=some (.lst ((dy n L q 0).map V.int)):=aw;generalize upd Hc lb (.lst [])=H5 at s5 IH ⊢
   try dsimp only [aT]
   refine cP fun _ zq=>⟨_,rfl,tp,_,_,_,rfl,rfl,.of (s5 _ _ Si),rfl,(n:Int),rfl,by omega,by omega,?_⟩
   rw [dq];refine kU (fun k σ Hx=>∃(v7 v8:Option V),σ=[some (.ref tp),some (.ref B),some (.ref D),some (.ref Dx),some (.int ((n:Int)-(i:Int))),some (.ref b),some (.ref lb),v7,v8]∧aj Hc Hx∧Hx lb=some (.lst ((dy n L q k).map V.int))) ⟨_,_,rfl,s5,IH⟩ ?_ ?_
   ·rintro k σ Hx hk ⟨v7,v8,rfl,sx,ex⟩
    have bl:(dy n L q k).length≤9:=by unfold dy bh;rw [aE];exact bf (jU _ _) (by rw [dz];omega)
    dsimp only [aT];refine ⟨_,rfl,_,rfl,b,_,rfl,.inr (.of (sx _ _ pW)),rfl,fl,_,rfl,dv (fun hb=>?_) (fun hb=>?_)⟩
    ·have kq:k∉q:=fun z=>by
      have e:gB (.int (0+(k:Int))) (q.map fun k:Nat=>V.int (k:Int))=true:=by rw [fP,lK,b8 z]
      rw [ae rfl,e] at hb;cases hb
     refine cP fun R Cu=>ig ?_;have cont:∀(H6:Hp) (l:Addr),aj Hx H6→H6 l=some (.tup ((aZ q k).map fun k:Nat=>V.int (k:Int)))→R [some (.ref tp),some (.ref B),some (.ref D),some (.ref Dx),some (.int ((n:Int)-(i:Int))),some (.ref b),some (.ref lb),some (.int (0+(k:Int))),some (.ref l)] H6:=fun H6 l s6 el=>by
      refine Cu _ _ ?_;have tF:=sx.trans s6;have II:=s6 _ _ ex;refine ⟨_,rfl,.inl ⟨rfl,_,.of II⟩,_,rfl,_,rfl,_,rfl,B,b,n,rs,g,q,k,by rw [fP];rfl,Sh.mono tF,gn,tF _ _ pW,by omega,hk,by omega,fun H7 c s7 near=>?_⟩
      have IJ:=tF.trans s7;have im:aZ q k∈qs:=(hq _).mpr (.inl ⟨dm.mpr ⟨mX Ct.1 kq,fun x hx=>by
       rcases jI.mp hx with rfl | hx;·exact hk
       ·exact Ct.2 x hx⟩,by rw [vw];omega⟩)
      refine ⟨_,rfl,_,rfl,D,_,rfl,(oH (wW n L) im)▸iX.t (k:=bT (aZ q k)) (IJ _ _ eD) (by rw [s7 _ _ el];unfold bT;rw [cE];rfl),_,_,rfl,rfl,lb,_,_,rfl,rfl,s7 _ _ II,cj (by rw [aE];omega),?_⟩
      refine ⟨_,_,rfl,fun c o e=>?_,?_⟩
      ·rw [aB (fun z=>by rw [z,zp] at e;cases e)]
       exact IJ _ _ e
      ·rw [aw,Gn,aa kq,dJ,ya nb near]
       rfl
     have fin:∀(H6:Hp) (c:Addr),aj Hx H6→H6 c=some (.tup ((q.map iN++[(k:Int)]).map V.int))→uo Bq (fun σ H Q=>Q [.ref c] H) [] H6 (fun x H2=>∃q ys,[x]=[V.ref q]∧((bj K H2 q ys∧∀l,H2 l=none→R [some (.ref tp),some (.ref B),some (.ref D),some (.ref Dx),some (.int ((n:Int)-(i:Int))),some (.ref b),some (.ref lb),some (.int (0+(k:Int))),some (.ref l)] (upd H2 l (.tup ys)))∨(dc K H2 q ys∧R [some (.ref tp),some (.ref B),some (.ref D),some (.ref Dx),some (.int ((n:Int)-(i:Int))),some (.ref b),some (.ref lb),some (.int (0+(k:Int))),some (.ref q)] H2))):=fun H6 c s6 ec=>by
      refine ⟨c,q.map iN++[(k:Int)],rfl,ec,by simp;omega,fun ws D' pm so Ce=>⟨D',_,rfl,.inl ⟨.of aw,fun l nl=>?_⟩⟩⟩
      have ew:=Bw Ct.1 kq pm so;subst ew;refine cont _ l (s6.trans ((aN Ce).trans (aN nl))) ?_;rw [aw,cE];rfl
     refine ⟨_,rfl,_,rfl,by show 1≤sizeLine;decide,fun c nc=>?_⟩
     have s6:aj Hx (upd Hx c (.tup [.int (0+(k:Int))])):=aN nc;have ec:upd Hx c (.tup [.int (0+(k:Int))]) c=some (.tup [.int (0+(k:Int))]):=aw;generalize upd Hx c (.tup [.int (0+(k:Int))])=H6 at s6 ec ⊢;refine ⟨b,c,_,_,rfl,rfl,.of (s6 _ _ (sx _ _ pW)),.of ec,by simp,Bu (by rw [aE];simp;omega),fun e0=>?_,fun e1 c' yX=>?_⟩
     ·have:q=[]:=qy.mp e0
      subst this;exact fin H6 c s6 (by rw [ec,fP];rfl)
     ·refine fin _ c' (s6.trans (aN yX)) ?_
      rw [aw,dJ,cE,fP];rfl
    ·have kq:k∈q:=Decidable.byContradiction fun z=>hb (by rw [ae rfl,fP,lK,bP z];rfl)
     exact ⟨_,_,rfl,sx,by rw [Gn,ae kq,p_];exact ex⟩
   ·rintro σ Hx ⟨v7,v8,rfl,sx,ex⟩
    refine zq _ _ ?_;clear i6 i7 mZ tH zo zq;have bl:(dy n L q n).length≤9:=by unfold dy bh;rw [aE];exact bf (jU _ _) (by rw [dz];omega)
    have Wc:aj H Hx:=fun c o e=>sx _ _ (kc _ _ (fun z=>by rw [z,vP] at e;cases e) (k4 _ _ (fun z=>by rw [z,vP] at e;cases e) (IE _ _ e)))
    refine cP fun _ zr=>⟨_,rfl,10,9,rfl,rfl,⟨by decide,by decide⟩,by show 1≤sizeLine;decide,fun l1 Sj=>?_⟩
    have s8:aj Hx (upd Hx l1 (.lst [.int (10 ^ (9:Int).toNat)])):=aN Sj;have e8:upd Hx l1 (.lst [.int (10 ^ (9:Int).toNat)]) l1=some (.lst (([10 ^ 9]:List Int).map V.int)):=aw;generalize upd Hx l1 (.lst [.int (10 ^ (9:Int).toNat)])=H8 at s8 e8 ⊢;refine ⟨lb,l1,_,_,rfl,rfl,s8 _ _ ex,e8,Bu (by rw [aE];simp;omega),fun l2 l5=>?_⟩
    have s9:aj H8 (upd H8 l2 (.lst ((dy n L q n).map V.int++([10 ^ 9]:List Int).map V.int))):=aN l5;have e9:upd H8 l2 (.lst ((dy n L q n).map V.int++([10 ^ 9]:List Int).map V.int)) l2=some (.lst ((dy n L q n++[10 ^ 9]).map V.int)):=by rw [aw,dJ]
    generalize upd H8 l2 (.lst ((dy n L q n).map V.int++([10 ^ 9]:List Int).map V.int))=H9 at s9 e9 ⊢;have pZ:=s8.trans s9;refine ⟨l2,_,rfl,e9,by simp,fun m m1 m2=>?_⟩
    have jN:=pZ _ _ (sx _ _ pW);have Sk:=pZ _ _ (sx _ _ eD);have lq:(wD (wW n L) qs).length≤512:=by
     unfold wD;rw [aE];refine bf (Gu nd fun x hx=>?_) yS;rcases (hq x).mp hx with h | h;·exact h.1
     ·exact ((fm x).mp (List.mem_of_mem_take h)).1
    refine ⟨_,rfl,_,rfl,D,_,rfl,lF.t (k:=bT q) Sk (by rw [jN];unfold bT;rw [cE];rfl) (cj (by omega)),?_⟩
    refine zr _ _ ?_;clear zr;have vk:(qs++[q]).Nodup:=kH.mpr ⟨nd,(by simp),fun a ha b hb e=>nq (by rw [bR.mp hb] at e;exact e▸ha)⟩
    have qR:∀r,r∈qs++[q]↔(r∈aS n∧n<r.length+i)∨r∈F.take (j+1):=fun r=>by rw [tk,cL,cL,hq r,or_assoc]
    have lD:lb≠D:=fun z=>by rw [z,eD] at zp;cases zp
    have Cv:upd H9 D (.dT (putK (wD (wW n L) qs) (bT q) (.int m))) lb=some (.lst ((dy n L q n).map V.int)):=(aB lD).trans (pZ _ _ ex);refine ⟨_,rfl,by show 0≤sizeLine;decide,fun l3 ja=>?_⟩
    refine ⟨lb,l3,dy n L q n,[],rfl,rfl,?_,.of aw,_,rfl,dv (fun hz=>?_) (fun hz=>?_)⟩;·exact .of ((aB (fun z=>by rw [z] at Cv;rw [Cv] at ja;cases ja)).trans Cv)
    ·have bz:dy n L q n=[]:=gZ hz
     have Sl:upd (upd H9 D (.dT (putK (wD (wW n L) qs) (bT q) (.int m)))) l3 (.lst []) D=some (.dT (putK (wD (wW n L) qs) (bT q) (.int m))):=(aB (fun z=>by rw [←z,aw] at ja;cases ja)).trans aw
     have Sm:upd (upd H9 D (.dT (putK (wD (wW n L) qs) (bT q) (.int m)))) l3 (.lst []) b=some (.tup (q.map fun k:Nat=>V.int (k:Int))):=(aB (fun z=>by rw [←z,aB bD,jN] at ja;cases ja)).trans ((aB bD).trans jN)
     have lp:(putK (wD (wW n L) qs) (bT q) (V.int m)).length≤513:=by rw [BB _ nq,cS];exact Nat.add_le_add_right lq 1
     refine ⟨_,rfl,_,rfl,D,_,rfl,lF.t (k:=bT q) Sl (by rw [Sm];unfold bT;rw [cE];rfl) (cj (by omega)),?_⟩
     refine ⟨qs++[q],_,_,_,_,rfl,fun c o cD e=>?_,?_,vk,qR⟩
     ·rw [aB cD,aB (fun z=>?_),aB cD]
      ·exact pZ _ _ (sx _ _ (kc c o cD e))
      ·rw [←z,aB cD,pZ _ _ (sx _ _ (kc c o cD e))] at ja
       cases ja
     ·rw [aw,Qh _ nq,←Gp,Qg qp bz]
    ·have bz:dy n L q n≠[]:=fun z=>hz (b8 z)
     refine ⟨qs++[q],_,_,_,_,rfl,fun c o cD e=>?_,?_,vk,qR⟩
     ·rw [aB (fun z=>?_),aB cD]
      ·exact pZ _ _ (sx _ _ (kc c o cD e))
      ·rw [←z,aB cD,pZ _ _ (sx _ _ (kc c o cD e))] at ja
       cases ja
     ·rw [aB (fun z=>by rw [←z,aw] at ja;cases ja),aw,BB _ nq,Qf n9 qp bz m1 m2,Gp]
  ·rintro σ Hc ⟨qs,v5,v6,v7,v8,rfl,kc,eD,nd,hq⟩
   refine ⟨qs,_,_,_,_,_,rfl,fun b o ne e=>kc b o ne (k4 b o ne e),eD,nd,fun q=>?_⟩;rw [hq q,tf.1,gX,fm q];constructor
   ·rintro (⟨h1,h2⟩ | ⟨h1,h2⟩)
    ·exact ⟨h1,by omega⟩
    ·exact ⟨h1,by omega⟩
   ·rintro ⟨h1,h2⟩
    by_cases z:n<q.length+i;·exact .inl ⟨h1,z⟩
    ·exact .inr ⟨h1,by omega⟩
 ·rintro σ Hc ⟨qs,v4,v5,v6,v7,v8,rfl,kc,eD,nd,hq⟩
  refine tH _ _ ?_;refine ⟨_,rfl,kk Hc D qs (fun b o e=>kc b o (fun z=>by rw [z,vP] at e;cases e) (IE _ _ e)) vP eD ?_⟩
  exact (qv nd (vy n)).mpr fun q=>(hq q).trans ⟨fun h=>h.1,fun h=>⟨h,by omega⟩⟩
theorem Sn:bX ["script","_law_pen","_law_k","_law_shape","_law_due","_law_turn","_law_found","_law_order","_law_many"] ["script"] (bo yN):=cG
theorem So(T:Txt K mg t):bF P w K mg base cH 9 t.mY t.pG ["script"] (xp K):=by
 have S:=Sn
 refine T.sZ.dN S (fun _ _ _ _ H _ _ _ hr h=>?_)
 obtain ⟨a,ns,rfl,hS,hlen,kQ⟩:=h
 have i8:=hr.units
 have hu:=gW (kK (show 1≤64 by decide) _) hr.units
 refine ⟨_,(aC (putL 1 S.nd (dM (ak (pv 0) (ak aH (ak aH au)))))
  (aC (dW dD rfl (jj rfl T.fi (ak aH au)) (cy (i:=2) S.nd rfl (Or.inl rfl))
   (aC (putL 3 S.nd (bx (RQ T) hr T.G0 T.sR.kp T.GZ b9 (ak (pv 1) (ak aH au))))
  (aC (putL 4 S.nd (bx (R_ T) hr T.Hj T.sY.kp T.Hi b9 (ak (pv 3) au)))
  (aC (dW dD rfl (jj rfl T.fi (ak aH au)) (cy (i:=5) S.nd rfl (Or.inl rfl))
   (aC (putL 6 S.nd (bx (HL T) hr T.BQ T.pN.kp T.BP uB (ak (pv 3) au)))
  (aC (dt (PW.pt (pw_or (wH (qE (cT (uD (K:=K)) rfl T.s_ boot_isinstance (ak (pv 6) (ak (uc (v:=.ty "dict") rfl T.Hr boot_dict rfl) au))))) (pw_or1 (df (PQ hu) (pv 6) (pv 4))))) (aK (bW hE)) dr)
  (aC (dt (qE (cT (Mj (K:=K) rfl) rfl T.Hq boot_any (ak (P9 (iR (N:=["_law_worth"]) (ρ:=(fun σ=>[])) (fF [] rfl) rfl (P8 (pv 6)) (fun _ _ _=>.nil) (fun _ _ _=>(cT (uD (K:=K)) rfl T.s_ boot_isinstance (ak (pv 0) (ak (uc (v:=.ty "bool") rfl T.BU boot_bool rfl) au)))))) au))) (aK (bW hE)) dr)
  (aK (lG hu (pv 6) (eX au) (JY J1 aH) rfl))))))
  (aC (dW dD rfl (jj rfl T.fi (ak aH au)) (cy (i:=5) S.nd rfl (Or.inl rfl))
   (aK (dt (df wO (bx (Ig T) hr T.BI T.pJ.kp T.BH uB (ak (pv 3) (ak (bx (Ii T) hr T.BS T.pO.kp T.BR b9 (ak (pv 1) (ak (j_ (Au rfl) rfl T.tj boot_list (ak (j_ As rfl T.fi Av (ak (bJ gy (pv 3) aH) au)) au)) au))) au))) (va hu (pv 4) (eX au) (fun _ _=>rfl))) (aK (bW hE)) dr)))
  (aC (@qH _ _ _ _ _ _ (bx (QT T) hr T.GR T.sN.kp T.GQ uB (ak (pv 3) au)) (qG rfl (iL (cy (i:=7) S.nd rfl (Or.inl rfl)) (iL (cy (i:=8) S.nd rfl (Or.inl rfl)) qF))) (by rfl) (by rfl) (by rfl))
  (aK (dt (PW.pt (pw_or (df uh (pv 8) (va hu (pv 4) (eX au) (fun _ _=>rfl))) (pw_or1 (df uh (bx (Ig T) hr T.BI T.pJ.kp T.BH uB (ak (pv 3) (ak (pv 7) au))) (pv 8))))) (aK (bW hE)) dr))))))))
  (aK (bW hE)))),?_⟩
 refine cP fun _ i6=>⟨_,rfl,by show 3≤sizeLine;decide,fun P0 nP=>?_⟩
 refine i6 _ _ ?_
 have p0:b3 (upd H P0 (.lst [.ref a,.int 0,.int 0])) P0 a:=⟨0,0,aw,by decide,by decide⟩
 have vv:bj K (er P0 (upd H P0 (.lst [.ref a,.int 0,.int 0]))) a (ns.map V.int):=by
  rw [EA]
  exact aj.seq (fun b o e=>AD (jY e nP) e) hS
 generalize upd H P0 (.lst [.ref a,.int 0,.int 0])=H1 at p0 vv ⊢
 try dsimp only [aT]
 refine cP fun _ i7=>⟨2,rfl,by decide,by decide,?_⟩
 refine kU (fun i σ Hc=>∃(v2 v3 v4 v5 v6 v7 v8:Option V),σ=[some (.ref a),some (.ref P0),v2,v3,v4,v5,v6,v7,v8]∧aM P0 H1 Hc∧b3 Hc P0 a) ⟨_,_,_,_,_,_,_,rfl,aM.refl _,p0⟩ ?_ ?_
 ·rintro i σ Hc hi ⟨v2,v3,v4,v5,v6,v7,v8,rfl,sT,pc⟩
  have IK:bj K (er P0 Hc) a (ns.map V.int):=aj.seq sT vv
  dsimp only [aT]
  refine cP fun _ mZ=>⟨_,rfl,P0,a,ns,6,rfl,pc,IK,by decide,by decide,fun tp n L H2 s2 p2 l8 Wd gp ok pw n1 n6=>?_⟩
  refine mZ _ _ ?_
  have n9:n≤9:=by omega
  have cu:gf n L:=fun p hp=>by
   have:=ok.lt p hp
   exact ⟨this.1,by omega,by omega,this.2.2⟩
  have IL:xX L:=fun p hp=>by
   have:=ok.lt p hp
   omega
  have d5:L.length≤81:=bf ok.d5 (bf (Nat.div_le_self _ _) (t7 n9 n9))
  have vY:∀{Hx:Hp},aM P0 H2 Hx→d9 Hx tp n L:=fun sx=>(gp.mono sx).mono xt
  have IM:d9 H2 tp n L:=vY (aM.refl _)
  try dsimp only [aT]
  refine cP fun _ tH=>⟨_,rfl,tp,n,L,rfl,IM,cu,n9,by omega,fun H3 dd qd s3 Sq IP Cw=>?_⟩
  refine tH _ _ ?_
  have Sr:=IM.mono s3
  have p3:=p2.mono s3
  have IQ:dd≠P0:=p2.ne Sq
  have IS:[]∈qd:=Cw.mem_iff.mpr (Pu n)
  have lw:∀{W:List Nat→Int} {qs:List (List Nat)},qs.Perm (aS n)→(wD W qs).length=2 ^ n:=fun{W qs} pq=>by
   unfold wD
   rw [aE,pq.length_eq,rh]
  have We:2 ^ n≤512:=bf (qg (by decide) n9) (by decide)
  try dsimp only [aT]
  refine cP fun _ zo=>⟨2,rfl,by decide,by decide,?_⟩
  refine kU (fun j σ Hd=>∃(v5 v6:Option V),σ=[some (.ref a),some (.ref P0),some (.int (0+(i:Int))),some (.ref tp),some (.ref dd),v5,v6,v7,v8]∧aj H3 Hd) ⟨_,_,rfl,aj.refl _⟩ ?_ ?_
  ·rintro j σ Hd hj ⟨v5,v6,rfl,sd⟩
   dsimp only [aT]
   refine cP fun _ zq=>⟨_,rfl,tp,n,L,rfl,Sr.mono sd,cu,n9,fun H4 fd qs s4 eQ eh pq=>?_⟩
   refine zq _ _ ?_
   have Ss:=(sd.trans s4) _ _ IP
   try dsimp only [aT]
   refine cP fun _ Cu=>⟨_,rfl,_,_,_,_,rfl,rfl,.of (.dT eh),rfl,true,rfl,jq ?_⟩
   refine ⟨_,rfl,_,rfl,fd,dd,_,_,rfl,rfl,eh,Ss,(lw pq).trans (lw Cw).symm,fun p hp=>?_,false,rfl,jq ?_⟩
   ·obtain ⟨q,hq,rfl⟩:=cg.mp hp
    exact ⟨_,oH _ (Cw.mem_iff.mpr (pq.mem_iff.mp hq)),rfl,rfl,by unfold gA;simp⟩
   refine Cu _ _ ?_
   try dsimp only [kP]
   have lq:=lw (W:=wW n L) pq
   refine cP fun _ zr=>Qn (uN (Qm (vh ⟨_,rfl,fd,_,rfl,eh,fun o=>Ql aw (.bl false) (cj (by omega)) (fun kv Su Hx R h=>?_) fun Dv H5 IT s5 Sv=>?_⟩)))
   ·obtain ⟨q,_,rfl⟩:=cg.mp Su
    exact ⟨_,rfl,_,_,_,_,rfl,rfl,.of (.int _),rfl,h⟩
   have Sw:=s5 _ _ aw
   have k5:∀b u,b≠fd→H4 b=some u→H5 b=some u:=fun b u ne e=>s5 _ _ ((aB ne).trans e)
   have Sx:Dv≠fd:=fun z=>by rw [z,aw] at IT;cases IT
   refine ⟨fd,_,_,o,eh,Sw,Dv,List.replicate (wD (wW n L) qs).length false,rfl,.of (by rw [aB Sx,Sv,List.map_replicate]),false,dH V.bl (List.any_eq_false.mpr fun x hx=>by rw [List.eq_of_mem_replicate hx];decide),jq ?_⟩
   refine zr _ _ ?_
   have s6:aj Hd (upd H5 fd (.dT (wD (wW n L) qs))):=fun b u e=>by
    rw [aB (fun z=>by rw [z,eQ] at e;cases e)]
    exact k5 _ _ (fun z=>by rw [z,eQ] at e;cases e) (s4 _ _ e)
   have IU:upd H5 fd (.dT (wD (wW n L) qs)) fd=some (.dT (wD (wW n L) qs)):=aw
   generalize upd H5 fd (.dT (wD (wW n L) qs))=H6 at s6 IU ⊢
   refine ⟨_,rfl,_,rfl,by show 0≤sizeLine;decide,fun tq l7=>?_⟩
   have s7:aj H6 (upd H6 tq (.tup [])):=aN l7
   refine ⟨fd,_,rfl,lF.t (k:=bT []) (s7 _ _ IU) aw (cj (by omega)),_,_,rfl,?_⟩
   exact sd.trans (eZ (s6.trans s7) eQ)
  ·rintro σ Hd ⟨v5,v6,rfl,sd⟩
   refine zo _ _ ?_
   have pd:=p3.mono sd
   have zt:aM P0 H2 Hd:=aM.of (s3.trans sd)
   have Sy:bj K (er P0 Hd) a (ns.map V.int):=aj.seq (s2.trans zt) IK
   have IV:=sd _ _ IP
   have inj:∀{o o':List Nat},o.map iN=o'.map iN→o'=o:=fun{o o'} e'=>by
    have:=dH (List.map Int.toNat) e'
    rw [cE,cE] at this
    have IW:∀l:List Nat,l.map (Int.toNat ∘ iN)=l:=fun l=>by
     conv=>rhs;rw [←nu l]
     exact gu fun k _=>dq k
    rw [IW,IW] at this
    exact this.symm
   refine cP fun _ Sz=>⟨6,rfl,by decide,by decide,?_⟩
   refine kU (fun j σ He=>∃(v5:Option V),σ=[some (.ref a),some (.ref P0),some (.int (0+(i:Int))),some (.ref tp),some (.ref dd),v5,v6,v7,v8]∧aM P0 Hd He∧b3 He P0 a) ⟨_,rfl,aM.refl _,pd⟩ ?_ ?_
   ·rintro j σ He hj ⟨v5,rfl,se,pe⟩
    have sh:=vY (zt.trans se)
    obtain ⟨lt,us,dA,elt,kY⟩:=id sh
    dsimp only [aT]
    refine ⟨_,rfl,_,rfl,_,rfl,tp,_,_,_,rfl,rfl,.of dA,rfl,(n:Int),rfl,fun q1 IY=>⟨q1,n,rfl,aw,by omega,fun l nl=>?_⟩⟩
    have sl:aj He (upd (upd He q1 (.g7 0 (n:Int))) l (.lst (dh n))):=(aN IY).trans (aN nl)
    have el:upd (upd He q1 (.g7 0 (n:Int))) l (.lst (dh n)) l=some (.lst (dh n)):=aw
    have lP:l≠P0:=pe.ne (none_of (aN IY) nl)
    generalize upd (upd He q1 (.g7 0 (n:Int))) l (.lst (dh n))=H7 at sl el ⊢
    have IZ:=se.trans (aM.of sl)
    have lu:(dh n).length=n:=by unfold dh;simp
    refine ⟨P0,a,l,ns,dh n,rfl,pe.mono sl,aj.seq IZ Sy,lP,el,by omega,fun r ys H8 s8 p8 nr rP SA pm=>?_⟩
    obtain ⟨o,rfl,ho⟩:=Og pm
    have lo:=ve ho
    have I0:=IZ.trans s8
    refine ⟨tp,r,n,L,o.map iN,rfl,vY (zt.trans I0),cu,IL,by omega,by rw [SA,cE];rfl,by rw [aE];omega,fun no=>absurd (ho.map iN) no,fun o' e' kO H9 s9 d hd=>?_⟩
    have Cy:=inj e'
    subst Cy
    have I_:=I0.trans (aM.of s9)
    have SD:H9 dd=some (.dT (wD (wW n L) qd)):=I_.at IQ IV
    refine ⟨_,rfl,by show 0≤sizeLine;decide,fun tq l7=>?_⟩
    obtain ⟨M,fM⟩:=F_ n L o'
    have ed:=hd M fM
    subst ed
    have le:=Pt ho cu fM
    refine ⟨dd,_,rfl,(oH (wW n L) IS)▸iX.t (k:=bT []) ((aN l7) _ _ SD) aw,_,_,rfl,rfl,false,?_,jq ?_⟩
    ·exact dH V.bl (bP (by omega))
    ·exact ⟨_,rfl,I_.trans (aM.of (aN l7)),(p8.mono s9).mono (aN l7)⟩
   ·rintro σ He ⟨v5,rfl,se,pe⟩
    refine Sz _ _ ?_
    have sE:=zt.trans se
    have SE:He dd=some (.dT (wD (wW n L) qd)):=se.at IQ IV
    refine cP fun _ SF=>⟨_,rfl,tp,n,L,rfl,vY sE,cu,n9,fun H5 ft lo o s5 B5 SG yT po SH=>?_⟩
    refine ⟨ft,_,rfl,.of SG,rfl,_,_,rfl,_,_,rfl,rfl,?_⟩
    refine SF _ _ ?_
    try dsimp only [aT]
    have AO:=ve po
    refine ⟨_,rfl,_,rfl,by show 0≤sizeLine;decide,fun tq l7=>?_⟩
    have s6:aj H5 (upd H5 tq (.tup [])):=aN l7
    have tm:upd H5 tq (.tup []) tq=some (.tup []):=aw
    generalize upd H5 tq (.tup [])=H6 at s6 tm ⊢
    refine ⟨dd,_,rfl,(oH (wW n L) IS)▸iX.t (k:=bT []) (s6 _ _ (s5 _ _ SE)) tm,rfl,false,by simp,jq ?_⟩
    refine ⟨_,rfl,_,rfl,tp,lo,n,L,o.map iN,rfl,(vY sE).mono (s5.trans s6),cu,IL,by omega,by rw [s6 _ _ yT,cE];rfl,by rw [aE];omega,fun no=>absurd (po.map iN) no,fun o' e' kO H7 s7 d hd=>?_⟩
    have Cy:=inj e'
    subst Cy
    obtain ⟨M,fM⟩:=F_ n L o'
    have ed:=hd M fM
    subst ed
    have SI:=F9 po cu fM
    refine ⟨_,rfl,rfl,false,by rw [←SH,SI];simp,jq ?_⟩
    dsimp only [kP]
    have Ja:=(s5.trans s6).trans s7
    exact ⟨_,_,_,_,_,_,_,rfl,(sT.trans s2).trans (sE.trans (aM.of Ja)),pe.mono Ja⟩
 ·rintro σ Hc ⟨v2,v3,v4,v5,v6,v7,v8,rfl,_⟩
  refine i7 _ _ ?_
  exact kQ _
theorem SJ{l:PySem.W.OpenLaw}(T:Txt K mg t):∃fd:FuncData,(∀(s:Shared) (v:Value),BindsTo s fd ⟨[v],[]⟩ [("script",v)])∧∀base:Heap,K.In base→base.Ns mainGlobals mg→bF l.prog w K mg base cH 9 t.mY fd ["script"] (xp K):=by obtain ⟨oc,od,kV,doc,pm,an,bN,ct,j8,e,lk,fA⟩:=T.sZ.ex;refine ⟨t.pG,fun s v=>?_,fun base _ _=>So T⟩;rw [e];exact .of_eq rfl
end
theorem walk{l:PySem.W.OpenLaw}{q:Program}{loose:List Str}{XP:(Str→Option Value)→Heap→Prop}{YP:World→Heap→Prop}{d:DefRec}{K:Params→PySem.W.Frag}(hn:l.most=some 63)(uy:d.params.defaults=[])
  (hY:∀(w:World) (h:Heap),YP w h→(K w.params).In h)
  (F:∀(w:World) (mg:cN) (fa:Addr) (h:Heap),(K w.params).In h→h.Ns mainGlobals mg→mg d.name=some (.ref fa)→
   ∃fd:FuncData,(∀(s:Shared) (u:Value),BindsTo s fd ⟨[u],[]⟩ [("script",u)])∧∀base:Heap,(K w.params).In base→base.Ns mainGlobals mg→bF l.prog w (K w.params) mg base cH 9 fa fd ["script"] (xp (K w.params))) :
  PySem.W.WalkO q loose XP YP l.row.toRowW d [] (fun f vs=>PySem.call f vs):=
 L2.LB (n:=63) (k:=9) (x:="script") (CX:=fun _=>cH) (sp:=fun w=>xp (K w.params)) hn (by decide) uy ⟨rfl,by decide,by decide⟩ hY F (fun _ _ a ns hl _ hS=>⟨a,ns,rfl,hS,hl,fun _=>rfl⟩) fun _ _ _ _ _ z=>z
theorem SK{K:aG}{h:Heap}{mg:cN}(X:K.In h)(G:h.Ns mainGlobals mg)
  {lQ:Addr}
  {sq:Addr}
  {SM:Tok}
  {oK oM oN oO oP oQ oR oS oT oU oV oW oX oY oZ o6 o7 o8 o9 o_ pb ph pj pA pB pC pD pE pF mY:Addr} {rm rn rp rq rA rB rC rD rE rF rG rH rJ rK rN rO rQ rR rS rT rV rW rX rY rZ r6 r_ si sj pG:FuncData}
  (Cz:PySem.W.nsIn K mainGlobals "NoOrder"=some (some (.ref lQ)))
  (CA:PySem.W.nsIn K mainGlobals "NoSize"=some (some (.ref sq)))
  (SN:mg "is_whole"=some (.ref oK))
  (sr:aY K "is_whole" yg oK rm)
  (SO:mg "neighbours"=some (.ref oM))
  (pH:aY K "neighbours" yh oM rn)
  (SQ:mg "is_order"=some (.ref oN))
  (su:aY K "is_order" yi oN rp)
  (SR:mg "check_order"=some (.ref oO))
  (sC:aY K "check_order" yj oO rq)
  (SS:mg "turns_of"=some (.ref oP))
  (sF:aY K "turns_of" yk oP rA)
  (SU:mg "link_all"=some (.ref oQ))
  (sG:aY K "link_all" yl oQ rB)
  (SV:mg "later"=some (.ref oR))
  (sI:aY K "later" ym oR rC)
  (SW:mg "place_deeds"=some (.ref oS))
  (pI:aY K "place_deeds" yn oS rD)
  (SX:mg "deeds"=some (.ref oT))
  (pJ:aY K "deeds" yo oT rE)
  (SY:mg "check_size"=some (.ref oU))
  (pK:aY K "check_size" yp oU rF)
  (S0:mg "still_near"=some (.ref oV))
  (sJ:aY K "still_near" yq oV rG)
  (S1:mg "cost"=some (.ref oW))
  (sL:aY K "cost" yr oW rH)
  (S2:mg "rising_tuples"=some (.ref oX))
  (sM:aY K "rising_tuples" yt oX rJ)
  (S3:mg "and_done"=some (.ref oY))
  (pL:aY K "and_done" yu oY rK)
  (S4:mg "choices"=some (.ref oZ))
  (pM:aY K "choices" yv oZ rN)
  (S5:mg "worths"=some (.ref o6))
  (pN:aY K "worths" yw o6 rO)
  (S6:mg "fewest"=some (.ref o7))
  (sN:aY K "fewest" yy o7 rQ)
  (S7:mg "_law_fill"=some (.ref o8))
  (sO:aY K "_law_fill" yA o8 rR)
  (S8:mg "_law_next"=some (.ref o9))
  (gm:aY K "_law_next" yB o9 rS)
  (S9:mg "_law_turned"=some (.ref o_))
  (pO:aY K "_law_turned" yC o_ rT)
  (S_:mg "_law_tied_by"=some (.ref pb))
  (sP:aY K "_law_tied_by" yE pb rV)
  (Ta:mg "_law_grown_links"=some (.ref ph))
  (sQ:aY K "_law_grown_links" yF ph rW)
  (Tb:mg "_law_drawn"=some (.ref pj))
  (sR:aY K "_law_drawn" yG pj rX)
  (Tc:mg "_law_named"=some (.ref pA))
  (sS:aY K "_law_named" yH pA rY)
  (Td:mg "_law_beside"=some (.ref pB))
  (sU:aY K "_law_beside" yI pB rZ)
  (Te:mg "_law_walks"=some (.ref pC))
  (sV:aY K "_law_walks" yJ pC r6)
  (Tf:mg "_law_cost"=some (.ref pD))
  (sW:aY K "_law_cost" yK pD r_)
  (Tg:mg "_law_parts"=some (.ref pE))
  (sX:aY K "_law_parts" yL pE si)
  (Th:mg "_law_worths"=some (.ref pF))
  (sY:aY K "_law_worths" yM pF sj)
  (Ti:mg "law"=some (.ref mY))
  (sZ:aY K "law" yN mY pG)
  (CB:PySem.W.nsIn K mainGlobals "ValueError"=some none)
  (CD:PySem.W.nsIn K mainGlobals "all"=some none)
  (CF:PySem.W.nsIn K mainGlobals "any"=some none)
  (CG:PySem.W.nsIn K mainGlobals "bool"=some none)
  (CH:PySem.W.nsIn K mainGlobals "dict"=some none)
  (CI:PySem.W.nsIn K mainGlobals "enumerate"=some none)
  (CJ:PySem.W.nsIn K mainGlobals "int"=some none)
  (CK:PySem.W.nsIn K mainGlobals "isinstance"=some none)
  (CL:PySem.W.nsIn K mainGlobals "len"=some none)
  (CM:PySem.W.nsIn K mainGlobals "list"=some none)
  (CN:PySem.W.nsIn K mainGlobals "max"=some none)
  (CO:PySem.W.nsIn K mainGlobals "min"=some none)
  (CP:PySem.W.nsIn K mainGlobals "range"=some none)
  (CQ:PySem.W.nsIn K mainGlobals "reversed"=some none)
  (CS:PySem.W.nsIn K mainGlobals "sorted"=some none)
  (CT:PySem.W.nsIn K mainGlobals "sum"=some none)
  (CU:PySem.W.nsIn K mainGlobals "tuple"=some none)
  (CV:PySem.W.nsIn K mainGlobals "MOST"=some (some (.int 9 SM)))
  (CW:PySem.W.excIn K lQ [.type "ValueError",.type "Exception",.type "BaseException",.type "object"] "ValueError.__new__"=true)
  (CY:PySem.W.excIn K sq [.type "ValueError",.type "Exception",.type "BaseException",.type "object"] "ValueError.__new__"=true)
  : ∃t:BC,Txt K mg t:=by
 refine ⟨⟨oK,rm,oM,rn,oN,rp,oO,rq,oP,rA,oQ,rB,oR,rC,oS,rD,oT,rE,oU,rF,oV,rG,oW,rH,oX,rJ,oY,rK,oZ,rN,o6,rO,o7,rQ,o8,rR,o9,rS,o_,rT,pb,rV,ph,rW,pj,rX,pA,rY,pB,rZ,pC,r6,pD,r_,pE,si,pF,sj,mY,pG,lQ,sq⟩,?_⟩
 exact {
  sr:=sr
  Gw:=sr.cI
  Gx:=SN
  pH:=pH
  BD:=pH.cI
  BE:=SO
  su:=su
  Gy:=su.cI
  Gz:=SQ
  sC:=sC
  GA:=sC.cI
  GB:=SR
  sF:=sF
  GC:=sF.cI
  GD:=SS
  sG:=sG
  GF:=sG.cI
  GG:=SU
  sI:=sI
  GH:=sI.cI
  GI:=SV
  pI:=pI
  BF:=pI.cI
  BG:=SW
  pJ:=pJ
  BH:=pJ.cI
  BI:=SX
  pK:=pK
  BJ:=pK.cI
  BK:=SY
  sJ:=sJ
  GJ:=sJ.cI
  GK:=S0
  sL:=sL
  GL:=sL.cI
  GN:=S1
  sM:=sM
  GO:=sM.cI
  GP:=S2
  pL:=pL
  BL:=pL.cI
  BM:=S3
  pM:=pM
  BN:=pM.cI
  BO:=S4
  pN:=pN
  BP:=pN.cI
  BQ:=S5
  sN:=sN
  GQ:=sN.cI
  GR:=S6
  sO:=sO
  GS:=sO.cI
  GU:=S7
  gm:=gm
  jJ:=gm.cI
  jK:=S8
  pO:=pO
  BR:=pO.cI
  BS:=S9
  sP:=sP
  GV:=sP.cI
  GW:=S_
  sQ:=sQ
  GX:=sQ.cI
  GY:=Ta
  sR:=sR
  GZ:=sR.cI
  G0:=Tb
  sS:=sS
  G1:=sS.cI
  G2:=Tc
  sU:=sU
  G3:=sU.cI
  G4:=Td
  sV:=sV
  G5:=sV.cI
  G6:=Te
  sW:=sW
  G7:=sW.cI
  G8:=Tf
  sX:=sX
  G9:=sX.cI
  G_:=Tg
  sY:=sY
  Hi:=sY.cI
  Hj:=Th
  sZ:=sZ
  Qo:=sZ.cI
  Hk:=Ti
  Hl:=cf X G Cz
  Hm:=cf X G CA
  Qp:=eU X G CB
  Ho:=eU X G CD
  Hq:=eU X G CF
  BU:=eU X G CG
  Hr:=eU X G CH
  Hs:=eU X G CI
  Ht:=eU X G CJ
  s_:=eU X G CK
  iB:=eU X G CL
  tj:=eU X G CM
  Hu:=eU X G CN
  vD:=eU X G CO
  fi:=eU X G CP
  HA:=eU X G CQ
  pP:=eU X G CS
  HB:=eU X G CT
  yO:=eU X G CU
  HC:=⟨_,cf X G CV,_,rfl⟩
  HD:=CW
  HE:=CY
 }
end My
namespace PySem.W.Fast
def tw9601825964854801018:Unit:=()
def tw11377131145143772281:Unit:=()
def tw10704905544171105450:Unit:=()
def tw17262083772083676386:Unit:=()
def tw10177272837338965449:Unit:=()
def tw7699438051155876835:Unit:=()
def tw9882984083412378111:Unit:=()
def tw13536177444561558436:Unit:=()
def tw6171108484465413286:Unit:=()
def tw1445484224915257446:Unit:=()
def tw4836486302301418330:Unit:=()
def tw2480969355609955431:Unit:=()
def tw8350397951641134045:Unit:=()
def tw3344752488033595217:Unit:=()
def tw17242528396958821763:Unit:=()
def tw8380070296539208733:Unit:=()
def tw16822465313321802253:Unit:=()
def tw2636765476289282216:Unit:=()
def tw10642756125802799936:Unit:=()
def tw15703671081170171627:Unit:=()
def tw5594674393991296462:Unit:=()
def tw13321138761370801992:Unit:=()
def tw2776584657492957337:Unit:=()
def tw15293347374795953241:Unit:=()
def tw5238202415516237821:Unit:=()
def tw5156636763855559784:Unit:=()
def tw2064510364226512914:Unit:=()
def tw12057583052104782945:Unit:=()
def tw4502649619261885728:Unit:=()
def tw11503862386379629361:Unit:=()
def tw17270826877261159129:Unit:=()
def tw6616278826511285595:Unit:=()
def tw16879644218176681946:Unit:=()
def tw16082818527016403233:Unit:=()
def tw11263175028250198301:Unit:=()
def tw12425372730226033051:Unit:=()
def tw16045859122819531478:Unit:=()
def tw3623009784669638690:Unit:=()
def tw712482154098494555:Unit:=()
def tw828875781898747213:Unit:=()
def tw13741524513213311099:Unit:=()
def tw16219353181700596005:Unit:=()
def tw16708214383258070056:Unit:=()
def tw14547311733878112699:Unit:=()
def tw2448316721715079488:Unit:=()
def tw12746012302137211075:Unit:=()
def tw12995141294561406013:Unit:=()
def tw14613529323167249406:Unit:=()
def tw15550478663881610567:Unit:=()
def tw1013533036704686364:Unit:=()
def tw7522877106161606784:Unit:=()
def tw18446681694841292493:Unit:=()
def tw12978834820581430087:Unit:=()
def tw6764176383451931050:Unit:=()
def tw17646845423637616350:Unit:=()
def tw12869943115132644966:Unit:=()
def tw3291548754184628233:Unit:=()
def tw18099672732442929435:Unit:=()
def tw10664368669577004025:Unit:=()
def tw5304395785970287999:Unit:=()
def tw14238239878963001345:Unit:=()
def tw3741413280292034170:Unit:=()
def tw6315749736781920076:Unit:=()
def tw15472341532133518638:Unit:=()
def tw1840229726269952452:Unit:=()
def tw1499199688409875170:Unit:=()
def tw5919431280447916686:Unit:=()
def tw12475675375885306765:Unit:=()
def tw9452866223560353501:Unit:=()
def tw918628620630828849:Unit:=()
def tw5463099275941756623:Unit:=()
def tw13370625138630086701:Unit:=()
def tw7018204274725424933:Unit:=()
def tw14655513590574508218:Unit:=()
def tw2420003607980241189:Unit:=()
def tw17985908698429511686:Unit:=()
def tw2560714694529008968:Unit:=()
def tw17925337869961793476:Unit:=()
def tw2484031527708310858:Unit:=()
def tw15200344639068791197:Unit:=()
def tw554048086030989426:Unit:=()
def tw1314394491618471674:Unit:=()
def tw5463657777671657382:Unit:=()
def tw14253081010876598947:Unit:=()
def tw1936483643376389623:Unit:=()
def tw6144118270452180316:Unit:=()
def tw13289538066793852598:Unit:=()
def tw9174617296406398265:Unit:=()
def tw15332397021200294120:Unit:=()
def tw18145814284205478567:Unit:=()
def tw4371341178916663573:Unit:=()
def tw9183768586425120783:Unit:=()
def tw2710363530265612729:Unit:=()
def tw11658284985542353200:Unit:=()
def tw11874134187476128508:Unit:=()
def tw7094306758540717191:Unit:=()
def tw13066023334287608805:Unit:=()
def tw9616676295550437872:Unit:=()
def tw11367592973572983001:Unit:=()
def tw4520664318426470723:Unit:=()
def tw803400114788770890:Unit:=()
def tw1312867618676824361:Unit:=()
def tw14737280370270571201:Unit:=()
def tw17786140487991434922:Unit:=()
def tw15030031422840445843:Unit:=()
def tw17902141819289912654:Unit:=()
def tw4418364407051253548:Unit:=()
def tw1269792503991723003:Unit:=()
def tw5697787252686606796:Unit:=()
def tw4175014957790118422:Unit:=()
def tw254801221613958480:Unit:=()
def tw6063241534766099858:Unit:=()
def tw5849419093662690123:Unit:=()
def tw2936223710212869013:Unit:=()
def tw8961521574770904201:Unit:=()
def tw202285117864424150:Unit:=()
def tw7528736776369730577:Unit:=()
def tw13976816150411111315:Unit:=()
def tw4682282752810327026:Unit:=()
def tw14921372768762460007:Unit:=()
def tw12111267592244281204:Unit:=()
def tw13841994718517494863:Unit:=()
def tw13174126954091140692:Unit:=()
def tw17133960683511248185:Unit:=()
def tw7600121354703602841:Unit:=()
def tw3672799044247942424:Unit:=()
def tw15494957489462521523:Unit:=()
def tw1335464158242681744:Unit:=()
def tw2941347169165254285:Unit:=()
def tw5012949981730090453:Unit:=()
def tw1250327381996893905:Unit:=()
def tw2159922737699609830:Unit:=()
def tw2788942522865509835:Unit:=()
def tw13790147973548346756:Unit:=()
def tw10452782741935685632:Unit:=()
def tw13786367917532802052:Unit:=()
def tw14270358697176851628:Unit:=()
def tw8107990962625695958:Unit:=()
def tw8800717268460435550:Unit:=()
def tw2194235964573655410:Unit:=()
def tw9581834469753018203:Unit:=()
def tw1815495395534443944:Unit:=()
def tw17734307382801651625:Unit:=()
def tw10596562346554090593:Unit:=()
def tw17894804868839953788:Unit:=()
def tw13066755478341503585:Unit:=()
def tw259979007089437225:Unit:=()
def tw10176154255346889484:Unit:=()
def tw10731424716757547047:Unit:=()
def tw5625576400071044586:Unit:=()
def tw16212093222228170944:Unit:=()
def tw7787345363309108891:Unit:=()
def tw3851831804686522244:Unit:=()
def tw1226967822410866595:Unit:=()
def tw13723804056997666966:Unit:=()
def tw13685846852601977312:Unit:=()
end PySem.W.Fast
open PySem PySem.W PyProof.Rows
set_option maxRecDepth 100000 in
set_option maxHeartbeats 0 in
theorem PySem.Challenge.cw_bandwright_k26_worths_of_all_parts_holds : PySem.Challenge.rw_bandwright_k26_worths_of_all_parts.Holds := by
 w_on;o_law;k_head;(case hw=>w_witness2)
 k_fill
 refine My.walk (l:=PySem.Challenge.rw_bandwright_k26_worths_of_all_parts) rfl rfl (fun w h Y=>PySem.W.kIn_of Y) ?F
 case F=>
  intro w mg fa h KX G uz
  have T:∃t,My.Txt (L2.Eg KX) mg t:=by
   dsimp only [L2.Eg]
   refine' My.SK KX G ?Cz ?CA (cf KX G ?Tj) (L2.cJ (st:=My.yg) ?Tn ?To ?Tp) (cf KX G ?Tq) (L2.cJ (st:=My.yh) ?Tr ?Tu ?Tv) (cf KX G ?Tw) (L2.cJ (st:=My.yi) ?Tz ?TF ?TH) (cf KX G ?TJ) (L2.cJ (st:=My.yj) ?TL ?TM ?TN) (cf KX G ?TQ) (L2.cJ (st:=My.yk) ?TR ?TU ?TV) (cf KX G ?TY) (L2.cJ (st:=My.yl) ?TZ ?T3 ?T4) (cf KX G ?T5) (L2.cJ (st:=My.ym) ?T6 ?T7 ?T8) (cf KX G ?T9) (L2.cJ (st:=My.yn) ?T_ ?Ua ?Ub) (cf KX G ?Uc) (L2.cJ (st:=My.yo) ?Ud ?Ue ?Ug) (cf KX G ?Uh) (L2.cJ (st:=My.yp) ?Ui ?Uj ?Uk) (cf KX G ?Ul) (L2.cJ (st:=My.yq) ?Um ?Uo ?Up) (cf KX G ?Uq) (L2.cJ (st:=My.yr) ?Ur ?Us ?Ut) (cf KX G ?Uu) (L2.cJ (st:=My.yt) ?Uv ?Uw ?Ux) (cf KX G ?Uy) (L2.cJ (st:=My.yu) ?Uz ?UA ?UB) (cf KX G ?UC) (L2.cJ (st:=My.yv) ?UD ?UE ?UG) (cf KX G ?UH) (L2.cJ (st:=My.yw) ?UI ?UJ ?UK) (cf KX G ?UL) (L2.cJ (st:=My.yy) ?UM ?UN ?UO) (cf KX G ?UP) (L2.cJ (st:=My.yA) ?UQ ?UR ?US) (cf KX G ?UT) (L2.cJ (st:=My.yB) ?UU ?UW ?UX) (cf KX G ?UY) (L2.cJ (st:=My.yC) ?UZ ?U0 ?U1) (cf KX G ?U3) (L2.cJ (st:=My.yE) ?U4 ?U5 ?U6) (cf KX G ?U7) (L2.cJ (st:=My.yF) ?U8 ?U9 ?U_) (cf KX G ?Va) (L2.cJ (st:=My.yG) ?Vb ?Vc ?Vd) (cf KX G ?Ve) (L2.cJ (st:=My.yH) ?Vf ?Vg ?Vh) (cf KX G ?Vi) (L2.cJ (st:=My.yI) ?Vj ?Vk ?Vl) (cf KX G ?Vm) (L2.cJ (st:=My.yJ) ?Vn ?Vo ?Vp) (cf KX G ?Vq) (L2.cJ (st:=My.yK) ?Vr ?Vs ?Vt) (cf KX G ?Vu) (L2.cJ (st:=My.yL) ?Vv ?Vw ?Vx) (cf KX G ?Vy) (L2.cJ (st:=My.yM) ?Vz ?VA ?VB) (cf KX G ?VC) (L2.cJ (st:=My.yN) ?VD ?VE ?VF) ?CB ?CD ?CF ?CG ?CH ?CI ?CJ ?CK ?CL ?CM ?CN ?CO ?CP ?CQ ?CS ?CT ?CU ?CV ?CW ?CY
   (case Cz|CA|Tj|Tn|To|Tp|Tq|Tr|Tu|Tv|Tw|Tz|TF|TH|TJ|TL|TM|TN|TQ|TR|TU|TV|TY|TZ|T3|T4|T5|T6|T7|T8|T9|T_|Ua|Ub|Uc|Ud|Ue|Ug|Uh|Ui|Uj|Uk|Ul|Um|Uo|Up|Uq|Ur|Us|Ut|Uu|Uv|Uw|Ux|Uy|Uz|UA|UB|UC|UD|UE|UG|UH|UI|UJ|UK|UL|UM|UN|UO|UP|UQ|UR|US|UT|UU|UW|UX|UY|UZ|U0|U1|U3|U4|U5|U6|U7|U8|U9|U_|Va|Vb|Vc|Vd|Ve|Vf|Vg|Vh|Vi|Vj|Vk|Vl|Vm|Vn|Vo|Vp|Vq|Vr|Vs|Vt|Vu|Vv|Vw|Vx|Vy|Vz|VA|VB|VC|VD|VE|VF|CB|CD|CF|CG|CH|CI|CJ|CK|CL|CM|CN|CO|CP|CQ|CS|CT|CU|CV=>k_is)
   (case CW|CY=>k_exc)
  obtain ⟨t,T⟩:=T
  have e0:=uz.symm.trans T.Hk
  cases e0
  exact My.SJ T
#print axioms PySem.Challenge.cw_bandwright_k26_worths_of_all_parts_holds
