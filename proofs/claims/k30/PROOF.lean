import PyProof.Rows.All
import Wide.All
import OpenK.AllK
import Wide.FinOn
import Lean
import PyProof.EqAt
import PyProof.EqKinds
import PyProof.TupleCall
import PySem.Challenge.RW_bandwright_k30_whole_put_together
set_option Elab.async false
set_option linter.all false
set_option maxRecDepth 100000
abbrev bY:=@decide_eq_false
abbrev vO:=@beq_eq_false_iff_ne
abbrev Gf:=@List.getElem?_eq_none_iff
abbrev ae:=@if_pos
abbrev aa:=@if_neg
abbrev aU:=@PySem.Heap.lt_size
abbrev dQ:=@Nat.lt_of_lt_of_le
abbrev d6:=@Nat.lt_irrefl
abbrev bZ:=@Nat.ne_of_lt
abbrev Cg:=@PySem.W.hideAll_get
abbrev b8:=@List.mem_filter
abbrev aS:=@List.mem_range
abbrev bU:=@Nat.le_trans
abbrev jY:=@Nat.le_of_lt
abbrev Ci:=@List.filterMap_cons
abbrev cj:=@List.mem_cons_self
abbrev ck:=@List.mem_cons_of_mem
abbrev bb:=@List.mem_cons
abbrev cM:=@List.mem_append
abbrev ja:=@List.mem_append_left
abbrev bV:=@List.getElem?_eq_some_iff
abbrev gm:=@List.getElem_inj
abbrev b9:=@PySem.wpAny_mono
abbrev qA:=@PySem.wpAny_truthy_bool
abbrev fS:=@Array.length_toList
abbrev fv:=@congrArg
abbrev Cj:=@PySem.wpAny_execs_nil
abbrev ax:=@PySem.wpAny_bind
abbrev mf:=@PySem.wpAny_holding
abbrev o_:=@PySem.wpAny_standAt
abbrev sq:=@PySem.wpAny_passesOwn
abbrev dR:=@Bool.false_ne_true
abbrev bJ:=@PySem.wpAny_pure
abbrev Ck:=@PySem.wpAny_pyIter_list
abbrev b_:=@PySem.Heap.get?_push_of_some
abbrev eh:=@PySem.Heap.get?_push_size
abbrev au:=@Nat.le_refl
abbrev zM:=@PyProof.Rows.callWith_type1
abbrev Cm:=@List.mem_filterMap
abbrev ei:=@List.mem_append_right
abbrev bG:=@Nat.zero_le
abbrev pb:=@Bool.eq_iff_iff
abbrev iR:=@PySem.sizeLine_eq
abbrev cf:=@List.size_toArray
abbrev jZ:=@PySem.W.kia_one
abbrev jF:=@List.append_nil
abbrev vP:=@PySem.wpAny_Call_Name_kw
abbrev gY:=@List.nodup_cons
abbrev mh:=@List.length_take
abbrev nO:=@PySem.mem_of_lookup
abbrev iw:=@List.getElem?_append_right
abbrev gZ:=@List.getElem?_append_left
abbrev bz:=@List.getElem?_map
abbrev Cn:=@List.take_sublist
abbrev kJ:=@List.mem_of_getElem?
abbrev cW:=@List.length_append
abbrev ay:=@List.length_map
abbrev dm:=@List.length_cons
abbrev vQ:=@List.length_nil
abbrev bu:=@decide_eq_true
abbrev Gg:=@PySem.F.slot_tuple_add
abbrev Gh:=@PySem.F.entry_tuple_add
abbrev Gi:=@PySem.F.args_tuple_add_2
abbrev en:=@Int.toNat_natCast
abbrev vR:=@List.map_nil
abbrev cO:=@List.map_cons
abbrev zN:=@List.length_drop
abbrev Gj:=@PySem.Heap.get?_update_other
abbrev kK:=@if_true
abbrev ph:=@if_false
abbrev iS:=@Bool.and_eq_true
abbrev qB:=@List.any_cons
abbrev qC:=@List.replicate_succ
abbrev vS:=@List.flatten_cons
abbrev pj:=@Nat.le_succ
abbrev gD:=@List.append_assoc
abbrev qD:=@PySem.call_meets
abbrev nQ:=@List.length_singleton
abbrev vT:=@Array.getElem?_toList
abbrev Gk:=@List.eraseIdxIfInBounds_toArray
abbrev mq:=@Nat.not_lt_zero
abbrev cU:=@PySem.W.mg_of
abbrev iT:=@Nat.lt_of_le_of_lt
abbrev Gm:=@PySem.F.typeOf_object_class
abbrev zO:=@PySem.wpAny_loadPart_at
abbrev qE:=@PySem.codeAny_builtin
abbrev pD:=@List.all_eq_true
abbrev Co:=@PySem.wpAny_comprehension_free
abbrev vU:=@PySem.wpAny_newObj_type
abbrev zP:=@PySem.wpAny_newFunctionEnv
abbrev kL:=@PySem.lookup_relabel_local
abbrev Cp:=@PySem.wpAny_tests_nil
abbrev Cq:=@PySem.wpAny_tests_one
abbrev Cr:=@PySem.codeAny_compStart_list
abbrev dS:=@Int.le_of_lt
abbrev cQ:=@List.getD_eq_getElem?_getD
abbrev cB:=@List.mem_singleton
abbrev cC:=@List.length_range
abbrev mr:=@List.getElem?_range
abbrev zQ:=@beq_self_eq_true
abbrev aV:=@List.getElem_mem
abbrev Cs:=@Nat.pow_le_pow_right
abbrev mw:=@Nat.sub_self
abbrev j4:=@List.not_mem_nil
abbrev kM:=@or_false
abbrev zR:=@Nat.le_add_right
abbrev iU:=@List.take_length
abbrev Ct:=@Nat.lt_succ_self
abbrev nS:=@Nat.lt_succ_of_lt
abbrev zS:=@List.ext_getElem?
abbrev Cu:=@List.getElem?_eq_none
abbrev vV:=@List.range_succ
abbrev eW:=@List.map_append
abbrev g8:=@List.map_congr_left
abbrev iy:=@List.ext_getElem
abbrev aq:=@PyProof.Rows.wpS_bind
abbrev j6:=@PyProof.Rows.wpS_get
abbrev ao:=@PyProof.Rows.wpS_pure
abbrev g9:=@PyProof.Rows.wpS_forRange
abbrev iz:=@PyProof.Rows.wpS_mono
abbrev zT:=@List.pairwise_append
abbrev vW:=@List.perm_append_comm
abbrev mB:=@List.take_append_drop
abbrev Gn:=@List.Perm.append_left
abbrev Gp:=@List.drop_eq_getElem_cons
abbrev zU:=@List.take_of_length_le
abbrev pE:=@List.getElem_of_mem
abbrev kO:=@Int.le_refl
abbrev pF:=@List.pairwise_iff_getElem
abbrev mE:=@PyProof.Rows.wpS_modify
abbrev dC:=@of_decide_eq_true
abbrev dU:=@Int.le_trans
abbrev qF:=@Array.toList_push
abbrev nU:=@Array.toList_append
abbrev nV:=@PySem.wpAny_rule
abbrev su:=@Nat.lt_or_ge
abbrev Gq:=@List.pairwise_reverse
abbrev vX:=@Array.toList_reverse
abbrev mG:=@List.mem_reverse
abbrev kP:=@List.reverse_perm
abbrev eJ:=@Nat.zero_add
abbrev vY:=@Nat.add_zero
abbrev vZ:=@Array.perm_iff_toList_perm
abbrev aZ:=@List.getElem?_eq_getElem
abbrev sv:=@decide_eq_decide
abbrev cx:=@List.map_map
abbrev qG:=@PyProof.Rows.get?_update_seq
abbrev zW:=@PySem.Heap.size_update
abbrev qH:=@PySem.Heap.get?_push_ne
abbrev sD:=@PyProof.Rows.size_push'
abbrev v9:=@PySem.Heap.get?_update_ne
abbrev v_:=@PyProof.Rows.listUpdate_at
abbrev wa:=@PySem.wpAny_newList
abbrev sE:=@Bool.false_eq_true
abbrev Gr:=@List.length_eq_zero_iff
abbrev wb:=@List.nodup_nil
abbrev bK:=@List.mem_map
abbrev pG:=@List.filter_append
abbrev nW:=@List.length_filter_le
abbrev jG:=@List.pairwise_map
abbrev wc:=@List.pairwise_lt_range
abbrev qI:=@List.pairwise_cons
abbrev sF:=@List.find?_cons
abbrev zX:=@Option.isSome_map
abbrev Cv:=@PySem.tupleKind_room_in1
abbrev Cw:=@List.any_eq_true
abbrev fT:=@decide_eq_true_iff
abbrev fD:=@List.nodup_append
abbrev Cy:=@List.length_erase_of_mem
abbrev fU:=@List.nodup_range
abbrev pH:=@List.idxOf_lt_length_of_mem
abbrev qJ:=@List.getElem_idxOf
abbrev iV:=@List.getElem_map
abbrev qK:=@List.getElem_range
abbrev nX:=@List.take_succ
abbrev zY:=@Option.some.injEq
abbrev qL:=@List.map_id
abbrev kT:=@List.nodup_iff_pairwise_ne
abbrev Gs:=@List.Pairwise.imp_of_mem
abbrev d7:=@List.sum_cons
abbrev kU:=@List.perm_ext_iff_of_nodup
abbrev nY:=@List.idxOf_cons_self
abbrev we:=@List.idxOf_cons
abbrev nZ:=@List.filter_cons
abbrev iW:=@List.idxOf_append
abbrev gp:=@Classical.byContradiction
abbrev Gu:=@Array.getElem?_eq_getElem
abbrev Gv:=@List.pairwise_singleton
abbrev sG:=@PySem.Heap.SameBut.update
abbrev wg:=@PySem.wpAny_letGo
abbrev Cz:=@PySem.wpAny_evalAll_cons
abbrev CA:=@PySem.wpAny_evalAll_nil
abbrev CB:=@PySem.F.entry_min_loop
abbrev sI:=@PySem.Around.under_plainId
abbrev qM:=@PySem.F.plain_min_loop
abbrev zZ:=@PySem.wpAny_seqItems
abbrev z8:=@PySem.wpAny_tryCatch
abbrev CD:=@PySem.wpAny_updateSeq
abbrev wj:=@decide_true
abbrev sJ:=@PySem.plainId_quiet
abbrev z9:=@Int.zero_add
abbrev CF:=@List.map_eq_nil_iff
abbrev mH:=@Int.eq_ofNat_of_zero_le
abbrev wm:=@PySem.wpAny_ite_split
abbrev qN:=@List.filter_cons_of_pos
abbrev wq:=@List.filter_cons_of_neg
abbrev Gw:=@List.getElem_cons_zero
abbrev z_:=@List.getElem_cons_succ
abbrev wu:=@List.mem_iff_getElem
abbrev pI:=@List.idxOf_lt_length_iff
abbrev CG:=@decide_eq_true_eq
abbrev kW:=@Nat.add_le_add_left
abbrev fi:=@PySem.PassesOwn.never
abbrev pJ:=@PyProof.Rows.boot_sorted
abbrev jb:=@PySem.boot_len
abbrev jc:=@PySem.F.plainAttrs_list
abbrev qO:=@PySem.F.slot_list_append
abbrev qP:=@PySem.F.type_list_append
abbrev CH:=@Option.map_some
abbrev pK:=@Int.emod_nonneg
abbrev sL:=@Int.emod_lt_of_pos
abbrev CI:=@Int.ediv_nonneg
abbrev Gx:=@PySem.F.slot_list_index
abbrev Gy:=@PySem.F.type_list_index
abbrev g_:=@PySem.W.mg_none_of
abbrev S8:=List (List (Int×Int))
abbrev ak:=List (Int×Int)
abbrev TNN:=Nat→Nat→Int
abbrev dq:=PySem.Str→Option PySem.Value
abbrev aF:=PySem.Value→PySem.Shared→Prop
abbrev aD:=PySem.W.Frag
abbrev aO:=List (PySem.Addr×PySem.Obj)
namespace L2
open PySem PySem.Spec PyProof.Rows
abbrev Key:=Sum Int Str
def sM:Key→Value→Bool
 | .inl k,v=>Value.isInt k v
 | .inr x,v=>Value.isStrOf x v
def S9(w:World):Key→Int
 | .inl k=>hashInt k
 | .inr x=>hashStr w x
theorem n4:∀{k:Key} {v:Value},sM k v=true→(∃i t,k=Sum.inl i∧v=Value.int i t)∨(∃x t,k=Sum.inr x∧v=Value.str x t)
 | .inl i,v,h=>by obtain ⟨t,e⟩:=Value.isInt_shape (k:=i) (v:=v) h;exact .inl ⟨i,t,rfl,e⟩
 | .inr x,v,h=>by obtain ⟨t,e⟩:=Value.isStrOf_shape (x:=x) (v:=v) h;exact .inr ⟨x,t,rfl,e⟩
theorem S_(i:Int)(t:Tok):sM (.inl i) (.int i t)=true:=by simp [sM,Value.isInt]
theorem Ta(x:Str)(t:Tok):sM (.inr x) (.str x t)=true:=by simp [sM,Value.isStrOf]
theorem Tb(a b:Int):decide ((Sum.inl a:Key)=Sum.inl b)=(a == b):=by
 by_cases e:a=b;·subst e;simp
 ·have h:¬(Sum.inl a:Key)=Sum.inl b:=fun q=>e (Sum.inl.inj q)
  rw [bY h];exact (vO.mpr e).symm
theorem Tc(a b:Str):decide ((Sum.inr a:Key)=Sum.inr b)=decide (a=b):=by
 by_cases e:a=b;·subst e;simp
 ·have h:¬(Sum.inr a:Key)=Sum.inr b:=fun q=>e (Sum.inr.inj q)
  rw [bY h,bY e]
theorem Td(a:Int)(b:Str):decide ((Sum.inl a:Key)=Sum.inr b)=false:=bY (fun q=>nomatch q)
theorem Te(a:Str)(b:Int):decide ((Sum.inr a:Key)=Sum.inl b)=false:=bY (fun q=>nomatch q)
def iC(prog:Program)(w:World):PySem.KeyKind prog w Key where
 is:=sM
 hash:=S9 w
 inj:=fun v a b ha hb=>by
  rcases n4 ha with ⟨i,t,rfl,rfl⟩ | ⟨x,t,rfl,rfl⟩
  ·rcases n4 hb with ⟨j,u,rfl,e⟩ | ⟨y,u,rfl,e⟩
   ·injection e with e1 _;rw [e1]
   ·exact nomatch e
  ·rcases n4 hb with ⟨j,u,rfl,e⟩ | ⟨y,u,rfl,e⟩
   ·exact nomatch e
   ·injection e with e1 _;rw [e1]
 byValue:=fun k v h=>by
  rcases n4 h with ⟨i,t,rfl,rfl⟩ | ⟨x,t,rfl,rfl⟩ <;> rfl
 pyHash:=fun hv h=>by
  rcases n4 hv with ⟨i,t,rfl,rfl⟩ | ⟨x,t,rfl,rfl⟩
  ·exact wpAny_pyHash_int h
  ·exact wpAny_pyHash_str h
 eqBool:=fun hu hv h=>by
  rcases n4 hu with ⟨i,t,rfl,rfl⟩ | ⟨x,t,rfl,rfl⟩
  ·rcases n4 hv with ⟨j,u,rfl,rfl⟩ | ⟨y,u,rfl,rfl⟩
   ·rw [Tb] at h;exact wpAny_eqBool_int h
   ·rw [Td] at h;exact SeqAt.EqAt.int_str i t y u _ _ _ _ h
  ·rcases n4 hv with ⟨j,u,rfl,rfl⟩ | ⟨y,u,rfl,rfl⟩
   ·rw [Te] at h;exact SeqAt.EqAt.str_int x t j u _ _ _ _ h
   ·rw [Tc] at h;exact wpAny_eqBool_str h
 «strs»:=fun k x t v h=>by
  rcases n4 h with ⟨i,u,rfl,e⟩ | ⟨y,u,rfl,e⟩
  ·exact nomatch e
  ·injection e with e1 _
   subst e1
   cases v <;> rfl
theorem Tf(prog:Program)(w:World)(i:Int)(t:Tok):(iC prog w).is (.inl i) (.int i t)=true:=S_ i t
theorem Tg(prog:Program)(w:World)(x:Str)(t:Tok):(iC prog w).is (.inr x) (.str x t)=true:=Ta x t
inductive V where
 | aI | bl (b:Bool) | int (i:Int) | str (x:Str) | j7 (b:Array UInt8) | wx (b:UInt64) | ref (a:Addr) | ty (n:String)
 deriving DecidableEq
def RelV:V→Value→Prop
 | .aI,u=>u=Value.none
 | .bl b,u=>u=Value.bool b
 | .int i,u=>∃t,u=Value.int i t
 | .str x,u=>∃t,u=Value.str x t
 | .j7 b,u=>∃t,u=Value.bytes b t
 | .wx b,u=>∃t,u=Value.float b t
 | .ref a,u=>u=Value.ref a
 | .ty n,u=>u=Value.type n
abbrev Vals:List V→List Value→Prop:=Paired RelV
variable {xs:List V} {us:List Value}
theorem Vals.length(r:Vals xs us):xs.length=us.length:=Paired.length r
theorem Vals.get:∀{xs:List V} {us:List Value} {i:Nat} {x:V},Vals xs us→xs[i]?=some x→∃u,us[i]?=some u∧RelV x u
 | _,_,_,_,.nil,e=>by simp at e
 | _,_,0,_,.cons r _,e=>by simp at e;subst e;exact ⟨_,rfl,r⟩
 | _,_,i+1,x,.cons _ t,e=>by
  obtain ⟨u,h1,h2⟩:=Vals.get (i:=i) (x:=x) t (by simpa using e)
  exact ⟨u,by simpa using h1,h2⟩
theorem Vals.set{x:V}{u:Value}(r:RelV x u):∀{xs:List V} {us:List Value} (i:Nat),Vals xs us→Vals (xs.set i x) (us.set i u)
 | _,_,_,.nil=>.nil
 | _,_,0,.cons _ t=>.cons r t
 | _,_,i+1,.cons q t=>.cons q (Vals.set r i t)
theorem Vals.append:∀{xs ys:List V} {us ws:List Value},Vals xs us→Vals ys ws→Vals (xs++ys) (us++ws)
 | _,_,_,_,.nil,s=>s
 | _,_,_,_,.cons r t,s=>.cons r (Vals.append t s)
theorem Vals.take:∀{xs:List V} {us:List Value} (n:Nat),Vals xs us→Vals (xs.take n) (us.take n)
 | _,_,0,_=>.nil
 | _,_,_+1,.nil=>.nil
 | _,_,n+1,.cons r t=>.cons r (Vals.take n t)
theorem Vals.drop:∀{xs:List V} {us:List Value} (n:Nat),Vals xs us→Vals (xs.drop n) (us.drop n)
 | _,_,0,r=>r
 | _,_,_+1,.nil=>.nil
 | _,_,n+1,.cons _ t=>Vals.drop n t
theorem Vals.none_of:∀{xs:List V} {us:List Value} {i:Nat},Vals xs us→xs[i]?=none→us[i]?=none:=fun{xs us i} r e=>by have h1:=r.length;have h2:xs.length≤i:=Gf.mp e;exact Gf.mpr (by lia)
def mI:Option V→Option Value→Prop
 | some v,some u=>RelV v u
 | none,none=>True
 | _,_=>False
def KV{κ:Type}:List (κ×V)→List (κ×Value)→Prop:=Paired fun(p:κ×V) (q:κ×Value)=>p.1=q.1∧RelV p.2 q.2
def kV:Key→V
 | .inl i=>.int i
 | .inr x=>.str x
inductive HO where
 | lst (xs:List V)
 | tup (xs:List V)
 | dK (kvs:List (Key×V)) | dT (kvs:List (List Key×V))
 | set (S:Int→Bool) (n:Nat)
 | ins (C dx:Addr) (fs:List (Str×V))
 | own (x:Addr)
 | xd (fs:List (Str×V))
 | met (f x:Addr)
 | fV (lo hi:Int)
 | bE (o:Obj) (u:HO)
 | dW (ps:Array Value)
 | ext (φ:Heap→Prop)
abbrev Hp:=Addr→Option HO
def upd(H:Hp)(a:Addr)(o:HO):Hp:=fun b=>if b=a then some o else H b
variable {H:Hp} {a:Addr} {o:HO}
theorem ar:upd H a o a=some o:=by unfold upd;rw [ae rfl]
variable {b:Addr}
theorem aE(h:b≠a):upd H a o b=H b:=by unfold upd;rw [aa h]
theorem Th{u:HO}(h:H a=some o)(h':H b=some u)(d:o≠u):a≠b:=by intro e;subst e;rw [h] at h';exact d (Option.some.inj h')
theorem fW(h:H a=some o)(h':H b=none):a≠b:=by intro e;subst e;rw [h] at h';cases h'
section
variable (P:Program) (w:World)
def cK(H:Hp)(h:Heap)(a:Addr):HO→Prop
 | .lst xs=>xs.length≤sizeLine∧∃(its:List Value) (n:Nat),Vals xs its∧h.get? a=some {cls:=.type "list",data:=.seq its.toArray n}
 | .tup xs=>xs.length≤sizeLine∧∃its:List Value,Vals xs its∧IsTup h a its.toArray
 | .dK kvs=>kvs.length≤sizeLine∧(a == sysModules)=false∧∃vs,KV kvs vs∧h.DictOf (iC P w) a vs
 | .dT kvs=>kvs.length≤sizeLine∧(a == sysModules)=false∧∃xs:List (List Key×Addr×Value),
   Paired (fun(p:List Key×V) (q:List Key×Addr×Value)=>p.1=q.1∧H q.2.1=some (.tup (p.1.map kV))∧RelV p.2 q.2.2) kvs xs ∧
   ∃o es ep,h.get? a=some o∧o.ExactDict∧o.data=.dict es ep∧es.toList=xs.map (entryOfKey (tupleKind (iC P w)))∧(xs.map (·.1)).Nodup
 | .set S n=>h.SetOf (intKind P w) a S n
 | .ins C dx fs=>H dx=some (.own a)∧fs.length≤1000∧dx≠a∧h.get? a=some (PySem.W.instObj C dx) ∧
   ∃mA,h.Ns1 dx mA∧(∀f,mI (fs.lookup f) (mA f))∧PySem.Within mA (fs.map (·.1))
 | .own _=>∃o,h.get? a=some o
 | .xd fs=>∃mA,h.Ns1 a mA∧∀f,mI (fs.lookup f) (mA f)
 | .fV lo hi=>∃t u v,h.get? a=some {cls:=.type "range",data:=.fields #[.int lo t,.int hi u,.int 1 v]}
 | .bE o u=>h.get? a=some o∧cK H h a u
 | .dW ps=>h.get? a=some {cls:=.none,data:=.fields ps}
 | .met f x=>h.get? a=some (PySem.W.methodObj (.ref f) (.ref x))
 | .ext φ=>φ h∧(∃o,h.get? a=some o)∧∀h1 h2:Heap,φ h1→(∀o,h1.get? a=some o→h2.get? a=some o)→φ h2
def cR(H:Hp)(h:Heap):Prop:=∀a o,H a=some o→cK P w H h a o
end
section
variable {P:Program} {w:World} {H H':Hp} {h h':Heap} {a:Addr} {o:HO}
theorem cK.lt(x:cK P w H h a o):a<h.objs.size:=by
 cases o with
 | lst xs=>obtain ⟨_,_,_,_,e⟩:=x;exact aU e
 | tup xs=>obtain ⟨_,_,_,p⟩:=x;exact p.lt
 | dK kvs=>obtain ⟨_,_,_,_,o,_,_,e,_⟩:=x;exact aU e
 | dT kvs=>obtain ⟨_,_,_,_,o,_,_,e,_⟩:=x;exact aU e
 | set S n=>obtain ⟨o,_,_,_,e,_⟩:=x;exact aU e
 | ins C dx fs=>obtain ⟨_,_,_,e,_⟩:=x;exact aU e
 | own y=>obtain ⟨_,e⟩:=x;exact aU e
 | xd fs=>obtain ⟨_,⟨_,_,_,e,_⟩,_⟩:=x;exact aU e
 | fV lo hi=>obtain ⟨_,_,_,e⟩:=x;exact aU e
 | bE ob u=>obtain ⟨e,_⟩:=x;exact aU e
 | dW ps=>exact aU (show h.get? a=some _ from x)
 | met f y=>exact aU (show h.get? a=some _ from x)
 | ext φ=>obtain ⟨_,⟨_,e⟩,_⟩:=x;exact aU e
theorem Paired.Gz{α β:Type}{F G:α→β→Prop}:∀{l₁:List α} {l₂:List β},Paired F l₁ l₂→(∀a b,F a b→G a b)→Paired G l₁ l₂
 | _,_,.nil,_=>.nil
 | _,_,.cons r t,f=>.cons (f _ _ r) (Paired.Gz t f)
theorem cK.iY(x:cK P w H h a o)(k:∀b u,(b=a∨H b=some (.own a))→h.get? b=some u→h'.get? b=some u)
  (ho:∀b,H b=some (.own a)→H' b=some (.own a)) (ht:∀b xs,H b=some (.tup xs)→H' b=some (.tup xs)):cK P w H' h' a o:=by
 induction o with
 | lst xs=>obtain ⟨z,its,n,r,e⟩:=x;exact ⟨z,its,n,r,k _ _ (.inl rfl) e⟩
 | tup xs=>obtain ⟨z,its,r,ob,e,c⟩:=x;exact ⟨z,its,r,ob,k _ _ (.inl rfl) e,c⟩
 | dK kvs=>obtain ⟨z,y,vs,r,ob,es,ep,e,c⟩:=x;exact ⟨z,y,vs,r,ob,es,ep,k _ _ (.inl rfl) e,c⟩
 | dT kvs=>obtain ⟨z,y,xs,r,ob,es,ep,e,c⟩:=x;exact ⟨z,y,xs,Paired.Gz r fun p q z=>⟨z.1,ht _ _ z.2.1,z.2.2⟩,ob,es,ep,k _ _ (.inl rfl) e,c⟩
 | set S n=>obtain ⟨ob,es,ep,t,e,c⟩:=x;exact ⟨ob,es,ep,t,k _ _ (.inl rfl) e,c⟩
 | ins C dx fs=>obtain ⟨d,z,ne,e,mA,⟨od,es,ep,e2,c⟩,r⟩:=x;exact ⟨ho _ d,z,ne,k _ _ (.inl rfl) e,mA,⟨od,es,ep,k _ _ (.inr d) e2,c⟩,r⟩
 | own y=>obtain ⟨ob,e⟩:=x;exact ⟨ob,k _ _ (.inl rfl) e⟩
 | xd fs=>obtain ⟨mA,⟨od,es,ep,e,c⟩,r⟩:=x;exact ⟨mA,⟨od,es,ep,k _ _ (.inl rfl) e,c⟩,r⟩
 | fV lo hi=>obtain ⟨t,u,v,e⟩:=x;exact ⟨t,u,v,k _ _ (.inl rfl) e⟩
 | bE ob u ih=>obtain ⟨e,q⟩:=x;exact ⟨k _ _ (.inl rfl) e,ih q⟩
 | dW ps=>have e:h.get? a=some {cls:=.none,data:=.fields ps}:=x;show h'.get? a=some {cls:=.none,data:=.fields ps};exact k a _ (.inl rfl) e
 | met f y=>have e:h.get? a=some (PySem.W.methodObj (.ref f) (.ref y)):=x;show h'.get? a=some (PySem.W.methodObj (.ref f) (.ref y));exact k a _ (.inl rfl) e
 | ext φ=>obtain ⟨p,⟨o,e⟩,st⟩:=x;exact ⟨st _ _ p fun o q=>k _ _ (.inl rfl) q,⟨o,k _ _ (.inl rfl) e⟩,st⟩
theorem cR.lt(x:cR P w H h)(e:H a=some o):a<h.objs.size:=(x a o e).lt
theorem cR.fresh(x:cR P w H h)(e:h.objs.size≤a):H a=none:=by
 cases q:H a with
 | none=>rfl
 | some u=>exact absurd (dQ (x.lt q) e) (d6 _)
theorem cR.kept(x:cR P w H h)(k:∀b u,h.get? b=some u→h'.get? b=some u):cR P w H h':=fun a o e=>(x a o e).iY (fun b u _ q=>k b u q) (fun _ q=>q) fun _ _ q=>q
theorem cR.laid(x:cR P w H h)(k:∀b u,h.get? b=some u→h'.get? b=some u)(hp:h.objs.size≤a)(new:cK P w (upd H a o) h' a o):cR P w (upd H a o) h':=fun b u e=>by
 have hn:=x.fresh hp;by_cases hb:b=a;·subst hb;rw [ar] at e;cases e;exact new
 ·rw [aE hb] at e
  exact (x b u e).iY (fun c v _ q=>k c v q) (fun c q=>by rw [aE (fW q hn)];exact q) fun c xs q=>by rw [aE (fW q hn)];exact q
end
def Rd(H:Hp)(a:Addr)(u:HO):Prop:=H a=some u∨∃o,H a=some (.bE o u)
variable {P:Program} {w:World} {h:Heap}
theorem Rd.ok{u:HO}(r:Rd H a u)(x:cR P w H h):cK P w H h a u:=by
 rcases r with r | ⟨o,r⟩;·exact x a u r
 ·obtain ⟨_,q⟩:=x a _ r
  exact q
def Aa:Option HO→Prop
 | some (.lst _)=>True
 | some (.dK _)=>True
 | some (.dT _)=>True
 | some (.set _ _)=>True
 | some (.ins _ _ _)=>True
 | some (.ext _)=>True
 | _=>False
section
variable {P:Program} {w:World} {H:Hp} {h h':Heap} {x e:Addr} {o':HO}
theorem cR.write(ok:cR P w H h)(mu:Aa (H x))(he:e=x∨H e=some (.own x))(k:∀b u,b≠e→h.get? b=some u→h'.get? b=some u)(wG:∃u,h'.get? e=some u)
  (new:cK P w (upd H x o') h' x o'):cR P w (upd H x o') h':=fun b u q=>by
 have L4:∀c y,H c=some (.own y)→c≠x:=fun c y r z=>by subst z;rw [r] at mu;exact mu
 have Ti:∀c xs,H c=some (.tup xs)→c≠x:=fun c xs r z=>by subst z;rw [r] at mu;exact mu
 by_cases hb:b=x;·subst hb;rw [ar] at q;cases q;exact new
 ·rw [aE hb] at q
  by_cases sN:b=e
  ·have q':H b=some (.own x):=by
    rcases he with z | z;·exact absurd (sN.trans z) hb
    ·rw [sN];exact z
   rw [q] at q';cases q';obtain ⟨v,hv⟩:=wG;exact ⟨v,by rw [sN];exact hv⟩
  ·refine (ok b u q).iY (fun c v hc r=>k c v ?_ r) (fun c r=>by rw [aE (L4 c b r)];exact r) fun c xs r=>by rw [aE (Ti c xs r)];exact r
   rcases hc with rfl | hc;·exact sN
   ·rintro rfl
    rcases he with z | z;·exact L4 c b hc z
    ·rw [hc] at z;cases z;exact hb rfl
end
structure Un (fs ex:List Addr) (H H':Hp) (h h':Heap):Prop where
 keep:∀b o,h.get? b=some o→H b=none→b∉fs→b∉ex→h'.get? b=some o
 slot:∀b o,h.get? b=some o→H b=none→b∈fs→b∉ex→∃sl,h'.get? b=some {o with slots:=sl}
 free:∀b o,h.get? b=some o→H b=none→b∉ex→H' b=none
 there:∀b o,h.get? b=some o→b∉ex→∃o',h'.get? b=some o'
 hE:∀b xs,H b=some (.tup xs)→H' b=some (.tup xs)
 iD:∀b o u,H b=some (.bE o u)→H' b=some (.bE o u)
 iE:∀b ps,H b=some (.dW ps)→∃more,H' b=some (.dW (ps++more))
section
variable {fs GA ex Ab:List Addr} {H H1 H2:Hp} {h h1 h2 h':Heap} {a x e:Addr} {o:HO}
theorem Un.any(u:Un fs ex H H1 h h1){ob:Obj}(q:h.get? b=some ob)(n:H b=none)(hx:b∉ex):∃sl,h1.get? b=some {ob with slots:=sl}:=by
 by_cases hb:b∈fs;·exact u.slot b ob q n hb hx
 ·exact ⟨ob.slots,u.keep b ob q n hb hx⟩
theorem Un.kept(k:∀b u,h.get? b=some u→h'.get? b=some u):Un fs ex H H h h':=
 ⟨fun b ob q _ _ _=>k b ob q,fun b ob q _ _ _=>⟨ob.slots,k b ob q⟩,fun _ _ _ n _=>n,fun b ob q _=>⟨ob,k b ob q⟩,fun _ _ q=>q,fun _ _ _ q=>q,fun _ ps q=>⟨#[],by rw [q];simp⟩⟩
theorem Un.refl:Un fs ex H H h h:=Un.kept fun _ _ q=>q
theorem Un.laid(k:∀b u,h.get? b=some u→h'.get? b=some u)(hp:h.objs.size≤a)(hn:H a=none):Un fs ex H (upd H a o) h h' where
 keep:=fun b u q _ _ _=>k b u q
 slot:=fun b u q _ _ _=>⟨u.slots,k b u q⟩
 free:=fun b u q n _=>by rw [aE (bZ (dQ (aU q) hp))];exact n
 there:=fun b u q _=>⟨u,k b u q⟩
 hE:=fun b xs q=>by rw [aE (fW q hn)];exact q
 iD:=fun b u xs q=>by rw [aE (fW q hn)];exact q
 iE:=fun b ps q=>⟨#[],by rw [aE (fW q hn),q];simp⟩
theorem Un.write(mu:Aa (H x))(he:e=x∨H e=some (.own x))(k:∀b u,b≠e→h.get? b=some u→h'.get? b=some u)(wG:∃u,h'.get? e=some u):Un fs ex H (upd H x o) h h':=by
 have hx:∀b,H b=none→b≠x:=fun b n z=>by subst z;rw [n] at mu;exact mu
 have hb:∀b,H b=none→b≠e:=fun b n z=>by
  subst z;rcases he with r | r;·exact hx b n r
  ·rw [n] at r;cases r
 have hm:∀b u,H b=some u→¬Aa (some u)→b≠x:=fun b u q nm z=>by subst z;rw [q] at mu;exact nm mu
 refine ⟨fun b u q n _ _=>k b u (hb b n) q,fun b u q n _ _=>⟨u.slots,k b u (hb b n) q⟩,fun b u q n _=>by rw [aE (hx b n)];exact n,fun b u q _=>?_,
  fun b xs q=>by rw [aE (hm b _ q fun z=>z)];exact q,fun b u xs q=>by rw [aE (hm b _ q fun z=>z)];exact q,fun b ps q=>⟨#[],by rw [aE (hm b _ q fun z=>z),q];simp⟩⟩
 by_cases sN:b=e;·subst sN;exact wG
 ·exact ⟨u,k b u sN q⟩
end
def CJ(h:Heap)(H:Hp):List Addr:=(List.range h.objs.size).filter fun a=>(H a).isSome
def n5(h:Heap)(H:Hp):Heap:=PySem.W.hideAll h (CJ h H)
theorem Tj(h:Heap)(H:Hp):(n5 h H).objs.size=h.objs.size:=PySem.W.hideAll_size _ _
theorem Tn{o:Obj}(e:h.get? b=some o)(n:H b=none):(n5 h H).get? b=some o:=
 Cg _ e fun hm=>by have q:(H b).isSome=true:=(b8.mp hm).2;rw [n] at q;simp at q
theorem To{o:Obj}(e:(n5 h H).get? b=some o):h.get? b=some o∧H b=none:=by
 have e':h.get? b=some o:=PySem.W.of_hideAll (CJ h H) e;refine ⟨e',?_⟩;cases q:H b with
 | none=>rfl
 | some x=>
  have hm:b∈CJ h H:=b8.mpr ⟨aS.mpr (aU e'),by simp [q]⟩
  have z:(n5 h H).get? b=none:=PySem.W.hideAll_none (CJ h H) hm;rw [z] at e;cases e
structure Mod (K:aD) (mg:dq) (base:Heap):Prop where
 d8:K.In base
 glob:base.Ns mainGlobals mg
 blt:∃mb,base.Ns builtinsNs mb∧∀x:Str,x ≠ "__name__"→mb x=bootBuiltins x
 nolimit:base.NoLimit
structure Cx where
 prog:Program
 w:World
 K:PySem.W.Frag
 mg:Str→Option Value
 base:Heap
 A:Around
 N:List Str
 s₀:Shared
 H₀:Hp
 env:Env
 outer:List Env
 stack:List Env
 ex:List Addr
 fn:Str→Bool
 calm:Bool
 pn:List (Addr×Obj)
 xe:Value→Shared→Prop
def cY(l:List Env):List Addr:=l.filterMap (·.frame)
abbrev Cx.fs (X:Cx):List Addr:=cY X.outer
def sO(sc:Scope)(x:Str):Prop:=sc.names.lookup x=some .local∨sc.names.lookup x=some .cell∨sc.names.lookup x=some .free
def Loc(sc:Scope)(x:Str):Prop:=sc.names.lookup x=some .local∨sc.names.lookup x=some .cell
def Look(env:Env)(h:Heap)(m:dq)(x:Str)(u:Value):Prop:=
 (env.kindOf x=some .local∧m x=some u)∨((env.kindOf x=some .cell∨env.kindOf x=some .free)∧∃c,env.cells.lookup x=some c∧h.IsCell c (some u))
structure Cx.Ok (X:Cx):Prop where
 mod:Mod X.K X.mg X.base
 kind:X.env.scope.kind=.function
 glob:X.env.globals=mainGlobals
 blt:X.env.builtins=builtinsNs
 above:X.s₀.heap.objs.size≤X.env.locals
 inj:∀x y c,X.env.cells.lookup x=some c→X.env.cells.lookup y=some c→x=y
 has:∀x,(X.env.kindOf x=some .cell∨X.env.kindOf x=some .free)→∃c,X.env.cells.lookup x=some c
 Ac:∀x c,X.fn x=true→X.env.cells.lookup x=some c→X.s₀.heap.objs.size≤c
 hd:X.calm=true→X.A.handled=none
 frames:X.A.frames=some X.stack
 j8:X.stack=X.outer∨(X.stack=X.env::X.outer∧X.env.frame=some X.env.locals)
 L5:∀b∈X.ex,b≠X.env.locals∧∀x c,X.env.cells.lookup x=some c→c≠b
 bs:∀b o,X.base.get? b=some o→X.s₀.heap.get? b=some o∧X.H₀ b=none
 jd:X.base.objs.size≤X.s₀.heap.objs.size
 qQ:∀b o,X.base.get? b=some o→b∉X.ex
 qR:∀b∈X.ex,b∉X.fs
 mJ:X.s₀.heap.FunFrames X.base X.outer
 qT:∀b∈X.fs,X.H₀ b=none
structure Inv (X:Cx) (pins:aO) (σ:List (Option V)) (H:Hp) (s:Shared):Prop where
 ok:X.Ok
 os:s.os=X.s₀.os
 bare:AllBare s.gens
 base:Un X.fs X.ex X.H₀ H X.s₀.heap s.heap
 loc:∃m,s.heap.Ns X.env.locals m∧∀(i:Nat) (x:Str) (v:V),X.N[i]?=some x→σ[i]?=some (some v)→sO X.env.scope x→∃u,RelV v u∧Look X.env s.heap m x u
 cell:∀x c,X.env.cells.lookup x=some c→∃v,s.heap.IsCell c v
 free:H X.env.locals=none
 j9:∀x c,X.env.cells.lookup x=some c→H c=none
 pin:∀p∈X.pn++pins,s.heap.get? p.1=some p.2∧H p.1=none∧p.1≠X.env.locals∧p.1∉X.fs∧∀v,p.2.data≠.cell v
 aw:cR X.prog X.w H s.heap
 len:σ.length=X.N.length
section
variable {X:Cx} {pins:aO} {σ:List (Option V)} {H H':Hp} {s:Shared} {h':Heap}
theorem Cx.Ok.Tp(ok:X.Ok){o:Obj}(e:X.base.get? b=some o):b∉X.fs:=fun hb=>by have:=(ok.mJ.mem hb).1;rw [e] at this;cases this
theorem Inv.bs(I:Inv X pins σ H s):∀b o,X.base.get? b=some o→s.heap.get? b=some o∧H b=none:=fun b o e=>⟨I.base.keep b o (I.ok.bs b o e).1 (I.ok.bs b o e).2 (I.ok.Tp e) (I.ok.qQ b o e),I.base.free b o (I.ok.bs b o e).1 (I.ok.bs b o e).2 (I.ok.qQ b o e)⟩
theorem Inv.bk(I:Inv X pins σ H s):∀b o,X.base.get? b=some o→s.heap.get? b=some o:=fun b o e=>(I.bs b o e).1
theorem Inv.mod(I:Inv X pins σ H s):Mod X.K X.mg X.base:=I.ok.mod
theorem Inv.gq(I:Inv X pins σ H s):X.K.In s.heap:=I.ok.mod.d8.keeps I.bk
theorem Inv.lt(I:Inv X pins σ H s):X.env.locals<s.heap.objs.size:=let ⟨_,hn,_⟩:=I.loc;hn.lt
theorem Inv.sz(I:Inv X pins σ H s):X.s₀.heap.objs.size≤s.heap.objs.size:=bU I.ok.above (jY I.lt)
theorem Inv.Tq(I:Inv X pins σ H s)(h:s.heap.objs.size≤a):a∉X.fs:=fun hb=>by obtain ⟨_,o,ho,_⟩:=I.ok.mJ.mem hb;exact absurd (dQ (aU ho) (bU I.sz h)) (d6 _)
theorem Inv.sP(I:Inv X pins σ H s):∀x c,X.env.cells.lookup x=some c→c≠X.env.locals:=fun x c e z=>by obtain ⟨v,o,ho,hd⟩:=I.cell x c e;obtain ⟨m,⟨o',es,ep,kX,GB,_⟩,_⟩:=I.loc;rw [z,kX] at ho;cases ho;rw [GB] at hd;cases hd
theorem Inv.mJ(I:Inv X pins σ H s):s.heap.FunFrames X.base X.outer:=by
 have all:∀(l:List Env),(∀b∈cY l,b∈X.fs)→X.s₀.heap.FunFrames X.base l→s.heap.FunFrames X.base l:=by
  intro l
  induction l with
  | nil=>intro _ _;trivial
  | cons env r ih=>
   intro hs hl;obtain ⟨hk,⟨L,o,hf,hn,ho,hd⟩,hr⟩:=hl;have hL:L∈X.fs:=hs L (by unfold cY;rw [Ci,hf];exact cj)
   obtain ⟨sl,e⟩:=I.base.slot L o ho (I.ok.qT L hL) hL fun z=>I.ok.qR L z hL;exact ⟨hk,⟨L,_,hf,hn,e,hd⟩,ih (fun b hb=>hs b (by unfold cY;rw [Ci,hf];exact ck _ hb)) hr⟩
 exact all X.outer (fun _ hb=>hb) I.ok.mJ
theorem Inv.stack(I:Inv X pins σ H s):s.heap.FunFrames X.base X.stack:=by
 rcases I.ok.j8 with e | ⟨e,hf⟩;·rw [e];exact I.mJ
 ·rw [e]
  obtain ⟨m,hn,_⟩:=I.loc;refine .cons (by rw [I.ok.kind];decide) hf hn ?_ I.mJ
  exact Heap.get?_none_of_le (bU I.ok.jd I.ok.above)
theorem Inv.wH(I:Inv X pins σ H s):∀b∈cY X.stack,b∈X.env.locals::X.fs:=fun b hb=>by
 rcases I.ok.j8 with e | ⟨e,hf⟩;·rw [e] at hb;exact ck _ hb
 ·rw [e] at hb
  unfold cY at hb;rw [Ci,hf] at hb;exact hb
theorem Inv.wI(I:Inv X pins σ H s):∀b∈cY X.stack,H b=none:=fun b hb=>by
 rcases bb.mp (I.wH b hb) with e | hb;·rw [e];exact I.free
 ·obtain ⟨_,o,ho,_⟩:=I.ok.mJ.mem hb
  exact I.base.free b o ho (I.ok.qT b hb) fun z=>I.ok.qR b z hb
theorem Inv.step{g':Array GenState}{t':Nat}{d':Drawn}{ch:List Addr}(I:Inv X pins σ H s)
  (n6:∀b∈ch,(b∈X.ex∨X.s₀.heap.objs.size≤b)∧b≠X.env.locals∧(∀x c,X.env.cells.lookup x=some c→c≠b)∧∀p∈X.pn++pins,p.1≠b)
  (keep:∀b o,b≠X.env.locals→b∉X.fs→b∉ch→s.heap.get? b=some o→H b=none→h'.get? b=some o)
  (slot:∀b o,b≠X.env.locals→b∈X.fs→b∉ch→s.heap.get? b=some o→H b=none→∃sl,h'.get? b=some {o with slots:=sl}) (free:∀b o,b∉ch→s.heap.get? b=some o→H b=none→H' b=none)
  (there:∀b o,b∉ch→s.heap.get? b=some o→∃o',h'.get? b=some o')
  (hE:∀b xs,H b=some (.tup xs)→H' b=some (.tup xs)) (iD:∀b o u,H b=some (.bE o u)→H' b=some (.bE o u)) (iE:∀b ps,H b=some (.dW ps)→∃more,H' b=some (.dW (ps++more)))
  (ns:∀m,s.heap.Ns X.env.locals m→h'.Ns X.env.locals m) (aw:cR X.prog X.w H' h') (hg:AllBare g') :
  Inv X pins σ H' {s with heap:=h',gens:=g',drawn:=d',toks:=t'}:=by
 have n8:∀b o,X.s₀.heap.get? b=some o→b≠X.env.locals:=fun b o e=>bZ (dQ (aU e) I.ok.above);have CK:∀b o,X.s₀.heap.get? b=some o→b∉X.ex→b∉ch:=fun b o e hx hb=>by
  rcases (n6 b hb).1 with z | z;·exact hx z
  ·exact absurd (dQ (aU e) z) (d6 _)
 have cellK:∀x c,X.env.cells.lookup x=some c→∀v,s.heap.IsCell c v→h'.IsCell c v:=fun x c e v ⟨o,ho,hd⟩=>by
  have Ad:c∉ch:=fun z=>(n6 c z).2.2.1 x c e rfl;by_cases hc:c∈X.fs
  ·obtain ⟨sl,q⟩:=slot c o (I.sP x c e) hc Ad ho (I.j9 x c e)
   exact ⟨_,q,hd⟩
  ·exact ⟨o,keep c o (I.sP x c e) hc Ad ho (I.j9 x c e),hd⟩
 refine ⟨I.ok,I.os,hg,⟨fun b o e n hb hx=>?_,fun b o e n hb hx=>?_,fun b o e n hx=>?_,fun b o e hx=>?_,fun b xs e=>hE b xs (I.base.hE b xs e),fun b o xs e=>iD b o xs (I.base.iD b o xs e),fun b ps e=>?_⟩,?_,fun x c e=>?_,?_,fun x c e=>?_,fun p hp=>?_,aw,I.len⟩;·exact keep b o (n8 b o e) hb (CK b o e hx) (I.base.keep b o e n hb hx) (I.base.free b o e n hx)
 ·obtain ⟨sl,e1⟩:=I.base.slot b o e n hb hx
  obtain ⟨Tr,e2⟩:=slot b _ (n8 b o e) hb (CK b o e hx) e1 (I.base.free b o e n hx);exact ⟨Tr,e2⟩
 ·obtain ⟨o',e1⟩:=I.base.there b o e hx
  exact free b o' (CK b o e hx) e1 (I.base.free b o e n hx)
 ·obtain ⟨o',e1⟩:=I.base.there b o e hx
  exact there b o' (CK b o e hx) e1
 ·obtain ⟨m1,e1⟩:=I.base.iE b ps e
  obtain ⟨m2,e2⟩:=iE b _ e1;exact ⟨m1++m2,by rw [e2,Array.append_assoc]⟩
 ·obtain ⟨m,hn,hl⟩:=I.loc
  refine ⟨m,ns m hn,fun i x v e1 e2 e3=>?_⟩;obtain ⟨u,r,l⟩:=hl i x v e1 e2 e3;refine ⟨u,r,?_⟩;rcases l with l | ⟨k,c,e,z⟩;·exact .inl l
  ·exact .inr ⟨k,c,e,cellK x c e _ z⟩
 ·obtain ⟨v,z⟩:=I.cell x c e
  exact ⟨v,cellK x c e v z⟩
 ·obtain ⟨m,⟨o,_,_,ho,_⟩,_⟩:=I.loc
  exact free _ o (fun z=>(n6 _ z).2.1 rfl) ho I.free
 ·obtain ⟨v,o,ho,hd⟩:=I.cell x c e
  exact free c o (fun z=>(n6 c z).2.2.1 x c e rfl) ho (I.j9 x c e)
 ·obtain ⟨e,n,ne,nf,d⟩:=I.pin p hp
  have Ad:p.1∉ch:=fun z=>(n6 p.1 z).2.2.2 p hp rfl;exact ⟨keep p.1 p.2 ne nf Ad e n,free p.1 p.2 Ad e n,ne,nf,d⟩
variable {t':Nat}
theorem Inv.un(I:Inv X pins σ H s)(u:Un X.fs [] H H' s.heap h')(aw:cR X.prog X.w H' h'):Inv X pins σ H' {s with heap:=h',toks:=t'}:=by
 obtain ⟨m,⟨o,es,ep,ho,r⟩,_⟩:=id I.loc;obtain ⟨sl,hL⟩:=u.any ho I.free (by simp)
 exact I.step (g':=s.gens) (d':=s.drawn) (ch:=[]) (fun _ z=>nomatch z) (fun b o _ hb _ e n=>u.keep b o e n hb (by simp)) (fun b o _ hb _ e n=>u.slot b o e n hb (by simp)) (fun b o _ e n=>u.free b o e n (by simp)) (fun b o _ e=>u.there b o e (by simp)) u.hE u.iD u.iE (fun m' hm=>by obtain ⟨o',CL,qU,kX,r'⟩:=hm;rw [ho] at kX;cases kX;exact ⟨_,CL,qU,hL,r'⟩) aw I.bare
variable {ch:List Addr}
theorem Inv.call{g':Array GenState}{d':Drawn}(I:Inv X pins σ H s)(u:Un (cY X.stack) ch H H' s.heap h')(aw:cR X.prog X.w H' h')(hg:AllBare g')
  (n6:∀b∈ch,(b∈X.ex∨X.s₀.heap.objs.size≤b)∧b≠X.env.locals∧(∀x c,X.env.cells.lookup x=some c→c≠b)∧∀p∈X.pn++pins,p.1≠b) :
  Inv X pins σ H' {s with heap:=h',gens:=g',drawn:=d',toks:=t'}:=by
 obtain ⟨m,⟨o,es,ep,ho,r⟩,_⟩:=id I.loc;obtain ⟨sl,hL⟩:=u.any ho I.free fun z=>(n6 _ z).2.1 rfl;exact I.step (ch:=ch) n6 (fun b o hL hb hc e n=>u.keep b o e n (fun z=>(bb.mp (I.wH b z)).elim hL hb) hc) (fun b o _ _ hc e n=>u.any e n hc) (fun b o hc e n=>u.free b o e n hc) (fun b o hc e=>u.there b o e hc) u.hE u.iD u.iE (fun m' hm=>by obtain ⟨o',CL,qU,kX,r'⟩:=hm;rw [ho] at kX;cases kX;exact ⟨_,CL,qU,hL,r'⟩) aw hg
theorem Inv.turned{it:Addr}(I:Inv X pins σ H s)(k:∀b o,b≠it→s.heap.get? b=some o→h'.get? b=some o)(hn:H it=none)(hL:it≠X.env.locals)
  (h1:it∈X.ex∨X.s₀.heap.objs.size≤it) (h2:∀x c,X.env.cells.lookup x=some c→c≠it) (h3:∀p∈X.pn++pins,p.1≠it):Inv X pins σ H {s with heap:=h',toks:=t'}:=by
 have L6:∀b u,H b=some u→b≠it:=fun b u e z=>by rw [z,hn] at e;cases e
 refine I.step (g':=s.gens) (d':=s.drawn) (ch:=[it]) (fun b hb=>?_) (fun b o _ _ hc e _=>k b o (fun z=>hc (by simp [z])) e) (fun b o _ _ hc e _=>⟨o.slots,k b o (fun z=>hc (by simp [z])) e⟩) (fun _ _ _ _ n=>n)
  (fun b o hc e=>⟨o,k b o (fun z=>hc (by simp [z])) e⟩) (fun _ _ e=>e) (fun _ _ _ e=>e) (fun b ps e=>⟨#[],by rw [e];simp⟩) (fun m hm=>?_) (fun b u e=>?_) I.bare
 ·have e:b=it:=by simpa using hb
  subst e;exact ⟨h1,hL,h2,h3⟩
 ·obtain ⟨o,es,ep,ho,r⟩:=hm
  exact ⟨o,es,ep,k _ o (Ne.symm hL) ho,r⟩
 ·refine (I.aw b u e).iY (fun c v hc q=>k c v ?_ q) (fun _ q=>q) fun _ _ q=>q
  rcases hc with z | z;·rw [z];exact L6 b u e
  ·exact L6 c _ z
theorem Inv.tok(I:Inv X pins σ H s)(t:Nat):Inv X pins σ H {s with toks:=t}:=I.un (h':=s.heap) (t':=t) Un.refl I.aw
theorem Inv.kept(I:Inv X pins σ H s)(k:∀b u,s.heap.get? b=some u→h'.get? b=some u):Inv X pins σ H {s with heap:=h',toks:=t'}:=I.un (Un.kept k) (I.aw.kept k)
theorem Inv.laid(I:Inv X pins σ H s)(k:∀b u,s.heap.get? b=some u→h'.get? b=some u)(hp:s.heap.objs.size≤a)(new:cK X.prog X.w (upd H a o) h' a o) :
  Inv X pins σ (upd H a o) {s with heap:=h',toks:=t'}:=I.un (Un.laid k hp (I.aw.fresh hp)) (I.aw.laid k hp new)
theorem Inv.write{x e:Addr}(I:Inv X pins σ H s)(mu:Aa (H x))(he:e=x∨H e=some (.own x))(k:∀b u,b≠e→s.heap.get? b=some u→h'.get? b=some u)(wG:∃u,h'.get? e=some u)
  (new:cK X.prog X.w (upd H x o) h' x o):Inv X pins σ (upd H x o) {s with heap:=h',toks:=t'}:=I.un (Un.write mu he k wG) (I.aw.write mu he k wG new)
theorem Inv.L7{L8:aO}(I:Inv X pins σ H s)(h:∀p∈L8,s.heap.get? p.1=some p.2∧H p.1=none∧p.1≠X.env.locals∧p.1∉X.fs∧∀v,p.2.data≠.cell v):Inv X L8 σ H s:=
 ⟨I.ok,I.os,I.bare,I.base,I.loc,I.cell,I.free,I.j9,fun p hp=>(cM.mp hp).elim (fun z=>I.pin p (ja _ z)) (h p),I.aw,I.len⟩
variable {i:Nat} {x:Str}
theorem L9{N:List Str}(hN:N.Nodup){j:Nat}(a:N[i]?=some x)(b:N[j]?=some x):i=j:=by obtain ⟨h1,e1⟩:=bV.mp a;obtain ⟨h2,e2⟩:=bV.mp b;exact (gm hN).mp (e1.trans e2.symm)
variable {M:Model} {A:Around} {E:aF} {u:Value} {Q:Unit→Shared→Prop}
theorem GC{v:V}(I:Inv X pins σ H s)(hN:X.N.Nodup)(hi:X.N[i]?=some x)(hx:Loc X.env.scope x)(r:RelV v u)
  (h:∀s',Inv X pins (σ.set i (some v)) H s'→(∃a,Heap.SameBut a s.heap s'.heap∧(a=X.env.locals∨X.env.cells.lookup x=some a))→Q () s') (hf:X.fn x=true∨X.env.scope.names.lookup x=some .local:=by first | exact .inl rfl | exact .inr rfl | assumption):wpAny M A (storeName X.env x u) Q E s:=by
 obtain ⟨m,hn,hl⟩:=id I.loc;have Ts:(X.env.scope.kind == .class || (X.env.scope.kind == .module && X.env.locals != X.env.globals))=false:=by rw [I.ok.kind];rfl
 have L_:i<σ.length:=by rw [I.len];exact (bV.mp hi).1
 have sP:=I.sP;have tracked:∀{a:Addr} {h':Heap},(∃o,s.heap.get? a=some o∧H a=none)→Heap.SameBut a s.heap h'→cR X.prog X.w H h':=fun{a h'} ha hs b ob e=>by
  obtain ⟨_,_,Ma⟩:=ha;refine (I.aw b ob e).iY (fun c w' hc q=>(hs.2 c ?_).trans q) (fun _ q=>q) fun _ _ q=>q;rintro rfl;rcases hc with rfl | hc;·rw [Ma] at e;cases e
  ·rw [Ma] at hc;cases hc
 rcases hx with hk | hk
 ·refine wpAny_storeName_local hk hn (fun h' Tu hs=>?_) Ts
  obtain ⟨oL,_,_,Tv,_⟩:=id hn;refine h _ ⟨I.ok,I.os,I.bare,⟨fun b o e n hb hx=>?_,fun b o e n hb hx=>?_,I.base.free,fun b o e hx=>?_,I.base.hE,I.base.iD,I.base.iE⟩,⟨_,Tu,fun j y v' e1 e2 e3=>?_⟩,fun y c e=>?_,I.free,I.j9,fun p hp=>?_,tracked ⟨oL,Tv,I.free⟩ hs,by simpa using I.len⟩ ⟨_,hs,.inl rfl⟩
  ·exact (hs.2 b (bZ (dQ (aU e) I.ok.above))).trans (I.base.keep b o e n hb hx)
  ·obtain ⟨sl,e1⟩:=I.base.slot b o e n hb hx
   exact ⟨sl,(hs.2 b (bZ (dQ (aU e) I.ok.above))).trans e1⟩
  ·obtain ⟨o',e1⟩:=I.base.there b o e hx
   exact ⟨o',(hs.2 b (bZ (dQ (aU e) I.ok.above))).trans e1⟩
  ·by_cases hj:j=i
   ·subst hj
    rw [hi] at e1;cases e1;rw [List.getElem?_set_self L_] at e2;cases e2;exact ⟨u,r,.inl ⟨hk,by simp⟩⟩
   ·rw [List.getElem?_set_ne (Ne.symm hj)] at e2
    obtain ⟨u',r',q⟩:=hl j y v' e1 e2 e3;refine ⟨u',r',?_⟩;rcases q with ⟨k,e⟩ | ⟨k,c,e,z⟩
    ·refine .inl ⟨k,?_⟩
     have:y≠x:=fun e=>hj (L9 hN e1 (e▸hi));simp [this,e]
    ·exact .inr ⟨k,c,e,z.sameBut hs (sP y c e)⟩
  ·obtain ⟨w',z⟩:=I.cell y c e
   exact ⟨w',z.sameBut hs (sP y c e)⟩
  ·obtain ⟨e,n,ne,nf,d⟩:=I.pin p hp
   exact ⟨(hs.2 p.1 ne).trans e,n,ne,nf,d⟩
 ·have GD:X.fn x=true:=by
   rcases hf with z | z;·exact z
   ·rw [z] at hk;cases hk
  obtain ⟨c,hc⟩:=I.ok.has x (.inl hk);obtain ⟨w',z⟩:=I.cell x c hc;refine wpAny_storeName_cell I.ok.kind hk hc z (fun h' dY hs=>?_);obtain ⟨oc,Mb,Tw⟩:=id z;refine h {s with heap:=h'} ⟨I.ok,I.os,I.bare,⟨fun b o e n hb hx=>?_,fun b o e n hb hx=>?_,I.base.free,fun b o e hx=>?_,I.base.hE,I.base.iD,I.base.iE⟩,⟨m,hn.sameBut hs (Ne.symm (sP x c hc)),fun j y v' e1 e2 e3=>?_⟩,fun y c' e=>?_,I.free,I.j9,fun p hp=>?_,tracked ⟨oc,Mb,I.j9 x c hc⟩ hs,by simpa using I.len⟩ ⟨c,hs,.inr hc⟩
  ·exact (hs.2 b (bZ (dQ (aU e) (I.ok.Ac x c GD hc)))).trans (I.base.keep b o e n hb hx)
  ·obtain ⟨sl,e1⟩:=I.base.slot b o e n hb hx
   exact ⟨sl,(hs.2 b (bZ (dQ (aU e) (I.ok.Ac x c GD hc)))).trans e1⟩
  ·obtain ⟨o',e1⟩:=I.base.there b o e hx
   exact ⟨o',(hs.2 b (bZ (dQ (aU e) (I.ok.Ac x c GD hc)))).trans e1⟩
  ·by_cases hj:j=i
   ·subst hj
    rw [hi] at e1;cases e1;rw [List.getElem?_set_self L_] at e2;cases e2;exact ⟨u,r,.inr ⟨.inl hk,c,hc,dY⟩⟩
   ·rw [List.getElem?_set_ne (Ne.symm hj)] at e2
    obtain ⟨u',r',q⟩:=hl j y v' e1 e2 e3;refine ⟨u',r',?_⟩;rcases q with q | ⟨k,c',e,z'⟩;·exact .inl q
    ·refine .inr ⟨k,c',e,z'.sameBut hs ?_⟩
     rintro rfl;exact hj (L9 hN e1 (I.ok.inj _ _ _ e hc▸hi))
  ·by_cases Ae:c'=c
   ·subst Ae;exact ⟨_,dY⟩
   ·obtain ⟨w2,z2⟩:=I.cell y c' e
    exact ⟨w2,z2.sameBut hs Ae⟩
  ·obtain ⟨e,n,ne,nf,d⟩:=I.pin p hp
   refine ⟨(hs.2 p.1 ?_).trans e,n,ne,nf,d⟩;intro q;rw [q,Mb] at e;have q':oc=p.2:=Option.some.inj e;exact d w' (by rw [←q'];exact Tw)
theorem Mc{v:V}(I:Inv X pins σ H s)(hN:X.N.Nodup)(hi:X.N[i]?=some x)(hx:Loc X.env.scope x)(r:RelV v u)
  (h:∀s',Inv X pins (σ.set i (some v)) H s'→Q () s') (hf:X.fn x=true∨X.env.scope.names.lookup x=some .local:=by first | exact .inl rfl | exact .inr rfl | assumption):wpAny M A (storeName X.env x u) Q E s:=
 GC I hN hi hx r (fun s' I' _=>h s' I') hf
theorem Inv.n_{s':Shared}(I:Inv X pins σ H s)(ho:s'.os=s.os)(u:Un (cY X.stack) ch H H' s.heap s'.heap)(aw:cR X.prog X.w H' s'.heap)(hg:AllBare s'.gens)
  (n6:∀b∈ch,(b∈X.ex∨X.s₀.heap.objs.size≤b)∧b≠X.env.locals∧(∀x c,X.env.cells.lookup x=some c→c≠b)∧∀p∈X.pn++pins,p.1≠b):Inv X pins σ H' s':=by
 obtain ⟨h',g',d',t',o'⟩:=s';have e:o'=s.os:=ho;subst e;exact I.call (g':=g') (t':=t') (d':=d') u aw hg n6
end
abbrev XK:=Value→Option Addr→Hp→Prop
abbrev St:=List (Option V)
abbrev VK:=V→Hp→Prop
abbrev TE:=St→Hp→VK→Prop
abbrev TT:=St→Hp→(Bool→Hp→Prop)→Prop
abbrev TA:=St→Hp→(List V→Hp→Prop)→Prop
structure Ends where
 nx:St→Hp→Prop
 rt:VK
 bk:St→Hp→Prop:=fun _ _=>False
 ct:St→Hp→Prop:=fun _ _=>False
abbrev TS:=Ends→St→Hp→Prop
def EP(X:Cx)(pins:aO)(σ:St)(Q:VK)(u:Value)(s':Shared):Prop:=∃v H',Inv X pins σ H' s'∧RelV v u∧Q v H'
def TP(X:Cx)(pins:aO)(σ:St)(Q:Bool→Hp→Prop)(b:Bool)(s':Shared):Prop:=∃H',Inv X pins σ H' s'∧Q b H'
def AP(X:Cx)(pins:aO)(σ:St)(Q:List V→Hp→Prop)(us:List Value)(s':Shared):Prop:=∃vs H',Inv X pins σ H' s'∧Vals vs us∧Q vs H'
def SP(X:Cx)(pins:aO)(D:Ends)(f:Flow)(s':Shared):Prop:=
 match f with
 | .next=>∃σ' H',Inv X pins σ' H' s'∧D.nx σ' H'
 | .brk=>∃σ' H',Inv X pins σ' H' s'∧D.bk σ' H'
 | .cont=>∃σ' H',Inv X pins σ' H' s'∧D.ct σ' H'
 | .ret u=>∃v σ' H',Inv X pins σ' H' s'∧RelV v u∧D.rt v H'
def PE(X:Cx)(e:Expr)(t:TE):Prop:=
 ∀(pins:aO) (s:Shared) (σ:St) (H:Hp) (Q:VK),Inv X pins σ H s→t σ H Q→wpAny (model X.prog X.w) X.A (eval e X.env) (EP X pins σ Q) X.xe s
def PT(X:Cx)(e:Expr)(t:TT):Prop:=
 ∀(pins:aO) (s:Shared) (σ:St) (H:Hp) (Q:Bool→Hp→Prop),Inv X pins σ H s→t σ H Q→wpAny (model X.prog X.w) X.A (isTrue e X.env (eval e X.env)) (TP X pins σ Q) X.xe s
def PW(X:Cx)(e:Expr)(t:TT):Prop:=
 ∀(whole:Sem Value) (pins:aO) (s:Shared) (σ:St) (H:Hp) (Q:Bool→Hp→Prop),Inv X pins σ H s→t σ H Q→wpAny (model X.prog X.w) X.A (isTrue e X.env whole) (TP X pins σ Q) X.xe s
variable {X:Cx}
theorem PW.pt{e:Expr}{t:TT}(h:PW X e t):PT X e t:=h _
def PA(X:Cx)(es:List Expr)(t:TA):Prop:=
 ∀(pos:Pos) (pins:aO) (s:Shared) (σ:St) (H:Hp) (Q:List V→Hp→Prop),Inv X pins σ H s→t σ H Q→wpAny (model X.prog X.w) X.A (spliced (backTo pos (starEach es X.env))) (AP X pins σ Q) X.xe s
def PS(X:Cx)(st:Stmt)(t:TS):Prop:=
 ∀(pins:aO) (s:Shared) (σ:St) (H:Hp) (D:Ends),Inv X pins σ H s→t D σ H→wpAny (model X.prog X.w) X.A (exec st X.env) (SP X pins D) X.xe s
def gE(X:Cx)(st:List Stmt)(t:TS):Prop:=
 ∀(pins:aO) (s:Shared) (σ:St) (H:Hp) (D:Ends),Inv X pins σ H s→t D σ H→wpAny (model X.prog X.w) X.A (execs st X.env) (SP X pins D) X.xe s
variable {M:Model} {A:Around} {E:aF} {s:Shared}
theorem aH{α:Type}{t:Sem α}{Q Q':α→Shared→Prop}(h:wpAny M A t Q E s)(hQ:∀a s,Q a s→Q' a s):wpAny M A t Q' E s:=b9 h hQ fun _ _ x=>x
section
variable {X:Cx}
variable {pins:aO} {σ:St}
theorem bin{a b:Expr}{ta tb:TE}(ha:PE X a ta)(hb:PE X b tb){R:V→V→Hp→Prop}(I:Inv X pins σ H s)(h:ta σ H fun x H1=>tb σ H1 fun y H2=>R x y H2)
  {α:Type} {Q:α→Shared→Prop} {f:Value→Value→Sem α}
  (hf:∀v u s2 x y H2,Inv X pins σ H2 s2→RelV x v→RelV y u→R x y H2→wpAny (model X.prog X.w) X.A (f v u) Q X.xe s2) :
  wpAny (model X.prog X.w) X.A (eval a X.env) (fun v s₁=>wpAny (model X.prog X.w) X.A (eval b X.env) (fun u s₂=>wpAny (model X.prog X.w) X.A (f v u) Q X.xe s₂) X.xe s₁) X.xe s:=by
 refine aH (ha pins s σ H _ I h) fun v s1 ⟨x,H1,I1,r1,q1⟩=>?_;refine aH (hb pins s1 σ H1 _ I1 q1) fun u s2 ⟨y,H2,I2,r2,q2⟩=>?_;exact hf v u s2 x y H2 I2 r1 r2 q2
def Md(i:Nat):TE:=fun σ H Q=>∃v,σ[i]?=some (some v)∧Q v H
def tC(v:V):TE:=fun _ H Q=>Q v H
variable {x:Str} {pos:Pos}
theorem Tx{i:Nat}(hN:X.N[i]?=some x)(hv:sO X.env.scope x)(hd:(x == ("__debug__":Str))=false:=by decide)(fE:(x == ("__classdict__":Str))=false:=by decide):PE X (.Name x pos) (Md i):=by
 intro pins s σ H Q I h;obtain ⟨v,e,h⟩:=h;obtain ⟨m,hn,hl⟩:=I.loc;obtain ⟨u,r,l⟩:=hl i x v hN e hv;have fin:EP X pins σ Q u s:=⟨v,H,I,r,h⟩;rcases l with ⟨hk,hm⟩ | ⟨hk,c,hc,pL⟩;·exact wpAny_Name (wpAny_loadName_local I.ok.kind hk hn hm fin) hd
 ·rcases hk with hk | hk
  ·exact wpAny_Name (wpAny_loadName_cell I.ok.kind hk hc pL fin) hd
  ·exact wpAny_Name (wpAny_loadName_free I.ok.kind hk hc pL fin fE) hd
theorem aW{i j pos}:PE X (.Constant (.int i) j pos) (tC (.int i)):=fun _ _ _ H _ I h=>wpAny_Constant_int ⟨.int i,H,I.tok _,⟨_,rfl⟩,h⟩
theorem jH{b j pos}:PE X (.Constant (.bool b) j pos) (tC (.bl b)):=fun _ _ _ H _ I h=>Constant_bool ⟨.bl b,H,I,rfl,h⟩
theorem wJ{j pos}:PE X (.Constant .none j pos) (tC .aI):=fun _ _ _ H _ I h=>Constant_none ⟨.aI,H,I,rfl,h⟩
theorem sQ{x j pos}:PE X (.Constant (.str x) j pos) (tC (.str x)):=fun _ _ _ H _ I h=>Calls.Constant_str ⟨.str x,H,I.tok _,⟨_,rfl⟩,h⟩
def Gl(X:Cx)(x:Str):Prop:=X.env.kindOf x=some .globalImplicit
variable {u:Value} {Q:aF}
theorem GF(I:Inv X pins σ H s)(hg:Gl X x)(hm:X.mg x=some u)(h:Q u s)
  (hd:(x == ("__debug__":Str))=false:=by decide):wpAny (model X.prog X.w) X.A (eval (.Name x pos) X.env) Q E s:=
 Calls.Name_function_global I.ok.kind hg (Calls.loadGlobal_global (by rw [I.ok.glob];exact I.mod.glob.keeps I.bk) hm h) hd
theorem kY(I:Inv X pins σ H s)(hg:Gl X x)(hm:X.mg x=none)(hv:bootBuiltins x=some u)(h:Q u s)
  (hn:x ≠ "__name__":=by decide) (hd:(x == ("__debug__":Str))=false:=by decide):wpAny (model X.prog X.w) X.A (eval (.Name x pos) X.env) Q E s:=by
 obtain ⟨mb,h1,h2⟩:=I.mod.blt;exact Calls.Name_function_global I.ok.kind hg (Calls.loadGlobal_builtin (by rw [I.ok.glob];exact I.mod.glob.keeps I.bk) hm (by rw [I.ok.blt];exact h1.keeps I.bk) ((h2 x hn).trans hv) h) hd
theorem Tz{v:V}(hg:Gl X x)(hm:X.mg x=some u)(r:RelV v u)(hd:(x == ("__debug__":Str))=false:=by decide):PE X (.Name x pos) (tC v):=
 fun _ _ _ H _ I h=>GF I hg hm ⟨v,H,I,r,h⟩ hd
theorem GG{v:V}(hg:Gl X x)(hm:X.mg x=none)(hv:bootBuiltins x=some u)(r:RelV v u)(hn:x ≠ "__name__":=by decide)(hd:(x == ("__debug__":Str))=false:=by decide):PE X (.Name x pos) (tC v):=
 fun _ _ _ H _ I h=>kY I hg hm hv ⟨v,H,I,r,h⟩ hn hd
variable {a b:Expr} {ta tb:TE} {pos:Pos}
def PC(X:Cx)(op:CmpOp)(a b:Expr)(t:TE):Prop:=
 ∀(pins:aO) (s:Shared) (σ:St) (H:Hp) (Q:VK),Inv X pins σ H s→t σ H Q→
  wpAny (model X.prog X.w) X.A (eval a X.env) (fun v s₁=>wpAny (model X.prog X.w) X.A (eval b X.env) (fun u s₂=>wpAny (model X.prog X.w) X.A (compareOp op v u) (EP X pins σ Q) X.xe s₂) X.xe s₁) X.xe s
def tB(t:TE):TT:=fun σ H Q=>t σ H fun x H1=>∃c,x=.bl c∧Q c H1
variable {op:CmpOp}
theorem TB{t:TE}(h:PC X op a b t)(h1:behindInMarks op b=false:=by first | exact TC _ (by decide) (by decide) | rfl):PE X (.Compare a [op] [b] pos) t:=fun pins s σ H Q I hw=>wpAny_Compare1 (h pins s σ H Q I hw) h1
theorem CM{t:TE}(h:PC X op a b t)(h1:behindInMarks op b=false:=by first | exact TC _ (by decide) (by decide) | rfl):PT X (.Compare a [op] [b] pos) (tB t):=by intro pins s σ H Q I hw;refine wpAny_isTrue_Compare1 (aH (h pins s σ H _ I hw) fun v s1 h1=>aH h1 fun u s2 h2=>aH h2 fun c s3 ⟨x,H1,I1,r1,q1⟩=>?_) h1;obtain ⟨d,rfl,q⟩:=q1;cases r1;exact qA ⟨H1,I1,q⟩
theorem sS{e:Expr}{t:TE}(h:PE X e t)(he:∀whole,isTrue e X.env whole=(do let v ←whole;standAt e.pos;holding [v] (truthy v)):=by intro _;rfl):PT X e (tB t):=by
 intro pins s σ H Q I hw
 refine isTrue_plain (aH (h pins s σ H _ I hw) fun v s1 ⟨x,H1,I1,r1,q1⟩=>?_) (he _)
 obtain ⟨d,rfl,q⟩:=q1
 cases r1
 exact qA ⟨H1,I1,q⟩
variable {tA Af:TT} {rest:List Expr}
def TF(t u:TT):TT:=fun σ H Q=>t σ H fun c H1=>if c=true then u σ H1 Q else Q false H1
def TH(t u:TT):TT:=fun σ H Q=>t σ H fun c H1=>if c=true then Q true H1 else u σ H1 Q
def Me(t:TT):TT:=fun σ H Q=>t σ H fun c H1=>Q (!c) H1
theorem pw_and1(ha:PT X a tA):PW X (.BoolOp .And [a] pos) tA:=by
 intro wh pins s σ H Q I h;refine isTrue_and (aH (ha pins s σ H Q I h) fun c s1 e=>?_);cases c with
 | true=>exact isTrue_and_nil e
 | false=>exact e
theorem pw_or1(ha:PT X a tA):PW X (.BoolOp .Or [a] pos) tA:=by
 intro wh pins s σ H Q I h;refine isTrue_or (aH (ha pins s σ H Q I h) fun c s1 e=>?_);cases c with
 | false=>exact isTrue_or_nil e
 | true=>exact e
theorem pw_and(ha:PT X a tA)(hb:PW X (.BoolOp .And (b::rest) pos) Af):PW X (.BoolOp .And (a::b::rest) pos) (TF tA Af):=by
 intro wh pins s σ H Q I h;refine isTrue_and (aH (ha pins s σ H _ I h) fun c s1 ⟨H1,I1,q1⟩=>?_);cases c with
 | true=>exact hb wh pins s1 σ H1 Q I1 q1
 | false=>exact ⟨H1,I1,q1⟩
theorem pw_or(ha:PT X a tA)(hb:PW X (.BoolOp .Or (b::rest) pos) Af):PW X (.BoolOp .Or (a::b::rest) pos) (TH tA Af):=by
 intro wh pins s σ H Q I h;refine isTrue_or (aH (ha pins s σ H _ I h) fun c s1 ⟨H1,I1,q1⟩=>?_);cases c with
 | true=>exact ⟨H1,I1,q1⟩
 | false=>exact hb wh pins s1 σ H1 Q I1 q1
theorem wK(ha:PT X a tA):PT X (.UnaryOp .Not a pos) (Me tA):=by intro pins s σ H Q I h;exact isTrue_not (ha pins s σ H (fun c H1=>Q (!c) H1) I h)
def TJ(ta tb:TE):TE:=fun σ H Q=>ta σ H fun x H1=>∃c,x=.bl c∧if c=true then tb σ H1 Q else Q (.bl false) H1
def TK(ta:TE):TE:=fun σ H Q=>ta σ H fun x H1=>∃c,x=.bl c∧Q (.bl (!c)) H1
theorem GH{op}{t:TE}(h:PE X a t):PE X (.BoolOp op [a] pos) t:=fun pins s σ H Q I hw=>BoolOp_one (h pins s σ H Q I hw)
theorem GI(ha:PE X a ta)(hb:PE X (.BoolOp .And (b::rest) pos) tb):PE X (.BoolOp .And (a::b::rest) pos) (TJ ta tb):=by
 intro pins s σ H Q I h;refine BoolOp_and (aH (ha pins s σ H _ I h) fun v s1 ⟨x,H1,I1,r1,q1⟩=>?_);obtain ⟨c,rfl,q1⟩:=q1;cases r1;refine qA ?_;cases c with
 | true=>exact hb pins s1 σ H1 Q I1 q1
 | false=>exact ⟨.bl false,H1,I1,rfl,q1⟩
theorem TL(ha:PE X a ta):PE X (.UnaryOp .Not a pos) (TK ta):=by intro pins s σ H Q I h;refine UnaryOp_ (aH (ha pins s σ H _ I h) fun v s1 ⟨x,H1,I1,r1,q1⟩=>?_);obtain ⟨c,rfl,q1⟩:=q1;cases r1;exact not_of (qA ⟨.bl (!c),H1,I1,rfl,q1⟩)
end
def a8(K:aD)(H:Hp)(a:Addr)(xs:List V):Prop:=
 Rd H a (.lst xs) ∨
  ∃(o:Obj) (its:Array Value) (n:Nat),K.lookup a=some o∧o.cls=.type "list"∧o.dict=none∧o.data=.seq its n∧its.size≤sizeLine∧Vals xs its.toList
def eK(K:aD)(H:Hp)(a:Addr)(xs:List V):Prop:=
 Rd H a (.tup xs) ∨
  ∃(o:Obj) (its:Array Value) (n:Nat),K.lookup a=some o∧o.cls=.type "tuple"∧o.data=.seq its n∧its.size≤sizeLine∧Vals xs its.toList
def TM:Value→Option V
 | .none=>some .aI
 | .bool b=>some (.bl b)
 | .int i _=>some (.int i)
 | .str x _=>some (.str x)
 | .bytes b _=>some (.j7 b)
 | .float b _=>some (.wx b)
 | .ref a=>some (.ref a)
 | .type n=>some (.ty n)
 | _=>none
variable {x:V} {u:Value}
theorem RelV.abs(r:RelV x u):TM u=some x:=by
 cases x with
 | aI=>cases r;rfl
 | bl _=>cases r;rfl
 | int _=>obtain ⟨t,rfl⟩:=r;rfl
 | str _=>obtain ⟨t,rfl⟩:=r;rfl
 | j7 _=>obtain ⟨t,rfl⟩:=r;rfl
 | wx _=>obtain ⟨t,rfl⟩:=r;rfl
 | ref _=>cases r;rfl
 | ty _=>cases r;rfl
theorem RelV.inj{y:V}(r:RelV x u)(q:RelV y u):x=y:=Option.some.inj (r.abs.symm.trans q.abs)
theorem Vals.inj:∀{xs ys:List V} {us:List Value},Vals xs us→Vals ys us→xs=ys
 | _,_,_,.nil,.nil=>rfl
 | _,_,_,.cons r t,.cons r' t'=>by rw [r.inj r',Vals.inj t t']
section
variable {X:Cx} {pins:aO} {σ:St} {H:Hp} {s:Shared} {a:Addr} {xs ys:List V}
variable {K:aD}
theorem a8.of(h:H a=some (.lst xs)):a8 K H a xs:=.inl (.inl h)
theorem eK.of(h:H a=some (.tup xs)):eK K H a xs:=.inl (.inl h)
theorem Inv.list(I:Inv X pins σ H s)(h:a8 X.K H a xs):∃its:List Value,Vals xs its∧PlainL s.heap a its.toArray∧xs.length≤sizeLine:=by
 rcases h with h | ⟨o,its,n,hk,hc,hd,hs,hz,r⟩
 ·obtain ⟨z,its,n,r,e⟩:=h.ok I.aw
  exact ⟨its,r,⟨_,n,e,rfl,rfl,rfl⟩,z⟩
 ·refine ⟨its.toList,r,⟨o,n,I.gq a o hk,hc,hd,by simpa using hs⟩,?_⟩
  have e:=r.length;simp only [fS] at e;lia
theorem Inv.tuple(I:Inv X pins σ H s)(h:eK X.K H a xs):∃its:List Value,Vals xs its∧IsTup s.heap a its.toArray∧xs.length≤sizeLine:=by
 rcases h with h | ⟨o,its,n,hk,hc,hs,hz,r⟩
 ·obtain ⟨z,its,r,p⟩:=h.ok I.aw
  exact ⟨its,r,p,z⟩
 ·refine ⟨its.toList,r,⟨o,I.gq a o hk,hc,n,by simpa using hs⟩,?_⟩
  have e:=r.length;simp only [fS] at e;lia
theorem Inv.CN(I:Inv X pins σ H s)(h:a8 X.K H a xs)(h':a8 X.K H a ys):xs=ys:=by
 obtain ⟨its,r,⟨o,n,e,_,_,d⟩,_⟩:=I.list h;obtain ⟨its',r',⟨o',n',e',_,_,d'⟩,_⟩:=I.list h';rw [e] at e';cases e';rw [d] at d';injection d' with d1 _;have:its=its':=by simpa using fv Array.toList d1
 subst this;exact r.inj r'
theorem Inv.TN(I:Inv X pins σ H s)(h:eK X.K H a xs)(h':eK X.K H a ys):xs=ys:=by
 obtain ⟨its,r,⟨o,e,_,n,d⟩,_⟩:=I.tuple h;obtain ⟨its',r',⟨o',e',_,n',d'⟩,_⟩:=I.tuple h';rw [e] at e';cases e';rw [d] at d';injection d' with d1 _;have:its=its':=by simpa using fv Array.toList d1
 subst this;exact r.inj r'
end
abbrev Cx.oi (X:Cx) (E:aF):Cx:={X with xe:=E}
abbrev Cx.pM (X:Cx):Cx:=X.oi fun _ _=>False
theorem Cx.Ok.oi(ok:X.Ok)(E:aF):(X.oi E).Ok:=
 ⟨ok.mod,ok.kind,ok.glob,ok.blt,ok.above,ok.inj,ok.has,ok.Ac,ok.hd,ok.frames,ok.j8,ok.L5,ok.bs,ok.jd,ok.qQ,ok.qR,ok.mJ,ok.qT⟩
theorem Cx.Ok.qV(ok:(X.oi E).Ok):X.Ok:=
 ⟨ok.mod,ok.kind,ok.glob,ok.blt,ok.above,ok.inj,ok.has,ok.Ac,ok.hd,ok.frames,ok.j8,ok.L5,ok.bs,ok.jd,ok.qQ,ok.qR,ok.mJ,ok.qT⟩
section
variable {X:Cx} {pins:aO} {σ:St} {H:Hp} {s:Shared} {E:aF}
theorem Inv.oi(I:Inv X pins σ H s)(E:aF):Inv (X.oi E) pins σ H s:=⟨I.ok.oi E,I.os,I.bare,I.base,I.loc,I.cell,I.free,I.j9,I.pin,I.aw,I.len⟩
theorem Inv.qV(I:Inv (X.oi E) pins σ H s):Inv X pins σ H s:=⟨I.ok.qV,I.os,I.bare,I.base,I.loc,I.cell,I.free,I.j9,I.pin,I.aw,I.len⟩
theorem SP.qV{D:Ends}{f:Flow}{s':Shared}(h:SP (X.oi E) pins D f s'):SP X pins D f s':=by
 cases f with
 | next=>obtain ⟨σ',H',I,q⟩:=h;exact ⟨σ',H',I.qV,q⟩
 | brk=>obtain ⟨σ',H',I,q⟩:=h;exact ⟨σ',H',I.qV,q⟩
 | cont=>obtain ⟨σ',H',I,q⟩:=h;exact ⟨σ',H',I.qV,q⟩
 | ret u=>obtain ⟨v,σ',H',I,r,q⟩:=h;exact ⟨v,σ',H',I.qV,r,q⟩
theorem gE.pM{st:List Stmt}{t:TS}(h:gE X.pM st t):gE X st t:=fun pins s σ H D I hw=>b9 (h pins s σ H D (I.oi _) hw) (fun _ _ q=>q.qV) fun _ _ z=>False.elim z
end
section
variable {X:Cx} {st:Stmt} {rest:List Stmt} {t u:TS} {e:Expr} {te:TE} {pos:Pos}
def qW:TS:=fun D σ H=>D.nx σ H
def GJ(t u:TS):TS:=fun D σ H=>t {D with nx:=u D} σ H
theorem fY:gE X [] qW:=fun _ _ σ H _ I h=>Cj ⟨σ,H,I,h⟩
theorem aC(h1:PS X st t)(h2:gE X rest u):gE X (st::rest) (GJ t u):=by
 intro pins s σ H D I h;refine wpAny_execs_cons (aH (h1 pins s σ H {D with nx:=u D} I h) fun f s1 q=>?_);cases f with
 | next=>obtain ⟨σ',H',I',q⟩:=q;exact h2 pins s1 σ' H' D I' q
 | ret v=>exact q
 | brk=>exact q
 | cont=>exact q
theorem aM(h1:PS X st t):gE X [st] t:=by
 intro pins s σ H D I h;refine wpAny_execs_cons (aH (h1 pins s σ H D I h) fun f s1 q=>?_);cases f with
 | next=>exact Cj q
 | ret v=>exact q
 | brk=>exact q
 | cont=>exact q
theorem Inv.quiet{pins:aO}{σ:St}(I:Inv X pins σ H s):interactive X.env=false:=by simp [interactive,I.ok.kind]
def TQ(te:TE):TS:=fun D σ H=>te σ H fun _ H1=>D.nx σ H1
theorem je(he:PE X e te)(hs:swapsWith e none pos.line X.env=pure false:=by rfl):PS X (.Expr e pos) (TQ te):=by intro pins s σ H D I h;exact wpAny_Expr_any (aH (he pins s σ H _ I h) fun v s1 ⟨x,H1,I1,r1,q1⟩=>⟨σ,H1,I1,q1⟩) I.quiet hs
def Mf(te:TE):TS:=fun D σ H=>te σ H D.rt
theorem cF(he:PE X e te):PS X (.Return (some e) pos) (Mf te):=by intro pins s σ H D I h;exact wpAny_Return_some (aH (he pins s σ H _ I h) fun v s1 ⟨x,H1,I1,r1,q1⟩=>⟨x,σ,H1,I1,r1,q1⟩)
def TR(c:TT)(t u:TS):TS:=fun D σ H=>c σ H fun b H1=>if b=true then t D σ H1 else u D σ H1
theorem fF{c:Expr}{a b:List Stmt}{tc:TT}(hc:PT X c tc)(ha:gE X a t)(hb:gE X b u):PS X (.If c a b pos) (TR tc t u):=by
 intro pins s σ H D I h;refine wpAny_If (aH (hc pins s σ H _ I h) fun d s1 ⟨H1,I1,q1⟩=>?_);cases d with
 | true=>exact ha pins s1 σ H1 D I1 q1
 | false=>exact hb pins s1 σ H1 D I1 q1
end
abbrev TG:=V→St→Hp→(St→Hp→Prop)→Prop
abbrev sU:=List V→St→Hp→(St→Hp→Prop)→Prop
def PG(X:Cx)(target:Expr)(t:TG):Prop:=
 ∀(pins:aO) (s:Shared) (σ:St) (H:Hp) (v:V) (u:Value) (Q:St→Hp→Prop),Inv X pins σ H s→RelV v u→t v σ H Q→
  wpAny (model X.prog X.w) X.A (assign target X.env u) (fun _ s'=>∃σ' H',Inv X pins σ' H' s'∧Q σ' H') X.xe s
def CO(X:Cx)(ts:List Expr)(t:sU):Prop:=
 ∀(pins:aO) (s:Shared) (σ:St) (H:Hp) (vs:List V) (us:List Value) (Q:St→Hp→Prop),Inv X pins σ H s→Vals vs us→t vs σ H Q→
  wpAny (model X.prog X.w) X.A (assignInOrder ((assignEach ts X.env).map (·.2)) us) (fun _ s'=>∃σ' H',Inv X pins σ' H' s'∧Q σ' H') X.xe s
abbrev Ag:=V→V→V→Hp→(Hp→Prop)→Prop
def GK(X:Cx)(t:Ag):Prop:=
 ∀(pins:aO) (s:Shared) (σ:St) (H:Hp) (o i v:V) (ov iv u:Value) (Q:Hp→Prop),Inv X pins σ H s→RelV o ov→RelV i iv→RelV v u→t o i v H Q→
  wpAny (model X.prog X.w) X.A (setItem ov iv u) (fun _ s'=>∃H',Inv X pins σ H' s'∧Q H') X.xe s
abbrev CP:=V→V→Hp→VK→Prop
def Mg(X:Cx)(op:Operator)(t:CP):Prop:=
 ∀(pins:aO) (s:Shared) (σ:St) (H:Hp) (x y:V) (v u:Value) (Q:VK),Inv X pins σ H s→RelV x v→RelV y u→t x y H Q→
  wpAny (model X.prog X.w) X.A (inplaceOp op v u) (EP X pins σ Q) X.xe s
section
variable {X:Cx} {pos:Pos}
def aQ(i:Nat):TG:=fun v σ H Q=>Q (σ.set i (some v)) H
variable {i:Nat}
theorem dy{x:Str}(hN:X.N.Nodup)(hi:X.N[i]?=some x)(hx:Loc X.env.scope x)(hf:X.fn x=true∨X.env.scope.names.lookup x=some .local:=by first | exact .inl rfl | exact .inr rfl | assumption):PG X (.Name x pos) (aQ i):=by intro pins s σ H v u Q I r h;exact wpAny_assign_Name (Mc I hN hi hx r (fun s' I'=>⟨_,H,I',h⟩) hf)
def GL:sU:=fun vs σ H Q=>vs=[]∧Q σ H
def Ah(t:TG)(u:sU):sU:=fun vs σ H Q=>∃v r,vs=v::r∧t v σ H fun σ' H'=>u r σ' H' Q
theorem sV:CO X [] GL:=by intro pins s σ H vs us Q I r h;obtain ⟨e,h⟩:=h;subst e;cases r;exact assignInOrder_nil ⟨σ,H,I,h⟩
variable {e:Expr} {es:List Expr}
theorem jI{t:TG}{u:sU}(h1:PG X e t)(h2:CO X es u)
  (hs:(assignEach (e::es) X.env).map (·.2)=assign e X.env::(assignEach es X.env).map (·.2):=by rfl):CO X (e::es) (Ah t u):=by
 intro pins s σ H vs us Q I r h;obtain ⟨v,vr,e1,h⟩:=h;subst e1;cases r with
 | cons r rr=>rw [hs];refine assignInOrder_cons (aH (h1 pins s σ H _ _ _ I r h) fun _ s1 ⟨σ1,H1,I1,q1⟩=>?_);exact h2 pins s1 σ1 H1 _ _ Q I1 rr q1
def GN(K:aD)(n:Nat)(t:sU):TG:=fun v σ H Q=>∃a xs,v=.ref a∧eK K H a xs∧xs.length=n∧t xs σ H Q
theorem sW{k:Nat}{t:sU}{n:Nat}(hc:X.calm=true)(h:CO X es t)
  (hn:(assignEach es X.env).length=n:=by rfl) (TU:(assignEach es X.env).findIdx? (·.1)=none:=by rfl):PG X (.Tuple es k pos) (GN X.K n t):=by
 intro pins s σ H v u Q I r hw;obtain ⟨a,xs,e1,hq,hl,hw⟩:=hw;subst e1;cases r;obtain ⟨its,rv,ht,hz⟩:=I.tuple hq;refine assign_Tuple_tuple (I.ok.hd hc) ht (by simp [hn,←hl,rv.length]) TU fun h' hx=>?_
 have I1:Inv X pins σ H {s with heap:=h'}:=I.kept (t':=s.toks) fun b o e=>hx b o (bZ (aU e)) e;exact h pins _ σ H xs _ Q I1 (by simpa using rv) hw
def TV(to ti:TE)(t:Ag):TG:=fun v σ H Q=>to σ H fun o H1=>ti σ H1 fun i H2=>t o i v H2 fun H3=>Q σ H3
theorem Ai{o i:Expr}{to ti:TE}{t:Ag}(ho:PE X o to)(hi:PE X i ti)(hs:GK X t)
  (ha:∀v,assign (.Subscript o i pos) X.env v=(do
   let ov ←holding [v] (eval o X.env)
   let iv ←holding [v,ov] (eval i X.env)
   standAt pos
   holding [v,ov,iv] (setItem ov iv v)
   release [v,ov,iv] []):=by intro _;rfl):PG X (.Subscript o i pos) (TV to ti t):=by
 intro pins s σ H v u Q I r h
 rw [ha]
 refine ax (mf (aH (ho pins s σ H _ I h) fun ov s1 ⟨x,H1,I1,r1,q1⟩=>?_))
 refine ax (mf (aH (hi pins s1 σ H1 _ I1 q1) fun iv s2 ⟨y,H2,I2,r2,q2⟩=>?_))
 refine ax (o_ (ax (mf (aH (hs pins s2 σ H2 x y v ov iv u _ I2 r1 r2 r q2) fun _ s3 ⟨H3,I3,q3⟩=>?_))))
 exact wpAny_release ⟨σ,H3,I3,q3⟩
def qX(te:TE)(g:TG):TS:=fun D σ H=>te σ H fun x H1=>g x σ H1 D.nx
theorem wM{tg e:Expr}{te:TE}{g:TG}(he:PE X e te)(hg:PG X tg g)(hs:swapsWithSole [tg] e pos.line X.env=pure false:=by rfl)(hw:swappedStores [tg] e X.env=pure none:=by rfl)
  (h1:(assignEach [tg] X.env).map (·.2)=[assign tg X.env]:=by rfl):PS X (.Assign [tg] e pos) (qX te g):=by
 intro pins s σ H D I h;refine wpAny_Assign_stores (aH (he pins s σ H _ I h) fun v s1 ⟨x,H1,I1,r1,q1⟩=>?_) hs hw;rw [h1];exact aH (hg pins s1 σ H1 x v _ I1 r1 q1) fun _ s2 q=>q
theorem TY{x:Str}{te:TE}{pos':Pos}(hN:X.N.Nodup)(hi:X.N[i]?=some x)(hx:Loc X.env.scope x)(he:PE X e te)(hs:swapsWith e (some (.Name x pos')) pos.line X.env=pure false:=by rfl)(hf:X.fn x=true∨X.env.scope.names.lookup x=some .local:=by first | exact .inl rfl | exact .inr rfl | assumption) :
  PS X (.Assign [.Name x pos'] e pos) (qX te (aQ i)):=by
 intro pins s σ H D I h;refine wpAny_Assign_Name (aH (he pins s σ H _ I h) fun v s1 ⟨y,H1,I1,r1,q1⟩=>?_) hs;exact Mc I1 hN hi hx r1 (fun s2 I2=>⟨_,H1,I2,q1⟩) hf
def TZ(to ti te:TE)(CQ:V→V→Hp→VK→Prop)(CS:CP)(CT:Ag):TS:=fun D σ H=>to σ H fun o H1=>ti σ H1 fun i H2=>CQ o i H2 fun x H3=>te σ H3 fun y H4=>CS x y H4 fun z H5=>CT o i z H5 fun H6=>D.nx σ H6
def Mh(X:Cx)(t:V→V→Hp→VK→Prop):Prop:=
 ∀(pins:aO) (s:Shared) (σ:St) (H:Hp) (o i:V) (ov iv:Value) (Q:VK),Inv X pins σ H s→RelV o ov→RelV i iv→t o i H Q→
  wpAny (model X.prog X.w) X.A (getItem ov iv) (EP X pins σ Q) X.xe s
theorem T1{o i e:Expr}{to ti te:TE}{CQ:V→V→Hp→VK→Prop}{CS:CP}{CT:Ag}{op:Operator}{qY:Pos}(ho:PE X o to)(hi:PE X i ti)(hg:Mh X CQ)(he:PE X e te)(hp:Mg X op CS)(hs:GK X CT)
  (ha:∀ov iv new,augStore i ov iv new=(do holding [new,ov,iv] (setItem ov iv new);release [new,ov,iv] [];pure .next):=by intros;rfl):PS X (.AugAssign (.Subscript o i qY) op e pos) (TZ to ti te CQ CS CT):=by
 intro pins s σ H D I h
 refine wpAny_AugAssign_SubscriptAny (aH (ho pins s σ H _ I h) fun ov s1 ⟨x1,H1,I1,r1,q1⟩=>?_) ha
 refine aH (hi pins s1 σ H1 _ I1 q1) fun iv s2 ⟨x2,H2,I2,r2,q2⟩=>?_
 refine aH (hg pins s2 σ H2 x1 x2 ov iv _ I2 r1 r2 q2) fun old s3 ⟨x3,H3,I3,r3,q3⟩=>?_
 refine aH (he pins s3 σ H3 _ I3 q3) fun v s4 ⟨x4,H4,I4,r4,q4⟩=>?_
 refine aH (hp pins s4 σ H4 x3 x4 old v _ I4 r3 r4 q4) fun new s5 ⟨x5,H5,I5,r5,q5⟩=>?_
 exact aH (hs pins s5 σ H5 x1 x2 x5 ov iv new _ I5 r1 r2 r5 q5) fun _ s6 ⟨H6,I6,q6⟩=>⟨σ,H6,I6,q6⟩
def T2(f:Int→Int→Int):CP:=fun x y H Q=>∃i j,x=.int i∧y=.int j∧Q (.int (f i j)) H
theorem T3:Mg X .Add (T2 fun i j=>i+j):=by intro pins s σ H x y v u Q I r1 r2 h;obtain ⟨i,j,e1,e2,q⟩:=h;subst e1;subst e2;obtain ⟨t,rfl⟩:=r1;obtain ⟨t',rfl⟩:=r2;exact iadd_int ⟨.int _,H,I.tok _,⟨_,rfl⟩,q⟩
end
section
variable {X:Cx} {pos:Pos}
def T5(c:TT)(tb:TS):TS:=fun D σ H=>∃W:Nat→St→Hp→Prop,(∃m,W m σ H)∧∀m σ H,W m σ H→
 c σ H fun b H1=>if b=true then ∃N:St→Hp→Prop,(∀σ' H',N σ' H'→∃m',m'<m∧W m' σ' H')∧tb {D with nx:=N,ct:=N,bk:=D.nx} σ H1 else D.nx σ H1
theorem wN{c:Expr}{body:List Stmt}{tc:TT}{tb:TS}(hp:PassesOwn (model X.prog X.w) X.A X.env X.xe)(hc:PT X c tc)(hb:gE X body tb):PS X (.While c body [] pos) (T5 tc tb):=by
 intro pins s σ H D I h;obtain ⟨W,⟨m0,w0⟩,turn⟩:=h;refine wpAny_While (codeAny_whileLoop (fun n s'=>∃σ' H',Inv X pins σ' H' s'∧W n σ' H') ?_ m0 ⟨σ,H,I,w0⟩);rintro n s1 ⟨σ1,H1,I1,w1⟩;refine sq hp (aH (hc pins s1 σ1 H1 _ I1 (turn n σ1 H1 w1)) fun b s2 ⟨H2,I2,q2⟩=>?_);cases b with
 | true=>
  obtain ⟨N,hN,q2⟩:=q2;rw [ae rfl];refine sq hp (aH (hb pins s2 σ1 H2 _ I2 q2) fun f s3 q3=>?_);cases f with
  | next=>obtain ⟨σ3,H3,I3,n3⟩:=q3;obtain ⟨m',hm,w3⟩:=hN σ3 H3 n3;exact ⟨m',hm,σ3,H3,I3,w3⟩
  | cont=>obtain ⟨σ3,H3,I3,n3⟩:=q3;obtain ⟨m',hm,w3⟩:=hN σ3 H3 n3;exact ⟨m',hm,σ3,H3,I3,w3⟩
  | brk=>exact q3
  | ret v=>exact q3
 | false=>rw [aa dR];exact Cj ⟨σ1,H2,I2,q2⟩
end
structure It where
 go:Nat→Hp→Prop
 dZ:Nat→Hp→V→Hp→Prop
 stop:Nat→Hp→Prop
def oj(X:Cx)(pins:aO)(H:Hp)(b:Addr):Prop:=
 H b=none∧b≠X.env.locals∧b∉X.fs∧(b∈X.ex∨X.s₀.heap.objs.size≤b)∧(∀x c,X.env.cells.lookup x=some c→c≠b)∧∀p∈X.pn++pins,p.1≠b
variable {σ:St}
theorem Inv.wO{pins:aO}{H':Hp}(I:Inv X pins σ H s)(hb:s.heap.objs.size≤b)(hn:H' b=none):oj X pins H' b:=by
 refine ⟨hn,Nat.ne_of_gt (dQ I.lt hb),I.Tq hb,.inr (bU I.sz hb),fun x c e z=>?_,fun p hp z=>?_⟩
 ·obtain ⟨v,q⟩:=I.cell x c e
  exact absurd (dQ q.lt (by rw [z];exact hb)) (d6 _)
 ·exact absurd (dQ (aU (I.pin p hp).1) (by rw [z];exact hb)) (d6 _)
structure Turn (P:Program) (w:World) (K:aD) (tg:Expr) (J:It) (fp:List Addr) (it:Addr) (tn:Nat→Heap→Prop):Prop where
 mem:it∈fp
 obj:∀i h,tn i h→∀b∈fp,∃o,h.get? b=some o∧∀v,o.data≠.cell v
 keep:∀i h h',tn i h→(∀b∈fp,∀o,h.get? b=some o→h'.get? b=some o)→tn i h'
 item:∀(X:Cx),X.prog=P→X.w=w→X.K=K→X.calm=true→∀(i:Nat) (pins:aO) (s:Shared) (σ:St) (H:Hp) (E:aF),Inv X pins σ H s→(∀b∈fp,oj X pins H b)→tn i s.heap→J.go i H→
  wpAny (model P w) X.A (pyNext (.ref it)) (fun r s1=>∃u,r=some u ∧
   wpAny (model P w) X.A (letOwnedTupleGo tg (.ref it) u) (fun _ s2=>∃x H',Inv X pins σ H' s2∧RelV x u∧J.dZ i H x H'∧tn (i+1) s2.heap∧∀b∈fp,H' b=none) E s1) E s
 done:∀(X:Cx),X.prog=P→X.w=w→X.K=K→X.calm=true→∀(i:Nat) (pins:aO) (s:Shared) (σ:St) (H:Hp) (E:aF),Inv X pins σ H s→(∀b∈fp,oj X pins H b)→tn i s.heap→J.stop i H→
  wpAny (model P w) X.A (pyNext (.ref it)) (fun r s1=>r=none∧Inv X pins σ H s1) E s
 self:∀(A:Around) (i:Nat) (s:Shared) (Q:aF) (E:aF),tn i s.heap→Q (.ref it) s→wpAny (model P w) A (pyIter (.ref it)) Q E s
abbrev TI:=St→Hp→(It→Hp→Prop)→Prop
def GO(X:Cx)(pins:aO)(σ:St)(tg:Expr)(R:It→Hp→Prop)(wQ:Value)(s2:Shared):Prop:=
 ∃(it:Addr) (fp:List Addr) (tn:Nat→Heap→Prop) (J:It) (H':Hp),wQ=.ref it∧Inv X pins σ H' s2∧Turn X.prog X.w X.K tg J fp it tn∧tn 0 s2.heap∧(∀b∈fp,oj X pins H' b)∧R J H'
def PI(X:Cx)(tg iter:Expr)(wi:TI):Prop:=
 ∀(pins:aO) (s:Shared) (σ:St) (H:Hp) (R:It→Hp→Prop),Inv X pins σ H s→wi σ H R→
  wpAny (model X.prog X.w) X.A (eval iter X.env) (fun v s1=>wpAny (model X.prog X.w) X.A (pyIter v) (GO X pins σ tg R) X.xe s1) X.xe s
variable {tg:Expr}
theorem CU{it:Addr}{o:Obj}{n:String}{vs:Array Value}{Q:Unit→Shared→Prop}(ho:s.heap.get? it=some o)(hc:o.cls=.type n)(hd:o.data=.fields vs)
    (hn:["enumerate","zip","dict_itemiterator","dict_reverseitemiterator","odict_iterator","itertools.zip_longest","itertools.pairwise"].contains n=false) (hQ:Q () s):wpAny M A (letOwnedTupleGo tg (.ref it) u) Q E s:=by
  unfold letOwnedTupleGo
  cases tg <;> first
    | exact bJ hQ
    | (cases u <;> first
        | exact bJ hQ
        | (refine ax (wpAny_load ho ?_)
           rw [hc,hd];show wpAny M A (if (["enumerate","zip","dict_itemiterator","dict_reverseitemiterator","odict_iterator","itertools.zip_longest","itertools.pairwise"].contains n && vs[0]? == some (rawInt _))=true then _ else _) Q E s
           rw [aa (by intro h;rw [hn,Bool.false_and] at h;cases h)]
           exact bJ hQ))
def pO(K:aD)(a:Addr):It:=
 ⟨fun i H=>∃xs x,a8 K H a xs∧xs[i]?=some x,fun i H x H'=>H'=H∧∀xs,a8 K H a xs→xs[i]?=some x,fun i H=>∃xs,a8 K H a xs∧xs.length≤i⟩
def Aj(K:aD)(a:Addr):It:=
 ⟨fun i H=>∃xs x,eK K H a xs∧xs[i]?=some x,fun i H x H'=>H'=H∧∀xs,eK K H a xs→xs[i]?=some x,fun i H=>∃xs,eK K H a xs∧xs.length≤i⟩
def qZ(lo:Int)(n:Nat):It:=⟨fun i _=>i<n,fun i H x H'=>H'=H∧x=.int (lo+i),fun i _=>n≤i⟩
variable {K:aD}
theorem T6(a it:Addr):Turn P w K tg (pO K a) [it] it (fun i h=>h.IsListIter it a i) where
 mem:=by simp
 obj:=fun i h st b hb=>by
  have e:b=it:=by simpa using hb
  subst e;obtain ⟨o,e,c,d⟩:=st;exact ⟨o,e,fun v z=>by rw [d] at z;cases z⟩
 keep:=fun i h h' st k=>st.at fun o e=>k it (by simp) o e
 item:=by
  intro X hP hw hK hc i pins s σ H E I hf st hg;subst hP hw hK;obtain ⟨xs,x,hq,hx⟩:=hg;obtain ⟨its,rv,p,hz⟩:=I.list hq;obtain ⟨u,hu,ru⟩:=rv.get hx;obtain ⟨f0,f1,f2,f3,f4,f5⟩:=hf it (by simp)
  refine wpAny_pyNext_list_item st p.isList (x:=u) (by simpa using hu) fun h' av sb=>?_
  have I1:Inv X pins σ H {s with heap:=h'}:=I.turned (t':=s.toks) (fun b o hb e=>(sb.2 b hb).trans e) f0 f1 f3 f4 f5;obtain ⟨o,e,c,d⟩:=id av;exact ⟨u,rfl,CU (s:={s with heap:=h'}) e c d (by decide) ⟨x,H,I1,ru,⟨rfl,fun ys hy=>by rw [I.CN hy hq];exact hx⟩,av,fun b hb=>(hf b hb).1⟩⟩
 done:=by
  intro X hP hw hK hc i pins s σ H E I hf st hg;subst hP hw hK;obtain ⟨xs,hq,hx⟩:=hg;obtain ⟨its,rv,p,hz⟩:=I.list hq;obtain ⟨f0,f1,f2,f3,f4,f5⟩:=hf it (by simp)
  have hl:=rv.length;exact wpAny_pyNext_list_end (I.ok.hd hc) st p.isList (by simp;lia) fun h' eb=>⟨rfl,I.turned (t':=s.toks) (fun b o hb e=>eb b o hb e) f0 f1 f3 f4 f5⟩
 self:=fun _ _ _ _ _ st h=>wpAny_pyIter_listiter st h
theorem T7(a it:Addr):Turn P w K tg (Aj K a) [it] it (fun i h=>h.IsTupleIter it a i) where
 mem:=by simp
 obj:=fun i h st b hb=>by
  have e:b=it:=by simpa using hb
  subst e;obtain ⟨o,e,c,d⟩:=st;exact ⟨o,e,fun v z=>by rw [d] at z;cases z⟩
 keep:=fun i h h' st k=>st.at fun o e=>k it (by simp) o e
 item:=by
  intro X hP hw hK hc i pins s σ H E I hf st hg;subst hP hw hK;obtain ⟨xs,x,hq,hx⟩:=hg;obtain ⟨its,rv,p,hz⟩:=I.tuple hq;obtain ⟨u,hu,ru⟩:=rv.get hx;obtain ⟨f0,f1,f2,f3,f4,f5⟩:=hf it (by simp)
  refine wpAny_pyNext_tuple_item st (show s.heap.IsTuple a its.toArray from p) (x:=u) (by simpa using hu) fun h' av sb=>?_
  have I1:Inv X pins σ H {s with heap:=h'}:=I.turned (t':=s.toks) (fun b o hb e=>(sb.2 b hb).trans e) f0 f1 f3 f4 f5;obtain ⟨o,e,c,d⟩:=id av;exact ⟨u,rfl,CU (s:={s with heap:=h'}) e c d (by decide) ⟨x,H,I1,ru,⟨rfl,fun ys hy=>by rw [I.TN hy hq];exact hx⟩,av,fun b hb=>(hf b hb).1⟩⟩
 done:=by
  intro X hP hw hK hc i pins s σ H E I hf st hg;subst hP hw hK;obtain ⟨xs,hq,hx⟩:=hg;obtain ⟨its,rv,p,hz⟩:=I.tuple hq;obtain ⟨f0,f1,f2,f3,f4,f5⟩:=hf it (by simp)
  have hl:=rv.length;exact wpAny_pyNext_tuple_end (I.ok.hd hc) st (show s.heap.IsTuple a its.toArray from p) (by simp;lia) fun h' eb=>⟨rfl,I.turned (t':=s.toks) (fun b o hb e=>eb b o hb e) f0 f1 f3 f4 f5⟩
 self:=fun _ _ _ _ _ st h=>wpAny_pyIter_tupleiter st h
theorem T8(it:Addr)(lo:Int)(n:Nat):Turn P w K tg (qZ lo n) [it] it (fun i h=>IsRangeIter h it (lo+(i:Nat)*1) ((n:Int)-(i:Nat)) 1) where
 mem:=by simp
 obj:=fun i h st b hb=>by
  have e:b=it:=by simpa using hb
  subst e;exact ⟨_,st,fun v z=>by have z':Data.fields _=Data.cell v:=z;cases z'⟩
 keep:=fun i h h' st k=>k it (by simp) _ st
 item:=by
  intro X hP hw hK hc i pins s σ H E I hf st hg;subst hP hw hK;obtain ⟨f0,f1,f2,f3,f4,f5⟩:=hf it (by simp)
  have W:=Walks.range (prog:=X.prog) (w:=X.w) (I.ok.hd hc) it lo 1 n;refine W.item i s _ _ hg st fun v h' tk hv av kk=>?_;obtain ⟨t,rfl⟩:=hv;have I1:Inv X pins σ H {s with heap:=h',toks:=tk}:=I.turned (fun b o hb e=>kk b o (by simpa using hb) e) f0 f1 f3 f4 f5
  refine ⟨_,rfl,CU (s:={s with heap:=h',toks:=tk}) (n:="range_iterator") av rfl rfl (by decide) ⟨.int (lo+i),H,I1,⟨t,?_⟩,⟨rfl,rfl⟩,av,fun b hb=>(hf b hb).1⟩⟩
  rw [Int.mul_one]
 done:=by
  intro X hP hw hK hc i pins s σ H E I hf st hg;subst hP hw hK;obtain ⟨f0,f1,f2,f3,f4,f5⟩:=hf it (by simp)
  exact wpAny_pyNext_range_end (I.ok.hd hc) st (by have:n≤i:=hg;lia) fun h' eb=>⟨rfl,I.turned (t':=s.toks) (fun b o hb e=>eb b o hb e) f0 f1 f3 f4 f5⟩
 self:=fun _ _ _ _ _ st h=>wpAny_pyIter_rangeiter st h
section
variable {X:Cx} {tg:Expr}
def T9(K:aD)(tl:TE):TI:=fun σ H R=>tl σ H fun x H1=>∃a,x=.ref a∧(∃xs,a8 K H1 a xs)∧R (pO K a) H1
def T_(K:aD)(tl:TE):TI:=fun σ H R=>tl σ H fun x H1=>∃a,x=.ref a∧(∃xs,eK K H1 a xs)∧R (Aj K a) H1
variable {l:Expr} {tl:TE}
theorem eX(hl:PE X l tl):PI X tg l (T9 X.K tl):=by
 intro pins s σ H R I h;refine aH (hl pins s σ H _ I h) fun v s1 ⟨x,H1,I1,r1,q1⟩=>?_;obtain ⟨a,e,⟨xs,hq⟩,q⟩:=q1;subst e;cases r1;obtain ⟨its,rv,p,hz⟩:=I1.list hq;refine Ck p.isList ?_;refine ⟨s1.heap.objs.size,[s1.heap.objs.size],_,_,H1,rfl,I1.kept (t':=s1.toks) fun b o e=>b_ _ e,T6 a _,⟨_,eh _ rfl,rfl,rfl⟩,fun b hb=>?_,q⟩;have e:b=s1.heap.objs.size:=by simpa using hb
 subst e;exact I1.wO (au _) (I1.aw.fresh (au _))
theorem Ua(hl:PE X l tl):PI X tg l (T_ X.K tl):=by
 intro pins s σ H R I h;refine aH (hl pins s σ H _ I h) fun v s1 ⟨x,H1,I1,r1,q1⟩=>?_;obtain ⟨a,e,⟨xs,hq⟩,q⟩:=q1;subst e;cases r1;obtain ⟨its,rv,p,hz⟩:=I1.tuple hq;refine wpAny_pyIter_tuple (show s1.heap.IsTuple a its.toArray from p) ?_;refine ⟨s1.heap.objs.size,[s1.heap.objs.size],_,_,H1,rfl,I1.kept (t':=s1.toks) fun b o e=>b_ _ e,T7 a _,⟨_,eh _ rfl,rfl,rfl⟩,fun b hb=>?_,q⟩;have e:b=s1.heap.objs.size:=by simpa using hb
 subst e;exact I1.wO (au _) (I1.aw.fresh (au _))
variable {pins:aO}
theorem Ub{R:It→Hp→Prop}{lo hi:Int}{t u v:Tok}{tk:Nat}(I:Inv X pins σ H s)(h1:-(2 ^ 62)≤lo)(h2:lo<2 ^ 62)(h3:-(2 ^ 62)≤hi)(h4:hi<2 ^ 62)
  (q:R (qZ lo (hi-lo).toNat) H):wpAny (model X.prog X.w) X.A (pyIter (.ref s.heap.objs.size)) (GO X pins σ tg R) E {s with heap:=s.heap.push {cls:=.type "range",data:=.fields #[.int lo t,.int hi u,.int 1 v]},toks:=tk}:=by
 refine wpAny_pyIter_range (IsRange.new ..) (small_one h1 h2 h3 h4) ?_;have I1:Inv X pins σ H {s with heap:=s.heap.push {cls:=.type "range",data:=.fields #[.int lo t,.int hi u,.int 1 v]},toks:=tk}:=I.kept fun b o e=>b_ _ e
 refine ⟨(s.heap.push {cls:=.type "range",data:=.fields #[.int lo t,.int hi u,.int 1 v]}).objs.size,[(s.heap.push {cls:=.type "range",data:=.fields #[.int lo t,.int hi u,.int 1 v]}).objs.size],_,_,H,rfl,
  I1.kept (t':=tk) fun b o e=>b_ _ e,T8 _ lo (hi-lo).toNat,?_,fun b hb=>?_,q⟩
 ·have e1:lo+((0:Nat):Int)*1=lo:=by simp
  have e2:(((hi-lo).toNat:Nat):Int)-((0:Nat):Int)=Builtin.Range.rangeSize lo hi 1:=by rw [rangeSize_one];split <;> lia
  show IsRangeIter _ _ (lo+((0:Nat):Int)*1) ((((hi-lo).toNat:Nat):Int)-((0:Nat):Int)) 1;rw [e1,e2];exact eh _ rfl
 ·have e:b=(s.heap.push {cls:=.type "range",data:=.fields #[.int lo t,.int hi u,.int 1 v]}).objs.size:=by simpa using hb
  subst e;exact I1.wO (au _) (I1.aw.fresh (au _))
def Uc(ta:TA):TI:=fun σ H R=>ta σ H fun vs H1=>∃j:Int,vs=[.int j]∧-(2 ^ 62)≤j∧j<2 ^ 62∧R (qZ 0 j.toNat) H1
variable {pos:Pos}
theorem sY{a:Expr}{ta:TA}{p:Pos}(hg:Gl X "range")(hm:X.mg "range"=none)(ha:PA X [a] ta)(hs:starEach [a] X.env=[(false,eval a X.env)]:=by rfl):PI X tg (.Call (.Name "range" p) [a] [] pos) (Uc ta):=by
 intro pins s σ H R I h;refine Call_ (kY I hg hm boot_range (zM (aH (ha pos pins s σ H _ I h) fun us s1 ⟨vs,H1,I1,r1,q1⟩=>?_) hs rfl));obtain ⟨j,e,q1,q2,q⟩:=q1;subst e;cases r1 with
 | cons r rr=>cases rr;obtain ⟨t,rfl⟩:=r;exact call_range_1 (Ub I1 (by lia) (by lia) q1 q2 (by simpa using q))
def Ud(wi:TI)(g:TG)(tb:TS):TS:=fun D σ H=>wi σ H fun J H1=>∃W:Nat→Nat→St→Hp→Prop,(∃m,W 0 m σ H1)∧∀i m σ H,W i m σ H→
 (J.stop i H∧D.nx σ H)∨(J.go i H∧∃N:St→Hp→Prop,(∀σ' H',N σ' H'→∃m',m'<m∧W (i+1) m' σ' H')∧∀x H',J.dZ i H x H'→g x σ H' fun σ2 H2=>tb {D with nx:=N,ct:=N,bk:=D.nx} σ2 H2)
def kZ(fp:List Addr)(h:Heap):List (Addr×Obj):=fp.filterMap fun b=>(h.get? b).map fun o=>(b,o)
variable {fp:List Addr}
theorem om{o:Obj}(hb:b∈fp)(e:h.get? b=some o):(b,o)∈kZ fp h:=Cm.mpr ⟨b,hb,by rw [e];rfl⟩
theorem Ue{p:Addr×Obj}(hp:p∈kZ fp h):p.1∈fp∧h.get? p.1=some p.2:=by
 obtain ⟨b,hb,e⟩:=Cm.mp hp;cases q:h.get? b with
 | none=>rw [q] at e;cases e
 | some o=>rw [q] at e;have e':(b,o)=p:=Option.some.inj e;subst e';exact ⟨hb,q⟩
theorem Inv.pinned(I:Inv X pins σ H s)(hf:∀b∈fp,oj X pins H b)(ho:∀b∈fp,∃o,s.heap.get? b=some o∧∀v,o.data≠.cell v):Inv X (pins++kZ fp s.heap) σ H s:=
 I.L7 fun p hp=>(cM.mp hp).elim (fun z=>I.pin p (ei _ z)) fun z=>by obtain ⟨hb,e⟩:=Ue z;obtain ⟨f0,f1,f2,_⟩:=hf p.1 hb;obtain ⟨o,e',d⟩:=ho p.1 hb;rw [e] at e';cases e';exact ⟨e,f0,f1,f2,d⟩
theorem Inv.sZ{pl:aO}(I:Inv X (pins++pl) σ H s):Inv X pins σ H s:=I.L7 fun p hp=>I.pin p (ei _ (ja _ hp))
theorem fZ{iter:Expr}{body:List Stmt}{wi:TI}{g:TG}{tb:TS}(hp:PassesOwn (model X.prog X.w) X.A X.env X.xe)(hc:X.calm=true)(hi:PI X tg iter wi)(hg:PG X tg g)(hb:gE X body tb)
  (hs:∀x,foldedSetIterable iter X.env x=pure x:=by intro _;rfl):PS X (.For tg iter body [] pos) (Ud wi g tb):=by
 intro pins s σ H D I h;refine wpAny_For (aH (hi pins s σ H _ I h) fun v s1 h1=>aH h1 fun wQ s2 h2=>?_) hs;obtain ⟨it,fp,tn,J,H2,e,I2,T,iF,f2,W,⟨m0,w0⟩,turn⟩:=h2;subst e;have gF:∀{H':Hp},(∀b∈fp,H' b=none)→∀b∈fp,oj X pins H' b:=fun hn b hb=>⟨hn b hb,(f2 b hb).2⟩;refine codeAny_forLoop_any (fun n s'=>∃i σ' H',Inv X pins σ' H' s'∧tn i s'.heap∧(∀b∈fp,H' b=none)∧W i n σ' H') ?_ m0 ⟨0,σ,H2,I2,iF,fun b hb=>(f2 b hb).1,w0⟩;rintro n s3 ⟨i,σ3,H3,I3,Mi,Mj,w3⟩;rcases turn i n σ3 H3 w3 with ⟨stop,qn⟩ | ⟨go,N,hN,step⟩
 ·refine sq hp (aH (T.done X rfl rfl rfl hc i pins s3 σ3 H3 X.xe I3 (gF Mj) Mi stop) fun r s4 ⟨hr,I4⟩=>?_)
  subst hr;exact Cj ⟨σ3,H3,I4,qn⟩
 ·refine sq hp (aH (T.item X rfl rfl rfl hc i pins s3 σ3 H3 X.xe I3 (gF Mj) Mi go) fun r s4 ⟨u,hr,h4⟩=>?_)
  subst hr;refine sq hp (aH h4 fun _ s5 ⟨x,H5,I5,r5,y5,gG,pP⟩=>?_);have pR:=I5.pinned (gF pP) (T.obj _ _ gG);refine sq hp (aH (hg _ s5 σ3 H5 x u _ pR r5 (step x H5 y5)) fun _ s6 ⟨σ6,H6,I6,q6⟩=>?_);refine sq hp (aH (hb _ s6 σ6 H6 _ I6 q6) fun f s7 q7=>?_);have again:∀{σ7:St} {H7:Hp},Inv X (pins++kZ fp s5.heap) σ7 H7 s7→N σ7 H7→∃m,m<n∧∃i σ' H',Inv X pins σ' H' s7∧tn i s7.heap∧(∀b∈fp,H' b=none)∧W i m σ' H':=fun{σ7 H7} I7 n7=>by obtain ⟨m',hm,w7⟩:=hN σ7 H7 n7;refine ⟨m',hm,i+1,σ7,H7,I7.sZ,T.keep _ _ _ gG fun b hb o e=>(I7.pin (b,o) (ei _ (ei _ (om hb e)))).1,fun b hb=>?_,w7⟩;obtain ⟨o,e,d⟩:=T.obj _ _ gG b hb;exact (I7.pin (b,o) (ei _ (ei _ (om hb e)))).2.1
  cases f with
  | next=>obtain ⟨σ7,H7,I7,n7⟩:=q7;exact again I7 n7
  | cont=>obtain ⟨σ7,H7,I7,n7⟩:=q7;exact again I7 n7
  | brk=>obtain ⟨σ7,H7,I7,q7⟩:=q7;exact ⟨σ7,H7,I7.sZ,q7⟩
  | ret v=>obtain ⟨x7,σ7,H7,I7,r7,q7⟩:=q7;exact ⟨x7,σ7,H7,I7.sZ,r7,q7⟩
end
variable {g:TG} {tb:TS} {D:Ends}
theorem mK(Pv:Nat→St→Hp→Prop)(h0:Pv 0 σ H)(hl:∀i σ H,i≤xs.length→Pv i σ H→a8 K H a xs)
  (hs:∀i x σ H,xs[i]?=some x→Pv i σ H→g x σ H fun σ2 H2=>tb {D with nx:=Pv (i+1),ct:=Pv (i+1),bk:=D.nx} σ2 H2) (hd:∀σ H,Pv xs.length σ H→D.nx σ H) :
  ∃W:Nat→Nat→St→Hp→Prop,(∃m,W 0 m σ H)∧∀i m σ H,W i m σ H→
   ((pO K a).stop i H∧D.nx σ H)∨((pO K a).go i H∧∃N:St→Hp→Prop,(∀σ' H',N σ' H'→∃m',m'<m∧W (i+1) m' σ' H')∧∀x H',(pO K a).dZ i H x H'→g x σ H' fun σ2 H2=>tb {D with nx:=N,ct:=N,bk:=D.nx} σ2 H2):=by
 refine ⟨fun i m σ H=>m=xs.length-i∧i≤xs.length∧Pv i σ H,⟨xs.length,by simp,bG _,h0⟩,?_⟩
 rintro i m σ H ⟨rfl,hi,p⟩;have q:=hl i σ H hi p;by_cases aR:i<xs.length
 ·refine .inr ⟨⟨xs,xs[i],q,by simp [aR]⟩,Pv (i+1),fun σ' H' p'=>⟨xs.length-(i+1),by lia,rfl,aR,p'⟩,fun x H' y=>?_⟩
  obtain ⟨e,y⟩:=y;subst e;exact hs i x σ _ (y xs q) p
 ·have e:i=xs.length:=by lia
  subst e;exact .inl ⟨⟨xs,q,au _⟩,hd σ H p⟩
theorem Ug(Pv:Nat→St→Hp→Prop)(h0:Pv 0 σ H)(hl:∀i σ H,i≤xs.length→Pv i σ H→eK K H a xs)
  (hs:∀i x σ H,xs[i]?=some x→Pv i σ H→g x σ H fun σ2 H2=>tb {D with nx:=Pv (i+1),ct:=Pv (i+1),bk:=D.nx} σ2 H2) (hd:∀σ H,Pv xs.length σ H→D.nx σ H) :
  ∃W:Nat→Nat→St→Hp→Prop,(∃m,W 0 m σ H)∧∀i m σ H,W i m σ H→
   ((Aj K a).stop i H∧D.nx σ H)∨((Aj K a).go i H∧∃N:St→Hp→Prop,(∀σ' H',N σ' H'→∃m',m'<m∧W (i+1) m' σ' H')∧∀x H',(Aj K a).dZ i H x H'→g x σ H' fun σ2 H2=>tb {D with nx:=N,ct:=N,bk:=D.nx} σ2 H2):=by
 refine ⟨fun i m σ H=>m=xs.length-i∧i≤xs.length∧Pv i σ H,⟨xs.length,by simp,bG _,h0⟩,?_⟩
 rintro i m σ H ⟨rfl,hi,p⟩;have q:=hl i σ H hi p;by_cases aR:i<xs.length
 ·refine .inr ⟨⟨xs,xs[i],q,by simp [aR]⟩,Pv (i+1),fun σ' H' p'=>⟨xs.length-(i+1),by lia,rfl,aR,p'⟩,fun x H' y=>?_⟩
  obtain ⟨e,y⟩:=y;subst e;exact hs i x σ _ (y xs q) p
 ·have e:i=xs.length:=by lia
  subst e;exact .inl ⟨⟨xs,q,au _⟩,hd σ H p⟩
variable {n:Nat}
theorem CW{lo:Int}(Pv:Nat→St→Hp→Prop)(h0:Pv 0 σ H)
  (hs:∀i σ H,i<n→Pv i σ H→g (.int (lo+i)) σ H fun σ2 H2=>tb {D with nx:=Pv (i+1),ct:=Pv (i+1),bk:=D.nx} σ2 H2) (hd:∀σ H,Pv n σ H→D.nx σ H) :
  ∃W:Nat→Nat→St→Hp→Prop,(∃m,W 0 m σ H)∧∀i m σ H,W i m σ H→
   ((qZ lo n).stop i H∧D.nx σ H)∨((qZ lo n).go i H∧∃N:St→Hp→Prop,(∀σ' H',N σ' H'→∃m',m'<m∧W (i+1) m' σ' H')∧∀x H',(qZ lo n).dZ i H x H'→g x σ H' fun σ2 H2=>tb {D with nx:=N,ct:=N,bk:=D.nx} σ2 H2):=by
 refine ⟨fun i m σ H=>m=n-i∧i≤n∧Pv i σ H,⟨n,by simp,bG _,h0⟩,?_⟩
 rintro i m σ H ⟨rfl,hi,p⟩;by_cases aR:i<n
 ·refine .inr ⟨aR,Pv (i+1),fun σ' H' p'=>⟨n-(i+1),by lia,rfl,aR,p'⟩,fun x H' y=>?_⟩
  obtain ⟨e,y⟩:=y;subst e y;exact hs i σ _ aR p
 ·have e:i=n:=by lia
  subst e;exact .inl ⟨au _,hd σ H p⟩
abbrev R2:=V→V→Hp→VK→Prop
def dr(X:Cx)(f:Value→Value→Sem Value)(r:R2):Prop:=
 ∀(pins:aO) (s:Shared) (σ:St) (H:Hp) (x y:V) (v u:Value) (Q:VK),Inv X pins σ H s→RelV x v→RelV y u→r x y H Q→
  wpAny (model X.prog X.w) X.A (f v u) (EP X pins σ Q) X.xe s
def gr(X:Cx)(f:Value)(r:List V→Hp→VK→Prop):Prop:=
 ∀(pins:aO) (s:Shared) (σ:St) (H:Hp) (xs:List V) (us:List Value) (Q:VK),Inv X pins σ H s→Vals xs us→r xs H Q→
  wpAny (model X.prog X.w) X.A (call f us) (EP X pins σ Q) X.xe s
def Uh(X:Cx)(r:V→Hp→(Bool→Hp→Prop)→Prop):Prop:=
 ∀(pins:aO) (s:Shared) (σ:St) (H:Hp) (x:V) (v:Value) (Q:Bool→Hp→Prop),Inv X pins σ H s→RelV x v→r x H Q→
  wpAny (model X.prog X.w) X.A (truthy v) (TP X pins σ Q) X.xe s
def q8(r:R2)(ta tb:TE):TE:=fun σ H Q=>ta σ H fun x H1=>tb σ H1 fun y H2=>r x y H2 Q
def rI(C:Int→Int→Prop)(g:Int→Int→V):R2:=fun x y H Q=>∃i j,x=.int i∧y=.int j∧C i j∧Q (g i j) H
def q_(g:Int→Int→V):R2:=fun x y H Q=>∃i j,x=.int i∧y=.int j∧Q (g i j) H
section
variable {X:Cx} {a b c:Expr} {ta tb tc:TE} {pos:Pos}
variable {f:Value→Value→Sem Value}
theorem GP(ha:PE X a ta)(hb:PE X b tb){pins:aO}{R:V→V→Hp→Prop}(I:Inv X pins σ H s)
  (h:ta σ H fun x H1=>tb σ H1 fun y H2=>R x y H2) {Q:aF}
  (hf:∀v u s2 x y H2,Inv X pins σ H2 s2→RelV x v→RelV y u→R x y H2→wpAny (model X.prog X.w) X.A (f v u) Q X.xe s2) :
  wpAny (model X.prog X.w) X.A (eval a X.env) (fun v s₁=>wpAny (model X.prog X.w) X.A (eval b X.env) (fun u s₂=>wpAny (model X.prog X.w) X.A (f v u) Q X.xe s₂) X.xe s₁) X.xe s:=by
 refine aH (ha pins s σ H _ I h) fun v s1 ⟨x,H1,I1,r1,q1⟩=>?_;refine aH (hb pins s1 σ H1 _ I1 q1) fun u s2 ⟨y,H2,I2,r2,q2⟩=>?_;exact hf v u s2 x y H2 I2 r1 r2 q2
theorem cq{op:Operator}{r:R2}(ho:dr X (binaryOp op) r)(ha:PE X a ta)(hb:PE X b tb):PE X (.BinOp a op b pos) (q8 r ta tb):=by intro pins s σ H Q I h;exact wpAny_BinOp (GP ha hb I h fun v u s2 x y H2 I2 rx ry q=>ho pins s2 σ H2 x y v u Q I2 rx ry q)
theorem CY{C:Int→Int→Prop}{g:Int→Int→Int}
  (rule:∀(i j:Int) (t u:Tok) (s:Shared) (Q:aF) (E:aF),C i j→Q (.int (g i j) s.toks) {s with toks:=s.toks+1}→wpAny (model X.prog X.w) X.A (f (.int i t) (.int j u)) Q E s) :
  dr X f (rI C fun i j=>.int (g i j)):=by
 intro pins s σ H x y v u Q I rx ry h;obtain ⟨i,j,rfl,rfl,hc,q⟩:=h;obtain ⟨t,rfl⟩:=rx;obtain ⟨t',rfl⟩:=ry;exact rule i j t t' s _ _ hc ⟨.int (g i j),H,I.tok _,⟨_,rfl⟩,q⟩
theorem Mk{g:Int→Int→Int}
  (rule:∀(i j:Int) (t u:Tok) (s:Shared) (Q:aF) (E:aF),Q (.int (g i j) s.toks) {s with toks:=s.toks+1}→wpAny (model X.prog X.w) X.A (f (.int i t) (.int j u)) Q E s) :
  dr X f (q_ fun i j=>.int (g i j)):=by
 intro pins s σ H x y v u Q I rx ry h;obtain ⟨i,j,rfl,rfl,q⟩:=h;obtain ⟨t,rfl⟩:=rx;obtain ⟨t',rfl⟩:=ry;exact rule i j t t' s _ _ ⟨.int (g i j),H,I.tok _,⟨_,rfl⟩,q⟩
theorem CZ{g:Int→Int→Bool}
  (rule:∀(i j:Int) (t u:Tok) (s:Shared) (Q:aF) (E:aF),Q (.bool (g i j)) s→wpAny (model X.prog X.w) X.A (f (.int i t) (.int j u)) Q E s) :
  dr X f (q_ fun i j=>.bl (g i j)):=by
 intro pins s σ H x y v u Q I rx ry h;obtain ⟨i,j,rfl,rfl,q⟩:=h;obtain ⟨t,rfl⟩:=rx;obtain ⟨t',rfl⟩:=ry;exact rule i j t t' s _ _ ⟨.bl (g i j),H,I,rfl,q⟩
def Ui(i j:Int):Prop:=0≤j∧j≤1000000∧i.natAbs<2 ^ 64
def GQ(i j:Int):Prop:=(-(2 ^ 64)<i∧i<2 ^ 64)∨(-(2 ^ 64)<j∧j<2 ^ 64)
theorem GQ.ok{i j:Int}(h:GQ i j):IntMulOk i j:=by
 rcases h with ⟨h1,h2⟩ | ⟨h1,h2⟩;·exact .of_left (intBits_le_64 h1 h2)
 ·exact .of_right (intBits_le_64 h1 h2)
theorem jf:dr X (binaryOp .Add) (q_ fun i j=>.int (i+j)):=Mk fun _ _ _ _ _ _ _ q=>add_int q
theorem GR:dr X (binaryOp .Sub) (q_ fun i j=>.int (i-j)):=Mk fun _ _ _ _ _ _ _ q=>sub_int q
theorem mL:dr X (binaryOp .Mult) (rI GQ fun i j=>.int (i*j)):=CY fun _ _ _ _ _ _ _ hc q=>mul_int q hc.ok
theorem s_:dr X (binaryOp .Mod) (rI (fun _ j=>0<j) fun i j=>.int (i % j)):=CY fun i j _ _ _ _ _ hc q=>by have h1:(0:Int)<j:=hc;exact mod_int' (by lia) (by rw [Int.fmod_eq_emod_of_nonneg i (by lia)];exact q)
theorem Uj:dr X (binaryOp .Pow) (rI Ui fun i j=>.int (i ^ j.toNat)):=CY fun _ _ _ _ _ _ _ hc q=>pow_int_small hc.1 hc.2.1 hc.2.2 q
end
def Ml:V→V→Bool
 | .aI,.aI=>true | .aI,.int _=>true | .int _,.aI=>true | .aI,.bl _=>true | .bl _,.aI=>true | .aI,.str _=>true | .str _,.aI=>true
 | .int _,.int _=>true | .bl _,.bl _=>true | .str _,.str _=>true | .j7 _,.j7 _=>true
 | .int _,.str _=>true | .str _,.int _=>true | .bl _,.str _=>true | .str _,.bl _=>true
 | _,_=>false
def Uk:R2:=fun x y H Q=>Ml x y=true∧Q (.bl (decide (x=y))) H
def Ul:R2:=fun x y H Q=>Ml x y=true∧Q (.bl (!decide (x=y))) H
theorem Mm{i j:Int}:decide (V.int i=V.int j)=(i == j):=by rw [pb];simp
theorem Mn{i j:Bool}:decide (V.bl i=V.bl j)=(i == j):=by rw [pb];simp
theorem Mo{i j:Str}:decide (V.str i=V.str j)=(i == j):=by rw [pb];simp
theorem Mp{i j:Array UInt8}:decide (V.j7 i=V.j7 j)=(i.toList == j.toList):=by rw [pb];cases i;cases j;simp
section
variable {X:Cx} {a b c:Expr} {ta tb tc:TE} {pos:Pos}
theorem dD{pins:aO}{Q:VK}{k k':Bool}(I:Inv X pins σ H s)(q:Q (.bl k) H)(e:k=k'):EP X pins σ Q (.bool k') s:=by subst e;exact ⟨.bl k,H,I,rfl,q⟩
theorem Mq:dr X (compareOp .Eq) Uk:=by
 intro pins s σ H x y v u Q I rx ry h;obtain ⟨hs,q⟩:=h;cases x with
 | aI=>
  cases rx;cases y with
  | aI=>cases ry;exact PySem.EqNone.eq_none_none (dD I q (by simp))
  | bl j=>cases ry;exact PySem.EqNone.eq_none_bool (dD I q (by simp))
  | int j=>obtain ⟨t',rfl⟩:=ry;exact PySem.EqNone.eq_none_int (dD I q (by simp))
  | str j=>obtain ⟨t',rfl⟩:=ry;exact PySem.EqNone.eq_none_str (dD I q (by simp))
  | _=>exact absurd (show false=true from hs) dR
 | bl i=>
  cases rx;cases y with
  | aI=>cases ry;exact PySem.EqNone.eq_bool_none (dD I q (by simp))
  | bl j=>cases ry;exact eq_bool (dD I q Mn)
  | str j=>obtain ⟨t',rfl⟩:=ry;exact PySem.EqMixed.eq_bool_str (dD I q (by simp))
  | _=>exact absurd (show false=true from hs) dR
 | int i=>
  obtain ⟨t,rfl⟩:=rx;cases y with
  | aI=>cases ry;exact PySem.EqNone.eq_int_none (dD I q (by simp))
  | int j=>obtain ⟨t',rfl⟩:=ry;exact eq_int (dD I q Mm)
  | str j=>obtain ⟨t',rfl⟩:=ry;exact PySem.EqMixed.eq_int_str (dD I q (by simp))
  | _=>exact absurd (show false=true from hs) dR
 | str i=>
  obtain ⟨t,rfl⟩:=rx;cases y with
  | aI=>cases ry;exact PySem.EqNone.eq_str_none (dD I q (by simp))
  | bl j=>cases ry;exact PySem.EqMixed.eq_str_bool (dD I q (by simp))
  | int j=>obtain ⟨t',rfl⟩:=ry;exact PySem.EqMixed.eq_str_int (dD I q (by simp))
  | str j=>obtain ⟨t',rfl⟩:=ry;exact eq_str (dD I q Mo)
  | _=>exact absurd (show false=true from hs) dR
 | j7 i=>
  obtain ⟨t,rfl⟩:=rx;cases y with
  | j7 j=>obtain ⟨t',rfl⟩:=ry;exact PySem.W.eq_bytes (dD I q Mp)
  | _=>exact absurd (show false=true from hs) dR
 | _=>cases y <;> exact absurd (show false=true from hs) dR
theorem wR:dr X (compareOp .NotEq) Ul:=by
 intro pins s σ H x y v u Q I rx ry h;obtain ⟨hs,q⟩:=h;cases x with
 | aI=>
  cases rx;cases y with
  | aI=>cases ry;exact PySem.EqNone.ne_none_none (dD I q (by simp))
  | bl j=>cases ry;exact PySem.EqNone.ne_none_bool (dD I q (by simp))
  | int j=>obtain ⟨t',rfl⟩:=ry;exact PySem.EqNone.ne_none_int (dD I q (by simp))
  | str j=>obtain ⟨t',rfl⟩:=ry;exact PySem.EqNone.ne_none_str (dD I q (by simp))
  | _=>exact absurd (show false=true from hs) dR
 | bl i=>
  cases rx;cases y with
  | aI=>cases ry;exact PySem.EqNone.ne_bool_none (dD I q (by simp))
  | bl j=>cases ry;exact ne_bool (dD I q (fv not Mn))
  | str j=>obtain ⟨t',rfl⟩:=ry;exact PySem.EqMixed.ne_bool_str (dD I q (by simp))
  | _=>exact absurd (show false=true from hs) dR
 | int i=>
  obtain ⟨t,rfl⟩:=rx;cases y with
  | aI=>cases ry;exact PySem.EqNone.ne_int_none (dD I q (by simp))
  | int j=>obtain ⟨t',rfl⟩:=ry;exact ne_int (dD I q (fv not Mm))
  | str j=>obtain ⟨t',rfl⟩:=ry;exact PySem.EqMixed.ne_int_str (dD I q (by simp))
  | _=>exact absurd (show false=true from hs) dR
 | str i=>
  obtain ⟨t,rfl⟩:=rx;cases y with
  | aI=>cases ry;exact PySem.EqNone.ne_str_none (dD I q (by simp))
  | bl j=>cases ry;exact PySem.EqMixed.ne_str_bool (dD I q (by simp))
  | int j=>obtain ⟨t',rfl⟩:=ry;exact PySem.EqMixed.ne_str_int (dD I q (by simp))
  | str j=>obtain ⟨t',rfl⟩:=ry;exact ne_str (dD I q (fv not Mo))
  | _=>exact absurd (show false=true from hs) dR
 | j7 i=>
  obtain ⟨t,rfl⟩:=rx;cases y with
  | j7 j=>obtain ⟨t',rfl⟩:=ry;exact PySem.W.ne_bytes (dD I q (fv not Mp))
  | _=>exact absurd (show false=true from hs) dR
 | _=>cases y <;> exact absurd (show false=true from hs) dR
theorem wU:dr X (compareOp .Lt) (q_ fun i j=>.bl (decide (i<j))):=CZ fun _ _ _ _ _ _ _ q=>lt_int q
theorem Um:dr X (compareOp .LtE) (q_ fun i j=>.bl (decide (i≤j))):=CZ fun _ _ _ _ _ _ _ q=>le_int q
theorem tj:dr X (compareOp .Gt) (q_ fun i j=>.bl (decide (j<i))):=CZ fun _ _ _ _ _ _ _ q=>gt_int q
theorem Uo:dr X (compareOp .GtE) (q_ fun i j=>.bl (decide (j≤i))):=CZ fun _ _ _ _ _ _ _ q=>ge_int q
theorem Mr:dr X (compareOp .IsNot) (fun x y H Q=>y=.aI∧Q (.bl (!decide (x=.aI))) H):=by
 intro pins s σ H x y v u Q I rx ry h;obtain ⟨rfl,q⟩:=h;cases ry;refine isnot_none_gen (dD I q ?_)
 cases x <;> first
  | (cases rx;rfl)
  | (obtain ⟨t,rfl⟩:=rx;rfl)
variable {op:CmpOp}
theorem Ms(b:Expr)(h:op≠.In:=by decide)(h2:op≠.NotIn:=by decide):behindInMarks op b=false:=by
 have e1:(op == CmpOp.In)=false:=by cases op <;> first | rfl | exact absurd rfl h
 have e2:(op == CmpOp.NotIn)=false:=by cases op <;> first | rfl | exact absurd rfl h2
 cases b <;> simp [behindInMarks,e1,e2]
variable {r:R2}
theorem C0(ho:dr X (compareOp op) r)(ha:PE X a ta)(hb:PE X b tb)(hm:behindInMarks op b=false):PE X (.Compare a [op] [b] pos) (q8 r ta tb):=by intro pins s σ H Q I h;exact wpAny_Compare1 (GP ha hb I h fun v u s2 x y H2 I2 rx ry q=>ho pins s2 σ H2 x y v u Q I2 rx ry q) hm
theorem Ak(ho:dr X (compareOp op) r)(ha:PE X a ta)(hb:PE X b tb)(hm:behindInMarks op b=false:=by exact Ms _):PE X (.Compare a [op] [b] pos) (q8 r ta tb):=C0 ho ha hb hm
def Mt(t:TE):TT:=fun σ H Q=>t σ H fun x H'=>∃k,x=.bl k∧Q k H'
theorem tm(ho:dr X (compareOp op) r)(ha:PE X a ta)(hb:PE X b tb)(hm:behindInMarks op b=false):PT X (.Compare a [op] [b] pos) (Mt (q8 r ta tb)):=by intro pins s σ H Q I h;refine wpAny_isTrue_Compare1 (aH (ha pins s σ H _ I h) fun v s1 ⟨x,H1,I1,r1,q1⟩=>aH (hb pins s1 σ H1 _ I1 q1) fun u s2 ⟨y,H2,I2,r2,q2⟩=>aH (ho pins s2 σ H2 x y v u _ I2 r1 r2 q2) fun c s3 ⟨z,H3,I3,r3,k,e,q3⟩=>?_) hm;subst e;cases r3;exact qA ⟨H3,I3,q3⟩
theorem fj(ho:dr X (compareOp op) r)(ha:PE X a ta)(hb:PE X b tb)(hm:behindInMarks op b=false:=by exact Ms _):PT X (.Compare a [op] [b] pos) (Mt (q8 r ta tb)):=tm ho ha hb hm
def Mu(K:aD)(x:V)(H:Hp)(k:Bool):Prop:=
 match x with
 | .aI=>k=false
 | .bl b=>k=b
 | .int i=>k=(i != 0)
 | .str y=>y.length≤sizeLine∧k=((y.length:Int) != 0)
 | .j7 y=>y.size≤sizeLine∧k=((y.size:Int) != 0)
 | .ref p=>(∃xs,a8 K H p xs∧k = !xs.isEmpty)∨(∃xs,eK K H p xs∧k = !xs.isEmpty)∨∃kvs,H p=some (.dK kvs)∧k = !kvs.isEmpty
 | _=>False
theorem Up{κ:Type}{kvs:List (κ×V)}{vs:List (κ×Value)}(r:KV kvs vs):(!vs.isEmpty) = !kvs.isEmpty:=by cases r <;> rfl
theorem Mv{its:List Value}(r:Vals xs its):(!its.toArray.isEmpty) = !xs.isEmpty:=by cases r <;> simp
theorem tD:(sizeLine:Nat)<2 ^ 63:=by rw [iR];decide
theorem Uq:Uh X (fun x H Q=>∃k,Mu X.K x H k∧Q k H):=by
 intro pins s σ H x v Q I rx h;obtain ⟨k,e,q⟩:=h;have hl:=tD;have hs:sizeLine=16777216:=iR;cases x with
 | aI=>cases rx;have e':k=false:=e;subst e';exact truthy_none ⟨H,I,q⟩
 | bl b=>cases rx;have e':k=b:=e;subst e';exact qA ⟨H,I,q⟩
 | int i=>obtain ⟨t,rfl⟩:=rx;have e':k=(i != 0):=e;subst e';exact PySem.P.truthy_int ⟨H,I,q⟩
 | str y=>obtain ⟨t,rfl⟩:=rx;obtain ⟨hy,e'⟩:y.length≤sizeLine∧k=((y.length:Int) != 0):=e;subst e';exact PySem.P.truthy_str (by lia) ⟨H,I.tok _,q⟩
 | j7 y=>obtain ⟨t,rfl⟩:=rx;obtain ⟨hy,e'⟩:y.size≤sizeLine∧k=((y.size:Int) != 0):=e;subst e';exact PySem.W.truthy_bytes (by lia) ⟨H,I.tok _,q⟩
 | ref p=>
  cases rx;have e':(∃xs,a8 X.K H p xs∧k = !xs.isEmpty)∨(∃xs,eK X.K H p xs∧k = !xs.isEmpty)∨∃kvs,H p=some (.dK kvs)∧k = !kvs.isEmpty:=e;rcases e' with ⟨xs,hx,e'⟩ | ⟨xs,hx,e'⟩ | ⟨kvs,hx,e'⟩
  ·subst e'
   obtain ⟨its,r,pl,hz⟩:=I.list hx;have hlen:=r.length;exact wpAny_truthy_list pl.isList (by simp only [cf];lia) ⟨H,I.tok _,by rw [Mv r];exact q⟩
  ·subst e'
   obtain ⟨its,r,pl,hz⟩:=I.tuple hx;have hlen:=r.length;exact truthy_tuple pl (by simp only [cf];lia) ⟨H,I.tok _,by rw [Mv r];exact q⟩
  ·subst e'
   obtain ⟨hz,hS,vs,r,m⟩:kvs.length≤sizeLine∧(p == sysModules)=false∧∃vs,KV kvs vs∧s.heap.DictOf (iC X.prog X.w) p vs:=I.aw p _ hx;have hlen:kvs.length=vs.length:=Paired.length r;exact wpAny_truthy_dict hS m (by lia) ⟨H,I.tok _,by rw [Up r];exact q⟩
 | _=>exact (show False from e).elim
theorem Ur(ha:PE X a ta)(he:∀whole,isTrue a X.env whole=(do let v ←whole;standAt a.pos;holding [v] (truthy v))) :
  PT X a (fun σ H Q=>ta σ H fun x H'=>∃k,Mu X.K x H' k∧Q k H'):=by
 intro pins s σ H Q I h
 exact isTrue_plain (aH (ha pins s σ H _ I h) fun v s1 ⟨x,H1,I1,r1,q1⟩=>Uq pins s1 σ H1 x v Q I1 r1 q1) (he _)
theorem vals1(r:Vals [x] us):∃u,us=[u]∧RelV x u:=by
 cases r with
 | cons r1 r2=>cases r2;exact ⟨_,rfl,r1⟩
theorem vals2{y:V}(r:Vals [x,y] us):∃u w',us=[u,w']∧RelV x u∧RelV y w':=by
 cases r with
 | cons r1 r2=>
  cases r2 with
  | cons r3 r4=>cases r4;exact ⟨_,_,rfl,r1,r3⟩
theorem Us(hc:X.calm=true):gr X (.builtin "max") (fun xs H Q=>∃i j,xs=[.int i,.int j]∧Q (.int (if j>i then j else i)) H):=by
 intro pins s σ H xs us Q I r h;obtain ⟨i,j,rfl,q⟩:=h;obtain ⟨u,w',rfl,⟨t,rfl⟩,⟨t',rfl⟩⟩:=vals2 r;refine max_two_ints (I.ok.hd hc) fun h' tk k=>⟨_,H,I.kept k,?_,q⟩;by_cases hj:j>i;·rw [ae hj,ae hj];exact ⟨_,rfl⟩
 ·rw [aa hj,aa hj];exact ⟨_,rfl⟩
theorem Ut(hc:X.calm=true):gr X (.builtin "min") (fun xs H Q=>∃i j,xs=[.int i,.int j]∧Q (.int (if j<i then j else i)) H):=by
 intro pins s σ H xs us Q I r h;obtain ⟨i,j,rfl,q⟩:=h;obtain ⟨u,w',rfl,⟨t,rfl⟩,⟨t',rfl⟩⟩:=vals2 r;refine min_two_ints (I.ok.hd hc) fun h' tk k=>⟨_,H,I.kept k,?_,q⟩;by_cases hj:j<i;·rw [ae hj,ae hj];exact ⟨_,rfl⟩
 ·rw [aa hj,aa hj];exact ⟨_,rfl⟩
theorem Mw:gr X (.type "int") (fun xs H Q=>(∃i,xs=[.int i]∧Q (.int i) H)∨∃k,xs=[.bl k]∧Q (.int (if k then 1 else 0)) H):=by
 intro pins s σ H xs us Q I r h;rcases h with ⟨i,rfl,q⟩ | ⟨k,rfl,q⟩
 ·obtain ⟨u,rfl,t,rfl⟩:=vals1 r
  exact call_int_int ⟨.int i,H,I,⟨_,rfl⟩,q⟩
 ·obtain ⟨u,rfl,r1⟩:=vals1 r
  cases r1;exact call_int_bool ⟨.int (if k then 1 else 0),H,I.tok _,⟨_,rfl⟩,q⟩
end
structure GS (h:Heap) (x dx C:Addr) (mA:dq):Prop where
 obj:h.get? x=some (PySem.W.instObj C dx)
 ns:h.Ns1 dx mA
 ne:dx≠x
variable {dx:Addr} {mA:dq}
theorem Uu(n:h.Ns1 dx mA):∃od,h.get? dx=some od∧∀name,PySem.W.lookIn name od=some (mA name):=by
 obtain ⟨o,es,ep,ho,hd,hk,_,hm⟩:=n;refine ⟨o,ho,fun name=>?_⟩;have e:=hm name;unfold nsFind findBy at e;rw [←Array.find?_toList] at e;unfold PySem.W.lookIn;rw [hd];dsimp only
 split
 ·rename_i y q
  rw [q] at e;exact fv some e
 ·rename_i q
  rw [q] at e;have a:es.toList.any (·.refKey)=false:=by rw [List.any_eq_false];intro y hy;obtain ⟨z,t,Uv⟩:=hk y (Array.mem_toList_iff.mp hy);simp [DictEntry.refKey,Uv]
  have a':¬es.toList.any (·.refKey)=true:=by rw [a];exact dR
  rw [aa a'];exact fv some e
theorem GS.look{x C:Addr}(I:GS h x dx C mA):∃od,PySem.W.InstAt h x (PySem.W.instObj C dx) C (some od)∧∀name,PySem.W.lookIn name od=some (mA name):=
 let ⟨od,ho,hl⟩:=Uu I.ns
 ⟨od,⟨I.obj,rfl,rfl,ho⟩,hl⟩
section
variable {prog:Program} {w:World} {A:Around} {E:aF} {s:Shared} {K:aD} {x dx C f:Addr} {mA:dq} {name:Str} {v:Value}
end
theorem mI.some_of{v:V}{o:Option Value}(r:mI (some v) o):∃u,o=some u∧RelV v u:=by
 cases o with
 | none=>exact (show False from r).elim
 | some u=>exact ⟨u,rfl,r⟩
section
variable {P:Program} {w:World} {H H':Hp} {h h':Heap} {a C dx:Addr} {fs GA:List (Str×V)}
theorem Uw(aw:cR P w H h)(e:H a=some (.ins C dx fs)):∃mA,GS h a dx C mA∧(∀f,mI (fs.lookup f) (mA f))∧PySem.Within mA (fs.map (·.1))∧fs.length≤1000∧H dx=some (.own a):=by obtain ⟨d,z,ne,ob,mA,n,r,q⟩:=(show cK P w H h a (.ins C dx fs) from aw a _ e);exact ⟨mA,⟨ob,n,ne⟩,r,q,z,d⟩
end
structure GU (K:aD) (C:Addr):Prop where
 pg:PySem.W.plainGet K C Str.empty=true
 hd:PySem.W.hasDictIn K C=true
 po:PySem.W.plainOver K C=true
 sa:PySem.W.findIn K (.ref C) "__setattr__"=some (some (.builtin "object.__setattr__"))
theorem GU.get{K:aD}{C:Addr}(c:GU K C)(f:Str):PySem.W.plainGet K C f=true:=c.pg
section
variable {X:Cx} {pins:aO} {σ:St} {H:Hp} {s:Shared} {a C dx:Addr} {fs:List (Str×V)} {f:Str} {v:V} {A:Around} {E:aF}
end
section
variable {X:Cx} {o e value:Expr} {f:Str} {pos pos' qY:Pos} {ta tv:TE}
end
section
variable {X:Cx} {pins:aO} {σ:St} {H:Hp} {s:Shared} {A:Around} {E:aF} {Q:aF} {c:Value} {b:Bool}
inductive j_ (K:aD) (H:Hp):V→Value→Prop where
 | aI:j_ K H .aI (.type "NoneType")
 | bl (x:Bool):j_ K H (.bl x) (.type "bool")
 | int (i:Int):j_ K H (.int i) (.type "int")
 | str (x:Str):j_ K H (.str x) (.type "str")
 | wx (x:UInt64):j_ K H (.wx x) (.type "float")
 | lst {a:Addr} {xs:List V} (e:H a=some (.lst xs)):j_ K H (.ref a) (.type "list")
 | bE {a:Addr} {o:Obj} {xs:List V} (e:H a=some (.bE o (.lst xs))):j_ K H (.ref a) (.type "list")
 | tup {a:Addr} {xs:List V} (e:H a=some (.tup xs)):j_ K H (.ref a) (.type "tuple")
 | dK {a:Addr} {kvs:List (Key×V)} (e:H a=some (.dK kvs)):j_ K H (.ref a) (.type "dict")
 | dT {a:Addr} {kvs:List (List Key×V)} (e:H a=some (.dT kvs)):j_ K H (.ref a) (.type "dict")
 | ins {a C dx:Addr} {fs:List (Str×V)} (e:H a=some (.ins C dx fs)) (cl:GU K C) (ha:PySem.W.findIn K (.ref C) "__class__"=some (some (.builtin "object.__class__")))
   (hn:PySem.W.specialIn K (.builtin "object.__class__") "__get__"=some (some (.builtin "getset_descriptor.__get__"))) (Mx:PySem.W.takesIn K (.builtin "object.__class__")=some true)
   (hm:PySem.W.mroIn K C (.type "object")=some true):j_ K H (.ref a) (.ref C)
theorem Ux{t:Value}(I:Inv X pins σ H s)(rx:RelV x u)(ty:j_ X.K H x t)(e:PySem.W.kitOne X.K t c=some b)(h:∀tk,Q (.bool b) {s with toks:=tk}) :
  wpAny (model X.prog X.w) A (call (.builtin "isinstance") [u,c]) Q E s:=by
 cases ty with
 | aI=>cases (show u=Value.none from rx);exact jZ PySem.W.kitx_none I.gq True.intro e (fun z=>nomatch z) h
 | bl y=>cases (show u=Value.bool y from rx);exact jZ PySem.W.kitx_bool I.gq True.intro e (fun z=>nomatch z) h
 | int i=>obtain ⟨t,q⟩:=(show ∃t,u=Value.int i t from rx);cases q;exact jZ PySem.W.kitx_int I.gq True.intro e (fun z=>nomatch z) h
 | str y=>obtain ⟨t,q⟩:=(show ∃t,u=Value.str y t from rx);cases q;exact jZ PySem.W.kitx_str I.gq True.intro e (fun z=>nomatch z) h
 | wx y=>obtain ⟨t,q⟩:=(show ∃t,u=Value.float y t from rx);cases q;exact jZ PySem.W.kitx_float I.gq True.intro e (fun z=>nomatch z) h
 | @lst a xs ea=>cases (show u=Value.ref a from rx);obtain ⟨_,_,n,_,h1⟩:=(show cK X.prog X.w H s.heap a (.lst xs) from I.aw a _ ea);exact jZ PySem.W.kitx_list I.gq ⟨_,h1,rfl⟩ e (fun z=>nomatch z) h
 | @bE a ob xs ea=>cases (show u=Value.ref a from rx);obtain ⟨_,_,_,n,_,h1⟩:=(show cK X.prog X.w H s.heap a (.bE ob (.lst xs)) from I.aw a _ ea);exact jZ PySem.W.kitx_list I.gq ⟨_,h1,rfl⟩ e (fun z=>nomatch z) h
 | @tup a xs ea=>cases (show u=Value.ref a from rx);obtain ⟨_,_,_,p⟩:=(show cK X.prog X.w H s.heap a (.tup xs) from I.aw a _ ea);obtain ⟨o,h1,h2,_⟩:=p;exact jZ PySem.W.kitx_tuple I.gq ⟨o,h1,h2⟩ e (fun z=>nomatch z) h
 | @dK a kvs ea=>cases (show u=Value.ref a from rx);obtain ⟨_,_,vs,_,p⟩:=(show cK X.prog X.w H s.heap a (.dK kvs) from I.aw a _ ea);obtain ⟨o,es,ep,h1,h2,_⟩:=p;exact jZ PySem.W.kitx_dict I.gq ⟨o,h1,h2.1⟩ e (fun z=>nomatch z) h
 | @dT a kvs ea=>cases (show u=Value.ref a from rx);obtain ⟨_,_,xs,_,o,es,ep,h1,h2,_⟩:=(show cK X.prog X.w H s.heap a (.dT kvs) from I.aw a _ ea);exact jZ PySem.W.kitx_dict I.gq ⟨o,h1,h2.1⟩ e (fun z=>nomatch z) h
 | @ins a C dx fs ea cl ha hn Mx hm=>cases (show u=Value.ref a from rx);obtain ⟨mA,O,_⟩:=Uw I.aw ea;obtain ⟨od,J,_⟩:=O.look;exact jZ (PySem.W.kitx_own (cl.get _) cl.hd ha hn Mx hm) I.gq J e (fun z=>nomatch z) h
end
structure fk (k:Nat) (A:Around):Prop where
 hd:A.handled=none
 dp:A.depth+3*k+5<recursionLimit
 un:A.units+16*k+200<cLine
variable {k:Nat}
theorem fk.mono{j:Nat}(r:fk k A)(h:j≤k):fk j A:=⟨r.hd,by have:=r.dp;lia,by have:=r.un;lia⟩
theorem fk.deeper(r:fk (k+1) A)(env:Env):fk k (A.deeper env):=
 ⟨r.hd,by have:=r.dp;show A.depth+1+3*k+5<_;lia,by have:=r.un;show A.units+3+16*k+200<_;lia⟩
theorem fk.depth(r:fk k A):A.depth<recursionLimit:=by have:=r.dp;lia
theorem fk.units(r:fk k A):A.units+64<cLine:=by have:=r.un;lia
def tE:TA:=fun _ H Q=>Q [] H
def wV(ta:TE)(tr:TA):TA:=fun σ H Q=>ta σ H fun x H1=>tr σ H1 fun xs H2=>Q (x::xs) H2
section
variable {X:Cx} {e:Expr} {es:List Expr} {te:TE} {t:TA} {pos:Pos}
theorem aj:PA X [] tE:=fun _ _ _ _ H Q I h=>Calls.spliced_nil ⟨[],H,I,.nil,h⟩
theorem Uy(ha:PE X e te)(hr:PA X es t)(hs:starEach (e::es) X.env=(false,eval e X.env)::starEach es X.env:=by rfl):PA X (e::es) (wV te t):=by intro pos pins s σ H Q I h;rw [hs];show wpAny _ _ (spliced ((false,eval e X.env)::backTo pos (starEach es X.env))) _ _ s;refine Calls.spliced_cons (aH (ha pins s σ H _ I h) fun u s1 ⟨x,H1,I1,r1,q1⟩=>?_);exact aH (hr pos pins s1 σ H1 _ I1 q1) fun us s2 ⟨xs,H2,I2,r2,q2⟩=>⟨x::xs,H2,I2,.cons r1 r2,q2⟩
def Uz(t:TA):TE:=fun σ H Q=>t σ H fun xs H1=>xs.length≤sizeLine∧∀p,H1 p=none→Q (.ref p) (upd H1 p (.tup xs))
def UA(t:TA):TE:=fun σ H Q=>t σ H fun xs H1=>xs.length≤sizeLine∧∀p,H1 p=none→Q (.ref p) (upd H1 p (.lst xs))
theorem iG{x1}(h:PA X es t):PE X (.Tuple es x1 pos) (Uz t):=by
 intro pins s σ H Q I hq;refine wpAny_Tuple_spliced (aH (h pos pins s σ H _ I hq) fun us s1 ⟨xs,H1,I1,r,z,q⟩=>⟨by rw [←r.length];exact z,?_⟩)
 have hf:H1 s1.heap.objs.size=none:=I1.aw.fresh (au _);refine ⟨.ref s1.heap.objs.size,upd H1 s1.heap.objs.size (.tup xs),I1.laid (t':=s1.toks) (fun b u e=>b_ _ e) (au _) ?_,rfl,q _ hf⟩;exact ⟨z,us,r,⟨_,eh _ rfl,rfl,_,rfl⟩⟩
theorem gu(h:PA X es t):PE X (.List es pos) (UA t):=by
 intro pins s σ H Q I hq;refine wpAny_List_spliced (aH (h pos pins s σ H _ I hq) fun us s1 ⟨xs,H1,I1,r,z,q⟩=>⟨by rw [←r.length];exact z,?_⟩)
 have hf:H1 s1.heap.objs.size=none:=I1.aw.fresh (au _);refine ⟨.ref s1.heap.objs.size,upd H1 s1.heap.objs.size (.lst xs),I1.laid (t':=s1.toks) (fun b u e=>b_ _ e) (au _) ?_,rfl,q _ hf⟩;exact ⟨z,us,0,r,eh _ rfl⟩
end
abbrev Sp:=List V→Hp→VK→XK→Prop
abbrev jJ:=List Env→Hp→Shared→XK→Value→Shared→Prop
structure C1 (P:Program) (w:World) (K:aD) (mg:dq) (base:Heap) (A:Around) (outer:List Env) (s:Shared) (H:Hp):Prop where
 frames:A.frames=some outer
 mod:Mod K mg base
 bs:∀b o,base.get? b=some o→s.heap.get? b=some o∧H b=none
 jd:base.objs.size≤s.heap.objs.size
 mJ:s.heap.FunFrames base outer
 qT:∀b∈cY outer,H b=none
 aw:cR P w H s.heap
 bare:AllBare s.gens
def CE(outer:List Env)(P:Program)(w:World)(H:Hp)(s:Shared)(Q:VK)(u:Value)(s':Shared):Prop:=
 ∃v H',s'.os=s.os∧AllBare s'.gens∧Un (cY outer) [] H H' s.heap s'.heap∧cR P w H' s'.heap∧RelV v u∧Q v H'
def CR(CX:jJ)(outer:List Env)(P:Program)(w:World)(H:Hp)(s:Shared)(Q:VK)(E:XK)(r:Result)(s':Shared):Prop:=
 match r with
 | .ok (.ret u)=>CE outer P w H s Q u s'
 | .ok _=>False
 | .error e=>CX outer H s E e s'
structure cu (P:Program) (w:World) (K:aD) (mg:dq) (base:Heap) (CX:jJ) (k:Nat) (f:Addr) (fd:FuncData) (ps:List Str) (sp:Sp):Prop where
 len:∀vs H Q E,sp vs H Q E→vs.length=ps.length
 run:∀(A:Around) (outer:List Env) (s:Shared) (H:Hp) (args:Args) (us:List Value) (vs:List V) (Q:VK) (E:XK),fk k A→C1 P w K mg base A outer s H→BindsTo s fd args (ps.zip us)→Vals vs us→sp vs H Q E→
  codeAny (model P w) A (.call (.ref f) args) (CR CX outer P w H s Q E) s
section
variable {X:Cx} {pins:aO} {σ:St} {H:Hp} {s s':Shared}
theorem Inv.UB(I:Inv X pins σ H s):C1 X.prog X.w X.K X.mg X.base X.A X.stack s H:=
 ⟨I.ok.frames,I.ok.mod,I.bs,bU I.ok.jd I.sz,I.stack,I.wI,I.aw,I.bare⟩
theorem Inv.after{Q:VK}(I:Inv X pins σ H s)(h:CE X.stack X.prog X.w H s Q u s'):EP X pins σ Q u s':=by obtain ⟨v,H',os,bare,un,aw,r,q⟩:=h;obtain ⟨hh,g,d,t,UC⟩:=s';obtain rfl:UC=s.os:=os;exact ⟨v,H',I.call (h':=hh) (g':=g) (d':=d) (t':=t) (ch:=[]) un aw bare (fun b z=>absurd z (by simp)),r,q⟩
end
def Mz(sp:Sp)(oo:List V)(E:XK)(t:TA):TE:=fun σ H Q=>t σ H fun vs H1=>sp (vs++oo) H1 Q E
def Binds(K:aD)(fd:FuncData)(ps:List Str)(ds:List Value):Prop:=
 ∀(s:Shared) (us:List Value),K.In s.heap→(us++ds).length=ps.length→BindsTo s fd ⟨us,[]⟩ (ps.zip (us++ds))
variable {ps:List Str}
theorem Binds.all{fd:FuncData}(h:∀us:List Value,us.length=ps.length→bindArgs fd ⟨us,[]⟩=pure (ps.zip us)):Binds K fd ps []:=fun s us _ hl=>by rw [jF] at hl ⊢;exact .of_eq (h us hl)
def Passes(CX:jJ)(X:Cx)(E:XK):Prop:=∀(pins:aO) (σ:St) (H:Hp) (s:Shared) (e:Value) (s':Shared),Inv X pins σ H s→CX X.stack H s E e s'→X.xe e s'
section
variable {X:Cx} {CX:jJ} {k:Nat} {f C:Addr} {fd:FuncData} {ps:List Str} {sp:Sp} {oo:List V} {ds:List Value} {E:XK} {x m:Str} {p pos apos:Pos} {e o:Expr} {es:List Expr} {ta:TE} {t:TA}
theorem UD{pins:aO}{Q:VK}{vs:List V}(F:cu X.prog X.w X.K X.mg X.base CX k f fd ps sp)(hr:fk k X.A)(hb:Binds X.K fd ps ds)(hd:Vals oo ds)(hx:Passes CX X E)
  (I:Inv X pins σ H s) (r:Vals vs us) (h:sp (vs++oo) H Q E):wpAny (model X.prog X.w) X.A (call (.ref f) us) (EP X pins σ Q) X.xe s:=by
 have r2:Vals (vs++oo) (us++ds):=r.append hd;have hl:(us++ds).length=ps.length:=by rw [←r2.length];exact F.len _ _ _ _ h
 refine wpAny_call (codeAny_mono (F.run X.A X.stack s H ⟨us,[]⟩ (us++ds) (vs++oo) Q E hr I.UB (hb s us I.gq hl) r2 h) fun r s' hq=>?_);cases r with
 | error e=>exact hx pins σ H s e s' I hq
 | ok fl=>
  cases fl with
  | ret u=>exact I.after hq
  | next=>exact False.elim hq
  | brk=>exact False.elim hq
  | cont=>exact False.elim hq
theorem UE(F:cu X.prog X.w X.K X.mg X.base CX k f fd ps sp)(hr:fk k X.A)(hg:Gl X x)(hm:X.mg x=some (.ref f))(hk:PySem.W.keepIn X.K (.ref f)=true)(hb:Binds X.K fd ps ds)(hd:Vals oo ds)(hx:Passes CX X E)
  (ha:PA X (e::es) t) (tF:(x == ("__debug__":Str))=false:=by decide) (he:starEach (e::es) X.env=(false,eval e X.env)::starEach es X.env:=by rfl) (jK:(backTo pos (starEach es X.env)).any (·.1)=false:=by rfl) :
  PE X (.Call (.Name x p) (e::es) [] pos) (Mz sp oo E t):=by
 intro pins s σ H Q I h;refine vP (GF I hg hm ?_ tF);refine PySem.W.callWith_K (h₀:=X.base) I.ok.mod.d8 hk (aH (ha pos pins s σ H _ I h) fun us s1 ⟨vs,H1,I1,r,q⟩=>⟨I1.gq,?_⟩) he jK;exact UD F hr hb hd hx I1 r q
theorem bF{j:Nat}(F:cu X.prog X.w X.K X.mg X.base CX k f fd ps sp)(hr:fk j X.A)(hm:X.mg x=some (.ref f))(hk:PySem.W.keepIn X.K (.ref f)=true)(hb:Binds X.K fd ps [])(hx:Passes CX X E)
  (ha:PA X (e::es) t) (hj:k≤j:=by decide) (hg:Gl X x:=by exact rfl) (tF:(x == ("__debug__":Str))=false:=by decide) (he:starEach (e::es) X.env=(false,eval e X.env)::starEach es X.env:=by rfl) (jK:(backTo pos (starEach es X.env)).any (·.1)=false:=by rfl) :
  PE X (.Call (.Name x p) (e::es) [] pos) (Mz sp [] E t):=UE F (hr.mono hj) hg hm hk hb .nil hx ha tF he jK
end
section
variable {X:Cx} {CX:jJ} {k:Nat} {f C:Addr} {fd:FuncData} {ps ks:List Str} {sp:Sp} {E:XK} {x m:Str} {p pos apos MC:Pos} {e o:Expr} {es:List Expr} {UG:List Keyword} {te ta:TE} {t tk:TA} {nm:Option Str}
variable {g:List Value→List Value→List Value} {gV:List V→List V→List V}
end
structure cG (N P:List Str) (sc:Scope):Prop where
 kind:sc.kind=.function
 co:sc.isCoroutine=false
 gen:sc.isGenerator=false
 nd:N.Nodup
 pre:N.take P.length=P
 par:∀x∈P,sc.names.lookup x=some .local∨sc.names.lookup x=some .cell
 UH:∀y∈sc.names,y.2≠.free
variable {N:List Str} {sc:Scope}
theorem dt{P:List Str}(h1:sc.kind=.function:=by rfl)(h2:sc.isCoroutine=false:=by rfl)(h3:sc.isGenerator=false:=by rfl)(h4:N.Nodup:=by decide +kernel)(h5:N.take P.length=P:=by rfl)(h6:∀x∈P,sc.names.lookup x=some .local∨sc.names.lookup x=some .cell:=by decide +kernel)(h7:∀y∈sc.names,y.2≠.free:=by decide +kernel):cG N P sc:=⟨h1,h2,h3,h4,h5,h6,h7⟩
theorem MD{kindOf:Str→Option NameKind}{x:Str}:∀{binds:List (Str×Value)} {m:dq},(∀v,(x,v)∉binds)→bindL kindOf binds m x=m x
 | [],_,_=>rfl
 | (n,v)::r,m,h=>by
  unfold bindL;rw [MD fun w hw=>h w (ck _ hw)]
  split
  ·have:x≠n:=by rintro rfl;exact h v cj
   simp [this]
  ·rfl
theorem ME{kindOf:Str→Option NameKind}{x:Str}:∀{binds:List (Str×Value)} {m:dq},(∀v,(x,v)∉binds)→bindC kindOf binds m x=m x
 | [],_,_=>rfl
 | (n,v)::r,m,h=>by
  unfold bindC;rw [ME fun w hw=>h w (ck _ hw)]
  split
  ·rfl
  ·have:x≠n:=by rintro rfl;exact h v cj
   simp [this]
theorem MF{kindOf:Str→Option NameKind}{x:Str}{v:Value}:∀{P:List Str} {vs:List Value} {i:Nat} {m:dq},P.Nodup→P[i]?=some x→vs[i]?=some v→kindOf x=some .local→
  bindL kindOf (P.zip vs) m x=some v
 | [],_,_,_,_,h,_,_=>by simp at h
 | _::_,[],_,_,_,_,h,_=>by simp at h
 | p::P,w::vs,0,m,nd,h1,h2,hk=>by simp at h1 h2;subst h1;subst h2;show bindL kindOf ((p,w)::P.zip vs) m p=_;unfold bindL;rw [MD fun v hv=>(gY.mp nd).1 (List.of_mem_zip hv).1,ae hk];simp
 | p::P,w::vs,i+1,m,nd,h1,h2,hk=>by show bindL kindOf ((p,w)::P.zip vs) m x=_;unfold bindL;exact MF (i:=i) (gY.mp nd).2 (by simpa using h1) (by simpa using h2) hk
theorem MG{kindOf:Str→Option NameKind}{x:Str}{v:Value}:∀{P:List Str} {vs:List Value} {i:Nat} {m:dq},P.Nodup→P[i]?=some x→vs[i]?=some v→kindOf x≠some .local→
  bindC kindOf (P.zip vs) m x=some v
 | [],_,_,_,_,h,_,_=>by simp at h
 | _::_,[],_,_,_,_,h,_=>by simp at h
 | p::P,w::vs,0,m,nd,h1,h2,hk=>by simp at h1 h2;subst h1;subst h2;show bindC kindOf ((p,w)::P.zip vs) m p=_;unfold bindC;rw [ME fun v hv=>(gY.mp nd).1 (List.of_mem_zip hv).1,aa hk];simp
 | p::P,w::vs,i+1,m,nd,h1,h2,hk=>by show bindC kindOf ((p,w)::P.zip vs) m x=_;unfold bindC;exact MG (i:=i) (gY.mp nd).2 (by simpa using h1) (by simpa using h2) hk
def start(N:List Str)(vs:List V):St:=vs.map some++List.replicate (N.length-vs.length) none
def k4(CX:jJ)(P:Program)(w:World)(K:aD)(mg:dq)(base:Heap)(N:List Str)(qual:Str)(scope:Scope)(f:Addr)(cd:Value)(A:Around)(outer:List Env)(s:Shared)(H:Hp)(E:XK):Cx where
 prog:=P
 w:=w
 K:=K
 mg:=mg
 base:=base
 A:=A.deeper (envOfC qual scope s.heap.objs.size f cd)
 N:=N
 s₀:=s
 H₀:=H
 env:=envOfC qual scope s.heap.objs.size f cd
 outer:=outer
 stack:=envOfC qual scope s.heap.objs.size f cd::outer
 ex:=[]
 calm:=true
 fn:=fun _=>true
 pn:=[]
 xe:=fun e s'=>wpAny (model P w) (A.deeper (envOfC qual scope s.heap.objs.size f cd)) (leaving (envOfC qual scope s.heap.objs.size f cd) e) (fun _ f9=>CX outer H s E e f9) (fun e' f9=>CX outer H s E e' f9) s'
theorem MJ{x:Str}(h:sc.names.lookup x=some .cell):∃c,(cellsFrom n sc.names []).lookup x=some c:=by have q:=PySem.W.cellsFrom_some sc.names n [] (.inl h);exact Option.isSome_iff_exists.mp q
variable {CX:jJ} {mg:dq} {base:Heap} {qual:Str} {scope:Scope} {f:Addr}
theorem UI{cd:Value}{outer:List Env}{s1:Shared}{E:XK}{vs:List V}
  (S:cG N ps scope) (hd:A.handled=none) (e0:C1 P w K mg base A outer s H) (hl:vs.length=ps.length) (r:Vals vs us)
  (x:InCallC s s.heap.objs.size (bindL (envOfC qual scope s.heap.objs.size f cd).kindOf (ps.zip us) fun _=>none) (cellsFrom (s.heap.objs.size+1) scope.names []) (bindC (envOfC qual scope s.heap.objs.size f cd).kindOf (ps.zip us) fun _=>none) s1) :
  Inv (k4 CX P w K mg base N qual scope f cd A outer s H E) [] (start N vs) H s1:=by
 have jK:ps.length≤N.length:=by have:=fv List.length S.pre;rw [mh] at this;lia
 obtain ⟨h1,tk,rfl,hk⟩:=x.done;have Am:∀b:Addr,b∉(k4 CX P w K mg base N qual scope f cd A outer s H E).ex:=fun b z=>absurd (show b∈([]:List Addr) from z) (by simp)
 refine ⟨⟨e0.mod,S.kind,rfl,rfl,au _,fun y z c h1 h2=>?_,fun y hy=>?_,fun y c _ h=>?_,fun _=>hd,Around.frames_deeper e0.frames,.inr ⟨rfl,rfl⟩,fun b z=>absurd z (Am b),e0.bs,e0.jd,fun b _ _=>Am b,fun b z=>absurd z (Am b),e0.mJ,e0.qT⟩,
  rfl,e0.bare,Un.kept hk,⟨_,x.toInCall.ns,fun i y v h1 h2 h3=>?_⟩,fun y c h=>⟨_,x.cell y c h⟩,e0.aw.fresh (au _),fun y c h=>?_,fun p hp=>absurd (show p∈([]:aO) from hp) (by simp),e0.aw.kept hk,?_⟩
 ·exact name_of_addr x.apart (nO h1) (nO h2)
 ·have hy:scope.names.lookup y=some .cell∨scope.names.lookup y=some .free:=hy
  rcases hy with hy | hy;·exact MJ hy
  ·exact absurd rfl (S.UH _ (nO hy))
 ·exact jY (x.above y c (nO h))
 ·have hi:i<vs.length:=by
   unfold start at h2;by_cases hi:i<vs.length;·exact hi
   ·rw [iw (by simpa using hi)] at h2
    rw [List.getElem?_replicate] at h2
    split at h2 <;> cases h2
  have ha:vs[i]?=some v:=by
   unfold start at h2;rw [gZ (by simpa using hi),bz] at h2
   cases e:vs[i]? with
   | none=>rw [e] at h2;cases h2
   | some a=>rw [e] at h2;cases h2;rfl
  obtain ⟨u,hu,rv⟩:=r.get ha;have hp:ps[i]?=some y:=by rw [←S.pre,List.getElem?_take_of_lt (by lia)];exact h1
  have MK:ps.Nodup:=by rw [←S.pre];exact S.nd.sublist (Cn _ _)
  refine ⟨u,rv,?_⟩;rcases S.par y (kJ hp) with k | k;·exact .inl ⟨k,MF MK hp hu k⟩
  ·obtain ⟨c,e⟩:=MJ (n:=s.heap.objs.size+1) k
   refine .inr ⟨.inl k,c,e,?_⟩;have q:=x.cell y c e;rw [MG MK hp hu (by show scope.names.lookup y≠_;rw [k];decide)] at q
   exact q
 ·exact e0.aw.fresh (jY (x.above y c (nO h)))
 ·unfold start
  show _=N.length;rw [cW,ay,List.length_replicate];lia
theorem GV{name:Str}{params:Arguments}{body:List Stmt}{dV kV doc pm cH ct oc:Value}{an od:Option Addr}
  {mM:Array (Option Value)} {sp:Sp} (lk:K.lookup f=some ⟨oc,od,.func (PySem.W.fnOf name qual params body scope dV kV doc pm an cH ct),mM⟩) (fE:PySem.W.codeIn K cH qual=true) (S:cG N ps scope)
  (len:∀vs H Q E,sp vs H Q E→vs.length=ps.length)
  (mO:∀(A:Around) (outer:List Env) (s:Shared) (H:Hp) (vs:List V) (Q:VK) (E:XK),fk k (A.deeper (envOfC qual scope s.heap.objs.size f cH))→sp vs H Q E→
   ∃t,gE (k4 CX P w K mg base N qual scope f cH A outer s H E) body t∧t {nx:=fun _ H'=>Q .aI H',rt:=Q} (start N vs) H) :
  cu P w K mg base CX (k+1) f (PySem.W.fnOf name qual params body scope dV kV doc pm an cH ct) ps sp:=by
 refine ⟨len,fun A outer s H args us vs Q E hr e0 hb r oq=>?_⟩;have hl:=len _ _ _ _ oq;have KX:K.In s.heap:=e0.mod.d8.keeps fun b o e=>(e0.bs b o e).1;have lim:s.heap.NoLimit:=e0.mod.nolimit.keeps fun b o e=>(e0.bs b o e).1;have UJ:∀y∈ps.zip us,scope.names.lookup y.1=some .local∨(scope.names.lookup y.1=some .cell∧((cellsFrom (s.heap.objs.size+1) scope.names []).lookup y.1).isSome=true):=fun⟨n,v⟩ hy=>by
  rcases S.par n (List.of_mem_zip hy).1 with q | q;·exact .inl q
  ·exact .inr ⟨q,PySem.W.cellsFrom_some _ _ _ (.inl q)⟩
 refine codeAny_call_function hr.depth (KX _ _ lk) rfl S.co S.gen rfl (PySem.W.codeRec_of KX fE) (hb _ _ _ _ ?_);refine wpAny_newFunctionEnv_cells S.kind UJ fun env he s1 x=>?_;subst he;refine ⟨lim.keeps x.toInCall.keep,codeAny_func ?_⟩;obtain ⟨t,ht,hq⟩:=mO A outer s H vs Q E (hr.deeper _) oq;have I:Inv (k4 CX P w K mg base N qual scope f cH A outer s H E) [] (start N vs) H s1:=UI S hr.hd e0 hl r x;refine b9 (ht [] s1 (start N vs) H _ I hq) (fun fl s' hs=>?_) fun e s' hs=>hs;have fin:∀{σ':St} {H':Hp} {v:V} {u:Value},Inv (k4 CX P w K mg base N qual scope f cH A outer s H E) [] σ' H' s'→RelV v u→Q v H'→CE outer P w H s Q u s':=
  fun{σ' H' v u} J rv q=>⟨v,H',J.os,J.bare,J.base,J.aw,rv,q⟩
 cases fl with
 | ret u=>obtain ⟨v,σ',H',J,rv,q⟩:=hs;exact fin J rv q
 | next=>obtain ⟨σ',H',J,q⟩:=hs;exact fin (v:=V.aI) (u:=Value.none) J rfl q
 | brk=>obtain ⟨_,_,_,q⟩:=hs;exact False.elim q
 | cont=>obtain ⟨_,_,_,q⟩:=hs;exact False.elim q
section
variable {X:Cx} {x:Str} {p pos:Pos} {e:Expr} {es:List Expr} {t:TA} {id T:String} {r:List V→Hp→VK→Prop}
def An(r:List V→Hp→VK→Prop)(t:TA):TE:=fun σ H Q=>t σ H fun vs H1=>r vs H1 Q
theorem cZ(hc:gr X (.builtin id) r)(hg:Gl X x)(hm:X.mg x=none)(hv:bootBuiltins x=some (.builtin id))(ha:PA X (e::es) t)(hn:x ≠ "__name__":=by decide)(tF:(x == ("__debug__":Str))=false:=by decide)
  (he:starEach (e::es) X.env=(false,eval e X.env)::starEach es X.env:=by rfl) (jK:(backTo pos (starEach es X.env)).any (·.1)=false:=by rfl):PE X (.Call (.Name x p) (e::es) [] pos) (An r t):=by
 intro pins s σ H Q I h;refine vP (kY I hg hm hv ?_ hn tF);exact PyProof.Rows.callWith_builtin1 (aH (ha pos pins s σ H _ I h) fun us s1 ⟨vs,H1,I1,r1,q1⟩=>hc pins s1 σ H1 vs us Q I1 r1 q1) he jK
theorem iH(hc:gr X (.type T) r)(hg:Gl X x)(hm:X.mg x=none)(hv:bootBuiltins x=some (.type T))(ha:PA X (e::es) t)(hn:x ≠ "__name__":=by decide)(tF:(x == ("__debug__":Str))=false:=by decide)
  (he:starEach (e::es) X.env=(false,eval e X.env)::starEach es X.env:=by rfl) (jK:(backTo pos (starEach es X.env)).any (·.1)=false:=by rfl):PE X (.Call (.Name x p) (e::es) [] pos) (An r t):=by
 intro pins s σ H Q I h;refine vP (kY I hg hm hv ?_ hn tF);exact zM (aH (ha pos pins s σ H _ I h) fun us s1 ⟨vs,H1,I1,r1,q1⟩=>hc pins s1 σ H1 vs us Q I1 r1 q1) he jK
end
end L2
namespace HT
open PySem PyProof.Rows
def lexLt:List Int→List Int→Bool
 | [],[]=>false
 | [],_::_=>true
 | _::_,[]=>false
 | x::xs,y::ys=>if x=y then lexLt xs ys else decide (x<y)
theorem GW(x y:Int)(xs ys:List Int):lexLt (x::xs) (y::ys)=if x=y then lexLt xs ys else decide (x<y):=rfl
theorem UK:lexLt [] []=false:=rfl
theorem UL(y:Int)(ys:List Int):lexLt [] (y::ys)=true:=rfl
theorem UM(x:Int)(xs:List Int):lexLt (x::xs) []=false:=rfl
theorem UN(A:Around)(s:Shared)(a:Int)(t:Tok)(c:Int)(u:Tok):∃e,SeqAt.EqAt A s (.int a t) (.int c u) e∧(e=true↔a=c):=
 ⟨(a == c),SeqAt.EqAt.int_int a t c u,by simp⟩
theorem ML(A:Around)(s:Shared)(a:Int)(t:Tok)(c:Int)(u:Tok)(prog:Program)(w:World)(E:aF)(Q:aF)(h:Q (.bool (decide (a<c))) s) :
  wpAny (model prog w) A (richCompare .Lt (.int a t) (.int c u)) Q E s:=
 (PyProof.Rows.lt_int h:wpAny (model prog w) A (compareOp .Lt (.int a t) (.int c u)) Q E s)
section
open PySem.SeqAt
open PySem.AutoSeq1 (wpAny_loadPart')
open PySem.MeetsSeq PySem.MeetsSeq2 PySem.MeetsSeq3
theorem UO(l b:Addr)(items items2:Array Value)(n n2:Nat)(dd ra:Option Addr)(sl kd:Array (Option Value))(ns ms:List Int)(hi:IntsAre items.toList ns)(hj:IntsAre items2.toList ms) :
  Meets (Builtin.«tuple.__lt__» ⟨[.ref l,.ref b],[]⟩)
   (fun _ R s=>s.heap.get? l=some {cls:=.type "tuple",dict:=dd,data:=.seq items n,slots:=sl}∧s.heap.get? b=some {cls:=.type "tuple",dict:=ra,data:=.seq items2 n2,slots:=kd} ∧
    R (.ok (.ret (.bool (lexLt ns ms)))) s):=
 .of_wp fun prog w A R s h=>by
  obtain ⟨hp,g,d,tk,os⟩:=s;obtain ⟨hl,hb,h⟩:=h;have f2:=AutoSeq1.sub_tuple_tuple;have z1:items.size=ns.length:=by rw [←hi.length];simp
  have z2:items2.size=ms.length:=by rw [←hj.length];simp
  wp_walk using wpAny_loadPart' hl,wpAny_loadPart' hb,wpAny_forIn_list _ (fun rest b s'=>b.1=none∧s'=⟨hp,g,d,tk,os⟩∧∃(vs ws:List Value) (k6 wX:List Int),rest=vs.zip ws ∧
   IntsAre vs k6∧IntsAre ws wX∧k6.length+items2.size=wX.length+items.size∧R (.ok (.ret (.bool (lexLt k6 wX)))) ⟨hp,g,d,tk,os⟩) _
  case turn=>
   rintro ⟨y,x⟩ rest b s' ⟨eE,rfl,vs,ws,k6,wX,hz,GX,eF,hlen,hR⟩;cases GX with
   | nil=>rw [List.zip_nil_left] at hz;cases hz
   | cons a t UP=>
    cases eF with
    | nil=>rw [List.zip_nil_right] at hz;cases hz
    | cons c u UQ=>
     rw [List.zip_cons_cons] at hz;injection hz with UR US;injection UR with hy hx;subst hy hx;rw [GW] at hR;simp only [dm] at hlen;obtain ⟨e,he,MM⟩:=UN A.in1 ⟨hp,g,d,tk,os⟩ a t c u;refine ax (he prog w _ _ ?_);cases e with
     | true=>
      rw [ae (MM.mp rfl)] at hR
      wp_walk
      exact ⟨rfl,rfl,_,_,_,_,US,UP,UQ,by lia,hR⟩
     | false=>
      rw [aa (fun q=>absurd (MM.mpr q) dR)] at hR;have UT:=ML A.in1 ⟨hp,g,d,tk,os⟩ a t c u prog w
      wp_walk using UT
      exact ⟨_,rfl,by simpa using hR⟩
  case fin=>
   rintro ⟨b1,b2⟩ s' ⟨eE,rfl,vs,ws,k6,wX,hz,GX,eF,hlen,hR⟩;simp only at eE;subst eE;have hv:lexLt k6 wX=decide (items.size<items2.size):=by
    cases GX with
    | nil=>
     cases eF with
     | nil=>simp only [vQ] at hlen;rw [UK];exact (bY (by lia)).symm
     | cons c u hw=>simp only [vQ,dm] at hlen;rw [UL];exact (bu (by lia)).symm
    | cons a t hv=>
     cases eF with
     | nil=>simp only [vQ,dm] at hlen;rw [UM];exact (bY (by lia)).symm
     | cons c u hw=>rw [List.zip_cons_cons] at hz;cases hz
   rw [hv] at hR
   wp_walk
   exact ⟨_,rfl,by simpa [Builtin.Tuple.tupleCompareSizes] using hR⟩
  case h=>exact ⟨rfl,rfl,items.toList,items2.toList,ns,ms,rfl,hi,hj,by lia,h⟩
end
section
variable {prog:Program} {w:World} {A:Around} {E:aF} {s:Shared}
variable {b:Addr} {Q:aF}
theorem UU{l:Addr}{items items2:Array Value}{ns ms:List Int}(hl:IsTup s.heap l items)(hb:IsTup s.heap b items2)(hi:IntsAre items.toList ns)(hj:IntsAre items2.toList ms)
  (hu:A.units<cLine) (h:Q (.bool (lexLt ns ms)) s):wpAny (model prog w) A (compareOp .Lt (.ref l) (.ref b)) Q E s:=by
 obtain ⟨⟨cls,dd,data,sl⟩,ho,hc,n,hd⟩:=id hl;obtain ⟨⟨MN,ra,data2,kd⟩,jg,iZ,n2,hd2⟩:=id hb;simp only at hc hd iZ hd2;subst hc hd iZ hd2
 exact richCompare_meets_room (op:=.Lt) ⟨_,ho,rfl⟩ ⟨_,jg,rfl⟩ PySem.F.slot_tuple_lt PySem.F.entry_tuple_lt (PySem.F.args_tuple_lt_2 _ _) (UO l b items items2 n n2 dd ra sl kd ns ms hi hj)
  ⟨ho,jg,show Value.bool (lexLt ns ms)≠Value.notImplemented∧Q (.bool (lexLt ns ms)) s from ⟨(fun x=>nomatch x),h⟩⟩ hu
theorem UW{t:Addr}{vs ws:List Value}(ht:IsTup s.heap t vs.toArray)(hb:IsTup s.heap b ws.toArray)(hv:vs≠[])
  (h1:ws=[]→Q (.ref t) s) (h2:ws≠[]→Q (.ref s.heap.objs.size) {s with heap:=s.heap.push {cls:=.type "tuple",data:=.seq (vs++ws).toArray}})
  (hsz:vs.length+ws.length≤sizeLine):wpAny (model prog w) A (binaryOp .Add (.ref t) (.ref b)) Q E s:=by
 obtain ⟨⟨cls,dd,data,sl⟩,ho,hc,n,hd⟩:=id ht;obtain ⟨⟨MN,ra,data2,kd⟩,jg,iZ,n2,hd2⟩:=id hb;simp only at hc hd iZ hd2;subst hc hd iZ hd2;have e:vs.toArray++ws.toArray=(vs++ws).toArray:=by simp
 by_cases hw:ws=[]
 ·exact concat_meets ⟨_,ho,rfl⟩ ⟨_,jg,rfl⟩ noFill_tuple_add seq_tuple_add Gg Gh (Gi _ _)
   (tuple_addW1 t b vs.toArray ws.toArray n n2 dd ra sl kd (by simpa using hv) (by simp [hw])) ⟨ho,jg,h1 hw⟩
 ·refine concat_meets ⟨_,ho,rfl⟩ ⟨_,jg,rfl⟩ noFill_tuple_add seq_tuple_add Gg Gh (Gi _ _)
   (tuple_addW2 t b vs.toArray ws.toArray n n2 dd ra sl kd (by simpa using hv) (by simpa using hw) (by rw [cf,cf];exact hsz)) ⟨ho,jg,?_⟩
  rw [e];exact h2 hw
def hG(n d:Nat):Option Int→Nat
 | none=>d
 | some v=>if v<0 then (v+(n:Int)).toNat else min v.toNat n
theorem UX(n d:Nat):hG n d none=d:=rfl
theorem UY(n d k:Nat):hG n d (some (k:Int))=min k n:=by
 show (if (k:Int)<0 then ((k:Int)+(n:Int)).toNat else min (k:Int).toNat n)=min k n
 rw [aa (by lia),en]
end
end HT
namespace L2
open PySem PySem.Spec PyProof.Rows
abbrev TO:=St→Hp→(Option Int→Hp→Prop)→Prop
def PO(X:Cx)(e:Option Expr)(t:TO):Prop:=
 ∀(pins:aO) (s:Shared) (σ:St) (H:Hp) (Q:Option Int→Hp→Prop),Inv X pins σ H s→t σ H Q→
  wpAny (model X.prog X.w) X.A (evalPart e X.env) (fun u s'=>∃o H',Inv X pins σ H' s'∧IsPart u o∧Q o H') X.xe s
def UZ:TO:=fun _ H Q=>Q none H
def U0(t:TE):TO:=fun σ H Q=>t σ H fun x H1=>∃i,x=.int i∧Q (some i) H1
theorem intsAre_of{ns:List Int}:∀{us:List Value},Vals (ns.map V.int) us→IntsAre us ns:=by
 induction ns with
 | nil=>intro us r;rw [vR] at r;cases r;exact .nil
 | cons n ns ih=>
  intro us r;rw [cO] at r;cases r with
  | cons r1 r2=>obtain ⟨t,e⟩:=r1;subst e;exact .cons n t (ih r2)
section
variable {X:Cx} {e:Expr} {te:TE} {lo hi:Option Expr} {tl th:TO} {pos p2:Pos}
theorem GY:PO X none UZ:=by intro pins s σ H Q I h;rw [evalPart_none];exact bJ ⟨none,H,I,.none,h⟩
theorem GZ(h:PE X e te):PO X (some e) (U0 te):=by intro pins s σ H Q I hw;rw [evalPart_some];refine aH (h pins s σ H _ I hw) fun u s1 ⟨x,H1,I1,r1,q1⟩=>?_;obtain ⟨i,rfl,q⟩:=q1;obtain ⟨t,rfl⟩:=r1;exact ⟨some i,H1,I1,.int i t,q⟩
def MO(X:Cx)(r:V→Option Int→Option Int→Hp→VK→Prop):Prop:=
 ∀(pins:aO) (s:Shared) (σ:St) (H:Hp) (x:V) (v vl vu:Value) (lo hi:Option Int) (sl:Addr) (Q:VK),Inv X pins σ H s→RelV x v→s.heap.IsSliceOf sl vl vu .none→IsPart vl lo→IsPart vu hi→r x lo hi H Q→
  ∃T id,typeLookup (.type T) "__getitem__"=pure (some (.builtin id))∧s.TypeIs v T∧wpAny (model X.prog X.w) X.A (getItem v (.ref sl)) (EP X pins σ Q) X.xe s
def U1(r:V→Option Int→Option Int→Hp→VK→Prop)(te:TE)(tl th:TO):TE:=fun σ H Q=>te σ H fun x H1=>tl σ H1 fun l H2=>th σ H2 fun u H3=>r x l u H3 Q
theorem G0{r:V→Option Int→Option Int→Hp→VK→Prop}(hr:MO X r)(he:PE X e te)(hl:PO X lo tl)(hu:PO X hi th):PE X (.Subscript e (.Slice lo hi none p2) pos) (U1 r te tl th):=by intro pins s σ H Q I h;refine Subscript_ (aH (he pins s σ H _ I h) fun v s1 ⟨x,H1,I1,r1,q1⟩=>?_);refine wpAny_Slice (aH (hl pins s1 σ H1 _ I1 q1) fun vl s2 ⟨l,H2,I2,pl,q2⟩=>aH (hu pins s2 σ H2 _ I2 q2) fun vu s3 ⟨u,H3,I3,pu,q3⟩=>?_);rw [evalPart_none];refine bJ ?_;have I4:Inv X pins σ H3 {s3 with heap:=s3.heap.push {cls:=.type "slice",data:=.fields #[vl,vu,.none]}}:=I3.kept (t':=s3.toks) fun b ob q=>b_ _ q;obtain ⟨T,id,hT,ht,hg⟩:=hr pins {s3 with heap:=s3.heap.push {cls:=.type "slice",data:=.fields #[vl,vu,.none]}} σ H3 x v vl vu l u s3.heap.objs.size Q I4 r1 (Heap.IsSliceOf.new ..) pl pu q3;show wpAny (model X.prog X.w) X.A (subscriptTail e (.Slice lo hi none p2) v (.ref s3.heap.objs.size)) (EP X pins σ Q) X.xe {s3 with heap:=s3.heap.push {cls:=.type "slice",data:=.fields #[vl,vu,.none]}};exact tail_any (ops:=[.ref s3.heap.objs.size,v]) ht hT hg (by with_unfolding_all rfl)
def ot(xs:List V)(lo hi:Option Int):List V:=(xs.drop (HT.hG xs.length 0 lo)).take (HT.hG xs.length xs.length hi-HT.hG xs.length 0 lo)
theorem U2(xs:List V)(lo hi:Option Int):(ot xs lo hi).length≤xs.length:=by unfold ot;rw [mh,zN];lia
def U3(K:aD):R2:=fun x y H Q=>∃a b xs ys,x=.ref a∧y=.ref b∧eK K H a xs∧eK K H b ys∧xs≠[]∧xs.length+ys.length≤sizeLine ∧
 (ys=[]→Q (.ref a) H)∧(ys≠[]→∀p,H p=none→Q (.ref p) (upd H p (.tup (xs++ys))))
theorem Vals.C2{xs:List V}{us:List Value}(r:Vals xs us):us=[]↔xs=[]:=by
 cases r with
 | nil=>simp
 | cons _ _=>simp
theorem U4:dr X (binaryOp .Add) (U3 X.K):=by
 intro pins s σ H x y v u Q I rx ry h;obtain ⟨a,b,xs,ys,rfl,rfl,ha,hb,hx,hz,q1,q2⟩:=h;cases rx;cases ry;obtain ⟨its,r1,p1,_⟩:=I.tuple ha;obtain ⟨jL,r2,p2,_⟩:=I.tuple hb;refine HT.UW p1 p2 (fun z=>hx (r1.C2.mp z)) (fun z=>⟨.ref a,H,I,rfl,q1 (r2.C2.mp z)⟩) (fun z=>?_) (by rw [←r1.length,←r2.length];exact hz)
 refine ⟨.ref s.heap.objs.size,_,I.laid (t':=s.toks) (o:=.tup (xs++ys)) (fun b ob q=>b_ _ q) (au _) ?_,rfl,q2 (fun w=>z (r2.C2.mpr w)) _ (I.aw.fresh (au _))⟩;exact ⟨by rw [cW];exact hz,_,r1.append r2,IsTup.new _ _⟩
end
def ou(n:Nat)(i:Int):Option Nat:=if 0≤i then (if i<n then some i.toNat else none) else if -(n:Int)≤i then some (i+n).toNat else none
def mP{α:Type}(xs:List α)(i:Int):Option α:=(ou xs.length i).bind fun j=>xs[j]?
variable {i:Int} {j:Nat}
theorem MP{n:Nat}(h:ou n i=some j):seqIndex? i n=some j∧j<n∧-(n:Int)≤i∧i<n:=by
 unfold ou at h;by_cases h0:0≤i
 ·rw [ae h0] at h
  by_cases h1:i<n
  ·rw [ae h1] at h
   have e:i.toNat=j:=Option.some.inj h;exact ⟨by rw [seqIndex_of h0 h1,e],by lia,by lia,h1⟩
  ·rw [aa h1] at h;cases h
 ·rw [aa h0] at h
  by_cases h1:-(n:Int)≤i
  ·rw [ae h1] at h
   have e:(i+n).toNat=j:=Option.some.inj h;exact ⟨by rw [seqIndex_neg (by lia) h1,e],by lia,h1,by lia⟩
  ·rw [aa h1] at h;cases h
theorem G1{α:Type}{xs:List α}{v:α}(h:mP xs i=some v):∃j,seqIndex? i xs.length=some j∧xs[j]?=some v∧j<xs.length∧-(xs.length:Int)≤i∧i<xs.length:=by
 unfold mP at h;cases e:ou xs.length i with
 | none=>rw [e] at h;cases h
 | some j=>rw [e] at h;obtain ⟨h1,h2,h3,h4⟩:=MP e;exact ⟨j,h1,h,h2,h3,h4⟩
theorem C3{α:Type}{xs:List α}{v:α}(h:xs[j]?=some v):mP xs (j:Int)=some v:=by
 have hj:j<xs.length:=(bV.mp h).1;have e:ou xs.length (j:Int)=some j:=by unfold ou;rw [ae (by lia),ae (by lia)];simp
 unfold mP;rw [e];exact h
def MQ(b:Expr):Prop:=∀o i,subscripted b false o i=operate [o,i] (getItem o i)
def wY(X:Cx)(r:R2):Prop:=
 ∀(value slice:Expr) (pins:aO) (s:Shared) (σ:St) (H:Hp) (x y:V) (v u:Value) (Q:VK),Inv X pins σ H s→RelV x v→RelV y u→r x y H Q→
  subscripted slice false v u=operate [v,u] (getItem v u)→wpAny (model X.prog X.w) X.A (subscriptTail value slice v u) (EP X pins σ Q) X.xe s
def G2(X:Cx)(id:String)(r:V→List V→Hp→VK→Prop):Prop:=
 ∀(pins:aO) (s:Shared) (σ:St) (H:Hp) (x:V) (xs:List V) (v:Value) (us:List Value) (Q:VK),Inv X pins σ H s→RelV x v→Vals xs us→r x xs H Q→
  wpAny (model X.prog X.w) X.A (call (.builtin id) (v::us)) (EP X pins σ Q) X.xe s
section
variable {X:Cx} {a b:Expr} {ta tb:TE} {pos:Pos}
variable {r:R2}
theorem U5(hr:wY X r)(ha:PE X a ta)(hb:PE X b tb)(hs:MQ b):PE X (.Subscript a b pos) (q8 r ta tb):=by intro pins s σ H Q I h;exact Subscript_ (GP ha hb I h fun v u s2 x y H2 I2 rx ry q=>hr a b pins s2 σ H2 x y v u Q I2 rx ry q (hs _ _))
theorem cy(hr:wY X r)(ha:PE X a ta)(hb:PE X b tb)(hs:MQ b:=by exact fun _ _=>rfl):PE X (.Subscript a b pos) (q8 r ta tb):=U5 hr ha hb hs
def MR(K:aD):R2:=fun x y H Q=>∃p xs i v,x=.ref p∧y=.int i∧a8 K H p xs∧mP xs i=some v∧Q v H
def MS(K:aD):R2:=fun x y H Q=>∃p xs i v,x=.ref p∧y=.int i∧eK K H p xs∧mP xs i=some v∧Q v H
theorem eY:wY X (MR X.K):=by
 intro value slice pins s σ H x y v u Q I rx ry h hs;obtain ⟨p,xs,i,z,rfl,rfl,hq,he,q⟩:=h;cases rx;obtain ⟨t,rfl⟩:=ry;obtain ⟨its,r,pl,hz⟩:=I.list hq;obtain ⟨j,h1,h2,h3,h4,h5⟩:=G1 he;obtain ⟨w,ew,gH⟩:=r.get h2;have hl:=r.length;have hn:=tD;have fin:EP X pins σ Q w s:=⟨z,H,I,gH,q⟩;by_cases h0:0≤i
 ·have hj:i.toNat=j:=by rw [seqIndex_of h0 h5] at h1;exact Option.some.inj h1
  exact item_listR pl.isList h0 (by lia) (by rw [hj];simpa using ew) fin hs
 ·have hj:(i+(its.toArray.size:Int)).toNat=j:=by
   rw [seqIndex_neg (by lia) h4] at h1
   rw [cf,←hl];exact Option.some.inj h1
  exact subscriptTail_builtinR (x:=w) pl.isList.typeIs slot_list_getitem.lookup
   (wpAny_getItem_list_neg (Q:=fun r s'=>r=w∧EP X pins σ Q r s') pl.isList (by lia) (by rw [cf] <;> lia) (by lia) (by rw [hj];simpa using ew) ⟨rfl,fin⟩) hs
theorem iI:wY X (MS X.K):=by
 intro value slice pins s σ H x y v u Q I rx ry h hs;obtain ⟨p,xs,i,z,rfl,rfl,hq,he,q⟩:=h;cases rx;obtain ⟨t,rfl⟩:=ry;obtain ⟨its,r,pl,hz⟩:=I.tuple hq;obtain ⟨j,h1,h2,h3,h4,h5⟩:=G1 he;obtain ⟨w,ew,gH⟩:=r.get h2;have hl:=r.length;have hn:=tD;have fin:EP X pins σ Q w s:=⟨z,H,I,gH,q⟩
 exact subscriptTail_builtinR (x:=w) pl.typeIs slot_tuple_getitem.lookup
  (getItem_tuple (j:=j) (Q:=fun r s'=>r=w∧EP X pins σ Q r s') pl (by lia) (by lia) (by rw [cf,←hl];exact h1) (by simpa using ew) ⟨rfl,fin⟩) hs
theorem U6(its:List Value)(n j:Nat)(u:Value):Obj.mapSeq (·.setIfInBounds j u) {cls:=.type "list",data:=.seq its.toArray n}={cls:=.type "list",data:=.seq (its.set j u).toArray n}:=by simp [Obj.mapSeq]
theorem Inv.lst{pins:aO}{σ:St}{H:Hp}{s:Shared}{p:Addr}{xs:List V}(I:Inv X pins σ H s)(h:H p=some (.lst xs)) :
  ∃(its:List Value) (n:Nat),Vals xs its∧s.heap.get? p=some {cls:=.type "list",data:=.seq its.toArray n}∧xs.length≤sizeLine:=by
 obtain ⟨z,its,n,r,e⟩:=I.aw p _ h;exact ⟨its,n,r,e,z⟩
variable {pins:aO} {σ:St} {H:Hp} {s:Shared}
theorem Inv.U7{p:Addr}{xs ys:List V}{its its':List Value}{n n':Nat}{f:Obj→Obj}(I:Inv X pins σ H s)(h:H p=some (.lst xs))
  (ho:s.heap.get? p=some {cls:=.type "list",data:=.seq its.toArray n}) (hf:f {cls:=.type "list",data:=.seq its.toArray n}={cls:=.type "list",data:=.seq its'.toArray n'}) (r:Vals ys its') (hz:ys.length≤sizeLine) (t:Nat) :
  Inv X pins σ (upd H p (.lst ys)) {s with heap:=s.heap.update p f,toks:=t}:=by
 have e:(s.heap.update p f).get? p=some {cls:=.type "list",data:=.seq its'.toArray n'}:=by rw [Heap.get?_update_self f ho (by rw [hf] <;> rfl),hf]
 refine I.write (x:=p) (e:=p) (by rw [h];trivial) (.inl rfl) (fun b u hb q=>(Gj _ _ (Ne.symm hb)).trans q) ⟨_,e⟩ ?_
 exact ⟨hz,its',n',r,e⟩
def U8:V→V→V→Hp→(Hp→Prop)→Prop:=fun o i v H Q=>∃p xs k j,o=.ref p∧i=.int k∧H p=some (.lst xs)∧ou xs.length k=some j∧Q (upd H p (.lst (xs.set j v)))
theorem set_list:GK X U8:=by
 intro pins s σ H o i v ov iv u Q I ro ri rv h;obtain ⟨p,xs,k,j,rfl,rfl,hp,hj,q⟩:=h;cases ro;obtain ⟨t,rfl⟩:=ri;obtain ⟨its,n,r,ho,hz⟩:=I.lst hp;obtain ⟨h1,h2,h3,h4⟩:=MP hj;have hl:=r.length;have hn:=tD;have I':Inv X pins σ (upd H p (.lst (xs.set j v))) {s with heap:=s.heap.update p (Obj.mapSeq (·.setIfInBounds j u))}:=
  I.U7 hp ho (U6 its n j u) (r.set rv j) (by rw [List.length_set];exact hz) s.toks
 by_cases h0:0≤k
 ·have hk:k.toNat=j:=by rw [seqIndex_of h0 h4] at h1;exact Option.some.inj h1
  exact PySem.W.ki_setAt ho h0 (by lia) (by rw [cf,←hl];exact h4) (by rw [hk];exact ⟨_,I',q⟩)
 ·have hk:(k+(its.toArray.size:Int)).toNat=j:=by
   rw [seqIndex_neg (by lia) h3] at h1
   rw [cf,←hl];exact Option.some.inj h1
  exact PySem.W.ki_setBack ho (by lia) (by rw [cf,←hl];exact h3) (by lia) (by rw [hk];exact ⟨_,I',q⟩)
theorem U9(lo hi:Option Int)(n:Nat):(sliceBounds lo hi none n).1=((HT.hG n 0 lo:Nat):Int)∧(sliceBounds lo hi none n).2.1=((HT.hG n n hi:Nat):Int)∧(sliceBounds lo hi none n).2.2=1:=by
 refine ⟨?_,?_,rfl⟩
 ·cases lo with
  | none=>simp [sliceBounds,HT.hG]
  | some i=>
   simp only [sliceBounds,HT.hG,Option.getD_none,show (1:Int)>0 by decide,kK]
   by_cases h:i<0;·simp only [h,kK] <;> lia
   ·simp only [h,ph] <;> lia
 ·cases hi with
  | none=>simp [sliceBounds,HT.hG]
  | some i=>
   simp only [sliceBounds,HT.hG,Option.getD_none,show (1:Int)>0 by decide,kK]
   by_cases h:i<0;·simp only [h,kK] <;> lia
   ·simp only [h,ph] <;> lia
theorem U_(its:List Value)(lo hi:Option Int):slicePick its.toArray lo hi none=((its.drop (HT.hG its.length 0 lo)).take (HT.hG its.length its.length hi-HT.hG its.length 0 lo)).toArray:=by obtain ⟨h1,h2,h3⟩:=U9 lo hi its.toArray.size;unfold slicePick;rw [h1,h2,h3];simp only [sliceRange_one,pick_run,cf] <;> rfl
def Va(K:aD):V→Option Int→Option Int→Hp→VK→Prop:=fun x lo hi H Q=>∃a xs,x=.ref a∧a8 K H a xs∧∀p,H p=none→Q (.ref p) (upd H p (.lst (ot xs lo hi)))
theorem G3:MO X (Va X.K):=by
 intro pins s σ H x v vl vu lo hi sl Q I rx hs pl pu h;obtain ⟨a,xs,rfl,hx,q⟩:=h;cases rx;obtain ⟨its,r,ht,hz⟩:=I.list hx;have hlen:=r.length;refine ⟨"list",_,slot_list_getitem.lookup,ht.isList.typeIs,?_⟩;refine wpAny_getItem_list_slice ht.isList hs pl pu .none (by simp) ?_ (by rw [cf] <;> lia)
 rw [U_,←hlen];refine ⟨.ref s.heap.objs.size,_,I.laid (t':=s.toks) (o:=.lst (ot xs lo hi)) (fun b ob q=>b_ _ q) (au _) ?_,rfl,q _ (I.aw.fresh (au _))⟩;exact ⟨bU (U2 xs lo hi) hz,_,0,(r.drop (HT.hG xs.length 0 lo)).take (HT.hG xs.length xs.length hi-HT.hG xs.length 0 lo),eh _ rfl⟩
def k7:V→Bool
 | .aI=>true
 | .bl _=>true
 | .int _=>true
 | .str _=>true
 | _=>false
def fm:V→V→Bool
 | .aI,.aI=>true
 | .bl a,.bl b=>a == b
 | .bl a,.int b=>(if a then 1 else 0) == b
 | .int a,.bl b=>a == (if b then 1 else 0)
 | .int a,.int b=>a == b
 | .str a,.str b=>a == b
 | _,_=>false
variable {y x:V} {u:Value}
theorem Ao{A:Around}{v:Value}(ry:RelV y u)(rx:RelV x v)(fy:k7 y=true)(fx:k7 x=true):SeqAt.EqAt A s u v (fm y x):=by
 cases y with
 | aI=>
  cases ry;cases x with
  | aI=>cases rx;exact SeqAt.EqAt.same _
  | bl b=>cases rx;exact SeqAt.EqAt.none_bool b
  | int b=>obtain ⟨t,rfl⟩:=rx;exact SeqAt.EqAt.none_int b t
  | str b=>obtain ⟨t,rfl⟩:=rx;exact SeqAt.EqAt.none_str b t
  | _=>exact absurd (show false=true from fx) dR
 | bl a=>
  cases ry;cases x with
  | aI=>cases rx;exact SeqAt.EqAt.bool_none a
  | bl b=>cases rx;exact SeqAt.EqAt.bool_bool a b
  | int b=>obtain ⟨t,rfl⟩:=rx;exact SeqAt.EqAt.bool_int a b t
  | str b=>obtain ⟨t,rfl⟩:=rx;exact SeqAt.EqAt.bool_str a b t
  | _=>exact absurd (show false=true from fx) dR
 | int a=>
  obtain ⟨t',rfl⟩:=ry;cases x with
  | aI=>cases rx;exact SeqAt.EqAt.int_none a t'
  | bl b=>cases rx;exact SeqAt.EqAt.int_bool a t' b
  | int b=>obtain ⟨t,rfl⟩:=rx;exact SeqAt.EqAt.int_int a t' b t
  | str b=>obtain ⟨t,rfl⟩:=rx;exact SeqAt.EqAt.int_str a t' b t
  | _=>exact absurd (show false=true from fx) dR
 | str a=>
  obtain ⟨t',rfl⟩:=ry;cases x with
  | aI=>cases rx;exact SeqAt.EqAt.str_none a t'
  | bl b=>cases rx;exact SeqAt.EqAt.str_bool a t' b
  | int b=>obtain ⟨t,rfl⟩:=rx;exact SeqAt.EqAt.str_int a t' b t
  | str b=>obtain ⟨t,rfl⟩:=rx;exact SeqAt.EqAt.str_str a t' b t
  | _=>exact absurd (show false=true from fx) dR
 | _=>exact absurd (show false=true from fy) dR
def jh(x:V)(u:Value):Bool:=match u with
 | .none=>fm .aI x
 | .bool b=>fm (.bl b) x
 | .int i _=>fm (.int i) x
 | .str z _=>fm (.str z) x
 | _=>false
theorem MT(r:RelV y u)(f:k7 y=true):jh x u=fm y x:=by
 cases y with
 | aI=>cases r;rfl
 | bl b=>cases r;rfl
 | int i=>obtain ⟨t,rfl⟩:=r;rfl
 | str z=>obtain ⟨t,rfl⟩:=r;rfl
 | _=>exact absurd (show false=true from f) dR
theorem Ap{x:V}:∀{xs:List V} {us:List Value},Vals xs us→xs.all k7=true→us.any (jh x)=xs.any fun y=>fm y x
 | _,_,.nil,_=>rfl
 | y::xs,u::us,.cons r t,f=>by rw [List.all_cons,iS] at f;rw [qB,qB,MT r f.1,Ap t f.2]
theorem Aq{A:Around}{s:Shared}{x:V}{v:Value}(rx:RelV x v)(fx:k7 x=true):∀{xs:List V} {us:List Value},Vals xs us→xs.all k7=true→∀u∈us,SeqAt.EqAt A s u v (jh x u)
 | _,_,.nil,_=>fun u hu=>by cases hu
 | y::xs,u::us,.cons r t,f=>fun u' hu=>by
  rw [List.all_cons,iS] at f;rcases bb.mp hu with rfl | hu;·rw [MT r f.1];exact Ao r rx f.1 fx
  ·exact Aq rx fx t f.2 u' hu
def f_(x:V)(xs:List V):Bool:=xs.any fun y=>fm y x
def C4(K:aD)(neg:Bool):R2:=fun x y H Q=>∃p xs,y=.ref p∧(a8 K H p xs∨eK K H p xs)∧k7 x=true∧xs.all k7=true∧Q (.bl (if neg then !f_ x xs else f_ x xs)) H
theorem MU:dr X (compareOp .In) (C4 X.K false):=by
 intro pins s σ H x y v u Q I rx ry h;obtain ⟨p,xs,rfl,hq,fx,fs,q⟩:=h;cases ry;rcases hq with hq | hq
 ·obtain ⟨its,r,pl,hz⟩:=I.list hq
  refine SeqAt.in_listAt (jh x) pl.isList (fun w hw=>Aq rx fx r fs w (by simpa using hw)) ⟨.bl _,H,I,rfl,?_⟩
  rw [show its.toArray.any (jh x)=its.any (jh x) by simp,Ap r fs]
  exact q
 ·obtain ⟨its,r,pl,hz⟩:=I.tuple hq
  refine SeqAt.in_tupleAt (jh x) pl (fun w hw=>Aq rx fx r fs w (by simpa using hw)) ⟨.bl _,H,I,rfl,?_⟩
  rw [show its.toArray.any (jh x)=its.any (jh x) by simp,Ap r fs]
  exact q
theorem Vb:dr X (compareOp .NotIn) (C4 X.K true):=by
 intro pins s σ H x y v u Q I rx ry h;obtain ⟨p,xs,rfl,hq,fx,fs,q⟩:=h;cases ry;rcases hq with hq | hq
 ·obtain ⟨its,r,pl,hz⟩:=I.list hq
  refine SeqAt.notIn_listAt (jh x) pl.isList (fun w hw=>Aq rx fx r fs w (by simpa using hw)) ⟨.bl _,H,I,rfl,?_⟩
  rw [show its.toArray.any (jh x)=its.any (jh x) by simp,Ap r fs]
  exact q
 ·obtain ⟨its,r,pl,hz⟩:=I.tuple hq
  refine SeqAt.notIn_tupleAt (jh x) pl (fun w hw=>Aq rx fx r fs w (by simpa using hw)) ⟨.bl _,H,I,rfl,?_⟩
  rw [show its.toArray.any (jh x)=its.any (jh x) by simp,Ap r fs]
  exact q
theorem ke:gr X (.builtin "len") (fun xs H Q=>∃p ys,xs=[.ref p]∧(a8 X.K H p ys∨eK X.K H p ys)∧Q (.int ys.length) H):=by
 intro pins s σ H xs us Q I r h;obtain ⟨p,ys,rfl,hq,q⟩:=h;obtain ⟨u,rfl,rx⟩:=vals1 r;cases rx;have hn:=tD;rcases hq with hq | hq
 ·obtain ⟨its,r',pl,hz⟩:=I.list hq
  have hlen:=r'.length;exact Calls.call_len_list pl.isList (by simp only [cf] <;> lia) ⟨.int ys.length,H,I.tok _,⟨s.toks+1,by rw [cf,hlen]⟩,q⟩
 ·obtain ⟨its,r',pl,hz⟩:=I.tuple hq
  have hlen:=r'.length;exact len_tuple pl (by simp only [cf] <;> lia) ⟨.int ys.length,H,I.tok _,⟨s.toks+1,by rw [cf,hlen]⟩,q⟩
theorem Vc:gr X (.type "list") (fun xs H Q=>∃p ys,xs=[.ref p]∧(a8 X.K H p ys∨eK X.K H p ys)∧∀l,H l=none→Q (.ref l) (upd H l (.lst ys))):=by
 intro pins s σ H xs us Q I r h;obtain ⟨p,ys,rfl,hq,q⟩:=h;obtain ⟨u,rfl,rx⟩:=vals1 r;cases rx
 have fin:∀(its:List Value),Vals ys its→ys.length≤sizeLine→∀(h':Heap) (c':Nat),(∀b o',s.heap.get? b=some o'→h'.get? b=some o')→
   h'.get? s.heap.objs.size=some {cls:=.type "list",dict:=none,data:=.seq its.toArray c',slots:=#[]}→EP X pins σ Q (.ref s.heap.objs.size) {s with heap:=h'}:=fun its r' hz h' c' kp e=>
  ⟨.ref s.heap.objs.size,_,I.laid (t':=s.toks) kp (au _) (show cK X.prog X.w _ h' _ (.lst ys) from ⟨hz,its,c',r',e⟩),rfl,q _ (I.aw.fresh (au _))⟩
 rcases hq with hq | hq
 ·obtain ⟨its,r',pl,hz⟩:=I.list hq
  have hlen:=r'.length;obtain ⟨o,ho,hc,n,hd⟩:=pl.isList;exact call_list_seq p (.inl rfl) ho hc hd (fun h' c' kp e=>fin its r' hz h' c' kp e) (by simp only [cf] <;> lia)
 ·obtain ⟨its,r',pl,hz⟩:=I.tuple hq
  have hlen:=r'.length;obtain ⟨o,ho,hc,n,hd⟩:=pl;exact call_list_seq p (.inr rfl) ho hc hd (fun h' c' kp e=>fin its r' hz h' c' kp e) (by simp only [cf] <;> lia)
theorem C5:gr X (.type "tuple") (fun xs H Q=>∃p ys,xs=[.ref p]∧((a8 X.K H p ys∧∀l,H l=none→Q (.ref l) (upd H l (.tup ys)))∨(eK X.K H p ys∧Q (.ref p) H))):=by
 intro pins s σ H xs us Q I r h;obtain ⟨p,ys,rfl,h⟩:=h;obtain ⟨u,rfl,rx⟩:=vals1 r;cases rx;rcases h with ⟨hq,q⟩ | ⟨hq,q⟩
 ·obtain ⟨its,r',pl,hz⟩:=I.list hq
  have hlen:=r'.length;refine call_tuple_list pl.isList (fun h' kp=>?_) (by simp only [cf] <;> lia)
  have I1:Inv X pins σ H {s with heap:=h'}:=I.kept (t':=s.toks) kp;have I2:Inv X pins σ (upd H h'.objs.size (.tup ys)) {s with heap:=h'.push {cls:=.type "tuple",data:=.seq its.toArray}}:=
   I1.laid (t':=s.toks) (fun b o e=>b_ _ e) (au _) (show cK X.prog X.w _ _ _ (.tup ys) from ⟨hz,its,r',IsTup.new _ _⟩)
  exact ⟨.ref h'.objs.size,_,I2,rfl,q _ (I1.aw.fresh (au _))⟩
 ·obtain ⟨its,r',pl,hz⟩:=I.tuple hq
  exact call_tuple_same pl ⟨.ref p,H,I,rfl,q⟩
def G4(K:aD)(T:String)(x:V)(H:Hp):Prop:=match x with
 | .str _=>T="str"
 | .int _=>T="int"
 | .ref p=>(T="list"∧∃xs,a8 K H p xs)∨(T="tuple"∧∃o,K.lookup p=some o∧o.cls=.type "tuple"∧o.dict=none) ∨
   (T="dict"∧((∃kvs,H p=some (.dK kvs))∨∃kvs,H p=some (.dT kvs)))∨(T="set"∧∃S n,H p=some (.set S n))
 | _=>False
theorem MV{T:String}{v:Value}(I:Inv X pins σ H s)(r:RelV x v)(ty:G4 X.K T x H) :
  s.TypeIs v T∧∀a,v=.ref a→∃ob,s.heap.get? a=some ob∧ob.dict=none:=by
 cases x with
 | str z=>obtain ⟨t,rfl⟩:=r;cases (show T="str" from ty);exact ⟨typeIs_str s z t,fun _ e=>nomatch e⟩
 | int i=>obtain ⟨t,rfl⟩:=r;cases (show T="int" from ty);exact ⟨typeIs_int s i t,fun _ e=>nomatch e⟩
 | ref p=>
  cases r;rcases ty with ⟨rfl,xs,hq⟩ | ⟨rfl,o,hk,hc,hd⟩ | ⟨rfl,hk⟩ | ⟨rfl,S,n,hk⟩
  ·obtain ⟨its,_,pl,_⟩:=I.list hq
   refine ⟨pl.isList.typeIs,fun a e=>?_⟩;cases e;obtain ⟨o,n,e,c,hd,_⟩:=pl;exact ⟨o,e,hd⟩
  ·refine ⟨⟨o,I.gq p o hk,hc⟩,fun a e=>?_⟩
   cases e;exact ⟨o,I.gq _ o hk,hd⟩
  ·have z:∃o,s.heap.get? p=some o∧o.ExactDict:=by
    rcases hk with ⟨kvs,hk⟩ | ⟨kvs,hk⟩
    ·obtain ⟨_,_,_,_,o,_,_,e,ex,_⟩:=I.aw p _ hk
     exact ⟨o,e,ex⟩
    ·obtain ⟨_,_,_,_,o,_,_,e,ex,_⟩:=I.aw p _ hk
     exact ⟨o,e,ex⟩
   obtain ⟨o,e,ex⟩:=z;refine ⟨⟨o,e,ex.1⟩,fun a e2=>?_⟩;cases e2;exact ⟨o,e,ex.2.1⟩
  ·obtain ⟨o,_,_,_,e,ex,_⟩:=I.aw p _ hk
   refine ⟨⟨o,e,ex.1⟩,fun a e2=>?_⟩;cases e2;exact ⟨o,e,ex.2.1⟩
 | _=>exact False.elim ty
def Vd(K:aD)(T:String)(r:V→List V→Hp→VK→Prop)(to:TE):TE:=fun σ H Q=>to σ H fun x H1=>G4 K T x H1∧r x [] H1 Q
def MW(K:aD)(T:String)(r:V→List V→Hp→VK→Prop)(to:TE)(t:TA):TE:=fun σ H Q=>to σ H fun x H1=>G4 K T x H1∧t σ H1 fun xs H2=>r x xs H2 Q
variable {o e:Expr} {es:List Expr} {to:TE} {t:TA} {name:Str} {apos gc:Pos} {T id:String} {r:V→List V→Hp→VK→Prop}
theorem Ve(pa:PlainAttrs T)(slot:Slot T name id)(Ar:typeOf (.builtin id)=pure (.type "method_descriptor"))(hm:G2 X id r)(ho:PE X o to)
  (As:attributeBase o name X.env (eval o X.env)=eval o X.env:=by rfl) (Au:(apos.endLine == gc.line)=true:=by rfl):PE X (.Call (.Attribute o name apos) [] [] gc) (Vd X.K T r to):=by
 intro pins s σ H Q I h;refine wpAny_Call_method0_late As Au (aH (ho pins s σ H _ I h) fun v s1 ⟨x,H1,I1,r1,ty,q1⟩=>?_);obtain ⟨h1,h2⟩:=MV I1 r1 ty;exact ⟨T,id,pa,slot,Ar,h1,h2,Calls.callWith_builtin rfl (PySem.evalArgs_none (hm pins s1 σ H1 x [] v [] Q I1 r1 .nil q1))⟩
theorem jM(pa:PlainAttrs T)(slot:Slot T name id)(Ar:typeOf (.builtin id)=pure (.type "method_descriptor"))(hm:G2 X id r)(ho:PE X o to)(ha:PA X (e::es) t)
  (As:attributeBase o name X.env (eval o X.env)=eval o X.env:=by rfl)
  (G5:((backTo gc (starEach (e::es) X.env)).all (fun x=>!x.1) && (backToKw gc (keywordEach [] X.env)).all (fun x=>x.1.isSome)
   && decide ((e::es).length+([]:List Keyword).length+(if ([]:List Keyword).isEmpty then 0 else 1)<30))=true:=by rfl)
  (Au:(apos.endLine == gc.line)=true:=by rfl) (hs:starEach (e::es) X.env=(false,eval e X.env)::starEach es X.env:=by rfl) (G6:(backTo gc (starEach es X.env)).any (·.1)=false:=by rfl) :
  PE X (.Call (.Attribute o name apos) (e::es) [] gc) (MW X.K T r to t):=by
 intro pins s σ H Q I h;refine wpAny_Call_method_late As G5 Au rfl (aH (ho pins s σ H _ I h) fun v s1 ⟨x,H1,I1,r1,ty,q1⟩=>?_);obtain ⟨h1,h2⟩:=MV I1 r1 ty;refine ⟨T,id,pa,slot,Ar,h1,h2,?_⟩;have hA:=ha gc pins s1 σ H1 _ I1 q1;rw [hs] at hA ⊢;refine Calls.callWith_builtin (by show (false || (backTo gc (starEach es X.env)).any (·.1))=false;rw [G6] <;> rfl) (Calls.evalArgs_plain ?_)
 exact aH hA fun us s2 ⟨vs,H2,I2,r2,q2⟩=>hm pins s2 σ H2 x vs v us Q I2 r1 r2 q2
end
def wZ(X:Cx)(id:String)(r:V→List V→Hp→VK→Prop):Prop:=
 ∀(pins:aO) (s:Shared) (σ:St) (H:Hp) (x:V) (xs:List V) (v:Value) (us:List Value) (Q:VK),Inv X pins σ H s→RelV x v→Vals xs us→r x xs H Q→
  wpAny (model X.prog X.w) X.A (call (.builtin id) (v::us)) (EP X pins σ Q) X.xe s
theorem Vals.one:∀{x:V} {us:List Value},Vals [x] us→∃u,us=[u]∧RelV x u
 | _,_,.cons r .nil=>⟨_,rfl,r⟩
theorem Vals.zero:∀{us:List Value},Vals [] us→us=[]
 | _,.nil=>rfl
variable {xs:List V} {us:List Value}
theorem Vals.dropLast(h:Vals xs us):Vals xs.dropLast us.dropLast:=by
 induction h with
 | nil=>exact .nil
 | cons r t ih=>
  cases t with
  | nil=>exact .nil
  | cons q t'=>exact .cons r ih
theorem Vals.eraseIdx:∀{xs:List V} {us:List Value} (i:Nat),Vals xs us→Vals (xs.eraseIdx i) (us.eraseIdx i)
 | _,_,_,.nil=>.nil
 | _,_,0,.cons _ t=>t
 | _,_,i+1,.cons r t=>.cons r (Vals.eraseIdx i t)
theorem Vals.reverse(h:Vals xs us):Vals xs.reverse us.reverse:=by
 induction h with
 | nil=>exact .nil
 | cons r t ih=>rw [List.reverse_cons,List.reverse_cons];exact Vals.append ih (.cons r .nil)
theorem Vals.rep{xs:List V}{us:List Value}(h:Vals xs us):∀k:Nat,Vals (List.replicate k xs).flatten (List.replicate k us).flatten
 | 0=>.nil
 | k+1=>by rw [qC,qC,vS,vS];exact Vals.append h (Vals.rep h k)
variable {α:Type}
theorem Vf(l:List α):l.eraseIdx (l.length-1)=l.dropLast:=by
 induction l with
 | nil=>rfl
 | cons a r ih=>
  cases r with
  | nil=>rfl
  | cons b r=>
   have e:(a::b::r).length-1=((b::r).length-1)+1:=by have h1:(a::b::r).length=r.length+2:=rfl;have h2:(b::r).length=r.length+1:=rfl;lia
   rw [e,List.eraseIdx_cons_succ,ih]
   all_goals rfl
theorem G7{α:Type}:∀(l:List α) (i:Nat),(l.eraseIdx i).length≤l.length
 | [],_=>au _
 | _::_,0=>pj _
 | _::r,i+1=>Nat.succ_le_succ (G7 r i)
theorem foldl_rep(its:List Value):∀(k:Nat) (acc:List Value),
  List.foldl (fun x1 x2=>x1++x2) acc.toArray (List.replicate k its.toArray)=(acc++(List.replicate k its).flatten).toArray
 | 0,acc=>by simp
 | k+1,acc=>by
  have e:acc.toArray++its.toArray=(acc++its).toArray:=by simp
  have e2:(acc++its)++(List.replicate k its).flatten=acc++(List.replicate (k+1) its).flatten:=by rw [qC,vS,gD]
  rw [←e2,←foldl_rep its k (acc++its),←e,qC,List.foldl_cons]
section
variable {X:Cx} {pins:aO} {σ:St} {H:Hp} {s:Shared} {l b:Addr} {xs ys zs:List V}
variable {its:List Value} {n t':Nat}
theorem Inv.Av{its':List Value}{f:Array Value→Array Value}(I:Inv X pins σ H s)(hH:H l=some (.lst xs))
  (e:s.heap.get? l=some {cls:=.type "list",data:=.seq its.toArray n}) (hf:f its.toArray=its'.toArray) (hv:Vals ys its') (hz:ys.length≤sizeLine) :
  Inv X pins σ (upd H l (.lst ys)) {s with heap:=s.heap.update l (Obj.mapSeq f),toks:=t'}:=by
 have q:=PySem.IsL.update e f;rw [hf] at q;refine I.write (x:=l) (e:=l) (by rw [hH];exact trivial) (.inl rfl) (fun b' u hb hu=>(Gj s.heap (Obj.mapSeq f) (Ne.symm hb)).trans hu) ⟨_,q⟩ ?_
 exact ⟨hz,its',_,hv,q⟩
theorem Inv.MX(I:Inv X pins σ H s)(hv:Vals ys its)(hz:ys.length≤sizeLine) :
  Inv X pins σ (upd H s.heap.objs.size (.lst ys)) {s with heap:=s.heap.push {cls:=.type "list",data:=.seq its.toArray},toks:=t'}:=
 I.laid (fun _ _ q=>b_ _ q) (au _) ⟨hz,its,0,hv,eh _ rfl⟩
theorem Inv.fresh(I:Inv X pins σ H s):H s.heap.objs.size=none:=I.aw.fresh (au _)
theorem Inv.oz(I:Inv X pins σ H s)(hH:H l=some (.lst xs)):xs.length≤sizeLine∧∃(its:List Value) (n:Nat),Vals xs its∧xs.length=its.length∧s.heap.get? l=some {cls:=.type "list",data:=.seq its.toArray n}:=by obtain ⟨z,its,n,r,e⟩:=I.aw l _ hH;exact ⟨z,its,n,r,r.length,e⟩
theorem MY(h:n≤sizeLine):Builtin.List.listTooLong n=false:=by unfold Builtin.List.listTooLong;exact bY (by lia)
end
section
variable {X:Cx}
def Vg:V→List V→Hp→VK→Prop:=fun x vs H Q=>∃l xs y,x=.ref l∧vs=[y]∧H l=some (.lst xs)∧xs.length<sizeLine∧Q .aI (upd H l (.lst (xs++[y])))
theorem k8:wZ X "list.append" Vg:=by
 intro pins s σ H x vs v us Q I rx rv h;obtain ⟨l,xs,y,rfl,rfl,hH,hz,q⟩:=h;cases rx;obtain ⟨u,rfl,ru⟩:=rv.one;obtain ⟨z,its,n,r,hl,e⟩:=I.oz hH;refine qD F.slot_list_append ⟨_,e,rfl⟩ F.entry_list_append (F.args_list_append_2 _ _) (PySem.list_append l its.toArray n u (by rw [cf];lia)) ⟨e,?_⟩
 refine ⟨.aI,_,I.Av (its':=its++[u]) hH e (by simp) (r.append (.cons ru .nil)) ?_,rfl,q⟩
 rw [cW,nQ];lia
def Vh:V→List V→Hp→VK→Prop:=fun x vs H Q=>∃l b xs zs,x=.ref l∧vs=[.ref b]∧H l=some (.lst xs)∧H b=some (.lst zs)∧xs.length+zs.length≤sizeLine∧Q .aI (upd H l (.lst (xs++zs)))
theorem Vi:wZ X "list.extend" Vh:=by
 intro pins s σ H x vs v us Q I rx rv h;obtain ⟨l,b,xs,zs,rfl,rfl,hH,hB,hz,q⟩:=h;cases rx;obtain ⟨u,rfl,ru⟩:=rv.one;cases ru;obtain ⟨z,its,n,r,hl,e⟩:=I.oz hH;obtain ⟨z2,jL,n2,r2,Vj,e2⟩:=I.oz hB;have hsz:its.toArray.size+jL.toArray.size≤sizeLine:=by rw [cf,cf];lia
 have G8:¬(!its.toArray.isEmpty && Builtin.List.listTooLong (its.toArray.size+jL.toArray.size))=true:=by rw [MY hsz,Bool.and_false];exact dR
 refine qD F.slot_list_extend ⟨_,e,rfl⟩ F.entry_list_extend (F.args_list_extend_2 _ _)
  (AutoSeq1.list_extend_list_list_0 l its.toArray n b jL.toArray n2 G8 (by rw [cf];lia) (by lia)) ⟨e,e2,?_⟩
 refine ⟨.aI,_,I.Av (its':=its++jL) hH e (by simp) (r.append r2) ?_,rfl,q⟩
 rw [cW];lia
def Vk:V→List V→Hp→VK→Prop:=fun x vs H Q=>∃l xs y,x=.ref l∧vs=[]∧H l=some (.lst xs)∧xs[xs.length-1]?=some y∧Q y (upd H l (.lst xs.dropLast))
theorem Vl:wZ X "list.pop" Vk:=by
 intro pins s σ H x vs v us Q I rx rv h;obtain ⟨l,xs,y,rfl,rfl,hH,hy,q⟩:=h;cases rx;have mQ:=rv.zero;subst mQ;obtain ⟨z,its,n,r,hl,e⟩:=I.oz hH;obtain ⟨u,hu,ru⟩:=r.get hy;have Aw:its.toArray[its.toArray.size-1]?=some u:=by show its.toArray[its.length-1]?=some u;rw [←vT,←hl];exact hu
 refine qD F.slot_list_pop ⟨_,e,rfl⟩ F.entry_list_pop (F.args_list_pop_1 _) (MeetsSeq.list_pop_last l its.toArray n u Aw (by rw [cf];lia)) ⟨e,?_⟩
 refine ⟨y,_,I.Av (its':=its.dropLast) hH e ?_ r.dropLast ?_,ru,q⟩
 ·show its.toArray.eraseIdxIfInBounds (its.toArray.size-1)=its.dropLast.toArray
  rw [cf,Gk,Vf]
 ·rw [List.length_dropLast]
  lia
def Vm:V→List V→Hp→VK→Prop:=fun x vs H Q=>∃l xs i k y,x=.ref l∧vs=[.int i]∧H l=some (.lst xs)∧-(2 ^ 63)≤i∧i<2 ^ 63∧seqIndex? i xs.length=some k∧xs[k]?=some y∧Q y (upd H l (.lst (xs.eraseIdx k)))
theorem Vn:wZ X "list.pop" Vm:=by
 intro pins s σ H x vs v us Q I rx rv h;obtain ⟨l,xs,i,k,y,rfl,rfl,hH,h1,h2,hk,hy,q⟩:=h;cases rx;obtain ⟨u,rfl,ru⟩:=rv.one;obtain ⟨t,rfl⟩:=ru;obtain ⟨z,its,n,r,hl,e⟩:=I.oz hH;obtain ⟨w,hw,gH⟩:=r.get hy
 refine qD F.slot_list_pop ⟨_,e,rfl⟩ F.entry_list_pop (F.args_list_pop_2 _ _)
  (MeetsSeq.list_pop_at l its.toArray n i t k w (fitsIndex_both h1 h2) (by rw [cf,←hl];exact hk) (by rw [←vT];exact hw) (by rw [cf];lia)) ⟨e,?_⟩
 refine ⟨y,_,I.Av (its':=its.eraseIdx k) hH e ?_ (r.eraseIdx k) ?_,gH,q⟩
 ·show its.toArray.eraseIdxIfInBounds k=(its.eraseIdx k).toArray
  rw [Gk]
 ·have:=G7 xs k
  lia
def Vo:R2:=fun x y H Q=>∃l b xs zs,x=.ref l∧y=.ref b∧H l=some (.lst xs)∧H b=some (.lst zs)∧xs.length+zs.length≤sizeLine∧∀p,H p=none→Q (.ref p) (upd H p (.lst (xs++zs)))
theorem Ax:dr X (binaryOp .Add) Vo:=by
 intro pins s σ H x y v u Q I rx ry h;obtain ⟨l,b,xs,zs,rfl,rfl,hH,hB,hz,q⟩:=h;cases rx;cases ry;obtain ⟨z,its,n,r,hl,e⟩:=I.oz hH;obtain ⟨z2,jL,n2,r2,Vj,e2⟩:=I.oz hB;refine PySem.P.add_list e e2 ?_ (by rw [cf,cf];lia)
 have ea:its.toArray++jL.toArray=(its++jL).toArray:=by simp
 rw [ea];exact ⟨.ref _,_,I.MX (t':=s.toks) (r.append r2) (by rw [cW];lia),rfl,q _ I.fresh⟩
def Vp:R2:=fun x y H Q=>∃l k xs,x=.ref l∧y=.int k∧H l=some (.lst xs)∧-(2 ^ 63)≤k∧k<2 ^ 63∧xs.length*k.toNat≤sizeLine ∧
 ∀p,H p=none→Q (.ref p) (upd H p (.lst (List.replicate k.toNat xs).flatten))
theorem len_rep(xs:List α)(k:Nat):(List.replicate k xs).flatten.length=k*xs.length:=by
 induction k with
 | zero=>simp
 | succ k ih=>rw [qC,vS,cW,ih,Nat.succ_mul,Nat.add_comm]
theorem MZ:dr X (binaryOp .Mult) Vp:=by
 intro pins s σ H x y v u Q I rx ry h;obtain ⟨l,k,xs,rfl,rfl,hH,h1,h2,hz,q⟩:=h;cases rx;obtain ⟨t,rfl⟩:=ry;obtain ⟨z,its,n,r,hl,e⟩:=I.oz hH;have hlen:its.toArray.size*k.toNat≤sizeLine:=by rw [cf,←hl];exact hz
 have Vq:¬its.toArray.size*k.toNat>(2 ^ 63-1) / 8:=by
  have:(sizeLine:Nat)≤(2 ^ 63-1) / 8:=by decide
  lia
 have C6:¬(!Builtin.List.listFitsIndex k)=true:=by rw [fitsIndex_both h1 h2];exact dR
 have G8:¬Builtin.List.listTooLong (its.toArray.size*k.toNat)=true:=by rw [MY hlen];exact dR
 have Vr:List.foldl (fun x1 x2=>x1++x2) #[] (List.replicate (if its.toArray.isEmpty=true then 0 else k.toNat) its.toArray)=(List.replicate k.toNat its).flatten.toArray:=by
  have f0:∀m:Nat,List.foldl (fun x1 x2=>x1++x2) #[] (List.replicate m its.toArray)=(List.replicate m its).flatten.toArray:=fun m=>by have:=foldl_rep its m [];rw [List.nil_append] at this;exact this
  rw [f0];cases its with
  | nil=>simp
  | cons a r'=>rw [aa (by simp)]
 refine wpAny_binaryOp_repeat_ref (T:="list") (U:="int") (by decide) ⟨_,e,rfl⟩ (fun s'=>typeIs_int s' k t) noFill_list_mul F.fills_int_mul F.slot_int_rmul repeat_list F.slot_int_index.lookup
  (qD F.slot_int_rmul (typeIs_int s k t) F.entry_int_rmul (F.args_int_rmul_2 _ _) (int___rmul___int_list k t l its.toArray n)
   ⟨e,rfl,⟨_,e,rfl⟩,qD F.slot_list_mul ⟨_,e,rfl⟩ F.entry_list_mul (F.args_list_mul_2 _ _) (AutoListH.list___mul___list_int_3 l its.toArray n k t C6 Vq G8) ⟨e,?_⟩⟩)
 rw [Vr];exact ⟨.ref _,_,I.MX (t':=s.toks) (r.rep k.toNat) (by rw [len_rep,Nat.mul_comm];exact hz),rfl,q _ I.fresh⟩
end
section
variable {prog:Program} {w:World} {A:Around} {E:aF} {s:Shared}
end
section
variable {X:Cx}
end
end L2
namespace Att
open PySem PySem.W PySem.Calls PyProof.Rows
variable {P:Params} {h:Heap}
theorem Vs:∀(ns:List Int) (vs:List Value),WellAll P h vs (ns.map WData.int)→IntsAre vs ns:=by
 intro ns
 induction ns with
 | nil=>intro vs w;rw [vR] at w;cases w;exact .nil
 | cons n ns ih=>
  intro vs w;rw [cO] at w;cases w with
  | cons a b=>cases a;exact .cons _ _ (ih _ b)
variable {l:OpenLaw} {n:Nat}
theorem Vt(hn:l.most=some n){args:List WData}{vals:List Value}
  (C7:l.row.toRowW.claim.pre args=true) (G9:WellAll P h vals args) :
  ∃a vs ns,vals=[Value.ref a]∧args=[WData.list (ns.map WData.int)]∧h.get? a=some {cls:=.type "list",data:=.seq vs.toArray}∧IntsAre vs ns∧ns.length≤n:=by
 have Vu:WShape.hasAll [] args [.list .int]=true:=(pre_splitW C7).1;have hc:l.pre.holds [] {args:=args}=true:=(pre_splitW C7).2;obtain ⟨d,r,rfl,h1,h2⟩:=hasAllW_cons Vu;obtain rfl:=hasAllW_nil h2;obtain ⟨xs,rfl,h3⟩:=hasW_list h1;obtain ⟨ns,rfl⟩:=items_int h3;have hlen:ns.length≤n:=by
  unfold OpenLaw.pre at hc;have h4:(WTm.not (.lt (.lit (.int (n:Int))) (.len (.arg 0)))).holds [] {args:=[.list (ns.map .int)]}=true:=by have h4:=(holds_andW hc).1;rw [hn] at h4;exact h4
  have h5:=condW_of h4 (w_not (w_lt w_lit (w_len_list (w_arg rfl))));rw [ay] at h5;refine Nat.le_of_not_lt fun q=>?_;have q':(n:Int)<((ns.length:Nat):Int):=by lia
  first
   | (rw [bu q'] at h5;exact absurd h5 (by decide))
   | (simp at h5;lia)
 cases G9 with
 | cons w1 w2=>
  cases w2;cases w1 with
  | list ho G_=>exact ⟨_,_,ns,rfl,rfl,ho,Vs ns _ G_,hlen⟩
theorem Vv(l:OpenLaw)(args:List WData):l.row.toRowW.claim.post args (.bool true) args=true:=
 postW_of (r:=l.row.toRowW) (X:=(true == true))
  (show WShape.has [] (.bool true) .bool=true by first | rfl | decide | simp [WShape.has,WShape.arms,WShape.armsAll])
  (show (WTm.eq .res (.lit (.bool true))).value [] {args:=args,res:=some (.bool true),after:=args}=some (.bool (true == true)) from w_eq_bool (w_res rfl) w_lit) rfl
theorem Vw{q:Program}{loose:List Str}{XP:(Str→Option Value)→Heap→Prop}{YP:World→Heap→Prop}{d:DefRec}
  (hn:l.most=some n) (Ay:d.params.defaults=[])
  (call:∀(w:World) (s₀ s₁:Shared) (mg mb:dq) (fa:Addr) (o:Obj) (pm cd doc:Value) (a:Addr) (vs:List Value) (ns:List Int),
   Ground q loose [] XP w s₀ mg mb s₁.heap→YP w s₁.heap→
   s₁.heap.get? fa=some o→o.data=.func (docDef d.name d.params d.body d.scope pm cd doc)→s₁.heap.CodeRec cd d.name→mg d.name=some (.ref fa)→
   s₁.heap.get? a=some {cls:=.type "list",data:=.seq vs.toArray}→IntsAre vs ns→ns.length≤n→s₁.gens = #[]→
   codeAny (model l.prog w) callerA (.call (.ref fa) ⟨[.ref a],[]⟩) (fun r s'=>r=.ok (.ret (.bool true))∧OldK s₁.heap s'.heap∧s'.os=s₁.os∧AllBare s'.gens) s₁) :
  WalkO q loose XP YP l.row.toRowW d [] (fun f vs=>PySem.call f vs):=by
 intro w s₀ s₁ mg mb G Y fa o pm cd doc dV kV ho hd fE hD Az hg args vals as C7 ahG hrd G9 hlo;obtain rfl:dV=.none:=Dflts.none hD Ay;obtain rfl:kV=.none:=Dflts.noKw hD;obtain ⟨a,vs,ns,rfl,rfl,Hi,hints,hlen⟩:=Vt hn C7 G9;refine enter_call (codeAny_mono (call w s₀ s₁ mg mb fa o pm cd doc a vs ns G Y ho (fd_plain hd) fE Az Hi hints hlen hg) fun r s' hq=>?_);obtain ⟨rfl,h2,h3,h4⟩:=hq;exact ⟨.inl ⟨.bool true,.bool true,[],rfl,fun _=>rfl,.bool true,Vv l _,fun _=>⟨List.Pairwise.nil,fun _ hm=>(nomatch hm)⟩⟩,h2,h3,h4⟩
section
variable {prog:Program} {w:World} {A:Around} {E:aF} {s:Shared} {K:Frag}
def tG(h:Heap):Heap:={h with objs:=#[]}
theorem Hj(h:Heap)(b:Addr):(tG h).get? b=none:=by
 cases e:(tG h).get? b with
 | none=>rfl
 | some o=>exact absurd (aU e) (mq _)
def ledger(h:Heap)(L d:Addr):List (Addr×Obj):=(List.range h.objs.size).filterMap fun a=>if a=L∨a=d then none else (h.get? a).map fun o=>(a,o)
variable {d:Addr}
theorem M0{L a:Addr}{o:Obj}:(a,o)∈ledger h L d↔a≠L∧a≠d∧h.get? a=some o:=by
 unfold ledger;rw [Cm];constructor
 ·rintro ⟨b,_,e⟩
  split at e
  ·cases e
  ·rename_i hb
   obtain ⟨o',ho,e'⟩:=Option.map_eq_some_iff.mp e;cases e';exact ⟨fun q=>hb (.inl q),fun q=>hb (.inr q),ho⟩
 ·rintro ⟨n1,n2,ho⟩
  refine ⟨a,aS.mpr (aU ho),?_⟩;rw [aa (show ¬(a=L∨a=d) from fun q=>q.elim n1 n2),ho] <;> rfl
theorem Vx{L:Addr}{od:Obj}(gJ:d≠L)(ho:h.get? d=some od):News (tG h) L h ([]++(d,od)::ledger h L d):=by
 rintro ⟨a,o⟩ hp;rcases bb.mp hp with e | hp
 ·cases e
  exact ⟨ho,gJ,Hj _ _⟩
 ·obtain ⟨n1,n2,e⟩:=M0.mp hp
  exact ⟨e,n1,Hj _ _⟩
theorem Vy{L:Addr}{m:dq}(n:h.Ns L m):Fr (tG h) L h m:=
 ⟨n,fun b o e=>(by rw [Hj] at e;cases e),bG _⟩
end
end Att
namespace L2
open PySem PySem.Spec PyProof.Rows
theorem M4:∀{vs:List Value} {ns:List Int},IntsAre vs ns→Vals (ns.map V.int) vs
 | _,_,.nil=>.nil
 | _,_,.cons n t h=>.cons ⟨t,rfl⟩ (M4 h)
abbrev M5 {K:aD} {h:Heap} (_:K.In h):PySem.W.Frag:=K
def AA(s:Stmt):Arguments:=match s with
 | .FunctionDef _ a _ _ _ _ _ _ _ _=>a
 | _=>{posonlyargs:=[],args:=[],vararg:=none,kwonlyargs:=[],kw_defaults:=[],kwarg:=none,defaults:=[]}
def oD(s:Stmt):List Stmt:=match s with
 | .FunctionDef _ _ b _ _ _ _ _ _ _=>b
 | _=>[]
def bH(s:Stmt):Scope:=match s with
 | .FunctionDef _ _ _ _ _ _ sc _ _ _=>sc
 | _=>{kind:=.function,names:=[],isGenerator:=false,isCoroutine:=false}
abbrev dE:jJ:=fun _ _ _ _ _ _=>False
abbrev E0:XK:=fun _ _ _=>False
theorem dc{X:Cx}:Passes dE X E0:=fun _ _ _ _ _ _ _ h=>h.elim
structure i3 (K:aD) (x qual:Str) (st:Stmt) (f:Addr) (fd:FuncData):Prop where
 ex:∃(oc:Value) (od:Option Addr) (kV doc pm:Value) (an:Option Addr) (cH ct:Value) (mM:Array (Option Value)),
  fd=PySem.W.fnOf x qual (AA st) (oD st) (bH st) .none kV doc pm an cH ct∧K.lookup f=some ⟨oc,od,.func fd,mM⟩∧PySem.W.codeIn K cH qual=true
 kp:PySem.W.keepIn K (.ref f)=true
abbrev a9 (K:aD) (x:Str) (st:Stmt) (f:Addr) (fd:FuncData):Prop:=i3 K x x st f fd
section
variable {P:Program} {w:World} {K:aD} {mg:dq} {base:Heap}
variable {x qual:Str} {f:Addr} {fd:FuncData} {N ps:List Str} {k:Nat} {sp:Sp}
theorem i3.ok{st:Stmt}(F:i3 K x qual st f fd)(S:cG N ps (bH st))(len:∀vs H Q E,sp vs H Q E→vs.length=ps.length)
  (mO:∀(cH:Value) (A:Around) (outer:List Env) (s:Shared) (H:Hp) (vs:List V) (Q:VK) (E:XK),fk k (A.deeper (envOfC qual (bH st) s.heap.objs.size f cH))→sp vs H Q E→
   ∃t,gE (k4 dE P w K mg base N qual (bH st) f cH A outer s H E).pM (oD st) t∧t {nx:=fun _ H'=>Q .aI H',rt:=Q} (start N vs) H):cu P w K mg base dE (k+1) f fd ps sp:=by
 obtain ⟨oc,od,kV,doc,pm,an,cH,ct,mM,rfl,lk,fE⟩:=F.ex;refine GV lk fE S len fun A outer s H vs Q E hr oq=>?_;obtain ⟨t,h,q⟩:=mO cH A outer s H vs Q E hr oq;exact ⟨t,h.pM,q⟩
theorem i3.ft{st:Stmt}(F:i3 K x qual st f fd)(S:cG N ps (bH st))
  (mO:∀(cH:Value) (A:Around) (outer:List Env) (s:Shared) (H:Hp) (vs:List V) (Q:VK) (E:XK),fk k (A.deeper (envOfC qual (bH st) s.heap.objs.size f cH))→sp vs H Q E→
   ∃t,gE (k4 dE P w K mg base N qual (bH st) f cH A outer s H E).pM (oD st) t∧t {nx:=fun _ H'=>Q .aI H',rt:=Q} (start N vs) H)
  (len:∀vs H Q E,sp vs H Q E→vs.length=ps.length:=by intro vs H Q E h;repeat first | (obtain ⟨rfl,_⟩:=h;rfl) | (subst h;rfl) | obtain ⟨_,h⟩:=h):cu P w K mg base dE (k+1) f fd ps sp:=F.ok S len mO
theorem i3.binds{st:Stmt}(F:i3 K x qual st f fd)
  (h:∀(kV doc pm:Value) (an:Option Addr) (cH ct:Value) (us:List Value),us.length=ps.length→bindArgs (PySem.W.fnOf x qual (AA st) (oD st) (bH st) .none kV doc pm an cH ct) ⟨us,[]⟩=pure (ps.zip us)):Binds K fd ps []:=by
 obtain ⟨oc,od,kV,doc,pm,an,cH,ct,mM,rfl,lk,fE⟩:=F.ex;exact .all (h kV doc pm an cH ct)
theorem i3.cI{st:Stmt}(F:i3 K x qual st f fd)
  (h:∀(kV doc pm:Value) (an:Option Addr) (cH ct:Value) (us:List Value),us.length=ps.length→bindArgs (PySem.W.fnOf x qual (AA st) (oD st) (bH st) .none kV doc pm an cH ct) ⟨us,[]⟩=pure (ps.zip us):=by intro _ _ _ _ _ _ us hl;rcases us with _ | ⟨_,_ | ⟨_,_ | ⟨_,_ | ⟨_,_ | ⟨_,_ | ⟨_,_ | ⟨_,_⟩⟩⟩⟩⟩⟩⟩ <;> first | rfl | (simp at hl;done)):Binds K fd ps []:=F.binds h
theorem du{st:Stmt}{oc:Value}{od an:Option Addr}{mM:Array (Option Value)}{kV doc pm cH ct:Value}(l:K.lookup f=some ⟨oc,od,.func (PySem.W.fnOf x qual (AA st) (oD st) (bH st) .none kV doc pm an cH ct),mM⟩)
  (c:PySem.W.codeIn K cH qual=true) (k:PySem.W.keepIn K (.ref f)=true):i3 K x qual st f (PySem.W.fnOf x qual (AA st) (oD st) (bH st) .none kV doc pm an cH ct):=⟨⟨oc,od,kV,doc,pm,an,cH,ct,mM,rfl,l,c⟩,k⟩
end
theorem cV{n:Nat}(h:n≤1000):n<sizeLine:=iT h (by decide)
section
variable {X:Cx}
theorem pv(i:Nat){x:Str}{pos:Pos}(hN:X.N[i]?=some x:=by rfl)(hv:sO X.env.scope x:=by first | exact Or.inl rfl | exact Or.inr (Or.inl rfl) | exact Or.inr (Or.inr rfl))(hd:(x == ("__debug__":Str))=false:=by decide)
  (fE:(x == ("__classdict__":Str))=false:=by decide):PE X (.Name x pos) (Md i):=Tx hN hv hd fE
end
variable {A B:Prop}
theorem k_(h:B):if false=true then A else B:=by rw [aa dR];exact h
theorem Hk(h:A):if true=true then A else B:=by rw [ae rfl];exact h
theorem d9{c:Prop}[Decidable c](h1:c→A)(h2:¬c→B):if c then A else B:=by
 by_cases h:c
 ·rw [ae h]
  exact h1 h
 ·rw [aa h]
  exact h2 h
def af(H H':Hp):Prop:=∀b o,H b=some o→H' b=some o
theorem af.refl(H:Hp):af H H:=fun _ _ h=>h
variable {H:Hp}
theorem af.trans{H1 H2:Hp}(a:af H H1)(b:af H1 H2):af H H2:=fun c o h=>b c o (a c o h)
theorem af.seq{K:aD}{H':Hp}{a:Addr}{xs:List V}(e:af H H')(h:a8 K H a xs):a8 K H' a xs:=by
 rcases h with (h | ⟨o,h⟩) | h;·exact .inl (.inl (e _ _ h))
 ·exact .inl (.inr ⟨o,e _ _ h⟩)
 ·exact .inr h
end L2
set_option maxHeartbeats 4000000
namespace L2
open PySem PySem.Spec PyProof.Rows
structure C8 (P:Program) (w:World) (outer:List Env) (H:Hp) (s:Shared) (H':Hp) (ea C:Addr) (B:Heap) (t:Addr) (s':Shared):Prop where
 os:s'.os=s.os
 bare:AllBare s'.gens
 fl:Heap.FlyingW B outer ea (.ref C) (.ref t) s'.heap
 aw:cR P w H' B
 kb:∀b o,s.heap.get? b=some o→H b=none→b∉cY outer→B.get? b=some o
 tb:∀b o,s.heap.get? b=some o→b∉cY outer→∃o',B.get? b=some o'
 sl:∀b o,s.heap.get? b=some o→H b=none→b∈cY outer→∃l,s'.heap.get? b=some {o with slots:=l}
 frh:∀b∈cY outer,H b=none
 Vz:∀b o,s.heap.get? b=some o→H b=none→H' b=none
 hE:∀b xs,H b=some (.tup xs)→H' b=some (.tup xs)
 iD:∀b o u,H b=some (.bE o u)→H' b=some (.bE o u)
 iE:∀b ps,H b=some (.dW ps)→∃more,H' b=some (.dW (ps++more))
def fG(P:Program)(w:World):jJ:=fun outer H s E e s'=>∃ea C H' B t,e=.ref ea∧C8 P w outer H s H' ea C B t s'∧E (.ref C) none H'
section
variable {P:Program} {w:World} {outer:List Env} {H H':Hp} {s s':Shared} {ea C t:Addr} {B:Heap}
def ExcAt(ea C:Addr)(h:Heap):Prop:=∃oe,h.get? ea=some oe∧oe.cls=.ref C∧PySem.W.notCls oe=true
def VA(ea C:Addr):HO:=.ext (ExcAt ea C)
end
section
variable {X:Cx} {pins:aO} {σ:St} {H H':Hp} {s s':Shared} {ea C t:Addr} {B:Heap}
structure w5 (X:Cx) (E:XK):Prop where
 j8:X.stack=X.env::X.outer
 fr:X.env.frame=some X.env.locals
 ex:X.ex=[]
 xe:X.xe=fun e s'=>wpAny (model X.prog X.w) X.A (leaving X.env e) (fun _ f9=>fG X.prog X.w X.outer X.H₀ X.s₀ E e f9) (fun e' f9=>fG X.prog X.w X.outer X.H₀ X.s₀ E e' f9) s'
theorem C9{env:Env}{outer:List Env}{L:Addr}(h:env.frame=some L):cY (env::outer)=L::cY outer:=by unfold cY;rw [Ci,h]
variable {E:XK}
theorem C8.leave(L:w5 X E)(I:Inv X pins σ H s)(f:C8 X.prog X.w X.stack H s H' ea C B t s'){h:Heap}(x:Heap.FlyingW B X.outer ea (.ref C) (.ref t) h)(up:s'.heap.UpToSlots h):C8 X.prog X.w X.outer X.H₀ X.s₀ H' ea C B t {s' with heap:=h}:=by
 have nL:∀b o,X.s₀.heap.get? b=some o→b≠X.env.locals:=fun b o e=>bZ (dQ (aU e) I.ok.above);have ns:∀b o,X.s₀.heap.get? b=some o→b∉cY X.outer→b∉cY X.stack:=fun b o e nb z=>by
  rw [L.j8,C9 L.fr] at z;rcases bb.mp z with z | z;·exact nL b o e z
  ·exact nb z
 have nx:∀b:Addr,b∉X.ex:=fun b z=>by rw [L.ex] at z;cases z
 refine ⟨f.os.trans I.os,f.bare,x,f.aw,fun b o e n nb=>?_,fun b o e nb=>?_,fun b o e n hb=>?_,I.ok.qT,fun b o e n=>?_,fun b xs e=>f.hE b xs (I.base.hE b xs e),fun b o u e=>f.iD b o u (I.base.iD b o u e),fun b ps e=>?_⟩;·exact f.kb b o (I.base.keep b o e n nb (nx b)) (I.base.free b o e n (nx b)) (ns b o e nb)
 ·obtain ⟨o',e'⟩:=I.base.there b o e (nx b)
  exact f.tb b o' e' (ns b o e nb)
 ·obtain ⟨l,q⟩:=I.base.slot b o e n hb (nx b)
  have hs:b∈cY X.stack:=by rw [L.j8,C9 L.fr];exact ck _ hb
  obtain ⟨l2,q2⟩:=f.sl b _ q (I.base.free b o e n (nx b)) hs;obtain ⟨_,o2,q3,nf⟩:=f.fl.2.2.1.mem hs;rw [q2] at q3;cases q3;obtain ⟨l3,q4⟩:=up b _ q2 nf;exact ⟨l3,q4⟩
 ·obtain ⟨o',e'⟩:=I.base.there b o e (nx b)
  exact f.Vz b o' e' (I.base.free b o e n (nx b))
 ·obtain ⟨m1,e1⟩:=I.base.iE b ps e
  obtain ⟨m2,e2⟩:=f.iE b _ e1;exact ⟨m1++m2,by rw [e2,Array.append_assoc]⟩
theorem oE:Passes (fG X.prog X.w) X (fun _ _ _=>False):=fun pins σ H s e s' I h=>by obtain ⟨_,_,_,_,_,_,_,q⟩:=h;exact q.elim
theorem lh(L:w5 X E):Passes (fG X.prog X.w) X E:=fun pins σ H s e s' I h=>by
 obtain ⟨ea,C,H',B,t,rfl,f,q⟩:=h;rw [L.xe];refine wpAny_leaves_onW (by rw [I.ok.frames,L.j8]) L.fr (by have z:=f.fl;rw [L.j8] at z;exact z) fun h' x up=>?_
 exact ⟨ea,C,H',B,t,rfl,f.leave L I x up,q⟩
end
variable {K:aD} {h:Heap}
theorem VB{C:Addr}{w6:List Value}{newId:String}(d8:K.In h)(hq:PySem.W.excIn K C w6 newId=true) :
  ∃bm N nm qn bs hdct sn sub ab col dd k0 k1 k2 k3 k5 mN,h.get? C=some (excClassObj nm qn C N bs bm hdct sn sub ab col dd k0 k1 k2 k3 k5 newId)∧h.Ns N mN∧mN "__init__"=none∧OwnTail h w6 bm∧PySem.W.mroIn K C=fun b=>some ((Value.ref C::bm).contains b):=by
 unfold PySem.W.excIn at hq
 split at hq
 ·rename_i w_ cls slt look
  split at hq
  ·rename_i CC rest a0 a1 a2 a3 nn a5 em es
   simp only [iS,beq_iff_eq,Bool.not_eq_true'] at hq;obtain ⟨⟨⟨⟨⟨e1,e2⟩,e3⟩,e4⟩,e5⟩,e6⟩:=hq;subst e1 e2;have VC:PySem.W.mroIn K CC=fun b=>some ((Value.ref CC::rest).contains b):=by
    funext b
    unfold PySem.W.mroIn PySem.W.clsIn;rw [look];simp [em]
   obtain ⟨c1,c2,c3,c4,c5,c6,c7,c8,c9,VD,c11⟩:=cls;dsimp only at em e3 e5 e6;subst em e3;have VE:slt = #[a0,a1,a2,a3,some (.builtin nn),a5]:=by obtain ⟨ll⟩:=slt;simp only at es;rw [es]
   subst VE;exact ⟨rest,c4,c1,c5,c2,c6,c7,c8,c9,VD,w_,a0,a1,a2,a3,a5,_,d8 _ _ look,.of_isNs (PySem.W.isNs_of_in d8 e5),PySem.W.nsMap_none_of_in d8 e5 e6,PySem.W.tail_of_in d8 e4,VC⟩
  ·cases hq
 ·cases hq
section
variable {X:Cx} {E:XK} {x:Str} {C:Addr} {np gc pos:Pos} {e:Expr} {es:List Expr} {ta:TA} {B newId VF:String} {w6:List Value}
def VG(C:Addr)(E:XK)(ta:TA):TS:=fun _ σ H=>ta σ H fun vs H1=>vs.length≤sizeLine∧E (.ref C) none H1
theorem M6(L:w5 X E)(hc:X.calm=true)(FB:ExcBaseFacts B newId VF w6)(hq:PySem.W.excIn X.K C w6 newId=true)(hg:Gl X x)(hm:X.mg x=some (.ref C))(ha:PA X (e::es) ta)
  (hs:starEach (e::es) X.env=(false,eval e X.env)::starEach es X.env:=by rfl) (hp:(backTo gc (starEach es X.env)).any (·.1)=false:=by rfl) (hd:(x == ("__debug__":Str))=false:=by decide) :
  PS X (.Raise (some (.Call (.Name x np) (e::es) [] gc)) none pos) (VG C E ta):=by
 intro pins s σ H D I h;obtain ⟨bm,N,nm,qn,bs,hdct,sn,sub,ab,col,dd,k0,k1,k2,k3,k5,mN,hC,hN,VH,T,_⟩:=VB I.ok.mod.d8 hq
 refine wpAny_Raise_call_subT (C:=C) (nm:=nm) (q:=qn) (N:=N) (bs:=bs) (bm:=bm) (hdct:=hdct) (sn:=sn) (sub:=sub) (ab:=ab) (col:=col) (dd:=dd) (k0:=k0) (k1:=k1) (k2:=k2) (k3:=k3) (k5:=k5) FB (mN:=mN) (T.hasType FB.hasBase) (I.ok.hd hc)
  (by rw [hs];show (false || (backTo gc (starEach es X.env)).any (·.1))=false;rw [hp];rfl) VH (GF I hg hm ⟨rfl,?_⟩ hd)
 have h1:=ha gc pins s σ H _ I h;rw [hs] at h1 ⊢;refine Calls.evalArgs_plain (aH h1 fun us s2 ⟨vs,H1,I1,r,hl,q⟩=>⟨rfl,by rw [←r.length];exact hl,I1.bk _ _ hC,hN.keeps I1.bk,T.keeps I1.bk,fun h' ea mk=>?_⟩)
 rw [L.xe];have nL:∀b o,X.s₀.heap.get? b=some o→b≠X.env.locals:=fun b o q=>bZ (dQ (aU q) I1.ok.above);have ns:∀b o,X.s₀.heap.get? b=some o→b∉cY X.outer→b∉cY X.stack:=fun b o q nb z=>by
  rw [L.j8,C9 L.fr] at z;rcases bb.mp z with z | z;·exact nL b o q z
  ·exact nb z
 have nx:∀b:Addr,b∉X.ex:=fun b z=>by rw [L.ex] at z;cases z
 have ff:s2.heap.FunFrames (PySem.W.hideAll s2.heap (cY X.stack)) (X.env::X.outer):=by have z:=I1.stack;rw [←L.j8];exact PySem.W.funFrames_hide z fun env he a hf=>Cm.mpr ⟨env,he,hf⟩
 refine wpAny_leaves_madeW (base:=PySem.W.hideAll s2.heap (cY X.stack)) (h:=s2.heap) (by rw [I1.ok.frames,L.j8]) L.fr (fun b o q=>PySem.W.of_hideAll _ q) ff mk fun h2 t fl _ _ up=>?_
 refine ⟨ea,C,H1,_,t,rfl,⟨I1.os,I1.bare,fl,fun a o e1=>?_,fun b o e1 n nb=>?_,fun b o e1 nb=>?_,fun b o e1 n hb=>?_,I1.ok.qT,fun b o e1 n=>?_,I1.base.hE,I1.base.iD,I1.base.iE⟩,q⟩
 ·refine (I1.aw a o e1).iY (fun b u hb e2=>Cg _ e2 fun z=>?_) (fun _ z=>z) fun _ _ z=>z
  have n0:=I1.wI b z;rcases hb with hb | hb
  ·subst hb
   rw [e1] at n0;cases n0
  ·rw [hb] at n0
   cases n0
 ·exact Cg _ (I1.base.keep b o e1 n nb (nx b)) (ns b o e1 nb)
 ·obtain ⟨o',e2⟩:=I1.base.there b o e1 (nx b)
  exact ⟨o',Cg _ e2 (ns b o e1 nb)⟩
 ·obtain ⟨l,e2⟩:=I1.base.slot b o e1 n hb (nx b)
  have tH:b∈cY X.stack:=by rw [L.j8,C9 L.fr];exact ck _ hb
  obtain ⟨_,o2,e3,nf⟩:=I1.stack.mem tH;rw [e2] at e3;cases e3;obtain ⟨l2,e4⟩:=up b _ (mk.keeps _ _ e2) nf;exact ⟨l2,e4⟩
 ·obtain ⟨o',e2⟩:=I1.base.there b o e1 (nx b)
  exact I1.base.free b o e1 n (nx b)
end
section
variable {X:Cx} {k:Nat} {f C:Addr} {fd:FuncData} {ps:List Str} {sp:Sp} {oo:List V} {ds:List Value} {x m:Str} {p pos apos:Pos} {e o:Expr} {es:List Expr} {ta:TE} {t:TA}
variable {te:TX} {i:Nat} {pos':Pos}
end
section
variable {X:Cx} {pins:aO} {σ:St} {H:Hp} {s:Shared} {ea:Addr}
end
section
variable {M:Model} {A:Around} {E:aF} {h:Heap} {g:Array GenState} {d:Drawn} {t:Nat} {os:OsState} {e:Addr} {oe:Obj} {Q:Bool→Shared→Prop}
variable {nm q nm' q':Str} {C N D N':Addr} {bs bm bs' bm':List Value} {hdct ahO:Bool} {sn sn':List Str} {sub ahQ:List Value} {ab ab':Bool} {col ahS:Option Bool} {dd rb:Option Addr} {k0 k1 k2 k3 k5 j0 j1 j2 j3 j5:Option Value} {newId ahT:String}
end
section
variable {X:Cx} {body:List Stmt} {b₀:Stmt} {ahU:List Stmt} {np ahV pos:Pos} {x n:Str} {D:Addr} {tb:TSX} {ts:TS} {w6:List Value} {newId:String} {i:Nat}
end
section
variable {P:Program} {w:World} {K:aD} {mg:dq} {base:Heap}
variable {x qual:Str} {f:Addr} {fd:FuncData} {N ps:List Str} {k:Nat} {sp:Sp}
theorem i3.VI{st:Stmt}(F:i3 K x qual st f fd)(S:cG N ps (bH st))(len:∀vs H Q E,sp vs H Q E→vs.length=ps.length)
  (mO:∀(cH:Value) (A:Around) (outer:List Env) (s:Shared) (H:Hp) (vs:List V) (Q:VK) (E:XK),fk k (A.deeper (envOfC qual (bH st) s.heap.objs.size f cH))→sp vs H Q E→
   w5 (k4 (fG P w) P w K mg base N qual (bH st) f cH A outer s H E) E→
   ∃t,gE (k4 (fG P w) P w K mg base N qual (bH st) f cH A outer s H E) (oD st) t∧t {nx:=fun _ H'=>Q .aI H',rt:=Q} (start N vs) H):cu P w K mg base (fG P w) (k+1) f fd ps sp:=by
 obtain ⟨oc,od,kV,doc,pm,an,cH,ct,mM,rfl,lk,fE⟩:=F.ex;exact GV lk fE S len fun A outer s H vs Q E hr oq=>mO cH A outer s H vs Q E hr oq ⟨rfl,rfl,rfl,rfl⟩
theorem i3.eN{st:Stmt}(F:i3 K x qual st f fd)(S:cG N ps (bH st))
  (mO:∀(cH:Value) (A:Around) (outer:List Env) (s:Shared) (H:Hp) (vs:List V) (Q:VK) (E:XK),fk k (A.deeper (envOfC qual (bH st) s.heap.objs.size f cH))→sp vs H Q E→
   w5 (k4 (fG P w) P w K mg base N qual (bH st) f cH A outer s H E) E→
   ∃t,gE (k4 (fG P w) P w K mg base N qual (bH st) f cH A outer s H E) (oD st) t∧t {nx:=fun _ H'=>Q .aI H',rt:=Q} (start N vs) H)
  (len:∀vs H Q E,sp vs H Q E→vs.length=ps.length:=by intro vs H Q E h;repeat first | (obtain ⟨rfl,_⟩:=h;rfl) | (subst h;rfl) | obtain ⟨_,h⟩:=h):cu P w K mg base (fG P w) (k+1) f fd ps sp:=F.VI S len mO
end
structure tI (K:aD) (C:Addr):Prop where
 ci:PySem.W.hasDictIn K C=true
 ga:PySem.W.findIn K (.ref C) "__getattribute__"=some (some (.builtin "BaseException.__getattribute__"))
 gn:PySem.W.findIn K (.ref C) "__getattr__"=some none
 ca:PySem.W.findIn K (.ref C) "__class__"=some (some (.builtin "object.__class__"))
 mo:PySem.W.mroIn K C (.type "object")=some true
 mb:PySem.W.mroIn K C (.type "BaseException")=some true
section
variable {prog:Program} {w:World} {A:Around} {E:aF} {h:Heap} {g:Array GenState} {d:Drawn} {t:Nat} {os:OsState} {K:aD} {a C:Addr} {o:Obj}
theorem VJ{R:Result→Shared→Prop}(d8:K.In h)(c:tI K C)(hx:h.get? a=some o)(hc:o.cls=.ref C)(hq:R (.ok (.ret (.ref C))) ⟨h,g,d,t,os⟩) :
  codeAny (model prog w) A (.call (.builtin "getset_descriptor.__get__") ⟨[.builtin "object.__class__",.ref a,.ref C],[]⟩) R ⟨h,g,d,t,os⟩:=by
 have M7:(⟨h,g,d,t,os⟩:Shared).TypeIs (.builtin "object.__class__") "getset_descriptor":=Gm;have L1:=PySem.W.looks_mroIn (M:=model prog w) d8 c.mo;have ow:=F.owner_object_class;refine codeAny_call_builtin F.slot_gs_get.plain F.entry_gs_get (F.slot_gs_get.check _ _ _ _ _ _ _ _ M7 (F.args_gs_get _ _ _) ?_)
 repeat (any_goals (first | assumption | (with_reducible refine zO hx ?_;rw [hc]) | (rw [ow];with_reducible refine L1.at ?_) | wp_step))
 refine ⟨Code.quiet_builtin _ (by decide +kernel),qE F.entry_object_class ?_⟩
 repeat (any_goals (first | assumption | (with_reducible refine zO hx ?_;rw [hc]) | wp_step))
variable {tk:Tok}
theorem VL{Q:Fin→Shared→Prop}(d8:K.In h)(c:tI K C)(hx:h.get? a=some o)(hc:o.cls=.ref C)(hq:Q (.done (.ret (.ref C))) ⟨h,g,d,t,os⟩) :
  wpAny (model prog w) A (Builtin.«object.__getattribute__» ⟨[.ref a,.str "__class__" tk],[]⟩) Q E ⟨h,g,d,t,os⟩:=by
 have M7:(⟨h,g,d,t,os⟩:Shared).TypeIs (.builtin "object.__class__") "getset_descriptor":=Gm;have L1:=PySem.W.looks_findIn (M:=model prog w) d8 c.ca;have f5:=Gm;have f6:=F.slot_gs_get.lookup;have f7:=F.slot_gs_set.lookup
 repeat (any_goals (first | assumption | (with_reducible refine zO hx ?_;rw [hc]) | with_reducible refine L1.at ?_ | wp_step))
 refine VJ d8 c hx hc ?_
 repeat (any_goals (first | assumption | wp_step))
theorem VM{M:Model}{nv:Value}{Q:Unit→Shared→Prop}(d8:K.In h)(c:tI K C)(hx:h.get? a=some o)(hc:o.cls=.ref C)(hq:Q () ⟨h,g,d,t,os⟩) :
  wpAny M A (checkBuiltinCall "BaseException.__getattribute__" ⟨[.ref a,nv],[]⟩) Q E ⟨h,g,d,t,os⟩:=by
 have hk:builtinKind "BaseException.__getattribute__"=some .slot:=by decide +kernel
 have hs:splitId "BaseException.__getattribute__"=some ("BaseException","__getattribute__"):=by decide +kernel
 have L1:=PySem.W.looks_mroIn (M:=M) d8 c.mb;have ha:=F.args_bexc_ga (.ref a) nv;simp only [checkBuiltinCall,hk,hs];refine ax ?_;unfold isInstance
 repeat (first | (with_reducible refine zO hx ?_;rw [hc]) | with_reducible refine L1.at ?_ | wp_step)
 exact hq
theorem VN{fill expr:Bool}{Q:aF}(d8:K.In h)(c:tI K C)(hx:h.get? a=some o)(hc:o.cls=.ref C)(hq:Q (.ref C) ⟨h,g,d,t,os⟩) :
  wpAny (model prog w) A (getAttrBy (.ref a) (.str "__class__" tk) fill expr) Q E ⟨h,g,d,t,os⟩:=by
 have f3:=F.attrBase_ValueError.ga.bind (.ref a);have z0:(expr && onTheHeap (Value.builtin "BaseException.__getattribute__"))=false:=by cases expr <;> rfl
 have z2:(Value.builtin "BaseException.__getattribute__" == Value.builtin "object.__getattribute__")=false:=by decide +kernel
 have z1:(onTheHeap (Value.ref C) && Value.builtin "BaseException.__getattribute__" == Value.builtin "object.__getattribute__")=false:=by rw [z2];rfl
 have L1:=PySem.W.looks_findIn (M:=model prog w) d8 c.ga;have L2:=PySem.W.looks_findIn (M:=model prog w) d8 c.gn
 repeat (any_goals (first | assumption | (with_reducible refine zO hx ?_;rw [hc]) | with_reducible refine L1.at ?_ | with_reducible refine L2.at ?_ | wp_step))
 refine codeAny_call_builtin F.attrBase_ValueError.ga.plain F.entry_bexc_ga (VM d8 c hx hc (VL d8 c hx hc ?_))
 repeat (any_goals (first | assumption | wp_step))
theorem VO{Q:Option Value→Shared→Prop}(d8:K.In h)(c:tI K C)(hx:h.get? a=some o)(hc:o.cls=.ref C)(hq:Q (some (.ref C)) ⟨h,g,d,t+1,os⟩) :
  wpAny (model prog w) A (getAttr? (.ref a) "__class__") Q E ⟨h,g,d,t,os⟩:=by
 unfold getAttr? getAttrBy?
 repeat (any_goals (first | assumption | with_reducible apply VN d8 c hx hc | wp_step))
theorem VP(c:tI K C):PySem.W.KitX K (.ref a) (.ref C) (ExcAt a C) where
 ty:=fun M h _ k=>by obtain ⟨oe,e1,e2,_⟩:=k;exact e2▸(PySem.W.Looks.ld e1).andThen .now
 it:=fun M h d8 _=>by
  obtain ⟨cd,hc,_⟩:=PySem.W.any_some c.ci;unfold PySem.W.clsIn at hc
  split at hc
  ·rename_i look
   intro A' Q' E' s' k q;unfold isType loadHead;exact ax (wpAny_loadPart (k _ _ (d8 _ _ look)) (bJ q))
  ·cases hc
 ne:=fun h tp dd its n sl d8 M8=>by
  obtain ⟨cd,hc,_⟩:=PySem.W.any_some c.ci;refine Bool.eq_false_iff.mpr fun q=>?_;have e:C=tp:=Value.ref.inj (beq_iff_eq.mp q);subst e;unfold PySem.W.clsIn at hc
  split at hc
  ·rename_i look
   have z:=(d8 _ _ look).symm.trans M8;cases z
  ·cases hc
 ca:=fun{prog w A E Q s} d8 k z=>by obtain ⟨oe,e1,e2,_⟩:=k;obtain ⟨h,g,d,t,os⟩:=s;exact VO d8 c e1 e2 z
end
def C_(a:Addr)(h:Heap):Prop:=∃o ep,h.get? a=some o∧o.ExactDict∧o.data=.dict #[] ep∧(a == sysModules)=false
theorem C_.Hl{a:Addr}(e:C_ a h):PySem.W.KitAt a "dict" h:=by obtain ⟨o,_,e,c,_⟩:=e;exact ⟨o,e,c.1⟩
def M9(a:Addr):HO:=.ext (C_ a)
inductive AB (K:aD) (H:Hp):V→Value→Prop where
 | of {x:V} {t:Value} (h:j_ K H x t):AB K H x t
 | exc {a C:Addr} (e:H a=some (VA a C)) (c:tI K C):AB K H (.ref a) (.ref C)
 | w_ {a:Addr} (e:H a=some (M9 a)):AB K H (.ref a) (.type "dict")
def M_:V→Value
 | .ty n=>.type n
 | .ref a=>.ref a
 | _=>.none
def VQ:V→Bool
 | .ty _=>true
 | .ref _=>true
 | _=>false
def VR(K:aD):List V→Hp→VK→Prop:=fun xs H Q=>∃x c t b,xs=[x,c]∧VQ c=true∧AB K H x t∧PySem.W.kitOne K t (M_ c)=some b∧Q (.bl b) H
theorem Hm{X:Cx}(hK:X.K=K:=by rfl):gr X (.builtin "isinstance") (VR K):=by
 intro pins s σ H xs us Q I r h;subst hK;obtain ⟨x,c,t,b,rfl,hc,ty,e,q⟩:=h;obtain ⟨u,cv,rfl,rx,rc⟩:=vals2 r;have ec:cv=M_ c:=by
  cases c with
  | ty n=>exact rc
  | ref a=>exact rc
  | _=>cases hc
 subst ec;cases ty with
 | of ty=>exact Ux I rx ty e fun tk=>⟨.bl b,H,I.tok tk,rfl,q⟩
 | @w_ a ea=>cases rx;obtain ⟨k,_,_⟩:=(show cK X.prog X.w H s.heap a (.ext (C_ a)) from I.aw a _ ea);exact jZ PySem.W.kitx_dict I.gq k.Hl e (fun z=>nomatch z) fun tk=>⟨.bl b,H,I.tok tk,rfl,q⟩
 | @exc a C ea cc=>cases rx;obtain ⟨k,_,_⟩:=(show cK X.prog X.w H s.heap a (.ext (ExcAt a C)) from I.aw a _ ea);exact jZ (VP cc) I.gq k e (fun z=>nomatch z) fun tk=>⟨.bl b,H,I.tok tk,rfl,q⟩
theorem boot_isinstance:bootBuiltins "isinstance"=some (.builtin "isinstance"):=by decide +kernel
theorem boot_min:bootBuiltins "min"=some (.builtin "min"):=by decide +kernel
theorem boot_max:bootBuiltins "max"=some (.builtin "max"):=by decide +kernel
theorem boot_int:bootBuiltins "int"=some (.type "int"):=by decide +kernel
theorem boot_bool:bootBuiltins "bool"=some (.type "bool"):=by decide +kernel
theorem boot_tuple:bootBuiltins "tuple"=some (.type "tuple"):=by decide +kernel
theorem boot_list:bootBuiltins "list"=some (.type "list"):=by decide +kernel
end L2
namespace My
open PySem L2
end My
namespace L2
open PySem PySem.Spec PyProof.Rows
abbrev Cx.bo (X:Cx) (N:List Str) (scope:Scope) (cl:List (Str×Addr)) (s₃:Shared) (H₃:Hp) (fp:List Addr):Cx:=
 {X with N:=N,s₀:=s₃,H₀:=H₃,env:=compEnvC scope cl s₃.heap.objs.size X.env,outer:=X.stack,stack:=X.stack,ex:=fp,fn:=fun _=>false,pn:=[],xe:=fun _ _=>False}
inductive oF (X:Cx):List Expr→TT→Prop where
 | nil:oF X [] (fun _ H Q=>Q true H)
 | one {c:Expr} {t:TT} (h:PT X c t):oF X [c] t
def jj(wi:TI)(ρ:St→St)(tt:TT)(te:TE):TE:=fun σ H Q=>wi σ H fun J H1=>∀D,H1 D=none→∃W:Nat→Nat→List V→Hp→Prop,(∃m,W 0 m [] (upd H1 D (.lst []))) ∧
 ∀i m ys Hc,W i m ys Hc→Hc D=some (.lst ys)∧((J.stop i Hc∧Q (.ref D) Hc)∨(J.go i Hc∧∀x H',J.dZ i Hc x H'→tt (some x::ρ σ) H' fun b H2=>
  if b=true then te (some x::ρ σ) H2 fun y H3=>H3 D=some (.lst ys)∧ys.length<sizeLine∧∃m',m'<m∧W (i+1) m' (ys++[y]) (upd H3 D (.lst (ys++[y]))) else ∃m',m'<m∧W (i+1) m' ys H2))
section
variable {X:Cx} {N:List Str} {scope:Scope} {cl:List (Str×Addr)} {x:Str} {px pos:Pos} {iter elt:Expr} {ifs:List Expr} {wi:TI} {ρ:St→St} {tt:TT} {te:TE}
structure Hn (X:Cx) (N:List Str) (scope:Scope) (cl:List (Str×Addr)) (x:Str) (ρ:St→St):Prop where
 AD:closureFor scope X.env=pure cl
 kind:scope.kind=.function
 AE:∀y∈scope.names,y.2≠.cell
 names:∀y∈scope.names,y.2=.local→scope.names.lookup y.1=some .local
 sub:∀p∈cl,X.env.cells.lookup p.1=some p.2
 has:∀y,((relabel scope X.env).names.lookup y=some .cell∨(relabel scope X.env).names.lookup y=some .free)→∃c,cl.lookup y=some c
 n0:N[0]?=some x
 nd:N.Nodup
 hx:scope.names.lookup x=some .local
 AF:∀(σ:St) (j:Nat) (v:V),(ρ σ)[j]?=some (some v)→∃(i:Nat) (y:Str),N[j+1]?=some y∧X.N[i]?=some y∧σ[i]?=some (some v)∧sO X.env.scope y∧(X.env.kindOf y=some .cell∨X.env.kindOf y=some .free)∧((relabel scope X.env).names.lookup y=some .cell∨(relabel scope X.env).names.lookup y=some .free)
 len:∀σ:St,σ.length=X.N.length→(ρ σ).length+1=N.length
theorem Na{names:List (Str×NameKind)}{cl:List (Str×Addr)}(h:(names.all fun q=>(q.2 != .cell && q.2 != .free) || (cl.lookup q.1).isSome)=true) :
  ∀y,(names.lookup y=some .cell∨names.lookup y=some .free)→∃c,cl.lookup y=some c:=fun y hy=>by
 have key:∀k:NameKind,(k != .cell && k != .free)=false→names.lookup y=some k→∃c,cl.lookup y=some c:=fun k hk e=>by have z:=pD.mp h (y,k) (nO e);rw [hk,Bool.false_or] at z;exact Option.isSome_iff_exists.mp z
 rcases hy with e | e;·exact key .cell rfl e
 ·exact key .free rfl e
theorem join_some{o:Option (Option V)}{v:V}(h:some o.join=some (some v)):o=some (some v):=by
 cases o with
 | none=>cases h
 | some o=>cases h;rfl
def Dg(X:Cx)(sc:Scope):List Str→List Nat→Prop
 | n::ns,i::is=>(X.N[i]?=some n∧sO X.env.scope n∧(X.env.kindOf n=some .cell∨X.env.kindOf n=some .free)∧((relabel sc X.env).names.lookup n=some .cell∨(relabel sc X.env).names.lookup n=some .free))∧Dg X sc ns is
 | _,[]=>True
 | [],_::_=>False
theorem Ho{X:Cx}{sc:Scope}:∀{ns:List Str} {is:List Nat},Dg X sc ns is→∀(σ:St) (j:Nat) (v:V),(is.map fun i=>σ[i]?.join)[j]?=some (some v)→∃(i:Nat) (n:Str),ns[j]?=some n∧X.N[i]?=some n∧σ[i]?=some (some v)∧sO X.env.scope n∧(X.env.kindOf n=some .cell∨X.env.kindOf n=some .free)∧((relabel sc X.env).names.lookup n=some .cell∨(relabel sc X.env).names.lookup n=some .free)
 | _,[],_,_,_,_,e=>by cases e
 | [],_::_,h,_,_,_,_=>h.elim
 | n::_,i::_,h,_,0,_,e=>⟨i,n,rfl,h.1.1,join_some e,h.1.2⟩
 | _::_,_::_,h,σ,j+1,v,e=>Ho h.2 σ j v e
theorem gK(is:List Nat)(h1:closureFor scope X.env=pure cl)(h:Dg X scope N.tail is:=by repeat' first | exact True.intro | refine And.intro ⟨rfl,Or.inr (Or.inl rfl),.inl rfl,.inl rfl⟩ ?_)(h2:scope.kind=.function:=by rfl)(h3:∀y∈scope.names,y.2≠.cell:=by decide +kernel)(h4:∀y∈scope.names,y.2=.local→scope.names.lookup y.1=some .local:=by decide +kernel)(h5:∀p∈cl,X.env.cells.lookup p.1=some p.2:=by repeat' first | exact List.forall_mem_nil _ | refine List.forall_mem_cons.mpr ⟨rfl,?_⟩)(h6:((relabel scope X.env).names.all fun q=>(q.2 != .cell && q.2 != .free) || (cl.lookup q.1).isSome)=true:=by rfl)(h7:N[0]?=some x:=by rfl)(h8:N.Nodup:=by decide +kernel)(h9:scope.names.lookup x=some .local:=by rfl)(hr:∀σ:St,ρ σ=is.map fun i=>σ[i]?.join:=by exact fun _=>rfl)(hl:is.length+1=N.length:=by rfl):Hn X N scope cl x ρ:=
 ⟨h1,h2,h3,h4,h5,Na h6,h7,h8,h9,fun σ j v e=>by rw [hr] at e;rw [←List.getElem?_tail];exact Ho h σ j v e,fun σ _=>by rw [hr,ay];exact hl⟩
theorem kg(B:Hn X N scope cl x ρ)(hc:X.calm=true)(hi:PI X (.Name x px) iter wi)(ht:∀s₃ H₃ fp,oF (X.bo N scope cl s₃ H₃ fp) ifs tt)(he:∀s₃ H₃ fp,PE (X.bo N scope cl s₃ H₃ fp) elt te)
  (hs:∀x,foldedSetIterable iter X.env x=pure x:=by intro _;rfl):PE X (.ListComp elt [⟨.Name x px,iter,ifs,0⟩] scope pos) (jj wi ρ tt te):=by
 intro pins s σ H Q I h
 rw [eval_ListComp]
 refine Co (use:=none) rfl hs B.AD B.kind B.names (aH (hi pins s σ H _ I h) fun v s1 h1=>aH h1 fun wQ s2 h2=>?_)
 obtain ⟨it,fp,tn,J,H2,rfl,I2,T,iF,f2,q2⟩:=h2
 have nD:H2 s2.heap.objs.size=none:=I2.aw.fresh (au _)
 obtain ⟨W,⟨m0,w0⟩,turn⟩:=q2 _ nD
 refine vU (zP B.AE (by intro y hy;simp at hy) (fun h₁ gM gN=>?_) B.kind)
 dsimp only at gM gN ⊢
 generalize hD:s2.heap.objs.size=D at nD w0 turn gM gN ⊢
 generalize jl:({s2 with heap:=s2.heap.push {cls:=.type "list",dict:=none,data:=.seq ([]:List Value).toArray}}:Shared)=s3
 have I3:Inv X pins σ (upd H2 D (.lst [])) s3:=by
  subst hD jl
  exact I2.laid (t':=s2.toks) (fun b u e=>b_ _ e) (au _) ⟨bG _,[],_,.nil,eh _ rfl⟩
 have e3:s3.heap=s2.heap.push {cls:=.type "list",dict:=none,data:=.seq ([]:List Value).toArray}:=by rw [←jl]
 have gO:∀b o,s2.heap.get? b=some o→s3.heap.get? b=some o:=fun b o e=>by rw [e3];exact b_ _ e
 rw [←e3] at gM gN ⊢
 have below:∀b o,s3.heap.get? b=some o→b≠s3.heap.objs.size:=fun b o e=>bZ (aU e)
 have eO:∀b o,s3.heap.get? b=some o→h₁.get? b=some o:=fun b o e=>gN.extBut b o (below b o e) (b_ _ e)
 have jm:∀b∈fp,∃o,s2.heap.get? b=some o∧∀v,o.data≠.cell v:=T.obj _ _ iF
 have tJ:∀b∈fp,b≠D:=fun b hb z=>by
  obtain ⟨o,e,_⟩:=jm b hb
  rw [z,←hD] at e
  exact absurd (aU e) (d6 _)
 have dM:∀y c,cl.lookup y=some c→X.env.cells.lookup y=some c:=fun y c e=>B.sub (y,c) (nO e)
 have tK:=I3.wI
 have eN:(X.bo N scope cl s3 (upd H2 D (.lst [])) fp).Ok:=by
  refine ⟨I.ok.mod,B.kind,I.ok.glob,I.ok.blt,au _,fun a b c e1 e2=>I.ok.inj a b c (dM a c e1) (dM b c e2),fun y hy=>B.has y hy,(fun _ _ z _=>absurd z dR),(fun _=>I.ok.hd hc),I.ok.frames,.inl rfl,fun b hb=>⟨?_,fun y c e z=>?_⟩,fun b o e=>?_,bU I.ok.jd I3.sz,fun b o e hb=>?_,fun b hb z=>?_,I3.stack,tK⟩
  ·obtain ⟨o,e,_⟩:=jm b hb
   exact below b o (gO b o e)
  ·exact (f2 b hb).2.2.2.2.1 y c (dM y c e) z
  ·exact I3.bs b o e
  ·rcases (f2 b hb).2.2.2.1 with z | z
   ·exact I.ok.qQ b o e z
   ·exact absurd (dQ (aU e) (bU I.ok.jd z)) (d6 _)
  ·rcases bb.mp (I3.wH b z) with z | z
   ·exact (f2 b hb).2.1 z
   ·exact (f2 b hb).2.2.1 z
 have IB:∀tk:Nat,Inv (X.bo N scope cl s3 (upd H2 D (.lst [])) fp) [] (none::ρ σ) (upd H2 D (.lst [])) {s3 with heap:=h₁,toks:=tk}:=fun tk=>by
  refine ⟨eN,rfl,I3.bare,Un.kept eO,⟨_,gM,fun j y v e1 e2 e3=>?_⟩,fun y c e=>?_,?_,fun y c e=>I3.j9 y c (dM y c e),(fun p hp=>nomatch hp),I3.aw.kept eO,?_⟩
  ·cases j with
   | zero=>cases e2
   | succ j=>
    obtain ⟨i,y',a1,a2,a3,a4,a5,a6⟩:=B.AF σ j v e2
    have pU:N[j+1]?=some y:=e1
    rw [pU] at a1
    cases a1
    obtain ⟨m,hn,hl⟩:=I3.loc
    obtain ⟨u,r,l⟩:=hl i y v a2 a3 a4
    refine ⟨u,r,.inr ⟨a6,?_⟩⟩
    obtain ⟨c,ec⟩:=B.has y a6
    rcases l with ⟨k,_⟩ | ⟨_,c',mR,z⟩
    ·rcases a5 with q | q <;> (rw [k] at q;cases q)
    ·have:=dM y c ec
     rw [this] at mR
     cases mR
     obtain ⟨o,ho,hd⟩:=z
     exact ⟨c,ec,o,eO _ _ ho,hd⟩
  ·obtain ⟨v,o,ho,hd⟩:=I3.cell y c (dM y c e)
   exact ⟨v,o,eO _ _ ho,hd⟩
  ·exact I3.aw.fresh (au _)
  ·show (none::ρ σ).length=N.length
   rw [dm]
   exact B.len σ I.len
 have fin:∀{σ':St} {H':Hp} {s':Shared},Inv (X.bo N scope cl s3 (upd H2 D (.lst [])) fp) [] σ' H' s'→Q (.ref D) H'→compPost (model X.prog X.w) X.A X.xe none (EP X pins σ Q) (.ref D) s3.heap.objs.size (.ok .next) s':=fun{σ' H' s'} J q=>by
  obtain ⟨m,hn,_⟩:=J.loc
  refine ⟨m,hn,fun h' gP=>⟨.ref D,H',?_,rfl,q⟩⟩
  have old:∀b o,s3.heap.get? b=some o→b≠s3.heap.objs.size:=below
  have u1:Un (cY X.stack) fp (upd H2 D (.lst [])) H' s3.heap h':=by
   refine ⟨fun b o e n hb hx=>?_,fun b o e n hb hx=>?_,J.base.free,fun b o e hx=>?_,J.base.hE,J.base.iD,J.base.iE⟩
   ·exact (gP.2 b (old b o e)).trans (J.base.keep b o e n hb hx)
   ·obtain ⟨sl,z⟩:=J.base.slot b o e n hb hx
    exact ⟨sl,(gP.2 b (old b o e)).trans z⟩
   ·obtain ⟨o',z⟩:=J.base.there b o e hx
    exact ⟨o',(gP.2 b (old b o e)).trans z⟩
  have tL:cR X.prog X.w H' h':=fun b u e=>by
   refine (J.aw b u e).iY (fun c v hc z=>(gP.2 c fun y=>?_).trans z) (fun _ z=>z) fun _ _ z=>z
   have fr:=J.free
   have y':c=s3.heap.objs.size:=y
   rcases hc with hc | hc
   ·rw [←hc,y'] at e
    exact absurd (fr.symm.trans e) (by simp)
   ·rw [y'] at hc
    exact absurd (fr.symm.trans hc) (by simp)
  refine I3.n_ (s':={s' with heap:=h'}) (ch:=fp) (J.os) u1 tL J.bare fun b hb=>?_
  obtain ⟨g0,g1,g2,g3,g4,g5⟩:=f2 b hb
  exact ⟨g3,g1,g4,g5⟩
 have gF:∀{H':Hp},(∀b∈fp,H' b=none)→∀b∈fp,oj (X.bo N scope cl s3 (upd H2 D (.lst [])) fp) [] H' b:=fun hn b hb=>by
  refine ⟨hn b hb,?_,?_,.inl hb,fun y c e z=>(f2 b hb).2.2.2.2.1 y c (dM y c e) z,fun p hp=>nomatch hp⟩
  ·obtain ⟨o,e,_⟩:=jm b hb
   exact below b o (gO b o e)
  ·exact eN.qR b hb
 have loop:∀tk:Nat,codeAny (model X.prog X.w) X.A (.compLoop (.ListComp elt [⟨.Name x px,iter,ifs,0⟩] scope pos) 0 (.ref it) (.ref D) (compEnvC scope cl s3.heap.objs.size X.env))
   (compPost (model X.prog X.w) X.A X.xe none (EP X pins σ Q) (.ref D) s3.heap.objs.size) {s3 with heap:=h₁,toks:=tk}:=fun tk=>by
  refine codeAny_compLoop_tests (fun n s'=>∃i ys o H',Inv (X.bo N scope cl s3 (upd H2 D (.lst [])) fp) [] (o::ρ σ) H' s'∧tn i s'.heap∧(∀b∈fp,H' b=none)∧W i n ys H') ?_ m0
   ⟨0,[],none,_,IB tk,T.keep _ _ _ iF fun b hb o e=>eO _ _ (gO _ _ e),fun b hb=>by rw [aE (tJ b hb)];exact (f2 b hb).1,w0⟩
  rintro n s4 ⟨i,ys,o,H4,I4,mS,mT,w4⟩
  obtain ⟨Hq,tM⟩:=turn i n ys H4 w4
  rcases tM with ⟨stop,qn⟩ | ⟨go,step⟩
  ·refine b9 (T.done (X.bo N scope cl s3 (upd H2 D (.lst [])) fp) rfl rfl rfl hc i [] s4 _ H4 (fun _ _=>False) I4 (gF mT) mS stop) (fun r s5 ⟨hr,I5⟩=>?_) fun _ _ z=>z.elim
   subst hr
   exact fin I5 qn
  ·refine b9 (T.item (X.bo N scope cl s3 (upd H2 D (.lst [])) fp) rfl rfl rfl hc i [] s4 _ H4 (fun _ _=>False) I4 (gF mT) mS go) (fun r s5 ⟨u,hr,h5⟩=>?_) fun _ _ z=>z.elim
   subst hr
   have z:letOwnedTupleGo (.Name x px) (.ref it) u=pure ():=rfl
   rw [z] at h5
   show wpAny _ _ ((pure ():Sem Unit) >>= fun _=>assign (.Name x px) (compEnvC scope cl s3.heap.objs.size X.env) u) _ _ s5
   refine ax (b9 h5 (fun _ s5 ⟨y,H5,I5,r5,y5,gG,pP⟩=>?_) fun _ _ z=>z.elim)
   have pR:=I5.pinned (gF pP) (T.obj _ _ gG)
   have pg:PG (X.bo N scope cl s3 (upd H2 D (.lst [])) fp) (.Name x px) (aQ 0):=dy (i:=0) B.nd B.n0 (.inl (kL B.hx)) (.inr (kL B.hx))
   have again:∀{σ7:St} {H7:Hp} {s7:Shared},Inv (X.bo N scope cl s3 (upd H2 D (.lst [])) fp) ([]++kZ fp s5.heap) σ7 H7 s7→Inv (X.bo N scope cl s3 (upd H2 D (.lst [])) fp) [] σ7 H7 s7∧tn (i+1) s7.heap∧∀b∈fp,H7 b=none:=fun{σ7 H7 s7} I7=>by
    refine ⟨I7.sZ,T.keep _ _ _ gG fun b hb o e=>(I7.pin (b,o) (ei _ (ei _ (om hb e)))).1,fun b hb=>?_⟩
    obtain ⟨o,e,d⟩:=T.obj _ _ gG b hb
    exact (I7.pin (b,o) (ei _ (ei _ (om hb e)))).2.1
   refine b9 (pg _ s5 _ H5 y u (fun σ2 H6=>σ2=some y::ρ σ∧H6=H5) pR r5 ⟨rfl,rfl⟩) (fun _ s6 ⟨σ6,H6,I6,q6⟩=>?_) fun _ _ z=>z.elim
   obtain ⟨rfl,rfl⟩:=q6
   have tN:=step y _ y5
   have tests:∀{jo:TT},oF (X.bo N scope cl s3 (upd H2 D (.lst [])) fp) ifs jo→∀{R:Bool→Hp→Prop},jo (some y::ρ σ) H6 R→wpAny (model X.prog X.w) X.A
     (forIn ifs true fun c r=>if r=true then do let ok ←isTrue c (compEnvC scope cl s3.heap.objs.size X.env) (eval c (compEnvC scope cl s3.heap.objs.size X.env));pure (ForInStep.yield ok) else pure (ForInStep.yield r))
     (fun ok s7=>∃H7,Inv (X.bo N scope cl s3 (upd H2 D (.lst [])) fp) ([]++kZ fp s5.heap) (some y::ρ σ) H7 s7∧R ok H7) (fun _ _=>False) s6:=fun{jo} p {R} hR=>by
    cases p with
    | nil=>exact Cp ⟨_,I6,hR⟩
    | one p=>exact Cq (p _ s6 _ _ _ I6 hR)
   refine b9 (tests (ht s3 _ fp) tN) (fun ok s7 ⟨H7,I7,q7⟩=>?_) fun _ _ z=>z.elim
   cases ok with
   | false=>
    obtain ⟨m',d5,w7⟩:=q7
    obtain ⟨a1,a2,a3⟩:=again I7
    exact ⟨m',d5,i+1,ys,_,H7,a1,a2,a3,w7⟩
   | true=>
    refine b9 (he s3 _ fp _ s7 _ H7 _ I7 q7) (fun ev s8 ⟨z,H8,I8,r8,tO,hz,m',d5,w8⟩=>?_) fun _ _ z=>z.elim
    refine b9 (k8 (X:=X.bo N scope cl s3 (upd H2 D (.lst [])) fp) _ s8 _ H8 (.ref D) [z] (.ref D) [ev] (fun _ H9=>H9=upd H8 D (.lst (ys++[z]))) I8 rfl (.cons r8 .nil) ⟨D,ys,z,rfl,rfl,tO,hz,rfl⟩) (fun _ s9 ⟨_,H9,I9,_,q9⟩=>?_) fun _ _ z=>z.elim
    subst q9
    obtain ⟨a1,a2,a3⟩:=again I9
    exact ⟨m',d5,i+1,ys++[z],_,_,a1,a2,a3,w8⟩
 have start:=loop (s3.toks+([]:List (Str×Value)).length)
 have es:({s3 with heap:=h₁,toks:=s3.toks+([]:List (Str×Value)).length}:Shared)={s2 with heap:=h₁,toks:=s2.toks+([]:List (Str×Value)).length}:=by rw [←jl]
 rw [es] at start
 exact Cr start (T.self _ 0 _ _ _ (T.keep _ _ _ iF fun b hb o e=>eO _ _ (gO _ _ e)) start)
end
def lp(i:Int):Prop:=i.natAbs<2 ^ 2048
theorem lp.log{i:Int}(h:lp i):i.natAbs.log2<2048:=by
 by_cases z:i.natAbs=0;·rw [z];decide
 ·exact (Nat.log2_lt z).mpr h
theorem Hr:∀{xs:List V} {us:List Value},xs.length=us.length→(∀(i:Nat) (x:V) (u:Value),xs[i]?=some x→us[i]?=some u→RelV x u)→Vals xs us
 | [],[],_,_=>.nil
 | [],_::_,h,_=>by simp at h
 | _::_,[],h,_=>by simp at h
 | x::xs,u::us,h,k=>.cons (k 0 x u rfl rfl) (Hr (by simpa using h) fun i a b h1 h2=>k (i+1) a b (by simpa using h1) (by simpa using h2))
section
variable {X:Cx}
def VS(i j:Int):Prop:=0<j∧lp j
theorem VT:dr X (binaryOp .FloorDiv) (rI VS fun i j=>.int (i / j)):=CY fun i j _ _ _ _ _ hc q=>floordiv_int (Int.ne_of_gt hc.1) (by rw [Int.fdiv_eq_ediv_of_nonneg i (dS hc.1)];exact q) (.inl (PyProof.noPylong_of_log2 (dQ hc.2.log (by decide))))
def allR(K:aD):List V→Hp→VK→Prop:=fun xs H Q=>∃(p:Addr) (bs:List Bool),xs=[.ref p]∧a8 K H p (bs.map V.bl)∧Q (.bl (bs.all id)) H
theorem AG{K:aD}(hc:X.calm=true)(hK:X.K=K:=by rfl):gr X (.builtin "all") (allR K):=by
 intro pins s σ H xs us Q I r h;subst hK;obtain ⟨p,bs,rfl,hq,q⟩:=h;obtain ⟨u,rfl,ru⟩:=vals1 r;cases ru;obtain ⟨its,rv,pl,hz⟩:=I.list hq;have gJ:p≠s.heap.objs.size:=by obtain ⟨o,e,_⟩:=pl.isList;exact bZ (aU e)
 have hl:its.length=bs.length:=by rw [←rv.length,ay]
 refine call_all_walk (Ck pl.isList ?_);refine ⟨s.heap.objs.size,_,_,_,_,_,fun i=>bs.getD i true,rfl,Walks.list (A:=X.A.in1) (show X.A.in1.handled=none from I.ok.hd hc) s.heap.objs.size p gJ its.toArray,⟨⟨_,eh _ rfl,rfl,rfl⟩,pl.isList.push _⟩,fun i v s' Q' E' hv Dh=>?_,fun h' tk hk=>?_⟩
 ·have mU:its[i]?=some v:=by simpa using hv
  cases eb:bs[i]? with
  | none=>
   have:=rv.none_of (i:=i) (by rw [bz,eb];rfl)
   rw [this] at mU;cases mU
  | some b=>
   obtain ⟨u,hu,ru⟩:=rv.get (i:=i) (x:=V.bl b) (by rw [bz,eb];rfl)
   rw [hu] at mU;cases mU;cases ru;have e:bs.getD i true=b:=by rw [cQ,eb];rfl
   have pV:Q' (bs.getD i true) s':=Dh;rw [e] at pV;exact qA pV
 ·refine ⟨.bl (bs.all id),H,I.kept fun b o e=>hk b o (fun z=>?_) (b_ _ e),?_,q⟩
  ·exact absurd (aU e) (by rw [cB.mp z];exact d6 _)
  ·show Value.bool _=Value.bool _
   congr 1
   rw [cf,hl];clear hk q rv pl hz hl hq
   induction bs with
   | nil=>rfl
   | cons b bs ih=>rw [dm,List.range_succ_eq_map,List.all_cons,List.all_map,List.all_cons];show (b && (List.range bs.length).all fun i=>bs.getD i true)=(b && bs.all id);rw [ih]
def VU:List V→Hp→VK→Prop:=fun xs H Q=>∃j:Int,xs=[.int j]∧∀p,H p=none→Q (.ref p) (upd H p (.fV 0 j))
theorem AH:gr X (.type "range") VU:=by intro pins s σ H xs us Q I r h;obtain ⟨j,rfl,q⟩:=h;obtain ⟨u,rfl,ru⟩:=vals1 r;obtain ⟨t,rfl⟩:=ru;refine call_range_1 ⟨.ref s.heap.objs.size,_,I.laid (o:=.fV 0 j) (fun b o e=>b_ _ e) (au _) ⟨_,_,_,eh _ rfl⟩,rfl,q _ (I.aw.fresh (au _))⟩
def dz(n:Nat):List V:=(List.range n).map fun i:Nat=>V.int (i:Int)
def VW:List V→Hp→VK→Prop:=fun xs H Q=>∃p n,xs=[.ref p]∧H p=some (.fV 0 (n:Nat))∧n≤10000∧∀l,H l=none→Q (.ref l) (upd H l (.lst (dz n)))
theorem Di(hc:X.calm=true):gr X (.type "list") VW:=by
 intro pins s σ H xs us Q I r h;obtain ⟨p,n,rfl,hp,hn,q⟩:=h;obtain ⟨u,rfl,ru⟩:=vals1 r;cases ru;obtain ⟨t,u,v,e⟩:=(show cK X.prog X.w H s.heap p (.fV 0 n) from I.aw p _ hp);refine call_list_range (n:=n) (I.ok.hd hc) e (small_one (by lia) (by lia) (by lia) (by lia)) (by rw [rangeSize_one];split <;> lia) (by lia) fun h' tk acc c hk hD hit=>?_
 refine ⟨.ref s.heap.objs.size,_,I.laid (o:=.lst (dz n)) (fun b o e=>hk b o e) (au _) ⟨?_,acc.toList,c,?_,?_⟩,rfl,q _ (I.aw.fresh (au _))⟩
 ·unfold dz
  rw [ay,cC];exact bU hn (by decide)
 ·refine Hr ?_ fun i x u h1 h2=>?_
  ·unfold dz
   rw [ay,cC,fS,hit.1]
  ·have AI:acc[i]?=some u:=by simpa using h2
   obtain ⟨dN,e'⟩:=hit.2 i u AI;unfold dz at h1;rw [bz] at h1;have hi:i<n:=by have z:=(Array.getElem?_eq_some_iff.mp AI).1;rw [hit.1] at z;exact z
   rw [mr hi] at h1;cases h1;exact ⟨dN,by rw [e'];simp⟩
 ·rw [hD]
end
theorem boot_all:bootBuiltins "all"=some (.builtin "all"):=by decide +kernel
theorem AJ:bootBuiltins "range"=some (.type "range"):=by decide +kernel
def Hs:Expr→Bool
 | .Starred _ _=>false
 | _=>true
variable {e:Expr} {es:List Expr}
theorem VX{env:Env}(h:Hs e=true):starEach (e::es) env=(false,eval e env)::starEach es env:=by cases e <;> first | rfl | cases h
variable {X:Cx} {te:TE}
theorem VY{t:TA}(hs:Hs e=true)(ha:PE X e te)(hr:PA X es t):PA X (e::es) (wV te t):=
 Uy ha hr (VX hs)
theorem ah{t:TA}(ha:PE X e te)(hr:PA X es t)(hs:Hs e=true:=by rfl):PA X (e::es) (wV te t):=VY hs ha hr
variable {pos pos':Pos} {x:Str}
theorem Nb{i:Nat}(hs:swapsWith e (some (.Name x pos')) pos.line X.env=pure false)(hf:X.fn x=true∨X.env.scope.names.lookup x=some .local)(hN:X.N.Nodup)(hi:X.N[i]?=some x)(hx:Loc X.env.scope x)(he:PE X e te) :
  PS X (.Assign [.Name x pos'] e pos) (qX te (aQ i)):=TY hN hi hx he hs hf
theorem putL(i:Nat)(hN:X.N.Nodup)(he:PE X e te)(hs:swapsWith e (some (.Name x pos')) pos.line X.env=pure false:=by rfl)(hi:X.N[i]?=some x:=by rfl)(hx:X.env.scope.names.lookup x=some .local:=by rfl) :
  PS X (.Assign [.Name x pos'] e pos) (qX te (aQ i)):=Nb hs (.inr hx) hN hi (.inl hx) he
theorem oG(i:Nat)(hN:X.N.Nodup)(he:PE X e te)(hs:swapsWith e (some (.Name x pos')) pos.line X.env=pure false:=by rfl)(hf:X.fn x=true∨X.env.scope.names.lookup x=some .local:=by first | exact .inl rfl | exact .inr rfl | assumption)(hi:X.N[i]?=some x:=by rfl)(hx:X.env.scope.names.lookup x=some .cell:=by rfl) :
  PS X (.Assign [.Name x pos'] e pos) (qX te (aQ i)):=Nb hs hf hN hi (.inr hx) he
end L2
namespace My
open PySem L2
theorem tP(a b:Int):decide (V.int a=V.int b)=decide (a=b):=by
 by_cases h:a=b;·subst h;simp
 ·rw [bY h];exact bY fun e=>h (V.int.inj e)
variable {K:aD}
theorem VZ{T:String}:PySem.W.kitOne K (.type T) (.type T)=some true:=by unfold PySem.W.kitOne;rw [ae (zQ _)]
variable {H:Hp}
theorem aK{p:Addr}{o:HO}(h:H p=none):af H (upd H p o):=fun b u e=>by rw [aE (fW e h)];exact e
variable {i:Int}
theorem Nc{α:Type}{xs:List α}(h0:0≤i)(h1:i<xs.length):∃v,mP xs i=some v∧v∈xs:=by
 obtain ⟨k,rfl⟩:∃k:Nat,i=(k:Int):=⟨i.toNat,by lia⟩
 have hk:k<xs.length:=by lia
 exact ⟨xs[k],C3 (by simp [hk]),aV _⟩
inductive Any (H:Hp):V→Prop where
 | aI:Any H .aI
 | bl (b:Bool):Any H (.bl b)
 | int (i:Int):Any H (.int i)
 | str (x:Str):Any H (.str x)
 | lst {a:Addr} {xs:List V} (e:H a=some (.lst xs)):Any H (.ref a)
 | tup {a:Addr} {xs:List V} (e:H a=some (.tup xs)):Any H (.ref a)
 | w_ {a:Addr} (e:H a=some (M9 a)):Any H (.ref a)
def xb:V→Bool
 | .int _=>true
 | _=>false
def xc:V→Bool
 | .bl _=>true
 | _=>false
def Dm(H:Hp):V→Bool
 | .ref a=>(match H a with | some (.tup _)=>true | _=>false)
 | _=>false
theorem Any.Hl{v:V}(h:Any H v):∃T:String,AB K H v (.type T)∧PySem.W.kitOne K (.type T) (.type "int")=some (xb v || xc v)∧PySem.W.kitOne K (.type T) (.type "bool")=some (xc v) ∧
  PySem.W.kitOne K (.type T) (.type "tuple")=some (Dm H v):=by
 cases h with
 | aI=>exact ⟨"NoneType",.of .aI,rfl,rfl,rfl⟩
 | bl b=>exact ⟨"bool",.of (.bl b),rfl,rfl,rfl⟩
 | int i=>exact ⟨"int",.of (.int i),rfl,rfl,rfl⟩
 | str x=>exact ⟨"str",.of (.str x),rfl,rfl,rfl⟩
 | lst e=>exact ⟨"list",.of (.lst e),rfl,rfl,by unfold Dm;dsimp only;rw [e];rfl⟩
 | tup e=>exact ⟨"tuple",.of (.tup e),rfl,rfl,by unfold Dm;dsimp only;rw [e];rfl⟩
 | w_ e=>exact ⟨"dict",.w_ e,rfl,rfl,by unfold Dm;dsimp only;rw [e];rfl⟩
theorem V0{v:V}(h:xc v=true):xb v=false:=by cases v <;> first | rfl | cases h
theorem lp.of_lt(h1:-(10 ^ 70)<i)(h2:i<10 ^ 70):lp i:=by
 have h3:i.natAbs<2 ^ 240:=by lia
 exact dQ h3 (Cs (by decide) (by decide))
def V1:Sp:=fun vs H Q _=>∃v:V,vs=[v]∧Any H v∧Q (.bl (xb v)) H
def V2(K:aD):Sp:=fun vs H Q _=>∃(a:Addr) (ns:List Int),vs=[.ref a]∧a8 K H a (ns.map V.int)∧ns.length≤63∧∀H',Q (.bl true) H'
end My
namespace L2
open PySem PySem.Spec PyProof.Rows
end L2
namespace My
open PySem L2
end My
namespace L2
open PySem PySem.Spec PyProof.Rows
section
variable {P:Program} {w:World} {K:aD} {mg:dq} {base:Heap}
end
section
variable {X:Cx} {CX:jJ} {k:Nat} {f C:Addr} {fd:FuncData} {ps:List Str} {y:Str} {sp:Sp} {E:XK} {m:Str} {pos apos MC:Pos} {e e' o:Expr} {ta:TE} {t tk:TA}
end
end L2
namespace My
open PySem L2
end My
namespace L2
open PySem PySem.Spec PyProof.Rows
section
variable {X:Cx}
theorem V3:dr X (compareOp .IsNot) (fun x y H Q=>∃a b,x=.bl a∧y=.bl b∧Q (.bl (!(a == b))) H):=by intro pins s σ H x y v u Q I rx ry h;obtain ⟨a,b,rfl,rfl,q⟩:=h;cases rx;cases ry;exact bJ (dD I q (by cases a <;> cases b <;> rfl))
end
end L2
namespace My
open PySem L2
section
variable {C N z:Addr} {q:Int} {v u:V} {t b t' b':Int} {H:Hp} {Q:VK} {E:XK}
end
end My
namespace L2
open PySem PySem.Spec PyProof.Rows
structure lE (J:It) (xs:List V) (H1:Hp):Prop where
 go:∀i Hc,af H1 Hc→i<xs.length→J.go i Hc
 dZ:∀i Hc x H',af H1 Hc→J.dZ i Hc x H'→H'=Hc∧(i<xs.length→xs[i]?=some x)
 stop:∀i Hc,af H1 Hc→xs.length≤i→J.stop i Hc
variable {K:aD} {a:Addr} {xs:List V} {H1:Hp}
theorem kh(h:a8 K H1 a xs):lE (pO K a) xs H1 where
 go:=fun i Hc s hi=>⟨xs,xs[i],s.seq h,by simp [hi]⟩
 dZ:=fun i Hc x H' s y=>⟨y.1,fun _=>y.2 xs (s.seq h)⟩
 stop:=fun i Hc s hi=>⟨xs,s.seq h,hi⟩
theorem Nd{lo:Int}{n:Nat}:lE (qZ lo n) ((List.range n).map fun i:Nat=>V.int (lo+(i:Int))) H1 where
 go:=fun i Hc s hi=>by
  have hi:i<n:=by simpa using hi
  exact hi
 dZ:=fun i Hc x H' s y=>⟨y.1,fun hi=>by
  have hi:i<n:=by simpa using hi
  rw [y.2];simp [hi]⟩
 stop:=fun i Hc s hi=>by
  have hi:n≤i:=by simpa using hi
  exact hi
variable {H:Hp} {D:Addr}
theorem fc{H':Hp}{o:HO}(s:af H H')(n:H D=none):af H (upd H' D o):=fun b u e=>by rw [aE (fW e n)];exact s b u e
variable {te:TE} {Q:VK}
theorem Nf{J:It}{ρσ:St}(js:lE J xs H1)(nD:H1 D=none)(hn:xs.length<sizeLine)
  (P:Nat→V→Hp→Prop) (mono:∀i y H H' ys,P i y H→H D=some (.lst ys)→(∀b o,b≠D→H b=some o→H' b=some o)→P i y H')
  (step:∀i x,xs[i]?=some x→∀(Hc:Hp) (R:VK),af H1 Hc→(∃ys,Hc D=some (.lst ys))→(∀y H3,af Hc H3→P i y H3→R y H3)→te (some x::ρσ) Hc R)
  (fin:∀ys Hc,af H1 Hc→ys.length=xs.length→(∀i y,ys[i]?=some y→P i y Hc)→Hc D=some (.lst ys)→Q (.ref D) Hc) :
  ∃W:Nat→Nat→List V→Hp→Prop,(∃m,W 0 m [] (upd H1 D (.lst []))) ∧
   ∀i m ys Hc,W i m ys Hc→Hc D=some (.lst ys)∧((J.stop i Hc∧Q (.ref D) Hc)∨(J.go i Hc∧∀x H',J.dZ i Hc x H'→
    if true=true then te (some x::ρσ) H' fun y H3=>H3 D=some (.lst ys)∧ys.length<sizeLine∧∃m',m'<m∧W (i+1) m' (ys++[y]) (upd H3 D (.lst (ys++[y]))) else ∃m',m'<m∧W (i+1) m' ys H')):=by
 refine ⟨fun i m ys Hc=>m=xs.length-i∧i≤xs.length∧Hc D=some (.lst ys)∧af H1 Hc∧ys.length=i∧∀j y,ys[j]?=some y→P j y Hc,⟨_,rfl,bG _,ar,fc (af.refl H1) nD,rfl,fun j y e=>by simp at e⟩,?_⟩
 rintro i m ys Hc ⟨rfl,hi,eD,sH,el,hP⟩;refine ⟨eD,?_⟩;by_cases aR:i<xs.length
 ·refine .inr ⟨js.go i Hc sH aR,fun x H' hy=>?_⟩
  obtain ⟨rfl,hx⟩:=js.dZ i Hc x H' sH hy;rw [ae rfl];refine step i x (hx aR) _ _ sH ⟨ys,eD⟩ fun y H3 s3 hp=>?_;have e3:=s3 _ _ eD;refine ⟨e3,by lia,xs.length-(i+1),by lia,rfl,aR,ar,fc (sH.trans s3) nD,by simp [el],fun j y' e=>?_⟩
  have cS:∀b o,b≠D→H3 b=some o→upd H3 D (.lst (ys++[y])) b=some o:=fun b o nb e=>by rw [aE nb];exact e
  by_cases hj:j<i
  ·have e':ys[j]?=some y':=by rw [gZ (by lia)] at e;exact e
   refine mono j y' H' _ ys (hP j y' e') eD fun b o nb e=>?_;exact cS b o nb (s3 _ _ e)
  ·have hj:j=i:=by have:=(bV.mp e).1;simp at this;lia
   subst hj;have e':y'=y:=by rw [iw (by lia),el,mw] at e;simpa using e.symm
   subst e';exact mono _ _ H3 _ ys hp e3 cS
 ·have e:i=xs.length:=by lia
  subst e;exact .inl ⟨js.stop _ Hc sH (au _),fin ys Hc sH el hP eD⟩
variable {wi:TI} {ρ:St→St} {σ:St}
theorem V4(eF:∀R:It→Hp→Prop,(∀J H1,af H H1→lE J xs H1→R J H1)→wi σ H R)(hn:xs.length<sizeLine)
  (P:Addr→Nat→V→Hp→Prop) (mono:∀D i y H H' ys,P D i y H→H D=some (.lst ys)→(∀b o,b≠D→H b=some o→H' b=some o)→P D i y H')
  (step:∀D i x,xs[i]?=some x→∀(Hc:Hp) (R:VK),af H Hc→(∃ys,Hc D=some (.lst ys))→(∀y H3,af Hc H3→P D i y H3→R y H3)→te (some x::ρ σ) Hc R)
  (fin:∀D ys Hc,af H Hc→ys.length=xs.length→(∀i y,ys[i]?=some y→P D i y Hc)→Hc D=some (.lst ys)→Q (.ref D) Hc):jj wi ρ (fun _ H Q=>Q true H) te σ H Q:=by
 refine eF _ fun J H1 s1 js=>?_;intro D nD;exact Nf (ρσ:=ρ σ) (te:=te) (Q:=Q) js nD hn (P D) (mono D) (fun i x hx Hc R sc=>step D i x hx Hc R (s1.trans sc)) (fun ys Hc sc=>fin D ys Hc (s1.trans sc))
theorem lG{g:TG}{D:Ends}(h:te σ H fun x H1=>g x σ H1 D.nx):qX te g D σ H:=h
theorem eG{a b:TS}{D:Ends}(h:a {D with nx:=fun σ H=>b D σ H} σ H):GJ a b D σ H:=h
section
variable {X:Cx} {N:List Str} {scope:Scope} {cl:List (Str×Addr)} {x:Str} {px pos:Pos} {iter elt:Expr} {ifs:List Expr} {wi:TI} {ρ:St→St} {tt:TT} {te:TE}
theorem xf{y:Str}{py AK:Pos}{i0:Nat}(B:Hn X N scope cl x ρ)(hc:X.calm=true)(hN:X.N.Nodup)(Ht:X.N[i0]?=some y)(hy:Loc X.env.scope y)(hi:PI X (.Name x px) iter wi)(ht:∀s₃ H₃ fp,oF (X.bo N scope cl s₃ H₃ fp) ifs tt)(he:∀s₃ H₃ fp,PE (X.bo N scope cl s₃ H₃ fp) elt te)
  (Hu:swapsWith (.ListComp elt [⟨.Name x px,iter,ifs,0⟩] scope pos) (some (.Name y py)) AK.line X.env=pure true:=by rfl) (hf:X.fn y=true∨X.env.scope.names.lookup y=some .local:=by first | exact .inl rfl | exact .inr rfl | assumption)
  (hs:∀x,foldedSetIterable iter X.env x=pure x:=by intro _;rfl):PS X (.Assign [.Name y py] (.ListComp elt [⟨.Name x px,iter,ifs,0⟩] scope pos) AK) (qX (jj wi ρ tt te) (aQ i0)):=by
 intro pins s σ H D0 I h
 have h:jj wi ρ tt te σ H (fun v H1=>D0.nx (σ.set i0 (some v)) H1):=h
 rw [exec_Assign_Name_used _ _ _ _ Hu]
 refine ax (o_ (ax ?_))
 show wpAny _ X.A (do let _ ←comprehension (.ListComp elt [⟨.Name x px,iter,ifs,0⟩] scope pos) scope X.env _ (newList []) false (eval iter X.env) (some (assign (.Name y py) X.env))) _ _ s
 refine ax (b9 (Q:=fun _ s'=>SP X pins D0 .next s') ?_ (fun _ s' hq=>bJ (bJ hq)) fun _ _ e=>e)
 refine Co (use:=some (assign (.Name y py) X.env)) rfl hs B.AD B.kind B.names (aH (hi pins s σ H _ I h) fun v s1 h1=>aH h1 fun wQ s2 h2=>?_)
 obtain ⟨it,fp,tn,J,H2,rfl,I2,T,iF,f2,q2⟩:=h2
 have nD:H2 s2.heap.objs.size=none:=I2.aw.fresh (au _)
 obtain ⟨W,⟨m0,w0⟩,turn⟩:=q2 _ nD
 refine vU (zP B.AE (by intro y hy;simp at hy) (fun h₁ gM gN=>?_) B.kind)
 dsimp only at gM gN ⊢
 generalize hD:s2.heap.objs.size=D at nD w0 turn gM gN ⊢
 generalize jl:({s2 with heap:=s2.heap.push {cls:=.type "list",dict:=none,data:=.seq ([]:List Value).toArray}}:Shared)=s3
 have I3:Inv X pins σ (upd H2 D (.lst [])) s3:=by
  subst hD jl
  exact I2.laid (t':=s2.toks) (fun b u e=>b_ _ e) (au _) ⟨bG _,[],_,.nil,eh _ rfl⟩
 have e3:s3.heap=s2.heap.push {cls:=.type "list",dict:=none,data:=.seq ([]:List Value).toArray}:=by rw [←jl]
 have gO:∀b o,s2.heap.get? b=some o→s3.heap.get? b=some o:=fun b o e=>by rw [e3];exact b_ _ e
 rw [←e3] at gM gN ⊢
 have below:∀b o,s3.heap.get? b=some o→b≠s3.heap.objs.size:=fun b o e=>bZ (aU e)
 have eO:∀b o,s3.heap.get? b=some o→h₁.get? b=some o:=fun b o e=>gN.extBut b o (below b o e) (b_ _ e)
 have jm:∀b∈fp,∃o,s2.heap.get? b=some o∧∀v,o.data≠.cell v:=T.obj _ _ iF
 have tJ:∀b∈fp,b≠D:=fun b hb z=>by
  obtain ⟨o,e,_⟩:=jm b hb
  rw [z,←hD] at e
  exact absurd (aU e) (d6 _)
 have dM:∀y c,cl.lookup y=some c→X.env.cells.lookup y=some c:=fun y c e=>B.sub (y,c) (nO e)
 have tK:=I3.wI
 have eN:(X.bo N scope cl s3 (upd H2 D (.lst [])) fp).Ok:=by
  refine ⟨I.ok.mod,B.kind,I.ok.glob,I.ok.blt,au _,fun a b c e1 e2=>I.ok.inj a b c (dM a c e1) (dM b c e2),fun y hy=>B.has y hy,(fun _ _ z _=>absurd z dR),(fun _=>I.ok.hd hc),I.ok.frames,.inl rfl,fun b hb=>⟨?_,fun y c e z=>?_⟩,fun b o e=>?_,bU I.ok.jd I3.sz,fun b o e hb=>?_,fun b hb z=>?_,I3.stack,tK⟩
  ·obtain ⟨o,e,_⟩:=jm b hb
   exact below b o (gO b o e)
  ·exact (f2 b hb).2.2.2.2.1 y c (dM y c e) z
  ·exact I3.bs b o e
  ·rcases (f2 b hb).2.2.2.1 with z | z
   ·exact I.ok.qQ b o e z
   ·exact absurd (dQ (aU e) (bU I.ok.jd z)) (d6 _)
  ·rcases bb.mp (I3.wH b z) with z | z
   ·exact (f2 b hb).2.1 z
   ·exact (f2 b hb).2.2.1 z
 have IB:∀tk:Nat,Inv (X.bo N scope cl s3 (upd H2 D (.lst [])) fp) [] (none::ρ σ) (upd H2 D (.lst [])) {s3 with heap:=h₁,toks:=tk}:=fun tk=>by
  refine ⟨eN,rfl,I3.bare,Un.kept eO,⟨_,gM,fun j y v e1 e2 e3=>?_⟩,fun y c e=>?_,?_,fun y c e=>I3.j9 y c (dM y c e),(fun p hp=>nomatch hp),I3.aw.kept eO,?_⟩
  ·cases j with
   | zero=>cases e2
   | succ j=>
    obtain ⟨i,y',a1,a2,a3,a4,a5,a6⟩:=B.AF σ j v e2
    have pU:N[j+1]?=some y:=e1
    rw [pU] at a1
    cases a1
    obtain ⟨m,hn,hl⟩:=I3.loc
    obtain ⟨u,r,l⟩:=hl i y v a2 a3 a4
    refine ⟨u,r,.inr ⟨a6,?_⟩⟩
    obtain ⟨c,ec⟩:=B.has y a6
    rcases l with ⟨k,_⟩ | ⟨_,c',mR,z⟩
    ·rcases a5 with q | q <;> (rw [k] at q;cases q)
    ·have:=dM y c ec
     rw [this] at mR
     cases mR
     obtain ⟨o,ho,hd⟩:=z
     exact ⟨c,ec,o,eO _ _ ho,hd⟩
  ·obtain ⟨v,o,ho,hd⟩:=I3.cell y c (dM y c e)
   exact ⟨v,o,eO _ _ ho,hd⟩
  ·exact I3.aw.fresh (au _)
  ·show (none::ρ σ).length=N.length
   rw [dm]
   exact B.len σ I.len
 have tQ:∀b o,s3.heap.get? b=some o→b≠s3.heap.objs.size:=below
 have fin:∀{σ':St} {H':Hp} {s':Shared},Inv (X.bo N scope cl s3 (upd H2 D (.lst [])) fp) [] σ' H' s'→D0.nx (σ.set i0 (some (.ref D))) H'→compPost (model X.prog X.w) X.A X.xe (some (assign (.Name y py) X.env)) (fun _ s'=>SP X pins D0 .next s') (.ref D) s3.heap.objs.size (.ok .next) s':=fun{σ' H' s'} J q=>by
  obtain ⟨m,hn,_⟩:=J.loc
  have hn:s'.heap.Ns s3.heap.objs.size m:=hn
  have JC:H' s3.heap.objs.size=none:=J.free
  have u1:Un (cY X.stack) fp (upd H2 D (.lst [])) H' s3.heap s'.heap:=by
   refine ⟨fun b o e n hb hx=>J.base.keep b o e n hb hx,fun b o e n hb hx=>J.base.slot b o e n hb hx,J.base.free,fun b o e hx=>J.base.there b o e hx,J.base.hE,J.base.iD,J.base.iE⟩
  have IX:Inv X pins σ H' s':=I3.n_ (ch:=fp) (J.os) u1 J.aw J.bare fun b hb=>by
   obtain ⟨g0,g1,g2,g3,g4,g5⟩:=f2 b hb
   exact ⟨g3,g1,g4,g5⟩
  have nl:X.env.locals≠s3.heap.objs.size:=by
   obtain ⟨m3,⟨o3,_,_,e3,_⟩,_⟩:=I3.loc
   exact tQ _ _ e3
  have nc:∀z c,X.env.cells.lookup z=some c→c≠s3.heap.objs.size:=fun z c e=>by
   obtain ⟨v3,o3,e3,_⟩:=I3.cell z c e
   exact tQ _ _ e3
  refine wpAny_assign_Name (GC (v:=.ref D) IX hN Ht hy rfl (fun f9 tR oH=>?_) hf)
  obtain ⟨a,oH,ha⟩:=oH
  have na:s3.heap.objs.size≠a:=by
   rcases ha with rfl | e
   ·exact fun z=>nl z.symm
   ·exact fun z=>nc _ _ e z.symm
  refine ⟨m,hn.sameBut oH na,fun h' gP=>⟨σ.set i0 (some (.ref D)),H',?_,q⟩⟩
  have u2:Un (cY X.stack) [s3.heap.objs.size] H' H' f9.heap h':=by
   refine ⟨fun b o e n hb hx=>(gP.2 b (by simpa using hx)).trans e,fun b o e n hb hx=>⟨o.slots,(gP.2 b (by simpa using hx)).trans e⟩,fun b o e n hx=>n,fun b o e hx=>⟨o,(gP.2 b (by simpa using hx)).trans e⟩,fun b xs z=>z,fun b o u z=>z,fun b ps z=>⟨#[],by simpa using z⟩⟩
  have tL:cR X.prog X.w H' h':=fun b u e=>by
   refine (tR.aw b u e).iY (fun c v hc z=>(gP.2 c fun y=>?_).trans z) (fun _ z=>z) fun _ _ z=>z
   have y':c=s3.heap.objs.size:=y
   rcases hc with hc | hc
   ·rw [←hc,y',JC] at e
    cases e
   ·rw [y',JC] at hc
    cases hc
  refine tR.n_ (s':={f9 with heap:=h'}) (ch:=[s3.heap.objs.size]) rfl u2 tL tR.bare fun b hb=>?_
  have eb:b=s3.heap.objs.size:=by simpa using hb
  subst eb
  refine ⟨.inr I3.sz,fun z=>nl z.symm,fun z c e=>nc z c e,fun p hp=>?_⟩
  exact tQ _ _ (I3.pin p hp).1
 have gF:∀{H':Hp},(∀b∈fp,H' b=none)→∀b∈fp,oj (X.bo N scope cl s3 (upd H2 D (.lst [])) fp) [] H' b:=fun hn b hb=>by
  refine ⟨hn b hb,?_,?_,.inl hb,fun y c e z=>(f2 b hb).2.2.2.2.1 y c (dM y c e) z,fun p hp=>nomatch hp⟩
  ·obtain ⟨o,e,_⟩:=jm b hb
   exact below b o (gO b o e)
  ·exact eN.qR b hb
 have loop:∀tk:Nat,codeAny (model X.prog X.w) X.A (.compLoop (.ListComp elt [⟨.Name x px,iter,ifs,0⟩] scope pos) 0 (.ref it) (.ref D) (compEnvC scope cl s3.heap.objs.size X.env))
   (compPost (model X.prog X.w) X.A X.xe (some (assign (.Name y py) X.env)) (fun _ s'=>SP X pins D0 .next s') (.ref D) s3.heap.objs.size) {s3 with heap:=h₁,toks:=tk}:=fun tk=>by
  refine codeAny_compLoop_tests (fun n s'=>∃i ys o H',Inv (X.bo N scope cl s3 (upd H2 D (.lst [])) fp) [] (o::ρ σ) H' s'∧tn i s'.heap∧(∀b∈fp,H' b=none)∧W i n ys H') ?_ m0
   ⟨0,[],none,_,IB tk,T.keep _ _ _ iF fun b hb o e=>eO _ _ (gO _ _ e),fun b hb=>by rw [aE (tJ b hb)];exact (f2 b hb).1,w0⟩
  rintro n s4 ⟨i,ys,o,H4,I4,mS,mT,w4⟩
  obtain ⟨Hq,tM⟩:=turn i n ys H4 w4
  rcases tM with ⟨stop,qn⟩ | ⟨go,step⟩
  ·refine b9 (T.done (X.bo N scope cl s3 (upd H2 D (.lst [])) fp) rfl rfl rfl hc i [] s4 _ H4 (fun _ _=>False) I4 (gF mT) mS stop) (fun r s5 ⟨hr,I5⟩=>?_) fun _ _ z=>z.elim
   subst hr
   exact fin I5 qn
  ·refine b9 (T.item (X.bo N scope cl s3 (upd H2 D (.lst [])) fp) rfl rfl rfl hc i [] s4 _ H4 (fun _ _=>False) I4 (gF mT) mS go) (fun r s5 ⟨u,hr,h5⟩=>?_) fun _ _ z=>z.elim
   subst hr
   have z:letOwnedTupleGo (.Name x px) (.ref it) u=pure ():=rfl
   rw [z] at h5
   show wpAny _ _ ((pure ():Sem Unit) >>= fun _=>assign (.Name x px) (compEnvC scope cl s3.heap.objs.size X.env) u) _ _ s5
   refine ax (b9 h5 (fun _ s5 ⟨y,H5,I5,r5,y5,gG,pP⟩=>?_) fun _ _ z=>z.elim)
   have pR:=I5.pinned (gF pP) (T.obj _ _ gG)
   have pg:PG (X.bo N scope cl s3 (upd H2 D (.lst [])) fp) (.Name x px) (aQ 0):=dy (i:=0) B.nd B.n0 (.inl (kL B.hx)) (.inr (kL B.hx))
   have again:∀{σ7:St} {H7:Hp} {s7:Shared},Inv (X.bo N scope cl s3 (upd H2 D (.lst [])) fp) ([]++kZ fp s5.heap) σ7 H7 s7→Inv (X.bo N scope cl s3 (upd H2 D (.lst [])) fp) [] σ7 H7 s7∧tn (i+1) s7.heap∧∀b∈fp,H7 b=none:=fun{σ7 H7 s7} I7=>by
    refine ⟨I7.sZ,T.keep _ _ _ gG fun b hb o e=>(I7.pin (b,o) (ei _ (ei _ (om hb e)))).1,fun b hb=>?_⟩
    obtain ⟨o,e,d⟩:=T.obj _ _ gG b hb
    exact (I7.pin (b,o) (ei _ (ei _ (om hb e)))).2.1
   refine b9 (pg _ s5 _ H5 y u (fun σ2 H6=>σ2=some y::ρ σ∧H6=H5) pR r5 ⟨rfl,rfl⟩) (fun _ s6 ⟨σ6,H6,I6,q6⟩=>?_) fun _ _ z=>z.elim
   obtain ⟨rfl,rfl⟩:=q6
   have tN:=step y _ y5
   have tests:∀{jo:TT},oF (X.bo N scope cl s3 (upd H2 D (.lst [])) fp) ifs jo→∀{R:Bool→Hp→Prop},jo (some y::ρ σ) H6 R→wpAny (model X.prog X.w) X.A
     (forIn ifs true fun c r=>if r=true then do let ok ←isTrue c (compEnvC scope cl s3.heap.objs.size X.env) (eval c (compEnvC scope cl s3.heap.objs.size X.env));pure (ForInStep.yield ok) else pure (ForInStep.yield r))
     (fun ok s7=>∃H7,Inv (X.bo N scope cl s3 (upd H2 D (.lst [])) fp) ([]++kZ fp s5.heap) (some y::ρ σ) H7 s7∧R ok H7) (fun _ _=>False) s6:=fun{jo} p {R} hR=>by
    cases p with
    | nil=>exact Cp ⟨_,I6,hR⟩
    | one p=>exact Cq (p _ s6 _ _ _ I6 hR)
   refine b9 (tests (ht s3 _ fp) tN) (fun ok s7 ⟨H7,I7,q7⟩=>?_) fun _ _ z=>z.elim
   cases ok with
   | false=>
    obtain ⟨m',d5,w7⟩:=q7
    obtain ⟨a1,a2,a3⟩:=again I7
    exact ⟨m',d5,i+1,ys,_,H7,a1,a2,a3,w7⟩
   | true=>
    refine b9 (he s3 _ fp _ s7 _ H7 _ I7 q7) (fun ev s8 ⟨z,H8,I8,r8,tO,hz,m',d5,w8⟩=>?_) fun _ _ z=>z.elim
    refine b9 (k8 (X:=X.bo N scope cl s3 (upd H2 D (.lst [])) fp) _ s8 _ H8 (.ref D) [z] (.ref D) [ev] (fun _ H9=>H9=upd H8 D (.lst (ys++[z]))) I8 rfl (.cons r8 .nil) ⟨D,ys,z,rfl,rfl,tO,hz,rfl⟩) (fun _ s9 ⟨_,H9,I9,_,q9⟩=>?_) fun _ _ z=>z.elim
    subst q9
    obtain ⟨a1,a2,a3⟩:=again I9
    exact ⟨m',d5,i+1,ys++[z],_,_,a1,a2,a3,w8⟩
 have start:=loop (s3.toks+([]:List (Str×Value)).length)
 have es:({s3 with heap:=h₁,toks:=s3.toks+([]:List (Str×Value)).length}:Shared)={s2 with heap:=h₁,toks:=s2.toks+([]:List (Str×Value)).length}:=by rw [←jl]
 rw [es] at start
 exact Cr start (T.self _ 0 _ _ _ (T.keep _ _ _ iF fun b hb o e=>eO _ _ (gO _ _ e)) start)
end
def Hv(K:aD)(l1 l2:Addr):It:=
  ⟨fun i H=>∃xs ys x y,a8 K H l1 xs∧a8 K H l2 ys∧xs[i]?=some x∧ys[i]?=some y,
   fun i H v H'=>∃T x y,H T=none∧v=.ref T∧H'=upd H T (.tup [x,y])∧∀xs ys,a8 K H l1 xs→a8 K H l2 ys→xs[i]?=some x∧ys[i]?=some y,
   fun i H=>∃xs ys,a8 K H l1 xs∧a8 K H l2 ys∧(xs.length≤i∨ys.length≤i)⟩
theorem V5{P:Program}{w:World}{elts:List Expr}{k:Nat}{pos:Pos}{z TI TO i1 i2 l1 l2:Addr}(D:ZipApart z TI TO i1 i2 l1 l2):Turn P w K (.Tuple elts k pos) (Hv K l1 l2) [z,TI,TO,i1,i2] z
  (fun i h=>IsZip h z TI TO .none∧IsPair h TI (.ref i1) (.ref i2)∧(∃a b,IsPair h TO a b)∧h.IsListIter i1 l1 i∧h.IsListIter i2 l2 i) where
 mem:=by simp
 obj:=fun i h st b hb=>by
  obtain ⟨hz,mV,⟨a,c,rd⟩,h1,h2⟩:=st;simp only [bb,j4,kM] at hb;rcases hb with rfl | rfl | rfl | rfl | rfl;·exact ⟨_,hz,fun v z=>by cases z⟩
  ·exact ⟨_,mV,fun v z=>by cases z⟩
  ·exact ⟨_,rd,fun v z=>by cases z⟩
  ·obtain ⟨o,e,c,d⟩:=h1
   exact ⟨o,e,fun v z=>by rw [d] at z;cases z⟩
  ·obtain ⟨o,e,c,d⟩:=h2
   exact ⟨o,e,fun v z=>by rw [d] at z;cases z⟩
 keep:=fun i h h' st k=>by obtain ⟨hz,mV,⟨a,c,rd⟩,h1,h2⟩:=st;exact ⟨k _ (by simp) _ hz,k _ (by simp) _ mV,⟨a,c,k _ (by simp) _ rd⟩,h1.at fun o e=>k _ (by simp) o e,h2.at fun o e=>k _ (by simp) o e⟩
 item:=by
  intro X hP hw hK hc i pins s σ H E I hf st hg;subst hP hw hK;obtain ⟨hz,mV,⟨a,c,rd⟩,h1,h2⟩:=st;obtain ⟨xs,ys,x,y,ko,pV,hx,hy⟩:=hg;obtain ⟨its,rv,p,_⟩:=I.list ko;obtain ⟨Ng,Dr,p',_⟩:=I.list pV;obtain ⟨u,hu,ru⟩:=rv.get hx;obtain ⟨u',HA,V6⟩:=Dr.get hy;refine wpAny_pyNext_zip_item D hz mV rd h1 h2 p.isList p'.isList (x:=u) (y:=u') (by simpa using hu) (by simpa using HA) fun h' g1 g2 g3 g4 g5 g6 g7=>⟨_,rfl,?_⟩
  refine wpAny_letOwnedTupleGo_zip g1 fun oJ q1 sb=>?_;have AL:H s.heap.objs.size=none:=I.aw.fresh (au _);have lt:∀b o,s.heap.get? b=some o→b≠s.heap.objs.size:=fun b o e=>bZ (aU e);have keep:∀b o,b∉[z,TI,TO,i1,i2]→s.heap.get? b=some o→oJ.get? b=some o:=fun b o nb e=>by simp only [bb,j4,kM,not_or] at nb;exact sb.extBut _ _ nb.1 (g7 b o nb.1 nb.2.2.1 nb.2.2.2.1 nb.2.2.2.2 e)
  have V7:z≠s.heap.objs.size:=lt _ _ hz;have pT:IsPair oJ s.heap.objs.size u u':=sb.extBut _ _ V7.symm g5;have mW:∀{b:Addr} {o:HO} (e:H b=some o),upd H s.heap.objs.size (.tup [x,y]) b=some o:=fun e=>by rw [aE (fW e AL)];exact e
  have aw:cR X.prog X.w (upd H s.heap.objs.size (.tup [x,y])) oJ:=fun b o e=>by
   by_cases hb:b=s.heap.objs.size
   ·subst hb
    rw [ar] at e;cases e;exact ⟨by show 2≤sizeLine;decide,[u,u'],.cons ru (.cons V6 .nil),⟨_,pT,rfl,_,rfl⟩⟩
   ·rw [aE hb] at e
    refine (I.aw b o e).iY (fun c v dY q=>keep c v (fun m=>?_) q) (fun c q=>mW q) fun c xs q=>mW q;have nn:=(hf c m).1;rcases dY with rfl | dY;·rw [nn] at e;cases e
    ·rw [nn] at dY;cases dY
  have u1:Un (cY X.stack) [z,TI,TO,i1,i2] H (upd H s.heap.objs.size (.tup [x,y])) s.heap oJ:=
   ⟨fun b o e n _ hx=>keep b o hx e,fun b o e n _ hx=>⟨o.slots,keep b o hx e⟩,fun b o e n hx=>by rw [aE (lt b o e)];exact n,fun b o e hx=>⟨o,keep b o hx e⟩,fun b xs e=>mW e,fun b o u e=>mW e,fun b ps e=>⟨#[],by rw [mW e];simp⟩⟩
  refine ⟨.ref s.heap.objs.size,upd H s.heap.objs.size (.tup [x,y]),I.n_ (s':={s with heap:=oJ}) (ch:=[z,TI,TO,i1,i2]) rfl u1 aw I.bare (fun b hb=>?_),rfl,⟨_,x,y,AL,rfl,rfl,fun as bs ha hb=>⟨by rw [I.CN ha ko];exact hx,by rw [I.CN hb pV];exact hy⟩⟩,?_,fun b hb=>?_⟩
  ·obtain ⟨f0,f1,f2,f3,f4,f5⟩:=hf b hb
   exact ⟨f3,f1,f4,f5⟩
  ·exact ⟨q1,sb.extBut _ _ D.TIz (g7 _ _ D.TIz D.TITO D.TIi1 D.TIi2 mV),⟨_,_,sb.extBut _ _ D.TOz g2⟩,g3.extBut sb.extBut D.i1z,g4.extBut sb.extBut D.i2z⟩
  ·have nb:b≠s.heap.objs.size:=by
    simp only [bb,j4,kM] at hb;rcases hb with rfl | rfl | rfl | rfl | rfl;·exact lt _ _ hz
    ·exact lt _ _ mV
    ·exact lt _ _ rd
    ·obtain ⟨o,e,_⟩:=h1;exact lt _ _ e
    ·obtain ⟨o,e,_⟩:=h2;exact lt _ _ e
   rw [aE nb];exact (hf b hb).1
 done:=by
  intro X hP hw hK hc i pins s σ H E I hf st hg;subst hP hw hK;obtain ⟨hz,mV,⟨a,c,rd⟩,h1,h2⟩:=st;obtain ⟨xs,ys,ko,pV,hx⟩:=hg;obtain ⟨its,rv,p,_⟩:=I.list ko;obtain ⟨Ng,Dr,p',_⟩:=I.list pV;have hl:=rv.length;have hl':=Dr.length;refine wpAny_pyNext_zip_end (I.ok.hd hc) D hz mV rd h1 h2 p.isList p'.isList (hx.imp (fun h=>by simp;lia) fun h=>by simp;lia) fun h' g=>⟨rfl,?_⟩
  have keep:∀b o,b∉[z,TI,TO,i1,i2]→s.heap.get? b=some o→h'.get? b=some o:=fun b o nb e=>by simp only [bb,j4,kM,not_or] at nb;exact g b o nb.1 nb.2.2.1 nb.2.2.2.1 nb.2.2.2.2 e
  have aw:cR X.prog X.w H h':=fun b o e=>by
   refine (I.aw b o e).iY (fun c v dY q=>keep c v (fun m=>?_) q) (fun c q=>q) fun c xs q=>q;have nn:=(hf c m).1;rcases dY with rfl | dY;·rw [nn] at e;cases e
   ·rw [nn] at dY;cases dY
  have u1:Un (cY X.stack) [z,TI,TO,i1,i2] H H s.heap h':=
   ⟨fun b o e n _ hx=>keep b o hx e,fun b o e n _ hx=>⟨o.slots,keep b o hx e⟩,fun b o e n hx=>n,fun b o e hx=>⟨o,keep b o hx e⟩,fun b xs e=>e,fun b o u e=>e,fun b ps e=>⟨#[],by rw [e];simp⟩⟩
  refine I.n_ (s':={s with heap:=h'}) (ch:=[z,TI,TO,i1,i2]) rfl u1 aw I.bare fun b hb=>?_;obtain ⟨f0,f1,f2,f3,f4,f5⟩:=hf b hb;exact ⟨f3,f1,f4,f5⟩
 self:=fun _ _ _ _ _ st h=>wpAny_pyIter_zip st.1 h
theorem boot_zip:bootBuiltins "zip"=some (.type "zip"):=by decide +kernel
def V8(K:aD)(ta:TA):TI:=fun σ H R=>ta σ H fun vs H1=>∃l1 l2,vs=[.ref l1,.ref l2]∧(∃xs,a8 K H1 l1 xs)∧(∃ys,a8 K H1 l2 ys)∧R (Hv K l1 l2) H1
section
variable {X:Cx}
theorem V9{elts:List Expr}{k:Nat}{qY:Pos}{a b:Expr}{ta:TA}{p pos:Pos}(hg:Gl X "zip")(hm:X.mg "zip"=none)(ha:PA X [a,b] ta)(hs:starEach [a,b] X.env=[(false,eval a X.env),(false,eval b X.env)]:=by rfl)(tH:starEach [b] X.env=[(false,eval b X.env)]:=by rfl) :
  PI X (.Tuple elts k qY) (.Call (.Name "zip" p) [a,b] [] pos) (V8 X.K ta):=by
 intro pins s σ H R I h;refine Call_ (kY I hg hm boot_zip (zM (aH (ha pos pins s σ H _ I h) fun us s1 ⟨vs,H1,I1,r1,q1⟩=>?_) (by rw [hs,tH]) (by rw [tH];rfl)))
 obtain ⟨l1,l2,e,⟨xs,ko⟩,⟨ys,pV⟩,q⟩:=q1;subst e;cases r1 with
 | cons r rr=>
  cases rr with
  | cons r' rr=>
   cases rr;cases r;cases r';obtain ⟨its,rv,p1,_⟩:=I1.list ko;obtain ⟨Ng,Dr,p2,_⟩:=I1.list pV;have b1:l1<s1.heap.objs.size:=by obtain ⟨o,e,_⟩:=p1.isList;exact aU e
   have b2:l2<s1.heap.objs.size:=by obtain ⟨o,e,_⟩:=p2.isList;exact aU e
   refine call_zip_2 p1.isList p2.isList fun h' z1 z2 z3 z4 z5 z6 z7=>?_;refine wpAny_pyIter_zip (s:={s1 with heap:=h'}) z1 ?_;have D:ZipApart (s1.heap.objs.size+4) (s1.heap.objs.size+2) (s1.heap.objs.size+3) s1.heap.objs.size (s1.heap.objs.size+1) l1 l2:=by constructor <;> (intro h;have h:@Eq Nat _ _:=h;have b1:@LT.lt Nat _ l1 s1.heap.objs.size:=b1;have b2:@LT.lt Nat _ l2 s1.heap.objs.size:=b2;lia)
   refine ⟨_,_,_,_,H1,rfl,I1.kept (t':=s1.toks) z7,V5 D,⟨z1,z2,⟨_,_,z3⟩,z4,z5⟩,fun b hb=>?_,q⟩;have le:s1.heap.objs.size≤b:=by
    simp only [bb,j4,kM] at hb;rcases hb with rfl | rfl | rfl | rfl | rfl;·exact zR ..
    ·exact zR ..
    ·exact zR ..
    ·exact au _
    ·exact zR ..
   exact I1.wO le (I1.aw.fresh le)
end
section
variable {prog:Program} {w:World} {A:Around} {R:Result→Shared→Prop} {s:Shared}
theorem Nh{elt target iter:Expr}{ifs:List Expr}{scope:Scope}{pos:Pos}{it acc:Value}{env:Env}(I:Nat→Shared→Prop)
  (turn:∀n s,I n s→wpAny (model prog w) A (pyNext it) (fun r s₁=>match r with
   | none=>R (.ok .next) s₁
   | some v=>wpAny (model prog w) A (letOwnedTupleGo target it v) (fun _ s₁=>wpAny (model prog w) A (assign target env v) (fun _ s₂=>
     wpAny (model prog w) A (forIn ifs true fun c r=>if r=true then do let ok ←isTrue c env (eval c env);pure (ForInStep.yield ok) else pure (ForInStep.yield r)) (fun ok s₃=>
      if ok=true then wpAny (model prog w) A (eval elt env) (fun x s₄=>
       wpAny (model prog w) A (call (.builtin "list.append") [acc,x]) (fun _ s₅=>∃m,m<n∧I m s₅) (notedBy (model prog w) A env fun e s'=>R (.error e) s') s₄) (notedBy (model prog w) A env fun e s'=>R (.error e) s') s₃
      else ∃m,m<n∧I m s₃) (notedBy (model prog w) A env fun e s'=>R (.error e) s') s₂) (notedBy (model prog w) A env fun e s'=>R (.error e) s') s₁) (notedBy (model prog w) A env fun e s'=>R (.error e) s') s₁) (notedBy (model prog w) A env fun e s'=>R (.error e) s') s)
  (n:Nat) (h:I n s):codeAny (model prog w) A (.compLoop (.ListComp elt [⟨target,iter,ifs,0⟩] scope pos) 0 it acc env) R s:=by
 refine codeAny_loop rfl I (fun n s hI=>?_) n h
 show wpAny _ A ((compTurn (.ListComp elt [⟨target,iter,ifs,0⟩] scope pos) 0 it acc env).onRaise (fun x=>do noteFrame x env;theTreesLotGoes x)) _ _ s
 refine wpAny_noted ?_
 rw [compTurn_list]
 refine ax (o_ (ax (b9 (turn n s hI) (fun r s₁ h₁=>?_) fun _ _ h'=>h')))
 cases r with
 | none=>exact bJ h₁
 | some v=>
  refine ax (b9 h₁ (fun _ s₁ h₁=>?_) fun _ _ h'=>h')
  refine ax (b9 h₁ (fun _ s₂ h₂=>ax (b9 h₂ (fun ok s₃ h₃=>?_) fun _ _ h'=>h')) fun _ _ h'=>h')
  cases ok with
  | false=>exact bJ ⟨rfl,h₃⟩
  | true=>
   exact ax (ax (b9 h₃ (fun x s₄ h₄=>ax (b9 h₄ (fun _ s₅ h₅=>bJ (bJ ⟨rfl,h₅⟩)) fun _ _ h'=>h')) fun _ _ h'=>h'))
end
def oK(K:aD)(wi:TI)(ρ:St→St)(tt:TT)(te:TE):TE:=fun σ H Q=>wi σ H fun J H1=>∀D,H1 D=none→∃W:Nat→Nat→List V→Hp→Prop,(∃m,W 0 m [] (upd H1 D (.lst []))) ∧
 ∀i m ys Hc,W i m ys Hc→Hc D=some (.lst ys)∧((J.stop i Hc∧Q (.ref D) Hc)∨(J.go i Hc∧∀v H',J.dZ i Hc v H'→∃T x1 x2,v=.ref T∧eK K H' T [x1,x2]∧tt (some x1::some x2::ρ σ) H' fun b H2=>
  if b=true then te (some x1::some x2::ρ σ) H2 fun y H3=>H3 D=some (.lst ys)∧ys.length<sizeLine∧∃m',m'<m∧W (i+1) m' (ys++[y]) (upd H3 D (.lst (ys++[y]))) else ∃m',m'<m∧W (i+1) m' ys H2))
section
variable {X:Cx} {N:List Str} {scope:Scope} {cl:List (Str×Addr)} {x y:Str} {px py pos tp:Pos} {mY:Nat} {iter elt:Expr} {ifs:List Expr} {wi:TI} {ρ:St→St} {tt:TT} {te:TE}
structure HB (X:Cx) (N:List Str) (scope:Scope) (cl:List (Str×Addr)) (x y:Str) (ρ:St→St):Prop where
 AD:closureFor scope X.env=pure cl
 kind:scope.kind=.function
 AE:∀y∈scope.names,y.2≠.cell
 names:∀y∈scope.names,y.2=.local→scope.names.lookup y.1=some .local
 sub:∀p∈cl,X.env.cells.lookup p.1=some p.2
 has:∀y,((relabel scope X.env).names.lookup y=some .cell∨(relabel scope X.env).names.lookup y=some .free)→∃c,cl.lookup y=some c
 n0:N[0]?=some x
 n1:N[1]?=some y
 nd:N.Nodup
 hx:scope.names.lookup x=some .local
 hy:scope.names.lookup y=some .local
 AF:∀(σ:St) (j:Nat) (v:V),(ρ σ)[j]?=some (some v)→∃(i:Nat) (y:Str),N[j+1+1]?=some y∧X.N[i]?=some y∧σ[i]?=some (some v)∧sO X.env.scope y∧(X.env.kindOf y=some .cell∨X.env.kindOf y=some .free)∧((relabel scope X.env).names.lookup y=some .cell∨(relabel scope X.env).names.lookup y=some .free)
 len:∀σ:St,σ.length=X.N.length→(ρ σ).length+1+1=N.length
theorem HC(is:List Nat)(h1:closureFor scope X.env=pure cl)(h:Dg X scope N.tail.tail is:=by repeat' first | exact True.intro | refine And.intro ⟨rfl,Or.inr (Or.inl rfl),.inl rfl,.inl rfl⟩ ?_)(h2:scope.kind=.function:=by rfl)(h3:∀y∈scope.names,y.2≠.cell:=by decide +kernel)(h4:∀y∈scope.names,y.2=.local→scope.names.lookup y.1=some .local:=by decide +kernel)(h5:∀p∈cl,X.env.cells.lookup p.1=some p.2:=by repeat' first | exact List.forall_mem_nil _ | refine List.forall_mem_cons.mpr ⟨rfl,?_⟩)(h6:((relabel scope X.env).names.all fun q=>(q.2 != .cell && q.2 != .free) || (cl.lookup q.1).isSome)=true:=by rfl)(h7:N[0]?=some x:=by rfl)(V_:N[1]?=some y:=by rfl)(h8:N.Nodup:=by decide +kernel)(h9:scope.names.lookup x=some .local:=by rfl)(Wa:scope.names.lookup y=some .local:=by rfl)(hr:∀σ:St,ρ σ=is.map fun i=>σ[i]?.join:=by exact fun _=>rfl)(hl:is.length+1+1=N.length:=by rfl):HB X N scope cl x y ρ:=
 ⟨h1,h2,h3,h4,h5,Na h6,h7,V_,h8,h9,Wa,fun σ j v e=>by rw [hr] at e;rw [←List.getElem?_tail,←List.getElem?_tail];exact Ho h σ j v e,fun σ _=>by rw [hr,ay];exact hl⟩
theorem Ni(B:HB X N scope cl x y ρ)(hc:X.calm=true)(hi:PI X (.Tuple [.Name x px,.Name y py] mY tp) iter wi)(ht:∀s₃ H₃ fp,oF (X.bo N scope cl s₃ H₃ fp) ifs tt)(he:∀s₃ H₃ fp,PE (X.bo N scope cl s₃ H₃ fp) elt te)
  (hs:∀x,foldedSetIterable iter X.env x=pure x:=by intro _;rfl):PE X (.ListComp elt [⟨.Tuple [.Name x px,.Name y py] mY tp,iter,ifs,0⟩] scope pos) (oK X.K wi ρ tt te):=by
 intro pins s σ H Q I h
 rw [eval_ListComp]
 refine Co (use:=none) rfl hs B.AD B.kind B.names (aH (hi pins s σ H _ I h) fun v s1 h1=>aH h1 fun wQ s2 h2=>?_)
 obtain ⟨it,fp,tn,J,H2,rfl,I2,T,iF,f2,q2⟩:=h2
 have nD:H2 s2.heap.objs.size=none:=I2.aw.fresh (au _)
 obtain ⟨W,⟨m0,w0⟩,turn⟩:=q2 _ nD
 refine vU (zP B.AE (by intro y hy;simp at hy) (fun h₁ gM gN=>?_) B.kind)
 dsimp only at gM gN ⊢
 generalize hD:s2.heap.objs.size=D at nD w0 turn gM gN ⊢
 generalize jl:({s2 with heap:=s2.heap.push {cls:=.type "list",dict:=none,data:=.seq ([]:List Value).toArray}}:Shared)=s3
 have I3:Inv X pins σ (upd H2 D (.lst [])) s3:=by
  subst hD jl
  exact I2.laid (t':=s2.toks) (fun b u e=>b_ _ e) (au _) ⟨bG _,[],_,.nil,eh _ rfl⟩
 have e3:s3.heap=s2.heap.push {cls:=.type "list",dict:=none,data:=.seq ([]:List Value).toArray}:=by rw [←jl]
 have gO:∀b o,s2.heap.get? b=some o→s3.heap.get? b=some o:=fun b o e=>by rw [e3];exact b_ _ e
 rw [←e3] at gM gN ⊢
 have below:∀b o,s3.heap.get? b=some o→b≠s3.heap.objs.size:=fun b o e=>bZ (aU e)
 have eO:∀b o,s3.heap.get? b=some o→h₁.get? b=some o:=fun b o e=>gN.extBut b o (below b o e) (b_ _ e)
 have jm:∀b∈fp,∃o,s2.heap.get? b=some o∧∀v,o.data≠.cell v:=T.obj _ _ iF
 have tJ:∀b∈fp,b≠D:=fun b hb z=>by
  obtain ⟨o,e,_⟩:=jm b hb
  rw [z,←hD] at e
  exact absurd (aU e) (d6 _)
 have dM:∀y c,cl.lookup y=some c→X.env.cells.lookup y=some c:=fun y c e=>B.sub (y,c) (nO e)
 have tK:=I3.wI
 have eN:(X.bo N scope cl s3 (upd H2 D (.lst [])) fp).Ok:=by
  refine ⟨I.ok.mod,B.kind,I.ok.glob,I.ok.blt,au _,fun a b c e1 e2=>I.ok.inj a b c (dM a c e1) (dM b c e2),fun y hy=>B.has y hy,(fun _ _ z _=>absurd z dR),(fun _=>I.ok.hd hc),I.ok.frames,.inl rfl,fun b hb=>⟨?_,fun y c e z=>?_⟩,fun b o e=>?_,bU I.ok.jd I3.sz,fun b o e hb=>?_,fun b hb z=>?_,I3.stack,tK⟩
  ·obtain ⟨o,e,_⟩:=jm b hb
   exact below b o (gO b o e)
  ·exact (f2 b hb).2.2.2.2.1 y c (dM y c e) z
  ·exact I3.bs b o e
  ·rcases (f2 b hb).2.2.2.1 with z | z
   ·exact I.ok.qQ b o e z
   ·exact absurd (dQ (aU e) (bU I.ok.jd z)) (d6 _)
  ·rcases bb.mp (I3.wH b z) with z | z
   ·exact (f2 b hb).2.1 z
   ·exact (f2 b hb).2.2.1 z
 have IB:∀tk:Nat,Inv (X.bo N scope cl s3 (upd H2 D (.lst [])) fp) [] (none::none::ρ σ) (upd H2 D (.lst [])) {s3 with heap:=h₁,toks:=tk}:=fun tk=>by
  refine ⟨eN,rfl,I3.bare,Un.kept eO,⟨_,gM,fun j y v e1 e2 e3=>?_⟩,fun y c e=>?_,?_,fun y c e=>I3.j9 y c (dM y c e),(fun p hp=>nomatch hp),I3.aw.kept eO,?_⟩
  ·cases j with
   | zero=>cases e2
   | succ j=>
   cases j with
   | zero=>cases e2
   | succ j=>
    obtain ⟨i,y',a1,a2,a3,a4,a5,a6⟩:=B.AF σ j v e2
    have pU:N[j+1+1]?=some y:=e1
    rw [pU] at a1
    cases a1
    obtain ⟨m,hn,hl⟩:=I3.loc
    obtain ⟨u,r,l⟩:=hl i y v a2 a3 a4
    refine ⟨u,r,.inr ⟨a6,?_⟩⟩
    obtain ⟨c,ec⟩:=B.has y a6
    rcases l with ⟨k,_⟩ | ⟨_,c',mR,z⟩
    ·rcases a5 with q | q <;> (rw [k] at q;cases q)
    ·have:=dM y c ec
     rw [this] at mR
     cases mR
     obtain ⟨o,ho,hd⟩:=z
     exact ⟨c,ec,o,eO _ _ ho,hd⟩
  ·obtain ⟨v,o,ho,hd⟩:=I3.cell y c (dM y c e)
   exact ⟨v,o,eO _ _ ho,hd⟩
  ·exact I3.aw.fresh (au _)
  ·show (none::none::ρ σ).length=N.length
   rw [dm,dm]
   exact B.len σ I.len
 have fin:∀{σ':St} {H':Hp} {s':Shared},Inv (X.bo N scope cl s3 (upd H2 D (.lst [])) fp) [] σ' H' s'→Q (.ref D) H'→compPost (model X.prog X.w) X.A X.xe none (EP X pins σ Q) (.ref D) s3.heap.objs.size (.ok .next) s':=fun{σ' H' s'} J q=>by
  obtain ⟨m,hn,_⟩:=J.loc
  refine ⟨m,hn,fun h' gP=>⟨.ref D,H',?_,rfl,q⟩⟩
  have old:∀b o,s3.heap.get? b=some o→b≠s3.heap.objs.size:=below
  have u1:Un (cY X.stack) fp (upd H2 D (.lst [])) H' s3.heap h':=by
   refine ⟨fun b o e n hb hx=>?_,fun b o e n hb hx=>?_,J.base.free,fun b o e hx=>?_,J.base.hE,J.base.iD,J.base.iE⟩
   ·exact (gP.2 b (old b o e)).trans (J.base.keep b o e n hb hx)
   ·obtain ⟨sl,z⟩:=J.base.slot b o e n hb hx
    exact ⟨sl,(gP.2 b (old b o e)).trans z⟩
   ·obtain ⟨o',z⟩:=J.base.there b o e hx
    exact ⟨o',(gP.2 b (old b o e)).trans z⟩
  have tL:cR X.prog X.w H' h':=fun b u e=>by
   refine (J.aw b u e).iY (fun c v hc z=>(gP.2 c fun y=>?_).trans z) (fun _ z=>z) fun _ _ z=>z
   have fr:=J.free
   have y':c=s3.heap.objs.size:=y
   rcases hc with hc | hc
   ·rw [←hc,y'] at e
    exact absurd (fr.symm.trans e) (by simp)
   ·rw [y'] at hc
    exact absurd (fr.symm.trans hc) (by simp)
  refine I3.n_ (s':={s' with heap:=h'}) (ch:=fp) (J.os) u1 tL J.bare fun b hb=>?_
  obtain ⟨g0,g1,g2,g3,g4,g5⟩:=f2 b hb
  exact ⟨g3,g1,g4,g5⟩
 have gF:∀{H':Hp},(∀b∈fp,H' b=none)→∀b∈fp,oj (X.bo N scope cl s3 (upd H2 D (.lst [])) fp) [] H' b:=fun hn b hb=>by
  refine ⟨hn b hb,?_,?_,.inl hb,fun y c e z=>(f2 b hb).2.2.2.2.1 y c (dM y c e) z,fun p hp=>nomatch hp⟩
  ·obtain ⟨o,e,_⟩:=jm b hb
   exact below b o (gO b o e)
  ·exact eN.qR b hb
 have loop:∀tk:Nat,codeAny (model X.prog X.w) X.A (.compLoop (.ListComp elt [⟨.Tuple [.Name x px,.Name y py] mY tp,iter,ifs,0⟩] scope pos) 0 (.ref it) (.ref D) (compEnvC scope cl s3.heap.objs.size X.env))
   (compPost (model X.prog X.w) X.A X.xe none (EP X pins σ Q) (.ref D) s3.heap.objs.size) {s3 with heap:=h₁,toks:=tk}:=fun tk=>by
  refine Nh (fun n s'=>∃i ys o o2 H',Inv (X.bo N scope cl s3 (upd H2 D (.lst [])) fp) [] (o::o2::ρ σ) H' s'∧tn i s'.heap∧(∀b∈fp,H' b=none)∧W i n ys H') ?_ m0
   ⟨0,[],none,none,_,IB tk,T.keep _ _ _ iF fun b hb o e=>eO _ _ (gO _ _ e),fun b hb=>by rw [aE (tJ b hb)];exact (f2 b hb).1,w0⟩
  rintro n s4 ⟨i,ys,o,o2,H4,I4,mS,mT,w4⟩
  obtain ⟨Hq,tM⟩:=turn i n ys H4 w4
  rcases tM with ⟨stop,qn⟩ | ⟨go,step⟩
  ·refine b9 (T.done (X.bo N scope cl s3 (upd H2 D (.lst [])) fp) rfl rfl rfl hc i [] s4 _ H4 (fun _ _=>False) I4 (gF mT) mS stop) (fun r s5 ⟨hr,I5⟩=>?_) fun _ _ z=>z.elim
   subst hr
   exact fin I5 qn
  ·refine b9 (T.item (X.bo N scope cl s3 (upd H2 D (.lst [])) fp) rfl rfl rfl hc i [] s4 _ H4 (fun _ _=>False) I4 (gF mT) mS go) (fun r s5 ⟨u,hr,h5⟩=>?_) fun _ _ z=>z.elim
   subst hr
   refine b9 h5 (fun _ s5 ⟨y0,H5,I5,r5,y5,gG,pP⟩=>?_) fun _ _ z=>z.elim
   obtain ⟨Tt,x1,x2,e0,HD,tN⟩:=step y0 _ y5
   subst e0
   have pR:=I5.pinned (gF pP) (T.obj _ _ gG)
   have pg:PG (X.bo N scope cl s3 (upd H2 D (.lst [])) fp) (.Tuple [.Name x px,.Name y py] mY tp) (GN X.K 2 (Ah (aQ 0) (Ah (aQ 1) GL))):=
    sW (X:=X.bo N scope cl s3 (upd H2 D (.lst [])) fp) hc (jI (dy (i:=0) B.nd B.n0 (.inl (kL B.hx)) (.inr (kL B.hx))) (jI (dy (i:=1) B.nd B.n1 (.inl (kL B.hy)) (.inr (kL B.hy))) sV))
   have again:∀{σ7:St} {H7:Hp} {s7:Shared},Inv (X.bo N scope cl s3 (upd H2 D (.lst [])) fp) ([]++kZ fp s5.heap) σ7 H7 s7→Inv (X.bo N scope cl s3 (upd H2 D (.lst [])) fp) [] σ7 H7 s7∧tn (i+1) s7.heap∧∀b∈fp,H7 b=none:=fun{σ7 H7 s7} I7=>by
    refine ⟨I7.sZ,T.keep _ _ _ gG fun b hb o e=>(I7.pin (b,o) (ei _ (ei _ (om hb e)))).1,fun b hb=>?_⟩
    obtain ⟨o,e,d⟩:=T.obj _ _ gG b hb
    exact (I7.pin (b,o) (ei _ (ei _ (om hb e)))).2.1
   refine b9 (pg _ s5 _ H5 (.ref Tt) u (fun σ2 H6=>σ2=some x1::some x2::ρ σ∧H6=H5) pR r5 ⟨Tt,_,rfl,HD,rfl,_,_,rfl,_,_,rfl,rfl,rfl,rfl⟩) (fun _ s6 ⟨σ6,H6,I6,q6⟩=>?_) fun _ _ z=>z.elim
   obtain ⟨rfl,rfl⟩:=q6
   have tests:∀{jo:TT},oF (X.bo N scope cl s3 (upd H2 D (.lst [])) fp) ifs jo→∀{R:Bool→Hp→Prop},jo (some x1::some x2::ρ σ) H6 R→wpAny (model X.prog X.w) X.A
     (forIn ifs true fun c r=>if r=true then do let ok ←isTrue c (compEnvC scope cl s3.heap.objs.size X.env) (eval c (compEnvC scope cl s3.heap.objs.size X.env));pure (ForInStep.yield ok) else pure (ForInStep.yield r))
     (fun ok s7=>∃H7,Inv (X.bo N scope cl s3 (upd H2 D (.lst [])) fp) ([]++kZ fp s5.heap) (some x1::some x2::ρ σ) H7 s7∧R ok H7) (fun _ _=>False) s6:=fun{jo} p {R} hR=>by
    cases p with
    | nil=>exact Cp ⟨_,I6,hR⟩
    | one p=>exact Cq (p _ s6 _ _ _ I6 hR)
   refine b9 (tests (ht s3 _ fp) tN) (fun ok s7 ⟨H7,I7,q7⟩=>?_) fun _ _ z=>z.elim
   cases ok with
   | false=>
    obtain ⟨m',d5,w7⟩:=q7
    obtain ⟨a1,a2,a3⟩:=again I7
    exact ⟨m',d5,i+1,ys,_,_,H7,a1,a2,a3,w7⟩
   | true=>
    refine b9 (he s3 _ fp _ s7 _ H7 _ I7 q7) (fun ev s8 ⟨z,H8,I8,r8,tO,hz,m',d5,w8⟩=>?_) fun _ _ z=>z.elim
    refine b9 (k8 (X:=X.bo N scope cl s3 (upd H2 D (.lst [])) fp) _ s8 _ H8 (.ref D) [z] (.ref D) [ev] (fun _ H9=>H9=upd H8 D (.lst (ys++[z]))) I8 rfl (.cons r8 .nil) ⟨D,ys,z,rfl,rfl,tO,hz,rfl⟩) (fun _ s9 ⟨_,H9,I9,_,q9⟩=>?_) fun _ _ z=>z.elim
    subst q9
    obtain ⟨a1,a2,a3⟩:=again I9
    exact ⟨m',d5,i+1,ys++[z],_,_,_,a1,a2,a3,w8⟩
 have start:=loop (s3.toks+([]:List (Str×Value)).length)
 have es:({s3 with heap:=h₁,toks:=s3.toks+([]:List (Str×Value)).length}:Shared)={s2 with heap:=h₁,toks:=s2.toks+([]:List (Str×Value)).length}:=by rw [←jl]
 rw [es] at start
 exact Cr start (T.self _ 0 _ _ _ (T.keep _ _ _ iF fun b hb o e=>eO _ _ (gO _ _ e)) start)
end
section
variable {X:Cx}
def Wc(K:aD):List V→Hp→VK→Prop:=fun xs H Q=>∃(p:Addr) (ns:List Int),xs=[.ref p]∧a8 K H p (ns.map V.int)∧Q (.int ns.sum) H
theorem We:∀(ns:List Int),preSum (fun i=>ns.getD i 0) ns.length=ns.sum:=by
 intro ns;have key:∀k,k≤ns.length→preSum (fun i=>ns.getD i 0) k=(ns.take k).sum:=by
  intro k
  induction k with
  | zero=>intro _;rfl
  | succ k ih=>
   intro hk;show preSum (fun i=>ns.getD i 0) k+ns.getD k 0=_;rw [ih (by lia),List.take_add_one,List.sum_append]
   have e:ns[k]?=some ns[k]:=by simp [show k<ns.length by lia]
   rw [cQ,e];simp
 rw [key ns.length (au _),iU]
theorem HE(hc:X.calm=true)(hK:X.K=K:=by rfl):gr X (.builtin "sum") (Wc K):=by
 intro pins s σ H xs us Q I r h;subst hK;obtain ⟨p,ns,rfl,hq,q⟩:=h;obtain ⟨u,rfl,ru⟩:=vals1 r;cases ru;obtain ⟨its,rv,pl,hz⟩:=I.list hq;have gJ:p≠s.heap.objs.size:=by obtain ⟨o,e,_⟩:=pl.isList;exact bZ (aU e)
 have hl:its.length=ns.length:=by rw [←rv.length,ay]
 refine call_sum_walkG (Ck pl.isList ?_);refine ⟨s.heap.objs.size,_,_,_,_,_,fun i=>ns.getD i 0,rfl,Walks.list (A:=X.A.in1) (show X.A.in1.handled=none from I.ok.hd hc) s.heap.objs.size p gJ its.toArray,⟨⟨_,eh _ rfl,rfl,rfl⟩,pl.isList.push _⟩,?_,fun i v hv=>?_,fun h' tk t' hk=>?_⟩
 ·intro b hb
  rw [Heap.size_push];simp only [bb,j4,kM] at hb;rcases hb with rfl | rfl;·exact Ct _
  ·obtain ⟨o,e,_⟩:=pl.isList
   exact nS (aU e)
 ·have mU:its[i]?=some v:=by simpa using hv
  cases eb:ns[i]? with
  | none=>
   have:=rv.none_of (i:=i) (by rw [bz,eb];rfl)
   rw [this] at mU;cases mU
  | some b=>
   obtain ⟨u,hu,ru⟩:=rv.get (i:=i) (x:=V.int b) (by rw [bz,eb];rfl)
   rw [hu] at mU;cases mU;obtain ⟨t,rfl⟩:=ru;exact ⟨t,by show Value.int b t=Value.int (ns.getD i 0) t;rw [cQ,eb];rfl⟩
 ·refine ⟨.int ns.sum,H,I.kept fun b o e=>hk b o (fun z=>?_) (b_ _ e),⟨t',?_⟩,q⟩
  ·exact absurd (aU e) (by rw [cB.mp z];exact d6 _)
  ·congr 1
   rw [cf,hl];exact We ns
end
theorem boot_sum:bootBuiltins "sum"=some (.builtin "sum"):=by decide +kernel
section
variable {M:Model} {A:Around} {E:aF} {s:Shared}
end
section
variable {X:Cx} {N:List Str} {scope:Scope} {cl:List (Str×Addr)} {x:Str} {px pos:Pos} {iter elt:Expr} {ifs:List Expr} {wi:TI} {ρ:St→St} {tt:TT} {te:TE}
end
theorem Nj{v:V}(h:k7 v=true):fm v v=true:=by
 cases v with
 | aI=>rfl
 | bl b=>show (b == b)=true;simp
 | int i=>show (i == i)=true;simp
 | str x=>show (x == x)=true;simp
 | _=>cases h
theorem all_range(n:Nat):(List.range n).all (fun _=>true)=true:=by simp
section
variable {X:Cx} {pins:aO} {σ:St} {H:Hp} {s:Shared}
end
section
variable {X:Cx}
end
section
variable {X:Cx} {N:List Str} {scope:Scope} {cl:List (Str×Addr)} {x:Str} {px pos:Pos} {iter elt:Expr} {ifs:List Expr} {wi:TI} {ρ:St→St} {tt:TT} {te:TE}
end
structure Nk (J:It) (zs:List (V×V)) (H1:Hp):Prop where
 go:∀i Hc,af H1 Hc→i<zs.length→J.go i Hc
 dZ:∀i Hc v H',af H1 Hc→J.dZ i Hc v H'→∃T x y,v=.ref T∧Hc T=none∧H'=upd Hc T (.tup [x,y])∧(i<zs.length→zs[i]?=some (x,y))
 stop:∀i Hc,af H1 Hc→zs.length≤i→J.stop i Hc
theorem Wf{b:Addr}{ys:List V}(h1:a8 K H1 a xs)(h2:a8 K H1 b ys):Nk (Hv K a b) (xs.zip ys) H1 where
 go:=fun i Hc s hi=>by
  have hi:i<min xs.length ys.length:=by simpa using hi
  exact ⟨xs,ys,xs[i],ys[i],s.seq h1,s.seq h2,by simp [show i<xs.length by lia],by simp [show i<ys.length by lia]⟩
 dZ:=fun i Hc v H' s y=>by obtain ⟨T,x,y,nT,ev,eH,hx⟩:=y;obtain ⟨e1,e2⟩:=hx xs ys (s.seq h1) (s.seq h2);exact ⟨T,x,y,ev,nT,eH,fun _=>by rw [List.getElem?_zip_eq_some];exact ⟨e1,e2⟩⟩
 stop:=fun i Hc s hi=>by
  have hi:min xs.length ys.length≤i:=by simpa using hi
  exact ⟨xs,ys,s.seq h1,s.seq h2,by lia⟩
theorem Wg{zs:List (V×V)}(eF:∀R:It→Hp→Prop,(∀J H1,af H H1→Nk J zs H1→R J H1)→wi σ H R)(hn:zs.length<sizeLine)
  (P:Nat→V→Prop)
  (step:∀i x y,zs[i]?=some (x,y)→∀(Hc:Hp) (R:VK),af H Hc→(∀v H3,af Hc H3→P i v→R v H3)→te (some x::some y::ρ σ) Hc R)
  (fin:∀D vs Hc,af H Hc→vs.length=zs.length→(∀(i:Nat) (v:V),vs[i]?=some v→P i v)→Hc D=some (.lst vs)→Q (.ref D) Hc):oK K wi ρ (fun _ H Q=>Q true H) te σ H Q:=by
 refine eF _ fun J H1 s1 js=>?_;intro D nD;refine ⟨fun i m vs Hc=>m=zs.length-i∧i≤zs.length∧Hc D=some (.lst vs)∧af H1 Hc∧vs.length=i∧∀(j:Nat) (v:V),vs[j]?=some v→P j v,⟨_,rfl,bG _,ar,fc (af.refl H1) nD,rfl,fun j y e=>by simp at e⟩,?_⟩
 rintro i m vs Hc ⟨rfl,hi,eD,sH,el,hP⟩;refine ⟨eD,?_⟩;by_cases aR:i<zs.length
 ·refine .inr ⟨js.go i Hc sH aR,fun v H' hy=>?_⟩
  obtain ⟨T,x,y,ev,nT,eH,hx⟩:=js.dZ i Hc v H' sH hy;subst ev eH;refine ⟨T,x,y,rfl,.of ar,?_⟩;dsimp only;rw [ae rfl];have sT:af Hc (upd Hc T (.tup [x,y])):=fun b o e=>by rw [aE (fW e nT)];exact e
  refine step i x y (hx aR) _ _ (s1.trans (sH.trans sT)) fun w H3 s3 hp=>?_;have e3:=s3 _ _ (sT _ _ eD);refine ⟨e3,by lia,zs.length-(i+1),by lia,rfl,aR,ar,fc (sH.trans (sT.trans s3)) nD,by simp [el],fun j v' e=>?_⟩
  by_cases hj:j<i;·exact hP j v' (by rw [gZ (by lia)] at e;exact e)
  ·have hj:j=i:=by have:=(bV.mp e).1;simp at this;lia
   subst hj;have e':v'=w:=by rw [iw (by lia),el,mw] at e;simpa using e.symm
   subst e';exact hp
 ·have e:i=zs.length:=by lia
  subst e;exact .inl ⟨js.stop _ Hc sH (au _),fin D vs Hc (s1.trans sH) el hP eD⟩
theorem rf(eF:∀R:It→Hp→Prop,(∀J H1,af H H1→lE J xs H1→R J H1)→wi σ H R)(hn:xs.length<sizeLine)
  (P:Addr→Nat→V→Hp→Prop) (mono:∀D i y H H' ys,P D i y H→H D=some (.lst ys)→(∀b o,b≠D→H b=some o→H' b=some o)→P D i y H')
  (step:∀D i x,xs[i]?=some x→∀(Hc:Hp) (R:VK),af H Hc→(∃ys,Hc D=some (.lst ys))→(∀y H3,af Hc H3→P D i y H3→R y H3)→te (some x::ρ σ) Hc R)
  (fin:∀D ys Hc,H D=none→af H Hc→ys.length=xs.length→(∀(i:Nat) (y:V),ys[i]?=some y→P D i y Hc)→Hc D=some (.lst ys)→Q (.ref D) Hc):jj wi ρ (fun _ H Q=>Q true H) te σ H Q:=by
 refine eF _ fun J H1 s1 js=>?_;intro D nD;have hD:H D=none:=by
  cases e:H D with
  | none=>rfl
  | some o=>rw [s1 _ _ e] at nD;cases nD
 exact Nf (ρσ:=ρ σ) (te:=te) (Q:=Q) js nD hn (P D) (mono D) (fun i x hx Hc R sc=>step D i x hx Hc R (s1.trans sc)) (fun ys Hc sc=>fin D ys Hc hD (s1.trans sc))
section
variable {X:Cx} {K:aD}
theorem Nl(hK:X.K=K:=by rfl):wY X (MS K):=by subst hK;exact iI
theorem Nm(hK:X.K=K:=by rfl):wY X (MR K):=by subst hK;exact eY
def Wh(K:aD):List V→Hp→VK→Prop:=fun xs H Q=>∃p ys,xs=[.ref p]∧(a8 K H p ys∨eK K H p ys)∧Q (.int (ys.length:Int)) H
theorem Wi(hK:X.K=K:=by rfl):gr X (.builtin "len") (Wh K):=by subst hK;exact ke
end
end L2
namespace My
open PySem L2
variable {te:TE} {σ:St} {H:Hp} {Q:VK}
theorem xg{r:List V→Hp→VK→Prop}(h:te σ H fun x H1=>r [x] H1 Q):An r (wV te tE) σ H Q:=h
theorem pW{D:Ends}(h:te σ H D.rt):Mf te D σ H:=h
theorem Wj{vs:List V}{b:Bool}(h:∀(i:Nat) (v:V),vs[i]?=some v→v=.bl b):vs=(List.replicate vs.length b).map V.bl:=by
 refine zS fun i=>?_;rw [bz];by_cases hi:i<vs.length
 ·rw [show vs[i]?=some vs[i] by simp [hi],h i vs[i] (by simp [hi])]
  simp [hi]
 ·rw [Cu (by lia),Cu (by simp;lia)]
  rfl
theorem Wl(n:Nat):(List.replicate n true).all id=true:=by simp
theorem Wm{r:R2}{ta tb:TE}(h:ta σ H fun x H1=>tb σ H1 fun y H2=>r x y H2 Q):q8 r ta tb σ H Q:=h
variable {H':Hp} {b:Addr}
theorem none_of(s:af H H')(h:H' b=none):H b=none:=by
 cases e:H b with
 | none=>rfl
 | some o=>rw [s _ _ e] at h;cases h
theorem getD_at{α:Type}{xs:List α}{d:α}{i:Nat}(hi:i<xs.length):xs.getD i d=xs[i]:=by
 rw [cQ,show xs[i]?=some xs[i] by simp [hi]]
 rfl
def er(P:Addr)(H:Hp):Hp:=fun b=>if b=P then none else H b
variable {P:Addr}
theorem AM:af (er P H) H:=fun b o e=>by
 unfold er at e
 split at e
 ·cases e
 ·exact e
theorem rg(h:b≠P):er P H b=H b:=aa h
variable {o:HO}
theorem xh(h:b≠P)(e:H b=some o):er P H b=some o:=by rw [rg h];exact e
theorem Wn(s:af H H'):af (er P H) (er P H'):=fun b o e=>by
 unfold er at e ⊢
 split at e
 ·cases e
 ·rename_i h
  rw [aa h];exact s _ _ e
theorem Nn:er P (upd H P o)=er P H:=funext fun b=>by
 unfold er
 split
 ·rfl
 ·rename_i h
  exact aE h
def c_(H:Hp)(P a:Addr):Prop:=∃x y:Int,H P=some (.lst [.ref a,.int x,.int y])∧0≤x∧0≤y
variable {a:Addr}
theorem c_.mono(h:c_ H P a)(s:af H H'):c_ H' P a:=by obtain ⟨x,y,e,h1,h2⟩:=h;exact ⟨x,y,s _ _ e,h1,h2⟩
variable {D:Addr}
theorem c_.upd(h:c_ H P a)(n:D≠P):c_ (L2.upd H D o) P a:=by obtain ⟨x,y,e,h1,h2⟩:=h;exact ⟨x,y,by rw [aE n.symm];exact e,h1,h2⟩
theorem c_.ne(h:c_ H P a)(n:H D=none):D≠P:=fun z=>by obtain ⟨x,y,e,_⟩:=h;rw [z,e] at n;cases n
def a_(P:Addr)(H H':Hp):Prop:=af (er P H) (er P H')
theorem a_.refl(H:Hp):a_ P H H:=af.refl _
theorem a_.trans{H2:Hp}(s:a_ P H H')(t:a_ P H' H2):a_ P H H2:=af.trans s t
theorem a_.of(s:af H H'):a_ P H H':=Wn s
theorem a_.lH:a_ P H (upd H P o):=by unfold a_;rw [Nn];exact af.refl _
theorem a_.but(s:a_ P H H')(n:H D=none):a_ P H (upd H' D o):=fun b u e=>by
 have e0:=s b u e;have nb:b≠P:=fun z=>by unfold er at e;rw [ae z] at e;cases e
 rw [rg nb] at e e0 ⊢;rw [aE (fW e n)];exact e0
theorem a_.at(s:a_ P H H')(nb:b≠P)(e:H b=some o):H' b=some o:=by have z:=s b o (xh nb e);rw [rg nb] at z;exact z
end My
namespace L2
open PySem PySem.Spec PyProof.Rows
end L2
namespace My
open PySem L2
def Wo:Sp:=fun vs H Q _=>∃c a:Int,vs=[.int c,.int a]∧0≤a∧∀r:Int,0≤r→Q (.int r) H
def Wq(K:aD):Sp:=fun vs H Q _=>∃(P a:Addr) (ns:List Int) (many:Int),vs=[.ref P,.int many]∧c_ H P a∧a8 K (er P H) a (ns.map V.int)∧1≤many∧lp many∧∀(r:Int) (H':Hp),0≤r→r<many→a_ P H H'→c_ H' P a→Q (.int r) H'
end My
namespace L2
open PySem PySem.Spec PyProof.Rows
end L2
namespace My
open PySem L2
end My
namespace L2
open PySem PySem.Spec PyProof.Rows
def AN(K:aD)(l:Addr):It:=
  ⟨fun i H=>∃xs x,a8 K H l xs∧xs[i]?=some x,
   fun i H v H'=>∃T x,H T=none∧v=.ref T∧H'=upd H T (.tup [.int (i:Int),x])∧∀xs,a8 K H l xs→xs[i]?=some x,
   fun i H=>∃xs,a8 K H l xs∧xs.length≤i⟩
variable {K:aD} {l:Addr}
theorem Wr{P:Program}{w:World}{elts:List Expr}{k:Nat}{pos:Pos}{e it:Addr}(Np:e≠it):Turn P w K (.Tuple elts k pos) (AN K l) [e,it] e
  (fun i h=>(∃old,IsEnum h e it (i:Int) old)∧h.IsListIter it l i) where
 mem:=by simp
 obj:=fun i h st b hb=>by
  obtain ⟨⟨old,he⟩,h1⟩:=st;simp only [bb,j4,kM] at hb;rcases hb with rfl | rfl;·exact ⟨_,he,fun v z=>by cases z⟩
  ·obtain ⟨o,e,c,d⟩:=h1
   exact ⟨o,e,fun v z=>by rw [d] at z;cases z⟩
 keep:=fun i h h' st k=>by obtain ⟨⟨old,he⟩,h1⟩:=st;exact ⟨⟨old,k _ (by simp) _ he⟩,h1.at fun o e=>k _ (by simp) o e⟩
 item:=by
  intro X hP hw hK hc i pins s σ H E I hf st hg;subst hP hw hK;obtain ⟨⟨old,he⟩,h1⟩:=st;obtain ⟨xs,x,ko,hx⟩:=hg;obtain ⟨its,rv,p,_⟩:=I.list ko;obtain ⟨u,hu,ru⟩:=rv.get hx;refine wpAny_pyNext_enum_item he h1 p.isList (x:=u) (by simpa using hu) Np fun h' g1 g2 g3 g4 g5=>⟨_,rfl,?_⟩
  refine wpAny_letOwnedTupleGo_enum g1 fun oJ q1 sb=>?_;have AL:H s.heap.objs.size=none:=I.aw.fresh (au _);have lt:∀b o,s.heap.get? b=some o→b≠s.heap.objs.size:=fun b o e=>bZ (aU e);have keep:∀b o,b∉[e,it]→s.heap.get? b=some o→oJ.get? b=some o:=fun b o nb e=>by simp only [bb,j4,kM,not_or] at nb;exact sb.extBut _ _ nb.1 (g5 b o nb.1 nb.2 e)
  have elt:e≠s.heap.objs.size:=lt _ _ he;have pT:=sb.extBut _ _ elt.symm g3;have mW:∀{b:Addr} {o:HO} (e:H b=some o),upd H s.heap.objs.size (.tup [.int (i:Int),x]) b=some o:=fun e=>by rw [aE (fW e AL)];exact e
  have aw:cR X.prog X.w (upd H s.heap.objs.size (.tup [.int (i:Int),x])) oJ:=fun b o e=>by
   by_cases hb:b=s.heap.objs.size
   ·subst hb
    rw [ar] at e;cases e;exact ⟨by show 2≤sizeLine;decide,[.int i s.toks,u],.cons ⟨_,rfl⟩ (.cons ru .nil),⟨_,pT,rfl,_,rfl⟩⟩
   ·rw [aE hb] at e
    refine (I.aw b o e).iY (fun c v dY q=>keep c v (fun m=>?_) q) (fun c q=>mW q) fun c xs q=>mW q;have nn:=(hf c m).1;rcases dY with rfl | dY;·rw [nn] at e;cases e
    ·rw [nn] at dY;cases dY
  have u1:Un (cY X.stack) [e,it] H (upd H s.heap.objs.size (.tup [.int (i:Int),x])) s.heap oJ:=
   ⟨fun b o e n _ hx=>keep b o hx e,fun b o e n _ hx=>⟨o.slots,keep b o hx e⟩,fun b o e n hx=>by rw [aE (lt b o e)];exact n,fun b o e hx=>⟨o,keep b o hx e⟩,fun b xs e=>mW e,fun b o u e=>mW e,fun b ps e=>⟨#[],by rw [mW e];simp⟩⟩
  refine ⟨.ref s.heap.objs.size,upd H s.heap.objs.size (.tup [.int (i:Int),x]),I.n_ (s':={s with heap:=oJ,toks:=s.toks+1}) (ch:=[e,it]) rfl u1 aw I.bare (fun b hb=>?_),rfl,⟨_,x,AL,rfl,rfl,fun as ha=>by rw [I.CN ha ko];exact hx⟩,?_,fun b hb=>?_⟩
  ·obtain ⟨f0,f1,f2,f3,f4,f5⟩:=hf b hb
   exact ⟨f3,f1,f4,f5⟩
  ·refine ⟨⟨u,?_⟩,g2.extBut sb.extBut Np.symm⟩
   have z:((i+1:Nat):Int)=(i:Int)+1:=by lia
   rw [z];exact q1
  ·have nb:b≠s.heap.objs.size:=by
    simp only [bb,j4,kM] at hb;rcases hb with rfl | rfl;·exact lt _ _ he
    ·obtain ⟨o,e,_⟩:=h1;exact lt _ _ e
   rw [aE nb];exact (hf b hb).1
 done:=by
  intro X hP hw hK hc i pins s σ H E I hf st hg;subst hP hw hK;obtain ⟨⟨old,he⟩,h1⟩:=st;obtain ⟨xs,ko,hx⟩:=hg;obtain ⟨its,rv,p,_⟩:=I.list ko;have hl:=rv.length;refine wpAny_pyNext_enum_end (I.ok.hd hc) he h1 p.isList (by simp;lia) fun h' g=>⟨rfl,?_⟩
  have keep:∀b o,b∉[e,it]→s.heap.get? b=some o→h'.get? b=some o:=fun b o nb e=>by simp only [bb,j4,kM,not_or] at nb;exact g b o nb.2 e
  have aw:cR X.prog X.w H h':=fun b o e=>by
   refine (I.aw b o e).iY (fun c v dY q=>keep c v (fun m=>?_) q) (fun c q=>q) fun c xs q=>q;have nn:=(hf c m).1;rcases dY with rfl | dY;·rw [nn] at e;cases e
   ·rw [nn] at dY;cases dY
  have u1:Un (cY X.stack) [e,it] H H s.heap h':=
   ⟨fun b o e n _ hx=>keep b o hx e,fun b o e n _ hx=>⟨o.slots,keep b o hx e⟩,fun b o e n hx=>n,fun b o e hx=>⟨o,keep b o hx e⟩,fun b xs e=>e,fun b o u e=>e,fun b ps e=>⟨#[],by rw [e];simp⟩⟩
  refine I.n_ (s':={s with heap:=h'}) (ch:=[e,it]) rfl u1 aw I.bare fun b hb=>?_;obtain ⟨f0,f1,f2,f3,f4,f5⟩:=hf b hb;exact ⟨f3,f1,f4,f5⟩
 self:=fun _ _ _ _ _ st h=>by obtain ⟨⟨old,he⟩,_⟩:=st;exact wpAny_pyIter_enum he h
theorem boot_enumerate:bootBuiltins "enumerate"=some (.type "enumerate"):=by decide +kernel
def Ws(K:aD)(ta:TA):TI:=fun σ H R=>ta σ H fun vs H1=>∃l,vs=[.ref l]∧(∃xs,a8 K H1 l xs)∧R (AN K l) H1
section
variable {X:Cx}
theorem Nq{elts:List Expr}{k:Nat}{qY:Pos}{a:Expr}{ta:TA}{p pos:Pos}(hg:Gl X "enumerate")(hm:X.mg "enumerate"=none)(ha:PA X [a] ta)(hs:starEach [a] X.env=[(false,eval a X.env)]:=by rfl) :
  PI X (.Tuple elts k qY) (.Call (.Name "enumerate" p) [a] [] pos) (Ws X.K ta):=by
 intro pins s σ H R I h;refine Call_ (kY I hg hm boot_enumerate (zM (aH (ha pos pins s σ H _ I h) fun us s1 ⟨vs,H1,I1,r1,q1⟩=>?_) hs rfl));obtain ⟨l,e,⟨xs,ko⟩,q⟩:=q1;subst e;obtain ⟨u,rfl,ru⟩:=vals1 r1;cases ru;obtain ⟨its,rv,p1,_⟩:=I1.list ko;refine call_enumerate_list p1.isList fun h' z1 z2 z3 z4=>?_;refine wpAny_pyIter_enum (s:={s1 with heap:=h'}) z1 ?_;refine ⟨_,_,_,_,H1,rfl,I1.kept (t':=s1.toks) z4,Wr (Nat.succ_ne_self _),⟨⟨_,z1⟩,z2⟩,fun b hb=>?_,q⟩;have le:s1.heap.objs.size≤b:=by
  simp only [bb,j4,kM] at hb;rcases hb with rfl | rfl;·exact zR ..
  ·exact au _
 exact I1.wO le (I1.aw.fresh le)
end
theorem Nr{xs:List V}{g:TG}{tb:TS}{D:Ends}{σ:St}{H:Hp}(Pv:Nat→St→Hp→Prop)(h0:Pv 0 σ H)(hl:∀i σ H,Pv i σ H→a8 K H l xs)
  (hs:∀(i:Nat) (x:V) σ H T,xs[i]?=some x→Pv i σ H→H T=none→g (.ref T) σ (upd H T (.tup [.int (i:Int),x])) fun σ2 H2=>tb {D with nx:=Pv (i+1),ct:=Pv (i+1),bk:=D.nx} σ2 H2) (hd:∀σ H,Pv xs.length σ H→D.nx σ H) :
  ∃W:Nat→Nat→St→Hp→Prop,(∃m,W 0 m σ H)∧∀i m σ H,W i m σ H→
   ((AN K l).stop i H∧D.nx σ H)∨((AN K l).go i H∧∃N:St→Hp→Prop,(∀σ' H',N σ' H'→∃m',m'<m∧W (i+1) m' σ' H')∧∀x H',(AN K l).dZ i H x H'→g x σ H' fun σ2 H2=>tb {D with nx:=N,ct:=N,bk:=D.nx} σ2 H2):=by
 refine ⟨fun i m σ H=>m=xs.length-i∧i≤xs.length∧Pv i σ H,⟨xs.length,by simp,bG _,h0⟩,?_⟩
 rintro i m σ H ⟨rfl,hi,p⟩;have q1:=hl i σ H p;by_cases aR:i<xs.length
 ·refine .inr ⟨⟨xs,xs[i],q1,by simp [aR]⟩,Pv (i+1),fun σ' H' p'=>⟨xs.length-(i+1),by lia,rfl,aR,p'⟩,fun v H' hy=>?_⟩
  obtain ⟨T,x,nT,rfl,rfl,hx⟩:=hy;exact hs i x σ H T (hx xs q1) p nT
 ·have e:i=xs.length:=by lia
  subst e;exact .inl ⟨⟨xs,q1,au _⟩,hd σ H p⟩
def Wt(K:aD):V→V→Hp→VK→Prop:=fun o i H Q=>∃p xs k v,o=.ref p∧i=.int k∧0≤k∧a8 K H p xs∧mP xs k=some v∧Q v H
theorem Wu{X:Cx}:Mh X (Wt X.K):=by
 intro pins s σ H o i ov iv Q I ro ri h;obtain ⟨p,xs,k,z,rfl,rfl,h0,hq,he,q⟩:=h;cases ro;obtain ⟨t,rfl⟩:=ri;obtain ⟨its,r,pl,hz⟩:=I.list hq;obtain ⟨j,h1,h2,h3,h4,h5⟩:=G1 he;obtain ⟨w,ew,gH⟩:=r.get h2;have hl:=r.length;have hn:=tD;have hj:k.toNat=j:=by rw [seqIndex_of h0 h5] at h1;exact Option.some.inj h1
 exact wpAny_getItem_list pl.isList h0 (by lia) (by rw [hj];simpa using ew) ⟨z,H,I,gH,q⟩
end L2
namespace My
open PySem L2
end My
namespace L2
open PySem PySem.Spec PyProof.Rows
section
variable {X:Cx} {tg:Expr}
end
section
variable {X:Cx} {e:Expr} {te:TE} {pos p2:Pos}
end
end L2
namespace My
open PySem L2
theorem Wv:∀place:Nat,(List.replicate ((place:Int).toNat) [V.int 0]).flatten=(List.replicate place (0:Int)).map V.int:=fun place=>by
 rw [en,List.map_replicate]
 induction place with
 | zero=>rfl
 | succ m ih=>rw [qC,vS,ih,qC];rfl
theorem Nt{wi:TI}{ρ:St→St}{te:TE}{σ:St}{H:Hp}{Q:VK}{xs:List V}{n:Nat}(hl:xs.length=n)(eF:∀R:It→Hp→Prop,(∀J H1,af H H1→lE J xs H1→R J H1)→wi σ H R)(hn:n<sizeLine)
  (P:Addr→Nat→Addr→Hp→Prop) (mono:∀D i y H H' ys,P D i y H→y≠D→H D=some (.lst ys)→(∀b o,b≠D→H b=some o→H' b=some o)→P D i y H')
  (step:∀D (i:Nat) (x:V),xs[i]?=some x→∀(Hc:Hp) (R:VK),af H Hc→(∃ys,Hc D=some (.lst ys))→(∀y H3,af Hc H3→Hc y=none→(∃o,H3 y=some o)→P D i y H3→R (.ref y) H3)→te (some x::ρ σ) Hc R)
  (fin:∀D (A:Nat→Addr) Hc,H D=none→af H Hc→(∀i j,i<n→j<n→A i=A j→i=j)→(∀i,i<n→P D i (A i) Hc∧A i≠D)→Hc D=some (.lst ((List.range n).map fun i=>V.ref (A i)))→Q (.ref D) Hc):jj wi ρ (fun _ H Q=>Q true H) te σ H Q:=by
 refine eF _ fun J H1 s1 js=>?_;intro D nD;have hD:H D=none:=by
  cases e:H D with
  | none=>rfl
  | some o=>rw [s1 _ _ e] at nD;cases nD
 refine ⟨fun i m ys Hc=>m=n-i∧i≤n∧Hc D=some (.lst ys)∧af H1 Hc∧∃A:Nat→Addr,ys=(List.range i).map (fun j=>V.ref (A j))∧(∀a b,a<i→b<i→A a=A b→a=b)∧∀j,j<i→P D j (A j) Hc∧A j≠D∧∃o,Hc (A j)=some o,⟨_,rfl,bG _,ar,fc (af.refl H1) nD,fun _=>D,rfl,(fun a b h=>by lia),fun j h=>by lia⟩,?_⟩
 rintro i m ys Hc ⟨rfl,hi,eD,sH,A,rfl,inj,hA⟩;refine ⟨eD,?_⟩;by_cases aR:i<n
 ·refine .inr ⟨js.go i Hc sH (by lia),fun x H' hy=>?_⟩
  obtain ⟨rfl,hx⟩:=js.dZ i Hc x H' sH hy;rw [ae rfl];refine step D i x (hx (by lia)) _ _ (s1.trans sH) ⟨_,eD⟩ fun y H3 s3 ny ⟨o,ho⟩ hp=>?_
  have e3:=s3 _ _ eD;have yD:y≠D:=fun e=>by rw [e,eD] at ny;cases ny
  have cS:∀b o,b≠D→H3 b=some o→upd H3 D (.lst ((List.range i).map (fun j=>V.ref (A j))++[.ref y])) b=some o:=fun b o nb e=>by rw [aE nb];exact e
  have nA:∀j,j<i→A j≠y:=fun j hj e=>by obtain ⟨_,_,o',h'⟩:=hA j hj;rw [e,ny] at h';cases h'
  refine ⟨e3,by simp;lia,n-(i+1),by lia,rfl,aR,ar,fc (sH.trans s3) nD,fun j=>if j=i then y else A j,?_,fun a b ha hb e=>?_,fun j hj=>?_⟩
  ·rw [vV,eW]
   congr 1
   ·refine g8 fun j hj=>?_
    dsimp only;rw [aa (by have:=aS.mp hj;lia)]
   ·simp
  ·dsimp only at e
   by_cases z1:a=i
   ·by_cases z2:b=i
    ·lia
    ·rw [ae z1,aa z2] at e
     exact absurd e.symm (nA b (by lia))
   ·by_cases z2:b=i
    ·rw [aa z1,ae z2] at e
     exact absurd e (nA a (by lia))
    ·rw [aa z1,aa z2] at e
     exact inj a b (by lia) (by lia) e
  ·dsimp only
   by_cases z:j=i
   ·rw [ae z,z]
    exact ⟨mono D i y H3 _ _ hp yD e3 cS,yD,o,cS _ _ yD ho⟩
   ·rw [aa z]
    obtain ⟨h1,h2,o',h3⟩:=hA j (by lia)
    exact ⟨mono D j (A j) H' _ _ h1 h2 eD (fun b o nb e=>cS b o nb (s3 _ _ e)),h2,o',cS _ _ h2 (s3 _ _ h3)⟩
 ·have e:i=n:=by lia
  subst e;exact .inl ⟨js.stop _ Hc sH (by lia),fin D A Hc hD (s1.trans sH) inj (fun j hj=>⟨(hA j hj).1,(hA j hj).2.1⟩) eD⟩
end My
namespace L2
open PySem PySem.Spec PyProof.Rows
theorem Ww{xs ys:List Int}(h:xs.length=ys.length):((List.range xs.length).all fun j=>fm (.int (xs.getD j 0)) (.int (ys.getD j 0)))=decide (xs=ys):=by
 by_cases e:xs=ys
 ·subst e
  rw [bu rfl,pD];intro j _;exact Nj rfl
 ·rw [bY e]
  cases z:((List.range xs.length).all fun j=>fm (.int (xs.getD j 0)) (.int (ys.getD j 0))) with
  | false=>rfl
  | true=>refine absurd (iy h fun j h1 h2=>?_) e;have:=pD.mp z j (aS.mpr h1);have this:(xs.getD j 0 == ys.getD j 0)=true:=this;rw [beq_iff_eq,cQ,cQ] at this;simpa [h1,h2] using this
end L2
namespace My
open PySem L2
end My
namespace L2
open PySem PySem.Spec PyProof.Rows
end L2
namespace My
open PySem L2
end My
namespace L2
open PySem PySem.Spec PyProof.Rows
section
variable {X:Cx}
end
end L2
namespace My
open PySem L2
end My
namespace L2
open PySem PySem.Spec PyProof.Rows
end L2
namespace My
open PySem L2
end My
namespace L2
open PySem PySem.Spec PyProof.Rows
section
variable {X:Cx} {N:List Str} {scope:Scope} {cl:List (Str×Addr)} {x y:Str} {px py pos tp:Pos} {mY:Nat} {iter elt:Expr} {ifs:List Expr} {wi:TI} {ρ:St→St} {tt:TT} {te:TE}
theorem Wx{y9:Str}{xi AK:Pos}{i0:Nat}(B:HB X N scope cl x y ρ)(hc:X.calm=true)(hN:X.N.Nodup)(Ht:X.N[i0]?=some y9)(hy:Loc X.env.scope y9)(hi:PI X (.Tuple [.Name x px,.Name y py] mY tp) iter wi)(ht:∀s₃ H₃ fp,oF (X.bo N scope cl s₃ H₃ fp) ifs tt)(he:∀s₃ H₃ fp,PE (X.bo N scope cl s₃ H₃ fp) elt te)
  (Hu:swapsWith (.ListComp elt [⟨.Tuple [.Name x px,.Name y py] mY tp,iter,ifs,0⟩] scope pos) (some (.Name y9 xi)) AK.line X.env=pure true:=by rfl) (hf:X.fn y9=true∨X.env.scope.names.lookup y9=some .local:=by first | exact .inl rfl | exact .inr rfl | assumption)
  (hs:∀x,foldedSetIterable iter X.env x=pure x:=by intro _;rfl):PS X (.Assign [.Name y9 xi] (.ListComp elt [⟨.Tuple [.Name x px,.Name y py] mY tp,iter,ifs,0⟩] scope pos) AK) (qX (oK X.K wi ρ tt te) (aQ i0)):=by
 intro pins s σ H D0 I h
 have h:oK X.K wi ρ tt te σ H (fun v H1=>D0.nx (σ.set i0 (some v)) H1):=h
 rw [exec_Assign_Name_used _ _ _ _ Hu]
 refine ax (o_ (ax ?_))
 show wpAny _ X.A (do let _ ←comprehension (.ListComp elt [⟨.Tuple [.Name x px,.Name y py] mY tp,iter,ifs,0⟩] scope pos) scope X.env _ (newList []) false (eval iter X.env) (some (assign (.Name y9 xi) X.env))) _ _ s
 refine ax (b9 (Q:=fun _ s'=>SP X pins D0 .next s') ?_ (fun _ s' hq=>bJ (bJ hq)) fun _ _ e=>e)
 refine Co (use:=some (assign (.Name y9 xi) X.env)) rfl hs B.AD B.kind B.names (aH (hi pins s σ H _ I h) fun v s1 h1=>aH h1 fun wQ s2 h2=>?_)
 obtain ⟨it,fp,tn,J,H2,rfl,I2,T,iF,f2,q2⟩:=h2
 have nD:H2 s2.heap.objs.size=none:=I2.aw.fresh (au _)
 obtain ⟨W,⟨m0,w0⟩,turn⟩:=q2 _ nD
 refine vU (zP B.AE (by intro y hy;simp at hy) (fun h₁ gM gN=>?_) B.kind)
 dsimp only at gM gN ⊢
 generalize hD:s2.heap.objs.size=D at nD w0 turn gM gN ⊢
 generalize jl:({s2 with heap:=s2.heap.push {cls:=.type "list",dict:=none,data:=.seq ([]:List Value).toArray}}:Shared)=s3
 have I3:Inv X pins σ (upd H2 D (.lst [])) s3:=by
  subst hD jl
  exact I2.laid (t':=s2.toks) (fun b u e=>b_ _ e) (au _) ⟨bG _,[],_,.nil,eh _ rfl⟩
 have e3:s3.heap=s2.heap.push {cls:=.type "list",dict:=none,data:=.seq ([]:List Value).toArray}:=by rw [←jl]
 have gO:∀b o,s2.heap.get? b=some o→s3.heap.get? b=some o:=fun b o e=>by rw [e3];exact b_ _ e
 rw [←e3] at gM gN ⊢
 have below:∀b o,s3.heap.get? b=some o→b≠s3.heap.objs.size:=fun b o e=>bZ (aU e)
 have eO:∀b o,s3.heap.get? b=some o→h₁.get? b=some o:=fun b o e=>gN.extBut b o (below b o e) (b_ _ e)
 have jm:∀b∈fp,∃o,s2.heap.get? b=some o∧∀v,o.data≠.cell v:=T.obj _ _ iF
 have tJ:∀b∈fp,b≠D:=fun b hb z=>by
  obtain ⟨o,e,_⟩:=jm b hb
  rw [z,←hD] at e
  exact absurd (aU e) (d6 _)
 have dM:∀y c,cl.lookup y=some c→X.env.cells.lookup y=some c:=fun y c e=>B.sub (y,c) (nO e)
 have tK:=I3.wI
 have eN:(X.bo N scope cl s3 (upd H2 D (.lst [])) fp).Ok:=by
  refine ⟨I.ok.mod,B.kind,I.ok.glob,I.ok.blt,au _,fun a b c e1 e2=>I.ok.inj a b c (dM a c e1) (dM b c e2),fun y hy=>B.has y hy,(fun _ _ z _=>absurd z dR),(fun _=>I.ok.hd hc),I.ok.frames,.inl rfl,fun b hb=>⟨?_,fun y c e z=>?_⟩,fun b o e=>?_,bU I.ok.jd I3.sz,fun b o e hb=>?_,fun b hb z=>?_,I3.stack,tK⟩
  ·obtain ⟨o,e,_⟩:=jm b hb
   exact below b o (gO b o e)
  ·exact (f2 b hb).2.2.2.2.1 y c (dM y c e) z
  ·exact I3.bs b o e
  ·rcases (f2 b hb).2.2.2.1 with z | z
   ·exact I.ok.qQ b o e z
   ·exact absurd (dQ (aU e) (bU I.ok.jd z)) (d6 _)
  ·rcases bb.mp (I3.wH b z) with z | z
   ·exact (f2 b hb).2.1 z
   ·exact (f2 b hb).2.2.1 z
 have IB:∀tk:Nat,Inv (X.bo N scope cl s3 (upd H2 D (.lst [])) fp) [] (none::none::ρ σ) (upd H2 D (.lst [])) {s3 with heap:=h₁,toks:=tk}:=fun tk=>by
  refine ⟨eN,rfl,I3.bare,Un.kept eO,⟨_,gM,fun j y v e1 e2 e3=>?_⟩,fun y c e=>?_,?_,fun y c e=>I3.j9 y c (dM y c e),(fun p hp=>nomatch hp),I3.aw.kept eO,?_⟩
  ·cases j with
   | zero=>cases e2
   | succ j=>
   cases j with
   | zero=>cases e2
   | succ j=>
    obtain ⟨i,y',a1,a2,a3,a4,a5,a6⟩:=B.AF σ j v e2
    have pU:N[j+1+1]?=some y:=e1
    rw [pU] at a1
    cases a1
    obtain ⟨m,hn,hl⟩:=I3.loc
    obtain ⟨u,r,l⟩:=hl i y v a2 a3 a4
    refine ⟨u,r,.inr ⟨a6,?_⟩⟩
    obtain ⟨c,ec⟩:=B.has y a6
    rcases l with ⟨k,_⟩ | ⟨_,c',mR,z⟩
    ·rcases a5 with q | q <;> (rw [k] at q;cases q)
    ·have:=dM y c ec
     rw [this] at mR
     cases mR
     obtain ⟨o,ho,hd⟩:=z
     exact ⟨c,ec,o,eO _ _ ho,hd⟩
  ·obtain ⟨v,o,ho,hd⟩:=I3.cell y c (dM y c e)
   exact ⟨v,o,eO _ _ ho,hd⟩
  ·exact I3.aw.fresh (au _)
  ·show (none::none::ρ σ).length=N.length
   rw [dm,dm]
   exact B.len σ I.len
 have tQ:∀b o,s3.heap.get? b=some o→b≠s3.heap.objs.size:=below
 have fin:∀{σ':St} {H':Hp} {s':Shared},Inv (X.bo N scope cl s3 (upd H2 D (.lst [])) fp) [] σ' H' s'→D0.nx (σ.set i0 (some (.ref D))) H'→compPost (model X.prog X.w) X.A X.xe (some (assign (.Name y9 xi) X.env)) (fun _ s'=>SP X pins D0 .next s') (.ref D) s3.heap.objs.size (.ok .next) s':=fun{σ' H' s'} J q=>by
  obtain ⟨m,hn,_⟩:=J.loc
  have hn:s'.heap.Ns s3.heap.objs.size m:=hn
  have JC:H' s3.heap.objs.size=none:=J.free
  have u1:Un (cY X.stack) fp (upd H2 D (.lst [])) H' s3.heap s'.heap:=by
   refine ⟨fun b o e n hb hx=>J.base.keep b o e n hb hx,fun b o e n hb hx=>J.base.slot b o e n hb hx,J.base.free,fun b o e hx=>J.base.there b o e hx,J.base.hE,J.base.iD,J.base.iE⟩
  have IX:Inv X pins σ H' s':=I3.n_ (ch:=fp) (J.os) u1 J.aw J.bare fun b hb=>by
   obtain ⟨g0,g1,g2,g3,g4,g5⟩:=f2 b hb
   exact ⟨g3,g1,g4,g5⟩
  have nl:X.env.locals≠s3.heap.objs.size:=by
   obtain ⟨m3,⟨o3,_,_,e3,_⟩,_⟩:=I3.loc
   exact tQ _ _ e3
  have nc:∀z c,X.env.cells.lookup z=some c→c≠s3.heap.objs.size:=fun z c e=>by
   obtain ⟨v3,o3,e3,_⟩:=I3.cell z c e
   exact tQ _ _ e3
  refine wpAny_assign_Name (GC (v:=.ref D) IX hN Ht hy rfl (fun f9 tR oH=>?_) hf)
  obtain ⟨a,oH,ha⟩:=oH
  have na:s3.heap.objs.size≠a:=by
   rcases ha with rfl | e
   ·exact fun z=>nl z.symm
   ·exact fun z=>nc _ _ e z.symm
  refine ⟨m,hn.sameBut oH na,fun h' gP=>⟨σ.set i0 (some (.ref D)),H',?_,q⟩⟩
  have u2:Un (cY X.stack) [s3.heap.objs.size] H' H' f9.heap h':=by
   refine ⟨fun b o e n hb hx=>(gP.2 b (by simpa using hx)).trans e,fun b o e n hb hx=>⟨o.slots,(gP.2 b (by simpa using hx)).trans e⟩,fun b o e n hx=>n,fun b o e hx=>⟨o,(gP.2 b (by simpa using hx)).trans e⟩,fun b xs z=>z,fun b o u z=>z,fun b ps z=>⟨#[],by simpa using z⟩⟩
  have tL:cR X.prog X.w H' h':=fun b u e=>by
   refine (tR.aw b u e).iY (fun c v hc z=>(gP.2 c fun y=>?_).trans z) (fun _ z=>z) fun _ _ z=>z
   have y':c=s3.heap.objs.size:=y
   rcases hc with hc | hc
   ·rw [←hc,y',JC] at e
    cases e
   ·rw [y',JC] at hc
    cases hc
  refine tR.n_ (s':={f9 with heap:=h'}) (ch:=[s3.heap.objs.size]) rfl u2 tL tR.bare fun b hb=>?_
  have eb:b=s3.heap.objs.size:=by simpa using hb
  subst eb
  refine ⟨.inr I3.sz,fun z=>nl z.symm,fun z c e=>nc z c e,fun p hp=>?_⟩
  exact tQ _ _ (I3.pin p hp).1
 have gF:∀{H':Hp},(∀b∈fp,H' b=none)→∀b∈fp,oj (X.bo N scope cl s3 (upd H2 D (.lst [])) fp) [] H' b:=fun hn b hb=>by
  refine ⟨hn b hb,?_,?_,.inl hb,fun y c e z=>(f2 b hb).2.2.2.2.1 y c (dM y c e) z,fun p hp=>nomatch hp⟩
  ·obtain ⟨o,e,_⟩:=jm b hb
   exact below b o (gO b o e)
  ·exact eN.qR b hb
 have loop:∀tk:Nat,codeAny (model X.prog X.w) X.A (.compLoop (.ListComp elt [⟨.Tuple [.Name x px,.Name y py] mY tp,iter,ifs,0⟩] scope pos) 0 (.ref it) (.ref D) (compEnvC scope cl s3.heap.objs.size X.env))
   (compPost (model X.prog X.w) X.A X.xe (some (assign (.Name y9 xi) X.env)) (fun _ s'=>SP X pins D0 .next s') (.ref D) s3.heap.objs.size) {s3 with heap:=h₁,toks:=tk}:=fun tk=>by
  refine Nh (fun n s'=>∃i ys o o2 H',Inv (X.bo N scope cl s3 (upd H2 D (.lst [])) fp) [] (o::o2::ρ σ) H' s'∧tn i s'.heap∧(∀b∈fp,H' b=none)∧W i n ys H') ?_ m0
   ⟨0,[],none,none,_,IB tk,T.keep _ _ _ iF fun b hb o e=>eO _ _ (gO _ _ e),fun b hb=>by rw [aE (tJ b hb)];exact (f2 b hb).1,w0⟩
  rintro n s4 ⟨i,ys,o,o2,H4,I4,mS,mT,w4⟩
  obtain ⟨Hq,tM⟩:=turn i n ys H4 w4
  rcases tM with ⟨stop,qn⟩ | ⟨go,step⟩
  ·refine b9 (T.done (X.bo N scope cl s3 (upd H2 D (.lst [])) fp) rfl rfl rfl hc i [] s4 _ H4 (fun _ _=>False) I4 (gF mT) mS stop) (fun r s5 ⟨hr,I5⟩=>?_) fun _ _ z=>z.elim
   subst hr
   exact fin I5 qn
  ·refine b9 (T.item (X.bo N scope cl s3 (upd H2 D (.lst [])) fp) rfl rfl rfl hc i [] s4 _ H4 (fun _ _=>False) I4 (gF mT) mS go) (fun r s5 ⟨u,hr,h5⟩=>?_) fun _ _ z=>z.elim
   subst hr
   refine b9 h5 (fun _ s5 ⟨y0,H5,I5,r5,y5,gG,pP⟩=>?_) fun _ _ z=>z.elim
   obtain ⟨Tt,x1,x2,e0,HD,tN⟩:=step y0 _ y5
   subst e0
   have pR:=I5.pinned (gF pP) (T.obj _ _ gG)
   have pg:PG (X.bo N scope cl s3 (upd H2 D (.lst [])) fp) (.Tuple [.Name x px,.Name y py] mY tp) (GN X.K 2 (Ah (aQ 0) (Ah (aQ 1) GL))):=
    sW (X:=X.bo N scope cl s3 (upd H2 D (.lst [])) fp) hc (jI (dy (i:=0) B.nd B.n0 (.inl (kL B.hx)) (.inr (kL B.hx))) (jI (dy (i:=1) B.nd B.n1 (.inl (kL B.hy)) (.inr (kL B.hy))) sV))
   have again:∀{σ7:St} {H7:Hp} {s7:Shared},Inv (X.bo N scope cl s3 (upd H2 D (.lst [])) fp) ([]++kZ fp s5.heap) σ7 H7 s7→Inv (X.bo N scope cl s3 (upd H2 D (.lst [])) fp) [] σ7 H7 s7∧tn (i+1) s7.heap∧∀b∈fp,H7 b=none:=fun{σ7 H7 s7} I7=>by
    refine ⟨I7.sZ,T.keep _ _ _ gG fun b hb o e=>(I7.pin (b,o) (ei _ (ei _ (om hb e)))).1,fun b hb=>?_⟩
    obtain ⟨o,e,d⟩:=T.obj _ _ gG b hb
    exact (I7.pin (b,o) (ei _ (ei _ (om hb e)))).2.1
   refine b9 (pg _ s5 _ H5 (.ref Tt) u (fun σ2 H6=>σ2=some x1::some x2::ρ σ∧H6=H5) pR r5 ⟨Tt,_,rfl,HD,rfl,_,_,rfl,_,_,rfl,rfl,rfl,rfl⟩) (fun _ s6 ⟨σ6,H6,I6,q6⟩=>?_) fun _ _ z=>z.elim
   obtain ⟨rfl,rfl⟩:=q6
   have tests:∀{jo:TT},oF (X.bo N scope cl s3 (upd H2 D (.lst [])) fp) ifs jo→∀{R:Bool→Hp→Prop},jo (some x1::some x2::ρ σ) H6 R→wpAny (model X.prog X.w) X.A
     (forIn ifs true fun c r=>if r=true then do let ok ←isTrue c (compEnvC scope cl s3.heap.objs.size X.env) (eval c (compEnvC scope cl s3.heap.objs.size X.env));pure (ForInStep.yield ok) else pure (ForInStep.yield r))
     (fun ok s7=>∃H7,Inv (X.bo N scope cl s3 (upd H2 D (.lst [])) fp) ([]++kZ fp s5.heap) (some x1::some x2::ρ σ) H7 s7∧R ok H7) (fun _ _=>False) s6:=fun{jo} p {R} hR=>by
    cases p with
    | nil=>exact Cp ⟨_,I6,hR⟩
    | one p=>exact Cq (p _ s6 _ _ _ I6 hR)
   refine b9 (tests (ht s3 _ fp) tN) (fun ok s7 ⟨H7,I7,q7⟩=>?_) fun _ _ z=>z.elim
   cases ok with
   | false=>
    obtain ⟨m',d5,w7⟩:=q7
    obtain ⟨a1,a2,a3⟩:=again I7
    exact ⟨m',d5,i+1,ys,_,_,H7,a1,a2,a3,w7⟩
   | true=>
    refine b9 (he s3 _ fp _ s7 _ H7 _ I7 q7) (fun ev s8 ⟨z,H8,I8,r8,tO,hz,m',d5,w8⟩=>?_) fun _ _ z=>z.elim
    refine b9 (k8 (X:=X.bo N scope cl s3 (upd H2 D (.lst [])) fp) _ s8 _ H8 (.ref D) [z] (.ref D) [ev] (fun _ H9=>H9=upd H8 D (.lst (ys++[z]))) I8 rfl (.cons r8 .nil) ⟨D,ys,z,rfl,rfl,tO,hz,rfl⟩) (fun _ s9 ⟨_,H9,I9,_,q9⟩=>?_) fun _ _ z=>z.elim
    subst q9
    obtain ⟨a1,a2,a3⟩:=again I9
    exact ⟨m',d5,i+1,ys++[z],_,_,_,a1,a2,a3,w8⟩
 have start:=loop (s3.toks+([]:List (Str×Value)).length)
 have es:({s3 with heap:=h₁,toks:=s3.toks+([]:List (Str×Value)).length}:Shared)={s2 with heap:=h₁,toks:=s2.toks+([]:List (Str×Value)).length}:=by rw [←jl]
 rw [es] at start
 exact Cr start (T.self _ 0 _ _ _ (T.keep _ _ _ iF fun b hb o e=>eO _ _ (gO _ _ e)) start)
end
section
variable {X:Cx} {pins:aO} {σ:St} {H:Hp} {s:Shared}
end
end L2
namespace My
open PySem PySem.W PyProof.Rows
section
variable {n:Nat} {c:Nat→Int}
def pY(n:Nat)(p:Array Nat):Prop:=p.Perm (List.toArray (List.range n))
theorem pY.size{p:Array Nat}(h:pY n p):p.size=n:=by rw [Array.Perm.size_eq h];simp
def vN(c:Nat→Int)(p:Array Nat)(i:Nat):Int:=c (p.getD i 0)
def tS(c:Nat→Int)(p:Array Nat)(k:Nat):Prop:=∀a b,a≤b→b<k→vN c p a≤vN c p b
end
end My
namespace Tm
open PySem PySem.W PyProof.Rows
def rh:Bool→Keyed→Array Keyed→Nat→Nat→Nat→StateT SortSt Sem (Option Nat):=sortPriv% PySem.Builtin.gallop
def AO:Nat→StateT SortSt Sem Unit:=sortPriv% PySem.Builtin.setMinGallop
def HF:Array Keyed→Array Keyed→StateT SortSt Sem (Array Keyed):=sortPriv% PySem.Builtin.mergeLo
def HG:Array Keyed→Array Keyed→StateT SortSt Sem (Array Keyed):=sortPriv% PySem.Builtin.mergeHi
def tT(left:Bool)(key:Keyed)(arr:Array Keyed)(base i:Nat):StateT SortSt Sem (Option Bool):=do
 let x ←elem' arr (base+i)
 if left then lt' x key else return (←lt' key x).map (!·)
theorem Wy(left:Bool)(key:Keyed)(arr:Array Keyed)(base n hint:Nat):rh left key arr base n hint=(do
 let mut Du:=0
 let mut bW:=1
 let mut lo:=0
 let mut hi:=0
 let some right ←tT left key arr base hint | return none
 if right then
  let AQ:=n-hint
  for _ in [0:n] do
   if bW≥AQ then break
   let some more ←tT left key arr base (hint+bW) | return none
   if !more then break
   Du:=bW
   bW:=2*bW+1
  lo:=hint+Du+1
  hi:=hint+min bW AQ
 else
  let AQ:=hint+1
  for _ in [0:n] do
   if bW≥AQ then break
   let some found ←tT left key arr base (hint-bW) | return none
   if found then break
   Du:=bW
   bW:=2*bW+1
  lo:=hint+1-min bW AQ
  hi:=hint-Du
 for _ in [0:n] do
  if lo≥hi then break
  let m:=lo+(hi-lo) / 2
  let some more ←tT left key arr base m | return none
  if more then lo:=m+1 else hi:=m
 return some hi):=rfl
section
variable {prog:Program} {w:World} {A:Around} {E:aF} {s:Shared} {κ:SortKind} {key:Keyed→Int} {Ok:Keyed→Prop}
def kq(prog:Program)(w:World)(A:Around)(s:Shared)(κ:SortKind)(key:Keyed→Int)(Ok:Keyed→Prop):Prop:=
 ∀x y,Ok x→Ok y→∀C:Bool→Shared→Prop,C (decide (key x<key y)) s→wpAny (model prog w) A (keyLt' κ x.1 y.1) C (fun _ _=>False) s
variable {Q:Option Bool→SortSt→Prop}
theorem AR(h:kq prog w A s κ key Ok){x y:Keyed}(ox:Ok x)(oy:Ok y){st:SortSt}(hk:kindOf st=κ)(q:Q (some (decide (key x<key y))) st):wpS (model prog w) A E s (lt' x y) Q st:=by rw [lt'_eq];refine aq (j6 ?_);rw [hk];refine aq (wpS_lift (wpAny_attempt (b9 (h x y ox oy (fun c s'=>s'=s∧wpS (model prog w) A E s (pure (some c)) Q st) ⟨rfl,ao q⟩) (fun c s' hc=>?_) fun _ _ hF=>hF.elim)));exact hc
def nn:Keyed:=(Value.none,Value.none)
variable {arr:Array Keyed} {i:Nat}
theorem b7(hi:i<arr.size){st:SortSt}{Q:Keyed→SortSt→Prop}(q:Q (arr.getD i nn) st):wpS (model prog w) A E s (elem' arr i) Q st:=by
 rw [elem'_eq];have e:arr[i]?=some (arr.getD i nn):=by simp [Array.getD,hi]
 rw [e];exact ao q
def gv(Ok:Keyed→Prop)(arr:Array Keyed):Prop:=∀i,i<arr.size→Ok (arr.getD i nn)
def bB(left:Bool)(k a:Int):Bool:=if left=true then decide (a<k) else !decide (k<a)
variable {left:Bool} {kx:Keyed} {base:Nat}
theorem jN(h:kq prog w A s κ key Ok)(hi:base+i<arr.size)(ha:gv Ok arr)(ox:Ok kx){st:SortSt}(hk:kindOf st=κ)(q:Q (some (bB left (key kx) (key (arr.getD (base+i) nn)))) st):wpS (model prog w) A E s (tT left kx arr base i) Q st:=by
 unfold tT;refine aq (b7 hi ?_);unfold bB at q;cases left with
 | true=>rw [ae rfl] at q ⊢;exact AR h (ha _ hi) ox hk q
 | false=>
  rw [aa (by simp)] at q ⊢
  exact aq (AR h ox (ha _ hi) hk (ao q))
theorem jO{n hint:Nat}{f:Nat→Bool}{st:SortSt}
  (hb:∀i,i<n→∀Q:Option Bool→SortSt→Prop,Q (some (f i)) st→wpS (model prog w) A E s (tT left kx arr base i) Q st)
  (hh:hint<n) (mono:∀i j,i≤j→j<n→f j=true→f i=true) {Q:Option Nat→SortSt→Prop}
  (k:∀m,m≤n→(∀i,i<m→f i=true)→(∀i,m≤i→i<n→f i=false)→Q (some m) st):wpS (model prog w) A E s (rh left kx arr base n hint) Q st:=by
 rw [Wy];refine aq (hb hint hh _ ?_);dsimp only;have HH:∀i j,i≤j→j<n→f i=false→f j=false:=fun i j h1 h2 h3=>by
  cases e:f j with
  | false=>rfl
  | true=>rw [mono i j h1 h2 e] at h3;cases h3
 have bs:∀(lo hi:Nat) (body:Nat→Option (Option Nat)×Nat×Nat→StateT SortSt Sem (ForInStep (Option (Option Nat)×Nat×Nat))) (R:Option (Option Nat)×Nat×Nat→SortSt→Prop),lo≤hi→hi≤n→(∀i,i<lo→f i=true)→(∀i,hi≤i→i<n→f i=false)→
   (∀x lo hi (R:ForInStep (Option (Option Nat)×Nat×Nat)→SortSt→Prop),lo≥hi→R (.done (none,lo,hi)) st→wpS (model prog w) A E s (body x (none,lo,hi)) R st)→
   (∀x lo hi (R:ForInStep (Option (Option Nat)×Nat×Nat)→SortSt→Prop),lo<hi→hi≤n→R (.yield (if f (lo+(hi-lo) / 2)=true then (none,lo+(hi-lo) / 2+1,hi) else (none,lo,lo+(hi-lo) / 2))) st→wpS (model prog w) A E s (body x (none,lo,hi)) R st)→
   (∀m,m≤n→(∀i,i<m→f i=true)→(∀i,m≤i→i<n→f i=false)→R (none,m,m) st)→
   wpS (model prog w) A E s (forIn [0:n] (none,lo,hi) body) R st:=fun lo hi body R h1 h2 h3 h4 b1 b2 kk=>by
  refine g9 (I:=fun x c av=>av=st∧∃lo hi,c=(none,lo,hi)∧lo≤hi∧hi≤n∧hi-lo+x≤n∧(∀i,i<lo→f i=true)∧(∀i,hi≤i→i<n→f i=false)) ?_ ?_ ⟨rfl,lo,hi,rfl,h1,h2,by lia,h3,h4⟩
  ·rintro x c av _ hx ⟨rfl,lo,hi,rfl,g1,g2,g3,g4,g5⟩
   by_cases z:lo≥hi
   ·refine b1 x lo hi _ z ?_
    obtain rfl:lo=hi:=by lia
    exact kk lo g2 g4 g5
   ·refine b2 x lo hi _ (by lia) g2 ?_
    cases e:f (lo+(hi-lo) / 2) with
    | true=>rw [ae rfl];exact ⟨rfl,_,_,rfl,by lia,g2,by lia,fun i bR=>mono i (lo+(hi-lo) / 2) (by lia) (by lia) e,g5⟩
    | false=>
     rw [aa (by simp)]
     exact ⟨rfl,_,_,rfl,by lia,by lia,by lia,g4,fun i h1 h2=>HH (lo+(hi-lo) / 2) i h1 h2 e⟩
  ·rintro c av ⟨rfl,lo,hi,rfl,g1,g2,g3,g4,g5⟩
   have:lo=hi:=by
    have:max 0 n=n:=by lia
    lia
   subst this;exact kk lo g2 g4 g5
 cases e:f hint with
 | true=>
  rw [ae rfl]
  refine aq (iz (g9 (I:=fun x c av=>av=st∧∃la bW,c=(none,la,bW)∧x+1≤bW∧la<bW∧la<n-hint∧f (hint+la)=true)
   (Q:=fun c av=>av=st∧∃la bW,c=(none,la,bW)∧la<bW∧la<n-hint∧f (hint+la)=true∧(bW≥n-hint∨f (hint+bW)=false)) ?_ ?_ ⟨rfl,0,1,rfl,au _,by lia,by lia,by simpa using e⟩) ?_)
  ·rintro x c av _ hx ⟨rfl,la,bW,rfl,g1,g2,g3,g4⟩
   dsimp only;by_cases z:bW≥n-hint
   ·rw [ae z]
    exact ao ⟨rfl,la,bW,rfl,g2,g3,g4,.inl z⟩
   ·rw [aa z]
    refine aq (hb _ (by lia) _ ?_)
    dsimp only;cases e':f (hint+bW) with
    | true=>
     rw [aa (by simp)]
     exact ao ⟨rfl,_,_,rfl,by lia,by lia,by lia,e'⟩
    | false=>
     rw [ae (by simp)]
     exact ao ⟨rfl,la,bW,rfl,g2,g3,g4,.inr e'⟩
  ·rintro c av ⟨rfl,la,bW,rfl,g1,g2,g3,g4⟩
   have:max 0 n=n:=by lia
   exact ⟨rfl,la,bW,rfl,g2,g3,g4,.inl (by lia)⟩
  ·rintro c av ⟨rfl,la,bW,rfl,g2,g3,g4,g5⟩
   refine aq (bs (hint+la+1) (hint+min bW (n-hint)) _ _ (by lia) (by lia) (fun i hi=>mono i (hint+la) (by lia) (by lia) g4) (fun i h1 h2=>?_) ?_ ?_ ?_)
   ·rcases g5 with g5 | g5
    ·lia
    ·by_cases z:bW≥n-hint
     ·lia
     ·exact HH (hint+bW) i (by lia) h2 g5
   ·intro x lo hi R z hR
    dsimp only;rw [ae z];exact ao hR
   ·intro x lo hi R z z2 hR
    dsimp only;rw [aa (by lia)]
    refine aq (hb _ (by lia) _ ?_)
    dsimp only;cases e:f (lo+(hi-lo) / 2) with
    | true=>rw [e,ae rfl] at hR;rw [ae rfl];exact ao hR
    | false=>
     rw [e,aa (by simp)] at hR
     rw [aa (by simp)]
     exact ao hR
   ·exact fun m m1 m2 m3=>ao (k m m1 m2 m3)
 | false=>
  rw [aa (by simp)]
  refine aq (iz (g9 (I:=fun x c av=>av=st∧∃la bW,c=(none,la,bW)∧x+1≤bW∧la<bW∧la≤hint∧f (hint-la)=false)
   (Q:=fun c av=>av=st∧∃la bW,c=(none,la,bW)∧la<bW∧la≤hint∧f (hint-la)=false∧(bW≥hint+1∨f (hint-bW)=true)) ?_ ?_ ⟨rfl,0,1,rfl,au _,by lia,by lia,by simpa using e⟩) ?_)
  ·rintro x c av _ hx ⟨rfl,la,bW,rfl,g1,g2,g3,g4⟩
   dsimp only;by_cases z:bW≥hint+1
   ·rw [ae z]
    exact ao ⟨rfl,la,bW,rfl,g2,g3,g4,.inl z⟩
   ·rw [aa z]
    refine aq (hb _ (by lia) _ ?_)
    dsimp only;cases e':f (hint-bW) with
    | true=>rw [ae rfl];exact ao ⟨rfl,la,bW,rfl,g2,g3,g4,.inr e'⟩
    | false=>
     rw [aa (by simp)]
     exact ao ⟨rfl,_,_,rfl,by lia,by lia,by lia,e'⟩
  ·rintro c av ⟨rfl,la,bW,rfl,g1,g2,g3,g4⟩
   have:max 0 n=n:=by lia
   exact ⟨rfl,la,bW,rfl,g2,g3,g4,.inl (by lia)⟩
  ·rintro c av ⟨rfl,la,bW,rfl,g2,g3,g4,g5⟩
   refine aq (bs (hint+1-min bW (hint+1)) (hint-la) _ _ (by lia) (by lia) (fun i hi=>?_) (fun i h1 h2=>HH (hint-la) i (by lia) h2 g4) ?_ ?_ ?_)
   ·rcases g5 with g5 | g5
    ·lia
    ·by_cases z:bW≥hint+1
     ·lia
     ·exact mono i (hint-bW) (by lia) (by lia) g5
   ·intro x lo hi R z hR
    dsimp only;rw [ae z];exact ao hR
   ·intro x lo hi R z z2 hR
    dsimp only;rw [aa (by lia)]
    refine aq (hb _ (by lia) _ ?_)
    dsimp only;cases e:f (lo+(hi-lo) / 2) with
    | true=>rw [e,ae rfl] at hR;rw [ae rfl];exact ao hR
    | false=>
     rw [e,aa (by simp)] at hR
     rw [aa (by simp)]
     exact ao hR
   ·exact fun m m1 m2 m3=>ao (k m m1 m2 m3)
end
def bL(K:Keyed→Int)(l:List Keyed):Prop:=l.Pairwise fun x y=>K x≤K y
variable {K:Keyed→Int} {l:List Keyed}
theorem bL.take(h:bL K l)(k:Nat):bL K (l.take k):=List.Pairwise.sublist (Cn k l) h
theorem bL.drop(h:bL K l)(k:Nat):bL K (l.drop k):=List.Pairwise.sublist (List.drop_sublist k l) h
variable {m:List Keyed}
theorem bL.app(h:bL K l)(h':bL K m)(k:∀x∈l,∀y∈m,K x≤K y):bL K (l++m):=zT.mpr ⟨h,h',k⟩
structure MI (K:Keyed→Int) (A B O:List Keyed) (i j:Nat):Prop where
 pm:O.Perm (A.take i++B.take j)
 so:bL K O
 ca:∀x∈O,∀y∈A.drop i,K x≤K y
 cb:∀x∈O,∀y∈B.drop j,K x≤K y
variable {A B O:List Keyed} {i j:Nat}
theorem MI.flip(h:MI K A B O i j):MI K B A O j i:=⟨h.pm.trans vW,h.so,h.cb,h.ca⟩
theorem MI.Dv(h:MI K A B O i j)(sA:bL K A)(k:Nat)(hk:∀x∈(A.drop i).take k,∀y∈B.drop j,K x≤K y):MI K A B (O++(A.drop i).take k) (i+k) j:=by
 have e:A.take (i+k)=A.take i++(A.drop i).take k:=List.take_add;have d:A.drop (i+k)=(A.drop i).drop k:=by rw [List.drop_drop]
 have sd:=sA.drop i;have sp:(A.drop i).take k++(A.drop i).drop k=A.drop i:=mB ..;have cr:∀x∈(A.drop i).take k,∀y∈(A.drop i).drop k,K x≤K y:=by have:=sd;rw [←sp] at this;exact (zT.mp this).2.2
 refine ⟨?_,h.so.app (sd.take k) fun x hx y hy=>h.ca x hx y (List.mem_of_mem_take hy),fun x hx y hy=>?_,fun x hx y hy=>?_⟩
 ·rw [e]
  refine (h.pm.append_right _).trans ?_;rw [gD,gD];exact Gn _ vW
 ·rw [d] at hy
  rcases cM.mp hx with hx | hx;·exact h.ca x hx y (List.mem_of_mem_drop hy)
  ·exact cr x hx y hy
 ·rcases cM.mp hx with hx | hx
  ·exact h.cb x hx y hy
  ·exact hk x hx y hy
theorem MI.HI(h:MI K A B O i j)(sB:bL K B)(k:Nat)(hk:∀x∈(B.drop j).take k,∀y∈A.drop i,K x≤K y):MI K A B (O++(B.drop j).take k) i (j+k):=(h.flip.Dv sB k hk).flip
theorem MI.done(h:MI K A B O i j)(sA:bL K A)(sB:bL K B)(k:∀x∈A.drop i,∀y∈B.drop j,K x≤K y):(O++A.drop i++B.drop j).Perm (A++B)∧bL K (O++A.drop i++B.drop j):=by
 refine ⟨?_,(h.so.app (sA.drop i) h.ca).app (sB.drop j) fun x hx y hy=>?_⟩
 ·have e1:A.take i++A.drop i=A:=mB ..
  have e2:B.take j++B.drop j=B:=mB ..;have:(A.take i++B.take j++A.drop i++B.drop j).Perm ((A.take i++A.drop i)++(B.take j++B.drop j)):=by rw [gD,gD,gD];refine Gn _ ?_;rw [←gD,←gD];exact List.Perm.append_right _ vW
  rw [e1,e2] at this;exact ((h.pm.append_right _).append_right _).trans this
 ·rcases cM.mp hx with hx | hx
  ·exact h.cb x hx y hy
  ·exact k x hx y hy
theorem MI.Nu(h:MI K A B O i j)(sA:bL K A)(sB:bL K B)(k:∀x∈A.drop i,∀y∈B.drop j,K y≤K x):(O++B.drop j++A.drop i).Perm (A++B)∧bL K (O++B.drop j++A.drop i):=by have:=h.flip.done sB sA fun x hx y hy=>k y hy x hx;exact ⟨this.1.trans vW,this.2⟩
theorem Wz(a b:Array Keyed):HF a b=(do
 rule "list.sort.merge-lo"
 let total:=a.size+b.size
 let done (out:Array Keyed) (ia ib:Nat):=out++a.extract ia a.size++b.extract ib b.size
 let Dz (out:Array Keyed) (ia ib:Nat):=out++b.extract ib b.size++a.extract ia a.size
 let mut out:Array Keyed:=#[←elem' b 0]
 let mut ia:=0
 let mut ib:=1
 if ib == b.size then return done out ia ib
 if ia+1 == a.size then return Dz out ia ib
 let mut minGallop:=gallopOf (←get)
 for _ in [0:total] do
  let mut kr:=0
  let mut ku:=0
  for _ in [0:total] do
   let some WA ←lt' (←elem' b ib) (←elem' a ia) | return done out ia ib
   if WA then
    out:=out.push (←elem' b ib);ib:=ib+1;ku:=ku+1;kr:=0
    if ib == b.size then return done out ia ib
    if ku≥minGallop then break
   else
    out:=out.push (←elem' a ia);ia:=ia+1;kr:=kr+1;ku:=0
    if ia+1 == a.size then return Dz out ia ib
    if kr≥minGallop then break
  rule "list.sort.gallop"
  minGallop:=minGallop+1
  for _ in [0:total] do
   if minGallop>1 then minGallop:=minGallop-1
   AO minGallop
   let some k ←rh false (←elem' b ib) a ia (a.size-ia) 0 | return done out ia ib
   kr:=k
   if k>0 then
    out:=out++a.extract ia (ia+k);ia:=ia+k
    if ia+1 == a.size then return Dz out ia ib
    if ia == a.size then return done out ia ib
   out:=out.push (←elem' b ib);ib:=ib+1
   if ib == b.size then return done out ia ib
   let some k ←rh true (←elem' a ia) b ib (b.size-ib) 0 | return done out ia ib
   ku:=k
   if k>0 then
    out:=out++b.extract ib (ib+k);ib:=ib+k
    if ib == b.size then return done out ia ib
   out:=out.push (←elem' a ia);ia:=ia+1
   if ia+1 == a.size then return Dz out ia ib
   if kr<7 && ku<7 then break
  minGallop:=minGallop+1
  AO minGallop
 unsupported "internal:list.sort.merge-bound"):=rfl
section
variable {prog:Program} {w:World} {A:Around} {E:aF} {s:Shared} {κ:SortKind} {key:Keyed→Int} {Ok:Keyed→Prop}
def setG(st:SortSt)(g:Nat):SortSt:=SortSt.mk' (kindOf st) (arrOf st) (pendingOf st) g (failedOf st)
variable {a:Array Keyed}
theorem AS(hi:i<a.size):(a.toList.drop i).take 1=[a.getD i nn]:=by
 have hl:i<a.toList.length:=by simpa using hi
 rw [Gp hl];simp [Array.getD,hi]
theorem lJ(a:Array Keyed)(i j:Nat):(a.extract i j).toList=(a.toList.drop i).take (j-i):=by rw [Array.toList_extract,List.extract_eq_take_drop]
theorem DA(a:Array Keyed)(i:Nat):(a.extract i a.size).toList=a.toList.drop i:=by rw [lJ];refine zU ?_;simp
variable {x:Keyed}
theorem tU(h:x∈a.toList.drop i):∃j,i≤j∧j<a.size∧x=a.getD j nn:=by
 obtain ⟨j,hj,rfl⟩:=pE h;have eZ:i+j<a.size:=by simp at hj;lia
 refine ⟨i+j,by lia,eZ,?_⟩
 rw [List.getElem_drop];simp [Array.getD,eZ]
theorem HJ{k:Nat}(h:x∈(a.toList.drop i).take k):∃j,j<k∧i+j<a.size∧x=a.getD (i+j) nn:=by
 obtain ⟨j,hj,rfl⟩:=pE h;have eZ:i+j<a.size∧j<k:=by simp at hj;lia
 refine ⟨j,eZ.2,eZ.1,?_⟩;rw [List.getElem_take,List.getElem_drop];simp [Array.getD,eZ.1]
theorem hU(h:bL key a.toList)(xj:i≤j)(hj:j<a.size):key (a.getD i nn)≤key (a.getD j nn):=by
 have hi:i<a.size:=by lia
 by_cases e:i=j;·subst e;exact kO _
 ·have:=pF.mp h i j (by simpa using hi) (by simpa using hj) (by lia)
  simpa [Array.getD,hi,hj] using this
theorem gg{c:Prop}[Decidable c]{α:Type}{m1 m2:StateT SortSt Sem α}{Q:α→SortSt→Prop}{st:SortSt}(h1:c→wpS (model prog w) A E s m1 Q st)(h2:¬c→wpS (model prog w) A E s m2 Q st):wpS (model prog w) A E s (if c then m1 else m2) Q st:=by
 by_cases h:c;·rw [ae h];exact h1 h
 ·rw [aa h];exact h2 h
theorem xl{st:SortSt}{g:Nat}{Q:Unit→SortSt→Prop}(q:Q () (setG st g)):wpS (model prog w) A E s (AO g) Q st:=mE q
variable {k:Int}
theorem jq{a:Int}(h:bB true k a=true):a<k:=dC h
theorem jP{a:Int}(h:bB true k a=false):k≤a:=Int.not_lt.mp (of_decide_eq_false h)
theorem oM{a:Int}(h:bB false k a=true):a≤k:=by have:(!decide (k<a))=true:=h;simpa using this
theorem rj{a:Int}(h:bB false k a=false):k<a:=by have:(!decide (k<a))=false:=h;simpa using this
variable {b:Array Keyed} {o:Nat}
theorem rm(sb:bL key b.toList):∀i j,i≤j→j<b.size-o→bB true k (key (b.getD (o+j) nn))=true→bB true k (key (b.getD (o+i) nn))=true:=fun i j h1 h2 h3=>bu (Int.lt_of_le_of_lt (hU sb (by lia) (by lia)) (jq h3))
theorem DB(sb:bL key b.toList):∀i j,i≤j→j<b.size-o→bB false k (key (b.getD (o+j) nn))=true→bB false k (key (b.getD (o+i) nn))=true:=fun i j h1 h2 h3=>by
 have:key (b.getD (o+i) nn)≤k:=dU (hU sb (by lia) (by lia)) (oM h3)
 show (!decide (k<key (b.getD (o+i) nn)))=true;simpa using this
section
variable {a b:Array Keyed} (sa:bL key a.toList) (sb:bL key b.toList) {out:Array Keyed} {ia ib:Nat}
include sa sb
theorem xm(m:MI key a.toList b.toList out.toList ia ib)(hb:ib<b.size)(k:∀j,ia≤j→j<a.size→key (b.getD ib nn)≤key (a.getD j nn)):MI key a.toList b.toList (out.push (b.getD ib nn)).toList ia (ib+1):=by
 have:=m.HI sb 1 fun x hx y hy=>by rw [AS hb,cB] at hx;subst hx;obtain ⟨j,h1,h2,rfl⟩:=tU hy;exact k j h1 h2
 rw [AS hb] at this;rw [qF];exact this
theorem pZ(m:MI key a.toList b.toList out.toList ia ib)(ha:ia<a.size)(k:∀j,ib≤j→j<b.size→key (a.getD ia nn)≤key (b.getD j nn)):MI key a.toList b.toList (out.push (a.getD ia nn)).toList (ia+1) ib:=by
 have:=m.Dv sa 1 fun x hx y hy=>by rw [AS ha,cB] at hx;subst hx;obtain ⟨j,h1,h2,rfl⟩:=tU hy;exact k j h1 h2
 rw [AS ha] at this;rw [qF];exact this
variable {n:Nat}
theorem Nv(m:MI key a.toList b.toList out.toList ia ib)(k:∀i j,i<n→ia+i<a.size→ib≤j→j<b.size→key (a.getD (ia+i) nn)≤key (b.getD j nn)):MI key a.toList b.toList (out++a.extract ia (ia+n)).toList (ia+n) ib:=by
 have:=m.Dv sa n fun x hx y hy=>by obtain ⟨i,h3,h4,rfl⟩:=HJ hx;obtain ⟨j,h1,h2,rfl⟩:=tU hy;exact k i j h3 h4 h1 h2
 rw [nU,lJ,show ia+n-ia=n by lia]
 exact this
theorem DC(m:MI key a.toList b.toList out.toList ia ib)(k:∀i j,i<n→ib+i<b.size→ia≤j→j<a.size→key (b.getD (ib+i) nn)≤key (a.getD j nn)):MI key a.toList b.toList (out++b.extract ib (ib+n)).toList ia (ib+n):=by
 have:=m.HI sb n fun x hx y hy=>by obtain ⟨i,h3,h4,rfl⟩:=HJ hx;obtain ⟨j,h1,h2,rfl⟩:=tU hy;exact k i j h3 h4 h1 h2
 rw [nU,lJ,show ib+n-ib=n by lia]
 exact this
theorem lK(m:MI key a.toList b.toList out.toList ia ib)(e:ib=b.size∨ia=a.size):(out++a.extract ia a.size++b.extract ib b.size).toList.Perm (a.toList++b.toList)∧bL key (out++a.extract ia a.size++b.extract ib b.size).toList:=by rw [nU,nU,DA,DA];refine m.done sa sb fun x hx y hy=>?_;obtain ⟨i,h1,h2,_⟩:=tU hx;obtain ⟨j,h3,h4,_⟩:=tU hy;lia
theorem lL(m:MI key a.toList b.toList out.toList ia ib)(hl:∀y∈b.toList,key y≤key (a.getD (a.size-1) nn))(e:ia+1=a.size):(out++b.extract ib b.size++a.extract ia a.size).toList.Perm (a.toList++b.toList)∧bL key (out++b.extract ib b.size++a.extract ia a.size).toList:=by
 rw [nU,nU,DA,DA];refine m.Nu sa sb fun x hx y hy=>?_;obtain ⟨i,h1,h2,rfl⟩:=tU hx;have:=hl y (List.mem_of_mem_drop hy);rw [show i=a.size-1 by lia]
 exact this
end
theorem WB(h:kq prog w A s κ key Ok)(oa:gv Ok a)(ob:gv Ok b)(sa:bL key a.toList)(sb:bL key b.toList)(a1:1≤a.size)(b1:1≤b.size)
  (h0:∀x∈a.toList,key (b.getD 0 nn)≤key x) (hl:∀y∈b.toList,key y≤key (a.getD (a.size-1) nn)) {st:SortSt} (hk:kindOf st=κ) {Q:Array Keyed→SortSt→Prop}
  (q:∀m g,m.toList.Perm (a.toList++b.toList)→bL key m.toList→Q m (setG st g)):wpS (model prog w) A E s (HF a b) Q st:=by
 rw [Wz];refine aq (wpS_lift (nV ⟨rfl,?_⟩));refine aq (b7 (by lia) ?_)
 dsimp only;have m0:MI key a.toList b.toList (#[b.getD 0 nn]:Array Keyed).toList 0 1:=by
  have:MI key a.toList b.toList (#[]:Array Keyed).toList 0 0:=⟨by simp,List.Pairwise.nil,fun x hx=>by simp at hx,fun x hx=>by simp at hx⟩
  exact xm sa sb this (by lia) fun j _ hj=>h0 _ (by simp [Array.getD,hj])
 have dF:∀g,kindOf (setG st g)=κ:=fun _=>hk;by_cases e1:(1 == b.size)=true
 ·rw [ae e1]
  have:=lK sa sb m0 (.inl (eq_of_beq e1));exact ao (q _ (gallopOf st) this.1 this.2)
 rw [aa e1];by_cases e2:(0+1 == a.size)=true
 ·rw [ae e2]
  have:=lL sa sb m0 hl (eq_of_beq e2);exact ao (q _ (gallopOf st) this.1 this.2)
 rw [aa e2];have b2:1<b.size:=by
  have:1≠b.size:=fun e=>e1 (by simp [←e])
  lia
 have a2:0+1<a.size:=by
  have:0+1≠a.size:=fun e=>e2 (by simp [←e])
  lia
 refine aq (j6 ?_)
 refine aq (iz (g9 (I:=fun x c av=>∃out ia ib mg g,c=(none,out,ia,ib,mg)∧av=setG st g∧MI key a.toList b.toList out.toList ia ib∧ia+1<a.size∧ib<b.size∧x≤ia+ib)
  (Q:=fun c av=>∃m g,c.1=some m∧av=setG st g∧m.toList.Perm (a.toList++b.toList)∧bL key m.toList) ?_ ?_ ⟨_,_,_,_,gallopOf st,rfl,rfl,m0,a2,b2,bG _⟩) ?_)
 ·rintro x c av _ hx ⟨out,ia,ib,mg,g,rfl,rfl,aJ⟩
  have mi:=aJ.1;have ha:=aJ.2.1;have hb:=aJ.2.2.1;have mZ:=aJ.2.2.2;clear aJ;dsimp only
  refine aq (iz (g9 (I:=fun y c av=>∃out i4 jr ac bc,c=(none,out,i4,jr,ac,bc)∧av=setG st g∧MI key a.toList b.toList out.toList i4 jr∧i4+1<a.size∧jr<b.size∧ia+ib+y≤i4+jr)
   (Q:=fun c av=>av=setG st g∧((∃m,c.1=some m∧m.toList.Perm (a.toList++b.toList)∧bL key m.toList)∨∃out i4 jr ac bc,c=(none,out,i4,jr,ac,bc)∧MI key a.toList b.toList out.toList i4 jr∧i4+1<a.size∧jr<b.size∧ia+ib+1≤i4+jr)) ?_ ?_ ⟨_,_,_,_,_,rfl,rfl,mi,ha,hb,au _⟩) ?_)
  ·rintro y c av _ hy ⟨out,i4,jr,ac,bc,rfl,rfl,aX⟩
   have mi:=aX.1;have ha:=aX.2.1;have hb:=aX.2.2.1;have jt:=aX.2.2.2;clear aX;dsimp only;refine aq (b7 hb (aq (b7 (by lia) (aq (AR h (ob _ hb) (oa i4 (by lia)) (dF _) ?_)))))
   dsimp only;by_cases z:key (b.getD jr nn)<key (a.getD i4 nn)
   ·rw [bu z,ae rfl]
    refine aq (b7 hb ?_);have ju:=xm sa sb mi hb fun j h1 h2=>dU (dS z) (hU sa h1 h2);by_cases z1:(jr+1 == b.size)=true
    ·rw [ae z1]
     exact ao ⟨rfl,.inl ⟨_,rfl,lK sa sb ju (.inl (eq_of_beq z1))⟩⟩
    ·rw [aa z1]
     have AU:jr+1≠b.size:=fun e=>z1 (by simp [←e])
     by_cases z2:bc+1≥mg
     ·rw [ae z2]
      exact ao ⟨rfl,.inr ⟨_,_,_,_,_,rfl,ju,ha,by lia,by lia⟩⟩
     ·rw [aa z2]
      exact ao ⟨_,_,_,_,_,rfl,rfl,ju,ha,by lia,by lia⟩
   ·rw [bY z,aa (by simp)]
    refine aq (b7 (by lia) ?_)
    have ju:=pZ sa sb mi (by lia) fun j h1 h2=>dU (Int.not_lt.mp z) (hU sb h1 h2)
    by_cases z1:(i4+1+1 == a.size)=true
    ·rw [ae z1]
     exact ao ⟨rfl,.inl ⟨_,rfl,lL sa sb ju hl (eq_of_beq z1)⟩⟩
    ·rw [aa z1]
     have AU:i4+1+1≠a.size:=fun e=>z1 (by simp [←e])
     by_cases z2:ac+1≥mg
     ·rw [ae z2]
      exact ao ⟨rfl,.inr ⟨_,_,_,_,_,rfl,ju,by lia,hb,by lia⟩⟩
     ·rw [aa z2]
      exact ao ⟨_,_,_,_,_,rfl,rfl,ju,by lia,hb,by lia⟩
  ·rintro c av ⟨out,i4,jr,ac,bc,rfl,rfl,ba⟩
   have mi:=ba.1;have ha:=ba.2.1;have hb:=ba.2.2.1;have jt:=ba.2.2.2;clear ba;exact ⟨rfl,.inr ⟨_,_,_,_,_,rfl,mi,ha,hb,by lia⟩⟩
  ·rintro c av ⟨rfl,⟨m,e,pm⟩ | ⟨out,i4,jr,ac,bc,rfl,mi,ha,hb,jt⟩⟩
   ·obtain ⟨c1,c2⟩:=c
    dsimp only at e;subst e;exact ao ⟨m,g,rfl,rfl,pm⟩
   ·dsimp only
    refine aq (wpS_lift (nV ⟨rfl,?_⟩))
    refine aq (iz (g9 (I:=fun y c av=>∃out i j mg ac bc g,c=(none,out,i,j,mg,ac,bc)∧av=setG st g∧MI key a.toList b.toList out.toList i j∧i+1<a.size∧j<b.size∧x+1≤i+j)
     (Q:=fun c av=>(∃m g,c.1=some m∧av=setG st g∧m.toList.Perm (a.toList++b.toList)∧bL key m.toList)∨∃out i j mg ac bc g,c=(none,out,i,j,mg,ac,bc)∧av=setG st g∧MI key a.toList b.toList out.toList i j∧i+1<a.size∧j<b.size∧x+1≤i+j) ?_ ?_ ⟨_,_,_,_,_,_,g,rfl,rfl,mi,ha,hb,by lia⟩) ?_)
    ·clear mi ha hb jt
     rintro y c av _ hy ⟨out,ia,ib,mg,ac,bc,g,rfl,rfl,bI⟩;have mi:=bI.1;have ha:=bI.2.1;have hb:=bI.2.2.1;have jt:=bI.2.2.2;clear bI;dsimp only;rcases su 1 mg with zm | zm
     ·rw [ae zm]
      refine aq (xl ?_);refine aq (b7 hb (aq (jO (f:=fun i=>bB false (key (b.getD ib nn)) (key (a.getD (ia+i) nn))) (fun i hi Q q=>jN h (by lia) oa (ob _ hb) (dF _) q) (by lia) (DB sa) fun k k1 k2 k3=>?_)))
      dsimp only;by_cases zk:k>0
      ·rw [ae zk]
       have jv:=Nv sa sb mi (n:=k) fun i j hi bR hj eZ=>dU (oM (k2 i hi)) (hU sb hj eZ);by_cases w1:(ia+k+1 == a.size)=true
       ·rw [ae w1]
        exact ao (.inl ⟨_,_,rfl,rfl,lL sa sb jv hl (eq_of_beq w1)⟩)
       ·rw [aa w1]
        have HK:ia+k+1≠a.size:=fun e=>w1 (by simp [←e])
        by_cases w2:(ia+k == a.size)=true
        ·rw [ae w2]
         exact ao (.inl ⟨_,_,rfl,rfl,lK sa sb jv (.inr (eq_of_beq w2))⟩)
        ·rw [aa w2]
         have WC:ia+k≠a.size:=fun e=>w2 (by simp [←e])
         refine aq (b7 hb ?_);have df:=xm sa sb jv hb fun j h1 h2=>by have:=rj (k3 (j-ia) (by lia) (by lia));rw [show ia+(j-ia)=j by lia] at this;exact dS this
         by_cases x1:(ib+1 == b.size)=true
         ·rw [ae x1]
          exact ao (.inl ⟨_,_,rfl,rfl,lK sa sb df (.inl (eq_of_beq x1))⟩)
         ·rw [aa x1]
          have tV:ib+1≠b.size:=fun e=>x1 (by simp [←e])
          refine aq (b7 (by lia) (aq (jO (f:=fun i=>bB true (key (a.getD (ia+k) nn)) (key (b.getD (ib+1+i) nn))) (fun i hi Q q=>jN h (by lia) ob (oa _ (by lia)) (dF _) q) (by lia) (rm sb) fun k' q1 q2 q3=>?_)))
          dsimp only;by_cases fC:k'>0
          ·rw [ae fC]
           have eQ:=DC sa sb df (n:=k') fun i j hi bR hj eZ=>dU (dS (jq (q2 i hi))) (hU sa hj eZ);by_cases x2:(ib+1+k' == b.size)=true
           ·rw [ae x2]
            exact ao (.inl ⟨_,_,rfl,rfl,lK sa sb eQ (.inl (eq_of_beq x2))⟩)
           ·rw [aa x2]
            have tW:ib+1+k'≠b.size:=fun e=>x2 (by simp [←e])
            refine aq (b7 (by lia) ?_)
            have bg:=pZ sa sb eQ (by lia) fun j h1 h2=>by have:=jP (q3 (j-(ib+1)) (by lia) (by lia));rwa [show ib+1+(j-(ib+1))=j by lia] at this
            by_cases y1:(ia+k+1+1 == a.size)=true
            ·rw [ae y1]
             exact ao (.inl ⟨_,_,rfl,rfl,lL sa sb bg hl (eq_of_beq y1)⟩)
            ·rw [aa y1]
             have jw:ia+k+1+1≠a.size:=fun e=>y1 (by simp [←e])
             exact gg (fun _=>ao (.inr ⟨_,_,_,_,_,_,_,rfl,rfl,bg,by lia,by lia,by lia⟩)) (fun _=>ao ⟨_,_,_,_,_,_,_,rfl,rfl,bg,by lia,by lia,by lia⟩)
          ·rw [aa fC]
           obtain rfl:k'=0:=by lia
           refine aq (b7 (by lia) ?_)
           have bg:=pZ sa sb df (by lia) fun j h1 h2=>by have:=jP (q3 (j-(ib+1)) (by lia) (by lia));rwa [show ib+1+(j-(ib+1))=j by lia] at this
           by_cases y1:(ia+k+1+1 == a.size)=true
           ·rw [ae y1]
            exact ao (.inl ⟨_,_,rfl,rfl,lL sa sb bg hl (eq_of_beq y1)⟩)
           ·rw [aa y1]
            have jw:ia+k+1+1≠a.size:=fun e=>y1 (by simp [←e])
            exact gg (fun _=>ao (.inr ⟨_,_,_,_,_,_,_,rfl,rfl,bg,by lia,by lia,by lia⟩)) (fun _=>ao ⟨_,_,_,_,_,_,_,rfl,rfl,bg,by lia,by lia,by lia⟩)
      ·rw [aa zk]
       obtain rfl:k=0:=by lia
       refine aq (b7 hb ?_);have df:=xm sa sb mi hb fun j h1 h2=>by have:=rj (k3 (j-ia) (by lia) (by lia));rw [show ia+(j-ia)=j by lia] at this;exact dS this
       by_cases x1:(ib+1 == b.size)=true
       ·rw [ae x1]
        exact ao (.inl ⟨_,_,rfl,rfl,lK sa sb df (.inl (eq_of_beq x1))⟩)
       ·rw [aa x1]
        have tV:ib+1≠b.size:=fun e=>x1 (by simp [←e])
        refine aq (b7 (by lia) (aq (jO (f:=fun i=>bB true (key (a.getD (ia) nn)) (key (b.getD (ib+1+i) nn))) (fun i hi Q q=>jN h (by lia) ob (oa _ (by lia)) (dF _) q) (by lia) (rm sb) fun k' q1 q2 q3=>?_)))
        dsimp only;by_cases fC:k'>0
        ·rw [ae fC]
         have eQ:=DC sa sb df (n:=k') fun i j hi bR hj eZ=>dU (dS (jq (q2 i hi))) (hU sa hj eZ);by_cases x2:(ib+1+k' == b.size)=true
         ·rw [ae x2]
          exact ao (.inl ⟨_,_,rfl,rfl,lK sa sb eQ (.inl (eq_of_beq x2))⟩)
         ·rw [aa x2]
          have tW:ib+1+k'≠b.size:=fun e=>x2 (by simp [←e])
          refine aq (b7 (by lia) ?_)
          have bg:=pZ sa sb eQ (by lia) fun j h1 h2=>by have:=jP (q3 (j-(ib+1)) (by lia) (by lia));rwa [show ib+1+(j-(ib+1))=j by lia] at this
          by_cases y1:(ia+1+1 == a.size)=true
          ·rw [ae y1]
           exact ao (.inl ⟨_,_,rfl,rfl,lL sa sb bg hl (eq_of_beq y1)⟩)
          ·rw [aa y1]
           have jw:ia+1+1≠a.size:=fun e=>y1 (by simp [←e])
           exact gg (fun _=>ao (.inr ⟨_,_,_,_,_,_,_,rfl,rfl,bg,by lia,by lia,by lia⟩)) (fun _=>ao ⟨_,_,_,_,_,_,_,rfl,rfl,bg,by lia,by lia,by lia⟩)
        ·rw [aa fC]
         obtain rfl:k'=0:=by lia
         refine aq (b7 (by lia) ?_)
         have bg:=pZ sa sb df (by lia) fun j h1 h2=>by have:=jP (q3 (j-(ib+1)) (by lia) (by lia));rwa [show ib+1+(j-(ib+1))=j by lia] at this
         by_cases y1:(ia+1+1 == a.size)=true
         ·rw [ae y1]
          exact ao (.inl ⟨_,_,rfl,rfl,lL sa sb bg hl (eq_of_beq y1)⟩)
         ·rw [aa y1]
          have jw:ia+1+1≠a.size:=fun e=>y1 (by simp [←e])
          exact gg (fun _=>ao (.inr ⟨_,_,_,_,_,_,_,rfl,rfl,bg,by lia,by lia,by lia⟩)) (fun _=>ao ⟨_,_,_,_,_,_,_,rfl,rfl,bg,by lia,by lia,by lia⟩)
     ·rw [aa (by lia)]
      refine aq (xl ?_);refine aq (b7 hb (aq (jO (f:=fun i=>bB false (key (b.getD ib nn)) (key (a.getD (ia+i) nn))) (fun i hi Q q=>jN h (by lia) oa (ob _ hb) (dF _) q) (by lia) (DB sa) fun k k1 k2 k3=>?_)))
      dsimp only;by_cases zk:k>0
      ·rw [ae zk]
       have jv:=Nv sa sb mi (n:=k) fun i j hi bR hj eZ=>dU (oM (k2 i hi)) (hU sb hj eZ);by_cases w1:(ia+k+1 == a.size)=true
       ·rw [ae w1]
        exact ao (.inl ⟨_,_,rfl,rfl,lL sa sb jv hl (eq_of_beq w1)⟩)
       ·rw [aa w1]
        have HK:ia+k+1≠a.size:=fun e=>w1 (by simp [←e])
        by_cases w2:(ia+k == a.size)=true
        ·rw [ae w2]
         exact ao (.inl ⟨_,_,rfl,rfl,lK sa sb jv (.inr (eq_of_beq w2))⟩)
        ·rw [aa w2]
         have WC:ia+k≠a.size:=fun e=>w2 (by simp [←e])
         refine aq (b7 hb ?_);have df:=xm sa sb jv hb fun j h1 h2=>by have:=rj (k3 (j-ia) (by lia) (by lia));rw [show ia+(j-ia)=j by lia] at this;exact dS this
         by_cases x1:(ib+1 == b.size)=true
         ·rw [ae x1]
          exact ao (.inl ⟨_,_,rfl,rfl,lK sa sb df (.inl (eq_of_beq x1))⟩)
         ·rw [aa x1]
          have tV:ib+1≠b.size:=fun e=>x1 (by simp [←e])
          refine aq (b7 (by lia) (aq (jO (f:=fun i=>bB true (key (a.getD (ia+k) nn)) (key (b.getD (ib+1+i) nn))) (fun i hi Q q=>jN h (by lia) ob (oa _ (by lia)) (dF _) q) (by lia) (rm sb) fun k' q1 q2 q3=>?_)))
          dsimp only;by_cases fC:k'>0
          ·rw [ae fC]
           have eQ:=DC sa sb df (n:=k') fun i j hi bR hj eZ=>dU (dS (jq (q2 i hi))) (hU sa hj eZ);by_cases x2:(ib+1+k' == b.size)=true
           ·rw [ae x2]
            exact ao (.inl ⟨_,_,rfl,rfl,lK sa sb eQ (.inl (eq_of_beq x2))⟩)
           ·rw [aa x2]
            have tW:ib+1+k'≠b.size:=fun e=>x2 (by simp [←e])
            refine aq (b7 (by lia) ?_)
            have bg:=pZ sa sb eQ (by lia) fun j h1 h2=>by have:=jP (q3 (j-(ib+1)) (by lia) (by lia));rwa [show ib+1+(j-(ib+1))=j by lia] at this
            by_cases y1:(ia+k+1+1 == a.size)=true
            ·rw [ae y1]
             exact ao (.inl ⟨_,_,rfl,rfl,lL sa sb bg hl (eq_of_beq y1)⟩)
            ·rw [aa y1]
             have jw:ia+k+1+1≠a.size:=fun e=>y1 (by simp [←e])
             exact gg (fun _=>ao (.inr ⟨_,_,_,_,_,_,_,rfl,rfl,bg,by lia,by lia,by lia⟩)) (fun _=>ao ⟨_,_,_,_,_,_,_,rfl,rfl,bg,by lia,by lia,by lia⟩)
          ·rw [aa fC]
           obtain rfl:k'=0:=by lia
           refine aq (b7 (by lia) ?_)
           have bg:=pZ sa sb df (by lia) fun j h1 h2=>by have:=jP (q3 (j-(ib+1)) (by lia) (by lia));rwa [show ib+1+(j-(ib+1))=j by lia] at this
           by_cases y1:(ia+k+1+1 == a.size)=true
           ·rw [ae y1]
            exact ao (.inl ⟨_,_,rfl,rfl,lL sa sb bg hl (eq_of_beq y1)⟩)
           ·rw [aa y1]
            have jw:ia+k+1+1≠a.size:=fun e=>y1 (by simp [←e])
            exact gg (fun _=>ao (.inr ⟨_,_,_,_,_,_,_,rfl,rfl,bg,by lia,by lia,by lia⟩)) (fun _=>ao ⟨_,_,_,_,_,_,_,rfl,rfl,bg,by lia,by lia,by lia⟩)
      ·rw [aa zk]
       obtain rfl:k=0:=by lia
       refine aq (b7 hb ?_);have df:=xm sa sb mi hb fun j h1 h2=>by have:=rj (k3 (j-ia) (by lia) (by lia));rw [show ia+(j-ia)=j by lia] at this;exact dS this
       by_cases x1:(ib+1 == b.size)=true
       ·rw [ae x1]
        exact ao (.inl ⟨_,_,rfl,rfl,lK sa sb df (.inl (eq_of_beq x1))⟩)
       ·rw [aa x1]
        have tV:ib+1≠b.size:=fun e=>x1 (by simp [←e])
        refine aq (b7 (by lia) (aq (jO (f:=fun i=>bB true (key (a.getD (ia) nn)) (key (b.getD (ib+1+i) nn))) (fun i hi Q q=>jN h (by lia) ob (oa _ (by lia)) (dF _) q) (by lia) (rm sb) fun k' q1 q2 q3=>?_)))
        dsimp only;by_cases fC:k'>0
        ·rw [ae fC]
         have eQ:=DC sa sb df (n:=k') fun i j hi bR hj eZ=>dU (dS (jq (q2 i hi))) (hU sa hj eZ);by_cases x2:(ib+1+k' == b.size)=true
         ·rw [ae x2]
          exact ao (.inl ⟨_,_,rfl,rfl,lK sa sb eQ (.inl (eq_of_beq x2))⟩)
         ·rw [aa x2]
          have tW:ib+1+k'≠b.size:=fun e=>x2 (by simp [←e])
          refine aq (b7 (by lia) ?_)
          have bg:=pZ sa sb eQ (by lia) fun j h1 h2=>by have:=jP (q3 (j-(ib+1)) (by lia) (by lia));rwa [show ib+1+(j-(ib+1))=j by lia] at this
          by_cases y1:(ia+1+1 == a.size)=true
          ·rw [ae y1]
           exact ao (.inl ⟨_,_,rfl,rfl,lL sa sb bg hl (eq_of_beq y1)⟩)
          ·rw [aa y1]
           have jw:ia+1+1≠a.size:=fun e=>y1 (by simp [←e])
           exact gg (fun _=>ao (.inr ⟨_,_,_,_,_,_,_,rfl,rfl,bg,by lia,by lia,by lia⟩)) (fun _=>ao ⟨_,_,_,_,_,_,_,rfl,rfl,bg,by lia,by lia,by lia⟩)
        ·rw [aa fC]
         obtain rfl:k'=0:=by lia
         refine aq (b7 (by lia) ?_)
         have bg:=pZ sa sb df (by lia) fun j h1 h2=>by have:=jP (q3 (j-(ib+1)) (by lia) (by lia));rwa [show ib+1+(j-(ib+1))=j by lia] at this
         by_cases y1:(ia+1+1 == a.size)=true
         ·rw [ae y1]
          exact ao (.inl ⟨_,_,rfl,rfl,lL sa sb bg hl (eq_of_beq y1)⟩)
         ·rw [aa y1]
          have jw:ia+1+1≠a.size:=fun e=>y1 (by simp [←e])
          exact gg (fun _=>ao (.inr ⟨_,_,_,_,_,_,_,rfl,rfl,bg,by lia,by lia,by lia⟩)) (fun _=>ao ⟨_,_,_,_,_,_,_,rfl,rfl,bg,by lia,by lia,by lia⟩)
    ·rintro c av ⟨out,i,j,mg,ac,bc,g,rfl,rfl,dg⟩
     have mi:=dg.1;have ha:=dg.2.1;have hb:=dg.2.2.1;have jt:=dg.2.2.2;clear dg;exact .inr ⟨_,_,_,_,_,_,_,rfl,rfl,mi,ha,hb,jt⟩
    ·rintro c av (⟨m,g,e,rfl,pm⟩ | ⟨out,i,j,mg,ac,bc,g,rfl,rfl,mi,ha,hb,jt⟩)
     ·obtain ⟨c1,c2⟩:=c
      dsimp only at e;subst e;exact ao ⟨m,g,rfl,rfl,pm⟩
     ·dsimp only
      exact aq (xl (ao ⟨_,_,_,_,_,rfl,rfl,mi,ha,hb,by lia⟩))
 ·rintro c av ⟨out,ia,ib,mg,g,rfl,rfl,eR⟩
  have mi:=eR.1;have ha:=eR.2.1;have hb:=eR.2.2.1;have mZ:=eR.2.2.2;clear eR
  exfalso
  lia
 ·rintro c av ⟨m,g,e,rfl,pm,sm⟩
  obtain ⟨c1,c2⟩:=c;dsimp only at e;subst e;exact ao (q m g pm sm)
end
theorem WD(a b:Array Keyed):HG a b=(do
 rule "list.sort.merge-hi"
 let total:=a.size+b.size
 let done (out:Array Keyed) (na nb:Nat):=a.extract 0 na++b.extract 0 nb++out.reverse
 let DD (out:Array Keyed) (na nb:Nat):=b.extract 0 nb++a.extract 0 na++out.reverse
 let mut na:=a.size-1
 let mut nb:=b.size
 let mut out:Array Keyed:=#[←elem' a na]
 if na == 0 then return done out na nb
 if nb == 1 then return DD out na nb
 let mut minGallop:=gallopOf (←get)
 for _ in [0:total] do
  let mut kr:=0
  let mut ku:=0
  for _ in [0:total] do
   let some WE ←lt' (←elem' b (nb-1)) (←elem' a (na-1)) | return done out na nb
   if WE then
    na:=na-1;out:=out.push (←elem' a na);kr:=kr+1;ku:=0
    if na == 0 then return done out na nb
    if kr≥minGallop then break
   else
    nb:=nb-1;out:=out.push (←elem' b nb);ku:=ku+1;kr:=0
    if nb == 1 then return DD out na nb
    if ku≥minGallop then break
  rule "list.sort.gallop"
  minGallop:=minGallop+1
  for _ in [0:total] do
   if minGallop>1 then minGallop:=minGallop-1
   AO minGallop
   let some at_ ←rh false (←elem' b (nb-1)) a 0 na (na-1) | return done out na nb
   let k:=na-at_
   kr:=k
   if k>0 then
    out:=out++(a.extract at_ na).reverse;na:=at_
    if na == 0 then return done out na nb
   nb:=nb-1;out:=out.push (←elem' b nb)
   if nb == 1 then return DD out na nb
   let some at_ ←rh true (←elem' a (na-1)) b 0 nb (nb-1) | return done out na nb
   let k:=nb-at_
   ku:=k
   if k>0 then
    out:=out++(b.extract at_ nb).reverse;nb:=at_
    if nb == 1 then return DD out na nb
    if nb == 0 then return done out na nb
   na:=na-1;out:=out.push (←elem' a na)
   if na == 0 then return done out na nb
   if kr<7 && ku<7 then break
  minGallop:=minGallop+1
  AO minGallop
 unsupported "internal:list.sort.merge-bound"):=rfl
section
variable {key:Keyed→Int}
theorem xq(h:bL key l):bL (fun x=>-key x) l.reverse:=by unfold bL;rw [Gq];exact List.Pairwise.imp (fun h=>Int.neg_le_neg h) h
theorem Nw(h:bL (fun x=>-key x) l):bL key l.reverse:=by unfold bL;rw [Gq];exact List.Pairwise.imp (fun h=>Int.le_of_neg_le_neg h) h
variable {a:Array Keyed} {n:Nat}
theorem m5(h:n≤a.size):a.toList.reverse.drop (a.size-n)=(a.extract 0 n).toList.reverse:=by rw [List.drop_reverse,lJ,List.drop_zero,Nat.sub_zero,fS,show a.size-(a.size-n)=n by lia]
theorem DE{m:Nat}(h:n≤a.size)(hm:m≤n):(a.toList.reverse.drop (a.size-n)).take (n-m)=(a.extract m n).reverse.toList:=by rw [m5 h,vX,lJ,lJ,List.drop_zero,Nat.sub_zero,List.take_reverse,mh,fS,show min n a.size-(n-m)=m by lia,List.drop_take]
theorem p6{m:Nat}(h:n≤a.size){x:Keyed}(hx:x∈(a.extract m n).toList):∃j,m≤j∧j<n∧x=a.getD j nn:=by rw [lJ] at hx;obtain ⟨j,h1,h2,rfl⟩:=HJ hx;exact ⟨m+j,by lia,by lia,rfl⟩
theorem Nx(h:n≤a.size)(h1:1≤n):(a.extract (n-1) n).reverse.toList=[a.getD (n-1) nn]:=by
 rw [vX,lJ,show n-(n-1)=1 by lia,AS (by lia)]
 rfl
def MH(key:Keyed→Int)(a b out:Array Keyed)(na nb:Nat):Prop:=MI (fun x=>-key x) a.toList.reverse b.toList.reverse out.toList (a.size-na) (b.size-nb)∧na≤a.size∧nb≤b.size
variable {a b:Array Keyed} (sa:bL key a.toList) (sb:bL key b.toList) {out:Array Keyed} {na nb:Nat}
include sa sb
variable {k:Nat}
theorem HL(m:MH key a b out na nb)(hk:k≤na)(c:∀i j,k≤i→i<na→j<nb→key (b.getD j nn)≤key (a.getD i nn)):MH key a b (out++(a.extract k na).reverse) k nb:=by
 obtain ⟨m,ha,hb⟩:=m;refine ⟨?_,by lia,hb⟩
 have:=m.Dv (xq sa) (na-k) fun x hx y hy=>by rw [DE ha hk,vX,mG] at hx;rw [m5 hb,mG] at hy;obtain ⟨i,i1,i2,rfl⟩:=p6 ha hx;obtain ⟨j,j1,j2,rfl⟩:=p6 hb hy;have:=c i j i1 i2 j2;lia
 rw [DE ha hk,show a.size-na+(na-k)=a.size-k by lia] at this
 rw [nU];exact this
theorem AV(m:MH key a b out na nb)(hk:k≤nb)(c:∀i j,k≤i→i<nb→j<na→key (a.getD j nn)≤key (b.getD i nn)):MH key a b (out++(b.extract k nb).reverse) na k:=by
 obtain ⟨m,ha,hb⟩:=m;refine ⟨?_,ha,by lia⟩
 have:=m.HI (xq sb) (nb-k) fun x hx y hy=>by rw [DE hb hk,vX,mG] at hx;rw [m5 ha,mG] at hy;obtain ⟨i,i1,i2,rfl⟩:=p6 hb hx;obtain ⟨j,j1,j2,rfl⟩:=p6 ha hy;have:=c i j i1 i2 j2;lia
 rw [DE hb hk,show b.size-nb+(nb-k)=b.size-k by lia] at this
 rw [nU];exact this
theorem oO(m:MH key a b out na nb)(h1:1≤na)(c:∀j,j<nb→key (b.getD j nn)≤key (a.getD (na-1) nn)):MH key a b (out.push (a.getD (na-1) nn)) (na-1) nb:=by
 have:=HL sa sb m (k:=na-1) (by lia) fun i j i1 i2 j1=>by
  rw [show i=na-1 by lia]
  exact c j j1
 have e:out++(a.extract (na-1) na).reverse=out.push (a.getD (na-1) nn):=by apply Array.toList_inj.mp;rw [nU,Nx m.2.1 h1,qF]
 rw [e] at this;exact this
theorem AW(m:MH key a b out na nb)(h1:1≤nb)(c:∀j,j<na→key (a.getD j nn)≤key (b.getD (nb-1) nn)):MH key a b (out.push (b.getD (nb-1) nn)) na (nb-1):=by
 have:=AV sa sb m (k:=nb-1) (by lia) fun i j i1 i2 j1=>by
  rw [show i=nb-1 by lia]
  exact c j j1
 have e:out++(b.extract (nb-1) nb).reverse=out.push (b.getD (nb-1) nn):=by apply Array.toList_inj.mp;rw [nU,Nx m.2.2 h1,qF]
 rw [e] at this;exact this
theorem i5(m:MH key a b out na nb)(e:na=0∨nb=0):(a.extract 0 na++b.extract 0 nb++out.reverse).toList.Perm (a.toList++b.toList)∧bL key (a.extract 0 na++b.extract 0 nb++out.reverse).toList:=by
 obtain ⟨m,ha,hb⟩:=m;have:=m.Nu (xq sa) (xq sb) fun x hx y hy=>by rw [m5 ha,mG] at hx;rw [m5 hb,mG] at hy;obtain ⟨i,i1,i2,_⟩:=p6 ha hx;obtain ⟨j,j1,j2,_⟩:=p6 hb hy;lia
 rw [m5 ha,m5 hb] at this;have er:(a.extract 0 na++b.extract 0 nb++out.reverse).toList=(out.toList++(b.extract 0 nb).toList.reverse++(a.extract 0 na).toList.reverse).reverse:=by simp
 rw [er];refine ⟨(kP _).trans (this.1.trans ?_),Nw this.2⟩;exact (kP _).append (kP _)
theorem oP(m:MH key a b out na nb)(h0:∀x∈a.toList,key (b.getD 0 nn)≤key x)(e:nb=1):(b.extract 0 nb++a.extract 0 na++out.reverse).toList.Perm (a.toList++b.toList)∧bL key (b.extract 0 nb++a.extract 0 na++out.reverse).toList:=by
 obtain ⟨m,ha,hb⟩:=m;have:=m.done (xq sa) (xq sb) fun x hx y hy=>by
  rw [m5 ha,mG] at hx;rw [m5 hb,mG] at hy;obtain ⟨i,i1,i2,rfl⟩:=p6 ha hx;obtain ⟨j,j1,j2,rfl⟩:=p6 hb hy;have:=h0 (a.getD i nn) (by simp [Array.getD,show i<a.size by lia])
  rw [show j=0 by lia]
  lia
 rw [m5 ha,m5 hb] at this;have er:(b.extract 0 nb++a.extract 0 na++out.reverse).toList=(out.toList++(a.extract 0 na).toList.reverse++(b.extract 0 nb).toList.reverse).reverse:=by simp
 rw [er];refine ⟨(kP _).trans (this.1.trans ?_),Nw this.2⟩;exact (kP _).append (kP _)
end
section
variable {prog:Program} {w:World} {A:Around} {E:aF} {s:Shared} {κ:SortKind} {key:Keyed→Int} {Ok:Keyed→Prop}
theorem WG(h:kq prog w A s κ key Ok){a b:Array Keyed}(oa:gv Ok a)(ob:gv Ok b)(sa:bL key a.toList)(sb:bL key b.toList)(a1:1≤a.size)(b1:1≤b.size)
  (h0:∀x∈a.toList,key (b.getD 0 nn)≤key x) (hl:∀y∈b.toList,key y≤key (a.getD (a.size-1) nn)) {st:SortSt} (hk:kindOf st=κ) {Q:Array Keyed→SortSt→Prop}
  (q:∀m g,m.toList.Perm (a.toList++b.toList)→bL key m.toList→Q m (setG st g)):wpS (model prog w) A E s (HG a b) Q st:=by
 rw [WD];refine aq (wpS_lift (nV ⟨rfl,?_⟩));refine aq (b7 (by lia) ?_)
 dsimp only;have m0:MH key a b (#[a.getD (a.size-1) nn]:Array Keyed) (a.size-1) b.size:=by
  have:MH key a b (#[]:Array Keyed) a.size b.size:=⟨⟨by simp,List.Pairwise.nil,fun x hx=>by simp at hx,fun x hx=>by simp at hx⟩,au _,au _⟩
  exact oO sa sb this a1 fun j hj=>hl _ (by simp [Array.getD,hj])
 have dF:∀g,kindOf (setG st g)=κ:=fun _=>hk;by_cases e1:(a.size-1 == 0)=true
 ·rw [ae e1]
  have:=i5 sa sb m0 (.inl (eq_of_beq e1));exact ao (q _ (gallopOf st) this.1 this.2)
 rw [aa e1];by_cases e2:(b.size == 1)=true
 ·rw [ae e2]
  have:=oP sa sb m0 h0 (eq_of_beq e2);exact ao (q _ (gallopOf st) this.1 this.2)
 rw [aa e2];have a2:1≤a.size-1:=by
  have:a.size-1≠0:=fun e=>e1 (by simp [e])
  lia
 have b2:2≤b.size:=by
  have:b.size≠1:=fun e=>e2 (by simp [e])
  lia
 refine aq (j6 ?_)
 refine aq (iz (g9 (I:=fun x c av=>∃(out:Array Keyed) (na nb mg g:Nat),c=(none,na,nb,out,mg)∧av=setG st g∧MH key a b out na nb∧1≤na∧2≤nb∧x+na+nb≤a.size+b.size)
  (Q:=fun c av=>∃(m:Array Keyed) (g:Nat),c.1=some m∧av=setG st g∧m.toList.Perm (a.toList++b.toList)∧bL key m.toList) ?_ ?_ ⟨_,a.size-1,b.size,_,gallopOf st,rfl,rfl,m0,a2,b2,show 0+(a.size-1)+b.size≤a.size+b.size by lia⟩) ?_)
 ·rintro x c av _ hx ⟨out,na,nb,mg,g,rfl,rfl,aJ⟩
  have mi:=aJ.1;have ha:=aJ.2.1;have hb:=aJ.2.2.1;have mZ:=aJ.2.2.2;clear aJ;dsimp only
  refine aq (iz (g9 (I:=fun y c av=>∃(out:Array Keyed) (bS cT ac bc:Nat),c=(none,bS,cT,out,ac,bc)∧av=setG st g∧MH key a b out bS cT∧1≤bS∧2≤cT∧y+bS+cT≤na+nb)
   (Q:=fun c av=>av=setG st g∧((∃m:Array Keyed,c.1=some m∧m.toList.Perm (a.toList++b.toList)∧bL key m.toList)∨∃(out:Array Keyed) (bS cT ac bc:Nat),c=(none,bS,cT,out,ac,bc)∧MH key a b out bS cT∧1≤bS∧2≤cT∧1+bS+cT≤na+nb)) ?_ ?_ ⟨_,na,nb,_,_,rfl,rfl,mi,ha,hb,show 0+na+nb≤na+nb by lia⟩) ?_)
  ·rintro y c av _ hy ⟨out,bS,cT,ac,bc,rfl,rfl,aX⟩
   have mi:=aX.1;have ha:=aX.2.1;have hb:=aX.2.2.1;have jt:=aX.2.2.2;clear aX;have AX:=mi.2.1;have tY:=mi.2.2;dsimp only;refine aq (b7 (by lia) (aq (b7 (by lia) (aq (AR h (ob (cT-1) (by lia)) (oa (bS-1) (by lia)) (dF _) ?_)))))
   dsimp only;by_cases z:key (b.getD (cT-1) nn)<key (a.getD (bS-1) nn)
   ·rw [bu z,ae rfl]
    refine aq (b7 (by lia) ?_)
    have ju:=oO sa sb mi ha fun j hj=>dU (hU sb (by lia) (by lia)) (dS z)
    by_cases z1:(bS-1 == 0)=true
    ·rw [ae z1]
     exact ao ⟨rfl,.inl ⟨_,rfl,i5 sa sb ju (.inl (eq_of_beq z1))⟩⟩
    ·rw [aa z1]
     have AU:bS-1≠0:=fun e=>z1 (by simp [e])
     exact gg (fun _=>ao ⟨rfl,.inr ⟨_,_,_,_,_,rfl,ju,by lia,hb,by lia⟩⟩) (fun _=>ao ⟨_,_,_,_,_,rfl,rfl,ju,by lia,hb,by lia⟩)
   ·rw [bY z,aa (by simp)]
    refine aq (b7 (by lia) ?_)
    have ju:=AW sa sb mi (by lia) fun j hj=>dU (hU sa (by lia) (by lia)) (Int.not_lt.mp z)
    by_cases z1:(cT-1 == 1)=true
    ·rw [ae z1]
     exact ao ⟨rfl,.inl ⟨_,rfl,oP sa sb ju h0 (eq_of_beq z1)⟩⟩
    ·rw [aa z1]
     have AU:cT-1≠1:=fun e=>z1 (by simp [e])
     exact gg (fun _=>ao ⟨rfl,.inr ⟨_,_,_,_,_,rfl,ju,ha,by lia,by lia⟩⟩) (fun _=>ao ⟨_,_,_,_,_,rfl,rfl,ju,ha,by lia,by lia⟩)
  ·rintro c av ⟨out,bS,cT,ac,bc,rfl,rfl,ba⟩
   have mi:=ba.1;have ha:=ba.2.1;have hb:=ba.2.2.1;have jt:=ba.2.2.2;clear ba;exact ⟨rfl,.inr ⟨_,_,_,_,_,rfl,mi,ha,hb,by lia⟩⟩
  ·rintro c av ⟨rfl,⟨m,e,pm⟩ | ⟨out,bS,cT,ac,bc,rfl,mi,ha,hb,jt⟩⟩
   ·obtain ⟨c1,c2⟩:=c
    dsimp only at e;subst e;exact ao ⟨m,g,rfl,rfl,pm⟩
   ·dsimp only
    refine aq (wpS_lift (nV ⟨rfl,?_⟩))
    refine aq (iz (g9 (I:=fun y c av=>∃(out:Array Keyed) (i j mg ac bc g:Nat),c=(none,i,j,out,mg,ac,bc)∧av=setG st g∧MH key a b out i j∧1≤i∧2≤j∧x+1+i+j≤a.size+b.size)
     (Q:=fun c av=>(∃(m:Array Keyed) (g:Nat),c.1=some m∧av=setG st g∧m.toList.Perm (a.toList++b.toList)∧bL key m.toList)∨∃(out:Array Keyed) (i j mg ac bc g:Nat),c=(none,i,j,out,mg,ac,bc)∧av=setG st g∧MH key a b out i j∧1≤i∧2≤j∧x+1+i+j≤a.size+b.size) ?_ ?_ ⟨_,bS,cT,_,_,_,g,rfl,rfl,mi,ha,hb,by lia⟩) ?_)
    ·clear mi ha hb jt
     rintro y c av _ hy ⟨out,na,nb,mg,ac,bc,g,rfl,rfl,bI⟩;have mi:=bI.1;have ha:=bI.2.1;have hb:=bI.2.2.1;have jt:=bI.2.2.2;clear bI;have AX:=mi.2.1;have tY:=mi.2.2;dsimp only;rcases su 1 mg with zm | zm
     ·rw [ae zm]
      refine aq (xl ?_);refine aq (b7 (by lia) (aq (jO (f:=fun i=>bB false (key (b.getD (nb-1) nn)) (key (a.getD (0+i) nn))) (fun i hi Q q=>jN h (by lia) oa (ob _ (by lia)) (dF _) q) (by lia) (fun i j h1 h2 h3=>DB sa (o:=0) i j h1 (by lia) h3) fun k k1 k2 k3=>?_)))
      dsimp only;by_cases zk:na-k>0
      ·rw [ae zk]
       have jv:=HL sa sb mi (k:=k) k1 fun i j hi bR hj=>by have:=rj (k3 i hi bR);rw [eJ] at this;exact dU (hU sb (by lia) (by lia)) (dS this)
       by_cases w1:(k == 0)=true
       ·rw [ae w1]
        exact ao (.inl ⟨_,_,rfl,rfl,i5 sa sb jv (.inl (eq_of_beq w1))⟩)
       ·rw [aa w1]
        have HK:k≠0:=fun e=>w1 (by simp [e])
        refine aq (b7 (by have:=jv.2.2;lia) ?_)
        have df:=AW sa sb jv (by lia) fun j h1=>by have:=oM (k2 j h1);rw [eJ] at this;exact this
        by_cases x1:(nb-1 == 1)=true
        ·rw [ae x1]
         exact ao (.inl ⟨_,_,rfl,rfl,oP sa sb df h0 (eq_of_beq x1)⟩)
        ·rw [aa x1]
         have tV:nb-1≠1:=fun e=>x1 (by simp [e])
         have tY:=df.2.2;refine aq (b7 (by lia) (aq (jO (f:=fun i=>bB true (key (a.getD (k-1) nn)) (key (b.getD (0+i) nn))) (fun i hi Q q=>jN h (by lia) ob (oa _ (by lia)) (dF _) q) (by lia) (fun i j h1 h2 h3=>rm sb (o:=0) i j h1 (by lia) h3) fun k' q1 q2 q3=>?_)))
         dsimp only;by_cases fC:nb-1-k'>0
         ·rw [ae fC]
          have eQ:=AV sa sb df (k:=k') q1 fun i j hi bR hj=>by have:=jP (q3 i hi bR);rw [eJ] at this;exact dU (hU sa (by lia) (by lia)) this
          by_cases x2:(k' == 1)=true
          ·rw [ae x2]
           exact ao (.inl ⟨_,_,rfl,rfl,oP sa sb eQ h0 (eq_of_beq x2)⟩)
          ·rw [aa x2]
           have tW:k'≠1:=fun e=>x2 (by simp [e])
           by_cases x3:(k' == 0)=true
           ·rw [ae x3]
            exact ao (.inl ⟨_,_,rfl,rfl,i5 sa sb eQ (.inr (eq_of_beq x3))⟩)
           ·rw [aa x3]
            have HM:k'≠0:=fun e=>x3 (by simp [e])
            refine aq (b7 (by lia) ?_)
            have bg:=oO sa sb eQ (by lia) fun j h1=>by have:=jq (q2 j h1);rw [eJ] at this;exact dS this
            by_cases y1:(k-1 == 0)=true
            ·rw [ae y1]
             exact ao (.inl ⟨_,_,rfl,rfl,i5 sa sb bg (.inl (eq_of_beq y1))⟩)
            ·rw [aa y1]
             have jw:k-1≠0:=fun e=>y1 (by simp [e])
             exact gg (fun _=>ao (.inr ⟨_,_,_,_,_,_,_,rfl,rfl,bg,by lia,by lia,by lia⟩)) (fun _=>ao ⟨_,_,_,_,_,_,_,rfl,rfl,bg,by lia,by lia,by lia⟩)
         ·rw [aa fC]
          obtain rfl:k'=nb-1:=by lia
          refine aq (b7 (by lia) ?_)
          have bg:=oO sa sb df (by lia) fun j h1=>by have:=jq (q2 j h1);rw [eJ] at this;exact dS this
          by_cases y1:(k-1 == 0)=true
          ·rw [ae y1]
           exact ao (.inl ⟨_,_,rfl,rfl,i5 sa sb bg (.inl (eq_of_beq y1))⟩)
          ·rw [aa y1]
           have jw:k-1≠0:=fun e=>y1 (by simp [e])
           exact gg (fun _=>ao (.inr ⟨_,_,_,_,_,_,_,rfl,rfl,bg,by lia,by lia,by lia⟩)) (fun _=>ao ⟨_,_,_,_,_,_,_,rfl,rfl,bg,by lia,by lia,by lia⟩)
      ·rw [aa zk]
       obtain rfl:k=na:=by lia
       refine aq (b7 (by have:=mi.2.2;lia) ?_)
       have df:=AW sa sb mi (by lia) fun j h1=>by have:=oM (k2 j h1);rw [eJ] at this;exact this
       by_cases x1:(nb-1 == 1)=true
       ·rw [ae x1]
        exact ao (.inl ⟨_,_,rfl,rfl,oP sa sb df h0 (eq_of_beq x1)⟩)
       ·rw [aa x1]
        have tV:nb-1≠1:=fun e=>x1 (by simp [e])
        have tY:=df.2.2;refine aq (b7 (by lia) (aq (jO (f:=fun i=>bB true (key (a.getD (k-1) nn)) (key (b.getD (0+i) nn))) (fun i hi Q q=>jN h (by lia) ob (oa _ (by lia)) (dF _) q) (by lia) (fun i j h1 h2 h3=>rm sb (o:=0) i j h1 (by lia) h3) fun k' q1 q2 q3=>?_)))
        dsimp only;by_cases fC:nb-1-k'>0
        ·rw [ae fC]
         have eQ:=AV sa sb df (k:=k') q1 fun i j hi bR hj=>by have:=jP (q3 i hi bR);rw [eJ] at this;exact dU (hU sa (by lia) (by lia)) this
         by_cases x2:(k' == 1)=true
         ·rw [ae x2]
          exact ao (.inl ⟨_,_,rfl,rfl,oP sa sb eQ h0 (eq_of_beq x2)⟩)
         ·rw [aa x2]
          have tW:k'≠1:=fun e=>x2 (by simp [e])
          by_cases x3:(k' == 0)=true
          ·rw [ae x3]
           exact ao (.inl ⟨_,_,rfl,rfl,i5 sa sb eQ (.inr (eq_of_beq x3))⟩)
          ·rw [aa x3]
           have HM:k'≠0:=fun e=>x3 (by simp [e])
           refine aq (b7 (by lia) ?_)
           have bg:=oO sa sb eQ (by lia) fun j h1=>by have:=jq (q2 j h1);rw [eJ] at this;exact dS this
           by_cases y1:(k-1 == 0)=true
           ·rw [ae y1]
            exact ao (.inl ⟨_,_,rfl,rfl,i5 sa sb bg (.inl (eq_of_beq y1))⟩)
           ·rw [aa y1]
            have jw:k-1≠0:=fun e=>y1 (by simp [e])
            exact gg (fun _=>ao (.inr ⟨_,_,_,_,_,_,_,rfl,rfl,bg,by lia,by lia,by lia⟩)) (fun _=>ao ⟨_,_,_,_,_,_,_,rfl,rfl,bg,by lia,by lia,by lia⟩)
        ·rw [aa fC]
         obtain rfl:k'=nb-1:=by lia
         refine aq (b7 (by lia) ?_)
         have bg:=oO sa sb df (by lia) fun j h1=>by have:=jq (q2 j h1);rw [eJ] at this;exact dS this
         by_cases y1:(k-1 == 0)=true
         ·rw [ae y1]
          exact ao (.inl ⟨_,_,rfl,rfl,i5 sa sb bg (.inl (eq_of_beq y1))⟩)
         ·rw [aa y1]
          have jw:k-1≠0:=fun e=>y1 (by simp [e])
          exact gg (fun _=>ao (.inr ⟨_,_,_,_,_,_,_,rfl,rfl,bg,by lia,by lia,by lia⟩)) (fun _=>ao ⟨_,_,_,_,_,_,_,rfl,rfl,bg,by lia,by lia,by lia⟩)
     ·rw [aa (by lia)]
      refine aq (xl ?_);refine aq (b7 (by lia) (aq (jO (f:=fun i=>bB false (key (b.getD (nb-1) nn)) (key (a.getD (0+i) nn))) (fun i hi Q q=>jN h (by lia) oa (ob _ (by lia)) (dF _) q) (by lia) (fun i j h1 h2 h3=>DB sa (o:=0) i j h1 (by lia) h3) fun k k1 k2 k3=>?_)))
      dsimp only;by_cases zk:na-k>0
      ·rw [ae zk]
       have jv:=HL sa sb mi (k:=k) k1 fun i j hi bR hj=>by have:=rj (k3 i hi bR);rw [eJ] at this;exact dU (hU sb (by lia) (by lia)) (dS this)
       by_cases w1:(k == 0)=true
       ·rw [ae w1]
        exact ao (.inl ⟨_,_,rfl,rfl,i5 sa sb jv (.inl (eq_of_beq w1))⟩)
       ·rw [aa w1]
        have HK:k≠0:=fun e=>w1 (by simp [e])
        refine aq (b7 (by have:=jv.2.2;lia) ?_)
        have df:=AW sa sb jv (by lia) fun j h1=>by have:=oM (k2 j h1);rw [eJ] at this;exact this
        by_cases x1:(nb-1 == 1)=true
        ·rw [ae x1]
         exact ao (.inl ⟨_,_,rfl,rfl,oP sa sb df h0 (eq_of_beq x1)⟩)
        ·rw [aa x1]
         have tV:nb-1≠1:=fun e=>x1 (by simp [e])
         have tY:=df.2.2;refine aq (b7 (by lia) (aq (jO (f:=fun i=>bB true (key (a.getD (k-1) nn)) (key (b.getD (0+i) nn))) (fun i hi Q q=>jN h (by lia) ob (oa _ (by lia)) (dF _) q) (by lia) (fun i j h1 h2 h3=>rm sb (o:=0) i j h1 (by lia) h3) fun k' q1 q2 q3=>?_)))
         dsimp only;by_cases fC:nb-1-k'>0
         ·rw [ae fC]
          have eQ:=AV sa sb df (k:=k') q1 fun i j hi bR hj=>by have:=jP (q3 i hi bR);rw [eJ] at this;exact dU (hU sa (by lia) (by lia)) this
          by_cases x2:(k' == 1)=true
          ·rw [ae x2]
           exact ao (.inl ⟨_,_,rfl,rfl,oP sa sb eQ h0 (eq_of_beq x2)⟩)
          ·rw [aa x2]
           have tW:k'≠1:=fun e=>x2 (by simp [e])
           by_cases x3:(k' == 0)=true
           ·rw [ae x3]
            exact ao (.inl ⟨_,_,rfl,rfl,i5 sa sb eQ (.inr (eq_of_beq x3))⟩)
           ·rw [aa x3]
            have HM:k'≠0:=fun e=>x3 (by simp [e])
            refine aq (b7 (by lia) ?_)
            have bg:=oO sa sb eQ (by lia) fun j h1=>by have:=jq (q2 j h1);rw [eJ] at this;exact dS this
            by_cases y1:(k-1 == 0)=true
            ·rw [ae y1]
             exact ao (.inl ⟨_,_,rfl,rfl,i5 sa sb bg (.inl (eq_of_beq y1))⟩)
            ·rw [aa y1]
             have jw:k-1≠0:=fun e=>y1 (by simp [e])
             exact gg (fun _=>ao (.inr ⟨_,_,_,_,_,_,_,rfl,rfl,bg,by lia,by lia,by lia⟩)) (fun _=>ao ⟨_,_,_,_,_,_,_,rfl,rfl,bg,by lia,by lia,by lia⟩)
         ·rw [aa fC]
          obtain rfl:k'=nb-1:=by lia
          refine aq (b7 (by lia) ?_)
          have bg:=oO sa sb df (by lia) fun j h1=>by have:=jq (q2 j h1);rw [eJ] at this;exact dS this
          by_cases y1:(k-1 == 0)=true
          ·rw [ae y1]
           exact ao (.inl ⟨_,_,rfl,rfl,i5 sa sb bg (.inl (eq_of_beq y1))⟩)
          ·rw [aa y1]
           have jw:k-1≠0:=fun e=>y1 (by simp [e])
           exact gg (fun _=>ao (.inr ⟨_,_,_,_,_,_,_,rfl,rfl,bg,by lia,by lia,by lia⟩)) (fun _=>ao ⟨_,_,_,_,_,_,_,rfl,rfl,bg,by lia,by lia,by lia⟩)
      ·rw [aa zk]
       obtain rfl:k=na:=by lia
       refine aq (b7 (by have:=mi.2.2;lia) ?_)
       have df:=AW sa sb mi (by lia) fun j h1=>by have:=oM (k2 j h1);rw [eJ] at this;exact this
       by_cases x1:(nb-1 == 1)=true
       ·rw [ae x1]
        exact ao (.inl ⟨_,_,rfl,rfl,oP sa sb df h0 (eq_of_beq x1)⟩)
       ·rw [aa x1]
        have tV:nb-1≠1:=fun e=>x1 (by simp [e])
        have tY:=df.2.2;refine aq (b7 (by lia) (aq (jO (f:=fun i=>bB true (key (a.getD (k-1) nn)) (key (b.getD (0+i) nn))) (fun i hi Q q=>jN h (by lia) ob (oa _ (by lia)) (dF _) q) (by lia) (fun i j h1 h2 h3=>rm sb (o:=0) i j h1 (by lia) h3) fun k' q1 q2 q3=>?_)))
        dsimp only;by_cases fC:nb-1-k'>0
        ·rw [ae fC]
         have eQ:=AV sa sb df (k:=k') q1 fun i j hi bR hj=>by have:=jP (q3 i hi bR);rw [eJ] at this;exact dU (hU sa (by lia) (by lia)) this
         by_cases x2:(k' == 1)=true
         ·rw [ae x2]
          exact ao (.inl ⟨_,_,rfl,rfl,oP sa sb eQ h0 (eq_of_beq x2)⟩)
         ·rw [aa x2]
          have tW:k'≠1:=fun e=>x2 (by simp [e])
          by_cases x3:(k' == 0)=true
          ·rw [ae x3]
           exact ao (.inl ⟨_,_,rfl,rfl,i5 sa sb eQ (.inr (eq_of_beq x3))⟩)
          ·rw [aa x3]
           have HM:k'≠0:=fun e=>x3 (by simp [e])
           refine aq (b7 (by lia) ?_)
           have bg:=oO sa sb eQ (by lia) fun j h1=>by have:=jq (q2 j h1);rw [eJ] at this;exact dS this
           by_cases y1:(k-1 == 0)=true
           ·rw [ae y1]
            exact ao (.inl ⟨_,_,rfl,rfl,i5 sa sb bg (.inl (eq_of_beq y1))⟩)
           ·rw [aa y1]
            have jw:k-1≠0:=fun e=>y1 (by simp [e])
            exact gg (fun _=>ao (.inr ⟨_,_,_,_,_,_,_,rfl,rfl,bg,by lia,by lia,by lia⟩)) (fun _=>ao ⟨_,_,_,_,_,_,_,rfl,rfl,bg,by lia,by lia,by lia⟩)
        ·rw [aa fC]
         obtain rfl:k'=nb-1:=by lia
         refine aq (b7 (by lia) ?_)
         have bg:=oO sa sb df (by lia) fun j h1=>by have:=jq (q2 j h1);rw [eJ] at this;exact dS this
         by_cases y1:(k-1 == 0)=true
         ·rw [ae y1]
          exact ao (.inl ⟨_,_,rfl,rfl,i5 sa sb bg (.inl (eq_of_beq y1))⟩)
         ·rw [aa y1]
          have jw:k-1≠0:=fun e=>y1 (by simp [e])
          exact gg (fun _=>ao (.inr ⟨_,_,_,_,_,_,_,rfl,rfl,bg,by lia,by lia,by lia⟩)) (fun _=>ao ⟨_,_,_,_,_,_,_,rfl,rfl,bg,by lia,by lia,by lia⟩)
    ·rintro c av ⟨out,i,j,mg,ac,bc,g,rfl,rfl,dg⟩
     have mi:=dg.1;have ha:=dg.2.1;have hb:=dg.2.2.1;have jt:=dg.2.2.2;clear dg;exact .inr ⟨_,_,_,_,_,_,_,rfl,rfl,mi,ha,hb,jt⟩
    ·rintro c av (⟨m,g,e,rfl,pm⟩ | ⟨out,i,j,mg,ac,bc,g,rfl,rfl,mi,ha,hb,jt⟩)
     ·obtain ⟨c1,c2⟩:=c
      dsimp only at e;subst e;exact ao ⟨m,g,rfl,rfl,pm⟩
     ·dsimp only
      exact aq (xl (ao ⟨_,_,_,_,_,rfl,rfl,mi,ha,hb,by lia⟩))
 ·rintro c av ⟨out,ia,ib,mg,g,rfl,rfl,eR⟩
  have mi:=eR.1;have ha:=eR.2.1;have hb:=eR.2.2.1;have mZ:=eR.2.2.2;clear eR
  exfalso
  lia
 ·rintro c av ⟨m,g,e,rfl,pm,sm⟩
  obtain ⟨c1,c2⟩:=c;dsimp only at e;subst e;exact ao (q m g pm sm)
end
section
variable {prog:Program} {w:World} {A:Around} {E:aF} {s:Shared} {κ:SortKind} {key:Keyed→Int} {Ok:Keyed→Prop}
def vA(key:Keyed→Int)(arr:Array Keyed)(i:Nat):Int:=key (arr.getD i nn)
def dG(key:Keyed→Int)(arr:Array Keyed)(lo hi:Nat):Prop:=∀i j,lo≤i→i≤j→j<hi→vA key arr i≤vA key arr j
def lO(key:Keyed→Int)(arr:Array Keyed)(lo hi:Nat):Prop:=∀i j,lo≤i→i≤j→j<hi→vA key arr j≤vA key arr i
structure Rl (arr a7:Array Keyed) (lo hi:Nat):Prop where
 pm:a7.Perm arr
 out:∀k,k<lo∨hi≤k→a7[k]?=arr[k]?
theorem Rl.refl(arr:Array Keyed)(lo hi:Nat):Rl arr arr lo hi:=⟨Array.Perm.refl _,fun _ _=>rfl⟩
variable {arr a7:Array Keyed} {lo hi:Nat}
theorem Rl.trans{aG:Array Keyed}(h:Rl arr a7 lo hi)(h':Rl a7 aG lo hi):Rl arr aG lo hi:=⟨h'.pm.trans h.pm,fun k hk=>(h'.out k hk).trans (h.out k hk)⟩
theorem Rl.size(h:Rl arr a7 lo hi):a7.size=arr.size:=h.pm.size_eq
theorem Rl.wide{Ny bR:Nat}(h:Rl arr a7 lo hi)(h1:Ny≤lo)(h2:hi≤bR):Rl arr a7 Ny bR:=⟨h.pm,fun k hk=>h.out k (by lia)⟩
theorem m6(arr:Array Keyed)(i:Nat):arr.getD i nn=arr[i]?.getD nn:=by by_cases z:i<arr.size <;> simp [Array.getD,z]
variable {k:Nat}
theorem Rl.v(h:Rl arr a7 lo hi)(hk:k<lo∨hi≤k):vA key a7 k=vA key arr k:=by unfold vA;rw [m6,m6,h.out k hk]
theorem xr(h:gv Ok arr)(p:a7.Perm arr):gv Ok a7:=fun i hi=>by
 have e:a7.getD i nn=a7[i]:=by simp [Array.getD,hi]
 rw [e];have m:a7[i]∈arr:=(Array.Perm.mem_iff p).mp (Array.getElem_mem hi);obtain ⟨j,hj,ej⟩:=Array.getElem_of_mem m;rw [←ej];have:=h j hj;simpa [Array.getD,hj] using this
theorem Rl.ok(h:Rl arr a7 lo hi)(ok:gv Ok arr):gv Ok a7:=xr ok h.pm
theorem m7(hj:j≤arr.size):Rl arr (mirror arr i j ((j-i) / 2)) i j:=⟨mirror_perm ..,fun k hk=>by rw [getElem?_mirror_all hj,aa (by lia)]⟩
theorem DF(hj:j≤arr.size)(h1:i≤k)(h2:k<j):vA key (mirror arr i j ((j-i) / 2)) k=vA key arr (i+j-1-k):=by unfold vA;rw [m6,m6,getElem?_mirror_all hj,ae ⟨h1,h2⟩]
abbrev bC (κ:SortKind) (arr:Array Keyed) (pend:Array (Nat×Nat×Nat)) (g:Nat):SortSt:=SortSt.mk' κ arr pend g none
variable {arr:Array Keyed} {pend:Array (Nat×Nat×Nat)} {g:Nat}
theorem m8(h:kq prog w A s κ key Ok)(ok:gv Ok arr)(hi:i<arr.size)(hj:j<arr.size){Q:Option Bool→SortSt→Prop}(q:Q (some (decide (vA key arr i<vA key arr j))) (bC κ arr pend g)):wpS (model prog w) A E s (ltAt' i j) Q (bC κ arr pend g):=by rw [ltAt'_eq];refine aq (j6 ?_);exact aq (b7 hi (aq (b7 hj (AR h (ok _ hi) (ok _ hj) rfl q))))
theorem p7{Q:Unit→SortSt→Prop}(q:Q () (bC κ (mirror arr i j ((j-i) / 2)) pend g)):wpS (model prog w) A E s (reverseSlice' i j) Q (bC κ arr pend g):=by rw [reverseSlice'_eq];exact mE q
variable {n:Nat}
theorem dG.more(h:dG key arr lo (lo+n))(n1:1≤n)(c:vA key arr (lo+n-1)≤vA key arr (lo+n)):dG key arr lo (lo+(n+1)):=fun i j h1 h2 h3=>by
 by_cases z:j<lo+n;·exact h i j h1 h2 z
 ·obtain rfl:j=lo+n:=by lia
  by_cases y:i=lo+n;·rw [y];exact kO _
  ·exact dU (h i (lo+n-1) h1 (by lia) (by lia)) c
theorem lO.more(h:lO key arr lo (lo+n))(n1:1≤n)(c:vA key arr (lo+n)≤vA key arr (lo+n-1)):lO key arr lo (lo+(n+1)):=fun i j h1 h2 h3=>by
 by_cases z:j<lo+n;·exact h i j h1 h2 z
 ·obtain rfl:j=lo+n:=by lia
  by_cases y:i=lo+n;·rw [y];exact kO _
  ·exact dU c (h i (lo+n-1) h1 (by lia) (by lia))
def AY(key:Keyed→Int)(arr:Array Keyed)(lo n q:Nat):Prop:=q+1≤n∧∀i,lo+n-(q+1)≤i→i<lo+n→vA key arr i=vA key arr (lo+n-1)
theorem DG{q:Nat}(hz:lo+n≤arr.size)(d:lO key arr lo (lo+n))(e:AY key arr lo n q):lO key (mirror arr (lo+n-(q+1)) (lo+n) ((lo+n-(lo+n-(q+1))) / 2)) lo (lo+n)∧∀k,vA key (mirror arr (lo+n-(q+1)) (lo+n) ((lo+n-(lo+n-(q+1))) / 2)) k=vA key arr k:=by
 have hv:∀k,vA key (mirror arr (lo+n-(q+1)) (lo+n) ((lo+n-(lo+n-(q+1))) / 2)) k=vA key arr k:=fun k=>by
  by_cases z:lo+n-(q+1)≤k∧k<lo+n;·rw [DF hz z.1 z.2,e.2 _ (by have:=e.1;lia) (by lia),e.2 k z.1 z.2]
  ·exact (m7 hz).v (by lia)
 refine ⟨fun i j h1 h2 h3=>?_,hv⟩;rw [hv,hv];exact d i j h1 h2 h3
theorem DH(hz:lo+n≤arr.size)(d:lO key arr lo (lo+n)):dG key (mirror arr lo (lo+n) ((lo+n-lo) / 2)) lo (lo+n):=fun i j h1 h2 h3=>by
 rw [DF hz h1 (by lia),DF hz (by lia) h3]
 exact d _ _ (by lia) (by lia) (by lia)
end
section
variable {prog:Program} {w:World} {A:Around} {E:aF} {s:Shared} {κ:SortKind} {key:Keyed→Int} {Ok:Keyed→Prop} {arr:Array Keyed} {pend:Array (Nat×Nat×Nat)} {g:Nat}
variable {lo dh:Nat}
theorem AZ(h:kq prog w A s κ key Ok)(ok:gv Ok arr){m:Nat}(hz:lo+dh≤arr.size)(m1:1≤m)(mn:m≤dh)(sg:dG key arr lo (lo+m)){body:Nat→Option (Option Nat)×Nat→StateT SortSt Sem (ForInStep (Option (Option Nat)×Nat))}{R:Option (Option Nat)×Nat→SortSt→Prop}
  (hb:∀x n (R:ForInStep (Option (Option Nat)×Nat)→SortSt→Prop),1≤n→n<dh→R (if vA key arr (lo+n)<vA key arr (lo+n-1) then .done (none,n) else .yield (none,n+1)) (bC κ arr pend g)→wpS (model prog w) A E s (body x (none,n)) R (bC κ arr pend g))
  (k:∀n,m≤n→n≤dh→dG key arr lo (lo+n)→(n<dh→vA key arr (lo+n)<vA key arr (lo+n-1))→R (none,n) (bC κ arr pend g)) :
  wpS (model prog w) A E s (forIn [m:dh] (none,m) body) R (bC κ arr pend g):=by
 refine g9 (I:=fun x c av=>av=bC κ arr pend g∧c=(none,x)∧m≤x∧x≤dh∧dG key arr lo (lo+x)) ?_ ?_ ⟨rfl,rfl,au _,mn,sg⟩
 ·rintro x c av _ hx ⟨rfl,rfl,aJ⟩
  have g1:=aJ.1;have g2:=aJ.2.1;have g3:=aJ.2.2;clear aJ;refine hb x x _ (by lia) hx ?_
  by_cases z:vA key arr (lo+x)<vA key arr (lo+x-1)
  ·rw [ae z]
   exact k x g1 g2 g3 fun _=>z
  ·rw [aa z]
   exact ⟨rfl,rfl,by lia,by lia,g3.more (by lia) (Int.not_lt.mp z)⟩
 ·rintro c av ⟨rfl,rfl,aX⟩
  have g1:=aX.1;have g2:=aX.2.1;have g3:=aX.2.2;clear aX;have e:max m dh=dh:=by lia
  rw [e] at g3 ⊢;exact k dh mn (au _) g3 fun z=>absurd z (d6 _)
theorem WH(h:kq prog w A s κ key Ok)(ok:gv Ok arr)(hz:lo+dh≤arr.size)(n1:1≤dh){Q:Option Nat→SortSt→Prop}
  (k:∀n a7,1≤n→n≤dh→Rl arr a7 lo (lo+dh)→dG key a7 lo (lo+n)→Q (some n) (bC κ a7 pend g)):wpS (model prog w) A E s (countRun' lo dh) Q (bC κ arr pend g):=by
 rw [countRun'_eq];refine aq (AZ h ok hz (au 1) n1 (fun i j h1 h2 h3=>by rw [show i=j by lia];exact kO _) ?_ fun n m1 mn sg br=>?_)
 ·intro x n R a1 a2 r
  dsimp only;refine aq (m8 h ok (by lia) (by lia) ?_)
  dsimp only;by_cases z:vA key arr (lo+n)<vA key arr (lo+n-1)
  ·rw [ae z] at r
   rw [bu z,ae rfl];exact ao r
  ·rw [aa z] at r
   rw [bY z,aa (by simp)]
   exact ao r
 dsimp only;by_cases e1:(n == dh)=true
 ·rw [ae e1]
  exact ao (k n arr m1 mn (Rl.refl ..) sg)
 rw [aa e1];have aR:n<dh:=by
  have:n≠dh:=fun e=>e1 (by simp [e])
  lia
 have Nz:=br aR;by_cases e2:n>1
 ·rw [ae e2]
  refine aq (m8 h ok (by lia) (by lia) ?_)
  dsimp only;by_cases z:vA key arr lo<vA key arr (lo+n-1)
  ·rw [bu z,ae rfl]
   exact ao (k n arr m1 mn (Rl.refl ..) sg)
  ·rw [bY z,aa (by simp)]
   refine aq (p7 ?_);have ev:∀i,lo≤i→i<lo+n→vA key arr i=vA key arr (lo+n-1):=fun i h1 h2=>by
    have a1:=sg lo i (au _) h1 h2;have a2:=sg i (lo+n-1) h1 (by lia) (by lia)
    lia
   have hv:∀i,vA key (mirror arr lo (lo+n) ((lo+n-lo) / 2)) i=vA key arr i:=fun i=>by
    by_cases y:lo≤i∧i<lo+n;·rw [DF (by lia) y.1 y.2,ev _ (by lia) (by lia),ev i y.1 y.2]
    ·exact (m7 (by lia)).v (by lia)
   have d1:lO key (mirror arr lo (lo+n) ((lo+n-lo) / 2)) lo (lo+n):=fun i j h1 h2 h3=>by
    rw [hv,hv,ev i h1 (by lia),ev j (by lia) h3]
    exact kO _
   have DI:Rl arr (mirror arr lo (lo+n) ((lo+n-lo) / 2)) lo (lo+dh):=(m7 (by lia)).wide (au _) (by lia)
   have NA:vA key (mirror arr lo (lo+n) ((lo+n-lo) / 2)) (lo+n)<vA key (mirror arr lo (lo+n) ((lo+n-lo) / 2)) (lo+n-1):=by rw [hv,hv];exact Nz
   generalize mirror arr lo (lo+n) ((lo+n-lo) / 2)=WI at d1 DI NA ⊢;refine aq (wpS_lift (nV ⟨rfl,?_⟩))
   refine aq (iz (g9 (I:=fun x c av=>∃(aG:Array Keyed) (q:Nat),av=bC κ aG pend g∧c=(none,x,q)∧Rl arr aG lo (lo+dh)∧lO key aG lo (lo+x)∧AY key aG lo x q∧x≤dh∧1≤x)
    (Q:=fun c av=>∃(aG:Array Keyed) (n q:Nat),av=bC κ aG pend g∧c=(none,n,q)∧Rl arr aG lo (lo+dh)∧lO key aG lo (lo+n)∧AY key aG lo n q∧n≤dh∧1≤n) ?_ ?_ ⟨WI,0,rfl,rfl,DI,d1.more (by lia) (dS NA),⟨by lia,fun i h1 h2=>by rw [show i=lo+(n+1)-1 by lia]⟩,by lia,by lia⟩) ?_)
   ·rintro x c av _ hx ⟨aG,q,rfl,rfl,ba⟩
    have fe:=ba.1;have d2:=ba.2.1;have e2:=ba.2.2.1;have x1:=ba.2.2.2.1;have x2:=ba.2.2.2.2;clear ba;have lR:=fe.ok ok;have z2:=fe.size;dsimp only;refine aq (m8 h lR (by lia) (by lia) ?_)
    dsimp only;by_cases z:vA key aG (lo+x)<vA key aG (lo+x-1)
    ·rw [bu z,ae rfl]
     by_cases y:q>0
     ·rw [ae y]
      refine aq (p7 (ao ?_));obtain ⟨d3,hv⟩:=DG (by lia) d2 e2
      refine ⟨_,0,rfl,rfl,fe.trans ((m7 (by lia)).wide (by have:=e2.1;lia) (by lia)),d3.more (by lia) (by rw [hv,hv];exact dS z),⟨by lia,fun i h1 h2=>by rw [show i=lo+(x+1)-1 by lia]⟩,by lia,by lia⟩
     ·rw [aa y]
      exact ao ⟨_,0,rfl,rfl,fe,d2.more (by lia) (dS z),⟨by lia,fun i h1 h2=>by rw [show i=lo+(x+1)-1 by lia]⟩,by lia,by lia⟩
    ·rw [bY z,aa (by simp)]
     refine aq (m8 h lR (by lia) (by lia) ?_)
     dsimp only;by_cases y:vA key aG (lo+x-1)<vA key aG (lo+x)
     ·rw [bu y,ae rfl]
      exact ao ⟨_,_,_,rfl,rfl,fe,d2,e2,x1,x2⟩
     ·rw [bY y,aa (by simp)]
      have ev:vA key aG (lo+x)=vA key aG (lo+x-1):=by lia
      refine ao ⟨_,_,rfl,rfl,fe,d2.more (by lia) (by lia),⟨by have:=e2.1;lia,fun i h1 h2=>?_⟩,by lia,by lia⟩
      rw [show lo+(x+1)-1=lo+x by lia]
      by_cases w:i=lo+x;·rw [w]
      ·rw [ev]
       exact e2.2 i (by lia) (by lia)
   ·rintro c av ⟨aG,q,rfl,rfl,bI⟩
    have fe:=bI.1;have d2:=bI.2.1;have e2:=bI.2.2.1;have x1:=bI.2.2.2.1;have x2:=bI.2.2.2.2;clear bI;exact ⟨aG,_,q,rfl,rfl,fe,d2,e2,x1,x2⟩
   ·rintro c av ⟨aG,n2,q2,rfl,rfl,dg⟩
    have fe:=dg.1;have d2:=dg.2.1;have e2:=dg.2.2.1;have x1:=dg.2.2.2.1;have x2:=dg.2.2.2.2;clear dg;have z2:=fe.size;dsimp only;by_cases y:q2>0
    ·rw [ae y]
     obtain ⟨d3,hv⟩:=DG (by lia) d2 e2
     refine aq (p7 (aq (p7 ?_)));have m9:=fe.trans ((m7 (arr:=aG) (i:=lo+n2-(q2+1)) (j:=lo+n2) (by lia)).wide (by have:=e2.1;lia) (show lo+n2≤lo+dh by lia))
     generalize mirror aG (lo+n2-(q2+1)) (lo+n2) _=dv at d3 m9 ⊢;have z3:=m9.size;have iJ:=DH (by lia) d3
     have cE:=m9.trans ((m7 (arr:=dv) (i:=lo) (j:=lo+n2) (by lia)).wide (au lo) (show lo+n2≤lo+dh by lia))
     generalize mirror dv lo (lo+n2) _=bh at iJ cE ⊢;have m_:=Rl.ok cE ok;have z4:=Rl.size cE;refine aq (AZ h m_ (by lia) (by lia) (by lia) iJ ?_ fun m m1 mn tZ _=>ao (k m bh (by lia) mn cE tZ))
     intro x n R a1 a2 r;dsimp only;refine aq (m8 h m_ (by lia) (by lia) ?_)
     dsimp only;by_cases z:vA key bh (lo+n)<vA key bh (lo+n-1)
     ·rw [ae z] at r
      rw [bu z,ae rfl];exact ao r
     ·rw [aa z] at r
      rw [bY z,aa (by simp)]
      exact ao r
    ·rw [aa y]
     refine aq (p7 ?_);have iJ:=DH (by lia) d2
     have cE:=fe.trans ((m7 (arr:=aG) (i:=lo) (j:=lo+n2) (by lia)).wide (au lo) (show lo+n2≤lo+dh by lia))
     generalize mirror aG lo (lo+n2) _=bh at iJ cE ⊢;have m_:=Rl.ok cE ok;have z4:=Rl.size cE;refine aq (AZ h m_ (by lia) (by lia) (by lia) iJ ?_ fun m m1 mn tZ _=>ao (k m bh (by lia) mn cE tZ))
     intro x n R a1 a2 r;dsimp only;refine aq (m8 h m_ (by lia) (by lia) ?_)
     dsimp only;by_cases z:vA key bh (lo+n)<vA key bh (lo+n-1)
     ·rw [ae z] at r
      rw [bu z,ae rfl];exact ao r
     ·rw [aa z] at r
      rw [bY z,aa (by simp)]
      exact ao r
 ·rw [aa e2]
  have d1:lO key arr lo (lo+n):=fun i j h1 h2 h3=>by
   rw [show i=j by lia]
   exact kO _
  have DI:Rl arr arr lo (lo+dh):=Rl.refl ..;refine aq (wpS_lift (nV ⟨rfl,?_⟩))
  refine aq (iz (g9 (I:=fun x c av=>∃(aG:Array Keyed) (q:Nat),av=bC κ aG pend g∧c=(none,x,q)∧Rl arr aG lo (lo+dh)∧lO key aG lo (lo+x)∧AY key aG lo x q∧x≤dh∧1≤x)
   (Q:=fun c av=>∃(aG:Array Keyed) (n q:Nat),av=bC κ aG pend g∧c=(none,n,q)∧Rl arr aG lo (lo+dh)∧lO key aG lo (lo+n)∧AY key aG lo n q∧n≤dh∧1≤n) ?_ ?_ ⟨arr,0,rfl,rfl,DI,d1.more (by lia) (dS Nz),⟨by lia,fun i h1 h2=>by rw [show i=lo+(n+1)-1 by lia]⟩,by lia,by lia⟩) ?_)
  ·rintro x c av _ hx ⟨aG,q,rfl,rfl,eR⟩
   have fe:=eR.1;have d2:=eR.2.1;have e2:=eR.2.2.1;have x1:=eR.2.2.2.1;have x2:=eR.2.2.2.2;clear eR;have lR:=fe.ok ok;have z2:=fe.size;dsimp only;refine aq (m8 h lR (by lia) (by lia) ?_)
   dsimp only;by_cases z:vA key aG (lo+x)<vA key aG (lo+x-1)
   ·rw [bu z,ae rfl]
    by_cases y:q>0
    ·rw [ae y]
     refine aq (p7 (ao ?_));obtain ⟨d3,hv⟩:=DG (by lia) d2 e2
     refine ⟨_,0,rfl,rfl,fe.trans ((m7 (by lia)).wide (by have:=e2.1;lia) (by lia)),d3.more (by lia) (by rw [hv,hv];exact dS z),⟨by lia,fun i h1 h2=>by rw [show i=lo+(x+1)-1 by lia]⟩,by lia,by lia⟩
    ·rw [aa y]
     exact ao ⟨_,0,rfl,rfl,fe,d2.more (by lia) (dS z),⟨by lia,fun i h1 h2=>by rw [show i=lo+(x+1)-1 by lia]⟩,by lia,by lia⟩
   ·rw [bY z,aa (by simp)]
    refine aq (m8 h lR (by lia) (by lia) ?_)
    dsimp only;by_cases y:vA key aG (lo+x-1)<vA key aG (lo+x)
    ·rw [bu y,ae rfl]
     exact ao ⟨_,_,_,rfl,rfl,fe,d2,e2,x1,x2⟩
    ·rw [bY y,aa (by simp)]
     have ev:vA key aG (lo+x)=vA key aG (lo+x-1):=by lia
     refine ao ⟨_,_,rfl,rfl,fe,d2.more (by lia) (by lia),⟨by have:=e2.1;lia,fun i h1 h2=>?_⟩,by lia,by lia⟩
     rw [show lo+(x+1)-1=lo+x by lia]
     by_cases w:i=lo+x;·rw [w]
     ·rw [ev]
      exact e2.2 i (by lia) (by lia)
  ·rintro c av ⟨aG,q,rfl,rfl,xt⟩
   have fe:=xt.1;have d2:=xt.2.1;have e2:=xt.2.2.1;have x1:=xt.2.2.2.1;have x2:=xt.2.2.2.2;clear xt;exact ⟨aG,_,q,rfl,rfl,fe,d2,e2,x1,x2⟩
  ·rintro c av ⟨aG,n2,q2,rfl,rfl,xu⟩
   have fe:=xu.1;have d2:=xu.2.1;have e2:=xu.2.2.1;have x1:=xu.2.2.2.1;have x2:=xu.2.2.2.2;clear xu;have z2:=fe.size;dsimp only;by_cases y:q2>0
   ·rw [ae y]
    obtain ⟨d3,hv⟩:=DG (by lia) d2 e2
    refine aq (p7 (aq (p7 ?_)));have m9:=fe.trans ((m7 (arr:=aG) (i:=lo+n2-(q2+1)) (j:=lo+n2) (by lia)).wide (by have:=e2.1;lia) (show lo+n2≤lo+dh by lia))
    generalize mirror aG (lo+n2-(q2+1)) (lo+n2) _=dv at d3 m9 ⊢;have z3:=m9.size;have iJ:=DH (by lia) d3
    have cE:=m9.trans ((m7 (arr:=dv) (i:=lo) (j:=lo+n2) (by lia)).wide (au lo) (show lo+n2≤lo+dh by lia))
    generalize mirror dv lo (lo+n2) _=bh at iJ cE ⊢;have m_:=Rl.ok cE ok;have z4:=Rl.size cE;refine aq (AZ h m_ (by lia) (by lia) (by lia) iJ ?_ fun m m1 mn tZ _=>ao (k m bh (by lia) mn cE tZ))
    intro x n R a1 a2 r;dsimp only;refine aq (m8 h m_ (by lia) (by lia) ?_)
    dsimp only;by_cases z:vA key bh (lo+n)<vA key bh (lo+n-1)
    ·rw [ae z] at r
     rw [bu z,ae rfl];exact ao r
    ·rw [aa z] at r
     rw [bY z,aa (by simp)]
     exact ao r
   ·rw [aa y]
    refine aq (p7 ?_);have iJ:=DH (by lia) d2
    have cE:=fe.trans ((m7 (arr:=aG) (i:=lo) (j:=lo+n2) (by lia)).wide (au lo) (show lo+n2≤lo+dh by lia))
    generalize mirror aG lo (lo+n2) _=bh at iJ cE ⊢;have m_:=Rl.ok cE ok;have z4:=Rl.size cE;refine aq (AZ h m_ (by lia) (by lia) (by lia) iJ ?_ fun m m1 mn tZ _=>ao (k m bh (by lia) mn cE tZ))
    intro x n R a1 a2 r;dsimp only;refine aq (m8 h m_ (by lia) (by lia) ?_)
    dsimp only;by_cases z:vA key bh (lo+n)<vA key bh (lo+n-1)
    ·rw [ae z] at r
     rw [bu z,ae rfl];exact ao r
    ·rw [aa z] at r
     rw [bY z,aa (by simp)]
     exact ao r
end
section
variable {prog:Program} {w:World} {A:Around} {E:aF} {s:Shared} {κ:SortKind} {key:Keyed→Int} {Ok:Keyed→Prop} {arr:Array Keyed} {pend:Array (Nat×Nat×Nat)} {g:Nat}
theorem WJ{Q:Unit→SortSt→Prop}(q:Q () (bC κ (bubble arr i (i-j)) pend g)):wpS (model prog w) A E s (moveDown' i j) Q (bC κ arr pend g):=by rw [moveDown'_eq];exact mE q
variable {d:Nat}
theorem NB{k:Nat}(hi:i<arr.size)(hd:d≤i):vA key (bubble arr i d) k=if k=i-d then vA key arr i else if i-d<k∧k≤i then vA key arr (k-1) else vA key arr k:=by
 unfold vA;rw [m6,getElem?_bubble hi d hd,m6 arr i,m6 arr (k-1),m6 arr k];by_cases a:k=i-d;·rw [ae a,ae a]
 ·rw [aa a,aa a]
  by_cases b:i-d<k∧k≤i;·rw [ae b,ae b]
  ·rw [aa b,aa b]
variable {lo:Nat}
theorem WK{hi:Nat}(h:i<arr.size)(hd:d≤i)(h1:lo≤i-d)(h2:i<hi):Rl arr (bubble arr i d) lo hi:=⟨bubble_perm ..,fun k hk=>by rw [getElem?_bubble h d hd,aa (by lia),aa (by lia)]⟩
theorem WL(h:kq prog w A s κ key Ok)(ok:gv Ok arr){n m:Nat}(hz:lo+n≤arr.size)(m1:1≤m)(mn:m≤n)(sg:dG key arr lo (lo+m)){Q:Bool→SortSt→Prop}
  (k:∀a7,Rl arr a7 lo (lo+n)→dG key a7 lo (lo+n)→Q true (bC κ a7 pend g)):wpS (model prog w) A E s (binarySort' lo n m) Q (bC κ arr pend g):=by
 rw [binarySort'_eq];have em:max m 1=m:=by lia
 rw [em]
 refine aq (iz (g9 (I:=fun x c av=>∃aG:Array Keyed,av=bC κ aG pend g∧c=(none,())∧Rl arr aG lo (lo+n)∧dG key aG lo (lo+x)∧m≤x∧x≤n)
  (Q:=fun c av=>∃aG:Array Keyed,av=bC κ aG pend g∧c=(none,())∧Rl arr aG lo (lo+n)∧dG key aG lo (lo+n)) ?_ ?_ ⟨arr,rfl,rfl,Rl.refl ..,sg,au _,mn⟩) ?_)
 ·rintro x c av _ hx ⟨aG,rfl,rfl,rl,sg,x1,x2⟩
  have lR:=rl.ok ok;have z2:=rl.size;dsimp only
  refine aq (iz (g9 (I:=fun y c av=>∃l r:Nat,av=bC κ aG pend g∧c=(none,l,r)∧l≤r∧r≤x∧r-l+y≤x∧(∀i,i<l→vA key aG (lo+i)≤vA key aG (lo+x))∧(∀i,r≤i→i<x→vA key aG (lo+x)≤vA key aG (lo+i)))
   (Q:=fun c av=>∃l:Nat,av=bC κ aG pend g∧c=(none,l,l)∧l≤x∧(∀i,i<l→vA key aG (lo+i)≤vA key aG (lo+x))∧(∀i,l≤i→i<x→vA key aG (lo+x)≤vA key aG (lo+i))) ?_ ?_ ⟨0,x,rfl,rfl,by lia,au _,show x-0+0≤x by lia,fun i hi=>absurd hi (mq _),fun i h1 h2=>by lia⟩) ?_)
  ·rintro y c av _ hy ⟨l,r,rfl,rfl,g1,g2,g3,g4,g5⟩
   dsimp only;by_cases z:l≥r
   ·rw [ae z]
    obtain rfl:l=r:=by lia
    exact ao ⟨l,rfl,rfl,g2,g4,g5⟩
   ·rw [aa z]
    refine aq (m8 h lR (by lia) (by lia) ?_)
    dsimp only;by_cases w:vA key aG (lo+x)<vA key aG (lo+(l+r) / 2)
    ·rw [bu w,ae rfl]
     exact ao ⟨l,_,rfl,rfl,by lia,by lia,by lia,g4,fun i h1 h2=>dU (dS w) (sg _ _ (by lia) (by lia) (by lia))⟩
    ·rw [bY w,aa (by simp)]
     exact ao ⟨_,r,rfl,rfl,by lia,g2,by lia,fun i h1=>dU (sg _ _ (by lia) (by lia) (by lia)) (Int.not_lt.mp w),g5⟩
  ·rintro c av ⟨l,r,rfl,rfl,g1,g2,g3,g4,g5⟩
   have:max 0 x=x:=by lia
   obtain rfl:l=r:=by lia
   exact ⟨l,rfl,rfl,g2,g4,g5⟩
  ·rintro c av ⟨l,rfl,rfl,g2,g4,g5⟩
   dsimp only;refine aq (WJ (ao ?_));have ed:lo+x-(lo+l)=x-l:=by lia
   rw [ed];refine ⟨_,rfl,rfl,rl.trans (WK (by lia) (by lia) (by lia) (by lia)),fun i j h1 h2 h3=>?_,by lia,by lia⟩
   have e0:lo+x-(x-l)=lo+l:=by lia
   rw [NB (by lia) (by lia),NB (by lia) (by lia),e0]
   have f4:∀i,lo≤i→i<lo+l→vA key aG i≤vA key aG (lo+x):=fun i a b=>by have:=g4 (i-lo) (by lia);rwa [show lo+(i-lo)=i by lia] at this
   have f5:∀i,lo+l≤i→i<lo+x→vA key aG (lo+x)≤vA key aG i:=fun i a b=>by have:=g5 (i-lo) (by lia) (by lia);rwa [show lo+(i-lo)=i by lia] at this
   by_cases a1:i=lo+l
   ·rw [ae a1]
    by_cases b1:j=lo+l;·rw [ae b1];exact kO _
    ·rw [aa b1,ae (by lia)]
     exact f5 _ (by lia) (by lia)
   ·rw [aa a1]
    by_cases a2:lo+l<i∧i≤lo+x
    ·rw [ae a2,aa (by lia),ae (by lia)]
     exact sg _ _ (by lia) (by lia) (by lia)
    ·rw [aa a2]
     by_cases b1:j=lo+l
     ·rw [ae b1]
      exact f4 i h1 (by lia)
     ·rw [aa b1]
      by_cases b2:lo+l<j∧j≤lo+x
      ·rw [ae b2]
       exact dU (f4 i h1 (by lia)) (f5 _ (by lia) (by lia))
      ·rw [aa b2]
       exact sg _ _ (by lia) (by lia) (by lia)
 ·rintro c av ⟨aG,rfl,rfl,rl,sg,x1,x2⟩
  have:max m n=n:=by lia
  rw [this] at sg;exact ⟨aG,rfl,rfl,rl,sg⟩
 ·rintro c av ⟨aG,rfl,rfl,rl,sg⟩
  exact ao (k aG rl sg)
end
theorem WM(i:Nat):mergeAt' i=(do
 let s ←get
 let (some (sa,na,power),some (sb,nb,_)):=((pendingOf s)[i]?,(pendingOf s)[i+1]?) | unsupported "internal:list.sort.pending"
 set (setPending s (((pendingOf s).setIfInBounds i (sa,na+nb,power)).eraseIdxIfInBounds (i+1)))
 let some k ←rh false (←elem' (arrOf s) sb) (arrOf s) sa na 0 | return false
 let (sa,na):=(sa+k,na-k)
 if na == 0 then return true
 let some nb ←rh true (←elem' (arrOf s) (sa+na-1)) (arrOf s) sb nb (nb-1) | return false
 if nb == 0 then return true
 let x:=(arrOf s).extract sa sb
 let y:=(arrOf s).extract sb (sb+nb)
 let merged ←if na≤nb then HF x y else HG x y
 modify fun s=>setArr s (merged.toList.zipIdx.foldl (fun a (p,j)=>a.setIfInBounds (sa+j) p) (arrOf s))
 return (failedOf (←get)).isNone):=rfl
def putL(m:List Keyed)(o:Nat)(arr:Array Keyed)(n:Nat):Array Keyed:=(m.zipIdx n).foldl (fun a (p,j)=>a.setIfInBounds (o+j) p) arr
theorem NC(m:List Keyed)(o:Nat):∀(arr:Array Keyed) (n k:Nat),o+n+m.length≤arr.size→(putL m o arr n)[k]?=if o+n≤k∧k<o+n+m.length then m[k-(o+n)]? else arr[k]?:=by
 induction m with
 | nil=>
  intro arr n k _;rw [aa (by simp)]
  rfl
 | cons x m ih=>
  intro arr n k hz;rw [dm] at hz ⊢;show (putL m o (arr.setIfInBounds (o+n) x) (n+1))[k]?=_;rw [ih _ _ _ (by simp;lia)]
  by_cases a:o+(n+1)≤k∧k<o+(n+1)+m.length
  ·rw [ae a,ae (by lia),show k-(o+n)=(k-(o+(n+1)))+1 by lia]
   rfl
  ·rw [aa a]
   by_cases b:k=o+n
   ·subst b
    rw [ae (by lia),mw]
    simp [show o+n<arr.size by lia]
   ·rw [aa (by lia)]
    rw [Array.getElem?_setIfInBounds_ne (by lia)]
theorem WN{o:Nat}{arr:Array Keyed}(hz:o+m.length≤arr.size):(putL m o arr 0).toList=arr.toList.take o++m++arr.toList.drop (o+m.length):=by
 refine zS fun k=>?_;have e:(putL m o arr 0).toList[k]?=(putL m o arr 0)[k]?:=by simp
 rw [e,NC m o arr 0 k (by lia),vY]
 by_cases a:k<o
 ·rw [aa (by lia),gD,gZ (by simp;lia),List.getElem?_take_of_lt a]
  simp
 ·by_cases b:k<o+m.length
  ·rw [ae (by lia),gD,iw (by simp;lia),gZ (by simp;lia)]
   congr 1
   simp;lia
  ·rw [aa (by lia),iw (by simp;lia),List.getElem?_drop]
   have:o+m.length+(k-(arr.toList.take o++m).length)=k:=by simp;lia
   rw [this];simp
section
variable {prog:Program} {w:World} {A:Around} {E:aF} {s:Shared} {κ:SortKind} {key:Keyed→Int} {Ok:Keyed→Prop} {arr:Array Keyed} {pend:Array (Nat×Nat×Nat)} {g:Nat}
variable {lo hi:Nat}
theorem ND(h:dG key arr lo hi)(hz:hi≤arr.size):bL key (arr.extract lo hi).toList:=by
 unfold bL;rw [pF];intro i j bR hj xj;have h1:i<hi-lo∧j<hi-lo:=by simp at bR hj;lia
 have:=h (lo+i) (lo+j) (by lia) (by lia) (by lia)
 unfold vA at this;simpa [Array.getD,show lo+i<arr.size by lia,show lo+j<arr.size by lia] using this
theorem HN(hz:hi≤arr.size)(bR:lo+i<hi):(arr.extract lo hi).getD i nn=arr.getD (lo+i) nn:=by simp [Array.getD,show lo+i<arr.size by lia,show i<min hi arr.size-lo by lia]
theorem NF(ok:gv Ok arr)(hz:hi≤arr.size):gv Ok (arr.extract lo hi):=fun i bR=>by
 have:lo+i<hi:=by simp at bR;lia
 rw [HN hz this];exact ok _ (by lia)
theorem ext_mem(hz:hi≤arr.size){x:Keyed}(hx:x∈(arr.extract lo hi).toList):∃j,lo≤j∧j<hi∧x=arr.getD j nn:=p6 hz hx
theorem WO{σ:Type}{st av:σ}{Q:PUnit→σ→Prop}{M:Model}(q:Q ⟨⟩ av):wpS M A E s (set av:StateT σ Sem PUnit) Q st:=by unfold wpS;rw [StateT.run_set];exact bJ ⟨rfl,q⟩
variable {sa na nb:Nat}
theorem WQ{sb bS cT:Nat}{m:Array Keyed}(hz:sb+nb≤arr.size)(h0:sa+na=sb)(hk:bS≤na)(hb:cT≤nb)(pm:m.toList.Perm ((arr.extract (sa+bS) sb).toList++(arr.extract sb (sb+cT)).toList))(sm:bL key m.toList)
  (s1:dG key arr sa sb) (s2:dG key arr sb (sb+nb)) (A0:bS<na) (NG:1≤nb)
  (c1:∀i,i<bS→vA key arr (sa+i)≤vA key arr sb) (c2:∀i,cT≤i→i<nb→vA key arr (sb-1)≤vA key arr (sb+i)) :
  Rl arr (putL m.toList (sa+bS) arr 0) sa (sb+nb)∧dG key (putL m.toList (sa+bS) arr 0) sa (sb+nb):=by
 have lm:m.toList.length=(na-bS)+cT:=by rw [pm.length_eq,cW,lJ,lJ];simp;lia
 have hsz:sa+bS+m.toList.length≤arr.size:=by lia
 have at':=NC m.toList (sa+bS) arr 0;have rl:Rl arr (putL m.toList (sa+bS) arr 0) sa (sb+nb):=by
  refine ⟨vZ.mpr ?_,fun k dF=>?_⟩
  ·rw [WN hsz]
   have e:arr.toList=arr.toList.take (sa+bS)++((arr.extract (sa+bS) sb).toList++(arr.extract sb (sb+cT)).toList)++arr.toList.drop (sa+bS+m.toList.length):=by
    rw [lJ,lJ,show sa+bS+m.toList.length=sb+cT by lia,show sb+cT-sb=cT by lia]
    have t1:arr.toList.drop (sa+bS)=(arr.toList.drop (sa+bS)).take (sb-(sa+bS))++arr.toList.drop sb:=by
     have:=(mB (sb-(sa+bS)) (arr.toList.drop (sa+bS))).symm;rw [List.drop_drop,show sa+bS+(sb-(sa+bS))=sb by lia] at this
     exact this
    have t2:arr.toList.drop sb=(arr.toList.drop sb).take cT++arr.toList.drop (sb+cT):=by have:=(mB cT (arr.toList.drop sb)).symm;rw [List.drop_drop] at this;exact this
    have t0:=(mB (sa+bS) arr.toList).symm;rw [t1,t2] at t0;rw [gD,gD];exact t0
   refine List.Perm.trans ?_ (List.Perm.of_eq e.symm);exact List.Perm.append_right _ (Gn _ pm)
  ·rw [at' k (by lia),aa (by lia)]
 have vo:∀k,k<sa+bS∨sb+cT≤k→vA key (putL m.toList (sa+bS) arr 0) k=vA key arr k:=fun k dF=>by unfold vA;rw [m6,at' k (by lia),aa (by lia),m6]
 have vm:∀k,sa+bS≤k→k<sb+cT→∃hj:k-(sa+bS)<m.toList.length,vA key (putL m.toList (sa+bS) arr 0) k=key (m.toList[k-(sa+bS)]'hj):=fun k h1 h2=>by
  have hj:k-(sa+bS)<m.toList.length:=by lia
  refine ⟨hj,?_⟩;unfold vA;rw [m6,at' k (by lia),ae (by lia),vY,aZ hj]
  rfl
 have vq:∀k,sa+bS≤k→k<sb+cT→∃q,sa+bS≤q∧q<sb+cT∧vA key (putL m.toList (sa+bS) arr 0) k=vA key arr q:=fun k h1 h2=>by
  obtain ⟨hj,e⟩:=vm k h1 h2;have mm:=pm.mem_iff.mp (aV hj);rcases cM.mp mm with mm | mm
  ·obtain ⟨q,q1,q2,eq⟩:=ext_mem (by lia) mm
   exact ⟨q,q1,by lia,by rw [e,eq];rfl⟩
  ·obtain ⟨q,q1,q2,eq⟩:=ext_mem (by lia) mm
   exact ⟨q,by lia,q2,by rw [e,eq];rfl⟩
 have d1:∀i,sa≤i→i<sa+bS→vA key arr i≤vA key arr sb:=fun i a b=>by
  have:=c1 (i-sa) (by lia)
  rwa [show sa+(i-sa)=i by lia] at this
 have d2:∀j,sb+cT≤j→j<sb+nb→vA key arr (sb-1)≤vA key arr j:=fun j a b=>by
  have:=c2 (j-sb) (by lia) (by lia)
  rwa [show sb+(j-sb)=j by lia] at this
 refine ⟨rl,fun i j h1 h2 h3=>?_⟩;by_cases i1:i<sa+bS
 ·rw [vo i (.inl i1)]
  by_cases j1:j<sa+bS
  ·rw [vo j (.inl j1)]
   exact s1 i j h1 h2 (by lia)
  ·by_cases j2:j<sb+cT
   ·obtain ⟨q,q1,q2,e⟩:=vq j (by lia) j2
    rw [e];by_cases q3:q<sb;·exact s1 i q h1 (by lia) q3
    ·exact dU (d1 i h1 i1) (s2 sb q (au _) (by lia) (by lia))
   ·rw [vo j (.inr (by lia))]
    exact dU (d1 i h1 i1) (s2 sb j (au _) (by lia) h3)
 ·by_cases i2:i<sb+cT
  ·by_cases j2:j<sb+cT
   ·obtain ⟨x1,e1⟩:=vm i (by lia) i2
    obtain ⟨x2,e2⟩:=vm j (by lia) j2
    rw [e1,e2];by_cases z:i=j;·subst z;exact kO _
    ·exact pF.mp sm _ _ x1 x2 (by lia)
   ·obtain ⟨q,q1,q2,e⟩:=vq i (by lia) i2
    rw [e,vo j (.inr (by lia))]
    by_cases q3:q<sb;·exact dU (s1 q (sb-1) (by lia) (by lia) (by lia)) (d2 j (by lia) h3)
    ·exact s2 q j (by lia) (by lia) h3
  ·rw [vo i (.inr (by lia)),vo j (.inr (by lia))]
   exact s2 i j (by lia) h2 h3
theorem WR(h:kq prog w A s κ key Ok)(ok:gv Ok arr){pw p8:Nat}(e1:pend[i]?=some (sa,na,pw))(e2:pend[i+1]?=some (sa+na,nb,p8))(A0:1≤na)(NG:1≤nb)(hz:sa+na+nb≤arr.size)
  (s1:dG key arr sa (sa+na)) (s2:dG key arr (sa+na) (sa+na+nb)) {Q:Bool→SortSt→Prop}
  (k:∀a7 g',Rl arr a7 sa (sa+na+nb)→dG key a7 sa (sa+na+nb)→Q true (bC κ a7 ((pend.setIfInBounds i (sa,na+nb,pw)).eraseIdxIfInBounds (i+1)) g')):wpS (model prog w) A E s (mergeAt' i) Q (bC κ arr pend g):=by
 rw [WM];refine aq (j6 ?_);have pU:(pendingOf (bC κ arr pend g))[i]?=some (sa,na,pw):=e1;have WS:(pendingOf (bC κ arr pend g))[i+1]?=some (sa+na,nb,p8):=e2;rw [pU,WS];dsimp only;refine aq (WO ?_);refine aq (b7 (by show sa+na<arr.size;lia) ?_)
 refine aq (jO (f:=fun j=>bB false (vA key arr (sa+na)) (vA key arr (sa+j))) (fun j hj Q q=>jN (κ:=κ) h (by show sa+j<arr.size;lia) ok (ok _ (by lia)) rfl q) (by lia) ?_ fun t t1 t2 t3=>?_)
 ·intro i j h1 h2 h3
  have:vA key arr (sa+i)≤vA key arr (sa+na):=dU (s1 _ _ (by lia) (by lia) (by lia)) (oM h3)
  show (!decide (vA key arr (sa+na)<vA key arr (sa+i)))=true;simpa using this
 dsimp only;by_cases z1:(na-t == 0)=true
 ·rw [ae z1]
  have tz:t=na:=by have:=eq_of_beq z1;lia
  subst tz;refine ao (k arr g (Rl.refl ..) fun i j h1 h2 h3=>?_);by_cases i1:i<sa+t
  ·by_cases j1:j<sa+t
   ·exact s1 i j h1 h2 j1
   ·have:=oM (t2 (i-sa) (by lia))
    rw [show sa+(i-sa)=i by lia] at this
    exact dU this (s2 _ _ (au _) (by lia) (by lia))
  ·exact s2 i j (by lia) h2 (by lia)
 rw [aa z1];have tn:t<na:=by
  have:na-t≠0:=fun e=>z1 (by simp [e])
  lia
 refine aq (b7 (by show sa+t+(na-t)-1<arr.size;lia) ?_)
 have el:sa+t+(na-t)-1=sa+na-1:=by lia
 rw [el];refine aq (jO (f:=fun j=>bB true (vA key arr (sa+na-1)) (vA key arr (sa+na+j))) (fun j hj Q q=>jN (κ:=κ) h (by show sa+na+j<arr.size;lia) ok (ok _ (by lia)) rfl q) (by lia) ?_ fun u u1 u2 u3=>?_)
 ·intro i j h1 h2 h3
  exact bu (Int.lt_of_le_of_lt (s2 _ _ (by lia) (by lia) (by lia)) (jq h3))
 dsimp only;have WT:=rj (t3 (na-1) (by lia) (by lia))
 rw [show sa+(na-1)=sa+na-1 by lia] at WT
 by_cases z2:(u == 0)=true
 ·exfalso
  have:=jP (u3 0 (by have:=eq_of_beq z2;lia) (by lia))
  rw [vY] at this;lia
 rw [aa z2];have un:1≤u:=by
  have:u≠0:=fun e=>z2 (by simp [e])
  lia
 have ox:=NF ok (lo:=sa+t) (hi:=sa+na) (by lia)
 have oy:=NF ok (lo:=sa+na) (hi:=sa+na+u) (by lia)
 have sx:bL key (arr.extract (sa+t) (sa+na)).toList:=ND (fun i j h1 h2 h3=>s1 i j (by lia) h2 h3) (by lia)
 have sy:bL key (arr.extract (sa+na) (sa+na+u)).toList:=ND (fun i j h1 h2 h3=>s2 i j h1 h2 (by lia)) (by lia)
 have zx:(arr.extract (sa+t) (sa+na)).size=na-t:=by simp;lia
 have zy:(arr.extract (sa+na) (sa+na+u)).size=u:=by simp;lia
 have h0:∀x∈(arr.extract (sa+t) (sa+na)).toList,key ((arr.extract (sa+na) (sa+na+u)).getD 0 nn)≤key x:=fun x hx=>by
  obtain ⟨j,j1,j2,rfl⟩:=ext_mem (by lia) hx
  rw [HN (by lia) (by lia),vY]
  have:=rj (t3 (j-sa) (by lia) (by lia))
  rw [show sa+(j-sa)=j by lia] at this
  exact dS this
 have hl:∀y∈(arr.extract (sa+na) (sa+na+u)).toList,key y≤key ((arr.extract (sa+t) (sa+na)).getD ((arr.extract (sa+t) (sa+na)).size-1) nn):=fun y hy=>by
  obtain ⟨j,j1,j2,rfl⟩:=ext_mem (by lia) hy
  rw [zx,HN (by lia) (by lia),show sa+t+(na-t-1)=sa+na-1 by lia]
  have:=jq (u2 (j-(sa+na)) (by lia))
  rw [show sa+na+(j-(sa+na))=j by lia] at this
  exact dS this
 have fin:∀(m:Array Keyed) (g':Nat),m.toList.Perm ((arr.extract (sa+t) (sa+na)).toList++(arr.extract (sa+na) (sa+na+u)).toList)→bL key m.toList→Q true (bC κ (putL m.toList (sa+t) arr 0) ((pend.setIfInBounds i (sa,na+nb,pw)).eraseIdxIfInBounds (i+1)) g'):=fun m g' pm sm=>by obtain ⟨rl,sg⟩:=WQ (sb:=sa+na) hz rfl (jY tn) u1 pm sm s1 s2 tn NG (fun i hi=>oM (t2 i hi)) (fun i h1 h2=>jP (u3 i h1 h2));exact k _ g' rl sg
 refine gg (fun _=>?_) (fun _=>?_)
 ·refine aq (WB (κ:=κ) h ox oy sx sy (by lia) (by lia) h0 hl rfl fun m g' pm sm=>?_)
  exact aq (mE (aq (j6 (ao (fin m g' pm sm)))))
 ·refine aq (WG (κ:=κ) h ox oy sx sy (by lia) (by lia) h0 hl rfl fun m g' pm sm=>?_)
  exact aq (mE (aq (j6 (ao (fin m g' pm sm)))))
end
def dA(key:Keyed→Int)(arr:Array Keyed):List (Nat×Nat×Nat)→Nat→Nat→Prop
 | [],lo,hi=>lo=hi
 | p::r,lo,hi=>p.1=lo∧1≤p.2.1∧dG key arr lo (lo+p.2.1)∧dA key arr r (lo+p.2.1) hi
section
variable {key:Keyed→Int} {arr a7:Array Keyed}
theorem dA.le:∀{l:List (Nat×Nat×Nat)} {lo hi:Nat},dA key arr l lo hi→lo+l.length≤hi
 | [],lo,hi,h=>by have:lo=hi:=h;simp;lia
 | p::r,lo,hi,h=>by have:=dA.le h.2.2.2;have:=h.2.1;simp only [dm];lia
variable {hi:Nat}
theorem dG.cS{lo a b:Nat}(h:dG key arr lo hi)(rl:Rl arr a7 a b)(d:hi≤a∨b≤lo):dG key a7 lo hi:=fun i j h1 h2 h3=>by
 rw [rl.v (by lia),rl.v (by lia)]
 exact h i j h1 h2 h3
theorem dA.cS:∀{l:List (Nat×Nat×Nat)} {lo hi a b:Nat},dA key arr l lo hi→Rl arr a7 a b→hi≤a∨b≤lo→dA key a7 l lo hi
 | [],lo,hi,a,b,h,_,_=>h
 | p::r,lo,hi,a,b,h,rl,d=>by have:=h.2.2.2.le;refine ⟨h.1,h.2.1,h.2.2.1.cS rl (by lia),h.2.2.2.cS rl (by lia)⟩
theorem dA.snoc:∀{l:List (Nat×Nat×Nat)} {lo hi n pw:Nat},dA key arr l lo hi→1≤n→dG key arr hi (hi+n)→dA key arr (l++[(hi,n,pw)]) lo (hi+n)
 | [],lo,hi,n,pw,h,n1,s=>by obtain rfl:lo=hi:=h;exact ⟨rfl,n1,s,rfl⟩
 | p::r,lo,hi,n,pw,h,n1,s=>⟨h.1,h.2.1,h.2.2.1,h.2.2.2.snoc n1 s⟩
theorem dA.two:∀{l:List (Nat×Nat×Nat)} {lo hi i:Nat},dA key arr l lo hi→i+1<l.length→∃sa na pw nb p8,l[i]?=some (sa,na,pw)∧l[i+1]?=some (sa+na,nb,p8)∧1≤na∧1≤nb∧lo≤sa∧sa+na+nb≤hi∧dG key arr sa (sa+na)∧dG key arr (sa+na) (sa+na+nb) ∧
  ∀a7,Rl arr a7 sa (sa+na+nb)→dG key a7 sa (sa+na+nb)→dA key a7 ((l.set i (sa,na+nb,pw)).eraseIdx (i+1)) lo hi
 | [],lo,hi,i,h,bR=>by simp at bR
 | [p],lo,hi,i,h,bR=>by simp at bR
 | p::q::r,lo,hi,0,h,_=>by
  obtain ⟨p1,p2,pw⟩:=p;obtain ⟨q1,q2,p8⟩:=q;obtain ⟨e1,n1,s1,e2,n2,s2,c⟩:=h;dsimp only at e1 n1 s1 e2 n2 s2 c;subst e1;subst e2;have:=c.le;refine ⟨p1,p2,pw,q2,p8,rfl,rfl,n1,n2,au _,by lia,s1,s2,fun a7 rl sg=>?_⟩
  show dA key a7 ((p1,p2+q2,pw)::r) p1 hi;refine ⟨rfl,by show 1≤p2+q2;lia,by show dG key a7 p1 (p1+(p2+q2));rw [←Nat.add_assoc];exact sg,?_⟩
  show dA key a7 r (p1+(p2+q2)) hi;rw [←Nat.add_assoc];exact c.cS rl (.inr (au _))
 | p::q::r,lo,hi,i+1,h,bR=>by
  obtain ⟨sa,na,pw,nb,p8,e1,e2,n1,n2,l1,l2,s1,s2,k⟩:=h.2.2.2.two (i:=i) (by simpa using bR)
  refine ⟨sa,na,pw,nb,p8,e1,e2,n1,n2,by lia,l2,s1,s2,fun a7 rl sg=>?_⟩
  exact ⟨h.1,h.2.1,h.2.2.1.cS rl (.inl l1),k a7 rl sg⟩
theorem dA.last:∀{l:List (Nat×Nat×Nat)} {lo hi pw:Nat},dA key arr l lo hi→dA key arr (l.modify (l.length-1) fun x=>(x.1,x.2.1,pw)) lo hi
 | [],lo,hi,pw,h=>h
 | [p],lo,hi,pw,h=>h
 | p::q::r,lo,hi,pw,h=>⟨h.1,h.2.1,h.2.2.1,h.2.2.2.last⟩
theorem dA.one{l:List (Nat×Nat×Nat)}(h:dA key arr l 0 hi)(hl:l.length≤1):dG key arr 0 hi:=by
 match l,h,hl with
 | [],h,_=>have:0=hi:=h;exact fun i j h1 h2 h3=>by lia
 | [p],h,_=>have:=h.2.2.1;have e:0+p.2.1=hi:=h.2.2.2;rw [←e];exact this
 | p::q::r,_,hl=>simp at hl
end
section
variable {prog:Program} {w:World} {A:Around} {E:aF} {s:Shared} {κ:SortKind} {key:Keyed→Int} {Ok:Keyed→Prop} {arr:Array Keyed} {pend:Array (Nat×Nat×Nat)} {g:Nat}
theorem HP(h:kq prog w A s κ key Ok)(ok:gv Ok arr){hi:Nat}(c:dA key arr pend.toList 0 hi)(hz:hi≤arr.size)(bR:i+1<pend.size){Q:Bool→SortSt→Prop}
  (k:∀a7 xw g',Rl arr a7 0 hi→dA key a7 xw.toList 0 hi→xw.size+1=pend.size→Q true (bC κ a7 xw g')):wpS (model prog w) A E s (mergeAt' i) Q (bC κ arr pend g):=by
 obtain ⟨sa,na,pw,nb,p8,e1,e2,n1,n2,l1,l2,s1,s2,kk⟩:=c.two (i:=i) (by simpa using bR)
 refine WR h ok (by simpa using e1) (by simpa using e2) n1 n2 (by lia) s1 s2 fun a7 g' rl sg=>?_
 refine k _ _ _ (rl.wide (bG _) l2) ?_ ?_
 ·have:=kk a7 rl sg
  simpa using this
 ·rw [←fS,Array.toList_eraseIdxIfInBounds,List.length_eraseIdx,ae (by simpa using bR)]
  simp;lia
theorem NH(h:kq prog w A s κ key Ok)(ok:gv Ok arr){Q:Unit→SortSt→Prop}
  (k:∀a7 av,a7.Perm arr→dG key a7 0 arr.size→arrOf av=a7→failedOf av=none→Q () av):wpS (model prog w) A E s sortRuns' Q (bC κ arr #[] g):=by
 rw [sortRuns'_eq];refine aq (j6 ?_);dsimp only;have es:(arrOf (bC κ arr #[] g)).size=arr.size:=rfl;rw [es]
 refine aq (iz (g9 (I:=fun x c av=>∃(aG:Array Keyed) (fH:Array (Nat×Nat×Nat)) (g2 lo:Nat),av=bC κ aG fH g2∧c=(none,lo)∧aG.Perm arr∧dA key aG fH.toList 0 lo∧lo≤arr.size∧x≤lo)
  (Q:=fun c av=>∃(aG:Array Keyed) (fH:Array (Nat×Nat×Nat)) (g2:Nat),av=bC κ aG fH g2∧c=(none,arr.size)∧aG.Perm arr∧dA key aG fH.toList 0 arr.size) ?_ ?_ ⟨arr,#[],g,0,rfl,rfl,Array.Perm.refl _,rfl,bG _,au _⟩) ?_)
 ·rintro x c av _ hx ⟨aG,fH,g2,lo,rfl,rfl,rp,t8,l1,l2⟩
  have lR:=xr ok rp;have z2:=rp.size_eq;dsimp only;by_cases z:lo≥arr.size
  ·rw [ae z]
   obtain rfl:lo=arr.size:=by lia
   exact ao ⟨aG,fH,g2,rfl,rfl,rp,t8⟩
  rw [aa z];refine aq (WH h lR (by lia) (by lia) fun n dv n1 nn m9 sg=>?_)
  have fI:=m9.pm.trans rp;have NI:=xr ok fI;have z3:=fI.size_eq;have jQ:=t8.cS m9 (.inl (au _));dsimp only;by_cases y:n<minRun' arr.size arr.size 0
  ·rw [ae y]
   refine aq (wpS_lift (nV ⟨rfl,?_⟩));refine aq (WL h NI (n:=min (arr.size-lo) (minRun' arr.size arr.size 0)) (by lia) n1 (by lia) sg fun bh cE iJ=>?_)
   rw [aa (by simp)]
   have iK:=jQ.cS cE (.inl (au _));have HQ:=cE.pm.trans fI;clear jQ fI NI z3 sg m9 cE;have f1:1≤min (arr.size-lo) (minRun' arr.size arr.size 0):=by lia
   have f2:lo+min (arr.size-lo) (minRun' arr.size arr.size 0)≤arr.size:=by lia
   generalize min (arr.size-lo) (minRun' arr.size arr.size 0)=fo at iJ f1 f2 ⊢
   revert iK HQ iJ
   generalize bh=dv;intro jQ fI iJ;refine aq (j6 ?_);have eb:(pendingOf (bC κ dv fH g2)).back?=fH.back?:=rfl;rw [eb];cases fH.back? with
   | none=>dsimp only;exact aq (mE (ao ⟨dv,fH.push (lo,fo,0),g2,lo+fo,rfl,rfl,fI,by rw [qF];exact jQ.snoc f1 iJ,f2,by have:=f1;lia⟩))
   | some p=>
    obtain ⟨WU,WV,WW⟩:=p;dsimp only;have z3:=fI.size_eq
    refine aq (iz (g9 (I:=fun y c av=>∃(bh:Array Keyed) (cw:Array (Nat×Nat×Nat)) (g4:Nat),av=bC κ bh cw g4∧c=(none,())∧Rl dv bh 0 lo∧dA key bh cw.toList 0 lo)
     (Q:=fun c av=>∃(bh:Array Keyed) (cw:Array (Nat×Nat×Nat)) (g4:Nat),av=bC κ bh cw g4∧c=(none,())∧Rl dv bh 0 lo∧dA key bh cw.toList 0 lo) ?_ (fun c av hh=>hh) ⟨dv,fH,g2,rfl,rfl,Rl.refl ..,jQ⟩) ?_)
    ·rintro y c av _ hy ⟨bh,cw,g4,rfl,rfl,cE,iK⟩
     have z4:=cE.size;refine aq (j6 ?_);have hx:∀o,o=(if (pendingOf (bC κ bh cw g4)).size>1 then (pendingOf (bC κ bh cw g4))[(pendingOf (bC κ bh cw g4)).size-2]? else none)→o.isSome=true→cw.size>1:=fun o ho hs=>by
      by_cases z:cw.size>1;·exact z
      ·rw [aa z] at ho
       rw [ho] at hs;cases hs
     generalize eo:(if (pendingOf (bC κ bh cw g4)).size>1 then (pendingOf (bC κ bh cw g4))[(pendingOf (bC κ bh cw g4)).size-2]? else none)=o
     cases o with
     | none=>exact ao ⟨bh,cw,g4,rfl,rfl,cE,iK⟩
     | some p=>
      have gt:=hx _ eo.symm rfl;obtain ⟨q1,q2,WX⟩:=p;dsimp only;refine gg (fun _=>ao ⟨bh,cw,g4,rfl,rfl,cE,iK⟩) (fun _=>?_);refine aq (HP h (xr ok (cE.pm.trans fI)) iK (by lia) (show cw.size-2+1<cw.size by lia) fun HR HS g5 HU HV _=>?_)
      rw [aa (by simp)]
      exact ao ⟨HR,HS,g5,rfl,rfl,cE.trans HU,HV⟩
    ·rintro c av ⟨bh,cw,g4,rfl,rfl,cE,iK⟩
     dsimp only;refine aq (mE (aq (mE (ao ⟨bh,_,g4,lo+fo,rfl,rfl,cE.pm.trans fI,?_,f2,by have:=f1;lia⟩))))
     rw [qF];refine dA.snoc ?_ f1 (dG.cS iJ cE (.inr (au _)));rw [Array.toList_modify];exact iK.last
  ·rw [aa y]
   have f2:lo+n≤arr.size:=by lia
   refine aq (j6 ?_);have eb:(pendingOf (bC κ dv fH g2)).back?=fH.back?:=rfl;rw [eb];cases fH.back? with
   | none=>dsimp only;exact aq (mE (ao ⟨dv,fH.push (lo,n,0),g2,lo+n,rfl,rfl,fI,by rw [qF];exact jQ.snoc n1 sg,f2,by have:=n1;lia⟩))
   | some p=>
    obtain ⟨WU,WV,WW⟩:=p;dsimp only;have z3:=fI.size_eq
    refine aq (iz (g9 (I:=fun y c av=>∃(bh:Array Keyed) (cw:Array (Nat×Nat×Nat)) (g4:Nat),av=bC κ bh cw g4∧c=(none,())∧Rl dv bh 0 lo∧dA key bh cw.toList 0 lo)
     (Q:=fun c av=>∃(bh:Array Keyed) (cw:Array (Nat×Nat×Nat)) (g4:Nat),av=bC κ bh cw g4∧c=(none,())∧Rl dv bh 0 lo∧dA key bh cw.toList 0 lo) ?_ (fun c av hh=>hh) ⟨dv,fH,g2,rfl,rfl,Rl.refl ..,jQ⟩) ?_)
    ·rintro y c av _ hy ⟨bh,cw,g4,rfl,rfl,cE,iK⟩
     have z4:=cE.size;refine aq (j6 ?_);have hx:∀o,o=(if (pendingOf (bC κ bh cw g4)).size>1 then (pendingOf (bC κ bh cw g4))[(pendingOf (bC κ bh cw g4)).size-2]? else none)→o.isSome=true→cw.size>1:=fun o ho hs=>by
      by_cases z:cw.size>1;·exact z
      ·rw [aa z] at ho
       rw [ho] at hs;cases hs
     generalize eo:(if (pendingOf (bC κ bh cw g4)).size>1 then (pendingOf (bC κ bh cw g4))[(pendingOf (bC κ bh cw g4)).size-2]? else none)=o
     cases o with
     | none=>exact ao ⟨bh,cw,g4,rfl,rfl,cE,iK⟩
     | some p=>
      have gt:=hx _ eo.symm rfl;obtain ⟨q1,q2,WX⟩:=p;dsimp only;refine gg (fun _=>ao ⟨bh,cw,g4,rfl,rfl,cE,iK⟩) (fun _=>?_);refine aq (HP h (xr ok (cE.pm.trans fI)) iK (by lia) (show cw.size-2+1<cw.size by lia) fun HR HS g5 HU HV _=>?_)
      rw [aa (by simp)]
      exact ao ⟨HR,HS,g5,rfl,rfl,cE.trans HU,HV⟩
    ·rintro c av ⟨bh,cw,g4,rfl,rfl,cE,iK⟩
     dsimp only;refine aq (mE (aq (mE (ao ⟨bh,_,g4,lo+n,rfl,rfl,cE.pm.trans fI,?_,f2,by have:=n1;lia⟩))))
     rw [qF];refine dA.snoc ?_ n1 (dG.cS sg cE (.inr (au _)));rw [Array.toList_modify];exact iK.last
 ·rintro c av ⟨aG,fH,g2,lo,rfl,rfl,rp,t8,l1,l2⟩
  obtain rfl:lo=arr.size:=by lia
  exact ⟨aG,fH,g2,rfl,rfl,rp,t8⟩
 ·rintro c av ⟨aG,fH,g2,rfl,rfl,rp,t8⟩
  dsimp only;have pz:=t8.le
  refine aq (iz (g9 (I:=fun x c av=>∃(dv:Array Keyed) (fJ:Array (Nat×Nat×Nat)) (g3:Nat),av=bC κ dv fJ g3∧c=(none,())∧dv.Perm arr∧dA key dv fJ.toList 0 arr.size∧fJ.size+x≤arr.size)
   (Q:=fun c av=>∃(dv:Array Keyed) (fJ:Array (Nat×Nat×Nat)) (g3:Nat),av=bC κ dv fJ g3∧c=(none,())∧dv.Perm arr∧dA key dv fJ.toList 0 arr.size∧fJ.size≤1) ?_ ?_ ⟨aG,fH,g2,rfl,rfl,rp,t8,show fH.size+0≤arr.size by simpa using pz⟩) ?_)
  ·rintro x c av _ hx ⟨dv,fJ,g3,rfl,rfl,fI,jQ,l3⟩
   have z3:=fI.size_eq;refine aq (j6 ?_);by_cases z:(pendingOf (bC κ dv fJ g3)).size≤1
   ·rw [ae z]
    exact ao ⟨dv,fJ,g3,rfl,rfl,fI,jQ,z⟩
   ·rw [aa z]
    have z':1<fJ.size:=Nat.lt_of_not_le z;have go:∀i,i+1<fJ.size→wpS (model prog w) A E s (mergeAt' i) (fun b av=>b=true∧∃(bh:Array Keyed) (cw:Array (Nat×Nat×Nat)) (g4:Nat),av=bC κ bh cw g4∧bh.Perm arr∧dA key bh cw.toList 0 arr.size∧cw.size+(x+1)≤arr.size) (bC κ dv fJ g3):=fun i hi=>by refine HP h (xr ok fI) jQ (by lia) hi fun bh cw g4 cE iK sz=>⟨rfl,bh,cw,g4,rfl,cE.pm.trans fI,iK,by lia⟩
    refine aq (iz (go _ ?_) ?_)
    ·show (if _ then _ else _)+1<fJ.size
     have e:(pendingOf (bC κ dv fJ g3)).size=fJ.size:=rfl;rw [e];have:∀c:Bool,(if c=true then fJ.size-2-1 else fJ.size-2)+1<fJ.size:=fun c=>by cases c <;> simp <;> lia
     exact this _
    ·rintro b av ⟨rfl,bh,cw,g4,rfl,HQ,iK,l4⟩
     rw [aa (by simp)]
     exact ao ⟨bh,cw,g4,rfl,rfl,HQ,iK,l4⟩
  ·rintro c av ⟨dv,fJ,g3,rfl,rfl,fI,jQ,l3⟩
   exact ⟨dv,fJ,g3,rfl,rfl,fI,jQ,by lia⟩
  ·rintro c av ⟨dv,fJ,g3,rfl,rfl,fI,jQ,l3⟩
   exact ao (k dv _ fI (jQ.one (by simpa using l3)) rfl rfl)
end
end Tm
namespace My
open PySem PySem.W PyProof.Rows Tm
section
variable {prog:Program} {w:World} {A:Around} {E:aF} {s:Shared}
def fK(h:Heap)(v:Value)(x y:Int):Prop:=∃a o t u e,v=.ref a∧h.get? a=some o∧o.cls=.type "tuple"∧o.data=.seq #[.int x t,.int y u] e
variable {x y x' y':Int}
theorem WY{v v':Value}(h1:fK s.heap v x y)(h2:fK s.heap v' x' y'){Q:Bool→Shared→Prop}(h:Q (decide (x<x'∨x=x'∧y<y')) s):wpAny (model prog w) A (keyLt' (tuples' true) v v') Q E s:=by
 obtain ⟨a,o,t,u,e,rfl,g,_,d⟩:=h1;obtain ⟨a',o',t',u',e',rfl,g',_,d'⟩:=h2;refine kat_lt g d g' d' ?_;show KatLex prog w A true (decide (2<2)) Q [(.int x t,.int x' t'),(.int y u,.int y' u')] 0 s;refine kat_cons (wpAny_eqBool_int ?_);by_cases z:x=x'
 ·subst z
  rw [show (x == x)=true by simp]
  refine kat_yes (kat_cons (wpAny_eqBool_int ?_));by_cases z2:y=y'
  ·subst z2
   rw [show (y == y)=true by simp]
   refine kat_yes (kat_nil ?_);rw [bY (by lia)] at h
   exact h
  ·rw [show (y == y')=false by simp [z2]]
   refine kat_no ?_;show wpAny (model prog w) A (oneLt' false (.int y u) (.int y' u')) Q _ s;refine kat_one _ _ (lt_int ?_);show Q (decide (y<y')) s;rw [show decide (y<y')=decide (x<x∨x=x∧y<y') from sv.mpr (by lia)]
   exact h
 ·rw [show (x == x')=false by simp [z]]
  refine kat_no ?_;show wpAny (model prog w) A (oneLt' true (.int x t) (.int x' t')) Q _ s;refine oneLt_int ?_;rw [show decide (x<x')=decide (x<x'∨x=x'∧y<y') from sv.mpr (by lia)]
  exact h
theorem NJ{h:Heap}:∀{vs:List Value},(∀v∈vs,∃x y,fK h v x y)→∃fs:List Value,KatTups h vs fs∧fs.length=vs.length∧∀f∈fs,∃n t,f=.int n t
 | [],_=>⟨[],.nil,rfl,fun f hf=>by cases hf⟩
 | v::vs,hv=>by
  obtain ⟨fs,k,l,i⟩:=NJ (vs:=vs) fun v h=>hv v (ck _ h);obtain ⟨x,y,a,o,t,u,e,rfl,g,c,d⟩:=hv v cj;refine ⟨.int x t::fs,.cons g c d rfl k,by rw [dm,dm,l],fun f hf=>?_⟩
  rcases bb.mp hf with rfl | hf;·exact ⟨x,t,rfl⟩
  ·exact i f hf
theorem perm_back{α β:Type}{f:α→β}{l m:List β}(h:l.Perm m):∀q:List α,m=q.map f→∃p:List α,p.Perm q∧l=p.map f:=by
 induction h with
 | nil=>intro q e;exact ⟨q,List.Perm.refl _,e⟩
 | cons x _ ih=>
  intro q e
  match q,e with
  | a::q,e=>obtain ⟨rfl,e'⟩:=List.cons.inj e;obtain ⟨p,hp,rfl⟩:=ih q e';exact ⟨a::p,hp.cons a,rfl⟩
 | swap x y _=>
  intro q e
  match q,e with
  | a::b::q,e=>obtain ⟨rfl,e'⟩:=List.cons.inj e;obtain ⟨rfl,rfl⟩:=List.cons.inj e';exact ⟨b::a::q,List.Perm.swap ..,rfl⟩
 | trans _ _ WZ W0=>intro q e;obtain ⟨p,hp,e1⟩:=W0 q e;obtain ⟨p',rq,e2⟩:=WZ p e1;exact ⟨p',rq.trans hp,e2⟩
variable {h:Heap}
theorem fK.uniq{v:Value}(h1:fK h v x y)(h2:fK h v x' y'):x=x'∧y=y':=by obtain ⟨a,o,t,u,e,rfl,g,_,d⟩:=h1;obtain ⟨a',o',t',u',e',ev,g',_,d'⟩:=h2;cases ev;rw [g] at g';cases g';rw [d] at d';simp at d';exact ⟨d'.1.1.1,d'.1.2.1⟩
open Classical in
noncomputable def HW (h:Heap) (k:Keyed):Int:=if e:∃z:Int×Int,fK h k.1 z.1 z.2 then (choose e).1*1000+(choose e).2 else 0
theorem DJ{v u:Value}(p:fK h v x y):HW h (v,u)=x*1000+y:=by have e:∃z:Int×Int,fK h (v,u).1 z.1 z.2:=⟨(x,y),p⟩;unfold HW;rw [dif_pos e];obtain ⟨a,b⟩:=(Classical.choose_spec e).uniq p;rw [a,b]
variable {vs:List Value}
theorem W2{x y:Nat→Int}(h2:2≤vs.length)(hv:∀i v,vs[i]?=some v→fK s.heap v (x i) (y i)∧0≤y i∧y i<1000){Q:SortSt→Shared→Prop}
  (hQ:∀(p:Array Nat) (st:SortSt),pY vs.length p→tS (fun i=>x i*1000+y i) p vs.length→(arrOf st).map (·.2)=List.toArray (p.toList.map fun i=>vs.getD i Value.none)→failedOf st=none→Q st s) :
  wpAny (model prog w) A (sortRuns'.run (SortSt.mk' (tuples' true) (vs.toArray.zip vs.toArray) #[] 7 none)) (fun r s'=>Q r.2 s') E s:=by
 have az:(vs.toArray.zip vs.toArray).size=vs.length:=by simp
 have ag:∀i,i<vs.length→(vs.toArray.zip vs.toArray).getD i nn=(vs.getD i Value.none,vs.getD i Value.none):=fun i hi=>by simp [Array.getD,hi]
 have ga:∀i (hi:i<vs.length),fK s.heap (vs.getD i Value.none) (x i) (y i)∧0≤y i∧y i<1000:=fun i hi=>by refine hv i _ ?_;simp [hi]
 have lt:kq prog w A s (tuples' true) (HW s.heap) (fun k=>∃a b,fK s.heap k.1 a b∧0≤b∧b<1000):=by
  rintro ⟨u,u'⟩ ⟨v,v'⟩ ⟨a,b,p1,b0,b1⟩ ⟨c,d,p2,d0,d1⟩ C hC;refine WY p1 p2 ?_;rw [DJ p1,DJ p2] at hC;rw [show decide (a<c∨a=c∧b<d)=decide (a*1000+b<c*1000+d) from sv.mpr (by lia)]
  exact hC
 have ok:gv (fun k=>∃a b,fK s.heap k.1 a b∧0≤b∧b<1000) (vs.toArray.zip vs.toArray):=fun i hi=>by rw [az] at hi;rw [ag i hi];exact ⟨_,_,ga i hi⟩
 refine b9 (NH (E:=E) (Q:=fun _ st=>Q st s) (g:=7) lt ok fun a7 st pm sg ha hf=>?_) (fun r s' h'=>by obtain ⟨rfl,h'⟩:=h';exact h') fun _ _ e=>e
 have el:(vs.toArray.zip vs.toArray).toList=(List.range vs.length).map fun i=>(vs.getD i Value.none,vs.getD i Value.none):=by
  refine iy (by simp) fun i h1 h2=>?_
  have hi:i<vs.length:=by simpa using h2
  simp [hi]
 obtain ⟨p,hp,ep⟩:=perm_back (vZ.mp pm) _ el;have pl:p.length=vs.length:=by rw [hp.length_eq,cC]
 have HX:∀i∈p,i<vs.length:=fun i hi=>aS.mp (hp.mem_iff.mp hi);have hsz:a7.size=vs.length:=by rw [pm.size_eq,az]
 have gd:∀i,i<vs.length→a7.getD i nn=(vs.getD (p.toArray.getD i 0) Value.none,vs.getD (p.toArray.getD i 0) Value.none)∧p.toArray.getD i 0<vs.length:=fun i hi=>by
  have e1:a7.getD i nn=a7.toList[i]'(by simp;lia):=by simp [Array.getD,show i<a7.size by lia]
  have e2:p.toArray.getD i 0=p[i]'(by lia):=by simp [Array.getD,show i<p.length by lia]
  rw [e1,e2];refine ⟨?_,HX _ (aV _)⟩;simp [ep]
 refine hQ p.toArray st (vZ.mpr (by simpa using hp)) (fun i j h1 h3=>?_) ?_ hf
 ·have:=sg i j (bG _) h1 (by rw [az];exact h3)
  unfold vA at this;obtain ⟨e1,l1⟩:=gd i (by lia)
  obtain ⟨e2,l2⟩:=gd j h3;rw [e1,e2,DJ (ga _ l1).1,DJ (ga _ l2).1] at this;exact this
 ·rw [ha]
  apply Array.toList_inj.mp;rw [Array.toList_map,ep,cx];rfl
theorem W3{Q:SortKind→Shared→Prop}(h1:1≤vs.length)(hv:∀v∈vs,∃x y,fK s.heap v x y)(h:Q (tuples' true) s):wpAny (model prog w) A (keyKind' vs.toArray) Q E s:=by
 obtain ⟨fs,k,l,i⟩:=NJ hv;refine kat_kind (T:=Value.type "int") k (by lia) (fun v hv=>?_) rfl h
 obtain ⟨n,t,rfl⟩:=i v hv;exact .now
theorem fK.mono{h':Heap}{v:Value}(k:∀b o,h.get? b=some o→h'.get? b=some o)(p:fK h v x y):fK h' v x y:=by obtain ⟨a,o,t,u,e,rfl,g,c,d⟩:=p;exact ⟨a,o,t,u,e,rfl,k _ _ g,c,d⟩
theorem W4{a:Addr}{n:Nat}{x y:Nat→Int}{P:PySem.Fin→Shared→Prop}(ho:s.heap.get? a=some (seqObj "list" vs.toArray n))(A1:vs.length<2000)(hv:∀i v,vs[i]?=some v→fK s.heap v (x i) (y i)∧0≤y i∧y i<1000)
  (h:∀(p:Array Nat),pY vs.length p→tS (fun i=>x i*1000+y i) p vs.length→P (.done (.ret .none)) {s with heap:=sortedHeap s.heap a vs (List.toArray (p.toList.map fun i=>vs.getD i Value.none))}) :
  wpAny (model prog w) A (Builtin.«list.sort» ⟨[.ref a],[]⟩) P E s:=by
 have sl:vs.length≤sizeLine:=by rw [iR];lia
 have lt:=aU ho
 obtain ⟨e1,g1⟩:∃e,(s.heap.update a (Obj.mapSeq fun _=>#[])).get? a=some (seqObj "list" #[] e):=⟨_,qG ho fun _=>#[]⟩
 have z1:(s.heap.update a (Obj.mapSeq fun _=>#[])).objs.size=s.heap.objs.size:=zW _ _ _
 have up:∀b u,b<s.heap.objs.size→(s.heap.update a (Obj.mapSeq fun _=>#[])).get? b=some u→(((s.heap.update a (Obj.mapSeq fun _=>#[])).push (seqObj "tuple" vs.toArray 0)).push (seqObj "list" #[] 0)).get? b=some u:=fun b u hb hu=>by
  rw [qH _ _ _ (bZ (by rw [sD,z1];exact nS hb)),qH _ _ _ (bZ (by rw [z1];exact hb))]
  exact hu
 have g3:=up a _ lt g1
 have NK:∀i v,vs[i]?=some v→fK (((s.heap.update a (Obj.mapSeq fun _=>#[])).push (seqObj "tuple" vs.toArray 0)).push (seqObj "list" #[] 0)) v (x i) (y i)∧0≤y i∧y i<1000:=fun i v hi=>by
  obtain ⟨⟨b,o,t,u,e,rfl,g,cc,d⟩,y0⟩:=hv i v hi
  have nb:b≠a:=fun q=>by
   rw [q,ho] at g
   cases g
   exact absurd (Value.type.inj cc) (by decide)
  refine ⟨⟨b,o,t,u,e,rfl,up b o (aU g) ?_,cc,d⟩,y0⟩
  rw [v9 _ _ _ _ nb]
  exact g
 rw [list_sort_plain]
 refine ax (listItems_at ho rfl (ax (v_ ho rfl ?_ (by rw [cf];lia) (bG _))))
 refine ax (seqEpoch_at g1 rfl (ax (wpAny_newTuple ?_ (by show vs.length≤_;lia))))
 refine ax (wa (mf ?_) (bG _))
 show wpAny (model prog w) A _ P E {s with heap:=((s.heap.update a (Obj.mapSeq fun _=>#[])).push (seqObj "tuple" vs.toArray 0)).push (seqObj "list" #[] 0)}
 dsimp only
 have fin:∀(st:SortSt) (p:Array Nat),pY vs.length p→tS (fun i=>x i*1000+y i) p vs.length→(arrOf st).map (·.2)=List.toArray (p.toList.map fun i=>vs.getD i Value.none)→failedOf st=none→
   wpAny (model prog w) A (do
    let touched:=(←seqEpoch a) != e1
    Builtin.List.listUpdate (.ref a) fun _=>(arrOf st).map (·.2)
    if let some e:=failedOf st then rule "list.sort.comparison-raised";throw e
    if touched then rule "list.sort.modified";raiseError "ValueError" "list modified during sort"
    ret .none) P E {s with heap:=((s.heap.update a (Obj.mapSeq fun _=>#[])).push (seqObj "tuple" vs.toArray 0)).push (seqObj "list" #[] 0)}:=fun st p hp hu ha hf=>by
  refine ax (seqEpoch_at g3 rfl (ax (v_ g3 rfl ?_ (bG _) ?_)))
  ·rw [hf,ha]
   simp only [bne_self_eq_false,sE,ph]
   exact bJ (h p hp hu)
  ·rw [ha,cf,ay,fS,hp.size]
   lia
 by_cases z:vs.toArray.size<2
 ·rw [ae z,ae z]
  refine ax (bJ ?_)
  rw [StateT.run_pure]
  refine ax (bJ ?_)
  have len:vs.length<2:=by simpa using z
  refine fin _ (List.toArray (List.range vs.length)) (Array.Perm.refl _) (fun a b h1 h2=>by
   obtain rfl:a=b:=by lia
   exact kO _) ?_ rfl
  match vs,len with
  | [],_=>
   show Array.map (·.2) ((#[]:Array Value).zip #[])=_
   simp
  | [v],_=>
   show Array.map (·.2) (#[v].zip #[v])=_
   simp
 ·rw [aa z,aa z]
  have len:2≤vs.length:=by simpa using z
  refine ax (W3 (by lia) (fun v hm=>?_) ?_)
  ·obtain ⟨i,hi,rfl⟩:=pE hm
   exact ⟨_,_,(NK i _ (by simp [hi])).1⟩
  ·refine ax (b9 (W2 (Q:=fun st s'=>s'={s with heap:=((s.heap.update a (Obj.mapSeq fun _=>#[])).push (seqObj "tuple" vs.toArray 0)).push (seqObj "list" #[] 0)}∧∃p,pY vs.length p∧tS (fun i=>x i*1000+y i) p vs.length∧(arrOf st).map (·.2)=List.toArray (p.toList.map fun i=>vs.getD i Value.none)∧failedOf st=none) len NK fun p st a1 a2 a3 a4=>⟨rfl,p,a1,a2,a3,a4⟩) ?_ fun _ _ e=>e)
   rintro ⟨⟨⟩,st⟩ s' ⟨rfl,p,a1,a2,a3,a4⟩
   exact fin st p a1 a2 a3 a4
end
open PySem PySem.W PyProof.Rows
section
variable {prog:Program} {w:World} {A:Around} {E:aF} {s:Shared}
theorem W5{l:Addr}{vs:List Value}{x y:Nat→Int}{Q:aF}(hl:s.heap.IsList l vs.toArray)(A1:vs.length<2000)(hv:∀i v,vs[i]?=some v→fK s.heap v (x i) (y i)∧0≤y i∧y i<1000)
  (h:∀(p:Array Nat) (h':Heap) (c:Nat),pY vs.length p→tS (fun i=>x i*1000+y i) p vs.length→(∀b o,s.heap.get? b=some o→h'.get? b=some o)→h'.get? (s.heap.objs.size+1)=some (seqObj "list" (List.toArray (p.toList.map fun i=>vs.getD i Value.none)) c)→Q (.ref (s.heap.objs.size+1)) {s with heap:=h'}) :
  wpAny (model prog w) A (call (.builtin "sorted") [.ref l]) Q E s:=by
 have sl:vs.length≤sizeLine:=by rw [iR];lia
 refine Calls.call_function_entry kind_sorted plain_sorted entry_sorted (args_sorted1 _) ?_;unfold Builtin.«sorted»;refine ax (m:=checkCount "sorted" 1 1 _) (bJ (ax (collect_list hl (ax (wa ?_ sl)) sl)));have zz:((s.heap.push (seqObj "list" #[] 0)).update s.heap.objs.size (Obj.mapSeq (·++vs.toArray))).objs.size=s.heap.objs.size+1:=by rw [zW,sD]
 have kp:∀b o,s.heap.get? b=some o→(((s.heap.push (seqObj "list" #[] 0)).update s.heap.objs.size (Obj.mapSeq (·++vs.toArray))).push (seqObj "list" vs.toArray 0)).get? b=some o:=fun b o g=>by
  have lt:=aU g;rw [qH _ _ _ (bZ (by rw [zz];exact nS lt)),v9 _ _ _ _ (bZ lt),qH _ _ _ (bZ lt)]
  exact g
 have gL:(((s.heap.push (seqObj "list" #[] 0)).update s.heap.objs.size (Obj.mapSeq (·++vs.toArray))).push (seqObj "list" vs.toArray 0)).get? (s.heap.objs.size+1)=some (seqObj "list" vs.toArray 0):=by rw [←zz];exact eh _ rfl
 show wpAny _ _ _ _ _ {s with heap:=((s.heap.push (seqObj "list" #[] 0)).update s.heap.objs.size (Obj.mapSeq (·++vs.toArray))).push (seqObj "list" vs.toArray 0)};rw [zz];generalize ((s.heap.push (seqObj "list" #[] 0)).update s.heap.objs.size (Obj.mapSeq (·++vs.toArray))).push (seqObj "list" vs.toArray 0)=h1 at kp gL;refine ax (mf (wpAny_call_entry slot_list_sort ⟨_,gL,rfl⟩ entry_list_sort (W4 (s:={s with heap:=h1}) gL A1 (fun i v hi=>⟨(hv i v hi).1.mono kp,(hv i v hi).2⟩) fun p hp hu=>⟨_,rfl,?_⟩) (args_list_sort _)));have W6:=aU gL;have z1:(h1.update (s.heap.objs.size+1) (Obj.mapSeq fun _=>#[])).objs.size=h1.objs.size:=zW _ _ _;obtain ⟨e1,g1⟩:∃e,(h1.update (s.heap.objs.size+1) (Obj.mapSeq fun _=>#[])).get? (s.heap.objs.size+1)=some (seqObj "list" #[] e):=⟨_,qG gL fun _=>#[]⟩;have up:∀b u,b<h1.objs.size→(h1.update (s.heap.objs.size+1) (Obj.mapSeq fun _=>#[])).get? b=some u→(((h1.update (s.heap.objs.size+1) (Obj.mapSeq fun _=>#[])).push (seqObj "tuple" vs.toArray 0)).push (seqObj "list" #[] 0)).get? b=some u:=fun b u hb hu=>by
  rw [qH _ _ _ (bZ (by rw [sD,z1];exact nS hb)),qH _ _ _ (bZ (by rw [z1];exact hb))]
  exact hu
 have g3:=up _ _ W6 g1;refine bJ ⟨_,rfl,h p _ _ hp hu (fun b o g=>?_) (qG g3 fun _=>List.toArray (p.toList.map fun i=>vs.getD i Value.none))⟩;have g':=kp b o g;have ne:b≠s.heap.objs.size+1:=bZ (nS (aU g));show (Heap.update _ _ _).get? b=some o;rw [v9 _ _ _ _ ne];refine up b o (aU g') ?_;rw [v9 _ _ _ _ ne];exact g'
end
end My
namespace L2
open PySem PySem.W PyProof.Rows My
def NL:List V→Hp→VK→Prop:=fun xs H Q=>∃(a:Addr) (vs:List V) (x y:Nat→Int),xs=[.ref a]∧H a=some (.lst vs)∧vs.length<2000∧(∀(i:Nat) (v:V),vs[i]?=some v→(∃b,v=.ref b∧H b=some (.tup [.int (x i),.int (y i)]))∧0≤y i∧y i<1000) ∧
 ∀(p:Array Nat) (l:Addr),pY vs.length p→tS (fun i=>x i*1000+y i) p vs.length→H l=none→Q (.ref l) (upd H l (.lst (p.toList.map fun i=>vs.getD i .aI)))
theorem HY{xs:List V}{us:List Value}(r:Vals xs us):∀(ns:List Nat),(∀i∈ns,i<xs.length)→Vals (ns.map fun i=>xs.getD i .aI) (ns.map fun i=>us.getD i Value.none)
 | [],_=>.nil
 | i::ns,h=>by
  have hi:=h i cj;obtain ⟨u,e,ru⟩:=r.get (i:=i) (x:=xs[i]) (by simp [hi])
  refine .cons ?_ (HY r ns fun j hj=>h j (ck _ hj));dsimp only;rw [show xs.getD i .aI=xs[i] by simp [hi],show us.getD i Value.none=u by rw [cQ,e];rfl]
  exact ru
theorem HZ{X:Cx}:gr X (.builtin "sorted") NL:=by
 intro pins s σ H xs us Q I r h;obtain ⟨a,vs,x,y,rfl,ha,A1,hv,k⟩:=h;obtain ⟨u,rfl,ru⟩:=vals1 r;cases ru;obtain ⟨its,rv,pl,hz⟩:=I.list (.of ha);have hl:=rv.length;refine W5 (x:=x) (y:=y) pl.isList (by lia) (fun i v hi=>?_) fun p h' c hp hu kp g=>?_
 ·have bR:i<vs.length:=by have:=(bV.mp hi).1;lia
  have gi:vs[i]?=some vs[i]:=by simp [bR]
  obtain ⟨⟨b,eb,hb⟩,H_⟩:=hv i _ gi;obtain ⟨u,eu,ru⟩:=rv.get gi;rw [hi] at eu;cases eu;rw [eb] at ru;cases ru;obtain ⟨_,jL,r2,o,g,cl,e,d⟩:=(show cK X.prog X.w H s.heap b (.tup [.int (x i),.int (y i)]) from I.aw b _ hb);obtain ⟨u1,u2,rfl,q1,q2⟩:=vals2 r2;obtain ⟨t1,rfl⟩:=q1;obtain ⟨t2,rfl⟩:=q2;exact ⟨⟨b,o,t1,t2,e,rfl,g,cl,d⟩,H_⟩
 ·rw [←hl] at hp hu
  have sz:=hp.size;refine ⟨.ref (s.heap.objs.size+1),_,I.laid (t':=s.toks) (o:=.lst (p.toList.map fun i=>vs.getD i .aI)) kp (pj _) ⟨?_,p.toList.map fun i=>its.getD i Value.none,c,?_,g⟩,rfl,k p _ hp hu (I.aw.fresh (pj _))⟩
  ·rw [ay,fS,sz]
   exact hz
  ·refine HY rv _ fun i hi=>?_
   have m:i∈List.toArray (List.range vs.length):=(Array.Perm.mem_iff hp).mp (Array.mem_toList_iff.mp hi);simpa using m
end L2
namespace My
open PySem L2
def W7(K:aD):R2:=fun x y H Q=>∃a b xs,x=.ref a∧y=.ref b∧a8 K H a xs∧H b=some (.lst [])∧Q (.bl (!xs.isEmpty)) H
theorem W8{X:Cx}(hu:X.A.units+64<cLine):dr X (compareOp .NotEq) (W7 X.K):=by
 intro pins s σ H x y v u Q I rx ry h;obtain ⟨a,b,xs,rfl,rfl,h1,h2,q⟩:=h;cases rx;cases ry;obtain ⟨us,r1,t1,_⟩:=I.list h1;obtain ⟨vs,r2,t2,_⟩:=I.list (a8.of h2);have l1:=r1.length;have l2:=r2.length;cases xs with
 | nil=>
  refine SeqAt.RcNeAt.lists (e:=fun _=>true) t1.isList t2.isList (by simp at l1 l2 ⊢;lia) (by lia) (fun j z1 z2=>?_) _ _ _ _ ?_
  ·simp at l1
   have:us=[]:=Gr.mp l1.symm;subst this;simp at z1
  ·rw [all_range]
   exact ⟨.bl false,H,I,rfl,q⟩
 | cons w ws=>
  refine SeqAt.RcNeAt.lists_lengths t1.isList t2.isList ?_ (by lia) _ _ _ _ ⟨.bl true,H,I,rfl,q⟩
  simp at l1 l2 ⊢;lia
variable {wi:TI} {ρ:St→St} {te:TE} {σ:St} {H:Hp} {Q:VK} {P a:Addr} {n:Nat}
theorem W9(hn:n<sizeLine)
  (eF:∀R:It→Hp→Prop,(∀(H1:Hp),a_ P H H1→c_ H1 P a→R (qZ 0 n) H1)→wi σ H R)
  (Pr:Addr→Nat→V→Hp→Prop) (mono:∀D i y Hc H' ys,Pr D i y Hc→Hc D=some (.lst ys)→D≠P→(∀b o,b≠D→b≠P→Hc b=some o→H' b=some o)→Pr D i y H')
  (step:∀(D:Addr) (i:Nat),i<n→∀(Hc:Hp) (R:VK),a_ P H Hc→c_ Hc P a→(∃ys,Hc D=some (.lst ys))→D≠P→(∀y H3,a_ P Hc H3→c_ H3 P a→Pr D i y H3→R y H3)→te (some (.int (0+(i:Int)))::ρ σ) Hc R)
  (fin:∀(D:Addr) (ys:List V) (Hc:Hp),D≠P→er P H D=none→a_ P H Hc→c_ Hc P a→ys.length=n→(∀(i:Nat) (y:V),ys[i]?=some y→Pr D i y Hc)→Hc D=some (.lst ys)→Q (.ref D) Hc):jj wi ρ (fun _ H Q=>Q true H) te σ H Q:=by
 refine eF _ fun H1 s1 p1=>?_;intro D nD;have nP:=p1.ne nD;refine ⟨fun i m ys Hc=>m=n-i∧i≤n∧Hc D=some (.lst ys)∧a_ P H1 Hc∧c_ Hc P a∧ys.length=i∧∀j y,ys[j]?=some y→Pr D j y Hc,⟨_,rfl,bG _,ar,(a_.refl H1).but nD,p1.upd nP,rfl,fun j y e=>by simp at e⟩,?_⟩
 rintro i m ys Hc ⟨rfl,hi,eD,sH,pc,el,hP⟩;refine ⟨eD,?_⟩;by_cases aR:i<n
 ·refine .inr ⟨aR,fun x H' hy=>?_⟩
  obtain ⟨rfl,rfl⟩:=hy;rw [ae rfl];refine step D i (by lia) _ _ (s1.trans sH) pc ⟨ys,eD⟩ nP fun y H3 s3 p3 hp=>?_
  have e3:=s3.at nP eD;refine ⟨e3,by lia,n-(i+1),by lia,rfl,aR,ar,(sH.trans s3).but nD,p3.upd nP,by simp [el],fun j y' e=>?_⟩
  have cS:∀b o,b≠D→b≠P→H3 b=some o→upd H3 D (.lst (ys++[y])) b=some o:=fun b o nb _ e=>by rw [aE nb];exact e
  by_cases hj:j<i
  ·have e':ys[j]?=some y':=by rw [gZ (by lia)] at e;exact e
   refine mono D j y' H' _ ys (hP j y' e') eD nP fun b o nb np e=>?_;exact cS b o nb np (s3.at np e)
  ·have hj:j=i:=by have:=(bV.mp e).1;simp at this;lia
   subst hj;have e':y'=y:=by rw [iw (by lia),el,mw] at e;simpa using e.symm
   subst e';exact mono D _ _ H3 _ ys hp e3 nP cS
 ·have e:i=n:=by lia
  subst e;exact .inl ⟨au _,fin D ys Hc nP (none_of s1 (by rw [rg nP];exact nD)) (s1.trans sH) pc el hP eD⟩
def W_(K:aD):Sp:=fun vs H Q _=>∃(P a l:Addr) (ns:List Int) (xs:List V),vs=[.ref P,.ref l]∧c_ H P a∧a8 K (er P H) a (ns.map V.int)∧l≠P∧H l=some (.lst xs)∧xs.length≤100 ∧
 ∀(r:Addr) (ys:List V) (H':Hp),a_ P H H'→c_ H' P a→er P H r=none→r≠P→H' r=some (.lst ys)→ys.Perm xs→Q (.ref r) H'
theorem NM{α:Type}:∀(zs:List α) (k:Nat) (h:k<zs.length),(zs[k]::zs.eraseIdx k).Perm zs
 | _::_,0,_=>.refl _
 | z::zs,k+1,h=>(List.Perm.swap _ _ _).trans ((NM zs k (by simpa using h)).cons z)
def bT(H:Hp)(vs:List V)(L:ak):Prop:=vs.length=L.length∧∀(k:Nat) (v:V) (p:Int×Int),vs[k]?=some v→L[k]?=some p→∃b,v=.ref b∧H b=some (.tup [.int p.1,.int p.2])
theorem bT.nil(H:Hp):bT H [] []:=⟨rfl,fun k v p h=>by simp at h⟩
variable {H':Hp} {vs:List V}
theorem bT.mono{L:ak}(h:bT H vs L)(s:af H H'):bT H' vs L:=⟨h.1,fun k v p h1 h2=>by obtain ⟨b,e,g⟩:=h.2 k v p h1 h2;exact ⟨b,e,s _ _ g⟩⟩
variable {xs:List V}
theorem bT.cS{L:ak}{r:Addr}(h:bT H vs L)(e:H r=some (.lst xs))(k:∀b o,b≠r→H b=some o→H' b=some o):bT H' vs L:=⟨h.1,fun i v p h1 h2=>by obtain ⟨b,eb,g⟩:=h.2 i v p h1 h2;refine ⟨b,eb,k b _ (fun z=>?_) g⟩;rw [z,e] at g;cases g⟩
variable {b:Addr} {p:Int×Int}
theorem bT.push{L:ak}(h:bT H vs L)(e:H b=some (.tup [.int p.1,.int p.2])):bT H (vs++[.ref b]) (L++[p]):=⟨by simp [h.1],fun k v q h1 h2=>by
 have hl:=h.1;by_cases z:k<vs.length
 ·rw [gZ z] at h1
  rw [gZ (by lia)] at h2
  exact h.2 k v q h1 h2
 ·have hk:=(bV.mp h1).1
  rw [cW,nQ] at hk;obtain rfl:k=vs.length:=by lia
  rw [iw (au _),mw] at h1;rw [iw (by lia),show vs.length-L.length=0 by lia] at h2
  cases h1;cases h2;exact ⟨b,rfl,e⟩⟩
structure DK (n:Nat) (L:ak):Prop where
 nd:L.Nodup
 lt:∀p∈L,0≤p.1∧p.1<p.2∧p.2<n
 A2:L.length≤n*n / 2
def lexLt(p q:Int×Int):Prop:=p.1<q.1∨p.1=q.1∧p.2<q.2
theorem Ia{α β:Type}{f:α→β}:∀{L:List α},L.Nodup→(∀p q,p∈L→q∈L→f p=f q→p=q)→(L.map f).Nodup
 | [],_,_=>wb
 | x::L,h,k=>by obtain ⟨h1,h2⟩:=gY.mp h;refine gY.mpr ⟨fun m=>?_,Ia h2 fun p q hp hq=>k p q (ck _ hp) (ck _ hq)⟩;obtain ⟨y,hy,e⟩:=bK.mp m;have:=k y x (ck _ hy) cj e;rw [this] at hy;exact h1 hy
def cL(H:Hp)(t:Addr)(n:Nat)(L:ak):Prop:=∃(lt:Addr) (us:List V),H t=some (.tup [.int (n:Int),.ref lt])∧H lt=some (.tup us)∧bT H us L
variable {us:List V}
theorem bT.pick{M:ak}(h:bT H us M)(ns:List Nat)(hn:∀i∈ns,i<M.length):bT H (ns.map fun i=>us.getD i .aI) (ns.map fun i=>M.getD i (0,0)):=⟨by simp,fun k v p h1 h2=>by
 have hl:=h.1;have hk:k<ns.length:=by have:=(bV.mp h1).1;simpa using this
 have hi:=hn ns[k] (aV hk);rw [bz,aZ hk] at h1 h2;cases h1;cases h2;dsimp only;have bR:ns[k]<us.length:=by lia
 rw [getD_at hi];have e:us.getD ns[k] .aI=us[ns[k]]:=by simp [bR]
 rw [e];exact h.2 ns[k] _ _ (by simp [bR]) (by simp [hi])⟩
theorem Ib(p:c_ H P a)(e:H b=some (.tup xs)):er P H b=some (.tup xs):=by refine xh (fun z=>?_) e;obtain ⟨x,y,eP,_⟩:=p;rw [z,eP] at e;cases e
theorem bT.er{L:ak}(h:bT H us L)(p:c_ H P a):bT (er P H) us L:=⟨h.1,fun k v q h1 h2=>by obtain ⟨b,e,g⟩:=h.2 k v q h1 h2;exact ⟨b,e,Ib p g⟩⟩
theorem cL.er{t:Addr}{L:ak}(h:cL H t n L)(p:c_ H P a):cL (er P H) t n L:=by obtain ⟨lt,us,h1,h2,h3⟩:=h;exact ⟨lt,us,Ib p h1,Ib p h2,h3.er p⟩
theorem cL.mono{t:Addr}{L:ak}(h:cL H t n L)(s:af H H'):cL H' t n L:=by obtain ⟨lt,us,h1,h2,h3⟩:=h;exact ⟨lt,us,s _ _ h1,s _ _ h2,h3.mono s⟩
theorem Xa{tt:TT}(pr:Nat→Bool)(eF:∀R:It→Hp→Prop,(∀J,lE J xs H→R J H)→wi σ H R)(hn:xs.length<sizeLine)
  (P:Addr→Nat→V→Hp→Prop) (mono:∀D i y H H' ys,P D i y H→H D=some (.lst ys)→(∀b o,b≠D→H b=some o→H' b=some o)→P D i y H')
  (test:∀(i:Nat) (x:V),xs[i]?=some x→∀(Hc:Hp) (R:Bool→Hp→Prop),af H Hc→R (pr i) Hc→tt (some x::ρ σ) Hc R)
  (step:∀D (i:Nat) (x:V),xs[i]?=some x→∀(Hc:Hp) (R:VK),af H Hc→(∃ys,Hc D=some (.lst ys))→(∀y H3,af Hc H3→P D i y H3→R y H3)→te (some x::ρ σ) Hc R)
  (fin:∀D ys Hc,H D=none→af H Hc→ys.length=((List.range xs.length).filter pr).length→(∀(k i:Nat) (y:V),ys[k]?=some y→((List.range xs.length).filter pr)[k]?=some i→P D i y Hc)→Hc D=some (.lst ys)→Q (.ref D) Hc):jj wi ρ tt te σ H Q:=by
 refine eF _ fun J js=>?_;intro D nD;refine ⟨fun i m ys Hc=>m=xs.length-i∧i≤xs.length∧Hc D=some (.lst ys)∧af H Hc∧ys.length=((List.range i).filter pr).length∧∀(k i':Nat) (y:V),ys[k]?=some y→((List.range i).filter pr)[k]?=some i'→P D i' y Hc,⟨_,rfl,bG _,ar,fc (af.refl H) nD,rfl,fun k i y h=>by simp at h⟩,?_⟩
 rintro i m ys Hc ⟨rfl,hi,eD,sH,ly,hP⟩;refine ⟨eD,?_⟩;by_cases aR:i<xs.length
 ·refine .inr ⟨js.go i Hc sH aR,fun x H' hy=>?_⟩
  obtain ⟨rfl,hx⟩:=js.dZ i Hc x H' sH hy;refine test i x (hx aR) _ _ sH ?_;have fs:(List.range (i+1)).filter pr=(List.range i).filter pr++(if pr i=true then [i] else []):=by
   rw [vV,pG]
   congr 1
   cases e:pr i <;> simp [e]
  have fl:((List.range i).filter pr).length≤i:=bU (nW _ _) (by simp)
  cases e:pr i with
  | true=>
   rw [ae rfl];refine step D i x (hx aR) _ _ sH ⟨_,eD⟩ fun y H3 s3 hp=>?_;have e3:=s3 _ _ eD;have cS:∀b o,b≠D→H3 b=some o→upd H3 D (.lst (ys++[y])) b=some o:=fun b o nb e=>by rw [aE nb];exact e
   refine ⟨e3,by lia,xs.length-(i+1),by lia,rfl,aR,ar,fc (sH.trans s3) nD,?_,fun k i' y' h1 h2=>?_⟩
   ·rw [fs,e,ae rfl,cW,cW,ly]
    rfl
   ·rw [fs,e,ae rfl] at h2
    by_cases z:k<ys.length
    ·rw [gZ z] at h1
     rw [gZ (by lia)] at h2
     refine mono D i' y' H' _ ys (hP k i' y' h1 h2) eD fun b o nb e=>cS b o nb (s3 _ _ e)
    ·have hk:=(bV.mp h1).1
     rw [cW,nQ] at hk;obtain rfl:k=ys.length:=by lia
     rw [iw (au _),mw] at h1;rw [iw (by lia),show ys.length-((List.range i).filter pr).length=0 by lia] at h2
     cases h1;cases h2;exact mono D _ _ H3 _ ys hp e3 cS
  | false=>
   rw [aa (by simp)]
   refine ⟨xs.length-(i+1),by lia,rfl,aR,eD,sH,?_,fun k i' y' h1 h2=>?_⟩
   ·rw [fs,e,aa (by simp),jF]
    exact ly
   ·rw [fs,e,aa (by simp),jF] at h2
    exact hP k i' y' h1 h2
 ·have e:i=xs.length:=by lia
  subst e;exact .inl ⟨js.stop _ Hc sH (au _),fin D ys Hc nD sH ly hP eD⟩
def Ic(n:Nat)(f:Nat→Nat→Bool)(i:Nat):List (Int×Int):=((List.range (n-(i+1))).filter fun k=>f i (i+1+k)).map fun k=>((i:Int),((i+1+k:Nat):Int))
def xx(n:Nat)(f:Nat→Nat→Bool):Nat→List (Int×Int)
 | 0=>[]
 | i+1=>xx n f i++Ic n f i
variable {f:Nat→Nat→Bool} {i:Nat}
theorem NN(h:p∈Ic n f i):∃j,i<j∧j<n∧f i j=true∧p=((i:Int),(j:Int)):=by obtain ⟨k,hk,rfl⟩:=bK.mp h;obtain ⟨h1,h2⟩:=b8.mp hk;have:=aS.mp h1;exact ⟨i+1+k,by lia,by lia,h2,rfl⟩
theorem Xb{j:Nat}(h1:i<j)(h2:j<n)(h3:f i j=true):((i:Int),(j:Int))∈Ic n f i:=by
 refine bK.mpr ⟨j-(i+1),b8.mpr ⟨aS.mpr (by lia),?_⟩,?_⟩
 ·show f i (i+1+(j-(i+1)))=true
  rw [show i+1+(j-(i+1))=j by lia]
  exact h3
 ·rw [show i+1+(j-(i+1))=j by lia]
theorem mem_of{n:Nat}{f:Nat→Nat→Bool}{p:Int×Int}:∀{k:Nat},p∈xx n f k→∃i j,i<k∧i<j∧j<n∧f i j=true∧p=((i:Int),(j:Int))
 | 0,h=>by cases h
 | k+1,h=>by
  rcases cM.mp h with h | h
  ·obtain ⟨i,j,h1,h2⟩:=mem_of h
   exact ⟨i,j,by lia,h2⟩
  ·obtain ⟨j,h1⟩:=NN h
   exact ⟨k,j,by lia,h1⟩
theorem Ie{n:Nat}{f:Nat→Nat→Bool}{i j:Nat}(h1:i<j)(h2:j<n)(h3:f i j=true):∀{k:Nat},i<k→((i:Int),(j:Int))∈xx n f k
 | k+1,h=>by
  by_cases z:i=k
  ·subst z
   exact ei _ (Xb h1 h2 h3)
  ·exact ja _ (Ie h1 h2 h3 (by lia))
theorem Ig{n:Nat}{f:Nat→Nat→Bool}:∀k,(xx n f k).Pairwise lexLt
 | 0=>List.Pairwise.nil
 | k+1=>by
  refine zT.mpr ⟨Ig k,?_,fun p hp q hq=>?_⟩
  ·refine jG.mpr ((wc.sublist List.filter_sublist).imp fun h=>?_)
   right;dsimp only;lia
  ·obtain ⟨i,j,h1,_,_,_,rfl⟩:=mem_of hp
   obtain ⟨j',_,_,_,rfl⟩:=NN hq;left;dsimp only;lia
theorem NO:¬lexLt p p:=fun h=>by unfold lexLt at h;lia
theorem Xc{q:Int×Int}(h1:lexLt p q)(h2:lexLt q p):False:=by unfold lexLt at h1 h2;lia
theorem DL:∀{A B:ak},A.Pairwise lexLt→B.Pairwise lexLt→(∀p,p∈A↔p∈B)→A=B
 | [],[],_,_,_=>rfl
 | [],b::B,_,_,h=>absurd ((h b).mpr cj) (by simp)
 | a::A,[],_,_,h=>absurd ((h a).mp cj) (by simp)
 | a::A,b::B,ha,hb,h=>by
  obtain ⟨a1,a2⟩:=qI.mp ha;obtain ⟨b1,b2⟩:=qI.mp hb;have e:a=b:=by
   rcases bb.mp ((h a).mp cj) with z | z;·exact z
   ·rcases bb.mp ((h b).mpr cj) with y | y
    ·exact y.symm
    ·exact (Xc (b1 a z) (a1 b y)).elim
  subst e;rw [DL a2 b2 fun p=>⟨fun m=>?_,fun m=>?_⟩]
  ·rcases bb.mp ((h p).mp (ck _ m)) with z | z
   ·subst z
    exact (NO (a1 _ m)).elim
   ·exact z
  ·rcases bb.mp ((h p).mpr (ck _ m)) with z | z
   ·subst z
    exact (NO (b1 _ m)).elim
   ·exact z
end My
namespace L2
open PySem PySem.Spec PyProof.Rows
end L2
namespace My
open PySem L2
end My
namespace L2
open PySem PySem.Spec PyProof.Rows
section
variable (P:Program) (w:World)
end
section
variable {P:Program} {w:World} {H H':Hp} {h h':Heap} {a:Addr} {o:HO}
end
section
variable {P:Program} {w:World} {H:Hp} {h h':Heap} {x e:Addr} {o':HO}
end
section
variable {fs GA ex Ab:List Addr} {H H1 H2:Hp} {h h1 h2 h':Heap} {a x e:Addr} {o:HO}
end
section
variable {X:Cx} {pins:aO} {σ:List (Option V)} {H H':Hp} {s:Shared} {h':Heap}
end
section
variable {X:Cx}
variable {a b:Expr} {ta tb:TE} {pos:Pos}
variable {tA Af:TT} {rest:List Expr}
end
section
variable {X:Cx} {pins:aO} {σ:St} {H:Hp} {s:Shared} {a:Addr} {xs ys:List V}
end
section
variable {X:Cx} {pins:aO} {σ:St} {H:Hp} {s:Shared} {E:aF}
end
section
variable {X:Cx} {st:Stmt} {rest:List Stmt} {t u:TS} {e:Expr} {te:TE} {pos:Pos}
end
section
variable {X:Cx} {pos:Pos}
end
section
variable {X:Cx} {pos:Pos}
end
section
variable {X:Cx} {tg:Expr}
end
section
variable {X:Cx} {a b c:Expr} {ta tb tc:TE} {pos:Pos}
end
section
variable {X:Cx} {a b c:Expr} {ta tb tc:TE} {pos:Pos}
end
section
variable {prog:Program} {w:World} {A:Around} {E:aF} {s:Shared} {K:aD} {x dx C f:Addr} {mA:dq} {name:Str} {v:Value}
end
section
variable {P:Program} {w:World} {H H':Hp} {h h':Heap} {a C dx:Addr} {fs GA:List (Str×V)}
end
section
variable {X:Cx} {pins:aO} {σ:St} {H:Hp} {s:Shared} {a C dx:Addr} {fs:List (Str×V)} {f:Str} {v:V} {A:Around} {E:aF}
end
section
variable {X:Cx} {o e value:Expr} {f:Str} {pos pos' qY:Pos} {ta tv:TE}
end
section
variable {X:Cx} {pins:aO} {σ:St} {H:Hp} {s:Shared} {A:Around} {E:aF} {Q:aF} {c:Value} {b:Bool}
end
section
variable {X:Cx} {e:Expr} {es:List Expr} {te:TE} {t:TA} {pos:Pos}
end
section
variable {X:Cx} {pins:aO} {σ:St} {H:Hp} {s s':Shared}
end
section
variable {X:Cx} {CX:jJ} {k:Nat} {f C:Addr} {fd:FuncData} {ps:List Str} {sp:Sp} {oo:List V} {ds:List Value} {E:XK} {x m:Str} {p pos apos:Pos} {e o:Expr} {es:List Expr} {ta:TE} {t:TA}
end
section
variable {X:Cx} {CX:jJ} {k:Nat} {f C:Addr} {fd:FuncData} {ps ks:List Str} {sp:Sp} {E:XK} {x m:Str} {p pos apos MC:Pos} {e o:Expr} {es:List Expr} {UG:List Keyword} {te ta:TE} {t tk:TA} {nm:Option Str}
variable {g:List Value→List Value→List Value} {gV:List V→List V→List V}
end
section
variable {X:Cx} {x:Str} {p pos:Pos} {e:Expr} {es:List Expr} {t:TA} {id T:String} {r:List V→Hp→VK→Prop}
end
section
variable {κ:Type} [DecidableEq κ]
def e7(kvs:List (κ×V))(k:κ):Option V:=(kvs.find? fun kv=>decide (kv.1=k)).map (·.2)
def putK(kvs:List (κ×V))(k:κ)(v:V):List (κ×V):=
 if (kvs.any fun kv=>decide (kv.1=k))=true then kvs.map (fun kv=>if kv.1=k then (kv.1,v) else kv) else kvs++[(k,v)]
variable {p:κ×V} {r:List (κ×V)} {k:κ}
theorem A3(e:p.1=k):e7 (p::r) k=some p.2:=by simp [e7,sF,e]
theorem A4(e:¬p.1=k):e7 (p::r) k=e7 r k:=by simp [e7,sF,e]
theorem NP(k:κ):∀kvs:List (κ×V),(kvs.any fun kv=>decide (kv.1=k))=(e7 kvs k).isSome
 | []=>rfl
 | p::r=>by
  rw [qB];by_cases e:p.1=k;·simp only [A3 e,bu e,Bool.true_or,Option.isSome_some]
  ·rw [A4 e,bY e,Bool.false_or];exact NP k r
theorem Ih(kvs:List (κ×V))(k:κ)(v:V):(putK kvs k v).length≤kvs.length+1:=by
 unfold putK
 split
 ·rw [ay];lia
 ·rw [cW,dm,vQ];lia
theorem mI.A5{o:Option V}{u:Option Value}(r:mI o u):o.isSome=u.isSome:=by
 cases o with
 | none=>cases u with
  | none=>rfl
  | some _=>exact (show False from r).elim
 | some _=>cases u with
  | none=>exact (show False from r).elim
  | some _=>rfl
variable {kvs:List (κ×V)} {vs:List (κ×Value)}
theorem KV.val(r:KV kvs vs)(k:κ):mI (e7 kvs k) (valueAt vs k):=by
 unfold KV at r
 induction r with
 | nil=>exact True.intro
 | @cons p q ps qs h t ih=>
  obtain ⟨h1,h2⟩:=h;by_cases e:p.1=k
  ·have e':q.1=k:=h1.symm.trans e
   have b:valueAt (q::qs) k=some q.2:=by simp [valueAt,sF,e']
   rw [A3 e,b];exact h2
  ·have e':¬q.1=k:=fun z=>e (h1.trans z)
   have b:valueAt (q::qs) k=valueAt qs k:=by simp [valueAt,sF,e']
   rw [A4 e,b];exact ih
theorem KV.any(r:KV kvs vs)(k:κ):(kvs.any fun kv=>decide (kv.1=k))=vs.any fun kv=>decide (kv.1=k):=by
 unfold KV at r
 induction r with
 | nil=>rfl
 | cons h t ih=>rw [qB,qB,ih,h.1]
variable {y:V} {u:Value}
theorem KV.Ii(r:KV kvs vs)(k:κ)(ry:RelV y u) :
  KV (kvs.map fun kv=>if kv.1=k then (kv.1,y) else kv) (vs.map fun kv=>if kv.1=k then (kv.1,u) else kv):=by
 unfold KV at r ⊢
 induction r with
 | nil=>exact .nil
 | @cons p q ps qs h t ih=>
  rw [cO,cO];refine .cons ?_ ih;obtain ⟨h1,h2⟩:=h;by_cases e:p.1=k;·rw [ae e,ae (h1.symm.trans e)];exact ⟨h1,ry⟩
  ·rw [aa e,aa (fun z=>e (h1.trans z))];exact ⟨h1,h2⟩
theorem KV.put(r:KV kvs vs)(k:κ)(ry:RelV y u):KV (putK kvs k y) (stored vs k u):=by
 unfold putK stored;rw [r.any k];by_cases e:(vs.any fun kv=>decide (kv.1=k))=true;·rw [ae e,ae e];exact r.Ii k ry
 ·rw [aa e,aa e];exact Paired.snoc r ⟨rfl,ry⟩
theorem KV.length(r:KV kvs vs):kvs.length=vs.length:=Paired.length r
end
variable {P:Program} {w:World} {u:Value}
theorem xC{k:Key}(r:RelV (kV k) u):(iC P w).is k u=true:=by
 cases k with
 | inl i=>obtain ⟨t,e⟩:=(show ∃t,u=Value.int i t from r);subst e;exact Tf P w i t
 | inr x=>obtain ⟨t,e⟩:=(show ∃t,u=Value.str x t from r);subst e;exact Tg P w x t
theorem NQ{P:Program}{w:World}:∀{ks:List Key} {us:List Value},Vals (ks.map kV) us→ItemsAre (iC P w) ks us
 | [],_,r=>by rw [vR] at r;cases r;exact .nil
 | k::ks,_,r=>by
  rw [cO] at r;cases r with
  | cons h t=>exact .cons (xC h) (NQ t)
abbrev KT (H:Hp):List (List Key×V)→List (List Key×Addr×Value)→Prop:=Paired fun p q=>p.1=q.1∧H q.2.1=some (.tup (p.1.map kV))∧RelV p.2 q.2.2
variable {H:Hp} {kvs:List (List Key×V)} {xs:List (List Key×Addr×Value)}
theorem KT.val(r:KT H kvs xs)(k:List Key):mI (e7 kvs k) ((atKey xs k).map (·.2)):=by
 induction r with
 | nil=>exact True.intro
 | @cons p q ps qs h t ih=>
  obtain ⟨h1,_,h2⟩:=h;by_cases e:p.1=k
  ·have e':q.1=k:=h1.symm.trans e
   have b:atKey (q::qs) k=some q.2:=by simp [atKey,sF,e']
   rw [A3 e,b];exact h2
  ·have e':¬q.1=k:=fun z=>e (h1.trans z)
   have b:atKey (q::qs) k=atKey qs k:=by simp [atKey,sF,e']
   rw [A4 e,b];exact ih
variable {y:V}
theorem KT.Ii(r:KT H kvs xs)(k:List Key)(ry:RelV y u) :
  KT H (kvs.map fun kv=>if kv.1=k then (kv.1,y) else kv) (xs.map (putAt k u)):=by
 induction r with
 | nil=>exact .nil
 | @cons p q ps qs h t ih=>
  rw [cO,cO];refine .cons ?_ ih;obtain ⟨h1,h2,h3⟩:=h;unfold putAt;by_cases e:p.1=k;·rw [ae e,ae (h1.symm.trans e)];exact ⟨h1,h2,ry⟩
  ·rw [aa e,aa (fun z=>e (h1.trans z))];exact ⟨h1,h2,h3⟩
variable {b:Addr}
theorem KT.put(r:KT H kvs xs)(k:List Key)(hb:H b=some (.tup (k.map kV)))(ry:RelV y u) :
  KT H (putK kvs k y) (storedH xs k b u):=by
 have e:(kvs.any fun kv=>decide (kv.1=k))=(atKey xs k).isSome:=by rw [NP,(r.val k).A5,zX]
 unfold putK storedH;rw [e];by_cases q:(atKey xs k).isSome=true;·rw [ae q,ae q];exact r.Ii k ry
 ·rw [aa q,aa q];exact Paired.snoc r ⟨rfl,hb,ry⟩
theorem KT.keeps{H':Hp}(r:KT H kvs xs)(ht:∀b ys,H b=some (.tup ys)→H' b=some (.tup ys)):KT H' kvs xs:=
 Paired.Gz r fun _ _ z=>⟨z.1,ht _ _ z.2.1,z.2.2⟩
section
variable {P:Program} {w:World} {H:Hp} {h:Heap} {a:Addr}
theorem NR{u:HO}(ok:cR P w H h)(e:Rd H a u):cK P w H h a u:=e.ok ok
theorem A6{kvs:List (Key×V)}(ok:cR P w H h)(e:Rd H a (.dK kvs)):kvs.length≤sizeLine∧(a == sysModules)=false∧∃vs,KV kvs vs∧h.DictOf (iC P w) a vs:=
 show cK P w H h a (.dK kvs) from NR ok e
theorem NS{kvs:List (Key×V)}(ok:cR P w H h)(e:H a=some (.dK kvs)):kvs.length≤sizeLine∧(a == sysModules)=false∧∃vs,KV kvs vs∧h.DictOf (iC P w) a vs:=A6 ok (.inl e)
theorem A7{ks:List Key}(ok:cR P w H h)(e:H a=some (.tup (ks.map kV))):(tupleKind (iC P w)).is h ks a:=by obtain ⟨_,its,r,o,h1,h2,n,h3⟩:=(show cK P w H h a (.tup (ks.map kV)) from ok a _ e);exact ⟨o,its.toArray,n,h1,h2,h3,by simpa using NQ r⟩
theorem A8(ok:cR P w H h)(e:Rd H a (.dT kvs)):kvs.length≤sizeLine∧(a == sysModules)=false ∧
  ∃xs,KT H kvs xs∧h.DictOfH (tupleKind (iC P w)) a xs:=by
 obtain ⟨z,y,xs,r,o,es,ep,h1,h2,h3,h4,h5⟩:=(show cK P w H h a (.dT kvs) from NR ok e);refine ⟨z,y,xs,r,o,es,ep,h1,h2,h3,h4,fun x hx=>?_,h5⟩;have all:∀{l:List (List Key×V)} {m:List (List Key×Addr×Value)},KT H l m→∀x∈m,(tupleKind (iC P w)).is h x.1 x.2.1:=by
  intro l m q
  induction q with
  | nil=>intro x hx;exact nomatch hx
  | @cons p q ps qs hq t ih=>
   intro x hx;rcases bb.mp hx with e | hx
   ·subst e
    exact A7 ok (by rw [←hq.1];exact hq.2.1)
   ·exact ih x hx
 exact all r x hx
theorem NT(ok:cR P w H h)(e:H a=some (.dT kvs)):kvs.length≤sizeLine∧(a == sysModules)=false ∧
  ∃xs,KT H kvs xs∧h.DictOfH (tupleKind (iC P w)) a xs:=A8 ok (.inl e)
end
def jx(H:Hp)(a:Addr)(y:V)(r:Option V):Prop:=
 (∃kvs k,Rd H a (.dK kvs)∧y=kV k∧r=e7 kvs k)∨∃kvs k b,Rd H a (.dT kvs)∧y=.ref b∧H b=some (.tup (k.map kV))∧r=e7 kvs k
def xD(H:Hp)(a:Addr)(y v:V)(H':Hp):Prop:=
 (∃kvs k,H a=some (.dK kvs)∧y=kV k∧kvs.length<sizeLine∧H'=upd H a (.dK (putK kvs k v))) ∨
 ∃kvs k b,H a=some (.dT kvs)∧y=.ref b∧H b=some (.tup (k.map kV))∧kvs.length<sizeLine∧H'=upd H a (.dT (putK kvs k v))
variable {a:Addr} {k:List Key}
theorem jx.t(e:H a=some (.dT kvs))(eb:H b=some (.tup (k.map kV))):jx H a (.ref b) (e7 kvs k):=.inr ⟨kvs,k,b,.inl e,rfl,eb,rfl⟩
theorem xD.t{v:V}(e:H a=some (.dT kvs))(eb:H b=some (.tup (k.map kV)))(hl:kvs.length<sizeLine) :
  xD H a (.ref b) v (upd H a (.dT (putK kvs k v))):=.inr ⟨kvs,k,b,e,rfl,eb,hl,rfl⟩
section
variable {X:Cx} {pins:aO} {σ:St} {H:Hp} {s:Shared} {a:Addr} {y v:V} {u r:Value} {o:Option V} {A:Around} {E:aF}
theorem Inv.big(I:Inv X pins σ H s):sysModules<s.heap.objs.size:=by have h:mainGlobals<s.heap.objs.size:=(I.mod.glob.keeps I.bk).lt;exact Nat.lt_trans (by decide) h
variable {Q:aF}
theorem Xd(hu:A.units+1<cLine)(I:Inv X pins σ H s)(g:jx H a y (some v))(ry:RelV y u)(h:∀w' s',Inv X pins σ H s'→RelV v w'→Q w' s') :
  wpAny (model X.prog X.w) A (getItem (.ref a) u) Q E s:=by
 rcases g with ⟨kvs,k,e,ey,l⟩ | ⟨kvs,k,b,e,ey,eb,l⟩
 ·subst ey
  obtain ⟨z,hd,vs,rel,dd⟩:=A6 I.aw e;obtain ⟨w',hw,gH⟩:=mI.some_of (v:=v) (o:=valueAt vs k) (by rw [l];exact rel.val k)
  exact wpAny_getItem_of (xC ry) dd.mapOf hw (h w' _ (I.tok _) gH)
 ·subst ey
  cases (show u=Value.ref b from ry);obtain ⟨z,hd,xs,rel,dd⟩:=A8 I.aw e;obtain ⟨w',hw,gH⟩:=mI.some_of (v:=v) (o:=(atKey xs k).map (·.2)) (by rw [l];exact rel.val k)
  obtain ⟨p,hp,Xe⟩:=Option.map_eq_some_iff.mp hw;refine wpAny_getItem_heap (Cv hu) (A7 I.aw eb) dd hp ?_;rw [Xe];exact h w' _ (I.tok _) gH
theorem Xf(hu:A.units+1<cLine)(I:Inv X pins σ H s)(g:jx H a y o)(ry:RelV y u)(h:∀s',Inv X pins σ H s'→Q (.bool o.isSome) s') :
  wpAny (model X.prog X.w) A (compareOp .In u (.ref a)) Q E s:=by
 rcases g with ⟨kvs,k,e,ey,l⟩ | ⟨kvs,k,b,e,ey,eb,l⟩
 ·subst ey
  obtain ⟨z,hd,vs,rel,dd⟩:=A6 I.aw e;refine wpAny_in_of (xC ry) hd dd.mapOf ?_;rw [←(rel.val k).A5,←l];exact h _ (I.tok _)
 ·subst ey
  cases (show u=Value.ref b from ry);obtain ⟨z,hd,xs,rel,dd⟩:=A8 I.aw e;refine wpAny_in_heap (Cv hu) (A7 I.aw eb) hd dd ?_;have q:=(rel.val k).A5;rw [zX] at q;rw [←q,←l];exact h _ (I.tok _)
theorem Xg(hu:A.units+1<cLine)(I:Inv X pins σ H s)(g:jx H a y o)(ry:RelV y u)(h:∀s',Inv X pins σ H s'→Q (.bool (!o.isSome)) s') :
  wpAny (model X.prog X.w) A (compareOp .NotIn u (.ref a)) Q E s:=by
 rcases g with ⟨kvs,k,e,ey,l⟩ | ⟨kvs,k,b,e,ey,eb,l⟩
 ·subst ey
  obtain ⟨z,hd,vs,rel,dd⟩:=A6 I.aw e;refine wpAny_notIn_of (xC ry) hd dd.mapOf ?_;rw [←(rel.val k).A5,←l];exact h _ (I.tok _)
 ·subst ey
  cases (show u=Value.ref b from ry);obtain ⟨z,hd,xs,rel,dd⟩:=A8 I.aw e;refine wpAny_notIn_heap (Cv hu) (A7 I.aw eb) hd dd ?_;have q:=(rel.val k).A5;rw [zX] at q;rw [←q,←l];exact h _ (I.tok _)
variable {h':Heap}
theorem Ij{t':Nat}{ob:HO}(I:Inv X pins σ H s)(mu:Aa (H a))(hs:Heap.SameBut a s.heap h')(he:∃q,h'.get? a=some q)(new:cK X.prog X.w (upd H a ob) h' a ob) :
  Inv X pins σ (upd H a ob) {s with heap:=h',toks:=t'}:=
 I.write (x:=a) (e:=a) mu (.inl rfl) (fun b q hb z=>(hs.2 b hb).trans z) he new
variable {H':Hp}
theorem NU{kvs:List (Key×V)}{vs:List (Key×Value)}(z:kvs.length≤sizeLine)(hd:(a == sysModules)=false)(rel:KV kvs vs)(dd:h'.DictOf (iC P w) a vs) :
  cK P w H' h' a (.dK kvs):=⟨z,hd,vs,rel,dd⟩
theorem Xh{Q:Unit→Shared→Prop}(hu:A.units+1<cLine)(I:Inv X pins σ H s)(g:xD H a y v H')(ry:RelV y u)(rv:RelV v r)(h:∀s',Inv X pins σ H' s'→Q () s') :
  wpAny (model X.prog X.w) A (setItem (.ref a) u r) Q E s:=by
 rcases g with ⟨kvs,k,e,ey,l,eH⟩ | ⟨kvs,k,b,e,ey,eb,l,eH⟩
 ·subst ey eH
  obtain ⟨z,hd,vs,rel,dd⟩:=NS I.aw e;have hz:vs.length≤sizeLine:=by rw [←rel.length];exact z
  have hl:(putK kvs k v).length≤sizeLine:=by have:=Ih kvs k v;lia
  refine wpAny_setItem_pairs (hsz:=hz) (xC ry) dd fun h' rb hs=>h _ ?_;have he:∃q,h'.get? a=some q:=let ⟨q,_,_,hq,_⟩:=rb;⟨q,hq⟩
  exact Ij I (by rw [e];exact True.intro) hs he (NU hl hd (rel.put k rv) rb)
 ·subst ey eH
  cases (show u=Value.ref b from ry);obtain ⟨z,hd,xs,rel,dd⟩:=NT I.aw e;have hz:xs.length≤sizeLine:=by rw [←Paired.length rel];exact z
  have hl:(putK kvs k v).length≤sizeLine:=by have:=Ih kvs k v;lia
  refine wpAny_setItem_heap (hsz:=hz) (Cv hu) (A7 I.aw eb) dd fun h' rb hs=>h _ ?_;obtain ⟨q,es,ep,hq,h2,h3,h4,_,h5⟩:=rb;refine Ij I (by rw [e];exact True.intro) hs ⟨q,hq⟩ ⟨hl,hd,_,(rel.put k eb rv).keeps fun c ys ec=>?_,q,es,ep,hq,h2,h3,h4,h5⟩
  rw [aE (Th ec e (fun z=>nomatch z))];exact ec
end
section
variable {X:Cx} {pins:aO} {σ:St} {H:Hp} {s:Shared} {a:Addr} {kvs:List (Key×V)} {k:Key} {u:Value} {A:Around} {E:aF}
end
def NV(i:Expr):Prop:=∀ov iv,subscripted i false ov iv=operate [ov,iv] (getItem ov iv)
variable {s:Shared} {pos:Pos}
theorem Xi{prog:Program}{A:Around}{E:aF}{env:Env}{value slice:Expr}{T id:String}{Q:aF}
  (hl:typeLookup (.type T) "__getitem__"=pure (some (.builtin id))) (hs:NV slice)
  (h:wpAny (model prog w) A (eval value env) (fun o s₁=>wpAny (model prog w) A (eval slice env) (fun i s₂=>s₂.TypeIs o T∧wpAny (model prog w) A (getItem o i) Q E s₂) E s₁) E s) :
  wpAny (model prog w) A (eval (.Subscript value slice pos) env) Q E s:=by
 refine Subscript_ (b9 h (fun o s₁ h₁=>b9 h₁ (fun i s₂ h₂=>?_) fun _ _ x=>x) fun _ _ x=>x);obtain ⟨hT,h₂⟩:=h₂;unfold subscriptTail;refine ax ?_;rw [getitemInPython_of_ne hT.not_modules];refine ax (wpAny_specialOf hT hl ?_);have fin:wpAny (model prog w) A (subscripted slice false o i) (fun r s₃=>wpAny (model prog w) A (letTemporaryGo value o r >>= fun _=>pure r) Q E s₃) E s₂:=by rw [hs o i];exact wpAny_operating (b9 h₂ (fun r s₃ h₃=>ax (wpAny_letTemporaryGo (bJ h₃))) fun _ _ x=>x)
 first
  | exact bJ (ax fin)
  | exact ax (bJ (ax fin))
  | exact ax fin
variable {X:Cx}
theorem Xj{pins:aO}{σ:St}{o:Option V}(I:Inv X pins σ H s)(g:jx H a y o):s.TypeIs (.ref a) "dict":=by
 rcases g with ⟨kvs,k,e,_,_⟩ | ⟨kvs,k,b,e,_,_,_⟩
 ·obtain ⟨_,_,vs,_,dd⟩:=A6 I.aw e
  exact dd.typeIs
 ·obtain ⟨_,_,xs,_,dd⟩:=A8 I.aw e
  exact dd.typeIs
def Xk(td ty:TE):TE:=fun σ H Q=>td σ H fun x H1=>ty σ H1 fun y H2=>∃a v,x=.ref a∧jx H2 a y (some v)∧Q v H2
def Xl(ty td:TE):TE:=fun σ H Q=>ty σ H fun y H1=>td σ H1 fun x H2=>∃a o,x=.ref a∧jx H2 a y o∧Q (.bl o.isSome) H2
def Xm(ty td:TE):TE:=fun σ H Q=>ty σ H fun y H1=>td σ H1 fun x H2=>∃a o,x=.ref a∧jx H2 a y o∧Q (.bl (!o.isSome)) H2
def Xn(td ty tv:TE):TS:=fun D σ H=>tv σ H fun v H1=>td σ H1 fun x H2=>ty σ H2 fun y H3=>∃a H4,x=.ref a∧xD H3 a y v H4∧D.nx σ H4
section
variable {X:Cx} {o i e value:Expr} {pos pos' qY:Pos} {td ty tv:TE}
theorem xE(hu:X.A.units+1<cLine)(ho:PE X o td)(hi:PE X i ty)(hs:NV i):PE X (.Subscript o i pos) (Xk td ty):=by intro pins s σ H Q I h;refine Xi PySem.F.slot_dict_getitem.lookup hs (aH (ho pins s σ H _ I h) fun u s1 ⟨x,H1,I1,rx,q1⟩=>aH (hi pins s1 σ H1 _ I1 q1) fun iv s2 ⟨y,H2,I2,ry,a,v,ex,g,q2⟩=>?_);subst ex;obtain rfl:u=Value.ref a:=rx;exact ⟨Xj I2 g,Xd hu I2 g ry fun w' s3 I3 gH=>⟨v,H2,I3,gH,q2⟩⟩
theorem Xo(hu:X.A.units+1<cLine)(hi:PE X i ty)(ho:PE X o td):PC X .In i o (Xl ty td):=by intro pins s σ H Q I h;refine aH (hi pins s σ H _ I h) fun iv s1 ⟨y,H1,I1,ry,q1⟩=>aH (ho pins s1 σ H1 _ I1 q1) fun u s2 ⟨x,H2,I2,rx,a,ov,ex,g,q2⟩=>?_;subst ex;obtain rfl:u=Value.ref a:=rx;exact Xf hu I2 g ry fun s3 I3=>⟨.bl ov.isSome,H2,I3,rfl,q2⟩
theorem DM(hu:X.A.units+1<cLine)(hi:PE X i ty)(ho:PE X o td):PC X .NotIn i o (Xm ty td):=by intro pins s σ H Q I h;refine aH (hi pins s σ H _ I h) fun iv s1 ⟨y,H1,I1,ry,q1⟩=>aH (ho pins s1 σ H1 _ I1 q1) fun u s2 ⟨x,H2,I2,rx,a,ov,ex,g,q2⟩=>?_;subst ex;obtain rfl:u=Value.ref a:=rx;exact Xg hu I2 g ry fun s3 I3=>⟨.bl (!ov.isSome),H2,I3,rfl,q2⟩
theorem xF(hu:X.A.units+1<cLine)(ho:PE X o td)(hi:PE X i ty)(hv:PE X value tv)(hs:swapsWith value (some (.Subscript o i pos')) pos.line X.env=pure false) :
  PS X (.Assign [.Subscript o i pos'] value pos) (Xn td ty tv):=by
 intro pins s σ H D I h;refine wpAny_Assign_Subscript (aH (hv pins s σ H _ I h) fun r s1 ⟨v,H1,I1,rv,q1⟩=>aH (ho pins s1 σ H1 _ I1 q1) fun u s2 ⟨x,H2,I2,rx,q2⟩=>aH (hi pins s2 σ H2 _ I2 q2) fun iv s3 ⟨y,H3,I3,ry,a,H4,ex,g,q3⟩=>?_) hs;subst ex;obtain rfl:u=Value.ref a:=rx;exact Xh hu I3 g ry rv fun s4 I4=>⟨σ,H4,I4,q3⟩
end
theorem NW(h:Heap)(hb:sysModules<h.objs.size):cK P w H (h.push {cls:=.type "dict",data:=.dict #[]}) h.objs.size (.dK []):=
 ⟨bG _,vO.mpr (Ne.symm (bZ hb)),[],.nil,Heap.DictOf.new h⟩
theorem Xp(h:Heap)(hb:sysModules<h.objs.size):cK P w H (h.push {cls:=.type "dict",data:=.dict #[]}) h.objs.size (.dT []):=
 ⟨bG _,vO.mpr (Ne.symm (bZ hb)),[],.nil,_,#[],0,eh _ rfl,⟨rfl,rfl,rfl⟩,rfl,rfl,wb⟩
def Xq:TE:=fun _ H Q=>∀p,H p=none→Q (.ref p) (upd H p (.dK []))
def Xr:TE:=fun _ H Q=>∀p,H p=none→Q (.ref p) (upd H p (.dT []))
section
variable {X:Cx} {pos:Pos}
theorem Xs:PE X (.Dict [] [] pos) Xq:=fun pins s σ H Q I h=>wpAny_Dict_empty ⟨.ref s.heap.objs.size,_,I.laid (a:=s.heap.objs.size) (o:=.dK []) (t':=s.toks) (fun _ _ q=>b_ _ q) (au _) (NW s.heap I.big),rfl,h _ (I.aw.fresh (au _))⟩
theorem Xt:PE X (.Dict [] [] pos) Xr:=fun pins s σ H Q I h=>wpAny_Dict_empty ⟨.ref s.heap.objs.size,_,I.laid (a:=s.heap.objs.size) (o:=.dT []) (t':=s.toks) (fun _ _ q=>b_ _ q) (au _) (Xp s.heap I.big),rfl,h _ (I.aw.fresh (au _))⟩
end
def Ik:List (TE×TE)→St→Hp→(List (V×V)→Hp→Prop)→Prop
 | [],_,H,Q=>Q [] H
 | (tk,tv)::r,σ,H,Q=>tk σ H fun x H1=>tv σ H1 fun y H2=>Ik r σ H2 fun ps H3=>Q ((x,y)::ps) H3
abbrev VV:List (V×V)→List (Value×Value)→Prop:=Paired fun p q=>RelV p.1 q.1∧RelV p.2 q.2
def DN(X:Cx)(pos:Pos)(keys:List (Option Expr))(values:List Expr)(p9:List (TE×TE)):Prop:=
 ∀(pins:aO) (s:Shared) (σ:St) (H:Hp) (Q:List (V×V)→Hp→Prop),Inv X pins σ H s→Ik p9 σ H Q→
  wpAny (model X.prog X.w) X.A (evalPairs (pairTrees keys values X.env pos)) (fun vs s'=>∃ps H',Inv X pins σ H' s'∧VV ps vs∧Q ps H') X.xe s
theorem NX:DN X pos [] [] []:=fun pins s σ H Q I h=>pairTrees_nil_walk ⟨[],H,I,.nil,h⟩
variable {p9:List (TE×TE)}
theorem Il{k v:Expr}{ks:List (Option Expr)}{vs:List Expr}{tk tv:TE}(hk:PE X k tk)(hv:PE X v tv)(hr:DN X pos ks vs p9) :
  DN X pos (some k::ks) (v::vs) ((tk,tv)::p9):=fun pins s σ H Q I h=>
 pairTrees_cons_walk (aH (hk pins s σ H _ I h) fun u s1 ⟨x,H1,I1,rx,q1⟩=>aH (hv pins s1 σ H1 _ I1 q1) fun w2 s2 ⟨y,H2,I2,ry,q2⟩=>aH (hr pins s2 σ H2 _ I2 q2) fun ws s3 ⟨ps,H3,I3,rel,q3⟩=>⟨(x,y)::ps,H3,I3,.cons ⟨rx,ry⟩ rel,q3⟩)
def ng(kvs more:List (Key×V)):List (Key×V):=more.foldl (fun acc kv=>putK acc kv.1 kv.2) kvs
theorem KV.merge:∀{more:List (Key×V)} {rs:List (Key×Value)} {kvs:List (Key×V)} {vs:List (Key×Value)},KV more rs→KV kvs vs→KV (ng kvs more) (merged vs rs):=by
 intro more rs kvs vs r;unfold KV at r
 induction r generalizing kvs vs with
 | nil=>intro q;exact q
 | @cons p q ps qs h t ih=>
  intro r0;have e:KV (putK kvs p.1 p.2) (stored vs q.1 q.2):=by have:=r0.put p.1 h.2;rw [←h.1];exact this
  exact ih e
theorem NY:∀(more kvs:List (Key×V)),(ng kvs more).length≤kvs.length+more.length
 | [],kvs=>by show kvs.length≤kvs.length+0;lia
 | p::r,kvs=>by have h1:=NY r (putK kvs p.1 p.2);have h2:=Ih kvs p.1 p.2;show (ng (putK kvs p.1 p.2) r).length≤_;rw [dm];lia
theorem NZ{P:Program}{w:World}:∀{kvs:List (Key×V)} {ws:List (Value×Value)},VV (kvs.map fun kv=>(kV kv.1,kv.2)) ws→∃rs,Carries (iC P w) ws rs∧KV kvs rs
 | [],_,r=>by rw [vR] at r;cases r;exact ⟨[],True.intro,.nil⟩
 | p::kvs,_,r=>by
  rw [cO] at r;cases r with
  | @cons a b as bs h t=>obtain ⟨rs,c,q⟩:=NZ (P:=P) (w:=w) t;obtain ⟨b1,b2⟩:=b;exact ⟨(p.1,b2)::rs,⟨xC h.1,rfl,c⟩,.cons ⟨rfl,h.2⟩ q⟩
def Xu(p9:List (TE×TE)):TE:=fun σ H Q=>∀p,H p=none→Ik p9 σ (upd H p (.dK [])) fun ps H2=>H2 p=some (.dK [])∧∃kvs:List (Key×V),ps=kvs.map (fun kv=>(kV kv.1,kv.2))∧kvs.length≤15∧Q (.ref p) (upd H2 p (.dK (ng [] kvs)))
theorem N1{keys:List (Option Expr)}{values:List Expr}(h:DN X pos keys values p9)(G_:keys.all (·.isSome)=true)(hl:keys.length=values.length)(h0:keys≠[])
  (Xv:keys.length≤15):PE X (.Dict keys values pos) (Xu p9):=by
 intro pins s σ H Q I q;have hn:=I.aw.fresh (au s.heap.objs.size);have I1:=I.laid (a:=s.heap.objs.size) (o:=.dK []) (h':=s.heap.push {cls:=.type "dict",data:=.dict #[]}) (t':=s.toks) (fun _ _ q=>b_ _ q) (au _) (NW s.heap I.big);refine wpAny_Dict_walk (knd:=iC X.prog X.w) G_ hl h0 Xv (aH (h pins _ σ _ _ I1 (q _ hn)) fun ws s2 ⟨ps,H2,I2,rel,e,kvs,ep,lk,q2⟩=>?_);subst ep;obtain ⟨rs,c,rk⟩:=NZ (P:=X.prog) (w:=X.w) rel;obtain ⟨z,hd,vs0,r0,dd⟩:=NS I2.aw e;cases r0;refine ⟨rs,c,dd,fun h' rb hs=>⟨.ref s.heap.objs.size,_,?_,rfl,q2⟩⟩;have hz:(ng [] kvs).length≤sizeLine:=by have h1:=NY kvs [];rw [vQ] at h1;rw [iR];lia
 have he:∃q,h'.get? s.heap.objs.size=some q:=let ⟨q,_,_,hq,_⟩:=rb;⟨q,hq⟩
 exact Ij I2 (by rw [e];exact True.intro) hs he (NU hz hd (rk.merge .nil) rb)
section
variable {X:Cx} {pins:aO} {σ:St} {H:Hp} {s:Shared} {a:Addr} {y d:V} {u r:Value} {o:Option V} {A:Around} {E:aF}
end
section
variable {X:Cx} {o e f:Expr} {apos gc:Pos} {td ty tx:TE}
end
section
variable {X:Cx} {pins:aO} {σ:St} {H:Hp} {s:Shared} {a:Addr} {kvs:List (Key×V)} {A:Around} {E:aF}
end
section
variable {X:Cx} {pins:aO} {σ:St} {H:Hp} {s:Shared} {a:Addr} {y:V} {u:Value} {A:Around} {E:aF}
end
end L2
namespace Att
open PySem PySem.W PySem.Calls PyProof.Rows
section
variable {prog:Program} {w:World} {A:Around} {E:aF} {s:Shared} {K:Frag}
end
end Att
namespace L2
open PySem PySem.Spec PyProof.Rows
section
variable {P:Program} {w:World} {K:aD} {mg:dq} {base:Heap}
end
section
variable {X:Cx}
end
section
variable {κ:Type} [DecidableEq κ]
end
def Im(o:Obj):Nat:=match o.data with
 | .dict _ ep=>ep
 | _=>0
def jR(a:Addr)(o:Obj)(kvs:List (Key×V)):It:=
 ⟨fun i H=>H a=some (.bE o (.dK kvs))∧i<kvs.length,fun i H x H'=>H'=H∧∃kv,kvs[i]?=some kv∧x=kV kv.1,fun i H=>H a=some (.bE o (.dK kvs))∧kvs.length≤i⟩
theorem Xw{k:Key}{v:Value}(h:sM k v=true):RelV (kV k) v:=by
 rcases n4 h with ⟨i,t,rfl,rfl⟩ | ⟨x,t,rfl,rfl⟩;·exact ⟨t,rfl⟩
 ·exact ⟨t,rfl⟩
theorem N2{kvs:List (Key×V)}{vs:List (Key×Value)}:∀{i:Nat} {kv:Key×V},KV kvs vs→kvs[i]?=some kv→∃v,vs[i]?=some (kv.1,v)
 | _,_,.nil,h=>by simp at h
 | 0,kv,.cons (b:=b) r _,h=>by simp at h;subst h;obtain ⟨k,v⟩:=b;have e:_=k:=r.1;exact ⟨v,by rw [e];rfl⟩
 | i+1,kv,.cons _ t,h=>by simp at h;obtain ⟨v,e⟩:=N2 t h;exact ⟨v,by simpa using e⟩
section
variable {X:Cx} {pins:aO} {σ:St} {H:Hp} {s:Shared}
theorem Inv.Io{a:Addr}{o:Obj}{kvs:List (Key×V)}(I:Inv X pins σ H s)(h:H a=some (.bE o (.dK kvs))):∃vs,KV kvs vs∧s.heap.DictAt (iC X.prog X.w) a vs (Im o):=by obtain ⟨g,_,_,vs,r,o',es,ep,g',c,d,rest⟩:=(show cK X.prog X.w H s.heap a (.bE o (.dK kvs)) from I.aw a _ h);rw [g] at g';cases g';refine ⟨vs,r,o,es,g,c,?_,rest⟩;rw [d];unfold Im;rw [d]
end
theorem Xx{P:Program}{w:World}{K:aD}{tg:Expr}(a it:Addr)(o:Obj)(kvs:List (Key×V)):Turn P w K tg (jR a o kvs) [it] it (fun i h=>h.IsKeyIter it a i kvs.length (Im o)) where
 mem:=by simp
 obj:=fun i h st b hb=>by
  have e:b=it:=by simpa using hb
  subst e;obtain ⟨o,e,c,d⟩:=st;exact ⟨o,e,fun v z=>by rw [d] at z;cases z⟩
 keep:=fun i h h' st k=>by obtain ⟨o,e,c,d⟩:=st;exact ⟨o,k it (by simp) o e,c,d⟩
 item:=by
  intro X hP hw hK hc i pins s σ H E I hf st hg;subst hP hw hK;obtain ⟨eH,hi⟩:=hg;obtain ⟨vs,r,hm⟩:=I.Io eH;have lr:kvs.length=vs.length:=Paired.length r;have ek:kvs[i]?=some kvs[i]:=by simp [hi]
  obtain ⟨v,ev⟩:=N2 r ek;obtain ⟨f0,f1,f2,f3,f4,f5⟩:=hf it (by simp)
  rw [lr] at st;refine wpAny_pyNext_dict_item st hm ev fun key h' hk av sb=>?_;have I1:Inv X pins σ H {s with heap:=h'}:=I.turned (t':=s.toks) (fun b o hb e=>(sb.2 b hb).trans e) f0 f1 f3 f4 f5;obtain ⟨o',e,c,d⟩:=id av;rw [←lr] at av;exact ⟨key,rfl,CU (s:={s with heap:=h'}) e c d (by decide) ⟨kV kvs[i].1,H,I1,Xw hk,⟨rfl,_,ek,rfl⟩,av,fun b hb=>(hf b hb).1⟩⟩
 done:=by
  intro X hP hw hK hc i pins s σ H E I hf st hg;subst hP hw hK;obtain ⟨eH,hi⟩:=hg;obtain ⟨vs,r,hm⟩:=I.Io eH;have lr:kvs.length=vs.length:=Paired.length r;obtain ⟨f0,f1,f2,f3,f4,f5⟩:=hf it (by simp)
  rw [lr] at st;exact wpAny_pyNext_dict_end (I.ok.hd hc) st hm (by simp;lia) fun h' eb=>⟨rfl,I.turned (t':=s.toks) (fun b o hb e=>eb b o hb e) f0 f1 f3 f4 f5⟩
 self:=fun _ _ _ _ _ st h=>wpAny_pyIter_keyiter st h
section
variable {X:Cx} {tg:Expr}
def Ip(tl:TE):TI:=fun σ H R=>tl σ H fun x H1=>∃a kvs,x=.ref a∧((H1 a=some (.dK kvs)∧∀o,R (jR a o kvs) (upd H1 a (.bE o (.dK kvs))))∨∃o,H1 a=some (.bE o (.dK kvs))∧R (jR a o kvs) H1)
theorem xG{l:Expr}{tl:TE}(hl:PE X l tl):PI X tg l (Ip tl):=by
 intro pins s σ H R I h;refine aH (hl pins s σ H _ I h) fun v s1 ⟨x,H1,I1,r1,q1⟩=>?_;obtain ⟨a,kvs,e,q⟩:=q1;subst e;cases r1;have main:∀{H2:Hp} {o:Obj},Inv X pins σ H2 s1→H2 a=some (.bE o (.dK kvs))→R (jR a o kvs) H2→wpAny (model X.prog X.w) X.A (pyIter (.ref a)) (GO X pins σ tg R) X.xe s1:=fun{H2 o} I2 eH q=>by
  obtain ⟨vs,r,hm⟩:=I2.Io eH;obtain ⟨_,_,sys,_⟩:=(show cK X.prog X.w H2 s1.heap a (.bE o (.dK kvs)) from I2.aw a _ eH);have lr:kvs.length=vs.length:=Paired.length r;refine wpAny_pyIter_dict sys hm ?_;refine ⟨s1.heap.objs.size,[s1.heap.objs.size],_,_,H2,rfl,I2.kept (t':=s1.toks) fun b o e=>b_ _ e,Xx a _ o kvs,⟨_,eh _ rfl,rfl,by rw [lr];rfl⟩,fun b hb=>?_,q⟩
  have e:b=s1.heap.objs.size:=by simpa using hb
  subst e;exact I2.wO (au _) (I2.aw.fresh (au _))
 rcases q with ⟨eH,q⟩ | ⟨o,eH,q⟩
 ·obtain ⟨hz,sys,vs,r,o,es,ep,g,c,d,rest⟩:=(show cK X.prog X.w H1 s1.heap a (.dK kvs) from I1.aw a _ eH)
  refine main (H2:=upd H1 a (.bE o (.dK kvs))) ?_ ar (q o);exact I1.write (t':=s1.toks) (x:=a) (e:=a) (by rw [eH];exact trivial) (.inl rfl) (fun b u _ e=>e) ⟨o,g⟩ ⟨g,hz,sys,vs,r,o,es,ep,g,c,d,rest⟩
 ·exact main I1 eH q
end
theorem Iq:∀{us:List Value} {ns:List Int},IntsAre us ns→Vals (ns.map V.int) us
 | _,_,.nil=>.nil
 | _,_,.cons a u r=>.cons ⟨u,rfl⟩ (Iq r)
def Xy:List V→Hp→VK→Prop:=fun xs H Q=>∃(a:Addr) (zs:List Int),xs=[.ref a]∧H a=some (.lst (zs.map V.int))∧zs.length<64∧∀(ws:List Int) (D:Addr),ws.Perm zs→ws.Pairwise (·≤·)→H D=none→Q (.ref D) (upd H D (.lst (ws.map V.int)))
theorem DO{X:Cx}:gr X (.builtin "sorted") Xy:=by
 intro pins s σ H xs us Q I r h;obtain ⟨a,zs,rfl,ha,A1,k⟩:=h;obtain ⟨u,rfl,ru⟩:=vals1 r;cases ru;obtain ⟨its,rv,pl,hz⟩:=I.list (.of ha);have hl:=rv.length;rw [ay] at hl;refine sorted_ints pl.isList (intsAre_of rv) (by lia) fun out k6 a1 a2 a3=>?_
 obtain ⟨e,he⟩:=sortedAll_at s.heap its out;refine ⟨.ref (s.heap.objs.size+1),_,I.laid (t':=s.toks) (o:=.lst (k6.map .int)) (fun _ _=>sortedAll_old) (pj _) ⟨?_,out.toList,e,Iq a1,?_⟩,rfl,k k6 _ a2 a3 (I.aw.fresh (pj _))⟩
 ·rw [ay,a2.length_eq]
  rw [iR];lia
 ·simpa using he
end L2
namespace My
open PySem L2
def dk(ks:List Nat):List (Key×V):=ks.map fun k:Nat=>((Sum.inl (k:Int):Key),V.bl true)
def dH(ks:List Nat)(k:Nat):List Nat:=if k∈ks then ks else ks++[k]
theorem N3{a b:Nat}:((Sum.inl (a:Int):Key)=Sum.inl (b:Int))↔a=b:=by
 constructor
 ·intro h
  have:=Sum.inl.inj h;lia
 ·rintro rfl;rfl
theorem DQ(ks:List Nat):(dk ks).length=ks.length:=ay _
theorem Xz(ks:List Nat)(k:Nat):((dk ks).any fun kv=>decide (kv.1=(Sum.inl (k:Int):Key)))=decide (k∈ks):=by
 rw [pb,Cw,fT];constructor
 ·rintro ⟨kv,h1,h2⟩
  obtain ⟨j,hj,rfl⟩:=bK.mp h1;have:=N3.mp (dC h2);subst this;exact hj
 ·intro h
  exact ⟨_,bK.mpr ⟨k,h,rfl⟩,bu rfl⟩
theorem N4(ks:List Nat)(k:Nat):putK (dk ks) (Sum.inl (k:Int):Key) (V.bl true)=dk (dH ks k):=by
 unfold putK dH;rw [Xz];by_cases h:k∈ks
 ·rw [ae (bu h),ae h]
  unfold dk;rw [cx];refine g8 fun j _=>?_;show (if _ then _ else _)=_
  split <;> rfl
 ·rw [aa (by rw [fT];exact h),aa h]
  unfold dk;rw [eW];rfl
theorem N5(ks:List Nat)(k:Nat):e7 (dk ks) (Sum.inl (k:Int):Key)=if k∈ks then some (V.bl true) else none:=by
 induction ks with
 | nil=>simp [dk,e7]
 | cons j r ih=>
  by_cases h:j=k
  ·subst h
   rw [ae (cj ..)];exact A3 rfl
  ·show e7 ((Sum.inl (j:Int),V.bl true)::dk r) _=_
   rw [A4 (fun e=>h (N3.mp e)),ih];by_cases m:k∈r;·rw [ae m,ae (ck _ m)]
   ·rw [aa m,aa (fun x=>by rcases bb.mp x with e | e;exact h e.symm;exact m e)]
variable {ks:List Nat} {k j:Nat}
theorem jS:j∈dH ks k↔j∈ks∨j=k:=by
 unfold dH;by_cases h:k∈ks
 ·rw [ae h]
  constructor;·exact .inl
  ·rintro (e | rfl)
   ·exact e
   ·exact h
 ·rw [aa h,cM,cB]
theorem XA(h:ks.Nodup):(dH ks k).Nodup:=by
 unfold dH;by_cases m:k∈ks;·rw [ae m];exact h
 ·rw [aa m]
  refine fD.mpr ⟨h,(by simp),fun a ha b hb=>?_⟩
  rw [cB] at hb;subst hb;rintro rfl;exact m ha
def jT(n:Nat)(ks:List Nat):Prop:=ks.Nodup∧∀k∈ks,k<n
theorem jT.nil(n:Nat):jT n []:=⟨wb,fun _ h=>by cases h⟩
variable {n:Nat}
theorem jT.add(h:jT n ks)(hk:k<n):jT n (dH ks k):=⟨XA h.1,fun j hj=>by
 rcases jS.mp hj with e | rfl;·exact h.2 j e
 ·exact hk⟩
theorem Ir:∀{n:Nat} {ks:List Nat},ks.Nodup→(∀k∈ks,k<n)→ks.length≤n
 | 0,ks,_,h=>by
  cases ks with
  | nil=>exact au _
  | cons a r=>exact absurd (h a (cj ..)) (mq _)
 | n+1,ks,nd,h=>by
  have e:=Ir (n:=n) (ks:=ks.erase n) (nd.erase n) (fun k hk=>by have m:=(List.Nodup.mem_erase_iff nd).mp hk;have:=h k m.2;have:=m.1;lia)
  by_cases hm:n∈ks
  ·have:=Cy hm
   lia
  ·rw [List.erase_of_not_mem hm] at e
   lia
theorem jT.len(h:jT n ks):ks.length≤n:=Ir h.1 h.2
structure eU (H:Hp) (D:Addr) (n:Nat) (ds:Nat→Addr) (un:Nat→Prop) (f:Nat→List Nat):Prop where
 lst:H D=some (.lst ((List.range n).map fun i=>V.ref (ds i)))
 inj:∀i j,i<n→j<n→ds i=ds j→i=j
 ne:∀i,i<n→ds i≠D
 at':∀i,i<n→un i→H (ds i)=some (.dK (dk (f i)))
 pl:∀i,i<n→jT n (f i)
def gQ(f:Nat→List Nat)(i:Nat)(ks:List Nat):Nat→List Nat:=fun j=>if j=i then ks else f j
variable {H:Hp} {D:Addr} {ds:Nat→Addr} {f:Nat→List Nat} {i:Nat}
theorem eU.put{un:Nat→Prop}(h:eU H D n ds un f)(hi:i<n)(hj:j<n)(ui:un i)(hn:n≤1000) :
  xD H (ds i) (.int (j:Int)) (.bl true) (upd H (ds i) (.dK (dk (dH (f i) j))))∧eU (upd H (ds i) (.dK (dk (dH (f i) j)))) D n ds un (gQ f i (dH (f i) j)):=by
 refine ⟨.inl ⟨dk (f i),Sum.inl (j:Int),h.at' i hi ui,rfl,?_,by rw [N4]⟩,?_,h.inj,h.ne,fun k hk uk=>?_,fun k hk=>?_⟩
 ·rw [DQ]
  have:=(h.pl i hi).len;exact iT this (iT hn (by rw [iR];decide))
 ·rw [aE (Ne.symm (h.ne i hi))]
  exact h.lst
 ·unfold gQ
  by_cases e:k=i
  ·subst e
   rw [ae rfl,ar]
  ·rw [aa e,aE (fun z=>e (h.inj k i hk hi z))]
   exact h.at' k hk uk
 ·unfold gQ
  by_cases e:k=i;·rw [ae e];exact (h.pl i hi).add hj
  ·rw [aa e];exact h.pl k hk
theorem eU.ix{un:Nat→Prop}(h:eU H D n ds un f)(hi:i<n):mP ((List.range n).map fun i=>V.ref (ds i)) (i:Int)=some (V.ref (ds i)):=
 C3 (by rw [bz,mr hi];rfl)
def e8(n:Nat)(L:ak):Prop:=∀p∈L,0≤p.1∧p.1<(n:Int)∧0≤p.2∧p.2<(n:Int)
def i6(n:Nat)(L:ak)(f:Nat→List Nat):Prop:=∀i j:Nat,i<n→(j∈f i↔((i:Int),(j:Int))∈L∨((j:Int),(i:Int))∈L)
theorem i6.nil(n:Nat):i6 n [] (fun _=>[]):=fun i j _=>by simp
theorem i6.more{L:ak}(h:i6 n L f)(hi:i<n)(hj:j<n):i6 n (L++[((i:Int),(j:Int))]) (gQ (gQ f i (dH (f i) j)) j (dH (gQ f i (dH (f i) j) j) i)):=fun a b ha=>by
 have e1:∀x y:Nat,y∈gQ f i (dH (f i) j) x↔y∈f x∨(x=i∧y=j):=fun x y=>by
  unfold gQ;by_cases e:x=i
  ·subst e
   rw [ae rfl,jS];simp
  ·rw [aa e]
   simp [e]
 have e2:b∈gQ (gQ f i (dH (f i) j)) j (dH (gQ f i (dH (f i) j) j) i) a↔b∈gQ f i (dH (f i) j) a∨(a=j∧b=i):=by
  unfold gQ;by_cases e:a=j
  ·subst e
   rw [ae rfl,jS];simp
  ·rw [aa e]
   simp [e]
 rw [e2,e1,h a b ha];simp only [cM,cB,Prod.mk.injEq];constructor
 ·rintro ((e | e) | ⟨rfl,rfl⟩)
  ·rcases e with e | e
   ·exact .inl (.inl e)
   ·exact .inr (.inl e)
  ·exact .inl (.inr ⟨by lia,by lia⟩)
  ·exact .inr (.inr ⟨rfl,rfl⟩)
 ·rintro ((e | ⟨e1,e2⟩) | (e | ⟨e1,e2⟩))
  ·exact .inl (.inl (.inl e))
  ·exact .inl (.inr ⟨by lia,by lia⟩)
  ·exact .inl (.inl (.inr e))
  ·exact .inr ⟨by lia,by lia⟩
def XB:Sp:=fun vs H Q _=>∃(t:Addr) (n:Nat) (L:ak),vs=[.ref t]∧cL H t n L∧e8 n L∧n≤1000 ∧
 ∀(H':Hp) (D:Addr) (ds:Nat→Addr) (f:Nat→List Nat),af H H'→H D=none→(∀i,i<n→H (ds i)=none)→eU H' D n ds (fun _=>True) f→i6 n L f→Q (.ref D) H'
end My
namespace L2
open PySem PySem.Spec PyProof.Rows
def XC(K:aD):R2:=fun x y H Q=>∃(a b:Addr) (xs ys:List Int),x=.ref a∧y=.ref b∧a8 K H a (xs.map V.int)∧a8 K H b (ys.map V.int)∧Q (.bl (decide (xs=ys))) H
theorem XD{X:Cx}(hu:X.A.units+64<cLine):dr X (compareOp .Eq) (XC X.K):=by
 intro pins s σ H x y v u Q I rx ry h;obtain ⟨a,b,xs,ys,rfl,rfl,h1,h2,q⟩:=h;cases rx;cases ry;obtain ⟨us,r1,t1,_⟩:=I.list h1;obtain ⟨vs,r2,t2,_⟩:=I.list h2;have l1:=r1.length;have l2:=r2.length;rw [ay] at l1 l2;by_cases hl:xs.length=ys.length
 ·refine SeqAt.RcAt.lists (e:=fun j=>fm (.int (xs.getD j 0)) (.int (ys.getD j 0))) t1.isList t2.isList (by simp;lia) (by lia) (fun j z1 z2=>?_) _ _ _ _ ?_
  ·have AU:j<us.length:=by simpa using z1
   have XE:j<vs.length:=by simpa using z2
   have ex:(xs.map V.int)[j]?=some (.int (xs.getD j 0)):=by rw [bz,cQ];simp [show j<xs.length by lia]
   have ey:(ys.map V.int)[j]?=some (.int (ys.getD j 0)):=by rw [bz,cQ];simp [show j<ys.length by lia]
   obtain ⟨x',Ab,rx⟩:=r1.get ex;obtain ⟨y',Iu,ry⟩:=r2.get ey;have e1:us.toArray[j]=x':=by simpa using (bV.mp Ab).2
   have e2:vs.toArray[j]=y':=by simpa using (bV.mp Iu).2
   rw [e1,e2];exact Ao rx ry rfl rfl
  ·rw [show us.toArray.size=xs.length by simp;lia,Ww hl]
   exact ⟨.bl (decide (xs=ys)),H,I,rfl,q⟩
 ·rw [bY (fun e=>hl (by rw [e]))] at q
  refine SeqAt.RcAt.lists_lengths t1.isList t2.isList ?_ (by lia) _ _ _ _ ⟨.bl false,H,I,rfl,q⟩
  simp;lia
end L2
namespace My
open PySem L2
def iN(k:Nat):Int:=(k:Int)
def lT(zs:List Int)(n:Nat):Prop:=zs.Perm ((List.range n).map iN)
instance (zs:List Int) (n:Nat):Decidable (lT zs n):=by unfold lT;exact inferInstance
theorem XF(n:Nat):((List.range n).map iN).Pairwise (·≤·):=by rw [jG];exact List.Pairwise.imp (fun h=>by unfold iN;lia) wc
variable {ws zs:List Int} {n:Nat}
theorem XG(p:ws.Perm zs)(o:ws.Pairwise (·≤·)):decide (ws=(List.range n).map iN)=decide (lT zs n):=by
 by_cases h:lT zs n
 ·rw [bu h]
  refine bu ?_;exact (p.trans h).eq_of_pairwise (fun a b _ _ h1 h2=>by lia) o (XF n)
 ·rw [bY h]
  refine bY fun e=>h ?_;subst e;exact p.symm
def XH:Sp:=fun vs H Q _=>∃(a:Addr) (zs:List Int) (n:Nat),vs=[.ref a,.int (n:Int)]∧H a=some (.lst (zs.map V.int))∧zs.length<64∧n≤1000∧(∀H',af H H'→Q (.bl (decide (lT zs n))) H')
def XI(N:Addr):Sp:=fun vs H Q E=>∃(a:Addr) (zs:List Int) (n:Nat),vs=[.ref a,.int (n:Int)]∧H a=some (.lst (zs.map V.int))∧zs.length<64∧n≤1000 ∧
 (¬lT zs n→∀H',af H H'→E (.ref N) none H')∧(lT zs n→∀H',af H H'→Q .aI H')
def XJ(H:Hp)(a:Addr)(n:Nat)(o:List Nat):Prop:=H a=some (.lst (o.map fun k:Nat=>V.int (k:Int)))∧o.Perm (List.range n)
def XM:Sp:=fun vs H Q _=>∃(a:Addr) (n:Nat) (o:List Nat),vs=[.ref a]∧XJ H a n o∧n≤1000 ∧
 ∀(r:Addr) (H':Hp),af H H'→H r=none→H' r=some (.lst ((List.range n).map fun p=>V.int (o.idxOf p:Int)))→Q (.ref r) H'
variable {H H1:Hp} {D:Addr}
theorem XN(s:af H H1)(e:H1 D=none):H D=none:=by
 cases z:H D with
 | none=>rfl
 | some o=>rw [s _ _ z] at e;cases e
theorem DR(s:af H H1){o:HO}(e:H1 D=none):af H (upd H1 D o):=fc s (XN s e)
variable {k:Nat}
theorem N6(h:k<n):ou n (k:Int)=some k:=by unfold ou;rw [ae (by lia),ae (by lia),en]
def lU(o:List Nat)(k p:Nat):Int:=if o.idxOf p<k then (o.idxOf p:Int) else 0
variable {o:List Nat}
theorem p_(h:o.Perm (List.range n)):o.Nodup:=h.nodup_iff.mpr fU
theorem t9(h:o.Perm (List.range n)):o.length=n:=by rw [h.length_eq,cC]
variable {p:Nat}
theorem gR(h:o.Perm (List.range n)):p∈o↔p<n:=by rw [h.mem_iff,aS]
theorem DS(nd:o.Nodup)(hk:k<o.length):o.idxOf o[k]=k:=nd.idxOf_getElem k hk
theorem A9(h:p∈o):∃hk:o.idxOf p<o.length,o[o.idxOf p]=p:=⟨pH h,qJ _⟩
theorem XO(h:o.Perm (List.range n))(hk:k<o.length):((List.range n).map fun p=>V.int (lU o k p)).set o[k] (.int (k:Int))=(List.range n).map fun p=>V.int (lU o (k+1) p):=by
 have nd:=p_ h;refine iy (by simp) fun q h1 h2=>?_
 have hq:q<n:=by simpa using h2
 rw [List.getElem_set];by_cases e:o[k]=q
 ·rw [ae e]
  simp only [iV,qK];unfold lU;rw [←e,DS nd hk,ae (Ct k)]
 ·rw [aa e]
  simp only [iV,qK];unfold lU;have ne:o.idxOf q≠k:=fun z=>by obtain ⟨hz,ez⟩:=A9 ((gR h).mpr hq);subst z;exact e ez
  by_cases z:o.idxOf q<k;·rw [ae z,ae (by lia)]
  ·rw [aa z,aa (by lia)]
theorem XQ(n:Nat)(o:List Nat):(List.replicate n [V.int 0]).flatten=(List.range n).map fun p=>V.int (lU o 0 p):=by
 have e:∀n:Nat,(List.replicate n [V.int 0]).flatten=List.replicate n (V.int 0):=fun n=>by
  induction n with
  | zero=>rfl
  | succ n ih=>rw [qC,vS,ih];rfl
 rw [e];refine iy (by simp) fun q h1 h2=>?_
 simp [lU]
theorem XR(h:o.Perm (List.range n)):(List.range n).map (fun p=>V.int (lU o o.length p))=(List.range n).map fun p=>V.int (o.idxOf p:Int):=by refine g8 fun p hp=>?_;unfold lU;rw [ae (pH ((gR h).mpr (aS.mp hp)))]
def rA(n:Nat)(ds:Nat→Addr)(un:Nat→Prop)(H H':Hp):Prop:=∀b o,H b=some o→(∀i,i<n→un i→b≠ds i)→H' b=some o
variable {ds:Nat→Addr}
theorem rA.refl{un:Nat→Prop}:rA n ds un H H:=fun _ _ h _=>h
variable {i:Nat}
theorem rA.put{un:Nat→Prop}(h:rA n ds un H H1)(hi:i<n)(ui:un i){o:HO}:rA n ds un H (upd H1 (ds i) o):=fun b u e k=>by rw [aE (k i hi ui)];exact h b u e k
theorem take_snoc{α:Type}{xs:List α}{x:α}(h:xs[i]?=some x):xs.take (i+1)=xs.take i++[x]:=by rw [nX,h];rfl
def i7(n:Nat)(f:Nat→List Nat)(ps:List Nat)(i j:Nat)(g:Nat→List Nat):Prop:=∀a b:Nat,a<n→(b∈g a↔b∈f a∨(a≠b∧(a∈ps.take i∧b∈ps∨ps[i]?=some a∧b∈ps.take j)))
theorem i7.start(n:Nat)(f:Nat→List Nat)(ps:List Nat):i7 n f ps 0 0 f:=fun a b _=>by simp
variable {f g:Nat→List Nat} {ps:List Nat}
theorem i7.row(h:i7 n f ps i ps.length g):i7 n f ps (i+1) 0 g:=fun a b ha=>by
 rw [h a b ha,iU];cases e:ps[i]? with
 | none=>
  have:ps.length≤i:=Gf.mp e;rw [zU this,zU (by lia)]
  simp
 | some x=>
  rw [take_snoc e];simp only [cM,cB,zY,List.take_zero,j4,and_false,kM];constructor
  ·rintro (z | ⟨z,z1 | z1⟩)
   ·exact .inl z
   ·exact .inr ⟨z,.inl z1.1,z1.2⟩
   ·exact .inr ⟨z,.inr z1.1.symm,z1.2⟩
  ·rintro (z | ⟨z,z1 | z1,z2⟩)
   ·exact .inl z
   ·exact .inr ⟨z,.inl ⟨z1,z2⟩⟩
   ·exact .inr ⟨z,.inr ⟨z1.symm,z2⟩⟩
variable {j:Nat}
theorem i7.same{x:Nat}(h:i7 n f ps i j g)(hi:ps[i]?=some x)(hj:ps[j]?=some x):i7 n f ps i (j+1) g:=fun a b ha=>by
 rw [h a b ha,take_snoc hj];simp only [cM,cB,hi,zY];constructor
 ·rintro (z | ⟨z,z1 | z1⟩)
  ·exact .inl z
  ·exact .inr ⟨z,.inl z1⟩
  ·exact .inr ⟨z,.inr ⟨z1.1,.inl z1.2⟩⟩
 ·rintro (z | ⟨z,z1 | ⟨z1,z2 | z2⟩⟩)
  ·exact .inl z
  ·exact .inr ⟨z,.inl z1⟩
  ·exact .inr ⟨z,.inr ⟨z1,z2⟩⟩
  ·exact absurd (z1.symm.trans z2.symm) z
theorem i7.put{x y:Nat}(h:i7 n f ps i j g)(hi:ps[i]?=some x)(hj:ps[j]?=some y)(ne:x≠y):i7 n f ps i (j+1) (gQ g x (dH (g x) y)):=fun a b ha=>by
 have e1:b∈gQ g x (dH (g x) y) a↔b∈g a∨(a=x∧b=y):=by
  unfold gQ;by_cases e:a=x
  ·subst e
   rw [ae rfl,jS];simp
  ·rw [aa e]
   simp [e]
 rw [e1,h a b ha,take_snoc hj];simp only [cM,cB,hi,zY];constructor
 ·rintro ((z | ⟨z,z1 | z1⟩) | ⟨rfl,rfl⟩)
  ·exact .inl z
  ·exact .inr ⟨z,.inl z1⟩
  ·exact .inr ⟨z,.inr ⟨z1.1,.inl z1.2⟩⟩
  ·exact .inr ⟨ne,.inr ⟨rfl,.inr rfl⟩⟩
 ·rintro (z | ⟨z,z1 | ⟨z1,z2 | z2⟩⟩)
  ·exact .inl (.inl z)
  ·exact .inl (.inr ⟨z,.inl z1⟩)
  ·exact .inl (.inr ⟨z,.inr ⟨z1,z2⟩⟩)
  ·exact .inr ⟨z1.symm,z2⟩
theorem i7.done(h:i7 n f ps ps.length 0 g):∀a b:Nat,a<n→(b∈g a↔b∈f a∨(a≠b∧a∈ps∧b∈ps)):=fun a b ha=>by rw [h a b ha,iU];simp
def XS:Sp:=fun vs H Q _=>∃(D pl:Addr) (n:Nat) (ds:Nat→Addr) (un:Nat→Prop) (f:Nat→List Nat) (ps:List Nat),vs=[.ref D,.ref pl]∧eU H D n ds un f∧H pl=some (.lst (ps.map fun k:Nat=>V.int (k:Int)))∧(∀p∈ps,p<n∧un p)∧n≤1000 ∧
 ∀(H':Hp) (g:Nat→List Nat),rA n ds un H H'→eU H' D n ds un g→(∀a b:Nat,a<n→(b∈g a↔b∈f a∨(a≠b∧a∈ps∧b∈ps)))→Q .aI H'
theorem eU.mono{H':Hp}{un:Nat→Prop}(h:eU H D n ds un f)(s:af H H'):eU H' D n ds un f:=⟨s _ _ h.lst,h.inj,h.ne,fun i hi ui=>s _ _ (h.at' i hi ui),h.pl⟩
theorem eU.less{un N7:Nat→Prop}(h:eU H D n ds un f)(k:∀i,i<n→N7 i→un i):eU H D n ds N7 f:=⟨h.lst,h.inj,h.ne,fun i hi ui=>h.at' i hi (k i hi ui),h.pl⟩
variable {x:Addr}
theorem eU.upd{un:Nat→Prop}(h:eU H D n ds un f){o:HO}(n1:x≠D)(n2:∀i,i<n→un i→ds i≠x):eU (upd H x o) D n ds un f:=⟨by rw [aE (Ne.symm n1)];exact h.lst,h.inj,h.ne,fun i hi ui=>by rw [aE (n2 i hi ui)];exact h.at' i hi ui,h.pl⟩
variable {a:Addr}
theorem XT{o:Obj}{kvs:List (Key×V)}(h:H1 a=some (.bE o (.dK kvs))):lE (jR a o kvs) (kvs.map fun kv=>kV kv.1) H1 where
 go:=fun i Hc s hi=>⟨s _ _ h,by simpa using hi⟩
 dZ:=fun i Hc x H' s y=>⟨y.1,fun _=>by obtain ⟨kv,e,rfl⟩:=y.2;rw [bz,e];rfl⟩
 stop:=fun i Hc s hi=>⟨s _ _ h,by simpa using hi⟩
theorem XU(ks:List Nat):(dk ks).map (fun kv=>kV kv.1)=ks.map fun k:Nat=>V.int (k:Int):=by unfold dk;rw [cx];rfl
theorem XW(ks:List Nat):(List.range ks.length).map (fun i=>ks.getD i 0)=ks:=by
 refine iy (by simp) fun i h1 h2=>?_
 simp [cQ,h2]
theorem XX(ks:List Nat)(pr:Nat→Bool):((List.range ks.length).filter fun i=>pr (ks.getD i 0)).map (fun i=>ks.getD i 0)=ks.filter pr:=by have e:=List.filter_map (f:=fun i=>ks.getD i 0) (l:=List.range ks.length) (p:=pr);rw [XW] at e;exact e.symm
variable {ρ:St→St} {tt:TT} {te:TE} {σ:St} {Q:VK} {ks:List Nat}
theorem Iw{ob:Obj}(h:H a=some (.bE ob (.dK (dk ks))))(pr:Nat→Bool)(hl:ks.length<sizeLine)
  (test:∀k∈ks,∀(Hc:Hp) (R:Bool→Hp→Prop),af H Hc→R (pr k) Hc→tt (some (.int (k:Int))::ρ σ) Hc R)
  (step:∀k∈ks,∀(Hc:Hp) (R:VK),R (.int (k:Int)) Hc→te (some (.int (k:Int))::ρ σ) Hc R)
  (fin:∀D Hc,H D=none→af H Hc→Hc D=some (.lst ((ks.filter pr).map fun k:Nat=>V.int (k:Int)))→Q (.ref D) Hc):jj (fun _ H R=>R (jR a ob (dk ks)) H) ρ tt te σ H Q:=by
 have at':∀{i:Nat} {x:V},(ks.map fun k:Nat=>V.int (k:Int))[i]?=some x→i<ks.length∧x=.int ((ks.getD i 0:Nat):Int)∧ks.getD i 0∈ks:=fun{i x} hx=>by
  have hi:i<ks.length:=by have:=(bV.mp hx).1;simpa using this
  rw [bz] at hx;simp [hi] at hx;rw [getD_at hi];exact ⟨hi,hx.symm,aV hi⟩
 refine Xa (xs:=ks.map fun k:Nat=>V.int (k:Int)) (fun i=>pr (ks.getD i 0)) (fun R k=>k _ (by rw [←XU];exact XT h)) (by rw [ay];exact hl) (fun _ i y _=>y=.int ((ks.getD i 0:Nat):Int)) (fun _ _ _ _ _ _ h _ _=>h) ?_ ?_ ?_
 ·intro i x hx Hc R sc hR
  obtain ⟨_,rfl,m⟩:=at' hx;exact test _ m Hc R sc hR
 ·intro D i x hx Hc R sc _ kc
  obtain ⟨_,rfl,m⟩:=at' hx;exact step _ m Hc R (kc _ Hc (af.refl _) rfl)
 ·intro D ys Hc nD sc ly hP eD
  refine fin D Hc nD sc ?_;rw [eD,←XX ks pr,cx];rw [ay] at ly hP
  congr 2
  refine iy (by simpa using ly) fun k h1 h2=>?_
  have h3:k<((List.range ks.length).filter fun i=>pr (ks.getD i 0)).length:=by simpa using h2
  rw [iV];exact hP k _ _ (aZ h1) (aZ h3)
theorem N8(p:ws.Perm (ks.map iN)):∃ms:List Nat,ws=ms.map iN∧ms.Perm ks:=by
 refine ⟨ws.map Int.toNat,?_,?_⟩
 ·rw [cx]
  conv=>lhs;rw [←qL ws]
  refine g8 fun z hz=>?_
  obtain ⟨k,_,rfl⟩:=bK.mp (p.mem_iff.mp hz)
  show iN k=iN (Int.toNat (iN k))
  unfold iN
  rw [en]
 ·have:=p.map Int.toNat
  rw [cx] at this
  have e:ks.map (Int.toNat ∘ iN)=ks:=by
   conv=>rhs;rw [←qL ks]
   exact g8 fun k _=>en k
  rw [e] at this
  exact this
structure jy (n:Nat) (o:List Nat) (p:Nat) (ms:List Nat):Prop where
 up:ms.Pairwise (· < ·)
 lt:∀q∈ms,q<n
 la:∀q∈ms,o.idxOf p<o.idxOf q
theorem XY{ms:List Nat}(hk:jT n ks)(h:ms.Perm (ks.filter fun q=>decide (o.idxOf p<o.idxOf q)))(s:(ms.map iN).Pairwise (·≤·)):jy n o p ms:=by
 have m:∀q∈ms,q∈ks∧o.idxOf p<o.idxOf q:=fun q hq=>by have:=b8.mp (h.mem_iff.mp hq);exact ⟨this.1,by simpa using this.2⟩
 refine ⟨?_,fun q hq=>hk.2 q (m q hq).1,fun q hq=>(m q hq).2⟩;have nd:ms.Nodup:=h.nodup_iff.mpr (hk.1.filter _);rw [jG] at s;refine List.Pairwise.imp₂ (fun a b h1 h2=>?_) s nd;have h1:(a:Int)≤(b:Int):=h1;have h2:a≠b:=h2;lia
def N9(H:Hp)(D:Addr)(n:Nat)(rs:Nat→Addr)(g:Nat→List Nat):Prop:=H D=some (.lst ((List.range n).map fun p=>V.ref (rs p)))∧∀p,p<n→H (rs p)=some (.lst ((g p).map fun k:Nat=>V.int (k:Int)))
theorem XZ(h:lT zs n):∃o:List Nat,zs=o.map iN∧o.Perm (List.range n):=N8 h
def lV(rs:Nat→Addr)(p:Nat)(x:Addr):Nat→Addr:=fun q=>if q=p then x else rs q
theorem X0(n:Nat)(rs:Nat→Addr)(p:Nat)(x:Addr):((List.range n).map fun q=>V.ref (rs q)).set p (.ref x)=(List.range n).map fun q=>V.ref (lV rs p x q):=by
 refine iy (by simp) fun q h1 h2=>?_
 rw [List.getElem_set,iV,qK,iV,qK];unfold lV;by_cases e:p=q
 ·subst e
  rw [ae rfl,ae rfl]
 ·rw [aa e,aa (Ne.symm e)]
variable {rs:Nat→Addr}
theorem N_:lV rs p x p=x:=ae rfl
variable {q:Nat}
theorem X1(h:q≠p):lV rs p x q=rs q:=aa h
theorem X2{x:List Nat}:gQ f p x p=x:=ae rfl
theorem X3{x:List Nat}(h:q≠p):gQ f p x q=f q:=aa h
theorem qa{g:Nat→V}(h:p<n):mP ((List.range n).map g) (p:Int)=some (g p):=C3 (by rw [bz,mr h];rfl)
theorem X4(o ks:List Nat)(p:Nat):(ks.filter fun q=>decide ((o.idxOf p:Int)<(o.idxOf q:Int)))=ks.filter fun q=>decide (o.idxOf p<o.idxOf q):=by refine List.filter_congr fun q _=>?_;rw [pb,fT,fT];lia
theorem ni(h:o.Perm (List.range n))(hp:p<n)(hq:q<n)(ne:p≠q):o.idxOf p≠o.idxOf q:=fun z=>by
 obtain ⟨h1,e1⟩:=A9 ((gR h).mpr hp);obtain ⟨h2,e2⟩:=A9 ((gR h).mpr hq);refine ne ?_;rw [←e1,←e2]
 congr 1
theorem DU{wi:TI}(h:wi σ H fun J H1=>jj (fun _ H R=>R J H) ρ tt te σ H1 Q):jj wi ρ tt te σ H Q:=h
end My
namespace L2
open PySem PySem.Spec PyProof.Rows
section
variable {X:Cx} {pins:aO} {σ:St} {H:Hp} {s:Shared}
end
end L2
namespace My
open PySem L2
variable {n p:Nat}
theorem Iy{o:List Nat}(h:o.Perm (List.range n)){ms:List Nat}(k:jy n o p ms):ms.length≤n-1-o.idxOf p:=by
 have nd:(ms.map fun q=>o.idxOf q-(o.idxOf p+1)).Nodup:=by rw [kT,jG];refine Gs (fun{a b} ha hb lt=>?_) k.up;have h1:=k.la a ha;have h2:=k.la b hb;have ne:=ni h (k.lt a ha) (k.lt b hb) (bZ lt);lia
 have:=Ir (n:=n-1-o.idxOf p) nd (fun x hx=>by obtain ⟨q,hq,rfl⟩:=bK.mp hx;have h1:=k.la q hq;have h2:=(A9 ((gR h).mpr (k.lt q hq))).1;rw [t9 h] at h2;lia)
 rwa [ay] at this
theorem Oa{f g:Nat→Nat}:∀{l:List Nat},(∀p∈l,f p≤g p)→(l.map f).sum≤(l.map g).sum
 | [],_=>au _
 | a::r,h=>by have h1:=h a (cj ..);have h2:=Oa (l:=r) fun p hp=>h p (ck _ hp);simp only [cO,d7];lia
def dI(p q:Nat):Int×Int:=(if (q:Int)<(p:Int) then (q:Int) else (p:Int),if (q:Int)>(p:Int) then (q:Int) else (p:Int))
theorem X5{q:Nat}(hp:p<n)(hq:q<n):0≤(dI p q).2∧(dI p q).2<(n:Int):=by
 unfold dI;dsimp only
 split <;> lia
theorem bT.app{H:Hp}{xs ys:List V}{M N:ak}(h:bT H xs M)(h':bT H ys N):bT H (xs++ys) (M++N):=by
 have l1:=h.1;have l2:=h'.1;refine ⟨by simp [l1,l2],fun k v p h1 h2=>?_⟩
 by_cases e:k<xs.length
 ·rw [gZ e] at h1
  rw [gZ (by lia)] at h2
  exact h.2 k v p h1 h2
 ·rw [iw (by lia)] at h1
  rw [iw (by lia),←l1] at h2
  exact h'.2 _ v p h1 h2
theorem X6{g:Nat→Nat}{k:Nat}(h:k≤n):((List.range k).map g).sum≤((List.range n).map g).sum:=by
 induction n with
 | zero=>rw [Nat.le_zero.mp h];exact au _
 | succ n ih=>
  by_cases e:k=n+1;·subst e;exact au _
  ·have:=ih (by lia)
   rw [vV,eW,List.sum_append];lia
end My
namespace L2
open PySem PySem.Spec PyProof.Rows
theorem Iz{X:Cx}{E:XK}(L:w5 X E):PassesOwn (model X.prog X.w) X.A X.env X.xe:=by rw [L.xe];exact PassesOwn.leaving
end L2
namespace My
open PySem L2
def X7:Sp:=fun vs H Q _=>∃m:Nat,vs=[.int (m:Int)]∧m≤1000∧Q (.int ((m:Int)*m+3*m+1)) H
def X8:Sp:=fun vs H Q _=>∃(t:Addr) (n:Nat) (L:ak),vs=[.ref t]∧cL H t n L∧n≤9∧Q .aI H
end My
namespace L2
open PySem PySem.Spec PyProof.Rows
def Ob(K:aD):R2:=fun x y H Q=>∃a b xs ys,x=.ref a∧y=.ref b∧eK K H a xs∧eK K H b ys∧ys≠[]∧xs.length+ys.length≤sizeLine ∧
 (xs=[]→Q (.ref b) H)∧(xs≠[]→∀p,H p=none→Q (.ref p) (upd H p (.tup (xs++ys))))
theorem X9{X:Cx}:dr X (binaryOp .Add) (Ob X.K):=by
 intro pins s σ H x y v u Q I rx ry h;by_cases hx:∃a b xs ys,x=.ref a∧y=.ref b∧eK X.K H a xs∧eK X.K H b ys∧xs=[]∧Q (.ref b) H
 ·obtain ⟨a,b,xs,ys,rfl,rfl,ha,hb,rfl,q⟩:=hx
  cases rx;cases ry;obtain ⟨its,r1,p1,_⟩:=I.tuple ha;obtain ⟨jL,r2,p2,_⟩:=I.tuple hb;have e0:its=[]:=r1.C2.mpr rfl;subst e0;obtain ⟨⟨cls,dd,data,sl⟩,ho,hc,n,hd⟩:=id p1;obtain ⟨⟨MN,ra,data2,kd⟩,jg,iZ,n2,hd2⟩:=id p2;simp only at hc hd iZ hd2;subst hc hd iZ hd2
  exact concat_meets ⟨_,ho,rfl⟩ ⟨_,jg,rfl⟩ noFill_tuple_add seq_tuple_add Gg Gh (Gi _ _)
   (tuple_addW0 a b _ jL.toArray n n2 dd ra sl kd (by simp)) ⟨ho,jg,⟨.ref b,H,I,rfl,q⟩⟩
 ·obtain ⟨a,b,xs,ys,rfl,rfl,ha,hb,hy,hz,q1,q2⟩:=h
  have ne:xs≠[]:=fun z=>hx ⟨a,b,xs,ys,rfl,rfl,ha,hb,z,q1 z⟩;exact U4 pins s σ H _ _ v u Q I rx ry ⟨a,b,xs,ys,rfl,rfl,ha,hb,ne,hz,fun z=>absurd z hy,fun _=>q2 ne⟩
end L2
namespace My
open PySem L2
end My
namespace L2
open PySem PySem.Spec PyProof.Rows
theorem Oc{X:Cx}{K:aD}(hk:X.K=K:=by rfl):dr X (binaryOp .Add) (Ob K):=by subst hk;exact X9
end L2
namespace My
open PySem L2
end My
namespace L2
open PySem PySem.Spec PyProof.Rows
theorem xH{X:Cx}{K:aD}(hk:X.K=K:=by rfl):dr X (compareOp .In) (C4 K false):=by subst hk;exact MU
end L2
namespace My
open PySem L2
def IA:V→Nat
 | .int i=>i.toNat
 | _=>0
theorem Od{ys:List V}{n:Nat}(p:ys.Perm (dz n)):∃o:List Nat,ys=o.map (fun k:Nat=>V.int (k:Int))∧o.Perm (List.range n):=by
 refine ⟨ys.map IA,?_,?_⟩
 ·rw [cx]
  conv=>lhs;rw [←qL ys]
  refine g8 fun y hy=>?_
  obtain ⟨k,_,rfl⟩:=bK.mp (p.mem_iff.mp hy)
  show V.int (k:Int)=V.int (((k:Int).toNat:Nat):Int)
  rw [en]
 ·have:=p.map IA
  unfold dz at this
  rw [cx] at this
  have e:(List.range n).map (IA ∘ fun i:Nat=>V.int (i:Int))=List.range n:=by
   conv=>rhs;rw [←qL (List.range n)]
   exact g8 fun k _=>en k
  rw [e] at this
  exact this
theorem X_(xs:List V)(k:Nat)(h:k≤xs.length):ot xs none (some (k:Int))=xs.take k:=by
 unfold ot HT.hG;simp only;rw [aa (by lia),en,Nat.min_eq_left h,Nat.sub_zero]
 rfl
inductive qb (bw:Nat→Nat→Prop) (bX:Nat→Prop) (s:Nat):Nat→Prop where
 | start:qb bw bX s s
 | step {a b:Nat}:qb bw bX s a→(a=s∨bX a)→bw a b→qb bw bX s b
structure gh (n:Nat) (bw:Nat→Nat→Prop) (bX:Nat→Prop) (s:Nat) (here:Option Nat) (dn:Nat→Prop) (ks ws:List Nat):Prop where
 pl:jT n ks
 st:s∈ks
 rc:∀k∈ks,qb bw bX s k
 wt:∀w∈ws,w∈ks∧(w=s∨bX w)
 cl:∀k∈ks,(k=s∨bX k)→k∈ws∨∀b,bw k b→b∈ks∨(here=some k∧¬dn b)
variable {n:Nat} {bw:Nat→Nat→Prop} {bX:Nat→Prop} {s:Nat}
variable {dn:Nat→Prop}
theorem gh.start(hs:s<n):gh n bw bX s none dn [s] [s]:=
 ⟨⟨by simp,fun k hk=>by rw [cB.mp hk];exact hs⟩,cB.mpr rfl,fun k hk=>by rw [cB.mp hk];exact .start,fun w hw=>⟨hw,.inl (cB.mp hw)⟩,fun k hk _=>.inl hk⟩
variable {ks ws:List Nat} {h:Nat}
theorem gh.pop(k:gh n bw bX s none dn ks (ws++[h])):gh n bw bX s (some h) (fun _=>False) ks ws:=
 ⟨k.pl,k.st,k.rc,fun w hw=>k.wt w (ja _ hw),fun x hx ox=>by
  rcases k.cl x hx ox with e | e
  ·rcases cM.mp e with e | e
   ·exact .inl e
   ·exact .inr fun b _=>.inr ⟨by rw [cB.mp e],fun z=>z⟩
  ·exact .inr fun b hb=>.inl ((e b hb).resolve_right fun z=>by cases z.1)⟩
variable {b:Nat}
theorem gh.old(k:gh n bw bX s (some h) dn ks ws)(hb:b∈ks):gh n bw bX s (some h) (fun x=>dn x∨x=b) ks ws:=
 ⟨k.pl,k.st,k.rc,k.wt,fun x hx ox=>by
  rcases k.cl x hx ox with e | e;·exact .inl e
  ·refine .inr fun c hc=>?_
   rcases e c hc with e | e;·exact .inl e
   ·by_cases z:c=b
    ·rw [z];exact .inl hb
    ·exact .inr ⟨e.1,fun q=>q.elim e.2 z⟩⟩
theorem gh.new{vs:List Nat}(k:gh n bw bX s (some h) dn ks ws)(hb:b∉ks)(bn:b<n)(hh:h∈ks)(oh:h=s∨bX h)(ab:bw h b)(hv:(bX b∧vs=ws++[b])∨(¬bX b∧vs=ws)):gh n bw bX s (some h) (fun x=>dn x∨x=b) (dH ks b) vs:=by
 have bs:b≠s:=fun z=>hb (z▸k.st);have sub:∀w∈ws,w∈vs:=fun w hw=>by
  rcases hv with ⟨_,rfl⟩ | ⟨_,rfl⟩;·exact ja _ hw
  ·exact hw
 refine ⟨k.pl.add bn,jS.mpr (.inl k.st),fun x hx=>?_,fun w hw=>?_,fun x hx ox=>?_⟩
 ·rcases jS.mp hx with e | rfl
  ·exact k.rc x e
  ·exact .step (k.rc h hh) oh ab
 ·rcases hv with ⟨tb,rfl⟩ | ⟨_,rfl⟩
  ·rcases cM.mp hw with e | e
   ·exact ⟨jS.mpr (.inl (k.wt w e).1),(k.wt w e).2⟩
   ·rw [cB.mp e]
    exact ⟨jS.mpr (.inr rfl),.inr tb⟩
  ·exact ⟨jS.mpr (.inl (k.wt w hw).1),(k.wt w hw).2⟩
 ·rcases jS.mp hx with e | rfl
  ·rcases k.cl x e ox with e | e
   ·exact .inl (sub x e)
   ·refine .inr fun c hc=>?_
    rcases e c hc with e | e;·exact .inl (jS.mpr (.inl e))
    ·by_cases z:c=b
     ·exact .inl (jS.mpr (.inr z))
     ·exact .inr ⟨e.1,fun q=>q.elim e.2 z⟩
  ·rcases hv with ⟨tb,rfl⟩ | ⟨tb,rfl⟩
   ·exact .inl (ei _ (cB.mpr rfl))
   ·exact absurd ox (fun z=>z.elim bs tb)
theorem gh.next{Ya:Nat→Prop}(k:gh n bw bX s (some h) dn ks ws)(all:∀b,bw h b→dn b):gh n bw bX s none Ya ks ws:=
 ⟨k.pl,k.st,k.rc,k.wt,fun x hx ox=>by
  rcases k.cl x hx ox with e | e;·exact .inl e
  ·refine .inr fun c hc=>.inl ?_
   rcases e c hc with e | ⟨e,e2⟩;·exact e
   ·cases e
    exact absurd (all c hc) e2⟩
theorem gh.done(k:gh n bw bX s none dn ks [])(x:Nat):x∈ks↔qb bw bX s x:=by
 refine ⟨k.rc x,fun h=>?_⟩
 induction h with
 | start=>exact k.st
 | step _ o ab ih=>
  rcases k.cl _ ih o with e | e;·cases e
  ·exact (e _ ab).resolve_right fun z=>by cases z.1
theorem Yb{ms:List Nat}(h1:ks.Nodup)(h2:ms.Nodup)(e:∀x,x∈ks↔x∈ms)(p:Nat→Bool):(ks.filter p).length=(ms.filter p).length:=by have pm:ks.Perm ms:=(kU h1 h2).mpr e;exact (pm.filter p).length_eq
theorem Yc(h:b∉ks):(dH ks b).length=ks.length+1:=by unfold dH;rw [aa h,cW];rfl
end My
namespace L2
open PySem PySem.Spec PyProof.Rows
theorem Oe{X:Cx}{K:aD}(hk:X.K=K:=by rfl):dr X (compareOp .NotIn) (C4 K true):=by subst hk;exact Vb
end L2
namespace My
open PySem L2
def lW(n:Nat)(f:Nat→List Nat)(a b:Nat):Prop:=a<n∧b∈f a
def oQ(n:Nat)(f:Nat→List Nat)(done:List Nat)(p:Nat)(c:Nat):Prop:=∃ks:List Nat,jT n ks∧(∀x,x∈ks↔qb (lW n f) (·∈done) p x)∧c=(ks.filter fun q=>!decide (q=p) && !decide (q∈done)).length
def Yd:Sp:=fun vs H Q _=>∃(D d:Addr) (n:Nat) (ds:Nat→Addr) (f:Nat→List Nat) (done:List Nat) (p:Nat),vs=[.ref D,.ref d,.int (p:Int)]∧eU H D n ds (fun _=>True) f∧H d=some (.tup (done.map fun k:Nat=>V.int (k:Int)))∧done.length≤1000∧p<n∧n≤60 ∧
 ∀(H':Hp) (r:Addr) (xs:List V),(∀b o,H b=some o→(∀i,i<n→b≠ds i)→H' b=some o)→H' r=some (.lst xs)→oQ n f done p xs.length→Q (.ref r) H'
variable {a:Addr} {σ:St} {H:Hp}
theorem IC{ob:Obj}{ks:List Nat}{g:TG}{tb:TS}{D:Ends}(Pv:Nat→St→Hp→Prop)(h0:Pv 0 σ H)(hl:∀i σ H,i≤ks.length→Pv i σ H→H a=some (.bE ob (.dK (dk ks))))
  (hs:∀(i k:Nat) σ H,ks[i]?=some k→Pv i σ H→g (.int (k:Int)) σ H fun σ2 H2=>tb {D with nx:=Pv (i+1),ct:=Pv (i+1),bk:=D.nx} σ2 H2) (hd:∀σ H,Pv ks.length σ H→D.nx σ H) :
  ∃W:Nat→Nat→St→Hp→Prop,(∃m,W 0 m σ H)∧∀i m σ H,W i m σ H→
   ((jR a ob (dk ks)).stop i H∧D.nx σ H)∨((jR a ob (dk ks)).go i H∧∃N:St→Hp→Prop,(∀σ' H',N σ' H'→∃m',m'<m∧W (i+1) m' σ' H')∧∀x H',(jR a ob (dk ks)).dZ i H x H'→g x σ H' fun σ2 H2=>tb {D with nx:=N,ct:=N,bk:=D.nx} σ2 H2):=by
 refine ⟨fun i m σ H=>m=ks.length-i∧i≤ks.length∧Pv i σ H,⟨ks.length,by simp,bG _,h0⟩,?_⟩
 rintro i m σ H ⟨rfl,hi,p⟩;have q:=hl i σ H hi p;by_cases aR:i<ks.length
 ·refine .inr ⟨⟨q,by rw [DQ];exact aR⟩,Pv (i+1),fun σ' H' p'=>⟨ks.length-(i+1),by lia,rfl,aR,p'⟩,fun x H' y=>?_⟩
  obtain ⟨e,kv,ek,rfl⟩:=y;subst e;unfold dk at ek;rw [bz,aZ aR] at ek;cases ek;exact hs i _ σ _ (aZ aR) p
 ·have e:i=ks.length:=by lia
  subst e;exact .inl ⟨⟨q,by rw [DQ];exact au _⟩,hd σ H p⟩
structure e9 (H:Hp) (D:Addr) (n:Nat) (ds:Nat→Addr) (f:Nat→List Nat):Prop where
 lst:H D=some (.lst ((List.range n).map fun i=>V.ref (ds i)))
 at':∀i,i<n→H (ds i)=some (.dK (dk (f i)))∨∃ob,H (ds i)=some (.bE ob (.dK (dk (f i))))
variable {D:Addr} {n:Nat} {ds:Nat→Addr} {f:Nat→List Nat}
theorem eU.fr(h:eU H D n ds (fun _=>True) f):e9 H D n ds f:=⟨h.lst,fun i hi=>.inl (h.at' i hi trivial)⟩
theorem t_(done:List Nat)(k:Nat):f_ (.int (k:Int)) (done.map fun k:Nat=>V.int (k:Int))=decide (k∈done):=by
 unfold f_;rw [pb,Cw,fT];constructor
 ·rintro ⟨y,hy,e⟩
  obtain ⟨j,hj,rfl⟩:=bK.mp hy;have e:((j:Int) == (k:Int))=true:=e;rw [beq_iff_eq] at e;have:j=k:=by lia
  subst this;exact hj
 ·intro h
  exact ⟨_,bK.mpr ⟨k,h,rfl⟩,Nj rfl⟩
theorem DV(done:List Nat):(done.map fun k:Nat=>V.int (k:Int)).all k7=true:=by rw [pD];intro x hx;obtain ⟨j,_,rfl⟩:=bK.mp hx;rfl
variable {kvs:List (Key×V)} {R:It→Hp→Prop}
theorem Ye(h:H a=some (.dK kvs)∨∃ob,H a=some (.bE ob (.dK kvs)))(k:∀(ob:Obj) (Hf:Hp),Hf a=some (.bE ob (.dK kvs))→(∀b u,b≠a→H b=some u→Hf b=some u)→R (jR a ob kvs) Hf) :
  (H a=some (.dK kvs)∧∀o,R (jR a o kvs) (upd H a (.bE o (.dK kvs))))∨∃o,H a=some (.bE o (.dK kvs))∧R (jR a o kvs) H:=by
 rcases h with e | ⟨ob,e⟩;·exact .inl ⟨e,fun o=>k o _ ar fun b u ne hb=>by rw [aE ne];exact hb⟩
 ·exact .inr ⟨ob,e,k ob H e fun _ _ _ h=>h⟩
theorem e9.keep{H':Hp}(h:e9 H D n ds f)(k:∀b u,b≠a→H b=some u→H' b=some u)(nD:a≠D)(nd:∀i,i<n→ds i≠a):e9 H' D n ds f:=⟨k _ _ (Ne.symm nD) h.lst,fun i hi=>by
 rcases h.at' i hi with e | ⟨ob,e⟩;·exact .inl (k _ _ (nd i hi) e)
 ·exact .inr ⟨ob,k _ _ (nd i hi) e⟩⟩
theorem e9.bE{H H':Hp}{D:Addr}{n:Nat}{ds:Nat→Addr}{f:Nat→List Nat}(h:e9 H D n ds f){j:Nat}{ob:Obj}(k:∀b u,b≠ds j→H b=some u→H' b=some u)(hj:j<n)(e:H' (ds j)=some (.bE ob (.dK (dk (f j)))))(inj:∀i j,i<n→j<n→ds i=ds j→i=j)(nD:ds j≠D):e9 H' D n ds f:=⟨k _ _ (Ne.symm nD) h.lst,fun i hi=>by
 by_cases z:i=j;·subst z;exact .inr ⟨ob,e⟩
 ·rcases h.at' i hi with e | ⟨ob,e⟩
  ·exact .inl (k _ _ (fun q=>z (inj i j hi hj q)) e)
  ·exact .inr ⟨ob,k _ _ (fun q=>z (inj i j hi hj q)) e⟩⟩
def uc(n:Nat)(ds:Nat→Addr)(H H':Hp):Prop:=∀b o,H b=some o→(∀i,i<n→b≠ds i)→H' b=some o
theorem ID{tl:TE}(hp:∀Q:VK,Q (.ref a) H→tl σ H Q)(h:H a=some (.dK kvs)∨∃ob,H a=some (.bE ob (.dK kvs)))(k:∀(ob:Obj) (Hf:Hp),Hf a=some (.bE ob (.dK kvs))→(∀b u,b≠a→H b=some u→Hf b=some u)→R (jR a ob kvs) Hf):Ip tl σ H R:=hp _ ⟨a,kvs,rfl,Ye h k⟩
def Yf:Sp:=fun vs H Q _=>∃(t d:Addr) (n:Nat) (L:ak) (done:List Nat) (p:Nat),vs=[.ref t,.ref d,.int (p:Int)]∧cL H t n L∧e8 n L∧n≤9∧H d=some (.tup (done.map fun k:Nat=>V.int (k:Int)))∧done.length≤1000∧p<n ∧
 ∀(H':Hp) (f:Nat→List Nat) (c:Nat),af H H'→i6 n L f→oQ n f done p c→Q (.int ((c:Int)*c+3*c+1)) H'
variable {p c:Nat}
theorem oQ.le{done:List Nat}(h:oQ n f done p c):c≤n:=by obtain ⟨ks,pl,_,rfl⟩:=h;exact bU (nW _ _) pl.len
theorem oQ.same{L:ak}{g:Nat→List Nat}{done:List Nat}{e:Nat}(hf:i6 n L f)(hg:i6 n L g)(h:oQ n f done p c)(k:oQ n g done p e):c=e:=by
 obtain ⟨ks,pk,ik,rfl⟩:=h;obtain ⟨ms,pm,im,rfl⟩:=k;have ad:lW n f=lW n g:=by
  funext a b
  unfold lW;refine propext ⟨fun⟨x,y⟩=>⟨x,(hg a b x).mpr ((hf a b x).mp y)⟩,fun⟨x,y⟩=>⟨x,(hf a b x).mpr ((hg a b x).mp y)⟩⟩
 refine Yb pk.1 pm.1 (fun x=>?_) _;rw [ik,im,ad]
end My
namespace L2
open PySem PySem.Spec PyProof.Rows
end L2
namespace My
open PySem L2
theorem Yg{X:Cx}{pins:aO}{σ:St}{H:Hp}{s:Shared}(I:Inv X pins σ H s){A:Around}(hu:A.units<cLine){p q:Addr}{x y:Int×Int}(e:H p=some (.tup [.int x.1,.int x.2]))(e':H q=some (.tup [.int y.1,.int y.2])):SeqAt.EqAt A s (.ref p) (.ref q) (decide (x=y)):=by
 by_cases pq:p=q
 ·subst pq
  rw [e] at e';cases x;cases y;simp only [zY,HO.tup.injEq,List.cons.injEq,V.int.injEq,and_true] at e';rw [bu (Prod.ext e'.1 e'.2)];exact SeqAt.EqAt.same _
 obtain ⟨us,r1,t1,_⟩:=I.tuple (.of e);obtain ⟨vs,r2,t2,_⟩:=I.tuple (.of e');obtain ⟨a1,a2,rfl,IE,IF⟩:=vals2 r1;obtain ⟨b1,b2,rfl,IG,IH⟩:=vals2 r2;have z:=SeqAt.RcAt.tuples (A:=A) (e:=fun j=>if j=0 then fm (.int x.1) (.int y.1) else fm (.int x.2) (.int y.2)) t1 t2 hu (fun j z1 z2=>by
  have:j<2:=z1
  match j with
  | 0=>exact Ao IE IG rfl rfl
  | 1=>exact Ao IF IH rfl rfl)
 have ec:decide (x=y)=((List.range (min ([a1,a2]:List Value).toArray.size ([b1,b2]:List Value).toArray.size)).all (fun j=>if j=0 then fm (.int x.1) (.int y.1) else fm (.int x.2) (.int y.2)) && ([a1,a2]:List Value).toArray.size == ([b1,b2]:List Value).toArray.size):=by cases x;cases y;simp only [Prod.mk.injEq];show _=((List.range 2).all _ && true);simp [vV,fm];rfl
 rw [ec];exact SeqAt.EqAt.of_refs pq z
def A_(zs:List Int):List (Int×Int):=(List.range zs.length).map fun k=>(min (zs.getD k 0) (zs.getD ((k+1) % zs.length) 0),max (zs.getD k 0) (zs.getD ((k+1) % zs.length) 0))
def Yh(L:ak)(zs:List Int):List (Int×Int):=L.filter fun p=>decide (p.1∈zs) && decide (p.2∈zs)
end My
namespace L2
open PySem PySem.Spec PyProof.Rows My
structure II (J:It) (Z:ak) (H1:Hp):Prop where
 go:∀i Hc,af H1 Hc→i<Z.length→J.go i Hc
 dZ:∀i Hc v H',af H1 Hc→J.dZ i Hc v H'→af Hc H'∧∀z,Z[i]?=some z→∃T,v=.ref T∧H' T=some (.tup [.int z.1,.int z.2])
 stop:∀i Hc,af H1 Hc→Z.length≤i→J.stop i Hc
end L2
namespace My
open PySem L2
theorem xI(z:Int)(zs:List Int):f_ (.int z) (zs.map V.int)=decide (z∈zs):=by
 unfold f_;rw [List.any_map];by_cases h:z∈zs
 ·rw [bu h,Cw]
  exact ⟨z,h,by simp [fm]⟩
 ·rw [bY h,List.any_eq_false]
  intro x hx e;have:x=z:=by simpa [fm] using e
  exact h (this▸hx)
theorem IJ(zs:List Int):(zs.map V.int).all k7=true:=by rw [pD];intro x hx;obtain ⟨z,_,rfl⟩:=bK.mp hx;rfl
def ud(L:ak)(zs:List Int):Prop:=4≤zs.length∧zs.Nodup∧(A_ zs).Perm (Yh L zs)
instance (L:ak) (zs:List Int):Decidable (ud L zs):=by unfold ud;exact inferInstance
def xJ(p q:Int×Int):Prop:=p.1*1000+p.2≤q.1*1000+q.2
variable {M:ak}
theorem Yi{p:Array Nat}(P:pY M.length p)(U:tS (fun i=>(M.getD i (0,0)).1*1000+(M.getD i (0,0)).2) p M.length) :
  (p.toList.map fun i=>M.getD i (0,0)).Perm M∧(p.toList.map fun i=>M.getD i (0,0)).Pairwise xJ:=by
 have pm:p.toList.Perm (List.range M.length):=vZ.mp P;have lt:∀i∈p.toList,i<M.length:=fun i hi=>aS.mp (pm.mem_iff.mp hi);refine ⟨?_,?_⟩
 ·have e:((List.range M.length).map fun i=>M.getD i (0,0))=M:=by
   refine iy (by simp) fun i h1 h2=>?_
   rw [iV,qK,getD_at h2]
  have:=pm.map fun i=>M.getD i (0,0);rw [e] at this;exact this
 ·rw [pF]
  intro i j hi hj xj;rw [ay] at hi hj;rw [iV,iV];have sz:=P.size;have u:=U i j (by lia) (by rw [←sz,←fS];exact hj)
  unfold vN at u;have gi:p.getD i 0=p.toList[i]:=by
   have:i<p.size:=by rw [←fS];exact hi
   simp [Array.getD,this]
  have gj:p.getD j 0=p.toList[j]:=by
   have:j<p.size:=by rw [←fS];exact hj
   simp [Array.getD,this]
  rw [gi,gj] at u;exact u
theorem IK{H:Hp}{l:Addr}{us:List V}{Q:VK}(el:H l=some (.lst us))(hM:bT H us M)(m64:M.length<1000)(b:∀q∈M,0≤q.2∧q.2<1000)
  (k:∀(l':Addr) (ws:List V) (N:ak) (H':Hp),af H H'→H l'=none→H' l'=some (.lst ws)→bT H' ws N→N.Perm M→N.Pairwise xJ→Q (.ref l') H'):NL [.ref l] H Q:=by
 have lX:=hM.1;refine ⟨l,us,fun i=>(M.getD i (0,0)).1,fun i=>(M.getD i (0,0)).2,rfl,el,by lia,fun i v hv=>?_,fun p l' hp hu xK=>?_⟩
 ·have hi:i<M.length:=by rw [←lX];exact (bV.mp hv).1
  obtain ⟨c,rfl,ec⟩:=hM.2 i v M[i] hv (by simp [hi])
  dsimp only;rw [getD_at hi];exact ⟨⟨c,rfl,ec⟩,b _ (aV hi)⟩
 ·rw [lX] at hp hu
  obtain ⟨pm,pw⟩:=Yi hp hu;have hP:bT H (p.toList.map fun i=>us.getD i .aI) (p.toList.map fun i=>M.getD i (0,0)):=hM.pick _ fun i hi=>by have:p.toList.Perm (List.range M.length):=vZ.mp hp;exact aS.mp (this.mem_iff.mp hi)
  exact k l' _ _ _ (aK xK) xK ar (hP.mono (aK xK)) pm pw
end My
namespace L2
open PySem PySem.Spec PyProof.Rows My
end L2
namespace My
open PySem L2
inductive Wk (bw:Nat→Nat→Prop) (bX:Nat→Prop) (s:Nat):Nat→Prop where
 | one {b:Nat}:bw s b→Wk bw bX s b
 | more {a b:Nat}:Wk bw bX s a→bX a→bw a b→Wk bw bX s b
section
variable {bw:Nat→Nat→Prop} {bX rB:Nat→Prop} {s t:Nat}
theorem Yj(t:Nat):qb bw bX s t↔t=s∨Wk bw bX s t:=by
 constructor
 ·intro h
  induction h with
  | start=>exact .inl rfl
  | step _ o ab ih=>
   rcases ih with rfl | w;·exact .inr (.one ab)
   ·rcases o with rfl | o
    ·exact .inr (.one ab)
    ·exact .inr (.more w o ab)
 ·rintro (rfl | h)
  ·exact .start
  ·induction h with
   | one ab=>exact .step .start (.inl rfl) ab
   | more _ o ab ih=>exact .step ih (.inr o) ab
theorem Wk.mono(h:Wk bw bX s t)(k:∀x,bX x→rB x):Wk bw rB s t:=by
 induction h with
 | one ab=>exact .one ab
 | more _ o ab ih=>exact .more ih (k _ o) ab
theorem Wk.imp{Ba:Nat→Nat→Prop}(h:Wk bw bX s t)(k:∀a b,bw a b→Ba a b):Wk Ba bX s t:=by
 induction h with
 | one ab=>exact .one (k _ _ ab)
 | more _ o ab ih=>exact .more ih o (k _ _ ab)
theorem Wk.cons{a:Nat}(ab:bw s a)(ta:bX a)(h:Wk bw bX a t):Wk bw bX s t:=by
 induction h with
 | one e=>exact .more (.one ab) ta e
 | more _ o e ih=>exact .more ih o e
theorem Wk.symm(sy:∀a b,bw a b→bw b a)(h:Wk bw bX s t):Wk bw bX t s:=by
 induction h with
 | one ab=>exact .one (sy _ _ ab)
 | more _ o ab ih=>exact ih.cons (sy _ _ ab) o
theorem Wk.trans{p:Nat}(h:Wk bw bX s p)(tp:bX p)(h':Wk bw bX p t):Wk bw bX s t:=by
 induction h' with
 | one ab=>exact .more h tp ab
 | more _ o ab ih=>exact .more ih o ab
theorem Wk.step{p:Nat}(k:∀x,rB x↔bX x∨x=p):Wk bw rB s t↔Wk bw bX s t∨(Wk bw bX s p∧Wk bw bX p t):=by
 constructor
 ·intro h
  induction h with
  | one ab=>exact .inl (.one ab)
  | more _ o ab ih=>
   rcases (k _).mp o with o | rfl
   ·rcases ih with ih | ⟨i1,i2⟩
    ·exact .inl (.more ih o ab)
    ·exact .inr ⟨i1,.more i2 o ab⟩
   ·rcases ih with ih | ⟨i1,_⟩
    ·exact .inr ⟨ih,.one ab⟩
    ·exact .inr ⟨i1,.one ab⟩
 ·have m:∀x,bX x→rB x:=fun x h=>(k x).mpr (.inl h)
  rintro (h | ⟨h,h'⟩);·exact h.mono m
  ·exact (h.mono m).trans ((k p).mpr (.inr rfl)) (h'.mono m)
end
def aL(n:Nat)(L:ak)(a b:Nat):Prop:=a<n∧b<n∧(((a:Int),(b:Int))∈L∨((b:Int),(a:Int))∈L)
variable {n:Nat}
theorem gT{L:ak}(a b:Nat)(h:aL n L a b):aL n L b a:=⟨h.2.1,h.1,h.2.2.symm⟩
def qc(L:ak):Prop:=∀p∈L,p.1≠p.2
def d_(n:Nat)(o:List Nat)(k x:Nat):Prop:=x<n∧o.idxOf x<k
def ue(n:Nat)(L:ak)(o:List Nat)(k:Nat)(f:Nat→List Nat):Prop:=∀a b:Nat,a<n→b<n→k≤o.idxOf a→k≤o.idxOf b→(b∈f a↔a≠b∧Wk (aL n L) (d_ n o k) a b)
variable {o:List Nat}
theorem ue.start{L:ak}{f:Nat→List Nat}(nb:i6 n L f)(ns:qc L):ue n L o 0 f:=fun a b ha hb _ _=>by
 rw [nb a b ha];constructor
 ·intro h
  refine ⟨fun e=>?_,.one ⟨ha,hb,h⟩⟩;subst e;rcases h with h | h <;> exact ns _ h rfl
 ·rintro ⟨_,h⟩
  cases h with
  | one ab=>exact ab.2.2
  | more _ o _=>exact absurd o.2 (mq _)
theorem ue.step{n:Nat}{L:ak}{o:List Nat}(ho:o.Perm (List.range n)){k p:Nat}{f g:Nat→List Nat}{ms:List Nat}(h:ue n L o k f)(hp:p<n)(ip:o.idxOf p=k)(hm:∀q,q∈ms↔q∈f p∧k<o.idxOf q)(ml:∀q∈ms,q<n)
  (con:∀a b:Nat,a<n→(b∈g a↔b∈f a∨(a≠b∧a∈ms∧b∈ms))):ue n L o (k+1) g:=fun a b ha hb ka kb=>by
 have th:∀x,d_ n o (k+1) x↔d_ n o k x∨x=p:=fun x=>by
  unfold d_;constructor
  ·rintro ⟨h1,h2⟩
   by_cases e:o.idxOf x=k
   ·right
    by_cases z:x=p;·exact z
    ·exact absurd (e.trans ip.symm) (ni ho h1 hp z)
   ·exact .inl ⟨h1,by lia⟩
  ·rintro (⟨h1,h2⟩ | rfl)
   ·exact ⟨h1,by lia⟩
   ·exact ⟨hp,by lia⟩
 have ap:a≠p:=fun e=>by subst e;lia
 have bp:b≠p:=fun e=>by subst e;lia
 have ea:=h p a hp ha (by lia) (by lia)
 have eb:=h p b hp hb (by lia) (by lia)
 rw [con a b ha,h a b ha hb (by lia) (by lia),hm a,hm b,ea,eb,Wk.step th]
 constructor
 ·rintro (⟨h1,h2⟩ | ⟨h1,⟨⟨_,h2⟩,_⟩,⟨_,h3⟩,_⟩)
  ·exact ⟨h1,.inl h2⟩
  ·exact ⟨h1,.inr ⟨h2.symm gT,h3⟩⟩
 ·rintro ⟨h1,h2 | ⟨h2,h3⟩⟩
  ·exact .inl ⟨h1,h2⟩
  ·exact .inr ⟨h1,⟨⟨Ne.symm ap,h2.symm gT⟩,by lia⟩,⟨Ne.symm bp,h3⟩,by lia⟩
def lY(n:Nat)(L:ak)(o:List Nat)(p:Nat)(ms:List Nat):Prop:=∀q,q∈ms↔q<n∧o.idxOf p<o.idxOf q∧Wk (aL n L) (d_ n o (o.idxOf p)) p q
def Yk(N:Addr):Sp:=fun vs H Q E=>∃(t a:Addr) (n:Nat) (L:ak) (zs:List Int),vs=[.ref t,.ref a]∧cL H t n L∧e8 n L∧qc L∧n≤60∧H a=some (.lst (zs.map V.int))∧zs.length<64 ∧
 (¬lT zs n→∀H',af H H'→E (.ref N) none H') ∧
 ∀o:List Nat,zs=o.map iN→o.Perm (List.range n)→∀(H':Hp) (D:Addr) (rs:Nat→Addr) (g:Nat→List Nat),af H H'→H D=none→(∀p,p<n→H (rs p)=none)→N9 H' D n rs g→(∀p,p<n→jy n o p (g p)∧lY n L o p (g p))→Q (.ref D) H'
theorem IL{p q p' q':Nat}(h:dI p q=dI p' q'):(p=p'∧q=q')∨(p=q'∧q=p'):=by
 unfold dI at h;have h1:=fv Prod.fst h;have h2:=fv Prod.snd h;dsimp only at h1 h2
 split at h1 <;> split at h1 <;> split at h2 <;> split at h2 <;> lia
def bO(n:Nat)(L:ak)(o:List Nat)(M:ak):Prop:=M.Pairwise lexLt∧∀z,z∈M↔∃p q:Nat,p<n∧q<n∧o.idxOf p<o.idxOf q∧Wk (aL n L) (d_ n o (o.idxOf p)) p q∧z=dI p q
variable {M N:ak}
theorem bO.uniq{L:ak}(h:bO n L o M)(h':bO n L o N):M=N:=DL h.1 h'.1 fun z=>by rw [h.2 z,h'.2 z]
theorem bO.lt{n:Nat}{L:ak}{o:List Nat}{M:ak}(h:bO n L o M):∀z∈M,0≤z.1∧z.1<z.2∧z.2<(n:Int):=fun z hz=>by
 obtain ⟨p,q,hp,hq,hi,_,rfl⟩:=(h.2 z).mp hz;have ne:p≠q:=fun e=>by subst e;lia
 unfold dI;dsimp only
 split <;> split <;> lia
theorem Yl(h:N.Pairwise xJ)(nd:N.Nodup)(b:∀q∈N,0≤q.2∧q.2<1000):N.Pairwise lexLt:=by
 have:=List.Pairwise.and h nd;refine Gs (fun{x y} hx hy DW=>?_) this;obtain ⟨h1,h2⟩:=DW;have b1:=b x hx;have b2:=b y hy;obtain ⟨x1,x2⟩:=x;obtain ⟨y1,y2⟩:=y;unfold xJ at h1;unfold lexLt;dsimp only at *;by_cases z:x1<y1;·exact .inl z
 ·right
  have e1:x1=y1:=by lia
  subst e1;refine ⟨rfl,?_⟩;by_cases y:x2=y2
  ·subst y
   exact absurd rfl h2
  ·lia
variable {g:Nat→List Nat}
theorem Ym(h:o.Perm (List.range n))(n9:n≤30)(k:∀p,p<n→jy n o p (g p)):((List.range n).map fun p=>(g p).length).sum≤435:=by
 have a:=Oa (l:=List.range n) (f:=fun p=>(g p).length) (g:=fun p=>n-1-o.idxOf p) fun p hp=>Iy h (k p (aS.mp hp));have b:((List.range n).map fun p=>n-1-o.idxOf p).sum=(o.map fun p=>n-1-o.idxOf p).sum:=((h.map _).symm).sum_nat;have c:(o.map fun p=>n-1-o.idxOf p)=(List.range n).map fun k=>n-1-k:=by
  have nd:=p_ h;refine iy (by simp [t9 h]) fun i h1 h2=>?_
  rw [iV,iV,qK,DS nd (by simpa using h1)]
 have d:∀n:Nat,n≤30→((List.range n).map fun k=>n-1-k).sum≤435:=by decide
 rw [c] at b;have:=d n n9;lia
structure DX (H:Hp) (g:Nat→List Nat) (k:Nat) (xs:List V) (M:ak):Prop where
 at':bT H xs M
 len:M.length=((List.range k).map fun p=>(g p).length).sum
 mem:∀z,z∈M↔∃p q:Nat,p<k∧q∈g p∧z=dI p q
 nd:M.Nodup
variable {H:Hp} {xs ys:List V}
theorem DX.more{H':Hp}{k:Nat}(h:DX H g k xs M)(s:bT H xs M→bT H' xs M)(hk:k<n)(hg:∀p,p<n→jy n o p (g p))(hy:bT H' ys ((g k).map (dI k))):DX H' g (k+1) (xs++ys) (M++(g k).map (dI k)):=by
 have gk:=hg k hk;refine ⟨(s h.at').app hy,by rw [cW,h.len,ay,vV,eW,List.sum_append];simp,fun z=>?_,?_⟩
 ·rw [cM,h.mem,bK]
  constructor
  ·rintro (⟨p,q,h1,h2,h3⟩ | ⟨q,h1,rfl⟩)
   ·exact ⟨p,q,by lia,h2,h3⟩
   ·exact ⟨k,q,by lia,h1,rfl⟩
  ·rintro ⟨p,q,h1,h2,rfl⟩
   by_cases e:p=k
   ·subst e
    exact .inr ⟨q,h2,rfl⟩
   ·exact .inl ⟨p,q,by lia,h2,rfl⟩
 ·refine fD.mpr ⟨h.nd,?_,fun a ha b hb e=>?_⟩
  ·refine Ia (List.Pairwise.imp (fun h=>bZ h) gk.up) fun q q' hq Dh e=>?_
   rcases IL e with ⟨_,e⟩ | ⟨e1,e2⟩;·exact e
   ·lia
  ·subst e
   obtain ⟨p,q,h1,h2,rfl⟩:=(h.mem a).mp ha;obtain ⟨q',Dh,e⟩:=bK.mp hb;rcases IL e with ⟨e1,e2⟩ | ⟨e1,e2⟩;·lia
   ·have l1:=(hg p (by lia)).la q h2
    have l2:=gk.la q' Dh;subst e1;subst e2;lia
def Yn(N:Addr):Sp:=fun vs H Q E=>∃(t a:Addr) (n:Nat) (L:ak) (zs:List Int),vs=[.ref t,.ref a]∧cL H t n L∧e8 n L∧qc L∧n≤30∧H a=some (.lst (zs.map V.int))∧zs.length<64 ∧
 (¬lT zs n→∀H',af H H'→E (.ref N) none H') ∧
 ∀o:List Nat,zs=o.map iN→o.Perm (List.range n)→∀(H':Hp) (t':Addr) (M:ak),af H H'→H t'=none→cL H' t' n M→bO n L o M→M.length≤435→Q (.ref t') H'
def Yo:R2:=fun x y H Q=>∃(a b:Addr) (n:Nat) (L M:ak),x=.ref a∧y=.ref b∧cL H a n L∧cL H b n M∧Q (.bl (decide (L=M))) H
variable {X:Cx}
theorem Yp{pins:aO}{σ:St}{s:Shared}(I:L2.Inv X pins σ H s){A:Around}(hu:A.units<cLine){us vs:List Value}{L:ak}(k1:bT H xs L)(k2:bT H ys M)(r1:Vals xs us)(r2:Vals ys vs):∀j (z1:j<us.toArray.size) (z2:j<vs.toArray.size),SeqAt.EqAt A s us.toArray[j] vs.toArray[j] (decide (L.getD j (0,0)=M.getD j (0,0))):=fun j z1 z2=>by
 have l1:=r1.length;have l2:=r2.length;have m1:=k1.1;have m2:=k2.1;have AU:j<us.length:=by simpa using z1
 have XE:j<vs.length:=by simpa using z2
 obtain ⟨p,ep,hp⟩:=k1.2 j xs[j] (L.getD j (0,0)) (by simp) (by simp [cQ,show j<L.length by lia])
 obtain ⟨p',qU,rq⟩:=k2.2 j ys[j] (M.getD j (0,0)) (by simp) (by simp [cQ,show j<M.length by lia])
 obtain ⟨x',Ab,rx⟩:=r1.get (i:=j) (x:=xs[j]) (by simp)
 obtain ⟨y',Iu,ry⟩:=r2.get (i:=j) (x:=ys[j]) (by simp)
 have e1:us.toArray[j]=x':=by simpa using (bV.mp Ab).2
 have e2:vs.toArray[j]=y':=by simpa using (bV.mp Iu).2
 rw [e1,e2];rw [ep] at rx;rw [qU] at ry;cases rx;cases ry;exact Yg I hu hp rq
theorem Yq{L:ak}:((List.range (min L.length M.length)).all (fun j=>decide (L.getD j (0,0)=M.getD j (0,0))) && L.length == M.length)=decide (L=M):=by
 by_cases e:L=M
 ·subst e
  simp
 ·rw [bY e,Bool.eq_false_iff]
  intro h;rw [iS,pD] at h;obtain ⟨h1,h2⟩:=h;have hl:L.length=M.length:=by simpa using h2
  refine e (iy hl fun j g1 g2=>?_);have:=h1 j (aS.mpr (by lia))
  simpa [cQ,g1,g2] using this
theorem Yr(hu:X.A.units+64<cLine):dr X (compareOp .Eq) Yo:=by
 intro pins s σ H x y v u Q I rx ry h;obtain ⟨a,b,n,L,M,rfl,rfl,⟨la,ua,Ys,Of,k1⟩,⟨lb,ub,Yt,IM,k2⟩,q⟩:=h;cases rx;cases ry;obtain ⟨us,r1,t1,_⟩:=I.tuple (.of Ys);obtain ⟨vs,r2,t2,_⟩:=I.tuple (.of Yt);obtain ⟨a1,a2,rfl,IE,IF⟩:=vals2 r1;obtain ⟨b1,b2,rfl,IG,IH⟩:=vals2 r2;cases IF;cases IH;have inner:SeqAt.EqAt X.A.in1 s (.ref la) (.ref lb) (decide (L=M)):=by
  by_cases pq:la=lb
  ·subst pq
   rw [Of] at IM;cases IM;have:L=M:=by
    have m1:=k1.1;have m2:=k2.1;refine iy (by lia) fun j g1 g2=>?_
    obtain ⟨p,ep,hp⟩:=k1.2 j (ua[j]'(by lia)) L[j] (by simp) (by simp [g1])
    obtain ⟨p',qU,rq⟩:=k2.2 j (ua[j]'(by lia)) M[j] (by simp) (by simp [g2])
    rw [ep] at qU;cases qU;rw [hp] at rq;simp only [zY,HO.tup.injEq,List.cons.injEq,V.int.injEq,and_true] at rq;exact Prod.ext rq.1 rq.2
   rw [bu this];exact SeqAt.EqAt.same _
  ·obtain ⟨us,r1,t1,_⟩:=I.tuple (.of Of)
   obtain ⟨vs,r2,t2,_⟩:=I.tuple (.of IM);have z:=SeqAt.RcAt.tuples (A:=X.A.in1) t1 t2 (by rw [Around.in1_units];lia) (Yp I (by rw [Around.in1_units,Around.in1_units];lia) k1 k2 r1 r2)
   have e1:us.toArray.size=L.length:=by rw [cf,←r1.length];exact k1.1
   have e2:vs.toArray.size=M.length:=by rw [cf,←r2.length];exact k2.1
   rw [e1,e2,Yq] at z;exact SeqAt.EqAt.of_refs pq z
 refine SeqAt.eq_tupleAt (e:=fun j=>if j=0 then fm (.int (n:Int)) (.int (n:Int)) else decide (L=M)) t1 t2 (by lia) (fun j z1 z2=>?_) ⟨.bl (decide (L=M)),H,I,?_,q⟩
 ·have:j<2:=z1
  match j with
  | 0=>exact Ao IE IG rfl rfl
  | 1=>exact inner
 ·show RelV _ _
  have e:((List.range 2).all (fun j=>if j=0 then fm (.int (n:Int)) (.int (n:Int)) else decide (L=M)) && true)=decide (L=M):=by simp [vV,fm]
  exact fv Value.bool e.symm▸rfl
def Yu(N:Addr):Sp:=fun vs H Q E=>∃(t a:Addr) (n:Nat) (L:ak) (zs:List Int),vs=[.ref t,.ref a]∧cL H t n L∧e8 n L∧qc L∧n≤30∧H a=some (.lst (zs.map V.int))∧zs.length<64 ∧
 (¬lT zs n→∀H',af H H'→E (.ref N) none H') ∧
 ∀o:List Nat,zs=o.map iN→o.Perm (List.range n)→∀(H':Hp) (M:ak),af H H'→bO n L o M→Q (.bl (decide (M=L))) H'
end My
namespace L2
open PySem PySem.Spec PyProof.Rows
section
variable {X:Cx} {a b:Expr} {rest:List Expr} {pos:Pos} {ta tb:TE}
def Yv:V→List V→Hp→VK→Prop:=fun x vs H Q=>∃(l:Addr) (zs:List Int) (j:Nat) (z:Int),x=.ref l∧vs=[.int z]∧H l=some (.lst (zs.map V.int))∧zs[j]?=some z∧(∀m,m<j→zs[m]?≠some z)∧Q .aI (upd H l (.lst ((zs.map V.int).eraseIdx j)))
theorem Yw:wZ X "list.remove" Yv:=by
 intro pins s σ H x vs v us Q I rx rv h;obtain ⟨l,zs,j,z,rfl,rfl,hH,hj,IP,q⟩:=h;cases rx;obtain ⟨u,rfl,ru⟩:=rv.one;obtain ⟨t,rfl⟩:=ru;obtain ⟨sz,its,n,r,hl,e⟩:=I.oz hH;have Yx:j<zs.length:=(bV.mp hj).1;rw [ay] at hl sz;have at':∀m (hm:m<its.toArray.size),∃t',its.toArray[m]=.int (zs.getD m 0) t':=fun m hm=>by
  have d5:m<zs.length:=by simp at hm;lia
  obtain ⟨w,hw,gH⟩:=r.get (i:=m) (x:=.int (zs.getD m 0)) (by rw [bz,cQ,aZ d5];rfl)
  obtain ⟨t',rfl⟩:=gH;exact ⟨t',by simpa using (bV.mp hw).2⟩
 have zj:zs.getD j 0=z:=by rw [cQ,hj];rfl
 refine qD F.slot_list_remove ⟨_,e,rfl⟩ F.entry_list_remove (F.args_list_remove_2 _ _) (MeetsSeq.list_remove l its.toArray n (.int z t) (fun v=>numOf v == z) (fun y hy=>?_) j (by rw [cf];lia) ?_ (fun m hm IQ=>?_) (by rw [cf];lia)) ⟨e,?_⟩
 ·obtain ⟨m,hm,rfl⟩:=Array.getElem_of_mem hy
  obtain ⟨t',e'⟩:=at' m hm;rw [e'];exact MeetsSeq.EqGives.int _ _ _ _
 ·obtain ⟨t',e'⟩:=at' j (by rw [cf];lia)
  rw [e',zj];exact zQ z
 ·obtain ⟨t',e'⟩:=at' m hm
  rw [e'];have d5:m<zs.length:=by simp at hm;lia
  have:=IP m IQ;rw [aZ d5] at this;have ne:zs.getD m 0≠z:=fun q=>this (by rw [←q,cQ,aZ d5];rfl)
  show (zs.getD m 0 == z)=false;simpa using ne
 ·refine ⟨.aI,_,I.Av (its':=its.eraseIdx j) hH e ?_ (r.eraseIdx j) ?_,rfl,q⟩
  ·show its.toArray.eraseIdxIfInBounds j=(its.eraseIdx j).toArray
   rw [Gk]
  ·have:=G7 (zs.map V.int) j
   rw [ay] at this;lia
end
end L2
namespace My
open PySem L2
theorem Og:∀{zs:List Nat} {j m:Nat},m<zs.idxOf j→zs[m]?≠some j
 | [],_,_,h=>by simp at h
 | z::zs,j,m,h=>by
  by_cases e:z=j
  ·subst e
   simp [nY] at h
  ·rw [we,show (z == j)=false by simpa using e] at h
   dsimp only [cond_false] at h;cases m with
   | zero=>simpa using e
   | succ m=>rw [List.getElem?_cons_succ];exact Og (by lia)
theorem Oh{α β:Type}(f:α→β):∀(l:List α) (i:Nat),(l.map f).eraseIdx i=(l.eraseIdx i).map f
 | [],_=>rfl
 | _::_,0=>rfl
 | x::l,i+1=>by show f x::(l.map f).eraseIdx i=f x::(l.eraseIdx i).map f;rw [Oh f l i]
theorem Yy(xs:List V)(k:Nat):ot xs (some (k:Int)) none=xs.drop k:=by
 unfold ot;rw [HT.UY,HT.UX];by_cases h:k≤xs.length
 ·rw [Nat.min_eq_left h]
  exact zU (by rw [zN];lia)
 ·rw [Nat.min_eq_right (by lia),List.drop_of_length_le (au _),List.drop_of_length_le (by lia),List.take_nil]
end My
namespace L2
open PySem PySem.Spec PyProof.Rows
section
variable {prog:Program} {w:World} {A:Around} {E:aF} {s:Shared}
end
section
variable {prog:Program} {w:World} {A:Around} {E:aF} {s:Shared}
end
section
variable {X:Cx}
end
section
variable {prog:Program} {w:World} {A:Around} {E:aF} {s:Shared}
end
end L2
namespace My
open PySem L2
end My
namespace L2
open PySem PySem.Spec PyProof.Rows
end L2
namespace My
open PySem L2
end My
namespace L2
open PySem PySem.Spec PyProof.Rows
section
variable {X:Cx}
def Yz:V→List V→Hp→VK→Prop:=fun x vs H Q=>∃(l:Addr) (zs:List Int) (j:Nat) (z:Int),x=.ref l∧vs=[.int z]∧H l=some (.lst (zs.map V.int))∧zs.length≤1000∧zs[j]?=some z∧(∀m,m<j→zs[m]?≠some z)∧Q (.int (j:Int)) H
theorem IS:wZ X "list.index" Yz:=by
 intro pins s σ H x vs v us Q I rx rv h;obtain ⟨l,zs,j,z,rfl,rfl,hH,l1,hj,IP,q⟩:=h;cases rx;obtain ⟨u,rfl,ru⟩:=rv.one;obtain ⟨t,rfl⟩:=ru;obtain ⟨sz,its,n,r,hl,e⟩:=I.oz hH;have Yx:j<zs.length:=(bV.mp hj).1;rw [ay] at hl sz;have at':∀m (hm:m<its.toArray.size),∃t',its.toArray[m]=.int (zs.getD m 0) t':=fun m hm=>by
  have d5:m<zs.length:=by simp at hm;lia
  obtain ⟨w,hw,gH⟩:=r.get (i:=m) (x:=.int (zs.getD m 0)) (by rw [bz,cQ,aZ d5];rfl)
  obtain ⟨t',rfl⟩:=gH;exact ⟨t',by simpa using (bV.mp hw).2⟩
 have zj:zs.getD j 0=z:=by rw [cQ,hj];rfl
 refine qD F.slot_list_index ⟨_,e,rfl⟩ F.entry_list_index (F.args_list_index_2 _ _) (MeetsSeq.list_index l its.toArray n (.int z t) (fun v=>numOf v == z) (fun y hy=>?_) j (by rw [cf];lia) (by lia) ?_ (fun m hm IQ=>?_)) ⟨e,?_⟩
 ·obtain ⟨m,hm,rfl⟩:=Array.getElem_of_mem hy
  obtain ⟨t',e'⟩:=at' m hm;rw [e'];exact MeetsSeq.EqGives.int _ _ _ _
 ·obtain ⟨t',e'⟩:=at' j (by rw [cf];lia)
  rw [e',zj];exact zQ z
 ·obtain ⟨t',e'⟩:=at' m hm
  rw [e'];have d5:m<zs.length:=by simp at hm;lia
  have:=IP m IQ;rw [aZ d5] at this;have ne:zs.getD m 0≠z:=fun q=>this (by rw [←q,cQ,aZ d5];rfl)
  show (zs.getD m 0 == z)=false;simpa using ne
 ·exact ⟨.int (j:Int),H,I.tok _,⟨_,rfl⟩,q⟩
end
end L2
namespace My
open PySem L2
theorem Oi:∀{A B:List Nat},A.Pairwise (· < ·)→B.Pairwise (· < ·)→(∀p,p∈A↔p∈B)→A=B:=fun{A B} h1 h2 e=>by have nA:A.Nodup:=List.Pairwise.imp (fun h=>bZ h) h1;have nB:B.Nodup:=List.Pairwise.imp (fun h=>bZ h) h2;exact ((kU nA nB).mpr e).eq_of_pairwise (fun a b _ _ h h'=>by lia) h1 h2
theorem YA{A B:List Nat}(p:A.Perm B)(nd:B.Nodup)(s:(A.map iN).Pairwise (·≤·)):A.Pairwise (· < ·):=by rw [jG] at s;refine List.Pairwise.imp₂ (fun a b h1 h2=>?_) s (p.nodup_iff.mpr nd);have h1:(a:Int)≤(b:Int):=h1;have h2:a≠b:=h2;lia
def p2(g:Nat→Nat→Nat):List Nat→Nat
 | []=>0
 | x::l=>(l.map (g x)).sum+p2 g l
def p3(f:Nat→Nat→Nat→Nat):List Nat→Nat
 | []=>0
 | x::l=>p2 (f x) l+p3 f l
variable {g:Nat→Nat→Nat} {l l':List Nat}
theorem Oj(sy:∀x y,g x y=g y x)(p:l.Perm l'):p2 g l=p2 g l':=by
 induction p with
 | nil=>rfl
 | cons x p ih=>simp only [p2,ih];rw [(p.map (g x)).sum_nat]
 | swap x y l=>simp only [p2,cO,d7];rw [sy x y];lia
 | trans _ _ h1 h2=>exact h1.trans h2
theorem YB{f:Nat→Nat→Nat→Nat}(s1:∀x y z,f x y z=f y x z)(s2:∀x y z,f x y z=f x z y)(p:l.Perm l'):p3 f l=p3 f l':=by
 induction p with
 | nil=>rfl
 | cons x p ih=>simp only [p3,ih];rw [Oj (s2 x) p]
 | swap x y l=>simp only [p3,p2];rw [show l.map (f y x)=l.map (f x y) from g8 fun z _=>s1 y x z];lia
 | trans _ _ h1 h2=>exact h1.trans h2
variable {f:Nat→Nat}
theorem xM{g:Nat→Nat}(h:∀x∈l,f x=g x):(l.map f).sum=(l.map g).sum:=fv List.sum (g8 h)
theorem DY(h:∀x∈l,f x=0):(l.map f).sum=0:=by
 induction l with
 | nil=>rfl
 | cons x l ih=>rw [cO,d7,h x cj,ih fun y hy=>h y (ck _ hy)]
theorem YC{g:Nat→Nat}(h:∀x∈l,f x≤g x):(l.map f).sum≤(l.map g).sum:=by
 induction l with
 | nil=>exact au _
 | cons x l ih=>rw [cO,d7,cO,d7];have:=h x cj;have:=ih fun y hy=>h y (ck _ hy);lia
theorem YD{g:Nat→Nat}:(l.map fun x=>f x+g x).sum=(l.map f).sum+(l.map g).sum:=by
 induction l with
 | nil=>rfl
 | cons x l ih=>simp only [cO,d7,ih];lia
variable {b c:Nat}
theorem YE(nd:l.Nodup)(hb:b∈l):(l.map fun y=>if y=b then c else 0).sum=c:=by
 induction l with
 | nil=>cases hb
 | cons x l ih=>
  rw [cO,d7];obtain ⟨n1,n2⟩:=gY.mp nd;rcases bb.mp hb with rfl | h
  ·rw [ae rfl,DY fun y hy=>aa (fun e:y=b=>n1 (e▸hy))]
   lia
  ·rw [aa (fun e:x=b=>n1 (e▸h)),ih n2 h]
   lia
variable {g':Nat→Nat→Nat}
theorem Ol(nd:l.Nodup)(h:∀x∈l,∀y∈l,x≠y→g x y=g' x y):p2 g l=p2 g' l:=by
 induction l with
 | nil=>rfl
 | cons x l ih=>obtain ⟨n1,n2⟩:=gY.mp nd;show (l.map (g x)).sum+p2 g l=(l.map (g' x)).sum+p2 g' l;rw [xM fun y hy=>h x cj y (ck _ hy) fun e=>n1 (e▸hy),ih n2 fun a ha b hb=>h a (ck _ ha) b (ck _ hb)]
theorem xN(h:∀x∈l,∀y∈l,g x y≤g' x y):p2 g l≤p2 g' l:=by
 induction l with
 | nil=>exact au _
 | cons x l ih=>show (l.map (g x)).sum+p2 g l≤(l.map (g' x)).sum+p2 g' l;exact Nat.add_le_add (YC fun y hy=>h x cj y (ck _ hy)) (ih fun a ha b hb=>h a (ck _ ha) b (ck _ hb))
theorem DZ{f f':Nat→Nat→Nat→Nat}(h:∀x∈l,∀y∈l,∀z∈l,f x y z≤f' x y z):p3 f l≤p3 f' l:=by
 induction l with
 | nil=>exact au _
 | cons x l ih=>show p2 (f x) l+p3 f l≤p2 (f' x) l+p3 f' l;exact Nat.add_le_add (xN fun y hy z hz=>h x cj y (ck _ hy) z (ck _ hz)) (ih fun a ha b hb c hc=>h a (ck _ ha) b (ck _ hb) c (ck _ hc))
theorem YF:p2 (fun x y=>g x y+g' x y) l=p2 g l+p2 g' l:=by
 induction l with
 | nil=>rfl
 | cons x l ih=>simp only [p2,ih,YD];lia
theorem Om(h:∀x∈l,∀y,g x y=0):p2 g l=0:=by
 induction l with
 | nil=>rfl
 | cons x l ih=>show (l.map (g x)).sum+p2 g l=0;rw [DY fun y _=>h x cj y,ih fun a ha=>h a (ck _ ha)]
variable {a:Nat}
theorem YG(pw:l.Pairwise (· < ·))(ha:a∈l)(hb:b∈l)(ab:a<b):p2 (fun i j=>if i=a∧j=b then c else 0) l=c:=by
 induction l with
 | nil=>cases ha
 | cons x l ih=>
  obtain ⟨n1,n2⟩:=qI.mp pw;have nd:l.Nodup:=n2.imp fun h=>bZ h;show (l.map fun j=>if x=a∧j=b then c else 0).sum+p2 _ l=c
  rcases bb.mp ha with rfl | h
  ·have eE:b∈l:=by
    rcases bb.mp hb with rfl | h;·lia
    ·exact h
   rw [show (l.map fun j=>if a=a∧j=b then c else 0).sum=(l.map fun y=>if y=b then c else 0).sum from xM fun y _=>by simp,YE nd eE,Om fun i hi j=>aa fun e=>by have:=n1 i hi;lia]
   lia
  ·have xa:=n1 a h
   have eE:b∈l:=by
    rcases bb.mp hb with rfl | h;·lia
    ·exact h
   rw [DY fun y _=>aa fun e=>by lia,ih n2 h eE]
   lia
theorem Oo(pw:l.Pairwise (· < ·)):p2 g l=(l.map fun y=>(l.map fun z=>if y<z then g y z else 0).sum).sum:=by
 induction l with
 | nil=>rfl
 | cons x l ih=>
  obtain ⟨n1,n2⟩:=qI.mp pw;show (l.map (g x)).sum+p2 g l=_;rw [cO,d7,cO,d7,aa (d6 x),ih n2];rw [show (l.map fun z=>if x<z then g x z else 0).sum=(l.map (g x)).sum from xM fun z hz=>ae (n1 z hz)]
  rw [show (l.map fun y=>((x::l).map fun z=>if y<z then g y z else 0).sum).sum=(l.map fun y=>(l.map fun z=>if y<z then g y z else 0).sum).sum from xM fun y hy=>by
   rw [cO,d7,aa (by have:=n1 y hy;lia)]
   lia]
  lia
theorem Bb(n:Nat):(List.range n).Pairwise (· < ·):=wc
theorem Oq{n:Nat}{W:Nat→Nat→Nat}:∀{M:ak},M.Nodup→(∀z∈M,0≤z.1∧z.1<z.2∧z.2<(n:Int))→(M.map fun z=>W z.1.toNat z.2.toNat).sum=p2 (fun i j=>if ((i:Int),(j:Int))∈M then W i j else 0) (List.range n)
 | [],_,_=>by rw [Om fun i _ j=>aa fun h=>nomatch h];rfl
 | z::M,nd,lt=>by
  obtain ⟨n1,n2⟩:=gY.mp nd;obtain ⟨z0,z1,z2⟩:=lt z cj;rw [cO,d7,Oq n2 fun y hy=>lt y (ck _ hy)];have d:=YG (c:=W z.1.toNat z.2.toNat) (Bb n) (a:=z.1.toNat) (b:=z.2.toNat) (aS.mpr (by lia)) (aS.mpr (by lia)) (by lia)
  rw [←d,←YF];refine Ol fU fun i _ j _ _=>?_;by_cases e:i=z.1.toNat∧j=z.2.toNat
  ·have ez:((i:Int),(j:Int))=z:=by obtain ⟨e1,e2⟩:=e;subst e1;subst e2;rw [Int.toNat_of_nonneg z0,Int.toNat_of_nonneg (by lia)]
   obtain ⟨e1,e2⟩:=e;have hm:((i:Int),(j:Int))∈z::M:=ez.symm▸cj;have hn:¬((i:Int),(j:Int))∈M:=fun h=>n1 (ez▸h);rw [ae ⟨e1,e2⟩,ae hm,aa hn,←e1,←e2,vY]
  ·rw [aa e]
   have:((i:Int),(j:Int))≠z:=fun h=>e (by subst h;exact ⟨(en i).symm,(en j).symm⟩)
   by_cases h:((i:Int),(j:Int))∈M
   ·rw [ae h,ae (ck _ h)]
    lia
   ·rw [aa h,aa fun h'=>(bb.mp h').elim this h]
def rL(M:ak)(a b:Nat):Bool:=decide (((a:Int),(b:Int))∈M) || decide (((b:Int),(a:Int))∈M)
variable {M:ak}
theorem h_:rL M a b=true↔((a:Int),(b:Int))∈M∨((b:Int),(a:Int))∈M:=by unfold rL;rw [Bool.or_eq_true,fT,fT]
theorem Bc(M:ak)(a b:Nat):rL M a b=rL M b a:=Bool.or_comm ..
def dJ(r:Nat→Nat→Bool)(x y:Nat):Nat:=if r x y then 1 else 0
def dw(r:Nat→Nat→Bool)(x y z:Nat):Nat:=if r x y && r x z && r y z then 1 else 0
def Bd(n:Nat)(M:ak):Nat:=p3 (dw (rL M)) (List.range n)
def fg(n:Nat)(M:ak):Nat:=4*M.length+2*Bd n M+n
variable {n:Nat}
theorem Be(nd:M.Nodup)(lt:∀z∈M,0≤z.1∧z.1<z.2∧z.2<(n:Int)):M.length=p2 (dJ (rL M)) (List.range n):=by
 have:=Oq (W:=fun _ _=>1) nd lt;rw [show (M.map fun z=>(fun _ _=>1:Nat→Nat→Nat) z.1.toNat z.2.toNat).sum=M.length from by
  clear this nd lt
  induction M with
  | nil=>rfl
  | cons z M ih=>rw [cO,d7,ih,dm];exact Nat.add_comm 1 _] at this
 rw [this,Oo (Bb n),Oo (Bb n)];refine xM fun i _=>xM fun j _=>?_;by_cases ij:i<j
 ·rw [ae ij,ae ij]
  unfold dJ;by_cases h:((i:Int),(j:Int))∈M;·rw [ae h,ae (h_.mpr (.inl h))]
  ·rw [aa h,aa fun h'=>by
    rcases h_.mp h' with h' | h';·exact h h'
    ·have:=lt _ h'
     lia]
 ·rw [aa ij,aa ij]
theorem YH(M:ak)(x y z:Nat):dw (rL M) x y z=dw (rL M) y x z:=by unfold dw;rw [Bc M y x];cases rL M x y <;> cases rL M x z <;> cases rL M y z <;> rfl
theorem YI(M:ak)(x y z:Nat):dw (rL M) x y z=dw (rL M) x z y:=by unfold dw;rw [Bc M z y];cases rL M x y <;> cases rL M x z <;> cases rL M y z <;> rfl
theorem Ot(a:Nat→Bool):∀l:List Nat,2*p2 (fun y z=>if a y && a z then 1 else 0) l+(l.map fun y=>if a y then 1 else 0).sum=(l.map fun y=>if a y then 1 else 0).sum*(l.map fun y=>if a y then 1 else 0).sum
 | []=>rfl
 | x::l=>by
  have ih:=Ot a l;simp only [p2,cO,d7];by_cases h:a x
  ·simp only [h,Bool.true_and,kK]
   simp only [Nat.add_mul,Nat.mul_add];lia
  ·simp only [h,Bool.false_and,sE,ph]
   rw [DY fun _ _=>rfl,eJ,eJ];exact ih
def Good(r:Nat→Nat→Bool)(m:Nat→Nat):List Nat→Prop
 | []=>True
 | x::l=>m x=(l.map fun y=>if r x y then 1 else 0).sum∧(∀y∈l,∀z∈l,y≠z→r x y=true→r x z=true→r y z=true)∧Good r m l
theorem Ou{r:Nat→Nat→Bool}{m:Nat→Nat}:∀{l:List Nat},l.Nodup→Good r m l→(l.map fun x=>m x*m x+3*m x+1).sum=4*p2 (dJ r) l+2*p3 (dw r) l+l.length
 | [],_,_=>rfl
 | x::l,nd,⟨h1,h2,h3⟩=>by
  obtain ⟨n1,n2⟩:=gY.mp nd;have ih:=Ou n2 h3;have e:p2 (dw r x) l=p2 (fun y z=>if r x y && r x z then 1 else 0) l:=Ol n2 fun y hy z hz yz=>by
   unfold dw;by_cases a:r x y <;> by_cases b:r x z;·simp [a,b,h2 y hy z hz yz a b]
   ·simp [a,b]
   ·simp [a,b]
   ·simp [a,b]
  have e2:(l.map (dJ r x)).sum=m x:=h1.symm;have pk:=Ot (r x) l;rw [←h1] at pk;show m x*m x+3*m x+1+(l.map fun x=>m x*m x+3*m x+1).sum=4*((l.map (dJ r x)).sum+p2 (dJ r) l)+2*(p2 (dw r x) l+p3 (dw r) l)+(l.length+1);rw [ih,e2,e];lia
variable {o:List Nat}
theorem IT{L:ak}(f:bO n L o M)(h:aL n M a b){k:Nat}(hk:o.idxOf a≤k∨o.idxOf b≤k):Wk (aL n L) (d_ n o k) a b:=by
 have go:∀{a b:Nat},((a:Int),(b:Int))∈M→(o.idxOf a≤k∨o.idxOf b≤k)→Wk (aL n L) (d_ n o k) a b:=fun{a b} hm hk=>by
  obtain ⟨p,q,hp,hq,pq,w,e⟩:=(f.2 _).mp hm;have e:dI a b=dI p q:=by rw [←e];have:=f.lt _ hm;unfold dI;rw [aa (by lia),ae (by lia)]
  rcases IL e with ⟨rfl,rfl⟩ | ⟨rfl,rfl⟩;·exact w.mono fun x hx=>⟨hx.1,by have:=hx.2;lia⟩
  ·exact (w.symm gT).mono fun x hx=>⟨hx.1,by have:=hx.2;lia⟩
 rcases h.2.2 with h | h;·exact go h hk
 ·exact (go h hk.symm).symm gT
theorem nk{L:ak}(f:bO n L o M)(ha:a<n)(hb:b<n)(ab:o.idxOf a<o.idxOf b):rL M a b=true↔Wk (aL n L) (d_ n o (o.idxOf a)) a b:=by
 constructor
 ·intro h
  exact IT f ⟨ha,hb,h_.mp h⟩ (.inl (au _))
 ·intro w
  have hm:=(f.2 _).mpr ⟨a,b,ha,hb,ab,w,rfl⟩;rw [h_];unfold dI at hm;by_cases h:(b:Int)<(a:Int)
  ·rw [ae h,aa (by lia)] at hm
   exact .inr hm
  ·by_cases h':(b:Int)>(a:Int)
   ·rw [aa h,ae h'] at hm
    exact .inl hm
   ·have e:a=b:=by lia
    subst e;lia
theorem YJ{L N:ak}(f:bO n L o M)(f':bO n M o N):N=M:=by
 refine DL f'.1 f.1 fun z=>?_;rw [f'.2 z,f.2 z];have key:∀p q:Nat,p<n→q<n→o.idxOf p<o.idxOf q→(Wk (aL n M) (d_ n o (o.idxOf p)) p q↔Wk (aL n L) (d_ n o (o.idxOf p)) p q):=fun p q hp hq pq=>by
  constructor
  ·intro w
   have go:∀t,Wk (aL n M) (d_ n o (o.idxOf p)) p t→Wk (aL n L) (d_ n o (o.idxOf p)) p t:=fun t w=>by
    induction w with
    | one ab=>exact IT f ab (.inl (au _))
    | more _ ta ab ih=>exact ih.trans ta (IT f ab (.inl (jY ta.2)))
   exact go q w
  ·intro w
   exact .one ⟨hp,hq,h_.mp ((nk f hp hq pq).mpr w)⟩
 constructor
 ·rintro ⟨p,q,hp,hq,pq,w,e⟩
  exact ⟨p,q,hp,hq,pq,(key p q hp hq pq).mp w,e⟩
 ·rintro ⟨p,q,hp,hq,pq,w,e⟩
  exact ⟨p,q,hp,hq,pq,(key p q hp hq pq).mpr w,e⟩
theorem YK(l:List Nat)(c:Nat→Bool):(l.map fun k=>if c k then 1 else 0).sum=(l.filter c).length:=by
 induction l with
 | nil=>rfl
 | cons x l ih=>
  rw [nZ,cO,d7];by_cases h:c x;·rw [ae h,ae h,dm,ih];lia
  ·rw [aa h,aa h,ih];lia
theorem Ov{n:Nat}{L M:ak}{o:List Nat}(ho:o.Perm (List.range n))(f:bO n L o M){g:Nat→List Nat}(hg:∀p,p<n→jy n o p (g p)∧lY n L o p (g p)):∀(l pre:List Nat),o=pre++l→Good (rL M) (fun x=>(g x).length) l
 | [],_,_=>trivial
 | x::l,pre,e=>by
  have nd:=p_ ho;have uf:=nd;rw [e,fD] at uf;obtain ⟨np,nx,dj⟩:=uf;obtain ⟨YL,nl⟩:=gY.mp nx;have hx:x<n:=(gR ho).mp (by rw [e];simp)
  have ix:o.idxOf x=pre.length:=by rw [e,iW,aa fun h=>dj x h x cj rfl,nY,eJ]
  have il:∀y,y∈l↔y<n∧o.idxOf x<o.idxOf y:=fun y=>by
   constructor
   ·intro h
    refine ⟨(gR ho).mp (by rw [e];simp [h]),?_⟩
    have yx:y≠x:=fun q=>YL (q▸h);rw [ix,e,iW,aa fun h'=>dj y h' y (ck _ h) rfl,we,show (x == y)=false from by simpa using yx.symm]
    simp only [cond_false];lia
   ·rintro ⟨h,h'⟩
    have hm:=(gR ho).mpr h;rw [e,cM,bb] at hm;rcases hm with hm | rfl | hm
    ·rw [ix,e,iW,ae hm] at h'
     have:=pH hm;lia
    ·lia
    ·exact hm
  refine ⟨?_,?_,Ov ho f hg l (pre++[x]) (by rw [e];simp)⟩
  ·rw [YK]
   obtain ⟨gk,gw⟩:=hg x hx;refine ((kU (gk.up.imp fun h=>bZ h) (nl.filter _)).mpr fun q=>?_).length_eq;rw [gw q,b8,il q];constructor
   ·rintro ⟨h1,h2,h3⟩
    exact ⟨⟨h1,h2⟩,(nk f hx h1 h2).mpr h3⟩
   ·rintro ⟨⟨h1,h2⟩,h3⟩
    exact ⟨h1,h2,(nk f hx h1 h2).mp h3⟩
  ·intro y hy z hz yz ry rz
   obtain ⟨y1,y2⟩:=(il y).mp hy;obtain ⟨z1,z2⟩:=(il z).mp hz;have wy:=(nk f hx y1 y2).mp ry;have wz:=(nk f hx z1 z2).mp rz;have ne:=ni ho y1 z1 yz;have both:∀k,o.idxOf x<k→Wk (aL n L) (d_ n o k) y z:=fun k hk=>by
    have m:∀t,d_ n o (o.idxOf x) t→d_ n o k t:=fun t ht=>⟨ht.1,by have:=ht.2;lia⟩
    exact ((wy.symm gT).mono m).trans ⟨hx,hk⟩ (wz.mono m)
   by_cases h:o.idxOf y<o.idxOf z;·exact (nk f y1 z1 h).mpr (both _ y2)
   ·rw [Bc]
    exact (nk f z1 y1 (by lia)).mpr ((both _ z2).symm gT)
theorem Ow{L:ak}(ho:o.Perm (List.range n))(f:bO n L o M){g:Nat→List Nat}(hg:∀p,p<n→jy n o p (g p)∧lY n L o p (g p)) :
  ((List.range n).map fun x=>(g x).length*(g x).length+3*(g x).length+1).sum=fg n M:=by
 have nd:M.Nodup:=f.1.imp fun h e=>by subst e;unfold lexLt at h;lia
 have gs:=Ou (p_ ho) (Ov ho f hg o [] rfl);rw [←(ho.map fun x=>(g x).length*(g x).length+3*(g x).length+1).sum_nat,gs];unfold fg Bd;rw [Be nd f.lt,Oj (fun x y=>by unfold dJ;rw [Bc]) ho,YB (YH M) (YI M) ho,ho.length_eq,cC]
def YM(N:Addr):Sp:=fun vs H Q E=>∃(t a:Addr) (n:Nat) (L:ak) (zs:List Int),vs=[.ref t,.ref a]∧cL H t n L∧e8 n L∧qc L∧n≤30∧H a=some (.lst (zs.map V.int))∧zs.length<64 ∧
 (¬lT zs n→∀H',af H H'→E (.ref N) none H') ∧
 ∀o:List Nat,zs=o.map iN→o.Perm (List.range n)→∀(H':Hp),af H H'→∀d:Nat,(∀M,bO n L o M→d=fg n M)→Q (.int (d:Int)) H'
end My
namespace L2
open PySem
section
variable {prog:Program} {w:World} {A:Around} {E:aF} {s:Shared}
def IU(h:Heap)(d:Addr)(es:Array DictEntry)(ep:Nat):Prop:=∃o,h.get? d=some o∧o.ExactDict∧o.data=.dict es ep
theorem IU.ty{d:Addr}{es:Array DictEntry}{ep:Nat}(h:IU s.heap d es ep):s.TypeIs (.ref d) "dict":=let ⟨o,ho,hc,_⟩:=h;⟨o,ho,hc.1⟩
end
end L2
namespace My
open PySem L2
end My
namespace L2
open PySem PySem.Spec PyProof.Rows My
theorem YN{wi:TI}{ρ:St→St}{tt:TT}{te:TE}{σ:St}{H:Hp}{Q:VK}{xs:List V}(c:V→Bool)(eF:∀R:It→Hp→Prop,(∀J H1,af H H1→lE J xs H1→R J H1)→wi σ H R)(hn:xs.length<sizeLine)
  (test:∀x∈xs,∀(Hc:Hp) (R:Bool→Hp→Prop),af H Hc→R (c x) Hc→tt (some x::ρ σ) Hc R)
  (elem:∀(x:V) (Hc:Hp) (R:VK),R x Hc→te (some x::ρ σ) Hc R)
  (fin:∀D Hc,H D=none→af H Hc→Hc D=some (.lst (xs.filter c))→Q (.ref D) Hc):jj wi ρ tt te σ H Q:=by
 refine eF _ fun J H1 s1 js=>?_;intro D nD;refine ⟨fun i m ys Hc=>m=xs.length-i∧i≤xs.length∧Hc D=some (.lst ys)∧af H1 Hc∧ys.length≤i∧ys=(xs.take i).filter c,⟨_,rfl,bG _,ar,fc (af.refl H1) nD,au _,rfl⟩,?_⟩;rintro i m ys Hc ⟨rfl,hi,eD,sH,ly,hP⟩;refine ⟨eD,?_⟩;by_cases aR:i<xs.length
 ·refine .inr ⟨js.go i Hc sH aR,fun x H' hy=>?_⟩
  obtain ⟨rfl,hx⟩:=js.dZ i Hc x H' sH hy;have ex:=hx aR;have mx:x∈xs:=kJ ex;have tk:xs.take (i+1)=xs.take i++[x]:=by rw [nX,ex];rfl
  refine test x mx _ _ (s1.trans sH) ?_;by_cases hb:c x=true
  ·rw [ae hb]
   refine elem x _ _ ⟨eD,by lia,xs.length-(i+1),by lia,rfl,aR,ar,fc sH nD,by simp;lia,?_⟩
   rw [tk,pG,←hP,nZ,ae hb];rfl
  ·rw [aa hb]
   refine ⟨xs.length-(i+1),by lia,rfl,aR,eD,sH,by lia,?_⟩
   rw [tk,pG,←hP,nZ,aa hb,List.filter_nil,jF]
 ·have e:i=xs.length:=by lia
  subst e;rw [iU] at hP;subst hP;exact .inl ⟨js.stop _ Hc sH (au _),fin D Hc (none_of s1 nD) (s1.trans sH) eD⟩
end L2
namespace My
open PySem L2
section
variable {P a d:Addr} {H Hc:Hp} {n m:Nat} {L:ak}
end
variable {n:Nat}
theorem Bf{L M:ak}{o:List Nat}(f:bO n L o M):M.Nodup:=f.1.imp fun h e=>by subst e;unfold lexLt at h;lia
theorem cL.hE{H H':Hp}{t:Addr}{L:ak}(h:cL H t n L)(k:∀b xs,H b=some (.tup xs)→H' b=some (.tup xs)):cL H' t n L:=by obtain ⟨lt,us,h1,h2,h3⟩:=h;refine ⟨lt,us,k _ _ h1,k _ _ h2,h3.1,fun i v p e1 e2=>?_⟩;obtain ⟨b,e,g⟩:=h3.2 i v p e1 e2;exact ⟨b,e,k _ _ g⟩
section
variable {n:Nat} {E:Nat→Nat→Prop} {pos rk:Nat→Nat}
def ug(n:Nat)(E:Nat→Nat→Prop)(pos:Nat→Nat):Prop:=∀a b c,a<n→b<n→c<n→pos a<pos b→pos a<pos c→b≠c→E a b→E a c→E b c
structure Walk (n:Nat) (E:Nat→Nat→Prop) (p:Nat→Nat) (k:Nat):Prop where
 lt:∀i,i≤k→p i<n
 ne:∀i j,i<j→j≤k→p i≠p j
 ed:∀i j,i<j→j≤k→(E (p i) (p j)↔j=i+1)
theorem Walk.back{p:Nat→Nat}{k:Nat}(sy:∀a b,E a b→E b a)(h:Walk n E p k):Walk n E (fun i=>p (k-i)) k where
 lt:=fun i hi=>h.lt _ (by lia)
 ne:=fun i j ij jk=>(h.ne (k-j) (k-i) (by lia) (by lia)).symm
 ed:=fun i j ij jk=>by
  constructor
  ·intro e
   have:=(h.ed (k-j) (k-i) (by lia) (by lia)).mp (sy _ _ e)
   lia
  ·intro e
   exact sy _ _ ((h.ed (k-j) (k-i) (by lia) (by lia)).mpr (by lia))
theorem YO(cl:ug n E rk)(inj:∀a b,a<n→b<n→rk a=rk b→a=b)(sy:∀a b,E a b→E b a){c:Nat→Nat}{m:Nat}(m4:4≤m)(lt:∀i,i<m→c i<n)(ne:∀i j,i<j→j<m→c i≠c j)
  (ed:∀i j,i<j→j<m→(E (c i) (c j)↔j=i+1∨(i=0∧j=m-1))):False:=by
 have least:∀k,k<m→∃i,i≤k∧∀j,j≤k→rk (c i)≤rk (c j):=fun k=>by
  induction k with
  | zero=>exact fun _=>⟨0,au _,fun j hj=>by rw [show j=0 by lia];exact au _⟩
  | succ k ih=>
   intro hk;obtain ⟨i,hi,h⟩:=ih (by lia)
   by_cases q:rk (c i)≤rk (c (k+1))
   ·refine ⟨i,by lia,fun j hj=>?_⟩
    by_cases e:j=k+1;·rw [e];exact q
    ·exact h j (by lia)
   ·refine ⟨k+1,au _,fun j hj=>?_⟩
    by_cases e:j=k+1;·rw [e];exact au _
    ·have:=h j (by lia)
     lia
 obtain ⟨i,hi,h⟩:=least (m-1) (by lia)
 have less:∀j,j<m→j≠i→rk (c i)<rk (c j):=fun j hj ji=>by
  have h1:=h j (by lia)
  by_cases q:rk (c i)=rk (c j)
  ·have e:=inj _ _ (lt i (by lia)) (lt j hj) q
   rcases Nat.lt_or_gt_of_ne ji with z | z;·exact absurd e.symm (ne j i z (by lia))
   ·exact absurd e (ne i j z hj)
  ·lia
 have use:∀a b,a<b→b<m→a≠i→b≠i→E (c i) (c a)→E (c i) (c b)→b=a+1∨(a=0∧b=m-1):=fun a b ab bm ai bi e1 e2=>(ed a b ab bm).mp (cl (c i) (c a) (c b) (lt _ (by lia)) (lt _ (by lia)) (lt _ bm) (less a (by lia) ai) (less b bm bi) (ne a b ab bm) e1 e2)
 by_cases z:i=0
 ·subst z
  have:=use 1 (m-1) (by lia) (by lia) (by lia) (by lia) ((ed 0 1 (by lia) (by lia)).mpr (.inl rfl)) ((ed 0 (m-1) (by lia) (by lia)).mpr (.inr ⟨rfl,rfl⟩))
  lia
 ·by_cases z':i=m-1
  ·have e0:E (c i) (c 0):=sy _ _ ((ed 0 i (by lia) (by lia)).mpr (.inr ⟨rfl,z'⟩))
   have e1:E (c i) (c (m-2)):=sy _ _ ((ed (m-2) i (by lia) (by lia)).mpr (.inl (by lia)))
   have:=use 0 (m-2) (by lia) (by lia) (by lia) (by lia) e0 e1
   lia
  ·have e0:E (c i) (c (i-1)):=sy _ _ ((ed (i-1) i (by lia) (by lia)).mpr (.inl (by lia)))
   have e1:E (c i) (c (i+1)):=(ed i (i+1) (by lia) (by lia)).mpr (.inl rfl)
   have:=use (i-1) (i+1) (by lia) (by lia) (by lia) (by lia) e0 e1
   lia
def IV(n:Nat)(E:Nat→Nat→Prop)(pos:Nat→Nat):Prop:=∀a b c,a<n→b<n→c<n→pos a<pos b→pos b<pos c→E a c→¬E b c→∃d,d<n∧pos b<pos d∧E b d∧¬E a d
theorem Ox{q:Nat→Prop}(h0:q 0):∀k,∃j,j≤k∧q j∧∀i,j<i→i≤k→¬q i
 | 0=>⟨0,au _,h0,fun i h h'=>by lia⟩
 | k+1=>by
  obtain ⟨j,hj,hq,hn⟩:=Ox h0 k;by_cases z:q (k+1);·exact ⟨k+1,au _,z,fun i h h'=>by lia⟩
  ·refine ⟨j,by lia,hq,fun i h h'=>?_⟩
   by_cases e:i=k+1;·rw [e];exact z
   ·exact hn i h (by lia)
theorem IW(cl:ug n E rk)(inj:∀a b,a<n→b<n→rk a=rk b→a=b)(xO:∀a b,a<n→b<n→pos a=pos b→a=b)(sy:∀a b,E a b→E b a)(ir:∀a,¬E a a)(mo:IV n E pos)(pn:∀a,a<n→pos a<n) :
  ∀(d:Nat) (p:Nat→Nat) (k:Nat),n-pos (p 0)≤d→2≤k→Walk n E p k→pos (p 0)<pos (p k)→(∀i,0<i→i<k→pos (p i)<pos (p 0))→False
 | 0,p,k,hd,k2,W,h0,hi=>by
  have:=pn _ (W.lt 0 (by lia))
  lia
 | d+1,p,k,hd,k2,W,h0,hi=>by
  obtain ⟨x,xn,xp,ex,nx⟩:=mo (p (k-1)) (p 0) (p k) (W.lt _ (by lia)) (W.lt _ (by lia)) (W.lt _ (au _)) (hi _ (by lia) (by lia)) h0 ((W.ed _ _ (by lia) (au _)).mpr (by lia)) (fun e=>by have:=(W.ed 0 k (by lia) (au _)).mp e;lia)
  have Oy:∀i,i<k→pos (p i)≤pos (p 0):=fun i ik=>by
   by_cases z:i=0;·rw [z];exact au _
   ·exact jY (hi i (by lia) ik)
  have IY:∀i,i≤k→x≠p i:=fun i ik e=>by
   by_cases z:i=k
   ·subst z
    rw [e] at ex;have:=(W.ed 0 i (by lia) (au _)).mp ex
    lia
   ·have:=Oy i (by lia)
    rw [e] at xp;lia
  obtain ⟨j,hj,ej,nj⟩:=Ox (q:=fun j=>E x (p j)) (sy _ _ ex) (k-1);have jk:j≤k-2:=by
   by_cases z:j=k-1
   ·rw [z] at ej
    exact absurd (sy _ _ ej) nx
   ·lia
  by_cases xk:E x (p k)
  ·
   refine YO cl inj sy (c:=fun i=>if i≤k-j then p (j+i) else x) (m:=k-j+2) (by lia) (fun i im=>?_) (fun i l il lm=>?_) (fun i l il lm=>?_)
   ·show (if i≤k-j then p (j+i) else x)<n
    split
    ·exact W.lt _ (by lia)
    ·exact xn
   ·show (if i≤k-j then p (j+i) else x)≠(if l≤k-j then p (j+l) else x)
    rw [ae (by lia)]
    split
    ·exact W.ne _ _ (by lia) (by lia)
    ·exact (IY _ (by lia)).symm
   ·show E (if i≤k-j then p (j+i) else x) (if l≤k-j then p (j+l) else x)↔_
    rw [ae (show i≤k-j by lia)]
    by_cases z:l≤k-j
    ·rw [ae z,W.ed _ _ (by lia) (by lia)]
     lia
    ·rw [aa z]
     constructor
     ·intro e
      by_cases i0:i=0;·exact .inr ⟨i0,by lia⟩
      ·by_cases i1:i=k-j
       ·exact .inl (by lia)
       ·exact absurd (sy _ _ e) (nj (j+i) (by lia) (by lia))
     ·rintro (e | ⟨e,_⟩)
      ·rw [show j+i=k by lia]
       exact sy _ _ xk
      ·rw [e]
       exact sy _ _ ej
  ·
   have W':Walk n E (fun i=>if i=0 then x else p (j+i-1)) (k-j+1):=by
    refine ⟨fun i hi=>?_,fun i l il lk=>?_,fun i l il lk=>?_⟩
    ·show (if i=0 then x else p (j+i-1))<n
     split
     ·exact xn
     ·exact W.lt _ (by lia)
    ·show (if i=0 then x else p (j+i-1))≠(if l=0 then x else p (j+l-1))
     rw [aa (show ¬l=0 by lia)]
     split
     ·exact IY _ (by lia)
     ·exact W.ne _ _ (by lia) (by lia)
    ·show E (if i=0 then x else p (j+i-1)) (if l=0 then x else p (j+l-1))↔_
     rw [aa (show ¬l=0 by lia)]
     by_cases z:i=0
     ·rw [ae z]
      constructor
      ·intro e
       by_cases l1:l=1;·lia
       ·by_cases YQ:j+l-1=k
        ·rw [YQ] at e
         exact absurd e xk
        ·exact absurd e (nj _ (by lia) (by lia))
      ·intro e
       rw [show j+l-1=j by lia]
       exact ej
     ·rw [aa z,W.ed _ _ (by lia) (by lia)]
      lia
   have e0:(fun i=>if i=0 then x else p (j+i-1)) 0=x:=rfl
   have ek:(fun i=>if i=0 then x else p (j+i-1)) (k-j+1)=p k:=by
    show (if k-j+1=0 then x else p (j+(k-j+1)-1))=p k
    rw [aa (by lia)]
    congr 1
    lia
   have inner:∀i,0<i→i<k-j+1→pos ((fun i=>if i=0 then x else p (j+i-1)) i)≤pos (p 0):=fun i i0 ik=>by
    show pos (if i=0 then x else p (j+i-1))≤_
    rw [aa (by lia)]
    exact Oy _ (by lia)
   have px:=pn x xn;have pk:=pn _ (W.lt k (au _));generalize (fun i=>if i=0 then x else p (j+i-1))=q at W' e0 ek inner
   by_cases lt:pos x<pos (p k)
   ·refine IW cl inj xO sy ir mo pn d q (k-j+1) (by rw [e0];lia) (by lia) W' (by rw [e0,ek];exact lt) (fun i i0 ik=>?_)
    have:=inner i i0 ik;rw [e0];lia
   ·have ne:pos x≠pos (p k):=fun e=>IY k (au _) (xO _ _ xn (W.lt _ (au _)) e)
    have b0:(fun i=>q (k-j+1-i)) 0=p k:=ek;have bk:(fun i=>q (k-j+1-i)) (k-j+1)=x:=by show q (k-j+1-(k-j+1))=x;rw [mw];exact e0
    have Wb:=W'.back sy;have Oz:∀i,0<i→i<k-j+1→pos ((fun i=>q (k-j+1-i)) i)≤pos (p 0):=fun i i0 ik=>inner (k-j+1-i) (by lia) (by lia)
    generalize (fun i=>q (k-j+1-i))=q' at Wb b0 bk Oz;refine IW cl inj xO sy ir mo pn d q' (k-j+1) (by rw [b0];lia) (by lia) Wb (by rw [b0,bk];lia) (fun i i0 ik=>?_)
    have:=Oz i i0 ik;rw [b0];lia
theorem YR(cl:ug n E rk)(inj:∀a b,a<n→b<n→rk a=rk b→a=b)(xO:∀a b,a<n→b<n→pos a=pos b→a=b)(sy:∀a b,E a b→E b a)(ir:∀a,¬E a a)(mo:IV n E pos)(pn:∀a,a<n→pos a<n):ug n E pos:=by
 have go:∀a b c,a<n→b<n→c<n→pos a<pos b→pos b<pos c→E a b→E a c→E b c:=fun a b c an bn cn ab bc e1 e2=>by
  refine gp fun no=>?_;refine IW cl inj xO sy ir mo pn _ (fun i=>if i=0 then b else if i=1 then a else c) 2 (au _) (au _) ⟨fun i hi=>?_,fun i j ij j2=>?_,fun i j ij j2=>?_⟩ bc (fun i i0 i2=>?_)
  ·show (if i=0 then b else if i=1 then a else c)<n
   split
   ·exact bn
   ·split
    ·exact an
    ·exact cn
  ·show (if i=0 then b else if i=1 then a else c)≠(if j=0 then b else if j=1 then a else c)
   rw [aa (show ¬j=0 by lia)]
   by_cases z:i=0
   ·rw [ae z]
    split
    ·exact fun e=>by rw [e] at ab;lia
    ·exact fun e=>by rw [e] at bc;lia
   ·rw [aa z,ae (show i=1 by lia),aa (show ¬j=1 by lia)]
    exact fun e=>by rw [e] at ab;lia
  ·show E (if i=0 then b else if i=1 then a else c) (if j=0 then b else if j=1 then a else c)↔_
   rw [aa (show ¬j=0 by lia)]
   by_cases z:i=0
   ·rw [ae z]
    by_cases y:j=1
    ·rw [ae y]
     exact ⟨fun _=>by lia,fun _=>sy _ _ e1⟩
    ·rw [aa y]
     exact ⟨fun e=>absurd e no,fun e=>by lia⟩
   ·rw [aa z,ae (show i=1 by lia),aa (show ¬j=1 by lia)]
    exact ⟨fun _=>by lia,fun _=>e2⟩
  ·show pos (if i=0 then b else if i=1 then a else c)<pos b
   rw [aa (by lia),ae (by lia)]
   exact ab
 intro a b c an bn cn ab ac bc e1 e2;by_cases h:pos b<pos c;·exact go a b c an bn cn ab h e1 e2
 ·have:pos b≠pos c:=fun e=>bc (xO _ _ bn cn e)
  exact sy _ _ (go a c b an cn bn ac (by lia) e2 e1)
end
open PySem PySem.W PyProof.Rows Tm
section
variable {prog:Program} {w:World} {A:Around} {E:aF} {s:Shared}
def IZ(k:Keyed):Int:=match k.1 with | .int n _=>n | _=>0
structure rC (n:Nat) (kz:Nat→Int) (p:List Nat):Prop where
 pm:p.Perm (List.range n)
 dn:p.Pairwise fun i j=>kz j≤kz i
variable {vs:List Value}
theorem YS{ns:List Int}(h:IntsAre vs ns):∀(i:Nat) (z:Int),ns[i]?=some z→∃t,vs[i]?=some (.int z t):=by
 induction h with
 | nil=>intro i z hz;cases hz
 | cons _ _ _ ih=>
  intro i z hz;cases i with
  | zero=>cases hz;exact ⟨_,rfl⟩
  | succ i=>exact ih i z hz
variable {kz:Nat→Int}
theorem YT{keys:Array Value}(hk:IntsAre keys.toList ((List.range vs.length).map kz)){Q:SortSt→Shared→Prop}
  (hQ:∀(p:List Nat) (st:SortSt),rC vs.length kz p→((arrOf st).map (·.2)).reverse.toList=p.map (fun i=>vs.getD i Value.none)→failedOf st=none→Q st s) :
  wpAny (model prog w) A (sortRuns'.run (SortSt.mk' oneType' (keys.zip vs.toArray).reverse #[] 7 none)) (fun r s'=>Q r.2 s') E s:=by
 have hl:=hk.length;rw [fS,ay,cC] at hl;have ki:∀i,i<vs.length→∃t,keys.toList.getD i Value.none=.int (kz i) t:=fun i hi=>by
  obtain ⟨t,e⟩:=YS hk i (kz i) (by rw [bz,mr hi];rfl)
  exact ⟨t,by rw [cQ,e];rfl⟩
 have el:(keys.zip vs.toArray).toList=(List.range vs.length).map fun i=>(keys.toList.getD i Value.none,vs.getD i Value.none):=by
  refine iy (by simp [hl]) fun i h1 h2=>?_
  have hi:i<vs.length:=by simpa using h2
  have bR:i<keys.size:=by lia
  simp [hi,bR]
 have er:(keys.zip vs.toArray).reverse.toList=((List.range vs.length).reverse).map fun i=>(keys.toList.getD i Value.none,vs.getD i Value.none):=by rw [vX,el,List.map_reverse]
 have az:(keys.zip vs.toArray).reverse.size=vs.length:=by simp [hl]
 have lt:kq prog w A s oneType' IZ (fun k=>∃n t,k.1=.int n t):=by rintro ⟨u,u'⟩ ⟨v,v'⟩ ⟨a,t,rfl⟩ ⟨b,t',rfl⟩ C hC;exact kat_lt_int hC
 have ok:gv (fun k=>∃n t,k.1=.int n t) (keys.zip vs.toArray).reverse:=fun i hi=>by
  have e1:(keys.zip vs.toArray).reverse.getD i nn=(keys.zip vs.toArray).reverse.toList[i]'(by rw [fS];exact hi):=by rw [Array.getD_eq_getD_getElem?,Gu hi];simp
  have e2:=fv (fun l=>l[i]?) er;have hm:(keys.zip vs.toArray).reverse.toList[i]'(by rw [fS];exact hi)∈(keys.zip vs.toArray).reverse.toList:=aV _
  rw [e1];generalize (keys.zip vs.toArray).reverse.toList[i]'(by rw [fS];exact hi)=x at hm
  rw [er] at hm;obtain ⟨j,hj,rfl⟩:=bK.mp hm;obtain ⟨t,e⟩:=ki j (by simpa using hj)
  exact ⟨_,_,e⟩
 refine b9 (NH (E:=E) (Q:=fun _ st=>Q st s) (g:=7) lt ok fun a7 st pm sg ha hf=>?_) (fun r s' h'=>by obtain ⟨rfl,h'⟩:=h';exact h') fun _ _ e=>e
 obtain ⟨p,hp,ep⟩:=perm_back (vZ.mp pm) _ er;have pl:p.length=vs.length:=by rw [hp.length_eq,List.length_reverse,cC]
 have HX:∀i∈p,i<vs.length:=fun i hi=>by simpa using hp.mem_iff.mp hi
 have hsz:a7.size=vs.length:=by rw [pm.size_eq,az]
 have kv:∀i (hi:i<p.length),vA IZ a7 i=kz p[i]:=fun i hi=>by
  have e1:a7.getD i nn=(keys.toList.getD p[i] Value.none,vs.getD p[i] Value.none):=by
   have e2:a7.toList[i]?=some (keys.toList.getD p[i] Value.none,vs.getD p[i] Value.none):=by rw [ep,bz,aZ hi];rfl
   rw [Array.getD_eq_getD_getElem?,←vT,e2];rfl
  unfold vA;rw [e1];obtain ⟨t,e⟩:=ki p[i] (HX _ (aV _));unfold IZ;rw [e]
 refine hQ p.reverse st ⟨(kP p).trans (hp.trans (kP _)),?_⟩ ?_ hf
 ·rw [Gq]
  refine pF.mpr fun i j hi hj ij=>?_;have:=sg i j (bG _) (by lia) (by rw [az];lia)
  rw [kv i hi,kv j hj] at this;exact this
 ·rw [ha,vX,Array.toList_map,ep,cx,List.map_reverse]
  rfl
theorem YU(h:n<2):rC n kz (List.range n):=by
 refine ⟨List.Perm.refl _,?_⟩
 match n,h with
 | 0,_=>exact .nil
 | 1,_=>exact Gv _ _
theorem YV{kA:Array Value}(h:vs.length<2)(hs:kA.size=vs.length):(((kA.zip vs.toArray).reverse).map (·.2)).reverse.toList=(List.range vs.length).map (fun i=>vs.getD i Value.none):=by
 match vs,h,hs with
 | [],_,_=>simp
 | [v],_,hs=>obtain ⟨k,rfl⟩:=Array.size_eq_one_iff.mp hs;simp
theorem YW{a:Addr}{P:PySem.Fin→Shared→Prop}(ho:s.heap.get? a=some (seqObj "list" vs.toArray n))(h1:vs.length<10000)
  (turn:∀i v,vs[i]?=some v→∀(h:Heap) (tk:Nat) (Q:aF),(∀b o,b≠a→s.heap.get? b=some o→h.get? b=some o)→(∀t dN,Q (.int (kz i) t) {s with heap:=h,toks:=dN})→wpAny (model prog w) A (call (.builtin "len") [v]) Q (fun _ _=>False) {s with heap:=h,toks:=tk})
  (h:∀h' tk out c p,rC vs.length kz p→(∀b o,b≠a→s.heap.get? b=some o→h'.get? b=some o)→h'.get? a=some (seqObj "list" out c)→out.toList=p.map (fun i=>vs.getD i Value.none)→P (.done (.ret .none)) {s with heap:=h',toks:=tk}) :
  wpAny (model prog w) A (ksk_tree a (.builtin "len") true) P E s:=by
 have sl:vs.length≤sizeLine:=by rw [iR];lia
 have lt:=aU ho;obtain ⟨e1,g1⟩:∃e,(s.heap.update a (Obj.mapSeq fun _=>#[])).get? a=some (seqObj "list" #[] e):=⟨_,qG ho fun _=>#[]⟩;have z1:(s.heap.update a (Obj.mapSeq fun _=>#[])).objs.size=s.heap.objs.size:=zW _ _ _;have z2:((s.heap.update a (Obj.mapSeq fun _=>#[])).push (seqObj "tuple" vs.toArray 0)).objs.size=s.heap.objs.size+1:=by rw [sD,z1]
 unfold ksk_tree;refine ax (listItems_at ho rfl (ax (v_ ho rfl ?_ (by rw [cf];lia) (bG _))))
 refine ax (seqEpoch_at g1 rfl (ax (wpAny_newTuple ?_ (by show vs.length≤_;lia))))
 refine ax (wa (mf ?_) (bG _));show wpAny (model prog w) A (ksk_rest a (.builtin "len") true vs.toArray e1 (.ref ((s.heap.update a (Obj.mapSeq fun _=>#[])).push (seqObj "tuple" vs.toArray 0)).objs.size)) P E {s with heap:=((s.heap.update a (Obj.mapSeq fun _=>#[])).push (seqObj "tuple" vs.toArray 0)).push (seqObj "list" #[] 0)};have gk:(((s.heap.update a (Obj.mapSeq fun _=>#[])).push (seqObj "tuple" vs.toArray 0)).push (seqObj "list" #[] 0)).get? (s.heap.objs.size+1)=some (seqObj "list" #[] 0):=by rw [←z2];exact eh _ rfl
 have up:∀b u,(s.heap.update a (Obj.mapSeq fun _=>#[])).get? b=some u→(((s.heap.update a (Obj.mapSeq fun _=>#[])).push (seqObj "tuple" vs.toArray 0)).push (seqObj "list" #[] 0)).get? b=some u:=fun b u hu=>b_ _ (b_ _ hu);have ga:=up a _ g1;have xR:∀b o,b≠a→s.heap.get? b=some o→(((s.heap.update a (Obj.mapSeq fun _=>#[])).push (seqObj "tuple" vs.toArray 0)).push (seqObj "list" #[] 0)).get? b=some o:=fun b o nb g=>up b o (by rw [v9 _ _ _ _ nb];exact g)
 rw [z2];generalize ((s.heap.update a (Obj.mapSeq fun _=>#[])).push (seqObj "tuple" vs.toArray 0)).push (seqObj "list" #[] 0)=hp at gk ga xR;have ka:s.heap.objs.size+1≠a:=Nat.ne_of_gt (nS lt);have old:∀b o,s.heap.get? b=some o→b≠s.heap.objs.size+1:=fun b o g=>bZ (nS (aU g));generalize s.heap.objs.size+1=kS at gk ka old;unfold ksk_rest;refine ax (nV ?_)
 first
  | rw [List.forIn_toArray]
  | (rw [←Array.forIn_toList];simp only [List.toList_toArray])
  | rw [←Array.forIn_toList]
 refine ax (ksk_fold (fun i s'=>∃h' tk kA e,s'={s with heap:=h',toks:=tk}∧h'.get? kS=some (seqObj "list" kA e)∧h'.get? a=some (seqObj "list" #[] e1)∧(∀b o,b≠a→s.heap.get? b=some o→h'.get? b=some o)∧IntsAre kA.toList (((List.range vs.length).map kz).take i)) vs 0 _
  ⟨hp,s.toks,#[],0,rfl,gk,ga,xR,by simpa using IntsAre.nil⟩ ?step ?done)
 case step=>
  rintro j x s' hx ⟨h',tk,kA,e,rfl,Bg,AX,D4,hk⟩;simp only [eJ] at hk ⊢;have hj:j<vs.length:=(bV.mp hx).1;have hz:kA.size≤vs.length:=by have h1:=hk.length;rw [fS,mh,ay,cC] at h1;lia
  refine ax (wpAny_attempt (b9 (turn j x hx h' tk (fun v f9=>∃t dN,v=.int (kz j) t∧f9={s with heap:=h',toks:=dN}) D4 fun t dN=>⟨t,dN,rfl,rfl⟩) (fun v f9 he=>?_) fun _ _ hF=>hF.elim));obtain ⟨t,dN,rfl,rfl⟩:=he
  try dsimp only
  have sb:=sG h' kS (Obj.mapSeq (·.push (.int (kz j) t)));obtain ⟨c2,iZ⟩:∃c2,(h'.update kS (Obj.mapSeq (·.push (.int (kz j) t)))).get? kS=some (seqObj "list" (kA.push (.int (kz j) t)) c2):=⟨_,qG Bg (·.push (.int (kz j) t))⟩;have ek:((List.range vs.length).map kz).take (j+1)=((List.range vs.length).map kz).take j++[kz j]:=by rw [List.take_add_one,bz,mr hj];rfl
  have ea:(kA.push (Value.int (kz j) t)).toList=kA.toList++[Value.int (kz j) t]:=by simp
  refine ax (v_ Bg rfl ?_ (by rw [iR];lia) (bU (Nat.le_of_eq (Array.size_push ..)) (by rw [iR];lia)))
  exact bJ ⟨rfl,_,_,kA.push (.int (kz j) t),c2,rfl,iZ,(sb.2 a ka.symm).trans AX,fun b o nb g=>(sb.2 b (old b o g)).trans (D4 b o nb g),by rw [ea,ek];exact ksk_snoc hk⟩
 case done=>
  rintro s' ⟨h',tk,kA,e,rfl,Bg,AX,D4,hk⟩;have dF:IntsAre kA.toList ((List.range vs.length).map kz):=by
   rw [zU (by rw [ay,cC];lia)] at hk
   exact hk
  have hsz:kA.size=vs.length:=by have h1:=dF.length;rw [fS,ay,cC] at h1;exact h1
  try dsimp only
  refine ax (listItems_at Bg rfl ?_);have fin:∀(st:SortSt) (p:List Nat),rC vs.length kz p→((arrOf st).map (·.2)).reverse.toList=p.map (fun i=>vs.getD i Value.none)→failedOf st=none→wpAny (model prog w) A (ksk_tail a true e1 (.ref kS) st) P E {s with heap:=h',toks:=tk}:=fun st p fp OA hf=>by
   have sb:=sG h' kS (Obj.mapSeq fun _=>(#[]:Array Value));have A0:(h'.update kS (Obj.mapSeq fun _=>(#[]:Array Value))).get? a=some (seqObj "list" #[] e1):=(sb.2 a ka.symm).trans AX;have YX:=sG (h'.update kS (Obj.mapSeq fun _=>(#[]:Array Value))) a (Obj.mapSeq fun _=>((arrOf st).map (·.2)).reverse);obtain ⟨c2,iZ⟩:∃c2,((h'.update kS (Obj.mapSeq fun _=>(#[]:Array Value))).update a (Obj.mapSeq fun _=>((arrOf st).map (·.2)).reverse)).get? a=some (seqObj "list" ((arrOf st).map (·.2)).reverse c2):=⟨_,qG A0 fun _=>((arrOf st).map (·.2)).reverse⟩;have lo:((arrOf st).map (·.2)).reverse.size=vs.length:=by rw [←fS,OA,ay,fp.pm.length_eq,cC]
   unfold ksk_tail
   try dsimp only
   refine ax (v_ Bg rfl ?_ (by rw [hsz];lia) (bG _))
   refine ax (wg (ax (seqEpoch_at A0 rfl ?_)));refine ax (v_ A0 rfl ?_ (bG _) (by simp only [kK];rw [lo];lia))
   rw [hf];simp only [bne_self_eq_false,sE,ph,kK];exact bJ (h _ _ _ c2 p fp (fun b o nb g=>(YX.2 b nb).trans ((sb.2 b (old b o g)).trans (D4 b o nb g))) iZ OA)
  unfold ksk_end
  try dsimp only
  simp only [kK];refine ax (nV ?_);by_cases h2:vs.toArray.size<2
  ·rw [ae h2,ae h2]
   refine ax (bJ ?_);rw [StateT.run_pure];refine ax (bJ ?_);have len:vs.length<2:=by simpa using h2
   exact fin _ (List.range vs.length) (YU len) (YV len hsz) rfl
  ·rw [aa h2,aa h2]
   have len:2≤vs.length:=by simpa using h2
   rw [ksk_kind dF (by rw [hsz];exact len)]
   refine ax (bJ ?_);refine ax (b9 (YT (s:={s with heap:=h',toks:=tk}) (vs:=vs) (keys:=kA) (kz:=kz) dF (Q:=fun st s'=>s'={s with heap:=h',toks:=tk}∧∃p,rC vs.length kz p∧((arrOf st).map (·.2)).reverse.toList=p.map (fun i=>vs.getD i Value.none)∧failedOf st=none) fun p st a1 a2 a3=>⟨rfl,p,a1,a2,a3⟩) ?_ fun _ _ e=>e);rintro ⟨⟨⟩,st⟩ s' ⟨rfl,p,a1,a2,a3⟩;exact fin st p a1 a2 a3
end
open PySem PySem.W PyProof.Rows
section
variable {prog:Program} {w:World} {A:Around} {E:aF} {s:Shared}
theorem IsTup.to{h h':Heap}{a:Addr}{its:Array Value}(t:IsTup h a its)(k:∀o,h.get? a=some o→h'.get? a=some o):IsTup h' a its:=let ⟨o,g,r⟩:=t;⟨o,k _ g,r⟩
theorem YY{l:Addr}{vs:List Value}{kz:Nat→Int}{Q:aF}(hl:s.heap.IsList l vs.toArray)(h1:vs.length<10000)(hv:∀i v,vs[i]?=some v→∃b its,v=.ref b∧IsTup s.heap b its∧kz i=its.size∧its.size<10000)
  (h:∀h' tk out c p,rC vs.length kz p→(∀b o,s.heap.get? b=some o→h'.get? b=some o)→h'.get? (s.heap.objs.size+1)=some (seqObj "list" out c)→out.toList=p.map (fun i=>vs.getD i Value.none)→Q (.ref (s.heap.objs.size+1)) {s with heap:=h',toks:=tk}) :
  wpAny (model prog w) A (call (.builtin "sorted") [.ref l] [(Str.ofString "key",.builtin "len"),(Str.ofString "reverse",.bool true)]) Q E s:=by
 have sl:vs.length≤sizeLine:=by rw [iR];lia
 refine call_function_entry_kw kind_sorted plain_sorted entry_sorted (ksk_s2 _ _ _) ?_;unfold Builtin.«sorted»;refine ax (m:=checkCount "sorted" 1 1 _) (bJ (ax (collect_list hl (ax (wa ?_ sl)) sl)));have zz:((s.heap.push (seqObj "list" #[] 0)).update s.heap.objs.size (Obj.mapSeq (·++vs.toArray))).objs.size=s.heap.objs.size+1:=by rw [zW,sD]
 have kp:∀b o,s.heap.get? b=some o→(((s.heap.push (seqObj "list" #[] 0)).update s.heap.objs.size (Obj.mapSeq (·++vs.toArray))).push (seqObj "list" vs.toArray 0)).get? b=some o:=fun b o g=>by
  have lt:=aU g;rw [qH _ _ _ (bZ (by rw [zz];exact nS lt)),v9 _ _ _ _ (bZ lt),qH _ _ _ (bZ lt)]
  exact g
 have gL:(((s.heap.push (seqObj "list" #[] 0)).update s.heap.objs.size (Obj.mapSeq (·++vs.toArray))).push (seqObj "list" vs.toArray 0)).get? (s.heap.objs.size+1)=some (seqObj "list" vs.toArray 0):=by rw [←zz];exact eh _ rfl
 show wpAny _ _ _ _ _ {s with heap:=((s.heap.push (seqObj "list" #[] 0)).update s.heap.objs.size (Obj.mapSeq (·++vs.toArray))).push (seqObj "list" vs.toArray 0)};rw [zz];generalize ((s.heap.push (seqObj "list" #[] 0)).update s.heap.objs.size (Obj.mapSeq (·++vs.toArray))).push (seqObj "list" vs.toArray 0)=hp at kp gL;have ne:∀b o,s.heap.get? b=some o→b≠s.heap.objs.size+1:=fun b o g=>bZ (nS (aU g));refine ax (mf (wpAny_call_entry_kw slot_list_sort ⟨_,gL,rfl⟩ entry_list_sort ?_ (ksk_l2 _ _ _)));rw [ksk_t5];refine YW (s:={s with heap:=hp}) (kz:=kz) gL h1 (fun i v hi h' tk Q' kk hQ=>?_) fun h' tk out c p fp kk g e=>⟨_,rfl,bJ ⟨_,rfl,h h' tk out c p fp (fun b o gb=>kk b o (ne b o gb) (kp b o gb)) g e⟩⟩;obtain ⟨b,its,rfl,t,ek,i1⟩:=hv i v hi;rw [ek] at hQ;refine len_tuple (s:={s with heap:=h',toks:=tk}) (items:=its) (IsTup.to t fun o g=>kk b o (ne b o g) (kp b o g)) (by lia) ?_
 exact hQ _ _
end
end My
namespace L2
open PySem PySem.W PyProof.Rows My
def YZ(t:TA):TE:=fun σ H Q=>t σ H fun xs H1=>∃(l:Addr) (vs:List V) (ks:Nat→Nat),xs=[.ref l]∧H1 l=some (.lst vs)∧vs.length<10000∧(∀(i:Nat) (v:V),vs[i]?=some v→∃b ys,v=.ref b∧H1 b=some (.tup ys)∧ks i=ys.length∧ys.length<10000) ∧
 ∀(D:Addr) (p:List Nat),H1 D=none→rC vs.length (fun i=>(ks i:Int)) p→Q (.ref D) (upd H1 D (.lst (p.map fun i=>vs.getD i .aI)))
variable {X:Cx}
theorem Y0{e:Expr}{es:List Expr}{t:TA}{p p2 pos I0 Y1 cp:Pos}{j:Nat}(ha:PA X (e::es) t)(hg:Gl X (Str.ofString "sorted"))(hm:X.mg (Str.ofString "sorted")=none)(hv:bootBuiltins (Str.ofString "sorted")=some (.builtin "sorted"))
  (I_:Gl X (Str.ofString "len")) (rE:X.mg (Str.ofString "len")=none) (Y2:bootBuiltins (Str.ofString "len")=some (.builtin "len"))
  (he:backTo pos (starEach (e::es) X.env)=(false,eval e X.env)::backTo pos (starEach es X.env):=by rfl) (jK:(backTo pos (starEach (e::es) X.env)).any (·.1)=false:=by rfl) :
  PE X (.Call (.Name (Str.ofString "sorted") p) (e::es) [⟨some (Str.ofString "key"),.Name (Str.ofString "len") p2,I0⟩,⟨some (Str.ofString "reverse"),.Constant (.bool true) j cp,Y1⟩] pos) (YZ t):=by
 intro pins s σ H Q I h
 refine vP (kY I hg hm hv ?_)
 refine callWith_kw (aH (ha pos pins s σ H _ I h) fun us s1 ⟨xs,H1,I1,r1,q1⟩=>?_) he jK
 obtain ⟨l,vs,ks,rfl,hl,h1,mU,k⟩:=q1
 obtain ⟨u,rfl,ru⟩:=vals1 r1
 cases ru
 show wpAny _ _ (evalAll [(do let v ←eval (.Name (Str.ofString "len") p2) X.env;standAt pos;pure v),(do let v ←eval (.Constant (.bool true) j cp) X.env;standAt pos;pure v)]) _ _ s1
 refine Cz (ax (kY I1 I_ rE Y2 (ax (o_ (bJ ?_)))))
 refine Cz (ax (Constant_bool (ax (o_ (bJ ?_)))))
 refine CA ?_
 show wpAny _ _ (call (.builtin "sorted") [.ref l] [(Str.ofString "key",.builtin "len"),(Str.ofString "reverse",.bool true)]) _ _ s1
 obtain ⟨its,rv,pl,hz⟩:=I1.list (.of hl)
 have xS:=rv.length
 refine YY (kz:=fun i=>(ks i:Int)) pl.isList (by lia) (fun i v hi=>?_) fun h' tk out c p fp kp g e=>?_
 ·have bR:i<vs.length:=by
   have:=(bV.mp hi).1
   lia
  have gi:vs[i]?=some vs[i]:=by simp [bR]
  obtain ⟨b,ys,eb,hb,ek,y1⟩:=mU i _ gi
  obtain ⟨u,eu,ru⟩:=rv.get gi
  rw [hi] at eu
  cases eu
  rw [eb] at ru
  cases ru
  obtain ⟨jL,r2,tp,_⟩:=I1.tuple (.of hb)
  have l2:=r2.length
  exact ⟨b,jL.toArray,rfl,tp,by rw [cf,←l2,ek],by rw [cf];lia⟩
 ·rw [←xS] at fp
  refine ⟨.ref (s1.heap.objs.size+1),_,I1.laid (t':=tk) (o:=.lst (p.map fun i=>vs.getD i .aI)) kp (pj _) ⟨?_,p.map fun i=>its.getD i Value.none,c,?_,?_⟩,rfl,k _ p (I1.aw.fresh (pj _)) fp⟩
  ·rw [ay,fp.pm.length_eq,cC]
   exact bU (jY h1) (by decide)
  ·exact HY rv p fun i hi=>aS.mp (fp.pm.mem_iff.mp hi)
  ·rw [g,←e,Array.toArray_toList]
def OB:List V→Hp→VK→Prop:=fun xs H Q=>∃(a:Addr) (zs:List Int),xs=[.ref a]∧H a=some (.tup (zs.map V.int))∧zs.length<64∧∀(ws:List Int) (D:Addr),ws.Perm zs→ws.Pairwise (·≤·)→H D=none→Q (.ref D) (upd H D (.lst (ws.map V.int)))
theorem Y3:gr X (.builtin "sorted") OB:=by
 intro pins s σ H xs us Q I r h;obtain ⟨a,zs,rfl,ha,A1,k⟩:=h;obtain ⟨u,rfl,ru⟩:=vals1 r;cases ru;obtain ⟨its,rv,⟨o,g,c,n,d⟩,hz⟩:=I.tuple (.of ha);have hl:=rv.length;rw [ay] at hl;have sl:its.length≤sizeLine:=by rw [iR];lia
 refine Calls.call_function_entry kind_sorted plain_sorted entry_sorted (args_sorted1 _) ?_;unfold Builtin.«sorted»;refine ax (m:=checkCount "sorted" 1 1 _) (bJ (ax (wpAny_collect_seq a (.inr rfl) g c d (fun h1 k1=>ax (wa ?_ sl)) (by rw [cf];exact sl))))
 have I1:Inv X pins σ H {s with heap:=h1}:=I.kept (t':=s.toks) k1;have gL:(h1.push (seqObj "list" its.toArray 0)).get? h1.objs.size=some (seqObj "list" its.toArray 0):=eh _ rfl;show wpAny _ _ _ _ _ {s with heap:=h1.push (seqObj "list" its.toArray 0)};refine ax (mf (wpAny_call_entry slot_list_sort ⟨_,gL,rfl⟩ entry_list_sort (list_sort_tree (s:={s with heap:=h1.push (seqObj "list" its.toArray 0)}) gL (intsAre_of rv) (by lia) fun out k6 a1 a2 a3=>⟨_,rfl,?_⟩) (args_list_sort _)))
 obtain ⟨e,he⟩:=sortedHeap_at (out:=out) gL;refine bJ ⟨_,rfl,.ref h1.objs.size,_,I1.laid (t':=s.toks) (o:=.lst (k6.map .int)) (fun b u gb=>?_) (au _) ⟨?_,out.toList,e,Iq a1,?_⟩,rfl,k k6 _ a2 a3 (I1.aw.fresh (au _))⟩
 ·have lt:=aU gb
  rw [sortedHeap_old (bZ lt) (by rw [sD];exact nS lt)]
  exact b_ _ gb
 ·rw [ay,a2.length_eq]
  rw [iR];lia
 ·simpa using he
end L2
namespace My
open PySem PySem.W PyProof.Rows
section
variable {prog:Program} {w:World} {A:Around} {E:aF} {s:Shared} {R:Result→Shared→Prop}
def lZ(s:Shared)(h:Heap):Prop:=∀b o,s.heap.get? b=some o→h.get? b=some o
def D5(prog:Program)(w:World)(A:Around)(s:Shared)(vs:List Value)(kf:Nat→Int):Prop:=∀i j v u,vs[i]?=some v→vs[j]?=some u→∀(h:Heap) (tk:Nat) (Q:aF),lZ s h→(∀dN,Q (.bool (decide (kf i<kf j))) {s with heap:=h,toks:=dN})→wpAny (model prog w) A (richCompare .Lt v u) Q (fun _ _=>False) {s with heap:=h,toks:=tk}
variable {l:Addr} {vs:List Value} {kf:Nat→Int} {kw:List (Str×Value)}
theorem Y4{I S:Addr}(hh:A.handled=none)(hl:s.heap.IsList l vs.toArray)(hI:s.heap.objs.size≤I)(hS:s.heap.objs.size≤S)(uh:S≠I)(cmp:D5 prog w A.in1 s vs kf)
  (hR:∀i v h' dN,vs[i]?=some v→(∀j,j<vs.length→kf i≤kf j∧(j<i→kf i<kf j))→lZ s h'→R (.ok (.ret v)) {s with heap:=h',toks:=dN}) :
  ∀(r j i:Nat) (h:Heap) (tk:Nat) (vb:Value) (c:Nat),vs.length-(j+1)=r→j+1≤vs.length→lZ s h→h.get? S=some (seqObj "list" #[vb,vb] c)→h.IsListIter I l (j+1)→vs[i]?=some vb→i≤j→(∀j',j'≤j→kf i≤kf j'∧(j'<i→kf i<kf j'))→
   codeAny (model prog w) A (.builtin "min.loop" ⟨[.ref I,.none,.ref S],kw⟩) R {s with heap:=h,toks:=tk}:=by
 have Bh:(toString "min"++toString ".loop":String)="min.loop":=by decide
 have lI:l≠I:=fun e=>by obtain ⟨o,g,_⟩:=hl;exact d6 _ (dQ (aU g) (e▸hI))
 have W:=Walks.list (prog:=prog) (w:=w) (A:=A.in1) hh I l lI vs.toArray;have hsz:vs.toArray.size=vs.length:=cf ..;have lk:∀{h:Heap},lZ s h→h.IsList l vs.toArray:=fun{h} kp=>by obtain ⟨o,g,r⟩:=hl;exact ⟨o,kp _ _ g,r⟩
 have kI:∀{h h':Heap},lZ s h→(∀b o,b∉[I]→h.get? b=some o→h'.get? b=some o)→lZ s h':=fun kp k b o g=>k b o (fun z=>by rw [cB.mp z] at g;exact d6 _ (dQ (aU g) hI)) (kp b o g)
 have kS:∀{h:Heap} {f:Obj→Obj},lZ s h→lZ s (h.update S f):=fun{h f} kp b o g=>((sG h S f).2 b (fun z=>by rw [z] at g;exact d6 _ (dQ (aU g) hS))).trans (kp b o g)
 intro r
 induction r with
 | zero=>
  intro j i h tk vb c hr hj kp gS hit D6 xj uj;have Ja:j+1=vs.length:=by lia
  refine qE CB ?_;rw [sI qM _];show wpAny _ A.in1 (seqItems? (.ref S) >>= _) _ _ _;refine ax (zZ gS rfl ?_);show wpAny _ A.in1 (tryCatch (pyNext (.ref I)) _ >>= _) _ _ _;refine ax (z8 (W.done _ _ _ ⟨by rw [hsz,←Ja];exact hit,lk kp⟩ fun h' dN dF=>?_))
  have rF:=dF S _ (by simpa using uh) gS
  show wpAny _ A.in1 (updateSeq S (fun _=>#[]) >>= _) _ _ _;refine ax (CD rF rfl (ax (wg (bJ ?_))));exact hR i vb _ _ D6 (fun j' eZ=>uj j' (by lia)) (kS (kI kp dF))
 | succ r ih=>
  intro j i h tk vb c hr hj kp gS hit D6 xj uj;have aR:j+1<vs.length:=by lia
  refine qE CB ?_;rw [sI qM _];show wpAny _ A.in1 (seqItems? (.ref S) >>= _) _ _ _;refine ax (zZ gS rfl ?_);show wpAny _ A.in1 (tryCatch (pyNext (.ref I)) _ >>= _) _ _ _;refine ax (z8 (W.item (j+1) _ _ _ (by rw [hsz];exact aR) ⟨hit,lk kp⟩ fun v h' dN hP D7 dF=>?_))
  have hv:vs[j+1]?=some v:=by simpa using hP
  have Bi:=kI kp dF;have rF:=dF S _ (by simpa using uh) gS
  show wpAny _ A.in1 (tryCatch (holding [v,v] (richCompare .Lt v vb >>= _)) _ >>= _) _ _ _;refine ax (z8 (mf (ax (b9 (cmp (j+1) i v vb hv D6 h' dN (fun a f9=>∃D8,a=.bool (decide (kf (j+1)<kf i))∧f9={s with heap:=h',toks:=D8}) Bi fun D8=>⟨D8,rfl,rfl⟩) (fun a f9 he=>?_) fun _ _ hF=>hF.elim))));obtain ⟨D8,rfl,rfl⟩:=he;refine ax (mf (qA ?_));refine ax (wg (bJ ?_));by_cases eE:kf (j+1)<kf i
  ·obtain ⟨c2,iZ⟩:∃c2,(h'.update S (Obj.mapSeq fun _=>#[v,v])).get? S=some (seqObj "list" #[v,v] c2):=⟨_,qG rF fun _=>#[v,v]⟩
   simp only [eE,wj,kK];refine ax (CD rF rfl (ax (wg ?_)));rw [Bh];obtain ⟨oI,g1,g2⟩:=id D7.1;refine bJ ⟨sJ qM _,ih (j+1) (j+1) _ _ v c2 (by lia) aR (kS Bi) iZ ⟨oI,((sG h' S _).2 I uh.symm).trans g1,g2⟩ hv (au _) fun j' eZ=>?_⟩
   by_cases e:j'=j+1
   ·subst e
    exact ⟨by lia,fun _=>by lia⟩
   ·have xT:=uj j' (by lia)
    have qd:=xT.1;exact ⟨by lia,fun _=>by lia⟩
  ·simp only [eE,decide_false,sE,ph]
   refine ax (wg ?_);rw [Bh];refine bJ ⟨sJ qM _,ih (j+1) i _ _ vb c (by lia) aR Bi rF D7.1 D6 (by lia) fun j' eZ=>?_⟩
   by_cases e:j'=j+1
   ·subst e
    exact ⟨by lia,fun _=>by lia⟩
   ·exact uj j' (by lia)
theorem OC{dflt:Option Value}{Q:aF}(hh:A.handled=none)(ha:argsOk "min" ⟨[.ref l],kw⟩)(hb:Builtin.Builtins.bindParams "min" ["key","default"] 0 ⟨[],kw⟩=pure [none,dflt])
  (hl:s.heap.IsList l vs.toArray) (cmp:D5 prog w A.in1 s vs kf) (gJ:0<vs.length∨∃d,dflt=some d)
  (hQ:∀i v h' dN,vs[i]?=some v→(∀j,j<vs.length→kf i≤kf j∧(j<i→kf i<kf j))→lZ s h'→Q v {s with heap:=h',toks:=dN})
  (hD:vs.length=0→∀d,dflt=some d→∀h' dN,lZ s h'→Q d {s with heap:=h',toks:=dN}) :
  wpAny (model prog w) A (call (.builtin "min") [.ref l] kw) Q E s:=by
 have Bh:(toString "min"++toString ".loop":String)="min.loop":=by decide
 obtain ⟨ol,Y5,_⟩:=id hl;have xS:l<s.heap.objs.size:=aU Y5;refine kmk_tree PySem.F.kind_min PySem.F.plain_min PySem.F.entry_min ha ?_;show wpAny _ A.in1 (Builtin.Builtins.bindParams "min" ["key","default"] 0 ⟨[],kw⟩ >>= _) _ _ s;refine ax (wpAny_of_eq hb ?_);refine ax (bJ ?_);refine ax (Ck hl ?_);refine ax (wa ?_ (bG _));rw [Bh];have hS:(s.heap.push {cls:=.type "list_iterator",data:=.fields #[.ref l,.int 0 0]}).objs.size=s.heap.objs.size+1:=sD ..;have gI:((s.heap.push {cls:=.type "list_iterator",data:=.fields #[.ref l,.int 0 0]}).push (seqObj "list" #[] 0)).get? s.heap.objs.size=some {cls:=.type "list_iterator",data:=.fields #[.ref l,.int 0 0]}:=b_ _ (eh _ rfl);have gS:((s.heap.push {cls:=.type "list_iterator",data:=.fields #[.ref l,.int 0 0]}).push (seqObj "list" #[] 0)).get? (s.heap.objs.size+1)=some (seqObj "list" #[] 0):=by rw [←hS];exact eh _ rfl
 have kp:lZ s ((s.heap.push {cls:=.type "list_iterator",data:=.fields #[.ref l,.int 0 0]}).push (seqObj "list" #[] 0)):=fun b o e=>b_ _ (b_ _ e);refine bJ ⟨sJ qM _,?_⟩;rw [hS];show codeAny _ _ _ _ {s with heap:=(s.heap.push {cls:=.type "list_iterator",data:=.fields #[.ref l,.int 0 0]}).push (seqObj "list" #[] 0)};generalize (s.heap.push {cls:=.type "list_iterator",data:=.fields #[.ref l,.int 0 0]}).push (seqObj "list" #[] 0)=hp at gI gS kp;obtain ⟨S,eS⟩:∃S,S=s.heap.objs.size+1:=⟨_,rfl⟩;obtain ⟨I,eI⟩:∃I,I=s.heap.objs.size:=⟨_,rfl⟩;have uh:S≠I:=by rw [eS,eI];exact Nat.ne_of_gt (Ct _)
 have OD:s.heap.objs.size≤I:=Nat.le_of_eq eI.symm;have Bj:s.heap.objs.size≤S:=by rw [eS];exact pj _
 have Y6:l≠I:=by rw [eI];exact bZ xS
 rw [←eS] at gS ⊢;rw [←eI] at gI ⊢;have W:=Walks.list (prog:=prog) (w:=w) (A:=A.in1) hh I l Y6 vs.toArray;have hsz:vs.toArray.size=vs.length:=cf ..;have lk:hp.IsList l vs.toArray:=by obtain ⟨o,g,r⟩:=hl;exact ⟨o,kp _ _ g,r⟩
 have kI:∀{h':Heap},(∀b o,b∉[I]→hp.get? b=some o→h'.get? b=some o)→lZ s h':=fun k b o g=>k b o (fun z=>by rw [cB.mp z] at g;exact d6 _ (dQ (aU g) OD)) (kp b o g)
 by_cases hz:0<vs.length
 ·refine qE CB ?_
  rw [sI qM _];show wpAny _ A.in1 (seqItems? (.ref S) >>= _) _ _ _;refine ax (zZ gS rfl ?_);show wpAny _ A.in1 (tryCatch (pyNext (.ref I)) _ >>= _) _ _ _;refine ax (z8 (W.item 0 _ _ _ (by rw [hsz];exact hz) ⟨⟨_,gI,rfl,rfl⟩,lk⟩ fun v h' dN hP D7 dF=>?_))
  have hv:vs[0]?=some v:=by simpa using hP
  obtain ⟨Y7,Y8,Y9⟩:=id D7.1;have rF:=dF S _ (by simpa using uh) gS
  have Bi:=kI dF;obtain ⟨c2,iZ⟩:∃c2,(h'.update S (Obj.mapSeq fun _=>#[v,v])).get? S=some (seqObj "list" #[v,v] c2):=⟨_,qG rF fun _=>#[v,v]⟩;show wpAny _ A.in1 (updateSeq S (fun _=>#[v,v]) >>= _) _ _ _;refine ax (CD rF rfl ?_);rw [Bh];refine bJ ⟨sJ qM _,Y4 hh hl OD Bj uh cmp hQ _ 0 0 _ _ v c2 rfl hz (fun b o g=>((sG h' S _).2 b (fun z=>?_)).trans (Bi b o g)) iZ ⟨Y7,((sG h' S _).2 I uh.symm).trans Y8,Y9⟩ hv (au _) fun j' eZ=>?_⟩
  ·rw [z] at g
   exact d6 _ (dQ (aU g) Bj)
  ·have e:j'=0:=by lia
   subst e;exact ⟨kO _,fun h=>absurd h (d6 _)⟩
 ·have z0:vs.length=0:=by lia
  obtain ⟨d,rfl⟩:∃d,dflt=some d:=gJ.elim (fun h=>absurd h hz) id;refine qE CB ?_;rw [sI qM _];show wpAny _ A.in1 (seqItems? (.ref S) >>= _) _ _ _;refine ax (zZ gS rfl ?_);show wpAny _ A.in1 (tryCatch (pyNext (.ref I)) _ >>= _) _ _ _;refine ax (z8 (W.done _ _ _ ⟨⟨_,gI,rfl,by rw [hsz,z0];rfl⟩,lk⟩ fun h' dN dF=>?_))
  exact ax (nV (bJ (hD z0 d rfl h' dN (kI dF))))
end
open PySem PySem.W PyProof.Rows L2
theorem Y_(a v:Value):argsOk "min" ⟨[a],[(Str.ofString "default",v)]⟩:=by unfold argsOk;kernel_rfl
theorem Za(a:Value):argsOk "min" ⟨[a],[]⟩:=by unfold argsOk;kernel_rfl
section
variable {prog:Program} {w:World} {A:Around} {s:Shared}
variable {vs:List Value}
theorem Zb{kf:Nat→Int}(hv:∀(i:Nat) (v:Value),vs[i]?=some v→∃t,v=Value.int (kf i) t):D5 prog w A s vs kf:=fun i j v u hi hj h tk Q kp hQ=>by obtain ⟨t,rfl⟩:=hv i v hi;obtain ⟨t',rfl⟩:=hv j u hj;exact HT.ML A _ _ _ _ _ prog w _ Q (hQ tk)
theorem Zc{x y:Nat→Int}(hu:A.units<cLine)(hv:∀i v,vs[i]?=some v→fK s.heap v (x i) (y i)∧0≤y i∧y i<1000):D5 prog w A s vs (fun i=>x i*1000+y i):=fun i j v u hi hj h tk Q kp hQ=>by
 obtain ⟨⟨a,o,t1,t2,e,rfl,g,c,d⟩,y0,y1⟩:=hv i v hi;obtain ⟨⟨b,o',t3,t4,e',rfl,g',c',d'⟩,y2,y3⟩:=hv j u hj;have:=hQ tk;rw [show decide (x i*1000+y i<x j*1000+y j)=HT.lexLt [x i,y i] [x j,y j] from by
  rw [HT.GW,HT.GW];by_cases q:x i=x j
  ·rw [ae q]
   by_cases q':y i=y j
   ·rw [ae q']
    exact bY (by lia)
   ·rw [aa q']
    exact sv.mpr (by lia)
  ·rw [aa q]
   exact sv.mpr (by lia)] at this
 exact HT.UU (s:={s with heap:=h,toks:=tk}) (items:=#[.int (x i) t1,.int (y i) t2]) (items2:=#[.int (x j) t3,.int (y j) t4]) ⟨o,kp _ _ g,c,e,d⟩ ⟨o',kp _ _ g',c',e',d'⟩ (.cons _ _ (.cons _ _ .nil)) (.cons _ _ (.cons _ _ .nil)) hu this
end
end My
namespace L2
open PySem PySem.W PyProof.Rows My
def Jb(zs:List Int)(d m:Int):Prop:=(zs=[]∧m=d)∨(m∈zs∧∀z∈zs,m≤z)
def OE(t:TA)(td:TE):TE:=fun σ H Q=>t σ H fun xs H1=>td σ H1 fun y H2=>∃(l:Addr) (zs:List Int) (d:Int),xs=[.ref l]∧y=.int d∧H2 l=some (.lst (zs.map V.int))∧zs.length≤10000∧∀m,Jb zs d m→Q (.int m) H2
variable {X:Cx}
theorem Zd{e de:Expr}{es:List Expr}{t:TA}{td:TE}{p pos I0:Pos}(hc:X.calm=true)(ha:PA X (e::es) t)(hd:PE X de td)(hg:Gl X (Str.ofString "min"))(hm:X.mg (Str.ofString "min")=none)(hv:bootBuiltins (Str.ofString "min")=some (.builtin "min"))
  (he:backTo pos (starEach (e::es) X.env)=(false,eval e X.env)::backTo pos (starEach es X.env):=by rfl) (jK:(backTo pos (starEach (e::es) X.env)).any (·.1)=false:=by rfl) :
  PE X (.Call (.Name (Str.ofString "min") p) (e::es) [⟨some (Str.ofString "default"),de,I0⟩] pos) (OE t td):=by
 intro pins s σ H Q I h
 refine vP (kY I hg hm hv ?_)
 refine callWith_kw (aH (ha pos pins s σ H _ I h) fun us s1 ⟨xs,H1,I1,r1,q1⟩=>?_) he jK
 show wpAny _ _ (evalAll [(do let v ←eval de X.env;standAt pos;pure v)]) _ _ s1
 refine Cz (ax (aH (hd pins s1 σ H1 _ I1 q1) fun u s2 ⟨y,H2,I2,r2,q2⟩=>ax (o_ (bJ (CA ?_)))))
 obtain ⟨l,zs,d,rfl,rfl,hl,h1,k⟩:=q2
 obtain ⟨u',rfl,ru⟩:=vals1 r1
 cases ru
 obtain ⟨Jc,rfl⟩:=r2
 show wpAny _ _ (call (.builtin "min") [.ref l] [(Str.ofString "default",.int d Jc)]) _ _ s2
 obtain ⟨its,rv,pl,hz⟩:=I2.list (.of hl)
 have xS:=rv.length
 rw [ay] at xS
 have at':∀(i:Nat) (v:Value),its[i]?=some v→∃t,v=Value.int (zs.getD i 0) t:=fun i v hi=>by
  have bR:i<zs.length:=by
   have:=(bV.mp hi).1
   lia
  obtain ⟨u,eu,ru⟩:=rv.get (i:=i) (x:=.int (zs[i])) (by simp [bR])
  rw [hi] at eu
  cases eu
  obtain ⟨t,rfl⟩:=ru
  exact ⟨t,by rw [cQ,aZ bR];rfl⟩
 refine OC (kf:=fun i=>zs.getD i 0) (dflt:=some (.int d Jc)) (I2.ok.hd hc) (Y_ _ _) rfl pl.isList (Zb at') (.inr ⟨_,rfl⟩) (fun i v h' dN hi best kp=>?_) (fun z0 d' e' h' dN kp=>?_)
 ·obtain ⟨t,rfl⟩:=at' i v hi
  have bR:i<zs.length:=by
   have:=(bV.mp hi).1
   lia
  have gd:∀j (hj:j<zs.length),zs.getD j 0=zs[j]:=fun j hj=>by rw [cQ,aZ hj];rfl
  refine ⟨.int (zs.getD i 0),H2,I2.kept (t':=dN) kp,⟨t,rfl⟩,k _ (.inr ⟨by rw [gd i bR];exact aV _,fun z hz=>?_⟩)⟩
  obtain ⟨j,hj,rfl⟩:=pE hz
  have:=(best j (by lia)).1
  rw [gd j hj] at this
  exact this
 ·cases e'
  have z1:zs=[]:=Gr.mp (by lia)
  exact ⟨.int d,H2,I2.kept (t':=dN) kp,⟨Jc,rfl⟩,k _ (.inl ⟨z1,rfl⟩)⟩
def Ze:List V→Hp→VK→Prop:=fun xs H Q=>∃(l:Addr) (vs:List V) (x y:Nat→Int),xs=[.ref l]∧H l=some (.lst vs)∧0<vs.length∧(∀(i:Nat) (v:V),vs[i]?=some v→(∃b,v=.ref b∧H b=some (.tup [.int (x i),.int (y i)]))∧0≤y i∧y i<1000) ∧
 ∀(i:Nat) (v:V),vs[i]?=some v→(∀j,j<vs.length→x i*1000+y i≤x j*1000+y j)→Q v H
theorem Zf(hc:X.calm=true)(hu:X.A.units+64<cLine):gr X (.builtin "min") Ze:=by
 intro pins s σ H xs us Q I r h;obtain ⟨l,vs,x,y,rfl,hl,h0,hv,k⟩:=h;obtain ⟨u,rfl,ru⟩:=vals1 r;cases ru;obtain ⟨its,rv,pl,hz⟩:=I.list (.of hl);have xS:=rv.length;have at':∀i v,its[i]?=some v→fK s.heap v (x i) (y i)∧0≤y i∧y i<1000:=fun i v hi=>by
  have bR:i<vs.length:=by have:=(bV.mp hi).1;lia
  have gi:vs[i]?=some vs[i]:=by simp [bR]
  obtain ⟨⟨b,eb,hb⟩,H_⟩:=hv i _ gi;obtain ⟨u,eu,ru⟩:=rv.get gi;rw [hi] at eu;cases eu;rw [eb] at ru;cases ru;obtain ⟨_,jL,r2,o,g,cl,e,d⟩:=(show cK X.prog X.w H s.heap b (.tup [.int (x i),.int (y i)]) from I.aw b _ hb);obtain ⟨u1,u2,rfl,q1,q2⟩:=vals2 r2;obtain ⟨t1,rfl⟩:=q1;obtain ⟨t2,rfl⟩:=q2;exact ⟨⟨b,o,t1,t2,e,rfl,g,cl,d⟩,H_⟩
 have Zg:X.A.in1.units<cLine:=by show X.A.units+1<cLine;lia
 refine OC (kf:=fun i=>x i*1000+y i) (dflt:=none) (I.ok.hd hc) (Za _) rfl pl.isList (Zc Zg at') (.inl (by lia)) (fun i v h' dN hi best kp=>?_) (fun z0=>by lia)
 have bR:i<vs.length:=by have:=(bV.mp hi).1;lia
 have gi:vs[i]?=some vs[i]:=by simp [bR]
 obtain ⟨u,eu,ru⟩:=rv.get gi;rw [hi] at eu;cases eu;exact ⟨vs[i],H,I.kept (t':=dN) kp,ru,k i _ gi fun j hj=>(best j (by lia)).1⟩
end L2
namespace My
open PySem L2
theorem Zh{k:Nat}(h:k≤1000):k≤sizeLine:=bU h (by decide)
def Zi:Sp:=fun vs H Q _=>∃(d:Addr) (done:List Int) (p:Int),vs=[.ref d,.int p]∧H d=some (.tup (done.map V.int))∧done.length≤60 ∧
 ∀(H':Hp) (t:Addr) (ws:List Int),ws.Perm (done++[p])→ws.Pairwise (·≤·)→H t=none→af H H'→H' t=some (.tup (ws.map V.int))→Q (.ref t) H'
def aY:Nat→List (List Nat)
 | 0=>[[]]
 | k+1=>aY k++(aY k).map (·++[k])
theorem D9:∀n,(aY n).length=2 ^ n
 | 0=>rfl
 | n+1=>by unfold aY;rw [cW,ay,D9 n,Nat.pow_succ];lia
theorem cg:∀{n:Nat} {q:List Nat},q∈aY n↔q.Pairwise (· < ·)∧∀x∈q,x<n
 | 0,q=>by
  show q∈[[]]↔_;rw [cB];constructor
  ·rintro rfl
   exact ⟨.nil,fun x h=>by cases h⟩
  ·rintro ⟨_,h⟩
   cases q with
   | nil=>rfl
   | cons a _=>exact absurd (h a cj) (mq _)
 | n+1,q=>by
  show q∈aY n++(aY n).map (·++[n])↔_;rw [cM,bK];constructor
  ·rintro (h | ⟨p,h,rfl⟩)
   ·obtain ⟨h1,h2⟩:=cg.mp h
    exact ⟨h1,fun x hx=>by have:=h2 x hx;lia⟩
   ·obtain ⟨h1,h2⟩:=cg.mp h
    refine ⟨zT.mpr ⟨h1,Gv _ _,fun a ha b hb=>?_⟩,fun x hx=>?_⟩
    ·rw [cB.mp hb]
     exact h2 a ha
    ·rcases cM.mp hx with hx | hx
     ·have:=h2 x hx
      lia
     ·rw [cB.mp hx]
      lia
  ·rintro ⟨h1,h2⟩
   by_cases hn:n∈q
   ·right
    obtain ⟨a,b,rfl⟩:=List.append_of_mem hn;obtain ⟨p1,p2,p3⟩:=zT.mp h1;have b0:b=[]:=by
     cases b with
     | nil=>rfl
     | cons c b=>
      have c1:=(qI.mp p2).1 c cj;have c2:=h2 c (by simp)
      lia
    subst b0;exact ⟨a,cg.mpr ⟨p1,fun x hx=>p3 x hx n cj⟩,rfl⟩
   ·left
    refine cg.mpr ⟨h1,fun x hx=>?_⟩;have:=h2 x hx;have:x≠n:=fun e=>hn (e▸hx);lia
variable {n:Nat}
theorem Bk{q:List Nat}(h1:q.Pairwise (· < ·))(h2:∀x∈q,x<n):q.length≤n:=by
 have:=(fU (n:=n));have sub:q ⊆ List.range n:=fun x hx=>aS.mpr (h2 x hx);have nd:q.Nodup:=h1.imp fun h=>bZ h;have:=nd.length_le_of_subset sub
 rwa [cC] at this
def l0(H:Hp)(xs:List V)(qs:List (List Nat)):Prop:=xs.length=qs.length∧∀(i:Nat) (v:V) (q:List Nat),xs[i]?=some v→qs[i]?=some q→∃b,v=.ref b∧H b=some (.tup (q.map fun k:Nat=>V.int (k:Int)))
variable {H:Hp} {xs:List V} {qs:List (List Nat)}
theorem l0.mono{H':Hp}(h:l0 H xs qs)(s:af H H'):l0 H' xs qs:=⟨h.1,fun i v q h1 h2=>by obtain ⟨b,e,g⟩:=h.2 i v q h1 h2;exact ⟨b,e,s _ _ g⟩⟩
theorem l0.cat{ys:List V}{rs:List (List Nat)}(h:l0 H xs qs)(h':l0 H ys rs):l0 H (xs++ys) (qs++rs):=⟨by rw [cW,cW,h.1,h'.1],fun i v q h1 h2=>by
 by_cases z:i<xs.length
 ·rw [gZ z] at h1
  rw [gZ (by have:=h.1;lia)] at h2
  exact h.2 i v q h1 h2
 ·rw [iw (by lia)] at h1
  rw [iw (by have:=h.1;lia),←h.1] at h2
  exact h'.2 _ v q h1 h2⟩
def Zj:Sp:=fun vs H Q _=>∃n:Nat,vs=[.int (n:Int)]∧n≤9∧∀(D:Addr) (xs:List V) (H':Hp),af H H'→H D=none→H' D=some (.lst xs)→l0 H' xs (aY n)→Q (.ref D) H'
def OF(n:Nat)(L:ak)(done:List Nat)(p c:Nat):Prop:=∃f,i6 n L f∧oQ n f done p c
open Classical in
noncomputable def dB (n:Nat) (L:ak) (done:List Nat) (p:Nat):Int:=if h:∃c,OF n L done p c then ((choose h:Nat):Int)*(choose h:Nat)+3*(choose h:Nat)+1 else 0
variable {p:Nat}
theorem OG{L:ak}{f:Nat→List Nat}{done:List Nat}{c:Nat}(nb:i6 n L f)(h:oQ n f done p c):(c:Int)*c+3*c+1=dB n L done p:=by have e:∃c,OF n L done p c:=⟨c,f,nb,h⟩;unfold dB;rw [dif_pos e];obtain ⟨g,cT,h'⟩:=Classical.choose_spec e;rw [oQ.same nb cT h h']
def bQ(n:Nat)(done:List Nat):List Nat:=(List.range n).filter fun p=>!decide (p∈done)
def bt:List Nat→Nat→List Nat
 | [],p=>[p]
 | x::l,p=>if p<x then p::x::l else x::bt l p
theorem nz:∀{l:List Nat} {p q:Nat},q∈bt l p↔q=p∨q∈l
 | [],p,q=>by simp [bt]
 | x::l,p,q=>by
  unfold bt
  split
  ·simp
  ·rw [bb,nz,bb]
   constructor
   ·rintro (h | h | h)
    ·exact .inr (.inl h)
    ·exact .inl h
    ·exact .inr (.inr h)
   ·rintro (h | h | h)
    ·exact .inr (.inl h)
    ·exact .inl h
    ·exact .inr (.inr h)
theorem rG:∀{l:List Nat} {p:Nat},l.Pairwise (· < ·)→p∉l→(bt l p).Pairwise (· < ·)
 | [],p,_,_=>Gv _ _
 | x::l,p,h,hp=>by
  obtain ⟨h1,h2⟩:=qI.mp h;unfold bt
  split
  ·rename_i lt
   exact qI.mpr ⟨fun a ha=>by
    rcases bb.mp ha with rfl | ha;·exact lt
    ·have:=h1 a ha
     lia,h⟩
  ·rename_i lt
   have px:p≠x:=fun e=>hp (e▸cj);refine qI.mpr ⟨fun a ha=>?_,rG h2 fun z=>hp (ck _ z)⟩;rcases nz.mp ha with rfl | ha;·lia
   ·exact h1 a ha
theorem D_:∀{l:List Nat} {p:Nat},(bt l p).length=l.length+1
 | [],p=>rfl
 | x::l,p=>by
  unfold bt
  split
  ·rfl
  ·rw [dm,D_,dm]
theorem OH{done:List Nat}{ws:List Int}(up:done.Pairwise (· < ·))(hp:p∉done)(pm:ws.Perm (done.map iN++[(p:Int)]))(so:ws.Pairwise (·≤·)):ws=(bt done p).map iN:=by
 obtain ⟨vs,pv,rfl⟩:=perm_back pm (done++[p]) (by rw [eW];rfl)
 have nd:(done++[p]).Nodup:=by
  rw [fD];refine ⟨up.imp fun h=>bZ h,by simp,fun a ha b hb e=>?_⟩
  rw [cB] at hb;subst hb;subst e;exact hp ha
 have vu:vs.Pairwise (· < ·):=YA pv nd so;rw [Oi vu (rG up hp) fun q=>by rw [pv.mem_iff,nz,cM,cB];exact Or.comm]
def Bl(done:List Nat):V→Bool
 | .int z=>!decide (z.toNat∈done)
 | _=>false
theorem Zk(done:List Nat)(q:Nat):Bl done (.int (0+(q:Int))) = !f_ (.int (0+(q:Int))) (done.map fun k:Nat=>V.int (k:Int)):=by rw [z9,t_];show (!decide (((q:Nat):Int).toNat∈done))=_;rw [en]
theorem Zl(n:Nat)(done:List Nat):((List.range n).map fun i:Nat=>V.int (0+(i:Int))).filter (Bl done)=(bQ n done).map fun k:Nat=>V.int (k:Int):=by
 rw [List.filter_map];unfold bQ;rw [show (List.range n).filter (Bl done ∘ fun i:Nat=>V.int (0+(i:Int)))=(List.range n).filter (fun p=>!decide (p∈done)) from List.filter_congr fun q _=>by show Bl done (.int (0+(q:Int)))=_;rw [z9];show (!decide (((q:Nat):Int).toNat∈done))=_;rw [en]]
 exact g8 fun q _=>by rw [z9]
def e_(q:List Nat):List Key:=q.map fun k:Nat=>.inl (k:Int)
def OI(H:Hp)(n:Nat)(L:ak)(W:List Nat→Int)(done:List Nat)(xs:List V):Prop:=xs.length=(bQ n done).length∧∀(i:Nat) (v:V) (p:Nat),xs[i]?=some v→(bQ n done)[i]?=some p→∃b,v=.ref b∧H b=some (.tup [.int (dB n L done p+W (bt done p)),.int (p:Int)])
def Zm:Sp:=fun vs H Q _=>∃(tp d wo:Addr) (n:Nat) (L:ak) (done:List Nat) (kvs:List (List Key×V)) (W:List Nat→Int),vs=[.ref tp,.ref d,.ref wo]∧cL H tp n L∧e8 n L∧n≤9∧H d=some (.tup (done.map fun k:Nat=>V.int (k:Int)))∧done∈aY n∧H wo=some (.dT kvs) ∧
 (∀p,p<n→p∉done→e7 kvs (e_ (bt done p))=some (.int (W (bt done p))))∧∀(H':Hp) (D:Addr) (xs:List V),af H H'→H' D=some (.lst xs)→OI H' n L W done xs→Q (.ref D) H'
end My
namespace L2
open PySem PySem.Spec PyProof.Rows My
variable {K:aD} {Z:ak}
theorem OJ{a:Addr}{us:List V}{H1:Hp}(h:H1 a=some (.lst us))(hZ:bT H1 us Z):II (pO K a) Z H1:=by
 have js:lE (pO K a) us H1:=kh (.of h);refine ⟨fun i Hc s hi=>js.go i Hc s (by rw [hZ.1];exact hi),fun i Hc v H' s y=>?_,fun i Hc s hi=>js.stop i Hc s (by rw [hZ.1];exact hi)⟩
 obtain ⟨rfl,hx⟩:=js.dZ i Hc v H' s y;refine ⟨af.refl _,fun z hz=>?_⟩;have hi:i<us.length:=by rw [hZ.1];exact (bV.mp hz).1
 obtain ⟨b,e,g⟩:=hZ.2 i v z (hx hi) hz;exact ⟨b,e,s _ _ g⟩
theorem Zn{wi:TI}{ρ:St→St}{te:TE}{σ:St}{H:Hp}{Q:VK}(eF:∀R:It→Hp→Prop,(∀J H1,af H H1→II J Z H1→R J H1)→wi σ H R)(hn:Z.length<sizeLine)
  (step:∀z∈Z,∀(Hc:Hp) (R:VK),R (.int z.1) Hc→te (some (.int z.1)::some (.int z.2)::ρ σ) Hc R)
  (fin:∀D Hc,H D=none→af H Hc→Hc D=some (.lst ((Z.map (·.1)).map V.int))→Q (.ref D) Hc):oK K wi ρ (fun _ H Q=>Q true H) te σ H Q:=by
 refine eF _ fun J H1 s1 js=>?_;intro D nD;refine ⟨fun i m us Hc=>m=Z.length-i∧i≤Z.length∧Hc D=some (.lst us)∧af H1 Hc∧us.length≤i∧us=((Z.take i).map (·.1)).map V.int,⟨_,rfl,bG _,ar,fc (af.refl H1) nD,au _,rfl⟩,?_⟩;rintro i m us Hc ⟨rfl,hi,eD,sH,lu,hL⟩;refine ⟨eD,?_⟩;by_cases aR:i<Z.length
 ·refine .inr ⟨js.go i Hc sH aR,fun v H' hy=>?_⟩
  obtain ⟨s',k⟩:=js.dZ i Hc v H' sH hy;obtain ⟨T,rfl,eT⟩:=k Z[i] (by simp [aR])
  have tk:Z.take (i+1)=Z.take i++[Z[i]]:=by rw [nX,aZ aR];rfl
  have mz:Z[i]∈Z:=aV aR;generalize Z[i]=z at eT tk mz;refine ⟨T,_,_,rfl,.of eT,?_⟩;dsimp only;rw [ae rfl];refine step z mz _ _ ?_;refine ⟨s' _ _ eD,by lia,Z.length-(i+1),by lia,rfl,aR,ar,fc (sH.trans s') nD,by simp;lia,?_⟩
  rw [tk,eW,eW,←hL];rfl
 ·have e:i=Z.length:=by lia
  subst e;rw [iU] at hL;subst hL;exact .inl ⟨js.stop _ Hc sH (au _),fin D Hc (none_of s1 nD) (s1.trans sH) eD⟩
end L2
namespace My
open PySem L2
def xU(d:Int):List Int→Int
 | []=>d
 | z::zs=>zs.foldl min z
theorem fold_min:∀(zs:List Int) (z:Int),zs.foldl min z∈z::zs∧∀y∈z::zs,zs.foldl min z≤y
 | [],z=>⟨cj,fun y hy=>by rw [cB.mp hy];exact kO _⟩
 | x::zs,z=>by
  obtain ⟨h1,h2⟩:=fold_min zs (min z x);show zs.foldl min (min z x)∈_∧_;constructor
  ·rcases bb.mp h1 with e | h
   ·rw [e]
    by_cases q:z≤x
    ·rw [Int.min_eq_left q]
     exact cj
    ·rw [Int.min_eq_right (by lia)]
     exact ck _ cj
   ·exact ck _ (ck _ h)
  ·intro y hy
   have h0:=h2 _ cj;rcases bb.mp hy with e | hy
   ·rw [e]
    exact dU h0 (Int.min_le_left _ _)
   ·rcases bb.mp hy with e | hy
    ·rw [e]
     exact dU h0 (Int.min_le_right _ _)
    ·exact h2 y (ck _ hy)
variable {zs:List Int}
theorem Zo{d m:Int}(h:Jb zs d m):m=xU d zs:=by
 rcases h with ⟨rfl,rfl⟩ | ⟨h1,h2⟩;·rfl
 ·cases zs with
  | nil=>cases h1
  | cons z zs=>obtain ⟨f1,f2⟩:=fold_min zs z;exact Int.le_antisymm (h2 _ f1) (f2 _ h1)
noncomputable def wF (n:Nat) (L:ak):Nat→List Nat→Int
 | 0,_=>0
 | k+1,S=>xU 0 ((bQ n S).map fun p=>dB n L S p+wF n L k (bt S p))
noncomputable def wW (n:Nat) (L:ak) (S:List Nat):Int:=wF n L (n-S.length) S
variable {n:Nat} {S:List Nat}
theorem OK(h:S∈aY n)(hl:n≤S.length):bQ n S=[]:=by
 obtain ⟨h1,h2⟩:=cg.mp h;refine List.eq_nil_iff_forall_not_mem.mpr fun p hp=>?_;obtain ⟨p1,p2⟩:=b8.mp hp;have pn:=aS.mp p1;have pS:p∉S:=by simpa using p2
 have up:=rG h1 pS;have:=Bk (n:=n) up fun x hx=>by
  rcases nz.mp hx with rfl | hx;·exact pn
  ·exact h2 x hx
 rw [D_] at this;lia
theorem Bm{L:ak}(h:S∈aY n):wW n L S=xU 0 ((bQ n S).map fun p=>dB n L S p+wW n L (bt S p)):=by
 unfold wW;by_cases hl:S.length<n
 ·obtain ⟨k,hk⟩:∃k,n-S.length=k+1:=⟨n-S.length-1,by lia⟩
  rw [hk];show xU 0 _=_
  congr 1
  refine g8 fun p hp=>?_;rw [D_,show n-(S.length+1)=k by lia]
 ·rw [OK h (by lia),show n-S.length=0 by lia]
  rfl
theorem OL{a b:List Nat}(h:e_ a=e_ b):a=b:=by
 have h1:∀l:List Nat,(e_ l).map (fun k=>match k with | .inl z=>z.toNat | .inr _=>0)=l:=fun l=>by
  unfold e_
  rw [cx]
  conv=>rhs;rw [←qL l]
  exact g8 fun k _=>en k
 rw [←h1 a,←h1 b,h]
def wD(W:List Nat→Int)(qs:List (List Nat)):List (List Key×V):=qs.map fun q=>(e_ q,.int (W q))
theorem Ea(W:List Nat→Int):∀{qs:List (List Nat)} {q:List Nat},q∈qs→e7 (wD W qs) (e_ q)=some (.int (W q))
 | [],_,h=>by cases h
 | r::qs,q,h=>by
  by_cases e:r=q
  ·subst e
   exact A3 rfl
  ·show e7 ((e_ r,V.int (W r))::wD W qs) (e_ q)=_
   rw [A4 fun z=>e (OL z)];exact Ea W ((bb.mp h).resolve_left fun z=>e z.symm)
variable {qs:List (List Nat)} {q:List Nat}
theorem Zp(W:List Nat→Int)(h:q∉qs):putK (wD W qs) (e_ q) (.int (W q))=wD W (qs++[q]):=by
 unfold putK;rw [aa fun z=>?_]
 ·unfold wD
  rw [eW];rfl
 ·obtain ⟨kv,hm,e⟩:=Cw.mp z
  obtain ⟨r,hr,rfl⟩:=bK.mp hm;exact h (OL (dC e)▸hr)
theorem Jd:∀n,(aY n).Nodup
 | 0=>by show [[]].Nodup;simp
 | n+1=>by
  show (aY n++(aY n).map (·++[n])).Nodup;rw [fD];refine ⟨Jd n,(jG.mpr ((Jd n).imp fun h e=>h (List.append_cancel_right e))),fun a ha b hb e=>?_⟩;obtain ⟨c,_,rfl⟩:=bK.mp hb;have:=(cg.mp ha).2 n (by rw [e];simp)
  lia
def Zq:Sp:=fun vs H Q _=>∃(tp:Addr) (n:Nat) (L:ak),vs=[.ref tp]∧cL H tp n L∧e8 n L∧n≤9 ∧
 ∀(H':Hp) (D:Addr) (qs:List (List Nat)),af H H'→H D=none→H' D=some (.dT (wD (wW n L) qs))→qs.Perm (aY n)→Q (.ref D) H'
variable {H:Hp}
theorem Zr{K:aD}{wi:TI}{ρ:St→St}{tt:TT}{te td:TE}{σ:St}{Q:VK}(h:oK K wi ρ tt te σ H fun x H1=>td σ H1 fun y H2=>∃(l:Addr) (zs:List Int) (d:Int),[x]=[V.ref l]∧y=.int d∧H2 l=some (.lst (zs.map V.int))∧zs.length≤10000∧∀m,Jb zs d m→Q (.int m) H2):OE (wV (oK K wi ρ tt te) tE) td σ H Q:=h
structure Je (n:Nat) (qs:List (List Nat)):Prop where
 pm:qs.Perm (aY n)
 dn:qs.Pairwise fun a b=>b.length≤a.length
theorem Zs{p:List Nat}(h:rC (aY n).length (fun i=>((((aY n).getD i []).length:Nat):Int)) p):Je n (p.map fun i=>(aY n).getD i []):=by
 refine ⟨?_,?_⟩
 ·have e:(List.range (aY n).length).map (fun i=>(aY n).getD i [])=aY n:=by
   refine iy (by simp) fun i h1 h2=>?_
   simp [h2]
  have:=h.pm.map fun i=>(aY n).getD i [];rw [e] at this;exact this
 ·rw [jG]
  exact h.dn.imp fun h=>Int.ofNat_le.mp h
variable {j p:Nat}
theorem Zt(h:Je n qs)(hq:qs[j]?=some q)(pn:p<n)(pq:p∉q):bt q p∈qs.take j:=by
 have hj:=(bV.mp hq).1;obtain ⟨q1,q2⟩:=cg.mp (h.pm.mem_iff.mp (kJ hq));have hm:bt q p∈qs:=h.pm.mem_iff.mpr (cg.mpr ⟨rG q1 pq,fun x hx=>by
  rcases nz.mp hx with rfl | hx;·exact pn
  ·exact q2 x hx⟩)
 obtain ⟨i,hi,e⟩:=pE hm;by_cases ij:i<j;·exact List.mem_take_iff_getElem.mpr ⟨i,by lia,e⟩
 ·exfalso
  have l5:qs[j]=q:=by have:=aZ hj;rw [hq] at this;exact (Option.some.inj this).symm
  have l1:=D_ (l:=q) (p:=p);by_cases z:i=j
  ·subst z
   rw [←e,l5] at l1;lia
  ·have:=pF.mp h.dn j i hj hi (by lia)
   rw [e,l5,l1] at this;lia
theorem Zu(h:Je n qs)(hq:qs[j]?=some q):q∉qs.take j∧qs.take (j+1)=qs.take j++[q]:=by
 have hj:=(bV.mp hq).1;have nd:qs.Nodup:=h.pm.nodup_iff.mpr (Jd n);refine ⟨fun hm=>?_,by rw [nX,hq];rfl⟩
 obtain ⟨i,hi,e⟩:=List.mem_take_iff_getElem.mp hm;have l5:qs[j]=q:=by have:=aZ hj;rw [hq] at this;exact (Option.some.inj this).symm
 exact pF.mp (kT.mp nd) i j (by lia) hj (by lia) (e.trans l5.symm)
variable {xs:List V}
theorem Zv(h:l0 H xs qs){p:List Nat}(hp:∀i∈p,i<qs.length):l0 H (p.map fun i=>xs.getD i .aI) (p.map fun i=>qs.getD i []):=by
 refine ⟨by rw [ay,ay],fun k v q h1 h2=>?_⟩
 rw [bz] at h1 h2;cases e:p[k]? with
 | none=>rw [e] at h1;cases h1
 | some i=>
  rw [e] at h1 h2;cases h1;cases h2;have hi:=hp i (kJ e);have hx:i<xs.length:=by rw [h.1];exact hi
  refine h.2 i _ _ ?_ ?_
  ·show xs[i]?=some (xs.getD i V.aI)
   rw [cQ,aZ hx];rfl
  ·show qs[i]?=some (qs.getD i [])
   rw [cQ,aZ hi];rfl
theorem Jf{L:ak}{W:List Nat→Int}{done:List Nat}(h:OI H n L W done xs):bT H xs ((bQ n done).map fun p=>(dB n L done p+W (bt done p),(p:Int))):=by
 refine ⟨by rw [h.1,ay],fun k v z h1 h2=>?_⟩
 rw [bz] at h2;cases e:(bQ n done)[k]? with
 | none=>rw [e] at h2;cases h2
 | some p=>rw [e] at h2;cases h2;exact h.2 k v p h1 e
noncomputable def gy (n:Nat) (L:ak):List Nat→List Nat→Int
 | _,[]=>0
 | S,p::o=>dB n L S p+gy n L (bt S p) o
theorem OM(n:Nat)(L:ak):∀(o:List Nat) (S:List Nat) (p:Nat),gy n L S (o++[p])=gy n L S o+dB n L (o.foldl bt S) p
 | [],S,p=>by show dB n L S p+0=0+dB n L S p;lia
 | x::o,S,p=>by show dB n L S x+gy n L (bt S x) (o++[p])=dB n L S x+gy n L (bt S x) o+dB n L (o.foldl bt (bt S x)) p;rw [OM n L o (bt S x) p];lia
theorem ON{z:Int}(h:zs≠[]):xU z zs∈zs∧∀y∈zs,xU z zs≤y:=by
 cases zs with
 | nil=>exact absurd rfl h
 | cons x zs=>exact fold_min zs x
structure um (n:Nat) (L:ak) (o S:List Nat):Prop where
 eq:S=o.foldl bt []
 pm:S.Perm o
 mem:S∈aY n
 OO:gy n L [] o+wW n L S=wW n L []
theorem um.start(n:Nat)(L:ak):um n L [] []:=⟨rfl,.nil,cg.mpr ⟨.nil,fun x h=>by cases h⟩,by show 0+_=_;lia⟩
theorem OP:∀(l:List Nat) (p:Nat),(bt l p).Perm (l++[p])
 | [],p=>.refl _
 | x::l,p=>by
  unfold bt
  split
  ·exact (List.perm_append_singleton p (x::l)).symm
  ·exact (OP l p).cons x
variable {o:List Nat}
theorem um.next{L:ak}(h:um n L o S)(hp:p∈bQ n S)(hm:∀q∈bQ n S,dB n L S p+wW n L (bt S p)≤dB n L S q+wW n L (bt S q)):um n L (o++[p]) (bt S p):=by
 obtain ⟨p1,p2⟩:=b8.mp hp;have pn:=aS.mp p1;have pS:p∉S:=by simpa using p2
 obtain ⟨m1,m2⟩:=cg.mp h.mem;refine ⟨by rw [List.foldl_append,←h.eq];rfl,(OP S p).trans (h.pm.append_right [p]),cg.mpr ⟨rG m1 pS,fun x hx=>?_⟩,?_⟩
 ·rcases nz.mp hx with rfl | hx
  ·exact pn
  ·exact m2 x hx
 ·have st:=Bm (L:=L) h.mem
  obtain ⟨f1,f2⟩:=ON (z:=0) (zs:=(bQ n S).map fun p=>dB n L S p+wW n L (bt S p)) (fun e=>by rw [CF] at e;rw [e] at hp;cases hp)
  rw [←st] at f1 f2;obtain ⟨q,hq,e⟩:=bK.mp f1;have h1:=hm q hq;have h2:=f2 _ (bK.mpr ⟨p,hp,rfl⟩);have:=h.OO;rw [OM,←h.eq];lia
theorem Zw(h:S∈aY n)(hl:S.length<n):0<(bQ n S).length:=by
 refine Nat.pos_of_ne_zero fun e=>?_;have e:=Gr.mp e;have sub:List.range n ⊆ S:=fun x hx=>by
  refine gp fun no=>?_;have:x∈bQ n S:=b8.mpr ⟨hx,by simpa using no⟩
  rw [e] at this;cases this
 have:=(fU (n:=n)).length_le_of_subset sub;rw [cC] at this;lia
theorem Zx(h:S∈aY n)(hl:S.length=n):S=List.range n:=by
 obtain ⟨h1,h2⟩:=cg.mp h;refine Oi h1 (Bb n) fun p=>⟨fun hp=>aS.mpr (h2 p hp),fun hp=>?_⟩;refine gp fun no=>?_;have:p∈bQ n S:=b8.mpr ⟨hp,by simpa using no⟩
 rw [OK h (by lia)] at this
 cases this
def Zy:Sp:=fun vs H Q _=>∃(tp:Addr) (n:Nat) (L:ak),vs=[.ref tp]∧cL H tp n L∧e8 n L∧n≤9 ∧
 ∀(H':Hp) (t lo:Addr) (o:List Nat),af H H'→H lo=none→H' t=some (.tup [.ref lo,.int (wW n L [])])→H' lo=some (.lst (o.map fun k:Nat=>V.int (k:Int)))→o.Perm (List.range n)→gy n L [] o=wW n L []→Q (.ref t) H'
theorem Zz(h:(p::o).Perm (bQ n S)):o.Perm (bQ n (bt S p)):=by
 have nl:(bQ n S).Nodup:=fU.filter _;have nd:=h.nodup_iff.mpr nl;obtain ⟨n1,n2⟩:=gY.mp nd;refine (kU n2 (fU.filter _)).mpr fun q=>?_;have hq:=h.mem_iff (a:=q);have e1:∀T:List Nat,q∈bQ n T↔q<n∧q∉T:=fun T=>by unfold bQ;rw [b8,aS];simp
 rw [e1,bb] at hq;show q∈o↔q∈bQ n (bt S p);rw [e1,nz];constructor
 ·intro ho
  have:=hq.mp (.inr ho);exact ⟨this.1,fun z=>z.elim (fun e=>n1 (e▸ho)) this.2⟩
 ·rintro ⟨h1,h2⟩
  rcases hq.mpr ⟨h1,fun z=>h2 (.inr z)⟩ with e | ho;·exact absurd (.inl e) h2
  ·exact ho
theorem OQ{n:Nat}{L:ak}:∀(o S:List Nat),S∈aY n→o.Perm (bQ n S)→wW n L S≤gy n L S o
 | [],S,hS,h=>by have e:bQ n S=[]:=h.symm.eq_nil;rw [Bm hS,e];exact kO _
 | p::o,S,hS,h=>by
  have hp:p∈bQ n S:=h.mem_iff.mp cj;obtain ⟨p1,p2⟩:=b8.mp hp;have pn:=aS.mp p1;have pS:p∉S:=by simpa using p2
  obtain ⟨m1,m2⟩:=cg.mp hS;have ih:=OQ (L:=L) o (bt S p) (cg.mpr ⟨rG m1 pS,fun x hx=>by
   rcases nz.mp hx with rfl | hx;·exact pn
   ·exact m2 x hx⟩) (Zz h)
  have f2:=(ON (z:=0) (zs:=(bQ n S).map fun p=>dB n L S p+wW n L (bt S p)) (fun e=>by rw [CF] at e;rw [e] at hp;cases hp)).2
  rw [←Bm hS] at f2;have h2:=f2 _ (bK.mpr ⟨p,hp,rfl⟩);show wW n L S≤dB n L S p+gy n L (bt S p) o;lia
theorem ZA{L:ak}(ho:o.Perm (List.range n)):wW n L []≤gy n L [] o:=by
 refine OQ o [] (cg.mpr ⟨.nil,fun x h=>by cases h⟩) (ho.trans ?_)
 have:bQ n []=List.range n:=by unfold bQ;exact List.filter_eq_self.mpr fun a _=>by simp
 rw [this]
theorem OR:∀(pre S:List Nat) (q:Nat),q∈pre.foldl bt S↔q∈pre∨q∈S
 | [],S,q=>by simp
 | x::pre,S,q=>by
  show q∈pre.foldl bt (bt S x)↔_;rw [OR pre,nz,bb];constructor
  ·rintro (h | h | h)
   ·exact .inl (.inr h)
   ·exact .inl (.inl h)
   ·exact .inr h
  ·rintro ((h | h) | h)
   ·exact .inr (.inl h)
   ·exact .inl h
   ·exact .inr (.inr h)
open Classical in
theorem ZC{L:ak}(ho:o.Perm (List.range n))(di:e8 n L){x:Nat}(xn:x<n)(hS:∀y,y∈S↔d_ n o (o.idxOf x) y){ms:List Nat}(h:jy n o x ms∧lY n L o x ms):((ms.length:Nat):Int)*ms.length+3*ms.length+1=dB n L S x:=by
 have nb:i6 n L (fun i=>(List.range n).filter fun j=>rL L i j):=fun i j hi=>by
  rw [b8,aS,h_];constructor;·exact fun h=>h.2
  ·intro h
   refine ⟨?_,h⟩;rcases h with e | e
   ·have:=di _ e
    lia
   ·have:=di _ e
    lia
 generalize (fun i=>(List.range n).filter fun j=>rL L i j)=f at nb;have ad:∀a b,lW n f a b↔aL n L a b:=fun a b=>by
  unfold lW aL;constructor
  ·rintro ⟨h1,h2⟩
   have h3:=(nb a b h1).mp h2;refine ⟨h1,?_,h3⟩;rcases h3 with e | e
   ·have:=di _ e
    lia
   ·have:=di _ e
    lia
  ·rintro ⟨h1,_,h3⟩
   exact ⟨h1,(nb a b h1).mpr h3⟩
 have rc:∀q,qb (lW n f) (·∈S) x q↔q=x∨Wk (aL n L) (d_ n o (o.idxOf x)) x q:=fun q=>by
  rw [Yj];constructor
  ·rintro (e | w)
   ·exact .inl e
   ·exact .inr ((w.imp fun a b=>(ad a b).mp).mono fun y=>(hS y).mp)
  ·rintro (e | w)
   ·exact .inl e
   ·exact .inr ((w.imp fun a b=>(ad a b).mpr).mono fun y=>(hS y).mpr)
 have wl:∀q,Wk (aL n L) (d_ n o (o.idxOf x)) x q→q<n:=fun q w=>by
  cases w with
  | one ab=>exact ab.2.1
  | more _ _ ab=>exact ab.2.1
 refine OG nb ⟨(List.range n).filter fun q=>decide (qb (lW n f) (·∈S) x q),⟨fU.filter _,fun k hk=>aS.mp (b8.mp hk).1⟩,fun q=>?_,?_⟩
 ·rw [b8,aS,fT]
  refine ⟨fun h=>h.2,fun h=>⟨?_,h⟩⟩;rcases (rc q).mp h with e | w;·rw [e];exact xn
  ·exact wl q w
 ·refine ((kU (h.1.up.imp fun h=>bZ h) ((fU.filter _).filter _)).mpr fun q=>?_).length_eq
  rw [h.2 q,b8,b8,aS,fT,rc q];constructor
  ·rintro ⟨h1,h2,h3⟩
   refine ⟨⟨h1,.inr h3⟩,?_⟩;have qx:q≠x:=fun e=>by subst e;lia
   have qS:q∉S:=fun z=>by have:=((hS q).mp z).2;lia
   simp [qx,qS]
  ·rintro ⟨⟨h1,h2⟩,h3⟩
   have qx:q≠x:=fun e=>by simp [e] at h3
   have qS:q∉S:=fun z=>by simp [z] at h3
   refine ⟨h1,?_,h2.resolve_left qx⟩;have ne:=ni ho h1 xn qx;have:¬o.idxOf q<o.idxOf x:=fun z=>qS ((hS q).mpr ⟨h1,z⟩);lia
theorem OS{n:Nat}{L:ak}{o:List Nat}(ho:o.Perm (List.range n))(di:e8 n L){g:Nat→List Nat}(hg:∀p,p<n→jy n o p (g p)∧lY n L o p (g p)):∀(l pre:List Nat),o=pre++l→gy n L (pre.foldl bt []) l=(l.map fun x=>(((g x).length:Nat):Int)*(g x).length+3*(g x).length+1).sum
 | [],_,_=>rfl
 | x::l,pre,e=>by
  have nd:=p_ ho;rw [e,fD] at nd;obtain ⟨np,nx,dj⟩:=nd;have xn:x<n:=(gR ho).mp (by rw [e];simp)
  have ix:o.idxOf x=pre.length:=by rw [e,iW,aa fun h=>dj x h x cj rfl,nY,eJ]
  have hS:∀y,y∈pre.foldl bt []↔d_ n o (o.idxOf x) y:=fun y=>by
   rw [OR,ix];unfold d_;constructor
   ·rintro (h | h)
    ·refine ⟨(gR ho).mp (by rw [e];simp [h]),?_⟩
     rw [e,iW,ae h];exact pH h
    ·cases h
   ·rintro ⟨h1,h2⟩
    refine .inl (gp fun no=>?_);rw [e,iW,aa no] at h2;lia
  have c:=ZC ho di xn hS (hg x xn);have ih:=OS ho di hg l (pre++[x]) (by rw [e];simp)
  rw [List.foldl_append] at ih;show dB n L (pre.foldl bt []) x+gy n L (bt (pre.foldl bt []) x) l=_;rw [cO,d7,←c];exact fv _ ih
theorem ZD{L M:ak}(ho:o.Perm (List.range n))(di:e8 n L)(f:bO n L o M){g:Nat→List Nat}(hg:∀p,p<n→jy n o p (g p)∧lY n L o p (g p)):gy n L [] o=(fg n M:Int):=by
 have h1:=OS ho di hg o [] rfl;have h2:=Ow ho f hg;have h3:∀l:List Nat,(l.map fun x=>(((g x).length:Nat):Int)*(g x).length+3*(g x).length+1).sum=(((l.map fun x=>(g x).length*(g x).length+3*(g x).length+1).sum:Nat):Int):=fun l=>by
  induction l with
  | nil=>rfl
  | cons x l ih=>rw [cO,d7,cO,d7,ih];push_cast;rfl
 show gy n L (([]:List Nat).foldl bt []) o=_;rw [h1,h3,←h2,(ho.map fun x=>(g x).length*(g x).length+3*(g x).length+1).sum_nat]
end My
namespace L2
open PySem
section
variable {prog:Program} {w:World} {A:Around} {E:aF} {s:Shared}
theorem ZE{d:Addr}{es:Array DictEntry}{ep:Nat}{Q:aF}(hd:(d == sysModules)=false)(hm:IU s.heap d es ep)(C6:(es.size:Int)<2 ^ 63)
  (h:Q (.int es.size (s.toks+1)) {s with toks:=s.toks+1+1}):wpAny (model prog w) A (call (.builtin "len") [.ref d]) Q E s:=by
 refine PyProof.Rows.call_len_slot (n:=es.size) hm.ty F.slot_dict_len (fun Q' hq=>?_) (by lia) (by lia) h
 refine wpAny_call_entry F.slot_dict_len hm.ty F.entry_dict_len ?_ (F.args_dict_len_1 _);obtain ⟨o,ho,hc,Bn⟩:=hm;show wpAny _ _ (dictSize d >>= _) _ _ s;unfold dictSize;refine ax (ax (wpAny_dictEntries ho Bn (bJ ?_)));show wpAny _ _ (Builtin.Dict.pendingCount d >>= _) _ _ s;refine ax (wpAny_pendingCount_other hd ?_);refine wpAny_ret_mkInt ?_;show Q' (.int ((es.size:Int)+(0:Int)) s.toks) _;rw [Int.add_zero];exact hq
end
theorem ZF{X:Cx}:gr X (.builtin "len") (fun xs H Q=>∃a kvs,xs=[V.ref a]∧H a=some (.dT kvs)∧kvs.length≤10000∧Q (.int kvs.length) H):=by
 intro pins s σ H xs us Q I r h;obtain ⟨d,kvs,rfl,hp,hn,q⟩:=h;obtain ⟨u,rfl,ru⟩:=vals1 r;cases ru;obtain ⟨_,sys,CL,kt,o,es,ep,g,c,dd,e4,e5,e6⟩:=NT I.aw hp;have sz:es.size=kvs.length:=by rw [size_of_entries e4,←Paired.length kt]
 exact ZE sys ⟨o,g,c,dd⟩ (by lia) ⟨.int kvs.length,H,I.tok _,⟨s.toks+1,by rw [sz]⟩,q⟩
open PySem PySem.Spec PyProof.Rows My
variable {K:aD} {wi:TI} {ρ:St→St} {te:TE} {σ:St} {H:Hp} {Q:VK}
theorem ZG{Z:ak}(f:Int×Int→V)(eF:∀R:It→Hp→Prop,(∀J H1,af H H1→II J Z H1→R J H1)→wi σ H R)(hn:Z.length<sizeLine)
  (step:∀z∈Z,∀(Hc:Hp) (R:VK),af H Hc→R (f z) Hc→te (some (.int z.1)::some (.int z.2)::ρ σ) Hc R)
  (fin:∀D Hc,H D=none→af H Hc→Hc D=some (.lst (Z.map f))→Q (.ref D) Hc):oK K wi ρ (fun _ H Q=>Q true H) te σ H Q:=by
 refine eF _ fun J H1 s1 js=>?_;intro D nD;refine ⟨fun i m us Hc=>m=Z.length-i∧i≤Z.length∧Hc D=some (.lst us)∧af H1 Hc∧us.length≤i∧us=(Z.take i).map f,⟨_,rfl,bG _,ar,fc (af.refl H1) nD,au _,rfl⟩,?_⟩;rintro i m us Hc ⟨rfl,hi,eD,sH,lu,hL⟩;refine ⟨eD,?_⟩;by_cases aR:i<Z.length
 ·refine .inr ⟨js.go i Hc sH aR,fun v H' hy=>?_⟩
  obtain ⟨s',k⟩:=js.dZ i Hc v H' sH hy;obtain ⟨T,rfl,eT⟩:=k Z[i] (by simp [aR])
  have tk:Z.take (i+1)=Z.take i++[Z[i]]:=by rw [nX,aZ aR];rfl
  have mz:Z[i]∈Z:=aV aR;generalize Z[i]=z at eT tk mz;refine ⟨T,_,_,rfl,.of eT,?_⟩;dsimp only;rw [ae rfl];refine step z mz _ _ (s1.trans (sH.trans s')) ?_;refine ⟨s' _ _ eD,by lia,Z.length-(i+1),by lia,rfl,aR,ar,fc (sH.trans s') nD,by simp;lia,?_⟩
  rw [tk,eW,←hL];rfl
 ·have e:i=Z.length:=by lia
  subst e;rw [iU] at hL;subst hL;exact .inl ⟨js.stop _ Hc sH (au _),fin D Hc (none_of s1 nD) (s1.trans sH) eD⟩
theorem ZH{r:List V→Hp→VK→Prop}{tt:TT}(h:oK K wi ρ tt te σ H fun x H1=>r [x] H1 Q):An r (wV (oK K wi ρ tt te) tE) σ H Q:=h
end L2
namespace My
open PySem L2
open Classical in
noncomputable def uo (n:Nat) (L:ak) (W:List Nat→Int) (S:List Nat):Bool:=decide (∀p∈bQ n S,W S≤dB n L S p+W (bt S p))
def ZI:Sp:=fun vs H Q _=>∃(tp d wo:Addr) (n:Nat) (L:ak) (done:List Nat) (kvs:List (List Key×V)) (W:List Nat→Int),vs=[.ref tp,.ref d,.ref wo]∧cL H tp n L∧e8 n L∧n≤9∧H d=some (.tup (done.map fun k:Nat=>V.int (k:Int)))∧done∈aY n∧H wo=some (.dT kvs) ∧
 (∀p,p<n→p∉done→e7 kvs (e_ (bt done p))=some (.int (W (bt done p))))∧e7 kvs (e_ done)=some (.int (W done))∧∀H':Hp,af H H'→Q (.bl (uo n L W done)) H'
theorem Eb{n:Nat}{L:ak}{o:List Nat}(ho:o.Perm (List.range n))(cl:ug n (aL n L) (fun a=>o.idxOf a)):∀(k a b:Nat),a<n→b<n→k≤o.idxOf a→k≤o.idxOf b→a≠b→Wk (aL n L) (d_ n o k) a b→aL n L a b
 | 0,a,b,_,_,_,_,_,w=>by
  cases w with
  | one ab=>exact ab
  | more _ t _=>exact absurd t.2 (mq _)
 | k+1,a,b,an,bn,ka,kb,ne,w=>by
  have lo:=t9 ho;have ia:o.idxOf a<o.length:=pH ((gR ho).mpr an);have hk:k<o.length:=by lia
  have pn:o[k]<n:=(gR ho).mp (aV hk);have ip:o.idxOf o[k]=k:=DS (p_ ho) hk;generalize o[k]=p at pn ip;have th:∀x,d_ n o (k+1) x↔d_ n o k x∨x=p:=fun x=>by
   unfold d_;constructor
   ·rintro ⟨h1,h2⟩
    by_cases e:o.idxOf x=k
    ·right
     refine gp fun z=>?_;exact absurd (e.trans ip.symm) (ni ho h1 pn z)
    ·exact .inl ⟨h1,by lia⟩
   ·rintro (⟨h1,h2⟩ | rfl)
    ·exact ⟨h1,by lia⟩
    ·exact ⟨pn,by lia⟩
  have ap:a≠p:=fun e=>by subst e;lia
  have bp:b≠p:=fun e=>by subst e;lia
  rcases (Wk.step th).mp w with h | ⟨h1,h2⟩;·exact Eb ho cl k a b an bn (by lia) (by lia) ne h
  ·have e1:=Eb ho cl k a p an pn (by lia) (by lia) ap h1
   have e2:=Eb ho cl k p b pn bn (by lia) (by lia) bp.symm h2
   exact cl p a b pn an bn (show o.idxOf p<o.idxOf a by lia) (show o.idxOf p<o.idxOf b by lia) ne (gT _ _ e1) e2
variable {n:Nat} {o:List Nat}
theorem Ec{L:ak}(ho:o.Perm (List.range n))(pw:L.Pairwise lexLt)(lt:∀z∈L,0≤z.1∧z.1<z.2∧z.2<(n:Int))(cl:ug n (aL n L) (fun a=>o.idxOf a)):bO n L o L:=by
 refine ⟨pw,fun z=>⟨fun hz=>?_,?_⟩⟩
 ·obtain ⟨z0,z1,z2⟩:=lt z hz
  obtain ⟨i,j⟩:=z;dsimp only at z0 z1 z2;obtain ⟨a,rfl⟩:=mH z0;obtain ⟨b,rfl⟩:=mH (show 0≤j by lia)
  have an:a<n:=by lia
  have bn:b<n:=by lia
  have ne:=ni ho an bn (by lia)
  by_cases h:o.idxOf a<o.idxOf b
  ·refine ⟨a,b,an,bn,h,.one ⟨an,bn,.inl hz⟩,?_⟩
   unfold dI;rw [aa (by lia),ae (by lia)]
  ·refine ⟨b,a,bn,an,by lia,.one ⟨bn,an,.inr hz⟩,?_⟩
   unfold dI;rw [ae (by lia),aa (by lia)]
 ·rintro ⟨p,q,pn,qn,pq,w,rfl⟩
  have ne:p≠q:=fun e=>by subst e;lia
  have h:=Eb ho cl (o.idxOf p) p q pn qn (au _) (jY pq) ne w;unfold dI;rcases h.2.2 with e | e
  ·have:=lt _ e
   rw [aa (by lia),ae (by lia)]
   exact e
  ·have:=lt _ e
   rw [ae (by lia),aa (by lia)]
   exact e
theorem Jg{L:ak}(ho:o.Perm (List.range n))(f:bO n L o L):ug n (aL n L) (fun a=>o.idxOf a):=fun a b c an bn cn ab ac bc e1 e2=>by
 have ne:=ni ho bn cn bc;have both:∀k,o.idxOf a<k→Wk (aL n L) (d_ n o k) b c:=fun k hk=>(Wk.one (gT _ _ e1)).more ⟨an,hk⟩ e2;by_cases h:o.idxOf b<o.idxOf c;·exact ⟨bn,cn,h_.mp ((nk f bn cn h).mpr (both _ ab))⟩
 ·exact gT _ _ ⟨cn,bn,h_.mp ((nk f cn bn (by lia)).mpr ((both _ ac).symm gT))⟩
def ky(n:Nat)(r:Nat→Nat→Bool)(P:List Nat):Prop:=∀A b B,P=A++b::B→∀a,a<n→a∉A→(A.filter (r a)).length≤(A.filter (r b)).length
theorem OT{r s:Nat→Bool}:∀{l:List Nat},(∀d∈l,s d=true→r d=true)→∀{c},c∈l→r c=true→s c=false→(l.filter s).length<(l.filter r).length
 | [],_,_,h,_,_=>by cases h
 | x::l,h,c,hc,rc,Bo=>by
  have le:(l.filter s).length≤(l.filter r).length:=by
   clear hc rc Bo;have h':∀d∈l,s d=true→r d=true:=fun d hd=>h d (ck _ hd);clear h
   induction l with
   | nil=>exact au _
   | cons y l ih=>
    have ih:=ih fun d hd=>h' d (ck _ hd);have hy:=h' y cj;rw [nZ,nZ];by_cases sy:s y=true
    ·rw [ae sy,ae (hy sy),dm,dm]
     lia
    ·rw [aa sy]
     split
     ·rw [dm]
      lia
     ·exact ih
  rw [nZ,nZ];rcases bb.mp hc with rfl | hc
  ·rw [Bo,aa (by decide),ae rc,dm]
   lia
  ·have ih:=OT (fun d hd=>h d (ck _ hd)) hc rc Bo
   by_cases sx:s x=true
   ·rw [ae sx,ae (h x cj sx),dm,dm]
    lia
   ·rw [aa sx]
    split
    ·rw [dm]
     lia
    ·exact ih
variable {P:List Nat}
theorem ZJ{L:ak}(pm:P.Perm (List.range n))(h:ky n (rL L) P):IV n (aL n L) (fun a=>P.reverse.idxOf a):=fun a b c an bn cn ab bc e1 e2=>by
 have po:P.reverse.Perm (List.range n):=(kP P).trans pm;obtain ⟨A,B,e⟩:=List.append_of_mem (pm.mem_iff.mpr (aS.mpr bn));have er:P.reverse=B.reverse++b::A.reverse:=by rw [e];simp
 have nd:=p_ po;rw [er,fD] at nd;obtain ⟨_,nx,dj⟩:=nd;obtain ⟨nb,_⟩:=gY.mp nx;have ib:P.reverse.idxOf b=B.reverse.length:=by rw [er,iW,aa fun h=>dj b h b cj rfl,nY,eJ]
 have iA:∀d,d∈A→P.reverse.idxOf b<P.reverse.idxOf d:=fun d hd=>by
  have hr:d∈A.reverse:=mG.mpr hd;have db:d≠b:=fun z=>nb (z▸hr);rw [ib,er,iW,aa fun h=>dj d h d (ck _ hr) rfl,we,show (b == d)=false from by simpa using db.symm]
  simp only [cond_false];lia
 have iB:∀d,d<n→P.reverse.idxOf b<P.reverse.idxOf d→d∈A:=fun d dn lt=>by
  have hm:=(gR po).mpr dn;rw [er,cM,bb] at hm;rcases hm with hm | rfl | hm
  ·rw [ib,er,iW,ae hm] at lt
   have:=pH hm;lia
  ·lia
  ·exact mG.mp hm
 refine gp fun no=>?_;have cA:=iB c cn bc;have aA:a∉A:=fun z=>by have:=iA a z;have ab:P.reverse.idxOf a<P.reverse.idxOf b:=ab;lia
 have le:=h A b B e a an aA;have Al:∀d∈A,d<n:=fun d hd=>aS.mp (pm.mem_iff.mp (by rw [e];simp [hd]))
 have lt:=OT (r:=rL L a) (s:=rL L b) (l:=A) (fun d hd sd=>by
  refine gp fun nr=>no ⟨d,Al d hd,iA d hd,⟨bn,Al d hd,h_.mp sd⟩,fun z=>nr (h_.mpr z.2.2)⟩) cA (h_.mpr e1.2.2) (by
  cases z:rL L b c with
  | false=>rfl
  | true=>exact absurd ⟨bn,cn,h_.mp z⟩ e2)
 lia
theorem OU{L:ak}(pw:L.Pairwise lexLt)(lt:∀z∈L,0≤z.1∧z.1<z.2∧z.2<(n:Int))(ho:o.Perm (List.range n))(f:bO n L o L)(pm:P.Perm (List.range n))(h:ky n (rL L) P):bO n L P.reverse L:=by
 have po:P.reverse.Perm (List.range n):=(kP P).trans pm;refine Ec po pw lt (YR (Jg ho f) (fun a b an bn e=>gp fun z=>ni ho an bn z e) (fun a b an bn e=>gp fun z=>ni po an bn z e) gT (fun a h=>?_) (ZJ pm h) fun a an=>?_);·rcases h.2.2 with e | e <;> (have:=lt _ e;lia)
 ·have:=pH ((gR po).mpr an)
  rw [t9 po] at this;exact this
end My
namespace L2
open PySem PySem.W PyProof.Rows
section
variable {prog:Program} {w:World} {A:Around} {E:aF} {s:Shared}
theorem ZK{Q:List Value→Shared→Prop}{r:Addr}{b:Int}{t u v:Tok}{n:Nat}(hh:A.handled=none)(hr:IsRange s.heap r 0 b 1 t u v)(Bp:Builtin.Range.small 0 b 1=true)(hn:Builtin.Range.rangeSize 0 b 1=n)(hlen:n≤2 ^ 24)
  (hQ:∀h' tk (acc:Array Value),(∀b o',s.heap.get? b=some o'→h'.get? b=some o')→ItemsOf (fun i v=>∃t,v=.int (0+(i:Int)*1) t) acc n→Q acc.toList {s with heap:=h',toks:=tk}):wpAny (model prog w) A (collect (.ref r)) Q E s:=by
 unfold collect
 refine ax (wpAny_runValue (qE F.entry_proto_collect ?_))
 rw [sI F.plain_proto_collect _]
 show wpAny _ A.in1 (newList [] >>= fun l=>again (.builtin "list.__iadd__" ⟨[l,.ref r],[]⟩)) _ _ s
 refine ax (vU ?_)
 refine bJ ⟨sJ F.plain_list_iadd _,qE F.entry_list_iadd ?_⟩
 rw [sI F.plain_list_iadd _]
 show wpAny _ A.in1 (Builtin.List.listExtendWith (.ref s.heap.objs.size) (.ref r) (.ref s.heap.objs.size)) _ _ _
 have hS:(s.heap.push {cls:=.type "list",data:=.seq ([]:List Value).toArray}).get? s.heap.objs.size=some {cls:=.type "list",data:=.seq #[] 0}:=eh _ rfl
 refine b9 (wpAny_extend_range (A:=A) (R:=fun r' s'=>∃h' tk acc c,r'=.ok (.ret (.ref s.heap.objs.size))∧s'={s with heap:=h',toks:=tk}∧(∀b o',s.heap.get? b=some o'→h'.get? b=some o')∧h'.get? s.heap.objs.size=some {cls:=.type "list",dict:=none,data:=.seq acc c,slots:=#[]}∧ItemsOf (fun i v=>∃t,v=.int (0+(i:Int)*1) t) acc n)
  (s:={s with heap:=s.heap.push {cls:=.type "list",data:=.seq ([]:List Value).toArray}}) hh (b_ _ hr) Bp hn hlen _ _ 0 hS fun h' tk acc c k g it=>⟨h',tk,acc,c,rfl,rfl,fun b o' hb=>k b o' (bZ (aU hb)) (b_ _ hb),g,it⟩) (fun fin s' h=>?_) (fun e s' h=>?_)
 ·have done:∀s',(∃h' tk acc c,s'={s with heap:=h',toks:=tk}∧(∀b o',s.heap.get? b=some o'→h'.get? b=some o')∧h'.get? s.heap.objs.size=some {cls:=.type "list",dict:=none,data:=.seq acc c,slots:=#[]}∧ItemsOf (fun i v=>∃t,v=.int (0+(i:Int)*1) t) acc n)→wpAny (model prog w) A (match Value.ref s.heap.objs.size with
    | Value.ref a=>do
     match (←load a).data with
      | Data.seq xs _=>pure xs.toList
      | _=>unsupported "internal:collect"
    | _=>unsupported "internal:collect") Q E s':=fun s' ⟨h',tk,acc,c,e,k,g,it⟩=>by
   subst e
   show wpAny _ A (load s.heap.objs.size >>= _) _ _ _
   exact ax (wpAny_load g (bJ (hQ h' tk acc k it)))
  cases fin with
  | done f=>
   obtain ⟨h',tk,acc,c,e,es,k,g,it⟩:=h
   cases e
   exact done s' ⟨h',tk,acc,c,es,k,g,it⟩
  | again c'=>exact ⟨h.1,codeAny_mono h.2 fun r f9 hr=>by
    obtain ⟨h',tk,acc,c,e,es,k,g,it⟩:=hr
    subst e
    exact done f9 ⟨h',tk,acc,c,es,k,g,it⟩⟩
 ·obtain ⟨_,_,_,_,e,_⟩:=h
  exact absurd e (by simp)
end
open AutoSeq1 (wpAny_loadPart')
section
variable {prog:Program} {w:World} {A:Around} {E:aF} {s:Shared}
variable {r:Addr} {b:Int} {u:Tok} {n:Nat}
theorem ZL{Q₁:aF}{t v:Tok}(hh:A.handled=none)(hr:IsRange s.heap r 0 b 1 t u v)(Bp:Builtin.Range.small 0 b 1=true)(hn:Builtin.Range.rangeSize 0 b 1=n)(hlen:n≤10000)
  (h:∀(h':Heap) (tk:Nat) (acc:Array Value),(∀b o',s.heap.get? b=some o'→h'.get? b=some o')→ItemsOf (fun i v=>∃t,v=.int (0+(i:Int)*1) t) acc n→Q₁ (.ref h'.objs.size) {s with heap:=h'.push {cls:=.type "tuple",data:=.seq acc},toks:=tk}) :
  codeAny (model prog w) A (.call (.builtin "tuple.__new__") ⟨[.type "tuple",.ref r],[]⟩) (wants Q₁ E) s:=by
 refine codeAny_of_tree ?_
 show wpAny _ A.in1 (do checkBuiltinCall "tuple.__new__" ⟨[.type "tuple",.ref r],[]⟩;again (.builtin "tuple.__new__" ⟨[.type "tuple",.ref r],[]⟩)) _ _ s
 refine ax (wpAny_of_eq (F.newCall_tuple_1 _) (bJ ⟨sJ F.plain_tuple_new _,qE F.entry_tuple_new ?_⟩))
 rw [sI F.plain_tuple_new _]
 have ah0:=sub_tuple_self
 have ah1:=init_tuple_lookup
 have hmh:=madeHere_tuple
 have mV:s.TypeIs (.ref r) "range":=⟨_,hr,rfl⟩
 have ZM:=fun(Q:List Value→Shared→Prop) (E:aF)=>ZK (prog:=prog) (w:=w) (A:=A.in1) (E:=E) (Q:=Q) (show A.in1.handled=none from hh) hr Bp hn (by lia)
 wp_walk using wpAny_typeOf mV,ZM
 intro h' tk acc hk l6
 show wpAny _ _ (Builtin.Tuple.tupleExact acc.toList.toArray >>= fun v=>ret v) _ _ _
 unfold Builtin.Tuple.tupleExact
 refine ax (vU ?_ (by show acc.toList.toArray.size≤sizeLine;simp only [Array.toArray_toList];rw [l6.1,iR];lia))
 refine bJ ?_
 have e:acc.toList.toArray=acc:=by simp
 rw [e]
 exact h h' tk acc hk l6
theorem ZN{Q:aF}{t v:Tok}(hh:A.handled=none)(hr:IsRange s.heap r 0 b 1 t u v)(Bp:Builtin.Range.small 0 b 1=true)(hn:Builtin.Range.rangeSize 0 b 1=n)(hlen:n≤10000)
  (hQ:∀(h':Heap) (tk:Nat) (acc:Array Value),(∀b o',s.heap.get? b=some o'→h'.get? b=some o')→ItemsOf (fun i v=>∃t,v=.int (0+(i:Int)*1) t) acc n→Q (.ref h'.objs.size) {s with heap:=h'.push {cls:=.type "tuple",data:=.seq acc},toks:=tk}) :
  wpAny (model prog w) A (call (.type "tuple") [.ref r]) Q E s:=by
 refine callType_codes (Q₁:=fun obj s₁=>s₁.TypeIs obj "tuple"∧Q obj s₁) F.called_tuple (F.typeCall_tuple_1 _) F.entry_object_init
  (ZL hh hr Bp hn hlen fun h' tk acc hk l6=>⟨⟨_,eh _ rfl,rfl⟩,hQ h' tk acc hk l6⟩) fun obj s₁ h₁=>?_
 exact ⟨h₁.1,F.args_object_init_2 obj _,object_init_meets F.called_tuple.init.lookup F.called_tuple.made (by decide) prog w A.in1 _ s₁ ⟨h₁.1,rfl,h₁.2⟩⟩
end
def ZO:List V→Hp→VK→Prop:=fun xs H Q=>∃p n,xs=[.ref p]∧H p=some (.fV 0 (n:Nat))∧n≤10000∧∀l,H l=none→Q (.ref l) (upd H l (.tup (dz n)))
theorem ZP{X:Cx}(hc:X.calm=true):gr X (.type "tuple") ZO:=by
 intro pins s σ H xs us Q I r h;obtain ⟨p,n,rfl,hp,hn,q⟩:=h;obtain ⟨u,rfl,ru⟩:=vals1 r;cases ru;obtain ⟨t,u,v,e⟩:=(show cK X.prog X.w H s.heap p (.fV 0 n) from I.aw p _ hp);refine ZN (n:=n) (I.ok.hd hc) e (small_one (by lia) (by lia) (by lia) (by lia)) (by rw [rangeSize_one];split <;> lia) hn fun h' tk acc hk hit=>?_
 have I1:Inv X pins σ H {s with heap:=h',toks:=tk}:=I.kept (t':=tk) hk;refine ⟨.ref h'.objs.size,_,I1.laid (t':=tk) (o:=.tup (dz n)) (fun b o e=>b_ _ e) (au _) ⟨?_,acc.toList,?_,?_⟩,rfl,q _ (I1.aw.fresh (au _))⟩
 ·unfold dz
  rw [ay,cC];exact bU hn (by decide)
 ·refine Hr ?_ fun i x u h1 h2=>?_
  ·unfold dz
   rw [ay,cC,fS,hit.1]
  ·have AI:acc[i]?=some u:=by simpa using h2
   obtain ⟨dN,e'⟩:=hit.2 i u AI;unfold dz at h1;rw [bz] at h1;have hi:i<n:=by have z:=(Array.getElem?_eq_some_iff.mp AI).1;rw [hit.1] at z;exact z
   rw [mr hi] at h1;cases h1;exact ⟨dN,by rw [e'];simp⟩
 ·rw [Array.toArray_toList]
  exact IsTup.new _ _
end L2
namespace My
open PySem L2
noncomputable def rH (n:Nat) (L:ak) (W:List Nat→Int) (d:Nat):Bool:=!(decide (0<W (List.range n)) || !decide (W []=(d:Int))) && (aY n).all (uo n L W)
def ZQ(N:Addr):Sp:=fun vs H Q E=>∃(tp a wo:Addr) (n:Nat) (L:ak) (o:List Nat) (qs:List (List Nat)) (W:List Nat→Int),vs=[.ref tp,.ref a,.ref wo]∧cL H tp n L∧e8 n L∧qc L∧n≤9∧H a=some (.lst (o.map fun k:Nat=>V.int (k:Int)))∧o.Perm (List.range n)∧H wo=some (.dT (wD W qs))∧qs.Perm (aY n) ∧
 ∀(H':Hp) (d:Nat),af H H'→(∀M,bO n L o M→d=fg n M)→Q (.bl (rH n L W d)) H'
end My
namespace L2
open PySem PySem.Spec PyProof.Rows My
end L2
namespace My
open PySem L2
open PySem L2 Classical
theorem OV(n:Nat)(L:ak)(o:List Nat)(p:Nat):∃ms,jy n o p ms∧lY n L o p ms:=by
 refine ⟨(List.range n).filter fun q=>decide (o.idxOf p<o.idxOf q∧Wk (aL n L) (d_ n o (o.idxOf p)) p q),⟨wc.sublist List.filter_sublist,fun q hq=>?_,fun q hq=>?_⟩,fun q=>?_⟩;·exact aS.mp (b8.mp hq).1
 ·exact (dC (b8.mp hq).2).1
 ·rw [b8,aS,fT]
theorem ZR(n:Nat)(L:ak)(o:List Nat):∃g:Nat→List Nat,∀p,p<n→jy n o p (g p)∧lY n L o p (g p):=
 ⟨fun p=>choose (OV n L o p),fun p _=>choose_spec (OV n L o p)⟩
variable {n:Nat} {M:ak} {o:List Nat}
theorem xW{L:ak}(ho:o.Perm (List.range n))(di:e8 n L)(f:bO n L o M):gy n L [] o=(fg n M:Int):=by obtain ⟨g,hg⟩:=ZR n L o;exact ZD ho di f hg
theorem OW{L:ak}(ho:o.Perm (List.range n))(di:e8 n L)(f:bO n L o M):wW n L []≤(fg n M:Int):=by rw [←xW ho di f];exact ZA ho
theorem rJ(n:Nat)(L:ak)(o:List Nat):∃M,bO n L o M:=by
 let f:Nat→Nat→Bool:=fun i j=>decide (∃p q:Nat,p<n∧q<n∧o.idxOf p<o.idxOf q∧Wk (aL n L) (d_ n o (o.idxOf p)) p q∧((i:Int),(j:Int))=dI p q)
 refine ⟨xx n f n,Ig n,fun z=>⟨fun h=>?_,?_⟩⟩
 ·obtain ⟨i,j,_,_,_,hf,rfl⟩:=mem_of h
  exact dC hf
 ·rintro ⟨p,q,hp,hq,Jh,hw,rfl⟩
  have ne:p≠q:=fun e=>by rw [e] at Jh;exact absurd Jh (d6 _)
  obtain ⟨i,j,ij,jn,e⟩:∃i j:Nat,i<j∧j<n∧dI p q=((i:Int),(j:Int)):=by
   by_cases h:q<p
   ·refine ⟨q,p,h,hp,?_⟩
    unfold dI;rw [ae (by lia),aa (by lia)]
   ·refine ⟨p,q,by lia,hq,?_⟩
    unfold dI;rw [aa (by lia),ae (by lia)]
  rw [e];exact Ie ij jn (bu ⟨p,q,hp,hq,Jh,hw,e.symm⟩) (by lia)
noncomputable def Bq (n:Nat) (L:ak) (j:Nat) (q:List Nat):Int:=if q=[] then wW n L []+j else wW n L q
theorem OX(n:Nat)(L:ak):Bq n L 0=wW n L:=by
 funext q
 unfold Bq
 split
 ·rename_i h
  rw [h];simp
 ·rfl
theorem ZS{L:ak}{d j:Nat}(n1:1≤n)(hd:wW n L []=(d:Int)):rH n L (Bq n L j) d=decide (j=0):=by
 unfold rH;by_cases h:j=0
 ·subst h
  rw [OX,bu (show 0=0 from rfl)];have h1:wW n L (List.range n)=0:=by unfold wW;rw [cC,mw];rfl
  rw [h1,bu hd,bY (show ¬(0:Int)<0 by lia)]
  rw [Bool.not_true,Bool.or_false,Bool.not_false,Bool.true_and,pD];intro S hS;unfold uo;rw [fT];intro p hp;rw [Bm hS];have hm:dB n L S p+wW n L (bt S p)∈(bQ n S).map fun p=>dB n L S p+wW n L (bt S p):=bK.mpr ⟨p,hp,rfl⟩;generalize (bQ n S).map (fun p=>dB n L S p+wW n L (bt S p))=zs at hm;cases zs with
  | nil=>cases hm
  | cons z zs=>exact (fold_min zs z).2 _ hm
 ·rw [bY h]
  have:Bq n L j []≠(d:Int):=by unfold Bq;rw [ae rfl];lia
  rw [bY this];simp
theorem cJ{a b:TS}{D:Ends}{σ:St}{H:Hp}(h:∀R:St→Hp→Prop,(∀σ H,b D σ H→R σ H)→a {D with nx:=R} σ H):GJ a b D σ H:=h _ fun _ _ h=>h
end My
namespace L2
open PySem PySem.Spec PyProof.Rows
def OY(ps:Array Value):Obj:={cls:=.none,data:=.fields ps}
def OZ(Pt:Addr)(H:Hp):Prop:=∀b,H b=none∨(∃o xs,H b=some (.bE o (.lst xs)))∨(b=Pt∧H b=some (.dW #[]))
def nC(base:Heap)(mg:dq):Prop:=
 ∃bm o,mg "__builtins__"=some (.ref bm)∧bm≠builtinsNs∧base.get? bm=some o∧o.cls=.type "module"∧o.dict=some builtinsNs∧o.data=.plain
variable {P:Program} {w:World} {K:aD} {mg:dq} {k:Nat} {Pt:Addr} {fd:FuncData} {x:Str} {sp:Sp}
theorem ZT{mb:dq}{CX:jJ}{fa a:Addr}{s₁:Shared}{vs:List Value}{ns:List Int}
  (KX:K.In s₁.heap) (Ed:s₁.heap.Ns mainGlobals mg) (hb:s₁.heap.Ns builtinsNs mb) (tY:∀x:Str,x ≠ "__name__"→mb x=bootBuiltins x) (ZU:s₁.heap.NoLimit) (hg:s₁.gens = #[])
  (hT:s₁.heap.get? Pt=some (OY #[])) (Ji:K.lookup Pt=none) (Jj:isCodeTable s₁.heap Pt)
  (ha:s₁.heap.get? a=some {cls:=.type "list",data:=.seq vs.toArray}) (hi:IntsAre vs ns) (hl:ns.length≤sizeLine) (hr:fk k callerA)
  (ZV:nC s₁.heap mg) (F:∀base:Heap,K.In base→base.Ns mainGlobals mg→nC base mg→cu P w K mg base CX k fa fd [x] sp) (ur:∀(s:Shared) (u:Value),BindsTo s fd ⟨[u],[]⟩ [(x,u)])
  (oq:∀H:Hp,OZ Pt H→H Pt=some (.dW #[])→a8 K H a (ns.map V.int)→sp [.ref a] H (fun v _=>v=.bl true) fun _ _ _=>False)
  (ZW:∀H e s',CX [] H s₁ (fun _ _ _=>False) e s'→False) :
  codeAny (model P w) callerA (.call (.ref fa) ⟨[.ref a],[]⟩) (fun r s'=>r=.ok (.ret (.bool true))∧OldK s₁.heap s'.heap∧s'.os=s₁.os∧AllBare s'.gens) s₁:=by
 have rv:=M4 hi;have ZX:=hi.length;have aT:a≠Pt:=fun z=>by rw [z,hT] at ha;cases ha
 have core:∀H:Hp,OZ Pt H→H Pt=some (.dW #[])→a8 K H a (ns.map V.int)→cR P w H s₁.heap→(∀b,H b≠none→b=a∨b=Pt)→(H a≠none→K.lookup a=none)→
   codeAny (model P w) callerA (.call (.ref fa) ⟨[.ref a],[]⟩) (fun r s'=>r=.ok (.ret (.bool true))∧OldK s₁.heap s'.heap∧s'.os=s₁.os∧AllBare s'.gens) s₁:=by
  intro H hO hP hS aw hA hK;have Jk:∀{b:Addr} {o:Obj},s₁.heap.get? b=some o→H b=none→(n5 s₁.heap H).get? b=some o:=fun e n=>Tn e n;have Am:∀{b:Addr} {o:Obj} {es:Array DictEntry} {ep:Nat},s₁.heap.get? b=some o→o.data=.dict es ep→H b=none:=fun{b o es ep} e d=>by
   cases q:H b with
   | none=>rfl
   | some u=>
    rcases hA b (by rw [q];simp) with e' | e'
    ·subst e'
     rw [ha] at e;cases e;have d':Data.seq vs.toArray _=Data.dict es ep:=d;cases d'
    ·subst e'
     rw [hT] at e;cases e;have d':Data.fields _=Data.dict es ep:=d;cases d'
  have Ee:∀{b:Addr} {m:dq},s₁.heap.Ns b m→(n5 s₁.heap H).Ns b m:=fun{b m} ⟨o,es,ep,e,d,r⟩=>⟨o,es,ep,Jk e (Am e d),d,r⟩;have O0:K.In (n5 s₁.heap H):=fun b o e=>Jk (KX b o e) (by
   cases q:H b with
   | none=>rfl
   | some u=>
    rcases hA b (by rw [q];simp) with e' | e'
    ·subst e'
     rw [hK (by rw [q];simp)] at e;cases e
    ·subst e'
     rw [Ji] at e;cases e)
  have hM:Mod K mg (n5 s₁.heap H):=⟨O0,Ee Ed,⟨mb,Ee hb,tY⟩,let ⟨mc,h1,h2⟩:=ZU;⟨mc,Ee h1,h2⟩⟩
  have e0:C1 P w K mg (n5 s₁.heap H) callerA [] s₁ H:=⟨rfl,hM,fun b o e=>To e,Nat.le_of_eq (Tj _ _),trivial,fun b hb=>absurd (show b∈([]:List Addr) from hb) (by simp),aw,.of_eq hg⟩
  have ZY:nC (n5 s₁.heap H) mg:=by
   obtain ⟨bm,o,b1,b2,b3,b4,b5,b6⟩:=ZV;refine ⟨bm,o,b1,b2,Jk b3 ?_,b4,b5,b6⟩;cases q:H bm with
   | none=>rfl
   | some u=>
    rcases hA bm (by rw [q];simp) with e' | e'
    ·subst e'
     rw [ha] at b3;cases b3;cases b6
    ·subst e'
     rw [hT] at b3;cases b3;cases b6
  refine codeAny_mono ((F _ O0 (Ee Ed) ZY).run callerA [] s₁ H ⟨[.ref a],[]⟩ [.ref a] [.ref a] _ _ hr e0 (ur s₁ (.ref a)) (.cons rfl .nil) (oq H hO hP hS)) fun r s' h=>?_;cases r with
  | error e=>exact (ZW H e s' h).elim
  | ok fl=>
   cases fl with
   | next=>exact False.elim h
   | brk=>exact False.elim h
   | cont=>exact False.elim h
   | ret u=>
    obtain ⟨v,H',os,bare,un,O1,r',q⟩:=h;have q':v=.bl true:=q;subst q';obtain rfl:u=Value.bool true:=r';have tab:∃more:Array Value,s'.heap.get? Pt=some (OY (#[]++more)):=by obtain ⟨more,e⟩:=un.iE Pt _ hP;exact ⟨more,(show cK P w H' s'.heap Pt (.dW (#[]++more)) from O1 Pt _ e)⟩
    refine ⟨rfl,⟨fun b o e=>?_,fun b o e=>?_⟩,os,bare⟩
    ·by_cases O2:b=Pt
     ·subst O2
      rw [hT] at e;cases e;obtain ⟨more,e⟩:=tab;exact .inr (.inl ⟨Jj,rfl,#[],more,rfl,e⟩)
     ·refine .inl ?_
      cases q:H b with
      | none=>exact un.keep b o e q (by intro z;exact absurd (show b∈([]:List Addr) from z) (by simp)) (by simp)
      | some u=>
       rcases hO b with z | ⟨ob,xs,z⟩ | ⟨z,_⟩;·rw [q] at z;cases z
       ·have z2:=un.iD b ob _ z
        obtain ⟨e1,_⟩:=aw b _ z;obtain ⟨e2,_⟩:=O1 b _ z2;rw [e] at e1;cases e1;exact e2
       ·exact absurd z O2
    ·exact un.there b o e (by simp)
 have Ef:∀H:Hp,cK P w H s₁.heap Pt (.dW #[]):=fun H=>hT;cases hk:K.lookup a with
 | some o=>
  have e:=KX a o hk;rw [ha] at e;cases e;refine core (fun b=>if b=Pt then some (.dW #[]) else none) (fun b=>?_) (ae rfl) (.inr ⟨_,vs.toArray,_,hk,rfl,rfl,rfl,by rw [cf,ZX];exact hl,by simpa using rv⟩) (fun b u z=>?_) (fun b z=>?_) fun z=>absurd (aa aT) z
  ·by_cases h:b=Pt
   ·exact .inr (.inr ⟨h,ae h⟩)
   ·exact .inl (aa h)
  ·by_cases h:b=Pt
   ·have z':=(ae h).symm.trans z
    cases z';subst h;exact Ef _
   ·have z':=(aa h).symm.trans z
    cases z'
  ·by_cases h:b=Pt
   ·exact .inr h
   ·exact absurd (aa h) z
 | none=>
  refine core (fun b=>if b=a then some (.bE {cls:=.type "list",data:=.seq vs.toArray} (.lst (ns.map V.int))) else if b=Pt then some (.dW #[]) else none) (fun b=>?_) ((aa (Ne.symm aT)).trans (ae rfl)) (.inl (.inr ⟨{cls:=.type "list",data:=.seq vs.toArray},ae rfl⟩)) (fun b u z=>?_) (fun b z=>?_) fun _=>hk
  ·by_cases hb:b=a
   ·exact .inr (.inl ⟨_,_,ae hb⟩)
   ·by_cases h:b=Pt
    ·exact .inr (.inr ⟨h,(aa hb).trans (ae h)⟩)
    ·exact .inl ((aa hb).trans (aa h))
  ·by_cases hb:b=a
   ·have z':=(ae hb).symm.trans z
    cases z';subst hb;exact ⟨ha,by rw [ay];exact hl,vs,_,rv,ha⟩
   ·have z1:=(aa hb).symm.trans z
    by_cases h:b=Pt
    ·have z':=(ae h).symm.trans z1
     cases z';subst h;exact Ef _
    ·have z':=(aa h).symm.trans z1
     cases z'
  ·by_cases hb:b=a
   ·exact .inl hb
   ·by_cases h:b=Pt
    ·exact .inr h
    ·exact absurd ((aa hb).trans (aa h)) z
open PySem PySem.Spec PyProof.Rows PySem.W
def tabIn(K:aD)(fd:FuncData)(P:Addr):Bool:=match fd.code with | .ref c=>PySem.W.codeHdIn K c P | _=>false
def Br(c:Addr)(q:Str):HO:=.ext fun h=>h.CodeRec (.ref c) q
def dO(Pt:Addr)(pl:Pos)(q:Str)(H:Hp):Prop:=
 H Pt=some (.dW #[])∨∃c,c≠Pt∧H Pt=some (.dW #[rawInt pl.line,rawInt pl.col,.ref c])∧H c=some (Br c q)
def eV(Pt:Addr)(H H':Hp):Prop:=∀b o,b≠Pt→H b=some o→H' b=some o
variable {H:Hp} {c:Addr} {q:Str}
theorem Br.ok{h:Heap}(x:h.CodeRec (.ref c) q):cK P w H h c (Br c q):=by
 refine ⟨x,?_,fun h1 h2 y k=>?_⟩
 ·obtain ⟨c',o,vs,t,e,g,_⟩:=x
  cases e;exact ⟨o,g⟩
 ·obtain ⟨c',o,vs,t,e,g,r⟩:=y
  cases e;exact ⟨c,o,vs,t,rfl,k o g,r⟩
def l7(x:Str)(p:Pos):Arguments:={posonlyargs:=[],args:=[{arg:=x,annotation:=none,pos:=p}],vararg:=none,kwonlyargs:=[],kw_defaults:=[],kwarg:=none,defaults:=[]}
def jz(x c:Str):Scope:={kind:=.function,names:=[(x,.local),(c,.free)],isGenerator:=false,isCoroutine:=false,more:=[]}
def l8(x c:Str)(p1 p2 p3:Pos):Expr:=.Subscript (.Name c p1) (.Name x p2) p3
variable {cc:Addr}
theorem ZZ{c:Str}{env:Env}(h:env.cells.lookup c=some cc):closureFor (jz x c) env=pure [(c,cc)]:=by unfold closureFor jz cellOf;simp [h]
variable {s:Shared} {f c' cnt:Addr} {m:dq} {name cn:Str} {p p1:Pos} {pm ic:Value}
theorem Z0{prog:Program}{A:Around}{h₀:Heap}{L:Addr}{news:aO}{p2 p3:Pos}{items:Array Value}{k z:Int}{u t:Tok}
  (Z1:A.depth<recursionLimit) (F:Fr h₀ L s.heap m) (N:News h₀ L s.heap news)
  (hf:s.heap.get? f=some (kla_obj name q (l7 x p) (l8 x cn p1 p2 p3) (jz x cn) [(cn,cc)] pm c' ic)) (fE:s.heap.CodeRec (.ref c') q)
  (pL:s.heap.IsCell cc (some (.ref cnt))) (hl:s.heap.IsList cnt items) (lim:s.heap.NoLimit) (h0:0≤k) (C6:k<2 ^ 63) (hx:items[k.toNat]?=some (.int z t))
  (ur:bindArgs (kla_fn name q (l7 x p) (l8 x cn p1 p2 p3) (jz x cn) [(cn,cc)] pm (.ref c') ic) ⟨[.int k u],[]⟩=pure [(x,.int k u)])
  (gJ:(cn == x)=false) (Bs:(x == ("__debug__":Str))=false) (hd2:(cn == ("__debug__":Str))=false) (Bt:(cn == ("__classdict__":Str))=false) :
  wpAny (model prog w) A (call (.ref f) [.int k u]) (KskEnd h₀ L m news z s) (fun _ _=>False) s:=by
 refine wpAny_call (kla_callFunE Z1 hf rfl rfl rfl rfl fE ?_);rw [ur];refine bJ (zP ?_ ?_ (fun h₁ Ed oH=>?_) rfl)
 ·intro y hy
  rcases bb.mp hy with rfl | hy;·intro z;cases z
  ·rcases bb.mp hy with rfl | hy
   ·intro z;cases z
   ·cases hy
 ·intro y hy
  obtain rfl:y=(x,Value.int k u):=cB.mp hy;show List.lookup x [(x,NameKind.local),(cn,NameKind.free)]=_;simp [List.lookup]
 ·have Bu:∀b o,s.heap.get? b=some o→h₁.get? b=some o:=fun b o e=>oH.extBut b o (bZ (aU e)) (b_ _ e)
  refine ⟨lim.fresh _ oH,kla_codeExpr ?_⟩;refine Subscript_ (wpAny_Name (wpAny_loadName_free (c:=cc) (v:=.ref cnt) rfl ?_ ?_ ?_ ?_ Bt) hd2)
  ·show List.lookup cn [(x,NameKind.local),(cn,NameKind.free)]=_
   simp [List.lookup,gJ]
  ·show List.lookup cn [(cn,cc)]=_
   simp [List.lookup]
  ·obtain ⟨o,ho,hd⟩:=pL
   exact ⟨o,Bu _ _ ho,hd⟩
  ·refine wpAny_Name (wpAny_loadName_local (v:=.int k u) rfl ?_ Ed ?_ ?_) Bs
   ·show List.lookup x [(x,NameKind.local),(cn,NameKind.free)]=_
    simp [List.lookup]
   ·show List.lookup x [(x,Value.int k u)]=_
    simp [List.lookup]
   ·refine item_listR (x:=.int z t) ?_ h0 C6 hx ?_
    ·obtain ⟨o,ho,r⟩:=hl
     exact ⟨o,Bu _ _ ho,r⟩
    ·exact ⟨h₁,_,t,rfl,rfl,⟨by obtain ⟨o,es,ep,ho,r⟩:=F.ns;exact ⟨o,es,ep,Bu _ _ ho,r⟩,fun b o e=>Bu b o (F.keep b o e),F.above⟩,fun p hp=>⟨Bu _ _ (N p hp).1,(N p hp).2⟩⟩
open PySem PySem.Spec PyProof.Rows PySem.W Att
variable {X:Cx} {pins:aO} {σ:St} {h':Heap}
theorem Inv.Z2{t':Nat}(I:Inv X pins σ H s)(hm:s.heap.Ns X.env.locals m)(d5:h'.Ns X.env.locals m)
  (k:∀b o,b≠X.env.locals→s.heap.get? b=some o→h'.get? b=some o):Inv X pins σ H {s with heap:=h',toks:=t'}:=by
 have n8:∀b u,H b=some u→b≠X.env.locals:=fun b u e z=>by rw [z,I.free] at e;cases e
 refine I.step (g':=s.gens) (d':=s.drawn) (ch:=[]) (fun _ z=>nomatch z) (fun b o n _ _ e _=>k b o n e) (fun b o n _ _ e _=>⟨o.slots,k b o n e⟩) (fun _ _ _ _ n=>n) (fun b o _ e=>?_) (fun _ _ e=>e) (fun _ _ _ e=>e) (fun b ps e=>⟨#[],by rw [e];simp⟩) (fun m2 rE=>?_) (fun b u e=>?_) I.bare
 ·by_cases n:b=X.env.locals
  ·obtain ⟨o',_,_,ho,_⟩:=d5
   exact ⟨o',by rw [n];exact ho⟩
  ·exact ⟨o,k b o n e⟩
 ·obtain ⟨o,es,ep,ho,hd,hs,r⟩:=hm
  obtain ⟨o2,es2,ep2,jg,hd2,tH,r2⟩:=rE;rw [ho] at jg;cases jg;rw [hd] at hd2;cases hd2;have:m2=m:=funext fun x=>(r2 x).symm.trans (r x);rw [this];exact d5
 ·refine (I.aw b u e).iY (fun c v hc q=>k c v ?_ q) (fun _ q=>q) fun _ _ q=>q
  rcases hc with z | z;·rw [z];exact n8 b u e
  ·exact n8 c _ z
theorem Inv.n8(I:Inv X pins σ H s){b:Addr}{o:Obj}(e:s.heap.get? b=some o)(hd:∀es ep,o.data≠.dict es ep):b≠X.env.locals:=fun z=>by obtain ⟨m,⟨o',es,ep,kX,GB,_⟩,_⟩:=I.loc;rw [z,kX] at e;cases e;exact hd es ep GB
def O3(xs:List Nat)(cs:List Int)(m:Nat):Prop:=m∈xs∧∀y∈xs,cs.getD y 0≤cs.getD m 0
variable {l:Addr}
theorem Z3{p2 p3:Pos}{xs:List Nat}{cs:List Int}{Q:aF}
  (I:Inv X pins σ H s) (hr:fk 1 X.A)
  (hf:s.heap.get? f=some (kla_obj name q (l7 x p) (l8 x cn p1 p2 p3) (jz x cn) [(cn,cc)] pm c' ic)) (fE:s.heap.CodeRec (.ref c') q)
  (pL:s.heap.IsCell cc (some (.ref cnt))) (hl:a8 X.K H l (xs.map fun(k:Nat)=>V.int (k:Int))) (gJ:xs≠[]) (hc:a8 X.K H cnt (cs.map V.int)) (Jl:∀y∈xs,y<cs.length)
  (ur:∀(k:Int) (u:Tok),bindArgs (kla_fn name q (l7 x p) (l8 x cn p1 p2 p3) (jz x cn) [(cn,cc)] pm (.ref c') ic) ⟨[.int k u],[]⟩=pure [(x,.int k u)])
  (Jm:(cn == x)=false) (Bs:(x == ("__debug__":Str))=false) (hd2:(cn == ("__debug__":Str))=false) (Bt:(cn == ("__classdict__":Str))=false)
  (hQ:∀(k:Nat) (t:Tok) (s':Shared),O3 xs cs k→Inv X pins σ H s'→Q (.int k t) s') :
  wpAny (model X.prog X.w) X.A (call (.builtin "max") [.ref l] [(Str.ofString "key",.ref f)]) Q X.xe s:=by
 obtain ⟨m,hm,_⟩:=id I.loc;obtain ⟨its,rv,pl,hz⟩:=I.list hl;obtain ⟨Z4,rc,pc,O4⟩:=I.list hc;have Bv:its.length=xs.length:=by have:=rv.length;rw [ay] at this;exact this.symm
 have ah5:Z4.length=cs.length:=by have:=rc.length;rw [ay] at this;exact this.symm
 have fL:f≠X.env.locals:=I.n8 hf fun _ _ z=>by cases z
 have at':∀{h:Heap} {own:aO},News (tG s.heap) X.env.locals h (([]++(f,kla_obj name q (l7 x p) (l8 x cn p1 p2 p3) (jz x cn) [(cn,cc)] pm c' ic)::ledger s.heap X.env.locals f)++own)→
   ∀b o,b≠X.env.locals→s.heap.get? b=some o→h.get? b=some o:=fun{h own} N b o n e=>by
  by_cases hb:b=f
  ·subst hb
   rw [hf] at e;cases e;exact (N _ (ja _ (cj))).1
  ·exact (N (b,o) (ja _ (ck _ (M0.mpr ⟨n,hb,e⟩)))).1
 have Bw:∀{h:Heap},News (tG s.heap) X.env.locals h ([]++(f,kla_obj name q (l7 x p) (l8 x cn p1 p2 p3) (jz x cn) [(cn,cc)] pm c' ic)::ledger s.heap X.env.locals f)→
   ∀b o,b≠X.env.locals→s.heap.get? b=some o→h.get? b=some o:=fun{h} N=>at' (own:=[]) (by rw [jF];exact N)
 have listAt:∀{h:Heap} {a:Addr} {vs:Array Value},(∀b o,b≠X.env.locals→s.heap.get? b=some o→h.get? b=some o)→PlainL s.heap a vs→h.IsList a vs:=fun{h a vs} k pl=>by obtain ⟨o,n,e,c,d,dd⟩:=pl;exact PlainL.isList ⟨o,n,k a o (I.n8 e fun _ _ z=>by rw [dd] at z;cases z) e,c,d,dd⟩
 have kn:∀i,i<xs.length→∃t,its[i]?=some (.int ((xs.getD i 0:Nat):Int) t):=fun i hi=>by
  have e:(xs.map fun(k:Nat)=>V.int (k:Int))[i]?=some (.int ((xs.getD i 0:Nat):Int)):=by rw [bz,aZ hi,cQ,aZ hi];rfl
  obtain ⟨u,eu,ru⟩:=rv.get e;obtain ⟨t,rfl⟩:=ru;exact ⟨t,eu⟩
 have O5:∀i,i<xs.length→xs.getD i 0∈xs:=fun i hi=>by rw [cQ,aZ hi];exact aV hi
 refine kmk_max (h₀:=tG s.heap) (L:=X.env.locals) (m:=m) (vs:=its) (fun i=>cs.getD (xs.getD i 0) 0) hr.hd (Vy hm) (Vx fL hf) (fun h F N=>listAt (Bw N) pl) (by rw [Bv];exact List.length_pos_iff.mpr gJ) (fun i v hv h tk own F N=>?_) fun i v h' dN hv hb F N=>?_
 ·have hi:i<xs.length:=by rw [←Bv];exact (bV.mp hv).1
  obtain ⟨t,et⟩:=kn i hi;rw [et] at hv;cases hv;have aR:=Jl _ (O5 i hi);have ec:(cs.map V.int)[xs.getD i 0]?=some (.int (cs.getD (xs.getD i 0) 0)):=by rw [bz,aZ aR,cQ (l:=cs),aZ aR];rfl
  obtain ⟨u,eu,ru⟩:=rc.get ec;obtain ⟨t2,rfl⟩:=ru;have k:=at' N;refine Z0 (A:=X.A.in1) (by have:=hr.dp;show X.A.depth<_;lia) F N (k _ _ fL hf) ?_ ?_ (listAt k pc) ?_ (Int.natCast_nonneg _) ?_ (by simpa using eu) (ur _ _) Jm Bs hd2 Bt
  ·obtain ⟨c2,o,vs,tt,e,g,dd,r⟩:=fE
   exact ⟨c2,o,vs,tt,e,k _ _ (I.n8 g fun _ _ z=>by rw [dd] at z;cases z) g,dd,r⟩
  ·obtain ⟨o,ho,hd⟩:=pL
   exact ⟨o,k _ _ (I.n8 ho fun _ _ z=>by rw [hd] at z;cases z) ho,hd⟩
  ·exact I.ok.mod.nolimit.keeps fun b o e=>k b o (fun z=>by have:=aU e;have h1:=I.ok.jd;have h2:=I.ok.above;rw [z] at this;exact absurd (dQ this (bU h1 h2)) (d6 _)) (I.bk b o e)
  ·have h1:cs.length≤sizeLine:=by rw [ay] at O4;exact O4
   have h2:=tD;lia
 ·have hi:i<xs.length:=by rw [←Bv];exact (bV.mp hv).1
  obtain ⟨t,et⟩:=kn i hi;rw [et] at hv;cases hv;refine hQ (xs.getD i 0) t _ ⟨O5 i hi,fun y hy=>?_⟩ (I.Z2 hm F.ns (Bw N));obtain ⟨j,hj,ej⟩:=pE hy;have xT:=(hb j (by rw [Bv];exact hj)).1
  have e2:xs.getD j 0=y:=by rw [←ej,cQ,aZ hj];rfl
  simp only [e2] at xT;exact xT
variable {ps:Array Value}
theorem Inv.O6(I:Inv X pins σ H s)(hB:nC X.base X.mg)(hP:H Pt=some (.dW ps)):s.heap.BuiltinsAt X.mg Pt∧mainGlobals≠Pt:=by
 obtain ⟨bm,o,e1,e2,e3,e4,e5,e6⟩:=hB;refine ⟨⟨bm,o,e1,e2,fun z=>?_,fun z=>?_,I.bk _ _ e3,e4,e5,e6⟩,fun z=>?_⟩
 ·obtain ⟨o',es,ep,ho,hd,_⟩:=I.ok.mod.glob
  rw [z,ho] at e3;cases e3;rw [hd] at e6;cases e6
 ·have:=(I.bs _ _ e3).2
  rw [z,hP] at this;cases this
 ·obtain ⟨o',es,ep,ho,hd,_⟩:=I.ok.mod.glob
  have:=(I.bs _ _ ho).2;rw [z,hP] at this;cases this
variable {pl:Pos}
theorem Inv.grown{fo:Obj}{tk:Nat}(I:Inv X pins σ H s)(hP:H Pt=some (.dW #[]))(hx:Heap.ExtBut Pt s.heap h')(Bx:s.heap.objs.size≤c')(xX:h'.CodeRec (.ref c') q)
  (Jn:h'.get? Pt=some (tabObj #[rawInt pl.line,rawInt pl.col,.ref c'])) :
  ∃H',eV Pt H H'∧dO Pt pl q H'∧Inv X pins σ H' {s with heap:=h'.push fo,toks:=tk}:=by
 have cP:c'≠Pt:=fun z=>by have e:s.heap.get? Pt=some (tabObj #[]):=I.aw Pt _ hP;have:=aU e;rw [←z] at this;exact absurd (dQ this Bx) (d6 _)
 have cN:H c'=none:=I.aw.fresh Bx;have kp:∀b o,b≠Pt→s.heap.get? b=some o→(h'.push fo).get? b=some o:=fun b o n e=>b_ _ (hx b o n e);have Z5:(h'.push fo).CodeRec (.ref c') q:=xX.push _;have O7:(h'.push fo).get? Pt=some (tabObj #[rawInt pl.line,rawInt pl.col,.ref c']):=b_ _ Jn;refine ⟨upd (upd H Pt (.dW #[rawInt pl.line,rawInt pl.col,.ref c'])) c' (Br c' q),fun b o n e=>?_,.inr ⟨c',cP,by rw [aE (Ne.symm cP),ar],ar⟩,I.un ⟨fun b o e n _ _=>?_,fun b o e n hb _=>?_,fun b o e n _=>?_,fun b o e _=>?_,fun b xs e=>?_,fun b o u e=>?_,fun b ps e=>?_⟩ fun b u e=>?_⟩
 ·rw [aE (fW e cN),aE n];exact e
 ·exact kp b o (fun z=>by rw [z,hP] at n;cases n) e
 ·exact ⟨o.slots,kp b o (fun z=>by rw [z,hP] at n;cases n) e⟩
 ·rw [aE (bZ (dQ (aU e) Bx)),aE (fun z=>by rw [z,hP] at n;cases n)];exact n
 ·by_cases n:b=Pt
  ·exact ⟨_,by rw [n];exact O7⟩
  ·exact ⟨o,kp b o n e⟩
 ·rw [aE (fW e cN),aE (fun z=>by rw [z,hP] at e;cases e)];exact e
 ·rw [aE (fW e cN),aE (fun z=>by rw [z,hP] at e;cases e)];exact e
 ·by_cases n:b=Pt
  ·subst n
   rw [hP] at e;cases e;exact ⟨#[rawInt pl.line,rawInt pl.col,.ref c'],by rw [aE (Ne.symm cP),ar];simp⟩
  ·exact ⟨#[],by rw [aE (fW e cN),aE n,e];simp⟩
 ·by_cases hc:b=c'
  ·subst hc
   rw [ar] at e;cases e;exact Br.ok Z5
  ·rw [aE hc] at e
   by_cases n:b=Pt
   ·subst n
    rw [ar] at e;cases e;exact O7
   ·rw [aE n] at e
    refine (I.aw b u e).iY (fun d v hd g=>kp d v ?_ g) (fun d g=>?_) fun d xs g=>?_
    ·rcases hd with z | z
     ·rw [z];exact n
     ·intro y;rw [y,hP] at z;cases z
    ·rw [aE (fW g cN),aE (fun z=>by rw [z,hP] at g;cases g)];exact g
    ·rw [aE (fW g cN),aE (fun z=>by rw [z,hP] at g;cases g)];exact g
def Z6(K:aD)(t:TA)(i:Nat)(Pt:Addr)(pl:Pos)(q:Str):TE:=fun σ H Q=>t σ H fun vs H1=>
 ∃(l cnt:Addr) (xs:List Nat) (cs:List Int),vs=[.ref l]∧a8 K H1 l (xs.map fun(k:Nat)=>V.int (k:Int))∧xs≠[]∧σ[i]?=some (some (.ref cnt))∧a8 K H1 cnt (cs.map V.int)∧(∀y∈xs,y<cs.length) ∧
  dO Pt pl q H1∧∀(k:Nat) (H2:Hp),O3 xs cs k→eV Pt H1 H2→dO Pt pl q H2→Q (.int k) H2
theorem a8.st{H':Hp}{xs:List V}(h:a8 K H l xs)(hP:H Pt=some (.dW ps))(s:eV Pt H H'):a8 K H' l xs:=by
 have ne:∀o,H l=some o→(∀Z7,o≠.dW Z7)→l≠Pt:=fun o e n z=>by rw [z,hP] at e;exact n ps (Option.some.inj e).symm
 rcases h with (h | ⟨o,h⟩) | h;·exact .inl (.inl (s _ _ (ne _ h fun _ z=>by cases z) h))
 ·exact .inl (.inr ⟨o,s _ _ (ne _ h fun _ z=>by cases z) h⟩)
 ·exact .inr h
theorem Z8{e:Expr}{t:TA}{i:Nat}{pos kp pa p2 p3:Pos}(ha:PA X [e] t)(hg:Gl X (Str.ofString "max"))(hm:X.mg (Str.ofString "max")=none)(hv:bootBuiltins (Str.ofString "max")=some (.builtin "max"))
  (hr:fk 1 X.A) (hB:nC X.base X.mg) (O8:X.env.code=.ref c) (hC:codeHdIn X.K c Pt=true) (hN:X.N[i]?=some cn) (Jo:X.env.kindOf cn=some .cell)
  (ur:∀(cc c':Addr) (q:Str) (pm ic:Value) (k:Int) (u:Tok),bindArgs (kla_fn "<lambda>" q (l7 x pa) (l8 x cn p1 p2 p3) (jz x cn) [(cn,cc)] pm (.ref c') ic) ⟨[.int k u],[]⟩=pure [(x,.int k u)])
  (Jm:(cn == x)=false) (Bs:(x == ("__debug__":Str))=false) (hd2:(cn == ("__debug__":Str))=false) (Bt:(cn == ("__classdict__":Str))=false)
  (he:backTo pos (starEach [e] X.env)=(false,eval e X.env)::backTo pos (starEach [] X.env):=by rfl) (jK:(backTo pos (starEach [e] X.env)).any (·.1)=false:=by rfl) :
  PE X (.Call (.Name (Str.ofString "max") p) [e] [⟨some (Str.ofString "key"),.Lambda (l7 x pa) (l8 x cn p1 p2 p3) (jz x cn) pl,kp⟩] pos) (Z6 X.K t i Pt pl (X.env.qual ++ "<lambda>")):=by
 intro pins s σ H Q I h
 refine vP (kY I hg hm hv ?_)
 refine callWith_kw (aH (ha pos pins s σ H _ I h) fun us s1 ⟨xs,H1,I1,r1,q1⟩=>?_) he jK
 obtain ⟨l,cnt,xs,cs,rfl,hl,gJ,hσ,hc,Jl,hT,k⟩:=q1
 obtain ⟨u,rfl,ru⟩:=vals1 r1
 cases ru
 show wpAny _ _ (evalAll [(do let v ←eval (.Lambda (l7 x pa) (l8 x cn p1 p2 p3) (jz x cn) pl) X.env;standAt pos;pure v)]) _ _ s1
 obtain ⟨cc,Ae⟩:=I1.ok.has cn (.inl Jo)
 have pL:s1.heap.IsCell cc (some (.ref cnt)):=by
  obtain ⟨m,_,hl⟩:=I1.loc
  obtain ⟨u,ru,lk⟩:=hl i cn _ hN hσ (.inr (.inl Jo))
  cases ru
  rcases lk with ⟨z,_⟩ | ⟨_,c2,z,g⟩
  ·rw [Jo] at z;cases z
  ·rw [Ae] at z;cases z;exact g
 have O9:closureFor (jz x cn) X.env=pure [(cn,cc)]:=ZZ Ae
 have O_:s1.heap.Ns mainGlobals X.mg:=I1.mod.glob.keeps I1.bk
 have Pa:CodeHd s1.heap c Pt:=codeHd_of_K I1.gq hC
 refine Cz (ax (kla_eval rfl ?_))
 have fin:∀(f c':Addr) (pm ic:Value) (s2:Shared) (H2:Hp),eV Pt H1 H2→dO Pt pl (X.env.qual ++ "<lambda>") H2→Inv X pins σ H2 s2→s2.heap.IsCell cc (some (.ref cnt))→(∃ps,H1 Pt=some (.dW ps))→
   s2.heap.get? f=some (kla_obj "<lambda>" (X.env.qual ++ "<lambda>") (l7 x pa) (l8 x cn p1 p2 p3) (jz x cn) [(cn,cc)] pm c' ic)→s2.heap.CodeRec (.ref c') (X.env.qual ++ "<lambda>")→
   wpAny (model X.prog X.w) X.A (call (.builtin "max") [.ref l] [(Str.ofString "key",.ref f)]) (EP X pins σ Q) X.xe s2:=fun f c' pm ic s2 H2 sm st I2 Z9 xY hf fE=>by
  obtain ⟨ps,xY⟩:=xY
  exact Z3 I2 hr hf fE Z9 (hl.st xY sm) gJ (hc.st xY sm) Jl (fun k u=>ur _ _ _ _ _ k u) Jm Bs hd2 Bt fun k' t s' mk I3=>⟨.int k',H2,I3,⟨_,rfl⟩,k k' H2 mk sm st⟩
 have Z_:∀{b:Addr} {o:Obj} {v:Option Value},s1.heap.get? b=some o→o.data=.cell v→∀ps,H1 Pt=some (.dW ps)→b≠Pt:=fun{b o v} g d ps hP z=>by
  have:s1.heap.get? Pt=some (tabObj ps):=I1.aw Pt _ hP
  rw [z,this] at g;cases g;cases d
 rcases hT with hP | ⟨c',cP,hP,Pb⟩
 ·obtain ⟨hb,Pc⟩:=I1.O6 hB hP
  refine kla_makeFunction (ps:=#[]) (mg:=X.mg) O9 I1.ok.glob O_ O8 Pa (I1.aw Pt _ hP) trivial rfl Pc hb fun c' ic h' tk hx Bx aR xX Jn=>?_
  refine ax (o_ (bJ (CA ?_)))
  obtain ⟨H2,sm,st,I2⟩:=I1.grown (fo:=kla_obj "<lambda>" (X.env.qual ++ "<lambda>") (l7 x pa) (l8 x cn p1 p2 p3) (jz x cn) [(cn,cc)] ((X.mg "__name__").getD .none) c' ic) (tk:=tk) hP hx Bx xX Jn
  refine fin h'.objs.size c' _ ic _ H2 sm st I2 ?_ ⟨_,hP⟩ (eh _ rfl) (xX.push _)
  obtain ⟨o,ho,hd⟩:=pL
  exact ⟨o,b_ _ (hx cc o (Z_ ho hd _ hP) ho),hd⟩
 ·obtain ⟨hb,Pc⟩:=I1.O6 hB hP
  refine kla_makeFunctionHit (cv:=.ref c') (ps:=#[rawInt pl.line,rawInt pl.col,.ref c']) (mg:=X.mg) O9 I1.ok.glob O_ O8 Pa (I1.aw Pt _ hP) trivial ?_ hb fun ic h' tk hk hsz=>?_
  ·show codeAmong pl [rawInt pl.line,rawInt pl.col,.ref c']=_
   simp [codeAmong,rawInt]
  refine ax (o_ (bJ (CA ?_)))
  have kp:∀b o,s1.heap.get? b=some o→(h'.push {cls:=.type "function",data:=.func (kla_fn "<lambda>" (X.env.qual ++ "<lambda>") (l7 x pa) (l8 x cn p1 p2 p3) (jz x cn) [(cn,cc)] ((X.mg "__name__").getD .none) (.ref c') ic)}).get? b=some o:=fun b o e=>b_ _ (hk b o e)
  have xX:s1.heap.CodeRec (.ref c') (X.env.qual ++ "<lambda>"):=(I1.aw c' _ Pb).1
  refine fin h'.objs.size c' _ ic _ H1 (fun _ _ _ e=>e) (.inr ⟨c',cP,hP,Pb⟩) (I1.kept (t':=tk) kp) ?_ ⟨_,hP⟩ (eh _ rfl) (xX.keeps kp)
  obtain ⟨o,ho,hd⟩:=pL
  exact ⟨o,kp _ _ ho,hd⟩
section
variable {prog:Program} {w:World} {A:Around} {E:aF} {s:Shared}
theorem aaa:typeLookup (.type "list_reverseiterator") "__len__"=pure none:=by rw [typeLookup_type,builtinLookup_eq_fast];kernel_rfl
theorem aab:typeLookup (.type "list_reverseiterator") "__length_hint__"=pure (some (.builtin "list_reverseiterator.__length_hint__")):=by rw [typeLookup_type,builtinLookup_eq_fast];kernel_rfl
theorem aac{r:Addr}{Q:Bool→Shared→Prop}(hT:s.TypeIs (.ref r) "list_reverseiterator")(h:Q false s):wpAny (model prog w) A (Builtin.List.listLengthHint (.ref r)) Q E s:=by
 unfold Builtin.List.listLengthHint;refine ax (wpAny_specialOf hT aaa ?_);refine wm (fun nE=>absurd nE (by decide)) (fun _=>?_)
 refine wm (fun nE=>absurd nE (by decide)) (fun _=>?_)
 refine ax (wpAny_specialOf hT aab ?_);generalize Pd:("list_reverseiterator.__length_hint__":String)=id0
 wp_delta
 rw [show splitId id0=some ("list_reverseiterator","__length_hint__") from by subst Pd;decide +kernel]
 subst Pd;refine ax (wpAny_isInstance (T:="list_reverseiterator") (b:=true) hT (by rw [isSubtype_type];kernel_rfl) ?_)
 refine wm (fun nE=>absurd nE (by decide)) (fun _=>?_)
 refine wm (fun _=>?_) (fun nE=>absurd (by decide +kernel) nE)
 refine wm (fun nE=>absurd nE (by decide +kernel)) (fun _=>?_)
 exact bJ h
def Eg(its acc:Array Value):Prop:=acc.toList=its.toList.reverse
variable {its:Array Value}
theorem aae{acc:Array Value}(h:ItemsOf (fun i v=>its[its.size-1-i]?=some v) acc its.size):Eg its acc:=by
 refine zS fun i=>?_;have ha:=h.1;by_cases hi:i<acc.size
 ·have e1:=h.2 i _ (Gu hi)
  rw [vT,Gu hi,List.getElem?_reverse (by simpa using (by lia:i<its.size)),fS,vT,e1]
 ·rw [vT,Array.getElem?_eq_none (by lia),Cu (by rw [List.length_reverse,fS];lia)]
variable {R:Result→Shared→Prop} {it:Addr}
theorem aaf(hh:A.handled=none)(hit:s.heap.IsRevIter it l ((its.size:Int)-1))(hl:s.heap.IsList l its)(gJ:l≠it)(hlen:its.size≤2 ^ 24)(S:Addr)(res:Value)(c₀:Nat)
  (hS:s.heap.get? S=some {cls:=.type "list",data:=.seq #[] c₀}) (xZ:S≠l)
  (hR:∀h' tk jU c',(∀b o,b≠S→b≠it→s.heap.get? b=some o→h'.get? b=some o)→h'.get? S=some {cls:=.type "list",dict:=none,data:=.seq jU c',slots:=#[]}→Eg its jU→R (.ok (.ret res)) {s with heap:=h',toks:=tk}) :
  wpAny (model prog w) A.in1 (Builtin.List.listExtendWith (.ref S) (.ref it) res)
   (fun fin s'=>match fin with | .done f=>R (.ok f) s' | .again c'=>c'.quiet=true∧codeAny (model prog w) A c' R s') (fun e s'=>R (.error e) s') s:=by
 have hT:=hit.typeIs;have Eh:S≠it:=fun e=>by obtain ⟨o,ho,hc,Bn⟩:=hit;rw [e,ho] at hS;cases hS;cases Bn
 have hSf:S∉[it,l]:=fun hmm=>by
  rcases bb.mp hmm with e | e;·exact Eh e
  ·exact xZ (cB.mp e)
 have W:=(Walks.listRev (prog:=prog) (w:=w) (A:=A.in1) hh it l gJ its).toS
 have key:∀(h:Heap) (c₁ tk:Nat),h.IsRevIter it l ((its.size:Int)-1-((0:Nat):Int))∧h.IsList l its→(∀b o,b≠S→s.heap.get? b=some o→h.get? b=some o)→
   h.get? S=some {cls:=.type "list",data:=.seq #[] c₁}→codeAny (model prog w) A (.builtin "list.extend.loop" ⟨[.ref S,.ref it,res],[]⟩) R {s with heap:=h,toks:=tk}:=by
  intro h c₁ tk hit hk hS₁;refine codeAny_extend_loopS W (by rw [iR];lia) S hSf res its.size 0 _ #[] c₁ rfl (bG _) ⟨bG _,hit⟩ hS₁ (ItemsOf.nil _) fun s' jU c' Pe gU l6=>?_
  rw [Moved.eq_with Pe];refine hR s'.heap s'.toks jU c' (fun b o hb qd e=>Pe.heap b o (fun Jp=>?_) (hk b o hb e)) gU (aae l6);rcases bb.mp Jp with e' | Jp;·exact hb e'
  ·exact qd (cB.mp Jp)
 have aaj:s.heap.IsRevIter it l ((its.size:Int)-1-((0:Nat):Int)):=by
  have e:(its.size:Int)-1-((0:Nat):Int)=(its.size:Int)-1:=by lia
  rw [e];exact hit
 unfold Builtin.List.listExtendWith;refine ax (wpAny_typeOf (T:="list_reverseiterator") hT ?_);simp only [show Builtin.List.listSameRef (.ref S) (.ref it)=false from by simp [Builtin.List.listSameRef,Eh],show (Value.type "list_reverseiterator" == Value.type "list")=false from by decide,show (Value.type "list_reverseiterator" == Value.type "tuple")=false from by decide,Bool.or_false,sE,ph]
 refine ax (wpAny_pyIter_revIter hit ?_);refine ax (mf (aac hT ?_));refine wm (fun nE=>absurd nE (by decide)) (fun _=>bJ ⟨sJ F.plain_extend_loop _,key _ c₀ _ ⟨aaj,hl⟩ (fun b o _ e=>e) hS⟩)
theorem aak(hh:A.handled=none)(hit:s.heap.IsRevIter it l ((its.size:Int)-1))(hl:s.heap.IsList l its)(gJ:l≠it)(hlen:its.size≤2 ^ 24)(S:Addr)
  (hS:s.heap.get? S=some {cls:=.type "list",data:=.seq #[]}) (xZ:S≠l)
  (hR:∀h' tk jU c',(∀b o,b≠S→b≠it→s.heap.get? b=some o→h'.get? b=some o)→h'.get? S=some {cls:=.type "list",dict:=none,data:=.seq jU c',slots:=#[]}→Eg its jU→R (.ok (.ret .none)) {s with heap:=h',toks:=tk}) :
  wpAny (model prog w) A.in1 (Builtin.«list.__init__» ⟨[.ref S,.ref it],[]⟩)
   (fun fin s'=>match fin with | .done f=>R (.ok f) s' | .again c'=>c'.quiet=true∧codeAny (model prog w) A c' R s') (fun e s'=>R (.error e) s') s:=by
 have Eh:S≠it:=fun e=>by
  obtain ⟨o,ho,hc,Bn⟩:=hit
  rw [e,ho] at hS
  cases hS
  cases Bn
 show wpAny _ _ (do let old ←Builtin.List.listItems (.ref S);Builtin.List.listUpdate (.ref S) (fun _=>#[]);letGo old.toList.reverse;Builtin.List.listExtendWith (.ref S) (.ref it) .none) _ _ s
 refine ax ?_
 unfold Builtin.List.listItems
 refine ax (zZ hS rfl (bJ ?_))
 show wpAny _ _ (updateSeq S (fun _=>#[]) >>= fun _=>letGo (#[]:Array Value).toList.reverse >>= fun _=>Builtin.List.listExtendWith (.ref S) (.ref it) .none) _ _ s
 refine ax (CD hS rfl ?_)
 have hS₂:=Heap.get?_update_self (Obj.mapSeq (fun _=>(#[]:Array Value))) hS rfl
 have xR:∀b o,b≠S→s.heap.get? b=some o→(s.heap.update S (Obj.mapSeq (fun _=>(#[]:Array Value)))).get? b=some o:=fun b o hb e=>(Gj _ _ (Ne.symm hb)).trans e
 refine ax (wg ?_)
 exact aaf (s:={s with heap:=s.heap.update S (Obj.mapSeq (fun _=>(#[]:Array Value)))}) hh (hit.at fun o e=>xR it o (Ne.symm Eh) e) (hl.at fun o e=>xR l o (Ne.symm xZ) e) gJ hlen S .none _ hS₂ xZ fun h' tk jU c' hk gU l6=>hR h' tk jU c' (fun b o hb qd e=>hk b o hb qd (xR b o hb e)) gU l6
theorem aam{Q:aF}(hh:A.handled=none)(hit:s.heap.IsRevIter it l ((its.size:Int)-1))(hl:s.heap.IsList l its)(gJ:l≠it)(hlen:its.size≤2 ^ 24)
  (hQ:∀h' tk jU c',(∀b o,b≠it→s.heap.get? b=some o→h'.get? b=some o)→h'.get? s.heap.objs.size=some {cls:=.type "list",dict:=none,data:=.seq jU c',slots:=#[]}→Eg its jU→Q (.ref s.heap.objs.size) {s with heap:=h',toks:=tk}) :
  wpAny (model prog w) A (call (.type "list") [.ref it]) Q E s:=by
 refine callType_codes (Q₁:=fun obj s₁=>obj=.ref s.heap.objs.size∧s₁={s with heap:=s.heap.push {cls:=.type "list",data:=.seq #[]}}) F.called_list (F.typeCall_list_1 _) F.entry_list_init (code_list_new _ ⟨rfl,rfl⟩) fun obj s₁ h₁=>?_;obtain ⟨rfl,rfl⟩:=h₁;have hS:(s.heap.push {cls:=.type "list",data:=.seq #[]}).get? s.heap.objs.size=some {cls:=.type "list",data:=.seq #[]}:=eh _ rfl;have xZ:s.heap.objs.size≠l:=fun e=>by obtain ⟨o,ho,_⟩:=hl;exact d6 _ (e▸aU ho)
 refine ⟨⟨_,hS,rfl⟩,F.args_list_init_2 _ _,aak (s:={s with heap:=s.heap.push {cls:=.type "list",data:=.seq #[]}}) (A:=A.in1) hh (hit.at fun o e=>b_ _ e) (hl.at fun o e=>b_ _ e) gJ hlen _ hS xZ fun h' tk jU c' hk gU l6=>?_⟩;exact ⟨rfl,hQ h' tk jU c' (fun b o hb e=>hk b o (bZ (aU e)) hb (b_ _ e)) gU l6⟩
end
section
variable {X:Cx}
def aan(K:aD)(ta:TA):TE:=fun σ H Q=>ta σ H fun vs H1=>∃(l:Addr) (xs:List V),vs=[.ref l]∧a8 K H1 l xs∧xs.length≤10000∧∀D,H1 D=none→Q (.ref D) (upd H1 D (.lst xs.reverse))
theorem aao{a:Expr}{ta:TA}{pos p2 Ei:Pos}(hc:X.calm=true)(hg:Gl X "list")(hm:X.mg "list"=none)(I_:Gl X "reversed")(rE:X.mg "reversed"=none)(ha:PA X [a] ta)(hs:starEach [a] X.env=[(false,eval a X.env)]:=by rfl)
  (tH:starEach [.Call (.Name "reversed" p2) [a] [] Ei] X.env=[(false,eval (.Call (.Name "reversed" p2) [a] [] Ei) X.env)]:=by rfl):PE X (.Call (.Name "list" p) [.Call (.Name "reversed" p2) [a] [] Ei] [] pos) (aan X.K ta):=by
 intro pins s σ H Q I h;refine PyProof.Rows.Call_Name1 (kY I hg hm boot_list (callWith_type1 ?_)) tH;refine Call_ (kY I I_ rE boot_reversed (zM (aH (ha Ei pins s σ H _ I h) fun us s1 ⟨vs,H1,I1,r1,q1⟩=>?_) hs rfl));obtain ⟨l,xs,e,hq,hx,q⟩:=q1;subst e;cases r1 with
 | cons r rr=>
  cases rr;cases r;obtain ⟨its,rv,pl,hz⟩:=I1.list hq;have Bv:=rv.length;obtain ⟨o,n,go,c1,c2,c3⟩:=id pl;refine call_reversed_list pl.isList ?_;refine aam (its:=its.toArray) (l:=l) (I1.ok.hd hc) ⟨_,eh _ rfl,rfl,rfl⟩ ?_ (bZ (aU go)) (by rw [cf];lia) fun h' tk acc c hk hD l6=>?_
  ·exact (show PlainL _ l _ from ⟨o,n,b_ _ go,c1,c2,c3⟩).isList
  ·have I2:Inv X pins σ H1 {s1 with heap:=s1.heap.push (revObj l ((its.toArray.size:Int)-1))}:=I1.kept (t':=s1.toks) fun b o e=>b_ _ e
   have kp:∀b o,s1.heap.get? b=some o→h'.get? b=some o:=fun b o e=>hk b o (bZ (aU e)) (b_ _ e);have hsz:s1.heap.objs.size≤(s1.heap.push (revObj l ((its.toArray.size:Int)-1))).objs.size:=by rw [Heap.size_push];exact pj _
   refine ⟨.ref _,_,I1.laid (o:=.lst xs.reverse) kp hsz ⟨?_,acc.toList,c,?_,?_⟩,rfl,q _ (I1.aw.fresh hsz)⟩
   ·rw [List.length_reverse]
    exact bU hx (by decide)
   ·have e:acc.toList=its.reverse:=by rw [l6]
    rw [e];exact rv.reverse
   ·rw [hD]
end
theorem i3.Ef{base:Heap}{qual:Str}{st:Stmt}{N ps:List Str}(F:i3 K x qual st f fd)(Pf:tabIn K fd Pt=true)(S:cG N ps (bH st))(len:∀vs H Q E,sp vs H Q E→vs.length=ps.length)
  (mO:∀(c:Addr) (A:Around) (outer:List Env) (s:Shared) (H:Hp) (vs:List V) (Q:VK) (E:XK),codeHdIn K c Pt=true→fk k (A.deeper (envOfC qual (bH st) s.heap.objs.size f (.ref c)))→sp vs H Q E→
   ∃t,gE (k4 dE P w K mg base N qual (bH st) f (.ref c) A outer s H E).pM (oD st) t∧t {nx:=fun _ H'=>Q .aI H',rt:=Q} (start N vs) H):cu P w K mg base dE (k+1) f fd ps sp:=by
 obtain ⟨oc,od,kV,doc,pm,an,cH,ct,mM,rfl,lk,fE⟩:=F.ex;cases cH with
 | ref c=>have h2:codeHdIn K c Pt=true:=Pf;refine GV lk fE S len fun A outer s H vs Q E hr oq=>?_;obtain ⟨t,h,q⟩:=mO c A outer s H vs Q E h2 hr oq;exact ⟨t,h.pM,q⟩
 | _=>cases Pf
def Ej(K:aD)(Pt:Addr):Sp:=fun vs H Q E=>H Pt=some (.dW #[])∧My.V2 K vs H Q E
theorem aap{l:PySem.W.OpenLaw}{q:Program}{loose:List Str}{XP:(Str→Option Value)→Heap→Prop}{YP:World→Heap→Prop}{d:DefRec}{K:Params→PySem.W.Frag}(hn:l.most=some 63)(Ay:d.params.defaults=[])(hr:fk k callerA)
  (hY:∀(w:World) (h:Heap),YP w h→(K w.params).In h) (hP:∀(w:World) (h:Heap),YP w h→h.get? Pt=some (tabObj #[]))
  (F:∀(w:World) (mg:dq) (fa:Addr) (h:Heap),(K w.params).In h→h.Ns mainGlobals mg→mg d.name=some (.ref fa)→
   (K w.params).lookup Pt=none∧(∃x6,tabIn (K w.params) x6 Pt=true)∧∃fd:FuncData,(∀(s:Shared) (u:Value),BindsTo s fd ⟨[u],[]⟩ [("script",u)])∧∀base:Heap,(K w.params).In base→base.Ns mainGlobals mg→nC base mg→cu l.prog w (K w.params) mg base dE k fa fd ["script"] (Ej (K w.params) Pt)) :
  PySem.W.WalkO q loose XP YP l.row.toRowW d [] (fun f vs=>PySem.call f vs):=by
 refine Att.Vw hn Ay fun w s₀ s₁ mg mb fa o pm cd doc a vs ns G Y ho hd fE Az Hi hints hlen hg=>?_;have KX:=hY w _ Y;obtain ⟨Ji,⟨x6,Ek⟩,fd,hb,hF⟩:=F w mg fa _ KX G.T.g Az;have hT:=hP w _ Y;have Jj:isCodeTable s₁.heap Pt:=by
  unfold tabIn at Ek
  split at Ek
  ·exact ((codeHd_of_K KX Ek).tab hT).isCodeTable
  ·cases Ek
 obtain ⟨bm,ob,b1,b2,b3,b4,b5,b6⟩:=G.T.bmain;exact ZT KX G.T.g G.T.b G.T.builtins G.T.nolimit hg hT Ji Jj Hi hints (bU hlen (by decide)) hr ⟨bm,ob,b1,b2,b3,b4,b5,b6⟩ hF hb (fun H hO hP hS=>⟨hP,a,ns,rfl,hS,hlen,fun _=>rfl⟩) fun H e s' z=>z
end L2
namespace My
open PySem L2
abbrev jV:Str:=(Str.ofString "likely_order"++Str.ofString ".<locals>.")++Str.ofString "<lambda>"
def gC(L:ak)(P:List Nat)(a:Nat):Nat:=(P.filter (rL L a)).length
variable {P:List Nat}
theorem aaq{L:ak}{a b:Nat}:gC L (P++[b]) a=gC L P a+if rL L a b=true then 1 else 0:=by
 unfold gC;rw [pG,cW]
 congr 1
 by_cases h:rL L a b=true;·rw [ae h,qN h];rfl
 ·rw [aa h,wq h];rfl
variable {n:Nat} {r:Nat→Nat→Bool}
theorem ky.nil:ky n r []:=fun A b B e=>by have:=fv List.length e;simp at this
theorem ky.snoc{p:Nat}(h:ky n r P)(hp:∀a,a<n→a∉P→(P.filter (r a)).length≤(P.filter (r p)).length):ky n r (P++[p]):=fun A b B e a an aA=>by
 rcases List.eq_nil_or_concat B with rfl | ⟨B',x,rfl⟩
 ·have e2:P++[p]=A++[b]:=e
  obtain ⟨rfl,e3⟩:=List.append_inj' e2 rfl;cases e3;exact hp a an aA
 ·have e2:P++[p]=(A++b::B')++[x]:=by rw [e];simp
  obtain ⟨e3,_⟩:=List.append_inj' e2 rfl;exact h A b B' e3 a an aA
theorem aar{α:Type}{j:Nat}{g:Nat→α}{v:α}:((List.range n).map g).set j v=(List.range n).map fun a=>if a=j then v else g a:=by
 refine zS fun i=>?_;rw [List.getElem?_set,ay,cC,bz,bz];by_cases hi:i<n
 ·rw [mr hi]
  by_cases e:j=i
  ·subst e
   simp [hi]
  ·rw [aa e]
   simp [Ne.symm e]
 ·rw [Cu (by rw [cC];lia)]
  by_cases e:j=i
  ·subst e
   simp [hi]
  ·rw [aa e]
   rfl
theorem getD_map{y:Nat}{g:Nat→Int}(h:y<n):((List.range n).map g).getD y 0=g y:=by rw [cQ,bz,mr h];rfl
def aas(Pt:Addr)(pl:Pos):Sp:=fun vs H Q _=>∃(tp:Addr) (n:Nat) (L:ak),vs=[.ref tp]∧cL H tp n L∧e8 n L∧n≤1000∧dO Pt pl jV H ∧
 ∀(H':Hp) (D:Addr) (Pk:List Nat),eV Pt H H'→dO Pt pl jV H'→H D=none→H' D=some (.lst (Pk.reverse.map fun k:Nat=>V.int (k:Int)))→Pk.Perm (List.range n)→ky n (rL L) Pk→Q (.ref D) H'
end My
namespace L2
open PySem
variable {Pt:Addr} {pl:Pos} {q:Str} {H H':Hp}
theorem dO.mono(h:dO Pt pl q H)(s:af H H'):dO Pt pl q H':=by
 rcases h with h | ⟨c,n,h1,h2⟩;·exact .inl (s _ _ h)
 ·exact .inr ⟨c,n,s _ _ h1,s _ _ h2⟩
theorem dO.at(h:dO Pt pl q H):∃ps,H Pt=some (.dW ps):=by
 rcases h with h | ⟨c,n,h1,h2⟩;·exact ⟨_,h⟩
 ·exact ⟨_,h1⟩
theorem dO.off{a:Addr}{u:HO}(h:dO Pt pl q H)(ea:H a=some u)(n1:∀ps,u≠.dW ps)(n2:∀φ,u≠.ext φ)(s:∀b o,b≠a→H b=some o→H' b=some o):dO Pt pl q H':=by
 have nP:∀ps,H Pt=some (.dW ps)→Pt≠a:=fun ps e z=>by rw [z,ea] at e;exact n1 ps (Option.some.inj e)
 rcases h with h | ⟨c,n,h1,h2⟩;·exact .inl (s _ _ (nP _ h) h)
 ·exact .inr ⟨c,n,s _ _ (nP _ h1) h1,s _ _ (fun z=>by rw [z,ea] at h2;exact n2 _ (Option.some.inj h2)) h2⟩
end L2
namespace My
open PySem L2
theorem By{Pt t:Addr}{H H':Hp}{n:Nat}{L:ak}{ps:Array Value}(h:cL H t n L)(hP:H Pt=some (.dW ps))(s:eV Pt H H'):cL H' t n L:=by
 have at':∀{b:Addr} {xs:List V},H b=some (.tup xs)→H' b=some (.tup xs):=fun{b xs} e=>s b _ (fun z=>by rw [z,hP] at e;cases e) e
 obtain ⟨lt,us,e1,e2,e3,e4⟩:=h;exact ⟨lt,us,at' e1,at' e2,e3,fun k x p h1 h2=>let ⟨b,q1,q2⟩:=e4 k x p h1 h2;⟨b,q1,at' q2⟩⟩
end My
namespace L2
open PySem My
variable {Pt P a:Addr} {pl:Pos} {q:Str} {H H':Hp}
theorem dO.El(h:dO Pt pl q H)(p:c_ H P a)(s:a_ P H H'):dO Pt pl q H':=by
 obtain ⟨x,y,eP,_⟩:=p;have ne:∀{b:Addr} {o:HO},H b=some o→(∀xs,o≠.lst xs)→b≠P:=fun{b o} e n z=>by rw [z,eP] at e;exact n _ (Option.some.inj e).symm
 rcases h with h | ⟨c,n,h1,h2⟩;·exact .inl (s.at (ne h fun _ z=>by cases z) h)
 ·exact .inr ⟨c,n,s.at (ne h1 fun _ z=>by cases z) h1,s.at (ne h2 fun _ z=>by cases z) h2⟩
theorem dO.neP(h:dO Pt pl q H)(p:c_ H P a):P≠Pt:=fun z=>by obtain ⟨x,y,eP,_⟩:=p;obtain ⟨ps,e⟩:=h.at;rw [z,e] at eP;cases eP
theorem eV.lH(s:eV Pt H H')(n:P≠Pt)(p:c_ H P a):c_ H' P a:=by obtain ⟨x,y,eP,r⟩:=p;exact ⟨x,y,s _ _ n eP,r⟩
theorem eV.er(s:eV Pt H H'):eV Pt (My.er P H) (My.er P H'):=fun b o n e=>by
 unfold My.er at e ⊢;by_cases z:b=P;·rw [ae z] at e;cases e
 ·rw [aa z] at e ⊢
  exact s b o n e
end L2
namespace My
open PySem L2
section
variable {E:Nat→Nat→Prop}
def rK(E:Nat→Nat→Prop)(V:List Nat)(x c:Nat):Prop:=c∈V∧c≠x∧¬E x c
structure oR (E:Nat→Nat→Prop) (V:List Nat) (x y z:Nat):Prop where
 xV:x∈V
 yV:y∈V
 zV:z∈V
 xy:E x y
 xz:E x z
 ne:y≠z
 no:¬E y z
 wk:Wk E (rK E V x) y z
def Simp(E:Nat→Nat→Prop)(V:List Nat)(s:Nat):Prop:=∀b c,b∈V→c∈V→b≠c→E s b→E s c→E b c
open Classical in
theorem Jq(sy:∀a b,E a b→E b a)(ir:∀a,¬E a a):∀(m:Nat) (V:List Nat),V.length≤m→(∀x y z,¬oR E V x y z)→∀x v,x∈V→v∈V→v≠x→¬E x v→∃s,rK E V x s∧Simp E V s
 | 0,V,hm,_,x,_,hx,_,_,_=>by
  cases V with
  | nil=>cases hx
  | cons=>simp at hm
 | m+1,V,hm,nh,x,v,hx,hv,vx,nv=>by
  have tv:rK E V x v:=⟨hv,vx,nv⟩
  let C:Nat→Prop:=fun c=>rK E V x c∧(c=v∨Wk E (rK E V x) v c)
  let S:Nat→Prop:=fun y=>y∈V∧E x y∧∃c,C c∧E c y
  have toV:∀y c,C c→E c y→Wk E (rK E V x) y v:=fun y c hc e=>by
   rcases hc.2 with rfl | h;·exact .one (sy _ _ e)
   ·exact (Wk.one (sy _ _ e)).trans hc.1 (h.symm sy)
  have Sc:∀y z,S y→S z→y≠z→E y z:=fun y z hy hz ne=>by refine gp fun no=>?_;obtain ⟨c,hc,ec⟩:=hy.2.2;obtain ⟨d,hd,ed⟩:=hz.2.2;exact nh x y z ⟨hx,hy.1,hz.1,hy.2.1,hz.2.1,ne,no,(toV y c hc ec).trans tv ((toV z d hd ed).symm sy)⟩
  have Pg:∀t b,C t→b∈V→E t b→C b∨S b:=fun t b ht hb e=>by
   by_cases h:E x b;·exact .inr ⟨hb,h,t,ht,e⟩
   ·have bx:b≠x:=fun z=>ht.1.2.2 (by rw [←z];exact sy _ _ e)
    refine .inl ⟨⟨hb,bx,h⟩,.inr ?_⟩;rcases ht.2 with rfl | w;·exact .one e
    ·exact .more w ht.1 e
  have nCS:∀s,C s→¬S s:=fun s hc hs=>hc.1.2.2 hs.2.1
  let V':=V.filter fun c=>decide (C c∨S c)
  have jW:∀c,c∈V'↔c∈V∧(C c∨S c):=fun c=>by show c∈V.filter _↔_;rw [b8,fT]
  have CV:∀c,C c→c∈V':=fun c h=>(jW c).mpr ⟨h.1.1,.inl h⟩;have SV:∀c,S c→c∈V':=fun c h=>(jW c).mpr ⟨h.1,.inr h⟩;have xV':x∉V':=fun h=>by
   rcases ((jW x).mp h).2 with h | h;·exact h.1.2.1 rfl
   ·exact ir x h.2.1
  have lt:V'.length≤m:=by
   have h1:V'.length<V.length:=by
    have h2:=List.length_filter_lt_length_iff_exists (l:=V) (p:=fun c=>decide (C c∨S c)) |>.mpr ⟨x,hx,by rw [fT];intro h;exact xV' ((jW x).mpr ⟨hx,h⟩)⟩
    exact h2
   lia
  have Ph:∀x y z,¬oR E V' x y z:=fun a b c h=>nh a b c ⟨((jW _).mp h.xV).1,((jW _).mp h.yV).1,((jW _).mp h.zV).1,h.xy,h.xz,h.ne,h.no,h.wk.mono fun d hd=>⟨((jW _).mp hd.1).1,hd.2⟩⟩;have fin:∀t,C t→Simp E V' t→∃s,rK E V x s∧Simp E V s:=fun t ht hs=>by
   refine ⟨t,ht.1,fun b c hb hc ne eb ec=>hs b c ?_ ?_ ne eb ec⟩;·exact (jW b).mpr ⟨hb,Pg t b ht hb eb⟩
   ·exact (jW c).mpr ⟨hc,Pg t c ht hc ec⟩
  by_cases ha:∃s u,S s∧u∈V'∧u≠s∧¬E s u
  ·obtain ⟨s,u,hs,hu,us,nu⟩:=ha
   obtain ⟨t,ht,st⟩:=Jq sy ir m V' lt Ph s u (SV s hs) hu us nu;refine fin t ?_ st;rcases ((jW t).mp ht.1).2 with h | h;·exact h
   ·exact absurd (Sc s t hs h (Ne.symm ht.2.1)) ht.2.2
  ·have full:∀s u,S s→u∈V'→u≠s→E s u:=fun s u hs hu us=>gp fun z=>ha ⟨s,u,hs,hu,us,z⟩
   by_cases hb:∃u w,C u∧C w∧w≠u∧¬E u w
   ·obtain ⟨u,w,hu,hw,uw,nu⟩:=hb
    obtain ⟨t,ht,st⟩:=Jq sy ir m V' lt Ph u w (CV u hu) (CV w hw) uw nu;refine fin t ?_ st;rcases ((jW t).mp ht.1).2 with h | h;·exact h
    ·exact absurd (sy _ _ (full t u h (CV u hu) (Ne.symm ht.2.1))) ht.2.2
   ·have vC:C v:=⟨tv,.inl rfl⟩
    refine fin v vC fun b c eE dY ne eb ec=>?_;rcases ((jW b).mp eE).2 with h | h
    ·rcases ((jW c).mp dY).2 with h2 | h2
     ·exact gp fun z=>hb ⟨b,c,h,h2,Ne.symm ne,z⟩
     ·exact sy _ _ (full c b h2 eE ne)
    ·exact full b c h dY (Ne.symm ne)
theorem aav(sy:∀a b,E a b→E b a)(ir:∀a,¬E a a){V:List Nat}(hV:V≠[])(nh:∀x y z,¬oR E V x y z):∃s,s∈V∧Simp E V s:=by
 by_cases h:∃x v,x∈V∧v∈V∧v≠x∧¬E x v
 ·obtain ⟨x,v,hx,hv,vx,nv⟩:=h
  obtain ⟨s,hs,ss⟩:=Jq sy ir _ V (au _) nh x v hx hv vx nv;exact ⟨s,hs.1,ss⟩
 ·cases V with
  | nil=>exact absurd rfl hV
  | cons a V=>exact ⟨a,cj,fun b c hb hc ne _ _=>gp fun z=>h ⟨b,c,hb,hc,Ne.symm ne,z⟩⟩
theorem Pj(sy:∀a b,E a b→E b a)(ir:∀a,¬E a a):∀(m:Nat) (V:List Nat),V.length=m→(∀x y z,¬oR E V x y z)→∃o:List Nat,o.Perm V∧∀A x B,o=A++x::B→∀b c,b∈B→c∈B→b≠c→E x b→E x c→E b c
 | 0,V,hm,_=>by
  cases V with
  | nil=>exact ⟨[],List.Perm.refl _,fun A x B e=>by simp at e⟩
  | cons=>simp at hm
 | m+1,V,hm,nh=>by
  have hV:V≠[]:=fun z=>by rw [z] at hm;simp at hm
  obtain ⟨s,hs,ss⟩:=aav sy ir hV nh;have sub:∀c,c∈V.erase s→c∈V:=fun c h=>List.mem_of_mem_erase h;obtain ⟨o,po,ho⟩:=Pj sy ir m (V.erase s) (by rw [Cy hs];lia) fun a b c h=>nh a b c ⟨sub _ h.xV,sub _ h.yV,sub _ h.zV,h.xy,h.xz,h.ne,h.no,h.wk.mono fun d hd=>⟨sub _ hd.1,hd.2⟩⟩
  refine ⟨s::o,(po.cons s).trans (List.perm_cons_erase hs).symm,fun A x B e b c hb hc ne eb ec=>?_⟩;cases A with
  | nil=>injection e with e1 e2;subst e1;subst e2;exact ss b c (sub _ (po.mem_iff.mp hb)) (sub _ (po.mem_iff.mp hc)) ne eb ec
  | cons a A=>injection e with e1 e2;exact ho A x B e2 b c hb hc ne eb ec
end
variable {n:Nat}
theorem aaw{L:ak}(pw:L.Pairwise lexLt)(lt:∀z∈L,0≤z.1∧z.1<z.2∧z.2<(n:Int))(no:∀o:List Nat,o.Perm (List.range n)→¬bO n L o L):∃x y z,oR (aL n L) (List.range n) x y z:=by
 refine gp fun nh=>?_;have ir:∀a,¬aL n L a a:=fun a h=>by rcases h.2.2 with e | e <;> (have:=lt _ e;lia)
 obtain ⟨o,po,ho⟩:=Pj gT ir _ (List.range n) rfl fun x y z h=>nh ⟨x,y,z,h⟩;refine no o po (Ec po pw lt fun a b c an bn cn ab ac ne e1 e2=>?_);obtain ⟨A,B,e⟩:=List.append_of_mem ((gR po).mpr an);have nd:=p_ po;have Bz:∀d,d<n→o.idxOf a<o.idxOf d→d∈B:=fun d dn lt=>by
  have hm:=(gR po).mpr dn;rw [e] at hm lt nd;rw [fD] at nd;have aA:a∉A:=fun z=>nd.2.2 a z a cj rfl;rw [iW,aa aA,nY] at lt;rcases cM.mp hm with h | h
  ·rw [iW,ae h] at lt
   have:=pH h;lia
  ·rcases bb.mp h with rfl | h
   ·rw [iW,aa aA,nY] at lt
    lia
   ·exact h
 exact ho A a B e b c (Bz b bn ab) (Bz c cn ac) ne e1 e2
def BA(E:Nat→Nat→Prop):List Nat→Prop
 | []=>True
 | a::r=>(∀b,r.head?=some b→E a b)∧(∀d∈r.drop 1,¬E a d)∧BA E r
theorem BA.at{E:Nat→Nat→Prop}:∀{p:List Nat},BA E p→∀(i j:Nat) (hi:i<p.length) (hj:j<p.length),i<j→(E p[i] p[j]↔j=i+1)
 | [],_,i,_,hi,_,_=>by simp at hi
 | a::r,⟨h1,h2,h3⟩,0,j,_,hj,ij=>by
  obtain ⟨j,rfl⟩:∃k,j=k+1:=⟨j-1,by lia⟩
  have eZ:j<r.length:=by simpa using hj
  simp only [Gw,z_];constructor
  ·intro e
   refine gp fun z=>h2 r[j] ?_ e;rw [wu];exact ⟨j-1,by rw [zN];lia,by rw [List.getElem_drop];congr 1;lia⟩
  ·intro e
   have:j=0:=by lia
   subst this;exact h1 _ (by rw [List.head?_eq_getElem?,aZ eZ])
 | a::r,⟨h1,h2,h3⟩,i+1,j,hi,hj,ij=>by
  obtain ⟨j,rfl⟩:∃k,j=k+1:=⟨j-1,by lia⟩
  simp only [z_];rw [h3.at i j (by simpa using hi) (by simpa using hj) (by lia)]
  lia
theorem aax{L:ak}(pw:L.Pairwise lexLt)(lt:∀z∈L,0≤z.1∧z.1<z.2∧z.2<(n:Int)){r:List Nat}(m4:4≤r.length)(nd:r.Nodup)(rn:∀d∈r,d<n)
  (h:∀(i j:Nat) (hi:i<r.length) (hj:j<r.length),i<j→(aL n L r[i] r[j]↔j=i+1∨(i=0∧j=r.length-1))):ud L (r.map iN):=by
 have lm:(r.map iN).length=r.length:=ay ..;have gz:∀(k:Nat) (hk:k<r.length),(r.map iN).getD k 0=((r[k]:Nat):Int):=fun k hk=>by rw [cQ,bz,aZ hk];rfl
 have inj:∀(i j:Nat) (hi:i<r.length) (hj:j<r.length),r[i]=r[j]→i=j:=fun i j hi hj e=>(gm nd).mp e;have nx:∀k,k<r.length→(k+1) % r.length<r.length:=fun k _=>Nat.mod_lt _ (by lia)
 have uu:∀k,k<r.length→(k+1<r.length∧(k+1) % r.length=k+1)∨(k=r.length-1∧(k+1) % r.length=0):=fun k hk=>by
  by_cases z:k+1<r.length;·exact .inl ⟨z,Nat.mod_eq_of_lt z⟩
  ·exact .inr ⟨by lia,by rw [show k+1=r.length by lia,Nat.mod_self]⟩
 have lk:∀(i j:Nat) (hi:i<r.length) (hj:j<r.length),i≠j→(aL n L r[i] r[j]↔j=(i+1) % r.length∨i=(j+1) % r.length):=fun i j hi hj ne=>by
  by_cases ij:i<j
  ·rw [h i j hi hj ij]
   rcases uu i hi with ⟨a1,a2⟩ | ⟨a1,a2⟩ <;> rcases uu j hj with ⟨b1,b2⟩ | ⟨b1,b2⟩ <;> lia
  ·have:aL n L r[i] r[j]↔aL n L r[j] r[i]:=⟨gT _ _,gT _ _⟩
   rw [this,h j i hj hi (by lia)]
   rcases uu i hi with ⟨a1,a2⟩ | ⟨a1,a2⟩ <;> rcases uu j hj with ⟨b1,b2⟩ | ⟨b1,b2⟩ <;> lia
 have x8:(r.map iN).Nodup:=nd.map (f:=iN) fun a b ne e=>ne (by have:(a:Int)=(b:Int):=e;lia)
 refine ⟨by rw [lm];exact m4,x8,?_⟩
 have oS:L.Nodup:=pw.imp fun h e=>by subst e;unfold lexLt at h;lia
 have ndR:(A_ (r.map iN)).Nodup:=by
  unfold A_;rw [lm];refine jG.mpr (Gs (fun{a b} ha hb ab=>?_) (fU (n:=r.length)));have ha:=aS.mp ha;have hb:=aS.mp hb;intro e;rw [gz a ha,gz b hb,gz _ (nx a ha),gz _ (nx b hb)] at e;injection e with e1 e2;have key:(r[a]=r[b]∧r[(a+1) % r.length]'(nx a ha)=r[(b+1) % r.length]'(nx b hb))∨(r[a]=r[(b+1) % r.length]'(nx b hb)∧r[(a+1) % r.length]'(nx a ha)=r[b]):=by lia
  rcases key with ⟨k1,_⟩ | ⟨k1,k2⟩;·exact ab (inj a b ha hb k1)
  ·have q1:=inj _ _ ha (nx b hb) k1
   have q2:=inj _ _ (nx a ha) hb k2;rcases uu a ha with ⟨a1,a2⟩ | ⟨a1,a2⟩ <;> rcases uu b hb with ⟨b1,b2⟩ | ⟨b1,b2⟩ <;> lia
 refine (kU ndR (oS.filter _)).mpr fun p=>?_;constructor
 ·intro hp
  unfold A_ at hp;rw [lm] at hp;obtain ⟨k,hk,rfl⟩:=bK.mp hp;have hk:=aS.mp hk;rw [gz k hk,gz _ (nx k hk)];have ne:k≠(k+1) % r.length:=by rcases uu k hk with ⟨a1,a2⟩ | ⟨a1,a2⟩ <;> lia
  have e:=(lk k _ hk (nx k hk) ne).mpr (.inl rfl);have mz:∀(i:Nat) (hi:i<r.length),((r[i]:Nat):Int)∈r.map iN:=fun i hi=>bK.mpr ⟨r[i],aV hi,rfl⟩;have m1:=mz k hk;have m2:=mz _ (nx k hk);rcases e.2.2 with q | q
  ·have l:=lt _ q
   dsimp only at l;rw [Int.min_eq_left (by lia),Int.max_eq_right (by lia)]
   exact b8.mpr ⟨q,by simp only [m1,m2,wj,Bool.and_self]⟩
  ·have l:=lt _ q
   dsimp only at l;rw [Int.min_eq_right (by lia),Int.max_eq_left (by lia)]
   exact b8.mpr ⟨q,by simp only [m1,m2,wj,Bool.and_self]⟩
 ·intro hp
  obtain ⟨hL,hz⟩:=b8.mp hp;rw [iS] at hz;obtain ⟨i',hi,e1⟩:=pE (bK.mp (dC hz.1)).choose_spec.1;obtain ⟨j',hj,e2⟩:=pE (bK.mp (dC hz.2)).choose_spec.1;have f1:=(bK.mp (dC hz.1)).choose_spec.2;have f2:=(bK.mp (dC hz.2)).choose_spec.2;rw [←e1] at f1;rw [←e2] at f2;have f1:((r[i']:Nat):Int)=p.1:=f1;have f2:((r[j']:Nat):Int)=p.2:=f2;have l:=lt _ hL;have ne:i'≠j':=fun z=>by subst z;lia
  have ep:(((r[i']:Nat):Int),((r[j']:Nat):Int))=p:=Prod.ext f1 f2;have e:aL n L r[i'] r[j']:=⟨rn _ (aV hi),rn _ (aV hj),.inl (by rw [ep];exact hL)⟩
  unfold A_;rw [lm];rcases (lk i' j' hi hj ne).mp e with q | q
  ·refine bK.mpr ⟨i',aS.mpr hi,?_⟩
   subst q;rw [gz i' hi,gz _ hj,Int.min_eq_left (by lia),Int.max_eq_right (by lia)]
   exact ep
  ·refine bK.mpr ⟨j',aS.mpr hj,?_⟩
   subst q;rw [gz j' hj,gz _ hi,Int.min_eq_right (by lia),Int.max_eq_left (by lia)]
   exact ep
def oV:Option Nat→V
 | none=>.aI
 | some p=>.int (p:Int)
def ee(wl:List (Nat×Option Nat)):List (Key×V):=wl.map fun q=>((Sum.inl (q.1:Int):Key),oV q.2)
def cz(wl:List (Nat×Option Nat)):List Nat:=wl.map (·.1)
theorem aaz(wl:List (Nat×Option Nat)):(ee wl).length=wl.length:=ay ..
theorem kys_len(wl:List (Nat×Option Nat)):(cz wl).length=wl.length:=ay ..
variable {wl:List (Nat×Option Nat)} {k:Nat}
theorem lookup_mem:(wl.lookup k).isSome=true↔k∈cz wl:=by
 induction wl with
 | nil=>simp [cz]
 | cons q r ih=>
  obtain ⟨a,b⟩:=q;unfold cz at ih ⊢;rw [cO,bb,List.lookup_cons];by_cases e:k=a;·subst e;simp
  ·rw [show (k == a)=false from by simpa using e,←ih]
   simp [e]
theorem Em(wl:List (Nat×Option Nat))(k:Nat):e7 (ee wl) (Sum.inl (k:Int):Key)=(wl.lookup k).map oV:=by
 induction wl with
 | nil=>rfl
 | cons q r ih=>
  obtain ⟨a,b⟩:=q;unfold e7 ee at ih ⊢;rw [cO,sF,List.lookup_cons];by_cases e:k=a;·subst e;simp
  ·rw [show (k == a)=false from by simpa using e,show decide ((Sum.inl (a:Int):Key)=Sum.inl (k:Int))=false from bY (by simp;lia)]
   exact ih
variable {p:Option Nat}
theorem Jr(h:k∉cz wl):putK (ee wl) (Sum.inl (k:Int):Key) (oV p)=ee (wl++[(k,p)]):=by
 have ha:((ee wl).any fun kv=>decide (kv.1=(Sum.inl (k:Int):Key)))=false:=by
  rw [List.any_eq_false];intro x hx e;obtain ⟨q,hq,rfl⟩:=bK.mp hx;have e:=dC e;simp at e;have:q.1=k:=by lia
  exact h (bK.mpr ⟨q,hq,this⟩)
 unfold putK;rw [aa (by rw [ha];decide)]
 unfold ee;rw [eW];rfl
theorem Pl{v:Nat}{o:Option Nat}(h:wl.lookup v=some o):(wl++[(k,p)]).lookup v=some o:=by rw [List.lookup_append,h];rfl
theorem Pm(h:k∉cz wl):(wl++[(k,p)]).lookup k=some p:=by
 have:wl.lookup k=none:=by
  cases e:wl.lookup k with
  | none=>rfl
  | some o=>exact absurd (lookup_mem.mp (by rw [e];rfl)) h
 rw [List.lookup_append,this];simp [List.lookup]
inductive Back (wl:List (Nat×Option Nat)):Nat→List Nat→Prop where
 | last {v:Nat}:wl.lookup v=some none→Back wl v [v]
 | step {v p:Nat} {ws:List Nat}:wl.lookup v=some (some p)→Back wl p ws→Back wl v (v::ws)
variable {ws:List Nat}
theorem Back.more{v:Nat}(h:Back wl v ws):Back (wl++[(k,p)]) v ws:=by
 induction h with
 | last h=>exact .last (Pl h)
 | step h _ ih=>exact .step (Pl h) ih
def oT(E:Nat→Nat→Prop)(wl:List (Nat×Option Nat))(d:Nat):Prop:=∀u,E d u→u∈cz wl
variable {E:Nat→Nat→Prop}
theorem oT.more{q:Nat×Option Nat}{d:Nat}(h:oT E wl d):oT E (wl++[q]) d:=fun u e=>by unfold cz;rw [eW];exact ja _ (h u e)
structure ie (n:Nat) (E:Nat→Nat→Prop) (wl:List (Nat×Option Nat)) (x s:Nat) (c:Option Nat) (h:Nat) (ws:List Nat):Prop where
 bk:Back wl h (h::ws)
 ind:BA E (h::ws)
 nd:(h::ws).Nodup
 away:∀d∈h::ws,d=s∨¬E x d
 nx:x∉h::ws
 lt:∀d∈h::ws,d<n
 lst:(h::ws).getLast?=some s
 sh:∀d∈ws,some d=c∨oT E wl d
variable {x s h:Nat}
theorem ie.more{c:Option Nat}(w:ie n E wl x s c h ws)(q:Nat×Option Nat):ie n E (wl++[q]) x s c h ws:=
 ⟨w.bk.more,w.ind,w.nd,w.away,w.nx,w.lt,w.lst,fun d hd=>(w.sh d hd).imp id oT.more⟩
theorem ie.Js{c:Nat}(w:ie n E wl x s (some c) h ws)(sc:oT E wl c)(c':Option Nat):ie n E wl x s c' h ws:=
 ⟨w.bk,w.ind,w.nd,w.away,w.nx,w.lt,w.lst,fun d hd=>.inr ((w.sh d hd).elim (fun e=>by cases e;exact sc) id)⟩
theorem ie.aaA(w:ie n E wl x s none h ws)(c':Option Nat):ie n E wl x s c' h ws:=
 ⟨w.bk,w.ind,w.nd,w.away,w.nx,w.lt,w.lst,fun d hd=>.inr ((w.sh d hd).elim (fun e=>by cases e) id)⟩
theorem Back.keys{v:Nat}(h:Back wl v ws):∀d∈ws,d∈cz wl:=by
 induction h with
 | last h=>intro d hd;rw [cB.mp hd];exact lookup_mem.mp (by rw [h];rfl)
 | step h _ ih=>
  intro d hd;rcases bb.mp hd with rfl | hd;·exact lookup_mem.mp (by rw [h];rfl)
  ·exact ih d hd
variable {o:Nat}
theorem ie.fresh(sy:∀a b,E a b→E b a)(w:ie n E wl x s none h ws)(ho:o∉cz wl):(∀d∈ws,¬E o d)∧o∉h::ws:=by
 refine ⟨fun d hd e=>?_,fun z=>ho (w.bk.keys o z)⟩;rcases w.sh d hd with e' | e';·cases e'
 ·exact ho (e' o (sy _ _ e))
structure gW (n:Nat) (E:Nat→Nat→Prop) (wl:List (Nat×Option Nat)) (x s:Nat) (pend:List Nat) (c:Option Nat):Prop where
 xk:x∈cz wl
 sk:s∈cz wl
 nd:(cz wl).Nodup
 lt:∀k∈cz wl,k<n
 near:∀u∈cz wl,u≠x→u≠s→E x u→E s u
 walk:∀u∈cz wl,u≠x→(u=s∨¬E x u)→some u=c∨oT E wl u∨u∈pend
 way:∀h∈pend,∃ws,ie n E wl x s c h ws
theorem En{ks:List Nat}(nd:ks.Nodup)(lt:∀k∈ks,k<n):ks.length≤n:=jT.len ⟨nd,lt⟩
section
variable {n:Nat} {E:Nat→Nat→Prop} {wl:List (Nat×Option Nat)} {x s:Nat} {pend:List Nat} {c:Option Nat}
theorem gW.len(b:gW n E wl x s pend c):wl.length≤n:=by rw [←kys_len];exact En b.nd b.lt
theorem gW.start(xs:x≠s)(xn:x<n)(sn:s<n):gW n E [(x,none),(s,none)] x s [s] none:=by
 have ks:cz [(x,none),(s,none)]=[x,s]:=rfl;refine ⟨by rw [ks];simp,by rw [ks];simp,by rw [ks];simp [xs],fun k hk=>?_,fun u hu ux us=>?_,fun u hu ux h=>?_,fun h hh=>?_⟩
 ·rw [ks] at hk
  simp at hk;rcases hk with rfl | rfl <;> assumption
 ·rw [ks] at hu
  simp at hu;rcases hu with rfl | rfl;·exact absurd rfl ux
  ·exact absurd rfl us
 ·rw [ks] at hu
  simp at hu;rcases hu with rfl | rfl;·exact absurd rfl ux
  ·exact .inr (.inr (by simp))
 ·rw [cB.mp hh]
  refine ⟨[],.last ?_,⟨(fun b e=>by cases e),(fun d hd=>by simp at hd),trivial⟩,by simp,fun d hd=>.inl (cB.mp hd),fun z=>xs (cB.mp z),fun d hd=>by rw [cB.mp hd];exact sn,rfl,fun d hd=>nomatch hd⟩
  rw [List.lookup_cons,show (s == x)=false from by simpa using Ne.symm xs]
  simp [List.lookup]
theorem gW.opened(b:gW n E wl x s (h::pend) none):gW n E wl x s pend (some h):=
 ⟨b.xk,b.sk,b.nd,b.lt,b.near,fun u hu ux q=>by
  rcases b.walk u hu ux q with e | e | e;·cases e
  ·exact .inr (.inl e)
  ·rcases bb.mp e with rfl | e
   ·exact .inl rfl
   ·exact .inr (.inr e),fun g hg=>let ⟨ws,w⟩:=b.way g (ck _ hg);⟨ws,w.aaA _⟩⟩
theorem gW.Js(b:gW n E wl x s pend (some h))(sc:oT E wl h):gW n E wl x s pend none:=
 ⟨b.xk,b.sk,b.nd,b.lt,b.near,fun u hu ux q=>by
  rcases b.walk u hu ux q with e | e | e
  ·cases e
   exact .inr (.inl sc)
  ·exact .inr (.inl e)
  ·exact .inr (.inr e),fun g hg=>let ⟨ws,w⟩:=b.way g hg;⟨ws,w.Js sc _⟩⟩
theorem BB{q:Nat×Option Nat}{u:Nat}:u∈cz (wl++[q])↔u∈cz wl∨u=q.1:=by unfold cz;rw [eW,cM];simp
theorem gW.met(b:gW n E wl x s pend (some h))(ho:o∉cz wl)(on:o<n)(eo:E x o→E s o)(wo:¬E x o→∃ws,ie n E (wl++[(o,some h)]) x s (some h) o ws){xw:List Nat}(hp:∀u,u∈xw↔u∈pend∨(u=o∧¬E x o)):gW n E (wl++[(o,some h)]) x s xw (some h):=by
 refine ⟨BB.mpr (.inl b.xk),BB.mpr (.inl b.sk),?_,fun k hk=>?_,fun u hu ux us e=>?_,fun u hu ux q=>?_,fun g hg=>?_⟩
 ·unfold cz
  rw [eW,fD];refine ⟨b.nd,by simp,fun a ha b' eE e=>?_⟩
  have:b'=o:=by simpa using eE
  subst this;subst e;exact ho ha
 ·rcases BB.mp hk with h | rfl
  ·exact b.lt k h
  ·exact on
 ·rcases BB.mp hu with h | rfl
  ·exact b.near u h ux us e
  ·exact eo e
 ·rcases BB.mp hu with h | rfl
  ·rcases b.walk u h ux q with e | e | e
   ·exact .inl e
   ·exact .inr (.inl e.more)
   ·exact .inr (.inr ((hp u).mpr (.inl e)))
  ·rcases q with q | q
   ·exact absurd b.sk (by rw [←q];exact ho)
   ·exact .inr (.inr ((hp _).mpr (.inr ⟨rfl,q⟩)))
 ·rcases (hp g).mp hg with h | ⟨rfl,h⟩
  ·obtain ⟨ws,w⟩:=b.way g h
   exact ⟨ws,w.more _⟩
  ·exact wo h
theorem ie.next(sy:∀a b,E a b→E b a)(w:ie n E wl x s none h ws)(ho:o∉cz wl)(on:o<n)(xk:x∈cz wl)(e:E h o)(nx:¬E x o):ie n E (wl++[(o,some h)]) x s (some h) o (h::ws):=by
 obtain ⟨f1,f2⟩:=w.fresh sy ho;refine ⟨.step (Pm ho) w.bk.more,⟨fun b eb=>?_,fun d hd=>?_,w.ind⟩,gY.mpr ⟨f2,w.nd⟩,fun d hd=>?_,fun hx=>?_,fun d hd=>?_,?_,fun d hd=>?_⟩
 ·have:h=b:=Option.some.inj eb
  rw [←this];exact sy _ _ e
 ·exact f1 d (by simpa using hd)
 ·rcases bb.mp hd with rfl | hd
  ·exact .inr nx
  ·exact w.away d hd
 ·rcases bb.mp hx with rfl | hx
  ·exact ho xk
  ·exact w.nx hx
 ·rcases bb.mp hd with rfl | hd
  ·exact on
  ·exact w.lt d hd
 ·rw [List.getLast?_cons_cons]
  exact w.lst
 ·rcases bb.mp hd with rfl | hd
  ·exact .inl rfl
  ·rcases w.sh d hd with e | e
   ·cases e
   ·exact .inr e.more
theorem gW.no(ir:∀a,¬E a a)(b:gW n E wl x s [] none)(V:List Nat)(z:Nat):¬oR E V x s z:=fun h=>by
 have sx:s≠x:=fun e=>ir x (by have:=h.xy;rw [e] at this;exact this)
 have sh:∀u∈cz wl,u≠x→(u=s∨¬E x u)→oT E wl u:=fun u hu ux q=>by
  rcases b.walk u hu ux q with e | e | e;·cases e
  ·exact e
  ·cases e
 have all:∀u,Wk E (rK E V x) s u→u∈cz wl:=fun u w=>by
  induction w with
  | one e=>exact sh s b.sk sx (.inl rfl) _ e
  | more _ t e ih=>exact sh _ ih t.2.1 (.inr t.2.2) _ e
 exact h.no (b.near z (all z h.wk) (fun e=>ir x (by have:=h.xz;rw [e] at this;exact this)) (Ne.symm h.ne) h.xz)
end
theorem aaB{L:ak}(pw:L.Pairwise lexLt)(lt:∀z∈L,0≤z.1∧z.1<z.2∧z.2<(n:Int))(w:ie n (aL n L) wl x s none h ws)(ho:o∉cz wl)(xk:x∈cz wl)(xs:aL n L x s)(xo:aL n L x o)(so:¬aL n L s o)(e:aL n L h o) :
  ud L ((x::o::h::ws).map iN)∧(x::o::h::ws).Nodup∧∀d∈x::o::h::ws,d<n:=by
 obtain ⟨f1,f2⟩:=w.fresh gT ho;have hs:h≠s:=fun z=>so (by rw [←z];exact e)
 have x9:ws≠[]:=fun z=>by have:=w.lst;rw [z] at this;exact hs (Option.some.inj this)
 have nd:(x::o::h::ws).Nodup:=gY.mpr ⟨fun hx=>by
  rcases bb.mp hx with rfl | hx;·exact ho xk
  ·exact w.nx hx,gY.mpr ⟨f2,w.nd⟩⟩
 have rn:∀d∈x::o::h::ws,d<n:=fun d hd=>by
  rcases bb.mp hd with rfl | hd;·exact xs.1
  ·rcases bb.mp hd with rfl | hd
   ·exact xo.2.1
   ·exact w.lt d hd
 have ind:BA (aL n L) (o::h::ws):=⟨fun b eb=>by have:h=b:=Option.some.inj eb;rw [←this];exact gT _ _ e,fun d hd=>f1 d (by simpa using hd),w.ind⟩
 have lw:1≤ws.length:=Nat.pos_of_ne_zero fun z=>x9 (List.eq_nil_of_length_eq_zero z);refine ⟨aax pw lt (by simp;lia) nd rn fun i j hi hj ij=>?_,nd,rn⟩
 have ls:(h::ws)[ws.length]?=some s:=by have:=w.lst;rw [List.getLast?_eq_getElem?] at this;simpa using this
 cases i with
 | zero=>
  obtain ⟨j,rfl⟩:∃k,j=k+1:=⟨j-1,by lia⟩
  simp only [Gw,z_];have eZ:j<(o::h::ws).length:=by simpa using hj
  have hl:(x::o::h::ws).length-1=ws.length+2:=by simp
  rw [hl];cases j with
  | zero=>simp only [Gw];simp [xo]
  | succ j=>
   simp only [z_];have BC:j<(h::ws).length:=by simpa using eZ
   have lj:j≤ws.length:=by simp at BC;lia
   constructor
   ·intro q
    refine .inr ⟨trivial,?_⟩;rcases w.away _ (aV BC) with z | z
    ·have e1:(h::ws)[j]?=some s:=by rw [aZ BC,z]
     have:j=ws.length:=(List.getElem?_inj BC w.nd).mp (e1.trans ls.symm);lia
    ·exact absurd q z
   ·rintro (q | ⟨_,q⟩)
    ·lia
    ·have:j=ws.length:=by lia
     subst this;rw [aZ BC] at ls;rw [Option.some.inj ls];exact xs
 | succ i=>
  obtain ⟨j,rfl⟩:∃k,j=k+1:=⟨j-1,by lia⟩
  simp only [z_];rw [ind.at i j (by simpa using hi) (by simpa using hj) (by lia)]
  lia
structure Jt (n:Nat) (L:ak) (D:Addr) (ds:Nat→Addr) (f:Nat→List Nat):Prop where
 inj:∀i j,i<n→j<n→ds i=ds j→i=j
 ne:∀i,i<n→ds i≠D
 pl:∀i,i<n→jT n (f i)
 nb:i6 n L f
def jA(n:Nat)(ds:Nat→Addr)(H H':Hp):Prop:=∀b o,H b=some o→((∀i,i<n→b≠ds i)∨∃ob u,o=.bE ob u)→H' b=some o
theorem Pn{tl:TE}{σ:St}{H:Hp}{R:It→Hp→Prop}{a:Addr}{kvs:List (Key×V)}(hp:∀Q:VK,Q (.ref a) H→tl σ H Q)(h:H a=some (.dK kvs)∨∃ob,H a=some (.bE ob (.dK kvs)))
  (k:∀(ob:Obj) (Hf:Hp),Hf a=some (.bE ob (.dK kvs))→(∀b u,b≠a→H b=some u→Hf b=some u)→(∀BD u,H a=some (.bE BD u)→Hf a=some (.bE BD u))→R (jR a ob kvs) Hf):Ip tl σ H R:=hp _ ⟨a,kvs,rfl,by
 rcases h with e | ⟨ob,e⟩;·exact .inl ⟨e,fun o=>k o _ ar (fun b u ne hb=>by rw [aE ne];exact hb) fun BD u e'=>by rw [e] at e';cases e'⟩
 ·exact .inr ⟨ob,e,k ob H e (fun _ _ _ h=>h) fun _ _ h=>h⟩⟩
def aaC:Sp:=fun vs H Q _=>∃(D wd:Addr) (n:Nat) (L:ak) (ds:Nat→Addr) (f:Nat→List Nat) (wl:List (Nat×Option Nat)) (p:Nat),vs=[.ref D,.ref wd,.int (p:Int)]∧Jt n L D ds f∧e9 H D n ds f∧H wd=some (.dK (ee wl))∧(∀i,i<n→wd≠ds i)∧p<n∧n≤900 ∧
 ∀(H':Hp) (r:Addr),jA n ds H H'→e9 H' D n ds f→H r=none→H' r=some (.lst (((f p).filter fun q=>!decide (q∈cz wl)).map fun k:Nat=>V.int (k:Int)))→Q (.ref r) H'
def aaD:Sp:=fun vs H Q _=>∃(wd:Addr) (wl:List (Nat×Option Nat)) (v:Nat) (ws:List Nat),vs=[.ref wd,.int (v:Int)]∧H wd=some (.dK (ee wl))∧Back wl v ws∧ws.length≤900 ∧
 ∀(H':Hp) (r:Addr),af H H'→H r=none→H' r=some (.lst (ws.map fun k:Nat=>V.int (k:Int)))→Q (.ref r) H'
def aaE:Sp:=fun vs H Q _=>∃(D:Addr) (n:Nat) (L:ak) (ds:Nat→Addr) (f:Nat→List Nat) (x s:Nat),vs=[.ref D,.int (x:Int),.int (s:Int)]∧Jt n L D ds f∧e9 H D n ds f∧L.Pairwise lexLt∧(∀z∈L,0≤z.1∧z.1<z.2∧z.2<(n:Int))∧aL n L x s∧n≤900 ∧
 (∀H',jA n ds H H'→e9 H' D n ds f→(∀V z,¬oR (aL n L) V x s z)→Q .aI H') ∧
 ∀(H':Hp) (r:Addr) (zs:List Nat),jA n ds H H'→H r=none→H' r=some (.lst (zs.map fun k:Nat=>V.int (k:Int)))→ud L (zs.map iN)→zs.Nodup→(∀d∈zs,d<n)→Q (.ref r) H'
def aaF:Sp:=fun vs H Q _=>∃(tp:Addr) (n:Nat) (L:ak),vs=[.ref tp]∧cL H tp n L∧L.Pairwise lexLt∧(∀z∈L,0≤z.1∧z.1<z.2∧z.2<(n:Int))∧n≤900 ∧
 (∀H',af H H'→(∀x y z,¬oR (aL n L) (List.range n) x y z)→Q .aI H') ∧
 ∀(H':Hp) (r:Addr) (zs:List Nat),af H H'→H r=none→H' r=some (.lst (zs.map fun k:Nat=>V.int (k:Int)))→ud L (zs.map iN)→zs.Nodup→(∀d∈zs,d<n)→Q (.ref r) H'
def aaG(Pt:Addr)(pl:Pos):Sp:=fun vs H Q _=>∃(tp:Addr) (n:Nat) (L:ak),vs=[.ref tp]∧cL H tp n L∧L.Pairwise lexLt∧(∀z∈L,0≤z.1∧z.1<z.2∧z.2<(n:Int))∧n≤30∧dO Pt pl jV H ∧
 (∀(H':Hp) (T D:Addr) (o:List Nat),eV Pt H H'→dO Pt pl jV H'→H T=none→H D=none→H' T=some (.tup [.str "order",.ref D])→H' D=some (.lst (o.map fun k:Nat=>V.int (k:Int)))→o.Perm (List.range n)→bO n L o L→Q (.ref T) H') ∧
 ∀(H':Hp) (T D:Addr) (zs:List Nat),eV Pt H H'→dO Pt pl jV H'→H T=none→H D=none→H' T=some (.tup [.str "ring",.ref D])→H' D=some (.lst (zs.map fun k:Nat=>V.int (k:Int)))→ud L (zs.map iN)→zs.Nodup→(∀d∈zs,d<n)→(∀o:List Nat,o.Perm (List.range n)→¬bO n L o L)→Q (.ref T) H'
end My
namespace L2
open PySem PySem.Spec PyProof.Rows
end L2
namespace My
open PySem L2 Classical
open PySem L2
theorem aaH{n:Nat}{l:List Nat}(nd:l.Nodup)(lt:∀x∈l,x<n)(len:l.length=n):l.Perm (List.range n):=by
 have h1:((List.range n).filter fun p=>decide (p∈l)).Perm l:=(kU (fU.filter _) nd).mpr fun x=>by rw [b8,aS,fT];exact ⟨fun h=>h.2,fun h=>⟨lt x h,h⟩⟩
 have h2:((List.range n).filter fun p=>decide (p∈l)).length=(List.range n).length:=by rw [h1.length_eq,len,cC]
 have h3:=List.length_filter_eq_length_iff.mp h2;refine (kU nd fU).mpr fun x=>⟨fun h=>aS.mpr (lt x h),fun h=>?_⟩;exact dC (h3 x h)
end My
namespace L2
open PySem PySem.Spec PyProof.Rows My
section
variable {X:Cx}
end
end L2
namespace My
open PySem L2
end My
namespace L2
open PySem PySem.Spec PyProof.Rows My
end L2
namespace My
open PySem L2
end My
namespace L2
open PySem PySem.W PyProof.Rows My
section
variable {prog:Program} {w:World} {A:Around} {E:aF} {s:Shared}
end
end L2
namespace My
open PySem L2 Classical
open PySem L2
end My
namespace L2
open PySem PySem.Spec PyProof.Rows
end L2
namespace My
open PySem L2
open PySem L2 Classical
variable {o:List Nat}
theorem Eo{n:Nat}{L M:ak}(ho:o.Perm (List.range n))(f:bO n L o M)(lt:∀z∈L,0≤z.1∧z.1<z.2∧z.2<(n:Int)):∀z∈L,z∈M:=fun z hz=>by
 have h:=lt z hz;obtain ⟨i,j⟩:=z;obtain ⟨a,rfl⟩:=mH h.1;obtain ⟨b,rfl⟩:=mH (show 0≤j by have:=h.2;simp only at this;lia)
 simp only at h;have ha:a<n:=by lia
 have hb:b<n:=by lia
 have ne:=ni ho ha hb (by lia)
 have:rL M a b=true:=by
  by_cases ab:o.idxOf a<o.idxOf b;·exact (nk f ha hb ab).mpr (.one ⟨ha,hb,.inl hz⟩)
  ·rw [Bc]
   exact (nk f hb ha (by lia)).mpr (.one ⟨hb,ha,.inr hz⟩)
 rcases h_.mp this with h' | h';·exact h'
 ·have:=f.lt _ h'
  simp only at this;lia
theorem len_sub{α:Type}[DecidableEq α]:∀{l m:List α},l.Nodup→(∀z∈l,z∈m)→l.length≤m.length
 | [],_,_,_=>bG _
 | x::l,m,nd,h=>by
  have hx:=h x cj;have uf:=gY.mp nd;have:=len_sub (l:=l) (m:=m.erase x) uf.2 fun z hz=>(List.mem_erase_of_ne (fun e=>uf.1 (by rw [←e];exact hz))).mpr (h z (ck _ hz))
  rw [Cy hx] at this;have:=List.length_pos_of_mem hx;rw [dm];lia
variable {a b:Nat}
theorem x_(h:a<b):dI a b=((a:Int),(b:Int)):=by unfold dI;rw [aa (by lia),ae (by lia)]
theorem Ju(h:b<a):dI a b=((b:Int),(a:Int)):=by unfold dI;rw [ae (by lia),aa (by lia)]
theorem Po{o':List Nat}(e':o.map iN=o'.map iN):o'=o:=by
 have:=fv (List.map Int.toNat) e'
 rw [cx,cx] at this
 have BE:∀l:List Nat,l.map (Int.toNat ∘ iN)=l:=fun l=>by
  conv=>rhs;rw [←qL l]
  exact g8 fun k _=>en k
 rw [BE,BE] at this
 exact this.symm
end My
namespace L2
open PySem PySem.Spec PyProof.Rows
section
variable {prog:Program} {w:World} {A:Around} {E:aF} {s:Shared}
end
section
variable {X:Cx} {tg:Expr}
end
section
variable {prog:Program} {w:World} {K:Type} [DecidableEq K] {knd:HeapKind prog w K} {A:Around} {E:aF} {s:Shared}
end
section
variable {prog:Program} {w:World} {A:Around} {E:aF} {s:Shared}
end
section
variable {X:Cx} {pins:aO} {σ:St} {H:Hp} {s:Shared}
end
section
variable {X:Cx} {tg:Expr}
end
open PySem PySem.W PyProof.Rows My
end L2
namespace My
open PySem L2
end My
namespace L2
open PySem
end L2
namespace My
end My
namespace L2
open PySem My
open PySem
open PySem PySem.Spec PyProof.Rows
section
variable {prog:Program} {w:World} {A:Around} {E:aF} {s:Shared}
end
section
variable {X:Cx}
end
section
variable {X:Cx} {tg:Expr}
end
end L2
namespace My
open PySem L2
variable {b:Nat}
theorem Wk.map{bw Ba:Nat→Nat→Prop}{bX rB:Nat→Prop}{f:Nat→Nat}(ha:∀x y,bw x y→Ba (f x) (f y))(ht:∀x,bX x→rB (f x)){s:Nat}(h:Wk bw bX s b):Wk Ba rB (f s) (f b):=by
 induction h with
 | one h=>exact .one (ha _ _ h)
 | more _ t a ih=>exact .more ih (ht _ t) (ha _ _ a)
theorem idx_map{f:Nat→Nat}{x:Nat}:∀{o:List Nat},(∀y∈o,f y=f x→y=x)→(o.map f).idxOf (f x)=o.idxOf x
 | [],_=>rfl
 | y::o,h=>by
  rw [cO,we,we];by_cases e:y=x
  ·subst e
   rw [zQ,zQ];rfl
  ·have e':¬f y=f x:=fun z=>e (h y cj z)
   rw [idx_map fun z hz=>h z (ck _ hz)];rw [vO.mpr e,vO.mpr e']
variable {n:Nat} {M:ak}
theorem Jv(lt:∀z∈M,0≤z.1∧z.1<z.2∧z.2<(n:Int)){a:Nat}:aL n M a b→dI a b∈M:=fun⟨_,_,h⟩=>by
 rcases h with h | h
 ·have:=lt _ h
  rw [x_ (by simp only at this;lia)]
  exact h
 ·have:=lt _ h
  rw [Ju (by simp only at this;lia)]
  exact h
theorem Pp(lt:∀z∈M,0≤z.1∧z.1<z.2∧z.2<(n:Int)){z:Int×Int}(hz:z∈M):∃a b:Nat,a<b∧b<n∧z=dI a b∧aL n M a b:=by
 have h:=lt z hz;obtain ⟨i,j⟩:=z;simp only at h;obtain ⟨a,rfl⟩:=mH h.1;obtain ⟨b,rfl⟩:=mH (show 0≤j by lia)
 exact ⟨a,b,by lia,by lia,by rw [x_ (by lia)],by lia,by lia,.inl hz⟩
theorem Jw{g:Nat→Nat→Nat}{f:Nat→Nat}:∀{l:List Nat},p2 g (l.map f)=p2 (fun x y=>g (f x) (f y)) l
 | []=>rfl
 | x::l=>by show ((l.map f).map (g (f x))).sum+p2 g (l.map f)=(l.map fun y=>g (f x) (f y)).sum+p2 (fun x y=>g (f x) (f y)) l;rw [Jw,cx];rfl
theorem Pq{g:Nat→Nat→Nat→Nat}{f:Nat→Nat}:∀{l:List Nat},p3 g (l.map f)=p3 (fun x y z=>g (f x) (f y) (f z)) l
 | []=>rfl
 | x::l=>by show p2 (g (f x)) (l.map f)+p3 g (l.map f)=p2 (fun y z=>g (f x) (f y) (f z)) l+p3 (fun x y z=>g (f x) (f y) (f z)) l;rw [Pq,Jw]
theorem Pu{ws:List Int}{l:List Nat}(pm:ws.Perm (l.map iN))(so:ws.Pairwise (·≤·))(up:l.Pairwise (· < ·)):ws=l.map iN:=by
 refine List.Perm.eq_of_pairwise (le:=(·≤·)) (fun a b _ _ h1 h2=>by lia) so ?_ pm
 rw [jG];exact up.imp fun h=>by unfold iN;lia
theorem BF{S:List Nat}(h:S∈aY n):S.length≤n:=En ((cg.mp h).1.imp fun z e=>by lia) (cg.mp h).2
theorem Pw:∀l:List Nat,p2 (fun _ _=>1) l≤l.length*l.length / 2
 | []=>bG _
 | x::l=>by
  have ih:=Pw l;show (l.map fun _=>1).sum+p2 (fun _ _=>1) l≤(l.length+1)*(l.length+1) / 2;have e:(l.map fun _=>1).sum=l.length:=by
   clear ih
   induction l with
   | nil=>rfl
   | cons y l ih=>rw [cO,d7,ih,dm];lia
  rw [e];have:(l.length+1)*(l.length+1)=l.length*l.length+2*l.length+1:=by rw [Nat.add_mul,Nat.mul_add];lia
  rw [this];generalize l.length*l.length=q at ih ⊢;lia
theorem Px(nd:M.Nodup)(lt:∀z∈M,0≤z.1∧z.1<z.2∧z.2<(n:Int)):M.length≤n*n / 2:=by
 rw [Be nd lt];refine bU (xN (g':=fun _ _=>1) fun x _ y _=>?_) ?_
 ·unfold dJ
  split <;> decide
 ·have:=Pw (List.range n)
  rw [cC] at this;exact this
end My
namespace L2
open PySem
end L2
namespace My
open PySem L2
variable {n:Nat} {M M1:ak}
theorem aaI{L L1:ak}{o:List Nat}(sub:∀z∈L1,z∈L)(f:bO n L o M)(f1:bO n L1 o M1):∀z∈M1,z∈M:=fun z hz=>by obtain ⟨p,q,hp,hq,i,w,e⟩:=(f1.2 z).mp hz;exact (f.2 z).mpr ⟨p,q,hp,hq,i,w.imp fun a b h=>⟨h.1,h.2.1,h.2.2.imp (sub _) (sub _)⟩,e⟩
theorem aaJ(sub:∀z∈M1,z∈M)(nd:M.Nodup)(nd1:M1.Nodup)(lt:∀z∈M,0≤z.1∧z.1<z.2∧z.2<(n:Int)):fg n M1≤fg n M:=by
 have sr:∀a b:Nat,rL M1 a b=true→rL M a b=true:=fun a b h=>h_.mpr ((h_.mp h).imp (sub _) (sub _));have h1:p2 (dJ (rL M1)) (List.range n)≤p2 (dJ (rL M)) (List.range n):=xN fun x _ y _=>by
  unfold dJ;by_cases h:rL M1 x y
  ·rw [ae h,ae (sr x y h)]
   exact au _
  ·rw [aa h]
   exact bG _
 have h2:Bd n M1≤Bd n M:=DZ fun x _ y _ z _=>by
  unfold dw;by_cases h:(rL M1 x y && rL M1 x z && rL M1 y z)=true
  ·rw [ae h]
   rw [iS,iS] at h;rw [sr x y h.1.1,sr x z h.1.2,sr y z h.2];exact au _
  ·rw [aa h]
   exact bG _
 unfold fg;rw [Be nd1 fun z hz=>lt z (sub z hz),Be nd lt];lia
structure ig (L:ak) (S:List Nat) (L2:ak):Prop where
 pw:L2.Pairwise lexLt
 mem:∀z,z∈L2↔∃(a b:Nat) (ha:a<S.length) (hb:b<S.length),a<b∧z=((a:Int),(b:Int))∧((S[a]:Int),(S[b]:Int))∈L
theorem ig.lt{L:ak}{S:List Nat}{L2:ak}(s:ig L S L2):∀z∈L2,0≤z.1∧z.1<z.2∧z.2<(S.length:Int):=fun z hz=>by obtain ⟨a,b,ha,hb,ab,rfl,_⟩:=(s.mem z).mp hz;simp only;lia
variable {S:List Nat} {a b:Nat}
theorem BG(h:S∈aY n)(ha:a<S.length)(hb:b<S.length):S[a]<S[b]↔a<b:=by
 have up:=(cg.mp h).1;constructor
 ·intro z
  refine gp fun c=>?_;rcases Nat.lt_trichotomy a b with y | y | y;·exact c y
  ·subst y
   lia
  ·have:=pF.mp up b a hb ha y
   lia
 ·exact pF.mp up a b ha hb
theorem ig.bw{L:ak}{L2:ak}(s:ig L S L2)(hS:S∈aY n)(lt:∀z∈L,0≤z.1∧z.1<z.2∧z.2<(n:Int))(ha:a<S.length)(hb:b<S.length):aL S.length L2 a b↔aL n L S[a] S[b]:=by
 have gU:=(cg.mp hS).2;have key:∀(x y:Nat) (hx:x<S.length) (hy:y<S.length),((x:Int),(y:Int))∈L2↔((S[x]:Int),(S[y]:Int))∈L:=fun x y hx hy=>by
  rw [s.mem];constructor
  ·rintro ⟨p,q,hp,hq,pq,e,h⟩
   injection e with e1 e2;have:x=p:=by lia
   have:y=q:=by lia
   subst x y;exact h
  ·intro h
   have:=lt _ h;simp only at this;exact ⟨x,y,hx,hy,(BG hS hx hy).mp (by lia),rfl,h⟩
 unfold aL;rw [key a b ha hb,key b a hb ha];exact ⟨fun h=>⟨gU _ (aV ha),gU _ (aV hb),h.2.2⟩,fun h=>⟨ha,hb,h.2.2⟩⟩
def jB(S o:List Nat):List Nat:=(o.filter fun p=>decide (p∈S)).map fun p=>S.idxOf p
theorem nF(nd:S.Nodup)(ha:a<S.length):S.idxOf S[a]=a:=by have h1:S.idxOf S[a]<S.length:=pI.mpr (aV ha);exact (gm nd).mp (qJ h1)
theorem ya{x y:Nat}{l:List Nat}(h:x≠y):(x::l).idxOf y=l.idxOf y+1:=by rw [we,vO.mpr h];rfl
theorem Py{pr:Nat→Bool}:∀{o:List Nat} {x y:Nat},x∈o→y∈o→pr x=true→pr y=true→((o.filter pr).idxOf x<(o.filter pr).idxOf y↔o.idxOf x<o.idxOf y)
 | [],_,_,h,_,_,_=>absurd h (j4)
 | z::o,x,y,hx,hy,px,py=>by
  by_cases e:z=x
  ·subst e
   rw [qN px];by_cases e2:z=y
   ·subst e2
    exact ⟨fun h=>absurd h (d6 _),fun h=>absurd h (d6 _)⟩
   ·rw [nY,ya e2,nY,ya e2]
    exact ⟨fun _=>Nat.succ_pos _,fun _=>Nat.succ_pos _⟩
  ·by_cases e2:z=y
   ·subst e2
    rw [qN py,nY,nY];exact ⟨fun h=>absurd h (mq _),fun h=>absurd h (mq _)⟩
   ·have hx':x∈o:=(bb.mp hx).resolve_left (Ne.symm e)
    have Aw:y∈o:=(bb.mp hy).resolve_left (Ne.symm e2);have ih:=Py (pr:=pr) hx' Aw px py;rw [ya e,ya e2];by_cases pz:pr z=true
    ·rw [qN pz,ya e,ya e2]
     lia
    ·rw [wq pz]
     lia
section
variable {n:Nat} {S o:List Nat} (hS:S∈aY n) (ho:o.Perm (List.range n))
include hS ho
theorem Pz(ha:a<S.length)(hb:b<S.length):(jB S o).idxOf a<(jB S o).idxOf b↔o.idxOf S[a]<o.idxOf S[b]:=by
 have nd:S.Nodup:=(cg.mp hS).1.imp fun z e=>by lia
 have hl:=(cg.mp hS).2;have e:∀(c:Nat) (hc:c<S.length),(jB S o).idxOf c=(o.filter fun p=>decide (p∈S)).idxOf S[c]:=fun c hc=>by
  unfold jB;have:=idx_map (f:=fun p=>S.idxOf p) (x:=S[c]) (o:=o.filter fun p=>decide (p∈S)) fun y hy e=>by have Aw:y∈S:=dC (b8.mp hy).2;have h1:S.idxOf y<S.length:=pI.mpr Aw;rw [nF nd hc] at e;have:=qJ h1;simp only [e] at this;exact this.symm
  rw [nF nd hc] at this;exact this
 rw [e a ha,e b hb];exact Py (ho.mem_iff.mpr (aS.mpr (hl _ (aV ha)))) (ho.mem_iff.mpr (aS.mpr (hl _ (aV hb)))) (bu (aV ha)) (bu (aV hb))
theorem BH:(jB S o).Perm (List.range S.length):=by
 have nd:S.Nodup:=(cg.mp hS).1.imp fun z e=>by lia
 have hl:=(cg.mp hS).2;have ndo:o.Nodup:=ho.nodup_iff.mpr fU;have ndf:(o.filter fun p=>decide (p∈S)).Nodup:=ndo.filter _;refine (kU ?_ fU).mpr fun x=>?_
 ·unfold jB
  rw [kT,jG];refine (kT.mp ndf).imp_of_mem fun{a b} ha hb ne e=>ne ?_;have h1:S.idxOf a<S.length:=pI.mpr (dC (b8.mp ha).2);have h2:S.idxOf b<S.length:=pI.mpr (dC (b8.mp hb).2);have g1:=qJ h1;have g2:=qJ h2;simp only [e] at g1;exact g1.symm.trans g2
 ·unfold jB
  rw [bK,aS];constructor
  ·rintro ⟨y,hy,rfl⟩
   exact pI.mpr (dC (b8.mp hy).2)
  ·intro hx
   exact ⟨S[x],b8.mpr ⟨ho.mem_iff.mpr (aS.mpr (hl _ (aV hx))),bu (aV hx)⟩,nF nd hx⟩
variable {L2:ak}
theorem Jx{L M2 M3:ak}(s:ig L S L2)(s3:ig M S M3)(lt:∀z∈L,0≤z.1∧z.1<z.2∧z.2<(n:Int))(f:bO n L o M)(f2:bO S.length L2 (jB S o) M2):∀z∈M2,z∈M3:=fun z hz=>by
 have hl:=(cg.mp hS).2;obtain ⟨p,q,hp,hq,i,w,rfl⟩:=(f2.2 z).mp hz
 let g:Nat→Nat:=fun x=>S.getD x 0
 have gx:∀x (hx:x<S.length),g x=S[x]:=fun x hx=>by show S.getD x 0=_;rw [cQ,aZ hx];rfl
 have w':Wk (aL n L) (d_ n o (o.idxOf (g p))) (g p) (g q):=Wk.map (f:=g) (fun x y h=>by
  rw [gx x h.1,gx y h.2.1];exact (s.bw hS lt h.1 h.2.1).mp h) (fun x ⟨x1,x2⟩=>by
  rw [gx x x1,gx p hp];exact ⟨hl _ (aV x1),(Pz hS ho x1 hp).mp x2⟩) w
 rw [gx p hp,gx q hq] at w';have hM:dI S[p] S[q]∈M:=(f.2 _).mpr ⟨S[p],S[q],hl _ (aV hp),hl _ (aV hq),(Pz hS ho hp hq).mp i,w',rfl⟩;have ne:p≠q:=fun e=>by subst e;lia
 rw [s3.mem];rcases su p q with h | h
 ·rw [x_ ((BG hS hp hq).mpr h)] at hM
  exact ⟨p,q,hp,hq,h,by rw [x_ h],hM⟩
 ·have h:q<p:=by lia
  rw [Ju ((BG hS hq hp).mpr h)] at hM;exact ⟨q,p,hq,hp,h,by rw [Ju h],hM⟩
theorem Ep{L:ak}(s:ig L S L2)(lt:∀z∈L,0≤z.1∧z.1<z.2∧z.2<(n:Int))(f:bO n L o L):bO S.length L2 (jB S o) L2:=by obtain ⟨M2,f2⟩:=rJ S.length L2 (jB S o);have h1:=Jx hS ho s s lt f f2;have h2:=Eo (BH hS ho) f2 s.lt;have e:M2=L2:=DL f2.1 s.pw fun z=>⟨h1 z,h2 z⟩;rw [e] at f2;exact f2
end
end My
namespace L2
open PySem My
theorem aaO{wi:TI}{ρ:St→St}{tt:TT}{te:TE}{σ:St}{H:Hp}{Q:VK}{xs:List V}(c:V→Bool)(val:V→V)(eF:∀R:It→Hp→Prop,(∀J H1,af H H1→lE J xs H1→R J H1)→wi σ H R)(hn:xs.length<sizeLine)
  (test:∀x∈xs,∀(Hc:Hp) (R:Bool→Hp→Prop),af H Hc→(∀Hd,af Hc Hd→R (c x) Hd)→tt (some x::ρ σ) Hc R)
  (elem:∀x∈xs,c x=true→∀(Hc:Hp) (R:VK),af H Hc→(∀Hd,af Hc Hd→R (val x) Hd)→te (some x::ρ σ) Hc R)
  (fin:∀D Hc,H D=none→af H Hc→Hc D=some (.lst ((xs.filter c).map val))→Q (.ref D) Hc):jj wi ρ tt te σ H Q:=by
 refine eF _ fun J H1 s1 js=>?_;intro D nD;refine ⟨fun i m ys Hc=>m=xs.length-i∧i≤xs.length∧Hc D=some (.lst ys)∧af H1 Hc∧ys.length≤i∧ys=((xs.take i).filter c).map val,⟨_,rfl,bG _,ar,fc (af.refl H1) nD,au _,rfl⟩,?_⟩;rintro i m ys Hc ⟨rfl,hi,eD,sH,ly,hP⟩;refine ⟨eD,?_⟩;by_cases aR:i<xs.length
 ·refine .inr ⟨js.go i Hc sH aR,fun x H' hy=>?_⟩
  obtain ⟨rfl,hx⟩:=js.dZ i Hc x H' sH hy;have ex:=hx aR;have mx:x∈xs:=kJ ex;have tk:xs.take (i+1)=xs.take i++[x]:=by rw [nX,ex];rfl
  refine test x mx _ _ (s1.trans sH) fun Hd sd=>?_;have Er:=sd _ _ eD;have Jy:=sH.trans sd;by_cases hb:c x=true
  ·rw [ae hb]
   refine elem x mx hb _ _ (s1.trans Jy) fun He se=>⟨se _ _ Er,by lia,xs.length-(i+1),by lia,rfl,aR,ar,fc (Jy.trans se) nD,by simp;lia,?_⟩
   rw [tk,pG,eW,←hP,nZ,ae hb];rfl
  ·rw [aa hb]
   refine ⟨xs.length-(i+1),by lia,rfl,aR,Er,Jy,by lia,?_⟩
   rw [tk,pG,nZ,aa hb,List.filter_nil,jF,←hP]
 ·have e:i=xs.length:=by lia
  subst e;rw [iU] at hP;subst hP;exact .inl ⟨js.stop _ Hc sH (au _),fin D Hc (none_of s1 nD) (s1.trans sH) eD⟩
end L2
namespace My
open PySem L2
def gX(S:List Nat)(z:Int×Int):Bool:=decide (z.1∈S.map iN) && decide (z.2∈S.map iN)
def iL(S:List Nat)(z:Int×Int):Int×Int:=((S.idxOf z.1.toNat:Int),(S.idxOf z.2.toNat:Int))
theorem qe{S:List Nat}{z:Int}:z∈S.map iN↔∃a,∃ha:a<S.length,z=((S[a]:Nat):Int):=by
 rw [bK];constructor
 ·rintro ⟨x,hx,rfl⟩
  obtain ⟨a,ha,e⟩:=wu.mp hx;exact ⟨a,ha,by rw [e];rfl⟩
 ·rintro ⟨a,ha,rfl⟩
  exact ⟨_,aV ha,rfl⟩
section
variable {n:Nat} {L:ak} {S:List Nat} (hS:S∈aY n) (lt:∀z∈L,0≤z.1∧z.1<z.2∧z.2<(n:Int))
include hS lt
theorem aaP(z:Int×Int):z∈(L.filter (gX S)).map (iL S)↔∃(a b:Nat) (ha:a<S.length) (hb:b<S.length),a<b∧z=((a:Int),(b:Int))∧((S[a]:Int),(S[b]:Int))∈L:=by
 have nd:S.Nodup:=(cg.mp hS).1.imp fun z e=>by lia
 have ix:∀(a b:Nat) (ha:a<S.length) (hb:b<S.length),iL S ((S[a]:Int),(S[b]:Int))=((a:Int),(b:Int)):=fun a b ha hb=>by unfold iL;simp only [en];rw [nF nd ha,nF nd hb]
 rw [bK];constructor
 ·rintro ⟨w,hw,rfl⟩
  obtain ⟨wL,wS⟩:=b8.mp hw;unfold gX at wS;rw [iS,CG,CG] at wS;obtain ⟨a,ha,e1⟩:=qe.mp wS.1;obtain ⟨b,hb,e2⟩:=qe.mp wS.2;have ew:w=((S[a]:Int),(S[b]:Int)):=Prod.ext e1 e2;subst ew;have:=lt _ wL;simp only at this;exact ⟨a,b,ha,hb,(BG hS ha hb).mp (by lia),ix a b ha hb,wL⟩
 ·rintro ⟨a,b,ha,hb,ab,rfl,h⟩
  refine ⟨_,b8.mpr ⟨h,?_⟩,ix a b ha hb⟩;unfold gX;rw [bu (qe.mpr ⟨a,ha,rfl⟩),bu (qe.mpr ⟨b,hb,rfl⟩)];rfl
theorem aaQ(nl:L.Nodup):((L.filter (gX S)).map (iL S)).Nodup:=by
 have nd:S.Nodup:=(cg.mp hS).1.imp fun z e=>by lia
 refine Ia (nl.filter _) fun p q hp hq e=>?_;have key:∀w,w∈L.filter (gX S)→∃(a b:Nat) (ha:a<S.length) (hb:b<S.length),w=((S[a]:Int),(S[b]:Int))∧iL S w=((a:Int),(b:Int)):=fun w hw=>by obtain ⟨wL,wS⟩:=b8.mp hw;unfold gX at wS;rw [iS,CG,CG] at wS;obtain ⟨a,ha,e1⟩:=qe.mp wS.1;obtain ⟨b,hb,e2⟩:=qe.mp wS.2;have ew:w=((S[a]:Int),(S[b]:Int)):=Prod.ext e1 e2;refine ⟨a,b,ha,hb,ew,?_⟩;rw [ew];unfold iL;simp only [en];rw [nF nd ha,nF nd hb]
 obtain ⟨a,b,ha,hb,e1,i1⟩:=key p hp;obtain ⟨c,d,hc,hd,e2,i2⟩:=key q hq;rw [i1,i2] at e;injection e with h1 h2;have:a=c:=by lia
 have:b=d:=by lia
 subst c d;rw [e1,e2]
end
end My
namespace L2
open PySem PySem.Spec PyProof.Rows
theorem aaR{X:Cx}{K:aD}{o e:Expr}{es:List Expr}{to:TE}{t:TA}{name:Str}{apos gc:Pos}{T id:String}{r:V→List V→Hp→VK→Prop}(pa:PlainAttrs T)(slot:Slot T name id)(Ar:typeOf (.builtin id)=pure (.type "method_descriptor"))(hm:G2 X id r)(ho:PE X o to)(ha:PA X (e::es) t)(hk:X.K=K:=by rfl)
  (As:attributeBase o name X.env (eval o X.env)=eval o X.env:=by rfl)
  (G5:((backTo gc (starEach (e::es) X.env)).all (fun x=>!x.1) && (backToKw gc (keywordEach [] X.env)).all (fun x=>x.1.isSome)
   && decide ((e::es).length+([]:List Keyword).length+(if ([]:List Keyword).isEmpty then 0 else 1)<30))=true:=by rfl)
  (Au:(apos.endLine == gc.line)=true:=by rfl) (hs:starEach (e::es) X.env=(false,eval e X.env)::starEach es X.env:=by rfl) (G6:(backTo gc (starEach es X.env)).any (·.1)=false:=by rfl) :
  PE X (.Call (.Attribute o name apos) (e::es) [] gc) (MW K T r to t):=by
 subst hk;exact jM pa slot Ar hm ho ha As G5 Au hs G6
end L2
namespace My
open PySem L2
theorem PB{N:ak}(nd:N.Nodup)(b:∀q∈N,0≤q.2∧q.2<1000)(o:N.Pairwise xJ):N.Pairwise lexLt:=by
 refine (o.and nd).imp_of_mem fun{p q} hp hq h=>?_;have h1:=h.1;have h2:=h.2;have b1:=b p hp;have b2:=b q hq;unfold xJ at h1;unfold lexLt;by_cases e:p.1=q.1
 ·by_cases e2:p.2=q.2
  ·exact absurd (Prod.ext e e2) h2
  ·lia
 ·lia
end My
namespace L2
open PySem My
open PySem
end L2
namespace My
open PySem L2
end My
namespace L2
open PySem My
open PySem
end L2
namespace My
open PySem L2
theorem PD(n:Nat)(f:Nat→Nat→Prop):∃M:List (Int×Int),M.Pairwise lexLt∧(∀z∈M,0≤z.1∧z.1<z.2∧z.2<(n:Int))∧∀i j:Nat,i<j→j<n→(((i:Int),(j:Int))∈M↔f i j):=by
 classical
 refine ⟨xx n (fun i j=>decide (f i j)) n,Ig n,fun z h=>?_,fun i j ij jn=>⟨fun h=>?_,fun h=>?_⟩⟩
 ·obtain ⟨i,j,_,ij,jn,_,rfl⟩:=mem_of h
  simp only;lia
 ·obtain ⟨i',j',_,_,_,hf,e⟩:=mem_of h
  injection e with e1 e2;have:i=i':=by lia
  have:j=j':=by lia
  subst i j;exact dC hf
 ·exact Ie ij jn (bu h) (by lia)
theorem Es{g:Nat→Nat→Nat}{P:Nat→Bool}:∀{l:List Nat},p2 g (l.filter P)=p2 (fun x y=>if P x && P y then g x y else 0) l
 | []=>rfl
 | x::l=>by
  have ih:=Es (g:=g) (P:=P) (l:=l);show _=(l.map fun y=>if P x && P y then g x y else 0).sum+p2 (fun x y=>if P x && P y then g x y else 0) l
  rw [←ih];by_cases h:P x=true
  ·rw [qN h]
   show ((l.filter P).map (g x)).sum+p2 g (l.filter P)=_
   congr 1
   clear ih
   induction l with
   | nil=>rfl
   | cons y l ih=>
    rw [cO,d7,←ih];by_cases hy:P y=true
    ·rw [qN hy,cO,d7,h,hy]
     rfl
    ·rw [wq hy,aa (by rw [h];simpa using hy),eJ]
  ·rw [wq h]
   have e:(l.map fun y=>if P x && P y then g x y else 0).sum=0:=by
    clear ih
    induction l with
    | nil=>rfl
    | cons y l ih=>rw [cO,d7,ih,aa (by intro z;rw [iS] at z;exact h z.1)]
   rw [e,eJ]
theorem Jz{g:Nat→Nat→Nat→Nat}{P:Nat→Bool}:∀{l:List Nat},p3 g (l.filter P)=p3 (fun x y z=>if P x && P y && P z then g x y z else 0) l
 | []=>rfl
 | x::l=>by
  have ih:=Jz (g:=g) (P:=P) (l:=l);show _=p2 (fun y z=>if P x && P y && P z then g x y z else 0) l+p3 (fun x y z=>if P x && P y && P z then g x y z else 0) l
  rw [←ih];by_cases h:P x=true
  ·rw [qN h]
   show p2 (g x) (l.filter P)+p3 g (l.filter P)=_;rw [Es]
   congr 2
   funext y z
   rw [h,Bool.true_and]
  ·rw [wq h]
   have e:(fun y z=>if P x && P y && P z then g x y z else 0)=fun _ _=>0:=by
    funext y z
    rw [aa (by intro w;rw [iS,iS] at w;exact h w.1.1)]
   rw [e];have e0:∀l:List Nat,p2 (fun _ _=>0) l=0:=fun l=>by
    induction l with
    | nil=>rfl
    | cons y l ih=>
     show (l.map fun _=>0).sum+p2 (fun _ _=>0) l=0;rw [ih,vY];clear ih
     induction l with
     | nil=>rfl
     | cons y l ih=>rw [cO,d7,ih]
   rw [e0,eJ]
theorem sum_add{f g:Nat→Nat}:∀l:List Nat,(l.map fun x=>f x+g x).sum=(l.map f).sum+(l.map g).sum
 | []=>rfl
 | x::l=>by rw [cO,d7,cO,d7,cO,d7,sum_add l];lia
theorem yb{g h:Nat→Nat→Nat}:∀{l:List Nat},p2 (fun x y=>g x y+h x y) l=p2 g l+p2 h l
 | []=>rfl
 | x::l=>by show (l.map fun y=>g x y+h x y).sum+p2 (fun x y=>g x y+h x y) l=((l.map (g x)).sum+p2 g l)+((l.map (h x)).sum+p2 h l);rw [sum_add,yb];lia
theorem BI{g h:Nat→Nat→Nat→Nat}:∀{l:List Nat},p3 (fun x y z=>g x y z+h x y z) l=p3 g l+p3 h l
 | []=>rfl
 | x::l=>by show p2 (fun y z=>g x y z+h x y z) l+p3 (fun x y z=>g x y z+h x y z) l=(p2 (g x) l+p3 g l)+(p2 (h x) l+p3 h l);rw [yb,BI];lia
def dX(r:Nat→Nat→Bool)(X:List Nat):Nat:=4*p2 (dJ r) X+2*p3 (dw r) X+X.length
structure uv (n:Nat) (A B C:List Nat):Prop where
 hA:A∈aY n
 hB:B∈aY n
 hC:C∈aY n
 BJ:∀x,x<n→x∈A∨x∈B
 mC:∀x,x∈C↔x∈A∧x∈B
variable {n:Nat} {A:List Nat}
theorem uy(hA:A∈aY n):A=(List.range n).filter fun x=>decide (x∈A):=by
 have h:=cg.mp hA;refine List.Perm.eq_of_pairwise (le:=(· < ·)) (fun a b _ _ h1 h2=>by lia) h.1 (wc.filter _) ?_
 refine (kU (h.1.imp fun z e=>by lia) (fU.filter _)).mpr fun x=>?_
 rw [b8,aS,fT];exact ⟨fun hx=>⟨h.2 x hx,hx⟩,fun hx=>hx.2⟩
section
variable {n:Nat} {A B C:List Nat} (G:uv n A B C)
include G
theorem uv.len:n+C.length=A.length+B.length:=by
 have h:∀l:List Nat,(∀x∈l,x<n)→l.length+(l.filter fun x=>decide (x∈C)).length=(l.filter fun x=>decide (x∈A)).length+(l.filter fun x=>decide (x∈B)).length:=fun l=>by
  induction l with
  | nil=>intro _;rfl
  | cons x l ih=>
   intro hl;have ih:=ih fun y hy=>hl y (ck _ hy);have cv:=G.BJ x (hl x cj);have mc:=G.mC x;simp only [nZ,dm];by_cases a:x∈A <;> by_cases b:x∈B
   ·have c:x∈C:=mc.mpr ⟨a,b⟩
    simp only [a,b,c,wj,kK,dm];lia
   ·have c:¬x∈C:=fun z=>b (mc.mp z).2
    simp only [a,b,c,wj,decide_false,kK,sE,ph,dm];lia
   ·have c:¬x∈C:=fun z=>a (mc.mp z).1
    simp only [a,b,c,wj,decide_false,kK,sE,ph,dm];lia
   ·exact absurd cv (by simp [a,b])
 have:=h (List.range n) fun x hx=>aS.mp hx;rw [←uy G.hA,←uy G.hB,←uy G.hC,cC] at this;exact this
theorem uv.low(r:Nat→Nat→Bool):dX r A+dX r B≤dX r (List.range n)+dX r C:=by
 have l:=G.len;have e2:∀{X:List Nat},X∈aY n→p2 (dJ r) X=p2 (fun x y=>if decide (x∈X) && decide (y∈X) then dJ r x y else 0) (List.range n):=fun{X} hX=>by rw [←Es,←uy hX]
 have e3:∀{X:List Nat},X∈aY n→p3 (dw r) X=p3 (fun x y z=>if decide (x∈X) && decide (y∈X) && decide (z∈X) then dw r x y z else 0) (List.range n):=fun{X} hX=>by rw [←Jz,←uy hX]
 have h2:p2 (dJ r) A+p2 (dJ r) B≤p2 (dJ r) (List.range n)+p2 (dJ r) C:=by rw [e2 G.hA,e2 G.hB,e2 G.hC,←yb,←yb];refine xN fun x _ y _=>?_;have mx:=G.mC x;have my:=G.mC y;by_cases a:x∈A <;> by_cases b:x∈B <;> by_cases c:y∈A <;> by_cases d:y∈B <;> simp [mx,my,a,b,c,d] <;> lia
 have h3:p3 (dw r) A+p3 (dw r) B≤p3 (dw r) (List.range n)+p3 (dw r) C:=by rw [e3 G.hA,e3 G.hB,e3 G.hC,←BI,←BI];refine DZ fun x _ y _ z _=>?_;have mx:=G.mC x;have my:=G.mC y;have mz:=G.mC z;by_cases a:x∈A <;> by_cases b:x∈B <;> by_cases c:y∈A <;> by_cases d:y∈B <;> by_cases e:z∈A <;> by_cases f:z∈B <;> simp [mx,my,mz,a,b,c,d,e,f] <;> lia
 unfold dX;rw [cC];lia
theorem uv.PF{r:Nat→Nat→Bool}(hr:∀x y,x<n→y<n→r x y=true→(x∈A∧y∈A)∨(x∈B∧y∈B)):dX r (List.range n)+dX r C=dX r A+dX r B:=by
 have l:=G.len;refine Nat.le_antisymm ?_ (G.low r);have e2:∀{X:List Nat},X∈aY n→p2 (dJ r) X=p2 (fun x y=>if decide (x∈X) && decide (y∈X) then dJ r x y else 0) (List.range n):=fun{X} hX=>by rw [←Es,←uy hX]
 have e3:∀{X:List Nat},X∈aY n→p3 (dw r) X=p3 (fun x y z=>if decide (x∈X) && decide (y∈X) && decide (z∈X) then dw r x y z else 0) (List.range n):=fun{X} hX=>by rw [←Jz,←uy hX]
 have z2:∀x y,x<n→y<n→dJ r x y=0∨(x∈A∧y∈A)∨(x∈B∧y∈B):=fun x y hx hy=>by
  by_cases h:r x y=true;·exact .inr (hr x y hx hy h)
  ·left
   unfold dJ;rw [aa h]
 have z3:∀x y z,x<n→y<n→z<n→dw r x y z=0∨(x∈A∧y∈A∧z∈A)∨(x∈B∧y∈B∧z∈B):=fun x y z hx hy hz=>by
  by_cases h:(r x y && r x z && r y z)=true
  ·right
   rw [iS,iS] at h;have h1:=hr x y hx hy h.1.1;have h2:=hr x z hx hz h.1.2;have h3:=hr y z hy hz h.2;by_cases a:x∈A <;> by_cases b:y∈A <;> by_cases c:z∈A <;> simp [a,b,c] at h1 h2 h3 ⊢ <;> simp [h1,h2,h3]
  ·left
   unfold dw;rw [aa h]
 have h2:p2 (dJ r) (List.range n)+p2 (dJ r) C≤p2 (dJ r) A+p2 (dJ r) B:=by rw [e2 G.hA,e2 G.hB,e2 G.hC,←yb,←yb];refine xN fun x hx y hy=>?_;have mx:=G.mC x;have my:=G.mC y;have zz:=z2 x y (aS.mp hx) (aS.mp hy);generalize dJ r x y=q at zz ⊢;by_cases a:x∈A <;> by_cases b:x∈B <;> by_cases c:y∈A <;> by_cases d:y∈B <;> simp [mx,my,a,b,c,d] at zz ⊢ <;> lia
 have h3:p3 (dw r) (List.range n)+p3 (dw r) C≤p3 (dw r) A+p3 (dw r) B:=by rw [e3 G.hA,e3 G.hB,e3 G.hC,←BI,←BI];refine DZ fun x hx y hy z hz=>?_;have mx:=G.mC x;have my:=G.mC y;have mz:=G.mC z;have zz:=z3 x y z (aS.mp hx) (aS.mp hy) (aS.mp hz);generalize dw r x y z=q at zz ⊢;by_cases a:x∈A <;> by_cases b:x∈B <;> by_cases c:y∈A <;> by_cases d:y∈B <;> by_cases e:z∈A <;> by_cases f:z∈B <;> simp [mx,my,mz,a,b,c,d,e,f] at zz ⊢ <;> lia
 unfold dX;rw [cC];lia
end
theorem PH{f:Nat→Nat}:∀{l:List Nat},l≠[]→∃b∈l,∀a∈l,f a≤f b
 | [],h=>absurd rfl h
 | [x],_=>⟨x,cj,fun a ha=>by rw [cB.mp ha];exact au _⟩
 | x::y::l,_=>by
  obtain ⟨b,hb,h⟩:=PH (f:=f) (l:=y::l) (by simp)
  by_cases c:f b≤f x
  ·refine ⟨x,cj,fun a ha=>?_⟩
   rcases bb.mp ha with rfl | ha;·exact au _
   ·exact bU (h a ha) c
  ·refine ⟨b,ck _ hb,fun a ha=>?_⟩
   rcases bb.mp ha with rfl | ha;·lia
   ·exact h a ha
variable {r:Nat→Nat→Bool}
theorem aaS:∀(m:Nat) (P:List Nat),n-P.length=m→P.Nodup→(∀x∈P,x<n)→ky n r P→∃Q,ky n r (P++Q)∧(P++Q).Perm (List.range n):=by
 intro m
 induction m with
 | zero=>
  intro P hm nd lt pk;refine ⟨[],by rw [jF];exact pk,?_⟩
  rw [jF];have:=En nd lt;exact aaH nd lt (by lia)
 | succ m ih=>
  intro P hm nd lt pk;have ne:((List.range n).filter fun x=>!decide (x∈P))≠[]:=fun e=>by
   have h:∀x∈List.range n,x∈P:=fun x hx=>gp fun c=>by
    have:x∈(List.range n).filter fun x=>!decide (x∈P):=b8.mpr ⟨hx,by rw [bY c];rfl⟩
    rw [e] at this;cases this
   have:=len_sub fU h;rw [cC] at this;lia
  obtain ⟨b,hb,most⟩:=PH (f:=fun x=>(P.filter (r x)).length) ne;have eE:=b8.mp hb;have bn:=aS.mp eE.1;have bP:b∉P:=fun h=>by have:=eE.2;rw [bu h] at this;cases this
  have uf:(P++[b]).Nodup:=fD.mpr ⟨nd,by simp,fun x hx y hy e=>by rw [cB.mp hy] at e;exact bP (e▸hx)⟩
  obtain ⟨Q,h1,h2⟩:=ih (P++[b]) (by rw [cW,nQ];lia) uf (fun x hx=>by
   rcases cM.mp hx with h | h;·exact lt x h
   ·rw [cB.mp h];exact bn) (pk.snoc fun a an aP=>most a (b8.mpr ⟨aS.mpr an,by rw [bY aP];rfl⟩))
  rw [gD] at h1 h2;exact ⟨[b]++Q,h1,h2⟩
theorem aaT{P:List Nat}(nd:P.Nodup)(cl:∀x∈P,∀y∈P,x≠y→r x y=true):ky n r P:=fun A b B e a _ _=>by subst e;have oU:=(fD.mp nd);have:(A.filter (r b))=A:=List.filter_eq_self.mpr fun x hx=>cl b (ei _ cj) x (ja _ hx) fun z=>oU.2.2 x hx b cj z.symm;rw [this];exact nW _ _
variable {m:Nat} {M:ak} {o:List Nat}
theorem aaU(pw:M.Pairwise lexLt)(lt:∀z∈M,0≤z.1∧z.1<z.2∧z.2<(m:Int)){c:List Nat}(ho:o.Perm (List.range m))(f:bO m M o M)(nd:c.Nodup)(cm:∀x∈c,x<m)(cl:∀x∈c,∀y∈c,x≠y→aL m M x y) :
  ∃Q,(Q++c.reverse).Perm (List.range m)∧bO m M (Q++c.reverse) M:=by
 obtain ⟨Q,h1,h2⟩:=aaS (n:=m) (r:=rL M) _ c rfl nd cm (aaT nd fun x hx y hy ne=>h_.mpr (cl x hx y hy ne).2.2);have f':=OU pw lt ho f h2 h1;rw [List.reverse_append] at f';refine ⟨Q.reverse,?_,f'⟩;have:=(kP (c++Q)).trans h2;rw [List.reverse_append] at this;exact this
theorem PJ{B C:List Nat}(G:uv n A B C){N MA MB:ak}(pw:N.Pairwise lexLt)(lt:∀z∈N,0≤z.1∧z.1<z.2∧z.2<(n:Int))(pwA:MA.Pairwise lexLt)(rN:∀z∈MA,0≤z.1∧z.1<z.2∧z.2<(A.length:Int))(ltB:∀z∈MB,0≤z.1∧z.1<z.2∧z.2<(B.length:Int))
  (sA:∀(a b:Nat) (ha:a<A.length) (hb:b<A.length),aL n N A[a] A[b]↔aL A.length MA a b) (sB:∀(a b:Nat) (ha:a<B.length) (hb:b<B.length),aL n N B[a] B[b]↔aL B.length MB a b) (sep:∀x y,aL n N x y→(x∈A∧y∈A)∨(x∈B∧y∈B)) (cl:∀x∈C,∀y∈C,x≠y→aL n N x y)
  {oA oB:List Nat} (qf:oA.Perm (List.range A.length)) (fA:bO A.length MA oA MA) (jC:oB.Perm (List.range B.length)) (fB:bO B.length MB oB MB):∃o:List Nat,o.Perm (List.range n)∧bO n N o N:=by
 have pA:=cg.mp G.hA;have pB:=cg.mp G.hB;have pC:=cg.mp G.hC;have oU:A.Nodup:=pA.1.imp fun z e=>by lia
 have qg:B.Nodup:=pB.1.imp fun z e=>by lia
 have yc:C.Nodup:=pC.1.imp fun z e=>by lia
 have gA:∀x (hx:x<A.length),A.getD x 0=A[x]:=fun x hx=>by rw [cQ,aZ hx];rfl
 have gB:∀x (hx:x<B.length),B.getD x 0=B[x]:=fun x hx=>by rw [cQ,aZ hx];rfl
 have nG:∀x,x∈A→∃h:A.idxOf x<A.length,A[A.idxOf x]=x:=fun x hx=>⟨pI.mpr hx,qJ _⟩;have BK:∀x,x∈B→∃h:B.idxOf x<B.length,B[B.idxOf x]=x:=fun x hx=>⟨pI.mpr hx,qJ _⟩;have cm:∀x∈C.map fun x=>A.idxOf x,x<A.length:=fun k hk=>by obtain ⟨x,hx,rfl⟩:=bK.mp hk;exact (nG x ((G.mC x).mp hx).1).1
 have cnd:(C.map fun x=>A.idxOf x).Nodup:=by rw [kT,jG];refine (kT.mp yc).imp_of_mem fun{a b} ha hb ne e=>ne ?_;obtain ⟨h1,e1⟩:=nG a ((G.mC a).mp ha).1;obtain ⟨h2,e2⟩:=nG b ((G.mC b).mp hb).1;simp only [e] at e1;exact e1.symm.trans e2
 have ccl:∀x∈C.map fun x=>A.idxOf x,∀y∈C.map fun x=>A.idxOf x,x≠y→aL A.length MA x y:=fun k hk j hj kj=>by obtain ⟨x,hx,rfl⟩:=bK.mp hk;obtain ⟨y,hy,rfl⟩:=bK.mp hj;obtain ⟨h1,e1⟩:=nG x ((G.mC x).mp hx).1;obtain ⟨h2,e2⟩:=nG y ((G.mC y).mp hy).1;refine (sA _ _ h1 h2).mp ?_;rw [e1,e2];exact cl x hx y hy fun e=>kj (by rw [e])
 obtain ⟨Q,pQ,fQ⟩:=aaU pwA rN qf fA cnd cm ccl;have clA:=Jg pQ fQ;have clB:=Jg jC fB;have ndQ:(Q++(C.map fun x=>A.idxOf x).reverse).Nodup:=pQ.nodup_iff.mpr fU;have PK:=fD.mp ndQ;have Et:∀k∈Q,k<A.length:=fun k hk=>aS.mp (pQ.mem_iff.mp (ja _ hk));have BL:∀k (hk:k<A.length),k∈Q↔A[k]∉B:=fun k hk=>by
  have inC:A[k]∈B↔k∈(C.map fun x=>A.idxOf x).reverse:=by
   rw [mG,bK];constructor
   ·intro h
    exact ⟨A[k],(G.mC _).mpr ⟨aV hk,h⟩,nF oU hk⟩
   ·rintro ⟨x,hx,e⟩
    obtain ⟨h1,e1⟩:=nG x ((G.mC x).mp hx).1;simp only [e] at e1;rw [e1];exact ((G.mC x).mp hx).2
  rw [inC];constructor
  ·intro h h'
   exact PK.2.2 k h k h' rfl
  ·intro h
   exact (cM.mp (pQ.mem_iff.mpr (aS.mpr hk))).resolve_right h
 have m1:∀x,x∈(Q.map fun k=>A.getD k 0)↔x∈A∧x∉B:=fun x=>by
  rw [bK];constructor
  ·rintro ⟨k,hk,rfl⟩
   have kl:=Et k hk;rw [gA k kl];exact ⟨aV kl,(BL k kl).mp hk⟩
  ·rintro ⟨hx,nx⟩
   obtain ⟨h1,e1⟩:=nG x hx;exact ⟨A.idxOf x,(BL _ h1).mpr (by rw [e1];exact nx),by rw [gA _ h1,e1]⟩
 have m2:∀x,x∈(oB.map fun k=>B.getD k 0)↔x∈B:=fun x=>by
  rw [bK];constructor
  ·rintro ⟨k,hk,rfl⟩
   have kl:=aS.mp (jC.mem_iff.mp hk);rw [gB k kl];exact aV kl
  ·intro hx
   obtain ⟨h1,e1⟩:=BK x hx;exact ⟨B.idxOf x,jC.mem_iff.mpr (aS.mpr h1),by rw [gB _ h1,e1]⟩
 have n1:(Q.map fun k=>A.getD k 0).Nodup:=by rw [kT,jG];refine (kT.mp PK.1).imp_of_mem fun{a b} ha hb ne e=>ne ?_;rw [gA a (Et a ha),gA b (Et b hb)] at e;exact (gm oU).mp e
 have n2:(oB.map fun k=>B.getD k 0).Nodup:=by rw [kT,jG];refine (kT.mp (jC.nodup_iff.mpr fU)).imp_of_mem fun{a b} ha hb ne e=>ne ?_;rw [gB a (aS.mp (jC.mem_iff.mp ha)),gB b (aS.mp (jC.mem_iff.mp hb))] at e;exact (gm qg).mp e
 have po:((Q.map fun k=>A.getD k 0)++oB.map fun k=>B.getD k 0).Perm (List.range n):=by
  refine (kU (fD.mpr ⟨n1,n2,fun x hx y hy e=>((m1 x).mp hx).2 (e▸(m2 y).mp hy)⟩) fU).mpr fun x=>?_;rw [cM,m1,m2,aS];constructor
  ·rintro (h | h)
   ·exact pA.2 x h.1
   ·exact pB.2 x h
  ·intro h
   by_cases b:x∈B;·exact .inr b
   ·exact .inl ⟨(G.BJ x h).resolve_right b,b⟩
 have i1:∀k (hk:k<A.length),k∈Q→((Q.map fun k=>A.getD k 0)++oB.map fun k=>B.getD k 0).idxOf A[k]=Q.idxOf k:=fun k hk kQ=>by
  rw [iW,ae ((m1 _).mpr ⟨aV hk,(BL k hk).mp kQ⟩)];have:=idx_map (f:=fun k=>A.getD k 0) (x:=k) (o:=Q) fun y hy e=>by rw [gA y (Et y hy),gA k hk] at e;exact (gm oU).mp e
  rw [gA k hk] at this;exact this
 have i2:∀k (hk:k<B.length),((Q.map fun k=>A.getD k 0)++oB.map fun k=>B.getD k 0).idxOf B[k]=oB.idxOf k+Q.length:=fun k hk=>by
  rw [iW,aa fun h=>((m1 _).mp h).2 (aV hk),ay];have:=idx_map (f:=fun k=>B.getD k 0) (x:=k) (o:=oB) fun y hy e=>by rw [gB y (aS.mp (jC.mem_iff.mp hy)),gB k hk] at e;exact (gm qg).mp e
  rw [gB k hk] at this;rw [this]
 have q1:∀k,k∈Q→(Q++(C.map fun x=>A.idxOf x).reverse).idxOf k=Q.idxOf k:=fun k hk=>by rw [iW,ae hk]
 have q2:∀k,k∉Q→Q.length≤(Q++(C.map fun x=>A.idxOf x).reverse).idxOf k:=fun k hk=>by rw [iW,aa hk];lia
 refine ⟨_,po,Ec po pw lt fun a b c an bn cn ab ac bc e1 e2=>?_⟩;dsimp only at ab ac;by_cases aB:a∈B
 ·
  have Bz:∀x,x<n→((Q.map fun k=>A.getD k 0)++oB.map fun k=>B.getD k 0).idxOf a<((Q.map fun k=>A.getD k 0)++oB.map fun k=>B.getD k 0).idxOf x→x∈B:=fun x xn hx=>gp fun xB=>by
   have xA:=(G.BJ x xn).resolve_right xB;obtain ⟨h1,ex⟩:=nG x xA;obtain ⟨h2,ea⟩:=BK a aB;have kQ:A.idxOf x∈Q:=(BL _ h1).mpr (by rw [ex];exact xB)
   have j1:=i1 _ h1 kQ;have j2:=i2 _ h2;rw [ex] at j1;rw [ea] at j2;rw [j1,j2] at hx;have:=pI.mpr kQ;lia
  obtain ⟨ha,ea⟩:=BK a aB;obtain ⟨hb,eb⟩:=BK b (Bz b bn ab);obtain ⟨hc,ec⟩:=BK c (Bz c cn ac);have j1:=i2 _ ha;have j2:=i2 _ hb;have j3:=i2 _ hc;rw [ea] at j1;rw [eb] at j2;rw [ec] at j3;rw [j1,j2] at ab;rw [j1,j3] at ac;have l1:=(sB _ _ ha hb).mp (by rw [ea,eb];exact e1)
  have l2:=(sB _ _ ha hc).mp (by rw [ea,ec];exact e2)
  have:=(sB _ _ hb hc).mpr (clB _ _ _ ha hb hc (show oB.idxOf (B.idxOf a)<oB.idxOf (B.idxOf b) by lia) (show oB.idxOf (B.idxOf a)<oB.idxOf (B.idxOf c) by lia) (fun z=>bc (by rw [←eb,←ec];simp only [z])) l1 l2)
  rw [eb,ec] at this;exact this
 ·have aA:=(G.BJ a an).resolve_right aB
  have bA:b∈A:=((sep a b e1).resolve_right fun h=>aB h.1).2;have cA:c∈A:=((sep a c e2).resolve_right fun h=>aB h.1).2;obtain ⟨ha,ea⟩:=nG a aA;obtain ⟨hb,eb⟩:=nG b bA;obtain ⟨hc,ec⟩:=nG c cA;have kQ:A.idxOf a∈Q:=(BL _ ha).mpr (by rw [ea];exact aB)
  have j1:=i1 _ ha kQ;rw [ea] at j1;have lQ:=pI.mpr kQ;have PL:∀x (hx:A.idxOf x<A.length),A[A.idxOf x]=x→((Q.map fun k=>A.getD k 0)++oB.map fun k=>B.getD k 0).idxOf a<((Q.map fun k=>A.getD k 0)++oB.map fun k=>B.getD k 0).idxOf x→(Q++(C.map fun x=>A.idxOf x).reverse).idxOf (A.idxOf a)<(Q++(C.map fun x=>A.idxOf x).reverse).idxOf (A.idxOf x):=fun x hx ex h=>by
   rw [q1 _ kQ];by_cases xQ:A.idxOf x∈Q
   ·rw [q1 _ xQ]
    have j2:=i1 _ hx xQ;rw [ex] at j2;rw [j1,j2] at h;exact h
   ·have:=q2 _ xQ
    lia
  have l1:=(sA _ _ ha hb).mp (by rw [ea,eb];exact e1)
  have l2:=(sA _ _ ha hc).mp (by rw [ea,ec];exact e2)
  have:=(sA _ _ hb hc).mpr (clA _ _ _ ha hb hc (PL b hb eb ab) (PL c hc ec ac) (fun z=>bc (by rw [←eb,←ec];simp only [z])) l1 l2)
  rw [eb,ec] at this;exact this
theorem yd(nd:M.Nodup)(lt:∀z∈M,0≤z.1∧z.1<z.2∧z.2<(n:Int)):fg n M=dX (rL M) (List.range n):=by unfold fg dX Bd;rw [Be nd lt,cC]
variable {r2:Nat→Nat→Bool}
theorem JA{l:List Nat}(h:∀x∈l,∀y∈l,r2 x y=true→r x y=true):dX r2 l≤dX r l:=by
 have h1:p2 (dJ r2) l≤p2 (dJ r) l:=xN fun x hx y hy=>by
  unfold dJ;by_cases c:r2 x y=true
  ·rw [ae c,ae (h x hx y hy c)]
   exact au _
  ·rw [aa c]
   exact bG _
 have h2:p3 (dw r2) l≤p3 (dw r) l:=DZ fun x hx y hy z hz=>by
  unfold dw;by_cases c:(r2 x y && r2 x z && r2 y z)=true
  ·rw [ae c]
   rw [iS,iS] at c;rw [h x hx y hy c.1.1,h x hx z hz c.1.2,h y hy z hz c.2];exact au _
  ·rw [aa c]
   exact bG _
 unfold dX;lia
theorem PM(X:List Nat):dX r X=dX (fun a b=>r (X.getD a 0) (X.getD b 0)) (List.range X.length):=by
 have e:X=(List.range X.length).map fun k=>X.getD k 0:=by
  refine iy (by simp) fun k h1 h2=>?_
  rw [iV,qK,cQ,aZ h1]
  rfl
 have h2:p2 (dJ r) X=p2 (dJ fun a b=>r (X.getD a 0) (X.getD b 0)) (List.range X.length):=by
  conv=>lhs;rw [e]
  rw [Jw]
  rfl
 have h3:p3 (dw r) X=p3 (dw fun a b=>r (X.getD a 0) (X.getD b 0)) (List.range X.length):=by
  conv=>lhs;rw [e]
  rw [Pq]
  rfl
 unfold dX
 rw [h2,h3,cC]
theorem JB{X:List Nat}(h:∀(a b:Nat) (ha:a<X.length) (hb:b<X.length),r X[a] X[b]=r2 a b):dX r X=dX r2 (List.range X.length):=by
 rw [PM];have g:∀x (hx:x<X.length),X.getD x 0=X[x]:=fun x hx=>by rw [cQ,aZ hx];rfl
 refine Nat.le_antisymm (JA fun x hx y hy e=>?_) (JA fun x hx y hy e=>?_)
 ·have hx:=aS.mp hx
  have hy:=aS.mp hy;rw [g x hx,g y hy,h x y hx hy] at e;exact e
 ·have hx:=aS.mp hx
  have hy:=aS.mp hy;rw [g x hx,g y hy,h x y hx hy];exact e
variable {x y:Nat}
theorem BM(hx:x<n)(hy:y<n):rL M x y=true↔aL n M x y:=by rw [h_];exact ⟨fun h=>⟨hx,hy,h⟩,fun h=>h.2.2⟩
theorem JD{M2:ak}{a b:Nat}(hx:x<n)(hy:y<n)(ha:a<m)(hb:b<m)(h:aL n M x y↔aL m M2 a b):rL M x y=rL M2 a b:=by rw [pb,BM hx hy,BM ha hb];exact h
theorem PN{L:ak}(f:bO n L o M):bO n M o M:=by obtain ⟨N,fN⟩:=rJ n M o;have e:=YJ f fN;rw [e] at fN;exact fN
theorem aa2{L:ak}(pw:L.Pairwise lexLt)(lt:∀z∈L,0≤z.1∧z.1<z.2∧z.2<(m:Int))(cl:∀x y,x<m→y<m→x≠y→aL m L x y)(ho:o.Perm (List.range m)):bO m L o L:=
 Ec ho pw lt fun _ b c _ bn cn _ _ bc _ _=>cl b c bn cn bc
section
variable {n:Nat} {A B C:List Nat} (G:uv n A B C) {L LA LB LC:ak} (pw:L.Pairwise lexLt) (lt:∀z∈L,0≤z.1∧z.1<z.2∧z.2<(n:Int)) (sA:ig L A LA) (sB:ig L B LB) (sC:ig L C LC)
 (sep:∀x y,aL n L x y→(x∈A∧y∈A)∨(x∈B∧y∈B)) (cl:∀x∈C,∀y∈C,x≠y→aL n L x y)
include G pw lt sA sB sC sep cl
variable {oA oB:List Nat}
theorem aa3{MA MB:ak}(qf:oA.Perm (List.range A.length))(fA:bO A.length LA oA MA)(jC:oB.Perm (List.range B.length))(fB:bO B.length LB oB MB) :
  ∃N:List (Int×Int),N.Pairwise lexLt∧(∀z∈N,0≤z.1∧z.1<z.2∧z.2<(n:Int))∧(∀z∈L,z∈N)∧(∀(a b:Nat) (ha:a<A.length) (hb:b<A.length),aL n N A[a] A[b]↔aL A.length MA a b)∧(∀(a b:Nat) (ha:a<B.length) (hb:b<B.length),aL n N B[a] B[b]↔aL B.length MB a b)∧(∀x y,aL n N x y→(x∈A∧y∈A)∨(x∈B∧y∈B)):=by
 have pA:=cg.mp G.hA;have pB:=cg.mp G.hB;have oU:A.Nodup:=pA.1.imp fun z e=>by lia
 have qg:B.Nodup:=pB.1.imp fun z e=>by lia
 have PQ:=Eo qf fA sA.lt;have subB:=Eo jC fB sB.lt;obtain ⟨N,nH,ltN,mN⟩:=PD n fun i j=>(∃(a b:Nat) (ha:a<A.length) (hb:b<A.length),A[a]=i∧A[b]=j∧aL A.length MA a b)∨(∃(a b:Nat) (ha:a<B.length) (hb:b<B.length),B[a]=i∧B[b]=j∧aL B.length MB a b);have sf:∀{m:Nat} {M:ak} (_:∀z∈M,0≤z.1∧z.1<z.2∧z.2<(m:Int)) {a:Nat},¬aL m M a a:=fun lt' a h=>by rcases h.2.2 with e | e <;> (have:=lt' _ e;simp only at this;lia)
 have aN:∀x y,aL n N x y↔x<n∧y<n∧((∃(a b:Nat) (ha:a<A.length) (hb:b<A.length),A[a]=x∧A[b]=y∧aL A.length MA a b)∨(∃(a b:Nat) (ha:a<B.length) (hb:b<B.length),B[a]=x∧B[b]=y∧aL B.length MB a b)):=fun x y=>by
  have sw:∀i j:Nat,((∃(a b:Nat) (ha:a<A.length) (hb:b<A.length),A[a]=i∧A[b]=j∧aL A.length MA a b)∨(∃(a b:Nat) (ha:a<B.length) (hb:b<B.length),B[a]=i∧B[b]=j∧aL B.length MB a b))→((∃(a b:Nat) (ha:a<A.length) (hb:b<A.length),A[a]=j∧A[b]=i∧aL A.length MA a b)∨(∃(a b:Nat) (ha:a<B.length) (hb:b<B.length),B[a]=j∧B[b]=i∧aL B.length MB a b)):=fun i j h=>by
   rcases h with ⟨a,b,ha,hb,e1,e2,h⟩ | ⟨a,b,ha,hb,e1,e2,h⟩;·exact .inl ⟨b,a,hb,ha,e2,e1,gT _ _ h⟩
   ·exact .inr ⟨b,a,hb,ha,e2,e1,gT _ _ h⟩
  constructor
  ·rintro ⟨hx,hy,h⟩
   refine ⟨hx,hy,?_⟩;rcases h with h | h
   ·have:=ltN _ h
    simp only at this;exact (mN x y (by lia) hy).mp h
   ·have:=ltN _ h
    simp only at this;exact sw _ _ ((mN y x (by lia) hx).mp h)
  ·rintro ⟨hx,hy,h⟩
   have ne:x≠y:=fun e=>by
    subst e;rcases h with ⟨a,b,ha,hb,e1,e2,h⟩ | ⟨a,b,ha,hb,e1,e2,h⟩
    ·have:a=b:=(gm oU).mp (e1.trans e2.symm)
     subst this;exact sf fA.lt h
    ·have:a=b:=(gm qg).mp (e1.trans e2.symm)
     subst this;exact sf fB.lt h
   refine ⟨hx,hy,?_⟩;rcases su x y with c | c;·exact .inl ((mN x y c hy).mpr h)
   ·exact .inr ((mN y x (by lia) hx).mpr (sw _ _ h))
 have lA:∀(a b:Nat) (ha:a<A.length) (hb:b<A.length),aL n L A[a] A[b]→aL A.length MA a b:=fun a b ha hb h=>by have h':=(sA.bw G.hA lt ha hb).mpr h;exact ⟨h'.1,h'.2.1,h'.2.2.imp (PQ _) (PQ _)⟩
 have lB:∀(a b:Nat) (ha:a<B.length) (hb:b<B.length),aL n L B[a] B[b]→aL B.length MB a b:=fun a b ha hb h=>by have h':=(sB.bw G.hB lt ha hb).mpr h;exact ⟨h'.1,h'.2.1,h'.2.2.imp (subB _) (subB _)⟩
 refine ⟨N,nH,ltN,fun z hz=>?_,fun a b ha hb=>⟨fun h=>?_,fun h=>(aN _ _).mpr ⟨pA.2 _ (aV ha),pA.2 _ (aV hb),.inl ⟨a,b,ha,hb,rfl,rfl,h⟩⟩⟩,fun a b ha hb=>⟨fun h=>?_,fun h=>(aN _ _).mpr ⟨pB.2 _ (aV ha),pB.2 _ (aV hb),.inr ⟨a,b,ha,hb,rfl,rfl,h⟩⟩⟩,fun x y h=>?_⟩
 ·obtain ⟨x,y,xy,yn,rfl,h⟩:=Pp lt hz
  refine Jv ltN ((aN x y).mpr ⟨h.1,h.2.1,?_⟩);rcases sep x y h with ⟨hx,hy⟩ | ⟨hx,hy⟩
  ·obtain ⟨a,ha,rfl⟩:=wu.mp hx
   obtain ⟨b,hb,rfl⟩:=wu.mp hy;exact .inl ⟨a,b,ha,hb,rfl,rfl,lA a b ha hb h⟩
  ·obtain ⟨a,ha,rfl⟩:=wu.mp hx
   obtain ⟨b,hb,rfl⟩:=wu.mp hy;exact .inr ⟨a,b,ha,hb,rfl,rfl,lB a b ha hb h⟩
 ·rcases ((aN _ _).mp h).2.2 with ⟨a',b',qh,eE,e1,e2,h'⟩ | ⟨a',b',qh,eE,e1,e2,h'⟩
  ·have:=(gm oU).mp e1
   have:=(gm oU).mp e2;subst a' b';exact h'
  ·have ne:A[a]≠A[b]:=fun e=>by have:a'=b':=(gm qg).mp (e1.trans (e.trans e2.symm));subst this;exact sf fB.lt h'
   exact lA a b ha hb (cl _ ((G.mC _).mpr ⟨aV ha,by rw [←e1];exact aV qh⟩) _ ((G.mC _).mpr ⟨aV hb,by rw [←e2];exact aV eE⟩) ne)
 ·rcases ((aN _ _).mp h).2.2 with ⟨a',b',qh,eE,e1,e2,h'⟩ | ⟨a',b',qh,eE,e1,e2,h'⟩
  ·have ne:B[a]≠B[b]:=fun e=>by have:a'=b':=(gm oU).mp (e1.trans (e.trans e2.symm));subst this;exact sf fA.lt h'
   exact lB a b ha hb (cl _ ((G.mC _).mpr ⟨by rw [←e1];exact aV qh,aV ha⟩) _ ((G.mC _).mpr ⟨by rw [←e2];exact aV eE,aV hb⟩) ne)
  ·have:=(gm qg).mp e1
   have:=(gm qg).mp e2;subst a' b';exact h'
 ·rcases ((aN _ _).mp h).2.2 with ⟨a',b',qh,eE,e1,e2,h'⟩ | ⟨a',b',qh,eE,e1,e2,h'⟩
  ·exact .inl ⟨by rw [←e1];exact aV qh,by rw [←e2];exact aV eE⟩
  ·exact .inr ⟨by rw [←e1];exact aV qh,by rw [←e2];exact aV eE⟩
theorem aa4(qf:oA.Perm (List.range A.length))(fA:bO A.length LA oA LA)(jC:oB.Perm (List.range B.length))(fB:bO B.length LB oB LB):∃o:List Nat,o.Perm (List.range n)∧bO n L o L:=
 PJ G pw lt sA.pw sA.lt sB.lt (fun _ _ ha hb=>(sA.bw G.hA lt ha hb).symm) (fun _ _ ha hb=>(sB.bw G.hB lt ha hb).symm) sep cl qf fA jC fB
theorem aa5{oC:List Nat}(ho:o.Perm (List.range n))(qf:oA.Perm (List.range A.length))(jC:oB.Perm (List.range B.length))(PR:oC.Perm (List.range C.length))(di:e8 n L)(PU:e8 A.length LA)(PV:e8 B.length LB)(aa6:e8 C.length LC)
  (t:gy n L [] o=wW n L []) (tA:gy A.length LA [] oA=wW A.length LA []) (tB:gy B.length LB [] oB=wW B.length LB []) (tC:gy C.length LC [] oC=wW C.length LC []):wW n L []+wW C.length LC []=wW A.length LA []+wW B.length LB []:=by
 have pA:=cg.mp G.hA;have pB:=cg.mp G.hB;have pC:=cg.mp G.hC;have yc:C.Nodup:=pC.1.imp fun z e=>by lia
 have oS:∀{M:ak},M.Pairwise lexLt→M.Nodup:=fun h=>h.imp fun h e=>by subst e;unfold lexLt at h;lia
 have lC:∀a b,a<C.length→b<C.length→a≠b→aL C.length LC a b:=fun a b ha hb ab=>(sC.bw G.hC lt ha hb).mpr (cl _ (aV ha) _ (aV hb) fun e=>ab ((gm yc).mp e));have wC:wW C.length LC []=(fg C.length LC:Int):=by rw [←tC];exact xW PR aa6 (aa2 sC.pw sC.lt lC PR)
 have sf:∀{m:Nat} {M:ak} (_:∀z∈M,0≤z.1∧z.1<z.2∧z.2<(m:Int)) {a:Nat},¬aL m M a a:=fun lt' a h=>by rcases h.2.2 with e | e <;> (have:=lt' _ e;simp only at this;lia)
 have cX:∀{M:ak} (_:∀z∈M,0≤z.1∧z.1<z.2∧z.2<(n:Int)) (_:∀z∈L,z∈M),dX (rL M) C=fg C.length LC:=fun{M} ltM sub=>by
  rw [yd (oS sC.pw) sC.lt];refine JB fun a b ha hb=>JD (pC.2 _ (aV ha)) (pC.2 _ (aV hb)) ha hb ?_;by_cases e:a=b
  ·subst e
   exact ⟨fun h=>absurd h (sf ltM),fun h=>absurd h (sf sC.lt)⟩
  ·refine ⟨fun _=>lC a b ha hb e,fun h=>?_⟩
   have h':=(sC.bw G.hC lt ha hb).mp h;exact ⟨h'.1,h'.2.1,h'.2.2.imp (sub _) (sub _)⟩
 obtain ⟨M,fM⟩:=rJ n L o;obtain ⟨MA,fA⟩:=rJ A.length LA oA;obtain ⟨MB,fB⟩:=rJ B.length LB oB;have w:=xW ho di fM;have wA:=xW qf PU fA;have wB:=xW jC PV fB;rw [t] at w;rw [tA] at wA;rw [tB] at wB;have low:fg A.length MA+fg B.length MB≤fg n M+fg C.length LC:=by
  have g:=G.low (rL M);rw [cX fM.lt (Eo ho fM lt),←yd (Bf fM) fM.lt] at g;have part:∀{X:List Nat} {LX:ak},X∈aY n→ig L X LX→e8 X.length LX→wW X.length LX []≤(dX (rL M) X:Int):=fun{X LX} hX sX iX=>by
   obtain ⟨FX,fX⟩:=rJ X.length LX (jB X o);obtain ⟨M3,pw3,PX,m3⟩:=PD X.length fun i j=>aL n M (X.getD i 0) (X.getD j 0);have pX:=cg.mp hX;have gx:∀x (hx:x<X.length),X.getD x 0=X[x]:=fun x hx=>by rw [cQ,aZ hx];rfl
   have s3:ig M X M3:=⟨pw3,fun z=>⟨fun hz=>?_,?_⟩⟩
   ·have f1:=OW (BH hX ho) iX fX
    have f2:fg X.length FX≤dX (rL M) X:=by rw [yd (Bf fX) fX.lt,PM (r:=rL M) X];refine JA fun x hx y hy e=>?_;have hx:=aS.mp hx;have hy:=aS.mp hy;have h:=(BM hx hy).mp e;have h3:aL X.length M3 x y:=⟨h.1,h.2.1,h.2.2.imp (Jx hX ho sX s3 lt fM fX _) (Jx hX ho sX s3 lt fM fX _)⟩;rw [gx x hx,gx y hy];exact (BM (pX.2 _ (aV hx)) (pX.2 _ (aV hy))).mpr ((s3.bw hX fM.lt hx hy).mp h3)
    lia
   ·obtain ⟨a,b,ab,bm,rfl,h⟩:=Pp PX hz
    have ha:a<X.length:=by lia
    have hm:=Jv PX h;rw [x_ ab] at hm ⊢;have:=(m3 a b ab bm).mp hm;rw [gx a ha,gx b bm] at this;have hM:=Jv fM.lt this;rw [x_ ((BG hX ha bm).mpr ab)] at hM;exact ⟨a,b,ha,bm,ab,rfl,hM⟩
   ·rintro ⟨a,b,ha,hb,ab,rfl,h⟩
    refine (m3 a b ab hb).mpr ?_;rw [gx a ha,gx b hb];exact ⟨pX.2 _ (aV ha),pX.2 _ (aV hb),.inl h⟩
  have gA:=part G.hA sA PU;have gB:=part G.hB sB PV;lia
 have PF:fg n M+fg C.length LC≤fg A.length MA+fg B.length MB:=by
  obtain ⟨N,nH,ltN,sub,nA,nB,PY⟩:=aa3 G pw lt sA sB sC sep cl qf fA jC fB;have clN:∀x∈C,∀y∈C,x≠y→aL n N x y:=fun x hx y hy xy=>by have h:=cl x hx y hy xy;exact ⟨h.1,h.2.1,h.2.2.imp (sub _) (sub _)⟩
  obtain ⟨o',kX,f'⟩:=PJ G nH ltN fA.1 fA.lt fB.lt nA nB PY clN qf (PN fA) jC (PN fB);obtain ⟨M',JE⟩:=rJ n L o';have h1:=OW kX di JE;have h2:=aaJ (aaI sub f' JE) (oS nH) (Bf JE) ltN;have h3:=G.PF (r:=rL N) fun x y hx hy e=>PY x y ((BM hx hy).mp e);rw [cX ltN sub,←yd (oS nH) ltN] at h3;have eA:dX (rL N) A=fg A.length MA:=by rw [yd (Bf fA) fA.lt];exact JB fun a b ha hb=>JD (pA.2 _ (aV ha)) (pA.2 _ (aV hb)) ha hb (nA a b ha hb)
  have eB:dX (rL N) B=fg B.length MB:=by rw [yd (Bf fB) fB.lt];exact JB fun a b ha hb=>JD (pB.2 _ (aV ha)) (pB.2 _ (aV hb)) ha hb (nB a b ha hb)
  rw [eA,eB] at h3;lia
 lia
end
def aa_:Sp:=fun vs H Q _=>∃(lk a:Addr) (n:Nat) (us:List V) (L:ak) (zs S:List Nat),vs=[.ref lk,.ref a]∧H lk=some (.lst us)∧bT H us L∧L.Nodup∧(∀z∈L,0≤z.1∧z.1<z.2∧z.2<(n:Int))∧n≤30∧H a=some (.lst (zs.map fun k:Nat=>V.int (k:Int)))∧zs.Perm S∧S∈aY n ∧
 ∀(H':Hp) (t:Addr) (L2:ak),af H H'→H t=none→cL H' t S.length L2→ig L S L2→DK S.length L2→Q (.ref t) H'
def aba:Sp:=fun vs H Q _=>∃(ro a:Addr) (n:Nat) (o zs S:List Nat),vs=[.ref ro,.ref a]∧H ro=some (.lst (o.map fun k:Nat=>V.int (k:Int)))∧o.Perm (List.range n)∧n≤30∧H a=some (.lst (zs.map fun k:Nat=>V.int (k:Int)))∧zs.Perm S∧S∈aY n ∧
 ∀(H':Hp) (D:Addr),af H H'→H D=none→H' D=some (.lst ((jB S o).map fun k:Nat=>V.int (k:Int)))→Q (.ref D) H'
structure Eu (xs cs:List Nat) (F:ak):Prop where
 nd:F.Nodup
 mem:∀z∈F,∃i j:Nat,i∈xs∧j∈xs∧i<j∧¬(i∈cs∧j∈cs)∧z=((i:Int),(j:Int))
def abb(K:aD):Sp:=fun vs H Q _=>∃(P a x c:Addr) (ns:List Int) (xs cs:List Nat) (qi:Int),vs=[.ref P,.ref x,.ref c,.int qi]∧c_ H P a∧a8 K (er P H) a (ns.map V.int)∧x≠P∧c≠P∧H x=some (.lst (xs.map fun k:Nat=>V.int (k:Int)))∧H c=some (.lst (cs.map fun k:Nat=>V.int (k:Int)))∧xs.Nodup∧xs.length≤9 ∧
 ∀(H':Hp) (r:Addr) (us:List V) (F:ak),a_ P H H'→c_ H' P a→r≠P→er P H r=none→H' r=some (.lst us)→bT (er P H') us F→Eu xs cs F→F.length≤81→Q (.ref r) H'
end My
namespace L2
open PySem My
variable {wi:TI} {ρ:St→St} {te:TE} {σ:St} {H:Hp} {Q:VK}
theorem abc{K:aD}{l:Addr}{xs:List V}(Pv:Addr→Nat→List V→Hp→Prop)(hn:xs.length<sizeLine)
  (eF:∀R:It→Hp→Prop,R (pO K l) H→wi σ H R) (h0:∀D,H D=none→Pv D 0 [] (upd H D (.lst [])))
  (hl:∀D i ys Hc,H D=none→Pv D i ys Hc→Hc l=some (.lst xs)∧Hc D=some (.lst ys)∧ys.length=i)
  (step:∀D (i:Nat) x ys Hc,H D=none→xs[i]?=some x→Pv D i ys Hc→∀R:VK,(∀y H3,H3 D=some (.lst ys)→Pv D (i+1) (ys++[y]) (upd H3 D (.lst (ys++[y])))→R y H3)→te (some x::ρ σ) Hc R)
  (fin:∀D ys Hc,H D=none→Pv D xs.length ys Hc→Q (.ref D) Hc):jj wi ρ (fun _ H Q=>Q true H) te σ H Q:=by
 refine eF _ fun D nD=>?_;refine ⟨fun i m ys Hc=>m=xs.length-i∧i≤xs.length∧Pv D i ys Hc,⟨_,rfl,bG _,h0 D nD⟩,?_⟩;rintro i m ys Hc ⟨rfl,hi,p⟩;obtain ⟨e1,e2,e3⟩:=hl D i ys Hc nD p;refine ⟨e2,?_⟩;by_cases aR:i<xs.length
 ·refine .inr ⟨⟨xs,xs[i],.of e1,by simp [aR]⟩,fun x H' hy=>?_⟩
  obtain ⟨rfl,hx⟩:=hy;have ex:=hx xs (.of e1);rw [ae rfl];exact step D i x ys _ nD ex p _ fun y H3 a b=>⟨a,by lia,xs.length-(i+1),by lia,rfl,aR,b⟩
 ·have e:i=xs.length:=by lia
  subst e;exact .inl ⟨⟨xs,.of e1,au _⟩,fin D ys Hc nD p⟩
theorem abd{tt:TT}{js:List Nat}(i:Nat)(eF:∀R:It→Hp→Prop,(∀J H1,af H H1→lE J (js.map fun k:Nat=>V.int (k:Int)) H1→R J H1)→wi σ H R)(hn:js.length≤1000)
  (test:∀j∈js,∀(Hc:Hp) (R:Bool→Hp→Prop),af H Hc→R (decide (i<j)) Hc→tt (some (.int (j:Int))::ρ σ) Hc R)
  (elem:∀j∈js,∀(Hc:Hp) (R:VK),af H Hc→(∀T,Hc T=none→R (.ref T) (upd Hc T (.tup [.int (i:Int),.int (j:Int)])))→te (some (.int (j:Int))::ρ σ) Hc R)
  (fin:∀D us Hc,H D=none→af H Hc→bT Hc us ((js.filter fun j=>decide (i<j)).map fun j:Nat=>((i:Int),(j:Int)))→Hc D=some (.lst us)→Q (.ref D) Hc):jj wi ρ tt te σ H Q:=by
 refine eF _ fun J H1 s1 JF=>?_;intro D nD;have lm:(js.map fun k:Nat=>V.int (k:Int)).length=js.length:=ay ..;refine ⟨fun k m us Hc=>m=js.length-k∧k≤js.length∧Hc D=some (.lst us)∧af H1 Hc∧us.length≤k∧bT Hc us (((js.take k).filter fun j=>decide (i<j)).map fun j:Nat=>((i:Int),(j:Int))),⟨_,rfl,bG _,ar,fc (af.refl H1) nD,au _,bT.nil _⟩,?_⟩;rintro k m us Hc ⟨rfl,hk,eD,sH,lu,hL⟩;refine ⟨eD,?_⟩;have hs:=cV hn;by_cases aR:k<js.length
 ·refine .inr ⟨JF.go k Hc sH (by rw [lm];exact aR),fun x H' hy=>?_⟩
  obtain ⟨rfl,hx⟩:=JF.dZ k Hc x H' sH hy;have ex:=hx (by rw [lm];exact aR)
  rw [bz,aZ aR] at ex;have ex:=(Option.some.inj ex).symm;subst ex;have tk:js.take (k+1)=js.take k++[js[k]]:=by rw [nX,aZ aR];rfl
  have mj:js[k]∈js:=aV aR;generalize js[k]=j at tk mj;refine test j mj _ _ (s1.trans sH) ?_;by_cases c:i<j
  ·rw [bu c,ae rfl]
   refine elem j mj _ _ (s1.trans sH) fun T nT=>?_;have st:af _ (upd _ T (.tup [.int (i:Int),.int (j:Int)])):=aK nT;have e3:=st _ _ eD;refine ⟨e3,by lia,js.length-(k+1),by lia,rfl,aR,ar,fc (sH.trans st) nD,by simp;lia,?_⟩
   rw [tk,pG,eW,show [j].filter (fun j=>decide (i<j))=[j] by simp [c]]
   exact ((hL.mono st).push ar).cS e3 fun b o nb e=>by rw [aE nb];exact e
  ·rw [bY c,aa (by simp)]
   refine ⟨js.length-(k+1),by lia,rfl,aR,eD,sH,by lia,?_⟩
   rw [tk,pG,show [j].filter (fun j=>decide (i<j))=[] by simp [c],jF]
   exact hL
 ·have e:k=js.length:=by lia
  subst e;rw [iU] at hL;exact .inl ⟨JF.stop _ Hc sH (by rw [lm];exact au _),fin D us Hc (none_of s1 nD) (s1.trans sH) hL eD⟩
end L2
namespace My
open PySem L2
def dP(n:Nat)(X:List Nat):List Nat:=(List.range n).filter fun x=>decide (x∈X)
variable {n:Nat} {X:List Nat}
theorem nI(lt:∀x∈X,x<n)(x:Nat):x∈dP n X↔x∈X:=by unfold dP;rw [b8,aS,fT];exact ⟨fun h=>h.2,fun h=>⟨lt x h,h⟩⟩
theorem uz(n:Nat)(X:List Nat):dP n X∈aY n:=cg.mpr ⟨wc.filter _,fun x hx=>aS.mp (b8.mp hx).1⟩
theorem JG(nd:X.Nodup)(lt:∀x∈X,x<n):X.Perm (dP n X):=
 (kU nd (fU.filter _)).mpr fun x=>(nI lt x).symm
def nJ(cs ds:List Nat):List (Int×Int):=cs.flatMap fun i=>(ds.filter fun j=>decide (i<j)).map fun j:Nat=>((i:Int),(j:Int))
theorem BN{cs ds:List Nat}{z:Int×Int}:z∈nJ cs ds↔∃i j:Nat,i∈cs∧j∈ds∧i<j∧z=((i:Int),(j:Int)):=by
 unfold nJ;rw [List.mem_flatMap];constructor
 ·rintro ⟨i,hi,h⟩
  obtain ⟨j,hj,rfl⟩:=bK.mp h;have hj:=b8.mp hj;exact ⟨i,j,hi,hj.1,dC hj.2,rfl⟩
 ·rintro ⟨i,j,hi,hj,ij,rfl⟩
  exact ⟨i,hi,bK.mpr ⟨j,b8.mpr ⟨hj,bu ij⟩,rfl⟩⟩
theorem PZ{ds:List Nat}(nd:ds.Nodup):∀{cs:List Nat},cs.Nodup→(nJ cs ds).Nodup
 | [],_=>wb
 | c::cs,h=>by
  have h':=gY.mp h;show ((ds.filter fun j=>decide (c<j)).map (fun j:Nat=>((c:Int),(j:Int)))++nJ cs ds).Nodup;refine fD.mpr ⟨?_,PZ nd h'.2,fun x hx y hy e=>?_⟩
  ·rw [kT,jG]
   exact (kT.mp (nd.filter _)).imp fun ne e=>ne (by injection e with _ e2;lia)
  ·obtain ⟨j,_,rfl⟩:=bK.mp hx
   obtain ⟨i,k,hi,_,_,rfl⟩:=BN.mp hy;injection e with e1 _;have:c=i:=by lia
   subst this;exact h'.1 hi
structure fh (n m s:Nat) (N0:List Nat) (FA FB:ak):Prop where
 pm:N0.Perm (List.range n)
 ms:m≤s
 sn:s≤n
 lA:Eu (N0.take s) (N0.take m) FA
 lB:Eu (N0.take m++N0.drop s) (N0.take m) FB
def fh.L(m:Nat)(N0:List Nat)(FA FB:ak):List (Int×Int):=nJ (N0.take m) (N0.take m)++FA++FB
section
variable {n m s:Nat} {N0:List Nat} {FA FB:ak} (h:fh n m s N0 FA FB)
include h
theorem fh.nd:N0.Nodup:=h.pm.nodup_iff.mpr fU
theorem fh.lt:∀x∈N0,x<n:=fun x hx=>aS.mp (h.pm.mem_iff.mp hx)
theorem fh.sub:∀x∈N0.take m,x∈N0.take s:=fun x hx=>(List.take_subset_take_left N0 h.ms) hx
theorem fh.apart:∀x∈N0.take s,x∉N0.drop s:=fun x hx hy=>by have:=h.nd;rw [←mB s N0] at this;exact (fD.mp this).2.2 x hx x hy rfl
theorem fh.rN:∀x∈N0.take s,x<n:=fun x hx=>h.lt x (List.mem_of_mem_take hx)
theorem fh.uA:∀x∈N0.take m,x<n:=fun x hx=>h.lt x (List.mem_of_mem_take hx)
theorem fh.ltB:∀x∈N0.take m++N0.drop s,x<n:=fun x hx=>by
 rcases cM.mp hx with z | z;·exact h.uA x z
 ·exact h.lt x (List.mem_of_mem_drop z)
theorem fh.glue:uv n (dP n (N0.take s)) (dP n (N0.take m++N0.drop s)) (dP n (N0.take m)) where
 hA:=uz _ _
 hB:=uz _ _
 hC:=uz _ _
 BJ:=fun x hx=>by
  rw [nI h.rN,nI h.ltB];have:x∈N0:=h.pm.mem_iff.mpr (aS.mpr hx);rw [←mB s N0] at this;rcases cM.mp this with z | z;·exact .inl z
  ·exact .inr (ei _ z)
 mC:=fun x=>by
  rw [nI h.rN,nI h.ltB,nI h.uA];constructor
  ·intro z
   exact ⟨h.sub x z,ja _ z⟩
  ·rintro ⟨z1,z2⟩
   rcases cM.mp z2 with z | z;·exact z
   ·exact absurd z (h.apart x z1)
theorem fh.mem{z:Int×Int}(hz:z∈fh.L m N0 FA FB):∃i j:Nat,i<j∧j<n∧z=((i:Int),(j:Int))∧((i∈N0.take s∧j∈N0.take s)∨(i∈N0.take m++N0.drop s∧j∈N0.take m++N0.drop s)):=by
 rcases cM.mp hz with hz | hz
 ·rcases cM.mp hz with hz | hz
  ·obtain ⟨i,j,hi,hj,ij,rfl⟩:=BN.mp hz
   exact ⟨i,j,ij,h.uA j hj,rfl,.inl ⟨h.sub i hi,h.sub j hj⟩⟩
  ·obtain ⟨i,j,hi,hj,ij,_,rfl⟩:=h.lA.mem z hz
   exact ⟨i,j,ij,h.rN j hj,rfl,.inl ⟨hi,hj⟩⟩
 ·obtain ⟨i,j,hi,hj,ij,_,rfl⟩:=h.lB.mem z hz
  exact ⟨i,j,ij,h.ltB j hj,rfl,.inr ⟨hi,hj⟩⟩
theorem fh.lLt:∀z∈fh.L m N0 FA FB,0≤z.1∧z.1<z.2∧z.2<(n:Int):=fun z hz=>by obtain ⟨i,j,ij,jn,rfl,_⟩:=h.mem hz;simp only;lia
theorem fh.lNd:(fh.L m N0 FA FB).Nodup:=by
 have yc:(N0.take m).Nodup:=List.Nodup.sublist (Cn _ _) h.nd;refine fD.mpr ⟨fD.mpr ⟨PZ yc yc,h.lA.nd,fun x hx y hy e=>?_⟩,h.lB.nd,fun x hx y hy e=>?_⟩
 ·subst e
  obtain ⟨i,j,hi,hj,_,rfl⟩:=BN.mp hx;obtain ⟨i',j',_,_,_,no,e⟩:=h.lA.mem _ hy;injection e with e1 e2;have:i=i':=by lia
  have:j=j':=by lia
  subst i' j';exact no ⟨hi,hj⟩
 ·subst e
  obtain ⟨i',j',bi,bj,_,no,e⟩:=h.lB.mem _ hy;subst e;rcases cM.mp hx with hx | hx
  ·obtain ⟨i,j,hi,hj,_,e⟩:=BN.mp hx
   injection e with e1 e2;have:i=i':=by lia
   have:j=j':=by lia
   subst i' j';exact no ⟨hi,hj⟩
  ·obtain ⟨i,j,hi,hj,_,_,e⟩:=h.lA.mem _ hx
   injection e with e1 e2;have:i=i':=by lia
   have:j=j':=by lia
   subst i' j';have both:∀x,x∈N0.take s→x∈N0.take m++N0.drop s→x∈N0.take m:=fun x a b=>(cM.mp b).resolve_right (h.apart x a);exact no ⟨both i hi bi,both j hj bj⟩
theorem fh.sep{L:ak}(pm:L.Perm (fh.L m N0 FA FB)):∀x y,aL n L x y→(x∈dP n (N0.take s)∧y∈dP n (N0.take s))∨(x∈dP n (N0.take m++N0.drop s)∧y∈dP n (N0.take m++N0.drop s)):=fun x y a=>by
 rw [nI h.rN,nI h.rN,nI h.ltB,nI h.ltB];rcases a.2.2 with e | e
 ·obtain ⟨i,j,_,_,e',r⟩:=h.mem (pm.mem_iff.mp e)
  injection e' with e1 e2;have:x=i:=by lia
  have:y=j:=by lia
  subst x y;exact r
 ·obtain ⟨i,j,_,_,e',r⟩:=h.mem (pm.mem_iff.mp e)
  injection e' with e1 e2;have:y=i:=by lia
  have:x=j:=by lia
  subst x y;exact r.imp (fun z=>⟨z.2,z.1⟩) (fun z=>⟨z.2,z.1⟩)
theorem fh.cl{L:ak}(pm:L.Perm (fh.L m N0 FA FB)):∀x∈dP n (N0.take m),∀y∈dP n (N0.take m),x≠y→aL n L x y:=fun x hx y hy xy=>by
 rw [nI h.uA] at hx hy;refine ⟨h.uA x hx,h.uA y hy,?_⟩;have one:∀a b:Nat,a∈N0.take m→b∈N0.take m→a<b→((a:Int),(b:Int))∈L:=fun a b ha hb ab=>pm.mem_iff.mpr (ja _ (ja _ (BN.mpr ⟨a,b,ha,hb,ab,rfl⟩)));rcases su x y with c | c;·exact .inl (one x y hx hy c)
 ·exact .inr (one y x hy hx (by lia))
end
theorem ig.congr{L L':ak}{S:List Nat}{L2:ak}(h:ig L S L2)(p:L'.Perm L):ig L' S L2:=⟨h.pw,fun z=>by rw [h.mem];simp only [p.mem_iff]⟩
theorem P1{H:Hp}{us vs:List V}{L M:ak}(h1:bT H us L)(h2:bT H vs M):bT H (us++vs) (L++M):=by
 refine ⟨by rw [cW,cW,h1.1,h2.1],fun k v p hv hp=>?_⟩
 have l1:=h1.1;by_cases c:k<us.length
 ·rw [gZ c] at hv
  rw [gZ (by lia)] at hp
  exact h1.2 k v p hv hp
 ·rw [iw (by lia)] at hv hp
  rw [←l1] at hp;exact h2.2 _ v p hv hp
end My
set_option maxRecDepth 100000
set_option maxHeartbeats 4000000
namespace My
open PySem L2
def top(i:Nat):Stmt:=PySem.Challenge.pw_bandwright_k30_whole_put_together.main.body.getD i (.Pass ⟨0,0,0,0⟩)
abbrev Ew:Stmt:=top 5
abbrev Ex:Stmt:=top 7
abbrev Ey:Stmt:=top 9
abbrev Ez:Stmt:=top 10
abbrev EA:Stmt:=top 11
abbrev EB:Stmt:=top 12
abbrev EC:Stmt:=top 13
abbrev ED:Stmt:=top 14
abbrev EE:Stmt:=top 15
abbrev EF:Stmt:=top 16
abbrev EG:Stmt:=top 19
abbrev EH:Stmt:=top 20
abbrev EI:Stmt:=top 21
abbrev EJ:Stmt:=top 22
abbrev EK:Stmt:=top 23
abbrev EL:Stmt:=top 24
abbrev EM:Stmt:=top 25
abbrev EN:Stmt:=top 26
abbrev EO:Stmt:=top 27
abbrev ER:Stmt:=top 28
abbrev ES:Stmt:=top 30
abbrev ET:Stmt:=top 31
abbrev EU:Stmt:=top 32
abbrev EV:Stmt:=top 33
abbrev EW:Stmt:=top 34
abbrev EX:Stmt:=top 35
abbrev EY:Stmt:=top 36
abbrev EZ:Stmt:=top 38
abbrev E1:Stmt:=top 39
abbrev E2:Stmt:=top 40
abbrev E3:Stmt:=top 41
abbrev E4:Stmt:=top 42
abbrev E5:Stmt:=top 43
abbrev E6:Stmt:=top 44
set_option genInjectivity false in
set_option genSizeOf false in
structure JH where
 uB:Addr
 ye:FuncData
 uC:Addr
 yf:FuncData
 uD:Addr
 yg:FuncData
 uE:Addr
 yh:FuncData
 uF:Addr
 yi:FuncData
 uG:Addr
 yj:FuncData
 uH:Addr
 yk:FuncData
 uI:Addr
 yl:FuncData
 uJ:Addr
 ym:FuncData
 uK:Addr
 yo:FuncData
 uL:Addr
 yp:FuncData
 uN:Addr
 yq:FuncData
 uO:Addr
 yr:FuncData
 uP:Addr
 yt:FuncData
 uQ:Addr
 yu:FuncData
 uR:Addr
 yw:FuncData
 uS:Addr
 yy:FuncData
 uT:Addr
 yA:FuncData
 uU:Addr
 yB:FuncData
 uV:Addr
 yC:FuncData
 uW:Addr
 yE:FuncData
 uX:Addr
 rO:FuncData
 uY:Addr
 yF:FuncData
 uZ:Addr
 yG:FuncData
 u4:Addr
 yH:FuncData
 u5:Addr
 yI:FuncData
 u6:Addr
 yJ:FuncData
 u7:Addr
 yK:FuncData
 u9:Addr
 yL:FuncData
 u_:Addr
 yM:FuncData
 va:Addr
 yN:FuncData
 vc:Addr
 yO:FuncData
 vd:Addr
 yP:FuncData
 rQ:Addr
 ve:FuncData
 l_:Addr
 yQ:Addr
abbrev da (mg:dq) (x:Str) (f:Addr):Prop:=mg x=some (.ref f)
abbrev P2 (K:aD) (a:Addr):Prop:=PySem.W.excIn K a [.type "ValueError",.type "Exception",.type "BaseException",.type "object"] "ValueError.__new__"=true
structure Txt (K:aD) (mg:dq) (t:JH):Prop where
 yR:a9 K "is_whole" Ew t.uB t.ye
 P4:Binds K t.ye ["thing"] []
 P5:da mg "is_whole" t.uB
 qj:a9 K "neighbours" Ex t.uC t.yf
 BO:Binds K t.yf ["shape"] []
 BP:da mg "neighbours" t.uC
 yS:a9 K "is_order" Ey t.uD t.yg
 P6:Binds K t.yg ["thing","n"] []
 P7:da mg "is_order" t.uD
 yT:a9 K "check_order" Ez t.uE t.yh
 P8:Binds K t.yh ["order","n"] []
 P9:da mg "check_order" t.uE
 yU:a9 K "turns_of" EA t.uF t.yi
 P_:Binds K t.yi ["order"] []
 Qa:da mg "turns_of" t.uF
 yW:a9 K "link_all" EB t.uG t.yj
 Qb:Binds K t.yj ["linked","places"] []
 Qc:da mg "link_all" t.uG
 vf:a9 K "later" EC t.uH t.yk
 JI:Binds K t.yk ["shape","order"] []
 JJ:da mg "later" t.uH
 yX:a9 K "filled" ED t.uI t.yl
 Qd:Binds K t.yl ["shape","order"] []
 Qe:da mg "filled" t.uI
 vg:a9 K "place_deeds" EE t.uJ t.ym
 JK:Binds K t.ym ["many"] []
 JL:da mg "place_deeds" t.uJ
 yY:a9 K "deeds" EF t.uK t.yo
 Qf:Binds K t.yo ["shape","order"] []
 Qg:da mg "deeds" t.uK
 rR:a9 K "check_size" EG t.uL t.yp
 E7:Binds K t.yp ["shape"] []
 E8:da mg "check_size" t.uL
 yZ:a9 K "still_near" EH t.uN t.yq
 Qh:Binds K t.yq ["linked","done","place"] []
 Qi:da mg "still_near" t.uN
 y4:a9 K "cost" EI t.uO t.yr
 Qj:Binds K t.yr ["shape","done","place"] []
 Qk:da mg "cost" t.uO
 vh:a9 K "rising_tuples" EJ t.uP t.yt
 JM:Binds K t.yt ["n"] []
 JN:da mg "rising_tuples" t.uP
 vi:a9 K "and_done" EK t.uQ t.yu
 JO:Binds K t.yu ["done","place"] []
 JP:da mg "and_done" t.uQ
 rS:a9 K "choices" EL t.uR t.yw
 E9:Binds K t.yw ["shape","done","worth_of"] []
 E_:da mg "choices" t.uR
 vj:a9 K "worths" EM t.uS t.yy
 JQ:Binds K t.yy ["shape"] []
 JR:da mg "worths" t.uS
 rT:a9 K "fewest" EN t.uT t.yA
 Fb:Binds K t.yA ["shape"] []
 Fc:da mg "fewest" t.uT
 y6:a9 K "keeps_to_costs" EO t.uU t.yB
 Ql:Binds K t.yB ["shape","done","worth_of"] []
 Qm:da mg "keeps_to_costs" t.uU
 y7:a9 K "shows_fewest" ER t.uV t.yC
 Qn:Binds K t.yC ["shape","order","worths"] []
 Qo:da mg "shows_fewest" t.uV
 rU:a9 K "is_perfect" ES t.uW t.yE
 Fd:Binds K t.yE ["shape","order"] []
 Fe:da mg "is_perfect" t.uW
 y8:a9 K "likely_order" ET t.uX t.rO
 Qp:Binds K t.rO ["shape"] []
 Qq:da mg "likely_order" t.uX
 y_:a9 K "walk_back" EU t.uY t.yF
 Qr:Binds K t.yF ["whence","place"] []
 Qs:da mg "walk_back" t.uY
 za:a9 K "unmet" EV t.uZ t.yG
 Qt:Binds K t.yG ["linked","whence","place"] []
 Qu:da mg "unmet" t.uZ
 zb:a9 K "ring_over" EW t.u4 t.yH
 Qv:Binds K t.yH ["linked","place","start"] []
 Qw:da mg "ring_over" t.u4
 zc:a9 K "bare_ring" EX t.u5 t.yI
 Qx:Binds K t.yI ["shape"] []
 Qy:da mg "bare_ring" t.u5
 vk:a9 K "perfect" EY t.u6 t.yJ
 JS:Binds K t.yJ ["shape"] []
 JT:da mg "perfect" t.u6
 zd:a9 K "_law_fill" EZ t.u7 t.yK
 Qz:Binds K t.yK ["_law_cell","_law_at"] []
 QA:da mg "_law_fill" t.u7
 nK:a9 K "_law_next" E1 t.u9 t.yL
 vn:Binds K t.yL ["_law_pen","_law_many"] []
 vp:da mg "_law_next" t.u9
 vt:a9 K "_law_turned" E2 t.u_ t.yM
 JU:Binds K t.yM ["_law_pen","_law_some"] []
 JV:da mg "_law_turned" t.u_
 vv:a9 K "_law_within" E3 t.va t.yN
 JW:Binds K t.yN ["_law_links","_law_places"] []
 JX:da mg "_law_within" t.va
 ze:a9 K "_law_cut" E4 t.vc t.yO
 QB:Binds K t.yO ["_law_order","_law_places"] []
 QC:da mg "_law_cut" t.vc
 zf:a9 K "_law_linked" E5 t.vd t.yP
 QD:Binds K t.yP ["_law_pen","_law_one","_law_common","_law_often"] []
 QE:da mg "_law_linked" t.vd
 zg:a9 K "law" E6 t.rQ t.ve
 abg:Binds K t.ve ["script"] []
 QF:da mg "law" t.rQ
 QG:da mg "NoOrder" t.l_
 QH:da mg "NoSize" t.yQ
 abh:mg "ValueError"=none
 zh:mg "all"=none
 abi:mg "any"=none
 QI:mg "bool"=none
 JY:mg "enumerate"=none
 Ff:mg "int"=none
 Fg:mg "isinstance"=none
 i8:mg "len"=none
 rV:mg "list"=none
 JZ:mg "max"=none
 Fh:mg "min"=none
 kB:mg "range"=none
 QJ:mg "reversed"=none
 abj:mg "set"=none
 oW:mg "sorted"=none
 Fi:mg "sum"=none
 zi:mg "tuple"=none
 QK:mg "zip"=none
 QL:∃u,mg "MOST"=some u∧RelV (.int 9) u
 QM:P2 K t.l_
 QN:P2 K t.yQ
 tab:L2.tabIn K t.rO 178=true
 QO:K.lookup 178=none
section
variable {P:Program} {w:World} {K:aD} {mg:dq} {base:Heap} {t:JH}
theorem abk:cG ["thing"] ["thing"] (bH Ew):=dt
theorem abl(T:Txt K mg t):cu P w K mg base dE 1 t.uB t.ye ["thing"] V1:=by
 have S:=abk;refine T.yR.ft S (fun _ _ _ _ H _ Q _ hr h=>?_);obtain ⟨v,rfl,ha,k⟩:=h;refine ⟨_,(aM (cF (GI (cZ (Hm (K:=K)) rfl T.Fg boot_isinstance (ah (pv 0) (ah (GG (v:=.ty "int") rfl T.Ff boot_int rfl) aj))) (GH (TL (cZ (Hm (K:=K)) rfl T.Fg boot_isinstance (ah (pv 0) (ah (GG (v:=.ty "bool") rfl T.QI boot_bool rfl) aj)))))))),?_⟩;obtain ⟨Ty,ty,k1,k2,_⟩:=ha.Hl (K:=K);refine ⟨_,rfl,_,_,_,_,rfl,rfl,ty,k1,_,rfl,d9 (fun h1=>?_) (fun h1=>?_)⟩
 ·refine ⟨_,rfl,_,_,_,_,rfl,rfl,ty,k2,_,rfl,?_⟩
  have e:(!xc v)=xb v:=by
   cases h2:xc v with
   | true=>rw [V0 h2];rfl
   | false=>rw [h2,Bool.or_false] at h1;rw [h1];rfl
  show Q (.bl (!xc v)) H;rw [e];exact k
 ·have e:xb v=false:=by
   cases h2:xb v with
   | true=>rw [h2] at h1;exact absurd rfl h1
   | false=>rfl
  rw [e] at k;exact k
theorem abm:cG ["shape","linked","i","j"] ["shape"] (bH Ex):=dt
theorem Fj(T:Txt K mg t):cu P w K mg base dE 1 t.uC t.yf ["shape"] XB:=by
 have S:=abm;refine T.qj.ft S (fun _ _ _ _ H _ _ _ hr h=>?_);obtain ⟨tp,n,L,rfl,⟨lt,us,fO,elt,hL⟩,ok,n9,kk⟩:=h;have hu:=iT (kW (show 1≤64 by decide) _) hr.units
 have QP:((List.range n).map fun i:Nat=>V.int (0+(i:Int))).length=n:=by rw [ay,cC]
 refine ⟨_,(aC (xf (i0:=1) (N:=["place"]) (ρ:=(fun σ=>[])) (gK [] rfl) rfl S.nd rfl (Or.inl rfl) (sY rfl T.kB (ah (cy iI (pv 0) aW) aj)) (fun _ _ _=>.nil) (fun _ _ _=>Xs))
  (aC (fZ fi rfl (Ua (cy iI (pv 0) aW)) (sW rfl (jI (dy (i:=2) S.nd rfl (Or.inl rfl)) (jI (dy (i:=3) S.nd rfl (Or.inl rfl)) sV)))
   (aC (xF hu (cy eY (pv 1) (pv 2)) (pv 3) jH rfl)
  (aM (xF hu (cy eY (pv 1) (pv 3)) (pv 2) jH rfl))))
  (aM (cF (pv 1))))),?_⟩
 refine eG (lG (Nt (xs:=(List.range n).map fun i:Nat=>V.int (0+(i:Int))) (n:=n) QP (fun R h=>⟨_,rfl,tp,_,_,_,rfl,rfl,.of fO,rfl,(n:Int),rfl,by lia,by lia,h _ _ (af.refl _) (by rw [en];exact Nd)⟩) (cV (by lia)) (fun _ i y Hx=>Hx y=some (.dK (dk []))∧H y=none) ?_ ?_ ?_))
 ·intro D i y Ha Hb ys ⟨h1,h2⟩ hy e f
  exact ⟨f y _ hy h1,h2⟩
 ·intro D i x hx Hc R sc _ kc
  refine fun p np=>kc p _ (fc (af.refl _) np) np ⟨_,ar⟩ ⟨ar,?_⟩;cases e:H p with
  | none=>rfl
  | some o=>rw [sc _ _ e] at np;cases np
 ·intro D ds H1 nD s1 inj hA eD
  have K0:eU H1 D n ds (fun _=>True) (fun _=>[]):=⟨eD,inj,fun i hi=>(hA i hi).2,fun i hi _=>(hA i hi).1.1,fun i _=>jT.nil n⟩;have fr:∀i,i<n→H (ds i)=none:=fun i hi=>(hA i hi).1.2;dsimp only [aQ];refine eG ⟨_,rfl,tp,_,_,_,rfl,rfl,.of (s1 _ _ fO),rfl,lt,rfl,⟨_,.of (s1 _ _ elt)⟩,?_⟩;refine Ug (K:=K) (a:=lt) (xs:=us) (fun k σ Hc=>∃(f:Nat→List Nat) (v2 v3:Option V),σ=[some (.ref tp),some (.ref D),v2,v3]∧af H Hc∧eU Hc D n ds (fun _=>True) f∧i6 n (L.take k) f) ⟨_,_,_,rfl,s1,K0,i6.nil n⟩ (fun k σ Hc _ ⟨_,_,_,_,sc,_⟩=>.of (sc _ _ elt)) ?_ ?_
  ·rintro k x σ Hc hx ⟨f,v2,v3,rfl,sc,KL,nb⟩
   have hk:k<L.length:=by rw [←hL.1];exact (bV.mp hx).1
   obtain ⟨b,rfl,eb⟩:=hL.2 k x L[k] hx (by simp [hk])
   have pk:=ok L[k] (aV hk);have tk:L.take (k+1)=L.take k++[L[k]]:=by rw [nX,aZ hk];rfl
   generalize L[k]=p at eb pk tk;obtain ⟨p1,p2⟩:=p;dsimp only at pk eb;obtain ⟨i,rfl⟩:=mH pk.1;obtain ⟨j,rfl⟩:=mH pk.2.2.1;have hi:i<n:=by lia
   have hj:j<n:=by lia
   refine ⟨b,_,rfl,.of (sc _ _ eb),rfl,_,_,rfl,_,_,rfl,rfl,?_⟩;obtain ⟨q1,K1⟩:=KL.put hi hj trivial n9;obtain ⟨q2,K2⟩:=K1.put hj hi trivial n9;refine ⟨_,rfl,_,rfl,D,_,_,_,rfl,rfl,.of KL.lst,KL.ix hi,_,rfl,_,_,rfl,q1,?_⟩;refine ⟨_,rfl,_,rfl,D,_,_,_,rfl,rfl,.of K1.lst,K1.ix hj,_,rfl,_,_,rfl,q2,?_⟩;have off:∀(Hx:Hp) (i:Nat) (o:HO),i<n→af H Hx→af H (upd Hx (ds i) o):=fun Hx i o hi sx a u e=>by
    rw [aE (fun z=>by rw [z,fr i hi] at e;cases e)]
    exact sx _ _ e
   exact ⟨_,_,_,rfl,off _ _ _ hj (off _ _ _ hi sc),K2,by rw [tk];exact nb.more hi hj⟩
  ·rintro σ Hc ⟨f,v2,v3,rfl,sc,KL,nb⟩
   rw [hL.1,iU] at nb;exact ⟨_,rfl,kk _ _ _ _ sc nD fr KL nb⟩
theorem abn:cG ["many"] ["many"] (bH EE):=dt
theorem QQ(T:Txt K mg t):cu P w K mg base dE 1 t.uJ t.ym ["many"] X7:=by have S:=abn;refine T.vg.ft S (fun _ _ _ _ H _ _ _ hr h=>?_);obtain ⟨m,rfl,m1,k⟩:=h;refine ⟨_,(aM (cF (cq jf (cq jf (cq mL (pv 0) (pv 0)) (cq mL aW (pv 0))) aW))),?_⟩;exact ⟨_,rfl,_,rfl,_,_,rfl,rfl,.inl ⟨by lia,by lia⟩,_,rfl,_,_,rfl,rfl,.inl ⟨by lia,by lia⟩,_,_,rfl,rfl,_,_,rfl,rfl,k⟩
theorem abo:cG ["shape"] ["shape"] (bH EG):=dt
theorem J0(T:Txt K mg t):cu P w K mg base (fG P w) 1 t.uL t.yp ["shape"] X8:=by
 have S:=abo;obtain ⟨uM,hM,rM⟩:=T.QL;refine T.rR.eN S (fun _ _ _ _ H _ _ _ hr h L=>?_);obtain ⟨tp,n,Lk,rfl,⟨lt,us,fO,elt,mQ⟩,n9,k⟩:=h;refine ⟨_,(aM (fF (fj tj (cy iI (pv 0) aW) (Tz (v:=.int 9) rfl hM rM)) (aM (M6 L rfl PySem.F.excBase_ValueError T.QN rfl T.QH (ah sQ aj))) fY)),?_⟩;refine ⟨_,rfl,tp,_,_,_,rfl,rfl,.of fO,rfl,_,_,rfl,rfl,_,rfl,d9 (fun hc=>?_) (fun hc=>?_)⟩
 ·have hc:(9:Int)<(n:Int):=dC hc
  lia
 ·exact k
theorem abp:cG ["thing","n"] ["thing","n"] (bH Ey):=dt
theorem abq(T:Txt K mg t):cu P w K mg base dE 2 t.uD t.yg ["thing","n"] XH:=by
 have S:=abp;refine T.yS.ft S (fun _ _ _ _ H _ _ _ hr h=>?_);obtain ⟨a,zs,n,rfl,ea,nM,n1,k⟩:=h;have ma:=hr.units
 refine ⟨_,(aC (fF (PW.pt (pw_or (wK (sS (cZ (Hm (K:=K)) rfl T.Fg boot_isinstance (ah (pv 0) (ah (GG (v:=.ty "list") rfl T.rV boot_list rfl) aj))))) (pw_or1 (wK (sS (cZ (AG (K:=K) rfl) rfl T.zh boot_all (ah (kg (N:=["place"]) (ρ:=(fun σ=>[])) (gK [] rfl) rfl (eX (pv 0)) (fun _ _ _=>.nil) (fun _ _ _=>(bF (abl T) hr T.P5 T.yR.kp T.P4 dc (ah (pv 0) aj)))) aj))))))) (aM (cF jH)) fY)
  (aM (cF (Ak (XD ma) (cZ DO rfl T.oW pJ (ah (pv 0) aj)) (iH (Di rfl) rfl T.rV boot_list (ah (iH AH rfl T.kB AJ (ah (pv 1) aj)) aj)))))),?_⟩
 refine ⟨_,rfl,_,_,_,true,rfl,rfl,.of (.lst ea),VZ,true,rfl,k_ ?_⟩;unfold Me tB;refine xg (V4 (xs:=zs.map V.int) (fun R h=>⟨_,rfl,a,rfl,⟨_,.of ea⟩,h _ _ (af.refl _) (kh (.of ea))⟩) (by rw [ay];exact cV (by lia)) (fun _ i y _=>y=.bl true) (fun _ _ _ _ _ _ h _ _=>h) ?_ ?_)
 ·intro D i v hi Hc R sc _ kc
  obtain ⟨z,rfl⟩:∃z:Int,v=.int z:=by
   rw [bz] at hi;cases e:zs[i]? with
   | none=>rw [e] at hi;cases hi
   | some z=>rw [e] at hi;exact ⟨z,(Option.some.inj hi).symm⟩
  exact ⟨_,rfl,.int z,rfl,.int z,kc _ Hc (af.refl _) rfl⟩
 ·intro D ys Hc sc iM hP eD
  refine ⟨D,List.replicate ys.length true,rfl,.of (by rw [eD];exact fv _ (fv _ (Wj hP))),?_⟩
  rw [Wl];refine ⟨true,rfl,k_ ?_⟩;dsimp only [qW];have eac:=sc _ _ ea;refine ⟨_,rfl,a,zs,rfl,eac,nM,fun ws D2 p o n2=>?_⟩;refine ⟨_,rfl,(n:Int),rfl,fun p1 J1=>⟨p1,n,rfl,ar,by lia,fun l nl=>?_⟩⟩
  have d1:D2≠p1:=fun z=>by rw [←z,ar] at J1;cases J1
  have d2:D2≠l:=fun z=>by rw [←z,aE d1,ar] at nl;cases nl
  refine ⟨D2,l,ws,(List.range n).map iN,rfl,rfl,.of ?_,.of ?_,?_⟩;·rw [aE d2,aE d1,ar]
  ·rw [ar]
   unfold dz;rw [cx];rfl
  ·rw [XG p o]
   exact k _ (DR (DR (DR sc n2) J1) nl)
theorem abt:cG ["order","n"] ["order","n"] (bH Ez):=dt
theorem abu(T:Txt K mg t):cu P w K mg base (fG P w) 3 t.uE t.yh ["order","n"] (XI t.l_):=by
 have S:=abt;refine T.yT.eN S (fun _ _ _ _ H _ _ _ hr h L=>?_);obtain ⟨a,zs,n,rfl,ea,nM,n1,kE,k⟩:=h;refine ⟨_,(aM (fF (wK (sS (bF (abq T) hr T.P7 T.yS.kp T.P6 dc (ah (pv 0) (ah (pv 1) aj))))) (aM (M6 L rfl PySem.F.excBase_ValueError T.QM rfl T.QG (ah sQ aj))) fY)),?_⟩;refine ⟨_,rfl,_,rfl,a,zs,n,rfl,ea,nM,n1,fun H1 s1=>⟨_,rfl,d9 (fun hb=>?_) (fun hb=>?_)⟩⟩;·exact ⟨by show 1≤sizeLine;decide,kE (by simpa using hb) _ s1⟩
 ·exact k (by simpa using hb) _ s1
theorem abv:cG ["order","turns","turn","place"] ["order"] (bH EA):=dt
theorem abw(T:Txt K mg t):cu P w K mg base dE 1 t.uF t.yi ["order"] XM:=by
 have S:=abv;refine T.yU.ft S (fun _ _ _ _ H _ _ _ hr h=>?_);obtain ⟨a,n,o,rfl,⟨ea,ho⟩,n1,kk⟩:=h;have lo:=t9 ho;have lm:(o.map fun k:Nat=>V.int (k:Int)).length=n:=by rw [ay,lo]
 refine ⟨_,(aC (putL 1 S.nd (cq MZ (gu (ah aW aj)) (cZ ke rfl T.i8 jb (ah (pv 0) aj))))
  (aC (fZ fi rfl (Nq rfl T.JY (ah (pv 0) aj)) (sW rfl (jI (dy (i:=2) S.nd rfl (Or.inl rfl)) (jI (dy (i:=3) S.nd rfl (Or.inl rfl)) sV)))
   (aM (@wM _ _ _ _ _ _ (pv 2) (Ai (pv 1) (pv 3) set_list) (by rfl) (by rfl) (by rfl))))
  (aM (cF (pv 1))))),?_⟩
 refine ⟨by show 1≤sizeLine;decide,fun l nl=>?_⟩
 have al:a≠l:=fun z=>by rw [z,nl] at ea;cases ea
 refine ⟨_,rfl,a,_,rfl,.inl (.of (by rw [aE al];exact ea)),l,_,_,rfl,rfl,ar,by lia,by rw [lm];lia,?_,fun c nc=>?_⟩
 ·rw [lm,en]
  show 1*n≤sizeLine;rw [iR];lia
 rw [lm,en,XQ n o];have QR:H c=none:=none_of (aK nl) nc;have s0:af H (upd (upd H l (.lst [.int 0])) c (.lst ((List.range n).map fun p=>V.int (lU o 0 p)))):=(aK nl).trans (aK nc);have e0:upd (upd H l (.lst [.int 0])) c (.lst ((List.range n).map fun p=>V.int (lU o 0 p))) c=_:=ar;generalize upd (upd H l (.lst [.int 0])) c (.lst ((List.range n).map fun p=>V.int (lU o 0 p)))=H0 at s0 e0 ⊢;dsimp only [aQ];refine eG ⟨_,rfl,a,rfl,⟨_,.of (s0 _ _ ea)⟩,?_⟩
 refine Nr (K:=K) (l:=a) (xs:=o.map fun k:Nat=>V.int (k:Int)) (fun i σ Hc=>af H Hc∧∃(v2 v3:Option V),σ=[some (.ref a),some (.ref c),v2,v3]∧Hc c=some (.lst ((List.range n).map fun p=>V.int (lU o i p))))
  ⟨s0,_,_,rfl,e0⟩ (fun i σ Hc ⟨z,_⟩=>.of (z _ _ ea)) ?_ ?_
 ·rintro i x σ Hc Tt hx ⟨sc,v2,v3,rfl,ec⟩ nT
  have hi:i<o.length:=by have:=(bV.mp hx).1;simpa using this
  have ex:x=.int ((o[i]:Nat):Int):=by rw [bz] at hx;simp [hi] at hx;exact hx.symm
  subst ex;have hp:o[i]<n:=(gR ho).mp (aV hi);have sT:af Hc (upd Hc Tt (.tup [.int (i:Int),.int ((o[i]:Nat):Int)])):=aK nT;have eT:upd Hc Tt (.tup [.int (i:Int),.int ((o[i]:Nat):Int)]) Tt=_:=ar;generalize upd Hc Tt (.tup [.int (i:Int),.int ((o[i]:Nat):Int)])=H1 at sT eT ⊢;refine ⟨Tt,_,rfl,.of eT,rfl,_,_,rfl,_,_,rfl,rfl,?_⟩;refine ⟨_,rfl,_,rfl,_,rfl,c,_,_,o[i],rfl,rfl,sT _ _ ec,by rw [ay,cC];exact N6 hp,?_⟩
  exact ⟨fc (sc.trans sT) QR,_,_,rfl,by rw [ar,XO ho hi]⟩
 ·rintro σ Hc ⟨sc,v2,v3,rfl,ec⟩
  rw [ay,XR ho] at ec;exact ⟨_,rfl,kk c Hc sc QR ec⟩
theorem abx:cG ["linked","places","one","other"] ["linked","places"] (bH EB):=dt
theorem aby(T:Txt K mg t):cu P w K mg base dE 1 t.uG t.yj ["linked","places"] XS:=by
 have S:=abx;refine T.yW.ft S (fun _ _ _ _ H _ _ _ hr h=>?_);obtain ⟨D,pl,n,ds,un,f,ps,rfl,KL,zl,hps,n9,kk⟩:=h;have hu:=iT (kW (show 1≤64 by decide) _) hr.units
 have cS:∀i,i<n→un i→pl≠ds i:=fun i hi ui z=>by rw [z,KL.at' i hi ui] at zl;cases zl
 have QS:∀{i:Nat} {x:V},(ps.map fun k:Nat=>V.int (k:Int))[i]?=some x→∃p:Nat,ps[i]?=some p∧x=.int (p:Int)∧p<n∧un p:=fun{i x} hx=>by
  rw [bz] at hx;cases e:ps[i]? with
  | none=>rw [e] at hx;cases hx
  | some p=>rw [e] at hx;exact ⟨p,rfl,(Option.some.inj hx).symm,hps p (kJ e)⟩
 refine ⟨_,(aM (fZ fi rfl (eX (pv 1)) (dy (i:=2) S.nd rfl (Or.inl rfl))
   (aM (fZ fi rfl (eX (pv 1)) (dy (i:=3) S.nd rfl (Or.inl rfl))
   (aM (fF (fj wR (pv 2) (pv 3)) (aM (xF hu (cy eY (pv 0) (pv 2)) (pv 3) jH rfl)) fY)))))),?_⟩
 refine ⟨_,rfl,pl,rfl,⟨_,.of zl⟩,?_⟩;refine mK (K:=K) (a:=pl) (xs:=ps.map fun k:Nat=>V.int (k:Int)) (fun i σ Hc=>∃(g:Nat→List Nat) (v2 v3:Option V),σ=[some (.ref D),some (.ref pl),v2,v3]∧rA n ds un H Hc∧eU Hc D n ds un g∧i7 n f ps i 0 g) ⟨f,_,_,rfl,.refl,KL,i7.start n f ps⟩ (fun i σ Hc _ ⟨_,_,_,_,oc,_⟩=>.of (oc _ _ zl cS)) ?_ ?_
 ·rintro i x σ Hc hx ⟨g,v2,v3,rfl,oc,Kc,la⟩
  obtain ⟨p,hp,rfl,pn,up⟩:=QS hx;refine ⟨_,rfl,pl,rfl,⟨_,.of (oc _ _ zl cS)⟩,?_⟩;refine mK (K:=K) (a:=pl) (xs:=ps.map fun k:Nat=>V.int (k:Int)) (fun j σ Hd=>∃(g:Nat→List Nat) (v3:Option V),σ=[some (.ref D),some (.ref pl),some (.int (p:Int)),v3]∧rA n ds un H Hd∧eU Hd D n ds un g∧i7 n f ps i j g) ⟨g,_,rfl,oc,Kc,la⟩ (fun i σ Hc _ ⟨_,_,_,oc,_⟩=>.of (oc _ _ zl cS)) ?_ ?_
  ·rintro j y σ Hd hy ⟨g,v3,rfl,od,Kd,la⟩
   obtain ⟨q,hq,rfl,qn,uq⟩:=QS hy;refine ⟨_,rfl,_,rfl,rfl,_,rfl,d9 (fun hb=>?_) (fun hb=>?_)⟩
   ·have ne:p≠q:=fun z=>by subst z;rw [tP,bu rfl] at hb;cases hb
    obtain ⟨q1,K1⟩:=Kd.put pn qn up n9;exact ⟨_,rfl,_,rfl,D,_,_,_,rfl,rfl,.of Kd.lst,Kd.ix pn,_,rfl,_,_,rfl,q1,_,_,rfl,od.put pn up,K1,la.put hp hq ne⟩
   ·have e:p=q:=by
     by_cases z:(p:Int)=(q:Int);·lia
     ·exact absurd (by rw [tP,bY z];rfl) hb
    subst e;exact ⟨_,_,rfl,od,Kd,la.same hp hq⟩
  ·rintro σ Hd ⟨g,v3,rfl,od,Kd,la⟩
   rw [ay] at la;exact ⟨g,_,_,rfl,od,Kd,la.row⟩
 ·rintro σ Hc ⟨g,v2,v3,rfl,oc,Kc,la⟩
  rw [ay] at la;exact kk _ g oc Kc la.done
theorem abA:cG ["shape","order","linked","turns","told","place"] ["shape","order"] (bH EC):=dt
theorem QT(T:Txt K mg t):cu P w K mg base (fG P w) 4 t.uH t.yk ["shape","order"] (Yk t.l_):=by
 have S:=abA;refine T.vf.eN S (fun _ _ _ _ H _ _ _ hr h L=>?_);obtain ⟨tp,a,n,Lk,zs,rfl,aJ⟩:=h;have hS:=aJ.1;have hL:=aJ.2.1;have ns:=aJ.2.2.1;have n60:=aJ.2.2.2.1;have ea:=aJ.2.2.2.2.1;have nM:=aJ.2.2.2.2.2.1;have kE:=aJ.2.2.2.2.2.2.1;have kk:=aJ.2.2.2.2.2.2.2;clear aJ;obtain ⟨lt,us,fO,elt,mQ⟩:=id hS
 refine ⟨_,(aC (je (bF (abu T) hr T.P9 T.yT.kp T.P8 (lh L) (ah (pv 1) (ah (cy iI (pv 0) aW) aj))))
  (gE.pM (aC (putL 2 S.nd (bF (Fj T) hr T.BP T.qj.kp T.BO dc (ah (pv 0) aj)))
  (aC (oG 3 S.nd (bF (abw T) hr T.Qa T.yU.kp T.P_ dc (ah (pv 1) aj)))
  (aC (xf (i0:=4) (N:=["place"]) (ρ:=(fun σ=>[])) (gK [] rfl) rfl S.nd rfl (Or.inl rfl) (eX (pv 1)) (fun _ _ _=>.nil) (fun _ _ _=>(gu aj)))
  (aC (fZ fi rfl (eX (pv 1)) (dy (i:=5) S.nd rfl (Or.inr rfl))
   (aC (@wM _ _ _ _ _ _ (cZ DO rfl T.oW pJ (ah (kg (N:=["other","turns","place"]) (ρ:=(fun σ=>[σ[3]?.join,σ[5]?.join])) (gK [3,5] rfl) rfl (xG (cy eY (pv 2) (pv 5))) (fun _ _ _=>(.one (fj tj (cy (Nm (K:=K)) (pv 1) (pv 0)) (cy (Nm (K:=K)) (pv 1) (pv 2))))) (fun _ _ _=>(pv 0))) aj)) (Ai (pv 4) (pv 5) set_list) (by rfl) (by rfl) (by rfl))
  (aM (je (bF (aby T) hr T.Qc T.yW.kp T.Qb dc (ah (pv 2) (ah (cy eY (pv 4) (pv 5)) aj)))))))
  (aM (cF (pv 4))))))))),?_⟩
 refine ⟨_,rfl,_,rfl,tp,_,_,_,rfl,rfl,.of fO,rfl,a,zs,n,rfl,ea,nM,by lia,fun no H1 s1=>kE no H1 s1,fun yes H1 s1=>?_⟩
 obtain ⟨o,rfl,ho⟩:=XZ yes;have kk:=kk o rfl ho;have lo:=t9 ho;have nd:=p_ ho;have BQ:H a=some (.lst (o.map fun k:Nat=>V.int (k:Int))):=by rw [ea,cx];rfl
 have lm:(o.map fun k:Nat=>V.int (k:Int)).length=n:=by rw [ay,lo]
 refine ⟨_,rfl,tp,n,Lk,rfl,⟨lt,us,s1 _ _ fO,s1 _ _ elt,mQ.mono s1⟩,hL,by lia,fun H2 D ds f s2 nD rW KL nb=>?_⟩
 have nD0:=none_of s1 nD;have QU:∀i,i<n→H (ds i)=none:=fun i hi=>none_of s1 (rW i hi);have iq:=s1.trans s2;dsimp only [aQ];refine ⟨_,rfl,a,n,o,rfl,⟨iq _ _ BQ,ho⟩,by lia,fun tr H3 s3 ntr e3=>?_⟩
 have jD:=iq.trans s3;have ah8:=none_of iq ntr;have K3:=KL.mono s3;dsimp only [aQ];refine eG (lG (Nt (xs:=o.map fun k:Nat=>V.int (k:Int)) (n:=n) lm (fun R h=>⟨_,rfl,a,rfl,⟨_,.of (jD _ _ BQ)⟩,h _ _ (af.refl _) (kh (.of (jD _ _ BQ)))⟩) (cV (by lia)) (fun _ i y Hx=>H3 y=none) (fun _ _ _ _ _ _ h _ _ _=>h) ?_ ?_))
 ·intro D' i x hx Hc R sc _ kc
  refine ⟨by show 0≤sizeLine;exact bG _,fun p np=>kc p _ (aK np) np ⟨_,ar⟩ (none_of sc np)⟩
 ·intro c rs0 H4 nc s4 _ hA ec
  have kC:=jD.trans s4;have QV:=none_of jD nc;have K4:=K3.mono s4;have e4:=s4 _ _ e3;have cD:c≠D:=fun z=>by rw [z,K3.lst] at nc;cases nc
  have ctr:c≠tr:=fun z=>by rw [z,e3] at nc;cases nc
  dsimp only [aQ];refine eG ⟨_,rfl,a,rfl,⟨_,.of (kC _ _ BQ)⟩,?_⟩
  refine mK (K:=K) (a:=a) (xs:=o.map fun k:Nat=>V.int (k:Int)) (fun k σ Hc=>∃(rs:Nat→Addr) (f g:Nat→List Nat) (v5:Option V),σ=[some (.ref tp),some (.ref a),some (.ref D),some (.ref tr),some (.ref c),v5]∧af H Hc∧eU Hc D n ds (fun p=>k≤o.idxOf p) f∧Hc tr=some (.lst ((List.range n).map fun p=>V.int (o.idxOf p:Int)))∧Hc c=some (.lst ((List.range n).map fun p=>V.ref (rs p))) ∧
    (∀p,p<n→o.idxOf p<k→H (rs p)=none∧rs p≠c∧Hc (rs p)=some (.lst ((g p).map fun k:Nat=>V.int (k:Int)))∧jy n o p (g p)∧lY n Lk o p (g p))∧ue n Lk o k f) ⟨rs0,f,fun _=>[],_,rfl,kC,K4.less (fun _ _ _=>trivial),e4,ec,fun p _ h=>absurd h (mq _),ue.start nb ns⟩ (fun k σ Hc _ ⟨_,_,_,_,_,sc,_⟩=>.of (sc _ _ BQ)) ?_ ?_
  ·rintro k x σ Hc hx ⟨rs,f,g,v5,rfl,aX⟩
   have sc:=aX.1;have Kc:=aX.2.1;have J2:=aX.2.2.1;have Fl:=aX.2.2.2.1;have done:=aX.2.2.2.2.1;have J3:=aX.2.2.2.2.2;clear aX;have hk:k<o.length:=by have:=(bV.mp hx).1;simpa using this
   have ex:x=.int ((o[k]:Nat):Int):=by rw [bz] at hx;simp [hk] at hx;exact hx.symm
   subst ex;have hp:o[k]<n:=(gR ho).mp (aV hk);have ip:o.idxOf o[k]=k:=DS nd hk;generalize o[k]=p at hp ip ⊢;dsimp only [aQ];have Fm:=Kc.at' p hp (by lia)
   refine eG (lG (xg (DU ⟨_,rfl,_,rfl,D,_,_,_,rfl,rfl,.of Kc.lst,Kc.ix hp,ds p,dk (f p),rfl,.inl ⟨Fm,fun ob=>?_⟩⟩)));have Kf:eU (upd Hc (ds p) (.bE ob (.dK (dk (f p))))) D n ds (fun q=>k+1≤o.idxOf q) f:=(Kc.less (fun i hi (ui:k+1≤o.idxOf i)=>show k≤o.idxOf i by lia)).upd (Kc.ne p hp) (fun i hi (ui:k+1≤o.idxOf i) z=>by have:=Kc.inj i p hi hp z;subst this;lia)
   have J4:∀{b:Addr} {xs:List V},Hc b=some (.lst xs)→b≠ds p:=fun{b xs} e z=>by rw [z,Fm] at e;cases e
   have Fn:upd Hc (ds p) (.bE ob (.dK (dk (f p)))) tr=_:=(aE (J4 J2)).trans J2;have zo:upd Hc (ds p) (.bE ob (.dK (dk (f p)))) c=_:=(aE (J4 Fl)).trans Fl;have sf:af H (upd Hc (ds p) (.bE ob (.dK (dk (f p))))):=fun b u e=>by
    rw [aE (fun z=>by rw [z,QU p hp] at e;cases e)]
    exact sc _ _ e
   have J5:∀q,q<n→o.idxOf q<k→H (rs q)=none∧rs q≠c∧upd Hc (ds p) (.bE ob (.dK (dk (f p)))) (rs q)=some (.lst ((g q).map fun k:Nat=>V.int (k:Int)))∧jy n o q (g q)∧lY n Lk o q (g q):=fun q hq Fo=>by obtain ⟨d1,d2,d3,d4⟩:=done q hq Fo;exact ⟨d1,d2,(aE (J4 d3)).trans d3,d4⟩
   have iO:upd Hc (ds p) (.bE ob (.dK (dk (f p)))) (ds p)=some (.bE ob (.dK (dk (f p)))):=ar;generalize upd Hc (ds p) (.bE ob (.dK (dk (f p))))=Hf at Kf Fn zo sf J5 iO ⊢;have zp:=Kc.pl p hp;refine Iw iO (fun q=>decide ((o.idxOf p:Int)<(o.idxOf q:Int))) (iT zp.len (cV (by lia))) ?_ ?_ ?_
   ·intro q hq Hx R sx hR
    have qn:=zp.2 q hq;exact ⟨_,rfl,_,rfl,tr,_,_,_,rfl,rfl,.of (sx _ _ Fn),qa qn,_,rfl,_,rfl,tr,_,_,_,rfl,rfl,.of (sx _ _ Fn),qa hp,_,_,rfl,rfl,_,rfl,hR⟩
   ·intro q hq Hx R hR
    exact ⟨_,rfl,hR⟩
   ·intro D1 H1 nD1 QW QX
    rw [X4] at QX;have fl:((f p).filter fun q=>decide (o.idxOf p<o.idxOf q)).length≤n:=bU (nW _ _) zp.len;refine ⟨D1,((f p).filter fun q=>decide (o.idxOf p<o.idxOf q)).map iN,rfl,by rw [QX,cx];rfl,by rw [ay];lia,fun ws D2 pw so vw=>?_⟩
    obtain ⟨ms,rfl,pm⟩:=N8 pw;have Fp:=XY zp pm so;have hm:∀q,q∈ms↔q∈f p∧k<o.idxOf q:=fun q=>by rw [pm.mem_iff,b8,fT,ip]
    have abF:lY n Lk o p ms:=fun q=>by
     rw [hm q,ip];constructor
     ·rintro ⟨h1,h2⟩
      have qn:=zp.2 q h1;exact ⟨qn,h2,((J3 p q hp qn (by lia) (by lia)).mp h1).2⟩
     ·rintro ⟨h1,h2,h3⟩
      exact ⟨(J3 p q hp h1 (by lia) (by lia)).mpr ⟨fun e=>by subst e;lia,h3⟩,h2⟩
    have vy:af Hf (upd H1 D2 (.lst ((ms.map iN).map V.int))):=DR QW vw;have iu:upd H1 D2 (.lst ((ms.map iN).map V.int)) D2=some (.lst (ms.map fun k:Nat=>V.int (k:Int))):=by rw [ar,cx];rfl
    have J6:Hf D2=none:=none_of QW vw;have abG:H D2=none:=none_of sf J6;generalize upd H1 D2 (.lst ((ms.map iN).map V.int))=Hg at vy iu ⊢;have QY:D2≠c:=fun z=>by rw [z,zo] at J6;cases J6
    refine ⟨_,rfl,_,rfl,c,_,_,p,rfl,rfl,vy _ _ zo,by rw [ay,cC];exact N6 hp,?_⟩
    rw [X0];have Kg:=Kf.mono vy;have Kh:eU (upd Hg c (.lst ((List.range n).map fun q=>V.ref (lV rs p D2 q)))) D n ds (fun q=>k+1≤o.idxOf q) f:=Kg.upd cD (fun i hi ui z=>by have:=Kg.at' i hi ui;rw [z,vy _ _ zo] at this;cases this)
    have sh:af H (upd Hg c (.lst ((List.range n).map fun q=>V.ref (lV rs p D2 q)))):=fc (sf.trans vy) QV;have J7:upd Hg c (.lst ((List.range n).map fun q=>V.ref (lV rs p D2 q))) c=_:=ar;have QZ:upd Hg c (.lst ((List.range n).map fun q=>V.ref (lV rs p D2 q))) tr=_:=(aE (Ne.symm ctr)).trans (vy _ _ Fn);have J8:upd Hg c (.lst ((List.range n).map fun q=>V.ref (lV rs p D2 q))) D2=_:=(aE QY).trans iu;have Q0:∀q,q<n→o.idxOf q<k→upd Hg c (.lst ((List.range n).map fun q=>V.ref (lV rs p D2 q))) (rs q)=some (.lst ((g q).map fun k:Nat=>V.int (k:Int))):=fun q hq Fo=>by obtain ⟨d1,d2,d3,d4⟩:=J5 q hq Fo;exact (aE d2).trans (vy _ _ d3)
    generalize upd Hg c (.lst ((List.range n).map fun q=>V.ref (lV rs p D2 q)))=Hh at Kh sh J7 QZ J8 Q0 ⊢;refine ⟨_,rfl,_,rfl,_,rfl,c,_,_,_,rfl,rfl,.of J7,qa hp,?_⟩;rw [N_];refine ⟨D,D2,n,ds,_,f,ms,rfl,Kh,J8,fun q hq=>⟨Fp.lt q hq,by have:=Fp.la q hq;lia⟩,by lia,fun H5 g5 off K5 con=>?_⟩
    have cS:∀{b:Addr} {xs:List V},Hh b=some (.lst xs)→H5 b=some (.lst xs):=fun{b xs} e=>off _ _ e fun i hi ui z=>by rw [z,Kh.at' i hi ui] at e;cases e
    refine ⟨lV rs p D2,g5,gQ g p ms,_,rfl,fun b u e=>off _ _ (sh _ _ e) (fun i hi _ z=>by rw [z,QU i hi] at e;cases e),K5,cS QZ,cS J7,fun q hq Fo=>?_,J3.step ho hp ip hm Fp.lt con⟩
    by_cases e:q=p
    ·subst e
     rw [N_,X2];exact ⟨abG,QY,cS J8,Fp,abF⟩
    ·rw [X1 e,X3 e]
     have ne:=ni ho hq hp e;have Q1:o.idxOf q<k:=by lia
     obtain ⟨d1,d2,d3,d4⟩:=J5 q hq Q1;exact ⟨d1,d2,cS (Q0 q hq Q1),d4⟩
  ·rintro σ Hc ⟨rs,f,g,v5,rfl,ba⟩
   have sc:=ba.1;have Kc:=ba.2.1;have J2:=ba.2.2.1;have Fl:=ba.2.2.2.1;have done:=ba.2.2.2.2.1;clear ba;rw [lm] at done;have lt:∀p,p<n→o.idxOf p<n:=fun p hp=>by have:=(A9 ((gR ho).mpr hp)).1;lia
   exact ⟨_,rfl,kk Hc c rs g sc QV (fun p hp=>(done p hp (lt p hp)).1) ⟨Fl,fun p hp=>(done p hp (lt p hp)).2.2.1⟩ fun p hp=>(done p hp (lt p hp)).2.2.2⟩
theorem abH:cG ["shape","order","links","place","others"] ["shape","order"] (bH ED):=dt
theorem abI(T:Txt K mg t):cu P w K mg base (fG P w) 5 t.uI t.yl ["shape","order"] (Yn t.l_):=by
 have S:=abH;refine T.yX.eN S (fun _ _ _ _ H _ _ _ hr h L=>?_);obtain ⟨tp,a,n,Lk,zs,rfl,hS,hL,ns,n9,ea,nM,kE,kk⟩:=h;obtain ⟨lt,us,fO,elt,mQ⟩:=id hS
 refine ⟨_,(aC (putL 2 S.nd (gu aj))
  (aC (fZ (Iz L) rfl (Nq rfl T.JY (ah (bF (QT T) hr T.JJ T.vf.kp T.JI (lh L) (ah (pv 0) (ah (pv 1) aj))) aj)) (sW rfl (jI (dy (i:=3) S.nd rfl (Or.inr rfl)) (jI (dy (i:=4) S.nd rfl (Or.inl rfl)) sV)))
   (aM (je (jM jc PySem.F.slot_list_extend PySem.F.type_list_extend Vi (pv 2) (ah (kg (N:=["other","place"]) (ρ:=(fun σ=>[σ[3]?.join])) (gK [3] rfl) rfl (eX (pv 4)) (fun _ _ _=>.nil) (fun _ _ _=>(iG (ah (cZ (Ut rfl) rfl T.Fh boot_min (ah (pv 1) (ah (pv 0) aj))) (ah (cZ (Us rfl) rfl T.JZ boot_max (ah (pv 1) (ah (pv 0) aj))) aj))))) aj)))))
  (aM (cF (iG (ah (cy iI (pv 0) aW) (ah (iH C5 rfl T.zi boot_tuple (ah (cZ HZ rfl T.oW pJ (ah (pv 2) aj)) aj)) aj))))))),?_⟩
 refine ⟨bG _,fun l nl=>?_⟩;have s0:af H (upd H l (.lst [])):=aK nl;have el:upd H l (.lst []) l=some (.lst []):=ar;generalize upd H l (.lst [])=H0 at s0 el ⊢;dsimp only [aQ];refine eG ⟨_,rfl,_,rfl,tp,a,n,Lk,zs,rfl,hS.mono s0,hL,ns,by lia,s0 _ _ ea,nM,fun no H1 s1=>kE no H1 (s0.trans s1),fun o ez ho H1 D rs g s1 nD Q2 la ok=>?_⟩
 have kk:=kk o ez ho;have lR:∀p,p<n→lY n Lk o p (g p):=fun p hp=>(ok p hp).2;have ok:∀p,p<n→jy n o p (g p):=fun p hp=>(ok p hp).1;have A2:=Ym ho n9 ok;have BR:∀p,p<n→rs p≠l:=fun p hp z=>by have:=Q2 p hp;rw [z,el] at this;cases this
 have Fq:D≠l:=fun z=>by rw [z,el] at nD;cases nD
 have zq:((List.range n).map fun p=>V.ref (rs p)).length=n:=by rw [ay,cC]
 refine ⟨D,rfl,⟨_,.of la.1⟩,?_⟩
 refine Nr (K:=K) (l:=D) (xs:=(List.range n).map fun p=>V.ref (rs p)) (fun k σ Hc=>∃(xs:List V) (M:ak) (v3 v4:Option V),σ=[some (.ref tp),some (.ref a),some (.ref l),v3,v4]∧af H Hc∧N9 Hc D n rs g∧Hc l=some (.lst xs)∧DX Hc g k xs M)
  ⟨[],[],_,_,rfl,s0.trans s1,la,s1 _ _ el,⟨⟨rfl,fun k v p h=>by cases h⟩,rfl,fun z=>⟨(fun h=>by cases h),fun⟨p,q,h,_⟩=>absurd h (mq _)⟩,wb⟩⟩ (fun k σ Hc ⟨_,_,_,_,_,_,z,_⟩=>.of z.1) ?_ ?_
 ·rintro k x σ Hc Tt hx ⟨xs,M,v3,v4,rfl,sc,lc,i9,so⟩ nT
  have hk:k<n:=by have:=(bV.mp hx).1;rw [zq] at this;exact this
  have ex:x=.ref (rs k):=by rw [bz,mr hk] at hx;exact (Option.some.inj hx).symm
  subst ex;have sT:af Hc (upd Hc Tt (.tup [.int (k:Int),.ref (rs k)])):=aK nT;have eT:upd Hc Tt (.tup [.int (k:Int),.ref (rs k)]) Tt=_:=ar;generalize upd Hc Tt (.tup [.int (k:Int),.ref (rs k)])=H2 at sT eT ⊢;have ek:=ok k hk;have lg:(g k).length≤30:=bU (Iy ho ek) (by lia)
  have e2:=sT _ _ (lc.2 k hk);refine ⟨Tt,_,rfl,.of eT,rfl,_,_,rfl,_,_,rfl,rfl,?_⟩;refine ⟨_,rfl,.inl ⟨rfl,_,.of (sT _ _ i9)⟩,rf (xs:=(g k).map fun k:Nat=>V.int (k:Int)) (fun R h=>⟨_,rfl,rs k,rfl,⟨_,.of e2⟩,h _ _ (af.refl _) (kh (.of e2))⟩) (by rw [ay];exact cV (by lia)) (fun _ i y Hz=>∃(b:Addr) (q:Nat),y=.ref b∧(g k)[i]?=some q∧Hz b=some (.tup [.int (dI k q).1,.int (dI k q).2])) (fun Dd i y Ha Hb ys ⟨b,x,h1,h2,h3⟩ e f=>⟨b,x,h1,h2,f b _ (fun z=>by rw [z,e] at h3;cases h3) h3⟩) ?_ ?_⟩
  ·intro Dd i x hx Hz R sz _ kz
   obtain ⟨q,hq,rfl⟩:∃q:Nat,(g k)[i]?=some q∧x=.int (q:Int):=by
    rw [bz] at hx;cases e:(g k)[i]? with
    | none=>rw [e] at hx;cases hx
    | some q=>rw [e] at hx;exact ⟨q,rfl,(Option.some.inj hx).symm⟩
   refine ⟨_,rfl,_,rfl,_,_,rfl,_,rfl,_,rfl,_,_,rfl,by show 2≤sizeLine;decide,fun tp ntp=>?_⟩
   exact kz _ _ (aK ntp) ⟨tp,q,rfl,hq,ar⟩
  ·intro Dd ys H3 BS s3 i_ iM oX
   rw [ay] at i_;have lM:M.length≤435:=by rw [so.len];exact bU (X6 (g:=fun p=>(g p).length) (jY hk)) A2
   have lx:=so.at'.1;have vz:=s3 _ _ (sT _ _ i9);refine ⟨l,Dd,xs,ys,rfl,rfl,vz,oX,bU (show _≤900 by lia) (by decide),?_⟩
   have k9:∀b o,b≠l→H3 b=some o→upd H3 l (.lst (xs++ys)) b=some o:=fun b o nb e=>by rw [aE nb];exact e
   have Ft:=sc.trans (sT.trans s3);refine ⟨xs++ys,M++(g k).map (dI k),_,_,rfl,fun b u e=>k9 b u (fun z=>by rw [z,nl] at e;cases e) (Ft _ _ e),⟨k9 _ _ Fq (s3 _ _ (sT _ _ lc.1)),fun p hp=>k9 _ _ (BR p hp) (s3 _ _ (sT _ _ (lc.2 p hp)))⟩,ar,so.more (fun h=>((h.mono sT).mono s3).cS vz k9) hk ok ?_⟩
   refine bT.cS (H:=H3) ⟨by rw [i_,ay],fun i v p h1 h2=>?_⟩ vz k9
   obtain ⟨b,q,rfl,hq,e⟩:=iM i v h1;rw [bz,hq] at h2;cases h2;exact ⟨b,rfl,e⟩
 ·rintro σ Hc ⟨xs,M,v3,v4,rfl,sc,lc,i9,so⟩
  rw [zq] at so;have lM:M.length≤435:=by rw [so.len];exact A2
  have lx:=so.at'.1;have bM:∀z∈M,0≤z.2∧z.2<1000:=fun z hz=>by obtain ⟨p,q,h1,h2,rfl⟩:=(so.mem z).mp hz;have:=X5 h1 ((ok p h1).lt q h2);lia
  refine ⟨_,rfl,tp,_,_,_,rfl,rfl,.of (sc _ _ fO),rfl,_,rfl,?_⟩;dsimp only [tE];refine IK i9 so.at' (by lia) bM fun l' ws N H3 s3 xK BU hN pN oN=>?_
  have s4:=sc.trans s3;refine ⟨l',ws,rfl,.inl ⟨.of BU,fun lt BV=>?_⟩⟩;have kd:af H3 (upd H3 lt (.tup ws)):=aK BV;have Q3:upd H3 lt (.tup ws) lt=some (.tup ws):=ar;generalize upd H3 lt (.tup ws)=Hd at kd Q3 ⊢;refine ⟨by show 2≤sizeLine;decide,fun tq jX=>?_⟩
  have st:af Hd (upd Hd tq (.tup [.int (n:Int),.ref lt])):=aK jX;have s5:=s4.trans (kd.trans st);have bN:∀z∈N,0≤z.2∧z.2<1000:=fun z hz=>bM z (pN.mem_iff.mp hz);refine kk _ tq N s5 (none_of (s4.trans kd) jX) ⟨lt,ws,ar,st _ _ Q3,(hN.mono kd).mono st⟩ ⟨Yl oN (pN.nodup_iff.mpr so.nd) bN,fun z=>?_⟩ (by rw [pN.length_eq];lia)
  rw [pN.mem_iff,so.mem];constructor
  ·rintro ⟨p,q,h1,h2,h3⟩
   obtain ⟨w1,w2,w3⟩:=(lR p h1 q).mp h2;exact ⟨p,q,h1,w1,w2,w3,h3⟩
  ·rintro ⟨p,q,h1,w1,w2,w3,h3⟩
   exact ⟨p,q,h1,(lR p h1 q).mpr ⟨w1,w2,w3⟩,h3⟩
theorem abK:cG ["shape","order"] ["shape","order"] (bH ES):=dt
theorem J9(T:Txt K mg t):cu P w K mg base (fG P w) 6 t.uW t.yE ["shape","order"] (Yu t.l_):=by have S:=abK;refine T.rU.eN S (fun _ _ _ _ H _ _ _ hr h L=>?_);obtain ⟨tp,a,n,Lk,zs,rfl,hS,hL,ns,n9,ea,nM,kE,kk⟩:=h;have ma:=hr.units;refine ⟨_,(aM (cF (Ak (Yr ma) (bF (abI T) hr T.Qe T.yX.kp T.Qd (lh L) (ah (pv 0) (ah (pv 1) aj))) (pv 0)))),?_⟩;refine ⟨_,rfl,_,rfl,tp,a,n,Lk,zs,rfl,hS,hL,ns,n9,ea,nM,kE,fun o ez ho H1 t1 M s1 _ h1 fs _=>?_⟩;exact ⟨_,rfl,t1,tp,n,M,Lk,rfl,rfl,h1,hS.mono s1,kk o ez ho _ _ s1 fs⟩
theorem abL:cG ["shape","order"] ["shape","order"] (bH EF):=dt
theorem abM(T:Txt K mg t):cu P w K mg base (fG P w) 5 t.uK t.yo ["shape","order"] (YM t.l_):=by
 have S:=abL;refine T.yY.eN S (fun _ _ _ _ H _ _ _ hr h L=>?_);obtain ⟨tp,a,n,Lk,zs,rfl,hS,hL,ns,n9,ea,nM,kE,kk⟩:=h
 refine ⟨_,(aC (cF (cZ (HE (K:=K) rfl) rfl T.Fi boot_sum (ah (kg (N:=["others"]) (ρ:=(fun σ=>[])) (gK [] rfl) rfl (eX (bF (QT T) hr T.JJ T.vf.kp T.JI (lh L) (ah (pv 0) (ah (pv 1) aj)))) (fun _ _ _=>.nil) (fun _ _ _=>(bF (QQ T) hr T.JL T.vg.kp T.JK dc (ah (cZ (Wi (K:=K)) rfl T.i8 jb (ah (pv 0) aj)) aj)))) aj)))
  (gE.pM fY)),?_⟩
 refine pW (xg (DU ⟨_,rfl,_,rfl,tp,a,n,Lk,zs,rfl,hS,hL,ns,by lia,ea,nM,kE,fun o ez ho H1 D rs g s1 nD Q2 la ok=>⟨D,rfl,⟨_,.of la.1⟩,?_⟩⟩))
 have zq:((List.range n).map fun p=>V.ref (rs p)).length=n:=by rw [ay,cC]
 refine rf (xs:=(List.range n).map fun p=>V.ref (rs p)) (fun R h=>h _ _ (af.refl _) (kh (.of la.1))) (by rw [zq];exact cV (by lia)) (fun _ i y _=>y=.int (((g i).length:Int)*(g i).length+3*(g i).length+1)) (fun _ _ _ _ _ _ h _ _=>h) ?_ ?_
 ·intro D' k x hx Hc R sc _ kc
  have hk:k<n:=by have:=(bV.mp hx).1;rw [zq] at this;exact this
  have ex:x=.ref (rs k):=by rw [bz,mr hk] at hx;exact (Option.some.inj hx).symm
  subst ex;have lg:(g k).length≤30:=bU (Iy ho (ok k hk).1) (by lia)
  refine ⟨_,rfl,rs k,_,rfl,.inl (.of (sc _ _ (la.2 k hk))),(g k).length,by rw [ay];rfl,by lia,kc _ Hc (af.refl _) rfl⟩
 ·intro D' ys Hc nD' sc i_ iM Er
  rw [zq] at i_;have ey:ys=((List.range n).map fun i=>((g i).length:Int)*(g i).length+3*(g i).length+1).map V.int:=by
   refine iy (by simp [i_]) fun i h1 h2=>?_
   rw [iV,iV,qK];exact iM i _ (aZ h1)
  have es:((List.range n).map fun i=>((g i).length:Int)*(g i).length+3*(g i).length+1).sum=((((List.range n).map fun i=>(g i).length*(g i).length+3*(g i).length+1).sum:Nat):Int):=by
   generalize List.range n=l;clear ey iM i_ kk
   induction l with
   | nil=>rfl
   | cons x l ih=>rw [cO,d7,cO,d7,ih];push_cast;rfl
  refine ⟨D',_,rfl,.of (by rw [Er,ey]),?_⟩
  rw [es];exact kk o ez ho _ (s1.trans sc) _ fun M fs=>Ow ho fs ok
abbrev nN:Pos:=(⟨118,30,118,55⟩:Pos)
theorem abN:cG ["shape","linked","left","counts","picked","place","other"] ["shape"] (bH ET):=dt
theorem abO(T:Txt K mg t)(hB:nC base mg):cu P w K mg base dE 3 t.uX t.rO ["shape"] (aas 178 nN):=by
 have S:=abN;refine T.y8.Ef T.tab S (fun vs H Q E h=>?_) (fun c A outer s H vs Q E hC hr h=>?_)
 ·obtain ⟨tp,n,L,rfl,_⟩:=h
  rfl
 ·obtain ⟨tp,n,L,rfl,aJ⟩:=h
  have fb:=aJ.1;have di:=aJ.2.1;have n9:=aJ.2.2.1;have tab:=aJ.2.2.2.1;have kk:=aJ.2.2.2.2;clear aJ;have ma:=hr.units;obtain ⟨lt,us,fO,elt,mQ⟩:=id fb
  refine ⟨_,(aC (putL 1 S.nd (bF (Fj T) hr T.BP T.qj.kp T.BO dc (ah (pv 0) aj)))
   (aC (putL 2 S.nd (iH (Di rfl) rfl T.rV boot_list (ah (iH AH rfl T.kB AJ (ah (cy iI (pv 0) aW) aj)) aj)))
   (aC (oG 3 S.nd (cq MZ (gu (ah aW aj)) (cy iI (pv 0) aW)))
   (aC (putL 4 S.nd (gu aj))
   (aC (wN fi (fj tj (cZ ke rfl T.i8 jb (ah (pv 2) aj)) aW) (aC (putL 5 S.nd (Z8 (i:=3) (ah (pv 2) aj) rfl T.JZ rfl (hr.mono (by decide)) hB rfl hC rfl rfl (fun _ _ _ _ _ _ _=>rfl) rfl rfl rfl rfl))
   (aC (je (jM jc PySem.F.slot_list_remove PySem.F.type_list_remove Yw (pv 2) (ah (pv 5) aj)))
   (aC (je (jM jc qO qP k8 (pv 4) (ah (pv 5) aj)))
   (aM (fZ fi rfl (xG (cy eY (pv 1) (pv 5))) (dy (i:=6) S.nd rfl (Or.inl rfl))
    (aM (@T1 _ _ _ _ _ _ _ _ _ _ _ _ _ (pv 3) (pv 6) Wu aW T3 set_list (by intros;rfl)))))))))
   (aM (cF (aao rfl rfl T.rV rfl T.QJ (ah (pv 4) aj))))))))),?_⟩
  refine cJ fun _ qk=>⟨_,rfl,tp,n,L,rfl,fb,di,n9,fun H1 D ds f s1 nD rW KL nb=>?_⟩;have Q4:=s1 _ _ fO;have aia:=tab.mono s1;dsimp only [aQ];refine qk _ _ ?_;refine cJ fun _ kD=>⟨_,rfl,tp,_,_,_,rfl,rfl,.of Q4,rfl,(n:Int),rfl,fun q1 oY=>⟨q1,n,rfl,ar,by lia,fun l1 Fu=>?_⟩⟩
  have s2:af H1 (upd (upd H1 q1 (.fV 0 (n:Int))) l1 (.lst (dz n))):=(aK oY).trans (aK Fu);have e1:upd (upd H1 q1 (.fV 0 (n:Int))) l1 (.lst (dz n)) l1=some (.lst ((List.range n).map fun k:Nat=>V.int (k:Int))):=by rw [ar];rfl
  have J_:H1 l1=none:=none_of (aK oY) Fu;generalize upd (upd H1 q1 (.fV 0 (n:Int))) l1 (.lst (dz n))=H2 at s2 e1 ⊢;dsimp only [aQ];refine kD _ _ ?_;refine cJ fun _ qo=>⟨by show 1≤sizeLine;decide,fun l nl=>?_⟩
  refine ⟨_,rfl,tp,_,_,_,rfl,rfl,.of ((aK nl) _ _ (s2 _ _ Q4)),rfl,l,(n:Int),[.int 0],rfl,rfl,ar,by lia,by lia,?_,fun l2 vB=>?_⟩
  ·rw [en]
   exact bU (show [V.int 0].length*n≤1000 by simp;lia) (by decide)
  have e0:(List.replicate ((n:Int).toNat) [V.int 0]).flatten=((List.range n).map fun a=>(gC L [] a:Int)).map V.int:=by
   rw [Wv n];refine zS fun i=>?_;rw [bz,bz,bz,List.getElem?_replicate];by_cases hi:i<n;·simp [hi,gC]
   ·simp [hi]
  rw [e0];have s3:af H2 (upd (upd H2 l (.lst [.int 0])) l2 (.lst (((List.range n).map fun a=>(gC L [] a:Int)).map V.int))):=(aK nl).trans (aK vB);have e2:upd (upd H2 l (.lst [.int 0])) l2 (.lst (((List.range n).map fun a=>(gC L [] a:Int)).map V.int)) l2=some (.lst (((List.range n).map fun a=>(gC L [] a:Int)).map V.int)):=ar;have Fv:H2 l2=none:=none_of (aK nl) vB;generalize upd (upd H2 l (.lst [.int 0])) l2 (.lst (((List.range n).map fun a=>(gC L [] a:Int)).map V.int))=H3 at s3 e2 ⊢;dsimp only [aQ];refine qo _ _ ?_;refine cJ fun _ qp=>⟨bG _,fun l3 md=>?_⟩;have s4:af H3 (upd H3 l3 (.lst [])):=aK md;have e3:upd H3 l3 (.lst []) l3=some (.lst (([]:List Nat).map fun k:Nat=>V.int (k:Int))):=ar;generalize upd H3 l3 (.lst [])=H4 at s4 e3 ⊢;have kC:af H1 H4:=(s2.trans s3).trans s4;have Q5:=s1.trans kC;have m1:H l1=none:=none_of s1 J_;have m2:H l2=none:=none_of s1 (none_of s2 Fv);have m3:H l3=none:=none_of s1 (none_of (s2.trans s3) md);have Q6:l1≠l2:=fun z=>by rw [z,Fv] at e1;cases e1
  have Q7:l1≠l3:=fun z=>by rw [←z,s3 _ _ e1] at md;cases md
  have Q8:l2≠l3:=fun z=>by rw [←z,e2] at md;cases md
  have KF:=KL.fr;have y1:l1≠D:=fun z=>absurd KL.lst (by rw [←z,J_];exact fun h=>by cases h)
  have y2:l2≠D:=fun z=>absurd (s2 _ _ KL.lst) (by rw [←z,Fv];exact fun h=>by cases h)
  have y3:l3≠D:=fun z=>absurd ((s2.trans s3) _ _ KL.lst) (by rw [←z,md];exact fun h=>by cases h)
  have z1:∀i,i<n→ds i≠l1:=fun i hi z=>absurd (KL.at' i hi trivial) (by rw [z,J_];exact fun h=>by cases h)
  have z2:∀i,i<n→ds i≠l2:=fun i hi z=>absurd (s2 _ _ (KL.at' i hi trivial)) (by rw [z,Fv];exact fun h=>by cases h)
  have z3:∀i,i<n→ds i≠l3:=fun i hi z=>absurd ((s2.trans s3) _ _ (KL.at' i hi trivial)) (by rw [z,md];exact fun h=>by cases h)
  obtain ⟨ps0,eP⟩:=tab.at;have pt:∀{b:Addr},H b=none→b≠178:=fun h z=>by rw [z,eP] at h;cases h
  have K4:e9 H4 D n ds f:=⟨kC _ _ KF.lst,fun i hi=>(KF.at' i hi).imp (fun e=>kC _ _ e) fun⟨ob,e⟩=>⟨ob,kC _ _ e⟩⟩;dsimp only [aQ];refine qp _ _ ?_;refine eG ⟨fun m σ Hc=>∃(zs Pk:List Nat) (v5 v6:Option V),σ=[some (.ref tp),some (.ref D),some (.ref l1),some (.ref l2),some (.ref l3),v5,v6]∧m=zs.length∧eV 178 H Hc∧dO 178 nN jV Hc∧e9 Hc D n ds f∧Hc l1=some (.lst (zs.map fun k:Nat=>V.int (k:Int)))∧Hc l2=some (.lst (((List.range n).map fun a=>(gC L Pk a:Int)).map V.int))∧Hc l3=some (.lst (Pk.map fun k:Nat=>V.int (k:Int)))∧(zs++Pk).Perm (List.range n)∧ky n (rL L) Pk,⟨_,List.range n,[],_,_,rfl,rfl,fun b o _ e=>Q5 _ _ e,tab.mono Q5,K4,(s3.trans s4) _ _ e1,s4 _ _ e2,e3,by rw [jF],ky.nil⟩,?_⟩
  rintro m σ Hc ⟨zs,Pk,v5,v6,rfl,rfl,aX⟩;have sc:=aX.1;have tc:=aX.2.1;have Kc:=aX.2.2.1;have ez:=aX.2.2.2.1;have ec:=aX.2.2.2.2.1;have ep:=aX.2.2.2.2.2.1;have pm:=aX.2.2.2.2.2.2.1;have pk:=aX.2.2.2.2.2.2.2;clear aX;have ll:=pm.length_eq;rw [cW,cC] at ll;have zn:∀z∈zs,z<n:=fun z hz=>aS.mp (pm.mem_iff.mp (ja _ hz));refine ⟨_,rfl,l1,_,rfl,.inl (.of ez),_,_,rfl,rfl,_,rfl,d9 (fun hb=>?_) (fun hb=>?_)⟩
  ·have z0:zs≠[]:=fun z=>by subst z;have:=dC hb;simp at this
   refine ⟨_,fun _ _ h=>h,?_⟩;refine eG ⟨_,rfl,l1,l2,zs,_,rfl,.of ez,z0,rfl,.of ec,fun y hy=>by rw [ay,cC];exact zn y hy,tc,fun h H5 mk s5 t5=>?_⟩
   have hz:=mk.1;have hn:=zn h hz;have most:∀a,a<n→a∉Pk→(Pk.filter (rL L a)).length≤(Pk.filter (rL L h)).length:=fun a an aP=>by
    have az:a∈zs:=by
     have:=pm.mem_iff.mpr (aS.mpr an);rcases cM.mp this with h | h;·exact h
     ·exact absurd h aP
    have:=mk.2 a az;rw [getD_map an,getD_map hn] at this;unfold gC at this;lia
   have sc5:eV 178 H H5:=fun b o n e=>s5 b o n (sc b o n e);have K5:=Kc.keep (a:=178) (fun b u n e=>s5 b u n e) (fun z=>pt nD z.symm) (fun i hi=>pt (rW i hi));have Ka:=s5 _ _ (pt m1) ez;have ec5:=s5 _ _ (pt m2) ec;have ep5:=s5 _ _ (pt m3) ep;dsimp only [aQ];have ix:zs.idxOf h<zs.length:=pH hz;have eer:((zs.map fun k:Nat=>(k:Int)).map V.int).eraseIdx (zs.idxOf h)=(zs.erase h).map fun k:Nat=>V.int (k:Int):=by rw [cx,Oh,List.erase_eq_eraseIdx_of_idxOf rfl];rfl
   refine cJ fun _ Kb=>⟨_,rfl,.inl ⟨rfl,_,.of Ka⟩,_,rfl,l1,zs.map fun k:Nat=>(k:Int),zs.idxOf h,(h:Int),rfl,rfl,by rw [Ka,cx];rfl,?_,fun m' d5 e=>?_,?_⟩
   ·rw [bz,aZ ix,qJ]
    rfl
   ·have rE:m'<zs.length:=by lia
    rw [bz,aZ rE] at e;have e':((zs[m']:Nat):Int)=(h:Int):=Option.some.inj e;have:=Og d5;rw [aZ rE] at this;exact this (fv some (by lia))
   rw [eer];have o6:∀b u,b≠l1→H5 b=some u→upd H5 l1 (.lst ((zs.erase h).map fun k:Nat=>V.int (k:Int))) b=some u:=fun b u ne e=>by rw [aE ne];exact e
   have Q9:upd H5 l1 (.lst ((zs.erase h).map fun k:Nat=>V.int (k:Int))) l1=some (.lst ((zs.erase h).map fun k:Nat=>V.int (k:Int))):=ar;generalize upd H5 l1 (.lst ((zs.erase h).map fun k:Nat=>V.int (k:Int)))=H6 at o6 Q9 ⊢;have sc6:eV 178 H H6:=fun b o n e=>o6 b o (fun z=>by rw [z,m1] at e;cases e) (sc5 b o n e)
   have t6:=t5.off Ka (fun _ z=>by cases z) (fun _ z=>by cases z) o6
   have K6:=K5.keep o6 y1 z1;have ec6:=o6 _ _ (Ne.symm Q6) ec5;have Ki:=o6 _ _ (Ne.symm Q7) ep5;dsimp only;refine Kb _ _ ?_;refine cJ fun _ Kj=>⟨_,rfl,.inl ⟨rfl,_,.of Ki⟩,_,rfl,l3,_,_,rfl,rfl,Ki,cV (by rw [ay];lia),?_⟩
   have BW:(Pk.map fun k:Nat=>V.int (k:Int))++[V.int (h:Int)]=(Pk++[h]).map fun k:Nat=>V.int (k:Int):=by rw [eW];rfl
   rw [BW];have o7:∀b u,b≠l3→H6 b=some u→upd H6 l3 (.lst ((Pk++[h]).map fun k:Nat=>V.int (k:Int))) b=some u:=fun b u ne e=>by rw [aE ne];exact e
   have Q_:upd H6 l3 (.lst ((Pk++[h]).map fun k:Nat=>V.int (k:Int))) l3=some (.lst ((Pk++[h]).map fun k:Nat=>V.int (k:Int))):=ar;generalize upd H6 l3 (.lst ((Pk++[h]).map fun k:Nat=>V.int (k:Int)))=H7 at o7 Q_ ⊢;have sc7:eV 178 H H7:=fun b o n e=>o7 b o (fun z=>by rw [z,m3] at e;cases e) (sc6 b o n e)
   have t7:=t6.off Ki (fun _ z=>by cases z) (fun _ z=>by cases z) o7
   have K7:=K6.keep o7 y3 z3;have ec7:=o7 _ _ Q8 ec6;have ez7:=o7 _ _ Q7 Q9;dsimp only;refine Kj _ _ ?_;refine ID (a:=ds h) (kvs:=dk (f h)) (fun Q q=>⟨_,rfl,_,rfl,D,_,_,_,rfl,rfl,.of K7.lst,qa hn,q⟩) (K7.at' h hn) fun ob Hf iO off=>?_;have Kf:=K7.bE off hn iO KL.inj (KL.ne h hn);have Bo:eV 178 H Hf:=fun b o n e=>off b o (fun z=>by rw [z,rW h hn] at e;cases e) (sc7 b o n e)
   have tf:dO 178 nN jV Hf:=by
    rcases K7.at' h hn with e | ⟨ob,e⟩;·exact t7.off e (fun _ z=>by cases z) (fun _ z=>by cases z) off
    ·exact t7.off e (fun _ z=>by cases z) (fun _ z=>by cases z) off
   have ezf:=off _ _ (Ne.symm (z1 h hn)) ez7;have zo:=off _ _ (Ne.symm (z2 h hn)) ec7;have Fm:=off _ _ (Ne.symm (z3 h hn)) Q_;have Ra:=KL.pl h hn;refine IC (fun i σ He=>∃(v6:Option V),σ=[some (.ref tp),some (.ref D),some (.ref l1),some (.ref l2),some (.ref l3),some (.int (h:Int)),v6]∧eV 178 H He∧dO 178 nN jV He∧e9 He D n ds f∧He (ds h)=some (.bE ob (.dK (dk (f h))))∧He l1=some (.lst ((zs.erase h).map fun k:Nat=>V.int (k:Int)))∧He l3=some (.lst ((Pk++[h]).map fun k:Nat=>V.int (k:Int)))∧He l2=some (.lst (((List.range n).map fun a=>(gC L Pk a:Int)+if a∈(f h).take i then 1 else 0).map V.int))) ⟨_,rfl,Bo,tf,Kf,iO,ezf,Fm,by rw [zo];simp⟩ (fun i σ He _ ⟨_,_,_,_,_,e,_⟩=>e) ?_ ?_
   ·rintro i k σ He hk ⟨v6,rfl,ba⟩
    have se:=ba.1;have te:=ba.2.1;have Ke:=ba.2.2.1;have qq:=ba.2.2.2.1;have Kk:=ba.2.2.2.2.1;have Kl:=ba.2.2.2.2.2.1;have vD:=ba.2.2.2.2.2.2;clear ba;have km:k∈f h:=kJ hk;have kn:k<n:=Ra.2 k km;have tk:=take_snoc hk;have kt:k∉(f h).take i:=fun z=>by have nd:=Ra.1;rw [←mB (i+1) (f h),tk,gD,fD] at nd;exact nd.2.2 k z k (by simp) rfl
    dsimp only [aQ];refine ⟨_,rfl,_,rfl,l2,_,(k:Int),.int ((gC L Pk k:Int)+0),rfl,rfl,Int.natCast_nonneg _,.of vD,?_,_,_,rfl,rfl,l2,_,(k:Int),k,rfl,rfl,vD,?_,?_⟩
    ·refine C3 ?_
     rw [bz,bz,mr kn,CH,CH,aa kt]
    ·have lr:((List.map (fun a=>(gC L Pk a:Int)+if a∈(f h).take i then 1 else 0) (List.range n)).map V.int).length=n:=by rw [ay,ay,cC]
     rw [lr];unfold ou;rw [ae (Int.natCast_nonneg _),ae (by lia),en]
    have ecs:(((List.range n).map fun a=>(gC L Pk a:Int)+if a∈(f h).take i then 1 else 0).map V.int).set k (.int ((gC L Pk k:Int)+0+1))=((List.range n).map fun a=>(gC L Pk a:Int)+if a∈(f h).take (i+1) then 1 else 0).map V.int:=by
     rw [cx,cx,aar];refine g8 fun a _=>?_;by_cases e:a=k
     ·subst e
      rw [ae rfl];show V.int _=V.int (_+if a∈(f h).take (i+1) then 1 else 0)
      rw [ae (by rw [tk];simp)]
      congr 1
     ·rw [aa e]
      show V.int (_+if a∈(f h).take i then 1 else 0)=V.int (_+if a∈(f h).take (i+1) then 1 else 0)
      have:a∈(f h).take (i+1)↔a∈(f h).take i:=by rw [tk];simp [e]
      simp only [this]
    rw [ecs];have o8:∀b u,b≠l2→He b=some u→upd He l2 (.lst (((List.range n).map fun a=>(gC L Pk a:Int)+if a∈(f h).take (i+1) then 1 else 0).map V.int)) b=some u:=fun b u ne e=>by rw [aE ne];exact e
    exact ⟨_,rfl,fun b o n e=>o8 b o (fun z=>by rw [z,m2] at e;cases e) (se b o n e),te.off vD (fun _ z=>by cases z) (fun _ z=>by cases z) o8,Ke.keep o8 y2 z2,o8 _ _ (z2 h hn) qq,o8 _ _ Q6 Kk,o8 _ _ (Ne.symm Q8) Kl,ar⟩
   ·rintro σ He ⟨v6,rfl,bI⟩
    have se:=bI.1;have te:=bI.2.1;have Ke:=bI.2.2.1;have qq:=bI.2.2.2.1;have Kk:=bI.2.2.2.2.1;have Kl:=bI.2.2.2.2.2.1;have vD:=bI.2.2.2.2.2.2;clear bI;rw [iU] at vD;have ec2:((List.range n).map fun a=>(gC L Pk a:Int)+if a∈f h then 1 else 0)=(List.range n).map fun a=>(gC L (Pk++[h]) a:Int):=by
     refine g8 fun a ha=>?_;rw [aaq];have e:a∈f h↔rL L a h=true:=by rw [nb h a hn,h_];exact or_comm
     by_cases q:a∈f h;·rw [ae q,ae (e.mp q)];rfl
     ·rw [aa q,aa fun z=>q (e.mpr z)];rfl
    rw [ec2] at vD;refine ⟨_,?_,zs.erase h,Pk++[h],_,_,rfl,rfl,se,te,Ke,Kk,vD,Kl,?_,pk.snoc most⟩
    ·rw [Cy hz]
     exact Nat.sub_lt (Nat.pos_of_ne_zero fun z=>z0 (List.eq_nil_of_length_eq_zero z)) Nat.one_pos
    ·refine List.Perm.trans ?_ pm
     have h1:=List.perm_cons_erase hz;refine List.Perm.trans ?_ (h1.symm.append_right Pk);rw [←gD];exact vW
  ·have z0:zs=[]:=by
    cases zs with
    | nil=>rfl
    | cons x r=>refine absurd (bu ?_) hb;show (0:Int)<_;simp
   subst z0;dsimp only;refine ⟨_,rfl,l3,_,rfl,.of ep,?_,fun R nR=>?_⟩
   ·rw [ay]
    simp at ll;lia
   rw [←List.map_reverse];have sR:af Hc (upd Hc R (.lst (Pk.reverse.map fun k:Nat=>V.int (k:Int)))):=aK nR;rw [List.nil_append] at pm;refine kk _ R Pk (fun b o n e=>sR _ _ (sc b o n e)) (tc.mono sR) ?_ ar pm pk;cases e:H R with
   | none=>rfl
   | some o=>
    by_cases z:R=178
    ·obtain ⟨ps,e2⟩:=tc.at
     rw [z,e2] at nR;cases nR
    ·rw [sc R o z e] at nR;cases nR
theorem ab1:cG ["linked","done","place","met","waiting","here","other"] ["linked","done","place"] (bH EH):=dt
theorem ab2(T:Txt K mg t):cu P w K mg base dE 1 t.uN t.yq ["linked","done","place"] Yd:=by
 have S:=ab1
 refine T.yZ.ft S (fun _ _ _ _ H vs Q _ hr h=>?_)
 obtain ⟨D,d,n,ds,f,done,p,rfl,aJ⟩:=h
 have KL:=aJ.1
 have ed:=aJ.2.1
 have ld:=aJ.2.2.1
 have pn:=aJ.2.2.2.1
 have n60:=aJ.2.2.2.2.1
 have kk:=aJ.2.2.2.2.2
 clear aJ
 have hu:=iT (kW (show 1≤64 by decide) _) hr.units
 refine ⟨_,(aC (putL 3 S.nd (N1 (Il (pv 2) jH NX) rfl rfl (fun h=>by cases h) (by decide)))
  (aC (putL 4 S.nd (gu (ah (pv 2) aj)))
  (aC (wN fi (fj tj (cZ ke rfl T.i8 jb (ah (pv 4) aj)) aW) (aC (putL 5 S.nd (Ve jc PySem.F.slot_list_pop PySem.F.type_list_pop Vl (pv 4)))
  (aM (fZ fi rfl (xG (cy eY (pv 0) (pv 5))) (dy (i:=6) S.nd rfl (Or.inl rfl))
   (aM (fF (CM (DM hu (pv 6) (pv 3)) rfl) (aC (xF hu (pv 3) (pv 6) jH rfl)
  (aM (fF (tm MU (pv 6) (pv 1) rfl) (aM (je (jM jc qO qP k8 (pv 4) (ah (pv 6) aj)))) fY))) fY))))))
  (aM (cF (kg (N:=["other","place","done"]) (ρ:=(fun σ=>[σ[2]?.join,σ[1]?.join])) (gK [2,1] rfl) rfl (xG (pv 3)) (fun _ _ _=>(.one (PW.pt (pw_and (fj wR (pv 0) (pv 1)) (pw_and1 (tm (Oe (K:=K)) (pv 0) (pv 2) rfl)))))) (fun _ _ _=>(pv 0)))))))),?_⟩
 refine cJ fun _ qk=>(lG fun mt vE=>⟨_,rfl,ar,[((Sum.inl (p:Int):Key),V.bl true)],rfl,by show 1≤15;decide,?_⟩)
 have aic:=vE
 have s0:∀b o,b≠mt→H b=some o→upd (upd H mt (.dK [])) mt (.dK (ng [] [((Sum.inl (p:Int):Key),V.bl true)])) b=some o:=fun b o ne e=>by rw [aE ne,aE ne];exact e
 have em:upd (upd H mt (.dK [])) mt (.dK (ng [] [((Sum.inl (p:Int):Key),V.bl true)])) mt=some (.dK (dk [p])):=by rw [ar];rfl
 generalize upd (upd H mt (.dK [])) mt (.dK (ng [] [((Sum.inl (p:Int):Key),V.bl true)]))=H1 at s0 em ⊢
 have sm:af H H1:=fun b o e=>s0 b o (fun z=>by rw [z,vE] at e;cases e) e
 dsimp only [aQ]
 refine qk _ _ ?_
 refine cJ fun _ kD=>⟨_,rfl,by show 1≤sizeLine;decide,fun l nl=>?_⟩
 have sl:af H1 (upd H1 l (.lst [V.int (p:Int)])):=aK nl
 have el:upd H1 l (.lst [V.int (p:Int)]) l=some (.lst (([p]:List Nat).map fun k:Nat=>V.int (k:Int))):=ar
 generalize upd H1 l (.lst [V.int (p:Int)])=H2 at sl el ⊢
 have BR:H l=none:=none_of sm nl
 have lm:l≠mt:=fun z=>by rw [z,em] at nl;cases nl
 have s2:=sm.trans sl
 have mD:mt≠D:=fun z=>absurd KL.lst (by rw [←z,vE];exact fun h=>by cases h)
 have lD:l≠D:=fun z=>absurd KL.lst (by rw [←z,BR];exact fun h=>by cases h)
 have Km:∀i,i<n→ds i≠mt:=fun i hi z=>absurd (KL.at' i hi trivial) (by rw [z,vE];exact fun h=>by cases h)
 have Fw:∀i,i<n→ds i≠l:=fun i hi z=>absurd (KL.at' i hi trivial) (by rw [z,BR];exact fun h=>by cases h)
 have Rb:∀i,i<n→d≠ds i:=fun i hi z=>absurd (KL.at' i hi trivial) (by rw [←z,ed];exact fun h=>by cases h)
 dsimp only [aQ]
 refine kD _ _ ?_
 refine eG ⟨fun m σ Hc=>∃(ks ws:List Nat) (v5 v6:Option V),σ=[some (.ref D),some (.ref d),some (.int (p:Int)),some (.ref mt),some (.ref l),v5,v6]∧m=2*(n-ks.length)+ws.length∧uc n ds H Hc∧e9 Hc D n ds f∧Hc mt=some (.dK (dk ks))∧Hc l=some (.lst (ws.map fun k:Nat=>V.int (k:Int)))∧gh n (lW n f) (·∈done) p none (fun _=>True) ks ws∧ws.length≤ks.length,⟨_,[p],[p],_,_,rfl,rfl,fun b o e _=>s2 _ _ e,(KL.mono s2).fr,sl _ _ em,el,gh.start pn,au _⟩,?_⟩
 rintro m' σ Hc ⟨ks,ws,v5,v6,rfl,aX⟩
 have em':=aX.1
 have oc:=aX.2.1
 have Kc:=aX.2.2.1
 have Rc:=aX.2.2.2.1
 have i9:=aX.2.2.2.2.1
 have wk:=aX.2.2.2.2.2.1
 have wl:=aX.2.2.2.2.2.2
 clear aX
 have plk:=wk.pl.len
 refine ⟨_,rfl,l,_,rfl,.inl (.of i9),_,_,rfl,rfl,_,rfl,d9 (fun hb=>?_) (fun hb=>?_)⟩
 ·have hb:(0:Int)<((ws.map fun k:Nat=>V.int (k:Int)).length:Int):=dC hb
  rw [ay] at hb
  have x9:ws≠[]:=fun z=>by rw [z] at hb;simp at hb
  obtain ⟨us,h,rfl⟩:∃us h,ws=us++[h]:=⟨ws.dropLast,ws.getLast x9,(List.dropLast_concat_getLast x9).symm⟩
  have vF:(us++[h]).length=us.length+1:=by simp
  have hh:=wk.wt h (ei _ (cB.mpr rfl))
  have hn:h<n:=wk.pl.2 h hh.1
  have BX:=wk.pop
  refine ⟨_,fun _ _ h=>h,?_⟩
  refine ⟨_,rfl,.inl ⟨rfl,_,.of i9⟩,l,_,.int (h:Int),rfl,rfl,i9,by simp,?_⟩
  rw [eW,cO,vR,List.dropLast_concat]
  have o1:∀b u,b≠l→Hc b=some u→upd Hc l (.lst (us.map fun k:Nat=>V.int (k:Int))) b=some u:=fun b u ne e=>by rw [aE ne];exact e
  have qr:upd Hc l (.lst (us.map fun k:Nat=>V.int (k:Int))) l=some (.lst (us.map fun k:Nat=>V.int (k:Int))):=ar
  have Rf:∀{Hx Hy:Hp},uc n ds H Hx→(∀b u,b≠l→Hx b=some u→Hy b=some u)→uc n ds H Hy:=fun h k b u e ne=>k b u (fun z=>by rw [z,BR] at e;cases e) (h b u e ne)
  have ab3:∀{Hx Hy:Hp},uc n ds H Hx→(∀b u,b≠mt→Hx b=some u→Hy b=some u)→uc n ds H Hy:=fun h k b u e ne=>k b u (fun z=>by rw [z,vE] at e;cases e) (h b u e ne)
  have K1:=Kc.keep o1 lD Fw
  have Rg:=Rf oc o1
  have Rh:=o1 _ _ (Ne.symm lm) Rc
  generalize upd Hc l (.lst (us.map fun k:Nat=>V.int (k:Int)))=H3 at o1 qr K1 Rg Rh ⊢
  dsimp only [aQ]
  refine ID (a:=ds h) (kvs:=dk (f h)) (fun Q q=>⟨_,rfl,_,rfl,D,_,_,_,rfl,rfl,.of K1.lst,qa hn,q⟩) (K1.at' h hn) fun ob Hf iO off=>?_
  have Kf:=K1.bE off hn iO KL.inj (KL.ne h hn)
  have ocf:uc n ds H Hf:=fun b u e ne=>off b u (ne h hn) (Rg b u e ne)
  have emf:=off _ _ (Ne.symm (Km h hn)) Rh
  have elf:=off _ _ (Ne.symm (Fw h hn)) qr
  refine IC (fun i σ He=>∃(ks us:List Nat) (v6:Option V),σ=[some (.ref D),some (.ref d),some (.int (p:Int)),some (.ref mt),some (.ref l),some (.int (h:Int)),v6]∧uc n ds H He∧e9 He D n ds f∧He (ds h)=some (.bE ob (.dK (dk (f h))))∧He mt=some (.dK (dk ks))∧He l=some (.lst (us.map fun k:Nat=>V.int (k:Int)))∧gh n (lW n f) (·∈done) p (some h) (·∈(f h).take i) ks us∧us.length≤ks.length∧h∈ks∧2*(n-ks.length)+us.length<m') ⟨ks,us,_,rfl,ocf,Kf,iO,emf,elf,⟨BX.pl,BX.st,BX.rc,BX.wt,fun x hx ox=>(BX.cl x hx ox).imp id fun e b hb=>(e b hb).imp id fun z=>⟨z.1,by simp⟩⟩,by lia,hh.1,by lia⟩ (fun i σ He _ ⟨_,_,_,_,_,_,e,_⟩=>e) ?_ ?_
  ·rintro i k σ He hk ⟨ks,us,v6,rfl,ba⟩
   have oe:=ba.1
   have Ke:=ba.2.1
   have qq:=ba.2.2.1
   have BY:=ba.2.2.2.1
   have Fx:=ba.2.2.2.2.1
   have rX:=ba.2.2.2.2.2.1
   have ul:=ba.2.2.2.2.2.2.1
   have zr:=ba.2.2.2.2.2.2.2.1
   have lt:=ba.2.2.2.2.2.2.2.2
   clear ba
   have km:k∈f h:=kJ hk
   have kn:k<n:=(KL.pl h hn).2 k km
   have tk:=take_snoc hk
   have ple:=rX.pl.len
   dsimp only [aQ]
   refine ⟨_,rfl,_,rfl,mt,_,rfl,.inl ⟨dk ks,Sum.inl (k:Int),.inl BY,rfl,rfl⟩,_,rfl,?_⟩
   rw [N5]
   by_cases zt:k∈ks
   ·rw [ae zt]
    refine k_ ⟨ks,us,_,rfl,oe,Ke,qq,BY,Fx,?_,ul,zr,lt⟩
    have w2:=rX.old zt
    refine ⟨w2.pl,w2.st,w2.rc,w2.wt,fun x hx ox=>(w2.cl x hx ox).imp id fun e b hb=>(e b hb).imp id fun z=>⟨z.1,fun q=>z.2 ?_⟩⟩
    rw [tk] at q
    exact (cM.mp q).imp id cB.mp
   ·rw [aa zt]
    refine Hk ?_
    have al:=Yc zt
    have o4:∀b u,b≠mt→He b=some u→upd He mt (.dK (dk (dH ks k))) b=some u:=fun b u ne e=>by rw [aE ne];exact e
    refine eG ⟨_,rfl,_,rfl,mt,upd He mt (.dK (dk (dH ks k))),rfl,.inl ⟨dk ks,Sum.inl (k:Int),BY,rfl,by rw [DQ];exact cV (by lia),by rw [N4]⟩,?_⟩
    have Kn:upd He mt (.dK (dk (dH ks k))) mt=some (.dK (dk (dH ks k))):=ar
    have K4:=Ke.keep o4 mD Km
    have Fy:=ab3 oe o4
    have Fz:=o4 _ _ lm Fx
    have Ko:=o4 _ _ (Km h hn) qq
    generalize upd He mt (.dK (dk (dH ks k)))=H4 at o4 Kn K4 Fy Fz Ko ⊢
    have conv:∀{vs:List Nat},gh n (lW n f) (·∈done) p (some h) (fun x=>x∈(f h).take i∨x=k) (dH ks k) vs→gh n (lW n f) (·∈done) p (some h) (·∈(f h).take (i+1)) (dH ks k) vs:=fun w2=>⟨w2.pl,w2.st,w2.rc,w2.wt,fun x hx ox=>(w2.cl x hx ox).imp id fun e b hb=>(e b hb).imp id fun z=>⟨z.1,fun q=>z.2 (by
     rw [tk] at q
     exact (cM.mp q).imp id cB.mp)⟩⟩
    have pl4:=(rX.pl.add kn).len
    dsimp only
    refine ⟨_,rfl,_,rfl,d,_,rfl,.inr (.of (Fy d _ ed Rb)),rfl,DV done,_,rfl,d9 (fun hb=>?_) (fun hb=>?_)⟩
    ·have hb:f_ (.int (k:Int)) (done.map fun k:Nat=>V.int (k:Int))=true:=hb
     rw [t_,fT] at hb
     refine ⟨_,rfl,.inl ⟨rfl,_,.of Fz⟩,_,rfl,l,_,_,rfl,rfl,Fz,cV (by rw [ay];lia),?_⟩
     have o5:∀b u,b≠l→H4 b=some u→upd H4 l (.lst ((us.map fun k:Nat=>V.int (k:Int))++[V.int (k:Int)])) b=some u:=fun b u ne e=>by rw [aE ne];exact e
     exact ⟨dH ks k,us++[k],_,rfl,Rf Fy o5,K4.keep o5 lD Fw,o5 _ _ (Fw h hn) Ko,o5 _ _ (Ne.symm lm) Kn,by rw [ar,eW];rfl,conv (rX.new zt kn zr hh.2 ⟨hn,km⟩ (.inl ⟨hb,rfl⟩)),by rw [al,cW,nQ];lia,jS.mpr (.inl zr),by rw [al,cW,nQ];lia⟩
    ·have hb:¬f_ (.int (k:Int)) (done.map fun k:Nat=>V.int (k:Int))=true:=hb
     rw [t_,fT] at hb
     exact ⟨dH ks k,us,_,rfl,Fy,K4,Ko,Kn,Fz,conv (rX.new zt kn zr hh.2 ⟨hn,km⟩ (.inr ⟨hb,rfl⟩)),by rw [al];lia,jS.mpr (.inl zr),by rw [al];lia⟩
  ·rintro σ He ⟨ks,us,v6,rfl,bI⟩
   have oe:=bI.1
   have Ke:=bI.2.1
   have qq:=bI.2.2.1
   have BY:=bI.2.2.2.1
   have Fx:=bI.2.2.2.2.1
   have rX:=bI.2.2.2.2.2.1
   have ul:=bI.2.2.2.2.2.2.1
   have zr:=bI.2.2.2.2.2.2.2.1
   have lt:=bI.2.2.2.2.2.2.2.2
   clear bI
   rw [iU] at rX
   exact ⟨_,lt,ks,us,_,_,rfl,rfl,oe,Ke,BY,Fx,rX.next fun b hb=>hb.2,ul⟩
 ·have w0:ws=[]:=by
   cases ws with
   | nil=>rfl
   | cons x r=>
    refine absurd (bu ?_) hb
    show (0:Int)<_
    simp
  subst w0
  dsimp only
  refine pW (DU (ID (a:=mt) (kvs:=dk ks) (fun Q q=>⟨_,rfl,q⟩) (.inl Rc) fun ob Hf iO off=>?_))
  have edf:Hf d=some (.tup (done.map fun k:Nat=>V.int (k:Int))):=off _ _ (fun z=>by rw [z,vE] at ed;cases ed) (oc d _ ed Rb)
  refine Iw iO (fun q=>!decide (q=p) && !decide (q∈done)) (cV (by lia)) ?_ ?_ ?_
  ·intro q hq Hx R sx hR
   refine ⟨_,rfl,_,rfl,rfl,_,rfl,d9 (fun hb=>?_) (fun hb=>?_)⟩
   ·have ne:¬q=p:=fun z=>by
     subst z
     rw [tP,bu rfl] at hb
     cases hb
    refine ⟨_,rfl,_,rfl,d,_,rfl,.inr (.of (sx _ _ edf)),rfl,DV done,_,rfl,?_⟩
    rw [bY ne,Bool.not_false,Bool.true_and] at hR
    have e:(if true=true then !f_ (.int (q:Int)) (done.map fun k:Nat=>V.int (k:Int)) else f_ (.int (q:Int)) (done.map fun k:Nat=>V.int (k:Int))) = !decide (q∈done):=by rw [ae rfl,t_]
    rw [e]
    exact hR
   ·have eq:q=p:=by
     by_cases z:(q:Int)=(p:Int)
     ·lia
     ·exact absurd (by rw [tP,bY z];rfl) hb
    rw [bu eq,Bool.not_true,Bool.false_and] at hR
    exact hR
  ·intro q hq Hx R hR
   exact ⟨_,rfl,hR⟩
  ·intro r Hg nr sg eg
   refine kk Hg r _ (fun b u e ne=>sg _ _ (off _ _ (fun z=>by rw [z,vE] at e;cases e) (oc b u e ne))) eg ⟨ks,wk.pl,wk.done,by rw [ay]⟩
theorem ab8:cG ["shape","done","place"] ["shape","done","place"] (bH EI):=dt
theorem ab9(T:Txt K mg t):cu P w K mg base (fG P w) 2 t.uO t.yr ["shape","done","place"] Yf:=by
 have S:=ab8;refine T.y4.eN S (fun _ _ _ _ H _ _ _ hr h L=>?_);obtain ⟨tp,d,n,Lk,done,p,rfl,hS,hL,n9,ed,ld,pn,kk⟩:=h
 refine ⟨_,(aC (je (bF (J0 T) hr T.E8 T.rR.kp T.E7 (lh L) (ah (pv 0) aj)))
  (aM (cF (bF (QQ T) hr T.JL T.vg.kp T.JK dc (ah (cZ ke rfl T.i8 jb (ah (bF (ab2 T) hr T.Qi T.yZ.kp T.Qh dc (ah (bF (Fj T) hr T.BP T.qj.kp T.BO dc (ah (pv 0) aj)) (ah (pv 1) (ah (pv 2) aj)))) aj)) aj))))),?_⟩
 refine ⟨_,rfl,tp,n,Lk,rfl,hS,n9,?_⟩;refine ⟨_,rfl,tp,n,Lk,rfl,hS,hL,by lia,fun H1 D ds f s1 nD rW KL nb=>?_⟩
 refine ⟨_,rfl,_,rfl,D,d,n,ds,f,done,p,rfl,KL,s1 _ _ ed,ld,pn,by lia,fun H2 r xs off er near=>?_⟩
 have s2:af H H2:=fun b u e=>off b u (s1 _ _ e) fun i hi z=>by rw [z,rW i hi] at e;cases e
 have c9:=near.le;exact ⟨r,xs,rfl,.inl (.of er),xs.length,rfl,by lia,kk H2 f xs.length s2 nb near⟩
theorem ab_:cG ["done","place"] ["done","place"] (bH EK):=dt
theorem Ri(T:Txt K mg t):cu P w K mg base dE 1 t.uQ t.yu ["done","place"] Zi:=by
 have S:=ab_;refine T.vi.ft S (fun _ _ _ _ H _ Q _ hr h=>?_);obtain ⟨d,done,p,rfl,ed,l1,kk⟩:=h;refine ⟨_,(aM (cF (iH C5 rfl T.zi boot_tuple (ah (cZ Y3 rfl T.oW pJ (ah (cq (Oc (K:=K)) (pv 0) (iG (ah (pv 1) aj))) aj)) aj)))),?_⟩;have fin:∀(H1:Hp) (b:Addr),af H H1→H1 b=some (.tup ((done++[p]).map V.int))→An OB (fun σ H Q=>Q [.ref b] H) [] H1 (fun x H2=>∃q ys,[x]=[V.ref q]∧((a8 K H2 q ys∧∀l,H2 l=none→Q (.ref l) (upd H2 l (.tup ys)))∨(eK K H2 q ys∧Q (.ref q) H2))):=fun H1 b s1 eb=>by
  refine ⟨b,done++[p],rfl,eb,by simp;lia,fun ws D pm so nD=>⟨D,_,rfl,.inl ⟨.of ar,fun l nl=>?_⟩⟩⟩
  exact kk _ l ws pm so (none_of s1 (none_of (aK nD) nl)) (s1.trans ((aK nD).trans (aK nl))) ar
 refine ⟨_,rfl,_,rfl,by show 1≤sizeLine;decide,fun b nb=>?_⟩
 have s1:af H (upd H b (.tup [.int p])):=aK nb;have eb:upd H b (.tup [.int p]) b=some (.tup [.int p]):=ar;generalize upd H b (.tup [.int p])=H1 at s1 eb ⊢;refine ⟨d,b,_,_,rfl,rfl,.of (s1 _ _ ed),.of eb,by simp,Zh (by rw [ay];simp;lia),fun e0=>?_,fun e1 c nc=>?_⟩
 ·have:done=[]:=CF.mp e0
  subst this;exact fin H1 b s1 eb
 ·refine fin _ c (s1.trans (aK nc)) ?_
  rw [ar,eW];rfl
theorem aca:cG ["n","told","place"] ["n"] (bH EJ):=dt
theorem Rj(T:Txt K mg t):cu P w K mg base dE 1 t.uP t.yt ["n"] Zj:=by
 have S:=aca;refine T.vh.ft S (fun _ _ _ _ H _ _ _ hr h=>?_);obtain ⟨n,rfl,n9,kk⟩:=h
 refine ⟨_,(aC (putL 1 S.nd (gu (ah (iG aj) aj)))
  (aC (fZ fi rfl (sY rfl T.kB (ah (pv 0) aj)) (dy (i:=2) S.nd rfl (Or.inr rfl))
   (aM (putL 1 S.nd (cq Ax (pv 1) (kg (N:=["each","place"]) (ρ:=(fun σ=>[σ[2]?.join])) (gK [2] rfl) rfl (eX (pv 1)) (fun _ _ _=>.nil) (fun _ _ _=>(cq (Oc (K:=K)) (pv 0) (iG (ah (pv 1) aj)))))))))
  (aM (cF (pv 1))))),?_⟩
 refine ⟨bG _,fun b nb=>⟨by show 1≤sizeLine;decide,fun l nl=>?_⟩⟩
 have s0:af H (upd (upd H b (.tup [])) l (.lst [.ref b])):=(aK nb).trans (aK nl);have lb:b≠l:=fun z=>by rw [z,ar] at nl;cases nl
 have eb:upd (upd H b (.tup [])) l (.lst [.ref b]) b=some (.tup []):=by rw [aE lb,ar]
 have el:upd (upd H b (.tup [])) l (.lst [.ref b]) l=some (.lst [.ref b]):=ar;generalize upd (upd H b (.tup [])) l (.lst [.ref b])=H0 at s0 eb el ⊢;dsimp only [aQ];refine eG ⟨_,rfl,(n:Int),rfl,by lia,by lia,?_⟩
 rw [en];refine CW (fun k σ Hc=>∃(D:Addr) (xs:List V) (v2:Option V),σ=[some (.int (n:Int)),some (.ref D),v2]∧af H Hc∧H D=none∧Hc D=some (.lst xs)∧l0 Hc xs (aY k)) ⟨l,_,_,rfl,s0,none_of (aK nb) nl,el,⟨rfl,fun i v q h1 h2=>?_⟩⟩ ?_ ?_
 ·match i,h1,h2 with
  | 0,h1,h2=>cases h1;cases h2;exact ⟨b,rfl,eb⟩
  | i+1,h1,h2=>simp at h1
 ·rintro k σ Hc hk ⟨D,xs,v2,rfl,sc,nD,eD,tu⟩
  have p2:2 ^ k≤512:=bU (Cs (by decide) (show k≤9 by lia)) (by decide)
  have lx:xs.length=2 ^ k:=tu.1.trans (D9 k);dsimp only [aQ];refine lG ⟨_,rfl,rf (xs:=xs) (fun R h=>⟨_,rfl,D,rfl,⟨_,.of eD⟩,h _ _ (af.refl _) (kh (.of eD))⟩) (cV (by lia)) (fun _ i y Hz=>∀q,(aY k)[i]?=some q→∃(b:Addr),y=.ref b∧Hz b=some (.tup ((q++[k]).map fun k:Nat=>V.int (k:Int)))) (fun Dd i y Ha Hb ys h e f q hq=>by obtain ⟨b,h1,h2⟩:=h q hq;exact ⟨b,h1,f b _ (fun z=>by rw [z,e] at h2;cases h2) h2⟩) ?_ ?_⟩
  ·intro Dd i x hx Hz R sz _ kz
   have hi:i<(aY k).length:=by rw [←tu.1];exact (bV.mp hx).1
   obtain ⟨b,rfl,eb⟩:=tu.2 i x _ hx (aZ hi);have l5:(aY k)[i]?=some (aY k)[i]:=aZ hi;generalize (aY k)[i]=us at eb l5;have lu:us.length≤60:=by obtain ⟨u1,u2⟩:=cg.mp (kJ l5);have:=Bk u1 u2;lia
   refine ⟨_,rfl,_,rfl,by show 1≤sizeLine;decide,fun q nq=>?_⟩
   have Kp:=sz _ _ eb;have bq:b≠q:=fun z=>by rw [z,nq] at Kp;cases Kp
   have ebq:upd Hz q (.tup [V.int (0+(k:Int))]) b=some (.tup (us.map fun k:Nat=>V.int (k:Int))):=(aE bq).trans Kp;refine ⟨b,q,_,_,rfl,rfl,.of ebq,.of ar,by simp,bU (show _≤100 by simp;lia) (by decide),fun e=>?_,fun ne p np=>?_⟩
   ·refine kz _ _ (aK nq) fun r hr=>⟨q,rfl,?_⟩
    rw [l5] at hr;cases hr;have:us=[]:=CF.mp e;subst this;rw [ar,z9];rfl
   ·refine kz _ _ ((aK nq).trans (aK np)) fun r hr=>⟨p,rfl,?_⟩
    rw [l5] at hr;cases hr;rw [ar,z9,eW];rfl
  ·intro Dd ys Hd BS sd i_ iM oX
   refine ⟨D,Dd,xs,ys,rfl,rfl,sd _ _ eD,oX,bU (show _≤2000 by lia) (by decide),fun l2 vB=>?_⟩
   have ty:l0 Hd ys ((aY k).map (·++[k])):=⟨by rw [i_,ay,tu.1],fun i v q h1 h2=>by
    rw [bz] at h2;cases e:(aY k)[i]? with
    | none=>rw [e] at h2;cases h2
    | some r=>rw [e] at h2;cases h2;exact iM i v h1 r e⟩
   exact ⟨l2,_,_,rfl,(sc.trans sd).trans (aK vB),none_of (sc.trans sd) vB,ar,((tu.mono sd).cat ty).mono (aK vB)⟩
 ·rintro σ Hc ⟨D,xs,v2,rfl,sc,nD,eD,tu⟩
  exact ⟨_,rfl,kk D xs Hc sc nD eD tu⟩
theorem acd:cG ["shape","done","worth_of","left"] ["shape","done","worth_of"] (bH EL):=dt
theorem Kq(T:Txt K mg t):cu P w K mg base (fG P w) 3 t.uR t.yw ["shape","done","worth_of"] Zm:=by
 have S:=acd;refine T.rS.eN S (fun _ _ _ _ H _ _ _ hr h L=>?_);obtain ⟨tp,d,wo,n,Lk,done,kvs,W,rfl,aJ⟩:=h;have fb:=aJ.1;have di:=aJ.2.1;have n9:=aJ.2.2.1;have ed:=aJ.2.2.2.1;have hd:=aJ.2.2.2.2.1;have oZ:=aJ.2.2.2.2.2.1;have hW:=aJ.2.2.2.2.2.2.1;have kk:=aJ.2.2.2.2.2.2.2;clear aJ;have ma:=hr.units;have Kr:=iT (kW (show 1≤64 by decide) _) hr.units
 refine ⟨_,(aC (xf (i0:=3) (N:=["place","done"]) (ρ:=(fun σ=>[σ[1]?.join])) (gK [1] rfl) rfl S.nd rfl (Or.inl rfl) (sY rfl T.kB (ah (cy iI (pv 0) aW) aj)) (fun _ _ _=>(.one (tm (Oe (K:=K)) (pv 0) (pv 1) rfl))) (fun _ _ _=>(pv 0)))
  (aM (cF (kg (N:=["place","shape","done","worth_of"]) (ρ:=(fun σ=>[σ[0]?.join,σ[1]?.join,σ[2]?.join])) (gK [0,1,2] rfl) rfl (eX (pv 3)) (fun _ _ _=>.nil) (fun _ _ _=>(iG (ah (cq jf (bF (ab9 T) hr T.Qk T.y4.kp T.Qj oE (ah (pv 1) (ah (pv 2) (ah (pv 0) aj)))) (xE Kr (pv 3) (bF (Ri T) hr T.JP T.vi.kp T.JO dc (ah (pv 2) (ah (pv 0) aj))) (fun _ _=>rfl))) (ah (pv 0) aj)))))))),?_⟩
 obtain ⟨lt,us,fO,elt,mQ⟩:=id fb;obtain ⟨dup,dlt⟩:=cg.mp hd;have dl:done.length≤9:=bU (Bk dup dlt) n9;have fl:(done.map fun k:Nat=>V.int (k:Int)).all k7=true:=by rw [pD];intro v hv;obtain ⟨q,_,rfl⟩:=bK.mp hv;rfl
 have QP:((List.range n).map fun i:Nat=>V.int (0+(i:Int))).length=n:=by rw [ay,cC]
 refine eG (lG (YN (xs:=(List.range n).map fun i:Nat=>V.int (0+(i:Int))) (Bl done) (fun R h=>⟨_,rfl,tp,_,_,_,rfl,rfl,.of fO,rfl,(n:Int),rfl,by lia,by lia,h _ _ (af.refl _) (by rw [en];exact Nd)⟩) (cV (by lia)) ?_ (fun x Hx R h=>⟨_,rfl,h⟩) fun l H1 nl s1 el=>?_))
 ·intro x hxm Hd R sd kR
  obtain ⟨q,hq,rfl⟩:=bK.mp hxm;refine ⟨_,rfl,_,rfl,d,_,rfl,.inr (.of (sd _ _ ed)),rfl,fl,_,rfl,?_⟩;rw [Zk] at kR;exact kR
 rw [Zl] at el;dsimp only [aQ];have lle:(bQ n done).length≤n:=bU (nW _ _) (by rw [cC];exact au _)
 refine pW (rf (xs:=(bQ n done).map fun k:Nat=>V.int (k:Int)) (fun R h=>⟨_,rfl,l,rfl,⟨_,.of el⟩,h _ _ (af.refl _) (kh (.of el))⟩) (cV (by rw [ay];lia)) (fun _ i y Hz=>∀p,(bQ n done)[i]?=some p→∃b,y=.ref b∧Hz b=some (.tup [.int (dB n Lk done p+W (bt done p)),.int (p:Int)])) (fun Dd i y Ha Hb ys h e f q hq=>by obtain ⟨b,h1,h2⟩:=h q hq;exact ⟨b,h1,f b _ (fun z=>by rw [z,e] at h2;cases h2) h2⟩) ?_ ?_)
 ·intro Dd i x hx Hz R sz _ kz
  rw [bz] at hx;cases ep:(bQ n done)[i]? with
  | none=>rw [ep] at hx;cases hx
  | some p=>
   rw [ep] at hx;cases hx;have pm:=kJ ep;have pn:p<n:=by have:=(b8.mp pm).1;exact aS.mp this
   have pd:p∉done:=by have:=(b8.mp pm).2;simpa using this
   have zu:=s1.trans sz;refine ⟨_,rfl,_,rfl,_,rfl,tp,d,n,Lk,done,p,rfl,fb.mono zu,di,n9,zu _ _ ed,by lia,pn,fun H2 f c s2 nb near=>?_⟩
   have iq:=zu.trans s2;refine ⟨_,rfl,_,rfl,_,rfl,d,done.map iN,(p:Int),rfl,by rw [iq _ _ ed,cx];rfl,by rw [ay];lia,fun H3 tq ws pm so jX s3 me=>?_⟩
   have ew:=OH dup pd pm so;subst ew;have jD:=iq.trans s3;refine ⟨wo,_,rfl,(hW p pn pd)▸jx.t (k:=e_ (bt done p)) (jD _ _ oZ) (by rw [me];unfold e_;rw [cx,cx];rfl),_,_,rfl,rfl,_,rfl,by show 2≤sizeLine;decide,fun q nq=>?_⟩
   refine kz _ _ ((s2.trans s3).trans (aK nq)) fun r hr=>⟨q,rfl,?_⟩;rw [ep] at hr;cases hr;rw [ar,OG nb near]
 ·intro Dd ys Hd BS sd i_ iM oX
  rw [ay] at i_;exact kk Hd Dd ys (s1.trans sd) oX ⟨i_,fun i v p h1 h2=>iM i v h1 p h2⟩
theorem acg:cG ["shape","told","done"] ["shape"] (bH EM):=dt
theorem Rk(T:Txt K mg t):cu P w K mg base (fG P w) 4 t.uS t.yy ["shape"] Zq:=by
 have S:=acg;refine T.vj.eN S (fun _ _ _ _ H _ _ _ hr h L=>?_);obtain ⟨tp,n,Lk,rfl,aJ⟩:=h;have fb:=aJ.1;have di:=aJ.2.1;have n9:=aJ.2.2.1;have kk:=aJ.2.2.2;clear aJ;have hu:=iT (kW (show 1≤64 by decide) _) hr.units
 refine ⟨_,(aC (je (bF (J0 T) hr T.E8 T.rR.kp T.E7 (lh L) (ah (pv 0) aj)))
  (aC (putL 1 S.nd Xt)
  (aC (fZ (Iz L) rfl (eX (Y0 (ah (bF (Rj T) hr T.JN T.vh.kp T.JM dc (ah (cy iI (pv 0) aW) aj)) aj) rfl T.oW pJ rfl T.i8 jb)) (dy (i:=2) S.nd rfl (Or.inl rfl))
   (aM (xF hu (pv 1) (pv 2) (Zd rfl (ah (Ni (N:=["total","place"]) (ρ:=(fun σ=>[])) (HC [] rfl) rfl (eX (bF (Kq T) hr T.E_ T.rS.kp T.E9 (lh L) (ah (pv 0) (ah (pv 2) (ah (pv 1) aj))))) (fun _ _ _=>.nil) (fun _ _ _=>(pv 0))) aj) aW rfl T.Fh boot_min) rfl)))
  (aM (cF (pv 1)))))),?_⟩
 refine ⟨_,rfl,tp,n,Lk,rfl,fb,n9,?_⟩;intro D nD;have s0:af H (upd H D (.dT [])):=aK nD;have FC:upd H D (.dT []) D=some (.dT []):=ar;dsimp only [aQ];generalize upd H D (.dT [])=H0 at s0 FC ⊢;obtain ⟨lt,us,fO,elt,mQ⟩:=id (fb.mono s0);refine eG ⟨_,rfl,tp,_,_,_,rfl,rfl,.of fO,rfl,n,rfl,n9,fun Dx xs H1 s1 nDx jE tu=>?_⟩;have Rm:(aY n).length≤512:=by rw [D9];exact bU (Cs (by decide) n9) (by decide)
 refine ⟨Dx,xs,fun i=>((aY n).getD i []).length,rfl,jE,by have:=tu.1;lia,(fun i v hv=>?_),fun D2 p vw fp=>?_⟩
 ·have hi:i<(aY n).length:=by rw [←tu.1];exact (bV.mp hv).1
  obtain ⟨b,e,g⟩:=tu.2 i v _ hv (aZ hi);have lq:(aY n)[i].length≤9:=by obtain ⟨q1,q2⟩:=cg.mp (aV hi);exact bU (Bk q1 q2) n9
  exact ⟨b,_,e,g,by rw [ay];show ((aY n).getD i []).length=_;rw [cQ,aZ hi];rfl,by rw [ay];lia⟩
 rw [tu.1] at fp;have fq:=Zs fp;have tq:=(Zv tu (p:=p) fun i hi=>aS.mp (fp.pm.mem_iff.mp hi)).mono (aK (o:=.lst (p.map fun i=>xs.getD i .aI)) vw);have iu:upd H1 D2 (.lst (p.map fun i=>xs.getD i .aI)) D2=some (.lst (p.map fun i=>xs.getD i .aI)):=ar;have o9:af H0 (upd H1 D2 (.lst (p.map fun i=>xs.getD i .aI))):=s1.trans (aK vw);generalize upd H1 D2 (.lst (p.map fun i=>xs.getD i .aI))=H2 at tq iu o9 ⊢;generalize (p.map fun i=>xs.getD i .aI)=xs2 at tq iu ⊢;generalize (p.map fun i=>(aY n).getD i [])=qs at tq fq;have lqs:qs.length≤512:=by rw [fq.pm.length_eq];exact Rm
 have D2D:D2≠D:=fun z=>by rw [z,o9 _ _ FC] at iu;cases iu
 refine ⟨D2,rfl,⟨_,.of iu⟩,?_⟩;refine mK (K:=K) (a:=D2) (xs:=xs2) (fun j σ Hc=>∃(v2:Option V),σ=[some (.ref tp),some (.ref D),v2]∧af H Hc∧(∀b o,b≠D→H2 b=some o→Hc b=some o)∧Hc D=some (.dT (wD (wW n Lk) (qs.take j)))) ⟨_,rfl,s0.trans o9,fun b o _ e=>e,o9 _ _ FC⟩ (fun j σ Hc _ ⟨_,_,_,kc,_⟩=>.of (kc _ _ D2D iu)) ?_ ?_
 ·rintro j x σ Hc hx ⟨v2,rfl,aX⟩
  have sc:=aX.1;have kc:=aX.2.1;have eD:=aX.2.2;clear aX;have hj:j<qs.length:=by rw [←tq.1];exact (bV.mp hx).1
  have hq:qs[j]?=some qs[j]:=aZ hj;obtain ⟨b,rfl,eb⟩:=tq.2 j x _ hx hq;generalize qs[j]=q at hq eb;have bD:b≠D:=fun z=>by rw [z,o9 _ _ FC] at eb;cases eb
  have Rn:=kc _ _ bD eb;have qm:q∈aY n:=fq.pm.mem_iff.mp (kJ hq);obtain ⟨nq,tk⟩:=Zu fq hq;have ll:(bQ n q).length≤9:=bU (nW _ _) (by rw [cC];exact n9)
  dsimp only [aQ];refine Zr (Zn (Z:=(bQ n q).map fun p=>(dB n Lk q p+wW n Lk (bt q p),(p:Int))) (fun R h=>?_) (cV (by rw [ay];lia)) (fun z _ Hx R h=>⟨_,rfl,h⟩) fun D3 H4 nD3 s4 vG=>?_)
  ·refine ⟨_,rfl,_,rfl,_,rfl,tp,b,D,n,Lk,q,_,wW n Lk,rfl,fb.mono sc,di,n9,Rn,qm,eD,(fun p pn pq=>Ea _ (Zt fq hq pn pq)),fun H3 Dc ys s3 fu ch=>?_⟩
   exact ⟨Dc,rfl,⟨_,.of fu⟩,h _ _ s3 (OJ fu (Jf ch))⟩
  ·refine ⟨D3,_,0,rfl,rfl,vG,by rw [ay,ay];lia,fun m hm=>?_⟩
   have em:m=wW n Lk q:=by rw [Zo hm,cx,Bm qm];rfl
   subst em;refine ⟨_,rfl,_,rfl,D,_,rfl,xD.t (k:=e_ q) (s4 _ _ eD) (by rw [s4 _ _ Rn];unfold e_;rw [cx];rfl) (cV (by unfold wD;rw [ay,mh];lia)),?_⟩
   refine ⟨_,rfl,fun c o e=>?_,fun c o cD e=>(aE cD).trans (s4 _ _ (kc c o cD e)),by rw [ar,Zp _ nq,tk]⟩
   rw [aE (fun z=>by rw [z,nD] at e;cases e)]
   exact s4 _ _ (sc _ _ e)
 ·rintro σ Hc ⟨v2,rfl,ba⟩
  have sc:=ba.1;have kc:=ba.2.1;have eD:=ba.2.2;clear ba;rw [tq.1,iU] at eD;exact ⟨_,rfl,kk Hc D qs sc nD eD fq.pm⟩
theorem acm:cG ["shape","worth_of","order","done","place"] ["shape"] (bH EN):=dt
theorem Ks(T:Txt K mg t):cu P w K mg base (fG P w) 5 t.uT t.yA ["shape"] Zy:=by
 have S:=acm;refine T.rT.eN S (fun _ _ _ _ H _ _ _ hr h L=>?_);obtain ⟨tp,n,Lk,rfl,aJ⟩:=h;have fb:=aJ.1;have di:=aJ.2.1;have n9:=aJ.2.2.1;have kk:=aJ.2.2.2;clear aJ;have ma:=hr.units;have hu:=iT (kW (show 1≤64 by decide) _) hr.units
 refine ⟨_,(aC (putL 1 S.nd (bF (Rk T) hr T.JR T.vj.kp T.JQ (lh L) (ah (pv 0) aj)))
  (aC (putL 2 S.nd (gu aj))
  (aC (putL 3 S.nd (iG aj))
  (aC (wN (Iz L) (fj wU (cZ ke rfl T.i8 jb (ah (pv 2) aj)) (cy iI (pv 0) aW)) (aC (putL 4 S.nd (cy iI (cZ (Zf rfl ma) rfl T.Fh boot_min (ah (bF (Kq T) hr T.E_ T.rS.kp T.E9 (lh L) (ah (pv 0) (ah (pv 3) (ah (pv 1) aj)))) aj)) aW))
  (aC (je (jM jc qO qP k8 (pv 2) (ah (pv 4) aj)))
  (aM (putL 3 S.nd (bF (Ri T) hr T.JP T.vi.kp T.JO dc (ah (pv 3) (ah (pv 4) aj))))))))
  (aM (cF (iG (ah (pv 2) (ah (xE hu (pv 1) (iG aj) (fun _ _=>rfl)) aj))))))))),?_⟩
 refine ⟨_,rfl,tp,n,Lk,rfl,fb,di,n9,fun H1 D qs s1 nD eD pq=>?_⟩;dsimp only [aQ];refine ⟨bG _,fun lo FD=>?_⟩;have s2:af H1 (upd H1 lo (.lst [])):=aK FD;have BZ:upd H1 lo (.lst []) lo=some (.lst []):=ar;have Ro:H lo=none:=none_of s1 FD;have iu:=s2 _ _ eD;dsimp only [aQ];generalize upd H1 lo (.lst [])=H2 at s2 BZ iu ⊢;refine ⟨bG _,fun td ntd=>?_⟩;have s3:af H2 (upd H2 td (.tup [])):=aK ntd;have Rp:upd H2 td (.tup []) td=some (.tup []):=ar;have FE:=s3 _ _ BZ;have vG:=s3 _ _ iu;dsimp only [aQ];generalize upd H2 td (.tup [])=H3 at s3 Rp FE vG ⊢;have jD:=s1.trans (s2.trans s3);have loD:lo≠D:=fun z=>by rw [z,vG] at FE;cases FE
 have rY:∀q,q∈aY n→e7 (wD (wW n Lk) qs) (e_ q)=some (.int (wW n Lk q)):=fun q hq=>Ea _ (pq.mem_iff.mpr hq);refine eG ⟨fun m σ Hc=>∃(o Sd:List Nat) (dn:Addr) (v4:Option V),σ=[some (.ref tp),some (.ref D),some (.ref lo),some (.ref dn),v4]∧m=n-o.length∧af H Hc∧Hc D=some (.dT (wD (wW n Lk) qs))∧Hc lo=some (.lst (o.map fun k:Nat=>V.int (k:Int)))∧Hc dn=some (.tup (Sd.map fun k:Nat=>V.int (k:Int)))∧um n Lk o Sd,⟨_,[],[],td,_,rfl,rfl,jD,vG,FE,Rp,um.start n Lk⟩,?_⟩;rintro m σ Hc ⟨o,Sd,dn,v4,rfl,rfl,aX⟩;have sc:=aX.1;have fu:=aX.2.1;have FF:=aX.2.2.1;have FG:=aX.2.2.2.1;have fw:=aX.2.2.2.2;clear aX;obtain ⟨lt,us,fO,elt,mQ⟩:=id (fb.mono sc);obtain ⟨m1,m2⟩:=cg.mp fw.mem;have lS:Sd.length=o.length:=fw.pm.length_eq;have lo9:o.length≤n:=by rw [←lS];exact Bk m1 m2
 refine ⟨_,rfl,lo,_,rfl,.inl (.of FF),_,rfl,tp,_,_,_,rfl,rfl,.of fO,rfl,_,_,rfl,rfl,_,rfl,d9 (fun hc=>?_) (fun hc=>?_)⟩
 ·have hc:((o.map fun k:Nat=>V.int (k:Int)).length:Int)<(n:Int):=dC hc
  rw [ay] at hc;have olt:o.length<n:=by lia
  refine ⟨_,fun _ _ h=>h,?_⟩;refine ⟨_,rfl,_,rfl,_,rfl,tp,dn,D,n,Lk,Sd,_,wW n Lk,rfl,fb.mono sc,di,n9,FG,fw.mem,fu,(fun p pn pd=>rY _ (cg.mpr ⟨rG m1 pd,fun x hx=>by
   rcases nz.mp hx with rfl | hx;·exact pn
   ·exact m2 x hx⟩)),fun H4 Dc ys s4 acq ch=>?_⟩
  have lne:0<(bQ n Sd).length:=Zw fw.mem (by lia)
  have lk:=Jf ch;refine ⟨Dc,ys,(fun i=>(((bQ n Sd).map fun p=>(dB n Lk Sd p+wW n Lk (bt Sd p),(p:Int))).getD i (0,0)).1),(fun i=>(((bQ n Sd).map fun p=>(dB n Lk Sd p+wW n Lk (bt Sd p),(p:Int))).getD i (0,0)).2),rfl,acq,by rw [ch.1];exact lne,(fun i v hv=>?_),fun i v hv best=>?_⟩
  ·have hi:i<(bQ n Sd).length:=by rw [←ch.1];exact (bV.mp hv).1
   obtain ⟨b,e,g⟩:=ch.2 i v _ hv (aZ hi);have pl:(bQ n Sd)[i]<n:=aS.mp (b8.mp (aV hi)).1;simp only [cQ,bz,aZ hi,CH,Option.getD_some];exact ⟨⟨b,e,g⟩,by lia,by lia⟩
  ·have hi:i<(bQ n Sd).length:=by rw [←ch.1];exact (bV.mp hv).1
   obtain ⟨b,rfl,g⟩:=ch.2 i v _ hv (aZ hi);have FH:(bQ n Sd)[i]∈bQ n Sd:=aV hi;have pl:(bQ n Sd)[i]<n:=aS.mp (b8.mp FH).1;have uj:∀q∈bQ n Sd,dB n Lk Sd (bQ n Sd)[i]+wW n Lk (bt Sd (bQ n Sd)[i])≤dB n Lk Sd q+wW n Lk (bt Sd q):=fun q hq=>by
    obtain ⟨j,hj,rfl⟩:=pE hq;have ql:(bQ n Sd)[j]<n:=aS.mp (b8.mp hq).1;have:=best j (by rw [ch.1];exact hj)
    simp only [cQ,bz,aZ hi,aZ hj,CH,Option.getD_some] at this;lia
   generalize (bQ n Sd)[i]=p at g FH pl uj;have pS:p∉Sd:=by have:=(b8.mp FH).2;simpa using this
   have Rq:=s4 _ _ FF;refine ⟨b,_,_,_,rfl,rfl,.of g,rfl,?_⟩;dsimp only [aQ];refine ⟨_,rfl,.inl ⟨rfl,_,.of Rq⟩,_,rfl,lo,_,_,rfl,rfl,Rq,cV (by rw [ay];lia),?_⟩
   have off:∀c u,c≠lo→H4 c=some u→upd H4 lo (.lst ((o.map fun k:Nat=>V.int (k:Int))++[V.int (p:Int)])) c=some u:=fun c u cl e=>(aE cl).trans e;have Rr:upd H4 lo (.lst ((o.map fun k:Nat=>V.int (k:Int))++[V.int (p:Int)])) lo=some (.lst ((o++[p]).map fun k:Nat=>V.int (k:Int))):=by rw [ar,eW];rfl
   have dnl:dn≠lo:=fun z=>by rw [z,FF] at FG;cases FG
   have Ru:=off _ _ dnl (s4 _ _ FG);have Rv:=off _ _ loD.symm (s4 _ _ fu);have s5:af H (upd H4 lo (.lst ((o.map fun k:Nat=>V.int (k:Int))++[V.int (p:Int)]))):=fun c u e=>off c u (fun z=>by rw [z,Ro] at e;cases e) (s4 _ _ (sc _ _ e))
   generalize upd H4 lo (.lst ((o.map fun k:Nat=>V.int (k:Int))++[V.int (p:Int)]))=H5 at Rr Ru Rv s5 ⊢;dsimp only;refine ⟨_,rfl,_,rfl,dn,Sd.map iN,(p:Int),rfl,by rw [Ru,cx];rfl,by rw [ay];lia,fun H6 tq ws pm so jX s6 me=>?_⟩
   have ew:=OH m1 pS pm so;subst ew;refine ⟨_,?_,o++[p],bt Sd p,tq,_,rfl,rfl,s5.trans s6,s6 _ _ Rv,s6 _ _ Rr,by rw [me,cx];rfl,fw.next FH uj⟩
   rw [cW];simp only [nQ];lia
 ·have hc:¬((o.map fun k:Nat=>V.int (k:Int)).length:Int)<(n:Int):=fun z=>hc (bu z)
  rw [ay] at hc;have oe:o.length=n:=by lia
  have sf:=Zx fw.mem (by lia)
  have w0:wW n Lk Sd=0:=by unfold wW;rw [lS,oe,mw];rfl
  have tt:=fw.OO;refine ⟨_,rfl,_,rfl,bG _,fun e0 Kt=>?_⟩;have s6:af Hc (upd Hc e0 (.tup [])):=aK Kt;have e6:upd Hc e0 (.tup []) e0=some (.tup []):=ar;generalize upd Hc e0 (.tup [])=H6 at s6 e6 ⊢;refine ⟨D,_,rfl,(rY [] (cg.mpr ⟨.nil,fun x h=>by cases h⟩))▸jx.t (k:=e_ []) (s6 _ _ fu) e6,by show 2≤sizeLine;decide,fun t nt=>?_⟩
  exact kk _ t lo o (sc.trans (s6.trans (aK nt))) Ro ar (aK nt _ _ (s6 _ _ FF)) (fw.pm.symm.trans (sf▸.refl _)) (by lia)
theorem acu:cG ["shape","done","worth_of"] ["shape","done","worth_of"] (bH EO):=dt
theorem acv(T:Txt K mg t):cu P w K mg base (fG P w) 4 t.uU t.yB ["shape","done","worth_of"] ZI:=by
 have S:=acu;refine T.y6.eN S (fun _ _ _ _ H _ _ _ hr h L=>?_);obtain ⟨tp,d,wo,n,Lk,done,kvs,W,rfl,fb,di,n9,ed,hd,oZ,hW,hW0,kk⟩:=h;have Kr:=iT (kW (show 1≤64 by decide) _) hr.units
 have ll:(bQ n done).length≤9:=bU (nW _ _) (by rw [cC];exact n9)
 refine ⟨_,(aM (cF (cZ (AG (K:=K) rfl) rfl T.zh boot_all (ah (Ni (N:=["total","place","worth_of","done"]) (ρ:=(fun σ=>[σ[2]?.join,σ[1]?.join])) (HC [2,1] rfl) rfl (eX (bF (Kq T) hr T.E_ T.rS.kp T.E9 (lh L) (ah (pv 0) (ah (pv 1) (ah (pv 2) aj))))) (fun _ _ _=>.nil) (fun _ _ _=>(Ak Um (xE Kr (pv 2) (pv 3) (fun _ _=>rfl)) (pv 0)))) aj)))),?_⟩;refine pW (ZH (ZG (Z:=(bQ n done).map fun p=>(dB n Lk done p+W (bt done p),(p:Int))) (fun z=>.bl (decide (W done≤z.1))) (fun R h=>?_) (cV (by rw [ay];lia)) (fun z _ Hc R sc kR=>?_) fun D3 H4 nD3 s4 vG=>?_))
 ·refine ⟨_,rfl,_,rfl,_,rfl,tp,d,wo,n,Lk,done,kvs,W,rfl,fb,di,n9,ed,hd,oZ,hW,fun H3 Dc ys s3 fu ch=>?_⟩
  exact ⟨Dc,rfl,⟨_,.of fu⟩,h _ _ s3 (OJ fu (Jf ch))⟩
 ·refine ⟨_,rfl,_,rfl,wo,_,rfl,hW0▸jx.t (k:=e_ done) (sc _ _ oZ) (by rw [sc _ _ ed];unfold e_;rw [cx];rfl),_,rfl,_,_,rfl,rfl,kR⟩
 ·refine ⟨D3,((bQ n done).map fun p=>decide (W done≤dB n Lk done p+W (bt done p))),rfl,.of (by rw [vG,cx,cx];rfl),?_⟩
  have e:((bQ n done).map fun p=>decide (W done≤dB n Lk done p+W (bt done p))).all id=uo n Lk W done:=by
   unfold uo;rw [pb,pD,fT];constructor
   ·intro h p hp
    exact dC (h _ (bK.mpr ⟨p,hp,rfl⟩))
   ·intro h b hb
    obtain ⟨p,hp,rfl⟩:=bK.mp hb;exact bu (h p hp)
  rw [e];exact kk _ s4
theorem acx:cG ["shape","order","worths","many","tuples"] ["shape","order","worths"] (bH ER):=dt
theorem acy(T:Txt K mg t):cu P w K mg base (fG P w) 6 t.uV t.yC ["shape","order","worths"] (ZQ t.l_):=by
 have S:=acx
 refine T.y7.eN S (fun _ _ _ _ H _ Q _ hr h L=>?_)
 obtain ⟨tp,a,wo,n,Lk,o,qs,W,rfl,fb,di,Ku,n9,ea,ho,oZ,pq,kk⟩:=h
 have hu:=iT (kW (show 1≤64 by decide) _) hr.units
 have lo:=t9 ho
 have Rm:(aY n).length≤512:=by
  rw [D9]
  exact bU (Cs (by decide) n9) (by decide)
 have rY:∀q,q∈aY n→e7 (wD W qs) (e_ q)=some (.int (W q)):=fun q hq=>Ea _ (pq.mem_iff.mpr hq)
 have lw:(wD W qs).length=(aY n).length:=by unfold wD;rw [ay,pq.length_eq]
 refine ⟨_,(aC (je (bF (J0 T) hr T.E8 T.rR.kp T.E7 (lh L) (ah (pv 0) aj)))
  (aC (putL 3 S.nd (bF (abM T) hr T.Qg T.yY.kp T.Qf (lh L) (ah (pv 0) (ah (pv 1) aj))))
  (aC (putL 4 S.nd (bF (Rj T) hr T.JN T.vh.kp T.JM dc (ah (cy iI (pv 0) aW) aj)))
  (aC (fF (PW.pt (pw_or (fj wR (cZ ZF rfl T.i8 jb (ah (pv 2) aj)) (cZ ke rfl T.i8 jb (ah (pv 4) aj))) (pw_or1 (wK (sS (cZ (AG (K:=K) rfl) rfl T.zh boot_all (ah (kg (N:=["done","worths"]) (ρ:=(fun σ=>[σ[2]?.join])) (gK [2] rfl) rfl (eX (pv 4)) (fun _ _ _=>.nil) (fun _ _ _=>(TB (Xo hu (pv 0) (pv 1)) rfl))) aj))))))) (aM (cF jH)) fY)
  (aC (fF (PW.pt (pw_or (fj tj (xE hu (pv 2) (iH (ZP rfl) rfl T.zi boot_tuple (ah (iH AH rfl T.kB AJ (ah (cy iI (pv 0) aW) aj)) aj)) (fun _ _=>rfl)) aW) (pw_or1 (fj wR (xE hu (pv 2) (iG aj) (fun _ _=>rfl)) (pv 3))))) (aM (cF jH)) fY)
  (aM (cF (cZ (AG (K:=K) rfl) rfl T.zh boot_all (ah (kg (N:=["done","shape","worths"]) (ρ:=(fun σ=>[σ[0]?.join,σ[2]?.join])) (gK [0,2] rfl) rfl (eX (pv 4)) (fun _ _ _=>.nil) (fun _ _ _=>(bF (acv T) hr T.Qm T.y6.kp T.Ql oE (ah (pv 1) (ah (pv 0) (ah (pv 2) aj)))))) aj))))))))),?_⟩
 refine ⟨_,rfl,tp,n,Lk,rfl,fb,n9,?_⟩
 refine ⟨_,rfl,_,rfl,tp,a,n,Lk,o.map iN,rfl,fb,di,Ku,by lia,by rw [ea,cx];rfl,by rw [ay];lia,fun no=>absurd (ho.map iN) no,fun o' e' kX H1 s1 d hd=>?_⟩
 have eo:o'=o:=by
  have:=fv (List.map Int.toNat) e'
  rw [cx,cx] at this
  have BE:∀l:List Nat,l.map (Int.toNat ∘ iN)=l:=fun l=>by
   conv=>rhs;rw [←qL l]
   exact g8 fun k _=>en k
  rw [BE,BE] at this
  exact this.symm
 subst eo
 dsimp only [aQ]
 obtain ⟨lt,us,fO,elt,mQ⟩:=id (fb.mono s1)
 refine ⟨_,rfl,tp,_,_,_,rfl,rfl,.of fO,rfl,n,rfl,n9,fun Dx xs H2 s2 nDx jE tu=>?_⟩
 have iq:=s1.trans s2
 dsimp only [aQ]
 refine eG ⟨_,rfl,wo,_,rfl,iq _ _ oZ,by lia,_,rfl,Dx,xs,rfl,.inl (.of jE),rfl,_,rfl,d9 (fun hb=>?_) (fun _=>?_)⟩
 ·rw [lw,tu.1,tP,bu rfl] at hb
  cases hb
 dsimp only [qW]
 have lx:xs.length=(aY n).length:=tu.1
 have Rw:∀(i:Nat) (x:V),xs[i]?=some x→∃q b,(aY n)[i]?=some q∧q∈aY n∧x=V.ref b∧H2 b=some (.tup (q.map fun k:Nat=>V.int (k:Int))):=fun i x hx=>by
  have hi:i<(aY n).length:=by
   rw [←lx]
   exact (bV.mp hx).1
  obtain ⟨b,e,g⟩:=tu.2 i x _ hx (aZ hi)
  exact ⟨_,b,aZ hi,aV hi,e,g⟩
 refine xg (rf (xs:=xs) (fun R h=>⟨_,rfl,Dx,rfl,⟨_,.of jE⟩,h _ _ (af.refl _) (kh (.of jE))⟩) (cV (by lia)) (fun _ i y _=>y=.bl true) (fun _ _ _ _ _ _ h _ _=>h) ?_ ?_)
 ·intro Dd i x hx Hz R sz _ kz
  obtain ⟨q,b,l5,qm,rfl,eb⟩:=Rw i x hx
  refine ⟨_,rfl,_,rfl,wo,_,rfl,(rY q qm)▸jx.t (k:=e_ q) ((iq.trans sz) _ _ oZ) (by rw [sz _ _ eb];unfold e_;rw [cx];rfl),?_⟩
  exact kz _ _ (af.refl _) rfl
 ·intro Dd ys H3 BS s3 i_ iM oX
  have ey:ys=(List.replicate ys.length true).map V.bl:=by
   refine iy (by simp) fun i h1 h2=>?_
   rw [iV,List.getElem_replicate]
   exact iM i _ (aZ h1)
  have jD:=iq.trans s3
  refine ⟨Dd,_,rfl,.of (by rw [oX,ey]),true,?_,k_ ?_⟩
  ·rw [show (List.replicate ys.length true).all id=true from by simp]
  have Kv:∀{Hx:Hp} {b:Bool},af H Hx→b=rH n Lk W d→Q (.bl b) Hx:=fun sx e=>e▸kk _ d sx hd
  have acz:=(s2.trans s3) _ _ fO
  refine eG ⟨_,rfl,_,rfl,tp,_,_,_,rfl,rfl,.of acz,rfl,(n:Int),rfl,fun q1 oY=>⟨q1,n,rfl,ar,by lia,fun tq jX=>?_⟩⟩
  have s4:af H3 (upd (upd H3 q1 (.fV 0 (n:Int))) tq (.tup (dz n))):=(aK oY).trans (aK jX)
  have me:upd (upd H3 q1 (.fV 0 (n:Int))) tq (.tup (dz n)) tq=some (.tup (dz n)):=ar
  generalize upd (upd H3 q1 (.fV 0 (n:Int))) tq (.tup (dz n))=H4 at s4 me ⊢
  have kC:=jD.trans s4
  refine ⟨wo,_,rfl,(rY (List.range n) (cg.mpr ⟨Bb n,fun x hx=>aS.mp hx⟩))▸jx.t (k:=e_ (List.range n)) (kC _ _ oZ) (by rw [me];unfold e_ dz;rw [cx];rfl),_,_,rfl,rfl,_,rfl,d9 (fun hb=>?_) (fun hb=>?_)⟩
  ·refine Kv kC ?_
   have hb:decide (0<W (List.range n))=true:=hb
   unfold rH
   rw [hb]
   rfl
  have hb:decide (0<W (List.range n))=false:=by
   cases z:decide (0<W (List.range n)) with
   | false=>rfl
   | true=>exact absurd z hb
  refine ⟨_,rfl,bG _,fun e0 Kt=>?_⟩
  have s5:af H4 (upd H4 e0 (.tup [])):=aK Kt
  have e5:upd H4 e0 (.tup []) e0=some (.tup []):=ar
  generalize upd H4 e0 (.tup [])=H5 at s5 e5 ⊢
  have qt:=kC.trans s5
  refine ⟨wo,_,rfl,(rY [] (cg.mpr ⟨.nil,fun x h=>by cases h⟩))▸jx.t (k:=e_ []) (qt _ _ oZ) e5,_,rfl,rfl,_,rfl,d9 (fun hc=>?_) (fun hc=>?_)⟩
  ·refine Kv qt ?_
   rw [tP] at hc
   have dY:decide (W []=(d:Int))=false:=by
    cases z:decide (W []=(d:Int)) with
    | false=>rfl
    | true=>rw [z] at hc;cases hc
   unfold rH
   rw [hb,dY]
   rfl
  have hc:decide (W []=(d:Int))=true:=by
   rw [tP] at hc
   cases z:decide (W []=(d:Int)) with
   | true=>rfl
   | false=>rw [z] at hc;exact absurd rfl hc
  have Rx:=s3.trans (s4.trans s5)
  have Ry:=Rx _ _ jE
  dsimp only [qW]
  refine pW (xg (rf (xs:=xs) (fun R h=>⟨_,rfl,Dx,rfl,⟨_,.of Ry⟩,h _ _ (af.refl _) (kh (.of Ry))⟩) (cV (by lia)) (fun _ i y _=>∀q,(aY n)[i]?=some q→y=.bl (uo n Lk W q)) (fun _ _ _ _ _ _ h _ _=>h) ?_ ?_))
  ·intro De i x hx Hz R sz _ kz
   obtain ⟨q,b,l5,qm,rfl,eb⟩:=Rw i x hx
   have zu:=qt.trans sz
   obtain ⟨m1,m2⟩:=cg.mp qm
   refine ⟨_,rfl,_,rfl,_,rfl,tp,b,wo,n,Lk,q,_,W,rfl,fb.mono zu,di,n9,(Rx.trans sz) _ _ eb,qm,zu _ _ oZ,(fun p pn pd=>rY _ (cg.mpr ⟨rG m1 pd,fun x hx=>by
    rcases nz.mp hx with rfl | hx
    ·exact pn
    ·exact m2 x hx⟩)),rY q qm,fun H6 s6=>kz _ _ s6 fun r hr=>?_⟩
   rw [l5] at hr
   cases hr
   rfl
  ·intro De zs H6 FI s6 lzs hzs eDe
   refine ⟨De,(aY n).map (uo n Lk W),rfl,.of ?_,Kv (qt.trans s6) ?_⟩
   ·rw [eDe]
    congr 2
    refine iy (by rw [lzs,lx,ay,ay]) fun i h1 h2=>?_
    have hi:i<(aY n).length:=by simpa using h2
    rw [iV,iV]
    exact hzs i _ (aZ h1) _ (aZ hi)
   ·unfold rH
    rw [hb,hc,List.all_map]
    rfl
theorem acD:cG ["linked","whence","place"] ["linked","whence","place"] (bH EV):=dt
theorem acE(T:Txt K mg t):cu P w K mg base dE 1 t.uZ t.yG ["linked","whence","place"] aaC:=by
 have S:=acD;refine T.za.ft S (fun _ _ _ _ H _ Q _ hr h=>?_);obtain ⟨D,wd,n,L,ds,f,wl,p,rfl,ls,lf,ew,x9,pn,n9,kk⟩:=h;have hu:=iT (kW (show 1≤64 by decide) _) hr.units
 refine ⟨_,(aM (cF (kg (N:=["other","whence"]) (ρ:=(fun σ=>[σ[1]?.join])) (gK [1] rfl) rfl (xG (cy eY (pv 0) (pv 2))) (fun _ _ _=>(.one (CM (DM hu (pv 0) (pv 1)) rfl))) (fun _ _ _=>(pv 0))))),?_⟩;refine pW (DU (Pn (a:=ds p) (kvs:=dk (f p)) (fun Q q=>⟨_,rfl,_,rfl,D,_,_,_,rfl,rfl,.of lf.lst,qa pn,q⟩) (lf.at' p pn) fun ob Hf iO off fz=>?_));have ewf:=off _ _ (x9 p pn) ew;have Kf:=lf.bE off pn iO ls.inj (ls.ne p pn);have zp:=(ls.pl p pn).len;refine Iw iO (fun q=>!decide (q∈cz wl)) (cV (by lia)) ?_ ?_ ?_
 ·intro q hq Hx R sx hR
  refine ⟨_,rfl,_,rfl,wd,_,rfl,.inl ⟨ee wl,Sum.inl (q:Int),.inl (sx _ _ ewf),rfl,rfl⟩,_,rfl,?_⟩;have e:(e7 (ee wl) (Sum.inl (q:Int):Key)).isSome=decide (q∈cz wl):=by
   rw [Em,zX];by_cases h:q∈cz wl;·rw [bu h,lookup_mem.mpr h]
   ·rw [bY h]
    cases z:wl.lookup q with
    | none=>rfl
    | some o=>exact absurd (lookup_mem.mp (by rw [z];rfl)) h
  rw [e];exact hR
 ·intro q hq Hx R hR
  exact ⟨_,rfl,hR⟩
 ·intro r Hg nr sg eg
  have ob2:jA n ds H Hg:=fun b u e ne=>by
   refine sg _ _ ?_;by_cases z:b=ds p
   ·rcases ne with h | ⟨BD,u',rfl⟩
    ·exact absurd z (h p pn)
    ·rw [z] at e ⊢
     exact fz _ _ e
   ·exact off _ _ z e
  refine kk Hg r ob2 ⟨sg _ _ Kf.lst,fun i hi=>(Kf.at' i hi).imp (fun e=>sg _ _ e) fun⟨ob,e⟩=>⟨ob,sg _ _ e⟩⟩ ?_ eg;cases e:H r with
  | none=>rfl
  | some o=>
   by_cases z:r=ds p;·rw [z,iO] at nr;cases nr
   ·rw [off r o z e] at nr;cases nr
theorem acH:cG ["whence","place","walk"] ["whence","place"] (bH EU):=dt
theorem acI(T:Txt K mg t):cu P w K mg base dE 1 t.uY t.yF ["whence","place"] aaD:=by
 have S:=acH;refine T.y_.ft S (fun _ _ _ _ H _ _ _ hr h=>?_);obtain ⟨wd,wl,v,ws,rfl,ew,bk,w9,kk⟩:=h;have hu:=iT (kW (show 1≤64 by decide) _) hr.units
 refine ⟨_,(aC (putL 2 S.nd (gu aj))
  (aC (wN fi (fj Mr (pv 1) wJ) (aC (je (jM jc qO qP k8 (pv 2) (ah (pv 1) aj)))
  (aM (putL 1 S.nd (xE hu (pv 0) (pv 1) (fun _ _=>rfl))))))
  (aM (cF (pv 2))))),?_⟩
 refine eG ⟨bG _,fun l nl=>?_⟩;have s0:af H (upd H l (.lst [])):=aK nl;have el:upd H l (.lst []) l=some (.lst (([]:List Nat).map fun k:Nat=>V.int (k:Int))):=ar;generalize upd H l (.lst [])=H0 at s0 el ⊢;dsimp only [aQ];refine eG ⟨fun m σ Hc=>∃(as rs:List Nat) (po:Option Nat),σ=[some (.ref wd),some (oV po),some (.ref l)]∧m=rs.length∧ws=as++rs∧(match po with | none=>rs=[] | some p=>Back wl p rs)∧af H Hc∧Hc l=some (.lst (as.map fun k:Nat=>V.int (k:Int))),⟨_,[],ws,some v,rfl,rfl,rfl,bk,s0,el⟩,?_⟩
 rintro m σ Hc ⟨as,rs,po,rfl,rfl,qu,hp,sc,i9⟩;refine ⟨_,rfl,rfl,_,rfl,d9 (fun hb=>?_) (fun hb=>?_)⟩
 ·cases po with
  | none=>exact absurd hb (by decide)
  | some p=>
   have hp:Back wl p rs:=hp;have lrs:as.length+rs.length=ws.length:=by rw [qu,cW]
   refine ⟨_,fun _ _ h=>h,?_⟩;refine eG ⟨_,rfl,.inl ⟨rfl,_,.of i9⟩,_,rfl,l,_,_,rfl,rfl,i9,cV (by rw [ay];lia),?_⟩
   have BW:(as.map fun k:Nat=>V.int (k:Int))++[oV (some p)]=(as++[p]).map fun k:Nat=>V.int (k:Int):=by rw [eW];rfl
   rw [BW];have nlH:H l=none:=nl;have s1:af H (upd Hc l (.lst ((as++[p]).map fun k:Nat=>V.int (k:Int)))):=fc sc nlH;have qr:upd Hc l (.lst ((as++[p]).map fun k:Nat=>V.int (k:Int))) l=some (.lst ((as++[p]).map fun k:Nat=>V.int (k:Int))):=ar;generalize upd Hc l (.lst ((as++[p]).map fun k:Nat=>V.int (k:Int)))=H1 at s1 qr ⊢;dsimp only [aQ];cases hp with
   | last h1=>
    refine ⟨_,rfl,_,rfl,wd,oV none,rfl,.inl ⟨ee wl,Sum.inl (p:Int),.inl (s1 _ _ ew),rfl,by rw [Em,h1];rfl⟩,?_⟩
    exact ⟨0,Nat.one_pos,as++[p],[],none,rfl,rfl,by rw [qu];simp,rfl,s1,qr⟩
   | @step _ p2 Rz h1 h2=>
    refine ⟨_,rfl,_,rfl,wd,oV (some p2),rfl,.inl ⟨ee wl,Sum.inl (p:Int),.inl (s1 _ _ ew),rfl,by rw [Em,h1];rfl⟩,?_⟩
    exact ⟨Rz.length,Ct _,as++[p],Rz,some p2,rfl,rfl,by rw [qu];simp,h2,s1,qr⟩
 ·cases po with
  | some p=>exact absurd (by rfl) hb
  | none=>have hp:rs=[]:=hp;subst hp;rw [jF] at qu;subst qu;exact ⟨_,rfl,kk _ _ sc nl i9⟩
theorem acK:cG ["linked","place","start","whence","heads","reached","head","fresh","other"] ["linked","place","start"] (bH EW):=dt
theorem acL(T:Txt K mg t):cu P w K mg base dE 2 t.u4 t.yH ["linked","place","start"] aaE:=by
 have S:=acK;refine T.zb.ft S (fun _ _ _ _ H _ _ _ hr h=>?_);obtain ⟨D,n,L,ds,f,x,st,rfl,aJ⟩:=h;have ls:=aJ.1;have lf:=aJ.2.1;have pw:=aJ.2.2.1;have lt:=aJ.2.2.2.1;have xs:=aJ.2.2.2.2.1;have n9:=aJ.2.2.2.2.2.1;have kN:=aJ.2.2.2.2.2.2.1;have kk:=aJ.2.2.2.2.2.2.2;clear aJ;have hu:=iT (kW (show 1≤64 by decide) _) hr.units
 refine ⟨_,(aC (putL 3 S.nd (N1 (Il (pv 1) wJ (Il (pv 2) wJ NX)) rfl rfl (fun h=>by cases h) (by decide)))
  (aC (putL 4 S.nd (gu (ah (pv 2) aj)))
  (aC (wN fi (fj tj (cZ ke rfl T.i8 jb (ah (pv 4) aj)) aW) (aC (putL 5 S.nd (gu aj))
  (aC (fZ fi rfl (eX (pv 4)) (dy (i:=6) S.nd rfl (Or.inl rfl))
   (aC (putL 7 S.nd (bF (acE T) hr T.Qu T.za.kp T.Qt dc (ah (pv 0) (ah (pv 3) (ah (pv 6) aj)))))
  (aM (fZ fi rfl (eX (pv 7)) (dy (i:=8) S.nd rfl (Or.inl rfl))
   (aC (xF hu (pv 3) (pv 8) (pv 6) rfl)
  (aM (fF (CM (DM hu (pv 8) (cy eY (pv 0) (pv 1))) rfl) (aM (je (jM jc qO qP k8 (pv 5) (ah (pv 8) aj)))) (aM (fF (CM (DM hu (pv 8) (cy eY (pv 0) (pv 2))) rfl) (aM (cF (cq Ax (gu (ah (pv 1) aj)) (bF (acI T) hr T.Qs T.y_.kp T.Qr dc (ah (pv 3) (ah (pv 8) aj)))))) fY)))))))))
  (aM (putL 4 S.nd (pv 5))))))
  (aM (cF wJ))))),?_⟩
 have xn:x<n:=xs.1;have sn:st<n:=xs.2.1;have qv:∀i j,i<n→(j∈f i↔aL n L i j):=fun i j hi=>by
  constructor
  ·intro h
   exact ⟨hi,(ls.pl i hi).2 j h,(ls.nb i j hi).mp h⟩
  ·intro h
   exact (ls.nb i j hi).mpr h.2.2
 have ir:∀a,¬aL n L a a:=fun a h=>by rcases h.2.2 with e | e <;> (have:=lt _ e;lia)
 have RA:x≠st:=fun z=>ir x (by have:=xs;rw [←z] at this;exact this)
 have inK:∀(wl:List (Nat×Option Nat)) (q:Nat),(e7 (ee wl) (Sum.inl (q:Int):Key)).isSome=decide (q∈cz wl):=fun wl q=>by
  rw [Em,zX];by_cases h:q∈cz wl;·rw [bu h,lookup_mem.mpr h]
  ·rw [bY h]
   cases z:wl.lookup q with
   | none=>rfl
   | some o=>exact absurd (lookup_mem.mp (by rw [z];rfl)) h
 have inD:∀(i q:Nat),(e7 (dk (f i)) (Sum.inl (q:Int):Key)).isSome=decide (q∈f i):=fun i q=>by
  rw [N5];by_cases h:q∈f i;·rw [ae h,bu h];rfl
  ·rw [aa h,bY h];rfl
 have B0:∀{Hx:Hp},e9 Hx D n ds f→∀{b:Addr},(Hx b=none∨∃xs,Hx b=some (.lst xs))→∀i,i<n→b≠ds i:=fun{Hx} k {b} hb i hi z=>by subst z;rcases k.at' i hi with e | ⟨ob,e⟩ <;> rcases hb with h | ⟨xs,h⟩ <;> (rw [e] at h;cases h)
 refine cJ fun _ qk=>(lG fun wd zv=>⟨_,rfl,_,rfl,ar,[((Sum.inl (x:Int):Key),V.aI),((Sum.inl (st:Int):Key),V.aI)],rfl,by show 2≤15;decide,?_⟩)
 have RB:upd (upd H wd (.dK [])) wd (.dK (ng [] [((Sum.inl (x:Int):Key),V.aI),((Sum.inl (st:Int):Key),V.aI)])) wd=some (.dK (ee [(x,none),(st,none)])):=by
  rw [ar];have e1:putK (ee []) (Sum.inl (x:Int):Key) (oV none)=ee ([]++[(x,none)]):=Jr (by simp [cz])
  have e2:putK (ee [(x,none)]) (Sum.inl (st:Int):Key) (oV none)=ee ([(x,none)]++[(st,none)]):=Jr (by simp [cz];exact Ne.symm RA)
  show some (HO.dK (putK (putK (ee []) (Sum.inl (x:Int):Key) (oV none)) (Sum.inl (st:Int):Key) (oV none)))=_;rw [e1];exact fv (fun z=>some (HO.dK z)) e2
 have s0:af H (upd (upd H wd (.dK [])) wd (.dK (ng [] [((Sum.inl (x:Int):Key),V.aI),((Sum.inl (st:Int):Key),V.aI)]))):=fc (aK zv) zv;generalize upd (upd H wd (.dK [])) wd (.dK (ng [] [((Sum.inl (x:Int):Key),V.aI),((Sum.inl (st:Int):Key),V.aI)]))=H0 at RB s0 ⊢;have Kw:∀i,i<n→wd≠ds i:=B0 lf (.inl zv);have wD:wd≠D:=fun z=>by rw [z,lf.lst] at zv;cases zv
 dsimp only [aQ];refine qk _ _ ?_;refine cJ fun _ kD=>⟨_,rfl,by show 1≤sizeLine;decide,fun h0 nh0=>?_⟩
 have s1:af H0 (upd H0 h0 (.lst [V.int (st:Int)])):=aK nh0;have RC:upd H0 h0 (.lst [V.int (st:Int)]) h0=some (.lst (([st]:List Nat).map fun k:Nat=>V.int (k:Int))):=ar;generalize upd H0 h0 (.lst [V.int (st:Int)])=H1 at s1 RC ⊢;have FJ:=s0.trans s1;have lf1:e9 H1 D n ds f:=⟨FJ _ _ lf.lst,fun i hi=>(lf.at' i hi).imp (fun e=>FJ _ _ e) fun⟨ob,e⟩=>⟨ob,FJ _ _ e⟩⟩;dsimp only [aQ];refine kD _ _ ?_;refine eG ⟨fun m σ Hc=>∃(hl:Addr) (hs:List Nat) (wl:List (Nat×Option Nat)) (v5 v6 v7 v8:Option V),σ=[some (.ref D),some (.int (x:Int)),some (.int (st:Int)),some (.ref wd),some (.ref hl),v5,v6,v7,v8]∧m=2*(n-wl.length)+hs.length∧jA n ds H Hc∧e9 Hc D n ds f∧Hc wd=some (.dK (ee wl))∧Hc hl=some (.lst (hs.map fun k:Nat=>V.int (k:Int)))∧gW n (aL n L) wl x st hs none,⟨_,h0,[st],[(x,none),(st,none)],_,_,_,_,rfl,rfl,fun b u e _=>FJ _ _ e,lf1,s1 _ _ RB,RC,gW.start RA xn sn⟩,?_⟩;rintro m σ Hc ⟨hl,hs,wl,v5,v6,v7,v8,rfl,rfl,aX⟩;have oc:=aX.1;have lc:=aX.2.1;have Kx:=aX.2.2.1;have zw:=aX.2.2.2.1;have bf:=aX.2.2.2.2;clear aX;have vH:∀{Hx:Hp},jA n ds H Hx→e9 Hx D n ds f→∀{b:Addr},Hx b=none→H b=none:=fun{Hx} o k {b} hb=>by
  cases e:H b with
  | none=>rfl
  | some u=>rw [o b u e (.inl (B0 k (.inl hb)))] at hb;cases hb
 refine ⟨_,rfl,hl,_,rfl,.inl (.of zw),_,_,rfl,rfl,_,rfl,d9 (fun hb=>?_) (fun hb=>?_)⟩
 ·have h1:1≤hs.length:=by have:=dC hb;rw [ay] at this;lia
  refine ⟨_,fun _ _ h=>h,?_⟩;refine eG ⟨bG _,fun rl qw=>?_⟩;have nrH:=vH oc lc qw;have o2:af Hc (upd Hc rl (.lst [])):=aK qw;have FK:upd Hc rl (.lst []) rl=some (.lst (([]:List Nat).map fun k:Nat=>V.int (k:Int))):=ar;generalize upd Hc rl (.lst [])=H2 at o2 FK ⊢;have rhl:rl≠hl:=fun z=>by rw [z,zw] at qw;cases qw
  have RD:rl≠wd:=fun z=>by rw [z,Kx] at qw;cases qw
  have rD:rl≠D:=fun z=>by rw [z,lc.lst] at qw;cases qw
  have rds:∀i,i<n→ds i≠rl:=fun i hi=>Ne.symm (B0 lc (.inl qw) i hi);have hlw:hl≠wd:=fun z=>by rw [z,Kx] at zw;cases zw
  dsimp only [aQ];refine eG ⟨_,rfl,hl,rfl,⟨_,.of (o2 _ _ zw)⟩,?_⟩
  refine mK (K:=K) (a:=hl) (xs:=hs.map fun k:Nat=>V.int (k:Int)) (fun i σ He=>∃(rs:List Nat) (kF:List (Nat×Option Nat)) (v6 v7 v8:Option V),σ=[some (.ref D),some (.int (x:Int)),some (.int (st:Int)),some (.ref wd),some (.ref hl),some (.ref rl),v6,v7,v8]∧jA n ds H He∧e9 He D n ds f∧He wd=some (.dK (ee kF))∧He hl=some (.lst (hs.map fun k:Nat=>V.int (k:Int)))∧He rl=some (.lst (rs.map fun k:Nat=>V.int (k:Int)))∧gW n (aL n L) kF x st (hs.drop i++rs) none∧rs.length+wl.length≤kF.length)
   ⟨[],wl,_,_,_,rfl,fun b u e ne=>o2 _ _ (oc b u e ne),⟨o2 _ _ lc.lst,fun i hi=>(lc.at' i hi).imp (fun e=>o2 _ _ e) fun⟨ob,e⟩=>⟨ob,o2 _ _ e⟩⟩,o2 _ _ Kx,o2 _ _ zw,FK,by simpa using bf,by simp⟩ (fun i σ He _ ⟨_,_,_,_,_,_,_,_,_,e,_⟩=>.of e) ?_ ?_
  ·rintro i xv σ He mZ ⟨rs,kF,v6,v7,v8,rfl,ba⟩
   have oe:=ba.1;have le:=ba.2.1;have B1:=ba.2.2.1;have Ky:=ba.2.2.2.1;have B2:=ba.2.2.2.2.1;have rZ:=ba.2.2.2.2.2.1;have len:=ba.2.2.2.2.2.2;clear ba;have hi:i<hs.length:=by have:=(bV.mp mZ).1;rw [ay] at this;exact this
   have B3:xv=.int ((hs[i]:Nat):Int):=by rw [bz,aZ hi] at mZ;exact (Option.some.inj mZ).symm
   subst B3;have edr:hs.drop i=hs[i]::hs.drop (i+1):=Gp hi;rw [edr,List.cons_append] at rZ;generalize hs[i]=h at rZ ⊢;obtain ⟨r6,RE⟩:=rZ.way h cj;have hn:h<n:=RE.lt h cj;have bfo:=rZ.opened;dsimp only [aQ];refine cJ fun _ qo=>⟨_,rfl,_,rfl,_,rfl,D,wd,n,L,ds,f,kF,h,rfl,ls,le,B1,Kw,hn,n9,fun H3 r o3 l3 nr er=>?_⟩;have rHe:He r=none:=nr;have Kz:∀{b:Addr} {u:HO},(∀i,i<n→b≠ds i)→He b=some u→H3 b=some u:=fun{b u} ne e=>o3 _ _ e (.inl ne);have oe3:jA n ds H H3:=fun b u e ne=>o3 _ _ (oe b u e ne) ne;have ew3:=Kz Kw B1;have eh3:=Kz (B0 le (.inr ⟨_,Ky⟩)) Ky;have er3:=Kz (B0 le (.inr ⟨_,B2⟩)) B2;have aio:=vH oe le nr;have rr:r≠rl:=fun z=>by rw [z,B2] at nr;cases nr
   have gH:r≠wd:=fun z=>by rw [z,B1] at nr;cases nr
   obtain ⟨fr,FL⟩:∃fr,fr=(f h).filter fun q=>!decide (q∈cz kF):=⟨_,rfl⟩;rw [←FL] at er;have fnd:fr.Nodup:=by rw [FL];exact (ls.pl h hn).1.filter _
   have fin:∀q∈fr,q∈f h∧q∉cz kF:=fun q hq=>by rw [FL] at hq;obtain ⟨q1,q2⟩:=b8.mp hq;exact ⟨q1,fun z=>by rw [bu z] at q2;cases q2⟩
   dsimp only [aQ];refine qo _ _ ?_;refine ⟨_,rfl,r,rfl,⟨_,.of er⟩,?_⟩
   refine mK (K:=K) (a:=r) (xs:=fr.map fun k:Nat=>V.int (k:Int)) (fun j σ Hg=>∃(kG:List Nat) (fR:List (Nat×Option Nat)) (v8:Option V),σ=[some (.ref D),some (.int (x:Int)),some (.int (st:Int)),some (.ref wd),some (.ref hl),some (.ref rl),some (.int (h:Int)),some (.ref r),v8]∧jA n ds H Hg∧e9 Hg D n ds f∧Hg wd=some (.dK (ee fR))∧Hg hl=some (.lst (hs.map fun k:Nat=>V.int (k:Int)))∧Hg rl=some (.lst (kG.map fun k:Nat=>V.int (k:Int)))∧Hg r=some (.lst (fr.map fun k:Nat=>V.int (k:Int)))∧cz fR=cz kF++fr.take j∧gW n (aL n L) fR x st (hs.drop (i+1)++kG) (some h)∧ie n (aL n L) fR x st none h r6∧kG.length+wl.length≤fR.length)
    ⟨rs,kF,_,rfl,oe3,l3,ew3,eh3,er3,er,by simp,bfo,RE,len⟩ (fun j σ Hg _ ⟨_,_,_,_,_,_,_,_,_,e,_⟩=>.of e) ?_ ?_
   ·rintro j yv σ Hg vI ⟨kG,fR,v8,rfl,bI⟩
    have og:=bI.1;have lg:=bI.2.1;have KA:=bI.2.2.1;have KC:=bI.2.2.2.1;have KD:=bI.2.2.2.2.1;have RF:=bI.2.2.2.2.2.1;have ek:=bI.2.2.2.2.2.2.1;have vJ:=bI.2.2.2.2.2.2.2.1;have FN:=bI.2.2.2.2.2.2.2.2.1;have KG:=bI.2.2.2.2.2.2.2.2.2;clear bI;have hj:j<fr.length:=by have:=(bV.mp vI).1;rw [ay] at this;exact this
    have KH:yv=.int ((fr[j]:Nat):Int):=by rw [bz,aZ hj] at vI;exact (Option.some.inj vI).symm
    subst KH;have tk:=take_snoc (aZ hj);obtain ⟨B4,RG⟩:=fin fr[j] (aV hj);have vK:fr[j]∉cz fR:=fun z=>by
     rw [ek] at z;rcases cM.mp z with z | z;·exact RG z
     ·have nd:=fnd
      rw [←mB j fr,fD] at nd;exact nd.2.2 _ z _ (by rw [Gp hj];exact cj) rfl
    generalize fr[j]=o at B4 RG vK tk ⊢;have on:o<n:=(ls.pl h hn).2 o B4;have RH:aL n L h o:=(qv h o hn).mp B4;have w9:=vJ.len;dsimp only [aQ];refine cJ fun _ qp=>⟨_,rfl,_,rfl,_,rfl,wd,upd Hg wd (.dK (ee (fR++[(o,some h)]))),rfl,.inl ⟨ee fR,Sum.inl (o:Int),KA,rfl,by rw [aaz];exact cV (by lia),by rw [←Jr vK];rfl⟩,?_⟩
    have o4:∀b u,b≠wd→Hg b=some u→upd Hg wd (.dK (ee (fR++[(o,some h)]))) b=some u:=fun b u ne e=>by rw [aE ne];exact e
    have FO:upd Hg wd (.dK (ee (fR++[(o,some h)]))) wd=some (.dK (ee (fR++[(o,some h)]))):=ar;generalize upd Hg wd (.dK (ee (fR++[(o,some h)])))=H4 at o4 FO ⊢;have KI:jA n ds H H4:=fun b u e ne=>o4 b u (fun z=>by rw [z,zv] at e;cases e) (og b u e ne)
    have r9:=lg.keep o4 wD (fun i hi=>Ne.symm (Kw i hi));have RI:=o4 _ _ hlw KC;have KJ:=o4 _ _ RD KD;have B5:=o4 _ _ gH RF;have RJ:cz (fR++[(o,some h)])=cz kF++fr.take (j+1):=by unfold cz at ek ⊢;rw [eW,ek,tk,gD];rfl
    have KN:=FN.more (o,some h);have aip:kG.length+wl.length+1≤(fR++[(o,some h)]).length:=by rw [cW];exact Nat.succ_le_succ KG
    dsimp only;refine qp _ _ ?_;have RK:∀i,i<n→∀(Hx:Hp),e9 Hx D n ds f→Rd Hx (ds i) (.dK (dk (f i))):=fun i hi Hx k=>(k.at' i hi).imp id fun⟨ob,e⟩=>⟨ob,e⟩;refine ⟨_,rfl,_,rfl,_,rfl,D,_,_,_,rfl,rfl,.of r9.lst,qa xn,ds x,_,rfl,.inl ⟨dk (f x),Sum.inl (o:Int),RK x xn _ r9,rfl,rfl⟩,_,rfl,d9 (fun hb=>?_) (fun hb=>?_)⟩
    ·have nx:¬aL n L x o:=fun z=>by rw [inD,bu ((qv x o xn).mpr z)] at hb;cases hb
     have wyo:=FN.next gT vK on vJ.xk RH nx;refine ⟨_,rfl,.inl ⟨rfl,_,.of KJ⟩,_,rfl,rl,_,_,rfl,rfl,KJ,cV (by rw [ay];lia),?_⟩
     have BW:(kG.map fun k:Nat=>V.int (k:Int))++[V.int (o:Int)]=(kG++[o]).map fun k:Nat=>V.int (k:Int):=by rw [eW];rfl
     rw [BW];have o5:∀b u,b≠rl→H4 b=some u→upd H4 rl (.lst ((kG++[o]).map fun k:Nat=>V.int (k:Int))) b=some u:=fun b u ne e=>by rw [aE ne];exact e
     refine ⟨kG++[o],fR++[(o,some h)],_,rfl,fun b u e ne=>o5 b u (fun z=>by rw [z,nrH] at e;cases e) (KI b u e ne),r9.keep o5 rD rds,o5 _ _ (Ne.symm RD) FO,o5 _ _ (Ne.symm rhl) RI,ar,o5 _ _ rr B5,RJ,?_,KN,?_⟩
     ·refine vJ.met vK on (fun z=>absurd z nx) (fun _=>⟨_,wyo⟩) fun u=>?_
      rw [←gD,cM,cB];constructor
      ·rintro (h | h)
       ·exact .inl h
       ·exact .inr ⟨h,nx⟩
      ·rintro (h | ⟨h,_⟩)
       ·exact .inl h
       ·exact .inr h
     ·rw [cW]
      show kG.length+1+wl.length≤_;lia
    ·have xo:aL n L x o:=by refine (qv x o xn).mp (gp fun z=>hb ?_);rw [inD,bY z];rfl
     refine ⟨_,rfl,_,rfl,_,rfl,D,_,_,_,rfl,rfl,.of r9.lst,qa sn,ds st,_,rfl,.inl ⟨dk (f st),Sum.inl (o:Int),RK st sn _ r9,rfl,rfl⟩,_,rfl,d9 (fun qd=>?_) (fun qd=>?_)⟩
     ·have so:¬aL n L st o:=fun z=>by rw [inD,bu ((qv st o sn).mpr z)] at qd;cases qd
      obtain ⟨bare,cI,blt⟩:=aaB pw lt FN vK vJ.xk xs xo so RH;have RL:(x::o::h::r6).length≤n:=En cI blt;refine pW (Wm ⟨_,rfl,by show 1≤sizeLine;decide,fun l1 Fu=>?_⟩)
      have KO:af H4 (upd H4 l1 (.lst [V.int (x:Int)])):=aK Fu;have qr:upd H4 l1 (.lst [V.int (x:Int)]) l1=some (.lst [V.int (x:Int)]):=ar;generalize upd H4 l1 (.lst [V.int (x:Int)])=H5 at KO qr ⊢;have bko:Back (fR++[(o,some h)]) o (o::h::r6):=.step (Pm vK) KN.bk;refine ⟨_,rfl,_,rfl,wd,fR++[(o,some h)],o,o::h::r6,rfl,KO _ _ FO,bko,by simp at RL ⊢;lia,fun H6 l2 s6 vB el2=>?_⟩
      have FK:([V.int (x:Int)]++(o::h::r6).map fun k:Nat=>V.int (k:Int))=(x::o::h::r6).map fun k:Nat=>V.int (k:Int):=rfl;refine ⟨l1,l2,_,_,rfl,rfl,s6 _ _ qr,el2,?_,fun pr RM=>?_⟩
      ·rw [ay]
       exact jY (cV (show 1+(o::h::r6).length≤1000 by simp at RL ⊢;lia))
      rw [FK];have FP:af H4 H6:=KO.trans s6;have RN:jA n ds H H6:=fun b u e ne=>FP _ _ (KI b u e ne);have lg6:e9 H6 D n ds f:=⟨FP _ _ r9.lst,fun i hi=>(r9.at' i hi).imp (fun e=>FP _ _ e) fun⟨ob,e⟩=>⟨ob,FP _ _ e⟩⟩;exact kk _ pr (x::o::h::r6) (fun b u e ne=>(aK RM) _ _ (RN b u e ne)) (vH RN lg6 RM) ar bare cI blt
     ·have so:aL n L st o:=by refine (qv st o sn).mp (gp fun z=>qd ?_);rw [inD,bY z];rfl
      refine ⟨kG,fR++[(o,some h)],_,rfl,KI,r9,FO,RI,KJ,B5,RJ,?_,KN,by lia⟩
      refine vJ.met vK on (fun _=>so) (fun z=>absurd xo z) fun u=>?_;constructor;·exact .inl
      ·rintro (h | ⟨_,h⟩)
       ·exact h
       ·exact absurd xo h
   ·rintro σ Hg ⟨kG,fR,v8,rfl,dg⟩
    have og:=dg.1;have lg:=dg.2.1;have KA:=dg.2.2.1;have KC:=dg.2.2.2.1;have KD:=dg.2.2.2.2.1;have RF:=dg.2.2.2.2.2.1;have ek:=dg.2.2.2.2.2.2.1;have vJ:=dg.2.2.2.2.2.2.2.1;have FN:=dg.2.2.2.2.2.2.2.2.1;have KG:=dg.2.2.2.2.2.2.2.2.2;clear dg;rw [ay,iU] at ek;have sh:oT (aL n L) fR h:=fun u e=>by
     rw [ek];have HA:=(qv h u hn).mpr e;by_cases z:u∈cz kF;·exact ja _ z
     ·refine ei _ ?_
      rw [FL];exact b8.mpr ⟨HA,by rw [bY z];rfl⟩
    exact ⟨kG,fR,_,_,_,rfl,og,lg,KA,KC,KD,vJ.Js sh,KG⟩
  ·rintro σ He ⟨rs,kF,v6,v7,v8,rfl,eR⟩
   have oe:=eR.1;have le:=eR.2.1;have B1:=eR.2.2.1;have Ky:=eR.2.2.2.1;have B2:=eR.2.2.2.2.1;have rZ:=eR.2.2.2.2.2.1;have len:=eR.2.2.2.2.2.2;clear eR;rw [ay,List.drop_length,List.nil_append] at rZ;dsimp only [aQ];have l9:=rZ.len;refine ⟨_,rfl,_,?_,rl,rs,kF,_,_,_,_,rfl,rfl,oe,le,B1,B2,rZ⟩;lia
 ·have h0:hs=[]:=by
   cases hs with
   | nil=>rfl
   | cons y r=>refine absurd (bu ?_) hb;show (0:Int)<_;simp
  subst h0;exact kN _ oc lc fun V z=>bf.no ir V z
theorem ac3:cG ["shape","linked","place","start","ring"] ["shape"] (bH EX):=dt
theorem ac4(T:Txt K mg t):cu P w K mg base dE 3 t.u5 t.yI ["shape"] aaF:=by
 have S:=ac3;refine T.zc.ft S (fun _ _ _ _ H _ Q _ hr h=>?_);obtain ⟨tp,n,L,rfl,aJ⟩:=h;have fb:=aJ.1;have pw:=aJ.2.1;have lt:=aJ.2.2.1;have n9:=aJ.2.2.2.1;have kN:=aJ.2.2.2.2.1;have kk:=aJ.2.2.2.2.2;clear aJ;have di:e8 n L:=fun p hp=>by have:=lt p hp;exact ⟨this.1,by lia,by lia,this.2.2⟩
 refine ⟨_,(aC (putL 1 S.nd (bF (Fj T) hr T.BP T.qj.kp T.BO dc (ah (pv 0) aj)))
  (aC (fZ fi rfl (sY rfl T.kB (ah (cy iI (pv 0) aW) aj)) (dy (i:=2) S.nd rfl (Or.inl rfl))
   (aM (fZ fi rfl (xG (cy eY (pv 1) (pv 2))) (dy (i:=3) S.nd rfl (Or.inl rfl))
   (aC (putL 4 S.nd (bF (acL T) hr T.Qw T.zb.kp T.Qv dc (ah (pv 1) (ah (pv 2) (ah (pv 3) aj)))))
  (aM (fF (fj Mr (pv 4) wJ) (aM (cF (pv 4))) fY))))))
  (aM (cF wJ)))),?_⟩
 refine cJ fun _ qk=>⟨_,rfl,tp,n,L,rfl,fb,di,by lia,fun H1 D ds f s1 nD rW KL nb=>?_⟩
 obtain ⟨iP,us,fO,elt,mQ⟩:=id (fb.mono s1);have ls:Jt n L D ds f:=⟨KL.inj,KL.ne,KL.pl,nb⟩;have qv:∀i j,i<n→(j∈f i↔aL n L i j):=fun i j hi=>by
  constructor
  ·intro h
   exact ⟨hi,(ls.pl i hi).2 j h,(ls.nb i j hi).mp h⟩
  ·intro h
   exact (ls.nb i j hi).mpr h.2.2
 have KP:∀{Hx:Hp},jA n ds H1 Hx→af H Hx:=fun{Hx} o b u e=>o b u (s1 _ _ e) (.inl fun i hi z=>by rw [z,rW i hi] at e;cases e)
 dsimp only [aQ];refine qk _ _ ?_;refine eG ⟨_,rfl,tp,_,_,_,rfl,rfl,.of fO,rfl,(n:Int),rfl,by lia,by lia,?_⟩
 refine CW (fun i σ Hc=>∃(v2 v3 v4:Option V),σ=[some (.ref tp),some (.ref D),v2,v3,v4]∧jA n ds H1 Hc∧e9 Hc D n ds f∧∀x y z,x<i→¬oR (aL n L) (List.range n) x y z) ⟨_,_,_,rfl,fun b u e _=>e,KL.fr,fun x y z h=>absurd h (mq _)⟩ ?_ ?_
 ·rintro i σ Hc hi ⟨v2,v3,v4,rfl,aX⟩
  have oc:=aX.1;have lc:=aX.2.1;have nh:=aX.2.2;clear aX;have hi:i<n:=by simpa using hi
  dsimp only [aQ];refine Pn (a:=ds i) (kvs:=dk (f i)) (fun Q q=>⟨_,rfl,_,rfl,D,_,_,_,rfl,rfl,.of lc.lst,by simpa using qa hi,q⟩) (lc.at' i hi) fun ob Hf iO off fz=>?_
  have Kf:=lc.bE off hi iO ls.inj (ls.ne i hi);have B4:jA n ds H1 Hf:=fun b u e ne=>by
   have e2:=oc b u e ne;by_cases z:b=ds i
   ·rcases ne with h | ⟨BD,u',rfl⟩
    ·exact absurd z (h i hi)
    ·rw [z] at e2 ⊢
     exact fz _ _ e2
   ·exact off _ _ z e2
  have e0i:(0+(i:Int))=(i:Int):=by lia
  rw [e0i];refine IC (fun j σ He=>∃(v3 v4:Option V),σ=[some (.ref tp),some (.ref D),some (.int (i:Int)),v3,v4]∧jA n ds H1 He∧e9 He D n ds f∧He (ds i)=some (.bE ob (.dK (dk (f i))))∧∀y z,y∈(f i).take j→¬oR (aL n L) (List.range n) i y z) ⟨_,_,rfl,B4,Kf,iO,fun y z h=>by simp at h⟩ (fun j σ He _ ⟨_,_,_,_,_,e,_⟩=>e) ?_ ?_
  ·rintro j k σ He hk ⟨v3,v4,rfl,ba⟩
   have oe:=ba.1;have le:=ba.2.1;have qq:=ba.2.2.1;have FQ:=ba.2.2.2;clear ba;have km:k∈f i:=kJ hk;have tk:=take_snoc hk;dsimp only [aQ];refine eG ⟨_,rfl,_,rfl,_,rfl,D,n,L,ds,f,i,k,rfl,ls,le,pw,lt,(qv i k hi).mp km,n9,fun H' o' l' no=>?_,fun H' r zs o' nr er bare cI blt=>?_⟩
   ·dsimp only [aQ]
    refine ⟨_,rfl,rfl,false,rfl,k_ ?_⟩;refine ⟨_,_,rfl,fun b u e ne=>o' _ _ (oe b u e ne) ne,l',o' _ _ qq (.inr ⟨_,_,rfl⟩),fun y z hy=>?_⟩;rw [tk] at hy;rcases cM.mp hy with h | h;·exact FQ y z h
    ·rw [cB.mp h]
     exact no _ z
   ·dsimp only [aQ]
    refine ⟨_,rfl,rfl,true,rfl,Hk ?_⟩;refine ⟨_,rfl,kk _ r zs (KP fun b u e ne=>o' _ _ (oe b u e ne) ne) ?_ er bare cI blt⟩;cases e:H r with
    | none=>rfl
    | some u=>rw [KP oe _ _ e] at nr;cases nr
  ·rintro σ He ⟨v3,v4,rfl,bI⟩
   have oe:=bI.1;have le:=bI.2.1;have qq:=bI.2.2.1;have FQ:=bI.2.2.2;clear bI;rw [iU] at FQ;refine ⟨_,_,_,rfl,oe,le,fun x y z hx h=>?_⟩;by_cases e:x=i
   ·subst e
    exact FQ y z ((qv x y hi).mpr h.xy) h
   ·exact nh x y z (by lia) h
 ·rintro σ Hc ⟨v2,v3,v4,rfl,dg⟩
  have oc:=dg.1;have lc:=dg.2.1;have nh:=dg.2.2;clear dg;refine kN _ (KP oc) fun x y z h=>?_;have:=aS.mp h.xV;exact nh x y z (by simpa using this) h
theorem ac6:cG ["shape","order"] ["shape"] (bH EY):=dt
theorem ac7(T:Txt K mg t)(hB:nC base mg):cu P w K mg base dE 7 t.u6 t.yJ ["shape"] (aaG 178 nN):=by
 have S:=ac6
 have ac8:=abO (P:=P) (w:=w) (base:=base) T hB
 refine T.vk.ft S (fun _ _ _ _ H _ _ _ hr h=>?_)
 obtain ⟨tp,n,L,rfl,fb,pw,lt,zA,tab,kk,kR⟩:=h
 have di:e8 n L:=fun p hp=>by
  have:=lt p hp
  exact ⟨this.1,by lia,by lia,this.2.2⟩
 have Ku:qc L:=fun p hp=>by
  have:=lt p hp
  lia
 refine ⟨_,(aC (putL 1 S.nd (bF ac8 hr T.Qq T.y8.kp T.Qp dc (ah (pv 0) aj)))
  (aC (fF (sS (bF (J9 T) hr T.Fe T.rU.kp T.Fd oE (ah (pv 0) (ah (pv 1) aj)))) (aM (cF (iG (ah sQ (ah (pv 1) aj))))) fY)
  (aM (cF (iG (ah sQ (ah (bF (ac4 T) hr T.Qy T.zc.kp T.Qx dc (ah (pv 0) aj)) aj))))))),?_⟩
 refine cJ fun _ qk=>⟨_,rfl,tp,n,L,rfl,fb,di,by lia,tab,fun H1 D Pk s1 t1 nD eD pm pk=>?_⟩
 obtain ⟨ps,eP⟩:=tab.at
 have RO:=By fb eP s1
 have pr:Pk.reverse.Perm (List.range n):=(kP Pk).trans pm
 have lr:Pk.reverse.length=n:=by rw [pr.length_eq,cC]
 dsimp only [aQ]
 refine qk _ _ ?_
 refine eG ⟨_,rfl,_,rfl,tp,D,n,L,Pk.reverse.map iN,rfl,RO,di,Ku,zA,by rw [eD,cx];rfl,by rw [ay];lia,fun no=>?_,fun o eo po H2 M s2 fM=>?_⟩
 ·exact absurd (pr.map iN) no
 ·have eo':o=Pk.reverse:=by
   have:=fv (List.map Int.toNat) eo
   rw [cx,cx] at this
   have i1:∀l:List Nat,l.map (Int.toNat ∘ iN)=l:=fun l=>by
    conv=>rhs;rw [←qL l]
    exact g8 fun a _=>en a
   rw [i1,i1] at this
   exact this.symm
  subst eo'
  have vH:∀{Hx:Hp},eV 178 H Hx→dO 178 nN jV Hx→∀{R:Addr},Hx R=none→H R=none:=fun{Hx} sx tx {R} nR=>by
   cases e:H R with
   | none=>rfl
   | some u=>
    by_cases z:R=178
    ·obtain ⟨ps,e2⟩:=tx.at
     rw [z,e2] at nR;cases nR
    ·rw [sx R u z e] at nR;cases nR
  have o9:eV 178 H H2:=fun b u n e=>s2 _ _ (s1 b u n e)
  have t2:=t1.mono s2
  by_cases eM:M=L
  ·refine ⟨true,by rw [bu eM],Hk ?_⟩
   rw [eM] at fM
   have iu:=s2 _ _ eD
   refine ⟨_,rfl,by show 2≤sizeLine;decide,fun R nR=>?_⟩
   have s3:af H2 (upd H2 R (.tup [.str "order",.ref D])):=aK nR
   exact kk _ R D Pk.reverse (fun b u n e=>s3 _ _ (o9 b u n e)) (t2.mono s3) (vH o9 t2 nR) nD ar (s3 _ _ iu) pr fM
  ·refine ⟨false,by rw [bY eM],k_ ?_⟩
   have no:∀o:List Nat,o.Perm (List.range n)→¬bO n L o L:=fun o po f=>eM (bO.uniq fM (OU pw lt po f pm pk))
   dsimp only [qW]
   refine pW ⟨_,rfl,tp,n,L,rfl,RO.mono s2,pw,lt,by lia,fun H3 s3 nh=>?_,fun H3 r zs s3 nr er bare cI blt=>?_⟩
   ·obtain ⟨x,y,z,h⟩:=aaw pw lt no
    exact absurd h (nh x y z)
   ·refine ⟨by show 2≤sizeLine;decide,fun R nR=>?_⟩
    have s4:af H3 (upd H3 R (.tup [.str "ring",.ref r])):=aK nR
    have RP:eV 178 H H3:=fun b u n e=>s3 _ _ (o9 b u n e)
    have t3:=t2.mono s3
    exact kR _ R r zs (fun b u n e=>s4 _ _ (RP b u n e)) (t3.mono s4) (vH RP t3 nR) (vH o9 t2 nr) ar (s4 _ _ er) bare cI blt no
theorem ac_:cG ["_law_cell","_law_at","_law_x"] ["_law_cell","_law_at"] (bH EZ):=dt
theorem ada(T:Txt K mg t):cu P w K mg base dE 1 t.u7 t.yK ["_law_cell","_law_at"] Wo:=by
 have S:=ac_;refine T.zd.ft S (fun _ _ _ _ H _ _ _ hr h=>?_);obtain ⟨c,a,rfl,ha,k⟩:=h
 refine ⟨_,(aC (fF (fj Uo (pv 0) (cq Uj aW aW)) (aM (cF (pv 0))) fY)
  (aC (putL 2 S.nd (cq s_ (cq jf (cq jf (cq mL (cq s_ (pv 0) aW) aW) (cq mL (pv 1) aW)) aW) aW))
  (aC (putL 2 S.nd (cq s_ (cq jf (cq jf (cq mL (pv 2) (pv 2)) (cq mL aW (pv 2))) (pv 1)) aW))
  (aM (cF (cq jf (cq mL (pv 2) aW) (cq s_ (cq jf (cq mL (pv 2) (pv 2)) (cq mL aW (pv 1))) aW))))))),?_⟩
 refine ⟨_,rfl,_,_,rfl,rfl,⟨by decide,by decide,by decide⟩,_,_,rfl,rfl,_,rfl,d9 (fun h=>?_) (fun h=>?_)⟩
 ·have h:=dC h
  exact ⟨_,rfl,k _ (dU (by decide) h)⟩
 ·refine ⟨_,rfl,_,_,rfl,rfl,(by show (0:Int)<2147483647;decide),_,_,rfl,rfl,.inr ⟨by decide,by decide⟩,_,rfl,_,_,rfl,rfl,.inr ⟨by decide,by decide⟩,_,_,rfl,rfl,_,_,rfl,rfl,_,_,rfl,rfl,(by show (0:Int)<2147483629;decide),?_⟩
  have b0:=pK (c % 2147483647*48271+a*69621+11) (show (2147483629:Int)≠0 by decide)
  have b1:=sL (c % 2147483647*48271+a*69621+11) (show (0:Int)<2147483629 by decide)
  generalize (c % 2147483647*48271+a*69621+11) % 2147483629=x at b0 b1 ⊢;refine ⟨_,rfl,_,rfl,_,_,rfl,rfl,.inl ⟨by lia,by lia⟩,_,rfl,_,_,rfl,rfl,.inl ⟨by decide,by decide⟩,_,_,rfl,rfl,_,rfl,_,_,rfl,rfl,_,_,rfl,rfl,(by show (0:Int)<2147483587;decide),?_⟩
  have c0:=pK (x*x+48271*x+a) (show (2147483587:Int)≠0 by decide)
  have c1:=sL (x*x+48271*x+a) (show (0:Int)<2147483587 by decide)
  generalize (x*x+48271*x+a) % 2147483587=y at c0 c1 ⊢;refine ⟨_,rfl,_,_,rfl,rfl,.inr ⟨by decide,by decide⟩,_,rfl,_,rfl,_,_,rfl,rfl,.inl ⟨by lia,by lia⟩,_,rfl,_,_,rfl,rfl,.inl ⟨by decide,by decide⟩,_,_,rfl,rfl,_,_,rfl,rfl,(by show (0:Int)<2147483579;decide),_,_,rfl,rfl,k _ (Int.add_nonneg (Int.mul_nonneg (pK _ (by decide)) (by decide)) (pK _ (by decide)))⟩
theorem adb:cG ["_law_pen","_law_many","_law_at","_law_cell","_law_found"] ["_law_pen","_law_many"] (bH E1):=dt
theorem zB(T:Txt K mg t):cu P w K mg base dE 2 t.u9 t.yL ["_law_pen","_law_many"] (Wq K):=by
 have S:=adb;refine T.nK.ft S (fun _ _ _ _ H _ _ _ hr h=>?_);obtain ⟨P0,a,ns,many,rfl,⟨x,y,eP,hx,hy⟩,hS,m1,mm,k⟩:=h;have ma:=hr.units
 refine ⟨_,(aC (fF (fj wU (cy eY (pv 0) aW) (pv 1)) (aC (putL 2 S.nd (cy eY (pv 0) aW))
  (aC (putL 3 S.nd aW)
  (aC (fF (fj wU (pv 2) (cZ ke rfl T.i8 jb (ah (cy eY (pv 0) aW) aj))) (aM (putL 3 S.nd (cy eY (cy eY (pv 0) aW) (pv 2)))) (aM (fF (fj tj (cZ ke rfl T.i8 jb (ah (cy eY (pv 0) aW) aj)) aW) (aM (putL 3 S.nd (cq jf (cq s_ (cy eY (cy eY (pv 0) aW) (cq s_ (cq mL (pv 2) aW) (cZ ke rfl T.i8 jb (ah (cy eY (pv 0) aW) aj)))) aW) (cq mL (pv 2) aW)))) fY)))
  (aC (@wM _ _ _ _ _ _ (cq jf (pv 2) aW) (Ai (pv 0) aW set_list) (by rfl) (by rfl) (by rfl))
  (aM (@wM _ _ _ _ _ _ (bF (ada T) hr T.QA T.zd.kp T.Qz dc (ah (pv 3) (ah (pv 2) aj))) (Ai (pv 0) aW set_list) (by rfl) (by rfl) (by rfl))))))) fY)
  (aC (putL 4 S.nd (cq s_ (cy eY (pv 0) aW) (pv 1)))
  (aC (@wM _ _ _ _ _ _ (cq VT (cy eY (pv 0) aW) (pv 1)) (Ai (pv 0) aW set_list) (by rfl) (by rfl) (by rfl))
  (aM (cF (pv 4)))))),?_⟩
 have gU:=AM.seq hS;refine ⟨_,rfl,P0,_,_,_,rfl,rfl,.of eP,rfl,_,rfl,_,_,rfl,rfl,_,rfl,d9 (fun aR=>?_) (fun aR=>?_)⟩
 ·refine ⟨_,rfl,P0,_,_,_,rfl,rfl,.of eP,rfl,?_⟩
  refine ⟨_,rfl,_,rfl,P0,_,_,_,rfl,rfl,.of eP,rfl,a,ns.map V.int,rfl,.inl gU,_,_,rfl,rfl,_,rfl,d9 (fun h1=>?_) (fun h1=>?_)⟩
  ·have h1:x<((ns.map V.int).length:Int):=dC h1
   obtain ⟨v,hv,mv⟩:=Nc (xs:=ns.map V.int) hx h1;obtain ⟨c,_,rfl⟩:=bK.mp mv;refine ⟨_,rfl,P0,_,_,_,rfl,rfl,.of eP,rfl,_,rfl,a,ns.map V.int,_,_,rfl,rfl,gU,hv,?_⟩;refine ⟨_,rfl,_,_,rfl,rfl,_,rfl,P0,_,1,1,rfl,rfl,eP,rfl,?_⟩;refine ⟨_,rfl,_,rfl,c,x,rfl,hx,fun r B6=>⟨_,rfl,P0,_,2,2,rfl,rfl,ar,rfl,?_⟩⟩;have q0:=pK (r) (show many≠0 by lia)
   have q1:=sL (r) (show 0<many by lia)
   have q2:=CI (B6) (show 0≤many by lia)
   refine ⟨_,rfl,P0,_,_,_,rfl,rfl,.of ar,rfl,_,rfl,_,_,rfl,rfl,(show 0<many by lia),?_⟩
   refine ⟨_,rfl,P0,_,_,_,rfl,rfl,.of ar,rfl,_,rfl,_,_,rfl,rfl,⟨show 0<many by lia,mm⟩,_,rfl,P0,_,2,2,rfl,rfl,ar,rfl,?_⟩
   exact ⟨_,rfl,k _ _ q0 q1 (((a_.refl H).trans a_.lH).trans (a_.lH.trans a_.lH)) ⟨x+1,r / many,ar,by lia,q2⟩⟩
  ·refine ⟨_,rfl,P0,_,_,_,rfl,rfl,.of eP,rfl,a,ns.map V.int,rfl,.inl gU,_,_,rfl,rfl,_,rfl,?_⟩
   have FR:=eP;have r_:=gU;have sl:=af.refl H;refine d9 (fun h2=>?_) (fun h2=>?_)
   ·have hl:0<(ns.map V.int).length:=by have:=dC h2;lia
    have hm0:=pK (x*7) (show ((ns.map V.int).length:Int)≠0 by lia)
    have hm1:=sL (x*7) (show (0:Int)<((ns.map V.int).length:Int) by lia)
    obtain ⟨v,hv,mv⟩:=Nc (xs:=ns.map V.int) hm0 hm1;obtain ⟨c,_,rfl⟩:=bK.mp mv;refine ⟨_,rfl,P0,_,_,_,rfl,rfl,.of FR,rfl,_,rfl,_,_,rfl,rfl,.inr ⟨by decide,by decide⟩,_,rfl,P0,_,_,_,rfl,rfl,.of FR,rfl,a,ns.map V.int,rfl,.inl r_,_,_,rfl,rfl,(show (0:Int)<((ns.map V.int).length:Int) by lia),a,ns.map V.int,_,_,rfl,rfl,r_,hv,_,_,rfl,rfl,(show (0:Int)<1000003 by decide),_,rfl,_,_,rfl,rfl,.inr ⟨by decide,by decide⟩,_,_,rfl,rfl,?_⟩
    refine ⟨_,rfl,_,_,rfl,rfl,_,rfl,P0,_,1,1,rfl,rfl,FR,rfl,?_⟩;refine ⟨_,rfl,_,rfl,_,x,rfl,hx,fun r B6=>⟨_,rfl,P0,_,2,2,rfl,rfl,ar,rfl,?_⟩⟩;have q0:=pK (r) (show many≠0 by lia)
    have q1:=sL (r) (show 0<many by lia)
    have q2:=CI (B6) (show 0≤many by lia)
    refine ⟨_,rfl,P0,_,_,_,rfl,rfl,.of ar,rfl,_,rfl,_,_,rfl,rfl,(show 0<many by lia),?_⟩
    refine ⟨_,rfl,P0,_,_,_,rfl,rfl,.of ar,rfl,_,rfl,_,_,rfl,rfl,⟨show 0<many by lia,mm⟩,_,rfl,P0,_,2,2,rfl,rfl,ar,rfl,?_⟩
    exact ⟨_,rfl,k _ _ q0 q1 (((a_.of sl).trans a_.lH).trans (a_.lH.trans a_.lH)) ⟨x+1,r / many,ar,by lia,q2⟩⟩
   ·
    refine ⟨_,rfl,_,_,rfl,rfl,_,rfl,P0,_,1,1,rfl,rfl,FR,rfl,?_⟩;refine ⟨_,rfl,_,rfl,0,x,rfl,hx,fun r B6=>⟨_,rfl,P0,_,2,2,rfl,rfl,ar,rfl,?_⟩⟩;have q0:=pK (r) (show many≠0 by lia)
    have q1:=sL (r) (show 0<many by lia)
    have q2:=CI (B6) (show 0≤many by lia)
    refine ⟨_,rfl,P0,_,_,_,rfl,rfl,.of ar,rfl,_,rfl,_,_,rfl,rfl,(show 0<many by lia),?_⟩
    refine ⟨_,rfl,P0,_,_,_,rfl,rfl,.of ar,rfl,_,rfl,_,_,rfl,rfl,⟨show 0<many by lia,mm⟩,_,rfl,P0,_,2,2,rfl,rfl,ar,rfl,?_⟩
    exact ⟨_,rfl,k _ _ q0 q1 (((a_.of sl).trans a_.lH).trans (a_.lH.trans a_.lH)) ⟨x+1,r / many,ar,by lia,q2⟩⟩
 ·dsimp only [qW]
  have q0:=pK (y) (show many≠0 by lia)
  have q1:=sL (y) (show 0<many by lia)
  have q2:=CI (hy) (show 0≤many by lia)
  refine ⟨_,rfl,P0,_,_,_,rfl,rfl,.of eP,rfl,_,rfl,_,_,rfl,rfl,(show 0<many by lia),?_⟩
  refine ⟨_,rfl,P0,_,_,_,rfl,rfl,.of eP,rfl,_,rfl,_,_,rfl,rfl,⟨show 0<many by lia,mm⟩,_,rfl,P0,_,2,2,rfl,rfl,eP,rfl,?_⟩
  exact ⟨_,rfl,k _ _ q0 q1 (a_.lH) ⟨x,y / many,ar,hx,q2⟩⟩
theorem adg:cG ["_law_pen","_law_some","_law_left","_law_found"] ["_law_pen","_law_some"] (bH E2):=dt
theorem RQ(T:Txt K mg t):cu P w K mg base dE 3 t.u_ t.yM ["_law_pen","_law_some"] (W_ K):=by
 have S:=adg;refine T.vt.ft S (fun _ _ _ _ H _ _ _ hr h=>?_);obtain ⟨P0,a,l,ns,xs,rfl,aJ⟩:=h;have pc:=aJ.1;have hS:=aJ.2.1;have nl:=aJ.2.2.1;have el:=aJ.2.2.2.1;have aiq:=aJ.2.2.2.2.1;have kk:=aJ.2.2.2.2.2;clear aJ;have ma:=hr.units
 refine ⟨_,(aC (putL 2 S.nd (iH Vc rfl T.rV boot_list (ah (pv 1) aj)))
  (aC (putL 3 S.nd (gu aj))
  (aC (wN fi (fj (W8 ma) (pv 2) (gu aj)) (aM (je (jM jc qO qP k8 (pv 3) (ah (jM jc PySem.F.slot_list_pop PySem.F.type_list_pop Vn (pv 2) (ah (bF (zB T) hr T.vp T.nK.kp T.vn dc (ah (pv 0) (ah (cZ ke rfl T.i8 jb (ah (pv 2) aj)) aj))) aj)) aj)))))
  (aM (cF (pv 3)))))),?_⟩
 refine ⟨_,rfl,l,xs,rfl,.inl (.of el),fun l1 n1=>?_⟩;have s1:af H (upd H l1 (.lst xs)):=aK n1;have e1:upd H l1 (.lst xs) l1=some (.lst xs):=ar;dsimp only [aQ];generalize upd H l1 (.lst xs)=H1 at s1 e1 ⊢;refine ⟨by show 0≤sizeLine;decide,fun l2 n2=>?_⟩
 have s2:af H1 (upd H1 l2 (.lst [])):=aK n2;have e2:upd H1 l2 (.lst []) l2=some (.lst []):=ar;dsimp only [aQ];generalize upd H1 l2 (.lst [])=H2 at s2 e2 ⊢;have RR:l1≠P0:=pc.ne n1;have FT:l2≠P0:=(pc.mono s1).ne n2;have RS:H l2=none:=none_of s1 n2;have RT:l1≠l2:=fun e=>by rw [e,n2] at e1;cases e1
 refine eG ⟨fun m σ Hc=>∃zs ys:List V,σ=[some (.ref P0),some (.ref l),some (.ref l1),some (.ref l2)]∧m=zs.length∧Hc l1=some (.lst zs)∧Hc l2=some (.lst ys)∧(zs++ys).Perm xs∧a_ P0 H Hc∧c_ Hc P0 a,⟨_,xs,[],rfl,rfl,s2 _ _ e1,e2,by rw [jF],a_.of (s1.trans s2),(pc.mono s1).mono s2⟩,?_⟩
 rintro m σ Hc ⟨zs,ys,rfl,rfl,aX⟩;have ez:=aX.1;have ey:=aX.2.1;have pm:=aX.2.2.1;have sc:=aX.2.2.2.1;have p1:=aX.2.2.2.2;clear aX;have lz:zs.length≤100:=by have:=pm.length_eq;rw [cW] at this;lia
 have ly:ys.length≤100:=by have:=pm.length_eq;rw [cW] at this;lia
 refine ⟨_,rfl,by show 0≤sizeLine;decide,fun le nle=>?_⟩
 have s3:af Hc (upd Hc le (.lst [])):=aK nle;have e3:upd Hc le (.lst []) le=some (.lst []):=ar;generalize upd Hc le (.lst [])=H3 at s3 e3 ⊢;refine ⟨l1,le,zs,rfl,rfl,.of (s3 _ _ ez),e3,_,rfl,d9 (fun hz=>?_) (fun hz=>?_)⟩
 ·have z0:1≤zs.length:=by
   cases zs with
   | nil=>cases hz
   | cons=>simp
  have Ft:=sc.trans (a_.of s3);refine ⟨_,fun _ _ h=>h,?_⟩;refine ⟨_,rfl,.inl ⟨rfl,_,.of (s3 _ _ ey)⟩,_,rfl,.inl ⟨rfl,_,.of (s3 _ _ ez)⟩,_,rfl,_,rfl,l1,zs,rfl,.inl (.of (s3 _ _ ez)),P0,a,ns,(zs.length:Int),rfl,p1.mono s3,af.seq Ft hS,by lia,lp.of_lt (by lia) (by lia),fun c H4 c0 c1 s4 p4=>?_⟩
  obtain ⟨k,rfl⟩:=mH c0;have hk:k<zs.length:=by lia
  have ez4:=s4.at RR (s3 _ _ ez);have ey4:=s4.at FT (s3 _ _ ey);have sx:seqIndex? (k:Int) zs.length=some k:=by unfold seqIndex?;simp;lia
  refine ⟨l1,zs,(k:Int),k,zs[k],rfl,rfl,ez4,by lia,by lia,sx,by simp [hk],?_⟩
  have nn:l2≠l1:=fun e=>RT e.symm;refine ⟨l2,ys,zs[k],rfl,rfl,by rw [aE nn];exact ey4,cV (by lia),?_⟩
  refine ⟨_,?_,zs.eraseIdx k,ys++[zs[k]],rfl,rfl,by rw [aE RT,ar],ar,?_,?_,?_⟩
  ·rw [List.length_eraseIdx_of_lt hk]
   lia
  ·refine List.Perm.trans ?_ pm
   rw [←gD];refine (vW).trans ?_;show (zs[k]::(zs.eraseIdx k++ys)).Perm (zs++ys);exact (NM zs k hk).append_right ys
  ·exact ((Ft.trans s4).but n1).but RS
  ·exact ((p4.upd RR).upd FT)
 ·have z0:zs=[]:=by
   cases zs with
   | nil=>rfl
   | cons=>exact absurd rfl hz
  subst z0;refine ⟨_,rfl,kk l2 ys H3 (sc.trans (a_.of s3)) (p1.mono s3) ?_ FT (s3 _ _ ey) pm⟩;rw [rg FT];exact RS
theorem adl:cG ["_law_links","_law_places","_law_names","_law_found","_law_i","_law_j"] ["_law_links","_law_places"] (bH E3):=dt
theorem RU(T:Txt K mg t):cu P w K mg base dE 3 t.va t.yN ["_law_links","_law_places"] aa_:=by
 have S:=adl;refine T.vv.ft S (fun _ _ _ _ H _ _ _ hr h=>?_);obtain ⟨lk,a,n,us,L,zs,U,rfl,RV,hL0,nl,lt,zA,ea,pz,hS,kk⟩:=h;have gU:=cg.mp hS;have zC:U.Nodup:=gU.1.imp fun z e=>by lia
 have lS:=BF hS
 refine ⟨_,(aC (putL 2 S.nd (cZ DO rfl T.oW pJ (ah (pv 1) aj)))
  (aC (putL 3 S.nd (gu aj))
  (aC (fZ fi rfl (eX (pv 0)) (sW rfl (jI (dy (i:=4) S.nd rfl (Or.inl rfl)) (jI (dy (i:=5) S.nd rfl (Or.inl rfl)) sV)))
   (aM (fF (PW.pt (pw_and (tm (xH (K:=K)) (pv 4) (pv 2) rfl) (pw_and1 (tm (xH (K:=K)) (pv 5) (pv 2) rfl)))) (aM (je (jM jc qO qP k8 (pv 3) (ah (iG (ah (jM jc Gx Gy IS (pv 2) (ah (pv 4) aj)) (ah (jM jc Gx Gy IS (pv 2) (ah (pv 5) aj)) aj))) aj)))) fY)))
  (aM (cF (iG (ah (cZ ke rfl T.i8 jb (ah (pv 2) aj)) (ah (iH C5 rfl T.zi boot_tuple (ah (cZ HZ rfl T.oW pJ (ah (pv 3) aj)) aj)) aj)))))))),?_⟩
 refine cJ fun _ kD=>⟨_,rfl,a,zs.map iN,rfl,by rw [ea,cx];rfl,by rw [ay,pz.length_eq];lia,fun ws D pm so nD=>?_⟩
 have qu:ws=U.map iN:=Pu (pm.trans (pz.map iN)) so gU.1;subst qu;have s1:af H (upd H D (.lst ((U.map iN).map V.int))):=aK nD;have eD:upd H D (.lst ((U.map iN).map V.int)) D=some (.lst ((U.map iN).map V.int)):=ar;generalize upd H D (.lst ((U.map iN).map V.int))=H1 at s1 eD ⊢;dsimp only [aQ];refine kD _ _ ?_;refine cJ fun _ qo=>⟨by show 0≤sizeLine;decide,fun fd si=>?_⟩
 have s2:af H1 (upd H1 fd (.lst [])):=aK si;have B7:upd H1 fd (.lst []) fd=some (.lst []):=ar;have nf:H fd=none:=none_of s1 si;have Df:D≠fd:=fW eD si;have lkf:lk≠fd:=fW (s1 _ _ RV) si;generalize upd H1 fd (.lst [])=H2 at s2 B7 ⊢;dsimp only [aQ];refine qo _ _ ?_;have iq:=s1.trans s2;have RW:=iq _ _ RV;have hL:=hL0.mono iq;have A2:L.length≤450:=bU (Px nl lt) (by have:n*n≤30*30:=Nat.mul_le_mul zA zA;lia)
 refine cJ fun _ qp=>⟨_,rfl,lk,rfl,⟨_,.of RW⟩,?_⟩;refine mK (K:=K) (a:=lk) (xs:=us) (fun k σ Hc=>∃(xs:List V) (v4 v5:Option V),σ=[some (.ref lk),some (.ref a),some (.ref D),some (.ref fd),v4,v5]∧af H Hc∧Hc D=some (.lst ((U.map iN).map V.int))∧Hc lk=some (.lst us)∧bT Hc us L∧Hc fd=some (.lst xs)∧bT Hc xs (((L.take k).filter (gX U)).map (iL U))) ⟨[],_,_,rfl,iq,s2 _ _ eD,RW,hL,B7,bT.nil _⟩ (fun k σ Hc _ ⟨_,_,_,_,_,_,el,_⟩=>.of el) ?_ ?_
 ·rintro k x σ Hc hx ⟨xs,v4,v5,rfl,sc,fu,i9,FU,ef,hX⟩
  have hk:k<L.length:=by rw [←hL.1];exact (bV.mp hx).1
  obtain ⟨b,rfl,eb⟩:=FU.2 k x L[k] hx (by simp [hk])
  have pk:=lt L[k] (aV hk);have tk:((L.take (k+1)).filter (gX U)).map (iL U)=((L.take k).filter (gX U)).map (iL U)++(([L[k]]).filter (gX U)).map (iL U):=by rw [nX,aZ hk,pG,eW];rfl
  have lX:xs.length≤450:=by rw [hX.1,ay];have:=nW (gX U) (L.take k);rw [mh] at this;lia
  generalize L[k]=p at eb pk tk;obtain ⟨p1,p2⟩:=p;refine ⟨b,_,rfl,.of eb,rfl,_,_,rfl,_,_,rfl,rfl,?_⟩;have no:gX U (p1,p2)=false→∃(xs:List V) (v4 v5:Option V),[some (V.ref lk),some (.ref a),some (.ref D),some (.ref fd),some (.int p1),some (.int p2)]=[some (.ref lk),some (.ref a),some (.ref D),some (.ref fd),v4,v5]∧af H Hc∧Hc D=some (.lst ((U.map iN).map V.int))∧Hc lk=some (.lst us)∧bT Hc us L∧Hc fd=some (.lst xs)∧bT Hc xs (((L.take (k+1)).filter (gX U)).map (iL U)):=fun e=>by
   refine ⟨xs,_,_,rfl,sc,fu,i9,FU,ef,?_⟩;rw [tk,wq (by rw [e];exact dR)]
   simp only [List.filter_nil,vR,jF];exact hX
  refine ⟨_,rfl,_,rfl,D,_,rfl,.inl (.of fu),rfl,IJ _,_,rfl,d9 (fun h1=>?_) (fun h1=>?_)⟩
  ·refine ⟨_,rfl,_,rfl,D,_,rfl,.inl (.of fu),rfl,IJ _,_,rfl,d9 (fun h2=>?_) (fun h2=>?_)⟩
   ·have m1:p1∈U.map iN:=dC (by rw [←xI];exact h1)
    have m2:p2∈U.map iN:=dC (by rw [←xI];exact h2)
    obtain ⟨i,hi,e1⟩:=qe.mp m1;obtain ⟨j,hj,e2⟩:=qe.mp m2;have ip:gX U (p1,p2)=true:=by unfold gX;rw [bu m1,bu m2];rfl
    have ix:iL U (p1,p2)=((i:Int),(j:Int)):=by unfold iL;simp only [e1,e2,en];rw [nF zC hi,nF zC hj]
    have at':∀(c:Nat) (hc:c<U.length) (z:Int),z=((U[c]:Nat):Int)→(U.map iN)[c]?=some z∧∀m,m<c→(U.map iN)[m]?≠some z:=fun c hc z e=>by
     subst e;refine ⟨by rw [bz,aZ hc];rfl,fun m hm h=>?_⟩
     rw [bz,aZ (show m<U.length by lia)] at h
     have h':=Option.some.inj h;have h2:((U[m]:Nat):Int)=((U[c]:Nat):Int):=h';have:=(gm zC).mp (show U[m]=U[c] by lia)
     lia
    have a1:=at' i hi p1 e1;have a2:=at' j hj p2 e2;refine ⟨_,rfl,.inl ⟨rfl,_,.of ef⟩,_,rfl,.inl ⟨rfl,_,.of fu⟩,_,rfl,D,U.map iN,i,p1,rfl,rfl,fu,by rw [ay];lia,a1.1,a1.2,_,rfl,.inl ⟨rfl,_,.of fu⟩,_,rfl,D,U.map iN,j,p2,rfl,rfl,fu,by rw [ay];lia,a2.1,a2.2,by show 2≤sizeLine;decide,fun tq jX=>?_⟩
    have st:af Hc (upd Hc tq (.tup [.int (i:Int),.int (j:Int)])):=aK jX;have me:upd Hc tq (.tup [.int (i:Int),.int (j:Int)]) tq=some (.tup [.int (iL U (p1,p2)).1,.int (iL U (p1,p2)).2]):=by rw [ar,ix]
    generalize upd Hc tq (.tup [.int (i:Int),.int (j:Int)])=Hd at st me ⊢;have KQ:=st _ _ ef;have keep:∀b o,b≠fd→Hd b=some o→upd Hd fd (.lst (xs++[.ref tq])) b=some o:=fun b o nb e=>by rw [aE nb];exact e
    refine ⟨fd,xs,_,rfl,rfl,KQ,cV (by lia),xs++[.ref tq],_,_,rfl,fc (sc.trans st) nf,keep _ _ Df (st _ _ fu),keep _ _ lkf (st _ _ i9),(FU.mono st).cS KQ keep,ar,?_⟩
    rw [tk,qN ip];exact ((hX.mono st).push me).cS KQ keep
   ·exact no (by unfold gX;rw [bY (p:=p2∈U.map iN) (fun h=>h2 (by rw [xI];exact bu h)),Bool.and_false])
  ·exact no (by unfold gX;rw [bY (p:=p1∈U.map iN) (fun h=>h1 (by rw [xI];exact bu h)),Bool.false_and])
 ·rintro σ Hc ⟨xs,v4,v5,rfl,sc,fu,i9,FU,ef,hX⟩
  refine qp _ _ ?_;rw [hL.1,iU] at hX;have mz:=aaP hS lt;have x8:=aaQ hS lt nl;have lM:((L.filter (gX U)).map (iL U)).length≤450:=by rw [ay];exact bU (nW _ _) A2
  generalize hM:(L.filter (gX U)).map (iL U)=M at hX mz x8 lM;dsimp only;have small:∀q∈M,0≤q.2∧q.2<1000:=fun q hq=>by obtain ⟨c,d,hc,hd,cd,rfl,_⟩:=(mz q).mp hq;simp only;lia
  refine ⟨_,rfl,D,_,rfl,.inl (.of fu),_,rfl,?_⟩;dsimp only [tE];refine IK ef hX (by lia) small fun l' ws N H3 s4 xK BU hN pN oN=>?_
  have nH:N.Pairwise lexLt:=PB (pN.nodup_iff.mpr x8) (fun q hq=>small q (pN.mem_iff.mp hq)) oN;have sub:ig L U N:=⟨nH,fun z=>by rw [pN.mem_iff,mz]⟩
  refine ⟨l',ws,rfl,.inl ⟨.of BU,fun iP BV=>?_⟩⟩;have s5:af H3 (upd H3 iP (.tup ws)):=aK BV;have elt:upd H3 iP (.tup ws) iP=some (.tup ws):=ar;generalize upd H3 iP (.tup ws)=H4 at s5 elt ⊢;refine ⟨by show 2≤sizeLine;decide,fun tq jX=>?_⟩
  have s6:af H4 (upd H4 tq (.tup [.int (((U.map iN).map V.int).length:Int),.ref iP])):=aK jX;have sT:=sc.trans (s4.trans s5);refine kk _ tq N (sT.trans s6) (none_of sT jX) ⟨iP,ws,?_,s6 _ _ elt,(hN.mono s5).mono s6⟩ sub ⟨pN.nodup_iff.mpr x8,sub.lt,Px (pN.nodup_iff.mpr x8) sub.lt⟩;rw [ar,ay,ay]
theorem ado:cG ["_law_order","_law_places","_law_names"] ["_law_order","_law_places"] (bH E4):=dt
theorem adp(T:Txt K mg t):cu P w K mg base dE 3 t.vc t.yO ["_law_order","_law_places"] aba:=by
 have S:=ado;refine T.ze.ft S (fun _ _ _ _ H _ _ _ hr h=>?_);obtain ⟨ro,a,n,o,zs,U,rfl,B8,ho,zA,ea,pz,hS,kk⟩:=h;have gU:=cg.mp hS;have zC:U.Nodup:=gU.1.imp fun z e=>by lia
 have lS:=BF hS;have lo:o.length≤30:=by rw [ho.length_eq,cC];exact zA
 refine ⟨_,(aC (oG 2 S.nd (cZ DO rfl T.oW pJ (ah (pv 1) aj)))
  (aM (cF (kg (N:=["_law_place","_law_names"]) (ρ:=(fun σ=>[σ[2]?.join])) (gK [2] rfl) rfl (eX (pv 0)) (fun _ _ _=>(.one (tm (xH (K:=K)) (pv 0) (pv 1) rfl))) (fun _ _ _=>(aaR (K:=K) jc Gx Gy IS (pv 1) (ah (pv 0) aj))))))),?_⟩
 refine cJ fun _ kD=>⟨_,rfl,a,zs.map iN,rfl,by rw [ea,cx];rfl,by rw [ay,pz.length_eq];lia,fun ws D pm so nD=>?_⟩
 have qu:ws=U.map iN:=Pu (pm.trans (pz.map iN)) so gU.1;subst qu;have s1:af H (upd H D (.lst ((U.map iN).map V.int))):=aK nD;have eD:upd H D (.lst ((U.map iN).map V.int)) D=some (.lst ((U.map iN).map V.int)):=ar;generalize upd H D (.lst ((U.map iN).map V.int))=H1 at s1 eD ⊢;dsimp only [aQ];refine kD _ _ ?_;refine pW (aaO (xs:=o.map fun k:Nat=>V.int (k:Int)) (fun v=>f_ v ((U.map iN).map V.int)) (fun v=>match v with | .int z=>.int (U.idxOf z.toNat:Int) | v=>v) (fun R h=>⟨_,rfl,ro,rfl,⟨_,.of (s1 _ _ B8)⟩,h _ _ (af.refl _) (kh (.of (s1 _ _ B8)))⟩) (by rw [ay];exact cV (by lia)) ?_ ?_ ?_)
 ·intro x hx Hc R sc kR
  obtain ⟨k,hk,rfl⟩:=bK.mp hx;exact ⟨_,rfl,_,rfl,D,_,rfl,.inl (.of (sc _ _ eD)),rfl,IJ _,_,rfl,kR _ (af.refl _)⟩
 ·intro x hx hc Hc R sc kR
  obtain ⟨k,hk,rfl⟩:=bK.mp hx;rw [xI] at hc;obtain ⟨c,dY,e⟩:=qe.mp (dC hc);have ek:k=U[c]:=by lia
  refine ⟨_,rfl,.inl ⟨rfl,_,.of (sc _ _ eD)⟩,_,rfl,D,U.map iN,c,(k:Int),rfl,rfl,sc _ _ eD,by rw [ay];lia,by rw [bz,aZ dY,ek];rfl,fun m hm h=>?_,?_⟩
  ·rw [bz,aZ (show m<U.length by lia)] at h
   have h':=Option.some.inj h;have h2:((U[m]:Nat):Int)=(k:Int):=h';have:=(gm zC).mp (show U[m]=U[c] by lia)
   lia
  ·have e2:(V.int (c:Int))=V.int (U.idxOf (k:Int).toNat:Int):=by rw [en,ek,nF zC dY]
   rw [e2];exact kR _ (af.refl _)
 ·intro D2 Hc vw sc iu
  refine kk _ D2 (s1.trans sc) (none_of s1 vw) ?_;rw [iu]
  congr 2
  unfold jB;rw [List.filter_map];have ef:((fun v=>f_ v ((U.map iN).map V.int)) ∘ fun k:Nat=>V.int (k:Int))=fun p=>decide (p∈U):=by
   funext p
   show f_ (.int (p:Int)) ((U.map iN).map V.int)=_;rw [xI];refine sv.mpr ⟨fun h=>?_,fun h=>bK.mpr ⟨p,h,rfl⟩⟩;obtain ⟨x,hx,e⟩:=bK.mp h;have:(x:Int)=(p:Int):=e;have:x=p:=by lia
   exact this▸hx
  rw [ef,cx,cx];refine g8 fun p _=>?_;show V.int (U.idxOf (p:Int).toNat:Int)=V.int (U.idxOf p:Int);rw [en]
theorem adq:cG ["_law_pen","_law_one","_law_common","_law_often","_law_found","_law_i","_law_j","_law_both"] ["_law_pen","_law_one","_law_common","_law_often"] (bH E5):=dt
theorem ads(T:Txt K mg t):cu P w K mg base dE 4 t.vd t.yP ["_law_pen","_law_one","_law_common","_law_often"] (abb K):=by
 have S:=adq;refine T.zf.ft S (fun _ _ _ _ H _ _ _ hr h=>?_);obtain ⟨P0,a,x,c,ns,xs,cs,qi,rfl,RX,hS,xP,cP,ex,ec,nd,l9,kk⟩:=h;have ma:=hr.units
 refine ⟨_,(aC (putL 4 S.nd (gu aj))
  (aC (fZ fi rfl (eX (pv 1)) (dy (i:=5) S.nd rfl (Or.inl rfl))
   (aM (fZ fi rfl (eX (pv 1)) (dy (i:=6) S.nd rfl (Or.inl rfl))
   (aC (putL 7 S.nd (GI (C0 (xH (K:=K)) (pv 5) (pv 2) rfl) (GH (C0 (xH (K:=K)) (pv 6) (pv 2) rfl))))
  (aM (fF (PW.pt (pw_and (fj wU (pv 5) (pv 6)) (pw_and (wK (Ur (pv 7) (fun _=>rfl))) (pw_and1 (fj wU (bF (zB T) hr T.vp T.nK.kp T.vn dc (ah (pv 0) (ah aW aj))) (pv 3)))))) (aM (je (jM jc qO qP k8 (pv 4) (ah (iG (ah (pv 5) (ah (pv 6) aj))) aj)))) fY))))))
  (aM (cF (pv 4))))),?_⟩
 refine cJ fun _ kD=>⟨by show 0≤sizeLine;decide,fun fd si=>?_⟩
 have s1:af H (upd H fd (.lst [])):=aK si;have B7:upd H fd (.lst []) fd=some (.lst []):=ar;have fP:fd≠P0:=RX.ne si;have nf:er P0 H fd=none:=by rw [rg fP];exact si
 have p1:=RX.mono s1;generalize upd H fd (.lst [])=H1 at s1 B7 p1 ⊢;dsimp only [aQ];refine kD _ _ ?_
 let Iv:Nat→Nat→Hp→Prop:=fun i j Hc=>a_ P0 H Hc∧c_ Hc P0 a∧∃(us:List V) (F:ak),Hc fd=some (.lst us)∧bT (er P0 Hc) us F∧F.Nodup∧F.length≤9*i+j∧∀z∈F,∃(p q:Nat) (hp:p<xs.length) (hq:q<xs.length),(p<i∨p=i∧q<j)∧xs[p]<xs[q]∧¬(xs[p]∈cs∧xs[q]∈cs)∧z=((xs[p]:Int),(xs[q]:Int))
 have lm:(xs.map fun k:Nat=>V.int (k:Int)).length=xs.length:=ay ..;refine cJ fun _ qo=>⟨_,rfl,x,rfl,⟨_,.of (s1 _ _ ex)⟩,?_⟩;refine mK (K:=K) (a:=x) (xs:=xs.map fun k:Nat=>V.int (k:Int)) (fun i σ Hc=>∃v:Nat→Option V,σ=[some (.ref P0),some (.ref x),some (.ref c),some (.int qi),some (.ref fd),v 5,v 6,v 7]∧Iv i 0 Hc) ⟨fun _=>none,rfl,a_.of s1,p1,[],[],B7,bT.nil _,wb,bG _,fun z hz=>by cases hz⟩ (fun i σ Hc _ ⟨_,_,h⟩=>.of (h.1.at xP ex)) ?_ ?_
 ·rintro i xv σ Hc mZ ⟨v,rfl,hI⟩
  have hi:i<xs.length:=by have:=(bV.mp mZ).1;rw [lm] at this;exact this
  have B3:xv=.int ((xs[i]:Nat):Int):=by rw [bz,aZ hi] at mZ;exact (Option.some.inj mZ).symm
  subst B3;dsimp only [aQ];refine ⟨_,rfl,x,rfl,⟨_,.of (hI.1.at xP ex)⟩,?_⟩;refine mK (K:=K) (a:=x) (xs:=xs.map fun k:Nat=>V.int (k:Int)) (fun j σ Hc=>∃v:Nat→Option V,σ=[some (.ref P0),some (.ref x),some (.ref c),some (.int qi),some (.ref fd),some (.int ((xs[i]:Nat):Int)),v 6,v 7]∧Iv i j Hc) ⟨v,rfl,hI⟩ (fun j σ Hc _ ⟨_,_,h⟩=>.of (h.1.at xP ex)) ?_ ?_
  ·rintro j yv σ Hd vI ⟨v,rfl,hJ⟩
   have hj:j<xs.length:=by have:=(bV.mp vI).1;rw [lm] at this;exact this
   have KH:yv=.int ((xs[j]:Nat):Int):=by rw [bz,aZ hj] at vI;exact (Option.some.inj vI).symm
   subst KH;obtain ⟨sd,pd,us,F,ef,hF,zD,lF,mF⟩:=hJ;have RY:=sd.at cP ec;dsimp only [aQ];have more:∀(w:Nat→Option V) (Hx:Hp),a_ P0 Hd Hx→c_ Hx P0 a→∃v:Nat→Option V,[some (V.ref P0),some (.ref x),some (.ref c),some (.int qi),some (.ref fd),some (.int ((xs[i]:Nat):Int)),w 6,w 7]=[some (.ref P0),some (.ref x),some (.ref c),some (.int qi),some (.ref fd),some (.int ((xs[i]:Nat):Int)),v 6,v 7]∧Iv i (j+1) Hx:=fun w Hx sx px=>⟨w,rfl,sd.trans sx,px,us,F,sx.at fP ef,hF.mono sx,zD,by lia,fun z hz=>by obtain ⟨p,q,hp,hq,h,r⟩:=mF z hz;exact ⟨p,q,hp,hq,by lia,r⟩⟩
   refine cJ fun R qp=>?_;have rest:∀b:Bool,(b=true↔xs[i]∈cs∧xs[j]∈cs)→R [some (.ref P0),some (.ref x),some (.ref c),some (.int qi),some (.ref fd),some (.int ((xs[i]:Nat):Int)),some (.int ((xs[j]:Nat):Int)),some (.bl b)] Hd:=by
    intro b hb;refine qp _ _ ?_;have stop:∀Hx:Hp,a_ P0 Hd Hx→c_ Hx P0 a→∃v:Nat→Option V,[some (V.ref P0),some (.ref x),some (.ref c),some (.int qi),some (.ref fd),some (.int ((xs[i]:Nat):Int)),some (.int ((xs[j]:Nat):Int)),some (.bl b)]=[some (.ref P0),some (.ref x),some (.ref c),some (.int qi),some (.ref fd),some (.int ((xs[i]:Nat):Int)),v 6,v 7]∧Iv i (j+1) Hx:=fun Hx sx px=>more (fun k=>List.getD [none,none,none,none,none,none,some (.int ((xs[j]:Nat):Int)),some (.bl b)] k none) Hx sx px;refine ⟨_,rfl,_,rfl,_,_,rfl,rfl,_,rfl,d9 (fun h1=>?_) (fun h1=>?_)⟩
    ·have xj:xs[i]<xs[j]:=by have:=dC h1;lia
     refine ⟨_,rfl,b,rfl,d9 (fun h2=>?_) (fun h2=>?_)⟩
     ·have nb:b=false:=by
       cases b with
       | false=>rfl
       | true=>cases h2
      have adt:¬(xs[i]∈cs∧xs[j]∈cs):=fun h=>by rw [hb.mpr h] at nb;cases nb
      refine ⟨_,rfl,P0,a,ns,4,rfl,pd,af.seq sd hS,by decide,lp.of_lt (by decide) (by decide),fun k H3 k0 k1 s3 p3=>⟨_,rfl,_,_,rfl,rfl,_,rfl,d9 (fun _=>?_) (fun _=>stop H3 s3 p3)⟩⟩
      have RZ:=s3.at fP ef;refine ⟨_,rfl,.inl ⟨rfl,_,.of RZ⟩,_,rfl,_,rfl,by show 2≤sizeLine;decide,fun tq jX=>?_⟩
      have st:af H3 (upd H3 tq (.tup [.int ((xs[i]:Nat):Int),.int ((xs[j]:Nat):Int)])):=aK jX;have me:upd H3 tq (.tup [.int ((xs[i]:Nat):Int),.int ((xs[j]:Nat):Int)]) tq=some (.tup [.int ((xs[i]:Nat):Int),.int ((xs[j]:Nat):Int)]):=ar;have tqP:tq≠P0:=p3.ne jX;generalize upd H3 tq (.tup [.int ((xs[i]:Nat):Int),.int ((xs[j]:Nat):Int)])=H4 at st me ⊢;have s4:=s3.trans (a_.of (P:=P0) st);have B5:=st _ _ RZ;have vF:us.length≤90:=by rw [hF.1];lia
      have fr:∀b o,b≠fd→er P0 H4 b=some o→er P0 (upd H4 fd (.lst (us++[.ref tq]))) b=some o:=fun b o nb e=>by
       have bP:b≠P0:=fun z=>by rw [z] at e;unfold er at e;rw [ae rfl] at e;cases e
       rw [rg bP] at e ⊢;exact (aE nb).trans e
      refine ⟨fd,us,_,rfl,rfl,B5,cV (by lia),fun k=>List.getD [none,none,none,none,none,none,some (.int ((xs[j]:Nat):Int)),some (.bl b)] k none,rfl,(sd.trans s4).but (by rw [rg fP] at nf;exact nf),(p3.mono st).upd fP,us++[.ref tq],F++[((xs[i]:Int),(xs[j]:Int))],ar,((hF.mono s4).push (xh tqP me)).cS (r:=fd) (xh fP B5) fr,?_,by rw [cW,nQ];lia,fun z hz=>?_⟩
      ·refine fD.mpr ⟨zD,by simp,fun z hz y hy e=>?_⟩
       rw [cB.mp hy] at e;obtain ⟨p,q,hp,hq,h,_,_,ez⟩:=mF z hz;rw [ez] at e;injection e with e1 e2;have:=(gm nd).mp (show xs[p]=xs[i] by lia)
       have:=(gm nd).mp (show xs[q]=xs[j] by lia)
       lia
      ·rcases cM.mp hz with h | h
       ·obtain ⟨p,q,hp,hq,h,r⟩:=mF z h
        exact ⟨p,q,hp,hq,by lia,r⟩
       ·exact ⟨i,j,hi,hj,by lia,xj,adt,cB.mp h⟩
     ·exact stop Hd (a_.refl _) pd
    ·exact stop Hd (a_.refl _) pd
   refine ⟨_,rfl,_,rfl,c,_,rfl,.inl (.of RY),rfl,DV _,_,rfl,d9 (fun h1=>?_) (fun h1=>?_)⟩
   ·rw [t_] at h1
    refine ⟨_,rfl,_,rfl,c,_,rfl,.inl (.of RY),rfl,DV _,?_⟩;rw [show (if false=true then !f_ (V.int ((xs[j]:Nat):Int)) (cs.map fun k:Nat=>V.int (k:Int)) else f_ (V.int ((xs[j]:Nat):Int)) (cs.map fun k:Nat=>V.int (k:Int)))=decide (xs[j]∈cs) from t_ _ _]
    exact rest _ (by rw [fT];exact ⟨fun h=>⟨dC h1,h⟩,fun h=>h.2⟩)
   ·rw [t_] at h1
    exact rest _ ⟨fun h=>(by cases h),fun h=>absurd (bu h.1) h1⟩
  ·rintro σ Hd ⟨v,rfl,sd,pd,us,F,ef,hF,zD,lF,mF⟩
   rw [lm] at lF mF;exact ⟨fun k=>List.getD [none,none,none,none,none,_,_,_] k none,rfl,sd,pd,us,F,ef,hF,zD,by lia,fun z hz=>by obtain ⟨p,q,hp,hq,h,r⟩:=mF z hz;exact ⟨p,q,hp,hq,by lia,r⟩⟩
 ·rintro σ Hc ⟨v,rfl,sc,pc,us,F,ef,hF,zD,lF,mF⟩
  refine qo _ _ ?_;rw [lm] at lF;exact ⟨_,rfl,kk Hc fd us F sc pc fP nf ef hF ⟨zD,fun z hz=>by obtain ⟨p,q,hp,hq,_,h1,h2,h3⟩:=mF z hz;exact ⟨xs[p],xs[q],aV hp,aV hq,h1,h2,h3⟩⟩ (by lia)⟩
theorem adv:cG ["script","_law_pen","_law_k","_law_many","_law_top","_law_sizes","_law_size","_law_names","_law_common","_law_ones","_law_links","_law_i","_law_one","_law_whole","_law_parts","_law_due","_law_best","_law_least","_law_told","_law_turn","_law_order","_law_both"] ["script"] (bH E6):=dt
theorem adw(T:Txt K mg t)(hB:nC base mg):cu P w K mg base dE 10 t.rQ t.ve ["script"] (Ej K 178):=by
 have S:=adv;have R0:=ac7 (P:=P) (w:=w) (base:=base) T hB;refine T.zg.ft S (fun _ _ _ s H vs _ _ hr h=>?_);obtain ⟨xY,a,ns,rfl,hS,hlen,kQ⟩:=h;have ma:=hr.units;have hu:=iT (kW (show 1≤64 by decide) _) hr.units
 refine ⟨_,(aC (oG 1 S.nd (gu (ah (pv 0) (ah aW (ah aW aj)))))
  (aC (fZ fi rfl (sY rfl T.kB (ah aW aj)) (dy (i:=2) S.nd rfl (Or.inl rfl))
   (aC (oG 3 S.nd (cq jf aW (bF (zB T) hr T.vp T.nK.kp T.vn dc (ah (pv 1) (ah aW aj)))))
  (aC (oG 4 S.nd (cq jf aW (iH Mw rfl T.Ff boot_int (ah (GI (Ak Mq (pv 2) aW) (GH (Ak Mq (bF (zB T) hr T.vp T.nK.kp T.vn dc (ah (pv 1) (ah aW aj))) aW))) aj))))
  (aC (xf (i0:=5) (N:=["_law_turn","_law_many","_law_pen","_law_top"]) (ρ:=(fun σ=>[σ[3]?.join,σ[1]?.join,σ[4]?.join])) (gK [3,1,4] rfl) rfl S.nd rfl (Or.inl rfl) (sY rfl T.kB (ah aW aj)) (fun _ _ _=>.nil) (fun _ _ _=>(cq jf (pv 1) (bF (zB T) hr T.vp T.nK.kp T.vn dc (ah (pv 2) (ah (cq GR (pv 3) (pv 1)) aj))))))
  (aC (putL 6 S.nd (cq GR (cZ (HE (K:=K) rfl) rfl T.Fi boot_sum (ah (pv 5) aj)) (pv 3)))
  (aC (putL 7 S.nd (bF (RQ T) hr T.JV T.vt.kp T.JU dc (ah (pv 1) (ah (iH (Di rfl) rfl T.rV boot_list (ah (iH AH rfl T.kB AJ (ah (pv 6) aj)) aj)) aj))))
  (aC (putL 8 S.nd (G0 G3 (pv 7) GY (GZ (pv 3))))
  (aC (putL 9 S.nd (gu (ah (G0 G3 (pv 7) GY (GZ (cy eY (pv 5) aW))) (ah (cq Ax (pv 8) (G0 G3 (pv 7) (GZ (cy eY (pv 5) aW)) GY)) aj))))
  (aC (oG 10 S.nd (gu aj))
  (aC (fZ fi rfl (eX (pv 8)) (dy (i:=11) S.nd rfl (Or.inr rfl))
   (aM (oG 10 S.nd (cq Ax (pv 10) (kg (N:=["_law_j","_law_i"]) (ρ:=(fun σ=>[σ[11]?.join])) (gK [11] rfl) rfl (eX (pv 8)) (fun _ _ _=>(.one (fj wU (pv 1) (pv 0)))) (fun _ _ _=>(iG (ah (pv 1) (ah (pv 0) aj)))))))))
  (aC (fZ fi rfl (eX (pv 9)) (dy (i:=12) S.nd rfl (Or.inl rfl))
   (aM (oG 10 S.nd (cq Ax (pv 10) (bF (ads T) hr T.QE T.zf.kp T.QD dc (ah (pv 1) (ah (pv 12) (ah (pv 8) (ah (cq jf aW (bF (zB T) hr T.vp T.nK.kp T.vn dc (ah (pv 1) (ah aW aj)))) aj)))))))))
  (aC (putL 13 S.nd (iG (ah (pv 6) (ah (iH C5 rfl T.zi boot_tuple (ah (cZ HZ rfl T.oW pJ (ah (pv 10) aj)) aj)) aj))))
  (aC (xf (i0:=14) (N:=["_law_one","_law_links"]) (ρ:=(fun σ=>[σ[10]?.join])) (gK [10] rfl) rfl S.nd rfl (Or.inl rfl) (eX (pv 9)) (fun _ _ _=>.nil) (fun _ _ _=>(bF (RU T) hr T.JX T.vv.kp T.JW dc (ah (pv 1) (ah (pv 0) aj)))))
  (aC (putL 15 S.nd (cZ (HE (K:=K) rfl) rfl T.Fi boot_sum (ah (kg (N:=["_law_part"]) (ρ:=(fun σ=>[])) (gK [] rfl) rfl (eX (pv 14)) (fun _ _ _=>.nil) (fun _ _ _=>(cy (Nl (K:=K)) (bF (Ks T) hr T.Fc T.rT.kp T.Fb oE (ah (pv 0) aj)) aW))) aj)))
  (aC (@wM _ _ _ _ _ _ (bF (Ks T) hr T.Fc T.rT.kp T.Fb oE (ah (pv 13) aj)) (sW rfl (jI (dy (i:=16) S.nd rfl (Or.inl rfl)) (jI (dy (i:=17) S.nd rfl (Or.inl rfl)) sV))) (by rfl) (by rfl) (by rfl))
  (aC (fF (fj wR (pv 17) (cq GR (pv 15) (cy iI (bF (Ks T) hr T.Fc T.rT.kp T.Fb oE (ah (bF (RU T) hr T.JX T.vv.kp T.JW dc (ah (pv 10) (ah (pv 8) aj))) aj)) aW))) (aM (cF jH)) fY)
  (aC (fF (fj V3 (bF (acy T) hr T.Qo T.y7.kp T.Qn oE (ah (pv 13) (ah (pv 16) (ah (bF (Rk T) hr T.JR T.vj.kp T.JQ oE (ah (pv 13) aj)) aj)))) jH) (aM (cF jH)) fY)
  (aC (xf (i0:=18) (N:=["_law_part"]) (ρ:=(fun σ=>[])) (gK [] rfl) rfl S.nd rfl (Or.inl rfl) (eX (pv 14)) (fun _ _ _=>.nil) (fun _ _ _=>(cy (Nl (K:=K)) (bF R0 hr T.JT T.vk.kp T.JS dc (ah (pv 0) aj)) aW)))
  (aC (fF (fj wR (cy iI (bF R0 hr T.JT T.vk.kp T.JS dc (ah (pv 13) aj)) aW) (cy eY (gu (ah sQ (ah sQ aj))) (iH Mw rfl T.Ff boot_int (ah (C0 (xH (K:=K)) sQ (pv 18) rfl) aj)))) (aM (cF jH)) fY)
  (aM (fZ fi rfl (sY rfl T.kB (ah aW aj)) (dy (i:=19) S.nd rfl (Or.inl rfl))
   (aC (oG 20 S.nd (bF (RQ T) hr T.JV T.vt.kp T.JU dc (ah (pv 1) (ah (iH (Di rfl) rfl T.rV boot_list (ah (iH AH rfl T.kB AJ (ah (pv 6) aj)) aj)) aj))))
  (aC (Wx (i0:=21) (N:=["_law_part","_law_one","_law_order"]) (ρ:=(fun σ=>[σ[20]?.join])) (HC [20] rfl) rfl S.nd rfl (Or.inl rfl) (V9 rfl T.QK (ah (pv 14) (ah (pv 9) aj))) (fun _ _ _=>.nil) (fun _ _ _=>(bF (J9 T) hr T.Fe T.rU.kp T.Fd oE (ah (pv 0) (ah (bF (adp T) hr T.QC T.ze.kp T.QB dc (ah (pv 2) (ah (pv 1) aj))) aj)))))
  (aM (fF (PW.pt (pw_and (sS (bF (J9 T) hr T.Fe T.rU.kp T.Fd oE (ah (pv 13) (ah (pv 20) aj)))) (pw_and1 (wK (sS (cZ (AG (K:=K) rfl) rfl T.zh boot_all (ah (pv 21) aj))))))) (aM (cF jH)) fY)))))))))))))))))))))))))
  (aM (cF jH)))),?_⟩
 refine ⟨_,rfl,by show 3≤sizeLine;decide,fun P0 nP=>?_⟩
 have p0:c_ (upd H P0 (.lst [.ref a,.int 0,.int 0])) P0 a:=⟨0,0,ar,by decide,by decide⟩
 have Bj:a8 K (er P0 (upd H P0 (.lst [.ref a,.int 0,.int 0]))) a (ns.map V.int):=by rw [Nn];exact af.seq (fun b o e=>xh (fW e nP) e) hS
 have t0:dO 178 nN jV (upd H P0 (.lst [.ref a,.int 0,.int 0])):=.inl (aK nP _ _ xY);generalize upd H P0 (.lst [.ref a,.int 0,.int 0])=H0 at p0 Bj t0 ⊢;dsimp only [aQ];refine eG ⟨2,rfl,by decide,by decide,?_⟩
 refine CW (fun i σ Hc=>∃v:Nat→Option V,σ=[some (.ref a),some (.ref P0),v 2,v 3,v 4,v 5,v 6,v 7,v 8,v 9,v 10,v 11,v 12,v 13,v 14,v 15,v 16,v 17,v 18,v 19,v 20,v 21]∧c_ Hc P0 a∧a8 K (er P0 Hc) a (ns.map V.int)∧dO 178 nN jV Hc) ⟨fun _=>none,rfl,p0,Bj,t0⟩ ?_ ?_
 ·rintro i σ Hc hi ⟨v,rfl,pc,FV,tc⟩
  dsimp only [aQ];refine cJ fun _ kD=>⟨_,rfl,P0,a,ns,3,rfl,pc,FV,by decide,lp.of_lt (by decide) (by decide),fun c H1 c0 c1 s1 p1=>⟨_,_,rfl,rfl,?_⟩⟩
  obtain ⟨c,rfl⟩:=mH c0;dsimp only [aQ];rw [show (1:Int)+(c:Int)=((c+1:Nat):Int) by lia]
  have m1:1≤c+1:=by lia
  have m3:c+1≤3:=by lia
  generalize c+1=m at m1 m3 ⊢;refine kD _ _ ?_;refine cJ fun Rt qo=>?_;have KR:∀(tp:Nat) (H2:Hp),tp=5∨tp=6→a_ P0 Hc H2→c_ H2 P0 a→Rt [some (.ref a),some (.ref P0),some (.int (0+(i:Int))),some (.int (m:Int)),some (.int (tp:Int)),v 5,v 6,v 7,v 8,v 9,v 10,v 11,v 12,v 13,v 14,v 15,v 16,v 17,v 18,v 19,v 20,v 21] H2:=by
   intro tp H2 M8 s2 p2;refine qo _ _ ?_;have r_:a8 K (er P0 H2) a (ns.map V.int):=af.seq s2 FV;have t2:=tc.El pc s2;refine cJ fun _ qp=>lG (W9 (P:=P0) (a:=a) (n:=2) (cV (by decide)) (fun R h=>⟨2,rfl,by decide,by decide,h _ (a_.refl _) p2⟩) (fun D i y Hc=>∃s:Nat,y=.int (s:Int)∧m≤s∧s≤5) (fun D i y Hc H' ys h e nD k=>h) ?_ ?_)
   ·intro D k hk Hd R sd pd hD nDP kR
    refine ⟨_,rfl,_,rfl,_,rfl,_,rfl,_,_,rfl,rfl,P0,a,ns,(tp:Int)-(m:Int),rfl,pd,af.seq sd r_,by lia,lp.of_lt (by lia) (by lia),fun c H3 c0 c1 s3 p3=>⟨_,_,rfl,rfl,?_⟩⟩
    obtain ⟨c,rfl⟩:=mH c0;exact kR _ _ s3 p3 ⟨m+c,by rw [show ((m+c:Nat):Int)=(m:Int)+(c:Int) by lia],by lia,by lia⟩
   intro Ds ys H3 DsP nDs s3 p3 i_ iM R1;obtain ⟨y0,y1,rfl⟩:∃y0 y1,ys=[y0,y1]:=by
    match ys,i_ with
    | [y0,y1],_=>exact ⟨y0,y1,rfl⟩
   obtain ⟨s0,rfl,R3,s05⟩:=iM 0 y0 rfl;obtain ⟨s1,rfl,ms1,qt⟩:=iM 1 y1 rfl;dsimp only [aQ];refine qp _ _ ?_;refine cJ fun _ Kb=>⟨_,rfl,Ds,[(s0:Int),(s1:Int)],rfl,.of R1,_,rfl,_,_,rfl,rfl,?_⟩;dsimp only [aQ];rw [show ([(s0:Int),(s1:Int)].sum-(m:Int))=((s0+s1-m:Nat):Int) by simp only [d7,List.sum_nil];lia]
   have n1:1≤s0+s1-m:=by lia
   have n9:s0+s1-m≤9:=by lia
   have sn:s0≤s0+s1-m:=by lia
   generalize s0+s1-m=n at n1 n9 sn ⊢;refine Kb _ _ ?_;refine cJ fun _ Kj=>⟨_,rfl,_,rfl,(n:Int),rfl,fun q1 oY=>⟨q1,n,rfl,ar,by lia,fun l nl=>?_⟩⟩
   have sl:af H3 (upd (upd H3 q1 (.fV 0 (n:Int))) l (.lst (dz n))):=(aK oY).trans (aK nl);have el:upd (upd H3 q1 (.fV 0 (n:Int))) l (.lst (dz n)) l=some (.lst (dz n)):=ar;have lP:l≠P0:=p3.ne (none_of (aK oY) nl);generalize upd (upd H3 q1 (.fV 0 (n:Int))) l (.lst (dz n))=H4 at sl el ⊢;have R4:=a_.of (P:=P0) sl;have p4:=p3.mono sl;have R5:=s3.trans R4;have lu:(dz n).length=n:=by unfold dz;simp
   refine ⟨P0,a,l,ns,dz n,rfl,p4,af.seq R5 r_,lP,el,by lia,fun r ys H5 s5 p5 nr rP KS pm=>?_⟩
   obtain ⟨N0,rfl,hN⟩:=Od pm;have lN:N0.length=n:=by rw [hN.length_eq,cC]
   dsimp only [aQ];refine Kj _ _ ?_;have KU:=R5.trans s5;have hS5:a8 K (er P0 H5) a (ns.map V.int):=af.seq KU r_;have t5:=t2.El p2 KU;have R6:=(R4.trans s5).at DsP R1;have R7:∀k:Nat,k≤n→ot (N0.map fun k:Nat=>V.int (k:Int)) none (some (k:Int))=(N0.take k).map fun k:Nat=>V.int (k:Int):=fun k hk=>by rw [X_ _ k (by rw [ay];lia),←List.map_take]
   have dpV:∀k:Nat,ot (N0.map fun k:Nat=>V.int (k:Int)) (some (k:Int)) none=(N0.drop k).map fun k:Nat=>V.int (k:Int):=fun k=>by rw [Yy,←List.map_drop]
   refine cJ fun _ hR6=>⟨_,rfl,_,rfl,(m:Int),rfl,r,_,rfl,.of KS,fun Dc R8=>?_⟩;rw [R7 m (by lia)]
   have s6:af H5 (upd H5 Dc (.lst ((N0.take m).map fun k:Nat=>V.int (k:Int)))):=aK R8;have fu:upd H5 Dc (.lst ((N0.take m).map fun k:Nat=>V.int (k:Int))) Dc=some (.lst ((N0.take m).map fun k:Nat=>V.int (k:Int))):=ar;generalize upd H5 Dc (.lst ((N0.take m).map fun k:Nat=>V.int (k:Int)))=H6 at s6 fu ⊢;dsimp only [aQ];refine hR6 _ _ ?_;have Bw:mP ([V.int (s0:Int),V.int (s1:Int)]:List V) 0=some (.int (s0:Int)):=rfl;refine cJ fun _ hR7=>⟨_,rfl,_,rfl,Ds,_,0,.int (s0:Int),rfl,rfl,.of (s6 _ _ R6),Bw,(s0:Int),rfl,r,_,rfl,.of (s6 _ _ KS),fun Da R9=>?_⟩;rw [R7 s0 (by lia)]
   have s7:af H6 (upd H6 Da (.lst ((N0.take s0).map fun k:Nat=>V.int (k:Int)))):=aK R9;have R_:upd H6 Da (.lst ((N0.take s0).map fun k:Nat=>V.int (k:Int))) Da=some (.lst ((N0.take s0).map fun k:Nat=>V.int (k:Int))):=ar;generalize upd H6 Da (.lst ((N0.take s0).map fun k:Nat=>V.int (k:Int)))=H7 at s7 R_ ⊢;have FW:=s6.trans s7;refine ⟨_,rfl,_,rfl,_,rfl,Ds,_,0,.int (s0:Int),rfl,rfl,.of (FW _ _ R6),Bw,(s0:Int),rfl,r,_,rfl,.of (FW _ _ KS),fun Dd BS=>?_⟩;rw [dpV s0];have s8:af H7 (upd H7 Dd (.lst ((N0.drop s0).map fun k:Nat=>V.int (k:Int)))):=aK BS;have oX:upd H7 Dd (.lst ((N0.drop s0).map fun k:Nat=>V.int (k:Int))) Dd=some (.lst ((N0.drop s0).map fun k:Nat=>V.int (k:Int))):=ar;generalize upd H7 Dd (.lst ((N0.drop s0).map fun k:Nat=>V.int (k:Int)))=H8 at s8 oX ⊢;have s68:=s7.trans s8;refine ⟨Dc,Dd,_,_,rfl,rfl,s68 _ _ fu,oX,?_,fun Db Sa=>?_⟩
   ·rw [ay,ay,mh,zN]
    exact jY (cV (by lia))
   have s9:=aK (o:=.lst (((N0.take m).map fun k:Nat=>V.int (k:Int))++(N0.drop s0).map fun k:Nat=>V.int (k:Int))) Sa;have Sb:upd H8 Db (.lst (((N0.take m).map fun k:Nat=>V.int (k:Int))++(N0.drop s0).map fun k:Nat=>V.int (k:Int))) Db=some (.lst ((N0.take m++N0.drop s0).map fun k:Nat=>V.int (k:Int))):=by rw [ar,eW]
   generalize upd H8 Db (.lst (((N0.take m).map fun k:Nat=>V.int (k:Int))++(N0.drop s0).map fun k:Nat=>V.int (k:Int)))=H9 at s9 Sb ⊢;refine ⟨by show 2≤sizeLine;decide,fun Do Se=>?_⟩
   have KW:af H9 (upd H9 Do (.lst [.ref Da,.ref Db])):=aK Se;have Sf:upd H9 Do (.lst [.ref Da,.ref Db]) Do=some (.lst [.ref Da,.ref Db]):=ar;generalize upd H9 Do (.lst [.ref Da,.ref Db])=FY at KW Sf ⊢;dsimp only [aQ];refine hR7 _ _ ?_;have adC:=s9.trans KW;have Sg:=s8.trans adC;have Sh:=s7.trans Sg;have Si:=s6.trans Sh;have eC:=Sh _ _ fu;have eA:=Sg _ _ R_;have eB:=KW _ _ Sb;have KY:=p5.mono Si;have KZ:Dc≠P0:=p5.ne R8;have DaP:Da≠P0:=(p5.mono s6).ne R9;have DbP:Db≠P0:=(p5.mono (FW.trans s8)).ne Sa;have K8:Do≠P0:=(p5.mono ((FW.trans s8).trans s9)).ne Se;have adF:=KU.trans (a_.of (P:=P0) Si);refine cJ fun _ hR8=>⟨by show 0≤sizeLine;decide,fun Dl Fq=>?_⟩
   have sj:af FY (upd FY Dl (.lst [])):=aK Fq;have Sj:upd FY Dl (.lst []) Dl=some (.lst []):=ar;have DlP:Dl≠P0:=KY.ne Fq;generalize upd FY Dl (.lst [])=H11 at sj Sj ⊢;dsimp only [aQ];refine hR8 _ _ ?_;have lC0:(N0.take m).length≤9:=by rw [mh];lia
   refine cJ fun _ hR9=>⟨_,rfl,Dc,rfl,⟨_,.of (sj _ _ eC)⟩,?_⟩;refine mK (K:=K) (a:=Dc) (xs:=(N0.take m).map fun k:Nat=>V.int (k:Int)) (fun k σ Hx=>∃(Dx:Addr) (us:List V) (v11:Option V),σ=[some (.ref a),some (.ref P0),some (.int (0+(i:Int))),some (.int (m:Int)),some (.int (tp:Int)),some (.ref Ds),some (.int (n:Int)),some (.ref r),some (.ref Dc),some (.ref Do),some (.ref Dx),v11,v 12,v 13,v 14,v 15,v 16,v 17,v 18,v 19,v 20,v 21]∧af H11 Hx∧Dx≠P0∧Hx Dx=some (.lst us)∧bT Hx us (nJ ((N0.take m).take k) (N0.take m))∧us.length≤9*k) ⟨Dl,[],_,rfl,af.refl _,DlP,Sj,bT.nil _,bG _⟩ (fun k σ Hx _ ⟨_,_,_,_,sx,_⟩=>.of ((sj.trans sx) _ _ eC)) ?_ ?_
   ·rintro k xv σ Hx zE ⟨Dx,us,v11,rfl,sx,B9,jE,hL,vF⟩
    have hk:k<(N0.take m).length:=by have:=(bV.mp zE).1;rw [ay] at this;exact this
    have B3:xv=.int (((N0.take m)[k]:Nat):Int):=by rw [bz,aZ hk] at zE;exact (Option.some.inj zE).symm
    subst B3;have tk:nJ ((N0.take m).take (k+1)) (N0.take m)=nJ ((N0.take m).take k) (N0.take m)++((N0.take m).filter fun j=>decide ((N0.take m)[k]<j)).map fun j:Nat=>(((N0.take m)[k]:Int),(j:Int)):=by unfold nJ;rw [nX,aZ hk,List.flatMap_append];simp
    dsimp only [aQ];have Sk:=(sj.trans sx) _ _ eC;refine ⟨_,rfl,?_⟩;refine abd (js:=N0.take m) (N0.take m)[k] (fun R h=>⟨_,rfl,Dc,rfl,⟨_,.of Sk⟩,h _ _ (af.refl _) (kh (.of Sk))⟩) (by lia) ?_ ?_ ?_
    ·intro j hj Hy R sy kR
     refine ⟨_,rfl,_,rfl,_,_,rfl,rfl,_,rfl,?_⟩;have e:decide ((((N0.take m)[k]:Nat):Int)<(j:Int))=decide ((N0.take m)[k]<j):=sv.mpr ⟨fun h=>by lia,fun h=>by lia⟩
     rw [e];exact kR
    ·intro j hj Hy R sy kR
     exact ⟨_,rfl,_,rfl,by show 2≤sizeLine;decide,fun T nT=>kR T nT⟩
    intro Dy qy Hy nDy sy Sl eDy;have l2:qy.length≤9:=by rw [Sl.1,ay];exact bU (nW _ _) lC0
    refine ⟨Dx,Dy,us,qy,rfl,rfl,sy _ _ jE,eDy,jY (cV (by rw [mh] at hk;lia)),fun Dn B_=>?_⟩
    have zF:af Hy (upd Hy Dn (.lst (us++qy))):=aK B_;refine ⟨Dn,us++qy,_,rfl,(sx.trans sy).trans zF,?_,ar,?_,by rw [cW];lia⟩
    ·exact (((KY.mono sj).mono sx).mono sy).ne B_
    ·rw [tk]
     exact (P1 (hL.mono sy) Sl).mono zF
   rintro σ K9 ⟨Dx,us,v11,rfl,iq,B9,jE,hL,vF⟩;refine hR9 _ _ ?_;have Sm:=(KY.mono sj).mono iq;have Sn:=adF.trans (a_.of (P:=P0) (sj.trans iq));have So:a8 K (er P0 K9) a (ns.map V.int):=af.seq Sn r_;have FZ:=sj.trans iq;have Sq:=FZ _ _ eC;have adM:=FZ _ _ eA;have adN:=FZ _ _ eB;have K_:=FZ _ _ Sf;rw [ay] at hL vF;rw [iU] at hL;have La:N0.Nodup:=hN.nodup_iff.mpr fU
   let oL:Nat→List Nat:=fun j=>if j=0 then N0.take s0 else N0.take m++N0.drop s0
   have Lb:∀k,(N0.take k).Nodup:=fun k=>List.Nodup.sublist (Cn _ _) La;have qg:(N0.take m++N0.drop s0).Nodup:=fD.mpr ⟨Lb m,List.Nodup.sublist (List.drop_sublist _ _) La,fun x hx y hy e=>by have h1:x∈N0.take s0:=(List.take_subset_take_left N0 R3) hx;have:=La;rw [←mB s0 N0] at this;exact (fD.mp this).2.2 x h1 x (e▸hy) rfl⟩
   have Lc:∀(j:Nat) (x:V),([.ref Da,.ref Db]:List V)[j]?=some x→∃D:Addr,x=.ref D∧D≠P0∧K9 D=some (.lst ((oL j).map fun k:Nat=>V.int (k:Int)))∧(oL j).Nodup∧(oL j).length≤9:=fun j x hx=>by
    match j,hx with
    | 0,hx=>cases hx;exact ⟨Da,rfl,DaP,adM,Lb s0,by show (N0.take s0).length≤9;rw [mh];lia⟩
    | 1,hx=>cases hx;exact ⟨Db,rfl,DbP,adN,qg,by show (N0.take m++N0.drop s0).length≤9;rw [cW,mh,zN];lia⟩
    | j+2,hx=>cases hx
   refine cJ fun _ adO=>⟨_,rfl,Do,rfl,⟨_,.of K_⟩,?_⟩;refine mK (K:=K) (a:=Do) (xs:=[.ref Da,.ref Db]) (fun k σ Hx=>∃(Dx:Addr) (us:List V) (Fs:S8) (Ca:Option V),σ=[some (.ref a),some (.ref P0),some (.int (0+(i:Int))),some (.int (m:Int)),some (.int (tp:Int)),some (.ref Ds),some (.int (n:Int)),some (.ref r),some (.ref Dc),some (.ref Do),some (.ref Dx),v11,Ca,v 13,v 14,v 15,v 16,v 17,v 18,v 19,v 20,v 21]∧a_ P0 K9 Hx∧c_ Hx P0 a∧Dx≠P0∧Hx Dx=some (.lst us)∧bT (er P0 Hx) us (nJ (N0.take m) (N0.take m)++Fs.flatten)∧us.length≤90+81*k∧Fs.length=k∧∀(j:Nat) F,Fs[j]?=some F→Eu (oL j) (N0.take m) F) ⟨Dx,us,[],_,rfl,a_.refl _,Sm,B9,jE,by rw [List.flatten_nil,jF];exact hL.er Sm,by lia,rfl,fun j F h=>by simp at h⟩ (fun k σ Hx _ ⟨_,_,_,_,_,sx,_⟩=>.of (sx.at K8 K_)) ?_ ?_
   ·rintro k xv σ Hx zE ⟨Dx,us,Fs,Ca,rfl,sx,px,B9,jE,vL,vF,F0,F1⟩
    obtain ⟨Dj,rfl,F2,ej,Cb,lj⟩:=Lc k xv zE;have k2:k<2:=(bV.mp zE).1;dsimp only [aQ];refine ⟨_,rfl,_,rfl,_,rfl,_,rfl,_,rfl,P0,a,ns,3,rfl,px,af.seq sx So,by decide,lp.of_lt (by decide) (by decide),fun c Hy c0 c1 sy py=>⟨_,_,rfl,rfl,P0,a,Dj,Dc,ns,oL k,N0.take m,_,rfl,py,af.seq (sx.trans sy) So,F2,KZ,(sx.trans sy).at F2 ej,(sx.trans sy).at KZ Sq,Cb,lj,fun Hz rr qy F sz pz rrP nrr err hF lkd lF=>?_⟩⟩
    have Ld:=sy.trans sz;have l2:qy.length≤81:=by rw [hF.1];exact lF
    refine ⟨Dx,rr,us,qy,rfl,rfl,Ld.at B9 jE,err,jY (cV (by lia)),fun Dn B_=>?_⟩
    have zF:af Hz (upd Hz Dn (.lst (us++qy))):=aK B_;refine ⟨Dn,us++qy,Fs++[F],_,rfl,(sx.trans Ld).trans (a_.of zF),pz.mono zF,pz.ne B_,ar,?_,by rw [cW];lia,by rw [cW,nQ,F0],fun j F' h=>?_⟩
    ·rw [List.flatten_append,List.flatten_singleton,←gD]
     exact (P1 (vL.mono Ld) hF).mono (a_.of (P:=P0) zF)
    ·rcases su j Fs.length with c | c
     ·rw [gZ c] at h
      exact F1 j F' h
     ·rw [iw c] at h
      have j0:j-Fs.length<1:=(bV.mp h).1;have ej:j=k:=by lia
      subst ej;rw [F0,mw] at h;cases h;exact lkd
   rintro σ H13 ⟨Dx,us,Fs,Ca,rfl,jD,p13,B9,jE,vL,vF,F0,F1⟩;refine adO _ _ ?_;obtain ⟨FA,FB,rfl⟩:∃FA FB,Fs=[FA,FB]:=by
    match Fs,F0 with
    | [FA,FB],_=>exact ⟨FA,FB,rfl⟩
   have PT:fh n m s0 N0 FA FB:=⟨hN,R3,sn,F1 0 FA rfl,F1 1 FB rfl⟩;have eL:nJ (N0.take m) (N0.take m)++[FA,FB].flatten=fh.L m N0 FA FB:=by unfold fh.L;simp
   rw [eL] at vL;have oS:=PT.lNd;have Cc:=PT.lLt;generalize hLL:fh.L m N0 FA FB=LL at vL oS Cc;have lLL:LL.length≤300:=by have:=vL.1;simp only [dm,vQ] at vF;lia
   have F3:∀{N:ak},N.Perm LL→N.Perm (fh.L m N0 FA FB):=fun h=>by rw [hLL];exact h
   have oLt:∀j,∀x∈oL j,x<n:=fun j x hx=>by
    by_cases c:j=0;·exact PT.rN x (by rw [show oL j=N0.take s0 from ae c] at hx;exact hx)
    ·exact PT.ltB x (by rw [show oL j=N0.take m++N0.drop s0 from aa c] at hx;exact hx)
   have small:∀q∈LL,0≤q.2∧q.2<1000:=fun q hq=>by have:=Cc q hq;lia
   refine cJ fun _ adS=>⟨_,rfl,_,rfl,?_⟩;dsimp only [tE];refine IK jE (vL.mono AM) (by lia) small fun l' ws N F4 kC xK BU hN' pN oN=>?_
   have adU:N.Nodup:=pN.nodup_iff.mpr oS;have nH:N.Pairwise lexLt:=PB adU (fun q hq=>small q (pN.mem_iff.mp hq)) oN;have ltN:∀z∈N,0≤z.1∧z.1<z.2∧z.2<(n:Int):=fun z hz=>Cc z (pN.mem_iff.mp hz);refine ⟨l',ws,rfl,.inl ⟨.of BU,fun iP BV=>?_⟩⟩;have qt:af F4 (upd F4 iP (.tup ws)):=aK BV;have elt:upd F4 iP (.tup ws) iP=some (.tup ws):=ar;generalize upd F4 iP (.tup ws)=F5 at qt elt ⊢;refine ⟨by show 2≤sizeLine;decide,fun tw ntw=>?_⟩
   have F6:af F5 (upd F5 tw (.tup [.int (n:Int),.ref iP])):=aK ntw;have Sr:upd F5 tw (.tup [.int (n:Int),.ref iP]) tw=some (.tup [.int (n:Int),.ref iP]):=ar;generalize upd F5 tw (.tup [.int (n:Int),.ref iP])=Le at F6 Sr ⊢;have vM:=(kC.trans qt).trans F6;have F7:cL Le tw n N:=⟨iP,ws,Sr,F6 _ _ elt,(hN'.mono qt).mono F6⟩;have zG:e8 n N:=fun p hp=>by have:=ltN p hp;exact ⟨this.1,by lia,by lia,this.2.2⟩
   have Ss:qc N:=fun p hp=>by have:=ltN p hp;lia
   dsimp only [aQ];refine adS _ _ ?_;have Su:=p13.mono vM;have Lf:=vM _ _ (jD.at K8 K_);have adW:=vM _ _ (jD.at KZ Sq);have Sv:=vM _ _ jE;have Sw:bT Le us LL:=(vL.mono AM).mono vM;have Sx:∀(j:Nat) (x:V),([.ref Da,.ref Db]:List V)[j]?=some x→∃D:Addr,x=.ref D∧Le D=some (.lst ((oL j).map fun k:Nat=>V.int (k:Int)))∧(oL j).Nodup:=fun j x hx=>by obtain ⟨D,rfl,DP,e,nd,_⟩:=Lc j x hx;exact ⟨D,rfl,vM _ _ (jD.at DP e),nd⟩
   refine cJ fun _ adX=>lG (rf (xs:=[.ref Da,.ref Db]) (fun R h=>⟨_,rfl,Do,rfl,⟨_,.of Lf⟩,h _ _ (af.refl _) (kh (.of Lf))⟩) (cV (by show 2≤1000;decide)) (fun D j y Hc=>∃(t:Addr) (L2:ak),y=.ref t∧cL Hc t (dP n (oL j)).length L2∧ig LL (dP n (oL j)) L2∧DK (dP n (oL j)).length L2) ?_ ?_ ?_)
   ·intro D j y Hc H' ys h e k
    obtain ⟨t,L2,rfl,sh,r⟩:=h;exact ⟨t,L2,rfl,sh.hE fun b us g=>k b _ (fun z=>by rw [z,e] at g;cases g) g,r⟩
   ·intro D j x hx Hy R sy _ kc
    obtain ⟨Dj,rfl,ej,Cb⟩:=Sx j x hx;exact ⟨_,rfl,_,rfl,Dx,Dj,n,us,LL,oL j,dP n (oL j),rfl,sy _ _ Sv,Sw.mono sy,oS,Cc,by lia,sy _ _ ej,JG Cb (oLt j),uz _ _,fun Hz t L2 sz nt sh sb ok=>kc _ Hz sz ⟨t,L2,rfl,sh,sb,ok⟩⟩
   intro Dp ys Sy nDp Lg i_ iM Lh;obtain ⟨y0,y1,rfl⟩:∃y0 y1,ys=[y0,y1]:=by
    match ys,i_ with
    | [y0,y1],_=>exact ⟨y0,y1,rfl⟩
   obtain ⟨tA,LA,rfl,shA,F8,ft⟩:=iM 0 y0 rfl;obtain ⟨tB,LB,rfl,shB,F9,eN⟩:=iM 1 y1 rfl;have G:=PT.glue;have Sz:=BF G.hA;have SA:=BF G.hB;have Li:=BF G.hC;have zH:∀{k:Nat} {M:ak},k≤9→DK k M→e8 k M:=fun hk okM p hp=>by have:=okM.lt p hp;exact ⟨this.1,by lia,by lia,this.2.2⟩
   let LX:Nat→List (Int×Int):=fun j=>if j=0 then LA else LB
   let mX:Nat→Nat:=fun j=>if j=0 then (dP n (N0.take s0)).length else (dP n (N0.take m++N0.drop s0)).length
   have Lj:∀(j:Nat) (x:V),([.ref tA,.ref tB]:List V)[j]?=some x→∃t:Addr,x=.ref t∧cL Sy t (mX j) (LX j)∧DK (mX j) (LX j)∧(LX j).Pairwise lexLt∧mX j≤9:=fun j x hx=>by
    match j,hx with
    | 0,hx=>cases hx;exact ⟨tA,rfl,shA,ft,F8.pw,bU Sz n9⟩
    | 1,hx=>cases hx;exact ⟨tB,rfl,shB,eN,F9.pw,bU SA n9⟩
    | j+2,hx=>cases hx
   dsimp only [aQ];refine adX _ _ ?_;refine cJ fun _ ad2=>lG (xg (rf (xs:=[.ref tA,.ref tB]) (fun R h=>⟨_,rfl,Dp,rfl,⟨_,.of Lh⟩,h _ _ (af.refl _) (kh (.of Lh))⟩) (cV (by show 2≤1000;decide)) (fun _ j y _=>∃o:List Nat,o.Perm (List.range (mX j))∧gy (mX j) (LX j) [] o=wW (mX j) (LX j) []∧y=.int (wW (mX j) (LX j) [])) (fun _ _ _ _ _ _ h _ _=>h) ?_ ?_))
   ·intro D j x hx Hy R sy _ kc
    obtain ⟨t,rfl,sh,ok,pw,l9⟩:=Lj j x hx;exact ⟨_,rfl,t,mX j,LX j,rfl,sh.mono sy,zH l9 ok,l9,fun Hz tz lo o sz FD et BZ po ht=>⟨tz,_,1,_,rfl,rfl,.of et,rfl,kc _ Hz sz ⟨o,po,ht,rfl⟩⟩⟩
   intro Dq ys H18 nDq SD ad3 SE eDq;obtain ⟨z0,z1,rfl⟩:∃z0 z1,ys=[z0,z1]:=by
    match ys,ad3 with
    | [z0,z1],_=>exact ⟨z0,z1,rfl⟩
   obtain ⟨oA,poA,toA,rfl⟩:=SE 0 z0 rfl;obtain ⟨oB,poB,toB,rfl⟩:=SE 1 z1 rfl;refine ⟨Dq,[wW (mX 0) (LX 0) [],wW (mX 1) (LX 1) []],rfl,.of eDq,?_⟩;dsimp only [aQ];refine ad2 _ _ ?_;have SF:=Lg.trans SD;refine cJ fun _ ad9=>⟨_,rfl,tw,n,N,rfl,F7.mono SF,zG,n9,fun H19 t19 lo SG SH FD aea BZ Ll SI=>?_⟩;refine ⟨t19,_,rfl,.of aea,rfl,_,_,rfl,_,_,rfl,rfl,?_⟩;refine ad9 _ _ ?_;have F_:=SF.trans SH;refine cJ fun _ aeb=>⟨_,rfl,_,rfl,_,rfl,_,rfl,Dx,Dc,n,us,LL,N0.take m,dP n (N0.take m),rfl,F_ _ _ Sv,Sw.mono F_,oS,Cc,by lia,F_ _ _ adW,JG (Lb m) PT.uA,uz _ _,fun H20 tC LC Lm ntC shC SJ SK=>?_⟩
   refine ⟨tC,_,LC,rfl,shC,zH (bU Li n9) SK,bU Li n9,fun H21 t21 lo2 oC Ln aiI aee aiJ poC toC=>?_⟩;have gf:=aa5 G nH ltN (F8.congr pN) (F9.congr pN) (SJ.congr pN) (PT.sep (F3 pN)) (PT.cl (F3 pN)) Ll poA poB poC zG (zH (bU Sz n9) ft) (zH (bU SA n9) eN) (zH (bU Li n9) SK) SI toA toB toC;refine ⟨t21,_,1,_,rfl,rfl,.of aee,rfl,_,_,rfl,rfl,rfl,false,?_,k_ ?_⟩
   ·have e:[wW (mX 0) (LX 0) [],wW (mX 1) (LX 1) []].sum-wW (dP n (N0.take m)).length LC []=wW n N []:=by simp only [d7,List.sum_nil];have e0:wW (mX 0) (LX 0) []=wW (dP n (N0.take s0)).length LA []:=rfl;have e1:wW (mX 1) (LX 1) []=wW (dP n (N0.take m++N0.drop s0)).length LB []:=rfl;lia
    show V.bl (!decide (V.int (wW n N [])=V.int ([wW (mX 0) (LX 0) [],wW (mX 1) (LX 1) []].sum-wW (dP n (N0.take m)).length LC [])))=V.bl false;rw [e,bu rfl];rfl
   dsimp only [qW];refine aeb _ _ ?_;have Lo:=(F_.trans Lm).trans Ln;refine cJ fun _ aeh=>⟨_,rfl,_,rfl,_,rfl,tw,n,N,rfl,F7.mono Lo,zG,n9,fun H22 Dw qs Ga nDw eDw pq=>?_⟩;have aej:=(Lm.trans Ln).trans Ga;refine ⟨tw,lo,Dw,n,N,SG,qs,wW n N,rfl,F7.mono (Lo.trans Ga),zG,Ss,n9,aej _ _ BZ,Ll,eDw,pq,fun qz d SM hd=>?_⟩;obtain ⟨M19,SN⟩:=rJ n N SG;have ed:wW n N []=(d:Int):=by rw [hd M19 SN,←SI];exact xW Ll zG SN
   have sh1:rH n N (wW n N) d=true:=by rw [←OX n N,ZS n1 ed];rfl
   refine ⟨_,_,rfl,rfl,false,by rw [sh1];rfl,k_ ?_⟩
   dsimp only [qW];refine aeh _ _ ?_;have Gb:=(Lo.trans Ga).trans SM;have SO:=Su.mono Gb;have SQ:=(Sn.trans jD).trans (a_.of (P:=P0) vM);have Lp:=(t2.El p2 SQ).mono Gb;have aem:a8 K (er P0 qz) a (ns.map V.int):=af.seq (a_.of Gb) (af.seq SQ r_);have Cd:=(((((SD.trans SH).trans Lm).trans Ln).trans Ga).trans SM);obtain ⟨aiM,zI⟩:=Lp.at;have neT:∀{b:Addr} {xs:List V},(qz b=some (.lst xs)∨qz b=some (.tup xs))→b≠178:=fun{b xs} e z=>by rw [z,zI] at e;rcases e with e | e <;> cases e
   have Ce:=Cd _ _ Lh
   let Wd:Nat→Str→Prop:=fun j wd=>wd="order"∧(∃o:List Nat,o.Perm (List.range (mX j))∧bO (mX j) (LX j) o (LX j))∨wd="ring"∧∀o:List Nat,o.Perm (List.range (mX j))→¬bO (mX j) (LX j) o (LX j)
   refine cJ fun _ aen=>lG (abc (K:=K) (l:=Dp) (xs:=[.ref tA,.ref tB]) (fun D j ys Hc=>eV 178 qz Hc∧dO 178 nN jV Hc∧Hc D=some (.lst ys)∧ys.length=j∧∀(k:Nat) y,ys[k]?=some y→∃wd,y=.str wd∧Wd k wd) (cV (by show 2≤1000;decide)) (fun R h=>⟨_,rfl,Dp,rfl,⟨_,.of Ce⟩,h⟩) ?_ ?_ ?_ ?_)
   ·intro D nD
    exact ⟨fun b o _ e=>(aK nD) b o e,Lp.mono (aK nD),ar,rfl,fun k y h=>by simp at h⟩
   ·rintro D j ys Hy nD ⟨sy,ty,eD,ly,_⟩
    exact ⟨sy _ _ (neT (.inl Ce)) Ce,eD,ly⟩
   ·rintro D j x ys Hy nD hx ⟨sy,ty,eD,ly,hw⟩ R kR
    obtain ⟨tX,rfl,sh,ok,pw,l9⟩:=Lj j x hx;have shX:cL Hy tX (mX j) (LX j):=By (sh.mono Cd) zI sy;obtain ⟨psy,ePy⟩:=ty.at;have DT:D≠178:=fun z=>by rw [z,ePy] at eD;cases eD
    have go:∀(wd:Str) (Hz:Hp),eV 178 Hy Hz→dO 178 nN jV Hz→Wd j wd→R (.str wd) Hz:=fun wd Hz sz tz hwd=>by
     have SR:=sz _ _ DT eD;refine kR _ Hz SR ⟨fun b o nb e=>?_,tz.off SR (fun _ z=>by cases z) (fun _ z=>by cases z) fun b o nb e=>(aE nb).trans e,ar,by rw [cW,nQ,ly],fun k y h=>?_⟩
     ·have:=sz b o nb (sy b o nb e)
      rw [aE (fW e nD)];exact this
     ·rcases su k ys.length with c | c
      ·rw [gZ c] at h
       exact hw k y h
      ·rw [iw c] at h
       have k0:k-ys.length<1:=(bV.mp h).1;have ek:k=j:=by lia
       subst ek;rw [ly,mw] at h;cases h;exact ⟨wd,rfl,hwd⟩
    refine ⟨_,rfl,tX,mX j,LX j,rfl,shX,pw,ok.lt,by lia,ty,fun Hz T4 l3 o3 sz tz nT md eT vz zJ Gd=>?_,fun Hz T4 l3 zs sz tz nT md eT vz bare nd rn no=>?_⟩
    ·exact ⟨T4,_,_,_,rfl,rfl,.of eT,rfl,go _ Hz sz tz (.inl ⟨rfl,o3,zJ,Gd⟩)⟩
    ·exact ⟨T4,_,_,_,rfl,rfl,.of eT,rfl,go _ Hz sz tz (.inr ⟨rfl,no⟩)⟩
   rintro Dt ys H24 nDt ⟨Lq,Lr,zK,lyt,SS⟩;obtain ⟨u0,u1,rfl⟩:∃u0 u1,ys=[u0,u1]:=by
    match ys,lyt with
    | [u0,u1],_=>exact ⟨u0,u1,rfl⟩
   obtain ⟨w0,rfl,SU⟩:=SS 0 u0 rfl;obtain ⟨w1,rfl,SW⟩:=SS 1 u1 rfl;dsimp only [aQ];refine aen _ _ ?_;refine cJ fun R18 aeu=>?_;have SX:P0≠178:=Lp.neP SO;have SY:cL qz tw n N:=F7.mono Gb;have S0:=(Lg.trans Cd) _ _ Lf;have aev:∀(j:Nat) (x:V),([.ref Da,.ref Db]:List V)[j]?=some x→∃D:Addr,x=.ref D∧qz D=some (.lst ((oL j).map fun k:Nat=>V.int (k:Int)))∧(oL j).Nodup:=fun j x hx=>by obtain ⟨D,rfl,e,nd⟩:=Sx j x hx;exact ⟨D,rfl,(Lg.trans Cd) _ _ e,nd⟩
   have S1:∀iQ:Hp,eV 178 qz iQ→dO 178 nN jV iQ→R18 [some (.ref a),some (.ref P0),some (.int (0+(i:Int))),some (.int (m:Int)),some (.int (tp:Int)),some (.ref Ds),some (.int (n:Int)),some (.ref r),some (.ref Dc),some (.ref Do),some (.ref Dx),v11,Ca,some (.ref tw),some (.ref Dp),some (.int [wW (mX 0) (LX 0) [],wW (mX 1) (LX 1) []].sum),some (.ref lo),some (.int (wW n N [])),some (.ref Dt),v 19,v 20,v 21] iQ:=by
    intro iQ kH Cf;refine aeu _ _ ?_;have Ge:=kH.lH SX SO;have S2:a8 K (er P0 iQ) a (ns.map V.int):=a8.st aem (xh (Ne.symm SX) zI) kH.er;have aew:cL iQ tw n N:=By SY zI kH;have aex:=kH _ _ (neT (.inl S0)) S0;have aey:=kH _ _ (neT (.inl Ce)) Ce;have aez:∀(j:Nat) (x:V),([.ref Da,.ref Db]:List V)[j]?=some x→∃D:Addr,x=.ref D∧D≠P0∧iQ D=some (.lst ((oL j).map fun k:Nat=>V.int (k:Int)))∧(oL j).Nodup:=fun j x hx=>by obtain ⟨D,rfl,DP,_⟩:=Lc j x hx;obtain ⟨D',e',e,nd⟩:=aev j _ hx;cases e';exact ⟨D,rfl,DP,kH _ _ (neT (.inl e)) e,nd⟩
    refine ⟨6,rfl,by decide,by decide,?_⟩
    refine CW (fun k σ Hd=>∃u:Nat→Option V,σ=[some (.ref a),some (.ref P0),some (.int (0+(i:Int))),some (.int (m:Int)),some (.int (tp:Int)),some (.ref Ds),some (.int (n:Int)),some (.ref r),some (.ref Dc),some (.ref Do),some (.ref Dx),v11,Ca,some (.ref tw),some (.ref Dp),some (.int [wW (mX 0) (LX 0) [],wW (mX 1) (LX 1) []].sum),some (.ref lo),some (.int (wW n N [])),some (.ref Dt),u 19,u 20,u 21]∧a_ P0 iQ Hd∧c_ Hd P0 a) ⟨v,rfl,a_.refl _,Ge⟩ ?_ ?_
    ·rintro k σ Hd hk ⟨u,rfl,sd,pd⟩
     dsimp only [aQ];refine cJ fun _ hT1=>⟨_,rfl,_,rfl,(n:Int),rfl,fun q1 oY=>⟨q1,n,rfl,ar,by lia,fun l nl=>?_⟩⟩
     have sl:af Hd (upd (upd Hd q1 (.fV 0 (n:Int))) l (.lst (dz n))):=(aK oY).trans (aK nl);have el:upd (upd Hd q1 (.fV 0 (n:Int))) l (.lst (dz n)) l=some (.lst (dz n)):=ar;have lP:l≠P0:=pd.ne (none_of (aK oY) nl);generalize upd (upd Hd q1 (.fV 0 (n:Int))) l (.lst (dz n))=He at sl el ⊢;have se:=sd.trans (a_.of (P:=P0) sl);have pe:=pd.mono sl;refine ⟨P0,a,l,ns,dz n,rfl,pe,af.seq se S2,lP,el,by lia,fun ro ys Hf sf pf nro roP B8 pmo=>?_⟩
     obtain ⟨o,rfl,ho⟩:=Od pmo;have zL:=se.trans sf;have lo9:o.length=n:=by rw [ho.length_eq,cC]
     dsimp only [aQ];refine hT1 _ _ ?_;have DpP:Dp≠P0:=Su.ne nDp;have S3:=zL.at DpP aey;have S4:=zL.at K8 aex;have mXe:∀j,mX j=(dP n (oL j)).length:=fun j=>by
      by_cases c:j=0
      ·subst c
       rfl
      ·show (if j=0 then (dP n (N0.take s0)).length else (dP n (N0.take m++N0.drop s0)).length)=(dP n (if j=0 then N0.take s0 else N0.take m++N0.drop s0)).length
       rw [aa c,aa c]
     have shf:∀{t:Addr} {k:Nat} {M:ak},cL Sy t k M→cL Hf t k M:=fun{t k M} h=>(((By (h.mono Cd) zI kH).er Ge).mono zL).mono AM;refine cJ fun _ hT2=>lG (Wg (zs:=[(.ref tA,.ref Da),(.ref tB,.ref Db)]) (fun R h=>⟨_,rfl,_,rfl,Dp,Do,rfl,⟨_,.of S3⟩,⟨_,.of S4⟩,h _ _ (af.refl _) (Wf (.of S3) (.of S4))⟩) (cV (by show 2≤1000;decide)) (fun j y=>∃b:Bool,y=.bl b∧(bO (mX j) (LX j) (jB (dP n (oL j)) o) (LX j)→b=true)) ?_ ?_)
     ·intro j x y hz Hy R sy kR
      have DW:([.ref tA,.ref tB]:List V)[j]?=some x∧([.ref Da,.ref Db]:List V)[j]?=some y:=by
       match j,hz with
       | 0,hz=>cases hz;exact ⟨rfl,rfl⟩
       | 1,hz=>cases hz;exact ⟨rfl,rfl⟩
       | j+2,hz=>cases hz
      obtain ⟨tX,rfl,sh,ok,pw,l9⟩:=Lj j x DW.1;obtain ⟨Dj,rfl,F2,ej,Cb⟩:=aez j y DW.2;refine ⟨_,rfl,_,rfl,_,rfl,ro,Dj,n,o,oL j,dP n (oL j),rfl,sy _ _ B8,ho,by lia,sy _ _ (zL.at F2 ej),JG Cb (oLt j),uz _ _,fun Hz Dk sz nDk eDk=>?_⟩
      have cp:=BH (uz n (oL j)) ho;rw [←mXe j] at cp;have nsX:qc (LX j):=fun p hp=>by have:=ok.lt p hp;lia
      refine ⟨tX,Dk,mX j,LX j,(jB (dP n (oL j)) o).map iN,rfl,(shf sh).mono (sy.trans sz),zH l9 ok,nsX,by lia,by rw [eDk,cx];rfl,by rw [ay,cp.length_eq,cC];lia,fun no=>absurd (cp.map iN) no,fun o2 e2 jg Hw M2 sw f2=>?_⟩
      exact kR _ Hw (sz.trans sw) ⟨_,rfl,fun hf=>bu (bO.uniq f2 (Po e2▸hf))⟩
     intro D2 vs Hy sy lvs S5 iu;obtain ⟨x0,x1,rfl⟩:∃x0 x1,vs=[x0,x1]:=by
      match vs,lvs with
      | [x0,x1],_=>exact ⟨x0,x1,rfl⟩
     obtain ⟨b0,rfl,hb0⟩:=S5 0 x0 rfl;obtain ⟨b1,rfl,xT⟩:=S5 1 x1 rfl;dsimp only [aQ];refine hT2 _ _ ?_;have next:∀(w:Nat→Option V) (Hz:Hp),af Hy Hz→a_ P0 iQ Hz∧c_ Hz P0 a:=fun w Hz sz=>⟨zL.trans (a_.of (sy.trans sz)),(pf.mono sy).mono sz⟩
     have aeK:cL Hy tw n N:=(((aew.er Ge).mono zL).mono AM).mono sy;refine ⟨_,rfl,_,rfl,tw,ro,n,N,o.map iN,rfl,aeK,zG,Ss,by lia,by rw [sy _ _ B8,cx];rfl,by rw [ay];lia,fun no=>absurd (ho.map iN) no,fun o2 e2 jg Hw M2 sw f2=>⟨_,rfl,d9 (fun h=>?_) (fun h=>?_)⟩⟩
     ·have eM:=dC h
      have fN:bO n N o N:=by have:=Po e2;subst this;rw [eM] at f2;exact f2
      have c0:=hb0 (Ep G.hA ho (F8.congr pN) ltN fN);have c1:=xT (Ep G.hB ho (F9.congr pN) ltN fN);subst c0 c1;refine ⟨_,rfl,D2,[true,true],rfl,.of (sw _ _ iu),true,rfl,k_ ?_⟩;exact ⟨fun k=>List.getD [none,none,none,none,none,none,none,none,none,none,none,none,none,none,none,none,none,none,none,_,_,_] k none,rfl,next u Hw sw⟩
     ·refine k_ ?_
      exact ⟨fun k=>List.getD [none,none,none,none,none,none,none,none,none,none,none,none,none,none,none,none,none,none,none,_,_,_] k none,rfl,next u Hw sw⟩
    ·rintro σ Hd ⟨u,rfl,sd,pd⟩
     exact ⟨fun k=>List.getD [none,none,_,_,_,_,_,_,_,_,_,_,_,_,_,_,_,_,_,_,_,_] k none,rfl,pd,af.seq sd S2,Cf.El Ge sd⟩
   have aeL:cL H24 tw n N:=By SY zI Lq;have S6:=F8.congr pN;have S7:=F9.congr pN;have sC':=SJ.congr pN;refine ⟨_,rfl,tw,n,N,rfl,aeL,nH,ltN,by lia,Lr,fun iQ T4 l3 o3 kH Cf nT md eT vz zJ Gd=>?_,fun iQ T4 l3 zs kH Cf nT md eT vz bare nd rn no=>?_⟩
   ·have w0o:w0="order":=by
     rcases SU with ⟨e,_⟩ | ⟨_,no⟩;·exact e
     ·exact absurd (Ep G.hA zJ S6 ltN Gd) (no _ (BH G.hA zJ))
    have w1o:w1="order":=by
     rcases SW with ⟨e,_⟩ | ⟨_,no⟩;·exact e
     ·exact absurd (Ep G.hB zJ S7 ltN Gd) (no _ (BH G.hB zJ))
    subst w0o w1o;have Ls:eV 178 qz iQ:=fun b o nb e=>kH b o nb (Lq b o nb e);obtain ⟨aeP,Lu⟩:=Lr.at;have Lv:=kH _ _ (fun z=>by rw [z,Lu] at zK;cases zK) zK
    refine ⟨T4,_,_,_,rfl,rfl,.of eT,rfl,by show 2≤sizeLine;decide,fun De FI=>?_⟩
    have se:af iQ (upd iQ De (.lst [.str "order",.str "ring"])):=aK FI;refine ⟨_,rfl,Dt,_,rfl,.inl (.of (se _ _ Lv)),rfl,rfl,.inr ⟨_,rfl,De,_,_,_,rfl,rfl,.of ar,rfl,rfl,false,rfl,k_ ?_⟩⟩;exact S1 _ (fun b o nb e=>se b o (Ls b o nb e)) (Cf.mono se)
   ·have Ls:eV 178 qz iQ:=fun b o nb e=>kH b o nb (Lq b o nb e)
    obtain ⟨aeP,Lu⟩:=Lr.at;have Lv:=kH _ _ (fun z=>by rw [z,Lu] at zK;cases zK) zK
    have Ja:f_ (V.str "ring") [V.str w0,V.str w1]=true:=by
     rcases SU with ⟨e0,oa,poa,foa⟩ | ⟨e0,_⟩
     ·rcases SW with ⟨e1,ob,pob,fob⟩ | ⟨e1,_⟩
      ·obtain ⟨o,po,fo⟩:=aa4 G nH ltN S6 S7 sC' (PT.sep (F3 pN)) (PT.cl (F3 pN)) poa foa pob fob
       exact absurd fo (no o po)
      ·rw [e1]
       unfold f_;rw [qB,qB];simp [fm]
     ·rw [e0]
      unfold f_;rw [qB];simp [fm]
    refine ⟨T4,_,_,_,rfl,rfl,.of eT,rfl,by show 2≤sizeLine;decide,fun De FI=>?_⟩
    have se:af iQ (upd iQ De (.lst [.str "order",.str "ring"])):=aK FI;refine ⟨_,rfl,Dt,_,rfl,.inl (.of (se _ _ Lv)),rfl,rfl,?_⟩;rw [show (if false=true then !f_ (V.str "ring") [V.str w0,V.str w1] else f_ (V.str "ring") [V.str w0,V.str w1])=true from Ja]
    refine .inr ⟨_,rfl,De,_,_,_,rfl,rfl,.of ar,rfl,rfl,false,rfl,k_ ?_⟩;exact S1 _ (fun b o nb e=>se b o (Ls b o nb e)) (Cf.mono se)
  refine ⟨_,rfl,rfl,_,rfl,d9 (fun h=>?_) (fun h=>?_)⟩
  ·refine ⟨_,rfl,P0,a,ns,6,rfl,p1,af.seq s1 FV,by decide,lp.of_lt (by decide) (by decide),fun c H2 c0 c1 s2 p2=>⟨rfl,.inr ⟨_,rfl,_,_,rfl,rfl,?_⟩⟩⟩
   generalize decide (V.int c=V.int 0)=b;cases b with
   | true=>exact KR 6 H2 (.inr rfl) (s1.trans s2) p2
   | false=>exact KR 5 H2 (.inl rfl) (s1.trans s2) p2
  ·exact .inr ⟨false,rfl,_,_,rfl,rfl,KR 5 H1 (.inl rfl) s1 p1⟩
 ·rintro σ Hc ⟨v,rfl,pc,FV,tc⟩
  exact kQ _
theorem aeU{l:PySem.W.OpenLaw}(T:Txt K mg t):K.lookup 178=none∧(∃x6,L2.tabIn K x6 178=true)∧∃fd:FuncData,(∀(s:Shared) (v:Value),BindsTo s fd ⟨[v],[]⟩ [("script",v)])∧∀base:Heap,K.In base→base.Ns mainGlobals mg→L2.nC base mg→cu l.prog w K mg base dE 10 t.rQ fd ["script"] (L2.Ej K 178):=by obtain ⟨oc,od,kV,doc,pm,an,cH,ct,mM,e,lk,fE⟩:=T.zg.ex;refine ⟨T.QO,⟨_,T.tab⟩,t.ve,fun s v=>?_,fun base _ _ hB=>adw T hB⟩;rw [e];exact .of_eq rfl
end
theorem walk{l:PySem.W.OpenLaw}{q:Program}{loose:List Str}{XP:(Str→Option Value)→Heap→Prop}{YP:World→Heap→Prop}{d:DefRec}{K:Params→PySem.W.Frag}(hn:l.most=some 63)(Ay:d.params.defaults=[])
  (hY:∀(w:World) (h:Heap),YP w h→(K w.params).In h) (hP:∀(w:World) (h:Heap),YP w h→h.get? 178=some (PySem.W.tabObj #[]))
  (F:∀(w:World) (mg:dq) (fa:Addr) (h:Heap),(K w.params).In h→h.Ns mainGlobals mg→mg d.name=some (.ref fa)→
   (K w.params).lookup 178=none∧(∃x6,L2.tabIn (K w.params) x6 178=true)∧∃fd:FuncData,(∀(s:Shared) (u:Value),BindsTo s fd ⟨[u],[]⟩ [("script",u)])∧∀base:Heap,(K w.params).In base→base.Ns mainGlobals mg→L2.nC base mg→cu l.prog w (K w.params) mg base dE 10 fa fd ["script"] (L2.Ej (K w.params) 178)) :
  PySem.W.WalkO q loose XP YP l.row.toRowW d [] (fun f vs=>PySem.call f vs):=
 L2.aap hn Ay ⟨rfl,by decide,by decide⟩ hY hP F
theorem aeV{K:aD}{h:Heap}{mg:dq}(X:K.In h)(G:h.Ns mainGlobals mg)
  {l_:Addr}
  {yQ:Addr}
  {aeW:Tok}
  {uB uC uD uE uF uG uH uI uJ uK uL uN uO uP uQ uR uS uT uU uV uW uX uY uZ u4 u5 u6 u7 u9 u_ va vc vd rQ:Addr} {ye yf yg yh yi yj yk yl ym yo yp yq yr yt yu yw yy yA yB yC yE rO yF yG yH yI yJ yK yL yM yN yO yP ve:FuncData}
  (Lw:PySem.W.nsIn K mainGlobals "NoOrder"=some (some (.ref l_)))
  (Lx:PySem.W.nsIn K mainGlobals "NoSize"=some (some (.ref yQ)))
  (aeX:mg "is_whole"=some (.ref uB))
  (yR:a9 K "is_whole" Ew uB ye)
  (aeY:mg "neighbours"=some (.ref uC))
  (qj:a9 K "neighbours" Ex uC yf)
  (aeZ:mg "is_order"=some (.ref uD))
  (yS:a9 K "is_order" Ey uD yg)
  (ae0:mg "check_order"=some (.ref uE))
  (yT:a9 K "check_order" Ez uE yh)
  (ae1:mg "turns_of"=some (.ref uF))
  (yU:a9 K "turns_of" EA uF yi)
  (ae2:mg "link_all"=some (.ref uG))
  (yW:a9 K "link_all" EB uG yj)
  (ae3:mg "later"=some (.ref uH))
  (vf:a9 K "later" EC uH yk)
  (ae4:mg "filled"=some (.ref uI))
  (yX:a9 K "filled" ED uI yl)
  (ae5:mg "place_deeds"=some (.ref uJ))
  (vg:a9 K "place_deeds" EE uJ ym)
  (ae6:mg "deeds"=some (.ref uK))
  (yY:a9 K "deeds" EF uK yo)
  (ae7:mg "check_size"=some (.ref uL))
  (rR:a9 K "check_size" EG uL yp)
  (ae8:mg "still_near"=some (.ref uN))
  (yZ:a9 K "still_near" EH uN yq)
  (ae9:mg "cost"=some (.ref uO))
  (y4:a9 K "cost" EI uO yr)
  (ae_:mg "rising_tuples"=some (.ref uP))
  (vh:a9 K "rising_tuples" EJ uP yt)
  (afa:mg "and_done"=some (.ref uQ))
  (vi:a9 K "and_done" EK uQ yu)
  (afb:mg "choices"=some (.ref uR))
  (rS:a9 K "choices" EL uR yw)
  (afc:mg "worths"=some (.ref uS))
  (vj:a9 K "worths" EM uS yy)
  (afd:mg "fewest"=some (.ref uT))
  (rT:a9 K "fewest" EN uT yA)
  (afe:mg "keeps_to_costs"=some (.ref uU))
  (y6:a9 K "keeps_to_costs" EO uU yB)
  (aff:mg "shows_fewest"=some (.ref uV))
  (y7:a9 K "shows_fewest" ER uV yC)
  (afg:mg "is_perfect"=some (.ref uW))
  (rU:a9 K "is_perfect" ES uW yE)
  (afh:mg "likely_order"=some (.ref uX))
  (y8:a9 K "likely_order" ET uX rO)
  (afi:mg "walk_back"=some (.ref uY))
  (y_:a9 K "walk_back" EU uY yF)
  (afj:mg "unmet"=some (.ref uZ))
  (za:a9 K "unmet" EV uZ yG)
  (afk:mg "ring_over"=some (.ref u4))
  (zb:a9 K "ring_over" EW u4 yH)
  (afl:mg "bare_ring"=some (.ref u5))
  (zc:a9 K "bare_ring" EX u5 yI)
  (afm:mg "perfect"=some (.ref u6))
  (vk:a9 K "perfect" EY u6 yJ)
  (afn:mg "_law_fill"=some (.ref u7))
  (zd:a9 K "_law_fill" EZ u7 yK)
  (afo:mg "_law_next"=some (.ref u9))
  (nK:a9 K "_law_next" E1 u9 yL)
  (afp:mg "_law_turned"=some (.ref u_))
  (vt:a9 K "_law_turned" E2 u_ yM)
  (afq:mg "_law_within"=some (.ref va))
  (vv:a9 K "_law_within" E3 va yN)
  (afr:mg "_law_cut"=some (.ref vc))
  (ze:a9 K "_law_cut" E4 vc yO)
  (afs:mg "_law_linked"=some (.ref vd))
  (zf:a9 K "_law_linked" E5 vd yP)
  (aft:mg "law"=some (.ref rQ))
  (zg:a9 K "law" E6 rQ ve)
  (Ly:PySem.W.nsIn K mainGlobals "ValueError"=some none)
  (Lz:PySem.W.nsIn K mainGlobals "all"=some none)
  (LD:PySem.W.nsIn K mainGlobals "any"=some none)
  (LF:PySem.W.nsIn K mainGlobals "bool"=some none)
  (LG:PySem.W.nsIn K mainGlobals "enumerate"=some none)
  (LH:PySem.W.nsIn K mainGlobals "int"=some none)
  (LI:PySem.W.nsIn K mainGlobals "isinstance"=some none)
  (LJ:PySem.W.nsIn K mainGlobals "len"=some none)
  (LK:PySem.W.nsIn K mainGlobals "list"=some none)
  (LM:PySem.W.nsIn K mainGlobals "max"=some none)
  (LN:PySem.W.nsIn K mainGlobals "min"=some none)
  (LO:PySem.W.nsIn K mainGlobals "range"=some none)
  (LP:PySem.W.nsIn K mainGlobals "reversed"=some none)
  (LQ:PySem.W.nsIn K mainGlobals "set"=some none)
  (LR:PySem.W.nsIn K mainGlobals "sorted"=some none)
  (LS:PySem.W.nsIn K mainGlobals "sum"=some none)
  (LU:PySem.W.nsIn K mainGlobals "tuple"=some none)
  (LV:PySem.W.nsIn K mainGlobals "zip"=some none)
  (LW:PySem.W.nsIn K mainGlobals "MOST"=some (some (.int 9 aeW)))
  (LY:PySem.W.excIn K l_ [.type "ValueError",.type "Exception",.type "BaseException",.type "object"] "ValueError.__new__"=true)
  (LZ:PySem.W.excIn K yQ [.type "ValueError",.type "Exception",.type "BaseException",.type "object"] "ValueError.__new__"=true)
  (L0:L2.tabIn K rO 178=true)
  (L3:K.lookup 178=none)
  : ∃t:JH,Txt K mg t:=by
 refine ⟨⟨uB,ye,uC,yf,uD,yg,uE,yh,uF,yi,uG,yj,uH,yk,uI,yl,uJ,ym,uK,yo,uL,yp,uN,yq,uO,yr,uP,yt,uQ,yu,uR,yw,uS,yy,uT,yA,uU,yB,uV,yC,uW,yE,uX,rO,uY,yF,uZ,yG,u4,yH,u5,yI,u6,yJ,u7,yK,u9,yL,u_,yM,va,yN,vc,yO,vd,yP,rQ,ve,l_,yQ⟩,?_⟩
 exact {
  yR:=yR
  P4:=yR.cI
  P5:=aeX
  qj:=qj
  BO:=qj.cI
  BP:=aeY
  yS:=yS
  P6:=yS.cI
  P7:=aeZ
  yT:=yT
  P8:=yT.cI
  P9:=ae0
  yU:=yU
  P_:=yU.cI
  Qa:=ae1
  yW:=yW
  Qb:=yW.cI
  Qc:=ae2
  vf:=vf
  JI:=vf.cI
  JJ:=ae3
  yX:=yX
  Qd:=yX.cI
  Qe:=ae4
  vg:=vg
  JK:=vg.cI
  JL:=ae5
  yY:=yY
  Qf:=yY.cI
  Qg:=ae6
  rR:=rR
  E7:=rR.cI
  E8:=ae7
  yZ:=yZ
  Qh:=yZ.cI
  Qi:=ae8
  y4:=y4
  Qj:=y4.cI
  Qk:=ae9
  vh:=vh
  JM:=vh.cI
  JN:=ae_
  vi:=vi
  JO:=vi.cI
  JP:=afa
  rS:=rS
  E9:=rS.cI
  E_:=afb
  vj:=vj
  JQ:=vj.cI
  JR:=afc
  rT:=rT
  Fb:=rT.cI
  Fc:=afd
  y6:=y6
  Ql:=y6.cI
  Qm:=afe
  y7:=y7
  Qn:=y7.cI
  Qo:=aff
  rU:=rU
  Fd:=rU.cI
  Fe:=afg
  y8:=y8
  Qp:=y8.cI
  Qq:=afh
  y_:=y_
  Qr:=y_.cI
  Qs:=afi
  za:=za
  Qt:=za.cI
  Qu:=afj
  zb:=zb
  Qv:=zb.cI
  Qw:=afk
  zc:=zc
  Qx:=zc.cI
  Qy:=afl
  vk:=vk
  JS:=vk.cI
  JT:=afm
  zd:=zd
  Qz:=zd.cI
  QA:=afn
  nK:=nK
  vn:=nK.cI
  vp:=afo
  vt:=vt
  JU:=vt.cI
  JV:=afp
  vv:=vv
  JW:=vv.cI
  JX:=afq
  ze:=ze
  QB:=ze.cI
  QC:=afr
  zf:=zf
  QD:=zf.cI
  QE:=afs
  zg:=zg
  abg:=zg.cI
  QF:=aft
  QG:=cU X G Lw
  QH:=cU X G Lx
  abh:=g_ X G Ly
  zh:=g_ X G Lz
  abi:=g_ X G LD
  QI:=g_ X G LF
  JY:=g_ X G LG
  Ff:=g_ X G LH
  Fg:=g_ X G LI
  i8:=g_ X G LJ
  rV:=g_ X G LK
  JZ:=g_ X G LM
  Fh:=g_ X G LN
  kB:=g_ X G LO
  QJ:=g_ X G LP
  abj:=g_ X G LQ
  oW:=g_ X G LR
  Fi:=g_ X G LS
  zi:=g_ X G LU
  QK:=g_ X G LV
  QL:=⟨_,cU X G LW,_,rfl⟩
  QM:=LY
  QN:=LZ
  tab:=L0
  QO:=L3
 }
end My
namespace PySem.W.Fast
def tw11294570055493667341:Unit:=()
def tw18031410174914505582:Unit:=()
def tw14519887231775785541:Unit:=()
def tw2686273156816701488:Unit:=()
def tw2463779246011289368:Unit:=()
def tw9016364143939084914:Unit:=()
def tw13568394256507072911:Unit:=()
def tw17947605699291499701:Unit:=()
def tw16168159079734013775:Unit:=()
def tw18085661486148251426:Unit:=()
def tw17277255742989543442:Unit:=()
def tw1312308650835694657:Unit:=()
def tw8860008764793581901:Unit:=()
def tw5285011355247270282:Unit:=()
def tw11943417470370401661:Unit:=()
def tw2781764655588319204:Unit:=()
def tw16775107070205249995:Unit:=()
def tw5682419437066481644:Unit:=()
def tw4214001275118424799:Unit:=()
def tw9594584179692514971:Unit:=()
def tw4257630354767728769:Unit:=()
def tw17040453387463771306:Unit:=()
def tw12154587606066549608:Unit:=()
def tw10171463571585796635:Unit:=()
def tw1293802282576754613:Unit:=()
def tw760672968804751177:Unit:=()
def tw18347984074763912020:Unit:=()
def tw869541981107152284:Unit:=()
def tw17696066909484926184:Unit:=()
def tw8350135692545939114:Unit:=()
def tw919593115740565383:Unit:=()
def tw13889386427874623590:Unit:=()
def tw5570433480453773197:Unit:=()
def tw16116289542259689123:Unit:=()
def tw8071784830040236791:Unit:=()
def tw11371930238602184068:Unit:=()
def tw3202677801666016091:Unit:=()
def tw16107762781612110998:Unit:=()
def tw3689771963545910349:Unit:=()
def tw4248797679219765415:Unit:=()
def tw13437080373264051030:Unit:=()
def tw17259367377371808287:Unit:=()
def tw182749091104214784:Unit:=()
def tw10157340000721290273:Unit:=()
def tw9176076515589104908:Unit:=()
def tw16146766262036210134:Unit:=()
def tw3638120639193178702:Unit:=()
def tw3302001587117890312:Unit:=()
def tw5188144815815789876:Unit:=()
def tw17487574313191098986:Unit:=()
def tw9903969875537965633:Unit:=()
def tw4851934314848723633:Unit:=()
def tw5367310297604735652:Unit:=()
def tw9501868744564383982:Unit:=()
def tw7633432036006653633:Unit:=()
def tw11756230811294025007:Unit:=()
def tw13727686814835984072:Unit:=()
def tw11050776059965028031:Unit:=()
def tw8896206451615571224:Unit:=()
def tw700905061231059586:Unit:=()
def tw3993712332748924473:Unit:=()
def tw7422075760794665936:Unit:=()
def tw938723042040891174:Unit:=()
def tw7428188340572604842:Unit:=()
def tw12346974315075650499:Unit:=()
def tw1946130495162357299:Unit:=()
def tw16633537617251734512:Unit:=()
def tw17816694481920790620:Unit:=()
def tw11418706998672591060:Unit:=()
def tw10127861721025275337:Unit:=()
def tw9590183014731718579:Unit:=()
def tw10933842411952326381:Unit:=()
def tw12058816170824356311:Unit:=()
def tw17234064954973474579:Unit:=()
def tw3525433196480859339:Unit:=()
def tw16137866626954981418:Unit:=()
def tw9652516854330199628:Unit:=()
def tw9957965023756874663:Unit:=()
def tw2557802104394319277:Unit:=()
def tw5389799255721186164:Unit:=()
def tw6869938925050370258:Unit:=()
def tw11070640359352994900:Unit:=()
def tw5299661203398935725:Unit:=()
def tw201905868674743152:Unit:=()
def tw15497925191024685759:Unit:=()
def tw8472933610259525515:Unit:=()
def tw12720404261233376354:Unit:=()
def tw9186737213383311483:Unit:=()
def tw14230895374296431342:Unit:=()
def tw3709158711028263262:Unit:=()
def tw10658520081086133387:Unit:=()
def tw8048158742754705410:Unit:=()
def tw808658887223829247:Unit:=()
def tw2370183605287060100:Unit:=()
def tw14662980531629979204:Unit:=()
def tw12751699092065027240:Unit:=()
def tw14194303727757561633:Unit:=()
def tw18017158223111729997:Unit:=()
def tw4659616693855391960:Unit:=()
def tw14436589135689144282:Unit:=()
def tw13982945365562432861:Unit:=()
def tw3835477282428483687:Unit:=()
def tw8244585146594927311:Unit:=()
def tw11573531228628478421:Unit:=()
def tw13048334257061679210:Unit:=()
def tw228565449446758845:Unit:=()
def tw9822539486725613018:Unit:=()
def tw4689806517745498686:Unit:=()
def tw9198191814230508959:Unit:=()
def tw2859230110475484743:Unit:=()
def tw609319566559282815:Unit:=()
def tw4791819839593501557:Unit:=()
def tw8856077628455394776:Unit:=()
def tw16368894023225095497:Unit:=()
def tw4634649174596660820:Unit:=()
def tw10752086563778231809:Unit:=()
def tw6892173780927425864:Unit:=()
def tw12483477565938650846:Unit:=()
def tw16376430327290158167:Unit:=()
def tw4373400270355477905:Unit:=()
def tw4900534883421645007:Unit:=()
def tw12705906968541882285:Unit:=()
def tw17788492192624257989:Unit:=()
def tw4973317356049381532:Unit:=()
def tw1633851542749654798:Unit:=()
def tw17318175146271608587:Unit:=()
def tw3005934312196070341:Unit:=()
def tw13939374799352005341:Unit:=()
def tw12829742953603748371:Unit:=()
def tw18376231232868073357:Unit:=()
def tw11586629430781725200:Unit:=()
def tw941029565537688790:Unit:=()
def tw10331521685994314593:Unit:=()
def tw10329354175545503056:Unit:=()
def tw2931469451870900660:Unit:=()
def tw9004687184628159178:Unit:=()
def tw1009744611179270020:Unit:=()
def tw17598020040941250766:Unit:=()
def tw10307608659211847638:Unit:=()
def tw8532975857887350135:Unit:=()
def tw4012219916535150205:Unit:=()
def tw14479988453926345960:Unit:=()
def tw16114645982495692512:Unit:=()
def tw10728353930425010028:Unit:=()
def tw2110982953234642071:Unit:=()
def tw13314844909833710663:Unit:=()
def tw5363539007815850305:Unit:=()
def tw4744527576816948588:Unit:=()
def tw177501528402951747:Unit:=()
def tw16352980661887228182:Unit:=()
def tw11863489610279078230:Unit:=()
def tw9269886663625700397:Unit:=()
def tw2122959919282978168:Unit:=()
def tw6065297652098393682:Unit:=()
def tw4795479215468536283:Unit:=()
def tw14520806184784077931:Unit:=()
def tw10769997000843727391:Unit:=()
def tw13634980308244860197:Unit:=()
def tw6188296999668326743:Unit:=()
def tw12151786675873167824:Unit:=()
def tw9623457303929043624:Unit:=()
def tw3539813642914160070:Unit:=()
def tw577656903080237966:Unit:=()
def tw1415358114279548187:Unit:=()
def tw10242040339765400220:Unit:=()
def tw7833625004309877133:Unit:=()
def tw7489812146389278771:Unit:=()
def tw18312338200707166681:Unit:=()
def tw778816001337437792:Unit:=()
def tw9672968943673120405:Unit:=()
def tw7275067617167812692:Unit:=()
def tw15236781814892120229:Unit:=()
end PySem.W.Fast
open PySem PySem.W PyProof.Rows
set_option maxRecDepth 100000 in
set_option maxHeartbeats 0 in
theorem PySem.Challenge.cw_bandwright_k30_whole_put_together_holds : PySem.Challenge.rw_bandwright_k30_whole_put_together.Holds := by
 w_on;o_law;k_head;(case hw=>w_witness2)
 k_fill
 refine My.walk (l:=PySem.Challenge.rw_bandwright_k30_whole_put_together) rfl rfl (fun w h Y=>PySem.W.km_in_of Y) (fun w h Y=>PySem.W.km_tabs_of Y 178 (cB.mpr rfl)) ?F
 case F=>
  intro w mg fa h KX G Az
  have T:∃t,My.Txt (L2.M5 KX) mg t:=by
   dsimp only [L2.M5]
   refine' My.aeV KX G ?Lw ?Lx (cU KX G ?afu) (L2.du (st:=My.Ew) ?afv ?afw ?afx) (cU KX G ?afy) (L2.du (st:=My.Ex) ?afz ?afA ?afB) (cU KX G ?afC) (L2.du (st:=My.Ey) ?afD ?afE ?afF) (cU KX G ?afG) (L2.du (st:=My.Ez) ?afH ?afI ?afJ) (cU KX G ?afK) (L2.du (st:=My.EA) ?afL ?afM ?afN) (cU KX G ?afO) (L2.du (st:=My.EB) ?afP ?afQ ?afR) (cU KX G ?afS) (L2.du (st:=My.EC) ?afT ?afU ?afV) (cU KX G ?afW) (L2.du (st:=My.ED) ?afX ?afY ?afZ) (cU KX G ?af0) (L2.du (st:=My.EE) ?af1 ?af2 ?af3) (cU KX G ?af4) (L2.du (st:=My.EF) ?af5 ?af6 ?af7) (cU KX G ?af8) (L2.du (st:=My.EG) ?af9 ?af_ ?aga) (cU KX G ?agb) (L2.du (st:=My.EH) ?agc ?agd ?age) (cU KX G ?agf) (L2.du (st:=My.EI) ?agg ?agh ?agi) (cU KX G ?agj) (L2.du (st:=My.EJ) ?agk ?agl ?agm) (cU KX G ?agn) (L2.du (st:=My.EK) ?ago ?agp ?agq) (cU KX G ?agr) (L2.du (st:=My.EL) ?ags ?agt ?agu) (cU KX G ?agv) (L2.du (st:=My.EM) ?agw ?agx ?agy) (cU KX G ?agz) (L2.du (st:=My.EN) ?agA ?agB ?agC) (cU KX G ?agD) (L2.du (st:=My.EO) ?agE ?agF ?agG) (cU KX G ?agH) (L2.du (st:=My.ER) ?agI ?agJ ?agK) (cU KX G ?agL) (L2.du (st:=My.ES) ?agM ?agN ?agO) (cU KX G ?agP) (L2.du (st:=My.ET) ?agQ ?agR ?agS) (cU KX G ?agT) (L2.du (st:=My.EU) ?agU ?agV ?agW) (cU KX G ?agX) (L2.du (st:=My.EV) ?agY ?agZ ?ag0) (cU KX G ?ag1) (L2.du (st:=My.EW) ?ag2 ?ag3 ?ag4) (cU KX G ?ag5) (L2.du (st:=My.EX) ?ag6 ?ag7 ?ag8) (cU KX G ?ag9) (L2.du (st:=My.EY) ?ag_ ?aha ?ahb) (cU KX G ?ahc) (L2.du (st:=My.EZ) ?ahe ?ahf ?ahg) (cU KX G ?ahh) (L2.du (st:=My.E1) ?ahi ?ahj ?ahk) (cU KX G ?ahl) (L2.du (st:=My.E2) ?ahm ?ahn ?aho) (cU KX G ?ahp) (L2.du (st:=My.E3) ?ahq ?ahr ?ahs) (cU KX G ?aht) (L2.du (st:=My.E4) ?ahu ?ahv ?ahw) (cU KX G ?ahx) (L2.du (st:=My.E5) ?ahy ?ahz ?ahA) (cU KX G ?ahB) (L2.du (st:=My.E6) ?ahC ?ahD ?ahE) ?Ly ?Lz ?LD ?LF ?LG ?LH ?LI ?LJ ?LK ?LM ?LN ?LO ?LP ?LQ ?LR ?LS ?LU ?LV ?LW ?LY ?LZ ?L0 ?L3
   (case Lw|Lx|afu|afv|afw|afx|afy|afz|afA|afB|afC|afD|afE|afF|afG|afH|afI|afJ|afK|afL|afM|afN|afO|afP|afQ|afR|afS|afT|afU|afV|afW|afX|afY|afZ|af0|af1|af2|af3|af4|af5|af6|af7|af8|af9|af_|aga|agb|agc|agd|age|agf|agg|agh|agi|agj|agk|agl|agm|agn|ago|agp|agq|agr|ags|agt|agu|agv|agw|agx|agy|agz|agA|agB|agC|agD|agE|agF|agG|agH|agI|agJ|agK|agL|agM|agN|agO|agP|agQ|agR|agS|agT|agU|agV|agW|agX|agY|agZ|ag0|ag1|ag2|ag3|ag4|ag5|ag6|ag7|ag8|ag9|ag_|aha|ahb|ahc|ahe|ahf|ahg|ahh|ahi|ahj|ahk|ahl|ahm|ahn|aho|ahp|ahq|ahr|ahs|aht|ahu|ahv|ahw|ahx|ahy|ahz|ahA|ahB|ahC|ahD|ahE|Ly|Lz|LD|LF|LG|LH|LI|LJ|LK|LM|LN|LO|LP|LQ|LR|LS|LU|LV|LW=>k_is)
   (case LY|LZ=>k_exc)
   (case L0|L3=>kernel_rfl)
  obtain ⟨t,T⟩:=T
  have e0:=Az.symm.trans T.QF
  cases e0
  exact My.aeU T
#print axioms PySem.Challenge.cw_bandwright_k30_whole_put_together_holds
