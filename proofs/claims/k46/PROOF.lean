import PyProof.Rows.All
import Wide.All
import OpenK.AllK
import Wide.FinOn
import Lean
import PyProof.EqAt
import PyProof.EqKinds
import PyProof.TupleCall
import PySem.Challenge.RW_bandwright_k46_fewest_of_named_shapes
set_option Elab.async false
set_option linter.all false
set_option maxRecDepth 100000
abbrev bj:=@decide_eq_false
abbrev xx:=@List.getElem?_eq_none_iff
abbrev ae:=@if_pos
abbrev aa:=@if_neg
abbrev aY:=@PySem.Heap.lt_size
abbrev dZ:=@Nat.lt_of_lt_of_le
abbrev eL:=@Nat.lt_irrefl
abbrev bY:=@Nat.ne_of_lt
abbrev ua:=@PySem.W.hideAll_get
abbrev fz:=@List.mem_filter
abbrev cp:=@List.mem_range
abbrev cG:=@Nat.le_trans
abbrev l7:=@Nat.le_of_lt
abbrev ub:=@List.filterMap_cons
abbrev dQ:=@List.mem_cons_self
abbrev cH:=@List.mem_cons_of_mem
abbrev bZ:=@List.mem_cons
abbrev cR:=@List.mem_append
abbrev jV:=@List.mem_append_left
abbrev cy:=@List.getElem?_eq_some_iff
abbrev bR:=@PySem.wpAny_mono
abbrev kO:=@PySem.wpAny_truthy_bool
abbrev gF:=@Array.length_toList
abbrev b9:=@congrArg
abbrev uc:=@PySem.wpAny_execs_nil
abbrev aB:=@PySem.wpAny_bind
abbrev kP:=@PySem.wpAny_holding
abbrev q0:=@PySem.wpAny_standAt
abbrev l8:=@PySem.wpAny_passesOwn
abbrev b_:=@Bool.false_ne_true
abbrev cf:=@PySem.wpAny_pure
abbrev bS:=@PySem.Heap.get?_push_of_some
abbrev dE:=@PySem.Heap.get?_push_size
abbrev aw:=@Nat.le_refl
abbrev ud:=@PySem.wpAny_pyIter_tuple
abbrev q5:=@PyProof.Rows.callWith_type1
abbrev c_:=@List.mem_append_right
abbrev cg:=@Nat.zero_le
abbrev l9:=@Bool.eq_iff_iff
abbrev l_:=@PySem.sizeLine_eq
abbrev gG:=@PySem.W.kia_one
abbrev ma:=@List.append_nil
abbrev q8:=@PySem.codeAny_mono
abbrev ue:=@PySem.wpAny_Call_Name_kw
abbrev jW:=@List.nodup_cons
abbrev ou:=@List.length_take
abbrev jX:=@PySem.mem_of_lookup
abbrev jc:=@List.getElem?_append_right
abbrev jd:=@List.getElem?_append_left
abbrev bU:=@List.getElem?_map
abbrev cY:=@List.length_append
abbrev aJ:=@List.length_map
abbrev cO:=@Int.toNat_natCast
abbrev cP:=@List.map_cons
abbrev q_:=@List.length_drop
abbrev cz:=@List.size_toArray
abbrev xA:=@PySem.Heap.get?_update_self
abbrev xB:=@PySem.Heap.get?_update_other
abbrev iF:=@Bool.and_eq_true
abbrev oz:=@List.any_cons
abbrev oA:=@List.replicate_succ
abbrev ra:=@List.flatten_cons
abbrev fX:=@List.append_assoc
abbrev md:=@PySem.call_meets
abbrev rb:=@List.length_singleton
abbrev uf:=@Array.getElem?_toList
abbrev aK:=@decide_eq_true
abbrev cj:=@PySem.W.mg_of
abbrev iG:=@Nat.lt_of_le_of_lt
abbrev xC:=@PySem.F.typeOf_object_class
abbrev ug:=@PySem.codeAny_call_builtin
abbrev rf:=@PySem.wpAny_loadPart_at
abbrev rg:=@List.all_eq_true
abbrev me:=@Bool.false_or
abbrev xD:=@PySem.wpAny_comprehension_free
abbrev rh:=@PySem.wpAny_newObj_type
abbrev ee:=@List.length_cons
abbrev kS:=@PySem.lookup_relabel_local
abbrev xE:=@PySem.codeAny_compStart_list
abbrev fA:=@List.getD_eq_getElem?_getD
abbrev bV:=@List.mem_singleton
abbrev da:=@List.length_range
abbrev iH:=@List.getElem?_range
abbrev oB:=@Nat.sub_self
abbrev rj:=@List.sum_append
abbrev jY:=@List.take_length
abbrev g8:=@List.not_mem_nil
abbrev g9:=@or_false
abbrev rm:=@Nat.lt_succ_of_lt
abbrev xF:=@List.getElem?_eq_none
abbrev uh:=@PySem.wpAny_pyIter_enum
abbrev oC:=@List.range_succ
abbrev iI:=@List.map_append
abbrev kT:=@List.map_congr_left
abbrev g_:=@List.ext_getElem
abbrev aj:=@PyProof.Rows.wpS_bind
abbrev gH:=@PyProof.Rows.wpS_get
abbrev ai:=@PyProof.Rows.wpS_pure
abbrev eg:=@PyProof.Rows.wpS_forRange
abbrev eM:=@PyProof.Rows.wpS_mono
abbrev rn:=@List.perm_append_comm
abbrev mf:=@List.take_append_drop
abbrev xG:=@List.Perm.append_left
abbrev rp:=@List.take_of_length_le
abbrev oD:=@List.getElem_of_mem
abbrev uj:=@List.getElem_drop
abbrev jZ:=@Int.le_refl
abbrev um:=@List.pairwise_iff_getElem
abbrev iJ:=@PyProof.Rows.wpS_modify
abbrev dc:=@of_decide_eq_true
abbrev cS:=@Int.le_trans
abbrev kU:=@Array.toList_push
abbrev je:=@Array.toList_append
abbrev j4:=@PySem.wpAny_rule
abbrev cI:=@Int.le_of_lt
abbrev uo:=@Array.toList_reverse
abbrev kW:=@List.mem_reverse
abbrev kX:=@List.reverse_perm
abbrev dF:=@Nat.zero_add
abbrev oE:=@Nat.not_lt_zero
abbrev rq:=@Nat.add_zero
abbrev rA:=@Array.perm_iff_toList_perm
abbrev dR:=@List.getElem?_eq_getElem
abbrev dv:=@List.getElem_mem
abbrev mh:=@decide_eq_decide
abbrev dG:=@List.map_map
abbrev oF:=@PySem.Heap.get?_push_ne
abbrev ur:=@PySem.Heap.get?_update_ne
abbrev rB:=@PySem.wpAny_call_entry
abbrev j6:=@List.nodup_range
abbrev fY:=@List.getElem_map
abbrev jf:=@List.getElem_range
abbrev rC:=@List.length_filter_le
abbrev d5:=@List.mem_map
abbrev kY:=@List.pairwise_map
abbrev uu:=@List.pairwise_lt_range
abbrev uv:=@List.filter_sublist
abbrev jg:=@List.pairwise_cons
abbrev oG:=@List.find?_cons
abbrev dm:=@decide_eq_true_iff
abbrev j7:=@List.nodup_append
abbrev rD:=@List.nodup_nil
abbrev hG:=@Prod.mk.injEq
abbrev uw:=@List.idxOf_lt_length_of_mem
abbrev rE:=@List.take_succ
abbrev oH:=@List.map_id
abbrev ux:=@List.nodup_iff_pairwise_ne
abbrev d6:=@List.sum_cons
abbrev uy:=@Bool.or_eq_true
abbrev uz:=@List.filter_cons
abbrev oI:=@List.perm_ext_iff_of_nodup
abbrev uA:=@Classical.byContradiction
abbrev iK:=@Int.eq_ofNat_of_zero_le
abbrev uB:=@PySem.wpAny_callSpecial?_slot
abbrev uC:=@PySem.F.slot_tuple_iterator_next
abbrev jh:=@PySem.wpAny_field
abbrev rF:=@PySem.wpAny_setField_rec
abbrev uD:=@PySem.F.slot_enumerate_next
abbrev uE:=@PySem.wpAny_loadPart'
abbrev oJ:=@PySem.wpAny_ite_split
abbrev e8:=@PySem.boot_len
abbrev ji:=@PySem.F.plainAttrs_list
abbrev e9:=@Int.zero_add
abbrev uG:=@Nat.add_le_add_left
abbrev eh:=@PySem.PassesOwn.never
abbrev rG:=@PyProof.Rows.boot_sorted
abbrev oK:=@PySem.F.slot_list_append
abbrev oM:=@PySem.F.type_list_append
abbrev eO:=@PySem.W.mg_none_of
abbrev Pl:=List (List (Int×Int))
abbrev aZ:=List (Int×Int)
abbrev Pm:=Nat→Nat→Int
abbrev cJ:=PySem.Str→Option PySem.Value
abbrev aE:=PySem.Value→PySem.Shared→Prop
abbrev aH:=PySem.W.Frag
abbrev aN:=List (PySem.Addr×PySem.Obj)
namespace L2
open PySem PySem.Spec PyProof.Rows
abbrev Key:=Sum Int Str
def mj:Key→Value→Bool
 | .inl k,v=>Value.isInt k v
 | .inr x,v=>Value.isStrOf x v
def FL(w:World):Key→Int
 | .inl k=>hashInt k
 | .inr x=>hashStr w x
theorem jj:∀{k:Key} {v:Value},mj k v=true→(∃i t,k=Sum.inl i∧v=Value.int i t)∨(∃x t,k=Sum.inr x∧v=Value.str x t)
 | .inl i,v,h=>by obtain ⟨t,e⟩:=Value.isInt_shape (k:=i) (v:=v) h;exact .inl ⟨i,t,rfl,e⟩
 | .inr x,v,h=>by obtain ⟨t,e⟩:=Value.isStrOf_shape (x:=x) (v:=v) h;exact .inr ⟨x,t,rfl,e⟩
theorem FN(i:Int)(t:Tok):mj (.inl i) (.int i t)=true:=by simp [mj,Value.isInt]
theorem FO(x:Str)(t:Tok):mj (.inr x) (.str x t)=true:=by simp [mj,Value.isStrOf]
theorem FP(a b:Int):decide ((Sum.inl a:Key)=Sum.inl b)=(a == b):=by
 by_cases e:a=b;·subst e;simp
 ·have h:¬(Sum.inl a:Key)=Sum.inl b:=fun q=>e (Sum.inl.inj q)
  rw [bj h];exact (beq_eq_false_iff_ne.mpr e).symm
theorem FQ(a b:Str):decide ((Sum.inr a:Key)=Sum.inr b)=decide (a=b):=by
 by_cases e:a=b;·subst e;simp
 ·have h:¬(Sum.inr a:Key)=Sum.inr b:=fun q=>e (Sum.inr.inj q)
  rw [bj h,bj e]
theorem FR(a:Int)(b:Str):decide ((Sum.inl a:Key)=Sum.inr b)=false:=bj (fun q=>nomatch q)
theorem FT(a:Str)(b:Int):decide ((Sum.inr a:Key)=Sum.inl b)=false:=bj (fun q=>nomatch q)
def fZ(prog:Program)(w:World):PySem.KeyKind prog w Key where
 is:=mj
 hash:=FL w
 inj:=fun v a b ha hb=>by
  rcases jj ha with ⟨i,t,rfl,rfl⟩ | ⟨x,t,rfl,rfl⟩
  ·rcases jj hb with ⟨j,u,rfl,e⟩ | ⟨y,u,rfl,e⟩
   ·injection e with e1 _;rw [e1]
   ·exact nomatch e
  ·rcases jj hb with ⟨j,u,rfl,e⟩ | ⟨y,u,rfl,e⟩
   ·exact nomatch e
   ·injection e with e1 _;rw [e1]
 byValue:=fun k v h=>by
  rcases jj h with ⟨i,t,rfl,rfl⟩ | ⟨x,t,rfl,rfl⟩ <;> rfl
 pyHash:=fun hv h=>by
  rcases jj hv with ⟨i,t,rfl,rfl⟩ | ⟨x,t,rfl,rfl⟩
  ·exact wpAny_pyHash_int h
  ·exact wpAny_pyHash_str h
 eqBool:=fun hu hv h=>by
  rcases jj hu with ⟨i,t,rfl,rfl⟩ | ⟨x,t,rfl,rfl⟩
  ·rcases jj hv with ⟨j,u,rfl,rfl⟩ | ⟨y,u,rfl,rfl⟩
   ·rw [FP] at h;exact wpAny_eqBool_int h
   ·rw [FR] at h;exact SeqAt.EqAt.int_str i t y u _ _ _ _ h
  ·rcases jj hv with ⟨j,u,rfl,rfl⟩ | ⟨y,u,rfl,rfl⟩
   ·rw [FT] at h;exact SeqAt.EqAt.str_int x t j u _ _ _ _ h
   ·rw [FQ] at h;exact wpAny_eqBool_str h
 «strs»:=fun k x t v h=>by
  rcases jj h with ⟨i,u,rfl,e⟩ | ⟨y,u,rfl,e⟩
  ·exact nomatch e
  ·injection e with e1 _
   subst e1
   cases v <;> rfl
theorem FU(prog:Program)(w:World)(i:Int)(t:Tok):(fZ prog w).is (.inl i) (.int i t)=true:=FN i t
theorem FV(prog:Program)(w:World)(x:Str)(t:Tok):(fZ prog w).is (.inr x) (.str x t)=true:=FO x t
inductive V where
 | aQ | bl (b:Bool) | int (i:Int) | str (x:Str) | iL (b:Array UInt8) | oN (b:UInt64) | ref (a:Addr) | ty (n:String)
 deriving DecidableEq
def RelV:V→Value→Prop
 | .aQ,u=>u=Value.none
 | .bl b,u=>u=Value.bool b
 | .int i,u=>∃t,u=Value.int i t
 | .str x,u=>∃t,u=Value.str x t
 | .iL b,u=>∃t,u=Value.bytes b t
 | .oN b,u=>∃t,u=Value.float b t
 | .ref a,u=>u=Value.ref a
 | .ty n,u=>u=Value.type n
abbrev Vals:List V→List Value→Prop:=Paired RelV
variable {xs:List V} {us:List Value}
theorem Vals.length(r:Vals xs us):xs.length=us.length:=Paired.length r
theorem Vals.get:∀{xs:List V} {us:List Value} {i:Nat} {x:V},Vals xs us→xs[i]?=some x→∃u,us[i]?=some u∧RelV x u
 | _,_,_,_,.nil,e=>by simp at e
 | _,_,0,_,.cons r _,e=>by simp at e;subst e;exact ⟨_,rfl,r⟩
 | _,_,i+1,x,.cons _ t,e=>by
  obtain ⟨u,h1,h2⟩:=Vals.get (i:=i) (x:=x) t (by simpa using e)
  exact ⟨u,by simpa using h1,h2⟩
theorem Vals.set{x:V}{u:Value}(r:RelV x u):∀{xs:List V} {us:List Value} (i:Nat),Vals xs us→Vals (xs.set i x) (us.set i u)
 | _,_,_,.nil=>.nil
 | _,_,0,.cons _ t=>.cons r t
 | _,_,i+1,.cons q t=>.cons q (Vals.set r i t)
theorem Vals.append:∀{xs ys:List V} {us ws:List Value},Vals xs us→Vals ys ws→Vals (xs++ys) (us++ws)
 | _,_,_,_,.nil,s=>s
 | _,_,_,_,.cons r t,s=>.cons r (Vals.append t s)
theorem Vals.take:∀{xs:List V} {us:List Value} (n:Nat),Vals xs us→Vals (xs.take n) (us.take n)
 | _,_,0,_=>.nil
 | _,_,_+1,.nil=>.nil
 | _,_,n+1,.cons r t=>.cons r (Vals.take n t)
theorem Vals.drop:∀{xs:List V} {us:List Value} (n:Nat),Vals xs us→Vals (xs.drop n) (us.drop n)
 | _,_,0,r=>r
 | _,_,_+1,.nil=>.nil
 | _,_,n+1,.cons _ t=>Vals.drop n t
theorem Vals.none_of:∀{xs:List V} {us:List Value} {i:Nat},Vals xs us→xs[i]?=none→us[i]?=none:=fun{xs us i} r e=>by have h1:=r.length;have h2:xs.length≤i:=xx.mp e;exact xx.mpr (by lia)
def mq:Option V→Option Value→Prop
 | some v,some u=>RelV v u
 | none,none=>True
 | _,_=>False
def KV{κ:Type}:List (κ×V)→List (κ×Value)→Prop:=Paired fun(p:κ×V) (q:κ×Value)=>p.1=q.1∧RelV p.2 q.2
def kV:Key→V
 | .inl i=>.int i
 | .inr x=>.str x
inductive HO where
 | lst (xs:List V)
 | tup (xs:List V)
 | dK (kvs:List (Key×V)) | dT (kvs:List (List Key×V))
 | set (S:Int→Bool) (n:Nat)
 | ins (C dx:Addr) (fs:List (Str×V))
 | own (x:Addr)
 | xd (fs:List (Str×V))
 | met (f x:Addr)
 | hJ (lo hi:Int)
 | bC (o:Obj) (u:HO)
 | j8 (ps:Array Value)
 | ext (φ:Heap→Prop)
abbrev Hp:=Addr→Option HO
def upd(H:Hp)(a:Addr)(o:HO):Hp:=fun b=>if b=a then some o else H b
variable {H:Hp} {a:Addr} {o:HO}
theorem av:upd H a o a=some o:=by unfold upd;rw [ae rfl]
variable {b:Addr}
theorem aM(h:b≠a):upd H a o b=H b:=by unfold upd;rw [aa h]
variable {u:HO}
theorem FW(h:H a=some o)(h':H b=some u)(d:o≠u):a≠b:=by intro e;subst e;rw [h] at h';exact d (Option.some.inj h')
theorem jl(h:H a=some o)(h':H b=none):a≠b:=by intro e;subst e;rw [h] at h';cases h'
section
variable (P:Program) (w:World)
def ck(H:Hp)(h:Heap)(a:Addr):HO→Prop
 | .lst xs=>xs.length≤sizeLine∧∃(its:List Value) (n:Nat),Vals xs its∧h.get? a=some {cls:=.type "list",data:=.seq its.toArray n}
 | .tup xs=>xs.length≤sizeLine∧∃its:List Value,Vals xs its∧IsTup h a its.toArray
 | .dK kvs=>kvs.length≤sizeLine∧(a == sysModules)=false∧∃vs,KV kvs vs∧h.DictOf (fZ P w) a vs
 | .dT kvs=>kvs.length≤sizeLine∧(a == sysModules)=false∧∃xs:List (List Key×Addr×Value),
   Paired (fun(p:List Key×V) (q:List Key×Addr×Value)=>p.1=q.1∧H q.2.1=some (.tup (p.1.map kV))∧RelV p.2 q.2.2) kvs xs ∧
   ∃o es ep,h.get? a=some o∧o.ExactDict∧o.data=.dict es ep∧es.toList=xs.map (entryOfKey (tupleKind (fZ P w)))∧(xs.map (·.1)).Nodup
 | .set S n=>h.SetOf (intKind P w) a S n
 | .ins C dx fs=>H dx=some (.own a)∧fs.length≤1000∧dx≠a∧h.get? a=some (PySem.W.instObj C dx) ∧
   ∃mA,h.Ns1 dx mA∧(∀f,mq (fs.lookup f) (mA f))∧PySem.Within mA (fs.map (·.1))
 | .own _=>∃o,h.get? a=some o
 | .xd fs=>∃mA,h.Ns1 a mA∧∀f,mq (fs.lookup f) (mA f)
 | .hJ lo hi=>∃t u v,h.get? a=some {cls:=.type "range",data:=.fields #[.int lo t,.int hi u,.int 1 v]}
 | .bC o u=>h.get? a=some o∧ck H h a u
 | .j8 ps=>h.get? a=some {cls:=.none,data:=.fields ps}
 | .met f x=>h.get? a=some (PySem.W.methodObj (.ref f) (.ref x))
 | .ext φ=>φ h∧(∃o,h.get? a=some o)∧∀h1 h2:Heap,φ h1→(∀o,h1.get? a=some o→h2.get? a=some o)→φ h2
def bK(H:Hp)(h:Heap):Prop:=∀a o,H a=some o→ck P w H h a o
end
section
variable {P:Program} {w:World} {H H':Hp} {h h':Heap} {a:Addr} {o:HO}
theorem ck.lt(x:ck P w H h a o):a<h.objs.size:=by
 cases o with
 | lst xs=>obtain ⟨_,_,_,_,e⟩:=x;exact aY e
 | tup xs=>obtain ⟨_,_,_,p⟩:=x;exact p.lt
 | dK kvs=>obtain ⟨_,_,_,_,o,_,_,e,_⟩:=x;exact aY e
 | dT kvs=>obtain ⟨_,_,_,_,o,_,_,e,_⟩:=x;exact aY e
 | set S n=>obtain ⟨o,_,_,_,e,_⟩:=x;exact aY e
 | ins C dx fs=>obtain ⟨_,_,_,e,_⟩:=x;exact aY e
 | own y=>obtain ⟨_,e⟩:=x;exact aY e
 | xd fs=>obtain ⟨_,⟨_,_,_,e,_⟩,_⟩:=x;exact aY e
 | hJ lo hi=>obtain ⟨_,_,_,e⟩:=x;exact aY e
 | bC ob u=>obtain ⟨e,_⟩:=x;exact aY e
 | j8 ps=>exact aY (show h.get? a=some _ from x)
 | met f y=>exact aY (show h.get? a=some _ from x)
 | ext φ=>obtain ⟨_,⟨_,e⟩,_⟩:=x;exact aY e
theorem Paired.xH{α β:Type}{F G:α→β→Prop}:∀{l₁:List α} {l₂:List β},Paired F l₁ l₂→(∀a b,F a b→G a b)→Paired G l₁ l₂
 | _,_,.nil,_=>.nil
 | _,_,.cons r t,f=>.cons (f _ _ r) (Paired.xH t f)
theorem ck.gI(x:ck P w H h a o)(k:∀b u,(b=a∨H b=some (.own a))→h.get? b=some u→h'.get? b=some u)
  (ho:∀b,H b=some (.own a)→H' b=some (.own a)) (ht:∀b xs,H b=some (.tup xs)→H' b=some (.tup xs)):ck P w H' h' a o:=by
 induction o with
 | lst xs=>obtain ⟨z,its,n,r,e⟩:=x;exact ⟨z,its,n,r,k _ _ (.inl rfl) e⟩
 | tup xs=>obtain ⟨z,its,r,ob,e,c⟩:=x;exact ⟨z,its,r,ob,k _ _ (.inl rfl) e,c⟩
 | dK kvs=>obtain ⟨z,y,vs,r,ob,es,ep,e,c⟩:=x;exact ⟨z,y,vs,r,ob,es,ep,k _ _ (.inl rfl) e,c⟩
 | dT kvs=>obtain ⟨z,y,xs,r,ob,es,ep,e,c⟩:=x;exact ⟨z,y,xs,Paired.xH r fun p q z=>⟨z.1,ht _ _ z.2.1,z.2.2⟩,ob,es,ep,k _ _ (.inl rfl) e,c⟩
 | set S n=>obtain ⟨ob,es,ep,t,e,c⟩:=x;exact ⟨ob,es,ep,t,k _ _ (.inl rfl) e,c⟩
 | ins C dx fs=>obtain ⟨d,z,ne,e,mA,⟨od,es,ep,e2,c⟩,r⟩:=x;exact ⟨ho _ d,z,ne,k _ _ (.inl rfl) e,mA,⟨od,es,ep,k _ _ (.inr d) e2,c⟩,r⟩
 | own y=>obtain ⟨ob,e⟩:=x;exact ⟨ob,k _ _ (.inl rfl) e⟩
 | xd fs=>obtain ⟨mA,⟨od,es,ep,e,c⟩,r⟩:=x;exact ⟨mA,⟨od,es,ep,k _ _ (.inl rfl) e,c⟩,r⟩
 | hJ lo hi=>obtain ⟨t,u,v,e⟩:=x;exact ⟨t,u,v,k _ _ (.inl rfl) e⟩
 | bC ob u ih=>obtain ⟨e,q⟩:=x;exact ⟨k _ _ (.inl rfl) e,ih q⟩
 | j8 ps=>have e:h.get? a=some {cls:=.none,data:=.fields ps}:=x;show h'.get? a=some {cls:=.none,data:=.fields ps};exact k a _ (.inl rfl) e
 | met f y=>have e:h.get? a=some (PySem.W.methodObj (.ref f) (.ref y)):=x;show h'.get? a=some (PySem.W.methodObj (.ref f) (.ref y));exact k a _ (.inl rfl) e
 | ext φ=>obtain ⟨p,⟨o,e⟩,st⟩:=x;exact ⟨st _ _ p fun o q=>k _ _ (.inl rfl) q,⟨o,k _ _ (.inl rfl) e⟩,st⟩
theorem bK.lt(x:bK P w H h)(e:H a=some o):a<h.objs.size:=(x a o e).lt
theorem bK.fresh(x:bK P w H h)(e:h.objs.size≤a):H a=none:=by
 cases q:H a with
 | none=>rfl
 | some u=>exact absurd (dZ (x.lt q) e) (eL _)
theorem bK.kept(x:bK P w H h)(k:∀b u,h.get? b=some u→h'.get? b=some u):bK P w H h':=fun a o e=>(x a o e).gI (fun b u _ q=>k b u q) (fun _ q=>q) fun _ _ q=>q
theorem bK.laid(x:bK P w H h)(k:∀b u,h.get? b=some u→h'.get? b=some u)(hp:h.objs.size≤a)(new:ck P w (upd H a o) h' a o):bK P w (upd H a o) h':=fun b u e=>by
 have hn:=x.fresh hp;by_cases hb:b=a;·subst hb;rw [av] at e;cases e;exact new
 ·rw [aM hb] at e
  exact (x b u e).gI (fun c v _ q=>k c v q) (fun c q=>by rw [aM (jl q hn)];exact q) fun c xs q=>by rw [aM (jl q hn)];exact q
end
def Rd(H:Hp)(a:Addr)(u:HO):Prop:=H a=some u∨∃o,H a=some (.bC o u)
theorem Rd.of(h:H a=some u):Rd H a u:=.inl h
variable {P:Program} {w:World} {h:Heap}
theorem Rd.ok(r:Rd H a u)(x:bK P w H h):ck P w H h a u:=by
 rcases r with r | ⟨o,r⟩;·exact x a u r
 ·obtain ⟨_,q⟩:=x a _ r
  exact q
def rH:Option HO→Prop
 | some (.lst _)=>True
 | some (.dK _)=>True
 | some (.dT _)=>True
 | some (.set _ _)=>True
 | some (.ins _ _ _)=>True
 | some (.ext _)=>True
 | _=>False
section
variable {P:Program} {w:World} {H:Hp} {h h':Heap} {x e:Addr} {o':HO}
theorem bK.write(ok:bK P w H h)(mu:rH (H x))(he:e=x∨H e=some (.own x))(k:∀b u,b≠e→h.get? b=some u→h'.get? b=some u)(oO:∃u,h'.get? e=some u)
  (new:ck P w (upd H x o') h' x o'):bK P w (upd H x o') h':=fun b u q=>by
 have A4:∀c y,H c=some (.own y)→c≠x:=fun c y r z=>by subst z;rw [r] at mu;exact mu
 have FX:∀c xs,H c=some (.tup xs)→c≠x:=fun c xs r z=>by subst z;rw [r] at mu;exact mu
 by_cases hb:b=x;·subst hb;rw [av] at q;cases q;exact new
 ·rw [aM hb] at q
  by_cases fB:b=e
  ·have q':H b=some (.own x):=by
    rcases he with z | z;·exact absurd (fB.trans z) hb
    ·rw [fB];exact z
   rw [q] at q';cases q';obtain ⟨v,hv⟩:=oO;exact ⟨v,by rw [fB];exact hv⟩
  ·refine (ok b u q).gI (fun c v hc r=>k c v ?_ r) (fun c r=>by rw [aM (A4 c b r)];exact r) fun c xs r=>by rw [aM (FX c xs r)];exact r
   rcases hc with rfl | hc;·exact fB
   ·rintro rfl
    rcases he with z | z;·exact A4 c b hc z
    ·rw [hc] at z;cases z;exact hb rfl
end
structure Un (fs ex:List Addr) (H H':Hp) (h h':Heap):Prop where
 keep:∀b o,h.get? b=some o→H b=none→b∉fs→b∉ex→h'.get? b=some o
 slot:∀b o,h.get? b=some o→H b=none→b∈fs→b∉ex→∃sl,h'.get? b=some {o with slots:=sl}
 free:∀b o,h.get? b=some o→H b=none→b∉ex→H' b=none
 there:∀b o,h.get? b=some o→b∉ex→∃o',h'.get? b=some o'
 dq:∀b xs,H b=some (.tup xs)→H' b=some (.tup xs)
 e_:∀b o u,H b=some (.bC o u)→H' b=some (.bC o u)
 fC:∀b ps,H b=some (.j8 ps)→∃more,H' b=some (.j8 (ps++more))
section
variable {fs xI ex rJ:List Addr} {H H1 H2:Hp} {h h1 h2 h':Heap} {a x e:Addr} {o:HO}
theorem Un.any(u:Un fs ex H H1 h h1){ob:Obj}(q:h.get? b=some ob)(n:H b=none)(hx:b∉ex):∃sl,h1.get? b=some {ob with slots:=sl}:=by
 by_cases hb:b∈fs;·exact u.slot b ob q n hb hx
 ·exact ⟨ob.slots,u.keep b ob q n hb hx⟩
theorem Un.kept(k:∀b u,h.get? b=some u→h'.get? b=some u):Un fs ex H H h h':=
 ⟨fun b ob q _ _ _=>k b ob q,fun b ob q _ _ _=>⟨ob.slots,k b ob q⟩,fun _ _ _ n _=>n,fun b ob q _=>⟨ob,k b ob q⟩,fun _ _ q=>q,fun _ _ _ q=>q,fun _ ps q=>⟨#[],by rw [q];simp⟩⟩
theorem Un.refl:Un fs ex H H h h:=Un.kept fun _ _ q=>q
theorem Un.laid(k:∀b u,h.get? b=some u→h'.get? b=some u)(hp:h.objs.size≤a)(hn:H a=none):Un fs ex H (upd H a o) h h' where
 keep:=fun b u q _ _ _=>k b u q
 slot:=fun b u q _ _ _=>⟨u.slots,k b u q⟩
 free:=fun b u q n _=>by rw [aM (bY (dZ (aY q) hp))];exact n
 there:=fun b u q _=>⟨u,k b u q⟩
 dq:=fun b xs q=>by rw [aM (jl q hn)];exact q
 e_:=fun b u xs q=>by rw [aM (jl q hn)];exact q
 fC:=fun b ps q=>⟨#[],by rw [aM (jl q hn),q];simp⟩
theorem Un.write(mu:rH (H x))(he:e=x∨H e=some (.own x))(k:∀b u,b≠e→h.get? b=some u→h'.get? b=some u)(oO:∃u,h'.get? e=some u):Un fs ex H (upd H x o) h h':=by
 have hx:∀b,H b=none→b≠x:=fun b n z=>by subst z;rw [n] at mu;exact mu
 have hb:∀b,H b=none→b≠e:=fun b n z=>by
  subst z;rcases he with r | r;·exact hx b n r
  ·rw [n] at r;cases r
 have hm:∀b u,H b=some u→¬rH (some u)→b≠x:=fun b u q nm z=>by subst z;rw [q] at mu;exact nm mu
 refine ⟨fun b u q n _ _=>k b u (hb b n) q,fun b u q n _ _=>⟨u.slots,k b u (hb b n) q⟩,fun b u q n _=>by rw [aM (hx b n)];exact n,fun b u q _=>?_,
  fun b xs q=>by rw [aM (hm b _ q fun z=>z)];exact q,fun b u xs q=>by rw [aM (hm b _ q fun z=>z)];exact q,fun b ps q=>⟨#[],by rw [aM (hm b _ q fun z=>z),q];simp⟩⟩
 by_cases fB:b=e;·subst fB;exact oO
 ·exact ⟨u,k b u fB q⟩
end
def uH(h:Heap)(H:Hp):List Addr:=(List.range h.objs.size).filter fun a=>(H a).isSome
def j9(h:Heap)(H:Hp):Heap:=PySem.W.hideAll h (uH h H)
theorem FY(h:Heap)(H:Hp):(j9 h H).objs.size=h.objs.size:=PySem.W.hideAll_size _ _
theorem FZ{o:Obj}(e:h.get? b=some o)(n:H b=none):(j9 h H).get? b=some o:=
 ua _ e fun hm=>by have q:(H b).isSome=true:=(fz.mp hm).2;rw [n] at q;simp at q
theorem F0{o:Obj}(e:(j9 h H).get? b=some o):h.get? b=some o∧H b=none:=by
 have e':h.get? b=some o:=PySem.W.of_hideAll (uH h H) e;refine ⟨e',?_⟩;cases q:H b with
 | none=>rfl
 | some x=>
  have hm:b∈uH h H:=fz.mpr ⟨cp.mpr (aY e'),by simp [q]⟩
  have z:(j9 h H).get? b=none:=PySem.W.hideAll_none (uH h H) hm;rw [z] at e;cases e
structure Mod (K:aH) (mg:cJ) (base:Heap):Prop where
 cK:K.In base
 glob:base.Ns mainGlobals mg
 blt:∃mb,base.Ns builtinsNs mb∧∀x:Str,x ≠ "__name__"→mb x=bootBuiltins x
 nolimit:base.NoLimit
structure Cx where
 prog:Program
 w:World
 K:PySem.W.Frag
 mg:Str→Option Value
 base:Heap
 A:Around
 N:List Str
 s₀:Shared
 H₀:Hp
 env:Env
 outer:List Env
 stack:List Env
 ex:List Addr
 fn:Str→Bool
 calm:Bool
 pn:List (Addr×Obj)
 xe:Value→Shared→Prop
def b3(l:List Env):List Addr:=l.filterMap (·.frame)
abbrev Cx.fs (X:Cx):List Addr:=b3 X.outer
def mr(sc:Scope)(x:Str):Prop:=sc.names.lookup x=some .local∨sc.names.lookup x=some .cell∨sc.names.lookup x=some .free
def Loc(sc:Scope)(x:Str):Prop:=sc.names.lookup x=some .local∨sc.names.lookup x=some .cell
def Look(env:Env)(h:Heap)(m:cJ)(x:Str)(u:Value):Prop:=
 (env.kindOf x=some .local∧m x=some u)∨((env.kindOf x=some .cell∨env.kindOf x=some .free)∧∃c,env.cells.lookup x=some c∧h.IsCell c (some u))
structure Cx.Ok (X:Cx):Prop where
 mod:Mod X.K X.mg X.base
 kind:X.env.scope.kind=.function
 glob:X.env.globals=mainGlobals
 blt:X.env.builtins=builtinsNs
 above:X.s₀.heap.objs.size≤X.env.locals
 inj:∀x y c,X.env.cells.lookup x=some c→X.env.cells.lookup y=some c→x=y
 has:∀x,(X.env.kindOf x=some .cell∨X.env.kindOf x=some .free)→∃c,X.env.cells.lookup x=some c
 rK:∀x c,X.fn x=true→X.env.cells.lookup x=some c→X.s₀.heap.objs.size≤c
 hd:X.calm=true→X.A.handled=none
 frames:X.A.frames=some X.stack
 gJ:X.stack=X.outer∨(X.stack=X.env::X.outer∧X.env.frame=some X.env.locals)
 A5:∀b∈X.ex,b≠X.env.locals∧∀x c,X.env.cells.lookup x=some c→c≠b
 bs:∀b o,X.base.get? b=some o→X.s₀.heap.get? b=some o∧X.H₀ b=none
 hU:X.base.objs.size≤X.s₀.heap.objs.size
 mv:∀b o,X.base.get? b=some o→b∉X.ex
 mw:∀b∈X.ex,b∉X.fs
 iM:X.s₀.heap.FunFrames X.base X.outer
 kZ:∀b∈X.fs,X.H₀ b=none
structure Inv (X:Cx) (pins:aN) (σ:List (Option V)) (H:Hp) (s:Shared):Prop where
 ok:X.Ok
 os:s.os=X.s₀.os
 bare:AllBare s.gens
 base:Un X.fs X.ex X.H₀ H X.s₀.heap s.heap
 loc:∃m,s.heap.Ns X.env.locals m∧∀(i:Nat) (x:Str) (v:V),X.N[i]?=some x→σ[i]?=some (some v)→mr X.env.scope x→∃u,RelV v u∧Look X.env s.heap m x u
 cell:∀x c,X.env.cells.lookup x=some c→∃v,s.heap.IsCell c v
 free:H X.env.locals=none
 hV:∀x c,X.env.cells.lookup x=some c→H c=none
 pin:∀p∈X.pn++pins,s.heap.get? p.1=some p.2∧H p.1=none∧p.1≠X.env.locals∧p.1∉X.fs∧∀v,p.2.data≠.cell v
 au:bK X.prog X.w H s.heap
 len:σ.length=X.N.length
section
variable {X:Cx} {pins:aN} {σ:List (Option V)} {H H':Hp} {s:Shared} {h':Heap}
theorem Cx.Ok.F1(ok:X.Ok){o:Obj}(e:X.base.get? b=some o):b∉X.fs:=fun hb=>by have:=(ok.iM.mem hb).1;rw [e] at this;cases this
theorem Inv.bs(I:Inv X pins σ H s):∀b o,X.base.get? b=some o→s.heap.get? b=some o∧H b=none:=fun b o e=>⟨I.base.keep b o (I.ok.bs b o e).1 (I.ok.bs b o e).2 (I.ok.F1 e) (I.ok.mv b o e),I.base.free b o (I.ok.bs b o e).1 (I.ok.bs b o e).2 (I.ok.mv b o e)⟩
theorem Inv.bk(I:Inv X pins σ H s):∀b o,X.base.get? b=some o→s.heap.get? b=some o:=fun b o e=>(I.bs b o e).1
theorem Inv.mod(I:Inv X pins σ H s):Mod X.K X.mg X.base:=I.ok.mod
theorem Inv.d7(I:Inv X pins σ H s):X.K.In s.heap:=I.ok.mod.cK.keeps I.bk
theorem Inv.lt(I:Inv X pins σ H s):X.env.locals<s.heap.objs.size:=let ⟨_,hn,_⟩:=I.loc;hn.lt
theorem Inv.sz(I:Inv X pins σ H s):X.s₀.heap.objs.size≤s.heap.objs.size:=cG I.ok.above (l7 I.lt)
theorem Inv.F2(I:Inv X pins σ H s)(h:s.heap.objs.size≤a):a∉X.fs:=fun hb=>by obtain ⟨_,o,ho,_⟩:=I.ok.iM.mem hb;exact absurd (dZ (aY ho) (cG I.sz h)) (eL _)
theorem Inv.mx(I:Inv X pins σ H s):∀x c,X.env.cells.lookup x=some c→c≠X.env.locals:=fun x c e z=>by obtain ⟨v,o,ho,hd⟩:=I.cell x c e;obtain ⟨m,⟨o',es,ep,jm,F3,_⟩,_⟩:=I.loc;rw [z,jm] at ho;cases ho;rw [F3] at hd;cases hd
theorem Inv.iM(I:Inv X pins σ H s):s.heap.FunFrames X.base X.outer:=by
 have all:∀(l:List Env),(∀b∈b3 l,b∈X.fs)→X.s₀.heap.FunFrames X.base l→s.heap.FunFrames X.base l:=by
  intro l
  induction l with
  | nil=>intro _ _;trivial
  | cons env r ih=>
   intro hs hl;obtain ⟨hk,⟨L,o,hf,hn,ho,hd⟩,hr⟩:=hl;have hL:L∈X.fs:=hs L (by unfold b3;rw [ub,hf];exact dQ)
   obtain ⟨sl,e⟩:=I.base.slot L o ho (I.ok.kZ L hL) hL fun z=>I.ok.mw L z hL;exact ⟨hk,⟨L,_,hf,hn,e,hd⟩,ih (fun b hb=>hs b (by unfold b3;rw [ub,hf];exact cH _ hb)) hr⟩
 exact all X.outer (fun _ hb=>hb) I.ok.iM
theorem Inv.stack(I:Inv X pins σ H s):s.heap.FunFrames X.base X.stack:=by
 rcases I.ok.gJ with e | ⟨e,hf⟩;·rw [e];exact I.iM
 ·rw [e]
  obtain ⟨m,hn,_⟩:=I.loc;refine .cons (by rw [I.ok.kind];decide) hf hn ?_ I.iM
  exact Heap.get?_none_of_le (cG I.ok.hU I.ok.above)
theorem Inv.rN(I:Inv X pins σ H s):∀b∈b3 X.stack,b∈X.env.locals::X.fs:=fun b hb=>by
 rcases I.ok.gJ with e | ⟨e,hf⟩;·rw [e] at hb;exact cH _ hb
 ·rw [e] at hb
  unfold b3 at hb;rw [ub,hf] at hb;exact hb
theorem Inv.rO(I:Inv X pins σ H s):∀b∈b3 X.stack,H b=none:=fun b hb=>by
 rcases bZ.mp (I.rN b hb) with e | hb;·rw [e];exact I.free
 ·obtain ⟨_,o,ho,_⟩:=I.ok.iM.mem hb
  exact I.base.free b o ho (I.ok.kZ b hb) fun z=>I.ok.mw b z hb
variable {g':Array GenState} {t':Nat} {d':Drawn} {ch:List Addr}
theorem Inv.step(I:Inv X pins σ H s)
  (jo:∀b∈ch,(b∈X.ex∨X.s₀.heap.objs.size≤b)∧b≠X.env.locals∧(∀x c,X.env.cells.lookup x=some c→c≠b)∧∀p∈X.pn++pins,p.1≠b)
  (keep:∀b o,b≠X.env.locals→b∉X.fs→b∉ch→s.heap.get? b=some o→H b=none→h'.get? b=some o)
  (slot:∀b o,b≠X.env.locals→b∈X.fs→b∉ch→s.heap.get? b=some o→H b=none→∃sl,h'.get? b=some {o with slots:=sl}) (free:∀b o,b∉ch→s.heap.get? b=some o→H b=none→H' b=none)
  (there:∀b o,b∉ch→s.heap.get? b=some o→∃o',h'.get? b=some o')
  (dq:∀b xs,H b=some (.tup xs)→H' b=some (.tup xs)) (e_:∀b o u,H b=some (.bC o u)→H' b=some (.bC o u)) (fC:∀b ps,H b=some (.j8 ps)→∃more,H' b=some (.j8 (ps++more)))
  (ns:∀m,s.heap.Ns X.env.locals m→h'.Ns X.env.locals m) (au:bK X.prog X.w H' h') (hg:AllBare g') :
  Inv X pins σ H' {s with heap:=h',gens:=g',drawn:=d',toks:=t'}:=by
 have A6:∀b o,X.s₀.heap.get? b=some o→b≠X.env.locals:=fun b o e=>bY (dZ (aY e) I.ok.above);have uI:∀b o,X.s₀.heap.get? b=some o→b∉X.ex→b∉ch:=fun b o e hx hb=>by
  rcases (jo b hb).1 with z | z;·exact hx z
  ·exact absurd (dZ (aY e) z) (eL _)
 have cellK:∀x c,X.env.cells.lookup x=some c→∀v,s.heap.IsCell c v→h'.IsCell c v:=fun x c e v ⟨o,ho,hd⟩=>by
  have rP:c∉ch:=fun z=>(jo c z).2.2.1 x c e rfl;by_cases hc:c∈X.fs
  ·obtain ⟨sl,q⟩:=slot c o (I.mx x c e) hc rP ho (I.hV x c e)
   exact ⟨_,q,hd⟩
  ·exact ⟨o,keep c o (I.mx x c e) hc rP ho (I.hV x c e),hd⟩
 refine ⟨I.ok,I.os,hg,⟨fun b o e n hb hx=>?_,fun b o e n hb hx=>?_,fun b o e n hx=>?_,fun b o e hx=>?_,fun b xs e=>dq b xs (I.base.dq b xs e),fun b o xs e=>e_ b o xs (I.base.e_ b o xs e),fun b ps e=>?_⟩,?_,fun x c e=>?_,?_,fun x c e=>?_,fun p hp=>?_,au,I.len⟩;·exact keep b o (A6 b o e) hb (uI b o e hx) (I.base.keep b o e n hb hx) (I.base.free b o e n hx)
 ·obtain ⟨sl,e1⟩:=I.base.slot b o e n hb hx
  obtain ⟨F4,e2⟩:=slot b _ (A6 b o e) hb (uI b o e hx) e1 (I.base.free b o e n hx);exact ⟨F4,e2⟩
 ·obtain ⟨o',e1⟩:=I.base.there b o e hx
  exact free b o' (uI b o e hx) e1 (I.base.free b o e n hx)
 ·obtain ⟨o',e1⟩:=I.base.there b o e hx
  exact there b o' (uI b o e hx) e1
 ·obtain ⟨m1,e1⟩:=I.base.fC b ps e
  obtain ⟨m2,e2⟩:=fC b _ e1;exact ⟨m1++m2,by rw [e2,Array.append_assoc]⟩
 ·obtain ⟨m,hn,hl⟩:=I.loc
  refine ⟨m,ns m hn,fun i x v e1 e2 e3=>?_⟩;obtain ⟨u,r,l⟩:=hl i x v e1 e2 e3;refine ⟨u,r,?_⟩;rcases l with l | ⟨k,c,e,z⟩;·exact .inl l
  ·exact .inr ⟨k,c,e,cellK x c e _ z⟩
 ·obtain ⟨v,z⟩:=I.cell x c e
  exact ⟨v,cellK x c e v z⟩
 ·obtain ⟨m,⟨o,_,_,ho,_⟩,_⟩:=I.loc
  exact free _ o (fun z=>(jo _ z).2.1 rfl) ho I.free
 ·obtain ⟨v,o,ho,hd⟩:=I.cell x c e
  exact free c o (fun z=>(jo c z).2.2.1 x c e rfl) ho (I.hV x c e)
 ·obtain ⟨e,n,ne,nf,d⟩:=I.pin p hp
  have rP:p.1∉ch:=fun z=>(jo p.1 z).2.2.2 p hp rfl;exact ⟨keep p.1 p.2 ne nf rP e n,free p.1 p.2 rP e n,ne,nf,d⟩
theorem Inv.un(I:Inv X pins σ H s)(u:Un X.fs [] H H' s.heap h')(au:bK X.prog X.w H' h'):Inv X pins σ H' {s with heap:=h',toks:=t'}:=by
 obtain ⟨m,⟨o,es,ep,ho,r⟩,_⟩:=id I.loc;obtain ⟨sl,hL⟩:=u.any ho I.free (by simp)
 exact I.step (g':=s.gens) (d':=s.drawn) (ch:=[]) (fun _ z=>nomatch z) (fun b o _ hb _ e n=>u.keep b o e n hb (by simp)) (fun b o _ hb _ e n=>u.slot b o e n hb (by simp)) (fun b o _ e n=>u.free b o e n (by simp)) (fun b o _ e=>u.there b o e (by simp)) u.dq u.e_ u.fC (fun m' hm=>by obtain ⟨o',xJ,xK,jm,r'⟩:=hm;rw [ho] at jm;cases jm;exact ⟨_,xJ,xK,hL,r'⟩) au I.bare
theorem Inv.call(I:Inv X pins σ H s)(u:Un (b3 X.stack) ch H H' s.heap h')(au:bK X.prog X.w H' h')(hg:AllBare g')
  (jo:∀b∈ch,(b∈X.ex∨X.s₀.heap.objs.size≤b)∧b≠X.env.locals∧(∀x c,X.env.cells.lookup x=some c→c≠b)∧∀p∈X.pn++pins,p.1≠b) :
  Inv X pins σ H' {s with heap:=h',gens:=g',drawn:=d',toks:=t'}:=by
 obtain ⟨m,⟨o,es,ep,ho,r⟩,_⟩:=id I.loc;obtain ⟨sl,hL⟩:=u.any ho I.free fun z=>(jo _ z).2.1 rfl;exact I.step (ch:=ch) jo (fun b o hL hb hc e n=>u.keep b o e n (fun z=>(bZ.mp (I.rN b z)).elim hL hb) hc) (fun b o _ _ hc e n=>u.any e n hc) (fun b o hc e n=>u.free b o e n hc) (fun b o hc e=>u.there b o e hc) u.dq u.e_ u.fC (fun m' hm=>by obtain ⟨o',xJ,xK,jm,r'⟩:=hm;rw [ho] at jm;cases jm;exact ⟨_,xJ,xK,hL,r'⟩) au hg
theorem Inv.turned{it:Addr}(I:Inv X pins σ H s)(k:∀b o,b≠it→s.heap.get? b=some o→h'.get? b=some o)(hn:H it=none)(hL:it≠X.env.locals)
  (h1:it∈X.ex∨X.s₀.heap.objs.size≤it) (h2:∀x c,X.env.cells.lookup x=some c→c≠it) (h3:∀p∈X.pn++pins,p.1≠it):Inv X pins σ H {s with heap:=h',toks:=t'}:=by
 have A7:∀b u,H b=some u→b≠it:=fun b u e z=>by rw [z,hn] at e;cases e
 refine I.step (g':=s.gens) (d':=s.drawn) (ch:=[it]) (fun b hb=>?_) (fun b o _ _ hc e _=>k b o (fun z=>hc (by simp [z])) e) (fun b o _ _ hc e _=>⟨o.slots,k b o (fun z=>hc (by simp [z])) e⟩) (fun _ _ _ _ n=>n)
  (fun b o hc e=>⟨o,k b o (fun z=>hc (by simp [z])) e⟩) (fun _ _ e=>e) (fun _ _ _ e=>e) (fun b ps e=>⟨#[],by rw [e];simp⟩) (fun m hm=>?_) (fun b u e=>?_) I.bare
 ·have e:b=it:=by simpa using hb
  subst e;exact ⟨h1,hL,h2,h3⟩
 ·obtain ⟨o,es,ep,ho,r⟩:=hm
  exact ⟨o,es,ep,k _ o (Ne.symm hL) ho,r⟩
 ·refine (I.au b u e).gI (fun c v hc q=>k c v ?_ q) (fun _ q=>q) fun _ _ q=>q
  rcases hc with z | z;·rw [z];exact A7 b u e
  ·exact A7 c _ z
theorem Inv.tok(I:Inv X pins σ H s)(t:Nat):Inv X pins σ H {s with toks:=t}:=I.un (h':=s.heap) (t':=t) Un.refl I.au
theorem Inv.kept(I:Inv X pins σ H s)(k:∀b u,s.heap.get? b=some u→h'.get? b=some u):Inv X pins σ H {s with heap:=h',toks:=t'}:=I.un (Un.kept k) (I.au.kept k)
theorem Inv.laid(I:Inv X pins σ H s)(k:∀b u,s.heap.get? b=some u→h'.get? b=some u)(hp:s.heap.objs.size≤a)(new:ck X.prog X.w (upd H a o) h' a o) :
  Inv X pins σ (upd H a o) {s with heap:=h',toks:=t'}:=I.un (Un.laid k hp (I.au.fresh hp)) (I.au.laid k hp new)
theorem Inv.write{x e:Addr}(I:Inv X pins σ H s)(mu:rH (H x))(he:e=x∨H e=some (.own x))(k:∀b u,b≠e→s.heap.get? b=some u→h'.get? b=some u)(oO:∃u,h'.get? e=some u)
  (new:ck X.prog X.w (upd H x o) h' x o):Inv X pins σ (upd H x o) {s with heap:=h',toks:=t'}:=I.un (Un.write mu he k oO) (I.au.write mu he k oO new)
theorem Inv.A8{A9:aN}(I:Inv X pins σ H s)(h:∀p∈A9,s.heap.get? p.1=some p.2∧H p.1=none∧p.1≠X.env.locals∧p.1∉X.fs∧∀v,p.2.data≠.cell v):Inv X A9 σ H s:=
 ⟨I.ok,I.os,I.bare,I.base,I.loc,I.cell,I.free,I.hV,fun p hp=>(cR.mp hp).elim (fun z=>I.pin p (jV _ z)) (h p),I.au,I.len⟩
variable {i:Nat} {x:Str}
theorem A_{N:List Str}(hN:N.Nodup){j:Nat}(a:N[i]?=some x)(b:N[j]?=some x):i=j:=by obtain ⟨h1,e1⟩:=cy.mp a;obtain ⟨h2,e2⟩:=cy.mp b;exact (List.getElem_inj hN).mp (e1.trans e2.symm)
variable {M:Model} {A:Around} {E:aE} {Q:Unit→Shared→Prop}
theorem Ba{v:V}{u:Value}(I:Inv X pins σ H s)(hN:X.N.Nodup)(hi:X.N[i]?=some x)(hx:Loc X.env.scope x)(r:RelV v u)
  (h:∀s',Inv X pins (σ.set i (some v)) H s'→(∃a,Heap.SameBut a s.heap s'.heap∧(a=X.env.locals∨X.env.cells.lookup x=some a))→Q () s') (hf:X.fn x=true∨X.env.scope.names.lookup x=some .local:=by first | exact .inl rfl | exact .inr rfl | assumption):wpAny M A (storeName X.env x u) Q E s:=by
 obtain ⟨m,hn,hl⟩:=id I.loc;have F5:(X.env.scope.kind == .class || (X.env.scope.kind == .module && X.env.locals != X.env.globals))=false:=by rw [I.ok.kind];rfl
 have Bb:i<σ.length:=by rw [I.len];exact (cy.mp hi).1
 have mx:=I.mx;have tracked:∀{a:Addr} {h':Heap},(∃o,s.heap.get? a=some o∧H a=none)→Heap.SameBut a s.heap h'→bK X.prog X.w H h':=fun{a h'} ha hs b ob e=>by
  obtain ⟨_,_,Bc⟩:=ha;refine (I.au b ob e).gI (fun c w' hc q=>(hs.2 c ?_).trans q) (fun _ q=>q) fun _ _ q=>q;rintro rfl;rcases hc with rfl | hc;·rw [Bc] at e;cases e
  ·rw [Bc] at hc;cases hc
 rcases hx with hk | hk
 ·refine wpAny_storeName_local hk hn (fun h' F6 hs=>?_) F5
  obtain ⟨oL,_,_,F7,_⟩:=id hn;refine h _ ⟨I.ok,I.os,I.bare,⟨fun b o e n hb hx=>?_,fun b o e n hb hx=>?_,I.base.free,fun b o e hx=>?_,I.base.dq,I.base.e_,I.base.fC⟩,⟨_,F6,fun j y v' e1 e2 e3=>?_⟩,fun y c e=>?_,I.free,I.hV,fun p hp=>?_,tracked ⟨oL,F7,I.free⟩ hs,by simpa using I.len⟩ ⟨_,hs,.inl rfl⟩
  ·exact (hs.2 b (bY (dZ (aY e) I.ok.above))).trans (I.base.keep b o e n hb hx)
  ·obtain ⟨sl,e1⟩:=I.base.slot b o e n hb hx
   exact ⟨sl,(hs.2 b (bY (dZ (aY e) I.ok.above))).trans e1⟩
  ·obtain ⟨o',e1⟩:=I.base.there b o e hx
   exact ⟨o',(hs.2 b (bY (dZ (aY e) I.ok.above))).trans e1⟩
  ·by_cases hj:j=i
   ·subst hj
    rw [hi] at e1;cases e1;rw [List.getElem?_set_self Bb] at e2;cases e2;exact ⟨u,r,.inl ⟨hk,by simp⟩⟩
   ·rw [List.getElem?_set_ne (Ne.symm hj)] at e2
    obtain ⟨u',r',q⟩:=hl j y v' e1 e2 e3;refine ⟨u',r',?_⟩;rcases q with ⟨k,e⟩ | ⟨k,c,e,z⟩
    ·refine .inl ⟨k,?_⟩
     have:y≠x:=fun e=>hj (A_ hN e1 (e▸hi));simp [this,e]
    ·exact .inr ⟨k,c,e,z.sameBut hs (mx y c e)⟩
  ·obtain ⟨w',z⟩:=I.cell y c e
   exact ⟨w',z.sameBut hs (mx y c e)⟩
  ·obtain ⟨e,n,ne,nf,d⟩:=I.pin p hp
   exact ⟨(hs.2 p.1 ne).trans e,n,ne,nf,d⟩
 ·have xM:X.fn x=true:=by
   rcases hf with z | z;·exact z
   ·rw [z] at hk;cases hk
  obtain ⟨c,hc⟩:=I.ok.has x (.inl hk);obtain ⟨w',z⟩:=I.cell x c hc;refine wpAny_storeName_cell I.ok.kind hk hc z (fun h' df hs=>?_);obtain ⟨oc,Bd,F8⟩:=id z;refine h {s with heap:=h'} ⟨I.ok,I.os,I.bare,⟨fun b o e n hb hx=>?_,fun b o e n hb hx=>?_,I.base.free,fun b o e hx=>?_,I.base.dq,I.base.e_,I.base.fC⟩,⟨m,hn.sameBut hs (Ne.symm (mx x c hc)),fun j y v' e1 e2 e3=>?_⟩,fun y c' e=>?_,I.free,I.hV,fun p hp=>?_,tracked ⟨oc,Bd,I.hV x c hc⟩ hs,by simpa using I.len⟩ ⟨c,hs,.inr hc⟩
  ·exact (hs.2 b (bY (dZ (aY e) (I.ok.rK x c xM hc)))).trans (I.base.keep b o e n hb hx)
  ·obtain ⟨sl,e1⟩:=I.base.slot b o e n hb hx
   exact ⟨sl,(hs.2 b (bY (dZ (aY e) (I.ok.rK x c xM hc)))).trans e1⟩
  ·obtain ⟨o',e1⟩:=I.base.there b o e hx
   exact ⟨o',(hs.2 b (bY (dZ (aY e) (I.ok.rK x c xM hc)))).trans e1⟩
  ·by_cases hj:j=i
   ·subst hj
    rw [hi] at e1;cases e1;rw [List.getElem?_set_self Bb] at e2;cases e2;exact ⟨u,r,.inr ⟨.inl hk,c,hc,df⟩⟩
   ·rw [List.getElem?_set_ne (Ne.symm hj)] at e2
    obtain ⟨u',r',q⟩:=hl j y v' e1 e2 e3;refine ⟨u',r',?_⟩;rcases q with q | ⟨k,c',e,z'⟩;·exact .inl q
    ·refine .inr ⟨k,c',e,z'.sameBut hs ?_⟩
     rintro rfl;exact hj (A_ hN e1 (I.ok.inj _ _ _ e hc▸hi))
  ·by_cases Be:c'=c
   ·subst Be;exact ⟨_,df⟩
   ·obtain ⟨w2,z2⟩:=I.cell y c' e
    exact ⟨w2,z2.sameBut hs Be⟩
  ·obtain ⟨e,n,ne,nf,d⟩:=I.pin p hp
   refine ⟨(hs.2 p.1 ?_).trans e,n,ne,nf,d⟩;intro q;rw [q,Bd] at e;have q':oc=p.2:=Option.some.inj e;exact d w' (by rw [←q'];exact F8)
theorem Bf{v:V}{u:Value}(I:Inv X pins σ H s)(hN:X.N.Nodup)(hi:X.N[i]?=some x)(hx:Loc X.env.scope x)(r:RelV v u)
  (h:∀s',Inv X pins (σ.set i (some v)) H s'→Q () s') (hf:X.fn x=true∨X.env.scope.names.lookup x=some .local:=by first | exact .inl rfl | exact .inr rfl | assumption):wpAny M A (storeName X.env x u) Q E s:=
 Ba I hN hi hx r (fun s' I' _=>h s' I') hf
theorem Inv.k4{s':Shared}(I:Inv X pins σ H s)(ho:s'.os=s.os)(u:Un (b3 X.stack) ch H H' s.heap s'.heap)(au:bK X.prog X.w H' s'.heap)(hg:AllBare s'.gens)
  (jo:∀b∈ch,(b∈X.ex∨X.s₀.heap.objs.size≤b)∧b≠X.env.locals∧(∀x c,X.env.cells.lookup x=some c→c≠b)∧∀p∈X.pn++pins,p.1≠b):Inv X pins σ H' s':=by
 obtain ⟨h',g',d',t',o'⟩:=s';have e:o'=s.os:=ho;subst e;exact I.call (g':=g') (t':=t') (d':=d') u au hg jo
end
abbrev XK:=Value→Option Addr→Hp→Prop
abbrev St:=List (Option V)
abbrev VK:=V→Hp→Prop
abbrev TE:=St→Hp→VK→Prop
abbrev TT:=St→Hp→(Bool→Hp→Prop)→Prop
abbrev TA:=St→Hp→(List V→Hp→Prop)→Prop
structure Ends where
 nx:St→Hp→Prop
 rt:VK
 bk:St→Hp→Prop:=fun _ _=>False
 ct:St→Hp→Prop:=fun _ _=>False
abbrev TS:=Ends→St→Hp→Prop
def EP(X:Cx)(pins:aN)(σ:St)(Q:VK)(u:Value)(s':Shared):Prop:=∃v H',Inv X pins σ H' s'∧RelV v u∧Q v H'
def TP(X:Cx)(pins:aN)(σ:St)(Q:Bool→Hp→Prop)(b:Bool)(s':Shared):Prop:=∃H',Inv X pins σ H' s'∧Q b H'
def AP(X:Cx)(pins:aN)(σ:St)(Q:List V→Hp→Prop)(us:List Value)(s':Shared):Prop:=∃vs H',Inv X pins σ H' s'∧Vals vs us∧Q vs H'
def SP(X:Cx)(pins:aN)(D:Ends)(f:Flow)(s':Shared):Prop:=
 match f with
 | .next=>∃σ' H',Inv X pins σ' H' s'∧D.nx σ' H'
 | .brk=>∃σ' H',Inv X pins σ' H' s'∧D.bk σ' H'
 | .cont=>∃σ' H',Inv X pins σ' H' s'∧D.ct σ' H'
 | .ret u=>∃v σ' H',Inv X pins σ' H' s'∧RelV v u∧D.rt v H'
def PE(X:Cx)(e:Expr)(t:TE):Prop:=
 ∀(pins:aN) (s:Shared) (σ:St) (H:Hp) (Q:VK),Inv X pins σ H s→t σ H Q→wpAny (model X.prog X.w) X.A (eval e X.env) (EP X pins σ Q) X.xe s
def PT(X:Cx)(e:Expr)(t:TT):Prop:=
 ∀(pins:aN) (s:Shared) (σ:St) (H:Hp) (Q:Bool→Hp→Prop),Inv X pins σ H s→t σ H Q→wpAny (model X.prog X.w) X.A (isTrue e X.env (eval e X.env)) (TP X pins σ Q) X.xe s
def PW(X:Cx)(e:Expr)(t:TT):Prop:=
 ∀(whole:Sem Value) (pins:aN) (s:Shared) (σ:St) (H:Hp) (Q:Bool→Hp→Prop),Inv X pins σ H s→t σ H Q→wpAny (model X.prog X.w) X.A (isTrue e X.env whole) (TP X pins σ Q) X.xe s
variable {X:Cx}
theorem PW.pt{e:Expr}{t:TT}(h:PW X e t):PT X e t:=h _
def PA(X:Cx)(es:List Expr)(t:TA):Prop:=
 ∀(pos:Pos) (pins:aN) (s:Shared) (σ:St) (H:Hp) (Q:List V→Hp→Prop),Inv X pins σ H s→t σ H Q→wpAny (model X.prog X.w) X.A (spliced (backTo pos (starEach es X.env))) (AP X pins σ Q) X.xe s
def PS(X:Cx)(st:Stmt)(t:TS):Prop:=
 ∀(pins:aN) (s:Shared) (σ:St) (H:Hp) (D:Ends),Inv X pins σ H s→t D σ H→wpAny (model X.prog X.w) X.A (exec st X.env) (SP X pins D) X.xe s
def ei(X:Cx)(st:List Stmt)(t:TS):Prop:=
 ∀(pins:aN) (s:Shared) (σ:St) (H:Hp) (D:Ends),Inv X pins σ H s→t D σ H→wpAny (model X.prog X.w) X.A (execs st X.env) (SP X pins D) X.xe s
variable {M:Model} {A:Around} {E:aE} {s:Shared}
theorem aI{α:Type}{t:Sem α}{Q Q':α→Shared→Prop}(h:wpAny M A t Q E s)(hQ:∀a s,Q a s→Q' a s):wpAny M A t Q' E s:=bR h hQ fun _ _ x=>x
section
variable {X:Cx}
variable {pins:aN} {σ:St}
theorem bin{a b:Expr}{ta tb:TE}(ha:PE X a ta)(hb:PE X b tb){R:V→V→Hp→Prop}(I:Inv X pins σ H s)(h:ta σ H fun x H1=>tb σ H1 fun y H2=>R x y H2)
  {α:Type} {Q:α→Shared→Prop} {f:Value→Value→Sem α}
  (hf:∀v u s2 x y H2,Inv X pins σ H2 s2→RelV x v→RelV y u→R x y H2→wpAny (model X.prog X.w) X.A (f v u) Q X.xe s2) :
  wpAny (model X.prog X.w) X.A (eval a X.env) (fun v s₁=>wpAny (model X.prog X.w) X.A (eval b X.env) (fun u s₂=>wpAny (model X.prog X.w) X.A (f v u) Q X.xe s₂) X.xe s₁) X.xe s:=by
 refine aI (ha pins s σ H _ I h) fun v s1 ⟨x,H1,I1,r1,q1⟩=>?_;refine aI (hb pins s1 σ H1 _ I1 q1) fun u s2 ⟨y,H2,I2,r2,q2⟩=>?_;exact hf v u s2 x y H2 I2 r1 r2 q2
def rQ(i:Nat):TE:=fun σ H Q=>∃v,σ[i]?=some (some v)∧Q v H
def tC(v:V):TE:=fun _ H Q=>Q v H
variable {x:Str} {pos:Pos}
theorem F9{i:Nat}(hN:X.N[i]?=some x)(hv:mr X.env.scope x)(hd:(x == ("__debug__":Str))=false:=by decide)(f9:(x == ("__classdict__":Str))=false:=by decide):PE X (.Name x pos) (rQ i):=by
 intro pins s σ H Q I h;obtain ⟨v,e,h⟩:=h;obtain ⟨m,hn,hl⟩:=I.loc;obtain ⟨u,r,l⟩:=hl i x v hN e hv;have fin:EP X pins σ Q u s:=⟨v,H,I,r,h⟩;rcases l with ⟨hk,hm⟩ | ⟨hk,c,hc,Bg⟩;·exact wpAny_Name (wpAny_loadName_local I.ok.kind hk hn hm fin) hd
 ·rcases hk with hk | hk
  ·exact wpAny_Name (wpAny_loadName_cell I.ok.kind hk hc Bg fin) hd
  ·exact wpAny_Name (wpAny_loadName_free I.ok.kind hk hc Bg fin f9) hd
theorem ao{i j pos}:PE X (.Constant (.int i) j pos) (tC (.int i)):=fun _ _ _ H _ I h=>wpAny_Constant_int ⟨.int i,H,I.tok _,⟨_,rfl⟩,h⟩
theorem eP{b j pos}:PE X (.Constant (.bool b) j pos) (tC (.bl b)):=fun _ _ _ H _ I h=>Constant_bool ⟨.bl b,H,I,rfl,h⟩
theorem cT{x j pos}:PE X (.Constant (.str x) j pos) (tC (.str x)):=fun _ _ _ H _ I h=>Calls.Constant_str ⟨.str x,H,I.tok _,⟨_,rfl⟩,h⟩
def Gl(X:Cx)(x:Str):Prop:=X.env.kindOf x=some .globalImplicit
variable {Q:aE}
theorem xN{u:Value}(I:Inv X pins σ H s)(hg:Gl X x)(hm:X.mg x=some u)(h:Q u s)
  (hd:(x == ("__debug__":Str))=false:=by decide):wpAny (model X.prog X.w) X.A (eval (.Name x pos) X.env) Q E s:=
 Calls.Name_function_global I.ok.kind hg (Calls.loadGlobal_global (by rw [I.ok.glob];exact I.mod.glob.keeps I.bk) hm h) hd
theorem j_{u:Value}(I:Inv X pins σ H s)(hg:Gl X x)(hm:X.mg x=none)(hv:bootBuiltins x=some u)(h:Q u s)
  (hn:x ≠ "__name__":=by decide) (hd:(x == ("__debug__":Str))=false:=by decide):wpAny (model X.prog X.w) X.A (eval (.Name x pos) X.env) Q E s:=by
 obtain ⟨mb,h1,h2⟩:=I.mod.blt;exact Calls.Name_function_global I.ok.kind hg (Calls.loadGlobal_builtin (by rw [I.ok.glob];exact I.mod.glob.keeps I.bk) hm (by rw [I.ok.blt];exact h1.keeps I.bk) ((h2 x hn).trans hv) h) hd
theorem F_{v:V}{u:Value}(hg:Gl X x)(hm:X.mg x=some u)(r:RelV v u)(hd:(x == ("__debug__":Str))=false:=by decide):PE X (.Name x pos) (tC v):=
 fun _ _ _ H _ I h=>xN I hg hm ⟨v,H,I,r,h⟩ hd
theorem kd{v:V}{u:Value}(hg:Gl X x)(hm:X.mg x=none)(hv:bootBuiltins x=some u)(r:RelV v u)(hn:x ≠ "__name__":=by decide)(hd:(x == ("__debug__":Str))=false:=by decide):PE X (.Name x pos) (tC v):=
 fun _ _ _ H _ I h=>j_ I hg hm hv ⟨v,H,I,r,h⟩ hn hd
variable {a b:Expr} {ta tb:TE} {pos:Pos}
def PC(X:Cx)(op:CmpOp)(a b:Expr)(t:TE):Prop:=
 ∀(pins:aN) (s:Shared) (σ:St) (H:Hp) (Q:VK),Inv X pins σ H s→t σ H Q→
  wpAny (model X.prog X.w) X.A (eval a X.env) (fun v s₁=>wpAny (model X.prog X.w) X.A (eval b X.env) (fun u s₂=>wpAny (model X.prog X.w) X.A (compareOp op v u) (EP X pins σ Q) X.xe s₂) X.xe s₁) X.xe s
def tB(t:TE):TT:=fun σ H Q=>t σ H fun x H1=>∃c,x=.bl c∧Q c H1
variable {t:TE}
theorem Ga{op:CmpOp}(h:PC X op a b t)(h1:behindInMarks op b=false:=by first | exact Pt _ (by decide) (by decide) | rfl):PT X (.Compare a [op] [b] pos) (tB t):=by intro pins s σ H Q I hw;refine wpAny_isTrue_Compare1 (aI (h pins s σ H _ I hw) fun v s1 h1=>aI h1 fun u s2 h2=>aI h2 fun c s3 ⟨x,H1,I1,r1,q1⟩=>?_) h1;obtain ⟨d,rfl,q⟩:=q1;cases r1;exact kO ⟨H1,I1,q⟩
theorem gK{e:Expr}(h:PE X e t)(he:∀whole,isTrue e X.env whole=(do let v ←whole;standAt e.pos;holding [v] (truthy v)):=by intro _;rfl):PT X e (tB t):=by
 intro pins s σ H Q I hw
 refine isTrue_plain (aI (h pins s σ H _ I hw) fun v s1 ⟨x,H1,I1,r1,q1⟩=>?_) (he _)
 obtain ⟨d,rfl,q⟩:=q1
 cases r1
 exact kO ⟨H1,I1,q⟩
variable {tA rR:TT} {rest:List Expr}
def Gb(t u:TT):TT:=fun σ H Q=>t σ H fun c H1=>if c=true then u σ H1 Q else Q false H1
def Bh(t u:TT):TT:=fun σ H Q=>t σ H fun c H1=>if c=true then Q true H1 else u σ H1 Q
def Bj(t:TT):TT:=fun σ H Q=>t σ H fun c H1=>Q (!c) H1
theorem pw_and1(ha:PT X a tA):PW X (.BoolOp .And [a] pos) tA:=by
 intro wh pins s σ H Q I h;refine isTrue_and (aI (ha pins s σ H Q I h) fun c s1 e=>?_);cases c with
 | true=>exact isTrue_and_nil e
 | false=>exact e
theorem pw_or1(ha:PT X a tA):PW X (.BoolOp .Or [a] pos) tA:=by
 intro wh pins s σ H Q I h;refine isTrue_or (aI (ha pins s σ H Q I h) fun c s1 e=>?_);cases c with
 | false=>exact isTrue_or_nil e
 | true=>exact e
theorem pw_and(ha:PT X a tA)(hb:PW X (.BoolOp .And (b::rest) pos) rR):PW X (.BoolOp .And (a::b::rest) pos) (Gb tA rR):=by
 intro wh pins s σ H Q I h;refine isTrue_and (aI (ha pins s σ H _ I h) fun c s1 ⟨H1,I1,q1⟩=>?_);cases c with
 | true=>exact hb wh pins s1 σ H1 Q I1 q1
 | false=>exact ⟨H1,I1,q1⟩
theorem pw_or(ha:PT X a tA)(hb:PW X (.BoolOp .Or (b::rest) pos) rR):PW X (.BoolOp .Or (a::b::rest) pos) (Bh tA rR):=by
 intro wh pins s σ H Q I h;refine isTrue_or (aI (ha pins s σ H _ I h) fun c s1 ⟨H1,I1,q1⟩=>?_);cases c with
 | true=>exact ⟨H1,I1,q1⟩
 | false=>exact hb wh pins s1 σ H1 Q I1 q1
theorem hW(ha:PT X a tA):PT X (.UnaryOp .Not a pos) (Bj tA):=by intro pins s σ H Q I h;exact isTrue_not (ha pins s σ H (fun c H1=>Q (!c) H1) I h)
def Gd(ta tb:TE):TE:=fun σ H Q=>ta σ H fun x H1=>∃c,x=.bl c∧if c=true then tb σ H1 Q else Q (.bl false) H1
def Ge(ta tb:TE):TE:=fun σ H Q=>ta σ H fun x H1=>∃c,x=.bl c∧if c=true then Q (.bl true) H1 else tb σ H1 Q
def Gf(ta:TE):TE:=fun σ H Q=>ta σ H fun x H1=>∃c,x=.bl c∧Q (.bl (!c)) H1
theorem hZ{op}(h:PE X a t):PE X (.BoolOp op [a] pos) t:=fun pins s σ H Q I hw=>BoolOp_one (h pins s σ H Q I hw)
theorem iO(ha:PE X a ta)(hb:PE X (.BoolOp .And (b::rest) pos) tb):PE X (.BoolOp .And (a::b::rest) pos) (Gd ta tb):=by
 intro pins s σ H Q I h;refine BoolOp_and (aI (ha pins s σ H _ I h) fun v s1 ⟨x,H1,I1,r1,q1⟩=>?_);obtain ⟨c,rfl,q1⟩:=q1;cases r1;refine kO ?_;cases c with
 | true=>exact hb pins s1 σ H1 Q I1 q1
 | false=>exact ⟨.bl false,H1,I1,rfl,q1⟩
theorem xO(ha:PE X a ta)(hb:PE X (.BoolOp .Or (b::rest) pos) tb):PE X (.BoolOp .Or (a::b::rest) pos) (Ge ta tb):=by
 intro pins s σ H Q I h;refine BoolOp_or (aI (ha pins s σ H _ I h) fun v s1 ⟨x,H1,I1,r1,q1⟩=>?_);obtain ⟨c,rfl,q1⟩:=q1;cases r1;refine kO ?_;cases c with
 | false=>exact hb pins s1 σ H1 Q I1 q1
 | true=>exact ⟨.bl true,H1,I1,rfl,q1⟩
theorem Bk(ha:PE X a ta):PE X (.UnaryOp .Not a pos) (Gf ta):=by intro pins s σ H Q I h;refine UnaryOp_ (aI (ha pins s σ H _ I h) fun v s1 ⟨x,H1,I1,r1,q1⟩=>?_);obtain ⟨c,rfl,q1⟩:=q1;cases r1;exact not_of (kO ⟨.bl (!c),H1,I1,rfl,q1⟩)
end
def bD(K:aH)(H:Hp)(a:Addr)(xs:List V):Prop:=
 Rd H a (.lst xs) ∨
  ∃(o:Obj) (its:Array Value) (n:Nat),K.lookup a=some o∧o.cls=.type "list"∧o.dict=none∧o.data=.seq its n∧its.size≤sizeLine∧Vals xs its.toList
def dw(K:aH)(H:Hp)(a:Addr)(xs:List V):Prop:=
 Rd H a (.tup xs) ∨
  ∃(o:Obj) (its:Array Value) (n:Nat),K.lookup a=some o∧o.cls=.type "tuple"∧o.data=.seq its n∧its.size≤sizeLine∧Vals xs its.toList
def Gg:Value→Option V
 | .none=>some .aQ
 | .bool b=>some (.bl b)
 | .int i _=>some (.int i)
 | .str x _=>some (.str x)
 | .bytes b _=>some (.iL b)
 | .float b _=>some (.oN b)
 | .ref a=>some (.ref a)
 | .type n=>some (.ty n)
 | _=>none
variable {x:V}
theorem RelV.abs{u:Value}(r:RelV x u):Gg u=some x:=by
 cases x with
 | aQ=>cases r;rfl
 | bl _=>cases r;rfl
 | int _=>obtain ⟨t,rfl⟩:=r;rfl
 | str _=>obtain ⟨t,rfl⟩:=r;rfl
 | iL _=>obtain ⟨t,rfl⟩:=r;rfl
 | oN _=>obtain ⟨t,rfl⟩:=r;rfl
 | ref _=>cases r;rfl
 | ty _=>cases r;rfl
theorem RelV.inj{y:V}{u:Value}(r:RelV x u)(q:RelV y u):x=y:=Option.some.inj (r.abs.symm.trans q.abs)
theorem Vals.inj:∀{xs ys:List V} {us:List Value},Vals xs us→Vals ys us→xs=ys
 | _,_,_,.nil,.nil=>rfl
 | _,_,_,.cons r t,.cons r' t'=>by rw [r.inj r',Vals.inj t t']
section
variable {X:Cx} {pins:aN} {σ:St} {H:Hp} {s:Shared} {a:Addr} {xs ys:List V}
variable {K:aH}
theorem bD.of(h:H a=some (.lst xs)):bD K H a xs:=.inl (.inl h)
theorem dw.of(h:H a=some (.tup xs)):dw K H a xs:=.inl (.inl h)
theorem Inv.list(I:Inv X pins σ H s)(h:bD X.K H a xs):∃its:List Value,Vals xs its∧PlainL s.heap a its.toArray∧xs.length≤sizeLine:=by
 rcases h with h | ⟨o,its,n,hk,hc,hd,hs,hz,r⟩
 ·obtain ⟨z,its,n,r,e⟩:=h.ok I.au
  exact ⟨its,r,⟨_,n,e,rfl,rfl,rfl⟩,z⟩
 ·refine ⟨its.toList,r,⟨o,n,I.d7 a o hk,hc,hd,by simpa using hs⟩,?_⟩
  have e:=r.length;simp only [gF] at e;lia
theorem Inv.tuple(I:Inv X pins σ H s)(h:dw X.K H a xs):∃its:List Value,Vals xs its∧IsTup s.heap a its.toArray∧xs.length≤sizeLine:=by
 rcases h with h | ⟨o,its,n,hk,hc,hs,hz,r⟩
 ·obtain ⟨z,its,r,p⟩:=h.ok I.au
  exact ⟨its,r,p,z⟩
 ·refine ⟨its.toList,r,⟨o,I.d7 a o hk,hc,n,by simpa using hs⟩,?_⟩
  have e:=r.length;simp only [gF] at e;lia
theorem Inv.Bl(I:Inv X pins σ H s)(h:bD X.K H a xs)(h':bD X.K H a ys):xs=ys:=by
 obtain ⟨its,r,⟨o,n,e,_,_,d⟩,_⟩:=I.list h;obtain ⟨its',r',⟨o',n',e',_,_,d'⟩,_⟩:=I.list h';rw [e] at e';cases e';rw [d] at d';injection d' with d1 _;have:its=its':=by simpa using b9 Array.toList d1
 subst this;exact r.inj r'
theorem Inv.Bm(I:Inv X pins σ H s)(h:dw X.K H a xs)(h':dw X.K H a ys):xs=ys:=by
 obtain ⟨its,r,⟨o,e,_,n,d⟩,_⟩:=I.tuple h;obtain ⟨its',r',⟨o',e',_,n',d'⟩,_⟩:=I.tuple h';rw [e] at e';cases e';rw [d] at d';injection d' with d1 _;have:its=its':=by simpa using b9 Array.toList d1
 subst this;exact r.inj r'
end
abbrev Cx.jq (X:Cx) (E:aE):Cx:={X with xe:=E}
abbrev Cx.my (X:Cx):Cx:=X.jq fun _ _=>False
theorem Cx.Ok.jq(ok:X.Ok)(E:aE):(X.jq E).Ok:=
 ⟨ok.mod,ok.kind,ok.glob,ok.blt,ok.above,ok.inj,ok.has,ok.rK,ok.hd,ok.frames,ok.gJ,ok.A5,ok.bs,ok.hU,ok.mv,ok.mw,ok.iM,ok.kZ⟩
theorem Cx.Ok.k6(ok:(X.jq E).Ok):X.Ok:=
 ⟨ok.mod,ok.kind,ok.glob,ok.blt,ok.above,ok.inj,ok.has,ok.rK,ok.hd,ok.frames,ok.gJ,ok.A5,ok.bs,ok.hU,ok.mv,ok.mw,ok.iM,ok.kZ⟩
section
variable {X:Cx} {pins:aN} {σ:St} {H:Hp} {s:Shared} {E:aE}
theorem Inv.jq(I:Inv X pins σ H s)(E:aE):Inv (X.jq E) pins σ H s:=⟨I.ok.jq E,I.os,I.bare,I.base,I.loc,I.cell,I.free,I.hV,I.pin,I.au,I.len⟩
theorem Inv.k6(I:Inv (X.jq E) pins σ H s):Inv X pins σ H s:=⟨I.ok.k6,I.os,I.bare,I.base,I.loc,I.cell,I.free,I.hV,I.pin,I.au,I.len⟩
theorem SP.k6{D:Ends}{f:Flow}{s':Shared}(h:SP (X.jq E) pins D f s'):SP X pins D f s':=by
 cases f with
 | next=>obtain ⟨σ',H',I,q⟩:=h;exact ⟨σ',H',I.k6,q⟩
 | brk=>obtain ⟨σ',H',I,q⟩:=h;exact ⟨σ',H',I.k6,q⟩
 | cont=>obtain ⟨σ',H',I,q⟩:=h;exact ⟨σ',H',I.k6,q⟩
 | ret u=>obtain ⟨v,σ',H',I,r,q⟩:=h;exact ⟨v,σ',H',I.k6,r,q⟩
theorem ei.my{st:List Stmt}{t:TS}(h:ei X.my st t):ei X st t:=fun pins s σ H D I hw=>bR (h pins s σ H D (I.jq _) hw) (fun _ _ q=>q.k6) fun _ _ z=>False.elim z
end
section
variable {X:Cx} {st:Stmt} {rest:List Stmt} {t u:TS} {e:Expr} {te:TE} {pos:Pos}
def xP:TS:=fun D σ H=>D.nx σ H
def xQ(t u:TS):TS:=fun D σ H=>t {D with nx:=u D} σ H
theorem bL:ei X [] xP:=fun _ _ σ H _ I h=>uc ⟨σ,H,I,h⟩
theorem aA(h1:PS X st t)(h2:ei X rest u):ei X (st::rest) (xQ t u):=by
 intro pins s σ H D I h;refine wpAny_execs_cons (aI (h1 pins s σ H {D with nx:=u D} I h) fun f s1 q=>?_);cases f with
 | next=>obtain ⟨σ',H',I',q⟩:=q;exact h2 pins s1 σ' H' D I' q
 | ret v=>exact q
 | brk=>exact q
 | cont=>exact q
theorem aF(h1:PS X st t):ei X [st] t:=by
 intro pins s σ H D I h;refine wpAny_execs_cons (aI (h1 pins s σ H D I h) fun f s1 q=>?_);cases f with
 | next=>exact uc q
 | ret v=>exact q
 | brk=>exact q
 | cont=>exact q
theorem Inv.quiet{pins:aN}{σ:St}(I:Inv X pins σ H s):interactive X.env=false:=by simp [interactive,I.ok.kind]
def Gh(te:TE):TS:=fun D σ H=>te σ H fun _ H1=>D.nx σ H1
theorem iP(he:PE X e te)(hs:swapsWith e none pos.line X.env=pure false:=by rfl):PS X (.Expr e pos) (Gh te):=by intro pins s σ H D I h;exact wpAny_Expr_any (aI (he pins s σ H _ I h) fun v s1 ⟨x,H1,I1,r1,q1⟩=>⟨σ,H1,I1,q1⟩) I.quiet hs
def xR(te:TE):TS:=fun D σ H=>te σ H D.rt
theorem a7(he:PE X e te):PS X (.Return (some e) pos) (xR te):=by intro pins s σ H D I h;exact wpAny_Return_some (aI (he pins s σ H _ I h) fun v s1 ⟨x,H1,I1,r1,q1⟩=>⟨x,σ,H1,I1,r1,q1⟩)
def Gi(c:TT)(t u:TS):TS:=fun D σ H=>c σ H fun b H1=>if b=true then t D σ H1 else u D σ H1
theorem bM{c:Expr}{a b:List Stmt}{tc:TT}(hc:PT X c tc)(ha:ei X a t)(hb:ei X b u):PS X (.If c a b pos) (Gi tc t u):=by
 intro pins s σ H D I h;refine wpAny_If (aI (hc pins s σ H _ I h) fun d s1 ⟨H1,I1,q1⟩=>?_);cases d with
 | true=>exact ha pins s1 σ H1 D I1 q1
 | false=>exact hb pins s1 σ H1 D I1 q1
end
abbrev TG:=V→St→Hp→(St→Hp→Prop)→Prop
abbrev mz:=List V→St→Hp→(St→Hp→Prop)→Prop
def PG(X:Cx)(target:Expr)(t:TG):Prop:=
 ∀(pins:aN) (s:Shared) (σ:St) (H:Hp) (v:V) (u:Value) (Q:St→Hp→Prop),Inv X pins σ H s→RelV v u→t v σ H Q→
  wpAny (model X.prog X.w) X.A (assign target X.env u) (fun _ s'=>∃σ' H',Inv X pins σ' H' s'∧Q σ' H') X.xe s
def uJ(X:Cx)(ts:List Expr)(t:mz):Prop:=
 ∀(pins:aN) (s:Shared) (σ:St) (H:Hp) (vs:List V) (us:List Value) (Q:St→Hp→Prop),Inv X pins σ H s→Vals vs us→t vs σ H Q→
  wpAny (model X.prog X.w) X.A (assignInOrder ((assignEach ts X.env).map (·.2)) us) (fun _ s'=>∃σ' H',Inv X pins σ' H' s'∧Q σ' H') X.xe s
abbrev xS:=V→V→V→Hp→(Hp→Prop)→Prop
def Bo(X:Cx)(t:xS):Prop:=
 ∀(pins:aN) (s:Shared) (σ:St) (H:Hp) (o i v:V) (ov iv u:Value) (Q:Hp→Prop),Inv X pins σ H s→RelV o ov→RelV i iv→RelV v u→t o i v H Q→
  wpAny (model X.prog X.w) X.A (setItem ov iv u) (fun _ s'=>∃H',Inv X pins σ H' s'∧Q H') X.xe s
section
variable {X:Cx} {pos:Pos}
def cL(i:Nat):TG:=fun v σ H Q=>Q (σ.set i (some v)) H
variable {i:Nat}
theorem cM{x:Str}(hN:X.N.Nodup)(hi:X.N[i]?=some x)(hx:Loc X.env.scope x)(hf:X.fn x=true∨X.env.scope.names.lookup x=some .local:=by first | exact .inl rfl | exact .inr rfl | assumption):PG X (.Name x pos) (cL i):=by intro pins s σ H v u Q I r h;exact wpAny_assign_Name (Bf I hN hi hx r (fun s' I'=>⟨_,H,I',h⟩) hf)
def Bp:mz:=fun vs σ H Q=>vs=[]∧Q σ H
def xT(t:TG)(u:mz):mz:=fun vs σ H Q=>∃v r,vs=v::r∧t v σ H fun σ' H'=>u r σ' H' Q
theorem mB:uJ X [] Bp:=by intro pins s σ H vs us Q I r h;obtain ⟨e,h⟩:=h;subst e;cases r;exact assignInOrder_nil ⟨σ,H,I,h⟩
variable {e:Expr} {es:List Expr}
theorem f_{t:TG}{u:mz}(h1:PG X e t)(h2:uJ X es u)
  (hs:(assignEach (e::es) X.env).map (·.2)=assign e X.env::(assignEach es X.env).map (·.2):=by rfl):uJ X (e::es) (xT t u):=by
 intro pins s σ H vs us Q I r h;obtain ⟨v,vr,e1,h⟩:=h;subst e1;cases r with
 | cons r rr=>rw [hs];refine assignInOrder_cons (aI (h1 pins s σ H _ _ _ I r h) fun _ s1 ⟨σ1,H1,I1,q1⟩=>?_);exact h2 pins s1 σ1 H1 _ _ Q I1 rr q1
def Bq(K:aH)(n:Nat)(t:mz):TG:=fun v σ H Q=>∃a xs,v=.ref a∧dw K H a xs∧xs.length=n∧t xs σ H Q
theorem mC{k:Nat}{t:mz}{n:Nat}(hc:X.calm=true)(h:uJ X es t)
  (hn:(assignEach es X.env).length=n:=by rfl) (Gj:(assignEach es X.env).findIdx? (·.1)=none:=by rfl):PG X (.Tuple es k pos) (Bq X.K n t):=by
 intro pins s σ H v u Q I r hw;obtain ⟨a,xs,e1,hq,hl,hw⟩:=hw;subst e1;cases r;obtain ⟨its,rv,ht,hz⟩:=I.tuple hq;refine assign_Tuple_tuple (I.ok.hd hc) ht (by simp [hn,←hl,rv.length]) Gj fun h' hx=>?_
 have I1:Inv X pins σ H {s with heap:=h'}:=I.kept (t':=s.toks) fun b o e=>hx b o (bY (aY e)) e;exact h pins _ σ H xs _ Q I1 (by simpa using rv) hw
def Gk(to ti:TE)(t:xS):TG:=fun v σ H Q=>to σ H fun o H1=>ti σ H1 fun i H2=>t o i v H2 fun H3=>Q σ H3
theorem xU{o i:Expr}{to ti:TE}{t:xS}(ho:PE X o to)(hi:PE X i ti)(hs:Bo X t)
  (ha:∀v,assign (.Subscript o i pos) X.env v=(do
   let ov ←holding [v] (eval o X.env)
   let iv ←holding [v,ov] (eval i X.env)
   standAt pos
   holding [v,ov,iv] (setItem ov iv v)
   release [v,ov,iv] []):=by intro _;rfl):PG X (.Subscript o i pos) (Gk to ti t):=by
 intro pins s σ H v u Q I r h
 rw [ha]
 refine aB (kP (aI (ho pins s σ H _ I h) fun ov s1 ⟨x,H1,I1,r1,q1⟩=>?_))
 refine aB (kP (aI (hi pins s1 σ H1 _ I1 q1) fun iv s2 ⟨y,H2,I2,r2,q2⟩=>?_))
 refine aB (q0 (aB (kP (aI (hs pins s2 σ H2 x y v ov iv u _ I2 r1 r2 r q2) fun _ s3 ⟨H3,I3,q3⟩=>?_))))
 exact wpAny_release ⟨σ,H3,I3,q3⟩
def mD(te:TE)(g:TG):TS:=fun D σ H=>te σ H fun x H1=>g x σ H1 D.nx
theorem uK{tg e:Expr}{te:TE}{g:TG}(he:PE X e te)(hg:PG X tg g)(hs:swapsWithSole [tg] e pos.line X.env=pure false:=by rfl)(hw:swappedStores [tg] e X.env=pure none:=by rfl)
  (h1:(assignEach [tg] X.env).map (·.2)=[assign tg X.env]:=by rfl):PS X (.Assign [tg] e pos) (mD te g):=by
 intro pins s σ H D I h;refine wpAny_Assign_stores (aI (he pins s σ H _ I h) fun v s1 ⟨x,H1,I1,r1,q1⟩=>?_) hs hw;rw [h1];exact aI (hg pins s1 σ H1 x v _ I1 r1 q1) fun _ s2 q=>q
theorem Gm{x:Str}{te:TE}{pos':Pos}(hN:X.N.Nodup)(hi:X.N[i]?=some x)(hx:Loc X.env.scope x)(he:PE X e te)(hs:swapsWith e (some (.Name x pos')) pos.line X.env=pure false:=by rfl)(hf:X.fn x=true∨X.env.scope.names.lookup x=some .local:=by first | exact .inl rfl | exact .inr rfl | assumption) :
  PS X (.Assign [.Name x pos'] e pos) (mD te (cL i)):=by
 intro pins s σ H D I h;refine wpAny_Assign_Name (aI (he pins s σ H _ I h) fun v s1 ⟨y,H1,I1,r1,q1⟩=>?_) hs;exact Bf I1 hN hi hx r1 (fun s2 I2=>⟨_,H1,I2,q1⟩) hf
end
section
variable {X:Cx} {pos:Pos}
def Gn(c:TT)(tb:TS):TS:=fun D σ H=>∃W:Nat→St→Hp→Prop,(∃m,W m σ H)∧∀m σ H,W m σ H→
 c σ H fun b H1=>if b=true then ∃N:St→Hp→Prop,(∀σ' H',N σ' H'→∃m',m'<m∧W m' σ' H')∧tb {D with nx:=N,ct:=N,bk:=D.nx} σ H1 else D.nx σ H1
theorem Gp{c:Expr}{body:List Stmt}{tc:TT}{tb:TS}(hp:PassesOwn (model X.prog X.w) X.A X.env X.xe)(hc:PT X c tc)(hb:ei X body tb):PS X (.While c body [] pos) (Gn tc tb):=by
 intro pins s σ H D I h;obtain ⟨W,⟨m0,w0⟩,turn⟩:=h;refine wpAny_While (codeAny_whileLoop (fun n s'=>∃σ' H',Inv X pins σ' H' s'∧W n σ' H') ?_ m0 ⟨σ,H,I,w0⟩);rintro n s1 ⟨σ1,H1,I1,w1⟩;refine l8 hp (aI (hc pins s1 σ1 H1 _ I1 (turn n σ1 H1 w1)) fun b s2 ⟨H2,I2,q2⟩=>?_);cases b with
 | true=>
  obtain ⟨N,hN,q2⟩:=q2;rw [ae rfl];refine l8 hp (aI (hb pins s2 σ1 H2 _ I2 q2) fun f s3 q3=>?_);cases f with
  | next=>obtain ⟨σ3,H3,I3,n3⟩:=q3;obtain ⟨m',hm,w3⟩:=hN σ3 H3 n3;exact ⟨m',hm,σ3,H3,I3,w3⟩
  | cont=>obtain ⟨σ3,H3,I3,n3⟩:=q3;obtain ⟨m',hm,w3⟩:=hN σ3 H3 n3;exact ⟨m',hm,σ3,H3,I3,w3⟩
  | brk=>exact q3
  | ret v=>exact q3
 | false=>rw [aa b_];exact uc ⟨σ1,H2,I2,q2⟩
end
structure It where
 go:Nat→Hp→Prop
 dH:Nat→Hp→V→Hp→Prop
 stop:Nat→Hp→Prop
def ke(X:Cx)(pins:aN)(H:Hp)(b:Addr):Prop:=
 H b=none∧b≠X.env.locals∧b∉X.fs∧(b∈X.ex∨X.s₀.heap.objs.size≤b)∧(∀x c,X.env.cells.lookup x=some c→c≠b)∧∀p∈X.pn++pins,p.1≠b
variable {σ:St}
theorem Inv.oP{pins:aN}{H':Hp}(I:Inv X pins σ H s)(hb:s.heap.objs.size≤b)(hn:H' b=none):ke X pins H' b:=by
 refine ⟨hn,Nat.ne_of_gt (dZ I.lt hb),I.F2 hb,.inr (cG I.sz hb),fun x c e z=>?_,fun p hp z=>?_⟩
 ·obtain ⟨v,q⟩:=I.cell x c e
  exact absurd (dZ q.lt (by rw [z];exact hb)) (eL _)
 ·exact absurd (dZ (aY (I.pin p hp).1) (by rw [z];exact hb)) (eL _)
structure Turn (P:Program) (w:World) (K:aH) (tg:Expr) (J:It) (fp:List Addr) (it:Addr) (tn:Nat→Heap→Prop):Prop where
 mem:it∈fp
 obj:∀i h,tn i h→∀b∈fp,∃o,h.get? b=some o∧∀v,o.data≠.cell v
 keep:∀i h h',tn i h→(∀b∈fp,∀o,h.get? b=some o→h'.get? b=some o)→tn i h'
 item:∀(X:Cx),X.prog=P→X.w=w→X.K=K→X.calm=true→∀(i:Nat) (pins:aN) (s:Shared) (σ:St) (H:Hp) (E:aE),Inv X pins σ H s→(∀b∈fp,ke X pins H b)→tn i s.heap→J.go i H→
  wpAny (model P w) X.A (pyNext (.ref it)) (fun r s1=>∃u,r=some u ∧
   wpAny (model P w) X.A (letOwnedTupleGo tg (.ref it) u) (fun _ s2=>∃x H',Inv X pins σ H' s2∧RelV x u∧J.dH i H x H'∧tn (i+1) s2.heap∧∀b∈fp,H' b=none) E s1) E s
 done:∀(X:Cx),X.prog=P→X.w=w→X.K=K→X.calm=true→∀(i:Nat) (pins:aN) (s:Shared) (σ:St) (H:Hp) (E:aE),Inv X pins σ H s→(∀b∈fp,ke X pins H b)→tn i s.heap→J.stop i H→
  wpAny (model P w) X.A (pyNext (.ref it)) (fun r s1=>r=none∧Inv X pins σ H s1) E s
 self:∀(A:Around) (i:Nat) (s:Shared) (Q:aE) (E:aE),tn i s.heap→Q (.ref it) s→wpAny (model P w) A (pyIter (.ref it)) Q E s
abbrev TI:=St→Hp→(It→Hp→Prop)→Prop
def xV(X:Cx)(pins:aN)(σ:St)(tg:Expr)(R:It→Hp→Prop)(rS:Value)(s2:Shared):Prop:=
 ∃(it:Addr) (fp:List Addr) (tn:Nat→Heap→Prop) (J:It) (H':Hp),rS=.ref it∧Inv X pins σ H' s2∧Turn X.prog X.w X.K tg J fp it tn∧tn 0 s2.heap∧(∀b∈fp,ke X pins H' b)∧R J H'
def PI(X:Cx)(tg iter:Expr)(wi:TI):Prop:=
 ∀(pins:aN) (s:Shared) (σ:St) (H:Hp) (R:It→Hp→Prop),Inv X pins σ H s→wi σ H R→
  wpAny (model X.prog X.w) X.A (eval iter X.env) (fun v s1=>wpAny (model X.prog X.w) X.A (pyIter v) (xV X pins σ tg R) X.xe s1) X.xe s
variable {tg:Expr}
theorem uL{it:Addr}{u:Value}{o:Obj}{n:String}{vs:Array Value}{Q:Unit→Shared→Prop}(ho:s.heap.get? it=some o)(hc:o.cls=.type n)(hd:o.data=.fields vs)
    (hn:["enumerate","zip","dict_itemiterator","dict_reverseitemiterator","odict_iterator","itertools.zip_longest","itertools.pairwise"].contains n=false) (hQ:Q () s):wpAny M A (letOwnedTupleGo tg (.ref it) u) Q E s:=by
  unfold letOwnedTupleGo
  cases tg <;> first
    | exact cf hQ
    | (cases u <;> first
        | exact cf hQ
        | (refine aB (wpAny_load ho ?_)
           rw [hc,hd];show wpAny M A (if (["enumerate","zip","dict_itemiterator","dict_reverseitemiterator","odict_iterator","itertools.zip_longest","itertools.pairwise"].contains n && vs[0]? == some (rawInt _))=true then _ else _) Q E s
           rw [aa (by intro h;rw [hn,Bool.false_and] at h;cases h)]
           exact cf hQ))
def oQ(K:aH)(a:Addr):It:=
 ⟨fun i H=>∃xs x,bD K H a xs∧xs[i]?=some x,fun i H x H'=>H'=H∧∀xs,bD K H a xs→xs[i]?=some x,fun i H=>∃xs,bD K H a xs∧xs.length≤i⟩
def rT(K:aH)(a:Addr):It:=
 ⟨fun i H=>∃xs x,dw K H a xs∧xs[i]?=some x,fun i H x H'=>H'=H∧∀xs,dw K H a xs→xs[i]?=some x,fun i H=>∃xs,dw K H a xs∧xs.length≤i⟩
def jr(lo:Int)(n:Nat):It:=⟨fun i _=>i<n,fun i H x H'=>H'=H∧x=.int (lo+i),fun i _=>n≤i⟩
variable {K:aH}
theorem Gq(a it:Addr):Turn P w K tg (oQ K a) [it] it (fun i h=>h.IsListIter it a i) where
 mem:=by simp
 obj:=fun i h st b hb=>by
  have e:b=it:=by simpa using hb
  subst e;obtain ⟨o,e,c,d⟩:=st;exact ⟨o,e,fun v z=>by rw [d] at z;cases z⟩
 keep:=fun i h h' st k=>st.at fun o e=>k it (by simp) o e
 item:=by
  intro X hP hw hK hc i pins s σ H E I hf st hg;subst hP hw hK;obtain ⟨xs,x,hq,hx⟩:=hg;obtain ⟨its,rv,p,hz⟩:=I.list hq;obtain ⟨u,hu,ru⟩:=rv.get hx;obtain ⟨f0,f1,f2,f3,f4,f5⟩:=hf it (by simp)
  refine wpAny_pyNext_list_item st p.isList (x:=u) (by simpa using hu) fun h' aq sb=>?_
  have I1:Inv X pins σ H {s with heap:=h'}:=I.turned (t':=s.toks) (fun b o hb e=>(sb.2 b hb).trans e) f0 f1 f3 f4 f5;obtain ⟨o,e,c,d⟩:=id aq;exact ⟨u,rfl,uL (s:={s with heap:=h'}) e c d (by decide) ⟨x,H,I1,ru,⟨rfl,fun ys hy=>by rw [I.Bl hy hq];exact hx⟩,aq,fun b hb=>(hf b hb).1⟩⟩
 done:=by
  intro X hP hw hK hc i pins s σ H E I hf st hg;subst hP hw hK;obtain ⟨xs,hq,hx⟩:=hg;obtain ⟨its,rv,p,hz⟩:=I.list hq;obtain ⟨f0,f1,f2,f3,f4,f5⟩:=hf it (by simp)
  have hl:=rv.length;exact wpAny_pyNext_list_end (I.ok.hd hc) st p.isList (by simp;lia) fun h' eb=>⟨rfl,I.turned (t':=s.toks) (fun b o hb e=>eb b o hb e) f0 f1 f3 f4 f5⟩
 self:=fun _ _ _ _ _ st h=>wpAny_pyIter_listiter st h
theorem Gr(a it:Addr):Turn P w K tg (rT K a) [it] it (fun i h=>h.IsTupleIter it a i) where
 mem:=by simp
 obj:=fun i h st b hb=>by
  have e:b=it:=by simpa using hb
  subst e;obtain ⟨o,e,c,d⟩:=st;exact ⟨o,e,fun v z=>by rw [d] at z;cases z⟩
 keep:=fun i h h' st k=>st.at fun o e=>k it (by simp) o e
 item:=by
  intro X hP hw hK hc i pins s σ H E I hf st hg;subst hP hw hK;obtain ⟨xs,x,hq,hx⟩:=hg;obtain ⟨its,rv,p,hz⟩:=I.tuple hq;obtain ⟨u,hu,ru⟩:=rv.get hx;obtain ⟨f0,f1,f2,f3,f4,f5⟩:=hf it (by simp)
  refine wpAny_pyNext_tuple_item st (show s.heap.IsTuple a its.toArray from p) (x:=u) (by simpa using hu) fun h' aq sb=>?_
  have I1:Inv X pins σ H {s with heap:=h'}:=I.turned (t':=s.toks) (fun b o hb e=>(sb.2 b hb).trans e) f0 f1 f3 f4 f5;obtain ⟨o,e,c,d⟩:=id aq;exact ⟨u,rfl,uL (s:={s with heap:=h'}) e c d (by decide) ⟨x,H,I1,ru,⟨rfl,fun ys hy=>by rw [I.Bm hy hq];exact hx⟩,aq,fun b hb=>(hf b hb).1⟩⟩
 done:=by
  intro X hP hw hK hc i pins s σ H E I hf st hg;subst hP hw hK;obtain ⟨xs,hq,hx⟩:=hg;obtain ⟨its,rv,p,hz⟩:=I.tuple hq;obtain ⟨f0,f1,f2,f3,f4,f5⟩:=hf it (by simp)
  have hl:=rv.length;exact wpAny_pyNext_tuple_end (I.ok.hd hc) st (show s.heap.IsTuple a its.toArray from p) (by simp;lia) fun h' eb=>⟨rfl,I.turned (t':=s.toks) (fun b o hb e=>eb b o hb e) f0 f1 f3 f4 f5⟩
 self:=fun _ _ _ _ _ st h=>wpAny_pyIter_tupleiter st h
theorem Gs(it:Addr)(lo:Int)(n:Nat):Turn P w K tg (jr lo n) [it] it (fun i h=>IsRangeIter h it (lo+(i:Nat)*1) ((n:Int)-(i:Nat)) 1) where
 mem:=by simp
 obj:=fun i h st b hb=>by
  have e:b=it:=by simpa using hb
  subst e;exact ⟨_,st,fun v z=>by have z':Data.fields _=Data.cell v:=z;cases z'⟩
 keep:=fun i h h' st k=>k it (by simp) _ st
 item:=by
  intro X hP hw hK hc i pins s σ H E I hf st hg;subst hP hw hK;obtain ⟨f0,f1,f2,f3,f4,f5⟩:=hf it (by simp)
  have W:=Walks.range (prog:=X.prog) (w:=X.w) (I.ok.hd hc) it lo 1 n;refine W.item i s _ _ hg st fun v h' tk hv aq kk=>?_;obtain ⟨t,rfl⟩:=hv;have I1:Inv X pins σ H {s with heap:=h',toks:=tk}:=I.turned (fun b o hb e=>kk b o (by simpa using hb) e) f0 f1 f3 f4 f5
  refine ⟨_,rfl,uL (s:={s with heap:=h',toks:=tk}) (n:="range_iterator") aq rfl rfl (by decide) ⟨.int (lo+i),H,I1,⟨t,?_⟩,⟨rfl,rfl⟩,aq,fun b hb=>(hf b hb).1⟩⟩
  rw [Int.mul_one]
 done:=by
  intro X hP hw hK hc i pins s σ H E I hf st hg;subst hP hw hK;obtain ⟨f0,f1,f2,f3,f4,f5⟩:=hf it (by simp)
  exact wpAny_pyNext_range_end (I.ok.hd hc) st (by have:n≤i:=hg;lia) fun h' eb=>⟨rfl,I.turned (t':=s.toks) (fun b o hb e=>eb b o hb e) f0 f1 f3 f4 f5⟩
 self:=fun _ _ _ _ _ st h=>wpAny_pyIter_rangeiter st h
section
variable {X:Cx} {tg:Expr}
def Gu(K:aH)(tl:TE):TI:=fun σ H R=>tl σ H fun x H1=>∃a,x=.ref a∧(∃xs,bD K H1 a xs)∧R (oQ K a) H1
def Gv(K:aH)(tl:TE):TI:=fun σ H R=>tl σ H fun x H1=>∃a,x=.ref a∧(∃xs,dw K H1 a xs)∧R (rT K a) H1
variable {l:Expr} {tl:TE}
theorem iQ(hl:PE X l tl):PI X tg l (Gu X.K tl):=by
 intro pins s σ H R I h;refine aI (hl pins s σ H _ I h) fun v s1 ⟨x,H1,I1,r1,q1⟩=>?_;obtain ⟨a,e,⟨xs,hq⟩,q⟩:=q1;subst e;cases r1;obtain ⟨its,rv,p,hz⟩:=I1.list hq;refine wpAny_pyIter_list p.isList ?_;refine ⟨s1.heap.objs.size,[s1.heap.objs.size],_,_,H1,rfl,I1.kept (t':=s1.toks) fun b o e=>bS _ e,Gq a _,⟨_,dE _ rfl,rfl,rfl⟩,fun b hb=>?_,q⟩;have e:b=s1.heap.objs.size:=by simpa using hb
 subst e;exact I1.oP (aw _) (I1.au.fresh (aw _))
theorem uN(hl:PE X l tl):PI X tg l (Gv X.K tl):=by
 intro pins s σ H R I h;refine aI (hl pins s σ H _ I h) fun v s1 ⟨x,H1,I1,r1,q1⟩=>?_;obtain ⟨a,e,⟨xs,hq⟩,q⟩:=q1;subst e;cases r1;obtain ⟨its,rv,p,hz⟩:=I1.tuple hq;refine ud (show s1.heap.IsTuple a its.toArray from p) ?_;refine ⟨s1.heap.objs.size,[s1.heap.objs.size],_,_,H1,rfl,I1.kept (t':=s1.toks) fun b o e=>bS _ e,Gr a _,⟨_,dE _ rfl,rfl,rfl⟩,fun b hb=>?_,q⟩;have e:b=s1.heap.objs.size:=by simpa using hb
 subst e;exact I1.oP (aw _) (I1.au.fresh (aw _))
variable {pins:aN}
theorem Br{R:It→Hp→Prop}{lo hi:Int}{t u v:Tok}{tk:Nat}(I:Inv X pins σ H s)(h1:-(2 ^ 62)≤lo)(h2:lo<2 ^ 62)(h3:-(2 ^ 62)≤hi)(h4:hi<2 ^ 62)
  (q:R (jr lo (hi-lo).toNat) H):wpAny (model X.prog X.w) X.A (pyIter (.ref s.heap.objs.size)) (xV X pins σ tg R) E {s with heap:=s.heap.push {cls:=.type "range",data:=.fields #[.int lo t,.int hi u,.int 1 v]},toks:=tk}:=by
 refine wpAny_pyIter_range (IsRange.new ..) (small_one h1 h2 h3 h4) ?_;have I1:Inv X pins σ H {s with heap:=s.heap.push {cls:=.type "range",data:=.fields #[.int lo t,.int hi u,.int 1 v]},toks:=tk}:=I.kept fun b o e=>bS _ e
 refine ⟨(s.heap.push {cls:=.type "range",data:=.fields #[.int lo t,.int hi u,.int 1 v]}).objs.size,[(s.heap.push {cls:=.type "range",data:=.fields #[.int lo t,.int hi u,.int 1 v]}).objs.size],_,_,H,rfl,
  I1.kept (t':=tk) fun b o e=>bS _ e,Gs _ lo (hi-lo).toNat,?_,fun b hb=>?_,q⟩
 ·have e1:lo+((0:Nat):Int)*1=lo:=by simp
  have e2:(((hi-lo).toNat:Nat):Int)-((0:Nat):Int)=Builtin.Range.rangeSize lo hi 1:=by rw [rangeSize_one];split <;> lia
  show IsRangeIter _ _ (lo+((0:Nat):Int)*1) ((((hi-lo).toNat:Nat):Int)-((0:Nat):Int)) 1;rw [e1,e2];exact dE _ rfl
 ·have e:b=(s.heap.push {cls:=.type "range",data:=.fields #[.int lo t,.int hi u,.int 1 v]}).objs.size:=by simpa using hb
  subst e;exact I1.oP (aw _) (I1.au.fresh (aw _))
def Gw(ta:TA):TI:=fun σ H R=>ta σ H fun vs H1=>∃j:Int,vs=[.int j]∧-(2 ^ 62)≤j∧j<2 ^ 62∧R (jr 0 j.toNat) H1
def Gx(ta:TA):TI:=fun σ H R=>ta σ H fun vs H1=>∃i j:Int,vs=[.int i,.int j]∧(-(2 ^ 62)≤i∧i<2 ^ 62∧-(2 ^ 62)≤j∧j<2 ^ 62)∧R (jr i (j-i).toNat) H1
variable {ta:TA} {p pos:Pos}
theorem fb{a:Expr}(hg:Gl X "range")(hm:X.mg "range"=none)(ha:PA X [a] ta)(hs:starEach [a] X.env=[(false,eval a X.env)]:=by rfl):PI X tg (.Call (.Name "range" p) [a] [] pos) (Gw ta):=by
 intro pins s σ H R I h;refine Call_ (j_ I hg hm boot_range (q5 (aI (ha pos pins s σ H _ I h) fun us s1 ⟨vs,H1,I1,r1,q1⟩=>?_) hs rfl));obtain ⟨j,e,q1,q2,q⟩:=q1;subst e;cases r1 with
 | cons r rr=>cases rr;obtain ⟨t,rfl⟩:=r;exact call_range_1 (Br I1 (by lia) (by lia) q1 q2 (by simpa using q))
theorem Bs{a b:Expr}(hg:Gl X "range")(hm:X.mg "range"=none)(ha:PA X [a,b] ta)(hs:starEach [a,b] X.env=[(false,eval a X.env),(false,eval b X.env)]:=by rfl)(oR:starEach [b] X.env=[(false,eval b X.env)]:=by rfl) :
  PI X tg (.Call (.Name "range" p) [a,b] [] pos) (Gx ta):=by
 intro pins s σ H R I h;refine Call_ (j_ I hg hm boot_range (q5 (aI (ha pos pins s σ H _ I h) fun us s1 ⟨vs,H1,I1,r1,q1⟩=>?_) (by rw [hs,oR]) (by rw [oR];rfl)))
 obtain ⟨i,j,e,⟨q1,q2,q3,q4⟩,q⟩:=q1;subst e;cases r1 with
 | cons r rr=>
  cases rr with
  | cons r' rr=>cases rr;obtain ⟨t,rfl⟩:=r;obtain ⟨t',rfl⟩:=r';exact call_range_2 (Br I1 q1 q2 q3 q4 q)
def Gy(wi:TI)(g:TG)(tb:TS):TS:=fun D σ H=>wi σ H fun J H1=>∃W:Nat→Nat→St→Hp→Prop,(∃m,W 0 m σ H1)∧∀i m σ H,W i m σ H→
 (J.stop i H∧D.nx σ H)∨(J.go i H∧∃N:St→Hp→Prop,(∀σ' H',N σ' H'→∃m',m'<m∧W (i+1) m' σ' H')∧∀x H',J.dH i H x H'→g x σ H' fun σ2 H2=>tb {D with nx:=N,ct:=N,bk:=D.nx} σ2 H2)
def jt(fp:List Addr)(h:Heap):List (Addr×Obj):=fp.filterMap fun b=>(h.get? b).map fun o=>(b,o)
variable {fp:List Addr}
theorem k7{o:Obj}(hb:b∈fp)(e:h.get? b=some o):(b,o)∈jt fp h:=List.mem_filterMap.mpr ⟨b,hb,by rw [e];rfl⟩
theorem Gz{p:Addr×Obj}(hp:p∈jt fp h):p.1∈fp∧h.get? p.1=some p.2:=by
 obtain ⟨b,hb,e⟩:=List.mem_filterMap.mp hp;cases q:h.get? b with
 | none=>rw [q] at e;cases e
 | some o=>rw [q] at e;have e':(b,o)=p:=Option.some.inj e;subst e';exact ⟨hb,q⟩
theorem Inv.pinned(I:Inv X pins σ H s)(hf:∀b∈fp,ke X pins H b)(ho:∀b∈fp,∃o,s.heap.get? b=some o∧∀v,o.data≠.cell v):Inv X (pins++jt fp s.heap) σ H s:=
 I.A8 fun p hp=>(cR.mp hp).elim (fun z=>I.pin p (c_ _ z)) fun z=>by obtain ⟨hb,e⟩:=Gz z;obtain ⟨f0,f1,f2,_⟩:=hf p.1 hb;obtain ⟨o,e',d⟩:=ho p.1 hb;rw [e] at e';cases e';exact ⟨e,f0,f1,f2,d⟩
theorem Inv.oS{pl:aN}(I:Inv X (pins++pl) σ H s):Inv X pins σ H s:=I.A8 fun p hp=>I.pin p (c_ _ (jV _ hp))
theorem en{iter:Expr}{body:List Stmt}{wi:TI}{g:TG}{tb:TS}(hp:PassesOwn (model X.prog X.w) X.A X.env X.xe)(hc:X.calm=true)(hi:PI X tg iter wi)(hg:PG X tg g)(hb:ei X body tb)
  (hs:∀x,foldedSetIterable iter X.env x=pure x:=by intro _;rfl):PS X (.For tg iter body [] pos) (Gy wi g tb):=by
 intro pins s σ H D I h;refine wpAny_For (aI (hi pins s σ H _ I h) fun v s1 h1=>aI h1 fun rS s2 h2=>?_) hs;obtain ⟨it,fp,tn,J,H2,e,I2,T,gM,f2,W,⟨m0,w0⟩,turn⟩:=h2;subst e;have fD:∀{H':Hp},(∀b∈fp,H' b=none)→∀b∈fp,ke X pins H' b:=fun hn b hb=>⟨hn b hb,(f2 b hb).2⟩;refine codeAny_forLoop_any (fun n s'=>∃i σ' H',Inv X pins σ' H' s'∧tn i s'.heap∧(∀b∈fp,H' b=none)∧W i n σ' H') ?_ m0 ⟨0,σ,H2,I2,gM,fun b hb=>(f2 b hb).1,w0⟩;rintro n s3 ⟨i,σ3,H3,I3,Bt,Bu,w3⟩;rcases turn i n σ3 H3 w3 with ⟨stop,qn⟩ | ⟨go,N,hN,step⟩
 ·refine l8 hp (aI (T.done X rfl rfl rfl hc i pins s3 σ3 H3 X.xe I3 (fD Bu) Bt stop) fun r s4 ⟨hr,I4⟩=>?_)
  subst hr;exact uc ⟨σ3,H3,I4,qn⟩
 ·refine l8 hp (aI (T.item X rfl rfl rfl hc i pins s3 σ3 H3 X.xe I3 (fD Bu) Bt go) fun r s4 ⟨u,hr,h4⟩=>?_)
  subst hr;refine l8 hp (aI h4 fun _ s5 ⟨x,H5,I5,r5,y5,fE,mE⟩=>?_);have mF:=I5.pinned (fD mE) (T.obj _ _ fE);refine l8 hp (aI (hg _ s5 σ3 H5 x u _ mF r5 (step x H5 y5)) fun _ s6 ⟨σ6,H6,I6,q6⟩=>?_);refine l8 hp (aI (hb _ s6 σ6 H6 _ I6 q6) fun f s7 q7=>?_);have again:∀{σ7:St} {H7:Hp},Inv X (pins++jt fp s5.heap) σ7 H7 s7→N σ7 H7→∃m,m<n∧∃i σ' H',Inv X pins σ' H' s7∧tn i s7.heap∧(∀b∈fp,H' b=none)∧W i m σ' H':=fun{σ7 H7} I7 n7=>by obtain ⟨m',hm,w7⟩:=hN σ7 H7 n7;refine ⟨m',hm,i+1,σ7,H7,I7.oS,T.keep _ _ _ fE fun b hb o e=>(I7.pin (b,o) (c_ _ (c_ _ (k7 hb e)))).1,fun b hb=>?_,w7⟩;obtain ⟨o,e,d⟩:=T.obj _ _ fE b hb;exact (I7.pin (b,o) (c_ _ (c_ _ (k7 hb e)))).2.1
  cases f with
  | next=>obtain ⟨σ7,H7,I7,n7⟩:=q7;exact again I7 n7
  | cont=>obtain ⟨σ7,H7,I7,n7⟩:=q7;exact again I7 n7
  | brk=>obtain ⟨σ7,H7,I7,q7⟩:=q7;exact ⟨σ7,H7,I7.oS,q7⟩
  | ret v=>obtain ⟨x7,σ7,H7,I7,r7,q7⟩:=q7;exact ⟨x7,σ7,H7,I7.oS,r7,q7⟩
end
variable {g:TG} {tb:TS} {D:Ends}
theorem rU(Pv:Nat→St→Hp→Prop)(h0:Pv 0 σ H)(hl:∀i σ H,i≤xs.length→Pv i σ H→bD K H a xs)
  (hs:∀i x σ H,xs[i]?=some x→Pv i σ H→g x σ H fun σ2 H2=>tb {D with nx:=Pv (i+1),ct:=Pv (i+1),bk:=D.nx} σ2 H2) (hd:∀σ H,Pv xs.length σ H→D.nx σ H) :
  ∃W:Nat→Nat→St→Hp→Prop,(∃m,W 0 m σ H)∧∀i m σ H,W i m σ H→
   ((oQ K a).stop i H∧D.nx σ H)∨((oQ K a).go i H∧∃N:St→Hp→Prop,(∀σ' H',N σ' H'→∃m',m'<m∧W (i+1) m' σ' H')∧∀x H',(oQ K a).dH i H x H'→g x σ H' fun σ2 H2=>tb {D with nx:=N,ct:=N,bk:=D.nx} σ2 H2):=by
 refine ⟨fun i m σ H=>m=xs.length-i∧i≤xs.length∧Pv i σ H,⟨xs.length,by simp,cg _,h0⟩,?_⟩
 rintro i m σ H ⟨rfl,hi,p⟩;have q:=hl i σ H hi p;by_cases b4:i<xs.length
 ·refine .inr ⟨⟨xs,xs[i],q,by simp [b4]⟩,Pv (i+1),fun σ' H' p'=>⟨xs.length-(i+1),by lia,rfl,b4,p'⟩,fun x H' y=>?_⟩
  obtain ⟨e,y⟩:=y;subst e;exact hs i x σ _ (y xs q) p
 ·have e:i=xs.length:=by lia
  subst e;exact .inl ⟨⟨xs,q,aw _⟩,hd σ H p⟩
theorem uO(Pv:Nat→St→Hp→Prop)(h0:Pv 0 σ H)(hl:∀i σ H,i≤xs.length→Pv i σ H→dw K H a xs)
  (hs:∀i x σ H,xs[i]?=some x→Pv i σ H→g x σ H fun σ2 H2=>tb {D with nx:=Pv (i+1),ct:=Pv (i+1),bk:=D.nx} σ2 H2) (hd:∀σ H,Pv xs.length σ H→D.nx σ H) :
  ∃W:Nat→Nat→St→Hp→Prop,(∃m,W 0 m σ H)∧∀i m σ H,W i m σ H→
   ((rT K a).stop i H∧D.nx σ H)∨((rT K a).go i H∧∃N:St→Hp→Prop,(∀σ' H',N σ' H'→∃m',m'<m∧W (i+1) m' σ' H')∧∀x H',(rT K a).dH i H x H'→g x σ H' fun σ2 H2=>tb {D with nx:=N,ct:=N,bk:=D.nx} σ2 H2):=by
 refine ⟨fun i m σ H=>m=xs.length-i∧i≤xs.length∧Pv i σ H,⟨xs.length,by simp,cg _,h0⟩,?_⟩
 rintro i m σ H ⟨rfl,hi,p⟩;have q:=hl i σ H hi p;by_cases b4:i<xs.length
 ·refine .inr ⟨⟨xs,xs[i],q,by simp [b4]⟩,Pv (i+1),fun σ' H' p'=>⟨xs.length-(i+1),by lia,rfl,b4,p'⟩,fun x H' y=>?_⟩
  obtain ⟨e,y⟩:=y;subst e;exact hs i x σ _ (y xs q) p
 ·have e:i=xs.length:=by lia
  subst e;exact .inl ⟨⟨xs,q,aw _⟩,hd σ H p⟩
variable {n:Nat}
theorem ju{lo:Int}(Pv:Nat→St→Hp→Prop)(h0:Pv 0 σ H)
  (hs:∀i σ H,i<n→Pv i σ H→g (.int (lo+i)) σ H fun σ2 H2=>tb {D with nx:=Pv (i+1),ct:=Pv (i+1),bk:=D.nx} σ2 H2) (hd:∀σ H,Pv n σ H→D.nx σ H) :
  ∃W:Nat→Nat→St→Hp→Prop,(∃m,W 0 m σ H)∧∀i m σ H,W i m σ H→
   ((jr lo n).stop i H∧D.nx σ H)∨((jr lo n).go i H∧∃N:St→Hp→Prop,(∀σ' H',N σ' H'→∃m',m'<m∧W (i+1) m' σ' H')∧∀x H',(jr lo n).dH i H x H'→g x σ H' fun σ2 H2=>tb {D with nx:=N,ct:=N,bk:=D.nx} σ2 H2):=by
 refine ⟨fun i m σ H=>m=n-i∧i≤n∧Pv i σ H,⟨n,by simp,cg _,h0⟩,?_⟩
 rintro i m σ H ⟨rfl,hi,p⟩;by_cases b4:i<n
 ·refine .inr ⟨b4,Pv (i+1),fun σ' H' p'=>⟨n-(i+1),by lia,rfl,b4,p'⟩,fun x H' y=>?_⟩
  obtain ⟨e,y⟩:=y;subst e y;exact hs i σ _ b4 p
 ·have e:i=n:=by lia
  subst e;exact .inl ⟨aw _,hd σ H p⟩
abbrev R2:=V→V→Hp→VK→Prop
def cA(X:Cx)(f:Value→Value→Sem Value)(r:R2):Prop:=
 ∀(pins:aN) (s:Shared) (σ:St) (H:Hp) (x y:V) (v u:Value) (Q:VK),Inv X pins σ H s→RelV x v→RelV y u→r x y H Q→
  wpAny (model X.prog X.w) X.A (f v u) (EP X pins σ Q) X.xe s
def fF(X:Cx)(f:Value)(r:List V→Hp→VK→Prop):Prop:=
 ∀(pins:aN) (s:Shared) (σ:St) (H:Hp) (xs:List V) (us:List Value) (Q:VK),Inv X pins σ H s→Vals xs us→r xs H Q→
  wpAny (model X.prog X.w) X.A (call f us) (EP X pins σ Q) X.xe s
def k8(r:R2)(ta tb:TE):TE:=fun σ H Q=>ta σ H fun x H1=>tb σ H1 fun y H2=>r x y H2 Q
def rI(C:Int→Int→Prop)(g:Int→Int→V):R2:=fun x y H Q=>∃i j,x=.int i∧y=.int j∧C i j∧Q (g i j) H
def k9(g:Int→Int→V):R2:=fun x y H Q=>∃i j,x=.int i∧y=.int j∧Q (g i j) H
section
variable {X:Cx} {a b c:Expr} {ta tb tc:TE} {pos:Pos}
variable {f:Value→Value→Sem Value}
theorem xW(ha:PE X a ta)(hb:PE X b tb){pins:aN}{R:V→V→Hp→Prop}(I:Inv X pins σ H s)
  (h:ta σ H fun x H1=>tb σ H1 fun y H2=>R x y H2) {Q:aE}
  (hf:∀v u s2 x y H2,Inv X pins σ H2 s2→RelV x v→RelV y u→R x y H2→wpAny (model X.prog X.w) X.A (f v u) Q X.xe s2) :
  wpAny (model X.prog X.w) X.A (eval a X.env) (fun v s₁=>wpAny (model X.prog X.w) X.A (eval b X.env) (fun u s₂=>wpAny (model X.prog X.w) X.A (f v u) Q X.xe s₂) X.xe s₁) X.xe s:=by
 refine aI (ha pins s σ H _ I h) fun v s1 ⟨x,H1,I1,r1,q1⟩=>?_;refine aI (hb pins s1 σ H1 _ I1 q1) fun u s2 ⟨y,H2,I2,r2,q2⟩=>?_;exact hf v u s2 x y H2 I2 r1 r2 q2
theorem aO{op:Operator}{r:R2}(ho:cA X (binaryOp op) r)(ha:PE X a ta)(hb:PE X b tb):PE X (.BinOp a op b pos) (k8 r ta tb):=by intro pins s σ H Q I h;exact wpAny_BinOp (xW ha hb I h fun v u s2 x y H2 I2 rx ry q=>ho pins s2 σ H2 x y v u Q I2 rx ry q)
theorem xX{C:Int→Int→Prop}{g:Int→Int→Int}
  (rule:∀(i j:Int) (t u:Tok) (s:Shared) (Q:aE) (E:aE),C i j→Q (.int (g i j) s.toks) {s with toks:=s.toks+1}→wpAny (model X.prog X.w) X.A (f (.int i t) (.int j u)) Q E s) :
  cA X f (rI C fun i j=>.int (g i j)):=by
 intro pins s σ H x y v u Q I rx ry h;obtain ⟨i,j,rfl,rfl,hc,q⟩:=h;obtain ⟨t,rfl⟩:=rx;obtain ⟨t',rfl⟩:=ry;exact rule i j t t' s _ _ hc ⟨.int (g i j),H,I.tok _,⟨_,rfl⟩,q⟩
theorem Bv{g:Int→Int→Int}
  (rule:∀(i j:Int) (t u:Tok) (s:Shared) (Q:aE) (E:aE),Q (.int (g i j) s.toks) {s with toks:=s.toks+1}→wpAny (model X.prog X.w) X.A (f (.int i t) (.int j u)) Q E s) :
  cA X f (k9 fun i j=>.int (g i j)):=by
 intro pins s σ H x y v u Q I rx ry h;obtain ⟨i,j,rfl,rfl,q⟩:=h;obtain ⟨t,rfl⟩:=rx;obtain ⟨t',rfl⟩:=ry;exact rule i j t t' s _ _ ⟨.int (g i j),H,I.tok _,⟨_,rfl⟩,q⟩
theorem uP{g:Int→Int→Bool}
  (rule:∀(i j:Int) (t u:Tok) (s:Shared) (Q:aE) (E:aE),Q (.bool (g i j)) s→wpAny (model X.prog X.w) X.A (f (.int i t) (.int j u)) Q E s) :
  cA X f (k9 fun i j=>.bl (g i j)):=by
 intro pins s σ H x y v u Q I rx ry h;obtain ⟨i,j,rfl,rfl,q⟩:=h;obtain ⟨t,rfl⟩:=rx;obtain ⟨t',rfl⟩:=ry;exact rule i j t t' s _ _ ⟨.bl (g i j),H,I,rfl,q⟩
def GA(i j:Int):Prop:=0<j∧j<1073741824
def xY(i j:Int):Prop:=(-(2 ^ 64)<i∧i<2 ^ 64)∨(-(2 ^ 64)<j∧j<2 ^ 64)
theorem xY.ok{i j:Int}(h:xY i j):IntMulOk i j:=by
 rcases h with ⟨h1,h2⟩ | ⟨h1,h2⟩;·exact .of_left (intBits_le_64 h1 h2)
 ·exact .of_right (intBits_le_64 h1 h2)
theorem dg:cA X (binaryOp .Add) (k9 fun i j=>.int (i+j)):=Bv fun _ _ _ _ _ _ _ q=>add_int q
theorem gN:cA X (binaryOp .Sub) (k9 fun i j=>.int (i-j)):=Bv fun _ _ _ _ _ _ _ q=>sub_int q
theorem et:cA X (binaryOp .Mult) (rI xY fun i j=>.int (i*j)):=xX fun _ _ _ _ _ _ _ hc q=>mul_int q hc.ok
theorem xZ:cA X (binaryOp .FloorDiv) (rI GA fun i j=>.int (i / j)):=xX fun i j _ _ _ _ _ hc q=>by have h1:(0:Int)<j:=hc.1;have h2:j<1073741824:=hc.2;exact floordiv_int (by lia) (by rw [Int.fdiv_eq_ediv_of_nonneg i (by lia)];exact q) (.inl (PyProof.noPylong_small (by lia)))
theorem oU:cA X (binaryOp .Mod) (rI (fun _ j=>0<j) fun i j=>.int (i % j)):=xX fun i j _ _ _ _ _ hc q=>by have h1:(0:Int)<j:=hc;exact mod_int' (by lia) (by rw [Int.fmod_eq_emod_of_nonneg i (by lia)];exact q)
end
def Bw:V→V→Bool
 | .aQ,.aQ=>true | .aQ,.int _=>true | .int _,.aQ=>true | .aQ,.bl _=>true | .bl _,.aQ=>true | .aQ,.str _=>true | .str _,.aQ=>true
 | .int _,.int _=>true | .bl _,.bl _=>true | .str _,.str _=>true | .iL _,.iL _=>true
 | .int _,.str _=>true | .str _,.int _=>true | .bl _,.str _=>true | .str _,.bl _=>true
 | _,_=>false
def GB:R2:=fun x y H Q=>Bw x y=true∧Q (.bl (decide (x=y))) H
def GC:R2:=fun x y H Q=>Bw x y=true∧Q (.bl (!decide (x=y))) H
theorem Bx{i j:Int}:decide (V.int i=V.int j)=(i == j):=by rw [l9];simp
theorem By{i j:Bool}:decide (V.bl i=V.bl j)=(i == j):=by rw [l9];simp
theorem Bz{i j:Str}:decide (V.str i=V.str j)=(i == j):=by rw [l9];simp
theorem BA{i j:Array UInt8}:decide (V.iL i=V.iL j)=(i.toList == j.toList):=by rw [l9];cases i;cases j;simp
section
variable {X:Cx} {a b c:Expr} {ta tb tc:TE} {pos:Pos}
theorem cB{pins:aN}{Q:VK}{k k':Bool}(I:Inv X pins σ H s)(q:Q (.bl k) H)(e:k=k'):EP X pins σ Q (.bool k') s:=by subst e;exact ⟨.bl k,H,I,rfl,q⟩
theorem b5:cA X (compareOp .Eq) GB:=by
 intro pins s σ H x y v u Q I rx ry h;obtain ⟨hs,q⟩:=h;cases x with
 | aQ=>
  cases rx;cases y with
  | aQ=>cases ry;exact PySem.EqNone.eq_none_none (cB I q (by simp))
  | bl j=>cases ry;exact PySem.EqNone.eq_none_bool (cB I q (by simp))
  | int j=>obtain ⟨t',rfl⟩:=ry;exact PySem.EqNone.eq_none_int (cB I q (by simp))
  | str j=>obtain ⟨t',rfl⟩:=ry;exact PySem.EqNone.eq_none_str (cB I q (by simp))
  | _=>exact absurd (show false=true from hs) b_
 | bl i=>
  cases rx;cases y with
  | aQ=>cases ry;exact PySem.EqNone.eq_bool_none (cB I q (by simp))
  | bl j=>cases ry;exact eq_bool (cB I q By)
  | str j=>obtain ⟨t',rfl⟩:=ry;exact PySem.EqMixed.eq_bool_str (cB I q (by simp))
  | _=>exact absurd (show false=true from hs) b_
 | int i=>
  obtain ⟨t,rfl⟩:=rx;cases y with
  | aQ=>cases ry;exact PySem.EqNone.eq_int_none (cB I q (by simp))
  | int j=>obtain ⟨t',rfl⟩:=ry;exact eq_int (cB I q Bx)
  | str j=>obtain ⟨t',rfl⟩:=ry;exact PySem.EqMixed.eq_int_str (cB I q (by simp))
  | _=>exact absurd (show false=true from hs) b_
 | str i=>
  obtain ⟨t,rfl⟩:=rx;cases y with
  | aQ=>cases ry;exact PySem.EqNone.eq_str_none (cB I q (by simp))
  | bl j=>cases ry;exact PySem.EqMixed.eq_str_bool (cB I q (by simp))
  | int j=>obtain ⟨t',rfl⟩:=ry;exact PySem.EqMixed.eq_str_int (cB I q (by simp))
  | str j=>obtain ⟨t',rfl⟩:=ry;exact eq_str (cB I q Bz)
  | _=>exact absurd (show false=true from hs) b_
 | iL i=>
  obtain ⟨t,rfl⟩:=rx;cases y with
  | iL j=>obtain ⟨t',rfl⟩:=ry;exact PySem.W.eq_bytes (cB I q BA)
  | _=>exact absurd (show false=true from hs) b_
 | _=>cases y <;> exact absurd (show false=true from hs) b_
theorem rV:cA X (compareOp .NotEq) GC:=by
 intro pins s σ H x y v u Q I rx ry h;obtain ⟨hs,q⟩:=h;cases x with
 | aQ=>
  cases rx;cases y with
  | aQ=>cases ry;exact PySem.EqNone.ne_none_none (cB I q (by simp))
  | bl j=>cases ry;exact PySem.EqNone.ne_none_bool (cB I q (by simp))
  | int j=>obtain ⟨t',rfl⟩:=ry;exact PySem.EqNone.ne_none_int (cB I q (by simp))
  | str j=>obtain ⟨t',rfl⟩:=ry;exact PySem.EqNone.ne_none_str (cB I q (by simp))
  | _=>exact absurd (show false=true from hs) b_
 | bl i=>
  cases rx;cases y with
  | aQ=>cases ry;exact PySem.EqNone.ne_bool_none (cB I q (by simp))
  | bl j=>cases ry;exact ne_bool (cB I q (b9 not By))
  | str j=>obtain ⟨t',rfl⟩:=ry;exact PySem.EqMixed.ne_bool_str (cB I q (by simp))
  | _=>exact absurd (show false=true from hs) b_
 | int i=>
  obtain ⟨t,rfl⟩:=rx;cases y with
  | aQ=>cases ry;exact PySem.EqNone.ne_int_none (cB I q (by simp))
  | int j=>obtain ⟨t',rfl⟩:=ry;exact ne_int (cB I q (b9 not Bx))
  | str j=>obtain ⟨t',rfl⟩:=ry;exact PySem.EqMixed.ne_int_str (cB I q (by simp))
  | _=>exact absurd (show false=true from hs) b_
 | str i=>
  obtain ⟨t,rfl⟩:=rx;cases y with
  | aQ=>cases ry;exact PySem.EqNone.ne_str_none (cB I q (by simp))
  | bl j=>cases ry;exact PySem.EqMixed.ne_str_bool (cB I q (by simp))
  | int j=>obtain ⟨t',rfl⟩:=ry;exact PySem.EqMixed.ne_str_int (cB I q (by simp))
  | str j=>obtain ⟨t',rfl⟩:=ry;exact ne_str (cB I q (b9 not Bz))
  | _=>exact absurd (show false=true from hs) b_
 | iL i=>
  obtain ⟨t,rfl⟩:=rx;cases y with
  | iL j=>obtain ⟨t',rfl⟩:=ry;exact PySem.W.ne_bytes (cB I q (b9 not BA))
  | _=>exact absurd (show false=true from hs) b_
 | _=>cases y <;> exact absurd (show false=true from hs) b_
theorem uQ:cA X (compareOp .Lt) (k9 fun i j=>.bl (decide (i<j))):=uP fun _ _ _ _ _ _ _ q=>lt_int q
theorem mG:cA X (compareOp .LtE) (k9 fun i j=>.bl (decide (i≤j))):=uP fun _ _ _ _ _ _ _ q=>le_int q
theorem x4:cA X (compareOp .Gt) (k9 fun i j=>.bl (decide (j<i))):=uP fun _ _ _ _ _ _ _ q=>gt_int q
theorem GD:cA X (compareOp .GtE) (k9 fun i j=>.bl (decide (j≤i))):=uP fun _ _ _ _ _ _ _ q=>ge_int q
variable {op:CmpOp}
theorem BB(b:Expr)(h:op≠.In:=by decide)(h2:op≠.NotIn:=by decide):behindInMarks op b=false:=by
 have e1:(op == CmpOp.In)=false:=by cases op <;> first | rfl | exact absurd rfl h
 have e2:(op == CmpOp.NotIn)=false:=by cases op <;> first | rfl | exact absurd rfl h2
 cases b <;> simp [behindInMarks,e1,e2]
variable {r:R2}
theorem GF(ho:cA X (compareOp op) r)(ha:PE X a ta)(hb:PE X b tb)(hm:behindInMarks op b=false):PE X (.Compare a [op] [b] pos) (k8 r ta tb):=by intro pins s σ H Q I h;exact wpAny_Compare1 (xW ha hb I h fun v u s2 x y H2 I2 rx ry q=>ho pins s2 σ H2 x y v u Q I2 rx ry q) hm
theorem fc(ho:cA X (compareOp op) r)(ha:PE X a ta)(hb:PE X b tb)(hm:behindInMarks op b=false:=by exact BB _):PE X (.Compare a [op] [b] pos) (k8 r ta tb):=GF ho ha hb hm
def x5(t:TE):TT:=fun σ H Q=>t σ H fun x H'=>∃k,x=.bl k∧Q k H'
theorem oV(ho:cA X (compareOp op) r)(ha:PE X a ta)(hb:PE X b tb)(hm:behindInMarks op b=false):PT X (.Compare a [op] [b] pos) (x5 (k8 r ta tb)):=by intro pins s σ H Q I h;refine wpAny_isTrue_Compare1 (aI (ha pins s σ H _ I h) fun v s1 ⟨x,H1,I1,r1,q1⟩=>aI (hb pins s1 σ H1 _ I1 q1) fun u s2 ⟨y,H2,I2,r2,q2⟩=>aI (ho pins s2 σ H2 x y v u _ I2 r1 r2 q2) fun c s3 ⟨z,H3,I3,r3,k,e,q3⟩=>?_) hm;subst e;cases r3;exact kO ⟨H3,I3,q3⟩
theorem bN(ho:cA X (compareOp op) r)(ha:PE X a ta)(hb:PE X b tb)(hm:behindInMarks op b=false:=by exact BB _):PT X (.Compare a [op] [b] pos) (x5 (k8 r ta tb)):=oV ho ha hb hm
def GG(r r':R2)(ta tb tc:TE):TE:=fun σ H Q=>ta σ H fun x H1=>tb σ H1 fun y H2=>r x y H2 fun z H3=>∃k,z=.bl k ∧
 (if k=true then tc σ H3 fun w' H4=>r' y w' H4 Q else Q (.bl false) H3)
theorem BC{x6:CmpOp}{r':R2}(ho:cA X (compareOp op) r)(jm:cA X (compareOp x6) r')(ha:PE X a ta)(hb:PE X b tb)(hc:PE X c tc)
  (hm:lastMarks [op,x6] [b,c]=false:=by with_unfolding_all rfl):PE X (.Compare a [op,x6] [b,c] pos) (GG r r' ta tb tc):=by
 intro pins s σ H Q I h;refine Compare_chain (aI (ha pins s σ H _ I h) fun v s1 ⟨x,H1,I1,r1,q1⟩=>chain_link (aI (hb pins s1 σ H1 _ I1 q1) fun u s2 ⟨y,H2,I2,r2,q2⟩=>aI (ho pins s2 σ H2 x y v u _ I2 r1 r2 q2) fun d s3 ⟨z,H3,I3,r3,k,e,q3⟩=>?_)) hm;subst e;cases r3;refine kO ?_;cases k with
 | false=>exact ite_ff ⟨.bl false,H3,I3,rfl,q3⟩
 | true=>exact ite_tt (chain_last (aI (hc pins s3 σ H3 _ I3 q3) fun w' s4 ⟨z',H4,I4,r4,q4⟩=>jm pins s4 σ H4 y z' u w' Q I4 r2 r4 q4))
theorem uR:(sizeLine:Nat)<2 ^ 63:=by rw [l_];decide
theorem vals1(r:Vals [x] us):∃u,us=[u]∧RelV x u:=by
 cases r with
 | cons r1 r2=>cases r2;exact ⟨_,rfl,r1⟩
theorem vals2{y:V}(r:Vals [x,y] us):∃u w',us=[u,w']∧RelV x u∧RelV y w':=by
 cases r with
 | cons r1 r2=>
  cases r2 with
  | cons r3 r4=>cases r4;exact ⟨_,_,rfl,r1,r3⟩
theorem uS(hc:X.calm=true):fF X (.builtin "max") (fun xs H Q=>∃i j,xs=[.int i,.int j]∧Q (.int (if j>i then j else i)) H):=by
 intro pins s σ H xs us Q I r h;obtain ⟨i,j,rfl,q⟩:=h;obtain ⟨u,w',rfl,⟨t,rfl⟩,⟨t',rfl⟩⟩:=vals2 r;refine max_two_ints (I.ok.hd hc) fun h' tk k=>⟨_,H,I.kept k,?_,q⟩;by_cases hj:j>i;·rw [ae hj,ae hj];exact ⟨_,rfl⟩
 ·rw [aa hj,aa hj];exact ⟨_,rfl⟩
theorem BD(hc:X.calm=true):fF X (.builtin "min") (fun xs H Q=>∃i j,xs=[.int i,.int j]∧Q (.int (if j<i then j else i)) H):=by
 intro pins s σ H xs us Q I r h;obtain ⟨i,j,rfl,q⟩:=h;obtain ⟨u,w',rfl,⟨t,rfl⟩,⟨t',rfl⟩⟩:=vals2 r;refine min_two_ints (I.ok.hd hc) fun h' tk k=>⟨_,H,I.kept k,?_,q⟩;by_cases hj:j<i;·rw [ae hj,ae hj];exact ⟨_,rfl⟩
 ·rw [aa hj,aa hj];exact ⟨_,rfl⟩
theorem GH:fF X (.type "int") (fun xs H Q=>(∃i,xs=[.int i]∧Q (.int i) H)∨∃k,xs=[.bl k]∧Q (.int (if k then 1 else 0)) H):=by
 intro pins s σ H xs us Q I r h;rcases h with ⟨i,rfl,q⟩ | ⟨k,rfl,q⟩
 ·obtain ⟨u,rfl,t,rfl⟩:=vals1 r
  exact call_int_int ⟨.int i,H,I,⟨_,rfl⟩,q⟩
 ·obtain ⟨u,rfl,r1⟩:=vals1 r
  cases r1;exact call_int_bool ⟨.int (if k then 1 else 0),H,I.tok _,⟨_,rfl⟩,q⟩
end
structure x8 (h:Heap) (x dx C:Addr) (mA:cJ):Prop where
 obj:h.get? x=some (PySem.W.instObj C dx)
 ns:h.Ns1 dx mA
 ne:dx≠x
variable {dx:Addr} {mA:cJ}
theorem GI(n:h.Ns1 dx mA):∃od,h.get? dx=some od∧∀name,PySem.W.lookIn name od=some (mA name):=by
 obtain ⟨o,es,ep,ho,hd,hk,_,hm⟩:=n;refine ⟨o,ho,fun name=>?_⟩;have e:=hm name;unfold nsFind findBy at e;rw [←Array.find?_toList] at e;unfold PySem.W.lookIn;rw [hd];dsimp only
 split
 ·rename_i y q
  rw [q] at e;exact b9 some e
 ·rename_i q
  rw [q] at e;have a:es.toList.any (·.refKey)=false:=by rw [List.any_eq_false];intro y hy;obtain ⟨z,t,GJ⟩:=hk y (Array.mem_toList_iff.mp hy);simp [DictEntry.refKey,GJ]
  have a':¬es.toList.any (·.refKey)=true:=by rw [a];exact b_
  rw [aa a'];exact b9 some e
theorem x8.look{x C:Addr}(I:x8 h x dx C mA):∃od,PySem.W.InstAt h x (PySem.W.instObj C dx) C (some od)∧∀name,PySem.W.lookIn name od=some (mA name):=
 let ⟨od,ho,hl⟩:=GI I.ns
 ⟨od,⟨I.obj,rfl,rfl,ho⟩,hl⟩
section
variable {prog:Program} {w:World} {A:Around} {E:aE} {s:Shared} {K:aH} {x dx C f:Addr} {mA:cJ} {name:Str} {v:Value}
end
section
variable {P:Program} {w:World} {H H':Hp} {h h':Heap} {a C dx:Addr} {fs xI:List (Str×V)}
theorem GK(au:bK P w H h)(e:H a=some (.ins C dx fs)):∃mA,x8 h a dx C mA∧(∀f,mq (fs.lookup f) (mA f))∧PySem.Within mA (fs.map (·.1))∧fs.length≤1000∧H dx=some (.own a):=by obtain ⟨d,z,ne,ob,mA,n,r,q⟩:=(show ck P w H h a (.ins C dx fs) from au a _ e);exact ⟨mA,⟨ob,n,ne⟩,r,q,z,d⟩
end
structure x9 (K:aH) (C:Addr):Prop where
 pg:PySem.W.plainGet K C Str.empty=true
 hd:PySem.W.hasDictIn K C=true
 po:PySem.W.plainOver K C=true
 sa:PySem.W.findIn K (.ref C) "__setattr__"=some (some (.builtin "object.__setattr__"))
theorem x9.get{K:aH}{C:Addr}(c:x9 K C)(f:Str):PySem.W.plainGet K C f=true:=c.pg
section
variable {X:Cx} {pins:aN} {σ:St} {H:Hp} {s:Shared} {a C dx:Addr} {fs:List (Str×V)} {f:Str} {v:V} {A:Around} {E:aE}
end
section
variable {X:Cx} {o e value:Expr} {f:Str} {pos pos' oW:Pos} {ta tv:TE}
end
section
variable {X:Cx} {pins:aN} {σ:St} {H:Hp} {s:Shared} {A:Around} {E:aE} {Q:aE} {c:Value} {b:Bool}
inductive gO (K:aH) (H:Hp):V→Value→Prop where
 | aQ:gO K H .aQ (.type "NoneType")
 | bl (x:Bool):gO K H (.bl x) (.type "bool")
 | int (i:Int):gO K H (.int i) (.type "int")
 | str (x:Str):gO K H (.str x) (.type "str")
 | oN (x:UInt64):gO K H (.oN x) (.type "float")
 | lst {a:Addr} {xs:List V} (e:H a=some (.lst xs)):gO K H (.ref a) (.type "list")
 | bC {a:Addr} {o:Obj} {xs:List V} (e:H a=some (.bC o (.lst xs))):gO K H (.ref a) (.type "list")
 | tup {a:Addr} {xs:List V} (e:H a=some (.tup xs)):gO K H (.ref a) (.type "tuple")
 | dK {a:Addr} {kvs:List (Key×V)} (e:H a=some (.dK kvs)):gO K H (.ref a) (.type "dict")
 | dT {a:Addr} {kvs:List (List Key×V)} (e:H a=some (.dT kvs)):gO K H (.ref a) (.type "dict")
 | ins {a C dx:Addr} {fs:List (Str×V)} (e:H a=some (.ins C dx fs)) (cl:x9 K C) (ha:PySem.W.findIn K (.ref C) "__class__"=some (some (.builtin "object.__class__")))
   (hn:PySem.W.specialIn K (.builtin "object.__class__") "__get__"=some (some (.builtin "getset_descriptor.__get__"))) (BE:PySem.W.takesIn K (.builtin "object.__class__")=some true)
   (hm:PySem.W.mroIn K C (.type "object")=some true):gO K H (.ref a) (.ref C)
theorem GL{u t:Value}(I:Inv X pins σ H s)(rx:RelV x u)(ty:gO X.K H x t)(e:PySem.W.kitOne X.K t c=some b)(h:∀tk,Q (.bool b) {s with toks:=tk}) :
  wpAny (model X.prog X.w) A (call (.builtin "isinstance") [u,c]) Q E s:=by
 cases ty with
 | aQ=>cases (show u=Value.none from rx);exact gG PySem.W.kitx_none I.d7 True.intro e (fun z=>nomatch z) h
 | bl y=>cases (show u=Value.bool y from rx);exact gG PySem.W.kitx_bool I.d7 True.intro e (fun z=>nomatch z) h
 | int i=>obtain ⟨t,q⟩:=(show ∃t,u=Value.int i t from rx);cases q;exact gG PySem.W.kitx_int I.d7 True.intro e (fun z=>nomatch z) h
 | str y=>obtain ⟨t,q⟩:=(show ∃t,u=Value.str y t from rx);cases q;exact gG PySem.W.kitx_str I.d7 True.intro e (fun z=>nomatch z) h
 | oN y=>obtain ⟨t,q⟩:=(show ∃t,u=Value.float y t from rx);cases q;exact gG PySem.W.kitx_float I.d7 True.intro e (fun z=>nomatch z) h
 | @lst a xs ea=>cases (show u=Value.ref a from rx);obtain ⟨_,_,n,_,h1⟩:=(show ck X.prog X.w H s.heap a (.lst xs) from I.au a _ ea);exact gG PySem.W.kitx_list I.d7 ⟨_,h1,rfl⟩ e (fun z=>nomatch z) h
 | @bC a ob xs ea=>cases (show u=Value.ref a from rx);obtain ⟨_,_,_,n,_,h1⟩:=(show ck X.prog X.w H s.heap a (.bC ob (.lst xs)) from I.au a _ ea);exact gG PySem.W.kitx_list I.d7 ⟨_,h1,rfl⟩ e (fun z=>nomatch z) h
 | @tup a xs ea=>cases (show u=Value.ref a from rx);obtain ⟨_,_,_,p⟩:=(show ck X.prog X.w H s.heap a (.tup xs) from I.au a _ ea);obtain ⟨o,h1,h2,_⟩:=p;exact gG PySem.W.kitx_tuple I.d7 ⟨o,h1,h2⟩ e (fun z=>nomatch z) h
 | @dK a kvs ea=>cases (show u=Value.ref a from rx);obtain ⟨_,_,vs,_,p⟩:=(show ck X.prog X.w H s.heap a (.dK kvs) from I.au a _ ea);obtain ⟨o,es,ep,h1,h2,_⟩:=p;exact gG PySem.W.kitx_dict I.d7 ⟨o,h1,h2.1⟩ e (fun z=>nomatch z) h
 | @dT a kvs ea=>cases (show u=Value.ref a from rx);obtain ⟨_,_,xs,_,o,es,ep,h1,h2,_⟩:=(show ck X.prog X.w H s.heap a (.dT kvs) from I.au a _ ea);exact gG PySem.W.kitx_dict I.d7 ⟨o,h1,h2.1⟩ e (fun z=>nomatch z) h
 | @ins a C dx fs ea cl ha hn BE hm=>cases (show u=Value.ref a from rx);obtain ⟨mA,O,_⟩:=GK I.au ea;obtain ⟨od,J,_⟩:=O.look;exact gG (PySem.W.kitx_own (cl.get _) cl.hd ha hn BE hm) I.d7 J e (fun z=>nomatch z) h
end
structure dI (k:Nat) (A:Around):Prop where
 hd:A.handled=none
 dp:A.depth+3*k+5<recursionLimit
 un:A.units+16*k+200<cLine
variable {k:Nat}
theorem dI.mono{j:Nat}(r:dI k A)(h:j≤k):dI j A:=⟨r.hd,by have:=r.dp;lia,by have:=r.un;lia⟩
theorem dI.deeper(r:dI (k+1) A)(env:Env):dI k (A.deeper env):=
 ⟨r.hd,by have:=r.dp;show A.depth+1+3*k+5<_;lia,by have:=r.un;show A.units+3+16*k+200<_;lia⟩
theorem dI.depth(r:dI k A):A.depth<recursionLimit:=by have:=r.dp;lia
theorem dI.units(r:dI k A):A.units+64<cLine:=by have:=r.un;lia
def oX:TA:=fun _ H Q=>Q [] H
def iR(ta:TE)(tr:TA):TA:=fun σ H Q=>ta σ H fun x H1=>tr σ H1 fun xs H2=>Q (x::xs) H2
section
variable {X:Cx} {e:Expr} {es:List Expr} {te:TE} {t:TA} {pos:Pos}
theorem ak:PA X [] oX:=fun _ _ _ _ H Q I h=>Calls.spliced_nil ⟨[],H,I,.nil,h⟩
theorem GN(ha:PE X e te)(hr:PA X es t)(hs:starEach (e::es) X.env=(false,eval e X.env)::starEach es X.env:=by rfl):PA X (e::es) (iR te t):=by intro pos pins s σ H Q I h;rw [hs];show wpAny _ _ (spliced ((false,eval e X.env)::backTo pos (starEach es X.env))) _ _ s;refine Calls.spliced_cons (aI (ha pins s σ H _ I h) fun u s1 ⟨x,H1,I1,r1,q1⟩=>?_);exact aI (hr pos pins s1 σ H1 _ I1 q1) fun us s2 ⟨xs,H2,I2,r2,q2⟩=>⟨x::xs,H2,I2,.cons r1 r2,q2⟩
def uT(t:TA):TE:=fun σ H Q=>t σ H fun xs H1=>xs.length≤sizeLine∧∀p,H1 p=none→Q (.ref p) (upd H1 p (.tup xs))
def GO(t:TA):TE:=fun σ H Q=>t σ H fun xs H1=>xs.length≤sizeLine∧∀p,H1 p=none→Q (.ref p) (upd H1 p (.lst xs))
theorem fG{x1}(h:PA X es t):PE X (.Tuple es x1 pos) (uT t):=by
 intro pins s σ H Q I hq;refine wpAny_Tuple_spliced (aI (h pos pins s σ H _ I hq) fun us s1 ⟨xs,H1,I1,r,z,q⟩=>⟨by rw [←r.length];exact z,?_⟩)
 have hf:H1 s1.heap.objs.size=none:=I1.au.fresh (aw _);refine ⟨.ref s1.heap.objs.size,upd H1 s1.heap.objs.size (.tup xs),I1.laid (t':=s1.toks) (fun b u e=>bS _ e) (aw _) ?_,rfl,q _ hf⟩;exact ⟨z,us,r,⟨_,dE _ rfl,rfl,_,rfl⟩⟩
theorem fe(h:PA X es t):PE X (.List es pos) (GO t):=by
 intro pins s σ H Q I hq;refine wpAny_List_spliced (aI (h pos pins s σ H _ I hq) fun us s1 ⟨xs,H1,I1,r,z,q⟩=>⟨by rw [←r.length];exact z,?_⟩)
 have hf:H1 s1.heap.objs.size=none:=I1.au.fresh (aw _);refine ⟨.ref s1.heap.objs.size,upd H1 s1.heap.objs.size (.lst xs),I1.laid (t':=s1.toks) (fun b u e=>bS _ e) (aw _) ?_,rfl,q _ hf⟩;exact ⟨z,us,0,r,dE _ rfl⟩
end
abbrev Sp:=List V→Hp→VK→XK→Prop
abbrev fH:=List Env→Hp→Shared→XK→Value→Shared→Prop
structure uU (P:Program) (w:World) (K:aH) (mg:cJ) (base:Heap) (A:Around) (outer:List Env) (s:Shared) (H:Hp):Prop where
 frames:A.frames=some outer
 mod:Mod K mg base
 bs:∀b o,base.get? b=some o→s.heap.get? b=some o∧H b=none
 hU:base.objs.size≤s.heap.objs.size
 iM:s.heap.FunFrames base outer
 kZ:∀b∈b3 outer,H b=none
 au:bK P w H s.heap
 bare:AllBare s.gens
def CE(outer:List Env)(P:Program)(w:World)(H:Hp)(s:Shared)(Q:VK)(u:Value)(s':Shared):Prop:=
 ∃v H',s'.os=s.os∧AllBare s'.gens∧Un (b3 outer) [] H H' s.heap s'.heap∧bK P w H' s'.heap∧RelV v u∧Q v H'
def CR(CX:fH)(outer:List Env)(P:Program)(w:World)(H:Hp)(s:Shared)(Q:VK)(E:XK)(r:Result)(s':Shared):Prop:=
 match r with
 | .ok (.ret u)=>CE outer P w H s Q u s'
 | .ok _=>False
 | .error e=>CX outer H s E e s'
structure bE (P:Program) (w:World) (K:aH) (mg:cJ) (base:Heap) (CX:fH) (k:Nat) (f:Addr) (fd:FuncData) (ps:List Str) (sp:Sp):Prop where
 len:∀vs H Q E,sp vs H Q E→vs.length=ps.length
 run:∀(A:Around) (outer:List Env) (s:Shared) (H:Hp) (args:Args) (us:List Value) (vs:List V) (Q:VK) (E:XK),dI k A→uU P w K mg base A outer s H→BindsTo s fd args (ps.zip us)→Vals vs us→sp vs H Q E→
  codeAny (model P w) A (.call (.ref f) args) (CR CX outer P w H s Q E) s
section
variable {X:Cx} {pins:aN} {σ:St} {H:Hp} {s s':Shared}
theorem Inv.GP(I:Inv X pins σ H s):uU X.prog X.w X.K X.mg X.base X.A X.stack s H:=
 ⟨I.ok.frames,I.ok.mod,I.bs,cG I.ok.hU I.sz,I.stack,I.rO,I.au,I.bare⟩
theorem Inv.after{Q:VK}{u:Value}(I:Inv X pins σ H s)(h:CE X.stack X.prog X.w H s Q u s'):EP X pins σ Q u s':=by obtain ⟨v,H',os,bare,un,au,r,q⟩:=h;obtain ⟨hh,g,d,t,GQ⟩:=s';obtain rfl:GQ=s.os:=os;exact ⟨v,H',I.call (h':=hh) (g':=g) (d':=d) (t':=t) (ch:=[]) un au bare (fun b z=>absurd z (by simp)),r,q⟩
end
def x_(sp:Sp)(jv:List V)(E:XK)(t:TA):TE:=fun σ H Q=>t σ H fun vs H1=>sp (vs++jv) H1 Q E
def Binds(K:aH)(fd:FuncData)(ps:List Str)(ds:List Value):Prop:=
 ∀(s:Shared) (us:List Value),K.In s.heap→(us++ds).length=ps.length→BindsTo s fd ⟨us,[]⟩ (ps.zip (us++ds))
variable {ps:List Str}
theorem Binds.all{fd:FuncData}(h:∀us:List Value,us.length=ps.length→bindArgs fd ⟨us,[]⟩=pure (ps.zip us)):Binds K fd ps []:=fun s us _ hl=>by rw [ma] at hl ⊢;exact .of_eq (h us hl)
def Passes(CX:fH)(X:Cx)(E:XK):Prop:=∀(pins:aN) (σ:St) (H:Hp) (s:Shared) (e:Value) (s':Shared),Inv X pins σ H s→CX X.stack H s E e s'→X.xe e s'
section
variable {X:Cx} {CX:fH} {k:Nat} {f C:Addr} {fd:FuncData} {ps:List Str} {sp:Sp} {jv:List V} {ds:List Value} {E:XK} {x m:Str} {p pos apos:Pos} {e o:Expr} {es:List Expr} {ta:TE} {t:TA}
theorem GR{pins:aN}{Q:VK}{vs:List V}(F:bE X.prog X.w X.K X.mg X.base CX k f fd ps sp)(hr:dI k X.A)(hb:Binds X.K fd ps ds)(hd:Vals jv ds)(hx:Passes CX X E)
  (I:Inv X pins σ H s) (r:Vals vs us) (h:sp (vs++jv) H Q E):wpAny (model X.prog X.w) X.A (call (.ref f) us) (EP X pins σ Q) X.xe s:=by
 have r2:Vals (vs++jv) (us++ds):=r.append hd;have hl:(us++ds).length=ps.length:=by rw [←r2.length];exact F.len _ _ _ _ h
 refine wpAny_call (q8 (F.run X.A X.stack s H ⟨us,[]⟩ (us++ds) (vs++jv) Q E hr I.GP (hb s us I.d7 hl) r2 h) fun r s' hq=>?_);cases r with
 | error e=>exact hx pins σ H s e s' I hq
 | ok fl=>
  cases fl with
  | ret u=>exact I.after hq
  | next=>exact False.elim hq
  | brk=>exact False.elim hq
  | cont=>exact False.elim hq
theorem GS(F:bE X.prog X.w X.K X.mg X.base CX k f fd ps sp)(hr:dI k X.A)(hg:Gl X x)(hm:X.mg x=some (.ref f))(hk:PySem.W.keepIn X.K (.ref f)=true)(hb:Binds X.K fd ps ds)(hd:Vals jv ds)(hx:Passes CX X E)
  (ha:PA X (e::es) t) (mH:(x == ("__debug__":Str))=false:=by decide) (he:starEach (e::es) X.env=(false,eval e X.env)::starEach es X.env:=by rfl) (k_:(backTo pos (starEach es X.env)).any (·.1)=false:=by rfl) :
  PE X (.Call (.Name x p) (e::es) [] pos) (x_ sp jv E t):=by
 intro pins s σ H Q I h;refine ue (xN I hg hm ?_ mH);refine PySem.W.callWith_K (h₀:=X.base) I.ok.mod.cK hk (aI (ha pos pins s σ H _ I h) fun us s1 ⟨vs,H1,I1,r,q⟩=>⟨I1.d7,?_⟩) he k_;exact GR F hr hb hd hx I1 r q
theorem bt{j:Nat}(F:bE X.prog X.w X.K X.mg X.base CX k f fd ps sp)(hr:dI j X.A)(hm:X.mg x=some (.ref f))(hk:PySem.W.keepIn X.K (.ref f)=true)(hb:Binds X.K fd ps [])(hx:Passes CX X E)
  (ha:PA X (e::es) t) (hj:k≤j:=by decide) (hg:Gl X x:=by exact rfl) (mH:(x == ("__debug__":Str))=false:=by decide) (he:starEach (e::es) X.env=(false,eval e X.env)::starEach es X.env:=by rfl) (k_:(backTo pos (starEach es X.env)).any (·.1)=false:=by rfl) :
  PE X (.Call (.Name x p) (e::es) [] pos) (x_ sp [] E t):=GS F (hr.mono hj) hg hm hk hb .nil hx ha mH he k_
end
section
variable {X:Cx} {CX:fH} {k:Nat} {f C:Addr} {fd:FuncData} {ps ks:List Str} {sp:Sp} {E:XK} {x m:Str} {p pos apos BF:Pos} {e o:Expr} {es:List Expr} {lb:List Keyword} {te ta:TE} {t tk:TA} {nm:Option Str}
variable {g:List Value→List Value→List Value} {gV:List V→List V→List V}
end
structure bO (N P:List Str) (sc:Scope):Prop where
 kind:sc.kind=.function
 co:sc.isCoroutine=false
 gen:sc.isGenerator=false
 nd:N.Nodup
 pre:N.take P.length=P
 par:∀x∈P,sc.names.lookup x=some .local∨sc.names.lookup x=some .cell
 GU:∀y∈sc.names,y.2≠.free
variable {N:List Str} {sc:Scope}
theorem cC{P:List Str}(h1:sc.kind=.function:=by rfl)(h2:sc.isCoroutine=false:=by rfl)(h3:sc.isGenerator=false:=by rfl)(h4:N.Nodup:=by decide +kernel)(h5:N.take P.length=P:=by rfl)(h6:∀x∈P,sc.names.lookup x=some .local∨sc.names.lookup x=some .cell:=by decide +kernel)(h7:∀y∈sc.names,y.2≠.free:=by decide +kernel):bO N P sc:=⟨h1,h2,h3,h4,h5,h6,h7⟩
theorem BG{kindOf:Str→Option NameKind}{x:Str}:∀{binds:List (Str×Value)} {m:cJ},(∀v,(x,v)∉binds)→bindL kindOf binds m x=m x
 | [],_,_=>rfl
 | (n,v)::r,m,h=>by
  unfold bindL;rw [BG fun w hw=>h w (cH _ hw)]
  split
  ·have:x≠n:=by rintro rfl;exact h v dQ
   simp [this]
  ·rfl
theorem BH{kindOf:Str→Option NameKind}{x:Str}:∀{binds:List (Str×Value)} {m:cJ},(∀v,(x,v)∉binds)→bindC kindOf binds m x=m x
 | [],_,_=>rfl
 | (n,v)::r,m,h=>by
  unfold bindC;rw [BH fun w hw=>h w (cH _ hw)]
  split
  ·rfl
  ·have:x≠n:=by rintro rfl;exact h v dQ
   simp [this]
theorem BI{kindOf:Str→Option NameKind}{x:Str}{v:Value}:∀{P:List Str} {vs:List Value} {i:Nat} {m:cJ},P.Nodup→P[i]?=some x→vs[i]?=some v→kindOf x=some .local→
  bindL kindOf (P.zip vs) m x=some v
 | [],_,_,_,_,h,_,_=>by simp at h
 | _::_,[],_,_,_,_,h,_=>by simp at h
 | p::P,w::vs,0,m,nd,h1,h2,hk=>by simp at h1 h2;subst h1;subst h2;show bindL kindOf ((p,w)::P.zip vs) m p=_;unfold bindL;rw [BG fun v hv=>(jW.mp nd).1 (List.of_mem_zip hv).1,ae hk];simp
 | p::P,w::vs,i+1,m,nd,h1,h2,hk=>by show bindL kindOf ((p,w)::P.zip vs) m x=_;unfold bindL;exact BI (i:=i) (jW.mp nd).2 (by simpa using h1) (by simpa using h2) hk
theorem BJ{kindOf:Str→Option NameKind}{x:Str}{v:Value}:∀{P:List Str} {vs:List Value} {i:Nat} {m:cJ},P.Nodup→P[i]?=some x→vs[i]?=some v→kindOf x≠some .local→
  bindC kindOf (P.zip vs) m x=some v
 | [],_,_,_,_,h,_,_=>by simp at h
 | _::_,[],_,_,_,_,h,_=>by simp at h
 | p::P,w::vs,0,m,nd,h1,h2,hk=>by simp at h1 h2;subst h1;subst h2;show bindC kindOf ((p,w)::P.zip vs) m p=_;unfold bindC;rw [BH fun v hv=>(jW.mp nd).1 (List.of_mem_zip hv).1,aa hk];simp
 | p::P,w::vs,i+1,m,nd,h1,h2,hk=>by show bindC kindOf ((p,w)::P.zip vs) m x=_;unfold bindC;exact BJ (i:=i) (jW.mp nd).2 (by simpa using h1) (by simpa using h2) hk
def start(N:List Str)(vs:List V):St:=vs.map some++List.replicate (N.length-vs.length) none
def iS(CX:fH)(P:Program)(w:World)(K:aH)(mg:cJ)(base:Heap)(N:List Str)(qual:Str)(scope:Scope)(f:Addr)(cd:Value)(A:Around)(outer:List Env)(s:Shared)(H:Hp)(E:XK):Cx where
 prog:=P
 w:=w
 K:=K
 mg:=mg
 base:=base
 A:=A.deeper (envOfC qual scope s.heap.objs.size f cd)
 N:=N
 s₀:=s
 H₀:=H
 env:=envOfC qual scope s.heap.objs.size f cd
 outer:=outer
 stack:=envOfC qual scope s.heap.objs.size f cd::outer
 ex:=[]
 calm:=true
 fn:=fun _=>true
 pn:=[]
 xe:=fun e s'=>wpAny (model P w) (A.deeper (envOfC qual scope s.heap.objs.size f cd)) (leaving (envOfC qual scope s.heap.objs.size f cd) e) (fun _ jw=>CX outer H s E e jw) (fun e' jw=>CX outer H s E e' jw) s'
theorem BK{x:Str}(h:sc.names.lookup x=some .cell):∃c,(cellsFrom n sc.names []).lookup x=some c:=by have q:=PySem.W.cellsFrom_some sc.names n [] (.inl h);exact Option.isSome_iff_exists.mp q
variable {CX:fH} {mg:cJ} {base:Heap} {qual:Str} {scope:Scope} {f:Addr}
theorem GV{cd:Value}{outer:List Env}{s1:Shared}{E:XK}{vs:List V}
  (S:bO N ps scope) (hd:A.handled=none) (e0:uU P w K mg base A outer s H) (hl:vs.length=ps.length) (r:Vals vs us)
  (x:InCallC s s.heap.objs.size (bindL (envOfC qual scope s.heap.objs.size f cd).kindOf (ps.zip us) fun _=>none) (cellsFrom (s.heap.objs.size+1) scope.names []) (bindC (envOfC qual scope s.heap.objs.size f cd).kindOf (ps.zip us) fun _=>none) s1) :
  Inv (iS CX P w K mg base N qual scope f cd A outer s H E) [] (start N vs) H s1:=by
 have k_:ps.length≤N.length:=by have:=b9 List.length S.pre;rw [ou] at this;lia
 obtain ⟨h1,tk,rfl,hk⟩:=x.done;have rW:∀b:Addr,b∉(iS CX P w K mg base N qual scope f cd A outer s H E).ex:=fun b z=>absurd (show b∈([]:List Addr) from z) (by simp)
 refine ⟨⟨e0.mod,S.kind,rfl,rfl,aw _,fun y z c h1 h2=>?_,fun y hy=>?_,fun y c _ h=>?_,fun _=>hd,Around.frames_deeper e0.frames,.inr ⟨rfl,rfl⟩,fun b z=>absurd z (rW b),e0.bs,e0.hU,fun b _ _=>rW b,fun b z=>absurd z (rW b),e0.iM,e0.kZ⟩,
  rfl,e0.bare,Un.kept hk,⟨_,x.toInCall.ns,fun i y v h1 h2 h3=>?_⟩,fun y c h=>⟨_,x.cell y c h⟩,e0.au.fresh (aw _),fun y c h=>?_,fun p hp=>absurd (show p∈([]:aN) from hp) (by simp),e0.au.kept hk,?_⟩
 ·exact name_of_addr x.apart (jX h1) (jX h2)
 ·have hy:scope.names.lookup y=some .cell∨scope.names.lookup y=some .free:=hy
  rcases hy with hy | hy;·exact BK hy
  ·exact absurd rfl (S.GU _ (jX hy))
 ·exact l7 (x.above y c (jX h))
 ·have hi:i<vs.length:=by
   unfold start at h2;by_cases hi:i<vs.length;·exact hi
   ·rw [jc (by simpa using hi)] at h2
    rw [List.getElem?_replicate] at h2
    split at h2 <;> cases h2
  have ha:vs[i]?=some v:=by
   unfold start at h2;rw [jd (by simpa using hi),bU] at h2
   cases e:vs[i]? with
   | none=>rw [e] at h2;cases h2
   | some a=>rw [e] at h2;cases h2;rfl
  obtain ⟨u,hu,rv⟩:=r.get ha;have hp:ps[i]?=some y:=by rw [←S.pre,List.getElem?_take_of_lt (by lia)];exact h1
  have BL:ps.Nodup:=by rw [←S.pre];exact S.nd.sublist (List.take_sublist _ _)
  refine ⟨u,rv,?_⟩;rcases S.par y (List.mem_of_getElem? hp) with k | k;·exact .inl ⟨k,BI BL hp hu k⟩
  ·obtain ⟨c,e⟩:=BK (n:=s.heap.objs.size+1) k
   refine .inr ⟨.inl k,c,e,?_⟩;have q:=x.cell y c e;rw [BJ BL hp hu (by show scope.names.lookup y≠_;rw [k];decide)] at q
   exact q
 ·exact e0.au.fresh (l7 (x.above y c (jX h)))
 ·unfold start
  show _=N.length;rw [cY,aJ,List.length_replicate];lia
theorem BM{name:Str}{params:Arguments}{body:List Stmt}{dV kV doc pm bH ct oc:Value}{an od:Option Addr}
  {jx:Array (Option Value)} {sp:Sp} (lk:K.lookup f=some ⟨oc,od,.func (PySem.W.fnOf name qual params body scope dV kV doc pm an bH ct),jx⟩) (f9:PySem.W.codeIn K bH qual=true) (S:bO N ps scope)
  (len:∀vs H Q E,sp vs H Q E→vs.length=ps.length)
  (kf:∀(A:Around) (outer:List Env) (s:Shared) (H:Hp) (vs:List V) (Q:VK) (E:XK),dI k (A.deeper (envOfC qual scope s.heap.objs.size f bH))→sp vs H Q E→
   ∃t,ei (iS CX P w K mg base N qual scope f bH A outer s H E) body t∧t {nx:=fun _ H'=>Q .aQ H',rt:=Q} (start N vs) H) :
  bE P w K mg base CX (k+1) f (PySem.W.fnOf name qual params body scope dV kV doc pm an bH ct) ps sp:=by
 refine ⟨len,fun A outer s H args us vs Q E hr e0 hb r jy=>?_⟩;have hl:=len _ _ _ _ jy;have KX:K.In s.heap:=e0.mod.cK.keeps fun b o e=>(e0.bs b o e).1;have lim:s.heap.NoLimit:=e0.mod.nolimit.keeps fun b o e=>(e0.bs b o e).1;have GW:∀y∈ps.zip us,scope.names.lookup y.1=some .local∨(scope.names.lookup y.1=some .cell∧((cellsFrom (s.heap.objs.size+1) scope.names []).lookup y.1).isSome=true):=fun⟨n,v⟩ hy=>by
  rcases S.par n (List.of_mem_zip hy).1 with q | q;·exact .inl q
  ·exact .inr ⟨q,PySem.W.cellsFrom_some _ _ _ (.inl q)⟩
 refine codeAny_call_function hr.depth (KX _ _ lk) rfl S.co S.gen rfl (PySem.W.codeRec_of KX f9) (hb _ _ _ _ ?_);refine wpAny_newFunctionEnv_cells S.kind GW fun env he s1 x=>?_;subst he;refine ⟨lim.keeps x.toInCall.keep,codeAny_func ?_⟩;obtain ⟨t,ht,hq⟩:=kf A outer s H vs Q E (hr.deeper _) jy;have I:Inv (iS CX P w K mg base N qual scope f bH A outer s H E) [] (start N vs) H s1:=GV S hr.hd e0 hl r x;refine bR (ht [] s1 (start N vs) H _ I hq) (fun fl s' hs=>?_) fun e s' hs=>hs;have fin:∀{σ':St} {H':Hp} {v:V} {u:Value},Inv (iS CX P w K mg base N qual scope f bH A outer s H E) [] σ' H' s'→RelV v u→Q v H'→CE outer P w H s Q u s':=
  fun{σ' H' v u} J rv q=>⟨v,H',J.os,J.bare,J.base,J.au,rv,q⟩
 cases fl with
 | ret u=>obtain ⟨v,σ',H',J,rv,q⟩:=hs;exact fin J rv q
 | next=>obtain ⟨σ',H',J,q⟩:=hs;exact fin (v:=V.aQ) (u:=Value.none) J rfl q
 | brk=>obtain ⟨_,_,_,q⟩:=hs;exact False.elim q
 | cont=>obtain ⟨_,_,_,q⟩:=hs;exact False.elim q
section
variable {X:Cx} {x:Str} {p pos:Pos} {e:Expr} {es:List Expr} {t:TA} {id T:String} {r:List V→Hp→VK→Prop}
def uV(r:List V→Hp→VK→Prop)(t:TA):TE:=fun σ H Q=>t σ H fun vs H1=>r vs H1 Q
theorem bI(hc:fF X (.builtin id) r)(hg:Gl X x)(hm:X.mg x=none)(hv:bootBuiltins x=some (.builtin id))(ha:PA X (e::es) t)(hn:x ≠ "__name__":=by decide)(mH:(x == ("__debug__":Str))=false:=by decide)
  (he:starEach (e::es) X.env=(false,eval e X.env)::starEach es X.env:=by rfl) (k_:(backTo pos (starEach es X.env)).any (·.1)=false:=by rfl):PE X (.Call (.Name x p) (e::es) [] pos) (uV r t):=by
 intro pins s σ H Q I h;refine ue (j_ I hg hm hv ?_ hn mH);exact PyProof.Rows.callWith_builtin1 (aI (ha pos pins s σ H _ I h) fun us s1 ⟨vs,H1,I1,r1,q1⟩=>hc pins s1 σ H1 vs us Q I1 r1 q1) he k_
theorem jz(hc:fF X (.type T) r)(hg:Gl X x)(hm:X.mg x=none)(hv:bootBuiltins x=some (.type T))(ha:PA X (e::es) t)(hn:x ≠ "__name__":=by decide)(mH:(x == ("__debug__":Str))=false:=by decide)
  (he:starEach (e::es) X.env=(false,eval e X.env)::starEach es X.env:=by rfl) (k_:(backTo pos (starEach es X.env)).any (·.1)=false:=by rfl):PE X (.Call (.Name x p) (e::es) [] pos) (uV r t):=by
 intro pins s σ H Q I h;refine ue (j_ I hg hm hv ?_ hn mH);exact q5 (aI (ha pos pins s σ H _ I h) fun us s1 ⟨vs,H1,I1,r1,q1⟩=>hc pins s1 σ H1 vs us Q I1 r1 q1) he k_
end
end L2
namespace HT
open PySem PyProof.Rows
section
open PySem.SeqAt
open PySem.AutoSeq1 (wpAny_loadPart')
open PySem.MeetsSeq PySem.MeetsSeq2 PySem.MeetsSeq3
end
section
variable {prog:Program} {w:World} {A:Around} {E:aE} {s:Shared}
def d8(n d:Nat):Option Int→Nat
 | none=>d
 | some v=>if v<0 then (v+(n:Int)).toNat else min v.toNat n
theorem GX(n d:Nat):d8 n d none=d:=rfl
theorem GY(n d k:Nat):d8 n d (some (k:Int))=min k n:=by
 show (if (k:Int)<0 then ((k:Int)+(n:Int)).toNat else min (k:Int).toNat n)=min k n
 rw [aa (by lia),cO]
end
end HT
namespace L2
open PySem PySem.Spec PyProof.Rows
abbrev TO:=St→Hp→(Option Int→Hp→Prop)→Prop
def PO(X:Cx)(e:Option Expr)(t:TO):Prop:=
 ∀(pins:aN) (s:Shared) (σ:St) (H:Hp) (Q:Option Int→Hp→Prop),Inv X pins σ H s→t σ H Q→
  wpAny (model X.prog X.w) X.A (evalPart e X.env) (fun u s'=>∃o H',Inv X pins σ H' s'∧IsPart u o∧Q o H') X.xe s
def GZ:TO:=fun _ H Q=>Q none H
def G0(t:TE):TO:=fun σ H Q=>t σ H fun x H1=>∃i,x=.int i∧Q (some i) H1
theorem intsAre_of{ns:List Int}:∀{us:List Value},Vals (ns.map V.int) us→IntsAre us ns:=by
 induction ns with
 | nil=>intro us r;rw [List.map_nil] at r;cases r;exact .nil
 | cons n ns ih=>
  intro us r;rw [cP] at r;cases r with
  | cons r1 r2=>obtain ⟨t,e⟩:=r1;subst e;exact .cons n t (ih r2)
section
variable {X:Cx} {e:Expr} {te:TE} {lo hi:Option Expr} {tl th:TO} {pos p2:Pos}
theorem BN:PO X none GZ:=by intro pins s σ H Q I h;rw [evalPart_none];exact cf ⟨none,H,I,.none,h⟩
theorem BO(h:PE X e te):PO X (some e) (G0 te):=by intro pins s σ H Q I hw;rw [evalPart_some];refine aI (h pins s σ H _ I hw) fun u s1 ⟨x,H1,I1,r1,q1⟩=>?_;obtain ⟨i,rfl,q⟩:=q1;obtain ⟨t,rfl⟩:=r1;exact ⟨some i,H1,I1,.int i t,q⟩
def BP(X:Cx)(r:V→Option Int→Option Int→Hp→VK→Prop):Prop:=
 ∀(pins:aN) (s:Shared) (σ:St) (H:Hp) (x:V) (v vl vu:Value) (lo hi:Option Int) (sl:Addr) (Q:VK),Inv X pins σ H s→RelV x v→s.heap.IsSliceOf sl vl vu .none→IsPart vl lo→IsPart vu hi→r x lo hi H Q→
  ∃T id,typeLookup (.type T) "__getitem__"=pure (some (.builtin id))∧s.TypeIs v T∧wpAny (model X.prog X.w) X.A (getItem v (.ref sl)) (EP X pins σ Q) X.xe s
def G1(r:V→Option Int→Option Int→Hp→VK→Prop)(te:TE)(tl th:TO):TE:=fun σ H Q=>te σ H fun x H1=>tl σ H1 fun l H2=>th σ H2 fun u H3=>r x l u H3 Q
theorem BQ{r:V→Option Int→Option Int→Hp→VK→Prop}(hr:BP X r)(he:PE X e te)(hl:PO X lo tl)(hu:PO X hi th):PE X (.Subscript e (.Slice lo hi none p2) pos) (G1 r te tl th):=by intro pins s σ H Q I h;refine Subscript_ (aI (he pins s σ H _ I h) fun v s1 ⟨x,H1,I1,r1,q1⟩=>?_);refine wpAny_Slice (aI (hl pins s1 σ H1 _ I1 q1) fun vl s2 ⟨l,H2,I2,pl,q2⟩=>aI (hu pins s2 σ H2 _ I2 q2) fun vu s3 ⟨u,H3,I3,pu,q3⟩=>?_);rw [evalPart_none];refine cf ?_;have I4:Inv X pins σ H3 {s3 with heap:=s3.heap.push {cls:=.type "slice",data:=.fields #[vl,vu,.none]}}:=I3.kept (t':=s3.toks) fun b ob q=>bS _ q;obtain ⟨T,id,hT,ht,hg⟩:=hr pins {s3 with heap:=s3.heap.push {cls:=.type "slice",data:=.fields #[vl,vu,.none]}} σ H3 x v vl vu l u s3.heap.objs.size Q I4 r1 (Heap.IsSliceOf.new ..) pl pu q3;show wpAny (model X.prog X.w) X.A (subscriptTail e (.Slice lo hi none p2) v (.ref s3.heap.objs.size)) (EP X pins σ Q) X.xe {s3 with heap:=s3.heap.push {cls:=.type "slice",data:=.fields #[vl,vu,.none]}};exact tail_any (ops:=[.ref s3.heap.objs.size,v]) ht hT hg (by with_unfolding_all rfl)
def h_(xs:List V)(lo hi:Option Int):List V:=(xs.drop (HT.d8 xs.length 0 lo)).take (HT.d8 xs.length xs.length hi-HT.d8 xs.length 0 lo)
theorem G2(xs:List V)(lo hi:Option Int):(h_ xs lo hi).length≤xs.length:=by unfold h_;rw [ou,q_];lia
end
def kg(n:Nat)(i:Int):Option Nat:=if 0≤i then (if i<n then some i.toNat else none) else if -(n:Int)≤i then some (i+n).toNat else none
def ic{α:Type}(xs:List α)(i:Int):Option α:=(kg xs.length i).bind fun j=>xs[j]?
variable {i:Int} {j:Nat}
theorem BR{n:Nat}(h:kg n i=some j):seqIndex? i n=some j∧j<n∧-(n:Int)≤i∧i<n:=by
 unfold kg at h;by_cases h0:0≤i
 ·rw [ae h0] at h
  by_cases h1:i<n
  ·rw [ae h1] at h
   have e:i.toNat=j:=Option.some.inj h;exact ⟨by rw [seqIndex_of h0 h1,e],by lia,by lia,h1⟩
  ·rw [aa h1] at h;cases h
 ·rw [aa h0] at h
  by_cases h1:-(n:Int)≤i
  ·rw [ae h1] at h
   have e:(i+n).toNat=j:=Option.some.inj h;exact ⟨by rw [seqIndex_neg (by lia) h1,e],by lia,h1,by lia⟩
  ·rw [aa h1] at h;cases h
theorem BS{α:Type}{xs:List α}{v:α}(h:ic xs i=some v):∃j,seqIndex? i xs.length=some j∧xs[j]?=some v∧j<xs.length∧-(xs.length:Int)≤i∧i<xs.length:=by
 unfold ic at h;cases e:kg xs.length i with
 | none=>rw [e] at h;cases h
 | some j=>rw [e] at h;obtain ⟨h1,h2,h3,h4⟩:=BR e;exact ⟨j,h1,h,h2,h3,h4⟩
theorem oY{α:Type}{xs:List α}{v:α}(h:xs[j]?=some v):ic xs (j:Int)=some v:=by
 have hj:j<xs.length:=(cy.mp h).1;have e:kg xs.length (j:Int)=some j:=by unfold kg;rw [ae (by lia),ae (by lia)];simp
 unfold ic;rw [e];exact h
def BU(b:Expr):Prop:=∀o i,subscripted b false o i=operate [o,i] (getItem o i)
def oZ(X:Cx)(r:R2):Prop:=
 ∀(value slice:Expr) (pins:aN) (s:Shared) (σ:St) (H:Hp) (x y:V) (v u:Value) (Q:VK),Inv X pins σ H s→RelV x v→RelV y u→r x y H Q→
  subscripted slice false v u=operate [v,u] (getItem v u)→wpAny (model X.prog X.w) X.A (subscriptTail value slice v u) (EP X pins σ Q) X.xe s
def BV(X:Cx)(id:String)(r:V→List V→Hp→VK→Prop):Prop:=
 ∀(pins:aN) (s:Shared) (σ:St) (H:Hp) (x:V) (xs:List V) (v:Value) (us:List Value) (Q:VK),Inv X pins σ H s→RelV x v→Vals xs us→r x xs H Q→
  wpAny (model X.prog X.w) X.A (call (.builtin id) (v::us)) (EP X pins σ Q) X.xe s
section
variable {X:Cx} {a b:Expr} {ta tb:TE} {pos:Pos}
variable {r:R2}
theorem G3(hr:oZ X r)(ha:PE X a ta)(hb:PE X b tb)(hs:BU b):PE X (.Subscript a b pos) (k8 r ta tb):=by intro pins s σ H Q I h;exact Subscript_ (xW ha hb I h fun v u s2 x y H2 I2 rx ry q=>hr a b pins s2 σ H2 x y v u Q I2 rx ry q (hs _ _))
theorem aC(hr:oZ X r)(ha:PE X a ta)(hb:PE X b tb)(hs:BU b:=by exact fun _ _=>rfl):PE X (.Subscript a b pos) (k8 r ta tb):=G3 hr ha hb hs
def BW(K:aH):R2:=fun x y H Q=>∃p xs i v,x=.ref p∧y=.int i∧bD K H p xs∧ic xs i=some v∧Q v H
def BX(K:aH):R2:=fun x y H Q=>∃p xs i v,x=.ref p∧y=.int i∧dw K H p xs∧ic xs i=some v∧Q v H
theorem dJ:oZ X (BW X.K):=by
 intro value slice pins s σ H x y v u Q I rx ry h hs;obtain ⟨p,xs,i,z,rfl,rfl,hq,he,q⟩:=h;cases rx;obtain ⟨t,rfl⟩:=ry;obtain ⟨its,r,pl,hz⟩:=I.list hq;obtain ⟨j,h1,h2,h3,h4,h5⟩:=BS he;obtain ⟨w,ew,rX⟩:=r.get h2;have hl:=r.length;have hn:=uR;have fin:EP X pins σ Q w s:=⟨z,H,I,rX,q⟩;by_cases h0:0≤i
 ·have hj:i.toNat=j:=by rw [seqIndex_of h0 h5] at h1;exact Option.some.inj h1
  exact item_listR pl.isList h0 (by lia) (by rw [hj];simpa using ew) fin hs
 ·have hj:(i+(its.toArray.size:Int)).toNat=j:=by
   rw [seqIndex_neg (by lia) h4] at h1
   rw [cz,←hl];exact Option.some.inj h1
  exact subscriptTail_builtinR (x:=w) pl.isList.typeIs slot_list_getitem.lookup
   (wpAny_getItem_list_neg (Q:=fun r s'=>r=w∧EP X pins σ Q r s') pl.isList (by lia) (by rw [cz] <;> lia) (by lia) (by rw [hj];simpa using ew) ⟨rfl,fin⟩) hs
theorem aS:oZ X (BX X.K):=by
 intro value slice pins s σ H x y v u Q I rx ry h hs;obtain ⟨p,xs,i,z,rfl,rfl,hq,he,q⟩:=h;cases rx;obtain ⟨t,rfl⟩:=ry;obtain ⟨its,r,pl,hz⟩:=I.tuple hq;obtain ⟨j,h1,h2,h3,h4,h5⟩:=BS he;obtain ⟨w,ew,rX⟩:=r.get h2;have hl:=r.length;have hn:=uR;have fin:EP X pins σ Q w s:=⟨z,H,I,rX,q⟩
 exact subscriptTail_builtinR (x:=w) pl.typeIs slot_tuple_getitem.lookup
  (getItem_tuple (j:=j) (Q:=fun r s'=>r=w∧EP X pins σ Q r s') pl (by lia) (by lia) (by rw [cz,←hl];exact h1) (by simpa using ew) ⟨rfl,fin⟩) hs
theorem G4(its:List Value)(n j:Nat)(u:Value):Obj.mapSeq (·.setIfInBounds j u) {cls:=.type "list",data:=.seq its.toArray n}={cls:=.type "list",data:=.seq (its.set j u).toArray n}:=by simp [Obj.mapSeq]
theorem Inv.lst{pins:aN}{σ:St}{H:Hp}{s:Shared}{p:Addr}{xs:List V}(I:Inv X pins σ H s)(h:H p=some (.lst xs)) :
  ∃(its:List Value) (n:Nat),Vals xs its∧s.heap.get? p=some {cls:=.type "list",data:=.seq its.toArray n}∧xs.length≤sizeLine:=by
 obtain ⟨z,its,n,r,e⟩:=I.au p _ h;exact ⟨its,n,r,e,z⟩
variable {pins:aN} {σ:St} {H:Hp} {s:Shared}
theorem Inv.G5{p:Addr}{xs ys:List V}{its its':List Value}{n n':Nat}{f:Obj→Obj}(I:Inv X pins σ H s)(h:H p=some (.lst xs))
  (ho:s.heap.get? p=some {cls:=.type "list",data:=.seq its.toArray n}) (hf:f {cls:=.type "list",data:=.seq its.toArray n}={cls:=.type "list",data:=.seq its'.toArray n'}) (r:Vals ys its') (hz:ys.length≤sizeLine) (t:Nat) :
  Inv X pins σ (upd H p (.lst ys)) {s with heap:=s.heap.update p f,toks:=t}:=by
 have e:(s.heap.update p f).get? p=some {cls:=.type "list",data:=.seq its'.toArray n'}:=by rw [xA f ho (by rw [hf] <;> rfl),hf]
 refine I.write (x:=p) (e:=p) (by rw [h];trivial) (.inl rfl) (fun b u hb q=>(xB _ _ (Ne.symm hb)).trans q) ⟨_,e⟩ ?_
 exact ⟨hz,its',n',r,e⟩
def G6:V→V→V→Hp→(Hp→Prop)→Prop:=fun o i v H Q=>∃p xs k j,o=.ref p∧i=.int k∧H p=some (.lst xs)∧kg xs.length k=some j∧Q (upd H p (.lst (xs.set j v)))
theorem set_list:Bo X G6:=by
 intro pins s σ H o i v ov iv u Q I ro ri rv h;obtain ⟨p,xs,k,j,rfl,rfl,hp,hj,q⟩:=h;cases ro;obtain ⟨t,rfl⟩:=ri;obtain ⟨its,n,r,ho,hz⟩:=I.lst hp;obtain ⟨h1,h2,h3,h4⟩:=BR hj;have hl:=r.length;have hn:=uR;have I':Inv X pins σ (upd H p (.lst (xs.set j v))) {s with heap:=s.heap.update p (Obj.mapSeq (·.setIfInBounds j u))}:=
  I.G5 hp ho (G4 its n j u) (r.set rv j) (by rw [List.length_set];exact hz) s.toks
 by_cases h0:0≤k
 ·have hk:k.toNat=j:=by rw [seqIndex_of h0 h4] at h1;exact Option.some.inj h1
  exact PySem.W.ki_setAt ho h0 (by lia) (by rw [cz,←hl];exact h4) (by rw [hk];exact ⟨_,I',q⟩)
 ·have hk:(k+(its.toArray.size:Int)).toNat=j:=by
   rw [seqIndex_neg (by lia) h3] at h1
   rw [cz,←hl];exact Option.some.inj h1
  exact PySem.W.ki_setBack ho (by lia) (by rw [cz,←hl];exact h3) (by lia) (by rw [hk];exact ⟨_,I',q⟩)
theorem G7(lo hi:Option Int)(n:Nat):(sliceBounds lo hi none n).1=((HT.d8 n 0 lo:Nat):Int)∧(sliceBounds lo hi none n).2.1=((HT.d8 n n hi:Nat):Int)∧(sliceBounds lo hi none n).2.2=1:=by
 refine ⟨?_,?_,rfl⟩
 ·cases lo with
  | none=>simp [sliceBounds,HT.d8]
  | some i=>
   simp only [sliceBounds,HT.d8,Option.getD_none,show (1:Int)>0 by decide,if_true]
   by_cases h:i<0;·simp only [h,if_true] <;> lia
   ·simp only [h,if_false] <;> lia
 ·cases hi with
  | none=>simp [sliceBounds,HT.d8]
  | some i=>
   simp only [sliceBounds,HT.d8,Option.getD_none,show (1:Int)>0 by decide,if_true]
   by_cases h:i<0;·simp only [h,if_true] <;> lia
   ·simp only [h,if_false] <;> lia
theorem G8(its:List Value)(lo hi:Option Int):slicePick its.toArray lo hi none=((its.drop (HT.d8 its.length 0 lo)).take (HT.d8 its.length its.length hi-HT.d8 its.length 0 lo)).toArray:=by obtain ⟨h1,h2,h3⟩:=G7 lo hi its.toArray.size;unfold slicePick;rw [h1,h2,h3];simp only [sliceRange_one,pick_run,cz] <;> rfl
def G9(K:aH):V→Option Int→Option Int→Hp→VK→Prop:=fun x lo hi H Q=>∃a xs,x=.ref a∧bD K H a xs∧∀p,H p=none→Q (.ref p) (upd H p (.lst (h_ xs lo hi)))
theorem BY:BP X (G9 X.K):=by
 intro pins s σ H x v vl vu lo hi sl Q I rx hs pl pu h;obtain ⟨a,xs,rfl,hx,q⟩:=h;cases rx;obtain ⟨its,r,ht,hz⟩:=I.list hx;have hlen:=r.length;refine ⟨"list",_,slot_list_getitem.lookup,ht.isList.typeIs,?_⟩;refine wpAny_getItem_list_slice ht.isList hs pl pu .none (by simp) ?_ (by rw [cz] <;> lia)
 rw [G8,←hlen];refine ⟨.ref s.heap.objs.size,_,I.laid (t':=s.toks) (o:=.lst (h_ xs lo hi)) (fun b ob q=>bS _ q) (aw _) ?_,rfl,q _ (I.au.fresh (aw _))⟩;exact ⟨cG (G2 xs lo hi) hz,_,0,(r.drop (HT.d8 xs.length 0 lo)).take (HT.d8 xs.length xs.length hi-HT.d8 xs.length 0 lo),dE _ rfl⟩
def ie:V→Bool
 | .aQ=>true
 | .bl _=>true
 | .int _=>true
 | .str _=>true
 | _=>false
def gb:V→V→Bool
 | .aQ,.aQ=>true
 | .bl a,.bl b=>a == b
 | .bl a,.int b=>(if a then 1 else 0) == b
 | .int a,.bl b=>a == (if b then 1 else 0)
 | .int a,.int b=>a == b
 | .str a,.str b=>a == b
 | _,_=>false
variable {y x:V} {u:Value}
theorem ya{A:Around}{v:Value}(ry:RelV y u)(rx:RelV x v)(fy:ie y=true)(fx:ie x=true):SeqAt.EqAt A s u v (gb y x):=by
 cases y with
 | aQ=>
  cases ry;cases x with
  | aQ=>cases rx;exact SeqAt.EqAt.same _
  | bl b=>cases rx;exact SeqAt.EqAt.none_bool b
  | int b=>obtain ⟨t,rfl⟩:=rx;exact SeqAt.EqAt.none_int b t
  | str b=>obtain ⟨t,rfl⟩:=rx;exact SeqAt.EqAt.none_str b t
  | _=>exact absurd (show false=true from fx) b_
 | bl a=>
  cases ry;cases x with
  | aQ=>cases rx;exact SeqAt.EqAt.bool_none a
  | bl b=>cases rx;exact SeqAt.EqAt.bool_bool a b
  | int b=>obtain ⟨t,rfl⟩:=rx;exact SeqAt.EqAt.bool_int a b t
  | str b=>obtain ⟨t,rfl⟩:=rx;exact SeqAt.EqAt.bool_str a b t
  | _=>exact absurd (show false=true from fx) b_
 | int a=>
  obtain ⟨t',rfl⟩:=ry;cases x with
  | aQ=>cases rx;exact SeqAt.EqAt.int_none a t'
  | bl b=>cases rx;exact SeqAt.EqAt.int_bool a t' b
  | int b=>obtain ⟨t,rfl⟩:=rx;exact SeqAt.EqAt.int_int a t' b t
  | str b=>obtain ⟨t,rfl⟩:=rx;exact SeqAt.EqAt.int_str a t' b t
  | _=>exact absurd (show false=true from fx) b_
 | str a=>
  obtain ⟨t',rfl⟩:=ry;cases x with
  | aQ=>cases rx;exact SeqAt.EqAt.str_none a t'
  | bl b=>cases rx;exact SeqAt.EqAt.str_bool a t' b
  | int b=>obtain ⟨t,rfl⟩:=rx;exact SeqAt.EqAt.str_int a t' b t
  | str b=>obtain ⟨t,rfl⟩:=rx;exact SeqAt.EqAt.str_str a t' b t
  | _=>exact absurd (show false=true from fx) b_
 | _=>exact absurd (show false=true from fy) b_
def fI(x:V)(u:Value):Bool:=match u with
 | .none=>gb .aQ x
 | .bool b=>gb (.bl b) x
 | .int i _=>gb (.int i) x
 | .str z _=>gb (.str z) x
 | _=>false
theorem BZ(r:RelV y u)(f:ie y=true):fI x u=gb y x:=by
 cases y with
 | aQ=>cases r;rfl
 | bl b=>cases r;rfl
 | int i=>obtain ⟨t,rfl⟩:=r;rfl
 | str z=>obtain ⟨t,rfl⟩:=r;rfl
 | _=>exact absurd (show false=true from f) b_
theorem rY{x:V}:∀{xs:List V} {us:List Value},Vals xs us→xs.all ie=true→us.any (fI x)=xs.any fun y=>gb y x
 | _,_,.nil,_=>rfl
 | y::xs,u::us,.cons r t,f=>by rw [List.all_cons,iF] at f;rw [oz,oz,BZ r f.1,rY t f.2]
theorem rZ{A:Around}{s:Shared}{x:V}{v:Value}(rx:RelV x v)(fx:ie x=true):∀{xs:List V} {us:List Value},Vals xs us→xs.all ie=true→∀u∈us,SeqAt.EqAt A s u v (fI x u)
 | _,_,.nil,_=>fun u hu=>by cases hu
 | y::xs,u::us,.cons r t,f=>fun u' hu=>by
  rw [List.all_cons,iF] at f;rcases bZ.mp hu with rfl | hu;·rw [BZ r f.1];exact ya r rx f.1 fx
  ·exact rZ rx fx t f.2 u' hu
def jA(x:V)(xs:List V):Bool:=xs.any fun y=>gb y x
def uW(K:aH)(neg:Bool):R2:=fun x y H Q=>∃p xs,y=.ref p∧(bD K H p xs∨dw K H p xs)∧ie x=true∧xs.all ie=true∧Q (.bl (if neg then !jA x xs else jA x xs)) H
theorem yb:cA X (compareOp .In) (uW X.K false):=by
 intro pins s σ H x y v u Q I rx ry h;obtain ⟨p,xs,rfl,hq,fx,fs,q⟩:=h;cases ry;rcases hq with hq | hq
 ·obtain ⟨its,r,pl,hz⟩:=I.list hq
  refine SeqAt.in_listAt (fI x) pl.isList (fun w hw=>rZ rx fx r fs w (by simpa using hw)) ⟨.bl _,H,I,rfl,?_⟩
  rw [show its.toArray.any (fI x)=its.any (fI x) by simp,rY r fs]
  exact q
 ·obtain ⟨its,r,pl,hz⟩:=I.tuple hq
  refine SeqAt.in_tupleAt (fI x) pl (fun w hw=>rZ rx fx r fs w (by simpa using hw)) ⟨.bl _,H,I,rfl,?_⟩
  rw [show its.toArray.any (fI x)=its.any (fI x) by simp,rY r fs]
  exact q
theorem G_:cA X (compareOp .NotIn) (uW X.K true):=by
 intro pins s σ H x y v u Q I rx ry h;obtain ⟨p,xs,rfl,hq,fx,fs,q⟩:=h;cases ry;rcases hq with hq | hq
 ·obtain ⟨its,r,pl,hz⟩:=I.list hq
  refine SeqAt.notIn_listAt (fI x) pl.isList (fun w hw=>rZ rx fx r fs w (by simpa using hw)) ⟨.bl _,H,I,rfl,?_⟩
  rw [show its.toArray.any (fI x)=its.any (fI x) by simp,rY r fs]
  exact q
 ·obtain ⟨its,r,pl,hz⟩:=I.tuple hq
  refine SeqAt.notIn_tupleAt (fI x) pl (fun w hw=>rZ rx fx r fs w (by simpa using hw)) ⟨.bl _,H,I,rfl,?_⟩
  rw [show its.toArray.any (fI x)=its.any (fI x) by simp,rY r fs]
  exact q
theorem gP:fF X (.builtin "len") (fun xs H Q=>∃p ys,xs=[.ref p]∧(bD X.K H p ys∨dw X.K H p ys)∧Q (.int ys.length) H):=by
 intro pins s σ H xs us Q I r h;obtain ⟨p,ys,rfl,hq,q⟩:=h;obtain ⟨u,rfl,rx⟩:=vals1 r;cases rx;have hn:=uR;rcases hq with hq | hq
 ·obtain ⟨its,r',pl,hz⟩:=I.list hq
  have hlen:=r'.length;exact Calls.call_len_list pl.isList (by simp only [cz] <;> lia) ⟨.int ys.length,H,I.tok _,⟨s.toks+1,by rw [cz,hlen]⟩,q⟩
 ·obtain ⟨its,r',pl,hz⟩:=I.tuple hq
  have hlen:=r'.length;exact len_tuple pl (by simp only [cz] <;> lia) ⟨.int ys.length,H,I.tok _,⟨s.toks+1,by rw [cz,hlen]⟩,q⟩
theorem yc:fF X (.type "tuple") (fun xs H Q=>∃p ys,xs=[.ref p]∧((bD X.K H p ys∧∀l,H l=none→Q (.ref l) (upd H l (.tup ys)))∨(dw X.K H p ys∧Q (.ref p) H))):=by
 intro pins s σ H xs us Q I r h;obtain ⟨p,ys,rfl,h⟩:=h;obtain ⟨u,rfl,rx⟩:=vals1 r;cases rx;rcases h with ⟨hq,q⟩ | ⟨hq,q⟩
 ·obtain ⟨its,r',pl,hz⟩:=I.list hq
  have hlen:=r'.length;refine call_tuple_list pl.isList (fun h' kp=>?_) (by simp only [cz] <;> lia)
  have I1:Inv X pins σ H {s with heap:=h'}:=I.kept (t':=s.toks) kp;have I2:Inv X pins σ (upd H h'.objs.size (.tup ys)) {s with heap:=h'.push {cls:=.type "tuple",data:=.seq its.toArray}}:=
   I1.laid (t':=s.toks) (fun b o e=>bS _ e) (aw _) (show ck X.prog X.w _ _ _ (.tup ys) from ⟨hz,its,r',IsTup.new _ _⟩)
  exact ⟨.ref h'.objs.size,_,I2,rfl,q _ (I1.au.fresh (aw _))⟩
 ·obtain ⟨its,r',pl,hz⟩:=I.tuple hq
  exact call_tuple_same pl ⟨.ref p,H,I,rfl,q⟩
def yd(K:aH)(T:String)(x:V)(H:Hp):Prop:=match x with
 | .str _=>T="str"
 | .int _=>T="int"
 | .ref p=>(T="list"∧∃xs,bD K H p xs)∨(T="tuple"∧∃o,K.lookup p=some o∧o.cls=.type "tuple"∧o.dict=none) ∨
   (T="dict"∧((∃kvs,H p=some (.dK kvs))∨∃kvs,H p=some (.dT kvs)))∨(T="set"∧∃S n,H p=some (.set S n))
 | _=>False
theorem B0{T:String}{v:Value}(I:Inv X pins σ H s)(r:RelV x v)(ty:yd X.K T x H) :
  s.TypeIs v T∧∀a,v=.ref a→∃ob,s.heap.get? a=some ob∧ob.dict=none:=by
 cases x with
 | str z=>obtain ⟨t,rfl⟩:=r;cases (show T="str" from ty);exact ⟨typeIs_str s z t,fun _ e=>nomatch e⟩
 | int i=>obtain ⟨t,rfl⟩:=r;cases (show T="int" from ty);exact ⟨typeIs_int s i t,fun _ e=>nomatch e⟩
 | ref p=>
  cases r;rcases ty with ⟨rfl,xs,hq⟩ | ⟨rfl,o,hk,hc,hd⟩ | ⟨rfl,hk⟩ | ⟨rfl,S,n,hk⟩
  ·obtain ⟨its,_,pl,_⟩:=I.list hq
   refine ⟨pl.isList.typeIs,fun a e=>?_⟩;cases e;obtain ⟨o,n,e,c,hd,_⟩:=pl;exact ⟨o,e,hd⟩
  ·refine ⟨⟨o,I.d7 p o hk,hc⟩,fun a e=>?_⟩
   cases e;exact ⟨o,I.d7 _ o hk,hd⟩
  ·have z:∃o,s.heap.get? p=some o∧o.ExactDict:=by
    rcases hk with ⟨kvs,hk⟩ | ⟨kvs,hk⟩
    ·obtain ⟨_,_,_,_,o,_,_,e,ex,_⟩:=I.au p _ hk
     exact ⟨o,e,ex⟩
    ·obtain ⟨_,_,_,_,o,_,_,e,ex,_⟩:=I.au p _ hk
     exact ⟨o,e,ex⟩
   obtain ⟨o,e,ex⟩:=z;refine ⟨⟨o,e,ex.1⟩,fun a e2=>?_⟩;cases e2;exact ⟨o,e,ex.2.1⟩
  ·obtain ⟨o,_,_,_,e,ex,_⟩:=I.au p _ hk
   refine ⟨⟨o,e,ex.1⟩,fun a e2=>?_⟩;cases e2;exact ⟨o,e,ex.2.1⟩
 | _=>exact False.elim ty
def Ho(K:aH)(T:String)(r:V→List V→Hp→VK→Prop)(to:TE):TE:=fun σ H Q=>to σ H fun x H1=>yd K T x H1∧r x [] H1 Q
def Hq(K:aH)(T:String)(r:V→List V→Hp→VK→Prop)(to:TE)(t:TA):TE:=fun σ H Q=>to σ H fun x H1=>yd K T x H1∧t σ H1 fun xs H2=>r x xs H2 Q
variable {o e:Expr} {es:List Expr} {to:TE} {t:TA} {name:Str} {apos fJ:Pos} {T id:String} {r:V→List V→Hp→VK→Prop}
theorem B1(pa:PlainAttrs T)(slot:Slot T name id)(ye:typeOf (.builtin id)=pure (.type "method_descriptor"))(hm:BV X id r)(ho:PE X o to)
  (yf:attributeBase o name X.env (eval o X.env)=eval o X.env:=by rfl) (yg:(apos.endLine == fJ.line)=true:=by rfl):PE X (.Call (.Attribute o name apos) [] [] fJ) (Ho X.K T r to):=by
 intro pins s σ H Q I h;refine wpAny_Call_method0_late yf yg (aI (ho pins s σ H _ I h) fun v s1 ⟨x,H1,I1,r1,ty,q1⟩=>?_);obtain ⟨h1,h2⟩:=B0 I1 r1 ty;exact ⟨T,id,pa,slot,ye,h1,h2,Calls.callWith_builtin rfl (PySem.evalArgs_none (hm pins s1 σ H1 x [] v [] Q I1 r1 .nil q1))⟩
theorem lh(pa:PlainAttrs T)(slot:Slot T name id)(ye:typeOf (.builtin id)=pure (.type "method_descriptor"))(hm:BV X id r)(ho:PE X o to)(ha:PA X (e::es) t)
  (yf:attributeBase o name X.env (eval o X.env)=eval o X.env:=by rfl)
  (Hr:((backTo fJ (starEach (e::es) X.env)).all (fun x=>!x.1) && (backToKw fJ (keywordEach [] X.env)).all (fun x=>x.1.isSome)
   && decide ((e::es).length+([]:List Keyword).length+(if ([]:List Keyword).isEmpty then 0 else 1)<30))=true:=by rfl)
  (yg:(apos.endLine == fJ.line)=true:=by rfl) (hs:starEach (e::es) X.env=(false,eval e X.env)::starEach es X.env:=by rfl) (Hs:(backTo fJ (starEach es X.env)).any (·.1)=false:=by rfl) :
  PE X (.Call (.Attribute o name apos) (e::es) [] fJ) (Hq X.K T r to t):=by
 intro pins s σ H Q I h;refine wpAny_Call_method_late yf Hr yg rfl (aI (ho pins s σ H _ I h) fun v s1 ⟨x,H1,I1,r1,ty,q1⟩=>?_);obtain ⟨h1,h2⟩:=B0 I1 r1 ty;refine ⟨T,id,pa,slot,ye,h1,h2,?_⟩;have hA:=ha fJ pins s1 σ H1 _ I1 q1;rw [hs] at hA ⊢;refine Calls.callWith_builtin (by show (false || (backTo fJ (starEach es X.env)).any (·.1))=false;rw [Hs] <;> rfl) (Calls.evalArgs_plain ?_)
 exact aI hA fun us s2 ⟨vs,H2,I2,r2,q2⟩=>hm pins s2 σ H2 x vs v us Q I2 r1 r2 q2
end
def r0(X:Cx)(id:String)(r:V→List V→Hp→VK→Prop):Prop:=
 ∀(pins:aN) (s:Shared) (σ:St) (H:Hp) (x:V) (xs:List V) (v:Value) (us:List Value) (Q:VK),Inv X pins σ H s→RelV x v→Vals xs us→r x xs H Q→
  wpAny (model X.prog X.w) X.A (call (.builtin id) (v::us)) (EP X pins σ Q) X.xe s
theorem Vals.one:∀{x:V} {us:List Value},Vals [x] us→∃u,us=[u]∧RelV x u
 | _,_,.cons r .nil=>⟨_,rfl,r⟩
theorem Vals.two:∀{x y:V} {us:List Value},Vals [x,y] us→∃u v,us=[u,v]∧RelV x u∧RelV y v
 | _,_,_,.cons r (.cons q .nil)=>⟨_,_,rfl,r,q⟩
theorem Vals.zero:∀{us:List Value},Vals [] us→us=[]
 | _,.nil=>rfl
variable {xs:List V} {us:List Value}
theorem Vals.dropLast(h:Vals xs us):Vals xs.dropLast us.dropLast:=by
 induction h with
 | nil=>exact .nil
 | cons r t ih=>
  cases t with
  | nil=>exact .nil
  | cons q t'=>exact .cons r ih
theorem Vals.reverse(h:Vals xs us):Vals xs.reverse us.reverse:=by
 induction h with
 | nil=>exact .nil
 | cons r t ih=>rw [List.reverse_cons,List.reverse_cons];exact Vals.append ih (.cons r .nil)
theorem Vals.rep{xs:List V}{us:List Value}(h:Vals xs us):∀k:Nat,Vals (List.replicate k xs).flatten (List.replicate k us).flatten
 | 0=>.nil
 | k+1=>by rw [oA,oA,ra,ra];exact Vals.append h (Vals.rep h k)
variable {α:Type}
theorem Ht(l:List α):l.eraseIdx (l.length-1)=l.dropLast:=by
 induction l with
 | nil=>rfl
 | cons a r ih=>
  cases r with
  | nil=>rfl
  | cons b r=>
   have e:(a::b::r).length-1=((b::r).length-1)+1:=by have h1:(a::b::r).length=r.length+2:=rfl;have h2:(b::r).length=r.length+1:=rfl;lia
   rw [e,List.eraseIdx_cons_succ,ih]
   all_goals rfl
theorem foldl_rep(its:List Value):∀(k:Nat) (acc:List Value),
  List.foldl (fun x1 x2=>x1++x2) acc.toArray (List.replicate k its.toArray)=(acc++(List.replicate k its).flatten).toArray
 | 0,acc=>by simp
 | k+1,acc=>by
  have e:acc.toArray++its.toArray=(acc++its).toArray:=by simp
  have e2:(acc++its)++(List.replicate k its).flatten=acc++(List.replicate (k+1) its).flatten:=by rw [oA,ra,fX]
  rw [←e2,←foldl_rep its k (acc++its),←e,oA,List.foldl_cons]
section
variable {X:Cx} {pins:aN} {σ:St} {H:Hp} {s:Shared} {l b:Addr} {xs ys zs:List V}
variable {its:List Value} {n t':Nat}
theorem Inv.r6{its':List Value}{f:Array Value→Array Value}(I:Inv X pins σ H s)(hH:H l=some (.lst xs))
  (e:s.heap.get? l=some {cls:=.type "list",data:=.seq its.toArray n}) (hf:f its.toArray=its'.toArray) (hv:Vals ys its') (hz:ys.length≤sizeLine) :
  Inv X pins σ (upd H l (.lst ys)) {s with heap:=s.heap.update l (Obj.mapSeq f),toks:=t'}:=by
 have q:=PySem.IsL.update e f;rw [hf] at q;refine I.write (x:=l) (e:=l) (by rw [hH];exact trivial) (.inl rfl) (fun b' u hb hu=>(xB s.heap (Obj.mapSeq f) (Ne.symm hb)).trans hu) ⟨_,q⟩ ?_
 exact ⟨hz,its',_,hv,q⟩
theorem Inv.B2(I:Inv X pins σ H s)(hv:Vals ys its)(hz:ys.length≤sizeLine) :
  Inv X pins σ (upd H s.heap.objs.size (.lst ys)) {s with heap:=s.heap.push {cls:=.type "list",data:=.seq its.toArray},toks:=t'}:=
 I.laid (fun _ _ q=>bS _ q) (aw _) ⟨hz,its,0,hv,dE _ rfl⟩
theorem Inv.fresh(I:Inv X pins σ H s):H s.heap.objs.size=none:=I.au.fresh (aw _)
theorem Inv.kh(I:Inv X pins σ H s)(hH:H l=some (.lst xs)):xs.length≤sizeLine∧∃(its:List Value) (n:Nat),Vals xs its∧xs.length=its.length∧s.heap.get? l=some {cls:=.type "list",data:=.seq its.toArray n}:=by obtain ⟨z,its,n,r,e⟩:=I.au l _ hH;exact ⟨z,its,n,r,r.length,e⟩
theorem B3(h:n≤sizeLine):Builtin.List.listTooLong n=false:=by unfold Builtin.List.listTooLong;exact bj (by lia)
end
section
variable {X:Cx}
def Hv:V→List V→Hp→VK→Prop:=fun x vs H Q=>∃l xs y,x=.ref l∧vs=[y]∧H l=some (.lst xs)∧xs.length<sizeLine∧Q .aQ (upd H l (.lst (xs++[y])))
theorem ki:r0 X "list.append" Hv:=by
 intro pins s σ H x vs v us Q I rx rv h;obtain ⟨l,xs,y,rfl,rfl,hH,hz,q⟩:=h;cases rx;obtain ⟨u,rfl,ru⟩:=rv.one;obtain ⟨z,its,n,r,hl,e⟩:=I.kh hH;refine md F.slot_list_append ⟨_,e,rfl⟩ F.entry_list_append (F.args_list_append_2 _ _) (PySem.list_append l its.toArray n u (by rw [cz];lia)) ⟨e,?_⟩
 refine ⟨.aQ,_,I.r6 (its':=its++[u]) hH e (by simp) (r.append (.cons ru .nil)) ?_,rfl,q⟩
 rw [cY,rb];lia
def Hy:V→List V→Hp→VK→Prop:=fun x vs H Q=>∃l b xs zs,x=.ref l∧vs=[.ref b]∧H l=some (.lst xs)∧H b=some (.lst zs)∧xs.length+zs.length≤sizeLine∧Q .aQ (upd H l (.lst (xs++zs)))
theorem HA:r0 X "list.extend" Hy:=by
 intro pins s σ H x vs v us Q I rx rv h;obtain ⟨l,b,xs,zs,rfl,rfl,hH,hB,hz,q⟩:=h;cases rx;obtain ⟨u,rfl,ru⟩:=rv.one;cases ru;obtain ⟨z,its,n,r,hl,e⟩:=I.kh hH;obtain ⟨z2,lp,n2,r2,HC,e2⟩:=I.kh hB;have hsz:its.toArray.size+lp.toArray.size≤sizeLine:=by rw [cz,cz];lia
 have yh:¬(!its.toArray.isEmpty && Builtin.List.listTooLong (its.toArray.size+lp.toArray.size))=true:=by rw [B3 hsz,Bool.and_false];exact b_
 refine md F.slot_list_extend ⟨_,e,rfl⟩ F.entry_list_extend (F.args_list_extend_2 _ _)
  (AutoSeq1.list_extend_list_list_0 l its.toArray n b lp.toArray n2 yh (by rw [cz];lia) (by lia)) ⟨e,e2,?_⟩
 refine ⟨.aQ,_,I.r6 (its':=its++lp) hH e (by simp) (r.append r2) ?_,rfl,q⟩
 rw [cY];lia
def HD:V→List V→Hp→VK→Prop:=fun x vs H Q=>∃l xs y,x=.ref l∧vs=[]∧H l=some (.lst xs)∧xs[xs.length-1]?=some y∧Q y (upd H l (.lst xs.dropLast))
theorem HE:r0 X "list.pop" HD:=by
 intro pins s σ H x vs v us Q I rx rv h;obtain ⟨l,xs,y,rfl,rfl,hH,hy,q⟩:=h;cases rx;have kj:=rv.zero;subst kj;obtain ⟨z,its,n,r,hl,e⟩:=I.kh hH;obtain ⟨u,hu,ru⟩:=r.get hy;have HF:its.toArray[its.toArray.size-1]?=some u:=by show its.toArray[its.length-1]?=some u;rw [←uf,←hl];exact hu
 refine md F.slot_list_pop ⟨_,e,rfl⟩ F.entry_list_pop (F.args_list_pop_1 _) (MeetsSeq.list_pop_last l its.toArray n u HF (by rw [cz];lia)) ⟨e,?_⟩
 refine ⟨y,_,I.r6 (its':=its.dropLast) hH e ?_ r.dropLast ?_,ru,q⟩
 ·show its.toArray.eraseIdxIfInBounds (its.toArray.size-1)=its.dropLast.toArray
  rw [cz,List.eraseIdxIfInBounds_toArray,Ht]
 ·rw [List.length_dropLast]
  lia
def HG:V→List V→Hp→VK→Prop:=fun x vs H Q=>∃l xs,x=.ref l∧vs=[]∧H l=some (.lst xs)∧Q .aQ (upd H l (.lst []))
theorem HH:r0 X "list.clear" HG:=by
 intro pins s σ H x vs v us Q I rx rv h;obtain ⟨l,xs,rfl,rfl,hH,q⟩:=h;cases rx;have kj:=rv.zero;subst kj;obtain ⟨z,its,n,r,hl,e⟩:=I.kh hH;refine md F.slot_list_clear ⟨_,e,rfl⟩ F.entry_list_clear (F.args_list_clear_1 _) (AutoSeq1.list_clear_list_0 l its.toArray n (by rw [cz];lia)) ⟨e,?_⟩
 exact ⟨.aQ,_,I.r6 (its':=[]) (ys:=[]) hH e rfl .nil (cg _),rfl,q⟩
def HI:R2:=fun x y H Q=>∃l b xs zs,x=.ref l∧y=.ref b∧H l=some (.lst xs)∧H b=some (.lst zs)∧xs.length+zs.length≤sizeLine∧∀p,H p=none→Q (.ref p) (upd H p (.lst (xs++zs)))
theorem B4:cA X (binaryOp .Add) HI:=by
 intro pins s σ H x y v u Q I rx ry h;obtain ⟨l,b,xs,zs,rfl,rfl,hH,hB,hz,q⟩:=h;cases rx;cases ry;obtain ⟨z,its,n,r,hl,e⟩:=I.kh hH;obtain ⟨z2,lp,n2,r2,HC,e2⟩:=I.kh hB;refine PySem.P.add_list e e2 ?_ (by rw [cz,cz];lia)
 have ea:its.toArray++lp.toArray=(its++lp).toArray:=by simp
 rw [ea];exact ⟨.ref _,_,I.B2 (t':=s.toks) (r.append r2) (by rw [cY];lia),rfl,q _ I.fresh⟩
def HJ:R2:=fun x y H Q=>∃l k xs,x=.ref l∧y=.int k∧H l=some (.lst xs)∧-(2 ^ 63)≤k∧k<2 ^ 63∧xs.length*k.toNat≤sizeLine ∧
 ∀p,H p=none→Q (.ref p) (upd H p (.lst (List.replicate k.toNat xs).flatten))
theorem len_rep(xs:List α)(k:Nat):(List.replicate k xs).flatten.length=k*xs.length:=by
 induction k with
 | zero=>simp
 | succ k ih=>rw [oA,ra,cY,ih,Nat.succ_mul,Nat.add_comm]
theorem HK:cA X (binaryOp .Mult) HJ:=by
 intro pins s σ H x y v u Q I rx ry h;obtain ⟨l,k,xs,rfl,rfl,hH,h1,h2,hz,q⟩:=h;cases rx;obtain ⟨t,rfl⟩:=ry;obtain ⟨z,its,n,r,hl,e⟩:=I.kh hH;have hlen:its.toArray.size*k.toNat≤sizeLine:=by rw [cz,←hl];exact hz
 have HL:¬its.toArray.size*k.toNat>(2 ^ 63-1) / 8:=by
  have:(sizeLine:Nat)≤(2 ^ 63-1) / 8:=by decide
  lia
 have HM:¬(!Builtin.List.listFitsIndex k)=true:=by rw [fitsIndex_both h1 h2];exact b_
 have yh:¬Builtin.List.listTooLong (its.toArray.size*k.toNat)=true:=by rw [B3 hlen];exact b_
 have HN:List.foldl (fun x1 x2=>x1++x2) #[] (List.replicate (if its.toArray.isEmpty=true then 0 else k.toNat) its.toArray)=(List.replicate k.toNat its).flatten.toArray:=by
  have f0:∀m:Nat,List.foldl (fun x1 x2=>x1++x2) #[] (List.replicate m its.toArray)=(List.replicate m its).flatten.toArray:=fun m=>by have:=foldl_rep its m [];rw [List.nil_append] at this;exact this
  rw [f0];cases its with
  | nil=>simp
  | cons a r'=>rw [aa (by simp)]
 refine wpAny_binaryOp_repeat_ref (T:="list") (U:="int") (by decide) ⟨_,e,rfl⟩ (fun s'=>typeIs_int s' k t) noFill_list_mul F.fills_int_mul F.slot_int_rmul repeat_list F.slot_int_index.lookup
  (md F.slot_int_rmul (typeIs_int s k t) F.entry_int_rmul (F.args_int_rmul_2 _ _) (int___rmul___int_list k t l its.toArray n)
   ⟨e,rfl,⟨_,e,rfl⟩,md F.slot_list_mul ⟨_,e,rfl⟩ F.entry_list_mul (F.args_list_mul_2 _ _) (AutoListH.list___mul___list_int_3 l its.toArray n k t HM HL yh) ⟨e,?_⟩⟩)
 rw [HN];exact ⟨.ref _,_,I.B2 (t':=s.toks) (r.rep k.toNat) (by rw [len_rep,Nat.mul_comm];exact hz),rfl,q _ I.fresh⟩
end
section
variable {prog:Program} {w:World} {A:Around} {E:aE} {s:Shared}
end
section
variable {X:Cx}
end
end L2
namespace Att
open PySem PySem.W PySem.Calls PyProof.Rows
variable {P:Params} {h:Heap}
theorem HP:∀(ns:List Int) (vs:List Value),WellAll P h vs (ns.map WData.int)→IntsAre vs ns:=by
 intro ns
 induction ns with
 | nil=>intro vs w;rw [List.map_nil] at w;cases w;exact .nil
 | cons n ns ih=>
  intro vs w;rw [cP] at w;cases w with
  | cons a b=>cases a;exact .cons _ _ (ih _ b)
variable {l:OpenLaw} {n:Nat}
theorem HQ(hn:l.most=some n){args:List WData}{vals:List Value}
  (uX:l.row.toRowW.claim.pre args=true) (yi:WellAll P h vals args) :
  ∃a vs ns,vals=[Value.ref a]∧args=[WData.list (ns.map WData.int)]∧h.get? a=some {cls:=.type "list",data:=.seq vs.toArray}∧IntsAre vs ns∧ns.length≤n:=by
 have HR:WShape.hasAll [] args [.list .int]=true:=(pre_splitW uX).1;have hc:l.pre.holds [] {args:=args}=true:=(pre_splitW uX).2;obtain ⟨d,r,rfl,h1,h2⟩:=hasAllW_cons HR;obtain rfl:=hasAllW_nil h2;obtain ⟨xs,rfl,h3⟩:=hasW_list h1;obtain ⟨ns,rfl⟩:=items_int h3;have hlen:ns.length≤n:=by
  unfold OpenLaw.pre at hc;have h4:(WTm.not (.lt (.lit (.int (n:Int))) (.len (.arg 0)))).holds [] {args:=[.list (ns.map .int)]}=true:=by have h4:=(holds_andW hc).1;rw [hn] at h4;exact h4
  have h5:=condW_of h4 (w_not (w_lt w_lit (w_len_list (w_arg rfl))));rw [aJ] at h5;refine Nat.le_of_not_lt fun q=>?_;have q':(n:Int)<((ns.length:Nat):Int):=by lia
  first
   | (rw [aK q'] at h5;exact absurd h5 (by decide))
   | (simp at h5;lia)
 cases yi with
 | cons w1 w2=>
  cases w2;cases w1 with
  | list ho HS=>exact ⟨_,_,ns,rfl,rfl,ho,HP ns _ HS,hlen⟩
theorem HU(l:OpenLaw)(args:List WData):l.row.toRowW.claim.post args (.bool true) args=true:=
 postW_of (r:=l.row.toRowW) (X:=(true == true))
  (show WShape.has [] (.bool true) .bool=true by first | rfl | decide | simp [WShape.has,WShape.arms,WShape.armsAll])
  (show (WTm.eq .res (.lit (.bool true))).value [] {args:=args,res:=some (.bool true),after:=args}=some (.bool (true == true)) from w_eq_bool (w_res rfl) w_lit) rfl
theorem HV{q:Program}{loose:List Str}{XP:(Str→Option Value)→Heap→Prop}{YP:World→Heap→Prop}{d:DefRec}
  (hn:l.most=some n) (r9:d.params.defaults=[])
  (call:∀(w:World) (s₀ s₁:Shared) (mg mb:cJ) (fa:Addr) (o:Obj) (pm cd doc:Value) (a:Addr) (vs:List Value) (ns:List Int),
   Ground q loose [] XP w s₀ mg mb s₁.heap→YP w s₁.heap→
   s₁.heap.get? fa=some o→o.data=.func (docDef d.name d.params d.body d.scope pm cd doc)→s₁.heap.CodeRec cd d.name→mg d.name=some (.ref fa)→
   s₁.heap.get? a=some {cls:=.type "list",data:=.seq vs.toArray}→IntsAre vs ns→ns.length≤n→s₁.gens = #[]→
   codeAny (model l.prog w) callerA (.call (.ref fa) ⟨[.ref a],[]⟩) (fun r s'=>r=.ok (.ret (.bool true))∧OldK s₁.heap s'.heap∧s'.os=s₁.os∧AllBare s'.gens) s₁) :
  WalkO q loose XP YP l.row.toRowW d [] (fun f vs=>PySem.call f vs):=by
 intro w s₀ s₁ mg mb G Y fa o pm cd doc dV kV ho hd f9 hD r_ hg args vals as uX PH PQ yi P2;obtain rfl:dV=.none:=Dflts.none hD r9;obtain rfl:kV=.none:=Dflts.noKw hD;obtain ⟨a,vs,ns,rfl,rfl,yj,hints,hlen⟩:=HQ hn uX yi;refine enter_call (q8 (call w s₀ s₁ mg mb fa o pm cd doc a vs ns G Y ho (fd_plain hd) f9 r_ yj hints hlen hg) fun r s' hq=>?_);obtain ⟨rfl,h2,h3,h4⟩:=hq;exact ⟨.inl ⟨.bool true,.bool true,[],rfl,fun _=>rfl,.bool true,HU l _,fun _=>⟨List.Pairwise.nil,fun _ hm=>(nomatch hm)⟩⟩,h2,h3,h4⟩
section
variable {prog:Program} {w:World} {A:Around} {E:aE} {s:Shared} {K:Frag}
end
end Att
namespace L2
open PySem PySem.Spec PyProof.Rows
theorem B5:∀{vs:List Value} {ns:List Int},IntsAre vs ns→Vals (ns.map V.int) vs
 | _,_,.nil=>.nil
 | _,_,.cons n t h=>.cons ⟨t,rfl⟩ (B5 h)
def yk(H:Hp):Prop:=∀b,H b=none∨∃o xs,H b=some (.bC o (.lst xs))
variable {K:aH} {k:Nat} {a:Addr} {x:Str}
theorem HW{P:Program}{w:World}{mg mb:cJ}{CX:fH}{fa:Addr}{fd:FuncData}{sp:Sp}{s₁:Shared}{vs:List Value}{ns:List Int}
  (KX:K.In s₁.heap) (B6:s₁.heap.Ns mainGlobals mg) (hb:s₁.heap.Ns builtinsNs mb) (mI:∀x:Str,x ≠ "__name__"→mb x=bootBuiltins x) (HX:s₁.heap.NoLimit) (hg:s₁.gens = #[])
  (ha:s₁.heap.get? a=some {cls:=.type "list",data:=.seq vs.toArray}) (hi:IntsAre vs ns) (hl:ns.length≤sizeLine) (hr:dI k callerA)
  (F:∀base:Heap,K.In base→base.Ns mainGlobals mg→bE P w K mg base CX k fa fd [x] sp) (HY:∀(s:Shared) (u:Value),BindsTo s fd ⟨[u],[]⟩ [(x,u)])
  (jy:∀H:Hp,yk H→bD K H a (ns.map V.int)→sp [.ref a] H (fun v _=>v=.bl true) fun _ _ _=>False)
  (yl:∀H e s',CX [] H s₁ (fun _ _ _=>False) e s'→False) :
  codeAny (model P w) callerA (.call (.ref fa) ⟨[.ref a],[]⟩) (fun r s'=>r=.ok (.ret (.bool true))∧OldK s₁.heap s'.heap∧s'.os=s₁.os∧AllBare s'.gens) s₁:=by
 have rv:=B5 hi;have HZ:=hi.length
 have core:∀H:Hp,yk H→bD K H a (ns.map V.int)→bK P w H s₁.heap→(∀b,H b≠none→b=a)→(H a≠none→K.lookup a=none)→
   codeAny (model P w) callerA (.call (.ref fa) ⟨[.ref a],[]⟩) (fun r s'=>r=.ok (.ret (.bool true))∧OldK s₁.heap s'.heap∧s'.os=s₁.os∧AllBare s'.gens) s₁:=by
  intro H hO hS au hA hK;have B7:∀{b:Addr} {o:Obj},s₁.heap.get? b=some o→H b=none→(j9 s₁.heap H).get? b=some o:=fun e n=>FZ e n;have rW:∀{b:Addr} {o:Obj} {es:Array DictEntry} {ep:Nat},s₁.heap.get? b=some o→o.data=.dict es ep→H b=none:=fun{b o es ep} e d=>by
   cases q:H b with
   | none=>rfl
   | some u=>
    have e':b=a:=hA b (by rw [q];simp)
    subst e';rw [ha] at e;cases e;have d':Data.seq vs.toArray _=Data.dict es ep:=d;cases d'
  have uY:∀{b:Addr} {m:cJ},s₁.heap.Ns b m→(j9 s₁.heap H).Ns b m:=fun{b m} ⟨o,es,ep,e,d,r⟩=>⟨o,es,ep,B7 e (rW e d),d,r⟩;have B8:K.In (j9 s₁.heap H):=fun b o e=>B7 (KX b o e) (by
   cases q:H b with
   | none=>rfl
   | some u=>
    have e':b=a:=hA b (by rw [q];simp)
    subst e';rw [hK (by rw [q];simp)] at e;cases e)
  have hM:Mod K mg (j9 s₁.heap H):=⟨B8,uY B6,⟨mb,uY hb,mI⟩,let ⟨mc,h1,h2⟩:=HX;⟨mc,uY h1,h2⟩⟩
  have e0:uU P w K mg (j9 s₁.heap H) callerA [] s₁ H:=⟨rfl,hM,fun b o e=>F0 e,Nat.le_of_eq (FY _ _),trivial,fun b hb=>absurd (show b∈([]:List Addr) from hb) (by simp),au,.of_eq hg⟩
  refine q8 ((F _ B8 (uY B6)).run callerA [] s₁ H ⟨[.ref a],[]⟩ [.ref a] [.ref a] _ _ hr e0 (HY s₁ (.ref a)) (.cons rfl .nil) (jy H hO hS)) fun r s' h=>?_;cases r with
  | error e=>exact (yl H e s' h).elim
  | ok fl=>
   cases fl with
   | next=>exact False.elim h
   | brk=>exact False.elim h
   | cont=>exact False.elim h
   | ret u=>
    obtain ⟨v,H',os,bare,un,H_,r',q⟩:=h;have q':v=.bl true:=q;subst q';obtain rfl:u=Value.bool true:=r';refine ⟨rfl,OldK.of_keep fun b o e=>?_,os,bare⟩;cases q:H b with
    | none=>exact un.keep b o e q (by intro z;exact absurd (show b∈([]:List Addr) from z) (by simp)) (by simp)
    | some u=>
     rcases hO b with z | ⟨ob,xs,z⟩;·rw [q] at z;cases z
     ·have z2:=un.e_ b ob _ z
      obtain ⟨e1,_⟩:=au b _ z;obtain ⟨e2,_⟩:=H_ b _ z2;rw [e] at e1;cases e1;exact e2
 cases hk:K.lookup a with
 | some o=>have e:=KX a o hk;rw [ha] at e;cases e;refine core (fun _=>none) (fun _=>.inl rfl) (.inr ⟨_,vs.toArray,_,hk,rfl,rfl,rfl,by rw [cz,HZ];exact hl,by simpa using rv⟩) (fun b u z=>by have z':(none:Option HO)=some u:=z;cases z') (fun b z=>absurd rfl z) fun z=>absurd rfl z
 | none=>
  refine core (fun b=>if b=a then some (.bC {cls:=.type "list",data:=.seq vs.toArray} (.lst (ns.map V.int))) else none) (fun b=>?_) (.inl (.inr ⟨{cls:=.type "list",data:=.seq vs.toArray},ae rfl⟩)) (fun b u z=>?_) (fun b z=>?_) fun _=>hk
  ·by_cases hb:b=a
   ·exact .inr ⟨_,_,ae hb⟩
   ·exact .inl (aa hb)
  ·by_cases hb:b=a
   ·have z':=(ae hb).symm.trans z
    cases z';subst hb;exact ⟨ha,by rw [aJ];exact hl,vs,_,rv,ha⟩
   ·have z':=(aa hb).symm.trans z
    cases z'
  ·by_cases hb:b=a
   ·exact hb
   ·exact absurd (aa hb) z
abbrev B9 {K:aH} {h:Heap} (_:K.In h):PySem.W.Frag:=K
variable {n:Nat}
theorem Ia{l:PySem.W.OpenLaw}{q:Program}{loose:List Str}{XP:(Str→Option Value)→Heap→Prop}{YP:World→Heap→Prop}{d:DefRec}{K:Params→PySem.W.Frag}{CX:World→fH}{sp:World→Sp}
  (hn:l.most=some n) (Ib:n≤sizeLine) (r9:d.params.defaults=[]) (hr:dI k callerA)
  (hY:∀(w:World) (h:Heap),YP w h→(K w.params).In h)
  (F:∀(w:World) (mg:cJ) (fa:Addr) (h:Heap),(K w.params).In h→h.Ns mainGlobals mg→mg d.name=some (.ref fa)→
   ∃fd:FuncData,(∀(s:Shared) (u:Value),BindsTo s fd ⟨[u],[]⟩ [(x,u)]) ∧
    ∀base:Heap,(K w.params).In base→base.Ns mainGlobals mg→bE l.prog w (K w.params) mg base (CX w) k fa fd [x] (sp w))
  (jy:∀(w:World) (H:Hp) (a:Addr) (ns:List Int),ns.length≤n→yk H→bD (K w.params) H a (ns.map V.int)→sp w [.ref a] H (fun v _=>v=.bl true) fun _ _ _=>False)
  (yl:∀(w:World) (H:Hp) (s:Shared) (e:Value) (s':Shared),CX w [] H s (fun _ _ _=>False) e s'→False) :
  PySem.W.WalkO q loose XP YP l.row.toRowW d [] (fun f vs=>PySem.call f vs):=by
 refine Att.HV hn r9 fun w s₀ s₁ mg mb fa o pm cd doc a vs ns G Y ho hd f9 r_ yj hints hlen hg=>?_;have KX:=hY w _ Y;obtain ⟨fd,hb,hF⟩:=F w mg fa _ KX G.T.g r_;exact HW KX G.T.g G.T.b G.T.builtins G.T.nolimit hg yj hints (cG hlen Ib) hr hF hb (fun H hO hS=>jy w H a ns hlen hO hS) fun H e s'=>yl w H s₁ e s'
def sk(s:Stmt):Arguments:=match s with
 | .FunctionDef _ a _ _ _ _ _ _ _ _=>a
 | _=>{posonlyargs:=[],args:=[],vararg:=none,kwonlyargs:=[],kw_defaults:=[],kwarg:=none,defaults:=[]}
def kl(s:Stmt):List Stmt:=match s with
 | .FunctionDef _ _ b _ _ _ _ _ _ _=>b
 | _=>[]
def bf(s:Stmt):Scope:=match s with
 | .FunctionDef _ _ _ _ _ _ sc _ _ _=>sc
 | _=>{kind:=.function,names:=[],isGenerator:=false,isCoroutine:=false}
abbrev b6:fH:=fun _ _ _ _ _ _=>False
abbrev E0:XK:=fun _ _ _=>False
theorem bF{X:Cx}:Passes b6 X E0:=fun _ _ _ _ _ _ _ h=>h.elim
structure gc (K:aH) (x qual:Str) (st:Stmt) (f:Addr) (fd:FuncData):Prop where
 ex:∃(oc:Value) (od:Option Addr) (kV doc pm:Value) (an:Option Addr) (bH ct:Value) (jx:Array (Option Value)),
  fd=PySem.W.fnOf x qual (sk st) (kl st) (bf st) .none kV doc pm an bH ct∧K.lookup f=some ⟨oc,od,.func fd,jx⟩∧PySem.W.codeIn K bH qual=true
 kp:PySem.W.keepIn K (.ref f)=true
abbrev aV (K:aH) (x:Str) (st:Stmt) (f:Addr) (fd:FuncData):Prop:=gc K x x st f fd
section
variable {P:Program} {w:World} {K:aH} {mg:cJ} {base:Heap}
variable {qual:Str} {st:Stmt} {f:Addr} {fd:FuncData} {N ps:List Str} {sp:Sp}
theorem gc.ok(F:gc K x qual st f fd)(S:bO N ps (bf st))(len:∀vs H Q E,sp vs H Q E→vs.length=ps.length)
  (kf:∀(bH:Value) (A:Around) (outer:List Env) (s:Shared) (H:Hp) (vs:List V) (Q:VK) (E:XK),dI k (A.deeper (envOfC qual (bf st) s.heap.objs.size f bH))→sp vs H Q E→
   ∃t,ei (iS b6 P w K mg base N qual (bf st) f bH A outer s H E).my (kl st) t∧t {nx:=fun _ H'=>Q .aQ H',rt:=Q} (start N vs) H):bE P w K mg base b6 (k+1) f fd ps sp:=by
 obtain ⟨oc,od,kV,doc,pm,an,bH,ct,jx,rfl,lk,f9⟩:=F.ex;refine BM lk f9 S len fun A outer s H vs Q E hr jy=>?_;obtain ⟨t,h,q⟩:=kf bH A outer s H vs Q E hr jy;exact ⟨t,h.my,q⟩
theorem gc.cW(F:gc K x qual st f fd)(S:bO N ps (bf st))
  (kf:∀(bH:Value) (A:Around) (outer:List Env) (s:Shared) (H:Hp) (vs:List V) (Q:VK) (E:XK),dI k (A.deeper (envOfC qual (bf st) s.heap.objs.size f bH))→sp vs H Q E→
   ∃t,ei (iS b6 P w K mg base N qual (bf st) f bH A outer s H E).my (kl st) t∧t {nx:=fun _ H'=>Q .aQ H',rt:=Q} (start N vs) H)
  (len:∀vs H Q E,sp vs H Q E→vs.length=ps.length:=by intro vs H Q E h;repeat first | (obtain ⟨rfl,_⟩:=h;rfl) | (subst h;rfl) | obtain ⟨_,h⟩:=h):bE P w K mg base b6 (k+1) f fd ps sp:=F.ok S len kf
theorem gc.binds(F:gc K x qual st f fd)
  (h:∀(kV doc pm:Value) (an:Option Addr) (bH ct:Value) (us:List Value),us.length=ps.length→bindArgs (PySem.W.fnOf x qual (sk st) (kl st) (bf st) .none kV doc pm an bH ct) ⟨us,[]⟩=pure (ps.zip us)):Binds K fd ps []:=by
 obtain ⟨oc,od,kV,doc,pm,an,bH,ct,jx,rfl,lk,f9⟩:=F.ex;exact .all (h kV doc pm an bH ct)
theorem gc.cE(F:gc K x qual st f fd)
  (h:∀(kV doc pm:Value) (an:Option Addr) (bH ct:Value) (us:List Value),us.length=ps.length→bindArgs (PySem.W.fnOf x qual (sk st) (kl st) (bf st) .none kV doc pm an bH ct) ⟨us,[]⟩=pure (ps.zip us):=by intro _ _ _ _ _ _ us hl;rcases us with _ | ⟨_,_ | ⟨_,_ | ⟨_,_ | ⟨_,_ | ⟨_,_ | ⟨_,_ | ⟨_,_⟩⟩⟩⟩⟩⟩⟩ <;> first | rfl | (simp at hl;done)):Binds K fd ps []:=F.binds h
theorem cF{oc:Value}{od an:Option Addr}{jx:Array (Option Value)}{kV doc pm bH ct:Value}(l:K.lookup f=some ⟨oc,od,.func (PySem.W.fnOf x qual (sk st) (kl st) (bf st) .none kV doc pm an bH ct),jx⟩)
  (c:PySem.W.codeIn K bH qual=true) (k:PySem.W.keepIn K (.ref f)=true):gc K x qual st f (PySem.W.fnOf x qual (sk st) (kl st) (bf st) .none kV doc pm an bH ct):=⟨⟨oc,od,kV,doc,pm,an,bH,ct,jx,rfl,l,c⟩,k⟩
end
theorem dM(h:n≤1000):n<sizeLine:=iG h (by decide)
section
variable {X:Cx}
theorem pv(i:Nat){pos:Pos}(hN:X.N[i]?=some x:=by rfl)(hv:mr X.env.scope x:=by first | exact Or.inl rfl | exact Or.inr (Or.inl rfl) | exact Or.inr (Or.inr rfl))(hd:(x == ("__debug__":Str))=false:=by decide)
  (f9:(x == ("__classdict__":Str))=false:=by decide):PE X (.Name x pos) (rQ i):=F9 hN hv hd f9
end
variable {A B:Prop}
theorem aG(h:B):if false=true then A else B:=by rw [aa b_];exact h
theorem cN(h:A):if true=true then A else B:=by rw [ae rfl];exact h
theorem cX{c:Prop}[Decidable c](h1:c→A)(h2:¬c→B):if c then A else B:=by
 by_cases h:c
 ·rw [ae h]
  exact h1 h
 ·rw [aa h]
  exact h2 h
def ah(H H':Hp):Prop:=∀b o,H b=some o→H' b=some o
theorem ah.refl(H:Hp):ah H H:=fun _ _ h=>h
variable {H:Hp}
theorem ah.trans{H1 H2:Hp}(a:ah H H1)(b:ah H1 H2):ah H H2:=fun c o h=>b c o (a c o h)
theorem ah.seq{H':Hp}{xs:List V}(e:ah H H')(h:bD K H a xs):bD K H' a xs:=by
 rcases h with (h | ⟨o,h⟩) | h;·exact .inl (.inl (e _ _ h))
 ·exact .inl (.inr ⟨o,e _ _ h⟩)
 ·exact .inr h
end L2
set_option maxHeartbeats 4000000
namespace L2
open PySem PySem.Spec PyProof.Rows
structure uZ (P:Program) (w:World) (outer:List Env) (H:Hp) (s:Shared) (H':Hp) (ea C:Addr) (B:Heap) (t:Addr) (s':Shared):Prop where
 os:s'.os=s.os
 bare:AllBare s'.gens
 fl:Heap.FlyingW B outer ea (.ref C) (.ref t) s'.heap
 au:bK P w H' B
 kb:∀b o,s.heap.get? b=some o→H b=none→b∉b3 outer→B.get? b=some o
 tb:∀b o,s.heap.get? b=some o→b∉b3 outer→∃o',B.get? b=some o'
 sl:∀b o,s.heap.get? b=some o→H b=none→b∈b3 outer→∃l,s'.heap.get? b=some {o with slots:=l}
 Qb:∀b∈b3 outer,H b=none
 Ic:∀b o,s.heap.get? b=some o→H b=none→H' b=none
 dq:∀b xs,H b=some (.tup xs)→H' b=some (.tup xs)
 e_:∀b o u,H b=some (.bC o u)→H' b=some (.bC o u)
 fC:∀b ps,H b=some (.j8 ps)→∃more,H' b=some (.j8 (ps++more))
def gg(P:Program)(w:World):fH:=fun outer H s E e s'=>∃ea C H' B t,e=.ref ea∧uZ P w outer H s H' ea C B t s'∧E (.ref C) none H'
section
variable {P:Program} {w:World} {outer:List Env} {H H':Hp} {s s':Shared} {ea C t:Addr} {B:Heap}
def ExcAt(ea C:Addr)(h:Heap):Prop:=∃oe,h.get? ea=some oe∧oe.cls=.ref C∧PySem.W.notCls oe=true
def Ie(ea C:Addr):HO:=.ext (ExcAt ea C)
end
section
variable {X:Cx} {pins:aN} {σ:St} {H H':Hp} {s s':Shared} {ea C t:Addr} {B:Heap}
structure o_ (X:Cx) (E:XK):Prop where
 gJ:X.stack=X.env::X.outer
 fr:X.env.frame=some X.env.locals
 ex:X.ex=[]
 xe:X.xe=fun e s'=>wpAny (model X.prog X.w) X.A (leaving X.env e) (fun _ jw=>gg X.prog X.w X.outer X.H₀ X.s₀ E e jw) (fun e' jw=>gg X.prog X.w X.outer X.H₀ X.s₀ E e' jw) s'
theorem u0{env:Env}{outer:List Env}{L:Addr}(h:env.frame=some L):b3 (env::outer)=L::b3 outer:=by unfold b3;rw [ub,h]
variable {E:XK}
theorem uZ.leave(L:o_ X E)(I:Inv X pins σ H s)(f:uZ X.prog X.w X.stack H s H' ea C B t s'){h:Heap}(x:Heap.FlyingW B X.outer ea (.ref C) (.ref t) h)(up:s'.heap.UpToSlots h):uZ X.prog X.w X.outer X.H₀ X.s₀ H' ea C B t {s' with heap:=h}:=by
 have nL:∀b o,X.s₀.heap.get? b=some o→b≠X.env.locals:=fun b o e=>bY (dZ (aY e) I.ok.above);have ns:∀b o,X.s₀.heap.get? b=some o→b∉b3 X.outer→b∉b3 X.stack:=fun b o e nb z=>by
  rw [L.gJ,u0 L.fr] at z;rcases bZ.mp z with z | z;·exact nL b o e z
  ·exact nb z
 have nx:∀b:Addr,b∉X.ex:=fun b z=>by rw [L.ex] at z;cases z
 refine ⟨f.os.trans I.os,f.bare,x,f.au,fun b o e n nb=>?_,fun b o e nb=>?_,fun b o e n hb=>?_,I.ok.kZ,fun b o e n=>?_,fun b xs e=>f.dq b xs (I.base.dq b xs e),fun b o u e=>f.e_ b o u (I.base.e_ b o u e),fun b ps e=>?_⟩;·exact f.kb b o (I.base.keep b o e n nb (nx b)) (I.base.free b o e n (nx b)) (ns b o e nb)
 ·obtain ⟨o',e'⟩:=I.base.there b o e (nx b)
  exact f.tb b o' e' (ns b o e nb)
 ·obtain ⟨l,q⟩:=I.base.slot b o e n hb (nx b)
  have hs:b∈b3 X.stack:=by rw [L.gJ,u0 L.fr];exact cH _ hb
  obtain ⟨l2,q2⟩:=f.sl b _ q (I.base.free b o e n (nx b)) hs;obtain ⟨_,o2,q3,nf⟩:=f.fl.2.2.1.mem hs;rw [q2] at q3;cases q3;obtain ⟨l3,q4⟩:=up b _ q2 nf;exact ⟨l3,q4⟩
 ·obtain ⟨o',e'⟩:=I.base.there b o e (nx b)
  exact f.Ic b o' e' (I.base.free b o e n (nx b))
 ·obtain ⟨m1,e1⟩:=I.base.fC b ps e
  obtain ⟨m2,e2⟩:=f.fC b _ e1;exact ⟨m1++m2,by rw [e2,Array.append_assoc]⟩
theorem u4:Passes (gg X.prog X.w) X (fun _ _ _=>False):=fun pins σ H s e s' I h=>by obtain ⟨_,_,_,_,_,_,_,q⟩:=h;exact q.elim
theorem B_(L:o_ X E):Passes (gg X.prog X.w) X E:=fun pins σ H s e s' I h=>by
 obtain ⟨ea,C,H',B,t,rfl,f,q⟩:=h;rw [L.xe];refine wpAny_leaves_onW (by rw [I.ok.frames,L.gJ]) L.fr (by have z:=f.fl;rw [L.gJ] at z;exact z) fun h' x up=>?_
 exact ⟨ea,C,H',B,t,rfl,f.leave L I x up,q⟩
end
variable {K:aH} {h:Heap}
theorem Ig{C:Addr}{pb:List Value}{newId:String}(cK:K.In h)(hq:PySem.W.excIn K C pb newId=true) :
  ∃bm N nm qn bs hdct sn sub ab col dd k0 k1 k2 k3 k5 mN,h.get? C=some (excClassObj nm qn C N bs bm hdct sn sub ab col dd k0 k1 k2 k3 k5 newId)∧h.Ns N mN∧mN "__init__"=none∧OwnTail h pb bm∧PySem.W.mroIn K C=fun b=>some ((Value.ref C::bm).contains b):=by
 unfold PySem.W.excIn at hq
 split at hq
 ·rename_i jB cls slt look
  split at hq
  ·rename_i CC rest a0 a1 a2 a3 nn a5 em es
   simp only [iF,beq_iff_eq,Bool.not_eq_true'] at hq;obtain ⟨⟨⟨⟨⟨e1,e2⟩,e3⟩,e4⟩,e5⟩,e6⟩:=hq;subst e1 e2;have Ca:PySem.W.mroIn K CC=fun b=>some ((Value.ref CC::rest).contains b):=by
    funext b
    unfold PySem.W.mroIn PySem.W.clsIn;rw [look];simp [em]
   obtain ⟨c1,c2,c3,c4,c5,c6,c7,c8,c9,Ih,Qr⟩:=cls;dsimp only at em e3 e5 e6;subst em e3;have Ii:slt = #[a0,a1,a2,a3,some (.builtin nn),a5]:=by obtain ⟨ll⟩:=slt;simp only at es;rw [es]
   subst Ii;exact ⟨rest,c4,c1,c5,c2,c6,c7,c8,c9,Ih,jB,a0,a1,a2,a3,a5,_,cK _ _ look,.of_isNs (PySem.W.isNs_of_in cK e5),PySem.W.nsMap_none_of_in cK e5 e6,PySem.W.tail_of_in cK e4,Ca⟩
  ·cases hq
 ·cases hq
section
variable {X:Cx} {E:XK} {x:Str} {C:Addr} {np fJ pos:Pos} {e:Expr} {es:List Expr} {ta:TA} {B newId sq:String} {pb:List Value}
def Ij(C:Addr)(E:XK)(ta:TA):TS:=fun _ σ H=>ta σ H fun vs H1=>vs.length≤sizeLine∧E (.ref C) none H1
theorem Cb(L:o_ X E)(hc:X.calm=true)(FB:ExcBaseFacts B newId sq pb)(hq:PySem.W.excIn X.K C pb newId=true)(hg:Gl X x)(hm:X.mg x=some (.ref C))(ha:PA X (e::es) ta)
  (hs:starEach (e::es) X.env=(false,eval e X.env)::starEach es X.env:=by rfl) (hp:(backTo fJ (starEach es X.env)).any (·.1)=false:=by rfl) (hd:(x == ("__debug__":Str))=false:=by decide) :
  PS X (.Raise (some (.Call (.Name x np) (e::es) [] fJ)) none pos) (Ij C E ta):=by
 intro pins s σ H D I h;obtain ⟨bm,N,nm,qn,bs,hdct,sn,sub,ab,col,dd,k0,k1,k2,k3,k5,mN,hC,hN,Ik,T,_⟩:=Ig I.ok.mod.cK hq
 refine wpAny_Raise_call_subT (C:=C) (nm:=nm) (q:=qn) (N:=N) (bs:=bs) (bm:=bm) (hdct:=hdct) (sn:=sn) (sub:=sub) (ab:=ab) (col:=col) (dd:=dd) (k0:=k0) (k1:=k1) (k2:=k2) (k3:=k3) (k5:=k5) FB (mN:=mN) (T.hasType FB.hasBase) (I.ok.hd hc)
  (by rw [hs];show (false || (backTo fJ (starEach es X.env)).any (·.1))=false;rw [hp];rfl) Ik (xN I hg hm ⟨rfl,?_⟩ hd)
 have h1:=ha fJ pins s σ H _ I h;rw [hs] at h1 ⊢;refine Calls.evalArgs_plain (aI h1 fun us s2 ⟨vs,H1,I1,r,hl,q⟩=>⟨rfl,by rw [←r.length];exact hl,I1.bk _ _ hC,hN.keeps I1.bk,T.keeps I1.bk,fun h' ea mk=>?_⟩)
 rw [L.xe];have nL:∀b o,X.s₀.heap.get? b=some o→b≠X.env.locals:=fun b o q=>bY (dZ (aY q) I1.ok.above);have ns:∀b o,X.s₀.heap.get? b=some o→b∉b3 X.outer→b∉b3 X.stack:=fun b o q nb z=>by
  rw [L.gJ,u0 L.fr] at z;rcases bZ.mp z with z | z;·exact nL b o q z
  ·exact nb z
 have nx:∀b:Addr,b∉X.ex:=fun b z=>by rw [L.ex] at z;cases z
 have ff:s2.heap.FunFrames (PySem.W.hideAll s2.heap (b3 X.stack)) (X.env::X.outer):=by have z:=I1.stack;rw [←L.gJ];exact PySem.W.funFrames_hide z fun env he a hf=>List.mem_filterMap.mpr ⟨env,he,hf⟩
 refine wpAny_leaves_madeW (base:=PySem.W.hideAll s2.heap (b3 X.stack)) (h:=s2.heap) (by rw [I1.ok.frames,L.gJ]) L.fr (fun b o q=>PySem.W.of_hideAll _ q) ff mk fun h2 t fl _ _ up=>?_
 refine ⟨ea,C,H1,_,t,rfl,⟨I1.os,I1.bare,fl,fun a o e1=>?_,fun b o e1 n nb=>?_,fun b o e1 nb=>?_,fun b o e1 n hb=>?_,I1.ok.kZ,fun b o e1 n=>?_,I1.base.dq,I1.base.e_,I1.base.fC⟩,q⟩
 ·refine (I1.au a o e1).gI (fun b u hb e2=>ua _ e2 fun z=>?_) (fun _ z=>z) fun _ _ z=>z
  have n0:=I1.rO b z;rcases hb with hb | hb
  ·subst hb
   rw [e1] at n0;cases n0
  ·rw [hb] at n0
   cases n0
 ·exact ua _ (I1.base.keep b o e1 n nb (nx b)) (ns b o e1 nb)
 ·obtain ⟨o',e2⟩:=I1.base.there b o e1 (nx b)
  exact ⟨o',ua _ e2 (ns b o e1 nb)⟩
 ·obtain ⟨l,e2⟩:=I1.base.slot b o e1 n hb (nx b)
  have oR:b∈b3 X.stack:=by rw [L.gJ,u0 L.fr];exact cH _ hb
  obtain ⟨_,o2,e3,nf⟩:=I1.stack.mem oR;rw [e2] at e3;cases e3;obtain ⟨l2,e4⟩:=up b _ (mk.keeps _ _ e2) nf;exact ⟨l2,e4⟩
 ·obtain ⟨o',e2⟩:=I1.base.there b o e1 (nx b)
  exact I1.base.free b o e1 n (nx b)
end
section
variable {X:Cx} {k:Nat} {f C:Addr} {fd:FuncData} {ps:List Str} {sp:Sp} {jv:List V} {ds:List Value} {x m:Str} {p pos apos:Pos} {e o:Expr} {es:List Expr} {ta:TE} {t:TA}
variable {te:TX} {i:Nat} {pos':Pos}
end
section
variable {X:Cx} {pins:aN} {σ:St} {H:Hp} {s:Shared} {ea:Addr}
end
section
variable {M:Model} {A:Around} {E:aE} {h:Heap} {g:Array GenState} {d:Drawn} {t:Nat} {os:OsState} {e:Addr} {oe:Obj} {Q:Bool→Shared→Prop}
variable {nm q QP q':Str} {C N D N':Addr} {bs bm QQ QR:List Value} {hdct Q1:Bool} {sn lq:List Str} {sub Ru:List Value} {ab Rv:Bool} {col Rw:Option Bool} {dd sr:Option Addr} {k0 k1 k2 k3 k5 j0 j1 j2 j3 j5:Option Value} {newId Rx:String}
end
section
variable {X:Cx} {body:List Stmt} {b₀:Stmt} {Ry:List Stmt} {np Rz pos:Pos} {x n:Str} {D:Addr} {tb:RA} {ts:TS} {pb:List Value} {newId:String} {i:Nat}
end
section
variable {P:Program} {w:World} {K:aH} {mg:cJ} {base:Heap}
variable {x qual:Str} {st:Stmt} {f:Addr} {fd:FuncData} {N ps:List Str} {k:Nat} {sp:Sp}
theorem gc.Il(F:gc K x qual st f fd)(S:bO N ps (bf st))(len:∀vs H Q E,sp vs H Q E→vs.length=ps.length)
  (kf:∀(bH:Value) (A:Around) (outer:List Env) (s:Shared) (H:Hp) (vs:List V) (Q:VK) (E:XK),dI k (A.deeper (envOfC qual (bf st) s.heap.objs.size f bH))→sp vs H Q E→
   o_ (iS (gg P w) P w K mg base N qual (bf st) f bH A outer s H E) E→
   ∃t,ei (iS (gg P w) P w K mg base N qual (bf st) f bH A outer s H E) (kl st) t∧t {nx:=fun _ H'=>Q .aQ H',rt:=Q} (start N vs) H):bE P w K mg base (gg P w) (k+1) f fd ps sp:=by
 obtain ⟨oc,od,kV,doc,pm,an,bH,ct,jx,rfl,lk,f9⟩:=F.ex;exact BM lk f9 S len fun A outer s H vs Q E hr jy=>kf bH A outer s H vs Q E hr jy ⟨rfl,rfl,rfl,rfl⟩
theorem gc.gQ(F:gc K x qual st f fd)(S:bO N ps (bf st))
  (kf:∀(bH:Value) (A:Around) (outer:List Env) (s:Shared) (H:Hp) (vs:List V) (Q:VK) (E:XK),dI k (A.deeper (envOfC qual (bf st) s.heap.objs.size f bH))→sp vs H Q E→
   o_ (iS (gg P w) P w K mg base N qual (bf st) f bH A outer s H E) E→
   ∃t,ei (iS (gg P w) P w K mg base N qual (bf st) f bH A outer s H E) (kl st) t∧t {nx:=fun _ H'=>Q .aQ H',rt:=Q} (start N vs) H)
  (len:∀vs H Q E,sp vs H Q E→vs.length=ps.length:=by intro vs H Q E h;repeat first | (obtain ⟨rfl,_⟩:=h;rfl) | (subst h;rfl) | obtain ⟨_,h⟩:=h):bE P w K mg base (gg P w) (k+1) f fd ps sp:=F.Il S len kf
end
structure mJ (K:aH) (C:Addr):Prop where
 ci:PySem.W.hasDictIn K C=true
 ga:PySem.W.findIn K (.ref C) "__getattribute__"=some (some (.builtin "BaseException.__getattribute__"))
 gn:PySem.W.findIn K (.ref C) "__getattr__"=some none
 ca:PySem.W.findIn K (.ref C) "__class__"=some (some (.builtin "object.__class__"))
 mo:PySem.W.mroIn K C (.type "object")=some true
 mb:PySem.W.mroIn K C (.type "BaseException")=some true
section
variable {prog:Program} {w:World} {A:Around} {E:aE} {h:Heap} {g:Array GenState} {d:Drawn} {t:Nat} {os:OsState} {K:aH} {a C:Addr} {o:Obj}
theorem Im{R:Result→Shared→Prop}(cK:K.In h)(c:mJ K C)(hx:h.get? a=some o)(hc:o.cls=.ref C)(hq:R (.ok (.ret (.ref C))) ⟨h,g,d,t,os⟩) :
  codeAny (model prog w) A (.call (.builtin "getset_descriptor.__get__") ⟨[.builtin "object.__class__",.ref a,.ref C],[]⟩) R ⟨h,g,d,t,os⟩:=by
 have Cc:(⟨h,g,d,t,os⟩:Shared).TypeIs (.builtin "object.__class__") "getset_descriptor":=xC;have L1:=PySem.W.looks_mroIn (M:=model prog w) cK c.mo;have ow:=F.owner_object_class;refine ug F.slot_gs_get.plain F.entry_gs_get (F.slot_gs_get.check _ _ _ _ _ _ _ _ Cc (F.args_gs_get _ _ _) ?_)
 repeat (any_goals (first | assumption | (with_reducible refine rf hx ?_;rw [hc]) | (rw [ow];with_reducible refine L1.at ?_) | wp_step))
 refine ⟨Code.quiet_builtin _ (by decide +kernel),codeAny_builtin F.entry_object_class ?_⟩
 repeat (any_goals (first | assumption | (with_reducible refine rf hx ?_;rw [hc]) | wp_step))
variable {tk:Tok}
theorem Io{Q:Fin→Shared→Prop}(cK:K.In h)(c:mJ K C)(hx:h.get? a=some o)(hc:o.cls=.ref C)(hq:Q (.done (.ret (.ref C))) ⟨h,g,d,t,os⟩) :
  wpAny (model prog w) A (Builtin.«object.__getattribute__» ⟨[.ref a,.str "__class__" tk],[]⟩) Q E ⟨h,g,d,t,os⟩:=by
 have Cc:(⟨h,g,d,t,os⟩:Shared).TypeIs (.builtin "object.__class__") "getset_descriptor":=xC;have L1:=PySem.W.looks_findIn (M:=model prog w) cK c.ca;have f5:=xC;have f6:=F.slot_gs_get.lookup;have f7:=F.slot_gs_set.lookup
 repeat (any_goals (first | assumption | (with_reducible refine rf hx ?_;rw [hc]) | with_reducible refine L1.at ?_ | wp_step))
 refine Im cK c hx hc ?_
 repeat (any_goals (first | assumption | wp_step))
theorem Ip{M:Model}{nv:Value}{Q:Unit→Shared→Prop}(cK:K.In h)(c:mJ K C)(hx:h.get? a=some o)(hc:o.cls=.ref C)(hq:Q () ⟨h,g,d,t,os⟩) :
  wpAny M A (checkBuiltinCall "BaseException.__getattribute__" ⟨[.ref a,nv],[]⟩) Q E ⟨h,g,d,t,os⟩:=by
 have hk:builtinKind "BaseException.__getattribute__"=some .slot:=by decide +kernel
 have hs:splitId "BaseException.__getattribute__"=some ("BaseException","__getattribute__"):=by decide +kernel
 have L1:=PySem.W.looks_mroIn (M:=M) cK c.mb;have ha:=F.args_bexc_ga (.ref a) nv;simp only [checkBuiltinCall,hk,hs];refine aB ?_;unfold isInstance
 repeat (first | (with_reducible refine rf hx ?_;rw [hc]) | with_reducible refine L1.at ?_ | wp_step)
 exact hq
theorem Iq{fill expr:Bool}{Q:aE}(cK:K.In h)(c:mJ K C)(hx:h.get? a=some o)(hc:o.cls=.ref C)(hq:Q (.ref C) ⟨h,g,d,t,os⟩) :
  wpAny (model prog w) A (getAttrBy (.ref a) (.str "__class__" tk) fill expr) Q E ⟨h,g,d,t,os⟩:=by
 have f3:=F.attrBase_ValueError.ga.bind (.ref a);have z0:(expr && onTheHeap (Value.builtin "BaseException.__getattribute__"))=false:=by cases expr <;> rfl
 have z2:(Value.builtin "BaseException.__getattribute__" == Value.builtin "object.__getattribute__")=false:=by decide +kernel
 have z1:(onTheHeap (Value.ref C) && Value.builtin "BaseException.__getattribute__" == Value.builtin "object.__getattribute__")=false:=by rw [z2];rfl
 have L1:=PySem.W.looks_findIn (M:=model prog w) cK c.ga;have L2:=PySem.W.looks_findIn (M:=model prog w) cK c.gn
 repeat (any_goals (first | assumption | (with_reducible refine rf hx ?_;rw [hc]) | with_reducible refine L1.at ?_ | with_reducible refine L2.at ?_ | wp_step))
 refine ug F.attrBase_ValueError.ga.plain F.entry_bexc_ga (Ip cK c hx hc (Io cK c hx hc ?_))
 repeat (any_goals (first | assumption | wp_step))
theorem Ir{Q:Option Value→Shared→Prop}(cK:K.In h)(c:mJ K C)(hx:h.get? a=some o)(hc:o.cls=.ref C)(hq:Q (some (.ref C)) ⟨h,g,d,t+1,os⟩) :
  wpAny (model prog w) A (getAttr? (.ref a) "__class__") Q E ⟨h,g,d,t,os⟩:=by
 unfold getAttr? getAttrBy?
 repeat (any_goals (first | assumption | with_reducible apply Iq cK c hx hc | wp_step))
theorem Iu(c:mJ K C):PySem.W.KitX K (.ref a) (.ref C) (ExcAt a C) where
 ty:=fun M h _ k=>by obtain ⟨oe,e1,e2,_⟩:=k;exact e2▸(PySem.W.Looks.ld e1).andThen .now
 it:=fun M h cK _=>by
  obtain ⟨cd,hc,_⟩:=PySem.W.any_some c.ci;unfold PySem.W.clsIn at hc
  split at hc
  ·rename_i look
   intro A' Q' E' s' k q;unfold isType loadHead;exact aB (wpAny_loadPart (k _ _ (cK _ _ look)) (cf q))
  ·cases hc
 ne:=fun h tp dd its n sl cK Iv=>by
  obtain ⟨cd,hc,_⟩:=PySem.W.any_some c.ci;refine Bool.eq_false_iff.mpr fun q=>?_;have e:C=tp:=Value.ref.inj (beq_iff_eq.mp q);subst e;unfold PySem.W.clsIn at hc
  split at hc
  ·rename_i look
   have z:=(cK _ _ look).symm.trans Iv;cases z
  ·cases hc
 ca:=fun{prog w A E Q s} cK k z=>by obtain ⟨oe,e1,e2,_⟩:=k;obtain ⟨h,g,d,t,os⟩:=s;exact Ir cK c e1 e2 z
end
def u5(a:Addr)(h:Heap):Prop:=∃o ep,h.get? a=some o∧o.ExactDict∧o.data=.dict #[] ep∧(a == sysModules)=false
theorem u5.u6{a:Addr}(e:u5 a h):PySem.W.KitAt a "dict" h:=by obtain ⟨o,_,e,c,_⟩:=e;exact ⟨o,e,c.1⟩
def Cd(a:Addr):HO:=.ext (u5 a)
inductive sv (K:aH) (H:Hp):V→Value→Prop where
 | of {x:V} {t:Value} (h:gO K H x t):sv K H x t
 | exc {a C:Addr} (e:H a=some (Ie a C)) (c:mJ K C):sv K H (.ref a) (.ref C)
 | jB {a:Addr} (e:H a=some (Cd a)):sv K H (.ref a) (.type "dict")
def Ce:V→Value
 | .ty n=>.type n
 | .ref a=>.ref a
 | _=>.none
def Iw:V→Bool
 | .ty _=>true
 | .ref _=>true
 | _=>false
def Iy(K:aH):List V→Hp→VK→Prop:=fun xs H Q=>∃x c t b,xs=[x,c]∧Iw c=true∧sv K H x t∧PySem.W.kitOne K t (Ce c)=some b∧Q (.bl b) H
theorem km{X:Cx}(hK:X.K=K:=by rfl):fF X (.builtin "isinstance") (Iy K):=by
 intro pins s σ H xs us Q I r h;subst hK;obtain ⟨x,c,t,b,rfl,hc,ty,e,q⟩:=h;obtain ⟨u,cv,rfl,rx,rc⟩:=vals2 r;have ec:cv=Ce c:=by
  cases c with
  | ty n=>exact rc
  | ref a=>exact rc
  | _=>cases hc
 subst ec;cases ty with
 | of ty=>exact GL I rx ty e fun tk=>⟨.bl b,H,I.tok tk,rfl,q⟩
 | @jB a ea=>cases rx;obtain ⟨k,_,_⟩:=(show ck X.prog X.w H s.heap a (.ext (u5 a)) from I.au a _ ea);exact gG PySem.W.kitx_dict I.d7 k.u6 e (fun z=>nomatch z) fun tk=>⟨.bl b,H,I.tok tk,rfl,q⟩
 | @exc a C ea cc=>cases rx;obtain ⟨k,_,_⟩:=(show ck X.prog X.w H s.heap a (.ext (ExcAt a C)) from I.au a _ ea);exact gG (Iu cc) I.d7 k e (fun z=>nomatch z) fun tk=>⟨.bl b,H,I.tok tk,rfl,q⟩
theorem boot_isinstance:bootBuiltins "isinstance"=some (.builtin "isinstance"):=by decide +kernel
theorem boot_min:bootBuiltins "min"=some (.builtin "min"):=by decide +kernel
theorem boot_max:bootBuiltins "max"=some (.builtin "max"):=by decide +kernel
theorem boot_int:bootBuiltins "int"=some (.type "int"):=by decide +kernel
theorem boot_bool:bootBuiltins "bool"=some (.type "bool"):=by decide +kernel
theorem boot_tuple:bootBuiltins "tuple"=some (.type "tuple"):=by decide +kernel
theorem boot_list:bootBuiltins "list"=some (.type "list"):=by decide +kernel
end L2
namespace My
open PySem L2
end My
namespace L2
open PySem PySem.Spec PyProof.Rows
abbrev Cx.bw (X:Cx) (N:List Str) (scope:Scope) (cl:List (Str×Addr)) (s₃:Shared) (H₃:Hp) (fp:List Addr):Cx:=
 {X with N:=N,s₀:=s₃,H₀:=H₃,env:=compEnvC scope cl s₃.heap.objs.size X.env,outer:=X.stack,stack:=X.stack,ex:=fp,fn:=fun _=>false,pn:=[],xe:=fun _ _=>False}
inductive lu (X:Cx):List Expr→TT→Prop where
 | nil:lu X [] (fun _ H Q=>Q true H)
 | one {c:Expr} {t:TT} (h:PT X c t):lu X [c] t
def fK(wi:TI)(ρ:St→St)(tt:TT)(te:TE):TE:=fun σ H Q=>wi σ H fun J H1=>∀D,H1 D=none→∃W:Nat→Nat→List V→Hp→Prop,(∃m,W 0 m [] (upd H1 D (.lst []))) ∧
 ∀i m ys Hc,W i m ys Hc→Hc D=some (.lst ys)∧((J.stop i Hc∧Q (.ref D) Hc)∨(J.go i Hc∧∀x H',J.dH i Hc x H'→tt (some x::ρ σ) H' fun b H2=>
  if b=true then te (some x::ρ σ) H2 fun y H3=>H3 D=some (.lst ys)∧ys.length<sizeLine∧∃m',m'<m∧W (i+1) m' (ys++[y]) (upd H3 D (.lst (ys++[y]))) else ∃m',m'<m∧W (i+1) m' ys H2))
section
variable {X:Cx} {N:List Str} {scope:Scope} {cl:List (Str×Addr)} {x:Str} {px pos:Pos} {iter elt:Expr} {ifs:List Expr} {wi:TI} {ρ:St→St} {tt:TT} {te:TE}
structure ym (X:Cx) (N:List Str) (scope:Scope) (cl:List (Str×Addr)) (x:Str) (ρ:St→St):Prop where
 u7:closureFor scope X.env=pure cl
 kind:scope.kind=.function
 u9:∀y∈scope.names,y.2≠.cell
 names:∀y∈scope.names,y.2=.local→scope.names.lookup y.1=some .local
 sub:∀p∈cl,X.env.cells.lookup p.1=some p.2
 has:∀y,((relabel scope X.env).names.lookup y=some .cell∨(relabel scope X.env).names.lookup y=some .free)→∃c,cl.lookup y=some c
 n0:N[0]?=some x
 nd:N.Nodup
 hx:scope.names.lookup x=some .local
 u_:∀(σ:St) (j:Nat) (v:V),(ρ σ)[j]?=some (some v)→∃(i:Nat) (y:Str),N[j+1]?=some y∧X.N[i]?=some y∧σ[i]?=some (some v)∧mr X.env.scope y∧(X.env.kindOf y=some .cell∨X.env.kindOf y=some .free)∧((relabel scope X.env).names.lookup y=some .cell∨(relabel scope X.env).names.lookup y=some .free)
 len:∀σ:St,σ.length=X.N.length→(ρ σ).length+1=N.length
theorem Cf{names:List (Str×NameKind)}(h:(names.all fun q=>(q.2 != .cell && q.2 != .free) || (cl.lookup q.1).isSome)=true) :
  ∀y,(names.lookup y=some .cell∨names.lookup y=some .free)→∃c,cl.lookup y=some c:=fun y hy=>by
 have key:∀k:NameKind,(k != .cell && k != .free)=false→names.lookup y=some k→∃c,cl.lookup y=some c:=fun k hk e=>by have z:=rg.mp h (y,k) (jX e);rw [hk,me] at z;exact Option.isSome_iff_exists.mp z
 rcases hy with e | e;·exact key .cell rfl e
 ·exact key .free rfl e
theorem join_some{o:Option (Option V)}{v:V}(h:some o.join=some (some v)):o=some (some v):=by
 cases o with
 | none=>cases h
 | some o=>cases h;rfl
def va(X:Cx)(sc:Scope):List Str→List Nat→Prop
 | n::ns,i::is=>(X.N[i]?=some n∧mr X.env.scope n∧(X.env.kindOf n=some .cell∨X.env.kindOf n=some .free)∧((relabel sc X.env).names.lookup n=some .cell∨(relabel sc X.env).names.lookup n=some .free))∧va X sc ns is
 | _,[]=>True
 | [],_::_=>False
theorem yn{X:Cx}{sc:Scope}:∀{ns:List Str} {is:List Nat},va X sc ns is→∀(σ:St) (j:Nat) (v:V),(is.map fun i=>σ[i]?.join)[j]?=some (some v)→∃(i:Nat) (n:Str),ns[j]?=some n∧X.N[i]?=some n∧σ[i]?=some (some v)∧mr X.env.scope n∧(X.env.kindOf n=some .cell∨X.env.kindOf n=some .free)∧((relabel sc X.env).names.lookup n=some .cell∨(relabel sc X.env).names.lookup n=some .free)
 | _,[],_,_,_,_,e=>by cases e
 | [],_::_,h,_,_,_,_=>h.elim
 | n::_,i::_,h,_,0,_,e=>⟨i,n,rfl,h.1.1,join_some e,h.1.2⟩
 | _::_,_::_,h,σ,j+1,v,e=>yn h.2 σ j v e
theorem eA(is:List Nat)(h1:closureFor scope X.env=pure cl)(h:va X scope N.tail is:=by repeat' first | exact True.intro | refine And.intro ⟨rfl,Or.inr (Or.inl rfl),.inl rfl,.inl rfl⟩ ?_)(h2:scope.kind=.function:=by rfl)(h3:∀y∈scope.names,y.2≠.cell:=by decide +kernel)(h4:∀y∈scope.names,y.2=.local→scope.names.lookup y.1=some .local:=by decide +kernel)(h5:∀p∈cl,X.env.cells.lookup p.1=some p.2:=by repeat' first | exact List.forall_mem_nil _ | refine List.forall_mem_cons.mpr ⟨rfl,?_⟩)(h6:((relabel scope X.env).names.all fun q=>(q.2 != .cell && q.2 != .free) || (cl.lookup q.1).isSome)=true:=by rfl)(h7:N[0]?=some x:=by rfl)(h8:N.Nodup:=by decide +kernel)(h9:scope.names.lookup x=some .local:=by rfl)(hr:∀σ:St,ρ σ=is.map fun i=>σ[i]?.join:=by exact fun _=>rfl)(hl:is.length+1=N.length:=by rfl):ym X N scope cl x ρ:=
 ⟨h1,h2,h3,h4,h5,Cf h6,h7,h8,h9,fun σ j v e=>by rw [hr] at e;rw [←List.getElem?_tail];exact yn h σ j v e,fun σ _=>by rw [hr,aJ];exact hl⟩
theorem ig(B:ym X N scope cl x ρ)(hc:X.calm=true)(hi:PI X (.Name x px) iter wi)(ht:∀s₃ H₃ fp,lu (X.bw N scope cl s₃ H₃ fp) ifs tt)(he:∀s₃ H₃ fp,PE (X.bw N scope cl s₃ H₃ fp) elt te)
  (hs:∀x,foldedSetIterable iter X.env x=pure x:=by intro _;rfl):PE X (.ListComp elt [⟨.Name x px,iter,ifs,0⟩] scope pos) (fK wi ρ tt te):=by
 intro pins s σ H Q I h
 rw [eval_ListComp]
 refine xD (use:=none) rfl hs B.u7 B.kind B.names (aI (hi pins s σ H _ I h) fun v s1 h1=>aI h1 fun rS s2 h2=>?_)
 obtain ⟨it,fp,tn,J,H2,rfl,I2,T,gM,f2,q2⟩:=h2
 have nD:H2 s2.heap.objs.size=none:=I2.au.fresh (aw _)
 obtain ⟨W,⟨m0,w0⟩,turn⟩:=q2 _ nD
 refine rh (wpAny_newFunctionEnv B.u9 (by intro y hy;simp at hy) (fun h₁ gh gm=>?_) B.kind)
 dsimp only at gh gm ⊢
 generalize hD:s2.heap.objs.size=D at nD w0 turn gh gm ⊢
 generalize iT:({s2 with heap:=s2.heap.push {cls:=.type "list",dict:=none,data:=.seq ([]:List Value).toArray}}:Shared)=s3
 have I3:Inv X pins σ (upd H2 D (.lst [])) s3:=by
  subst hD iT
  exact I2.laid (t':=s2.toks) (fun b u e=>bS _ e) (aw _) ⟨cg _,[],_,.nil,dE _ rfl⟩
 have e3:s3.heap=s2.heap.push {cls:=.type "list",dict:=none,data:=.seq ([]:List Value).toArray}:=by rw [←iT]
 have gq:∀b o,s2.heap.get? b=some o→s3.heap.get? b=some o:=fun b o e=>by rw [e3];exact bS _ e
 rw [←e3] at gh gm ⊢
 have below:∀b o,s3.heap.get? b=some o→b≠s3.heap.objs.size:=fun b o e=>bY (aY e)
 have dS:∀b o,s3.heap.get? b=some o→h₁.get? b=some o:=fun b o e=>gm.extBut b o (below b o e) (bS _ e)
 have iU:∀b∈fp,∃o,s2.heap.get? b=some o∧∀v,o.data≠.cell v:=T.obj _ _ gM
 have sC:∀b∈fp,b≠D:=fun b hb z=>by
  obtain ⟨o,e,_⟩:=iU b hb
  rw [z,←hD] at e
  exact absurd (aY e) (eL _)
 have dr:∀y c,cl.lookup y=some c→X.env.cells.lookup y=some c:=fun y c e=>B.sub (y,c) (jX e)
 have sD:=I3.rO
 have gQ:(X.bw N scope cl s3 (upd H2 D (.lst [])) fp).Ok:=by
  refine ⟨I.ok.mod,B.kind,I.ok.glob,I.ok.blt,aw _,fun a b c e1 e2=>I.ok.inj a b c (dr a c e1) (dr b c e2),fun y hy=>B.has y hy,(fun _ _ z _=>absurd z b_),(fun _=>I.ok.hd hc),I.ok.frames,.inl rfl,fun b hb=>⟨?_,fun y c e z=>?_⟩,fun b o e=>?_,cG I.ok.hU I3.sz,fun b o e hb=>?_,fun b hb z=>?_,I3.stack,sD⟩
  ·obtain ⟨o,e,_⟩:=iU b hb
   exact below b o (gq b o e)
  ·exact (f2 b hb).2.2.2.2.1 y c (dr y c e) z
  ·exact I3.bs b o e
  ·rcases (f2 b hb).2.2.2.1 with z | z
   ·exact I.ok.mv b o e z
   ·exact absurd (dZ (aY e) (cG I.ok.hU z)) (eL _)
  ·rcases bZ.mp (I3.rN b z) with z | z
   ·exact (f2 b hb).2.1 z
   ·exact (f2 b hb).2.2.1 z
 have IB:∀tk:Nat,Inv (X.bw N scope cl s3 (upd H2 D (.lst [])) fp) [] (none::ρ σ) (upd H2 D (.lst [])) {s3 with heap:=h₁,toks:=tk}:=fun tk=>by
  refine ⟨gQ,rfl,I3.bare,Un.kept dS,⟨_,gh,fun j y v e1 e2 e3=>?_⟩,fun y c e=>?_,?_,fun y c e=>I3.hV y c (dr y c e),(fun p hp=>nomatch hp),I3.au.kept dS,?_⟩
  ·cases j with
   | zero=>cases e2
   | succ j=>
    obtain ⟨i,y',a1,a2,a3,a4,a5,a6⟩:=B.u_ σ j v e2
    have mK:N[j+1]?=some y:=e1
    rw [mK] at a1
    cases a1
    obtain ⟨m,hn,hl⟩:=I3.loc
    obtain ⟨u,r,l⟩:=hl i y v a2 a3 a4
    refine ⟨u,r,.inr ⟨a6,?_⟩⟩
    obtain ⟨c,ec⟩:=B.has y a6
    rcases l with ⟨k,_⟩ | ⟨_,c',lA,z⟩
    ·rcases a5 with q | q <;> (rw [k] at q;cases q)
    ·have:=dr y c ec
     rw [this] at lA
     cases lA
     obtain ⟨o,ho,hd⟩:=z
     exact ⟨c,ec,o,dS _ _ ho,hd⟩
  ·obtain ⟨v,o,ho,hd⟩:=I3.cell y c (dr y c e)
   exact ⟨v,o,dS _ _ ho,hd⟩
  ·exact I3.au.fresh (aw _)
  ·show (none::ρ σ).length=N.length
   rw [ee]
   exact B.len σ I.len
 have fin:∀{σ':St} {H':Hp} {s':Shared},Inv (X.bw N scope cl s3 (upd H2 D (.lst [])) fp) [] σ' H' s'→Q (.ref D) H'→compPost (model X.prog X.w) X.A X.xe none (EP X pins σ Q) (.ref D) s3.heap.objs.size (.ok .next) s':=fun{σ' H' s'} J q=>by
  obtain ⟨m,hn,_⟩:=J.loc
  refine ⟨m,hn,fun h' gr=>⟨.ref D,H',?_,rfl,q⟩⟩
  have old:∀b o,s3.heap.get? b=some o→b≠s3.heap.objs.size:=below
  have u1:Un (b3 X.stack) fp (upd H2 D (.lst [])) H' s3.heap h':=by
   refine ⟨fun b o e n hb hx=>?_,fun b o e n hb hx=>?_,J.base.free,fun b o e hx=>?_,J.base.dq,J.base.e_,J.base.fC⟩
   ·exact (gr.2 b (old b o e)).trans (J.base.keep b o e n hb hx)
   ·obtain ⟨sl,z⟩:=J.base.slot b o e n hb hx
    exact ⟨sl,(gr.2 b (old b o e)).trans z⟩
   ·obtain ⟨o',z⟩:=J.base.there b o e hx
    exact ⟨o',(gr.2 b (old b o e)).trans z⟩
  have sE:bK X.prog X.w H' h':=fun b u e=>by
   refine (J.au b u e).gI (fun c v hc z=>(gr.2 c fun y=>?_).trans z) (fun _ z=>z) fun _ _ z=>z
   have fr:=J.free
   have y':c=s3.heap.objs.size:=y
   rcases hc with hc | hc
   ·rw [←hc,y'] at e
    exact absurd (fr.symm.trans e) (by simp)
   ·rw [y'] at hc
    exact absurd (fr.symm.trans hc) (by simp)
  refine I3.k4 (s':={s' with heap:=h'}) (ch:=fp) (J.os) u1 sE J.bare fun b hb=>?_
  obtain ⟨g0,g1,g2,g3,g4,g5⟩:=f2 b hb
  exact ⟨g3,g1,g4,g5⟩
 have fD:∀{H':Hp},(∀b∈fp,H' b=none)→∀b∈fp,ke (X.bw N scope cl s3 (upd H2 D (.lst [])) fp) [] H' b:=fun hn b hb=>by
  refine ⟨hn b hb,?_,?_,.inl hb,fun y c e z=>(f2 b hb).2.2.2.2.1 y c (dr y c e) z,fun p hp=>nomatch hp⟩
  ·obtain ⟨o,e,_⟩:=iU b hb
   exact below b o (gq b o e)
  ·exact gQ.mw b hb
 have loop:∀tk:Nat,codeAny (model X.prog X.w) X.A (.compLoop (.ListComp elt [⟨.Name x px,iter,ifs,0⟩] scope pos) 0 (.ref it) (.ref D) (compEnvC scope cl s3.heap.objs.size X.env))
   (compPost (model X.prog X.w) X.A X.xe none (EP X pins σ Q) (.ref D) s3.heap.objs.size) {s3 with heap:=h₁,toks:=tk}:=fun tk=>by
  refine codeAny_compLoop_tests (fun n s'=>∃i ys o H',Inv (X.bw N scope cl s3 (upd H2 D (.lst [])) fp) [] (o::ρ σ) H' s'∧tn i s'.heap∧(∀b∈fp,H' b=none)∧W i n ys H') ?_ m0
   ⟨0,[],none,_,IB tk,T.keep _ _ _ gM fun b hb o e=>dS _ _ (gq _ _ e),fun b hb=>by rw [aM (sC b hb)];exact (f2 b hb).1,w0⟩
  rintro n s4 ⟨i,ys,o,H4,I4,lB,lC,w4⟩
  obtain ⟨Cg,sF⟩:=turn i n ys H4 w4
  rcases sF with ⟨stop,qn⟩ | ⟨go,step⟩
  ·refine bR (T.done (X.bw N scope cl s3 (upd H2 D (.lst [])) fp) rfl rfl rfl hc i [] s4 _ H4 (fun _ _=>False) I4 (fD lC) lB stop) (fun r s5 ⟨hr,I5⟩=>?_) fun _ _ z=>z.elim
   subst hr
   exact fin I5 qn
  ·refine bR (T.item (X.bw N scope cl s3 (upd H2 D (.lst [])) fp) rfl rfl rfl hc i [] s4 _ H4 (fun _ _=>False) I4 (fD lC) lB go) (fun r s5 ⟨u,hr,h5⟩=>?_) fun _ _ z=>z.elim
   subst hr
   have z:letOwnedTupleGo (.Name x px) (.ref it) u=pure ():=rfl
   rw [z] at h5
   show wpAny _ _ ((pure ():Sem Unit) >>= fun _=>assign (.Name x px) (compEnvC scope cl s3.heap.objs.size X.env) u) _ _ s5
   refine aB (bR h5 (fun _ s5 ⟨y,H5,I5,r5,y5,fE,mE⟩=>?_) fun _ _ z=>z.elim)
   have mF:=I5.pinned (fD mE) (T.obj _ _ fE)
   have pg:PG (X.bw N scope cl s3 (upd H2 D (.lst [])) fp) (.Name x px) (cL 0):=cM (i:=0) B.nd B.n0 (.inl (kS B.hx)) (.inr (kS B.hx))
   have again:∀{σ7:St} {H7:Hp} {s7:Shared},Inv (X.bw N scope cl s3 (upd H2 D (.lst [])) fp) ([]++jt fp s5.heap) σ7 H7 s7→Inv (X.bw N scope cl s3 (upd H2 D (.lst [])) fp) [] σ7 H7 s7∧tn (i+1) s7.heap∧∀b∈fp,H7 b=none:=fun{σ7 H7 s7} I7=>by
    refine ⟨I7.oS,T.keep _ _ _ fE fun b hb o e=>(I7.pin (b,o) (c_ _ (c_ _ (k7 hb e)))).1,fun b hb=>?_⟩
    obtain ⟨o,e,d⟩:=T.obj _ _ fE b hb
    exact (I7.pin (b,o) (c_ _ (c_ _ (k7 hb e)))).2.1
   refine bR (pg _ s5 _ H5 y u (fun σ2 H6=>σ2=some y::ρ σ∧H6=H5) mF r5 ⟨rfl,rfl⟩) (fun _ s6 ⟨σ6,H6,I6,q6⟩=>?_) fun _ _ z=>z.elim
   obtain ⟨rfl,rfl⟩:=q6
   have sG:=step y _ y5
   have tests:∀{iV:TT},lu (X.bw N scope cl s3 (upd H2 D (.lst [])) fp) ifs iV→∀{R:Bool→Hp→Prop},iV (some y::ρ σ) H6 R→wpAny (model X.prog X.w) X.A
     (forIn ifs true fun c r=>if r=true then do let ok ←isTrue c (compEnvC scope cl s3.heap.objs.size X.env) (eval c (compEnvC scope cl s3.heap.objs.size X.env));pure (ForInStep.yield ok) else pure (ForInStep.yield r))
     (fun ok s7=>∃H7,Inv (X.bw N scope cl s3 (upd H2 D (.lst [])) fp) ([]++jt fp s5.heap) (some y::ρ σ) H7 s7∧R ok H7) (fun _ _=>False) s6:=fun{iV} p {R} hR=>by
    cases p with
    | nil=>exact wpAny_tests_nil ⟨_,I6,hR⟩
    | one p=>exact wpAny_tests_one (p _ s6 _ _ _ I6 hR)
   refine bR (tests (ht s3 _ fp) sG) (fun ok s7 ⟨H7,I7,q7⟩=>?_) fun _ _ z=>z.elim
   cases ok with
   | false=>
    obtain ⟨m',iW,w7⟩:=q7
    obtain ⟨a1,a2,a3⟩:=again I7
    exact ⟨m',iW,i+1,ys,_,H7,a1,a2,a3,w7⟩
   | true=>
    refine bR (he s3 _ fp _ s7 _ H7 _ I7 q7) (fun ev s8 ⟨z,H8,I8,r8,sI,hz,m',iW,w8⟩=>?_) fun _ _ z=>z.elim
    refine bR (ki (X:=X.bw N scope cl s3 (upd H2 D (.lst [])) fp) _ s8 _ H8 (.ref D) [z] (.ref D) [ev] (fun _ H9=>H9=upd H8 D (.lst (ys++[z]))) I8 rfl (.cons r8 .nil) ⟨D,ys,z,rfl,rfl,sI,hz,rfl⟩) (fun _ s9 ⟨_,H9,I9,_,q9⟩=>?_) fun _ _ z=>z.elim
    subst q9
    obtain ⟨a1,a2,a3⟩:=again I9
    exact ⟨m',iW,i+1,ys++[z],_,_,a1,a2,a3,w8⟩
 have start:=loop (s3.toks+([]:List (Str×Value)).length)
 have es:({s3 with heap:=h₁,toks:=s3.toks+([]:List (Str×Value)).length}:Shared)={s2 with heap:=h₁,toks:=s2.toks+([]:List (Str×Value)).length}:=by rw [←iT]
 rw [es] at start
 exact xE start (T.self _ 0 _ _ _ (T.keep _ _ _ gM fun b hb o e=>dS _ _ (gq _ _ e)) start)
end
theorem Ci:∀{xs:List V} {us:List Value},xs.length=us.length→(∀(i:Nat) (x:V) (u:Value),xs[i]?=some x→us[i]?=some u→RelV x u)→Vals xs us
 | [],[],_,_=>.nil
 | [],_::_,h,_=>by simp at h
 | _::_,[],h,_=>by simp at h
 | x::xs,u::us,h,k=>.cons (k 0 x u rfl rfl) (Ci (by simpa using h) fun i a b h1 h2=>k (i+1) a b (by simpa using h1) (by simpa using h2))
section
variable {X:Cx}
def allR(K:aH):List V→Hp→VK→Prop:=fun xs H Q=>∃(p:Addr) (bs:List Bool),xs=[.ref p]∧bD K H p (bs.map V.bl)∧Q (.bl (bs.all id)) H
theorem Cj{K:aH}(hc:X.calm=true)(hK:X.K=K:=by rfl):fF X (.builtin "all") (allR K):=by
 intro pins s σ H xs us Q I r h;subst hK;obtain ⟨p,bs,rfl,hq,q⟩:=h;obtain ⟨u,rfl,ru⟩:=vals1 r;cases ru;obtain ⟨its,rv,pl,hz⟩:=I.list hq;have d9:p≠s.heap.objs.size:=by obtain ⟨o,e,_⟩:=pl.isList;exact bY (aY e)
 have hl:its.length=bs.length:=by rw [←rv.length,aJ]
 refine call_all_walk (wpAny_pyIter_list pl.isList ?_);refine ⟨s.heap.objs.size,_,_,_,_,_,fun i=>bs.getD i true,rfl,Walks.list (A:=X.A.in1) (show X.A.in1.handled=none from I.ok.hd hc) s.heap.objs.size p d9 its.toArray,⟨⟨_,dE _ rfl,rfl,rfl⟩,pl.isList.push _⟩,fun i v s' Q' E' hv Iz=>?_,fun h' tk hk=>?_⟩
 ·have ko:its[i]?=some v:=by simpa using hv
  cases eb:bs[i]? with
  | none=>
   have:=rv.none_of (i:=i) (by rw [bU,eb];rfl)
   rw [this] at ko;cases ko
  | some b=>
   obtain ⟨u,hu,ru⟩:=rv.get (i:=i) (x:=V.bl b) (by rw [bU,eb];rfl)
   rw [hu] at ko;cases ko;cases ru;have e:bs.getD i true=b:=by rw [fA,eb];rfl
   have Ck:Q' (bs.getD i true) s':=Iz;rw [e] at Ck;exact kO Ck
 ·refine ⟨.bl (bs.all id),H,I.kept fun b o e=>hk b o (fun z=>?_) (bS _ e),?_,q⟩
  ·exact absurd (aY e) (by rw [bV.mp z];exact eL _)
  ·show Value.bool _=Value.bool _
   congr 1
   rw [cz,hl];clear hk q rv pl hz hl hq
   induction bs with
   | nil=>rfl
   | cons b bs ih=>rw [ee,List.range_succ_eq_map,List.all_cons,List.all_map,List.all_cons];show (b && (List.range bs.length).all fun i=>bs.getD i true)=(b && bs.all id);rw [ih]
def IA:List V→Hp→VK→Prop:=fun xs H Q=>∃j:Int,xs=[.int j]∧∀p,H p=none→Q (.ref p) (upd H p (.hJ 0 j))
theorem yo:fF X (.type "range") IA:=by intro pins s σ H xs us Q I r h;obtain ⟨j,rfl,q⟩:=h;obtain ⟨u,rfl,ru⟩:=vals1 r;obtain ⟨t,rfl⟩:=ru;refine call_range_1 ⟨.ref s.heap.objs.size,_,I.laid (o:=.hJ 0 j) (fun b o e=>bS _ e) (aw _) ⟨_,_,_,dE _ rfl⟩,rfl,q _ (I.au.fresh (aw _))⟩
def gR(n:Nat):List V:=(List.range n).map fun i:Nat=>V.int (i:Int)
def IC:List V→Hp→VK→Prop:=fun xs H Q=>∃p n,xs=[.ref p]∧H p=some (.hJ 0 (n:Nat))∧n≤10000∧∀l,H l=none→Q (.ref l) (upd H l (.lst (gR n)))
theorem yp(hc:X.calm=true):fF X (.type "list") IC:=by
 intro pins s σ H xs us Q I r h;obtain ⟨p,n,rfl,hp,hn,q⟩:=h;obtain ⟨u,rfl,ru⟩:=vals1 r;cases ru;obtain ⟨t,u,v,e⟩:=(show ck X.prog X.w H s.heap p (.hJ 0 n) from I.au p _ hp);refine call_list_range (n:=n) (I.ok.hd hc) e (small_one (by lia) (by lia) (by lia) (by lia)) (by rw [rangeSize_one];split <;> lia) (by lia) fun h' tk acc c hk hD hit=>?_
 refine ⟨.ref s.heap.objs.size,_,I.laid (o:=.lst (gR n)) (fun b o e=>hk b o e) (aw _) ⟨?_,acc.toList,c,?_,?_⟩,rfl,q _ (I.au.fresh (aw _))⟩
 ·unfold gR
  rw [aJ,da];exact cG hn (by decide)
 ·refine Ci ?_ fun i x u h1 h2=>?_
  ·unfold gR
   rw [aJ,da,gF,hit.1]
  ·have Cm:acc[i]?=some u:=by simpa using h2
   obtain ⟨ID,e'⟩:=hit.2 i u Cm;unfold gR at h1;rw [bU] at h1;have hi:i<n:=by have z:=(Array.getElem?_eq_some_iff.mp Cm).1;rw [hit.1] at z;exact z
   rw [iH hi] at h1;cases h1;exact ⟨ID,by rw [e'];simp⟩
 ·rw [hD]
end
theorem boot_all:bootBuiltins "all"=some (.builtin "all"):=by decide +kernel
theorem yq:bootBuiltins "range"=some (.type "range"):=by decide +kernel
def yr:Expr→Bool
 | .Starred _ _=>false
 | _=>true
variable {e:Expr} {es:List Expr}
theorem IE{env:Env}(h:yr e=true):starEach (e::es) env=(false,eval e env)::starEach es env:=by cases e <;> first | rfl | cases h
variable {X:Cx} {te:TE} {t:TA}
theorem IF(hs:yr e=true)(ha:PE X e te)(hr:PA X es t):PA X (e::es) (iR te t):=
 GN ha hr (IE hs)
theorem af(ha:PE X e te)(hr:PA X es t)(hs:yr e=true:=by rfl):PA X (e::es) (iR te t):=IF hs ha hr
variable {pos pos':Pos} {x:Str}
theorem Cn{i:Nat}(hs:swapsWith e (some (.Name x pos')) pos.line X.env=pure false)(hf:X.fn x=true∨X.env.scope.names.lookup x=some .local)(hN:X.N.Nodup)(hi:X.N[i]?=some x)(hx:Loc X.env.scope x)(he:PE X e te) :
  PS X (.Assign [.Name x pos'] e pos) (mD te (cL i)):=Gm hN hi hx he hs hf
theorem putL(i:Nat)(hN:X.N.Nodup)(he:PE X e te)(hs:swapsWith e (some (.Name x pos')) pos.line X.env=pure false:=by rfl)(hi:X.N[i]?=some x:=by rfl)(hx:X.env.scope.names.lookup x=some .local:=by rfl) :
  PS X (.Assign [.Name x pos'] e pos) (mD te (cL i)):=Cn hs (.inr hx) hN hi (.inl hx) he
theorem Co(i:Nat)(hN:X.N.Nodup)(he:PE X e te)(hs:swapsWith e (some (.Name x pos')) pos.line X.env=pure false:=by rfl)(hf:X.fn x=true∨X.env.scope.names.lookup x=some .local:=by first | exact .inl rfl | exact .inr rfl | assumption)(hi:X.N[i]?=some x:=by rfl)(hx:X.env.scope.names.lookup x=some .cell:=by rfl) :
  PS X (.Assign [.Name x pos'] e pos) (mD te (cL i)):=Cn hs hf hN hi (.inr hx) he
end L2
namespace My
open PySem L2
theorem fg(a b:Int):decide (V.int a=V.int b)=decide (a=b):=by
 by_cases h:a=b;·subst h;simp
 ·rw [bj h];exact bj fun e=>h (V.int.inj e)
variable {K:aH}
theorem yt{T:String}:PySem.W.kitOne K (.type T) (.type T)=some true:=by unfold PySem.W.kitOne;rw [ae (beq_self_eq_true _)]
variable {H:Hp}
theorem aP{p:Addr}{o:HO}(h:H p=none):ah H (upd H p o):=fun b u e=>by rw [aM (jl e h)];exact e
inductive Any (H:Hp):V→Prop where
 | aQ:Any H .aQ
 | bl (b:Bool):Any H (.bl b)
 | int (i:Int):Any H (.int i)
 | str (x:Str):Any H (.str x)
 | lst {a:Addr} {xs:List V} (e:H a=some (.lst xs)):Any H (.ref a)
 | tup {a:Addr} {xs:List V} (e:H a=some (.tup xs)):Any H (.ref a)
 | jB {a:Addr} (e:H a=some (Cd a)):Any H (.ref a)
def kq:V→Bool
 | .int _=>true
 | _=>false
def kr:V→Bool
 | .bl _=>true
 | _=>false
def vb(H:Hp):V→Bool
 | .ref a=>(match H a with | some (.tup _)=>true | _=>false)
 | _=>false
theorem Any.u6{v:V}(h:Any H v):∃T:String,sv K H v (.type T)∧PySem.W.kitOne K (.type T) (.type "int")=some (kq v || kr v)∧PySem.W.kitOne K (.type T) (.type "bool")=some (kr v) ∧
  PySem.W.kitOne K (.type T) (.type "tuple")=some (vb H v):=by
 cases h with
 | aQ=>exact ⟨"NoneType",.of .aQ,rfl,rfl,rfl⟩
 | bl b=>exact ⟨"bool",.of (.bl b),rfl,rfl,rfl⟩
 | int i=>exact ⟨"int",.of (.int i),rfl,rfl,rfl⟩
 | str x=>exact ⟨"str",.of (.str x),rfl,rfl,rfl⟩
 | lst e=>exact ⟨"list",.of (.lst e),rfl,rfl,by unfold vb;dsimp only;rw [e];rfl⟩
 | tup e=>exact ⟨"tuple",.of (.tup e),rfl,rfl,by unfold vb;dsimp only;rw [e];rfl⟩
 | jB e=>exact ⟨"dict",.jB e,rfl,rfl,by unfold vb;dsimp only;rw [e];rfl⟩
theorem Cp{v:V}(h:kr v=true):kq v=false:=by cases v <;> first | rfl | cases h
def Cq:Sp:=fun vs H Q _=>∃v:V,vs=[v]∧Any H v∧Q (.bl (kq v)) H
def vc(K:aH):Sp:=fun vs H Q _=>∃(a:Addr) (ns:List Int),vs=[.ref a]∧bD K H a (ns.map V.int)∧ns.length≤63∧∀H',Q (.bl true) H'
theorem IG(xs:List V)(k:Nat):h_ xs none (some (k:Int))=xs.take k:=by unfold h_;rw [HT.GX,HT.GY,List.drop_zero,Nat.sub_zero];rw [List.take_eq_take_iff];lia
end My
namespace L2
open PySem PySem.Spec PyProof.Rows
end L2
namespace My
open PySem L2
end My
namespace L2
open PySem PySem.Spec PyProof.Rows
section
variable {P:Program} {w:World} {K:aH} {mg:cJ} {base:Heap}
end
section
variable {X:Cx} {CX:fH} {k:Nat} {f C:Addr} {fd:FuncData} {ps:List Str} {y:Str} {sp:Sp} {E:XK} {m:Str} {pos apos BF:Pos} {e e' o:Expr} {ta:TE} {t tk:TA}
end
end L2
namespace My
open PySem L2
end My
namespace L2
open PySem PySem.Spec PyProof.Rows
section
variable {X:Cx}
end
end L2
namespace My
open PySem L2
section
variable {C N z:Addr} {q:Int} {v u:V} {t b t' b':Int} {H:Hp} {Q:VK} {E:XK}
end
end My
namespace L2
open PySem PySem.Spec PyProof.Rows
structure lD (J:It) (xs:List V) (H1:Hp):Prop where
 go:∀i Hc,ah H1 Hc→i<xs.length→J.go i Hc
 dH:∀i Hc x H',ah H1 Hc→J.dH i Hc x H'→H'=Hc∧(i<xs.length→xs[i]?=some x)
 stop:∀i Hc,ah H1 Hc→xs.length≤i→J.stop i Hc
variable {K:aH} {xs:List V} {H1:Hp}
theorem pd{a:Addr}(h:bD K H1 a xs):lD (oQ K a) xs H1 where
 go:=fun i Hc s hi=>⟨xs,xs[i],s.seq h,by simp [hi]⟩
 dH:=fun i Hc x H' s y=>⟨y.1,fun _=>y.2 xs (s.seq h)⟩
 stop:=fun i Hc s hi=>⟨xs,s.seq h,hi⟩
theorem pe{lo:Int}{n:Nat}:lD (jr lo n) ((List.range n).map fun i:Nat=>V.int (lo+(i:Int))) H1 where
 go:=fun i Hc s hi=>by
  have hi:i<n:=by simpa using hi
  exact hi
 dH:=fun i Hc x H' s y=>⟨y.1,fun hi=>by
  have hi:i<n:=by simpa using hi
  rw [y.2];simp [hi]⟩
 stop:=fun i Hc s hi=>by
  have hi:n≤i:=by simpa using hi
  exact hi
variable {H:Hp} {D:Addr}
theorem eB{H':Hp}{o:HO}(s:ah H H')(n:H D=none):ah H (upd H' D o):=fun b u e=>by rw [aM (jl e n)];exact s b u e
variable {te:TE} {Q:VK}
theorem Cr{J:It}{ρσ:St}(js:lD J xs H1)(nD:H1 D=none)(hn:xs.length<sizeLine)
  (P:Nat→V→Hp→Prop) (mono:∀i y H H' ys,P i y H→H D=some (.lst ys)→(∀b o,b≠D→H b=some o→H' b=some o)→P i y H')
  (step:∀i x,xs[i]?=some x→∀(Hc:Hp) (R:VK),ah H1 Hc→(∃ys,Hc D=some (.lst ys))→(∀y H3,ah Hc H3→P i y H3→R y H3)→te (some x::ρσ) Hc R)
  (fin:∀ys Hc,ah H1 Hc→ys.length=xs.length→(∀i y,ys[i]?=some y→P i y Hc)→Hc D=some (.lst ys)→Q (.ref D) Hc) :
  ∃W:Nat→Nat→List V→Hp→Prop,(∃m,W 0 m [] (upd H1 D (.lst []))) ∧
   ∀i m ys Hc,W i m ys Hc→Hc D=some (.lst ys)∧((J.stop i Hc∧Q (.ref D) Hc)∨(J.go i Hc∧∀x H',J.dH i Hc x H'→
    if true=true then te (some x::ρσ) H' fun y H3=>H3 D=some (.lst ys)∧ys.length<sizeLine∧∃m',m'<m∧W (i+1) m' (ys++[y]) (upd H3 D (.lst (ys++[y]))) else ∃m',m'<m∧W (i+1) m' ys H')):=by
 refine ⟨fun i m ys Hc=>m=xs.length-i∧i≤xs.length∧Hc D=some (.lst ys)∧ah H1 Hc∧ys.length=i∧∀j y,ys[j]?=some y→P j y Hc,⟨_,rfl,cg _,av,eB (ah.refl H1) nD,rfl,fun j y e=>by simp at e⟩,?_⟩
 rintro i m ys Hc ⟨rfl,hi,eD,sH,el,hP⟩;refine ⟨eD,?_⟩;by_cases b4:i<xs.length
 ·refine .inr ⟨js.go i Hc sH b4,fun x H' hy=>?_⟩
  obtain ⟨rfl,hx⟩:=js.dH i Hc x H' sH hy;rw [ae rfl];refine step i x (hx b4) _ _ sH ⟨ys,eD⟩ fun y H3 s3 hp=>?_;have e3:=s3 _ _ eD;refine ⟨e3,by lia,xs.length-(i+1),by lia,rfl,b4,av,eB (sH.trans s3) nD,by simp [el],fun j y' e=>?_⟩
  have bx:∀b o,b≠D→H3 b=some o→upd H3 D (.lst (ys++[y])) b=some o:=fun b o nb e=>by rw [aM nb];exact e
  by_cases hj:j<i
  ·have e':ys[j]?=some y':=by rw [jd (by lia)] at e;exact e
   refine mono j y' H' _ ys (hP j y' e') eD fun b o nb e=>?_;exact bx b o nb (s3 _ _ e)
  ·have hj:j=i:=by have:=(cy.mp e).1;simp at this;lia
   subst hj;have e':y'=y:=by rw [jc (by lia),el,oB] at e;simpa using e.symm
   subst e';exact mono _ _ H3 _ ys hp e3 bx
 ·have e:i=xs.length:=by lia
  subst e;exact .inl ⟨js.stop _ Hc sH (aw _),fin ys Hc sH el hP eD⟩
variable {wi:TI} {ρ:St→St} {σ:St}
theorem IH(gS:∀R:It→Hp→Prop,(∀J H1,ah H H1→lD J xs H1→R J H1)→wi σ H R)(hn:xs.length<sizeLine)
  (P:Addr→Nat→V→Hp→Prop) (mono:∀D i y H H' ys,P D i y H→H D=some (.lst ys)→(∀b o,b≠D→H b=some o→H' b=some o)→P D i y H')
  (step:∀D i x,xs[i]?=some x→∀(Hc:Hp) (R:VK),ah H Hc→(∃ys,Hc D=some (.lst ys))→(∀y H3,ah Hc H3→P D i y H3→R y H3)→te (some x::ρ σ) Hc R)
  (fin:∀D ys Hc,ah H Hc→ys.length=xs.length→(∀i y,ys[i]?=some y→P D i y Hc)→Hc D=some (.lst ys)→Q (.ref D) Hc):fK wi ρ (fun _ H Q=>Q true H) te σ H Q:=by
 refine gS _ fun J H1 s1 js=>?_;intro D nD;exact Cr (ρσ:=ρ σ) (te:=te) (Q:=Q) js nD hn (P D) (mono D) (fun i x hx Hc R sc=>step D i x hx Hc R (s1.trans sc)) (fun ys Hc sc=>fin D ys Hc (s1.trans sc))
theorem bG{g:TG}{D:Ends}(h:te σ H fun x H1=>g x σ H1 D.nx):mD te g D σ H:=h
theorem lE{a b:TS}{D:Ends}(h:a {D with nx:=fun σ H=>b D σ H} σ H):xQ a b D σ H:=h
section
variable {X:Cx} {N:List Str} {scope:Scope} {cl:List (Str×Addr)} {x:Str} {px pos:Pos} {iter elt:Expr} {ifs:List Expr} {wi:TI} {ρ:St→St} {tt:TT} {te:TE}
theorem pf{y:Str}{py Cs:Pos}{i0:Nat}(B:ym X N scope cl x ρ)(hc:X.calm=true)(hN:X.N.Nodup)(II:X.N[i0]?=some y)(hy:Loc X.env.scope y)(hi:PI X (.Name x px) iter wi)(ht:∀s₃ H₃ fp,lu (X.bw N scope cl s₃ H₃ fp) ifs tt)(he:∀s₃ H₃ fp,PE (X.bw N scope cl s₃ H₃ fp) elt te)
  (IJ:swapsWith (.ListComp elt [⟨.Name x px,iter,ifs,0⟩] scope pos) (some (.Name y py)) Cs.line X.env=pure true:=by rfl) (hf:X.fn y=true∨X.env.scope.names.lookup y=some .local:=by first | exact .inl rfl | exact .inr rfl | assumption)
  (hs:∀x,foldedSetIterable iter X.env x=pure x:=by intro _;rfl):PS X (.Assign [.Name y py] (.ListComp elt [⟨.Name x px,iter,ifs,0⟩] scope pos) Cs) (mD (fK wi ρ tt te) (cL i0)):=by
 intro pins s σ H D0 I h
 have h:fK wi ρ tt te σ H (fun v H1=>D0.nx (σ.set i0 (some v)) H1):=h
 rw [exec_Assign_Name_used _ _ _ _ IJ]
 refine aB (q0 (aB ?_))
 show wpAny _ X.A (do let _ ←comprehension (.ListComp elt [⟨.Name x px,iter,ifs,0⟩] scope pos) scope X.env _ (newList []) false (eval iter X.env) (some (assign (.Name y py) X.env))) _ _ s
 refine aB (bR (Q:=fun _ s'=>SP X pins D0 .next s') ?_ (fun _ s' hq=>cf (cf hq)) fun _ _ e=>e)
 refine xD (use:=some (assign (.Name y py) X.env)) rfl hs B.u7 B.kind B.names (aI (hi pins s σ H _ I h) fun v s1 h1=>aI h1 fun rS s2 h2=>?_)
 obtain ⟨it,fp,tn,J,H2,rfl,I2,T,gM,f2,q2⟩:=h2
 have nD:H2 s2.heap.objs.size=none:=I2.au.fresh (aw _)
 obtain ⟨W,⟨m0,w0⟩,turn⟩:=q2 _ nD
 refine rh (wpAny_newFunctionEnv B.u9 (by intro y hy;simp at hy) (fun h₁ gh gm=>?_) B.kind)
 dsimp only at gh gm ⊢
 generalize hD:s2.heap.objs.size=D at nD w0 turn gh gm ⊢
 generalize iT:({s2 with heap:=s2.heap.push {cls:=.type "list",dict:=none,data:=.seq ([]:List Value).toArray}}:Shared)=s3
 have I3:Inv X pins σ (upd H2 D (.lst [])) s3:=by
  subst hD iT
  exact I2.laid (t':=s2.toks) (fun b u e=>bS _ e) (aw _) ⟨cg _,[],_,.nil,dE _ rfl⟩
 have e3:s3.heap=s2.heap.push {cls:=.type "list",dict:=none,data:=.seq ([]:List Value).toArray}:=by rw [←iT]
 have gq:∀b o,s2.heap.get? b=some o→s3.heap.get? b=some o:=fun b o e=>by rw [e3];exact bS _ e
 rw [←e3] at gh gm ⊢
 have below:∀b o,s3.heap.get? b=some o→b≠s3.heap.objs.size:=fun b o e=>bY (aY e)
 have dS:∀b o,s3.heap.get? b=some o→h₁.get? b=some o:=fun b o e=>gm.extBut b o (below b o e) (bS _ e)
 have iU:∀b∈fp,∃o,s2.heap.get? b=some o∧∀v,o.data≠.cell v:=T.obj _ _ gM
 have sC:∀b∈fp,b≠D:=fun b hb z=>by
  obtain ⟨o,e,_⟩:=iU b hb
  rw [z,←hD] at e
  exact absurd (aY e) (eL _)
 have dr:∀y c,cl.lookup y=some c→X.env.cells.lookup y=some c:=fun y c e=>B.sub (y,c) (jX e)
 have sD:=I3.rO
 have gQ:(X.bw N scope cl s3 (upd H2 D (.lst [])) fp).Ok:=by
  refine ⟨I.ok.mod,B.kind,I.ok.glob,I.ok.blt,aw _,fun a b c e1 e2=>I.ok.inj a b c (dr a c e1) (dr b c e2),fun y hy=>B.has y hy,(fun _ _ z _=>absurd z b_),(fun _=>I.ok.hd hc),I.ok.frames,.inl rfl,fun b hb=>⟨?_,fun y c e z=>?_⟩,fun b o e=>?_,cG I.ok.hU I3.sz,fun b o e hb=>?_,fun b hb z=>?_,I3.stack,sD⟩
  ·obtain ⟨o,e,_⟩:=iU b hb
   exact below b o (gq b o e)
  ·exact (f2 b hb).2.2.2.2.1 y c (dr y c e) z
  ·exact I3.bs b o e
  ·rcases (f2 b hb).2.2.2.1 with z | z
   ·exact I.ok.mv b o e z
   ·exact absurd (dZ (aY e) (cG I.ok.hU z)) (eL _)
  ·rcases bZ.mp (I3.rN b z) with z | z
   ·exact (f2 b hb).2.1 z
   ·exact (f2 b hb).2.2.1 z
 have IB:∀tk:Nat,Inv (X.bw N scope cl s3 (upd H2 D (.lst [])) fp) [] (none::ρ σ) (upd H2 D (.lst [])) {s3 with heap:=h₁,toks:=tk}:=fun tk=>by
  refine ⟨gQ,rfl,I3.bare,Un.kept dS,⟨_,gh,fun j y v e1 e2 e3=>?_⟩,fun y c e=>?_,?_,fun y c e=>I3.hV y c (dr y c e),(fun p hp=>nomatch hp),I3.au.kept dS,?_⟩
  ·cases j with
   | zero=>cases e2
   | succ j=>
    obtain ⟨i,y',a1,a2,a3,a4,a5,a6⟩:=B.u_ σ j v e2
    have mK:N[j+1]?=some y:=e1
    rw [mK] at a1
    cases a1
    obtain ⟨m,hn,hl⟩:=I3.loc
    obtain ⟨u,r,l⟩:=hl i y v a2 a3 a4
    refine ⟨u,r,.inr ⟨a6,?_⟩⟩
    obtain ⟨c,ec⟩:=B.has y a6
    rcases l with ⟨k,_⟩ | ⟨_,c',lA,z⟩
    ·rcases a5 with q | q <;> (rw [k] at q;cases q)
    ·have:=dr y c ec
     rw [this] at lA
     cases lA
     obtain ⟨o,ho,hd⟩:=z
     exact ⟨c,ec,o,dS _ _ ho,hd⟩
  ·obtain ⟨v,o,ho,hd⟩:=I3.cell y c (dr y c e)
   exact ⟨v,o,dS _ _ ho,hd⟩
  ·exact I3.au.fresh (aw _)
  ·show (none::ρ σ).length=N.length
   rw [ee]
   exact B.len σ I.len
 have yu:∀b o,s3.heap.get? b=some o→b≠s3.heap.objs.size:=below
 have fin:∀{σ':St} {H':Hp} {s':Shared},Inv (X.bw N scope cl s3 (upd H2 D (.lst [])) fp) [] σ' H' s'→D0.nx (σ.set i0 (some (.ref D))) H'→compPost (model X.prog X.w) X.A X.xe (some (assign (.Name y py) X.env)) (fun _ s'=>SP X pins D0 .next s') (.ref D) s3.heap.objs.size (.ok .next) s':=fun{σ' H' s'} J q=>by
  obtain ⟨m,hn,_⟩:=J.loc
  have hn:s'.heap.Ns s3.heap.objs.size m:=hn
  have JC:H' s3.heap.objs.size=none:=J.free
  have u1:Un (b3 X.stack) fp (upd H2 D (.lst [])) H' s3.heap s'.heap:=by
   refine ⟨fun b o e n hb hx=>J.base.keep b o e n hb hx,fun b o e n hb hx=>J.base.slot b o e n hb hx,J.base.free,fun b o e hx=>J.base.there b o e hx,J.base.dq,J.base.e_,J.base.fC⟩
  have IX:Inv X pins σ H' s':=I3.k4 (ch:=fp) (J.os) u1 J.au J.bare fun b hb=>by
   obtain ⟨g0,g1,g2,g3,g4,g5⟩:=f2 b hb
   exact ⟨g3,g1,g4,g5⟩
  have nl:X.env.locals≠s3.heap.objs.size:=by
   obtain ⟨m3,⟨o3,_,_,e3,_⟩,_⟩:=I3.loc
   exact yu _ _ e3
  have nc:∀z c,X.env.cells.lookup z=some c→c≠s3.heap.objs.size:=fun z c e=>by
   obtain ⟨v3,o3,e3,_⟩:=I3.cell z c e
   exact yu _ _ e3
  refine wpAny_assign_Name (Ba (v:=.ref D) IX hN II hy rfl (fun jw yy yA=>?_) hf)
  obtain ⟨a,yA,ha⟩:=yA
  have na:s3.heap.objs.size≠a:=by
   rcases ha with rfl | e
   ·exact fun z=>nl z.symm
   ·exact fun z=>nc _ _ e z.symm
  refine ⟨m,hn.sameBut yA na,fun h' gr=>⟨σ.set i0 (some (.ref D)),H',?_,q⟩⟩
  have u2:Un (b3 X.stack) [s3.heap.objs.size] H' H' jw.heap h':=by
   refine ⟨fun b o e n hb hx=>(gr.2 b (by simpa using hx)).trans e,fun b o e n hb hx=>⟨o.slots,(gr.2 b (by simpa using hx)).trans e⟩,fun b o e n hx=>n,fun b o e hx=>⟨o,(gr.2 b (by simpa using hx)).trans e⟩,fun b xs z=>z,fun b o u z=>z,fun b ps z=>⟨#[],by simpa using z⟩⟩
  have sE:bK X.prog X.w H' h':=fun b u e=>by
   refine (yy.au b u e).gI (fun c v hc z=>(gr.2 c fun y=>?_).trans z) (fun _ z=>z) fun _ _ z=>z
   have y':c=s3.heap.objs.size:=y
   rcases hc with hc | hc
   ·rw [←hc,y',JC] at e
    cases e
   ·rw [y',JC] at hc
    cases hc
  refine yy.k4 (s':={jw with heap:=h'}) (ch:=[s3.heap.objs.size]) rfl u2 sE yy.bare fun b hb=>?_
  have eb:b=s3.heap.objs.size:=by simpa using hb
  subst eb
  refine ⟨.inr I3.sz,fun z=>nl z.symm,fun z c e=>nc z c e,fun p hp=>?_⟩
  exact yu _ _ (I3.pin p hp).1
 have fD:∀{H':Hp},(∀b∈fp,H' b=none)→∀b∈fp,ke (X.bw N scope cl s3 (upd H2 D (.lst [])) fp) [] H' b:=fun hn b hb=>by
  refine ⟨hn b hb,?_,?_,.inl hb,fun y c e z=>(f2 b hb).2.2.2.2.1 y c (dr y c e) z,fun p hp=>nomatch hp⟩
  ·obtain ⟨o,e,_⟩:=iU b hb
   exact below b o (gq b o e)
  ·exact gQ.mw b hb
 have loop:∀tk:Nat,codeAny (model X.prog X.w) X.A (.compLoop (.ListComp elt [⟨.Name x px,iter,ifs,0⟩] scope pos) 0 (.ref it) (.ref D) (compEnvC scope cl s3.heap.objs.size X.env))
   (compPost (model X.prog X.w) X.A X.xe (some (assign (.Name y py) X.env)) (fun _ s'=>SP X pins D0 .next s') (.ref D) s3.heap.objs.size) {s3 with heap:=h₁,toks:=tk}:=fun tk=>by
  refine codeAny_compLoop_tests (fun n s'=>∃i ys o H',Inv (X.bw N scope cl s3 (upd H2 D (.lst [])) fp) [] (o::ρ σ) H' s'∧tn i s'.heap∧(∀b∈fp,H' b=none)∧W i n ys H') ?_ m0
   ⟨0,[],none,_,IB tk,T.keep _ _ _ gM fun b hb o e=>dS _ _ (gq _ _ e),fun b hb=>by rw [aM (sC b hb)];exact (f2 b hb).1,w0⟩
  rintro n s4 ⟨i,ys,o,H4,I4,lB,lC,w4⟩
  obtain ⟨Cg,sF⟩:=turn i n ys H4 w4
  rcases sF with ⟨stop,qn⟩ | ⟨go,step⟩
  ·refine bR (T.done (X.bw N scope cl s3 (upd H2 D (.lst [])) fp) rfl rfl rfl hc i [] s4 _ H4 (fun _ _=>False) I4 (fD lC) lB stop) (fun r s5 ⟨hr,I5⟩=>?_) fun _ _ z=>z.elim
   subst hr
   exact fin I5 qn
  ·refine bR (T.item (X.bw N scope cl s3 (upd H2 D (.lst [])) fp) rfl rfl rfl hc i [] s4 _ H4 (fun _ _=>False) I4 (fD lC) lB go) (fun r s5 ⟨u,hr,h5⟩=>?_) fun _ _ z=>z.elim
   subst hr
   have z:letOwnedTupleGo (.Name x px) (.ref it) u=pure ():=rfl
   rw [z] at h5
   show wpAny _ _ ((pure ():Sem Unit) >>= fun _=>assign (.Name x px) (compEnvC scope cl s3.heap.objs.size X.env) u) _ _ s5
   refine aB (bR h5 (fun _ s5 ⟨y,H5,I5,r5,y5,fE,mE⟩=>?_) fun _ _ z=>z.elim)
   have mF:=I5.pinned (fD mE) (T.obj _ _ fE)
   have pg:PG (X.bw N scope cl s3 (upd H2 D (.lst [])) fp) (.Name x px) (cL 0):=cM (i:=0) B.nd B.n0 (.inl (kS B.hx)) (.inr (kS B.hx))
   have again:∀{σ7:St} {H7:Hp} {s7:Shared},Inv (X.bw N scope cl s3 (upd H2 D (.lst [])) fp) ([]++jt fp s5.heap) σ7 H7 s7→Inv (X.bw N scope cl s3 (upd H2 D (.lst [])) fp) [] σ7 H7 s7∧tn (i+1) s7.heap∧∀b∈fp,H7 b=none:=fun{σ7 H7 s7} I7=>by
    refine ⟨I7.oS,T.keep _ _ _ fE fun b hb o e=>(I7.pin (b,o) (c_ _ (c_ _ (k7 hb e)))).1,fun b hb=>?_⟩
    obtain ⟨o,e,d⟩:=T.obj _ _ fE b hb
    exact (I7.pin (b,o) (c_ _ (c_ _ (k7 hb e)))).2.1
   refine bR (pg _ s5 _ H5 y u (fun σ2 H6=>σ2=some y::ρ σ∧H6=H5) mF r5 ⟨rfl,rfl⟩) (fun _ s6 ⟨σ6,H6,I6,q6⟩=>?_) fun _ _ z=>z.elim
   obtain ⟨rfl,rfl⟩:=q6
   have sG:=step y _ y5
   have tests:∀{iV:TT},lu (X.bw N scope cl s3 (upd H2 D (.lst [])) fp) ifs iV→∀{R:Bool→Hp→Prop},iV (some y::ρ σ) H6 R→wpAny (model X.prog X.w) X.A
     (forIn ifs true fun c r=>if r=true then do let ok ←isTrue c (compEnvC scope cl s3.heap.objs.size X.env) (eval c (compEnvC scope cl s3.heap.objs.size X.env));pure (ForInStep.yield ok) else pure (ForInStep.yield r))
     (fun ok s7=>∃H7,Inv (X.bw N scope cl s3 (upd H2 D (.lst [])) fp) ([]++jt fp s5.heap) (some y::ρ σ) H7 s7∧R ok H7) (fun _ _=>False) s6:=fun{iV} p {R} hR=>by
    cases p with
    | nil=>exact wpAny_tests_nil ⟨_,I6,hR⟩
    | one p=>exact wpAny_tests_one (p _ s6 _ _ _ I6 hR)
   refine bR (tests (ht s3 _ fp) sG) (fun ok s7 ⟨H7,I7,q7⟩=>?_) fun _ _ z=>z.elim
   cases ok with
   | false=>
    obtain ⟨m',iW,w7⟩:=q7
    obtain ⟨a1,a2,a3⟩:=again I7
    exact ⟨m',iW,i+1,ys,_,H7,a1,a2,a3,w7⟩
   | true=>
    refine bR (he s3 _ fp _ s7 _ H7 _ I7 q7) (fun ev s8 ⟨z,H8,I8,r8,sI,hz,m',iW,w8⟩=>?_) fun _ _ z=>z.elim
    refine bR (ki (X:=X.bw N scope cl s3 (upd H2 D (.lst [])) fp) _ s8 _ H8 (.ref D) [z] (.ref D) [ev] (fun _ H9=>H9=upd H8 D (.lst (ys++[z]))) I8 rfl (.cons r8 .nil) ⟨D,ys,z,rfl,rfl,sI,hz,rfl⟩) (fun _ s9 ⟨_,H9,I9,_,q9⟩=>?_) fun _ _ z=>z.elim
    subst q9
    obtain ⟨a1,a2,a3⟩:=again I9
    exact ⟨m',iW,i+1,ys++[z],_,_,a1,a2,a3,w8⟩
 have start:=loop (s3.toks+([]:List (Str×Value)).length)
 have es:({s3 with heap:=h₁,toks:=s3.toks+([]:List (Str×Value)).length}:Shared)={s2 with heap:=h₁,toks:=s2.toks+([]:List (Str×Value)).length}:=by rw [←iT]
 rw [es] at start
 exact xE start (T.self _ 0 _ _ _ (T.keep _ _ _ gM fun b hb o e=>dS _ _ (gq _ _ e)) start)
end
section
variable {X:Cx}
end
section
variable {prog:Program} {w:World} {A:Around} {R:Result→Shared→Prop} {s:Shared}
theorem IK{elt target iter:Expr}{ifs:List Expr}{scope:Scope}{pos:Pos}{it acc:Value}{env:Env}(I:Nat→Shared→Prop)
  (turn:∀n s,I n s→wpAny (model prog w) A (pyNext it) (fun r s₁=>match r with
   | none=>R (.ok .next) s₁
   | some v=>wpAny (model prog w) A (letOwnedTupleGo target it v) (fun _ s₁=>wpAny (model prog w) A (assign target env v) (fun _ s₂=>
     wpAny (model prog w) A (forIn ifs true fun c r=>if r=true then do let ok ←isTrue c env (eval c env);pure (ForInStep.yield ok) else pure (ForInStep.yield r)) (fun ok s₃=>
      if ok=true then wpAny (model prog w) A (eval elt env) (fun x s₄=>
       wpAny (model prog w) A (call (.builtin "list.append") [acc,x]) (fun _ s₅=>∃m,m<n∧I m s₅) (notedBy (model prog w) A env fun e s'=>R (.error e) s') s₄) (notedBy (model prog w) A env fun e s'=>R (.error e) s') s₃
      else ∃m,m<n∧I m s₃) (notedBy (model prog w) A env fun e s'=>R (.error e) s') s₂) (notedBy (model prog w) A env fun e s'=>R (.error e) s') s₁) (notedBy (model prog w) A env fun e s'=>R (.error e) s') s₁) (notedBy (model prog w) A env fun e s'=>R (.error e) s') s)
  (n:Nat) (h:I n s):codeAny (model prog w) A (.compLoop (.ListComp elt [⟨target,iter,ifs,0⟩] scope pos) 0 it acc env) R s:=by
 refine codeAny_loop rfl I (fun n s hI=>?_) n h
 show wpAny _ A ((compTurn (.ListComp elt [⟨target,iter,ifs,0⟩] scope pos) 0 it acc env).onRaise (fun x=>do noteFrame x env;theTreesLotGoes x)) _ _ s
 refine wpAny_noted ?_
 rw [compTurn_list]
 refine aB (q0 (aB (bR (turn n s hI) (fun r s₁ h₁=>?_) fun _ _ h'=>h')))
 cases r with
 | none=>exact cf h₁
 | some v=>
  refine aB (bR h₁ (fun _ s₁ h₁=>?_) fun _ _ h'=>h')
  refine aB (bR h₁ (fun _ s₂ h₂=>aB (bR h₂ (fun ok s₃ h₃=>?_) fun _ _ h'=>h')) fun _ _ h'=>h')
  cases ok with
  | false=>exact cf ⟨rfl,h₃⟩
  | true=>
   exact aB (aB (bR h₃ (fun x s₄ h₄=>aB (bR h₄ (fun _ s₅ h₅=>cf (cf ⟨rfl,h₅⟩)) fun _ _ h'=>h')) fun _ _ h'=>h'))
end
def Ct(K:aH)(wi:TI)(ρ:St→St)(tt:TT)(te:TE):TE:=fun σ H Q=>wi σ H fun J H1=>∀D,H1 D=none→∃W:Nat→Nat→List V→Hp→Prop,(∃m,W 0 m [] (upd H1 D (.lst []))) ∧
 ∀i m ys Hc,W i m ys Hc→Hc D=some (.lst ys)∧((J.stop i Hc∧Q (.ref D) Hc)∨(J.go i Hc∧∀v H',J.dH i Hc v H'→∃T x1 x2,v=.ref T∧dw K H' T [x1,x2]∧tt (some x1::some x2::ρ σ) H' fun b H2=>
  if b=true then te (some x1::some x2::ρ σ) H2 fun y H3=>H3 D=some (.lst ys)∧ys.length<sizeLine∧∃m',m'<m∧W (i+1) m' (ys++[y]) (upd H3 D (.lst (ys++[y]))) else ∃m',m'<m∧W (i+1) m' ys H2))
section
variable {X:Cx} {N:List Str} {scope:Scope} {cl:List (Str×Addr)} {x y:Str} {px py pos tp:Pos} {sJ:Nat} {iter elt:Expr} {ifs:List Expr} {wi:TI} {ρ:St→St} {tt:TT} {te:TE}
structure Cu (X:Cx) (N:List Str) (scope:Scope) (cl:List (Str×Addr)) (x y:Str) (ρ:St→St):Prop where
 u7:closureFor scope X.env=pure cl
 kind:scope.kind=.function
 u9:∀y∈scope.names,y.2≠.cell
 names:∀y∈scope.names,y.2=.local→scope.names.lookup y.1=some .local
 sub:∀p∈cl,X.env.cells.lookup p.1=some p.2
 has:∀y,((relabel scope X.env).names.lookup y=some .cell∨(relabel scope X.env).names.lookup y=some .free)→∃c,cl.lookup y=some c
 n0:N[0]?=some x
 n1:N[1]?=some y
 nd:N.Nodup
 hx:scope.names.lookup x=some .local
 hy:scope.names.lookup y=some .local
 u_:∀(σ:St) (j:Nat) (v:V),(ρ σ)[j]?=some (some v)→∃(i:Nat) (y:Str),N[j+1+1]?=some y∧X.N[i]?=some y∧σ[i]?=some (some v)∧mr X.env.scope y∧(X.env.kindOf y=some .cell∨X.env.kindOf y=some .free)∧((relabel scope X.env).names.lookup y=some .cell∨(relabel scope X.env).names.lookup y=some .free)
 len:∀σ:St,σ.length=X.N.length→(ρ σ).length+1+1=N.length
theorem IL(is:List Nat)(h1:closureFor scope X.env=pure cl)(h:va X scope N.tail.tail is:=by repeat' first | exact True.intro | refine And.intro ⟨rfl,Or.inr (Or.inl rfl),.inl rfl,.inl rfl⟩ ?_)(h2:scope.kind=.function:=by rfl)(h3:∀y∈scope.names,y.2≠.cell:=by decide +kernel)(h4:∀y∈scope.names,y.2=.local→scope.names.lookup y.1=some .local:=by decide +kernel)(h5:∀p∈cl,X.env.cells.lookup p.1=some p.2:=by repeat' first | exact List.forall_mem_nil _ | refine List.forall_mem_cons.mpr ⟨rfl,?_⟩)(h6:((relabel scope X.env).names.all fun q=>(q.2 != .cell && q.2 != .free) || (cl.lookup q.1).isSome)=true:=by rfl)(h7:N[0]?=some x:=by rfl)(IM:N[1]?=some y:=by rfl)(h8:N.Nodup:=by decide +kernel)(h9:scope.names.lookup x=some .local:=by rfl)(IP:scope.names.lookup y=some .local:=by rfl)(hr:∀σ:St,ρ σ=is.map fun i=>σ[i]?.join:=by exact fun _=>rfl)(hl:is.length+1+1=N.length:=by rfl):Cu X N scope cl x y ρ:=
 ⟨h1,h2,h3,h4,h5,Cf h6,h7,IM,h8,h9,IP,fun σ j v e=>by rw [hr] at e;rw [←List.getElem?_tail,←List.getElem?_tail];exact yn h σ j v e,fun σ _=>by rw [hr,aJ];exact hl⟩
theorem IQ(B:Cu X N scope cl x y ρ)(hc:X.calm=true)(hi:PI X (.Tuple [.Name x px,.Name y py] sJ tp) iter wi)(ht:∀s₃ H₃ fp,lu (X.bw N scope cl s₃ H₃ fp) ifs tt)(he:∀s₃ H₃ fp,PE (X.bw N scope cl s₃ H₃ fp) elt te)
  (hs:∀x,foldedSetIterable iter X.env x=pure x:=by intro _;rfl):PE X (.ListComp elt [⟨.Tuple [.Name x px,.Name y py] sJ tp,iter,ifs,0⟩] scope pos) (Ct X.K wi ρ tt te):=by
 intro pins s σ H Q I h
 rw [eval_ListComp]
 refine xD (use:=none) rfl hs B.u7 B.kind B.names (aI (hi pins s σ H _ I h) fun v s1 h1=>aI h1 fun rS s2 h2=>?_)
 obtain ⟨it,fp,tn,J,H2,rfl,I2,T,gM,f2,q2⟩:=h2
 have nD:H2 s2.heap.objs.size=none:=I2.au.fresh (aw _)
 obtain ⟨W,⟨m0,w0⟩,turn⟩:=q2 _ nD
 refine rh (wpAny_newFunctionEnv B.u9 (by intro y hy;simp at hy) (fun h₁ gh gm=>?_) B.kind)
 dsimp only at gh gm ⊢
 generalize hD:s2.heap.objs.size=D at nD w0 turn gh gm ⊢
 generalize iT:({s2 with heap:=s2.heap.push {cls:=.type "list",dict:=none,data:=.seq ([]:List Value).toArray}}:Shared)=s3
 have I3:Inv X pins σ (upd H2 D (.lst [])) s3:=by
  subst hD iT
  exact I2.laid (t':=s2.toks) (fun b u e=>bS _ e) (aw _) ⟨cg _,[],_,.nil,dE _ rfl⟩
 have e3:s3.heap=s2.heap.push {cls:=.type "list",dict:=none,data:=.seq ([]:List Value).toArray}:=by rw [←iT]
 have gq:∀b o,s2.heap.get? b=some o→s3.heap.get? b=some o:=fun b o e=>by rw [e3];exact bS _ e
 rw [←e3] at gh gm ⊢
 have below:∀b o,s3.heap.get? b=some o→b≠s3.heap.objs.size:=fun b o e=>bY (aY e)
 have dS:∀b o,s3.heap.get? b=some o→h₁.get? b=some o:=fun b o e=>gm.extBut b o (below b o e) (bS _ e)
 have iU:∀b∈fp,∃o,s2.heap.get? b=some o∧∀v,o.data≠.cell v:=T.obj _ _ gM
 have sC:∀b∈fp,b≠D:=fun b hb z=>by
  obtain ⟨o,e,_⟩:=iU b hb
  rw [z,←hD] at e
  exact absurd (aY e) (eL _)
 have dr:∀y c,cl.lookup y=some c→X.env.cells.lookup y=some c:=fun y c e=>B.sub (y,c) (jX e)
 have sD:=I3.rO
 have gQ:(X.bw N scope cl s3 (upd H2 D (.lst [])) fp).Ok:=by
  refine ⟨I.ok.mod,B.kind,I.ok.glob,I.ok.blt,aw _,fun a b c e1 e2=>I.ok.inj a b c (dr a c e1) (dr b c e2),fun y hy=>B.has y hy,(fun _ _ z _=>absurd z b_),(fun _=>I.ok.hd hc),I.ok.frames,.inl rfl,fun b hb=>⟨?_,fun y c e z=>?_⟩,fun b o e=>?_,cG I.ok.hU I3.sz,fun b o e hb=>?_,fun b hb z=>?_,I3.stack,sD⟩
  ·obtain ⟨o,e,_⟩:=iU b hb
   exact below b o (gq b o e)
  ·exact (f2 b hb).2.2.2.2.1 y c (dr y c e) z
  ·exact I3.bs b o e
  ·rcases (f2 b hb).2.2.2.1 with z | z
   ·exact I.ok.mv b o e z
   ·exact absurd (dZ (aY e) (cG I.ok.hU z)) (eL _)
  ·rcases bZ.mp (I3.rN b z) with z | z
   ·exact (f2 b hb).2.1 z
   ·exact (f2 b hb).2.2.1 z
 have IB:∀tk:Nat,Inv (X.bw N scope cl s3 (upd H2 D (.lst [])) fp) [] (none::none::ρ σ) (upd H2 D (.lst [])) {s3 with heap:=h₁,toks:=tk}:=fun tk=>by
  refine ⟨gQ,rfl,I3.bare,Un.kept dS,⟨_,gh,fun j y v e1 e2 e3=>?_⟩,fun y c e=>?_,?_,fun y c e=>I3.hV y c (dr y c e),(fun p hp=>nomatch hp),I3.au.kept dS,?_⟩
  ·cases j with
   | zero=>cases e2
   | succ j=>
   cases j with
   | zero=>cases e2
   | succ j=>
    obtain ⟨i,y',a1,a2,a3,a4,a5,a6⟩:=B.u_ σ j v e2
    have mK:N[j+1+1]?=some y:=e1
    rw [mK] at a1
    cases a1
    obtain ⟨m,hn,hl⟩:=I3.loc
    obtain ⟨u,r,l⟩:=hl i y v a2 a3 a4
    refine ⟨u,r,.inr ⟨a6,?_⟩⟩
    obtain ⟨c,ec⟩:=B.has y a6
    rcases l with ⟨k,_⟩ | ⟨_,c',lA,z⟩
    ·rcases a5 with q | q <;> (rw [k] at q;cases q)
    ·have:=dr y c ec
     rw [this] at lA
     cases lA
     obtain ⟨o,ho,hd⟩:=z
     exact ⟨c,ec,o,dS _ _ ho,hd⟩
  ·obtain ⟨v,o,ho,hd⟩:=I3.cell y c (dr y c e)
   exact ⟨v,o,dS _ _ ho,hd⟩
  ·exact I3.au.fresh (aw _)
  ·show (none::none::ρ σ).length=N.length
   rw [ee,ee]
   exact B.len σ I.len
 have fin:∀{σ':St} {H':Hp} {s':Shared},Inv (X.bw N scope cl s3 (upd H2 D (.lst [])) fp) [] σ' H' s'→Q (.ref D) H'→compPost (model X.prog X.w) X.A X.xe none (EP X pins σ Q) (.ref D) s3.heap.objs.size (.ok .next) s':=fun{σ' H' s'} J q=>by
  obtain ⟨m,hn,_⟩:=J.loc
  refine ⟨m,hn,fun h' gr=>⟨.ref D,H',?_,rfl,q⟩⟩
  have old:∀b o,s3.heap.get? b=some o→b≠s3.heap.objs.size:=below
  have u1:Un (b3 X.stack) fp (upd H2 D (.lst [])) H' s3.heap h':=by
   refine ⟨fun b o e n hb hx=>?_,fun b o e n hb hx=>?_,J.base.free,fun b o e hx=>?_,J.base.dq,J.base.e_,J.base.fC⟩
   ·exact (gr.2 b (old b o e)).trans (J.base.keep b o e n hb hx)
   ·obtain ⟨sl,z⟩:=J.base.slot b o e n hb hx
    exact ⟨sl,(gr.2 b (old b o e)).trans z⟩
   ·obtain ⟨o',z⟩:=J.base.there b o e hx
    exact ⟨o',(gr.2 b (old b o e)).trans z⟩
  have sE:bK X.prog X.w H' h':=fun b u e=>by
   refine (J.au b u e).gI (fun c v hc z=>(gr.2 c fun y=>?_).trans z) (fun _ z=>z) fun _ _ z=>z
   have fr:=J.free
   have y':c=s3.heap.objs.size:=y
   rcases hc with hc | hc
   ·rw [←hc,y'] at e
    exact absurd (fr.symm.trans e) (by simp)
   ·rw [y'] at hc
    exact absurd (fr.symm.trans hc) (by simp)
  refine I3.k4 (s':={s' with heap:=h'}) (ch:=fp) (J.os) u1 sE J.bare fun b hb=>?_
  obtain ⟨g0,g1,g2,g3,g4,g5⟩:=f2 b hb
  exact ⟨g3,g1,g4,g5⟩
 have fD:∀{H':Hp},(∀b∈fp,H' b=none)→∀b∈fp,ke (X.bw N scope cl s3 (upd H2 D (.lst [])) fp) [] H' b:=fun hn b hb=>by
  refine ⟨hn b hb,?_,?_,.inl hb,fun y c e z=>(f2 b hb).2.2.2.2.1 y c (dr y c e) z,fun p hp=>nomatch hp⟩
  ·obtain ⟨o,e,_⟩:=iU b hb
   exact below b o (gq b o e)
  ·exact gQ.mw b hb
 have loop:∀tk:Nat,codeAny (model X.prog X.w) X.A (.compLoop (.ListComp elt [⟨.Tuple [.Name x px,.Name y py] sJ tp,iter,ifs,0⟩] scope pos) 0 (.ref it) (.ref D) (compEnvC scope cl s3.heap.objs.size X.env))
   (compPost (model X.prog X.w) X.A X.xe none (EP X pins σ Q) (.ref D) s3.heap.objs.size) {s3 with heap:=h₁,toks:=tk}:=fun tk=>by
  refine IK (fun n s'=>∃i ys o o2 H',Inv (X.bw N scope cl s3 (upd H2 D (.lst [])) fp) [] (o::o2::ρ σ) H' s'∧tn i s'.heap∧(∀b∈fp,H' b=none)∧W i n ys H') ?_ m0
   ⟨0,[],none,none,_,IB tk,T.keep _ _ _ gM fun b hb o e=>dS _ _ (gq _ _ e),fun b hb=>by rw [aM (sC b hb)];exact (f2 b hb).1,w0⟩
  rintro n s4 ⟨i,ys,o,o2,H4,I4,lB,lC,w4⟩
  obtain ⟨Cg,sF⟩:=turn i n ys H4 w4
  rcases sF with ⟨stop,qn⟩ | ⟨go,step⟩
  ·refine bR (T.done (X.bw N scope cl s3 (upd H2 D (.lst [])) fp) rfl rfl rfl hc i [] s4 _ H4 (fun _ _=>False) I4 (fD lC) lB stop) (fun r s5 ⟨hr,I5⟩=>?_) fun _ _ z=>z.elim
   subst hr
   exact fin I5 qn
  ·refine bR (T.item (X.bw N scope cl s3 (upd H2 D (.lst [])) fp) rfl rfl rfl hc i [] s4 _ H4 (fun _ _=>False) I4 (fD lC) lB go) (fun r s5 ⟨u,hr,h5⟩=>?_) fun _ _ z=>z.elim
   subst hr
   refine bR h5 (fun _ s5 ⟨y0,H5,I5,r5,y5,fE,mE⟩=>?_) fun _ _ z=>z.elim
   obtain ⟨Tt,x1,x2,e0,IS,sG⟩:=step y0 _ y5
   subst e0
   have mF:=I5.pinned (fD mE) (T.obj _ _ fE)
   have pg:PG (X.bw N scope cl s3 (upd H2 D (.lst [])) fp) (.Tuple [.Name x px,.Name y py] sJ tp) (Bq X.K 2 (xT (cL 0) (xT (cL 1) Bp))):=
    mC (X:=X.bw N scope cl s3 (upd H2 D (.lst [])) fp) hc (f_ (cM (i:=0) B.nd B.n0 (.inl (kS B.hx)) (.inr (kS B.hx))) (f_ (cM (i:=1) B.nd B.n1 (.inl (kS B.hy)) (.inr (kS B.hy))) mB))
   have again:∀{σ7:St} {H7:Hp} {s7:Shared},Inv (X.bw N scope cl s3 (upd H2 D (.lst [])) fp) ([]++jt fp s5.heap) σ7 H7 s7→Inv (X.bw N scope cl s3 (upd H2 D (.lst [])) fp) [] σ7 H7 s7∧tn (i+1) s7.heap∧∀b∈fp,H7 b=none:=fun{σ7 H7 s7} I7=>by
    refine ⟨I7.oS,T.keep _ _ _ fE fun b hb o e=>(I7.pin (b,o) (c_ _ (c_ _ (k7 hb e)))).1,fun b hb=>?_⟩
    obtain ⟨o,e,d⟩:=T.obj _ _ fE b hb
    exact (I7.pin (b,o) (c_ _ (c_ _ (k7 hb e)))).2.1
   refine bR (pg _ s5 _ H5 (.ref Tt) u (fun σ2 H6=>σ2=some x1::some x2::ρ σ∧H6=H5) mF r5 ⟨Tt,_,rfl,IS,rfl,_,_,rfl,_,_,rfl,rfl,rfl,rfl⟩) (fun _ s6 ⟨σ6,H6,I6,q6⟩=>?_) fun _ _ z=>z.elim
   obtain ⟨rfl,rfl⟩:=q6
   have tests:∀{iV:TT},lu (X.bw N scope cl s3 (upd H2 D (.lst [])) fp) ifs iV→∀{R:Bool→Hp→Prop},iV (some x1::some x2::ρ σ) H6 R→wpAny (model X.prog X.w) X.A
     (forIn ifs true fun c r=>if r=true then do let ok ←isTrue c (compEnvC scope cl s3.heap.objs.size X.env) (eval c (compEnvC scope cl s3.heap.objs.size X.env));pure (ForInStep.yield ok) else pure (ForInStep.yield r))
     (fun ok s7=>∃H7,Inv (X.bw N scope cl s3 (upd H2 D (.lst [])) fp) ([]++jt fp s5.heap) (some x1::some x2::ρ σ) H7 s7∧R ok H7) (fun _ _=>False) s6:=fun{iV} p {R} hR=>by
    cases p with
    | nil=>exact wpAny_tests_nil ⟨_,I6,hR⟩
    | one p=>exact wpAny_tests_one (p _ s6 _ _ _ I6 hR)
   refine bR (tests (ht s3 _ fp) sG) (fun ok s7 ⟨H7,I7,q7⟩=>?_) fun _ _ z=>z.elim
   cases ok with
   | false=>
    obtain ⟨m',iW,w7⟩:=q7
    obtain ⟨a1,a2,a3⟩:=again I7
    exact ⟨m',iW,i+1,ys,_,_,H7,a1,a2,a3,w7⟩
   | true=>
    refine bR (he s3 _ fp _ s7 _ H7 _ I7 q7) (fun ev s8 ⟨z,H8,I8,r8,sI,hz,m',iW,w8⟩=>?_) fun _ _ z=>z.elim
    refine bR (ki (X:=X.bw N scope cl s3 (upd H2 D (.lst [])) fp) _ s8 _ H8 (.ref D) [z] (.ref D) [ev] (fun _ H9=>H9=upd H8 D (.lst (ys++[z]))) I8 rfl (.cons r8 .nil) ⟨D,ys,z,rfl,rfl,sI,hz,rfl⟩) (fun _ s9 ⟨_,H9,I9,_,q9⟩=>?_) fun _ _ z=>z.elim
    subst q9
    obtain ⟨a1,a2,a3⟩:=again I9
    exact ⟨m',iW,i+1,ys++[z],_,_,_,a1,a2,a3,w8⟩
 have start:=loop (s3.toks+([]:List (Str×Value)).length)
 have es:({s3 with heap:=h₁,toks:=s3.toks+([]:List (Str×Value)).length}:Shared)={s2 with heap:=h₁,toks:=s2.toks+([]:List (Str×Value)).length}:=by rw [←iT]
 rw [es] at start
 exact xE start (T.self _ 0 _ _ _ (T.keep _ _ _ gM fun b hb o e=>dS _ _ (gq _ _ e)) start)
end
section
variable {X:Cx}
def IT(K:aH):List V→Hp→VK→Prop:=fun xs H Q=>∃(p:Addr) (ns:List Int),xs=[.ref p]∧bD K H p (ns.map V.int)∧Q (.int ns.sum) H
theorem IU:∀(ns:List Int),preSum (fun i=>ns.getD i 0) ns.length=ns.sum:=by
 intro ns;have key:∀k,k≤ns.length→preSum (fun i=>ns.getD i 0) k=(ns.take k).sum:=by
  intro k
  induction k with
  | zero=>intro _;rfl
  | succ k ih=>
   intro hk;show preSum (fun i=>ns.getD i 0) k+ns.getD k 0=_;rw [ih (by lia),List.take_add_one,rj]
   have e:ns[k]?=some ns[k]:=by simp [show k<ns.length by lia]
   rw [fA,e];simp
 rw [key ns.length (aw _),jY]
theorem Cv(hc:X.calm=true)(hK:X.K=K:=by rfl):fF X (.builtin "sum") (IT K):=by
 intro pins s σ H xs us Q I r h;subst hK;obtain ⟨p,ns,rfl,hq,q⟩:=h;obtain ⟨u,rfl,ru⟩:=vals1 r;cases ru;obtain ⟨its,rv,pl,hz⟩:=I.list hq;have d9:p≠s.heap.objs.size:=by obtain ⟨o,e,_⟩:=pl.isList;exact bY (aY e)
 have hl:its.length=ns.length:=by rw [←rv.length,aJ]
 refine call_sum_walkG (wpAny_pyIter_list pl.isList ?_);refine ⟨s.heap.objs.size,_,_,_,_,_,fun i=>ns.getD i 0,rfl,Walks.list (A:=X.A.in1) (show X.A.in1.handled=none from I.ok.hd hc) s.heap.objs.size p d9 its.toArray,⟨⟨_,dE _ rfl,rfl,rfl⟩,pl.isList.push _⟩,?_,fun i v hv=>?_,fun h' tk t' hk=>?_⟩
 ·intro b hb
  rw [Heap.size_push];simp only [bZ,g8,g9] at hb;rcases hb with rfl | rfl;·exact Nat.lt_succ_self _
  ·obtain ⟨o,e,_⟩:=pl.isList
   exact rm (aY e)
 ·have ko:its[i]?=some v:=by simpa using hv
  cases eb:ns[i]? with
  | none=>
   have:=rv.none_of (i:=i) (by rw [bU,eb];rfl)
   rw [this] at ko;cases ko
  | some b=>
   obtain ⟨u,hu,ru⟩:=rv.get (i:=i) (x:=V.int b) (by rw [bU,eb];rfl)
   rw [hu] at ko;cases ko;obtain ⟨t,rfl⟩:=ru;exact ⟨t,by show Value.int b t=Value.int (ns.getD i 0) t;rw [fA,eb];rfl⟩
 ·refine ⟨.int ns.sum,H,I.kept fun b o e=>hk b o (fun z=>?_) (bS _ e),⟨t',?_⟩,q⟩
  ·exact absurd (aY e) (by rw [bV.mp z];exact eL _)
  ·congr 1
   rw [cz,hl];exact IU ns
end
theorem boot_sum:bootBuiltins "sum"=some (.builtin "sum"):=by decide +kernel
section
variable {M:Model} {A:Around} {E:aE} {s:Shared}
end
section
variable {X:Cx} {N:List Str} {scope:Scope} {cl:List (Str×Addr)} {x:Str} {px pos:Pos} {iter elt:Expr} {ifs:List Expr} {wi:TI} {ρ:St→St} {tt:TT} {te:TE}
end
theorem Cw{v:V}(h:ie v=true):gb v v=true:=by
 cases v with
 | aQ=>rfl
 | bl b=>show (b == b)=true;simp
 | int i=>show (i == i)=true;simp
 | str x=>show (x == x)=true;simp
 | _=>cases h
theorem all_range(n:Nat):(List.range n).all (fun _=>true)=true:=by simp
section
variable {X:Cx} {pins:aN} {σ:St} {H:Hp} {s:Shared}
end
section
variable {X:Cx}
end
section
variable {X:Cx} {N:List Str} {scope:Scope} {cl:List (Str×Addr)} {x:Str} {px pos:Pos} {iter elt:Expr} {ifs:List Expr} {wi:TI} {ρ:St→St} {tt:TT} {te:TE}
end
structure Cy (J:It) (zs:List (V×V)) (H1:Hp):Prop where
 go:∀i Hc,ah H1 Hc→i<zs.length→J.go i Hc
 dH:∀i Hc v H',ah H1 Hc→J.dH i Hc v H'→∃T x y,v=.ref T∧Hc T=none∧H'=upd Hc T (.tup [x,y])∧(i<zs.length→zs[i]?=some (x,y))
 stop:∀i Hc,ah H1 Hc→zs.length≤i→J.stop i Hc
theorem IV{zs:List (V×V)}(gS:∀R:It→Hp→Prop,(∀J H1,ah H H1→Cy J zs H1→R J H1)→wi σ H R)(hn:zs.length<sizeLine)
  (P:Nat→V→Prop)
  (step:∀i x y,zs[i]?=some (x,y)→∀(Hc:Hp) (R:VK),ah H Hc→(∀v H3,ah Hc H3→P i v→R v H3)→te (some x::some y::ρ σ) Hc R)
  (fin:∀D vs Hc,ah H Hc→vs.length=zs.length→(∀(i:Nat) (v:V),vs[i]?=some v→P i v)→Hc D=some (.lst vs)→Q (.ref D) Hc):Ct K wi ρ (fun _ H Q=>Q true H) te σ H Q:=by
 refine gS _ fun J H1 s1 js=>?_;intro D nD;refine ⟨fun i m vs Hc=>m=zs.length-i∧i≤zs.length∧Hc D=some (.lst vs)∧ah H1 Hc∧vs.length=i∧∀(j:Nat) (v:V),vs[j]?=some v→P j v,⟨_,rfl,cg _,av,eB (ah.refl H1) nD,rfl,fun j y e=>by simp at e⟩,?_⟩
 rintro i m vs Hc ⟨rfl,hi,eD,sH,el,hP⟩;refine ⟨eD,?_⟩;by_cases b4:i<zs.length
 ·refine .inr ⟨js.go i Hc sH b4,fun v H' hy=>?_⟩
  obtain ⟨T,x,y,ev,nT,eH,hx⟩:=js.dH i Hc v H' sH hy;subst ev eH;refine ⟨T,x,y,rfl,.of av,?_⟩;dsimp only;rw [ae rfl];have sT:ah Hc (upd Hc T (.tup [x,y])):=fun b o e=>by rw [aM (jl e nT)];exact e
  refine step i x y (hx b4) _ _ (s1.trans (sH.trans sT)) fun w H3 s3 hp=>?_;have e3:=s3 _ _ (sT _ _ eD);refine ⟨e3,by lia,zs.length-(i+1),by lia,rfl,b4,av,eB (sH.trans (sT.trans s3)) nD,by simp [el],fun j v' e=>?_⟩
  by_cases hj:j<i;·exact hP j v' (by rw [jd (by lia)] at e;exact e)
  ·have hj:j=i:=by have:=(cy.mp e).1;simp at this;lia
   subst hj;have e':v'=w:=by rw [jc (by lia),el,oB] at e;simpa using e.symm
   subst e';exact hp
 ·have e:i=zs.length:=by lia
  subst e;exact .inl ⟨js.stop _ Hc sH (aw _),fin D vs Hc (s1.trans sH) el hP eD⟩
theorem vd(gS:∀R:It→Hp→Prop,(∀J H1,ah H H1→lD J xs H1→R J H1)→wi σ H R)(hn:xs.length<sizeLine)
  (P:Addr→Nat→V→Hp→Prop) (mono:∀D i y H H' ys,P D i y H→H D=some (.lst ys)→(∀b o,b≠D→H b=some o→H' b=some o)→P D i y H')
  (step:∀D i x,xs[i]?=some x→∀(Hc:Hp) (R:VK),ah H Hc→(∃ys,Hc D=some (.lst ys))→(∀y H3,ah Hc H3→P D i y H3→R y H3)→te (some x::ρ σ) Hc R)
  (fin:∀D ys Hc,H D=none→ah H Hc→ys.length=xs.length→(∀(i:Nat) (y:V),ys[i]?=some y→P D i y Hc)→Hc D=some (.lst ys)→Q (.ref D) Hc):fK wi ρ (fun _ H Q=>Q true H) te σ H Q:=by
 refine gS _ fun J H1 s1 js=>?_;intro D nD;have hD:H D=none:=by
  cases e:H D with
  | none=>rfl
  | some o=>rw [s1 _ _ e] at nD;cases nD
 exact Cr (ρσ:=ρ σ) (te:=te) (Q:=Q) js nD hn (P D) (mono D) (fun i x hx Hc R sc=>step D i x hx Hc R (s1.trans sc)) (fun ys Hc sc=>fin D ys Hc hD (s1.trans sc))
section
variable {X:Cx} {K:aH}
theorem Cz(hK:X.K=K:=by rfl):oZ X (BX K):=by subst hK;exact aS
theorem yB(hK:X.K=K:=by rfl):oZ X (BW K):=by subst hK;exact dJ
def IW(K:aH):List V→Hp→VK→Prop:=fun xs H Q=>∃p ys,xs=[.ref p]∧(bD K H p ys∨dw K H p ys)∧Q (.int (ys.length:Int)) H
theorem ve(hK:X.K=K:=by rfl):fF X (.builtin "len") (IW K):=by subst hK;exact gP
end
end L2
namespace My
open PySem L2
variable {te:TE} {σ:St} {H:Hp}
theorem ph{r:List V→Hp→VK→Prop}{Q:VK}(h:te σ H fun x H1=>r [x] H1 Q):uV r (iR te oX) σ H Q:=h
theorem iX{D:Ends}(h:te σ H D.rt):xR te D σ H:=h
theorem IY{vs:List V}{b:Bool}(h:∀(i:Nat) (v:V),vs[i]?=some v→v=.bl b):vs=(List.replicate vs.length b).map V.bl:=by
 refine List.ext_getElem? fun i=>?_;rw [bU];by_cases hi:i<vs.length
 ·rw [show vs[i]?=some vs[i] by simp [hi],h i vs[i] (by simp [hi])]
  simp [hi]
 ·rw [xF (by lia),xF (by simp;lia)]
  rfl
theorem IZ(n:Nat):(List.replicate n true).all id=true:=by simp
theorem none_of{H':Hp}{b:Addr}(s:ah H H')(h:H' b=none):H b=none:=by
 cases e:H b with
 | none=>rfl
 | some o=>rw [s _ _ e] at h;cases h
theorem getD_at{α:Type}{xs:List α}{d:α}{i:Nat}(hi:i<xs.length):xs.getD i d=xs[i]:=by
 rw [fA,show xs[i]?=some xs[i] by simp [hi]]
 rfl
end My
namespace L2
open PySem PySem.Spec PyProof.Rows
end L2
namespace My
open PySem L2
end My
namespace L2
open PySem PySem.Spec PyProof.Rows
end L2
namespace My
open PySem L2
end My
namespace L2
open PySem PySem.Spec PyProof.Rows
def sL(K:aH)(l:Addr):It:=
  ⟨fun i H=>∃xs x,bD K H l xs∧xs[i]?=some x,
   fun i H v H'=>∃T x,H T=none∧v=.ref T∧H'=upd H T (.tup [.int (i:Int),x])∧∀xs,bD K H l xs→xs[i]?=some x,
   fun i H=>∃xs,bD K H l xs∧xs.length≤i⟩
variable {K:aH} {l:Addr}
theorem I0{P:Program}{w:World}{elts:List Expr}{k:Nat}{pos:Pos}{e it:Addr}(sM:e≠it):Turn P w K (.Tuple elts k pos) (sL K l) [e,it] e
  (fun i h=>(∃old,IsEnum h e it (i:Int) old)∧h.IsListIter it l i) where
 mem:=by simp
 obj:=fun i h st b hb=>by
  obtain ⟨⟨old,he⟩,h1⟩:=st;simp only [bZ,g8,g9] at hb;rcases hb with rfl | rfl;·exact ⟨_,he,fun v z=>by cases z⟩
  ·obtain ⟨o,e,c,d⟩:=h1
   exact ⟨o,e,fun v z=>by rw [d] at z;cases z⟩
 keep:=fun i h h' st k=>by obtain ⟨⟨old,he⟩,h1⟩:=st;exact ⟨⟨old,k _ (by simp) _ he⟩,h1.at fun o e=>k _ (by simp) o e⟩
 item:=by
  intro X hP hw hK hc i pins s σ H E I hf st hg;subst hP hw hK;obtain ⟨⟨old,he⟩,h1⟩:=st;obtain ⟨xs,x,gT,hx⟩:=hg;obtain ⟨its,rv,p,_⟩:=I.list gT;obtain ⟨u,hu,ru⟩:=rv.get hx;refine wpAny_pyNext_enum_item he h1 p.isList (x:=u) (by simpa using hu) sM fun h' g1 g2 g3 g4 g5=>⟨_,rfl,?_⟩
  refine wpAny_letOwnedTupleGo_enum g1 fun ku q1 sb=>?_;have sN:H s.heap.objs.size=none:=I.au.fresh (aw _);have lt:∀b o,s.heap.get? b=some o→b≠s.heap.objs.size:=fun b o e=>bY (aY e);have keep:∀b o,b∉[e,it]→s.heap.get? b=some o→ku.get? b=some o:=fun b o nb e=>by simp only [bZ,g8,g9,not_or] at nb;exact sb.extBut _ _ nb.1 (g5 b o nb.1 nb.2 e)
  have elt:e≠s.heap.objs.size:=lt _ _ he;have pT:=sb.extBut _ _ elt.symm g3;have iY:∀{b:Addr} {o:HO} (e:H b=some o),upd H s.heap.objs.size (.tup [.int (i:Int),x]) b=some o:=fun e=>by rw [aM (jl e sN)];exact e
  have au:bK X.prog X.w (upd H s.heap.objs.size (.tup [.int (i:Int),x])) ku:=fun b o e=>by
   by_cases hb:b=s.heap.objs.size
   ·subst hb
    rw [av] at e;cases e;exact ⟨by show 2≤sizeLine;decide,[.int i s.toks,u],.cons ⟨_,rfl⟩ (.cons ru .nil),⟨_,pT,rfl,_,rfl⟩⟩
   ·rw [aM hb] at e
    refine (I.au b o e).gI (fun c v df q=>keep c v (fun m=>?_) q) (fun c q=>iY q) fun c xs q=>iY q;have nn:=(hf c m).1;rcases df with rfl | df;·rw [nn] at e;cases e
    ·rw [nn] at df;cases df
  have u1:Un (b3 X.stack) [e,it] H (upd H s.heap.objs.size (.tup [.int (i:Int),x])) s.heap ku:=
   ⟨fun b o e n _ hx=>keep b o hx e,fun b o e n _ hx=>⟨o.slots,keep b o hx e⟩,fun b o e n hx=>by rw [aM (lt b o e)];exact n,fun b o e hx=>⟨o,keep b o hx e⟩,fun b xs e=>iY e,fun b o u e=>iY e,fun b ps e=>⟨#[],by rw [iY e];simp⟩⟩
  refine ⟨.ref s.heap.objs.size,upd H s.heap.objs.size (.tup [.int (i:Int),x]),I.k4 (s':={s with heap:=ku,toks:=s.toks+1}) (ch:=[e,it]) rfl u1 au I.bare (fun b hb=>?_),rfl,⟨_,x,sN,rfl,rfl,fun as ha=>by rw [I.Bl ha gT];exact hx⟩,?_,fun b hb=>?_⟩
  ·obtain ⟨f0,f1,f2,f3,f4,f5⟩:=hf b hb
   exact ⟨f3,f1,f4,f5⟩
  ·refine ⟨⟨u,?_⟩,g2.extBut sb.extBut sM.symm⟩
   have z:((i+1:Nat):Int)=(i:Int)+1:=by lia
   rw [z];exact q1
  ·have nb:b≠s.heap.objs.size:=by
    simp only [bZ,g8,g9] at hb;rcases hb with rfl | rfl;·exact lt _ _ he
    ·obtain ⟨o,e,_⟩:=h1;exact lt _ _ e
   rw [aM nb];exact (hf b hb).1
 done:=by
  intro X hP hw hK hc i pins s σ H E I hf st hg;subst hP hw hK;obtain ⟨⟨old,he⟩,h1⟩:=st;obtain ⟨xs,gT,hx⟩:=hg;obtain ⟨its,rv,p,_⟩:=I.list gT;have hl:=rv.length;refine wpAny_pyNext_enum_end (I.ok.hd hc) he h1 p.isList (by simp;lia) fun h' g=>⟨rfl,?_⟩
  have keep:∀b o,b∉[e,it]→s.heap.get? b=some o→h'.get? b=some o:=fun b o nb e=>by simp only [bZ,g8,g9,not_or] at nb;exact g b o nb.2 e
  have au:bK X.prog X.w H h':=fun b o e=>by
   refine (I.au b o e).gI (fun c v df q=>keep c v (fun m=>?_) q) (fun c q=>q) fun c xs q=>q;have nn:=(hf c m).1;rcases df with rfl | df;·rw [nn] at e;cases e
   ·rw [nn] at df;cases df
  have u1:Un (b3 X.stack) [e,it] H H s.heap h':=
   ⟨fun b o e n _ hx=>keep b o hx e,fun b o e n _ hx=>⟨o.slots,keep b o hx e⟩,fun b o e n hx=>n,fun b o e hx=>⟨o,keep b o hx e⟩,fun b xs e=>e,fun b o u e=>e,fun b ps e=>⟨#[],by rw [e];simp⟩⟩
  refine I.k4 (s':={s with heap:=h'}) (ch:=[e,it]) rfl u1 au I.bare fun b hb=>?_;obtain ⟨f0,f1,f2,f3,f4,f5⟩:=hf b hb;exact ⟨f3,f1,f4,f5⟩
 self:=fun _ _ _ _ _ st h=>by obtain ⟨⟨old,he⟩,_⟩:=st;exact uh he h
theorem boot_enumerate:bootBuiltins "enumerate"=some (.type "enumerate"):=by decide +kernel
def I_(K:aH)(ta:TA):TI:=fun σ H R=>ta σ H fun vs H1=>∃l,vs=[.ref l]∧(∃xs,bD K H1 l xs)∧R (sL K l) H1
section
variable {X:Cx}
theorem Ja{elts:List Expr}{k:Nat}{oW:Pos}{a:Expr}{ta:TA}{p pos:Pos}(hg:Gl X "enumerate")(hm:X.mg "enumerate"=none)(ha:PA X [a] ta)(hs:starEach [a] X.env=[(false,eval a X.env)]:=by rfl) :
  PI X (.Tuple elts k oW) (.Call (.Name "enumerate" p) [a] [] pos) (I_ X.K ta):=by
 intro pins s σ H R I h;refine Call_ (j_ I hg hm boot_enumerate (q5 (aI (ha pos pins s σ H _ I h) fun us s1 ⟨vs,H1,I1,r1,q1⟩=>?_) hs rfl));obtain ⟨l,e,⟨xs,gT⟩,q⟩:=q1;subst e;obtain ⟨u,rfl,ru⟩:=vals1 r1;cases ru;obtain ⟨its,rv,p1,_⟩:=I1.list gT;refine call_enumerate_list p1.isList fun h' z1 z2 z3 z4=>?_;refine uh (s:={s1 with heap:=h'}) z1 ?_;refine ⟨_,_,_,_,H1,rfl,I1.kept (t':=s1.toks) z4,I0 (Nat.succ_ne_self _),⟨⟨_,z1⟩,z2⟩,fun b hb=>?_,q⟩;have le:s1.heap.objs.size≤b:=by
  simp only [bZ,g8,g9] at hb;rcases hb with rfl | rfl;·exact Nat.le_add_right ..
  ·exact aw _
 exact I1.oP le (I1.au.fresh le)
end
theorem Jb{xs:List V}{g:TG}{tb:TS}{D:Ends}{σ:St}{H:Hp}(Pv:Nat→St→Hp→Prop)(h0:Pv 0 σ H)(hl:∀i σ H,Pv i σ H→bD K H l xs)
  (hs:∀(i:Nat) (x:V) σ H T,xs[i]?=some x→Pv i σ H→H T=none→g (.ref T) σ (upd H T (.tup [.int (i:Int),x])) fun σ2 H2=>tb {D with nx:=Pv (i+1),ct:=Pv (i+1),bk:=D.nx} σ2 H2) (hd:∀σ H,Pv xs.length σ H→D.nx σ H) :
  ∃W:Nat→Nat→St→Hp→Prop,(∃m,W 0 m σ H)∧∀i m σ H,W i m σ H→
   ((sL K l).stop i H∧D.nx σ H)∨((sL K l).go i H∧∃N:St→Hp→Prop,(∀σ' H',N σ' H'→∃m',m'<m∧W (i+1) m' σ' H')∧∀x H',(sL K l).dH i H x H'→g x σ H' fun σ2 H2=>tb {D with nx:=N,ct:=N,bk:=D.nx} σ2 H2):=by
 refine ⟨fun i m σ H=>m=xs.length-i∧i≤xs.length∧Pv i σ H,⟨xs.length,by simp,cg _,h0⟩,?_⟩
 rintro i m σ H ⟨rfl,hi,p⟩;have q1:=hl i σ H p;by_cases b4:i<xs.length
 ·refine .inr ⟨⟨xs,xs[i],q1,by simp [b4]⟩,Pv (i+1),fun σ' H' p'=>⟨xs.length-(i+1),by lia,rfl,b4,p'⟩,fun v H' hy=>?_⟩
  obtain ⟨T,x,nT,rfl,rfl,hx⟩:=hy;exact hs i x σ H T (hx xs q1) p nT
 ·have e:i=xs.length:=by lia
  subst e;exact .inl ⟨⟨xs,q1,aw _⟩,hd σ H p⟩
end L2
namespace My
open PySem L2
end My
namespace L2
open PySem PySem.Spec PyProof.Rows
section
variable {X:Cx} {tg:Expr}
end
section
variable {X:Cx} {e:Expr} {te:TE} {pos p2:Pos}
end
end L2
namespace My
open PySem L2
theorem pj{wi:TI}{ρ:St→St}{te:TE}{σ:St}{H:Hp}{Q:VK}{xs:List V}{n:Nat}(hl:xs.length=n)(gS:∀R:It→Hp→Prop,(∀J H1,ah H H1→lD J xs H1→R J H1)→wi σ H R)(hn:n<sizeLine)
  (P:Addr→Nat→Addr→Hp→Prop) (mono:∀D i y H H' ys,P D i y H→y≠D→H D=some (.lst ys)→(∀b o,b≠D→H b=some o→H' b=some o)→P D i y H')
  (step:∀D (i:Nat) (x:V),xs[i]?=some x→∀(Hc:Hp) (R:VK),ah H Hc→(∃ys,Hc D=some (.lst ys))→(∀y H3,ah Hc H3→Hc y=none→(∃o,H3 y=some o)→P D i y H3→R (.ref y) H3)→te (some x::ρ σ) Hc R)
  (fin:∀D (A:Nat→Addr) Hc,H D=none→ah H Hc→(∀i j,i<n→j<n→A i=A j→i=j)→(∀i,i<n→P D i (A i) Hc∧A i≠D)→Hc D=some (.lst ((List.range n).map fun i=>V.ref (A i)))→Q (.ref D) Hc):fK wi ρ (fun _ H Q=>Q true H) te σ H Q:=by
 refine gS _ fun J H1 s1 js=>?_;intro D nD;have hD:H D=none:=by
  cases e:H D with
  | none=>rfl
  | some o=>rw [s1 _ _ e] at nD;cases nD
 refine ⟨fun i m ys Hc=>m=n-i∧i≤n∧Hc D=some (.lst ys)∧ah H1 Hc∧∃A:Nat→Addr,ys=(List.range i).map (fun j=>V.ref (A j))∧(∀a b,a<i→b<i→A a=A b→a=b)∧∀j,j<i→P D j (A j) Hc∧A j≠D∧∃o,Hc (A j)=some o,⟨_,rfl,cg _,av,eB (ah.refl H1) nD,fun _=>D,rfl,(fun a b h=>by lia),fun j h=>by lia⟩,?_⟩
 rintro i m ys Hc ⟨rfl,hi,eD,sH,A,rfl,inj,hA⟩;refine ⟨eD,?_⟩;by_cases b4:i<n
 ·refine .inr ⟨js.go i Hc sH (by lia),fun x H' hy=>?_⟩
  obtain ⟨rfl,hx⟩:=js.dH i Hc x H' sH hy;rw [ae rfl];refine step D i x (hx (by lia)) _ _ (s1.trans sH) ⟨_,eD⟩ fun y H3 s3 ny ⟨o,ho⟩ hp=>?_
  have e3:=s3 _ _ eD;have yD:y≠D:=fun e=>by rw [e,eD] at ny;cases ny
  have bx:∀b o,b≠D→H3 b=some o→upd H3 D (.lst ((List.range i).map (fun j=>V.ref (A j))++[.ref y])) b=some o:=fun b o nb e=>by rw [aM nb];exact e
  have nA:∀j,j<i→A j≠y:=fun j hj e=>by obtain ⟨_,_,o',h'⟩:=hA j hj;rw [e,ny] at h';cases h'
  refine ⟨e3,by simp;lia,n-(i+1),by lia,rfl,b4,av,eB (sH.trans s3) nD,fun j=>if j=i then y else A j,?_,fun a b ha hb e=>?_,fun j hj=>?_⟩
  ·rw [oC,iI]
   congr 1
   ·refine kT fun j hj=>?_
    dsimp only;rw [aa (by have:=cp.mp hj;lia)]
   ·simp
  ·dsimp only at e
   by_cases z1:a=i
   ·by_cases z2:b=i
    ·lia
    ·rw [ae z1,aa z2] at e
     exact absurd e.symm (nA b (by lia))
   ·by_cases z2:b=i
    ·rw [aa z1,ae z2] at e
     exact absurd e (nA a (by lia))
    ·rw [aa z1,aa z2] at e
     exact inj a b (by lia) (by lia) e
  ·dsimp only
   by_cases z:j=i
   ·rw [ae z,z]
    exact ⟨mono D i y H3 _ _ hp yD e3 bx,yD,o,bx _ _ yD ho⟩
   ·rw [aa z]
    obtain ⟨h1,h2,o',h3⟩:=hA j (by lia)
    exact ⟨mono D j (A j) H' _ _ h1 h2 eD (fun b o nb e=>bx b o nb (s3 _ _ e)),h2,o',bx _ _ h2 (s3 _ _ h3)⟩
 ·have e:i=n:=by lia
  subst e;exact .inl ⟨js.stop _ Hc sH (by lia),fin D A Hc hD (s1.trans sH) inj (fun j hj=>⟨(hA j hj).1,(hA j hj).2.1⟩) eD⟩
end My
namespace L2
open PySem PySem.Spec PyProof.Rows
def Jc(K:aH):R2:=fun x y H Q=>∃(a b:Addr) (xs ys:List Int),x=.ref a∧y=.ref b∧bD K H a (xs.map V.int)∧bD K H b (ys.map V.int)∧Q (.bl (!decide (xs=ys))) H
theorem CA{xs ys:List Int}(h:xs.length=ys.length):((List.range xs.length).all fun j=>gb (.int (xs.getD j 0)) (.int (ys.getD j 0)))=decide (xs=ys):=by
 by_cases e:xs=ys
 ·subst e
  rw [aK rfl,rg];intro j _;exact Cw rfl
 ·rw [bj e]
  cases z:((List.range xs.length).all fun j=>gb (.int (xs.getD j 0)) (.int (ys.getD j 0))) with
  | false=>rfl
  | true=>refine absurd (g_ h fun j h1 h2=>?_) e;have:=rg.mp z j (cp.mpr h1);have this:(xs.getD j 0 == ys.getD j 0)=true:=this;rw [beq_iff_eq,fA,fA] at this;simpa [h1,h2] using this
theorem Jd{X:Cx}(hu:X.A.units+64<cLine):cA X (compareOp .NotEq) (Jc X.K):=by
 intro pins s σ H x y v u Q I rx ry h;obtain ⟨a,b,xs,ys,rfl,rfl,h1,h2,q⟩:=h;cases rx;cases ry;obtain ⟨us,r1,t1,_⟩:=I.list h1;obtain ⟨vs,r2,t2,_⟩:=I.list h2;have l1:=r1.length;have l2:=r2.length;rw [aJ] at l1 l2;by_cases hl:xs.length=ys.length
 ·refine SeqAt.RcNeAt.lists (e:=fun j=>gb (.int (xs.getD j 0)) (.int (ys.getD j 0))) t1.isList t2.isList (by simp;lia) (by lia) (fun j z1 z2=>?_) _ _ _ _ ?_
  ·have sO:j<us.length:=by simpa using z1
   have Je:j<vs.length:=by simpa using z2
   have ex:(xs.map V.int)[j]?=some (.int (xs.getD j 0)):=by rw [bU,fA];simp [show j<xs.length by lia]
   have ey:(ys.map V.int)[j]?=some (.int (ys.getD j 0)):=by rw [bU,fA];simp [show j<ys.length by lia]
   obtain ⟨x',rJ,rx⟩:=r1.get ex;obtain ⟨y',yC,ry⟩:=r2.get ey;have e1:us.toArray[j]=x':=by simpa using (cy.mp rJ).2
   have e2:vs.toArray[j]=y':=by simpa using (cy.mp yC).2
   rw [e1,e2];exact ya rx ry rfl rfl
  ·rw [show us.toArray.size=xs.length by simp;lia,CA hl]
   exact ⟨.bl (!decide (xs=ys)),H,I,rfl,q⟩
 ·rw [bj (fun e=>hl (by rw [e]))] at q
  refine SeqAt.RcNeAt.lists_lengths t1.isList t2.isList ?_ (by lia) _ _ _ _ ⟨.bl true,H,I,rfl,q⟩
  simp;lia
end L2
namespace My
open PySem L2
end My
namespace L2
open PySem PySem.Spec PyProof.Rows
end L2
namespace My
open PySem L2
end My
namespace L2
open PySem PySem.Spec PyProof.Rows
section
variable {X:Cx}
end
end L2
namespace My
open PySem L2
end My
namespace L2
open PySem PySem.Spec PyProof.Rows
end L2
namespace My
open PySem L2
end My
namespace L2
open PySem PySem.Spec PyProof.Rows
section
variable {X:Cx} {N:List Str} {scope:Scope} {cl:List (Str×Addr)} {x y:Str} {px py pos tp:Pos} {sJ:Nat} {iter elt:Expr} {ifs:List Expr} {wi:TI} {ρ:St→St} {tt:TT} {te:TE}
end
section
variable {X:Cx} {pins:aN} {σ:St} {H:Hp} {s:Shared}
end
end L2
namespace My
open PySem PySem.W PyProof.Rows
section
variable {n:Nat} {c:Nat→Int}
def ky(n:Nat)(p:Array Nat):Prop:=p.Perm (List.toArray (List.range n))
theorem ky.size{p:Array Nat}(h:ky n p):p.size=n:=by rw [Array.Perm.size_eq h];simp
def vN(c:Nat→Int)(p:Array Nat)(i:Nat):Int:=c (p.getD i 0)
def mL(c:Nat→Int)(p:Array Nat)(k:Nat):Prop:=∀a b,a≤b→b<k→vN c p a≤vN c p b
end
end My
namespace Tm
open PySem PySem.W PyProof.Rows
def lF:Bool→Keyed→Array Keyed→Nat→Nat→Nat→StateT SortSt Sem (Option Nat):=sortPriv% PySem.Builtin.gallop
def sP:Nat→StateT SortSt Sem Unit:=sortPriv% PySem.Builtin.setMinGallop
def yE:Array Keyed→Array Keyed→StateT SortSt Sem (Array Keyed):=sortPriv% PySem.Builtin.mergeLo
def yF:Array Keyed→Array Keyed→StateT SortSt Sem (Array Keyed):=sortPriv% PySem.Builtin.mergeHi
def mM(left:Bool)(key:Keyed)(arr:Array Keyed)(base i:Nat):StateT SortSt Sem (Option Bool):=do
 let x ←elem' arr (base+i)
 if left then lt' x key else return (←lt' key x).map (!·)
theorem Jf(left:Bool)(key:Keyed)(arr:Array Keyed)(base n hint:Nat):lF left key arr base n hint=(do
 let mut vf:=0
 let mut a_:=1
 let mut lo:=0
 let mut hi:=0
 let some right ←mM left key arr base hint | return none
 if right then
  let sQ:=n-hint
  for _ in [0:n] do
   if a_≥sQ then break
   let some more ←mM left key arr base (hint+a_) | return none
   if !more then break
   vf:=a_
   a_:=2*a_+1
  lo:=hint+vf+1
  hi:=hint+min a_ sQ
 else
  let sQ:=hint+1
  for _ in [0:n] do
   if a_≥sQ then break
   let some found ←mM left key arr base (hint-a_) | return none
   if found then break
   vf:=a_
   a_:=2*a_+1
  lo:=hint+1-min a_ sQ
  hi:=hint-vf
 for _ in [0:n] do
  if lo≥hi then break
  let m:=lo+(hi-lo) / 2
  let some more ←mM left key arr base m | return none
  if more then lo:=m+1 else hi:=m
 return some hi):=rfl
section
variable {prog:Program} {w:World} {A:Around} {E:aE} {s:Shared} {κ:SortKind} {key:Keyed→Int} {Ok:Keyed→Prop}
def ik(prog:Program)(w:World)(A:Around)(s:Shared)(κ:SortKind)(key:Keyed→Int)(Ok:Keyed→Prop):Prop:=
 ∀x y,Ok x→Ok y→∀C:Bool→Shared→Prop,C (decide (key x<key y)) s→wpAny (model prog w) A (keyLt' κ x.1 y.1) C (fun _ _=>False) s
variable {st:SortSt} {Q:Option Bool→SortSt→Prop}
theorem sR(h:ik prog w A s κ key Ok){x y:Keyed}(ox:Ok x)(oy:Ok y)(hk:kindOf st=κ)(q:Q (some (decide (key x<key y))) st):wpS (model prog w) A E s (lt' x y) Q st:=by rw [lt'_eq];refine aj (gH ?_);rw [hk];refine aj (wpS_lift (wpAny_attempt (bR (h x y ox oy (fun c s'=>s'=s∧wpS (model prog w) A E s (pure (some c)) Q st) ⟨rfl,ai q⟩) (fun c s' hc=>?_) fun _ _ hF=>hF.elim)));exact hc
def nn:Keyed:=(Value.none,Value.none)
variable {arr:Array Keyed} {i:Nat}
theorem ba(hi:i<arr.size){Q:Keyed→SortSt→Prop}(q:Q (arr.getD i nn) st):wpS (model prog w) A E s (elem' arr i) Q st:=by
 rw [elem'_eq];have e:arr[i]?=some (arr.getD i nn):=by simp [Array.getD,hi]
 rw [e];exact ai q
def d_(Ok:Keyed→Prop)(arr:Array Keyed):Prop:=∀i,i<arr.size→Ok (arr.getD i nn)
def bB(left:Bool)(k a:Int):Bool:=if left=true then decide (a<k) else !decide (k<a)
variable {left:Bool} {kx:Keyed} {base:Nat}
theorem gu(h:ik prog w A s κ key Ok)(hi:base+i<arr.size)(ha:d_ Ok arr)(ox:Ok kx)(hk:kindOf st=κ)(q:Q (some (bB left (key kx) (key (arr.getD (base+i) nn)))) st):wpS (model prog w) A E s (mM left kx arr base i) Q st:=by
 unfold mM;refine aj (ba hi ?_);unfold bB at q;cases left with
 | true=>rw [ae rfl] at q ⊢;exact sR h (ha _ hi) ox hk q
 | false=>
  rw [aa (by simp)] at q ⊢
  exact aj (sR h ox (ha _ hi) hk (ai q))
theorem gv{n hint:Nat}{f:Nat→Bool}
  (hb:∀i,i<n→∀Q:Option Bool→SortSt→Prop,Q (some (f i)) st→wpS (model prog w) A E s (mM left kx arr base i) Q st)
  (hh:hint<n) (mono:∀i j,i≤j→j<n→f j=true→f i=true) {Q:Option Nat→SortSt→Prop}
  (k:∀m,m≤n→(∀i,i<m→f i=true)→(∀i,m≤i→i<n→f i=false)→Q (some m) st):wpS (model prog w) A E s (lF left kx arr base n hint) Q st:=by
 rw [Jf];refine aj (hb hint hh _ ?_);dsimp only;have yG:∀i j,i≤j→j<n→f i=false→f j=false:=fun i j h1 h2 h3=>by
  cases e:f j with
  | false=>rfl
  | true=>rw [mono i j h1 h2 e] at h3;cases h3
 have bs:∀(lo hi:Nat) (body:Nat→Option (Option Nat)×Nat×Nat→StateT SortSt Sem (ForInStep (Option (Option Nat)×Nat×Nat))) (R:Option (Option Nat)×Nat×Nat→SortSt→Prop),lo≤hi→hi≤n→(∀i,i<lo→f i=true)→(∀i,hi≤i→i<n→f i=false)→
   (∀x lo hi (R:ForInStep (Option (Option Nat)×Nat×Nat)→SortSt→Prop),lo≥hi→R (.done (none,lo,hi)) st→wpS (model prog w) A E s (body x (none,lo,hi)) R st)→
   (∀x lo hi (R:ForInStep (Option (Option Nat)×Nat×Nat)→SortSt→Prop),lo<hi→hi≤n→R (.yield (if f (lo+(hi-lo) / 2)=true then (none,lo+(hi-lo) / 2+1,hi) else (none,lo,lo+(hi-lo) / 2))) st→wpS (model prog w) A E s (body x (none,lo,hi)) R st)→
   (∀m,m≤n→(∀i,i<m→f i=true)→(∀i,m≤i→i<n→f i=false)→R (none,m,m) st)→
   wpS (model prog w) A E s (forIn [0:n] (none,lo,hi) body) R st:=fun lo hi body R h1 h2 h3 h4 b1 b2 kk=>by
  refine eg (I:=fun x c aq=>aq=st∧∃lo hi,c=(none,lo,hi)∧lo≤hi∧hi≤n∧hi-lo+x≤n∧(∀i,i<lo→f i=true)∧(∀i,hi≤i→i<n→f i=false)) ?_ ?_ ⟨rfl,lo,hi,rfl,h1,h2,by lia,h3,h4⟩
  ·rintro x c aq _ hx ⟨rfl,lo,hi,rfl,g1,g2,g3,g4,g5⟩
   by_cases z:lo≥hi
   ·refine b1 x lo hi _ z ?_
    obtain rfl:lo=hi:=by lia
    exact kk lo g2 g4 g5
   ·refine b2 x lo hi _ (by lia) g2 ?_
    cases e:f (lo+(hi-lo) / 2) with
    | true=>rw [ae rfl];exact ⟨rfl,_,_,rfl,by lia,g2,by lia,fun i bg=>mono i (lo+(hi-lo) / 2) (by lia) (by lia) e,g5⟩
    | false=>
     rw [aa (by simp)]
     exact ⟨rfl,_,_,rfl,by lia,by lia,by lia,g4,fun i h1 h2=>yG (lo+(hi-lo) / 2) i h1 h2 e⟩
  ·rintro c aq ⟨rfl,lo,hi,rfl,g1,g2,g3,g4,g5⟩
   have:lo=hi:=by
    have:max 0 n=n:=by lia
    lia
   subst this;exact kk lo g2 g4 g5
 cases e:f hint with
 | true=>
  rw [ae rfl]
  refine aj (eM (eg (I:=fun x c aq=>aq=st∧∃la a_,c=(none,la,a_)∧x+1≤a_∧la<a_∧la<n-hint∧f (hint+la)=true)
   (Q:=fun c aq=>aq=st∧∃la a_,c=(none,la,a_)∧la<a_∧la<n-hint∧f (hint+la)=true∧(a_≥n-hint∨f (hint+a_)=false)) ?_ ?_ ⟨rfl,0,1,rfl,aw _,by lia,by lia,by simpa using e⟩) ?_)
  ·rintro x c aq _ hx ⟨rfl,la,a_,rfl,g1,g2,g3,g4⟩
   dsimp only;by_cases z:a_≥n-hint
   ·rw [ae z]
    exact ai ⟨rfl,la,a_,rfl,g2,g3,g4,.inl z⟩
   ·rw [aa z]
    refine aj (hb _ (by lia) _ ?_)
    dsimp only;cases e':f (hint+a_) with
    | true=>
     rw [aa (by simp)]
     exact ai ⟨rfl,_,_,rfl,by lia,by lia,by lia,e'⟩
    | false=>
     rw [ae (by simp)]
     exact ai ⟨rfl,la,a_,rfl,g2,g3,g4,.inr e'⟩
  ·rintro c aq ⟨rfl,la,a_,rfl,g1,g2,g3,g4⟩
   have:max 0 n=n:=by lia
   exact ⟨rfl,la,a_,rfl,g2,g3,g4,.inl (by lia)⟩
  ·rintro c aq ⟨rfl,la,a_,rfl,g2,g3,g4,g5⟩
   refine aj (bs (hint+la+1) (hint+min a_ (n-hint)) _ _ (by lia) (by lia) (fun i hi=>mono i (hint+la) (by lia) (by lia) g4) (fun i h1 h2=>?_) ?_ ?_ ?_)
   ·rcases g5 with g5 | g5
    ·lia
    ·by_cases z:a_≥n-hint
     ·lia
     ·exact yG (hint+a_) i (by lia) h2 g5
   ·intro x lo hi R z hR
    dsimp only;rw [ae z];exact ai hR
   ·intro x lo hi R z z2 hR
    dsimp only;rw [aa (by lia)]
    refine aj (hb _ (by lia) _ ?_)
    dsimp only;cases e:f (lo+(hi-lo) / 2) with
    | true=>rw [e,ae rfl] at hR;rw [ae rfl];exact ai hR
    | false=>
     rw [e,aa (by simp)] at hR
     rw [aa (by simp)]
     exact ai hR
   ·exact fun m m1 m2 m3=>ai (k m m1 m2 m3)
 | false=>
  rw [aa (by simp)]
  refine aj (eM (eg (I:=fun x c aq=>aq=st∧∃la a_,c=(none,la,a_)∧x+1≤a_∧la<a_∧la≤hint∧f (hint-la)=false)
   (Q:=fun c aq=>aq=st∧∃la a_,c=(none,la,a_)∧la<a_∧la≤hint∧f (hint-la)=false∧(a_≥hint+1∨f (hint-a_)=true)) ?_ ?_ ⟨rfl,0,1,rfl,aw _,by lia,by lia,by simpa using e⟩) ?_)
  ·rintro x c aq _ hx ⟨rfl,la,a_,rfl,g1,g2,g3,g4⟩
   dsimp only;by_cases z:a_≥hint+1
   ·rw [ae z]
    exact ai ⟨rfl,la,a_,rfl,g2,g3,g4,.inl z⟩
   ·rw [aa z]
    refine aj (hb _ (by lia) _ ?_)
    dsimp only;cases e':f (hint-a_) with
    | true=>rw [ae rfl];exact ai ⟨rfl,la,a_,rfl,g2,g3,g4,.inr e'⟩
    | false=>
     rw [aa (by simp)]
     exact ai ⟨rfl,_,_,rfl,by lia,by lia,by lia,e'⟩
  ·rintro c aq ⟨rfl,la,a_,rfl,g1,g2,g3,g4⟩
   have:max 0 n=n:=by lia
   exact ⟨rfl,la,a_,rfl,g2,g3,g4,.inl (by lia)⟩
  ·rintro c aq ⟨rfl,la,a_,rfl,g2,g3,g4,g5⟩
   refine aj (bs (hint+1-min a_ (hint+1)) (hint-la) _ _ (by lia) (by lia) (fun i hi=>?_) (fun i h1 h2=>yG (hint-la) i (by lia) h2 g4) ?_ ?_ ?_)
   ·rcases g5 with g5 | g5
    ·lia
    ·by_cases z:a_≥hint+1
     ·lia
     ·exact mono i (hint-a_) (by lia) (by lia) g5
   ·intro x lo hi R z hR
    dsimp only;rw [ae z];exact ai hR
   ·intro x lo hi R z z2 hR
    dsimp only;rw [aa (by lia)]
    refine aj (hb _ (by lia) _ ?_)
    dsimp only;cases e:f (lo+(hi-lo) / 2) with
    | true=>rw [e,ae rfl] at hR;rw [ae rfl];exact ai hR
    | false=>
     rw [e,aa (by simp)] at hR
     rw [aa (by simp)]
     exact ai hR
   ·exact fun m m1 m2 m3=>ai (k m m1 m2 m3)
end
def a8(K:Keyed→Int)(l:List Keyed):Prop:=l.Pairwise fun x y=>K x≤K y
variable {K:Keyed→Int} {l:List Keyed}
theorem a8.take(h:a8 K l)(k:Nat):a8 K (l.take k):=List.Pairwise.sublist (List.take_sublist k l) h
theorem a8.drop(h:a8 K l)(k:Nat):a8 K (l.drop k):=List.Pairwise.sublist (List.drop_sublist k l) h
variable {m:List Keyed}
theorem a8.app(h:a8 K l)(h':a8 K m)(k:∀x∈l,∀y∈m,K x≤K y):a8 K (l++m):=List.pairwise_append.mpr ⟨h,h',k⟩
structure MI (K:Keyed→Int) (A B O:List Keyed) (i j:Nat):Prop where
 pm:O.Perm (A.take i++B.take j)
 so:a8 K O
 ca:∀x∈O,∀y∈A.drop i,K x≤K y
 cb:∀x∈O,∀y∈B.drop j,K x≤K y
variable {A B O:List Keyed} {i j:Nat}
theorem MI.flip(h:MI K A B O i j):MI K B A O j i:=⟨h.pm.trans rn,h.so,h.cb,h.ca⟩
theorem MI.vg(h:MI K A B O i j)(sA:a8 K A)(k:Nat)(hk:∀x∈(A.drop i).take k,∀y∈B.drop j,K x≤K y):MI K A B (O++(A.drop i).take k) (i+k) j:=by
 have e:A.take (i+k)=A.take i++(A.drop i).take k:=List.take_add;have d:A.drop (i+k)=(A.drop i).drop k:=by rw [List.drop_drop]
 have sd:=sA.drop i;have sp:(A.drop i).take k++(A.drop i).drop k=A.drop i:=mf ..;have cr:∀x∈(A.drop i).take k,∀y∈(A.drop i).drop k,K x≤K y:=by have:=sd;rw [←sp] at this;exact (List.pairwise_append.mp this).2.2
 refine ⟨?_,h.so.app (sd.take k) fun x hx y hy=>h.ca x hx y (List.mem_of_mem_take hy),fun x hx y hy=>?_,fun x hx y hy=>?_⟩
 ·rw [e]
  refine (h.pm.append_right _).trans ?_;rw [fX,fX];exact xG _ rn
 ·rw [d] at hy
  rcases cR.mp hx with hx | hx;·exact h.ca x hx y (List.mem_of_mem_drop hy)
  ·exact cr x hx y hy
 ·rcases cR.mp hx with hx | hx
  ·exact h.cb x hx y hy
  ·exact hk x hx y hy
theorem MI.yH(h:MI K A B O i j)(sB:a8 K B)(k:Nat)(hk:∀x∈(B.drop j).take k,∀y∈A.drop i,K x≤K y):MI K A B (O++(B.drop j).take k) i (j+k):=(h.flip.vg sB k hk).flip
theorem MI.done(h:MI K A B O i j)(sA:a8 K A)(sB:a8 K B)(k:∀x∈A.drop i,∀y∈B.drop j,K x≤K y):(O++A.drop i++B.drop j).Perm (A++B)∧a8 K (O++A.drop i++B.drop j):=by
 refine ⟨?_,(h.so.app (sA.drop i) h.ca).app (sB.drop j) fun x hx y hy=>?_⟩
 ·have e1:A.take i++A.drop i=A:=mf ..
  have e2:B.take j++B.drop j=B:=mf ..;have:(A.take i++B.take j++A.drop i++B.drop j).Perm ((A.take i++A.drop i)++(B.take j++B.drop j)):=by rw [fX,fX,fX];refine xG _ ?_;rw [←fX,←fX];exact List.Perm.append_right _ rn
  rw [e1,e2] at this;exact ((h.pm.append_right _).append_right _).trans this
 ·rcases cR.mp hx with hx | hx
  ·exact h.cb x hx y hy
  ·exact k x hx y hy
theorem MI.CB(h:MI K A B O i j)(sA:a8 K A)(sB:a8 K B)(k:∀x∈A.drop i,∀y∈B.drop j,K y≤K x):(O++B.drop j++A.drop i).Perm (A++B)∧a8 K (O++B.drop j++A.drop i):=by have:=h.flip.done sB sA fun x hx y hy=>k y hy x hx;exact ⟨this.1.trans rn,this.2⟩
theorem Jg(a b:Array Keyed):yE a b=(do
 rule "list.sort.merge-lo"
 let total:=a.size+b.size
 let done (out:Array Keyed) (ia ib:Nat):=out++a.extract ia a.size++b.extract ib b.size
 let vh (out:Array Keyed) (ia ib:Nat):=out++b.extract ib b.size++a.extract ia a.size
 let mut out:Array Keyed:=#[←elem' b 0]
 let mut ia:=0
 let mut ib:=1
 if ib == b.size then return done out ia ib
 if ia+1 == a.size then return vh out ia ib
 let mut minGallop:=gallopOf (←get)
 for _ in [0:total] do
  let mut gU:=0
  let mut gW:=0
  for _ in [0:total] do
   let some Jh ←lt' (←elem' b ib) (←elem' a ia) | return done out ia ib
   if Jh then
    out:=out.push (←elem' b ib);ib:=ib+1;gW:=gW+1;gU:=0
    if ib == b.size then return done out ia ib
    if gW≥minGallop then break
   else
    out:=out.push (←elem' a ia);ia:=ia+1;gU:=gU+1;gW:=0
    if ia+1 == a.size then return vh out ia ib
    if gU≥minGallop then break
  rule "list.sort.gallop"
  minGallop:=minGallop+1
  for _ in [0:total] do
   if minGallop>1 then minGallop:=minGallop-1
   sP minGallop
   let some k ←lF false (←elem' b ib) a ia (a.size-ia) 0 | return done out ia ib
   gU:=k
   if k>0 then
    out:=out++a.extract ia (ia+k);ia:=ia+k
    if ia+1 == a.size then return vh out ia ib
    if ia == a.size then return done out ia ib
   out:=out.push (←elem' b ib);ib:=ib+1
   if ib == b.size then return done out ia ib
   let some k ←lF true (←elem' a ia) b ib (b.size-ib) 0 | return done out ia ib
   gW:=k
   if k>0 then
    out:=out++b.extract ib (ib+k);ib:=ib+k
    if ib == b.size then return done out ia ib
   out:=out.push (←elem' a ia);ia:=ia+1
   if ia+1 == a.size then return vh out ia ib
   if gU<7 && gW<7 then break
  minGallop:=minGallop+1
  sP minGallop
 unsupported "internal:list.sort.merge-bound"):=rfl
section
variable {prog:Program} {w:World} {A:Around} {E:aE} {s:Shared} {κ:SortKind} {key:Keyed→Int} {Ok:Keyed→Prop}
def setG(st:SortSt)(g:Nat):SortSt:=SortSt.mk' (kindOf st) (arrOf st) (pendingOf st) g (failedOf st)
variable {a:Array Keyed}
theorem sS(hi:i<a.size):(a.toList.drop i).take 1=[a.getD i nn]:=by
 have hl:i<a.toList.length:=by simpa using hi
 rw [List.drop_eq_getElem_cons hl];simp [Array.getD,hi]
theorem iq(a:Array Keyed)(i j:Nat):(a.extract i j).toList=(a.toList.drop i).take (j-i):=by rw [Array.toList_extract,List.extract_eq_take_drop]
theorem vi(a:Array Keyed)(i:Nat):(a.extract i a.size).toList=a.toList.drop i:=by rw [iq];refine rp ?_;simp
variable {x:Keyed}
theorem mO(h:x∈a.toList.drop i):∃j,i≤j∧j<a.size∧x=a.getD j nn:=by
 obtain ⟨j,hj,rfl⟩:=oD h;have eC:i+j<a.size:=by simp at hj;lia
 refine ⟨i+j,by lia,eC,?_⟩
 rw [uj];simp [Array.getD,eC]
theorem yI{k:Nat}(h:x∈(a.toList.drop i).take k):∃j,j<k∧i+j<a.size∧x=a.getD (i+j) nn:=by
 obtain ⟨j,hj,rfl⟩:=oD h;have eC:i+j<a.size∧j<k:=by simp at hj;lia
 refine ⟨j,eC.2,eC.1,?_⟩;rw [List.getElem_take,uj];simp [Array.getD,eC.1]
theorem eE(h:a8 key a.toList)(CD:i≤j)(hj:j<a.size):key (a.getD i nn)≤key (a.getD j nn):=by
 have hi:i<a.size:=by lia
 by_cases e:i=j;·subst e;exact jZ _
 ·have:=um.mp h i j (by simpa using hi) (by simpa using hj) (by lia)
  simpa [Array.getD,hi,hj] using this
variable {st:SortSt}
theorem dN{c:Prop}[Decidable c]{α:Type}{m1 m2:StateT SortSt Sem α}{Q:α→SortSt→Prop}(h1:c→wpS (model prog w) A E s m1 Q st)(h2:¬c→wpS (model prog w) A E s m2 Q st):wpS (model prog w) A E s (if c then m1 else m2) Q st:=by
 by_cases h:c;·rw [ae h];exact h1 h
 ·rw [aa h];exact h2 h
theorem pA{g:Nat}{Q:Unit→SortSt→Prop}(q:Q () (setG st g)):wpS (model prog w) A E s (sP g) Q st:=iJ q
variable {k:Int}
theorem fL{a:Int}(h:bB true k a=true):a<k:=dc h
theorem gx{a:Int}(h:bB true k a=false):k≤a:=Int.not_lt.mp (of_decide_eq_false h)
theorem jC{a:Int}(h:bB false k a=true):a≤k:=by have:(!decide (k<a))=true:=h;simpa using this
theorem lG{a:Int}(h:bB false k a=false):k<a:=by have:(!decide (k<a))=false:=h;simpa using this
variable {b:Array Keyed} {o:Nat}
theorem lH(sb:a8 key b.toList):∀i j,i≤j→j<b.size-o→bB true k (key (b.getD (o+j) nn))=true→bB true k (key (b.getD (o+i) nn))=true:=fun i j h1 h2 h3=>aK (Int.lt_of_le_of_lt (eE sb (by lia) (by lia)) (fL h3))
theorem vj(sb:a8 key b.toList):∀i j,i≤j→j<b.size-o→bB false k (key (b.getD (o+j) nn))=true→bB false k (key (b.getD (o+i) nn))=true:=fun i j h1 h2 h3=>by
 have:key (b.getD (o+i) nn)≤k:=cS (eE sb (by lia) (by lia)) (jC h3)
 show (!decide (k<key (b.getD (o+i) nn)))=true;simpa using this
section
variable {a b:Array Keyed} (sa:a8 key a.toList) (sb:a8 key b.toList) {out:Array Keyed} {ia ib:Nat}
include sa sb
theorem pB(m:MI key a.toList b.toList out.toList ia ib)(hb:ib<b.size)(k:∀j,ia≤j→j<a.size→key (b.getD ib nn)≤key (a.getD j nn)):MI key a.toList b.toList (out.push (b.getD ib nn)).toList ia (ib+1):=by
 have:=m.yH sb 1 fun x hx y hy=>by rw [sS hb,bV] at hx;subst hx;obtain ⟨j,h1,h2,rfl⟩:=mO hy;exact k j h1 h2
 rw [sS hb] at this;rw [kU];exact this
theorem kz(m:MI key a.toList b.toList out.toList ia ib)(ha:ia<a.size)(k:∀j,ib≤j→j<b.size→key (a.getD ia nn)≤key (b.getD j nn)):MI key a.toList b.toList (out.push (a.getD ia nn)).toList (ia+1) ib:=by
 have:=m.vg sa 1 fun x hx y hy=>by rw [sS ha,bV] at hx;subst hx;obtain ⟨j,h1,h2,rfl⟩:=mO hy;exact k j h1 h2
 rw [sS ha] at this;rw [kU];exact this
variable {n:Nat}
theorem CF(m:MI key a.toList b.toList out.toList ia ib)(k:∀i j,i<n→ia+i<a.size→ib≤j→j<b.size→key (a.getD (ia+i) nn)≤key (b.getD j nn)):MI key a.toList b.toList (out++a.extract ia (ia+n)).toList (ia+n) ib:=by
 have:=m.vg sa n fun x hx y hy=>by obtain ⟨i,h3,h4,rfl⟩:=yI hx;obtain ⟨j,h1,h2,rfl⟩:=mO hy;exact k i j h3 h4 h1 h2
 rw [je,iq,show ia+n-ia=n by lia]
 exact this
theorem vk(m:MI key a.toList b.toList out.toList ia ib)(k:∀i j,i<n→ib+i<b.size→ia≤j→j<a.size→key (b.getD (ib+i) nn)≤key (a.getD j nn)):MI key a.toList b.toList (out++b.extract ib (ib+n)).toList ia (ib+n):=by
 have:=m.yH sb n fun x hx y hy=>by obtain ⟨i,h3,h4,rfl⟩:=yI hx;obtain ⟨j,h1,h2,rfl⟩:=mO hy;exact k i j h3 h4 h1 h2
 rw [je,iq,show ib+n-ib=n by lia]
 exact this
theorem ir(m:MI key a.toList b.toList out.toList ia ib)(e:ib=b.size∨ia=a.size):(out++a.extract ia a.size++b.extract ib b.size).toList.Perm (a.toList++b.toList)∧a8 key (out++a.extract ia a.size++b.extract ib b.size).toList:=by rw [je,je,vi,vi];refine m.done sa sb fun x hx y hy=>?_;obtain ⟨i,h1,h2,_⟩:=mO hx;obtain ⟨j,h3,h4,_⟩:=mO hy;lia
theorem iu(m:MI key a.toList b.toList out.toList ia ib)(hl:∀y∈b.toList,key y≤key (a.getD (a.size-1) nn))(e:ia+1=a.size):(out++b.extract ib b.size++a.extract ia a.size).toList.Perm (a.toList++b.toList)∧a8 key (out++b.extract ib b.size++a.extract ia a.size).toList:=by
 rw [je,je,vi,vi];refine m.CB sa sb fun x hx y hy=>?_;obtain ⟨i,h1,h2,rfl⟩:=mO hx;have:=hl y (List.mem_of_mem_drop hy);rw [show i=a.size-1 by lia]
 exact this
end
theorem Ji(h:ik prog w A s κ key Ok)(oa:d_ Ok a)(ob:d_ Ok b)(sa:a8 key a.toList)(sb:a8 key b.toList)(a1:1≤a.size)(b1:1≤b.size)
  (h0:∀x∈a.toList,key (b.getD 0 nn)≤key x) (hl:∀y∈b.toList,key y≤key (a.getD (a.size-1) nn)) (hk:kindOf st=κ) {Q:Array Keyed→SortSt→Prop}
  (q:∀m g,m.toList.Perm (a.toList++b.toList)→a8 key m.toList→Q m (setG st g)):wpS (model prog w) A E s (yE a b) Q st:=by
 rw [Jg];refine aj (wpS_lift (j4 ⟨rfl,?_⟩));refine aj (ba (by lia) ?_)
 dsimp only;have m0:MI key a.toList b.toList (#[b.getD 0 nn]:Array Keyed).toList 0 1:=by
  have:MI key a.toList b.toList (#[]:Array Keyed).toList 0 0:=⟨by simp,List.Pairwise.nil,fun x hx=>by simp at hx,fun x hx=>by simp at hx⟩
  exact pB sa sb this (by lia) fun j _ hj=>h0 _ (by simp [Array.getD,hj])
 have dO:∀g,kindOf (setG st g)=κ:=fun _=>hk;by_cases e1:(1 == b.size)=true
 ·rw [ae e1]
  have:=ir sa sb m0 (.inl (eq_of_beq e1));exact ai (q _ (gallopOf st) this.1 this.2)
 rw [aa e1];by_cases e2:(0+1 == a.size)=true
 ·rw [ae e2]
  have:=iu sa sb m0 hl (eq_of_beq e2);exact ai (q _ (gallopOf st) this.1 this.2)
 rw [aa e2];have b2:1<b.size:=by
  have:1≠b.size:=fun e=>e1 (by simp [←e])
  lia
 have a2:0+1<a.size:=by
  have:0+1≠a.size:=fun e=>e2 (by simp [←e])
  lia
 refine aj (gH ?_)
 refine aj (eM (eg (I:=fun x c aq=>∃out ia ib mg g,c=(none,out,ia,ib,mg)∧aq=setG st g∧MI key a.toList b.toList out.toList ia ib∧ia+1<a.size∧ib<b.size∧x≤ia+ib)
  (Q:=fun c aq=>∃m g,c.1=some m∧aq=setG st g∧m.toList.Perm (a.toList++b.toList)∧a8 key m.toList) ?_ ?_ ⟨_,_,_,_,gallopOf st,rfl,rfl,m0,a2,b2,cg _⟩) ?_)
 ·rintro x c aq _ hx ⟨out,ia,ib,mg,g,rfl,rfl,fh⟩
  have mi:=fh.1;have ha:=fh.2.1;have hb:=fh.2.2.1;have yJ:=fh.2.2.2;clear fh;dsimp only
  refine aj (eM (eg (I:=fun y c aq=>∃out fi fM ac bc,c=(none,out,fi,fM,ac,bc)∧aq=setG st g∧MI key a.toList b.toList out.toList fi fM∧fi+1<a.size∧fM<b.size∧ia+ib+y≤fi+fM)
   (Q:=fun c aq=>aq=setG st g∧((∃m,c.1=some m∧m.toList.Perm (a.toList++b.toList)∧a8 key m.toList)∨∃out fi fM ac bc,c=(none,out,fi,fM,ac,bc)∧MI key a.toList b.toList out.toList fi fM∧fi+1<a.size∧fM<b.size∧ia+ib+1≤fi+fM)) ?_ ?_ ⟨_,_,_,_,_,rfl,rfl,mi,ha,hb,aw _⟩) ?_)
  ·rintro y c aq _ hy ⟨out,fi,fM,ac,bc,rfl,rfl,fj⟩
   have mi:=fj.1;have ha:=fj.2.1;have hb:=fj.2.2.1;have fN:=fj.2.2.2;clear fj;dsimp only;refine aj (ba hb (aj (ba (by lia) (aj (sR h (ob _ hb) (oa fi (by lia)) (dO _) ?_)))))
   dsimp only;by_cases z:key (b.getD fM nn)<key (a.getD fi nn)
   ·rw [aK z,ae rfl]
    refine aj (ba hb ?_);have fO:=pB sa sb mi hb fun j h1 h2=>cS (cI z) (eE sa h1 h2);by_cases z1:(fM+1 == b.size)=true
    ·rw [ae z1]
     exact ai ⟨rfl,.inl ⟨_,rfl,ir sa sb fO (.inl (eq_of_beq z1))⟩⟩
    ·rw [aa z1]
     have sO:fM+1≠b.size:=fun e=>z1 (by simp [←e])
     by_cases z2:bc+1≥mg
     ·rw [ae z2]
      exact ai ⟨rfl,.inr ⟨_,_,_,_,_,rfl,fO,ha,by lia,by lia⟩⟩
     ·rw [aa z2]
      exact ai ⟨_,_,_,_,_,rfl,rfl,fO,ha,by lia,by lia⟩
   ·rw [bj z,aa (by simp)]
    refine aj (ba (by lia) ?_)
    have fO:=kz sa sb mi (by lia) fun j h1 h2=>cS (Int.not_lt.mp z) (eE sb h1 h2)
    by_cases z1:(fi+1+1 == a.size)=true
    ·rw [ae z1]
     exact ai ⟨rfl,.inl ⟨_,rfl,iu sa sb fO hl (eq_of_beq z1)⟩⟩
    ·rw [aa z1]
     have sO:fi+1+1≠a.size:=fun e=>z1 (by simp [←e])
     by_cases z2:ac+1≥mg
     ·rw [ae z2]
      exact ai ⟨rfl,.inr ⟨_,_,_,_,_,rfl,fO,by lia,hb,by lia⟩⟩
     ·rw [aa z2]
      exact ai ⟨_,_,_,_,_,rfl,rfl,fO,by lia,hb,by lia⟩
  ·rintro c aq ⟨out,fi,fM,ac,bc,rfl,rfl,eG⟩
   have mi:=eG.1;have ha:=eG.2.1;have hb:=eG.2.2.1;have fN:=eG.2.2.2;clear eG;exact ⟨rfl,.inr ⟨_,_,_,_,_,rfl,mi,ha,hb,by lia⟩⟩
  ·rintro c aq ⟨rfl,⟨m,e,pm⟩ | ⟨out,fi,fM,ac,bc,rfl,mi,ha,hb,fN⟩⟩
   ·obtain ⟨c1,c2⟩:=c
    dsimp only at e;subst e;exact ai ⟨m,g,rfl,rfl,pm⟩
   ·dsimp only
    refine aj (wpS_lift (j4 ⟨rfl,?_⟩))
    refine aj (eM (eg (I:=fun y c aq=>∃out i j mg ac bc g,c=(none,out,i,j,mg,ac,bc)∧aq=setG st g∧MI key a.toList b.toList out.toList i j∧i+1<a.size∧j<b.size∧x+1≤i+j)
     (Q:=fun c aq=>(∃m g,c.1=some m∧aq=setG st g∧m.toList.Perm (a.toList++b.toList)∧a8 key m.toList)∨∃out i j mg ac bc g,c=(none,out,i,j,mg,ac,bc)∧aq=setG st g∧MI key a.toList b.toList out.toList i j∧i+1<a.size∧j<b.size∧x+1≤i+j) ?_ ?_ ⟨_,_,_,_,_,_,g,rfl,rfl,mi,ha,hb,by lia⟩) ?_)
    ·clear mi ha hb fN
     rintro y c aq _ hy ⟨out,ia,ib,mg,ac,bc,g,rfl,rfl,eI⟩;have mi:=eI.1;have ha:=eI.2.1;have hb:=eI.2.2.1;have fN:=eI.2.2.2;clear eI;dsimp only;rcases Nat.lt_or_ge 1 mg with zm | zm
     ·rw [ae zm]
      refine aj (pA ?_);refine aj (ba hb (aj (gv (f:=fun i=>bB false (key (b.getD ib nn)) (key (a.getD (ia+i) nn))) (fun i hi Q q=>gu h (by lia) oa (ob _ hb) (dO _) q) (by lia) (vj sa) fun k k1 k2 k3=>?_)))
      dsimp only;by_cases zk:k>0
      ·rw [ae zk]
       have fP:=CF sa sb mi (n:=k) fun i j hi bg hj eC=>cS (jC (k2 i hi)) (eE sb hj eC);by_cases w1:(ia+k+1 == a.size)=true
       ·rw [ae w1]
        exact ai (.inl ⟨_,_,rfl,rfl,iu sa sb fP hl (eq_of_beq w1)⟩)
       ·rw [aa w1]
        have yK:ia+k+1≠a.size:=fun e=>w1 (by simp [←e])
        by_cases w2:(ia+k == a.size)=true
        ·rw [ae w2]
         exact ai (.inl ⟨_,_,rfl,rfl,ir sa sb fP (.inr (eq_of_beq w2))⟩)
        ·rw [aa w2]
         have Jj:ia+k≠a.size:=fun e=>w2 (by simp [←e])
         refine aj (ba hb ?_);have bW:=pB sa sb fP hb fun j h1 h2=>by have:=lG (k3 (j-ia) (by lia) (by lia));rw [show ia+(j-ia)=j by lia] at this;exact cI this
         by_cases x1:(ib+1 == b.size)=true
         ·rw [ae x1]
          exact ai (.inl ⟨_,_,rfl,rfl,ir sa sb bW (.inl (eq_of_beq x1))⟩)
         ·rw [aa x1]
          have mP:ib+1≠b.size:=fun e=>x1 (by simp [←e])
          refine aj (ba (by lia) (aj (gv (f:=fun i=>bB true (key (a.getD (ia+k) nn)) (key (b.getD (ib+1+i) nn))) (fun i hi Q q=>gu h (by lia) ob (oa _ (by lia)) (dO _) q) (by lia) (lH sb) fun k' q1 q2 q3=>?_)))
          dsimp only;by_cases du:k'>0
          ·rw [ae du]
           have cU:=vk sa sb bW (n:=k') fun i j hi bg hj eC=>cS (cI (fL (q2 i hi))) (eE sa hj eC);by_cases x2:(ib+1+k' == b.size)=true
           ·rw [ae x2]
            exact ai (.inl ⟨_,_,rfl,rfl,ir sa sb cU (.inl (eq_of_beq x2))⟩)
           ·rw [aa x2]
            have mQ:ib+1+k'≠b.size:=fun e=>x2 (by simp [←e])
            refine aj (ba (by lia) ?_)
            have aT:=kz sa sb cU (by lia) fun j h1 h2=>by have:=gx (q3 (j-(ib+1)) (by lia) (by lia));rwa [show ib+1+(j-(ib+1))=j by lia] at this
            by_cases y1:(ia+k+1+1 == a.size)=true
            ·rw [ae y1]
             exact ai (.inl ⟨_,_,rfl,rfl,iu sa sb aT hl (eq_of_beq y1)⟩)
            ·rw [aa y1]
             have fQ:ia+k+1+1≠a.size:=fun e=>y1 (by simp [←e])
             exact dN (fun _=>ai (.inr ⟨_,_,_,_,_,_,_,rfl,rfl,aT,by lia,by lia,by lia⟩)) (fun _=>ai ⟨_,_,_,_,_,_,_,rfl,rfl,aT,by lia,by lia,by lia⟩)
          ·rw [aa du]
           obtain rfl:k'=0:=by lia
           refine aj (ba (by lia) ?_)
           have aT:=kz sa sb bW (by lia) fun j h1 h2=>by have:=gx (q3 (j-(ib+1)) (by lia) (by lia));rwa [show ib+1+(j-(ib+1))=j by lia] at this
           by_cases y1:(ia+k+1+1 == a.size)=true
           ·rw [ae y1]
            exact ai (.inl ⟨_,_,rfl,rfl,iu sa sb aT hl (eq_of_beq y1)⟩)
           ·rw [aa y1]
            have fQ:ia+k+1+1≠a.size:=fun e=>y1 (by simp [←e])
            exact dN (fun _=>ai (.inr ⟨_,_,_,_,_,_,_,rfl,rfl,aT,by lia,by lia,by lia⟩)) (fun _=>ai ⟨_,_,_,_,_,_,_,rfl,rfl,aT,by lia,by lia,by lia⟩)
      ·rw [aa zk]
       obtain rfl:k=0:=by lia
       refine aj (ba hb ?_);have bW:=pB sa sb mi hb fun j h1 h2=>by have:=lG (k3 (j-ia) (by lia) (by lia));rw [show ia+(j-ia)=j by lia] at this;exact cI this
       by_cases x1:(ib+1 == b.size)=true
       ·rw [ae x1]
        exact ai (.inl ⟨_,_,rfl,rfl,ir sa sb bW (.inl (eq_of_beq x1))⟩)
       ·rw [aa x1]
        have mP:ib+1≠b.size:=fun e=>x1 (by simp [←e])
        refine aj (ba (by lia) (aj (gv (f:=fun i=>bB true (key (a.getD (ia) nn)) (key (b.getD (ib+1+i) nn))) (fun i hi Q q=>gu h (by lia) ob (oa _ (by lia)) (dO _) q) (by lia) (lH sb) fun k' q1 q2 q3=>?_)))
        dsimp only;by_cases du:k'>0
        ·rw [ae du]
         have cU:=vk sa sb bW (n:=k') fun i j hi bg hj eC=>cS (cI (fL (q2 i hi))) (eE sa hj eC);by_cases x2:(ib+1+k' == b.size)=true
         ·rw [ae x2]
          exact ai (.inl ⟨_,_,rfl,rfl,ir sa sb cU (.inl (eq_of_beq x2))⟩)
         ·rw [aa x2]
          have mQ:ib+1+k'≠b.size:=fun e=>x2 (by simp [←e])
          refine aj (ba (by lia) ?_)
          have aT:=kz sa sb cU (by lia) fun j h1 h2=>by have:=gx (q3 (j-(ib+1)) (by lia) (by lia));rwa [show ib+1+(j-(ib+1))=j by lia] at this
          by_cases y1:(ia+1+1 == a.size)=true
          ·rw [ae y1]
           exact ai (.inl ⟨_,_,rfl,rfl,iu sa sb aT hl (eq_of_beq y1)⟩)
          ·rw [aa y1]
           have fQ:ia+1+1≠a.size:=fun e=>y1 (by simp [←e])
           exact dN (fun _=>ai (.inr ⟨_,_,_,_,_,_,_,rfl,rfl,aT,by lia,by lia,by lia⟩)) (fun _=>ai ⟨_,_,_,_,_,_,_,rfl,rfl,aT,by lia,by lia,by lia⟩)
        ·rw [aa du]
         obtain rfl:k'=0:=by lia
         refine aj (ba (by lia) ?_)
         have aT:=kz sa sb bW (by lia) fun j h1 h2=>by have:=gx (q3 (j-(ib+1)) (by lia) (by lia));rwa [show ib+1+(j-(ib+1))=j by lia] at this
         by_cases y1:(ia+1+1 == a.size)=true
         ·rw [ae y1]
          exact ai (.inl ⟨_,_,rfl,rfl,iu sa sb aT hl (eq_of_beq y1)⟩)
         ·rw [aa y1]
          have fQ:ia+1+1≠a.size:=fun e=>y1 (by simp [←e])
          exact dN (fun _=>ai (.inr ⟨_,_,_,_,_,_,_,rfl,rfl,aT,by lia,by lia,by lia⟩)) (fun _=>ai ⟨_,_,_,_,_,_,_,rfl,rfl,aT,by lia,by lia,by lia⟩)
     ·rw [aa (by lia)]
      refine aj (pA ?_);refine aj (ba hb (aj (gv (f:=fun i=>bB false (key (b.getD ib nn)) (key (a.getD (ia+i) nn))) (fun i hi Q q=>gu h (by lia) oa (ob _ hb) (dO _) q) (by lia) (vj sa) fun k k1 k2 k3=>?_)))
      dsimp only;by_cases zk:k>0
      ·rw [ae zk]
       have fP:=CF sa sb mi (n:=k) fun i j hi bg hj eC=>cS (jC (k2 i hi)) (eE sb hj eC);by_cases w1:(ia+k+1 == a.size)=true
       ·rw [ae w1]
        exact ai (.inl ⟨_,_,rfl,rfl,iu sa sb fP hl (eq_of_beq w1)⟩)
       ·rw [aa w1]
        have yK:ia+k+1≠a.size:=fun e=>w1 (by simp [←e])
        by_cases w2:(ia+k == a.size)=true
        ·rw [ae w2]
         exact ai (.inl ⟨_,_,rfl,rfl,ir sa sb fP (.inr (eq_of_beq w2))⟩)
        ·rw [aa w2]
         have Jj:ia+k≠a.size:=fun e=>w2 (by simp [←e])
         refine aj (ba hb ?_);have bW:=pB sa sb fP hb fun j h1 h2=>by have:=lG (k3 (j-ia) (by lia) (by lia));rw [show ia+(j-ia)=j by lia] at this;exact cI this
         by_cases x1:(ib+1 == b.size)=true
         ·rw [ae x1]
          exact ai (.inl ⟨_,_,rfl,rfl,ir sa sb bW (.inl (eq_of_beq x1))⟩)
         ·rw [aa x1]
          have mP:ib+1≠b.size:=fun e=>x1 (by simp [←e])
          refine aj (ba (by lia) (aj (gv (f:=fun i=>bB true (key (a.getD (ia+k) nn)) (key (b.getD (ib+1+i) nn))) (fun i hi Q q=>gu h (by lia) ob (oa _ (by lia)) (dO _) q) (by lia) (lH sb) fun k' q1 q2 q3=>?_)))
          dsimp only;by_cases du:k'>0
          ·rw [ae du]
           have cU:=vk sa sb bW (n:=k') fun i j hi bg hj eC=>cS (cI (fL (q2 i hi))) (eE sa hj eC);by_cases x2:(ib+1+k' == b.size)=true
           ·rw [ae x2]
            exact ai (.inl ⟨_,_,rfl,rfl,ir sa sb cU (.inl (eq_of_beq x2))⟩)
           ·rw [aa x2]
            have mQ:ib+1+k'≠b.size:=fun e=>x2 (by simp [←e])
            refine aj (ba (by lia) ?_)
            have aT:=kz sa sb cU (by lia) fun j h1 h2=>by have:=gx (q3 (j-(ib+1)) (by lia) (by lia));rwa [show ib+1+(j-(ib+1))=j by lia] at this
            by_cases y1:(ia+k+1+1 == a.size)=true
            ·rw [ae y1]
             exact ai (.inl ⟨_,_,rfl,rfl,iu sa sb aT hl (eq_of_beq y1)⟩)
            ·rw [aa y1]
             have fQ:ia+k+1+1≠a.size:=fun e=>y1 (by simp [←e])
             exact dN (fun _=>ai (.inr ⟨_,_,_,_,_,_,_,rfl,rfl,aT,by lia,by lia,by lia⟩)) (fun _=>ai ⟨_,_,_,_,_,_,_,rfl,rfl,aT,by lia,by lia,by lia⟩)
          ·rw [aa du]
           obtain rfl:k'=0:=by lia
           refine aj (ba (by lia) ?_)
           have aT:=kz sa sb bW (by lia) fun j h1 h2=>by have:=gx (q3 (j-(ib+1)) (by lia) (by lia));rwa [show ib+1+(j-(ib+1))=j by lia] at this
           by_cases y1:(ia+k+1+1 == a.size)=true
           ·rw [ae y1]
            exact ai (.inl ⟨_,_,rfl,rfl,iu sa sb aT hl (eq_of_beq y1)⟩)
           ·rw [aa y1]
            have fQ:ia+k+1+1≠a.size:=fun e=>y1 (by simp [←e])
            exact dN (fun _=>ai (.inr ⟨_,_,_,_,_,_,_,rfl,rfl,aT,by lia,by lia,by lia⟩)) (fun _=>ai ⟨_,_,_,_,_,_,_,rfl,rfl,aT,by lia,by lia,by lia⟩)
      ·rw [aa zk]
       obtain rfl:k=0:=by lia
       refine aj (ba hb ?_);have bW:=pB sa sb mi hb fun j h1 h2=>by have:=lG (k3 (j-ia) (by lia) (by lia));rw [show ia+(j-ia)=j by lia] at this;exact cI this
       by_cases x1:(ib+1 == b.size)=true
       ·rw [ae x1]
        exact ai (.inl ⟨_,_,rfl,rfl,ir sa sb bW (.inl (eq_of_beq x1))⟩)
       ·rw [aa x1]
        have mP:ib+1≠b.size:=fun e=>x1 (by simp [←e])
        refine aj (ba (by lia) (aj (gv (f:=fun i=>bB true (key (a.getD (ia) nn)) (key (b.getD (ib+1+i) nn))) (fun i hi Q q=>gu h (by lia) ob (oa _ (by lia)) (dO _) q) (by lia) (lH sb) fun k' q1 q2 q3=>?_)))
        dsimp only;by_cases du:k'>0
        ·rw [ae du]
         have cU:=vk sa sb bW (n:=k') fun i j hi bg hj eC=>cS (cI (fL (q2 i hi))) (eE sa hj eC);by_cases x2:(ib+1+k' == b.size)=true
         ·rw [ae x2]
          exact ai (.inl ⟨_,_,rfl,rfl,ir sa sb cU (.inl (eq_of_beq x2))⟩)
         ·rw [aa x2]
          have mQ:ib+1+k'≠b.size:=fun e=>x2 (by simp [←e])
          refine aj (ba (by lia) ?_)
          have aT:=kz sa sb cU (by lia) fun j h1 h2=>by have:=gx (q3 (j-(ib+1)) (by lia) (by lia));rwa [show ib+1+(j-(ib+1))=j by lia] at this
          by_cases y1:(ia+1+1 == a.size)=true
          ·rw [ae y1]
           exact ai (.inl ⟨_,_,rfl,rfl,iu sa sb aT hl (eq_of_beq y1)⟩)
          ·rw [aa y1]
           have fQ:ia+1+1≠a.size:=fun e=>y1 (by simp [←e])
           exact dN (fun _=>ai (.inr ⟨_,_,_,_,_,_,_,rfl,rfl,aT,by lia,by lia,by lia⟩)) (fun _=>ai ⟨_,_,_,_,_,_,_,rfl,rfl,aT,by lia,by lia,by lia⟩)
        ·rw [aa du]
         obtain rfl:k'=0:=by lia
         refine aj (ba (by lia) ?_)
         have aT:=kz sa sb bW (by lia) fun j h1 h2=>by have:=gx (q3 (j-(ib+1)) (by lia) (by lia));rwa [show ib+1+(j-(ib+1))=j by lia] at this
         by_cases y1:(ia+1+1 == a.size)=true
         ·rw [ae y1]
          exact ai (.inl ⟨_,_,rfl,rfl,iu sa sb aT hl (eq_of_beq y1)⟩)
         ·rw [aa y1]
          have fQ:ia+1+1≠a.size:=fun e=>y1 (by simp [←e])
          exact dN (fun _=>ai (.inr ⟨_,_,_,_,_,_,_,rfl,rfl,aT,by lia,by lia,by lia⟩)) (fun _=>ai ⟨_,_,_,_,_,_,_,rfl,rfl,aT,by lia,by lia,by lia⟩)
    ·rintro c aq ⟨out,i,j,mg,ac,bc,g,rfl,rfl,eJ⟩
     have mi:=eJ.1;have ha:=eJ.2.1;have hb:=eJ.2.2.1;have fN:=eJ.2.2.2;clear eJ;exact .inr ⟨_,_,_,_,_,_,_,rfl,rfl,mi,ha,hb,fN⟩
    ·rintro c aq (⟨m,g,e,rfl,pm⟩ | ⟨out,i,j,mg,ac,bc,g,rfl,rfl,mi,ha,hb,fN⟩)
     ·obtain ⟨c1,c2⟩:=c
      dsimp only at e;subst e;exact ai ⟨m,g,rfl,rfl,pm⟩
     ·dsimp only
      exact aj (pA (ai ⟨_,_,_,_,_,rfl,rfl,mi,ha,hb,by lia⟩))
 ·rintro c aq ⟨out,ia,ib,mg,g,rfl,rfl,eK⟩
  have mi:=eK.1;have ha:=eK.2.1;have hb:=eK.2.2.1;have yJ:=eK.2.2.2;clear eK
  exfalso
  lia
 ·rintro c aq ⟨m,g,e,rfl,pm,sm⟩
  obtain ⟨c1,c2⟩:=c;dsimp only at e;subst e;exact ai (q m g pm sm)
end
theorem Jk(a b:Array Keyed):yF a b=(do
 rule "list.sort.merge-hi"
 let total:=a.size+b.size
 let done (out:Array Keyed) (na nb:Nat):=a.extract 0 na++b.extract 0 nb++out.reverse
 let vn (out:Array Keyed) (na nb:Nat):=b.extract 0 nb++a.extract 0 na++out.reverse
 let mut na:=a.size-1
 let mut nb:=b.size
 let mut out:Array Keyed:=#[←elem' a na]
 if na == 0 then return done out na nb
 if nb == 1 then return vn out na nb
 let mut minGallop:=gallopOf (←get)
 for _ in [0:total] do
  let mut gU:=0
  let mut gW:=0
  for _ in [0:total] do
   let some Jl ←lt' (←elem' b (nb-1)) (←elem' a (na-1)) | return done out na nb
   if Jl then
    na:=na-1;out:=out.push (←elem' a na);gU:=gU+1;gW:=0
    if na == 0 then return done out na nb
    if gU≥minGallop then break
   else
    nb:=nb-1;out:=out.push (←elem' b nb);gW:=gW+1;gU:=0
    if nb == 1 then return vn out na nb
    if gW≥minGallop then break
  rule "list.sort.gallop"
  minGallop:=minGallop+1
  for _ in [0:total] do
   if minGallop>1 then minGallop:=minGallop-1
   sP minGallop
   let some at_ ←lF false (←elem' b (nb-1)) a 0 na (na-1) | return done out na nb
   let k:=na-at_
   gU:=k
   if k>0 then
    out:=out++(a.extract at_ na).reverse;na:=at_
    if na == 0 then return done out na nb
   nb:=nb-1;out:=out.push (←elem' b nb)
   if nb == 1 then return vn out na nb
   let some at_ ←lF true (←elem' a (na-1)) b 0 nb (nb-1) | return done out na nb
   let k:=nb-at_
   gW:=k
   if k>0 then
    out:=out++(b.extract at_ nb).reverse;nb:=at_
    if nb == 1 then return vn out na nb
    if nb == 0 then return done out na nb
   na:=na-1;out:=out.push (←elem' a na)
   if na == 0 then return done out na nb
   if gU<7 && gW<7 then break
  minGallop:=minGallop+1
  sP minGallop
 unsupported "internal:list.sort.merge-bound"):=rfl
section
variable {key:Keyed→Int}
theorem pC(h:a8 key l):a8 (fun x=>-key x) l.reverse:=by unfold a8;rw [List.pairwise_reverse];exact List.Pairwise.imp (fun h=>Int.neg_le_neg h) h
theorem CG(h:a8 (fun x=>-key x) l):a8 key l.reverse:=by unfold a8;rw [List.pairwise_reverse];exact List.Pairwise.imp (fun h=>Int.le_of_neg_le_neg h) h
variable {a:Array Keyed} {n:Nat}
theorem iZ(h:n≤a.size):a.toList.reverse.drop (a.size-n)=(a.extract 0 n).toList.reverse:=by rw [List.drop_reverse,iq,List.drop_zero,Nat.sub_zero,gF,show a.size-(a.size-n)=n by lia]
theorem vt{m:Nat}(h:n≤a.size)(hm:m≤n):(a.toList.reverse.drop (a.size-n)).take (n-m)=(a.extract m n).reverse.toList:=by rw [iZ h,uo,iq,iq,List.drop_zero,Nat.sub_zero,List.take_reverse,ou,gF,show min n a.size-(n-m)=m by lia,List.drop_take]
theorem kA{m:Nat}(h:n≤a.size){x:Keyed}(hx:x∈(a.extract m n).toList):∃j,m≤j∧j<n∧x=a.getD j nn:=by rw [iq] at hx;obtain ⟨j,h1,h2,rfl⟩:=yI hx;exact ⟨m+j,by lia,by lia,rfl⟩
theorem CH(h:n≤a.size)(h1:1≤n):(a.extract (n-1) n).reverse.toList=[a.getD (n-1) nn]:=by
 rw [uo,iq,show n-(n-1)=1 by lia,sS (by lia)]
 rfl
def MH(key:Keyed→Int)(a b out:Array Keyed)(na nb:Nat):Prop:=MI (fun x=>-key x) a.toList.reverse b.toList.reverse out.toList (a.size-na) (b.size-nb)∧na≤a.size∧nb≤b.size
variable {a b:Array Keyed} (sa:a8 key a.toList) (sb:a8 key b.toList) {out:Array Keyed} {na nb:Nat}
include sa sb
variable {k:Nat}
theorem yL(m:MH key a b out na nb)(hk:k≤na)(c:∀i j,k≤i→i<na→j<nb→key (b.getD j nn)≤key (a.getD i nn)):MH key a b (out++(a.extract k na).reverse) k nb:=by
 obtain ⟨m,ha,hb⟩:=m;refine ⟨?_,by lia,hb⟩
 have:=m.vg (pC sa) (na-k) fun x hx y hy=>by rw [vt ha hk,uo,kW] at hx;rw [iZ hb,kW] at hy;obtain ⟨i,i1,i2,rfl⟩:=kA ha hx;obtain ⟨j,j1,j2,rfl⟩:=kA hb hy;have:=c i j i1 i2 j2;lia
 rw [vt ha hk,show a.size-na+(na-k)=a.size-k by lia] at this
 rw [je];exact this
theorem sU(m:MH key a b out na nb)(hk:k≤nb)(c:∀i j,k≤i→i<nb→j<na→key (a.getD j nn)≤key (b.getD i nn)):MH key a b (out++(b.extract k nb).reverse) na k:=by
 obtain ⟨m,ha,hb⟩:=m;refine ⟨?_,ha,by lia⟩
 have:=m.yH (pC sb) (nb-k) fun x hx y hy=>by rw [vt hb hk,uo,kW] at hx;rw [iZ ha,kW] at hy;obtain ⟨i,i1,i2,rfl⟩:=kA hb hx;obtain ⟨j,j1,j2,rfl⟩:=kA ha hy;have:=c i j i1 i2 j2;lia
 rw [vt hb hk,show b.size-nb+(nb-k)=b.size-k by lia] at this
 rw [je];exact this
theorem jD(m:MH key a b out na nb)(h1:1≤na)(c:∀j,j<nb→key (b.getD j nn)≤key (a.getD (na-1) nn)):MH key a b (out.push (a.getD (na-1) nn)) (na-1) nb:=by
 have:=yL sa sb m (k:=na-1) (by lia) fun i j i1 i2 j1=>by
  rw [show i=na-1 by lia]
  exact c j j1
 have e:out++(a.extract (na-1) na).reverse=out.push (a.getD (na-1) nn):=by apply Array.toList_inj.mp;rw [je,CH m.2.1 h1,kU]
 rw [e] at this;exact this
theorem sW(m:MH key a b out na nb)(h1:1≤nb)(c:∀j,j<na→key (a.getD j nn)≤key (b.getD (nb-1) nn)):MH key a b (out.push (b.getD (nb-1) nn)) na (nb-1):=by
 have:=sU sa sb m (k:=nb-1) (by lia) fun i j i1 i2 j1=>by
  rw [show i=nb-1 by lia]
  exact c j j1
 have e:out++(b.extract (nb-1) nb).reverse=out.push (b.getD (nb-1) nn):=by apply Array.toList_inj.mp;rw [je,CH m.2.2 h1,kU]
 rw [e] at this;exact this
theorem fk(m:MH key a b out na nb)(e:na=0∨nb=0):(a.extract 0 na++b.extract 0 nb++out.reverse).toList.Perm (a.toList++b.toList)∧a8 key (a.extract 0 na++b.extract 0 nb++out.reverse).toList:=by
 obtain ⟨m,ha,hb⟩:=m;have:=m.CB (pC sa) (pC sb) fun x hx y hy=>by rw [iZ ha,kW] at hx;rw [iZ hb,kW] at hy;obtain ⟨i,i1,i2,_⟩:=kA ha hx;obtain ⟨j,j1,j2,_⟩:=kA hb hy;lia
 rw [iZ ha,iZ hb] at this;have er:(a.extract 0 na++b.extract 0 nb++out.reverse).toList=(out.toList++(b.extract 0 nb).toList.reverse++(a.extract 0 na).toList.reverse).reverse:=by simp
 rw [er];refine ⟨(kX _).trans (this.1.trans ?_),CG this.2⟩;exact (kX _).append (kX _)
theorem jE(m:MH key a b out na nb)(h0:∀x∈a.toList,key (b.getD 0 nn)≤key x)(e:nb=1):(b.extract 0 nb++a.extract 0 na++out.reverse).toList.Perm (a.toList++b.toList)∧a8 key (b.extract 0 nb++a.extract 0 na++out.reverse).toList:=by
 obtain ⟨m,ha,hb⟩:=m;have:=m.done (pC sa) (pC sb) fun x hx y hy=>by
  rw [iZ ha,kW] at hx;rw [iZ hb,kW] at hy;obtain ⟨i,i1,i2,rfl⟩:=kA ha hx;obtain ⟨j,j1,j2,rfl⟩:=kA hb hy;have:=h0 (a.getD i nn) (by simp [Array.getD,show i<a.size by lia])
  rw [show j=0 by lia]
  lia
 rw [iZ ha,iZ hb] at this;have er:(b.extract 0 nb++a.extract 0 na++out.reverse).toList=(out.toList++(a.extract 0 na).toList.reverse++(b.extract 0 nb).toList.reverse).reverse:=by simp
 rw [er];refine ⟨(kX _).trans (this.1.trans ?_),CG this.2⟩;exact (kX _).append (kX _)
end
section
variable {prog:Program} {w:World} {A:Around} {E:aE} {s:Shared} {κ:SortKind} {key:Keyed→Int} {Ok:Keyed→Prop}
theorem Jm(h:ik prog w A s κ key Ok){a b:Array Keyed}(oa:d_ Ok a)(ob:d_ Ok b)(sa:a8 key a.toList)(sb:a8 key b.toList)(a1:1≤a.size)(b1:1≤b.size)
  (h0:∀x∈a.toList,key (b.getD 0 nn)≤key x) (hl:∀y∈b.toList,key y≤key (a.getD (a.size-1) nn)) {st:SortSt} (hk:kindOf st=κ) {Q:Array Keyed→SortSt→Prop}
  (q:∀m g,m.toList.Perm (a.toList++b.toList)→a8 key m.toList→Q m (setG st g)):wpS (model prog w) A E s (yF a b) Q st:=by
 rw [Jk];refine aj (wpS_lift (j4 ⟨rfl,?_⟩));refine aj (ba (by lia) ?_)
 dsimp only;have m0:MH key a b (#[a.getD (a.size-1) nn]:Array Keyed) (a.size-1) b.size:=by
  have:MH key a b (#[]:Array Keyed) a.size b.size:=⟨⟨by simp,List.Pairwise.nil,fun x hx=>by simp at hx,fun x hx=>by simp at hx⟩,aw _,aw _⟩
  exact jD sa sb this a1 fun j hj=>hl _ (by simp [Array.getD,hj])
 have dO:∀g,kindOf (setG st g)=κ:=fun _=>hk;by_cases e1:(a.size-1 == 0)=true
 ·rw [ae e1]
  have:=fk sa sb m0 (.inl (eq_of_beq e1));exact ai (q _ (gallopOf st) this.1 this.2)
 rw [aa e1];by_cases e2:(b.size == 1)=true
 ·rw [ae e2]
  have:=jE sa sb m0 h0 (eq_of_beq e2);exact ai (q _ (gallopOf st) this.1 this.2)
 rw [aa e2];have a2:1≤a.size-1:=by
  have:a.size-1≠0:=fun e=>e1 (by simp [e])
  lia
 have b2:2≤b.size:=by
  have:b.size≠1:=fun e=>e2 (by simp [e])
  lia
 refine aj (gH ?_)
 refine aj (eM (eg (I:=fun x c aq=>∃(out:Array Keyed) (na nb mg g:Nat),c=(none,na,nb,out,mg)∧aq=setG st g∧MH key a b out na nb∧1≤na∧2≤nb∧x+na+nb≤a.size+b.size)
  (Q:=fun c aq=>∃(m:Array Keyed) (g:Nat),c.1=some m∧aq=setG st g∧m.toList.Perm (a.toList++b.toList)∧a8 key m.toList) ?_ ?_ ⟨_,a.size-1,b.size,_,gallopOf st,rfl,rfl,m0,a2,b2,show 0+(a.size-1)+b.size≤a.size+b.size by lia⟩) ?_)
 ·rintro x c aq _ hx ⟨out,na,nb,mg,g,rfl,rfl,fh⟩
  have mi:=fh.1;have ha:=fh.2.1;have hb:=fh.2.2.1;have yJ:=fh.2.2.2;clear fh;dsimp only
  refine aj (eM (eg (I:=fun y c aq=>∃(out:Array Keyed) (a9 bP ac bc:Nat),c=(none,a9,bP,out,ac,bc)∧aq=setG st g∧MH key a b out a9 bP∧1≤a9∧2≤bP∧y+a9+bP≤na+nb)
   (Q:=fun c aq=>aq=setG st g∧((∃m:Array Keyed,c.1=some m∧m.toList.Perm (a.toList++b.toList)∧a8 key m.toList)∨∃(out:Array Keyed) (a9 bP ac bc:Nat),c=(none,a9,bP,out,ac,bc)∧MH key a b out a9 bP∧1≤a9∧2≤bP∧1+a9+bP≤na+nb)) ?_ ?_ ⟨_,na,nb,_,_,rfl,rfl,mi,ha,hb,show 0+na+nb≤na+nb by lia⟩) ?_)
  ·rintro y c aq _ hy ⟨out,a9,bP,ac,bc,rfl,rfl,fj⟩
   have mi:=fj.1;have ha:=fj.2.1;have hb:=fj.2.2.1;have fN:=fj.2.2.2;clear fj;have Jn:=mi.2.1;have mI:=mi.2.2;dsimp only;refine aj (ba (by lia) (aj (ba (by lia) (aj (sR h (ob (bP-1) (by lia)) (oa (a9-1) (by lia)) (dO _) ?_)))))
   dsimp only;by_cases z:key (b.getD (bP-1) nn)<key (a.getD (a9-1) nn)
   ·rw [aK z,ae rfl]
    refine aj (ba (by lia) ?_)
    have fO:=jD sa sb mi ha fun j hj=>cS (eE sb (by lia) (by lia)) (cI z)
    by_cases z1:(a9-1 == 0)=true
    ·rw [ae z1]
     exact ai ⟨rfl,.inl ⟨_,rfl,fk sa sb fO (.inl (eq_of_beq z1))⟩⟩
    ·rw [aa z1]
     have sO:a9-1≠0:=fun e=>z1 (by simp [e])
     exact dN (fun _=>ai ⟨rfl,.inr ⟨_,_,_,_,_,rfl,fO,by lia,hb,by lia⟩⟩) (fun _=>ai ⟨_,_,_,_,_,rfl,rfl,fO,by lia,hb,by lia⟩)
   ·rw [bj z,aa (by simp)]
    refine aj (ba (by lia) ?_)
    have fO:=sW sa sb mi (by lia) fun j hj=>cS (eE sa (by lia) (by lia)) (Int.not_lt.mp z)
    by_cases z1:(bP-1 == 1)=true
    ·rw [ae z1]
     exact ai ⟨rfl,.inl ⟨_,rfl,jE sa sb fO h0 (eq_of_beq z1)⟩⟩
    ·rw [aa z1]
     have sO:bP-1≠1:=fun e=>z1 (by simp [e])
     exact dN (fun _=>ai ⟨rfl,.inr ⟨_,_,_,_,_,rfl,fO,ha,by lia,by lia⟩⟩) (fun _=>ai ⟨_,_,_,_,_,rfl,rfl,fO,ha,by lia,by lia⟩)
  ·rintro c aq ⟨out,a9,bP,ac,bc,rfl,rfl,eG⟩
   have mi:=eG.1;have ha:=eG.2.1;have hb:=eG.2.2.1;have fN:=eG.2.2.2;clear eG;exact ⟨rfl,.inr ⟨_,_,_,_,_,rfl,mi,ha,hb,by lia⟩⟩
  ·rintro c aq ⟨rfl,⟨m,e,pm⟩ | ⟨out,a9,bP,ac,bc,rfl,mi,ha,hb,fN⟩⟩
   ·obtain ⟨c1,c2⟩:=c
    dsimp only at e;subst e;exact ai ⟨m,g,rfl,rfl,pm⟩
   ·dsimp only
    refine aj (wpS_lift (j4 ⟨rfl,?_⟩))
    refine aj (eM (eg (I:=fun y c aq=>∃(out:Array Keyed) (i j mg ac bc g:Nat),c=(none,i,j,out,mg,ac,bc)∧aq=setG st g∧MH key a b out i j∧1≤i∧2≤j∧x+1+i+j≤a.size+b.size)
     (Q:=fun c aq=>(∃(m:Array Keyed) (g:Nat),c.1=some m∧aq=setG st g∧m.toList.Perm (a.toList++b.toList)∧a8 key m.toList)∨∃(out:Array Keyed) (i j mg ac bc g:Nat),c=(none,i,j,out,mg,ac,bc)∧aq=setG st g∧MH key a b out i j∧1≤i∧2≤j∧x+1+i+j≤a.size+b.size) ?_ ?_ ⟨_,a9,bP,_,_,_,g,rfl,rfl,mi,ha,hb,by lia⟩) ?_)
    ·clear mi ha hb fN
     rintro y c aq _ hy ⟨out,na,nb,mg,ac,bc,g,rfl,rfl,eI⟩;have mi:=eI.1;have ha:=eI.2.1;have hb:=eI.2.2.1;have fN:=eI.2.2.2;clear eI;have Jn:=mi.2.1;have mI:=mi.2.2;dsimp only;rcases Nat.lt_or_ge 1 mg with zm | zm
     ·rw [ae zm]
      refine aj (pA ?_);refine aj (ba (by lia) (aj (gv (f:=fun i=>bB false (key (b.getD (nb-1) nn)) (key (a.getD (0+i) nn))) (fun i hi Q q=>gu h (by lia) oa (ob _ (by lia)) (dO _) q) (by lia) (fun i j h1 h2 h3=>vj sa (o:=0) i j h1 (by lia) h3) fun k k1 k2 k3=>?_)))
      dsimp only;by_cases zk:na-k>0
      ·rw [ae zk]
       have fP:=yL sa sb mi (k:=k) k1 fun i j hi bg hj=>by have:=lG (k3 i hi bg);rw [dF] at this;exact cS (eE sb (by lia) (by lia)) (cI this)
       by_cases w1:(k == 0)=true
       ·rw [ae w1]
        exact ai (.inl ⟨_,_,rfl,rfl,fk sa sb fP (.inl (eq_of_beq w1))⟩)
       ·rw [aa w1]
        have yK:k≠0:=fun e=>w1 (by simp [e])
        refine aj (ba (by have:=fP.2.2;lia) ?_)
        have bW:=sW sa sb fP (by lia) fun j h1=>by have:=jC (k2 j h1);rw [dF] at this;exact this
        by_cases x1:(nb-1 == 1)=true
        ·rw [ae x1]
         exact ai (.inl ⟨_,_,rfl,rfl,jE sa sb bW h0 (eq_of_beq x1)⟩)
        ·rw [aa x1]
         have mP:nb-1≠1:=fun e=>x1 (by simp [e])
         have mI:=bW.2.2;refine aj (ba (by lia) (aj (gv (f:=fun i=>bB true (key (a.getD (k-1) nn)) (key (b.getD (0+i) nn))) (fun i hi Q q=>gu h (by lia) ob (oa _ (by lia)) (dO _) q) (by lia) (fun i j h1 h2 h3=>lH sb (o:=0) i j h1 (by lia) h3) fun k' q1 q2 q3=>?_)))
         dsimp only;by_cases du:nb-1-k'>0
         ·rw [ae du]
          have cU:=sU sa sb bW (k:=k') q1 fun i j hi bg hj=>by have:=gx (q3 i hi bg);rw [dF] at this;exact cS (eE sa (by lia) (by lia)) this
          by_cases x2:(k' == 1)=true
          ·rw [ae x2]
           exact ai (.inl ⟨_,_,rfl,rfl,jE sa sb cU h0 (eq_of_beq x2)⟩)
          ·rw [aa x2]
           have mQ:k'≠1:=fun e=>x2 (by simp [e])
           by_cases x3:(k' == 0)=true
           ·rw [ae x3]
            exact ai (.inl ⟨_,_,rfl,rfl,fk sa sb cU (.inr (eq_of_beq x3))⟩)
           ·rw [aa x3]
            have yM:k'≠0:=fun e=>x3 (by simp [e])
            refine aj (ba (by lia) ?_)
            have aT:=jD sa sb cU (by lia) fun j h1=>by have:=fL (q2 j h1);rw [dF] at this;exact cI this
            by_cases y1:(k-1 == 0)=true
            ·rw [ae y1]
             exact ai (.inl ⟨_,_,rfl,rfl,fk sa sb aT (.inl (eq_of_beq y1))⟩)
            ·rw [aa y1]
             have fQ:k-1≠0:=fun e=>y1 (by simp [e])
             exact dN (fun _=>ai (.inr ⟨_,_,_,_,_,_,_,rfl,rfl,aT,by lia,by lia,by lia⟩)) (fun _=>ai ⟨_,_,_,_,_,_,_,rfl,rfl,aT,by lia,by lia,by lia⟩)
         ·rw [aa du]
          obtain rfl:k'=nb-1:=by lia
          refine aj (ba (by lia) ?_)
          have aT:=jD sa sb bW (by lia) fun j h1=>by have:=fL (q2 j h1);rw [dF] at this;exact cI this
          by_cases y1:(k-1 == 0)=true
          ·rw [ae y1]
           exact ai (.inl ⟨_,_,rfl,rfl,fk sa sb aT (.inl (eq_of_beq y1))⟩)
          ·rw [aa y1]
           have fQ:k-1≠0:=fun e=>y1 (by simp [e])
           exact dN (fun _=>ai (.inr ⟨_,_,_,_,_,_,_,rfl,rfl,aT,by lia,by lia,by lia⟩)) (fun _=>ai ⟨_,_,_,_,_,_,_,rfl,rfl,aT,by lia,by lia,by lia⟩)
      ·rw [aa zk]
       obtain rfl:k=na:=by lia
       refine aj (ba (by have:=mi.2.2;lia) ?_)
       have bW:=sW sa sb mi (by lia) fun j h1=>by have:=jC (k2 j h1);rw [dF] at this;exact this
       by_cases x1:(nb-1 == 1)=true
       ·rw [ae x1]
        exact ai (.inl ⟨_,_,rfl,rfl,jE sa sb bW h0 (eq_of_beq x1)⟩)
       ·rw [aa x1]
        have mP:nb-1≠1:=fun e=>x1 (by simp [e])
        have mI:=bW.2.2;refine aj (ba (by lia) (aj (gv (f:=fun i=>bB true (key (a.getD (k-1) nn)) (key (b.getD (0+i) nn))) (fun i hi Q q=>gu h (by lia) ob (oa _ (by lia)) (dO _) q) (by lia) (fun i j h1 h2 h3=>lH sb (o:=0) i j h1 (by lia) h3) fun k' q1 q2 q3=>?_)))
        dsimp only;by_cases du:nb-1-k'>0
        ·rw [ae du]
         have cU:=sU sa sb bW (k:=k') q1 fun i j hi bg hj=>by have:=gx (q3 i hi bg);rw [dF] at this;exact cS (eE sa (by lia) (by lia)) this
         by_cases x2:(k' == 1)=true
         ·rw [ae x2]
          exact ai (.inl ⟨_,_,rfl,rfl,jE sa sb cU h0 (eq_of_beq x2)⟩)
         ·rw [aa x2]
          have mQ:k'≠1:=fun e=>x2 (by simp [e])
          by_cases x3:(k' == 0)=true
          ·rw [ae x3]
           exact ai (.inl ⟨_,_,rfl,rfl,fk sa sb cU (.inr (eq_of_beq x3))⟩)
          ·rw [aa x3]
           have yM:k'≠0:=fun e=>x3 (by simp [e])
           refine aj (ba (by lia) ?_)
           have aT:=jD sa sb cU (by lia) fun j h1=>by have:=fL (q2 j h1);rw [dF] at this;exact cI this
           by_cases y1:(k-1 == 0)=true
           ·rw [ae y1]
            exact ai (.inl ⟨_,_,rfl,rfl,fk sa sb aT (.inl (eq_of_beq y1))⟩)
           ·rw [aa y1]
            have fQ:k-1≠0:=fun e=>y1 (by simp [e])
            exact dN (fun _=>ai (.inr ⟨_,_,_,_,_,_,_,rfl,rfl,aT,by lia,by lia,by lia⟩)) (fun _=>ai ⟨_,_,_,_,_,_,_,rfl,rfl,aT,by lia,by lia,by lia⟩)
        ·rw [aa du]
         obtain rfl:k'=nb-1:=by lia
         refine aj (ba (by lia) ?_)
         have aT:=jD sa sb bW (by lia) fun j h1=>by have:=fL (q2 j h1);rw [dF] at this;exact cI this
         by_cases y1:(k-1 == 0)=true
         ·rw [ae y1]
          exact ai (.inl ⟨_,_,rfl,rfl,fk sa sb aT (.inl (eq_of_beq y1))⟩)
         ·rw [aa y1]
          have fQ:k-1≠0:=fun e=>y1 (by simp [e])
          exact dN (fun _=>ai (.inr ⟨_,_,_,_,_,_,_,rfl,rfl,aT,by lia,by lia,by lia⟩)) (fun _=>ai ⟨_,_,_,_,_,_,_,rfl,rfl,aT,by lia,by lia,by lia⟩)
     ·rw [aa (by lia)]
      refine aj (pA ?_);refine aj (ba (by lia) (aj (gv (f:=fun i=>bB false (key (b.getD (nb-1) nn)) (key (a.getD (0+i) nn))) (fun i hi Q q=>gu h (by lia) oa (ob _ (by lia)) (dO _) q) (by lia) (fun i j h1 h2 h3=>vj sa (o:=0) i j h1 (by lia) h3) fun k k1 k2 k3=>?_)))
      dsimp only;by_cases zk:na-k>0
      ·rw [ae zk]
       have fP:=yL sa sb mi (k:=k) k1 fun i j hi bg hj=>by have:=lG (k3 i hi bg);rw [dF] at this;exact cS (eE sb (by lia) (by lia)) (cI this)
       by_cases w1:(k == 0)=true
       ·rw [ae w1]
        exact ai (.inl ⟨_,_,rfl,rfl,fk sa sb fP (.inl (eq_of_beq w1))⟩)
       ·rw [aa w1]
        have yK:k≠0:=fun e=>w1 (by simp [e])
        refine aj (ba (by have:=fP.2.2;lia) ?_)
        have bW:=sW sa sb fP (by lia) fun j h1=>by have:=jC (k2 j h1);rw [dF] at this;exact this
        by_cases x1:(nb-1 == 1)=true
        ·rw [ae x1]
         exact ai (.inl ⟨_,_,rfl,rfl,jE sa sb bW h0 (eq_of_beq x1)⟩)
        ·rw [aa x1]
         have mP:nb-1≠1:=fun e=>x1 (by simp [e])
         have mI:=bW.2.2;refine aj (ba (by lia) (aj (gv (f:=fun i=>bB true (key (a.getD (k-1) nn)) (key (b.getD (0+i) nn))) (fun i hi Q q=>gu h (by lia) ob (oa _ (by lia)) (dO _) q) (by lia) (fun i j h1 h2 h3=>lH sb (o:=0) i j h1 (by lia) h3) fun k' q1 q2 q3=>?_)))
         dsimp only;by_cases du:nb-1-k'>0
         ·rw [ae du]
          have cU:=sU sa sb bW (k:=k') q1 fun i j hi bg hj=>by have:=gx (q3 i hi bg);rw [dF] at this;exact cS (eE sa (by lia) (by lia)) this
          by_cases x2:(k' == 1)=true
          ·rw [ae x2]
           exact ai (.inl ⟨_,_,rfl,rfl,jE sa sb cU h0 (eq_of_beq x2)⟩)
          ·rw [aa x2]
           have mQ:k'≠1:=fun e=>x2 (by simp [e])
           by_cases x3:(k' == 0)=true
           ·rw [ae x3]
            exact ai (.inl ⟨_,_,rfl,rfl,fk sa sb cU (.inr (eq_of_beq x3))⟩)
           ·rw [aa x3]
            have yM:k'≠0:=fun e=>x3 (by simp [e])
            refine aj (ba (by lia) ?_)
            have aT:=jD sa sb cU (by lia) fun j h1=>by have:=fL (q2 j h1);rw [dF] at this;exact cI this
            by_cases y1:(k-1 == 0)=true
            ·rw [ae y1]
             exact ai (.inl ⟨_,_,rfl,rfl,fk sa sb aT (.inl (eq_of_beq y1))⟩)
            ·rw [aa y1]
             have fQ:k-1≠0:=fun e=>y1 (by simp [e])
             exact dN (fun _=>ai (.inr ⟨_,_,_,_,_,_,_,rfl,rfl,aT,by lia,by lia,by lia⟩)) (fun _=>ai ⟨_,_,_,_,_,_,_,rfl,rfl,aT,by lia,by lia,by lia⟩)
         ·rw [aa du]
          obtain rfl:k'=nb-1:=by lia
          refine aj (ba (by lia) ?_)
          have aT:=jD sa sb bW (by lia) fun j h1=>by have:=fL (q2 j h1);rw [dF] at this;exact cI this
          by_cases y1:(k-1 == 0)=true
          ·rw [ae y1]
           exact ai (.inl ⟨_,_,rfl,rfl,fk sa sb aT (.inl (eq_of_beq y1))⟩)
          ·rw [aa y1]
           have fQ:k-1≠0:=fun e=>y1 (by simp [e])
           exact dN (fun _=>ai (.inr ⟨_,_,_,_,_,_,_,rfl,rfl,aT,by lia,by lia,by lia⟩)) (fun _=>ai ⟨_,_,_,_,_,_,_,rfl,rfl,aT,by lia,by lia,by lia⟩)
      ·rw [aa zk]
       obtain rfl:k=na:=by lia
       refine aj (ba (by have:=mi.2.2;lia) ?_)
       have bW:=sW sa sb mi (by lia) fun j h1=>by have:=jC (k2 j h1);rw [dF] at this;exact this
       by_cases x1:(nb-1 == 1)=true
       ·rw [ae x1]
        exact ai (.inl ⟨_,_,rfl,rfl,jE sa sb bW h0 (eq_of_beq x1)⟩)
       ·rw [aa x1]
        have mP:nb-1≠1:=fun e=>x1 (by simp [e])
        have mI:=bW.2.2;refine aj (ba (by lia) (aj (gv (f:=fun i=>bB true (key (a.getD (k-1) nn)) (key (b.getD (0+i) nn))) (fun i hi Q q=>gu h (by lia) ob (oa _ (by lia)) (dO _) q) (by lia) (fun i j h1 h2 h3=>lH sb (o:=0) i j h1 (by lia) h3) fun k' q1 q2 q3=>?_)))
        dsimp only;by_cases du:nb-1-k'>0
        ·rw [ae du]
         have cU:=sU sa sb bW (k:=k') q1 fun i j hi bg hj=>by have:=gx (q3 i hi bg);rw [dF] at this;exact cS (eE sa (by lia) (by lia)) this
         by_cases x2:(k' == 1)=true
         ·rw [ae x2]
          exact ai (.inl ⟨_,_,rfl,rfl,jE sa sb cU h0 (eq_of_beq x2)⟩)
         ·rw [aa x2]
          have mQ:k'≠1:=fun e=>x2 (by simp [e])
          by_cases x3:(k' == 0)=true
          ·rw [ae x3]
           exact ai (.inl ⟨_,_,rfl,rfl,fk sa sb cU (.inr (eq_of_beq x3))⟩)
          ·rw [aa x3]
           have yM:k'≠0:=fun e=>x3 (by simp [e])
           refine aj (ba (by lia) ?_)
           have aT:=jD sa sb cU (by lia) fun j h1=>by have:=fL (q2 j h1);rw [dF] at this;exact cI this
           by_cases y1:(k-1 == 0)=true
           ·rw [ae y1]
            exact ai (.inl ⟨_,_,rfl,rfl,fk sa sb aT (.inl (eq_of_beq y1))⟩)
           ·rw [aa y1]
            have fQ:k-1≠0:=fun e=>y1 (by simp [e])
            exact dN (fun _=>ai (.inr ⟨_,_,_,_,_,_,_,rfl,rfl,aT,by lia,by lia,by lia⟩)) (fun _=>ai ⟨_,_,_,_,_,_,_,rfl,rfl,aT,by lia,by lia,by lia⟩)
        ·rw [aa du]
         obtain rfl:k'=nb-1:=by lia
         refine aj (ba (by lia) ?_)
         have aT:=jD sa sb bW (by lia) fun j h1=>by have:=fL (q2 j h1);rw [dF] at this;exact cI this
         by_cases y1:(k-1 == 0)=true
         ·rw [ae y1]
          exact ai (.inl ⟨_,_,rfl,rfl,fk sa sb aT (.inl (eq_of_beq y1))⟩)
         ·rw [aa y1]
          have fQ:k-1≠0:=fun e=>y1 (by simp [e])
          exact dN (fun _=>ai (.inr ⟨_,_,_,_,_,_,_,rfl,rfl,aT,by lia,by lia,by lia⟩)) (fun _=>ai ⟨_,_,_,_,_,_,_,rfl,rfl,aT,by lia,by lia,by lia⟩)
    ·rintro c aq ⟨out,i,j,mg,ac,bc,g,rfl,rfl,eJ⟩
     have mi:=eJ.1;have ha:=eJ.2.1;have hb:=eJ.2.2.1;have fN:=eJ.2.2.2;clear eJ;exact .inr ⟨_,_,_,_,_,_,_,rfl,rfl,mi,ha,hb,fN⟩
    ·rintro c aq (⟨m,g,e,rfl,pm⟩ | ⟨out,i,j,mg,ac,bc,g,rfl,rfl,mi,ha,hb,fN⟩)
     ·obtain ⟨c1,c2⟩:=c
      dsimp only at e;subst e;exact ai ⟨m,g,rfl,rfl,pm⟩
     ·dsimp only
      exact aj (pA (ai ⟨_,_,_,_,_,rfl,rfl,mi,ha,hb,by lia⟩))
 ·rintro c aq ⟨out,ia,ib,mg,g,rfl,rfl,eK⟩
  have mi:=eK.1;have ha:=eK.2.1;have hb:=eK.2.2.1;have yJ:=eK.2.2.2;clear eK
  exfalso
  lia
 ·rintro c aq ⟨m,g,e,rfl,pm,sm⟩
  obtain ⟨c1,c2⟩:=c;dsimp only at e;subst e;exact ai (q m g pm sm)
end
section
variable {prog:Program} {w:World} {A:Around} {E:aE} {s:Shared} {κ:SortKind} {key:Keyed→Int} {Ok:Keyed→Prop}
def vA(key:Keyed→Int)(arr:Array Keyed)(i:Nat):Int:=key (arr.getD i nn)
def cq(key:Keyed→Int)(arr:Array Keyed)(lo hi:Nat):Prop:=∀i j,lo≤i→i≤j→j<hi→vA key arr i≤vA key arr j
def iw(key:Keyed→Int)(arr:Array Keyed)(lo hi:Nat):Prop:=∀i j,lo≤i→i≤j→j<hi→vA key arr j≤vA key arr i
structure Rl (arr aR:Array Keyed) (lo hi:Nat):Prop where
 pm:aR.Perm arr
 out:∀k,k<lo∨hi≤k→aR[k]?=arr[k]?
theorem Rl.refl(arr:Array Keyed)(lo hi:Nat):Rl arr arr lo hi:=⟨Array.Perm.refl _,fun _ _=>rfl⟩
variable {arr aR:Array Keyed} {lo hi:Nat}
theorem Rl.trans{ax:Array Keyed}(h:Rl arr aR lo hi)(h':Rl aR ax lo hi):Rl arr ax lo hi:=⟨h'.pm.trans h.pm,fun k hk=>(h'.out k hk).trans (h.out k hk)⟩
theorem Rl.size(h:Rl arr aR lo hi):aR.size=arr.size:=h.pm.size_eq
theorem Rl.wide{CI bg:Nat}(h:Rl arr aR lo hi)(h1:CI≤lo)(h2:hi≤bg):Rl arr aR CI bg:=⟨h.pm,fun k hk=>h.out k (by lia)⟩
theorem i3(arr:Array Keyed)(i:Nat):arr.getD i nn=arr[i]?.getD nn:=by by_cases z:i<arr.size <;> simp [Array.getD,z]
variable {k:Nat}
theorem Rl.v(h:Rl arr aR lo hi)(hk:k<lo∨hi≤k):vA key aR k=vA key arr k:=by unfold vA;rw [i3,i3,h.out k hk]
theorem pD(h:d_ Ok arr)(p:aR.Perm arr):d_ Ok aR:=fun i hi=>by
 have e:aR.getD i nn=aR[i]:=by simp [Array.getD,hi]
 rw [e];have m:aR[i]∈arr:=(Array.Perm.mem_iff p).mp (Array.getElem_mem hi);obtain ⟨j,hj,ej⟩:=Array.getElem_of_mem m;rw [←ej];have:=h j hj;simpa [Array.getD,hj] using this
theorem Rl.ok(h:Rl arr aR lo hi)(ok:d_ Ok arr):d_ Ok aR:=pD ok h.pm
theorem i4(hj:j≤arr.size):Rl arr (mirror arr i j ((j-i) / 2)) i j:=⟨mirror_perm ..,fun k hk=>by rw [getElem?_mirror_all hj,aa (by lia)]⟩
theorem vv(hj:j≤arr.size)(h1:i≤k)(h2:k<j):vA key (mirror arr i j ((j-i) / 2)) k=vA key arr (i+j-1-k):=by unfold vA;rw [i3,i3,getElem?_mirror_all hj,ae ⟨h1,h2⟩]
abbrev aW (κ:SortKind) (arr:Array Keyed) (pend:Array (Nat×Nat×Nat)) (g:Nat):SortSt:=SortSt.mk' κ arr pend g none
variable {arr:Array Keyed} {pend:Array (Nat×Nat×Nat)} {g:Nat}
theorem i5(h:ik prog w A s κ key Ok)(ok:d_ Ok arr)(hi:i<arr.size)(hj:j<arr.size){Q:Option Bool→SortSt→Prop}(q:Q (some (decide (vA key arr i<vA key arr j))) (aW κ arr pend g)):wpS (model prog w) A E s (ltAt' i j) Q (aW κ arr pend g):=by rw [ltAt'_eq];refine aj (gH ?_);exact aj (ba hi (aj (ba hj (sR h (ok _ hi) (ok _ hj) rfl q))))
theorem kB{Q:Unit→SortSt→Prop}(q:Q () (aW κ (mirror arr i j ((j-i) / 2)) pend g)):wpS (model prog w) A E s (reverseSlice' i j) Q (aW κ arr pend g):=by rw [reverseSlice'_eq];exact iJ q
variable {n:Nat}
theorem cq.more(h:cq key arr lo (lo+n))(n1:1≤n)(c:vA key arr (lo+n-1)≤vA key arr (lo+n)):cq key arr lo (lo+(n+1)):=fun i j h1 h2 h3=>by
 by_cases z:j<lo+n;·exact h i j h1 h2 z
 ·obtain rfl:j=lo+n:=by lia
  by_cases y:i=lo+n;·rw [y];exact jZ _
  ·exact cS (h i (lo+n-1) h1 (by lia) (by lia)) c
theorem iw.more(h:iw key arr lo (lo+n))(n1:1≤n)(c:vA key arr (lo+n)≤vA key arr (lo+n-1)):iw key arr lo (lo+(n+1)):=fun i j h1 h2 h3=>by
 by_cases z:j<lo+n;·exact h i j h1 h2 z
 ·obtain rfl:j=lo+n:=by lia
  by_cases y:i=lo+n;·rw [y];exact jZ _
  ·exact cS c (h i (lo+n-1) h1 (by lia) (by lia))
def sX(key:Keyed→Int)(arr:Array Keyed)(lo n q:Nat):Prop:=q+1≤n∧∀i,lo+n-(q+1)≤i→i<lo+n→vA key arr i=vA key arr (lo+n-1)
theorem vw{q:Nat}(hz:lo+n≤arr.size)(d:iw key arr lo (lo+n))(e:sX key arr lo n q):iw key (mirror arr (lo+n-(q+1)) (lo+n) ((lo+n-(lo+n-(q+1))) / 2)) lo (lo+n)∧∀k,vA key (mirror arr (lo+n-(q+1)) (lo+n) ((lo+n-(lo+n-(q+1))) / 2)) k=vA key arr k:=by
 have hv:∀k,vA key (mirror arr (lo+n-(q+1)) (lo+n) ((lo+n-(lo+n-(q+1))) / 2)) k=vA key arr k:=fun k=>by
  by_cases z:lo+n-(q+1)≤k∧k<lo+n;·rw [vv hz z.1 z.2,e.2 _ (by have:=e.1;lia) (by lia),e.2 k z.1 z.2]
  ·exact (i4 hz).v (by lia)
 refine ⟨fun i j h1 h2 h3=>?_,hv⟩;rw [hv,hv];exact d i j h1 h2 h3
theorem vx(hz:lo+n≤arr.size)(d:iw key arr lo (lo+n)):cq key (mirror arr lo (lo+n) ((lo+n-lo) / 2)) lo (lo+n):=fun i j h1 h2 h3=>by
 rw [vv hz h1 (by lia),vv hz (by lia) h3]
 exact d _ _ (by lia) (by lia) (by lia)
end
section
variable {prog:Program} {w:World} {A:Around} {E:aE} {s:Shared} {κ:SortKind} {key:Keyed→Int} {Ok:Keyed→Prop} {arr:Array Keyed} {pend:Array (Nat×Nat×Nat)} {g:Nat}
variable {lo bX:Nat}
theorem sY(h:ik prog w A s κ key Ok)(ok:d_ Ok arr){m:Nat}(hz:lo+bX≤arr.size)(m1:1≤m)(mn:m≤bX)(sg:cq key arr lo (lo+m)){body:Nat→Option (Option Nat)×Nat→StateT SortSt Sem (ForInStep (Option (Option Nat)×Nat))}{R:Option (Option Nat)×Nat→SortSt→Prop}
  (hb:∀x n (R:ForInStep (Option (Option Nat)×Nat)→SortSt→Prop),1≤n→n<bX→R (if vA key arr (lo+n)<vA key arr (lo+n-1) then .done (none,n) else .yield (none,n+1)) (aW κ arr pend g)→wpS (model prog w) A E s (body x (none,n)) R (aW κ arr pend g))
  (k:∀n,m≤n→n≤bX→cq key arr lo (lo+n)→(n<bX→vA key arr (lo+n)<vA key arr (lo+n-1))→R (none,n) (aW κ arr pend g)) :
  wpS (model prog w) A E s (forIn [m:bX] (none,m) body) R (aW κ arr pend g):=by
 refine eg (I:=fun x c aq=>aq=aW κ arr pend g∧c=(none,x)∧m≤x∧x≤bX∧cq key arr lo (lo+x)) ?_ ?_ ⟨rfl,rfl,aw _,mn,sg⟩
 ·rintro x c aq _ hx ⟨rfl,rfl,fh⟩
  have g1:=fh.1;have g2:=fh.2.1;have g3:=fh.2.2;clear fh;refine hb x x _ (by lia) hx ?_
  by_cases z:vA key arr (lo+x)<vA key arr (lo+x-1)
  ·rw [ae z]
   exact k x g1 g2 g3 fun _=>z
  ·rw [aa z]
   exact ⟨rfl,rfl,by lia,by lia,g3.more (by lia) (Int.not_lt.mp z)⟩
 ·rintro c aq ⟨rfl,rfl,fj⟩
  have g1:=fj.1;have g2:=fj.2.1;have g3:=fj.2.2;clear fj;have e:max m bX=bX:=by lia
  rw [e] at g3 ⊢;exact k bX mn (aw _) g3 fun z=>absurd z (eL _)
theorem Jo(h:ik prog w A s κ key Ok)(ok:d_ Ok arr)(hz:lo+bX≤arr.size)(n1:1≤bX){Q:Option Nat→SortSt→Prop}
  (k:∀n aR,1≤n→n≤bX→Rl arr aR lo (lo+bX)→cq key aR lo (lo+n)→Q (some n) (aW κ aR pend g)):wpS (model prog w) A E s (countRun' lo bX) Q (aW κ arr pend g):=by
 rw [countRun'_eq];refine aj (sY h ok hz (aw 1) n1 (fun i j h1 h2 h3=>by rw [show i=j by lia];exact jZ _) ?_ fun n m1 mn sg br=>?_)
 ·intro x n R a1 a2 r
  dsimp only;refine aj (i5 h ok (by lia) (by lia) ?_)
  dsimp only;by_cases z:vA key arr (lo+n)<vA key arr (lo+n-1)
  ·rw [ae z] at r
   rw [aK z,ae rfl];exact ai r
  ·rw [aa z] at r
   rw [bj z,aa (by simp)]
   exact ai r
 dsimp only;by_cases e1:(n == bX)=true
 ·rw [ae e1]
  exact ai (k n arr m1 mn (Rl.refl ..) sg)
 rw [aa e1];have b4:n<bX:=by
  have:n≠bX:=fun e=>e1 (by simp [e])
  lia
 have CJ:=br b4;by_cases e2:n>1
 ·rw [ae e2]
  refine aj (i5 h ok (by lia) (by lia) ?_)
  dsimp only;by_cases z:vA key arr lo<vA key arr (lo+n-1)
  ·rw [aK z,ae rfl]
   exact ai (k n arr m1 mn (Rl.refl ..) sg)
  ·rw [bj z,aa (by simp)]
   refine aj (kB ?_);have ev:∀i,lo≤i→i<lo+n→vA key arr i=vA key arr (lo+n-1):=fun i h1 h2=>by
    have a1:=sg lo i (aw _) h1 h2;have a2:=sg i (lo+n-1) h1 (by lia) (by lia)
    lia
   have hv:∀i,vA key (mirror arr lo (lo+n) ((lo+n-lo) / 2)) i=vA key arr i:=fun i=>by
    by_cases y:lo≤i∧i<lo+n;·rw [vv (by lia) y.1 y.2,ev _ (by lia) (by lia),ev i y.1 y.2]
    ·exact (i4 (by lia)).v (by lia)
   have d1:iw key (mirror arr lo (lo+n) ((lo+n-lo) / 2)) lo (lo+n):=fun i j h1 h2 h3=>by
    rw [hv,hv,ev i h1 (by lia),ev j (by lia) h3]
    exact jZ _
   have vy:Rl arr (mirror arr lo (lo+n) ((lo+n-lo) / 2)) lo (lo+bX):=(i4 (by lia)).wide (aw _) (by lia)
   have CK:vA key (mirror arr lo (lo+n) ((lo+n-lo) / 2)) (lo+n)<vA key (mirror arr lo (lo+n) ((lo+n-lo) / 2)) (lo+n-1):=by rw [hv,hv];exact CJ
   generalize mirror arr lo (lo+n) ((lo+n-lo) / 2)=Jp at d1 vy CK ⊢;refine aj (wpS_lift (j4 ⟨rfl,?_⟩))
   refine aj (eM (eg (I:=fun x c aq=>∃(ax:Array Keyed) (q:Nat),aq=aW κ ax pend g∧c=(none,x,q)∧Rl arr ax lo (lo+bX)∧iw key ax lo (lo+x)∧sX key ax lo x q∧x≤bX∧1≤x)
    (Q:=fun c aq=>∃(ax:Array Keyed) (n q:Nat),aq=aW κ ax pend g∧c=(none,n,q)∧Rl arr ax lo (lo+bX)∧iw key ax lo (lo+n)∧sX key ax lo n q∧n≤bX∧1≤n) ?_ ?_ ⟨Jp,0,rfl,rfl,vy,d1.more (by lia) (cI CK),⟨by lia,fun i h1 h2=>by rw [show i=lo+(n+1)-1 by lia]⟩,by lia,by lia⟩) ?_)
   ·rintro x c aq _ hx ⟨ax,q,rfl,rfl,eG⟩
    have cZ:=eG.1;have d2:=eG.2.1;have e2:=eG.2.2.1;have x1:=eG.2.2.2.1;have x2:=eG.2.2.2.2;clear eG;have kC:=cZ.ok ok;have z2:=cZ.size;dsimp only;refine aj (i5 h kC (by lia) (by lia) ?_)
    dsimp only;by_cases z:vA key ax (lo+x)<vA key ax (lo+x-1)
    ·rw [aK z,ae rfl]
     by_cases y:q>0
     ·rw [ae y]
      refine aj (kB (ai ?_));obtain ⟨d3,hv⟩:=vw (by lia) d2 e2
      refine ⟨_,0,rfl,rfl,cZ.trans ((i4 (by lia)).wide (by have:=e2.1;lia) (by lia)),d3.more (by lia) (by rw [hv,hv];exact cI z),⟨by lia,fun i h1 h2=>by rw [show i=lo+(x+1)-1 by lia]⟩,by lia,by lia⟩
     ·rw [aa y]
      exact ai ⟨_,0,rfl,rfl,cZ,d2.more (by lia) (cI z),⟨by lia,fun i h1 h2=>by rw [show i=lo+(x+1)-1 by lia]⟩,by lia,by lia⟩
    ·rw [bj z,aa (by simp)]
     refine aj (i5 h kC (by lia) (by lia) ?_)
     dsimp only;by_cases y:vA key ax (lo+x-1)<vA key ax (lo+x)
     ·rw [aK y,ae rfl]
      exact ai ⟨_,_,_,rfl,rfl,cZ,d2,e2,x1,x2⟩
     ·rw [bj y,aa (by simp)]
      have ev:vA key ax (lo+x)=vA key ax (lo+x-1):=by lia
      refine ai ⟨_,_,rfl,rfl,cZ,d2.more (by lia) (by lia),⟨by have:=e2.1;lia,fun i h1 h2=>?_⟩,by lia,by lia⟩
      rw [show lo+(x+1)-1=lo+x by lia]
      by_cases w:i=lo+x;·rw [w]
      ·rw [ev]
       exact e2.2 i (by lia) (by lia)
   ·rintro c aq ⟨ax,q,rfl,rfl,eI⟩
    have cZ:=eI.1;have d2:=eI.2.1;have e2:=eI.2.2.1;have x1:=eI.2.2.2.1;have x2:=eI.2.2.2.2;clear eI;exact ⟨ax,_,q,rfl,rfl,cZ,d2,e2,x1,x2⟩
   ·rintro c aq ⟨ax,n2,q2,rfl,rfl,eJ⟩
    have cZ:=eJ.1;have d2:=eJ.2.1;have e2:=eJ.2.2.1;have x1:=eJ.2.2.2.1;have x2:=eJ.2.2.2.2;clear eJ;have z2:=cZ.size;dsimp only;by_cases y:q2>0
    ·rw [ae y]
     obtain ⟨d3,hv⟩:=vw (by lia) d2 e2
     refine aj (kB (aj (kB ?_)));have i6:=cZ.trans ((i4 (arr:=ax) (i:=lo+n2-(q2+1)) (j:=lo+n2) (by lia)).wide (by have:=e2.1;lia) (show lo+n2≤lo+bX by lia))
     generalize mirror ax (lo+n2-(q2+1)) (lo+n2) _=b7 at d3 i6 ⊢;have z3:=i6.size;have eQ:=vx (by lia) d3
     have bz:=i6.trans ((i4 (arr:=b7) (i:=lo) (j:=lo+n2) (by lia)).wide (aw lo) (show lo+n2≤lo+bX by lia))
     generalize mirror b7 lo (lo+n2) _=aU at eQ bz ⊢;have i7:=Rl.ok bz ok;have z4:=Rl.size bz;refine aj (sY h i7 (by lia) (by lia) (by lia) eQ ?_ fun m m1 mn mS _=>ai (k m aU (by lia) mn bz mS))
     intro x n R a1 a2 r;dsimp only;refine aj (i5 h i7 (by lia) (by lia) ?_)
     dsimp only;by_cases z:vA key aU (lo+n)<vA key aU (lo+n-1)
     ·rw [ae z] at r
      rw [aK z,ae rfl];exact ai r
     ·rw [aa z] at r
      rw [bj z,aa (by simp)]
      exact ai r
    ·rw [aa y]
     refine aj (kB ?_);have eQ:=vx (by lia) d2
     have bz:=cZ.trans ((i4 (arr:=ax) (i:=lo) (j:=lo+n2) (by lia)).wide (aw lo) (show lo+n2≤lo+bX by lia))
     generalize mirror ax lo (lo+n2) _=aU at eQ bz ⊢;have i7:=Rl.ok bz ok;have z4:=Rl.size bz;refine aj (sY h i7 (by lia) (by lia) (by lia) eQ ?_ fun m m1 mn mS _=>ai (k m aU (by lia) mn bz mS))
     intro x n R a1 a2 r;dsimp only;refine aj (i5 h i7 (by lia) (by lia) ?_)
     dsimp only;by_cases z:vA key aU (lo+n)<vA key aU (lo+n-1)
     ·rw [ae z] at r
      rw [aK z,ae rfl];exact ai r
     ·rw [aa z] at r
      rw [bj z,aa (by simp)]
      exact ai r
 ·rw [aa e2]
  have d1:iw key arr lo (lo+n):=fun i j h1 h2 h3=>by
   rw [show i=j by lia]
   exact jZ _
  have vy:Rl arr arr lo (lo+bX):=Rl.refl ..;refine aj (wpS_lift (j4 ⟨rfl,?_⟩))
  refine aj (eM (eg (I:=fun x c aq=>∃(ax:Array Keyed) (q:Nat),aq=aW κ ax pend g∧c=(none,x,q)∧Rl arr ax lo (lo+bX)∧iw key ax lo (lo+x)∧sX key ax lo x q∧x≤bX∧1≤x)
   (Q:=fun c aq=>∃(ax:Array Keyed) (n q:Nat),aq=aW κ ax pend g∧c=(none,n,q)∧Rl arr ax lo (lo+bX)∧iw key ax lo (lo+n)∧sX key ax lo n q∧n≤bX∧1≤n) ?_ ?_ ⟨arr,0,rfl,rfl,vy,d1.more (by lia) (cI CJ),⟨by lia,fun i h1 h2=>by rw [show i=lo+(n+1)-1 by lia]⟩,by lia,by lia⟩) ?_)
  ·rintro x c aq _ hx ⟨ax,q,rfl,rfl,eK⟩
   have cZ:=eK.1;have d2:=eK.2.1;have e2:=eK.2.2.1;have x1:=eK.2.2.2.1;have x2:=eK.2.2.2.2;clear eK;have kC:=cZ.ok ok;have z2:=cZ.size;dsimp only;refine aj (i5 h kC (by lia) (by lia) ?_)
   dsimp only;by_cases z:vA key ax (lo+x)<vA key ax (lo+x-1)
   ·rw [aK z,ae rfl]
    by_cases y:q>0
    ·rw [ae y]
     refine aj (kB (ai ?_));obtain ⟨d3,hv⟩:=vw (by lia) d2 e2
     refine ⟨_,0,rfl,rfl,cZ.trans ((i4 (by lia)).wide (by have:=e2.1;lia) (by lia)),d3.more (by lia) (by rw [hv,hv];exact cI z),⟨by lia,fun i h1 h2=>by rw [show i=lo+(x+1)-1 by lia]⟩,by lia,by lia⟩
    ·rw [aa y]
     exact ai ⟨_,0,rfl,rfl,cZ,d2.more (by lia) (cI z),⟨by lia,fun i h1 h2=>by rw [show i=lo+(x+1)-1 by lia]⟩,by lia,by lia⟩
   ·rw [bj z,aa (by simp)]
    refine aj (i5 h kC (by lia) (by lia) ?_)
    dsimp only;by_cases y:vA key ax (lo+x-1)<vA key ax (lo+x)
    ·rw [aK y,ae rfl]
     exact ai ⟨_,_,_,rfl,rfl,cZ,d2,e2,x1,x2⟩
    ·rw [bj y,aa (by simp)]
     have ev:vA key ax (lo+x)=vA key ax (lo+x-1):=by lia
     refine ai ⟨_,_,rfl,rfl,cZ,d2.more (by lia) (by lia),⟨by have:=e2.1;lia,fun i h1 h2=>?_⟩,by lia,by lia⟩
     rw [show lo+(x+1)-1=lo+x by lia]
     by_cases w:i=lo+x;·rw [w]
     ·rw [ev]
      exact e2.2 i (by lia) (by lia)
  ·rintro c aq ⟨ax,q,rfl,rfl,pE⟩
   have cZ:=pE.1;have d2:=pE.2.1;have e2:=pE.2.2.1;have x1:=pE.2.2.2.1;have x2:=pE.2.2.2.2;clear pE;exact ⟨ax,_,q,rfl,rfl,cZ,d2,e2,x1,x2⟩
  ·rintro c aq ⟨ax,n2,q2,rfl,rfl,pF⟩
   have cZ:=pF.1;have d2:=pF.2.1;have e2:=pF.2.2.1;have x1:=pF.2.2.2.1;have x2:=pF.2.2.2.2;clear pF;have z2:=cZ.size;dsimp only;by_cases y:q2>0
   ·rw [ae y]
    obtain ⟨d3,hv⟩:=vw (by lia) d2 e2
    refine aj (kB (aj (kB ?_)));have i6:=cZ.trans ((i4 (arr:=ax) (i:=lo+n2-(q2+1)) (j:=lo+n2) (by lia)).wide (by have:=e2.1;lia) (show lo+n2≤lo+bX by lia))
    generalize mirror ax (lo+n2-(q2+1)) (lo+n2) _=b7 at d3 i6 ⊢;have z3:=i6.size;have eQ:=vx (by lia) d3
    have bz:=i6.trans ((i4 (arr:=b7) (i:=lo) (j:=lo+n2) (by lia)).wide (aw lo) (show lo+n2≤lo+bX by lia))
    generalize mirror b7 lo (lo+n2) _=aU at eQ bz ⊢;have i7:=Rl.ok bz ok;have z4:=Rl.size bz;refine aj (sY h i7 (by lia) (by lia) (by lia) eQ ?_ fun m m1 mn mS _=>ai (k m aU (by lia) mn bz mS))
    intro x n R a1 a2 r;dsimp only;refine aj (i5 h i7 (by lia) (by lia) ?_)
    dsimp only;by_cases z:vA key aU (lo+n)<vA key aU (lo+n-1)
    ·rw [ae z] at r
     rw [aK z,ae rfl];exact ai r
    ·rw [aa z] at r
     rw [bj z,aa (by simp)]
     exact ai r
   ·rw [aa y]
    refine aj (kB ?_);have eQ:=vx (by lia) d2
    have bz:=cZ.trans ((i4 (arr:=ax) (i:=lo) (j:=lo+n2) (by lia)).wide (aw lo) (show lo+n2≤lo+bX by lia))
    generalize mirror ax lo (lo+n2) _=aU at eQ bz ⊢;have i7:=Rl.ok bz ok;have z4:=Rl.size bz;refine aj (sY h i7 (by lia) (by lia) (by lia) eQ ?_ fun m m1 mn mS _=>ai (k m aU (by lia) mn bz mS))
    intro x n R a1 a2 r;dsimp only;refine aj (i5 h i7 (by lia) (by lia) ?_)
    dsimp only;by_cases z:vA key aU (lo+n)<vA key aU (lo+n-1)
    ·rw [ae z] at r
     rw [aK z,ae rfl];exact ai r
    ·rw [aa z] at r
     rw [bj z,aa (by simp)]
     exact ai r
end
section
variable {prog:Program} {w:World} {A:Around} {E:aE} {s:Shared} {κ:SortKind} {key:Keyed→Int} {Ok:Keyed→Prop} {arr:Array Keyed} {pend:Array (Nat×Nat×Nat)} {g:Nat}
theorem Jq{Q:Unit→SortSt→Prop}(q:Q () (aW κ (bubble arr i (i-j)) pend g)):wpS (model prog w) A E s (moveDown' i j) Q (aW κ arr pend g):=by rw [moveDown'_eq];exact iJ q
variable {d:Nat}
theorem CL{k:Nat}(hi:i<arr.size)(hd:d≤i):vA key (bubble arr i d) k=if k=i-d then vA key arr i else if i-d<k∧k≤i then vA key arr (k-1) else vA key arr k:=by
 unfold vA;rw [i3,getElem?_bubble hi d hd,i3 arr i,i3 arr (k-1),i3 arr k];by_cases a:k=i-d;·rw [ae a,ae a]
 ·rw [aa a,aa a]
  by_cases b:i-d<k∧k≤i;·rw [ae b,ae b]
  ·rw [aa b,aa b]
variable {lo:Nat}
theorem Jr{hi:Nat}(h:i<arr.size)(hd:d≤i)(h1:lo≤i-d)(h2:i<hi):Rl arr (bubble arr i d) lo hi:=⟨bubble_perm ..,fun k hk=>by rw [getElem?_bubble h d hd,aa (by lia),aa (by lia)]⟩
theorem Js(h:ik prog w A s κ key Ok)(ok:d_ Ok arr){n m:Nat}(hz:lo+n≤arr.size)(m1:1≤m)(mn:m≤n)(sg:cq key arr lo (lo+m)){Q:Bool→SortSt→Prop}
  (k:∀aR,Rl arr aR lo (lo+n)→cq key aR lo (lo+n)→Q true (aW κ aR pend g)):wpS (model prog w) A E s (binarySort' lo n m) Q (aW κ arr pend g):=by
 rw [binarySort'_eq];have em:max m 1=m:=by lia
 rw [em]
 refine aj (eM (eg (I:=fun x c aq=>∃ax:Array Keyed,aq=aW κ ax pend g∧c=(none,())∧Rl arr ax lo (lo+n)∧cq key ax lo (lo+x)∧m≤x∧x≤n)
  (Q:=fun c aq=>∃ax:Array Keyed,aq=aW κ ax pend g∧c=(none,())∧Rl arr ax lo (lo+n)∧cq key ax lo (lo+n)) ?_ ?_ ⟨arr,rfl,rfl,Rl.refl ..,sg,aw _,mn⟩) ?_)
 ·rintro x c aq _ hx ⟨ax,rfl,rfl,rl,sg,x1,x2⟩
  have kC:=rl.ok ok;have z2:=rl.size;dsimp only
  refine aj (eM (eg (I:=fun y c aq=>∃l r:Nat,aq=aW κ ax pend g∧c=(none,l,r)∧l≤r∧r≤x∧r-l+y≤x∧(∀i,i<l→vA key ax (lo+i)≤vA key ax (lo+x))∧(∀i,r≤i→i<x→vA key ax (lo+x)≤vA key ax (lo+i)))
   (Q:=fun c aq=>∃l:Nat,aq=aW κ ax pend g∧c=(none,l,l)∧l≤x∧(∀i,i<l→vA key ax (lo+i)≤vA key ax (lo+x))∧(∀i,l≤i→i<x→vA key ax (lo+x)≤vA key ax (lo+i))) ?_ ?_ ⟨0,x,rfl,rfl,by lia,aw _,show x-0+0≤x by lia,fun i hi=>absurd hi (oE _),fun i h1 h2=>by lia⟩) ?_)
  ·rintro y c aq _ hy ⟨l,r,rfl,rfl,g1,g2,g3,g4,g5⟩
   dsimp only;by_cases z:l≥r
   ·rw [ae z]
    obtain rfl:l=r:=by lia
    exact ai ⟨l,rfl,rfl,g2,g4,g5⟩
   ·rw [aa z]
    refine aj (i5 h kC (by lia) (by lia) ?_)
    dsimp only;by_cases w:vA key ax (lo+x)<vA key ax (lo+(l+r) / 2)
    ·rw [aK w,ae rfl]
     exact ai ⟨l,_,rfl,rfl,by lia,by lia,by lia,g4,fun i h1 h2=>cS (cI w) (sg _ _ (by lia) (by lia) (by lia))⟩
    ·rw [bj w,aa (by simp)]
     exact ai ⟨_,r,rfl,rfl,by lia,g2,by lia,fun i h1=>cS (sg _ _ (by lia) (by lia) (by lia)) (Int.not_lt.mp w),g5⟩
  ·rintro c aq ⟨l,r,rfl,rfl,g1,g2,g3,g4,g5⟩
   have:max 0 x=x:=by lia
   obtain rfl:l=r:=by lia
   exact ⟨l,rfl,rfl,g2,g4,g5⟩
  ·rintro c aq ⟨l,rfl,rfl,g2,g4,g5⟩
   dsimp only;refine aj (Jq (ai ?_));have ed:lo+x-(lo+l)=x-l:=by lia
   rw [ed];refine ⟨_,rfl,rfl,rl.trans (Jr (by lia) (by lia) (by lia) (by lia)),fun i j h1 h2 h3=>?_,by lia,by lia⟩
   have e0:lo+x-(x-l)=lo+l:=by lia
   rw [CL (by lia) (by lia),CL (by lia) (by lia),e0]
   have f4:∀i,lo≤i→i<lo+l→vA key ax i≤vA key ax (lo+x):=fun i a b=>by have:=g4 (i-lo) (by lia);rwa [show lo+(i-lo)=i by lia] at this
   have f5:∀i,lo+l≤i→i<lo+x→vA key ax (lo+x)≤vA key ax i:=fun i a b=>by have:=g5 (i-lo) (by lia) (by lia);rwa [show lo+(i-lo)=i by lia] at this
   by_cases a1:i=lo+l
   ·rw [ae a1]
    by_cases b1:j=lo+l;·rw [ae b1];exact jZ _
    ·rw [aa b1,ae (by lia)]
     exact f5 _ (by lia) (by lia)
   ·rw [aa a1]
    by_cases a2:lo+l<i∧i≤lo+x
    ·rw [ae a2,aa (by lia),ae (by lia)]
     exact sg _ _ (by lia) (by lia) (by lia)
    ·rw [aa a2]
     by_cases b1:j=lo+l
     ·rw [ae b1]
      exact f4 i h1 (by lia)
     ·rw [aa b1]
      by_cases b2:lo+l<j∧j≤lo+x
      ·rw [ae b2]
       exact cS (f4 i h1 (by lia)) (f5 _ (by lia) (by lia))
      ·rw [aa b2]
       exact sg _ _ (by lia) (by lia) (by lia)
 ·rintro c aq ⟨ax,rfl,rfl,rl,sg,x1,x2⟩
  have:max m n=n:=by lia
  rw [this] at sg;exact ⟨ax,rfl,rfl,rl,sg⟩
 ·rintro c aq ⟨ax,rfl,rfl,rl,sg⟩
  exact ai (k ax rl sg)
end
theorem Jt(i:Nat):mergeAt' i=(do
 let s ←get
 let (some (sa,na,power),some (sb,nb,_)):=((pendingOf s)[i]?,(pendingOf s)[i+1]?) | unsupported "internal:list.sort.pending"
 set (setPending s (((pendingOf s).setIfInBounds i (sa,na+nb,power)).eraseIdxIfInBounds (i+1)))
 let some k ←lF false (←elem' (arrOf s) sb) (arrOf s) sa na 0 | return false
 let (sa,na):=(sa+k,na-k)
 if na == 0 then return true
 let some nb ←lF true (←elem' (arrOf s) (sa+na-1)) (arrOf s) sb nb (nb-1) | return false
 if nb == 0 then return true
 let x:=(arrOf s).extract sa sb
 let y:=(arrOf s).extract sb (sb+nb)
 let merged ←if na≤nb then yE x y else yF x y
 modify fun s=>setArr s (merged.toList.zipIdx.foldl (fun a (p,j)=>a.setIfInBounds (sa+j) p) (arrOf s))
 return (failedOf (←get)).isNone):=rfl
def putL(m:List Keyed)(o:Nat)(arr:Array Keyed)(n:Nat):Array Keyed:=(m.zipIdx n).foldl (fun a (p,j)=>a.setIfInBounds (o+j) p) arr
theorem CM(m:List Keyed)(o:Nat):∀(arr:Array Keyed) (n k:Nat),o+n+m.length≤arr.size→(putL m o arr n)[k]?=if o+n≤k∧k<o+n+m.length then m[k-(o+n)]? else arr[k]?:=by
 induction m with
 | nil=>
  intro arr n k _;rw [aa (by simp)]
  rfl
 | cons x m ih=>
  intro arr n k hz;rw [ee] at hz ⊢;show (putL m o (arr.setIfInBounds (o+n) x) (n+1))[k]?=_;rw [ih _ _ _ (by simp;lia)]
  by_cases a:o+(n+1)≤k∧k<o+(n+1)+m.length
  ·rw [ae a,ae (by lia),show k-(o+n)=(k-(o+(n+1)))+1 by lia]
   rfl
  ·rw [aa a]
   by_cases b:k=o+n
   ·subst b
    rw [ae (by lia),oB]
    simp [show o+n<arr.size by lia]
   ·rw [aa (by lia)]
    rw [Array.getElem?_setIfInBounds_ne (by lia)]
theorem Ju{o:Nat}{arr:Array Keyed}(hz:o+m.length≤arr.size):(putL m o arr 0).toList=arr.toList.take o++m++arr.toList.drop (o+m.length):=by
 refine List.ext_getElem? fun k=>?_;have e:(putL m o arr 0).toList[k]?=(putL m o arr 0)[k]?:=by simp
 rw [e,CM m o arr 0 k (by lia),rq]
 by_cases a:k<o
 ·rw [aa (by lia),fX,jd (by simp;lia),List.getElem?_take_of_lt a]
  simp
 ·by_cases b:k<o+m.length
  ·rw [ae (by lia),fX,jc (by simp;lia),jd (by simp;lia)]
   congr 1
   simp;lia
  ·rw [aa (by lia),jc (by simp;lia),List.getElem?_drop]
   have:o+m.length+(k-(arr.toList.take o++m).length)=k:=by simp;lia
   rw [this];simp
section
variable {prog:Program} {w:World} {A:Around} {E:aE} {s:Shared} {κ:SortKind} {key:Keyed→Int} {Ok:Keyed→Prop} {arr:Array Keyed} {pend:Array (Nat×Nat×Nat)} {g:Nat}
variable {lo hi:Nat}
theorem CN(h:cq key arr lo hi)(hz:hi≤arr.size):a8 key (arr.extract lo hi).toList:=by
 unfold a8;rw [um];intro i j bg hj CD;have h1:i<hi-lo∧j<hi-lo:=by simp at bg hj;lia
 have:=h (lo+i) (lo+j) (by lia) (by lia) (by lia)
 unfold vA at this;simpa [Array.getD,show lo+i<arr.size by lia,show lo+j<arr.size by lia] using this
theorem yN(hz:hi≤arr.size)(bg:lo+i<hi):(arr.extract lo hi).getD i nn=arr.getD (lo+i) nn:=by simp [Array.getD,show lo+i<arr.size by lia,show i<min hi arr.size-lo by lia]
theorem CO(ok:d_ Ok arr)(hz:hi≤arr.size):d_ Ok (arr.extract lo hi):=fun i bg=>by
 have:lo+i<hi:=by simp at bg;lia
 rw [yN hz this];exact ok _ (by lia)
theorem ext_mem(hz:hi≤arr.size){x:Keyed}(hx:x∈(arr.extract lo hi).toList):∃j,lo≤j∧j<hi∧x=arr.getD j nn:=kA hz hx
theorem Jv{σ:Type}{st aq:σ}{Q:PUnit→σ→Prop}{M:Model}(q:Q ⟨⟩ aq):wpS M A E s (set aq:StateT σ Sem PUnit) Q st:=by unfold wpS;rw [StateT.run_set];exact cf ⟨rfl,q⟩
variable {sa na nb:Nat}
theorem Jw{sb a9 bP:Nat}{m:Array Keyed}(hz:sb+nb≤arr.size)(h0:sa+na=sb)(hk:a9≤na)(hb:bP≤nb)(pm:m.toList.Perm ((arr.extract (sa+a9) sb).toList++(arr.extract sb (sb+bP)).toList))(sm:a8 key m.toList)
  (s1:cq key arr sa sb) (s2:cq key arr sb (sb+nb)) (Jx:a9<na) (lI:1≤nb)
  (c1:∀i,i<a9→vA key arr (sa+i)≤vA key arr sb) (c2:∀i,bP≤i→i<nb→vA key arr (sb-1)≤vA key arr (sb+i)) :
  Rl arr (putL m.toList (sa+a9) arr 0) sa (sb+nb)∧cq key (putL m.toList (sa+a9) arr 0) sa (sb+nb):=by
 have lm:m.toList.length=(na-a9)+bP:=by rw [pm.length_eq,cY,iq,iq];simp;lia
 have hsz:sa+a9+m.toList.length≤arr.size:=by lia
 have at':=CM m.toList (sa+a9) arr 0;have rl:Rl arr (putL m.toList (sa+a9) arr 0) sa (sb+nb):=by
  refine ⟨rA.mpr ?_,fun k dO=>?_⟩
  ·rw [Ju hsz]
   have e:arr.toList=arr.toList.take (sa+a9)++((arr.extract (sa+a9) sb).toList++(arr.extract sb (sb+bP)).toList)++arr.toList.drop (sa+a9+m.toList.length):=by
    rw [iq,iq,show sa+a9+m.toList.length=sb+bP by lia,show sb+bP-sb=bP by lia]
    have t1:arr.toList.drop (sa+a9)=(arr.toList.drop (sa+a9)).take (sb-(sa+a9))++arr.toList.drop sb:=by
     have:=(mf (sb-(sa+a9)) (arr.toList.drop (sa+a9))).symm;rw [List.drop_drop,show sa+a9+(sb-(sa+a9))=sb by lia] at this
     exact this
    have t2:arr.toList.drop sb=(arr.toList.drop sb).take bP++arr.toList.drop (sb+bP):=by have:=(mf bP (arr.toList.drop sb)).symm;rw [List.drop_drop] at this;exact this
    have t0:=(mf (sa+a9) arr.toList).symm;rw [t1,t2] at t0;rw [fX,fX];exact t0
   refine List.Perm.trans ?_ (List.Perm.of_eq e.symm);exact List.Perm.append_right _ (xG _ pm)
  ·rw [at' k (by lia),aa (by lia)]
 have vo:∀k,k<sa+a9∨sb+bP≤k→vA key (putL m.toList (sa+a9) arr 0) k=vA key arr k:=fun k dO=>by unfold vA;rw [i3,at' k (by lia),aa (by lia),i3]
 have vm:∀k,sa+a9≤k→k<sb+bP→∃hj:k-(sa+a9)<m.toList.length,vA key (putL m.toList (sa+a9) arr 0) k=key (m.toList[k-(sa+a9)]'hj):=fun k h1 h2=>by
  have hj:k-(sa+a9)<m.toList.length:=by lia
  refine ⟨hj,?_⟩;unfold vA;rw [i3,at' k (by lia),ae (by lia),rq,dR hj]
  rfl
 have vq:∀k,sa+a9≤k→k<sb+bP→∃q,sa+a9≤q∧q<sb+bP∧vA key (putL m.toList (sa+a9) arr 0) k=vA key arr q:=fun k h1 h2=>by
  obtain ⟨hj,e⟩:=vm k h1 h2;have mm:=pm.mem_iff.mp (dv hj);rcases cR.mp mm with mm | mm
  ·obtain ⟨q,q1,q2,eq⟩:=ext_mem (by lia) mm
   exact ⟨q,q1,by lia,by rw [e,eq];rfl⟩
  ·obtain ⟨q,q1,q2,eq⟩:=ext_mem (by lia) mm
   exact ⟨q,by lia,q2,by rw [e,eq];rfl⟩
 have d1:∀i,sa≤i→i<sa+a9→vA key arr i≤vA key arr sb:=fun i a b=>by
  have:=c1 (i-sa) (by lia)
  rwa [show sa+(i-sa)=i by lia] at this
 have d2:∀j,sb+bP≤j→j<sb+nb→vA key arr (sb-1)≤vA key arr j:=fun j a b=>by
  have:=c2 (j-sb) (by lia) (by lia)
  rwa [show sb+(j-sb)=j by lia] at this
 refine ⟨rl,fun i j h1 h2 h3=>?_⟩;by_cases i1:i<sa+a9
 ·rw [vo i (.inl i1)]
  by_cases j1:j<sa+a9
  ·rw [vo j (.inl j1)]
   exact s1 i j h1 h2 (by lia)
  ·by_cases j2:j<sb+bP
   ·obtain ⟨q,q1,q2,e⟩:=vq j (by lia) j2
    rw [e];by_cases q3:q<sb;·exact s1 i q h1 (by lia) q3
    ·exact cS (d1 i h1 i1) (s2 sb q (aw _) (by lia) (by lia))
   ·rw [vo j (.inr (by lia))]
    exact cS (d1 i h1 i1) (s2 sb j (aw _) (by lia) h3)
 ·by_cases i2:i<sb+bP
  ·by_cases j2:j<sb+bP
   ·obtain ⟨x1,e1⟩:=vm i (by lia) i2
    obtain ⟨x2,e2⟩:=vm j (by lia) j2
    rw [e1,e2];by_cases z:i=j;·subst z;exact jZ _
    ·exact um.mp sm _ _ x1 x2 (by lia)
   ·obtain ⟨q,q1,q2,e⟩:=vq i (by lia) i2
    rw [e,vo j (.inr (by lia))]
    by_cases q3:q<sb;·exact cS (s1 q (sb-1) (by lia) (by lia) (by lia)) (d2 j (by lia) h3)
    ·exact s2 q j (by lia) (by lia) h3
  ·rw [vo i (.inr (by lia)),vo j (.inr (by lia))]
   exact s2 i j (by lia) h2 h3
theorem Jy(h:ik prog w A s κ key Ok)(ok:d_ Ok arr){pw kD:Nat}(e1:pend[i]?=some (sa,na,pw))(e2:pend[i+1]?=some (sa+na,nb,kD))(Jx:1≤na)(lI:1≤nb)(hz:sa+na+nb≤arr.size)
  (s1:cq key arr sa (sa+na)) (s2:cq key arr (sa+na) (sa+na+nb)) {Q:Bool→SortSt→Prop}
  (k:∀aR g',Rl arr aR sa (sa+na+nb)→cq key aR sa (sa+na+nb)→Q true (aW κ aR ((pend.setIfInBounds i (sa,na+nb,pw)).eraseIdxIfInBounds (i+1)) g')):wpS (model prog w) A E s (mergeAt' i) Q (aW κ arr pend g):=by
 rw [Jt];refine aj (gH ?_);have mK:(pendingOf (aW κ arr pend g))[i]?=some (sa,na,pw):=e1;have Jz:(pendingOf (aW κ arr pend g))[i+1]?=some (sa+na,nb,kD):=e2;rw [mK,Jz];dsimp only;refine aj (Jv ?_);refine aj (ba (by show sa+na<arr.size;lia) ?_)
 refine aj (gv (f:=fun j=>bB false (vA key arr (sa+na)) (vA key arr (sa+j))) (fun j hj Q q=>gu (κ:=κ) h (by show sa+j<arr.size;lia) ok (ok _ (by lia)) rfl q) (by lia) ?_ fun t t1 t2 t3=>?_)
 ·intro i j h1 h2 h3
  have:vA key arr (sa+i)≤vA key arr (sa+na):=cS (s1 _ _ (by lia) (by lia) (by lia)) (jC h3)
  show (!decide (vA key arr (sa+na)<vA key arr (sa+i)))=true;simpa using this
 dsimp only;by_cases z1:(na-t == 0)=true
 ·rw [ae z1]
  have tz:t=na:=by have:=eq_of_beq z1;lia
  subst tz;refine ai (k arr g (Rl.refl ..) fun i j h1 h2 h3=>?_);by_cases i1:i<sa+t
  ·by_cases j1:j<sa+t
   ·exact s1 i j h1 h2 j1
   ·have:=jC (t2 (i-sa) (by lia))
    rw [show sa+(i-sa)=i by lia] at this
    exact cS this (s2 _ _ (aw _) (by lia) (by lia))
  ·exact s2 i j (by lia) h2 (by lia)
 rw [aa z1];have tn:t<na:=by
  have:na-t≠0:=fun e=>z1 (by simp [e])
  lia
 refine aj (ba (by show sa+t+(na-t)-1<arr.size;lia) ?_)
 have el:sa+t+(na-t)-1=sa+na-1:=by lia
 rw [el];refine aj (gv (f:=fun j=>bB true (vA key arr (sa+na-1)) (vA key arr (sa+na+j))) (fun j hj Q q=>gu (κ:=κ) h (by show sa+na+j<arr.size;lia) ok (ok _ (by lia)) rfl q) (by lia) ?_ fun u u1 u2 u3=>?_)
 ·intro i j h1 h2 h3
  exact aK (Int.lt_of_le_of_lt (s2 _ _ (by lia) (by lia) (by lia)) (fL h3))
 dsimp only;have JA:=lG (t3 (na-1) (by lia) (by lia))
 rw [show sa+(na-1)=sa+na-1 by lia] at JA
 by_cases z2:(u == 0)=true
 ·exfalso
  have:=gx (u3 0 (by have:=eq_of_beq z2;lia) (by lia))
  rw [rq] at this;lia
 rw [aa z2];have un:1≤u:=by
  have:u≠0:=fun e=>z2 (by simp [e])
  lia
 have ox:=CO ok (lo:=sa+t) (hi:=sa+na) (by lia)
 have oy:=CO ok (lo:=sa+na) (hi:=sa+na+u) (by lia)
 have sx:a8 key (arr.extract (sa+t) (sa+na)).toList:=CN (fun i j h1 h2 h3=>s1 i j (by lia) h2 h3) (by lia)
 have sy:a8 key (arr.extract (sa+na) (sa+na+u)).toList:=CN (fun i j h1 h2 h3=>s2 i j h1 h2 (by lia)) (by lia)
 have zx:(arr.extract (sa+t) (sa+na)).size=na-t:=by simp;lia
 have zy:(arr.extract (sa+na) (sa+na+u)).size=u:=by simp;lia
 have h0:∀x∈(arr.extract (sa+t) (sa+na)).toList,key ((arr.extract (sa+na) (sa+na+u)).getD 0 nn)≤key x:=fun x hx=>by
  obtain ⟨j,j1,j2,rfl⟩:=ext_mem (by lia) hx
  rw [yN (by lia) (by lia),rq]
  have:=lG (t3 (j-sa) (by lia) (by lia))
  rw [show sa+(j-sa)=j by lia] at this
  exact cI this
 have hl:∀y∈(arr.extract (sa+na) (sa+na+u)).toList,key y≤key ((arr.extract (sa+t) (sa+na)).getD ((arr.extract (sa+t) (sa+na)).size-1) nn):=fun y hy=>by
  obtain ⟨j,j1,j2,rfl⟩:=ext_mem (by lia) hy
  rw [zx,yN (by lia) (by lia),show sa+t+(na-t-1)=sa+na-1 by lia]
  have:=fL (u2 (j-(sa+na)) (by lia))
  rw [show sa+na+(j-(sa+na))=j by lia] at this
  exact cI this
 have fin:∀(m:Array Keyed) (g':Nat),m.toList.Perm ((arr.extract (sa+t) (sa+na)).toList++(arr.extract (sa+na) (sa+na+u)).toList)→a8 key m.toList→Q true (aW κ (putL m.toList (sa+t) arr 0) ((pend.setIfInBounds i (sa,na+nb,pw)).eraseIdxIfInBounds (i+1)) g'):=fun m g' pm sm=>by obtain ⟨rl,sg⟩:=Jw (sb:=sa+na) hz rfl (l7 tn) u1 pm sm s1 s2 tn lI (fun i hi=>jC (t2 i hi)) (fun i h1 h2=>gx (u3 i h1 h2));exact k _ g' rl sg
 refine dN (fun _=>?_) (fun _=>?_)
 ·refine aj (Ji (κ:=κ) h ox oy sx sy (by lia) (by lia) h0 hl rfl fun m g' pm sm=>?_)
  exact aj (iJ (aj (gH (ai (fin m g' pm sm)))))
 ·refine aj (Jm (κ:=κ) h ox oy sx sy (by lia) (by lia) h0 hl rfl fun m g' pm sm=>?_)
  exact aj (iJ (aj (gH (ai (fin m g' pm sm)))))
end
def cm(key:Keyed→Int)(arr:Array Keyed):List (Nat×Nat×Nat)→Nat→Nat→Prop
 | [],lo,hi=>lo=hi
 | p::r,lo,hi=>p.1=lo∧1≤p.2.1∧cq key arr lo (lo+p.2.1)∧cm key arr r (lo+p.2.1) hi
section
variable {key:Keyed→Int} {arr aR:Array Keyed}
theorem cm.le:∀{l:List (Nat×Nat×Nat)} {lo hi:Nat},cm key arr l lo hi→lo+l.length≤hi
 | [],lo,hi,h=>by have:lo=hi:=h;simp;lia
 | p::r,lo,hi,h=>by have:=cm.le h.2.2.2;have:=h.2.1;simp only [ee];lia
variable {hi:Nat}
theorem cq.bx{lo a b:Nat}(h:cq key arr lo hi)(rl:Rl arr aR a b)(d:hi≤a∨b≤lo):cq key aR lo hi:=fun i j h1 h2 h3=>by
 rw [rl.v (by lia),rl.v (by lia)]
 exact h i j h1 h2 h3
theorem cm.bx:∀{l:List (Nat×Nat×Nat)} {lo hi a b:Nat},cm key arr l lo hi→Rl arr aR a b→hi≤a∨b≤lo→cm key aR l lo hi
 | [],lo,hi,a,b,h,_,_=>h
 | p::r,lo,hi,a,b,h,rl,d=>by have:=h.2.2.2.le;refine ⟨h.1,h.2.1,h.2.2.1.bx rl (by lia),h.2.2.2.bx rl (by lia)⟩
theorem cm.snoc:∀{l:List (Nat×Nat×Nat)} {lo hi n pw:Nat},cm key arr l lo hi→1≤n→cq key arr hi (hi+n)→cm key arr (l++[(hi,n,pw)]) lo (hi+n)
 | [],lo,hi,n,pw,h,n1,s=>by obtain rfl:lo=hi:=h;exact ⟨rfl,n1,s,rfl⟩
 | p::r,lo,hi,n,pw,h,n1,s=>⟨h.1,h.2.1,h.2.2.1,h.2.2.2.snoc n1 s⟩
theorem cm.two:∀{l:List (Nat×Nat×Nat)} {lo hi i:Nat},cm key arr l lo hi→i+1<l.length→∃sa na pw nb kD,l[i]?=some (sa,na,pw)∧l[i+1]?=some (sa+na,nb,kD)∧1≤na∧1≤nb∧lo≤sa∧sa+na+nb≤hi∧cq key arr sa (sa+na)∧cq key arr (sa+na) (sa+na+nb) ∧
  ∀aR,Rl arr aR sa (sa+na+nb)→cq key aR sa (sa+na+nb)→cm key aR ((l.set i (sa,na+nb,pw)).eraseIdx (i+1)) lo hi
 | [],lo,hi,i,h,bg=>by simp at bg
 | [p],lo,hi,i,h,bg=>by simp at bg
 | p::q::r,lo,hi,0,h,_=>by
  obtain ⟨p1,p2,pw⟩:=p;obtain ⟨q1,q2,kD⟩:=q;obtain ⟨e1,n1,s1,e2,n2,s2,c⟩:=h;dsimp only at e1 n1 s1 e2 n2 s2 c;subst e1;subst e2;have:=c.le;refine ⟨p1,p2,pw,q2,kD,rfl,rfl,n1,n2,aw _,by lia,s1,s2,fun aR rl sg=>?_⟩
  show cm key aR ((p1,p2+q2,pw)::r) p1 hi;refine ⟨rfl,by show 1≤p2+q2;lia,by show cq key aR p1 (p1+(p2+q2));rw [←Nat.add_assoc];exact sg,?_⟩
  show cm key aR r (p1+(p2+q2)) hi;rw [←Nat.add_assoc];exact c.bx rl (.inr (aw _))
 | p::q::r,lo,hi,i+1,h,bg=>by
  obtain ⟨sa,na,pw,nb,kD,e1,e2,n1,n2,l1,l2,s1,s2,k⟩:=h.2.2.2.two (i:=i) (by simpa using bg)
  refine ⟨sa,na,pw,nb,kD,e1,e2,n1,n2,by lia,l2,s1,s2,fun aR rl sg=>?_⟩
  exact ⟨h.1,h.2.1,h.2.2.1.bx rl (.inl l1),k aR rl sg⟩
theorem cm.last:∀{l:List (Nat×Nat×Nat)} {lo hi pw:Nat},cm key arr l lo hi→cm key arr (l.modify (l.length-1) fun x=>(x.1,x.2.1,pw)) lo hi
 | [],lo,hi,pw,h=>h
 | [p],lo,hi,pw,h=>h
 | p::q::r,lo,hi,pw,h=>⟨h.1,h.2.1,h.2.2.1,h.2.2.2.last⟩
theorem cm.one{l:List (Nat×Nat×Nat)}(h:cm key arr l 0 hi)(hl:l.length≤1):cq key arr 0 hi:=by
 match l,h,hl with
 | [],h,_=>have:0=hi:=h;exact fun i j h1 h2 h3=>by lia
 | [p],h,_=>have:=h.2.2.1;have e:0+p.2.1=hi:=h.2.2.2;rw [←e];exact this
 | p::q::r,_,hl=>simp at hl
end
section
variable {prog:Program} {w:World} {A:Around} {E:aE} {s:Shared} {κ:SortKind} {key:Keyed→Int} {Ok:Keyed→Prop} {arr:Array Keyed} {pend:Array (Nat×Nat×Nat)} {g:Nat}
theorem yO(h:ik prog w A s κ key Ok)(ok:d_ Ok arr){hi:Nat}(c:cm key arr pend.toList 0 hi)(hz:hi≤arr.size)(bg:i+1<pend.size){Q:Bool→SortSt→Prop}
  (k:∀aR yP g',Rl arr aR 0 hi→cm key aR yP.toList 0 hi→yP.size+1=pend.size→Q true (aW κ aR yP g')):wpS (model prog w) A E s (mergeAt' i) Q (aW κ arr pend g):=by
 obtain ⟨sa,na,pw,nb,kD,e1,e2,n1,n2,l1,l2,s1,s2,kk⟩:=c.two (i:=i) (by simpa using bg)
 refine Jy h ok (by simpa using e1) (by simpa using e2) n1 n2 (by lia) s1 s2 fun aR g' rl sg=>?_
 refine k _ _ _ (rl.wide (cg _) l2) ?_ ?_
 ·have:=kk aR rl sg
  simpa using this
 ·rw [←gF,Array.toList_eraseIdxIfInBounds,List.length_eraseIdx,ae (by simpa using bg)]
  simp;lia
theorem JB(h:ik prog w A s κ key Ok)(ok:d_ Ok arr){Q:Unit→SortSt→Prop}
  (k:∀aR aq,aR.Perm arr→cq key aR 0 arr.size→arrOf aq=aR→failedOf aq=none→Q () aq):wpS (model prog w) A E s sortRuns' Q (aW κ arr #[] g):=by
 rw [sortRuns'_eq];refine aj (gH ?_);dsimp only;have es:(arrOf (aW κ arr #[] g)).size=arr.size:=rfl;rw [es]
 refine aj (eM (eg (I:=fun x c aq=>∃(ax:Array Keyed) (dy:Array (Nat×Nat×Nat)) (g2 lo:Nat),aq=aW κ ax dy g2∧c=(none,lo)∧ax.Perm arr∧cm key ax dy.toList 0 lo∧lo≤arr.size∧x≤lo)
  (Q:=fun c aq=>∃(ax:Array Keyed) (dy:Array (Nat×Nat×Nat)) (g2:Nat),aq=aW κ ax dy g2∧c=(none,arr.size)∧ax.Perm arr∧cm key ax dy.toList 0 arr.size) ?_ ?_ ⟨arr,#[],g,0,rfl,rfl,Array.Perm.refl _,rfl,cg _,aw _⟩) ?_)
 ·rintro x c aq _ hx ⟨ax,dy,g2,lo,rfl,rfl,lJ,mT,l1,l2⟩
  have kC:=pD ok lJ;have z2:=lJ.size_eq;dsimp only;by_cases z:lo≥arr.size
  ·rw [ae z]
   obtain rfl:lo=arr.size:=by lia
   exact ai ⟨ax,dy,g2,rfl,rfl,lJ,mT⟩
  rw [aa z];refine aj (Jo h kC (by lia) (by lia) fun n b7 n1 nn i6 sg=>?_)
  have dz:=i6.pm.trans lJ;have CP:=pD ok dz;have z3:=dz.size_eq;have gy:=mT.bx i6 (.inl (aw _));dsimp only;by_cases y:n<minRun' arr.size arr.size 0
  ·rw [ae y]
   refine aj (wpS_lift (j4 ⟨rfl,?_⟩));refine aj (Js h CP (n:=min (arr.size-lo) (minRun' arr.size arr.size 0)) (by lia) n1 (by lia) sg fun aU bz eQ=>?_)
   rw [aa (by simp)]
   have eR:=gy.bx bz (.inl (aw _));have yQ:=bz.pm.trans dz;clear gy dz CP z3 sg i6 bz;have f1:1≤min (arr.size-lo) (minRun' arr.size arr.size 0):=by lia
   have f2:lo+min (arr.size-lo) (minRun' arr.size arr.size 0)≤arr.size:=by lia
   generalize min (arr.size-lo) (minRun' arr.size arr.size 0)=fo at eQ f1 f2 ⊢
   revert eR yQ eQ
   generalize aU=b7;intro gy dz eQ;refine aj (gH ?_);have eb:(pendingOf (aW κ b7 dy g2)).back?=dy.back?:=rfl;rw [eb];cases dy.back? with
   | none=>dsimp only;exact aj (iJ (ai ⟨b7,dy.push (lo,fo,0),g2,lo+fo,rfl,rfl,dz,by rw [kU];exact gy.snoc f1 eQ,f2,by have:=f1;lia⟩))
   | some p=>
    obtain ⟨JD,JE,JF⟩:=p;dsimp only;have z3:=dz.size_eq
    refine aj (eM (eg (I:=fun y c aq=>∃(aU:Array Keyed) (bu:Array (Nat×Nat×Nat)) (g4:Nat),aq=aW κ aU bu g4∧c=(none,())∧Rl b7 aU 0 lo∧cm key aU bu.toList 0 lo)
     (Q:=fun c aq=>∃(aU:Array Keyed) (bu:Array (Nat×Nat×Nat)) (g4:Nat),aq=aW κ aU bu g4∧c=(none,())∧Rl b7 aU 0 lo∧cm key aU bu.toList 0 lo) ?_ (fun c aq hh=>hh) ⟨b7,dy,g2,rfl,rfl,Rl.refl ..,gy⟩) ?_)
    ·rintro y c aq _ hy ⟨aU,bu,g4,rfl,rfl,bz,eR⟩
     have z4:=bz.size;refine aj (gH ?_);have hx:∀o,o=(if (pendingOf (aW κ aU bu g4)).size>1 then (pendingOf (aW κ aU bu g4))[(pendingOf (aW κ aU bu g4)).size-2]? else none)→o.isSome=true→bu.size>1:=fun o ho hs=>by
      by_cases z:bu.size>1;·exact z
      ·rw [aa z] at ho
       rw [ho] at hs;cases hs
     generalize eo:(if (pendingOf (aW κ aU bu g4)).size>1 then (pendingOf (aW κ aU bu g4))[(pendingOf (aW κ aU bu g4)).size-2]? else none)=o
     cases o with
     | none=>exact ai ⟨aU,bu,g4,rfl,rfl,bz,eR⟩
     | some p=>
      have gt:=hx _ eo.symm rfl;obtain ⟨q1,q2,JG⟩:=p;dsimp only;refine dN (fun _=>ai ⟨aU,bu,g4,rfl,rfl,bz,eR⟩) (fun _=>?_);refine aj (yO h (pD ok (bz.pm.trans dz)) eR (by lia) (show bu.size-2+1<bu.size by lia) fun yR yS g5 yT yU _=>?_)
      rw [aa (by simp)]
      exact ai ⟨yR,yS,g5,rfl,rfl,bz.trans yT,yU⟩
    ·rintro c aq ⟨aU,bu,g4,rfl,rfl,bz,eR⟩
     dsimp only;refine aj (iJ (aj (iJ (ai ⟨aU,_,g4,lo+fo,rfl,rfl,bz.pm.trans dz,?_,f2,by have:=f1;lia⟩))))
     rw [kU];refine cm.snoc ?_ f1 (cq.bx eQ bz (.inr (aw _)));rw [Array.toList_modify];exact eR.last
  ·rw [aa y]
   have f2:lo+n≤arr.size:=by lia
   refine aj (gH ?_);have eb:(pendingOf (aW κ b7 dy g2)).back?=dy.back?:=rfl;rw [eb];cases dy.back? with
   | none=>dsimp only;exact aj (iJ (ai ⟨b7,dy.push (lo,n,0),g2,lo+n,rfl,rfl,dz,by rw [kU];exact gy.snoc n1 sg,f2,by have:=n1;lia⟩))
   | some p=>
    obtain ⟨JD,JE,JF⟩:=p;dsimp only;have z3:=dz.size_eq
    refine aj (eM (eg (I:=fun y c aq=>∃(aU:Array Keyed) (bu:Array (Nat×Nat×Nat)) (g4:Nat),aq=aW κ aU bu g4∧c=(none,())∧Rl b7 aU 0 lo∧cm key aU bu.toList 0 lo)
     (Q:=fun c aq=>∃(aU:Array Keyed) (bu:Array (Nat×Nat×Nat)) (g4:Nat),aq=aW κ aU bu g4∧c=(none,())∧Rl b7 aU 0 lo∧cm key aU bu.toList 0 lo) ?_ (fun c aq hh=>hh) ⟨b7,dy,g2,rfl,rfl,Rl.refl ..,gy⟩) ?_)
    ·rintro y c aq _ hy ⟨aU,bu,g4,rfl,rfl,bz,eR⟩
     have z4:=bz.size;refine aj (gH ?_);have hx:∀o,o=(if (pendingOf (aW κ aU bu g4)).size>1 then (pendingOf (aW κ aU bu g4))[(pendingOf (aW κ aU bu g4)).size-2]? else none)→o.isSome=true→bu.size>1:=fun o ho hs=>by
      by_cases z:bu.size>1;·exact z
      ·rw [aa z] at ho
       rw [ho] at hs;cases hs
     generalize eo:(if (pendingOf (aW κ aU bu g4)).size>1 then (pendingOf (aW κ aU bu g4))[(pendingOf (aW κ aU bu g4)).size-2]? else none)=o
     cases o with
     | none=>exact ai ⟨aU,bu,g4,rfl,rfl,bz,eR⟩
     | some p=>
      have gt:=hx _ eo.symm rfl;obtain ⟨q1,q2,JG⟩:=p;dsimp only;refine dN (fun _=>ai ⟨aU,bu,g4,rfl,rfl,bz,eR⟩) (fun _=>?_);refine aj (yO h (pD ok (bz.pm.trans dz)) eR (by lia) (show bu.size-2+1<bu.size by lia) fun yR yS g5 yT yU _=>?_)
      rw [aa (by simp)]
      exact ai ⟨yR,yS,g5,rfl,rfl,bz.trans yT,yU⟩
    ·rintro c aq ⟨aU,bu,g4,rfl,rfl,bz,eR⟩
     dsimp only;refine aj (iJ (aj (iJ (ai ⟨aU,_,g4,lo+n,rfl,rfl,bz.pm.trans dz,?_,f2,by have:=n1;lia⟩))))
     rw [kU];refine cm.snoc ?_ n1 (cq.bx sg bz (.inr (aw _)));rw [Array.toList_modify];exact eR.last
 ·rintro c aq ⟨ax,dy,g2,lo,rfl,rfl,lJ,mT,l1,l2⟩
  obtain rfl:lo=arr.size:=by lia
  exact ⟨ax,dy,g2,rfl,rfl,lJ,mT⟩
 ·rintro c aq ⟨ax,dy,g2,rfl,rfl,lJ,mT⟩
  dsimp only;have pz:=mT.le
  refine aj (eM (eg (I:=fun x c aq=>∃(b7:Array Keyed) (dA:Array (Nat×Nat×Nat)) (g3:Nat),aq=aW κ b7 dA g3∧c=(none,())∧b7.Perm arr∧cm key b7 dA.toList 0 arr.size∧dA.size+x≤arr.size)
   (Q:=fun c aq=>∃(b7:Array Keyed) (dA:Array (Nat×Nat×Nat)) (g3:Nat),aq=aW κ b7 dA g3∧c=(none,())∧b7.Perm arr∧cm key b7 dA.toList 0 arr.size∧dA.size≤1) ?_ ?_ ⟨ax,dy,g2,rfl,rfl,lJ,mT,show dy.size+0≤arr.size by simpa using pz⟩) ?_)
  ·rintro x c aq _ hx ⟨b7,dA,g3,rfl,rfl,dz,gy,l3⟩
   have z3:=dz.size_eq;refine aj (gH ?_);by_cases z:(pendingOf (aW κ b7 dA g3)).size≤1
   ·rw [ae z]
    exact ai ⟨b7,dA,g3,rfl,rfl,dz,gy,z⟩
   ·rw [aa z]
    have z':1<dA.size:=Nat.lt_of_not_le z;have go:∀i,i+1<dA.size→wpS (model prog w) A E s (mergeAt' i) (fun b aq=>b=true∧∃(aU:Array Keyed) (bu:Array (Nat×Nat×Nat)) (g4:Nat),aq=aW κ aU bu g4∧aU.Perm arr∧cm key aU bu.toList 0 arr.size∧bu.size+(x+1)≤arr.size) (aW κ b7 dA g3):=fun i hi=>by refine yO h (pD ok dz) gy (by lia) hi fun aU bu g4 bz eR sz=>⟨rfl,aU,bu,g4,rfl,bz.pm.trans dz,eR,by lia⟩
    refine aj (eM (go _ ?_) ?_)
    ·show (if _ then _ else _)+1<dA.size
     have e:(pendingOf (aW κ b7 dA g3)).size=dA.size:=rfl;rw [e];have:∀c:Bool,(if c=true then dA.size-2-1 else dA.size-2)+1<dA.size:=fun c=>by cases c <;> simp <;> lia
     exact this _
    ·rintro b aq ⟨rfl,aU,bu,g4,rfl,yQ,eR,l4⟩
     rw [aa (by simp)]
     exact ai ⟨aU,bu,g4,rfl,rfl,yQ,eR,l4⟩
  ·rintro c aq ⟨b7,dA,g3,rfl,rfl,dz,gy,l3⟩
   exact ⟨b7,dA,g3,rfl,rfl,dz,gy,by lia⟩
  ·rintro c aq ⟨b7,dA,g3,rfl,rfl,dz,gy,l3⟩
   exact ai (k b7 _ dz (gy.one (by simpa using l3)) rfl rfl)
end
end Tm
namespace My
open PySem PySem.W PyProof.Rows Tm
section
variable {prog:Program} {w:World} {A:Around} {E:aE} {s:Shared}
def dU(h:Heap)(v:Value)(x y:Int):Prop:=∃a o t u e,v=.ref a∧h.get? a=some o∧o.cls=.type "tuple"∧o.data=.seq #[.int x t,.int y u] e
variable {x y x' y':Int}
theorem JH{v v':Value}(h1:dU s.heap v x y)(h2:dU s.heap v' x' y'){Q:Bool→Shared→Prop}(h:Q (decide (x<x'∨x=x'∧y<y')) s):wpAny (model prog w) A (keyLt' (tuples' true) v v') Q E s:=by
 obtain ⟨a,o,t,u,e,rfl,g,_,d⟩:=h1;obtain ⟨a',o',t',u',e',rfl,g',_,d'⟩:=h2;refine kat_lt g d g' d' ?_;show KatLex prog w A true (decide (2<2)) Q [(.int x t,.int x' t'),(.int y u,.int y' u')] 0 s;refine kat_cons (wpAny_eqBool_int ?_);by_cases z:x=x'
 ·subst z
  rw [show (x == x)=true by simp]
  refine kat_yes (kat_cons (wpAny_eqBool_int ?_));by_cases z2:y=y'
  ·subst z2
   rw [show (y == y)=true by simp]
   refine kat_yes (kat_nil ?_);rw [bj (by lia)] at h
   exact h
  ·rw [show (y == y')=false by simp [z2]]
   refine kat_no ?_;show wpAny (model prog w) A (oneLt' false (.int y u) (.int y' u')) Q _ s;refine kat_one _ _ (lt_int ?_);show Q (decide (y<y')) s;rw [show decide (y<y')=decide (x<x∨x=x∧y<y') from mh.mpr (by lia)]
   exact h
 ·rw [show (x == x')=false by simp [z]]
  refine kat_no ?_;show wpAny (model prog w) A (oneLt' true (.int x t) (.int x' t')) Q _ s;refine oneLt_int ?_;rw [show decide (x<x')=decide (x<x'∨x=x'∧y<y') from mh.mpr (by lia)]
  exact h
theorem CQ{h:Heap}:∀{vs:List Value},(∀v∈vs,∃x y,dU h v x y)→∃fs:List Value,KatTups h vs fs∧fs.length=vs.length∧∀f∈fs,∃n t,f=.int n t
 | [],_=>⟨[],.nil,rfl,fun f hf=>by cases hf⟩
 | v::vs,hv=>by
  obtain ⟨fs,k,l,i⟩:=CQ (vs:=vs) fun v h=>hv v (cH _ h);obtain ⟨x,y,a,o,t,u,e,rfl,g,c,d⟩:=hv v dQ;refine ⟨.int x t::fs,.cons g c d rfl k,by rw [ee,ee,l],fun f hf=>?_⟩
  rcases bZ.mp hf with rfl | hf;·exact ⟨x,t,rfl⟩
  ·exact i f hf
theorem perm_back{α β:Type}{f:α→β}{l m:List β}(h:l.Perm m):∀q:List α,m=q.map f→∃p:List α,p.Perm q∧l=p.map f:=by
 induction h with
 | nil=>intro q e;exact ⟨q,List.Perm.refl _,e⟩
 | cons x _ ih=>
  intro q e
  match q,e with
  | a::q,e=>obtain ⟨rfl,e'⟩:=List.cons.inj e;obtain ⟨p,hp,rfl⟩:=ih q e';exact ⟨a::p,hp.cons a,rfl⟩
 | swap x y _=>
  intro q e
  match q,e with
  | a::b::q,e=>obtain ⟨rfl,e'⟩:=List.cons.inj e;obtain ⟨rfl,rfl⟩:=List.cons.inj e';exact ⟨b::a::q,List.Perm.swap ..,rfl⟩
 | trans _ _ JI JJ=>intro q e;obtain ⟨p,hp,e1⟩:=JJ q e;obtain ⟨p',pG,e2⟩:=JI p e1;exact ⟨p',pG.trans hp,e2⟩
variable {h:Heap}
theorem dU.uniq{v:Value}(h1:dU h v x y)(h2:dU h v x' y'):x=x'∧y=y':=by obtain ⟨a,o,t,u,e,rfl,g,_,d⟩:=h1;obtain ⟨a',o',t',u',e',ev,g',_,d'⟩:=h2;cases ev;rw [g] at g';cases g';rw [d] at d';simp at d';exact ⟨d'.1.1.1,d'.1.2.1⟩
open Classical in
noncomputable def yV (h:Heap) (k:Keyed):Int:=if e:∃z:Int×Int,dU h k.1 z.1 z.2 then (choose e).1*1000+(choose e).2 else 0
theorem vz{v u:Value}(p:dU h v x y):yV h (v,u)=x*1000+y:=by have e:∃z:Int×Int,dU h (v,u).1 z.1 z.2:=⟨(x,y),p⟩;unfold yV;rw [dif_pos e];obtain ⟨a,b⟩:=(Classical.choose_spec e).uniq p;rw [a,b]
variable {vs:List Value}
theorem JK{x y:Nat→Int}(h2:2≤vs.length)(hv:∀i v,vs[i]?=some v→dU s.heap v (x i) (y i)∧0≤y i∧y i<1000){Q:SortSt→Shared→Prop}
  (hQ:∀(p:Array Nat) (st:SortSt),ky vs.length p→mL (fun i=>x i*1000+y i) p vs.length→(arrOf st).map (·.2)=List.toArray (p.toList.map fun i=>vs.getD i Value.none)→failedOf st=none→Q st s) :
  wpAny (model prog w) A (sortRuns'.run (SortSt.mk' (tuples' true) (vs.toArray.zip vs.toArray) #[] 7 none)) (fun r s'=>Q r.2 s') E s:=by
 have az:(vs.toArray.zip vs.toArray).size=vs.length:=by simp
 have ag:∀i,i<vs.length→(vs.toArray.zip vs.toArray).getD i nn=(vs.getD i Value.none,vs.getD i Value.none):=fun i hi=>by simp [Array.getD,hi]
 have ga:∀i (hi:i<vs.length),dU s.heap (vs.getD i Value.none) (x i) (y i)∧0≤y i∧y i<1000:=fun i hi=>by refine hv i _ ?_;simp [hi]
 have lt:ik prog w A s (tuples' true) (yV s.heap) (fun k=>∃a b,dU s.heap k.1 a b∧0≤b∧b<1000):=by
  rintro ⟨u,u'⟩ ⟨v,v'⟩ ⟨a,b,p1,b0,b1⟩ ⟨c,d,p2,d0,d1⟩ C hC;refine JH p1 p2 ?_;rw [vz p1,vz p2] at hC;rw [show decide (a<c∨a=c∧b<d)=decide (a*1000+b<c*1000+d) from mh.mpr (by lia)]
  exact hC
 have ok:d_ (fun k=>∃a b,dU s.heap k.1 a b∧0≤b∧b<1000) (vs.toArray.zip vs.toArray):=fun i hi=>by rw [az] at hi;rw [ag i hi];exact ⟨_,_,ga i hi⟩
 refine bR (JB (E:=E) (Q:=fun _ st=>Q st s) (g:=7) lt ok fun aR st pm sg ha hf=>?_) (fun r s' h'=>by obtain ⟨rfl,h'⟩:=h';exact h') fun _ _ e=>e
 have el:(vs.toArray.zip vs.toArray).toList=(List.range vs.length).map fun i=>(vs.getD i Value.none,vs.getD i Value.none):=by
  refine g_ (by simp) fun i h1 h2=>?_
  have hi:i<vs.length:=by simpa using h2
  simp [hi]
 obtain ⟨p,hp,ep⟩:=perm_back (rA.mp pm) _ el;have pl:p.length=vs.length:=by rw [hp.length_eq,da]
 have JL:∀i∈p,i<vs.length:=fun i hi=>cp.mp (hp.mem_iff.mp hi);have hsz:aR.size=vs.length:=by rw [pm.size_eq,az]
 have gd:∀i,i<vs.length→aR.getD i nn=(vs.getD (p.toArray.getD i 0) Value.none,vs.getD (p.toArray.getD i 0) Value.none)∧p.toArray.getD i 0<vs.length:=fun i hi=>by
  have e1:aR.getD i nn=aR.toList[i]'(by simp;lia):=by simp [Array.getD,show i<aR.size by lia]
  have e2:p.toArray.getD i 0=p[i]'(by lia):=by simp [Array.getD,show i<p.length by lia]
  rw [e1,e2];refine ⟨?_,JL _ (dv _)⟩;simp [ep]
 refine hQ p.toArray st (rA.mpr (by simpa using hp)) (fun i j h1 h3=>?_) ?_ hf
 ·have:=sg i j (cg _) h1 (by rw [az];exact h3)
  unfold vA at this;obtain ⟨e1,l1⟩:=gd i (by lia)
  obtain ⟨e2,l2⟩:=gd j h3;rw [e1,e2,vz (ga _ l1).1,vz (ga _ l2).1] at this;exact this
 ·rw [ha]
  apply Array.toList_inj.mp;rw [Array.toList_map,ep,dG];rfl
theorem JM{Q:SortKind→Shared→Prop}(h1:1≤vs.length)(hv:∀v∈vs,∃x y,dU s.heap v x y)(h:Q (tuples' true) s):wpAny (model prog w) A (keyKind' vs.toArray) Q E s:=by
 obtain ⟨fs,k,l,i⟩:=CQ hv;refine kat_kind (T:=Value.type "int") k (by lia) (fun v hv=>?_) rfl h
 obtain ⟨n,t,rfl⟩:=i v hv;exact .now
theorem dU.mono{h':Heap}{v:Value}(k:∀b o,h.get? b=some o→h'.get? b=some o)(p:dU h v x y):dU h' v x y:=by obtain ⟨a,o,t,u,e,rfl,g,c,d⟩:=p;exact ⟨a,o,t,u,e,rfl,k _ _ g,c,d⟩
theorem JN{a:Addr}{n:Nat}{x y:Nat→Int}{P:PySem.Fin→Shared→Prop}(ho:s.heap.get? a=some (seqObj "list" vs.toArray n))(vB:vs.length<2000)(hv:∀i v,vs[i]?=some v→dU s.heap v (x i) (y i)∧0≤y i∧y i<1000)
  (h:∀(p:Array Nat),ky vs.length p→mL (fun i=>x i*1000+y i) p vs.length→P (.done (.ret .none)) {s with heap:=sortedHeap s.heap a vs (List.toArray (p.toList.map fun i=>vs.getD i Value.none))}) :
  wpAny (model prog w) A (Builtin.«list.sort» ⟨[.ref a],[]⟩) P E s:=by
 have sl:vs.length≤sizeLine:=by rw [l_];lia
 have lt:=aY ho
 obtain ⟨e1,g1⟩:∃e,(s.heap.update a (Obj.mapSeq fun _=>#[])).get? a=some (seqObj "list" #[] e):=⟨_,get?_update_seq ho fun _=>#[]⟩
 have z1:(s.heap.update a (Obj.mapSeq fun _=>#[])).objs.size=s.heap.objs.size:=Heap.size_update _ _ _
 have up:∀b u,b<s.heap.objs.size→(s.heap.update a (Obj.mapSeq fun _=>#[])).get? b=some u→(((s.heap.update a (Obj.mapSeq fun _=>#[])).push (seqObj "tuple" vs.toArray 0)).push (seqObj "list" #[] 0)).get? b=some u:=fun b u hb hu=>by
  rw [oF _ _ _ (bY (by rw [size_push',z1];exact rm hb)),oF _ _ _ (bY (by rw [z1];exact hb))]
  exact hu
 have g3:=up a _ lt g1
 have CS:∀i v,vs[i]?=some v→dU (((s.heap.update a (Obj.mapSeq fun _=>#[])).push (seqObj "tuple" vs.toArray 0)).push (seqObj "list" #[] 0)) v (x i) (y i)∧0≤y i∧y i<1000:=fun i v hi=>by
  obtain ⟨⟨b,o,t,u,e,rfl,g,cc,d⟩,y0⟩:=hv i v hi
  have nb:b≠a:=fun q=>by
   rw [q,ho] at g
   cases g
   exact absurd (Value.type.inj cc) (by decide)
  refine ⟨⟨b,o,t,u,e,rfl,up b o (aY g) ?_,cc,d⟩,y0⟩
  rw [ur _ _ _ _ nb]
  exact g
 rw [list_sort_plain]
 refine aB (listItems_at ho rfl (aB (listUpdate_at ho rfl ?_ (by rw [cz];lia) (cg _))))
 refine aB (seqEpoch_at g1 rfl (aB (wpAny_newTuple ?_ (by show vs.length≤_;lia))))
 refine aB (wpAny_newList (kP ?_) (cg _))
 show wpAny (model prog w) A _ P E {s with heap:=((s.heap.update a (Obj.mapSeq fun _=>#[])).push (seqObj "tuple" vs.toArray 0)).push (seqObj "list" #[] 0)}
 dsimp only
 have fin:∀(st:SortSt) (p:Array Nat),ky vs.length p→mL (fun i=>x i*1000+y i) p vs.length→(arrOf st).map (·.2)=List.toArray (p.toList.map fun i=>vs.getD i Value.none)→failedOf st=none→
   wpAny (model prog w) A (do
    let touched:=(←seqEpoch a) != e1
    Builtin.List.listUpdate (.ref a) fun _=>(arrOf st).map (·.2)
    if let some e:=failedOf st then rule "list.sort.comparison-raised";throw e
    if touched then rule "list.sort.modified";raiseError "ValueError" "list modified during sort"
    ret .none) P E {s with heap:=((s.heap.update a (Obj.mapSeq fun _=>#[])).push (seqObj "tuple" vs.toArray 0)).push (seqObj "list" #[] 0)}:=fun st p hp hu ha hf=>by
  refine aB (seqEpoch_at g3 rfl (aB (listUpdate_at g3 rfl ?_ (cg _) ?_)))
  ·rw [hf,ha]
   simp only [bne_self_eq_false,Bool.false_eq_true,if_false]
   exact cf (h p hp hu)
  ·rw [ha,cz,aJ,gF,hp.size]
   lia
 by_cases z:vs.toArray.size<2
 ·rw [ae z,ae z]
  refine aB (cf ?_)
  rw [StateT.run_pure]
  refine aB (cf ?_)
  have len:vs.length<2:=by simpa using z
  refine fin _ (List.toArray (List.range vs.length)) (Array.Perm.refl _) (fun a b h1 h2=>by
   obtain rfl:a=b:=by lia
   exact jZ _) ?_ rfl
  match vs,len with
  | [],_=>
   show Array.map (·.2) ((#[]:Array Value).zip #[])=_
   simp
  | [v],_=>
   show Array.map (·.2) (#[v].zip #[v])=_
   simp
 ·rw [aa z,aa z]
  have len:2≤vs.length:=by simpa using z
  refine aB (JM (by lia) (fun v hm=>?_) ?_)
  ·obtain ⟨i,hi,rfl⟩:=oD hm
   exact ⟨_,_,(CS i _ (by simp [hi])).1⟩
  ·refine aB (bR (JK (Q:=fun st s'=>s'={s with heap:=((s.heap.update a (Obj.mapSeq fun _=>#[])).push (seqObj "tuple" vs.toArray 0)).push (seqObj "list" #[] 0)}∧∃p,ky vs.length p∧mL (fun i=>x i*1000+y i) p vs.length∧(arrOf st).map (·.2)=List.toArray (p.toList.map fun i=>vs.getD i Value.none)∧failedOf st=none) len CS fun p st a1 a2 a3 a4=>⟨rfl,p,a1,a2,a3,a4⟩) ?_ fun _ _ e=>e)
   rintro ⟨⟨⟩,st⟩ s' ⟨rfl,p,a1,a2,a3,a4⟩
   exact fin st p a1 a2 a3 a4
end
open PySem PySem.W PyProof.Rows
section
variable {prog:Program} {w:World} {A:Around} {E:aE} {s:Shared}
theorem JO{l:Addr}{vs:List Value}{x y:Nat→Int}{Q:aE}(hl:s.heap.IsList l vs.toArray)(vB:vs.length<2000)(hv:∀i v,vs[i]?=some v→dU s.heap v (x i) (y i)∧0≤y i∧y i<1000)
  (h:∀(p:Array Nat) (h':Heap) (c:Nat),ky vs.length p→mL (fun i=>x i*1000+y i) p vs.length→(∀b o,s.heap.get? b=some o→h'.get? b=some o)→h'.get? (s.heap.objs.size+1)=some (seqObj "list" (List.toArray (p.toList.map fun i=>vs.getD i Value.none)) c)→Q (.ref (s.heap.objs.size+1)) {s with heap:=h'}) :
  wpAny (model prog w) A (call (.builtin "sorted") [.ref l]) Q E s:=by
 have sl:vs.length≤sizeLine:=by rw [l_];lia
 refine Calls.call_function_entry kind_sorted plain_sorted entry_sorted (args_sorted1 _) ?_;unfold Builtin.«sorted»;refine aB (m:=checkCount "sorted" 1 1 _) (cf (aB (collect_list hl (aB (wpAny_newList ?_ sl)) sl)));have zz:((s.heap.push (seqObj "list" #[] 0)).update s.heap.objs.size (Obj.mapSeq (·++vs.toArray))).objs.size=s.heap.objs.size+1:=by rw [Heap.size_update,size_push']
 have kp:∀b o,s.heap.get? b=some o→(((s.heap.push (seqObj "list" #[] 0)).update s.heap.objs.size (Obj.mapSeq (·++vs.toArray))).push (seqObj "list" vs.toArray 0)).get? b=some o:=fun b o g=>by
  have lt:=aY g;rw [oF _ _ _ (bY (by rw [zz];exact rm lt)),ur _ _ _ _ (bY lt),oF _ _ _ (bY lt)]
  exact g
 have gL:(((s.heap.push (seqObj "list" #[] 0)).update s.heap.objs.size (Obj.mapSeq (·++vs.toArray))).push (seqObj "list" vs.toArray 0)).get? (s.heap.objs.size+1)=some (seqObj "list" vs.toArray 0):=by rw [←zz];exact dE _ rfl
 show wpAny _ _ _ _ _ {s with heap:=((s.heap.push (seqObj "list" #[] 0)).update s.heap.objs.size (Obj.mapSeq (·++vs.toArray))).push (seqObj "list" vs.toArray 0)};rw [zz];generalize ((s.heap.push (seqObj "list" #[] 0)).update s.heap.objs.size (Obj.mapSeq (·++vs.toArray))).push (seqObj "list" vs.toArray 0)=h1 at kp gL;refine aB (kP (rB slot_list_sort ⟨_,gL,rfl⟩ entry_list_sort (JN (s:={s with heap:=h1}) gL vB (fun i v hi=>⟨(hv i v hi).1.mono kp,(hv i v hi).2⟩) fun p hp hu=>⟨_,rfl,?_⟩) (args_list_sort _)));have JP:=aY gL;have z1:(h1.update (s.heap.objs.size+1) (Obj.mapSeq fun _=>#[])).objs.size=h1.objs.size:=Heap.size_update _ _ _;obtain ⟨e1,g1⟩:∃e,(h1.update (s.heap.objs.size+1) (Obj.mapSeq fun _=>#[])).get? (s.heap.objs.size+1)=some (seqObj "list" #[] e):=⟨_,get?_update_seq gL fun _=>#[]⟩;have up:∀b u,b<h1.objs.size→(h1.update (s.heap.objs.size+1) (Obj.mapSeq fun _=>#[])).get? b=some u→(((h1.update (s.heap.objs.size+1) (Obj.mapSeq fun _=>#[])).push (seqObj "tuple" vs.toArray 0)).push (seqObj "list" #[] 0)).get? b=some u:=fun b u hb hu=>by
  rw [oF _ _ _ (bY (by rw [size_push',z1];exact rm hb)),oF _ _ _ (bY (by rw [z1];exact hb))]
  exact hu
 have g3:=up _ _ JP g1;refine cf ⟨_,rfl,h p _ _ hp hu (fun b o g=>?_) (get?_update_seq g3 fun _=>List.toArray (p.toList.map fun i=>vs.getD i Value.none))⟩;have g':=kp b o g;have ne:b≠s.heap.objs.size+1:=bY (rm (aY g));show (Heap.update _ _ _).get? b=some o;rw [ur _ _ _ _ ne];refine up b o (aY g') ?_;rw [ur _ _ _ _ ne];exact g'
end
end My
namespace L2
open PySem PySem.W PyProof.Rows My
def CT:List V→Hp→VK→Prop:=fun xs H Q=>∃(a:Addr) (vs:List V) (x y:Nat→Int),xs=[.ref a]∧H a=some (.lst vs)∧vs.length<2000∧(∀(i:Nat) (v:V),vs[i]?=some v→(∃b,v=.ref b∧H b=some (.tup [.int (x i),.int (y i)]))∧0≤y i∧y i<1000) ∧
 ∀(p:Array Nat) (l:Addr),ky vs.length p→mL (fun i=>x i*1000+y i) p vs.length→H l=none→Q (.ref l) (upd H l (.lst (p.toList.map fun i=>vs.getD i .aQ)))
theorem CU{xs:List V}{us:List Value}(r:Vals xs us):∀(ns:List Nat),(∀i∈ns,i<xs.length)→Vals (ns.map fun i=>xs.getD i .aQ) (ns.map fun i=>us.getD i Value.none)
 | [],_=>.nil
 | i::ns,h=>by
  have hi:=h i dQ;obtain ⟨u,e,ru⟩:=r.get (i:=i) (x:=xs[i]) (by simp [hi])
  refine .cons ?_ (CU r ns fun j hj=>h j (cH _ hj));dsimp only;rw [show xs.getD i .aQ=xs[i] by simp [hi],show us.getD i Value.none=u by rw [fA,e];rfl]
  exact ru
theorem JQ{X:Cx}:fF X (.builtin "sorted") CT:=by
 intro pins s σ H xs us Q I r h;obtain ⟨a,vs,x,y,rfl,ha,vB,hv,k⟩:=h;obtain ⟨u,rfl,ru⟩:=vals1 r;cases ru;obtain ⟨its,rv,pl,hz⟩:=I.list (.of ha);have hl:=rv.length;refine JO (x:=x) (y:=y) pl.isList (by lia) (fun i v hi=>?_) fun p h' c hp hu kp g=>?_
 ·have bg:i<vs.length:=by have:=(cy.mp hi).1;lia
  have gi:vs[i]?=some vs[i]:=by simp [bg]
  obtain ⟨⟨b,eb,hb⟩,JR⟩:=hv i _ gi;obtain ⟨u,eu,ru⟩:=rv.get gi;rw [hi] at eu;cases eu;rw [eb] at ru;cases ru;obtain ⟨_,lp,r2,o,g,cl,e,d⟩:=(show ck X.prog X.w H s.heap b (.tup [.int (x i),.int (y i)]) from I.au b _ hb);obtain ⟨u1,u2,rfl,q1,q2⟩:=vals2 r2;obtain ⟨t1,rfl⟩:=q1;obtain ⟨t2,rfl⟩:=q2;exact ⟨⟨b,o,t1,t2,e,rfl,g,cl,d⟩,JR⟩
 ·rw [←hl] at hp hu
  have sz:=hp.size;refine ⟨.ref (s.heap.objs.size+1),_,I.laid (t':=s.toks) (o:=.lst (p.toList.map fun i=>vs.getD i .aQ)) kp (Nat.le_succ _) ⟨?_,p.toList.map fun i=>its.getD i Value.none,c,?_,g⟩,rfl,k p _ hp hu (I.au.fresh (Nat.le_succ _))⟩
  ·rw [aJ,gF,sz]
   exact hz
  ·refine CU rv _ fun i hi=>?_
   have m:i∈List.toArray (List.range vs.length):=(Array.Perm.mem_iff hp).mp (Array.mem_toList_iff.mp hi);simpa using m
end L2
namespace My
open PySem L2
def JS(K:aH):R2:=fun x y H Q=>∃a b xs,x=.ref a∧y=.ref b∧bD K H a xs∧H b=some (.lst [])∧Q (.bl (!xs.isEmpty)) H
theorem JT{X:Cx}(hu:X.A.units+64<cLine):cA X (compareOp .NotEq) (JS X.K):=by
 intro pins s σ H x y v u Q I rx ry h;obtain ⟨a,b,xs,rfl,rfl,h1,h2,q⟩:=h;cases rx;cases ry;obtain ⟨us,r1,t1,_⟩:=I.list h1;obtain ⟨vs,r2,t2,_⟩:=I.list (bD.of h2);have l1:=r1.length;have l2:=r2.length;cases xs with
 | nil=>
  refine SeqAt.RcNeAt.lists (e:=fun _=>true) t1.isList t2.isList (by simp at l1 l2 ⊢;lia) (by lia) (fun j z1 z2=>?_) _ _ _ _ ?_
  ·simp at l1
   have:us=[]:=List.length_eq_zero_iff.mp l1.symm;subst this;simp at z1
  ·rw [all_range]
   exact ⟨.bl false,H,I,rfl,q⟩
 | cons w ws=>
  refine SeqAt.RcNeAt.lists_lengths t1.isList t2.isList ?_ (by lia) _ _ _ _ ⟨.bl true,H,I,rfl,q⟩
  simp at l1 l2 ⊢;lia
def bA(H:Hp)(vs:List V)(L:aZ):Prop:=vs.length=L.length∧∀(k:Nat) (v:V) (p:Int×Int),vs[k]?=some v→L[k]?=some p→∃b,v=.ref b∧H b=some (.tup [.int p.1,.int p.2])
theorem bA.nil(H:Hp):bA H [] []:=⟨rfl,fun k v p h=>by simp at h⟩
variable {H H':Hp} {vs:List V} {L:aZ}
theorem bA.mono(h:bA H vs L)(s:ah H H'):bA H' vs L:=⟨h.1,fun k v p h1 h2=>by obtain ⟨b,e,g⟩:=h.2 k v p h1 h2;exact ⟨b,e,s _ _ g⟩⟩
variable {xs:List V}
theorem bA.bx{r:Addr}(h:bA H vs L)(e:H r=some (.lst xs))(k:∀b o,b≠r→H b=some o→H' b=some o):bA H' vs L:=⟨h.1,fun i v p h1 h2=>by obtain ⟨b,eb,g⟩:=h.2 i v p h1 h2;refine ⟨b,eb,k b _ (fun z=>?_) g⟩;rw [z,e] at g;cases g⟩
def lexLt(p q:Int×Int):Prop:=p.1<q.1∨p.1=q.1∧p.2<q.2
variable {M:aZ}
theorem JU{p:Array Nat}(P:ky M.length p)(U:mL (fun i=>(M.getD i (0,0)).1*1000+(M.getD i (0,0)).2) p M.length)(nd:M.Nodup)(b:∀q∈M,0≤q.2∧q.2<1000) :
  (p.toList.map fun i=>M.getD i (0,0)).Perm M∧(p.toList.map fun i=>M.getD i (0,0)).Pairwise lexLt:=by
 have pm:p.toList.Perm (List.range M.length):=rA.mp P;have pn:p.toList.Nodup:=pm.nodup_iff.mpr j6;have lt:∀i∈p.toList,i<M.length:=fun i hi=>cp.mp (pm.mem_iff.mp hi);refine ⟨?_,?_⟩
 ·have e:((List.range M.length).map fun i=>M.getD i (0,0))=M:=by
   refine g_ (by simp) fun i h1 h2=>?_
   rw [fY,jf,getD_at h2]
  have:=pm.map fun i=>M.getD i (0,0);rw [e] at this;exact this
 ·rw [um]
  intro i j hi hj CD;rw [aJ] at hi hj;rw [fY,fY];have sz:=P.size;have li:p.toList[i]<M.length:=lt _ (dv _);have lj:p.toList[j]<M.length:=lt _ (dv _);have u:=U i j (by lia) (by rw [←sz,←gF];exact hj)
  unfold vN at u;have gi:p.getD i 0=p.toList[i]:=by
   have:i<p.size:=by rw [←gF];exact hi
   simp [Array.getD,this]
  have gj:p.getD j 0=p.toList[j]:=by
   have:j<p.size:=by rw [←gF];exact hj
   simp [Array.getD,this]
  rw [gi,gj] at u;dsimp only at u;rw [getD_at li,getD_at lj] at u;rw [getD_at li,getD_at lj];have ne:M[p.toList[i]]≠M[p.toList[j]]:=fun e=>by have e1:=(List.getElem_inj nd).mp e;have e2:=(List.getElem_inj pn).mp e1;lia
  have b1:=b _ (dv li);have b2:=b _ (dv lj);generalize M[p.toList[i]]=x at u ne b1;generalize M[p.toList[j]]=y at u ne b2;obtain ⟨x1,x2⟩:=x;obtain ⟨y1,y2⟩:=y;unfold lexLt;dsimp only at u b1 b2 ⊢;by_cases z:x1<y1;·exact .inl z
  ·right
   have e1:x1=y1:=by lia
   subst e1;refine ⟨rfl,?_⟩;by_cases y:x2=y2
   ·subst y
    exact absurd rfl ne
   ·lia
def iy(H:Hp)(t:Addr)(n:Nat)(L:aZ):Prop:=∃(lt:Addr) (us:List V),H t=some (.tup [.int (n:Int),.ref lt])∧H lt=some (.tup us)∧bA H us L
variable {us:List V}
theorem bA.pick(h:bA H us M)(ns:List Nat)(hn:∀i∈ns,i<M.length):bA H (ns.map fun i=>us.getD i .aQ) (ns.map fun i=>M.getD i (0,0)):=⟨by simp,fun k v p h1 h2=>by
 have hl:=h.1;have hk:k<ns.length:=by have:=(cy.mp h1).1;simpa using this
 have hi:=hn ns[k] (dv hk);rw [bU,dR hk] at h1 h2;cases h1;cases h2;dsimp only;have bg:ns[k]<us.length:=by lia
 rw [getD_at hi];have e:us.getD ns[k] .aQ=us[ns[k]]:=by simp [bg]
 rw [e];exact h.2 ns[k] _ _ (by simp [bg]) (by simp [hi])⟩
theorem bA.cat{zs:List V}(h:bA H us L)(g:bA H zs M):bA H (us++zs) (L++M):=⟨by simp [h.1,g.1],fun k v p h1 h2=>by
 have hl:=h.1;by_cases z:k<us.length
 ·rw [jd z] at h1
  rw [jd (by lia)] at h2
  exact h.2 k v p h1 h2
 ·rw [jc (by lia)] at h1
  rw [jc (by lia),show k-L.length=k-us.length by lia] at h2
  exact g.2 _ v p h1 h2⟩
variable {n:Nat}
theorem iy.mono{t:Addr}(h:iy H t n L)(s:ah H H'):iy H' t n L:=by obtain ⟨lt,us,h1,h2,h3⟩:=h;exact ⟨lt,us,s _ _ h1,s _ _ h2,h3.mono s⟩
theorem CV{wi:TI}{ρ:St→St}{tt:TT}{te:TE}{σ:St}{Q:VK}(pr:Nat→Bool)(gS:∀R:It→Hp→Prop,(∀J,lD J xs H→R J H)→wi σ H R)(hn:xs.length<sizeLine)
  (P:Addr→Nat→V→Hp→Prop) (mono:∀D i y H H' ys,P D i y H→H D=some (.lst ys)→(∀b o,b≠D→H b=some o→H' b=some o)→P D i y H')
  (test:∀(i:Nat) (x:V),xs[i]?=some x→∀(Hc:Hp) (R:Bool→Hp→Prop),ah H Hc→R (pr i) Hc→tt (some x::ρ σ) Hc R)
  (step:∀D (i:Nat) (x:V),xs[i]?=some x→∀(Hc:Hp) (R:VK),ah H Hc→(∃ys,Hc D=some (.lst ys))→(∀y H3,ah Hc H3→P D i y H3→R y H3)→te (some x::ρ σ) Hc R)
  (fin:∀D ys Hc,H D=none→ah H Hc→ys.length=((List.range xs.length).filter pr).length→(∀(k i:Nat) (y:V),ys[k]?=some y→((List.range xs.length).filter pr)[k]?=some i→P D i y Hc)→Hc D=some (.lst ys)→Q (.ref D) Hc):fK wi ρ tt te σ H Q:=by
 refine gS _ fun J js=>?_;intro D nD;refine ⟨fun i m ys Hc=>m=xs.length-i∧i≤xs.length∧Hc D=some (.lst ys)∧ah H Hc∧ys.length=((List.range i).filter pr).length∧∀(k i':Nat) (y:V),ys[k]?=some y→((List.range i).filter pr)[k]?=some i'→P D i' y Hc,⟨_,rfl,cg _,av,eB (ah.refl H) nD,rfl,fun k i y h=>by simp at h⟩,?_⟩
 rintro i m ys Hc ⟨rfl,hi,eD,sH,ly,hP⟩;refine ⟨eD,?_⟩;by_cases b4:i<xs.length
 ·refine .inr ⟨js.go i Hc sH b4,fun x H' hy=>?_⟩
  obtain ⟨rfl,hx⟩:=js.dH i Hc x H' sH hy;refine test i x (hx b4) _ _ sH ?_;have fs:(List.range (i+1)).filter pr=(List.range i).filter pr++(if pr i=true then [i] else []):=by
   rw [oC,List.filter_append]
   congr 1
   cases e:pr i <;> simp [e]
  have fl:((List.range i).filter pr).length≤i:=cG (rC _ _) (by simp)
  cases e:pr i with
  | true=>
   rw [ae rfl];refine step D i x (hx b4) _ _ sH ⟨_,eD⟩ fun y H3 s3 hp=>?_;have e3:=s3 _ _ eD;have bx:∀b o,b≠D→H3 b=some o→upd H3 D (.lst (ys++[y])) b=some o:=fun b o nb e=>by rw [aM nb];exact e
   refine ⟨e3,by lia,xs.length-(i+1),by lia,rfl,b4,av,eB (sH.trans s3) nD,?_,fun k i' y' h1 h2=>?_⟩
   ·rw [fs,e,ae rfl,cY,cY,ly]
    rfl
   ·rw [fs,e,ae rfl] at h2
    by_cases z:k<ys.length
    ·rw [jd z] at h1
     rw [jd (by lia)] at h2
     refine mono D i' y' H' _ ys (hP k i' y' h1 h2) eD fun b o nb e=>bx b o nb (s3 _ _ e)
    ·have hk:=(cy.mp h1).1
     rw [cY,rb] at hk;obtain rfl:k=ys.length:=by lia
     rw [jc (aw _),oB] at h1;rw [jc (by lia),show ys.length-((List.range i).filter pr).length=0 by lia] at h2
     cases h1;cases h2;exact mono D _ _ H3 _ ys hp e3 bx
  | false=>
   rw [aa (by simp)]
   refine ⟨xs.length-(i+1),by lia,rfl,b4,eD,sH,?_,fun k i' y' h1 h2=>?_⟩
   ·rw [fs,e,aa (by simp),ma]
    exact ly
   ·rw [fs,e,aa (by simp),ma] at h2
    exact hP k i' y' h1 h2
 ·have e:i=xs.length:=by lia
  subst e;exact .inl ⟨js.stop _ Hc sH (aw _),fin D ys Hc nD sH ly hP eD⟩
def fR(n:Nat)(f:Nat→Nat→Bool)(i:Nat):List (Int×Int):=((List.range (n-(i+1))).filter fun k=>f i (i+1+k)).map fun k=>((i:Int),((i+1+k:Nat):Int))
def eS(n:Nat)(f:Nat→Nat→Bool):Nat→List (Int×Int)
 | 0=>[]
 | i+1=>eS n f i++fR n f i
variable {f:Nat→Nat→Bool} {i:Nat} {p:Int×Int}
theorem CW(h:p∈fR n f i):∃j,i<j∧j<n∧f i j=true∧p=((i:Int),(j:Int)):=by obtain ⟨k,hk,rfl⟩:=d5.mp h;obtain ⟨h1,h2⟩:=fz.mp hk;have:=cp.mp h1;exact ⟨i+1+k,by lia,by lia,h2,rfl⟩
theorem JV{j:Nat}(h1:i<j)(h2:j<n)(h3:f i j=true):((i:Int),(j:Int))∈fR n f i:=by
 refine d5.mpr ⟨j-(i+1),fz.mpr ⟨cp.mpr (by lia),?_⟩,?_⟩
 ·show f i (i+1+(j-(i+1)))=true
  rw [show i+1+(j-(i+1))=j by lia]
  exact h3
 ·rw [show i+1+(j-(i+1))=j by lia]
theorem mem_of{n:Nat}{f:Nat→Nat→Bool}{p:Int×Int}:∀{k:Nat},p∈eS n f k→∃i j,i<k∧i<j∧j<n∧f i j=true∧p=((i:Int),(j:Int))
 | 0,h=>by cases h
 | k+1,h=>by
  rcases cR.mp h with h | h
  ·obtain ⟨i,j,h1,h2⟩:=mem_of h
   exact ⟨i,j,by lia,h2⟩
  ·obtain ⟨j,h1⟩:=CW h
   exact ⟨k,j,by lia,h1⟩
theorem yW{n:Nat}{f:Nat→Nat→Bool}{i j:Nat}(h1:i<j)(h2:j<n)(h3:f i j=true):∀{k:Nat},i<k→((i:Int),(j:Int))∈eS n f k
 | k+1,h=>by
  by_cases z:i=k
  ·subst z
   exact c_ _ (JV h1 h2 h3)
  ·exact jV _ (yW h1 h2 h3 (by lia))
theorem yX{n:Nat}{f:Nat→Nat→Bool}:∀k,(eS n f k).Pairwise lexLt
 | 0=>List.Pairwise.nil
 | k+1=>by
  refine List.pairwise_append.mpr ⟨yX k,?_,fun p hp q hq=>?_⟩
  ·refine kY.mpr ((uu.sublist uv).imp fun h=>?_)
   right;dsimp only;lia
  ·obtain ⟨i,j,h1,_,_,_,rfl⟩:=mem_of hp
   obtain ⟨j',_,_,_,rfl⟩:=CW hq;left;dsimp only;lia
theorem yY:¬lexLt p p:=fun h=>by unfold lexLt at h;lia
theorem JW{q:Int×Int}(h1:lexLt p q)(h2:lexLt q p):False:=by unfold lexLt at h1 h2;lia
theorem CY:∀{A B:aZ},A.Pairwise lexLt→B.Pairwise lexLt→(∀p,p∈A↔p∈B)→A=B
 | [],[],_,_,_=>rfl
 | [],b::B,_,_,h=>absurd ((h b).mpr dQ) (by simp)
 | a::A,[],_,_,h=>absurd ((h a).mp dQ) (by simp)
 | a::A,b::B,ha,hb,h=>by
  obtain ⟨a1,a2⟩:=jg.mp ha;obtain ⟨b1,b2⟩:=jg.mp hb;have e:a=b:=by
   rcases bZ.mp ((h a).mp dQ) with z | z;·exact z
   ·rcases bZ.mp ((h b).mpr dQ) with y | y
    ·exact y.symm
    ·exact (JW (b1 a z) (a1 b y)).elim
  subst e;rw [CY a2 b2 fun p=>⟨fun m=>?_,fun m=>?_⟩]
  ·rcases bZ.mp ((h p).mp (cH _ m)) with z | z
   ·subst z
    exact (yY (a1 _ m)).elim
   ·exact z
  ·rcases bZ.mp ((h p).mpr (cH _ m)) with z | z
   ·subst z
    exact (yY (b1 _ m)).elim
   ·exact z
end My
namespace L2
open PySem PySem.Spec PyProof.Rows
end L2
namespace My
open PySem L2
end My
namespace L2
open PySem PySem.Spec PyProof.Rows
section
variable (P:Program) (w:World)
end
section
variable {P:Program} {w:World} {H H':Hp} {h h':Heap} {a:Addr} {o:HO}
end
section
variable {P:Program} {w:World} {H:Hp} {h h':Heap} {x e:Addr} {o':HO}
end
section
variable {fs xI ex rJ:List Addr} {H H1 H2:Hp} {h h1 h2 h':Heap} {a x e:Addr} {o:HO}
end
section
variable {X:Cx} {pins:aN} {σ:List (Option V)} {H H':Hp} {s:Shared} {h':Heap}
end
section
variable {X:Cx}
variable {a b:Expr} {ta tb:TE} {pos:Pos}
variable {tA rR:TT} {rest:List Expr}
end
section
variable {X:Cx} {pins:aN} {σ:St} {H:Hp} {s:Shared} {a:Addr} {xs ys:List V}
end
section
variable {X:Cx} {pins:aN} {σ:St} {H:Hp} {s:Shared} {E:aE}
end
section
variable {X:Cx} {st:Stmt} {rest:List Stmt} {t u:TS} {e:Expr} {te:TE} {pos:Pos}
end
section
variable {X:Cx} {pos:Pos}
end
section
variable {X:Cx} {pos:Pos}
end
section
variable {X:Cx} {tg:Expr}
end
section
variable {X:Cx} {a b c:Expr} {ta tb tc:TE} {pos:Pos}
end
section
variable {X:Cx} {a b c:Expr} {ta tb tc:TE} {pos:Pos}
end
section
variable {prog:Program} {w:World} {A:Around} {E:aE} {s:Shared} {K:aH} {x dx C f:Addr} {mA:cJ} {name:Str} {v:Value}
end
section
variable {P:Program} {w:World} {H H':Hp} {h h':Heap} {a C dx:Addr} {fs xI:List (Str×V)}
end
section
variable {X:Cx} {pins:aN} {σ:St} {H:Hp} {s:Shared} {a C dx:Addr} {fs:List (Str×V)} {f:Str} {v:V} {A:Around} {E:aE}
end
section
variable {X:Cx} {o e value:Expr} {f:Str} {pos pos' oW:Pos} {ta tv:TE}
end
section
variable {X:Cx} {pins:aN} {σ:St} {H:Hp} {s:Shared} {A:Around} {E:aE} {Q:aE} {c:Value} {b:Bool}
end
section
variable {X:Cx} {e:Expr} {es:List Expr} {te:TE} {t:TA} {pos:Pos}
end
section
variable {X:Cx} {pins:aN} {σ:St} {H:Hp} {s s':Shared}
end
section
variable {X:Cx} {CX:fH} {k:Nat} {f C:Addr} {fd:FuncData} {ps:List Str} {sp:Sp} {jv:List V} {ds:List Value} {E:XK} {x m:Str} {p pos apos:Pos} {e o:Expr} {es:List Expr} {ta:TE} {t:TA}
end
section
variable {X:Cx} {CX:fH} {k:Nat} {f C:Addr} {fd:FuncData} {ps ks:List Str} {sp:Sp} {E:XK} {x m:Str} {p pos apos BF:Pos} {e o:Expr} {es:List Expr} {lb:List Keyword} {te ta:TE} {t tk:TA} {nm:Option Str}
variable {g:List Value→List Value→List Value} {gV:List V→List V→List V}
end
section
variable {X:Cx} {x:Str} {p pos:Pos} {e:Expr} {es:List Expr} {t:TA} {id T:String} {r:List V→Hp→VK→Prop}
end
section
variable {κ:Type} [DecidableEq κ]
def gX(kvs:List (κ×V))(k:κ):Option V:=(kvs.find? fun kv=>decide (kv.1=k)).map (·.2)
def putK(kvs:List (κ×V))(k:κ)(v:V):List (κ×V):=
 if (kvs.any fun kv=>decide (kv.1=k))=true then kvs.map (fun kv=>if kv.1=k then (kv.1,v) else kv) else kvs++[(k,v)]
variable {p:κ×V} {r:List (κ×V)} {k:κ}
theorem vC(e:p.1=k):gX (p::r) k=some p.2:=by simp [gX,oG,e]
theorem vD(e:¬p.1=k):gX (p::r) k=gX r k:=by simp [gX,oG,e]
theorem CZ(k:κ):∀kvs:List (κ×V),(kvs.any fun kv=>decide (kv.1=k))=(gX kvs k).isSome
 | []=>rfl
 | p::r=>by
  rw [oz];by_cases e:p.1=k;·simp only [vC e,aK e,Bool.true_or,Option.isSome_some]
  ·rw [vD e,bj e,me];exact CZ k r
theorem C0(kvs:List (κ×V))(k:κ)(v:V):(putK kvs k v).length≤kvs.length+1:=by
 unfold putK
 split
 ·rw [aJ];lia
 ·rw [cY,ee,List.length_nil];lia
theorem mq.yZ{o:Option V}{u:Option Value}(r:mq o u):o.isSome=u.isSome:=by
 cases o with
 | none=>cases u with
  | none=>rfl
  | some _=>exact (show False from r).elim
 | some _=>cases u with
  | none=>exact (show False from r).elim
  | some _=>rfl
variable {kvs:List (κ×V)} {vs:List (κ×Value)}
theorem KV.val(r:KV kvs vs)(k:κ):mq (gX kvs k) (valueAt vs k):=by
 unfold KV at r
 induction r with
 | nil=>exact True.intro
 | @cons p q ps qs h t ih=>
  obtain ⟨h1,h2⟩:=h;by_cases e:p.1=k
  ·have e':q.1=k:=h1.symm.trans e
   have b:valueAt (q::qs) k=some q.2:=by simp [valueAt,oG,e']
   rw [vC e,b];exact h2
  ·have e':¬q.1=k:=fun z=>e (h1.trans z)
   have b:valueAt (q::qs) k=valueAt qs k:=by simp [valueAt,oG,e']
   rw [vD e,b];exact ih
theorem KV.any(r:KV kvs vs)(k:κ):(kvs.any fun kv=>decide (kv.1=k))=vs.any fun kv=>decide (kv.1=k):=by
 unfold KV at r
 induction r with
 | nil=>rfl
 | cons h t ih=>rw [oz,oz,ih,h.1]
variable {y:V} {u:Value}
theorem KV.y3(r:KV kvs vs)(k:κ)(ry:RelV y u) :
  KV (kvs.map fun kv=>if kv.1=k then (kv.1,y) else kv) (vs.map fun kv=>if kv.1=k then (kv.1,u) else kv):=by
 unfold KV at r ⊢
 induction r with
 | nil=>exact .nil
 | @cons p q ps qs h t ih=>
  rw [cP,cP];refine .cons ?_ ih;obtain ⟨h1,h2⟩:=h;by_cases e:p.1=k;·rw [ae e,ae (h1.symm.trans e)];exact ⟨h1,ry⟩
  ·rw [aa e,aa (fun z=>e (h1.trans z))];exact ⟨h1,h2⟩
theorem KV.put(r:KV kvs vs)(k:κ)(ry:RelV y u):KV (putK kvs k y) (stored vs k u):=by
 unfold putK stored;rw [r.any k];by_cases e:(vs.any fun kv=>decide (kv.1=k))=true;·rw [ae e,ae e];exact r.y3 k ry
 ·rw [aa e,aa e];exact Paired.snoc r ⟨rfl,ry⟩
theorem KV.length(r:KV kvs vs):kvs.length=vs.length:=Paired.length r
end
variable {P:Program} {w:World} {u:Value}
theorem y4{k:Key}(r:RelV (kV k) u):(fZ P w).is k u=true:=by
 cases k with
 | inl i=>obtain ⟨t,e⟩:=(show ∃t,u=Value.int i t from r);subst e;exact FU P w i t
 | inr x=>obtain ⟨t,e⟩:=(show ∃t,u=Value.str x t from r);subst e;exact FV P w x t
theorem C1{P:Program}{w:World}:∀{ks:List Key} {us:List Value},Vals (ks.map kV) us→ItemsAre (fZ P w) ks us
 | [],_,r=>by rw [List.map_nil] at r;cases r;exact .nil
 | k::ks,_,r=>by
  rw [cP] at r;cases r with
  | cons h t=>exact .cons (y4 h) (C1 t)
abbrev KT (H:Hp):List (List Key×V)→List (List Key×Addr×Value)→Prop:=Paired fun p q=>p.1=q.1∧H q.2.1=some (.tup (p.1.map kV))∧RelV p.2 q.2.2
variable {H:Hp} {kvs:List (List Key×V)} {xs:List (List Key×Addr×Value)}
theorem KT.val(r:KT H kvs xs)(k:List Key):mq (gX kvs k) ((atKey xs k).map (·.2)):=by
 induction r with
 | nil=>exact True.intro
 | @cons p q ps qs h t ih=>
  obtain ⟨h1,_,h2⟩:=h;by_cases e:p.1=k
  ·have e':q.1=k:=h1.symm.trans e
   have b:atKey (q::qs) k=some q.2:=by simp [atKey,oG,e']
   rw [vC e,b];exact h2
  ·have e':¬q.1=k:=fun z=>e (h1.trans z)
   have b:atKey (q::qs) k=atKey qs k:=by simp [atKey,oG,e']
   rw [vD e,b];exact ih
variable {y:V}
theorem KT.y3(r:KT H kvs xs)(k:List Key)(ry:RelV y u) :
  KT H (kvs.map fun kv=>if kv.1=k then (kv.1,y) else kv) (xs.map (putAt k u)):=by
 induction r with
 | nil=>exact .nil
 | @cons p q ps qs h t ih=>
  rw [cP,cP];refine .cons ?_ ih;obtain ⟨h1,h2,h3⟩:=h;unfold putAt;by_cases e:p.1=k;·rw [ae e,ae (h1.symm.trans e)];exact ⟨h1,h2,ry⟩
  ·rw [aa e,aa (fun z=>e (h1.trans z))];exact ⟨h1,h2,h3⟩
theorem KT.put(r:KT H kvs xs)(k:List Key){b:Addr}(hb:H b=some (.tup (k.map kV)))(ry:RelV y u) :
  KT H (putK kvs k y) (storedH xs k b u):=by
 have e:(kvs.any fun kv=>decide (kv.1=k))=(atKey xs k).isSome:=by rw [CZ,(r.val k).yZ,Option.isSome_map]
 unfold putK storedH;rw [e];by_cases q:(atKey xs k).isSome=true;·rw [ae q,ae q];exact r.y3 k ry
 ·rw [aa q,aa q];exact Paired.snoc r ⟨rfl,hb,ry⟩
theorem KT.keeps{H':Hp}(r:KT H kvs xs)(ht:∀b ys,H b=some (.tup ys)→H' b=some (.tup ys)):KT H' kvs xs:=
 Paired.xH r fun _ _ z=>⟨z.1,ht _ _ z.2.1,z.2.2⟩
section
variable {P:Program} {w:World} {H:Hp} {h:Heap} {a:Addr}
theorem C2{u:HO}(ok:bK P w H h)(e:Rd H a u):ck P w H h a u:=e.ok ok
theorem C3{kvs:List (Key×V)}(ok:bK P w H h)(e:Rd H a (.dK kvs)):kvs.length≤sizeLine∧(a == sysModules)=false∧∃vs,KV kvs vs∧h.DictOf (fZ P w) a vs:=
 show ck P w H h a (.dK kvs) from C2 ok e
theorem JX{kvs:List (Key×V)}(ok:bK P w H h)(e:H a=some (.dK kvs)):kvs.length≤sizeLine∧(a == sysModules)=false∧∃vs,KV kvs vs∧h.DictOf (fZ P w) a vs:=C3 ok (.inl e)
theorem y6{ks:List Key}(ok:bK P w H h)(e:H a=some (.tup (ks.map kV))):(tupleKind (fZ P w)).is h ks a:=by obtain ⟨_,its,r,o,h1,h2,n,h3⟩:=(show ck P w H h a (.tup (ks.map kV)) from ok a _ e);exact ⟨o,its.toArray,n,h1,h2,h3,by simpa using C1 r⟩
theorem C4(ok:bK P w H h)(e:Rd H a (.dT kvs)):kvs.length≤sizeLine∧(a == sysModules)=false ∧
  ∃xs,KT H kvs xs∧h.DictOfH (tupleKind (fZ P w)) a xs:=by
 obtain ⟨z,y,xs,r,o,es,ep,h1,h2,h3,h4,h5⟩:=(show ck P w H h a (.dT kvs) from C2 ok e);refine ⟨z,y,xs,r,o,es,ep,h1,h2,h3,h4,fun x hx=>?_,h5⟩;have all:∀{l:List (List Key×V)} {m:List (List Key×Addr×Value)},KT H l m→∀x∈m,(tupleKind (fZ P w)).is h x.1 x.2.1:=by
  intro l m q
  induction q with
  | nil=>intro x hx;exact nomatch hx
  | @cons p q ps qs hq t ih=>
   intro x hx;rcases bZ.mp hx with e | hx
   ·subst e
    exact y6 ok (by rw [←hq.1];exact hq.2.1)
   ·exact ih x hx
 exact all r x hx
theorem JY(ok:bK P w H h)(e:H a=some (.dT kvs)):kvs.length≤sizeLine∧(a == sysModules)=false ∧
  ∃xs,KT H kvs xs∧h.DictOfH (tupleKind (fZ P w)) a xs:=C4 ok (.inl e)
end
def C5(H:Hp)(a:Addr)(y:V)(r:Option V):Prop:=
 (∃kvs k,Rd H a (.dK kvs)∧y=kV k∧r=gX kvs k)∨∃kvs k b,Rd H a (.dT kvs)∧y=.ref b∧H b=some (.tup (k.map kV))∧r=gX kvs k
def y7(H:Hp)(a:Addr)(y v:V)(H':Hp):Prop:=
 (∃kvs k,H a=some (.dK kvs)∧y=kV k∧kvs.length<sizeLine∧H'=upd H a (.dK (putK kvs k v))) ∨
 ∃kvs k b,H a=some (.dT kvs)∧y=.ref b∧H b=some (.tup (k.map kV))∧kvs.length<sizeLine∧H'=upd H a (.dT (putK kvs k v))
section
variable {X:Cx} {pins:aN} {σ:St} {H:Hp} {s:Shared} {a:Addr} {y v:V} {u r:Value} {o:Option V} {A:Around} {E:aE}
theorem Inv.big(I:Inv X pins σ H s):sysModules<s.heap.objs.size:=by have h:mainGlobals<s.heap.objs.size:=(I.mod.glob.keeps I.bk).lt;exact Nat.lt_trans (by decide) h
theorem JZ{Q:aE}(hu:A.units+1<cLine)(I:Inv X pins σ H s)(g:C5 H a y o)(ry:RelV y u)(h:∀s',Inv X pins σ H s'→Q (.bool o.isSome) s') :
  wpAny (model X.prog X.w) A (compareOp .In u (.ref a)) Q E s:=by
 rcases g with ⟨kvs,k,e,ey,l⟩ | ⟨kvs,k,b,e,ey,eb,l⟩
 ·subst ey
  obtain ⟨z,hd,vs,rel,dd⟩:=C3 I.au e;refine wpAny_in_of (y4 ry) hd dd.mapOf ?_;rw [←(rel.val k).yZ,←l];exact h _ (I.tok _)
 ·subst ey
  cases (show u=Value.ref b from ry);obtain ⟨z,hd,xs,rel,dd⟩:=C4 I.au e;refine wpAny_in_heap (tupleKind_room_in1 hu) (y6 I.au eb) hd dd ?_;have q:=(rel.val k).yZ;rw [Option.isSome_map] at q;rw [←q,←l];exact h _ (I.tok _)
variable {h':Heap}
theorem C6{t':Nat}{ob:HO}(I:Inv X pins σ H s)(mu:rH (H a))(hs:Heap.SameBut a s.heap h')(he:∃q,h'.get? a=some q)(new:ck X.prog X.w (upd H a ob) h' a ob) :
  Inv X pins σ (upd H a ob) {s with heap:=h',toks:=t'}:=
 I.write (x:=a) (e:=a) mu (.inl rfl) (fun b q hb z=>(hs.2 b hb).trans z) he new
variable {H':Hp}
theorem J0{kvs:List (Key×V)}{vs:List (Key×Value)}(z:kvs.length≤sizeLine)(hd:(a == sysModules)=false)(rel:KV kvs vs)(dd:h'.DictOf (fZ P w) a vs) :
  ck P w H' h' a (.dK kvs):=⟨z,hd,vs,rel,dd⟩
theorem J1{Q:Unit→Shared→Prop}(hu:A.units+1<cLine)(I:Inv X pins σ H s)(g:y7 H a y v H')(ry:RelV y u)(rv:RelV v r)(h:∀s',Inv X pins σ H' s'→Q () s') :
  wpAny (model X.prog X.w) A (setItem (.ref a) u r) Q E s:=by
 rcases g with ⟨kvs,k,e,ey,l,eH⟩ | ⟨kvs,k,b,e,ey,eb,l,eH⟩
 ·subst ey eH
  obtain ⟨z,hd,vs,rel,dd⟩:=JX I.au e;have hz:vs.length≤sizeLine:=by rw [←rel.length];exact z
  have hl:(putK kvs k v).length≤sizeLine:=by have:=C0 kvs k v;lia
  refine wpAny_setItem_pairs (hsz:=hz) (y4 ry) dd fun h' sr hs=>h _ ?_;have he:∃q,h'.get? a=some q:=let ⟨q,_,_,hq,_⟩:=sr;⟨q,hq⟩
  exact C6 I (by rw [e];exact True.intro) hs he (J0 hl hd (rel.put k rv) sr)
 ·subst ey eH
  cases (show u=Value.ref b from ry);obtain ⟨z,hd,xs,rel,dd⟩:=JY I.au e;have hz:xs.length≤sizeLine:=by rw [←Paired.length rel];exact z
  have hl:(putK kvs k v).length≤sizeLine:=by have:=C0 kvs k v;lia
  refine wpAny_setItem_heap (hsz:=hz) (tupleKind_room_in1 hu) (y6 I.au eb) dd fun h' sr hs=>h _ ?_;obtain ⟨q,es,ep,hq,h2,h3,h4,_,h5⟩:=sr;refine C6 I (by rw [e];exact True.intro) hs ⟨q,hq⟩ ⟨hl,hd,_,(rel.put k eb rv).keeps fun c ys ec=>?_,q,es,ep,hq,h2,h3,h4,h5⟩
  rw [aM (FW ec e (fun z=>nomatch z))];exact ec
end
section
variable {X:Cx} {pins:aN} {σ:St} {H:Hp} {s:Shared} {a:Addr} {kvs:List (Key×V)} {k:Key} {u:Value} {A:Around} {E:aE}
end
def J2(ty td:TE):TE:=fun σ H Q=>ty σ H fun y H1=>td σ H1 fun x H2=>∃a o,x=.ref a∧C5 H2 a y o∧Q (.bl o.isSome) H2
def J3(td ty tv:TE):TS:=fun D σ H=>tv σ H fun v H1=>td σ H1 fun x H2=>ty σ H2 fun y H3=>∃a H4,x=.ref a∧y7 H3 a y v H4∧D.nx σ H4
section
variable {X:Cx} {o i e value:Expr} {pos pos' oW:Pos} {td ty tv:TE}
theorem J4(hu:X.A.units+1<cLine)(hi:PE X i ty)(ho:PE X o td):PC X .In i o (J2 ty td):=by intro pins s σ H Q I h;refine aI (hi pins s σ H _ I h) fun iv s1 ⟨y,H1,I1,ry,q1⟩=>aI (ho pins s1 σ H1 _ I1 q1) fun u s2 ⟨x,H2,I2,rx,a,ov,ex,g,q2⟩=>?_;subst ex;obtain rfl:u=Value.ref a:=rx;exact JZ hu I2 g ry fun s3 I3=>⟨.bl ov.isSome,H2,I3,rfl,q2⟩
theorem sZ(hu:X.A.units+1<cLine)(ho:PE X o td)(hi:PE X i ty)(hv:PE X value tv)(hs:swapsWith value (some (.Subscript o i pos')) pos.line X.env=pure false) :
  PS X (.Assign [.Subscript o i pos'] value pos) (J3 td ty tv):=by
 intro pins s σ H D I h;refine wpAny_Assign_Subscript (aI (hv pins s σ H _ I h) fun r s1 ⟨v,H1,I1,rv,q1⟩=>aI (ho pins s1 σ H1 _ I1 q1) fun u s2 ⟨x,H2,I2,rx,q2⟩=>aI (hi pins s2 σ H2 _ I2 q2) fun iv s3 ⟨y,H3,I3,ry,a,H4,ex,g,q3⟩=>?_) hs;subst ex;obtain rfl:u=Value.ref a:=rx;exact J1 hu I3 g ry rv fun s4 I4=>⟨σ,H4,I4,q3⟩
end
theorem J5(h:Heap)(hb:sysModules<h.objs.size):ck P w H (h.push {cls:=.type "dict",data:=.dict #[]}) h.objs.size (.dK []):=
 ⟨cg _,beq_eq_false_iff_ne.mpr (Ne.symm (bY hb)),[],.nil,Heap.DictOf.new h⟩
def J6:TE:=fun _ H Q=>∀p,H p=none→Q (.ref p) (upd H p (.dK []))
section
variable {X:Cx} {pos:Pos}
theorem C7:PE X (.Dict [] [] pos) J6:=fun pins s σ H Q I h=>wpAny_Dict_empty ⟨.ref s.heap.objs.size,_,I.laid (a:=s.heap.objs.size) (o:=.dK []) (t':=s.toks) (fun _ _ q=>bS _ q) (aw _) (J5 s.heap I.big),rfl,h _ (I.au.fresh (aw _))⟩
end
section
variable {X:Cx} {pins:aN} {σ:St} {H:Hp} {s:Shared} {a:Addr} {y d:V} {u r:Value} {o:Option V} {A:Around} {E:aE}
end
section
variable {X:Cx} {o e f:Expr} {apos fJ:Pos} {td ty tx:TE}
end
section
variable {X:Cx} {pins:aN} {σ:St} {H:Hp} {s:Shared} {a:Addr} {kvs:List (Key×V)} {A:Around} {E:aE}
end
section
variable {X:Cx} {pins:aN} {σ:St} {H:Hp} {s:Shared} {a:Addr} {y:V} {u:Value} {A:Around} {E:aE}
end
end L2
namespace Att
open PySem PySem.W PySem.Calls PyProof.Rows
section
variable {prog:Program} {w:World} {A:Around} {E:aE} {s:Shared} {K:Frag}
end
end Att
namespace L2
open PySem PySem.Spec PyProof.Rows
section
variable {P:Program} {w:World} {K:aH} {mg:cJ} {base:Heap}
end
section
variable {X:Cx}
end
section
variable {κ:Type} [DecidableEq κ]
end
def y8(o:Obj):Nat:=match o.data with
 | .dict _ ep=>ep
 | _=>0
def jF(a:Addr)(o:Obj)(kvs:List (Key×V)):It:=
 ⟨fun i H=>H a=some (.bC o (.dK kvs))∧i<kvs.length,fun i H x H'=>H'=H∧∃kv,kvs[i]?=some kv∧x=kV kv.1,fun i H=>H a=some (.bC o (.dK kvs))∧kvs.length≤i⟩
theorem J7{k:Key}{v:Value}(h:mj k v=true):RelV (kV k) v:=by
 rcases jj h with ⟨i,t,rfl,rfl⟩ | ⟨x,t,rfl,rfl⟩;·exact ⟨t,rfl⟩
 ·exact ⟨t,rfl⟩
theorem C8{kvs:List (Key×V)}{vs:List (Key×Value)}:∀{i:Nat} {kv:Key×V},KV kvs vs→kvs[i]?=some kv→∃v,vs[i]?=some (kv.1,v)
 | _,_,.nil,h=>by simp at h
 | 0,kv,.cons (b:=b) r _,h=>by simp at h;subst h;obtain ⟨k,v⟩:=b;have e:_=k:=r.1;exact ⟨v,by rw [e];rfl⟩
 | i+1,kv,.cons _ t,h=>by simp at h;obtain ⟨v,e⟩:=C8 t h;exact ⟨v,by simpa using e⟩
section
variable {X:Cx} {pins:aN} {σ:St} {H:Hp} {s:Shared}
theorem Inv.y9{a:Addr}{o:Obj}{kvs:List (Key×V)}(I:Inv X pins σ H s)(h:H a=some (.bC o (.dK kvs))):∃vs,KV kvs vs∧s.heap.DictAt (fZ X.prog X.w) a vs (y8 o):=by obtain ⟨g,_,_,vs,r,o',es,ep,g',c,d,rest⟩:=(show ck X.prog X.w H s.heap a (.bC o (.dK kvs)) from I.au a _ h);rw [g] at g';cases g';refine ⟨vs,r,o,es,g,c,?_,rest⟩;rw [d];unfold y8;rw [d]
end
theorem J8{P:Program}{w:World}{K:aH}{tg:Expr}(a it:Addr)(o:Obj)(kvs:List (Key×V)):Turn P w K tg (jF a o kvs) [it] it (fun i h=>h.IsKeyIter it a i kvs.length (y8 o)) where
 mem:=by simp
 obj:=fun i h st b hb=>by
  have e:b=it:=by simpa using hb
  subst e;obtain ⟨o,e,c,d⟩:=st;exact ⟨o,e,fun v z=>by rw [d] at z;cases z⟩
 keep:=fun i h h' st k=>by obtain ⟨o,e,c,d⟩:=st;exact ⟨o,k it (by simp) o e,c,d⟩
 item:=by
  intro X hP hw hK hc i pins s σ H E I hf st hg;subst hP hw hK;obtain ⟨eH,hi⟩:=hg;obtain ⟨vs,r,hm⟩:=I.y9 eH;have lr:kvs.length=vs.length:=Paired.length r;have ek:kvs[i]?=some kvs[i]:=by simp [hi]
  obtain ⟨v,ev⟩:=C8 r ek;obtain ⟨f0,f1,f2,f3,f4,f5⟩:=hf it (by simp)
  rw [lr] at st;refine wpAny_pyNext_dict_item st hm ev fun key h' hk aq sb=>?_;have I1:Inv X pins σ H {s with heap:=h'}:=I.turned (t':=s.toks) (fun b o hb e=>(sb.2 b hb).trans e) f0 f1 f3 f4 f5;obtain ⟨o',e,c,d⟩:=id aq;rw [←lr] at aq;exact ⟨key,rfl,uL (s:={s with heap:=h'}) e c d (by decide) ⟨kV kvs[i].1,H,I1,J7 hk,⟨rfl,_,ek,rfl⟩,aq,fun b hb=>(hf b hb).1⟩⟩
 done:=by
  intro X hP hw hK hc i pins s σ H E I hf st hg;subst hP hw hK;obtain ⟨eH,hi⟩:=hg;obtain ⟨vs,r,hm⟩:=I.y9 eH;have lr:kvs.length=vs.length:=Paired.length r;obtain ⟨f0,f1,f2,f3,f4,f5⟩:=hf it (by simp)
  rw [lr] at st;exact wpAny_pyNext_dict_end (I.ok.hd hc) st hm (by simp;lia) fun h' eb=>⟨rfl,I.turned (t':=s.toks) (fun b o hb e=>eb b o hb e) f0 f1 f3 f4 f5⟩
 self:=fun _ _ _ _ _ st h=>wpAny_pyIter_keyiter st h
section
variable {X:Cx} {tg:Expr}
def C9(tl:TE):TI:=fun σ H R=>tl σ H fun x H1=>∃a kvs,x=.ref a∧((H1 a=some (.dK kvs)∧∀o,R (jF a o kvs) (upd H1 a (.bC o (.dK kvs))))∨∃o,H1 a=some (.bC o (.dK kvs))∧R (jF a o kvs) H1)
theorem C_{l:Expr}{tl:TE}(hl:PE X l tl):PI X tg l (C9 tl):=by
 intro pins s σ H R I h;refine aI (hl pins s σ H _ I h) fun v s1 ⟨x,H1,I1,r1,q1⟩=>?_;obtain ⟨a,kvs,e,q⟩:=q1;subst e;cases r1;have main:∀{H2:Hp} {o:Obj},Inv X pins σ H2 s1→H2 a=some (.bC o (.dK kvs))→R (jF a o kvs) H2→wpAny (model X.prog X.w) X.A (pyIter (.ref a)) (xV X pins σ tg R) X.xe s1:=fun{H2 o} I2 eH q=>by
  obtain ⟨vs,r,hm⟩:=I2.y9 eH;obtain ⟨_,_,sys,_⟩:=(show ck X.prog X.w H2 s1.heap a (.bC o (.dK kvs)) from I2.au a _ eH);have lr:kvs.length=vs.length:=Paired.length r;refine wpAny_pyIter_dict sys hm ?_;refine ⟨s1.heap.objs.size,[s1.heap.objs.size],_,_,H2,rfl,I2.kept (t':=s1.toks) fun b o e=>bS _ e,J8 a _ o kvs,⟨_,dE _ rfl,rfl,by rw [lr];rfl⟩,fun b hb=>?_,q⟩
  have e:b=s1.heap.objs.size:=by simpa using hb
  subst e;exact I2.oP (aw _) (I2.au.fresh (aw _))
 rcases q with ⟨eH,q⟩ | ⟨o,eH,q⟩
 ·obtain ⟨hz,sys,vs,r,o,es,ep,g,c,d,rest⟩:=(show ck X.prog X.w H1 s1.heap a (.dK kvs) from I1.au a _ eH)
  refine main (H2:=upd H1 a (.bC o (.dK kvs))) ?_ av (q o);exact I1.write (t':=s1.toks) (x:=a) (e:=a) (by rw [eH];exact trivial) (.inl rfl) (fun b u _ e=>e) ⟨o,g⟩ ⟨g,hz,sys,vs,r,o,es,ep,g,c,d,rest⟩
 ·exact main I1 eH q
end
theorem Dc:∀{us:List Value} {ns:List Int},IntsAre us ns→Vals (ns.map V.int) us
 | _,_,.nil=>.nil
 | _,_,.cons a u r=>.cons ⟨u,rfl⟩ (Dc r)
def J9:List V→Hp→VK→Prop:=fun xs H Q=>∃(a:Addr) (zs:List Int),xs=[.ref a]∧H a=some (.lst (zs.map V.int))∧zs.length<64∧∀(ws:List Int) (D:Addr),ws.Perm zs→ws.Pairwise (·≤·)→H D=none→Q (.ref D) (upd H D (.lst (ws.map V.int)))
theorem vE{X:Cx}:fF X (.builtin "sorted") J9:=by
 intro pins s σ H xs us Q I r h;obtain ⟨a,zs,rfl,ha,vB,k⟩:=h;obtain ⟨u,rfl,ru⟩:=vals1 r;cases ru;obtain ⟨its,rv,pl,hz⟩:=I.list (.of ha);have hl:=rv.length;rw [aJ] at hl;refine sorted_ints pl.isList (intsAre_of rv) (by lia) fun out Dd a1 a2 a3=>?_
 obtain ⟨e,he⟩:=sortedAll_at s.heap its out;refine ⟨.ref (s.heap.objs.size+1),_,I.laid (t':=s.toks) (o:=.lst (Dd.map .int)) (fun _ _=>sortedAll_old) (Nat.le_succ _) ⟨?_,out.toList,e,Dc a1,?_⟩,rfl,k Dd _ a2 a3 (I.au.fresh (Nat.le_succ _))⟩
 ·rw [aJ,a2.length_eq]
  rw [l_];lia
 ·simpa using he
end L2
namespace My
open PySem L2
def dk(ks:List Nat):List (Key×V):=ks.map fun k:Nat=>((Sum.inl (k:Int):Key),V.bl true)
def dW(ks:List Nat)(k:Nat):List Nat:=if k∈ks then ks else ks++[k]
theorem De{a b:Nat}:((Sum.inl (a:Int):Key)=Sum.inl (b:Int))↔a=b:=by
 constructor
 ·intro h
  have:=Sum.inl.inj h;lia
 ·rintro rfl;rfl
theorem J_(ks:List Nat):(dk ks).length=ks.length:=aJ _
theorem Ka(ks:List Nat)(k:Nat):((dk ks).any fun kv=>decide (kv.1=(Sum.inl (k:Int):Key)))=decide (k∈ks):=by
 rw [l9,List.any_eq_true,dm];constructor
 ·rintro ⟨kv,h1,h2⟩
  obtain ⟨j,hj,rfl⟩:=d5.mp h1;have:=De.mp (dc h2);subst this;exact hj
 ·intro h
  exact ⟨_,d5.mpr ⟨k,h,rfl⟩,aK rfl⟩
theorem Kb(ks:List Nat)(k:Nat):putK (dk ks) (Sum.inl (k:Int):Key) (V.bl true)=dk (dW ks k):=by
 unfold putK dW;rw [Ka];by_cases h:k∈ks
 ·rw [ae (aK h),ae h]
  unfold dk;rw [dG];refine kT fun j _=>?_;show (if _ then _ else _)=_
  split <;> rfl
 ·rw [aa (by rw [dm];exact h),aa h]
  unfold dk;rw [iI];rfl
theorem Ke(ks:List Nat)(k:Nat):gX (dk ks) (Sum.inl (k:Int):Key)=if k∈ks then some (V.bl true) else none:=by
 induction ks with
 | nil=>simp [dk,gX]
 | cons j r ih=>
  by_cases h:j=k
  ·subst h
   rw [ae (dQ ..)];exact vC rfl
  ·show gX ((Sum.inl (j:Int),V.bl true)::dk r) _=_
   rw [vD (fun e=>h (De.mp e)),ih];by_cases m:k∈r;·rw [ae m,ae (cH _ m)]
   ·rw [aa m,aa (fun x=>by rcases bZ.mp x with e | e;exact h e.symm;exact m e)]
variable {ks:List Nat} {k j:Nat}
theorem vF:j∈dW ks k↔j∈ks∨j=k:=by
 unfold dW;by_cases h:k∈ks
 ·rw [ae h]
  constructor;·exact .inl
  ·rintro (e | rfl)
   ·exact e
   ·exact h
 ·rw [aa h,cR,bV]
theorem Ki(h:ks.Nodup):(dW ks k).Nodup:=by
 unfold dW;by_cases m:k∈ks;·rw [ae m];exact h
 ·rw [aa m]
  refine j7.mpr ⟨h,(by simp),fun a ha b hb=>?_⟩
  rw [bV] at hb;subst hb;rintro rfl;exact m ha
def eU(n:Nat)(ks:List Nat):Prop:=ks.Nodup∧∀k∈ks,k<n
theorem eU.nil(n:Nat):eU n []:=⟨rD,fun _ h=>by cases h⟩
variable {n:Nat}
theorem eU.add(h:eU n ks)(hk:k<n):eU n (dW ks k):=⟨Ki h.1,fun j hj=>by
 rcases vF.mp hj with e | rfl;·exact h.2 j e
 ·exact hk⟩
theorem y_:∀{n:Nat} {ks:List Nat},ks.Nodup→(∀k∈ks,k<n)→ks.length≤n
 | 0,ks,_,h=>by
  cases ks with
  | nil=>exact aw _
  | cons a r=>exact absurd (h a (dQ ..)) (oE _)
 | n+1,ks,nd,h=>by
  have e:=y_ (n:=n) (ks:=ks.erase n) (nd.erase n) (fun k hk=>by have m:=(List.Nodup.mem_erase_iff nd).mp hk;have:=h k m.2;have:=m.1;lia)
  by_cases hm:n∈ks
  ·have:=List.length_erase_of_mem hm
   lia
  ·rw [List.erase_of_not_mem hm] at e
   lia
theorem eU.len(h:eU n ks):ks.length≤n:=y_ h.1 h.2
structure cQ (H:Hp) (D:Addr) (n:Nat) (ds:Nat→Addr) (un:Nat→Prop) (f:Nat→List Nat):Prop where
 lst:H D=some (.lst ((List.range n).map fun i=>V.ref (ds i)))
 inj:∀i j,i<n→j<n→ds i=ds j→i=j
 ne:∀i,i<n→ds i≠D
 at':∀i,i<n→un i→H (ds i)=some (.dK (dk (f i)))
 pl:∀i,i<n→eU n (f i)
def b8(f:Nat→List Nat)(i:Nat)(ks:List Nat):Nat→List Nat:=fun j=>if j=i then ks else f j
variable {H:Hp} {D:Addr} {ds:Nat→Addr} {f:Nat→List Nat} {i:Nat}
theorem cQ.put{un:Nat→Prop}(h:cQ H D n ds un f)(hi:i<n)(hj:j<n)(ui:un i)(hn:n≤1000) :
  y7 H (ds i) (.int (j:Int)) (.bl true) (upd H (ds i) (.dK (dk (dW (f i) j))))∧cQ (upd H (ds i) (.dK (dk (dW (f i) j)))) D n ds un (b8 f i (dW (f i) j)):=by
 refine ⟨.inl ⟨dk (f i),Sum.inl (j:Int),h.at' i hi ui,rfl,?_,by rw [Kb]⟩,?_,h.inj,h.ne,fun k hk uk=>?_,fun k hk=>?_⟩
 ·rw [J_]
  have:=(h.pl i hi).len;exact iG this (iG hn (by rw [l_];decide))
 ·rw [aM (Ne.symm (h.ne i hi))]
  exact h.lst
 ·unfold b8
  by_cases e:k=i
  ·subst e
   rw [ae rfl,av]
  ·rw [aa e,aM (fun z=>e (h.inj k i hk hi z))]
   exact h.at' k hk uk
 ·unfold b8
  by_cases e:k=i;·rw [ae e];exact (h.pl i hi).add hj
  ·rw [aa e];exact h.pl k hk
theorem cQ.ix{un:Nat→Prop}(h:cQ H D n ds un f)(hi:i<n):ic ((List.range n).map fun i=>V.ref (ds i)) (i:Int)=some (V.ref (ds i)):=
 oY (by rw [bU,iH hi];rfl)
def s_(n:Nat)(L:aZ):Prop:=∀p∈L,0≤p.1∧p.1<(n:Int)∧0≤p.2∧p.2<(n:Int)
def eV(n:Nat)(L:aZ)(f:Nat→List Nat):Prop:=∀i j:Nat,i<n→(j∈f i↔((i:Int),(j:Int))∈L∨((j:Int),(i:Int))∈L)
theorem eV.nil(n:Nat):eV n [] (fun _=>[]):=fun i j _=>by simp
theorem eV.more{L:aZ}(h:eV n L f)(hi:i<n)(hj:j<n):eV n (L++[((i:Int),(j:Int))]) (b8 (b8 f i (dW (f i) j)) j (dW (b8 f i (dW (f i) j) j) i)):=fun a b ha=>by
 have e1:∀x y:Nat,y∈b8 f i (dW (f i) j) x↔y∈f x∨(x=i∧y=j):=fun x y=>by
  unfold b8;by_cases e:x=i
  ·subst e
   rw [ae rfl,vF];simp
  ·rw [aa e]
   simp [e]
 have e2:b∈b8 (b8 f i (dW (f i) j)) j (dW (b8 f i (dW (f i) j) j) i) a↔b∈b8 f i (dW (f i) j) a∨(a=j∧b=i):=by
  unfold b8;by_cases e:a=j
  ·subst e
   rw [ae rfl,vF];simp
  ·rw [aa e]
   simp [e]
 rw [e2,e1,h a b ha];simp only [cR,bV,hG];constructor
 ·rintro ((e | e) | ⟨rfl,rfl⟩)
  ·rcases e with e | e
   ·exact .inl (.inl e)
   ·exact .inr (.inl e)
  ·exact .inl (.inr ⟨by lia,by lia⟩)
  ·exact .inr (.inr ⟨rfl,rfl⟩)
 ·rintro ((e | ⟨e1,e2⟩) | (e | ⟨e1,e2⟩))
  ·exact .inl (.inl (.inl e))
  ·exact .inl (.inr ⟨by lia,by lia⟩)
  ·exact .inl (.inl (.inr e))
  ·exact .inr ⟨by lia,by lia⟩
def Df:Sp:=fun vs H Q _=>∃(t:Addr) (n:Nat) (L:aZ),vs=[.ref t]∧iy H t n L∧s_ n L∧n≤1000 ∧
 ∀(H':Hp) (D:Addr) (ds:Nat→Addr) (f:Nat→List Nat),ah H H'→H D=none→(∀i,i<n→H (ds i)=none)→cQ H' D n ds (fun _=>True) f→eV n L f→Q (.ref D) H'
end My
namespace L2
open PySem PySem.Spec PyProof.Rows
def Kj(K:aH):R2:=fun x y H Q=>∃(a b:Addr) (xs ys:List Int),x=.ref a∧y=.ref b∧bD K H a (xs.map V.int)∧bD K H b (ys.map V.int)∧Q (.bl (decide (xs=ys))) H
theorem Kk{X:Cx}(hu:X.A.units+64<cLine):cA X (compareOp .Eq) (Kj X.K):=by
 intro pins s σ H x y v u Q I rx ry h;obtain ⟨a,b,xs,ys,rfl,rfl,h1,h2,q⟩:=h;cases rx;cases ry;obtain ⟨us,r1,t1,_⟩:=I.list h1;obtain ⟨vs,r2,t2,_⟩:=I.list h2;have l1:=r1.length;have l2:=r2.length;rw [aJ] at l1 l2;by_cases hl:xs.length=ys.length
 ·refine SeqAt.RcAt.lists (e:=fun j=>gb (.int (xs.getD j 0)) (.int (ys.getD j 0))) t1.isList t2.isList (by simp;lia) (by lia) (fun j z1 z2=>?_) _ _ _ _ ?_
  ·have sO:j<us.length:=by simpa using z1
   have Je:j<vs.length:=by simpa using z2
   have ex:(xs.map V.int)[j]?=some (.int (xs.getD j 0)):=by rw [bU,fA];simp [show j<xs.length by lia]
   have ey:(ys.map V.int)[j]?=some (.int (ys.getD j 0)):=by rw [bU,fA];simp [show j<ys.length by lia]
   obtain ⟨x',rJ,rx⟩:=r1.get ex;obtain ⟨y',yC,ry⟩:=r2.get ey;have e1:us.toArray[j]=x':=by simpa using (cy.mp rJ).2
   have e2:vs.toArray[j]=y':=by simpa using (cy.mp yC).2
   rw [e1,e2];exact ya rx ry rfl rfl
  ·rw [show us.toArray.size=xs.length by simp;lia,CA hl]
   exact ⟨.bl (decide (xs=ys)),H,I,rfl,q⟩
 ·rw [bj (fun e=>hl (by rw [e]))] at q
  refine SeqAt.RcAt.lists_lengths t1.isList t2.isList ?_ (by lia) _ _ _ _ ⟨.bl false,H,I,rfl,q⟩
  simp;lia
end L2
namespace My
open PySem L2
def iN(k:Nat):Int:=(k:Int)
def i8(zs:List Int)(n:Nat):Prop:=zs.Perm ((List.range n).map iN)
instance (zs:List Int) (n:Nat):Decidable (i8 zs n):=by unfold i8;exact inferInstance
theorem Kl(n:Nat):((List.range n).map iN).Pairwise (·≤·):=by rw [kY];exact List.Pairwise.imp (fun h=>by unfold iN;lia) uu
variable {ws zs:List Int} {n:Nat}
theorem Dg(p:ws.Perm zs)(o:ws.Pairwise (·≤·)):decide (ws=(List.range n).map iN)=decide (i8 zs n):=by
 by_cases h:i8 zs n
 ·rw [aK h]
  refine aK ?_;exact (p.trans h).eq_of_pairwise (fun a b _ _ h1 h2=>by lia) o (Kl n)
 ·rw [bj h]
  refine bj fun e=>h ?_;subst e;exact p.symm
def Km:Sp:=fun vs H Q _=>∃(a:Addr) (zs:List Int) (n:Nat),vs=[.ref a,.int (n:Int)]∧H a=some (.lst (zs.map V.int))∧zs.length<64∧n≤1000∧(∀H',ah H H'→Q (.bl (decide (i8 zs n))) H')
def Kn(N:Addr):Sp:=fun vs H Q E=>∃(a:Addr) (zs:List Int) (n:Nat),vs=[.ref a,.int (n:Int)]∧H a=some (.lst (zs.map V.int))∧zs.length<64∧n≤1000 ∧
 (¬i8 zs n→∀H',ah H H'→E (.ref N) none H')∧(i8 zs n→∀H',ah H H'→Q .aQ H')
def Ko(H:Hp)(a:Addr)(n:Nat)(o:List Nat):Prop:=H a=some (.lst (o.map fun k:Nat=>V.int (k:Int)))∧o.Perm (List.range n)
def Kp:Sp:=fun vs H Q _=>∃(a:Addr) (n:Nat) (o:List Nat),vs=[.ref a]∧Ko H a n o∧n≤1000 ∧
 ∀(r:Addr) (H':Hp),ah H H'→H r=none→H' r=some (.lst ((List.range n).map fun p=>V.int (o.idxOf p:Int)))→Q (.ref r) H'
variable {H H1:Hp} {D:Addr}
theorem Kq(s:ah H H1)(e:H1 D=none):H D=none:=by
 cases z:H D with
 | none=>rfl
 | some o=>rw [s _ _ z] at e;cases e
theorem kF(s:ah H H1){o:HO}(e:H1 D=none):ah H (upd H1 D o):=eB s (Kq s e)
variable {k:Nat}
theorem Dh(h:k<n):kg n (k:Int)=some k:=by unfold kg;rw [ae (by lia),ae (by lia),cO]
def iz(o:List Nat)(k p:Nat):Int:=if o.idxOf p<k then (o.idxOf p:Int) else 0
variable {o:List Nat}
theorem jG(h:o.Perm (List.range n)):o.Nodup:=h.nodup_iff.mpr j6
theorem iA(h:o.Perm (List.range n)):o.length=n:=by rw [h.length_eq,da]
variable {p:Nat}
theorem dP(h:o.Perm (List.range n)):p∈o↔p<n:=by rw [h.mem_iff,cp]
theorem jH(nd:o.Nodup)(hk:k<o.length):o.idxOf o[k]=k:=nd.idxOf_getElem k hk
theorem kG(h:p∈o):∃hk:o.idxOf p<o.length,o[o.idxOf p]=p:=⟨uw h,List.getElem_idxOf _⟩
theorem Kr(h:o.Perm (List.range n))(hk:k<o.length):((List.range n).map fun p=>V.int (iz o k p)).set o[k] (.int (k:Int))=(List.range n).map fun p=>V.int (iz o (k+1) p):=by
 have nd:=jG h;refine g_ (by simp) fun q h1 h2=>?_
 have hq:q<n:=by simpa using h2
 rw [List.getElem_set];by_cases e:o[k]=q
 ·rw [ae e]
  simp only [fY,jf];unfold iz;rw [←e,jH nd hk,ae (Nat.lt_succ_self k)]
 ·rw [aa e]
  simp only [fY,jf];unfold iz;have ne:o.idxOf q≠k:=fun z=>by obtain ⟨hz,ez⟩:=kG ((dP h).mpr hq);subst z;exact e ez
  by_cases z:o.idxOf q<k;·rw [ae z,ae (by lia)]
  ·rw [aa z,aa (by lia)]
theorem Ks(n:Nat)(o:List Nat):(List.replicate n [V.int 0]).flatten=(List.range n).map fun p=>V.int (iz o 0 p):=by
 have e:∀n:Nat,(List.replicate n [V.int 0]).flatten=List.replicate n (V.int 0):=fun n=>by
  induction n with
  | zero=>rfl
  | succ n ih=>rw [oA,ra,ih];rfl
 rw [e];refine g_ (by simp) fun q h1 h2=>?_
 simp [iz]
theorem Kt(h:o.Perm (List.range n)):(List.range n).map (fun p=>V.int (iz o o.length p))=(List.range n).map fun p=>V.int (o.idxOf p:Int):=by refine kT fun p hp=>?_;unfold iz;rw [ae (uw ((dP h).mpr (cp.mp hp)))]
def lK(n:Nat)(ds:Nat→Addr)(un:Nat→Prop)(H H':Hp):Prop:=∀b o,H b=some o→(∀i,i<n→un i→b≠ds i)→H' b=some o
variable {ds:Nat→Addr}
theorem lK.refl{un:Nat→Prop}:lK n ds un H H:=fun _ _ h _=>h
variable {i:Nat}
theorem lK.put{un:Nat→Prop}(h:lK n ds un H H1)(hi:i<n)(ui:un i){o:HO}:lK n ds un H (upd H1 (ds i) o):=fun b u e k=>by rw [aM (k i hi ui)];exact h b u e k
theorem take_snoc{α:Type}{xs:List α}{x:α}(h:xs[i]?=some x):xs.take (i+1)=xs.take i++[x]:=by rw [rE,h];rfl
def fm(n:Nat)(f:Nat→List Nat)(ps:List Nat)(i j:Nat)(g:Nat→List Nat):Prop:=∀a b:Nat,a<n→(b∈g a↔b∈f a∨(a≠b∧(a∈ps.take i∧b∈ps∨ps[i]?=some a∧b∈ps.take j)))
theorem fm.start(n:Nat)(f:Nat→List Nat)(ps:List Nat):fm n f ps 0 0 f:=fun a b _=>by simp
variable {f g:Nat→List Nat} {ps:List Nat}
theorem fm.row(h:fm n f ps i ps.length g):fm n f ps (i+1) 0 g:=fun a b ha=>by
 rw [h a b ha,jY];cases e:ps[i]? with
 | none=>
  have:ps.length≤i:=xx.mp e;rw [rp this,rp (by lia)]
  simp
 | some x=>
  rw [take_snoc e];simp only [cR,bV,Option.some.injEq,List.take_zero,g8,and_false,g9];constructor
  ·rintro (z | ⟨z,z1 | z1⟩)
   ·exact .inl z
   ·exact .inr ⟨z,.inl z1.1,z1.2⟩
   ·exact .inr ⟨z,.inr z1.1.symm,z1.2⟩
  ·rintro (z | ⟨z,z1 | z1,z2⟩)
   ·exact .inl z
   ·exact .inr ⟨z,.inl ⟨z1,z2⟩⟩
   ·exact .inr ⟨z,.inr ⟨z1.symm,z2⟩⟩
variable {j:Nat}
theorem fm.same{x:Nat}(h:fm n f ps i j g)(hi:ps[i]?=some x)(hj:ps[j]?=some x):fm n f ps i (j+1) g:=fun a b ha=>by
 rw [h a b ha,take_snoc hj];simp only [cR,bV,hi,Option.some.injEq];constructor
 ·rintro (z | ⟨z,z1 | z1⟩)
  ·exact .inl z
  ·exact .inr ⟨z,.inl z1⟩
  ·exact .inr ⟨z,.inr ⟨z1.1,.inl z1.2⟩⟩
 ·rintro (z | ⟨z,z1 | ⟨z1,z2 | z2⟩⟩)
  ·exact .inl z
  ·exact .inr ⟨z,.inl z1⟩
  ·exact .inr ⟨z,.inr ⟨z1,z2⟩⟩
  ·exact absurd (z1.symm.trans z2.symm) z
theorem fm.put{x y:Nat}(h:fm n f ps i j g)(hi:ps[i]?=some x)(hj:ps[j]?=some y)(ne:x≠y):fm n f ps i (j+1) (b8 g x (dW (g x) y)):=fun a b ha=>by
 have e1:b∈b8 g x (dW (g x) y) a↔b∈g a∨(a=x∧b=y):=by
  unfold b8;by_cases e:a=x
  ·subst e
   rw [ae rfl,vF];simp
  ·rw [aa e]
   simp [e]
 rw [e1,h a b ha,take_snoc hj];simp only [cR,bV,hi,Option.some.injEq];constructor
 ·rintro ((z | ⟨z,z1 | z1⟩) | ⟨rfl,rfl⟩)
  ·exact .inl z
  ·exact .inr ⟨z,.inl z1⟩
  ·exact .inr ⟨z,.inr ⟨z1.1,.inl z1.2⟩⟩
  ·exact .inr ⟨ne,.inr ⟨rfl,.inr rfl⟩⟩
 ·rintro (z | ⟨z,z1 | ⟨z1,z2 | z2⟩⟩)
  ·exact .inl (.inl z)
  ·exact .inl (.inr ⟨z,.inl z1⟩)
  ·exact .inl (.inr ⟨z,.inr ⟨z1,z2⟩⟩)
  ·exact .inr ⟨z1.symm,z2⟩
theorem fm.done(h:fm n f ps ps.length 0 g):∀a b:Nat,a<n→(b∈g a↔b∈f a∨(a≠b∧a∈ps∧b∈ps)):=fun a b ha=>by rw [h a b ha,jY];simp
def Ku:Sp:=fun vs H Q _=>∃(D pl:Addr) (n:Nat) (ds:Nat→Addr) (un:Nat→Prop) (f:Nat→List Nat) (ps:List Nat),vs=[.ref D,.ref pl]∧cQ H D n ds un f∧H pl=some (.lst (ps.map fun k:Nat=>V.int (k:Int)))∧(∀p∈ps,p<n∧un p)∧n≤1000 ∧
 ∀(H':Hp) (g:Nat→List Nat),lK n ds un H H'→cQ H' D n ds un g→(∀a b:Nat,a<n→(b∈g a↔b∈f a∨(a≠b∧a∈ps∧b∈ps)))→Q .aQ H'
theorem cQ.mono{H':Hp}{un:Nat→Prop}(h:cQ H D n ds un f)(s:ah H H'):cQ H' D n ds un f:=⟨s _ _ h.lst,h.inj,h.ne,fun i hi ui=>s _ _ (h.at' i hi ui),h.pl⟩
theorem cQ.less{un Di:Nat→Prop}(h:cQ H D n ds un f)(k:∀i,i<n→Di i→un i):cQ H D n ds Di f:=⟨h.lst,h.inj,h.ne,fun i hi ui=>h.at' i hi (k i hi ui),h.pl⟩
variable {x:Addr}
theorem cQ.upd{un:Nat→Prop}(h:cQ H D n ds un f){o:HO}(n1:x≠D)(n2:∀i,i<n→un i→ds i≠x):cQ (upd H x o) D n ds un f:=⟨by rw [aM (Ne.symm n1)];exact h.lst,h.inj,h.ne,fun i hi ui=>by rw [aM (n2 i hi ui)];exact h.at' i hi ui,h.pl⟩
variable {a:Addr}
theorem Kv{o:Obj}{kvs:List (Key×V)}(h:H1 a=some (.bC o (.dK kvs))):lD (jF a o kvs) (kvs.map fun kv=>kV kv.1) H1 where
 go:=fun i Hc s hi=>⟨s _ _ h,by simpa using hi⟩
 dH:=fun i Hc x H' s y=>⟨y.1,fun _=>by obtain ⟨kv,e,rfl⟩:=y.2;rw [bU,e];rfl⟩
 stop:=fun i Hc s hi=>⟨s _ _ h,by simpa using hi⟩
theorem Kw(ks:List Nat):(dk ks).map (fun kv=>kV kv.1)=ks.map fun k:Nat=>V.int (k:Int):=by unfold dk;rw [dG];rfl
theorem Kx(ks:List Nat):(List.range ks.length).map (fun i=>ks.getD i 0)=ks:=by
 refine g_ (by simp) fun i h1 h2=>?_
 simp [fA,h2]
theorem Ky(ks:List Nat)(pr:Nat→Bool):((List.range ks.length).filter fun i=>pr (ks.getD i 0)).map (fun i=>ks.getD i 0)=ks.filter pr:=by have e:=List.filter_map (f:=fun i=>ks.getD i 0) (l:=List.range ks.length) (p:=pr);rw [Kx] at e;exact e.symm
variable {ρ:St→St} {tt:TT} {te:TE} {σ:St} {Q:VK} {ks:List Nat}
theorem Dj{ob:Obj}(h:H a=some (.bC ob (.dK (dk ks))))(pr:Nat→Bool)(hl:ks.length<sizeLine)
  (test:∀k∈ks,∀(Hc:Hp) (R:Bool→Hp→Prop),ah H Hc→R (pr k) Hc→tt (some (.int (k:Int))::ρ σ) Hc R)
  (step:∀k∈ks,∀(Hc:Hp) (R:VK),R (.int (k:Int)) Hc→te (some (.int (k:Int))::ρ σ) Hc R)
  (fin:∀D Hc,H D=none→ah H Hc→Hc D=some (.lst ((ks.filter pr).map fun k:Nat=>V.int (k:Int)))→Q (.ref D) Hc):fK (fun _ H R=>R (jF a ob (dk ks)) H) ρ tt te σ H Q:=by
 have at':∀{i:Nat} {x:V},(ks.map fun k:Nat=>V.int (k:Int))[i]?=some x→i<ks.length∧x=.int ((ks.getD i 0:Nat):Int)∧ks.getD i 0∈ks:=fun{i x} hx=>by
  have hi:i<ks.length:=by have:=(cy.mp hx).1;simpa using this
  rw [bU] at hx;simp [hi] at hx;rw [getD_at hi];exact ⟨hi,hx.symm,dv hi⟩
 refine CV (xs:=ks.map fun k:Nat=>V.int (k:Int)) (fun i=>pr (ks.getD i 0)) (fun R k=>k _ (by rw [←Kw];exact Kv h)) (by rw [aJ];exact hl) (fun _ i y _=>y=.int ((ks.getD i 0:Nat):Int)) (fun _ _ _ _ _ _ h _ _=>h) ?_ ?_ ?_
 ·intro i x hx Hc R sc hR
  obtain ⟨_,rfl,m⟩:=at' hx;exact test _ m Hc R sc hR
 ·intro D i x hx Hc R sc _ kc
  obtain ⟨_,rfl,m⟩:=at' hx;exact step _ m Hc R (kc _ Hc (ah.refl _) rfl)
 ·intro D ys Hc nD sc ly hP eD
  refine fin D Hc nD sc ?_;rw [eD,←Ky ks pr,dG];rw [aJ] at ly hP
  congr 2
  refine g_ (by simpa using ly) fun k h1 h2=>?_
  have h3:k<((List.range ks.length).filter fun i=>pr (ks.getD i 0)).length:=by simpa using h2
  rw [fY];exact hP k _ _ (dR h1) (dR h3)
theorem za(p:ws.Perm (ks.map iN)):∃ms:List Nat,ws=ms.map iN∧ms.Perm ks:=by
 refine ⟨ws.map Int.toNat,?_,?_⟩
 ·rw [dG]
  conv=>lhs;rw [←oH ws]
  refine kT fun z hz=>?_
  obtain ⟨k,_,rfl⟩:=d5.mp (p.mem_iff.mp hz)
  show iN k=iN (Int.toNat (iN k))
  unfold iN
  rw [cO]
 ·have:=p.map Int.toNat
  rw [dG] at this
  have e:ks.map (Int.toNat ∘ iN)=ks:=by
   conv=>rhs;rw [←oH ks]
   exact kT fun k _=>cO k
  rw [e] at this
  exact this
structure fq (n:Nat) (o:List Nat) (p:Nat) (ms:List Nat):Prop where
 up:ms.Pairwise (· < ·)
 lt:∀q∈ms,q<n
 la:∀q∈ms,o.idxOf p<o.idxOf q
theorem Dk{ms:List Nat}(hk:eU n ks)(h:ms.Perm (ks.filter fun q=>decide (o.idxOf p<o.idxOf q)))(s:(ms.map iN).Pairwise (·≤·)):fq n o p ms:=by
 have m:∀q∈ms,q∈ks∧o.idxOf p<o.idxOf q:=fun q hq=>by have:=fz.mp (h.mem_iff.mp hq);exact ⟨this.1,by simpa using this.2⟩
 refine ⟨?_,fun q hq=>hk.2 q (m q hq).1,fun q hq=>(m q hq).2⟩;have nd:ms.Nodup:=h.nodup_iff.mpr (hk.1.filter _);rw [kY] at s;refine List.Pairwise.imp₂ (fun a b h1 h2=>?_) s nd;have h1:(a:Int)≤(b:Int):=h1;have h2:a≠b:=h2;lia
def zb(H:Hp)(D:Addr)(n:Nat)(rs:Nat→Addr)(g:Nat→List Nat):Prop:=H D=some (.lst ((List.range n).map fun p=>V.ref (rs p)))∧∀p,p<n→H (rs p)=some (.lst ((g p).map fun k:Nat=>V.int (k:Int)))
theorem Kz(h:i8 zs n):∃o:List Nat,zs=o.map iN∧o.Perm (List.range n):=za h
def iB(rs:Nat→Addr)(p:Nat)(x:Addr):Nat→Addr:=fun q=>if q=p then x else rs q
theorem KA(n:Nat)(rs:Nat→Addr)(p:Nat)(x:Addr):((List.range n).map fun q=>V.ref (rs q)).set p (.ref x)=(List.range n).map fun q=>V.ref (iB rs p x q):=by
 refine g_ (by simp) fun q h1 h2=>?_
 rw [List.getElem_set,fY,jf,fY,jf];unfold iB;by_cases e:p=q
 ·subst e
  rw [ae rfl,ae rfl]
 ·rw [aa e,aa (Ne.symm e)]
variable {rs:Nat→Addr}
theorem Dl:iB rs p x p=x:=ae rfl
variable {q:Nat}
theorem KC(h:q≠p):iB rs p x q=rs q:=aa h
theorem zc{x:List Nat}:b8 f p x p=x:=ae rfl
theorem zd{x:List Nat}(h:q≠p):b8 f p x q=f q:=aa h
theorem jI{g:Nat→V}(h:p<n):ic ((List.range n).map g) (p:Int)=some (g p):=oY (by rw [bU,iH h];rfl)
theorem KD(o ks:List Nat)(p:Nat):(ks.filter fun q=>decide ((o.idxOf p:Int)<(o.idxOf q:Int)))=ks.filter fun q=>decide (o.idxOf p<o.idxOf q):=by refine List.filter_congr fun q _=>?_;rw [l9,dm,dm];lia
theorem kH(h:o.Perm (List.range n))(hp:p<n)(hq:q<n)(ne:p≠q):o.idxOf p≠o.idxOf q:=fun z=>by
 obtain ⟨h1,e1⟩:=kG ((dP h).mpr hp);obtain ⟨h2,e2⟩:=kG ((dP h).mpr hq);refine ne ?_;rw [←e1,←e2]
 congr 1
theorem ze{wi:TI}(h:wi σ H fun J H1=>fK (fun _ H R=>R J H) ρ tt te σ H1 Q):fK wi ρ tt te σ H Q:=h
end My
namespace L2
open PySem PySem.Spec PyProof.Rows
section
variable {X:Cx} {pins:aN} {σ:St} {H:Hp} {s:Shared}
end
end L2
namespace My
open PySem L2
theorem zf{n:Nat}{o:List Nat}(h:o.Perm (List.range n)){p:Nat}{ms:List Nat}(k:fq n o p ms):ms.length≤n-1-o.idxOf p:=by
 have nd:(ms.map fun q=>o.idxOf q-(o.idxOf p+1)).Nodup:=by rw [ux,kY];refine List.Pairwise.imp_of_mem (fun{a b} ha hb lt=>?_) k.up;have h1:=k.la a ha;have h2:=k.la b hb;have ne:=kH h (k.lt a ha) (k.lt b hb) (bY lt);lia
 have:=y_ (n:=n-1-o.idxOf p) nd (fun x hx=>by obtain ⟨q,hq,rfl⟩:=d5.mp hx;have h1:=k.la q hq;have h2:=(kG ((dP h).mpr (k.lt q hq))).1;rw [iA h] at h2;lia)
 rwa [aJ] at this
def fu(p q:Nat):Int×Int:=(if (q:Int)<(p:Int) then (q:Int) else (p:Int),if (q:Int)>(p:Int) then (q:Int) else (p:Int))
end My
namespace L2
open PySem PySem.Spec PyProof.Rows
theorem KG{X:Cx}{E:XK}(L:o_ X E):PassesOwn (model X.prog X.w) X.A X.env X.xe:=by rw [L.xe];exact PassesOwn.leaving
end L2
namespace My
open PySem L2
def KH:Sp:=fun vs H Q _=>∃m:Nat,vs=[.int (m:Int)]∧m≤1000∧Q (.int ((m:Int)*m+3*m+1)) H
end My
namespace L2
open PySem PySem.Spec PyProof.Rows
end L2
namespace My
open PySem L2
end My
namespace L2
open PySem PySem.Spec PyProof.Rows
end L2
namespace My
open PySem L2
end My
namespace L2
open PySem PySem.Spec PyProof.Rows
theorem KN{X:Cx}{K:aH}(hk:X.K=K:=by rfl):cA X (compareOp .In) (uW K false):=by subst hk;exact yb
end L2
namespace My
open PySem L2
theorem RB(xs:List V)(k:Nat)(h:k≤xs.length):h_ xs none (some (k:Int))=xs.take k:=by
 unfold h_ HT.d8;simp only;rw [aa (by lia),cO,Nat.min_eq_left h,Nat.sub_zero]
 rfl
theorem KO(xs:List V)(k:Nat)(h:k≤xs.length):h_ xs (some (k:Int)) none=xs.drop k:=by
 unfold h_ HT.d8;simp only;rw [aa (by lia),cO,Nat.min_eq_left h]
 exact rp (by rw [q_];exact aw _)
variable {n:Nat} {bb:Nat→Nat→Prop} {bh:Nat→Prop} {s:Nat}
end My
namespace L2
open PySem PySem.Spec PyProof.Rows
theorem Dm{X:Cx}{K:aH}(hk:X.K=K:=by rfl):cA X (compareOp .NotIn) (uW K true):=by subst hk;exact G_
end L2
namespace My
open PySem L2
structure vG (H:Hp) (D:Addr) (n:Nat) (ds:Nat→Addr) (f:Nat→List Nat):Prop where
 lst:H D=some (.lst ((List.range n).map fun i=>V.ref (ds i)))
 at':∀i,i<n→H (ds i)=some (.dK (dk (f i)))∨∃ob,H (ds i)=some (.bC ob (.dK (dk (f i))))
variable {H:Hp} {D:Addr} {n:Nat}
theorem cQ.fr{ds:Nat→Addr}{f:Nat→List Nat}(h:cQ H D n ds (fun _=>True) f):vG H D n ds f:=⟨h.lst,fun i hi=>.inl (h.at' i hi trivial)⟩
theorem tf(done:List Nat)(k:Nat):jA (.int (k:Int)) (done.map fun k:Nat=>V.int (k:Int))=decide (k∈done):=by
 unfold jA;rw [l9,List.any_eq_true,dm];constructor
 ·rintro ⟨y,hy,e⟩
  obtain ⟨j,hj,rfl⟩:=d5.mp hy;have e:((j:Int) == (k:Int))=true:=e;rw [beq_iff_eq] at e;have:j=k:=by lia
  subst this;exact hj
 ·intro h
  exact ⟨_,d5.mpr ⟨k,h,rfl⟩,Cw rfl⟩
theorem zg(done:List Nat):(done.map fun k:Nat=>V.int (k:Int)).all ie=true:=by rw [rg];intro x hx;obtain ⟨j,_,rfl⟩:=d5.mp hx;rfl
variable {a:Addr} {kvs:List (Key×V)} {R:It→Hp→Prop}
theorem KP(h:H a=some (.dK kvs)∨∃ob,H a=some (.bC ob (.dK kvs)))(k:∀(ob:Obj) (Hf:Hp),Hf a=some (.bC ob (.dK kvs))→(∀b u,b≠a→H b=some u→Hf b=some u)→R (jF a ob kvs) Hf) :
  (H a=some (.dK kvs)∧∀o,R (jF a o kvs) (upd H a (.bC o (.dK kvs))))∨∃o,H a=some (.bC o (.dK kvs))∧R (jF a o kvs) H:=by
 rcases h with e | ⟨ob,e⟩;·exact .inl ⟨e,fun o=>k o _ av fun b u ne hb=>by rw [aM ne];exact hb⟩
 ·exact .inr ⟨ob,e,k ob H e fun _ _ _ h=>h⟩
theorem KQ{tl:TE}{σ:St}(hp:∀Q:VK,Q (.ref a) H→tl σ H Q)(h:H a=some (.dK kvs)∨∃ob,H a=some (.bC ob (.dK kvs)))(k:∀(ob:Obj) (Hf:Hp),Hf a=some (.bC ob (.dK kvs))→(∀b u,b≠a→H b=some u→Hf b=some u)→R (jF a ob kvs) Hf):C9 tl σ H R:=hp _ ⟨a,kvs,rfl,KP h k⟩
def i9(g:Nat→List Nat)(i j:Nat):Nat→List Nat:=b8 g i (g i++[j])
variable {g:Nat→List Nat} {i j:Nat}
theorem Dn{a b:Nat}:b∈i9 g i j a↔b∈g a∨(a=i∧b=j):=by
 unfold i9 b8;by_cases e:a=i
 ·subst e
  rw [ae rfl,cR,bV];simp
 ·rw [aa e]
  simp [e]
theorem zh{a:Nat}:(i9 g i j a).length≤(g a).length+1:=by
 unfold i9 b8;by_cases e:a=i
 ·subst e
  rw [ae rfl,cY];exact aw _
 ·rw [aa e];lia
theorem eV.snoc{L:aZ}(h:eV n L g):eV n (L++[((i:Int),(j:Int))]) (i9 (i9 g i j) j i):=fun a b ha=>by
 rw [Dn,Dn,h a b ha];simp only [cR,bV,hG];constructor
 ·rintro (((e | e) | ⟨rfl,rfl⟩) | ⟨rfl,rfl⟩)
  ·exact .inl (.inl e)
  ·exact .inr (.inl e)
  ·exact .inl (.inr ⟨rfl,rfl⟩)
  ·exact .inr (.inr ⟨rfl,rfl⟩)
 ·rintro ((e | ⟨e1,e2⟩) | (e | ⟨e1,e2⟩))
  ·exact .inl (.inl (.inl e))
  ·exact .inl (.inr ⟨by lia,by lia⟩)
  ·exact .inl (.inl (.inr e))
  ·exact .inr ⟨by lia,by lia⟩
structure gz (H:Hp) (D:Addr) (n:Nat) (rs:Nat→Addr) (g:Nat→List Nat):Prop where
 lst:H D=some (.lst ((List.range n).map fun i=>V.ref (rs i)))
 inj:∀i j,i<n→j<n→rs i=rs j→i=j
 ne:∀i,i<n→rs i≠D
 at':∀i,i<n→H (rs i)=some (.lst ((g i).map fun k:Nat=>V.int (k:Int)))
theorem gz.snoc{rs:Nat→Addr}(h:gz H D n rs g)(j:Nat)(hi:i<n):gz (upd H (rs i) (.lst (((g i).map fun k:Nat=>V.int (k:Int))++[V.int (j:Int)]))) D n rs (i9 g i j):=by
 refine ⟨by rw [aM (Ne.symm (h.ne i hi))];exact h.lst,h.inj,h.ne,fun a ha=>?_⟩
 unfold i9 b8;by_cases e:a=i
 ·subst e
  rw [ae rfl,av,iI];rfl
 ·rw [aa e,aM (fun z=>e (h.inj a i ha hi z))]
  exact h.at' a ha
end My
namespace L2
open PySem PySem.Spec PyProof.Rows
end L2
namespace My
open PySem L2
def KS:Sp:=fun vs H Q _=>∃(z:Int) (n:Nat),vs=[.int z,.int (n:Int)]∧Q (.bl (decide (0≤z∧z<n))) H
end My
namespace L2
open PySem PySem.Spec PyProof.Rows My
end L2
namespace My
open PySem L2
end My
namespace L2
open PySem PySem.Spec PyProof.Rows My
end L2
namespace My
open PySem L2
inductive Wk (bb:Nat→Nat→Prop) (bh:Nat→Prop) (s:Nat):Nat→Prop where
 | one {b:Nat}:bb s b→Wk bb bh s b
 | more {a b:Nat}:Wk bb bh s a→bh a→bb a b→Wk bb bh s b
section
variable {bb:Nat→Nat→Prop} {bh tj:Nat→Prop} {s t:Nat}
theorem Wk.mono(h:Wk bb bh s t)(k:∀x,bh x→tj x):Wk bb tj s t:=by
 induction h with
 | one ab=>exact .one ab
 | more _ o ab ih=>exact .more ih (k _ o) ab
theorem Wk.cons{a:Nat}(ab:bb s a)(ta:bh a)(h:Wk bb bh a t):Wk bb bh s t:=by
 induction h with
 | one e=>exact .more (.one ab) ta e
 | more _ o e ih=>exact .more ih o e
theorem Wk.symm(sy:∀a b,bb a b→bb b a)(h:Wk bb bh s t):Wk bb bh t s:=by
 induction h with
 | one ab=>exact .one (sy _ _ ab)
 | more _ o ab ih=>exact ih.cons (sy _ _ ab) o
variable {p:Nat}
theorem Wk.trans(h:Wk bb bh s p)(tp:bh p)(h':Wk bb bh p t):Wk bb bh s t:=by
 induction h' with
 | one ab=>exact .more h tp ab
 | more _ o ab ih=>exact .more ih o ab
theorem Wk.step(k:∀x,tj x↔bh x∨x=p):Wk bb tj s t↔Wk bb bh s t∨(Wk bb bh s p∧Wk bb bh p t):=by
 constructor
 ·intro h
  induction h with
  | one ab=>exact .inl (.one ab)
  | more _ o ab ih=>
   rcases (k _).mp o with o | rfl
   ·rcases ih with ih | ⟨i1,i2⟩
    ·exact .inl (.more ih o ab)
    ·exact .inr ⟨i1,.more i2 o ab⟩
   ·rcases ih with ih | ⟨i1,_⟩
    ·exact .inr ⟨ih,.one ab⟩
    ·exact .inr ⟨i1,.one ab⟩
 ·have m:∀x,bh x→tj x:=fun x h=>(k x).mpr (.inl h)
  rintro (h | ⟨h,h'⟩);·exact h.mono m
  ·exact (h.mono m).trans ((k p).mpr (.inr rfl)) (h'.mono m)
end
def aL(n:Nat)(L:aZ)(a b:Nat):Prop:=a<n∧b<n∧(((a:Int),(b:Int))∈L∨((b:Int),(a:Int))∈L)
variable {n:Nat} {L:aZ}
theorem jJ(a b:Nat)(h:aL n L a b):aL n L b a:=⟨h.2.1,h.1,h.2.2.symm⟩
def vH(L:aZ):Prop:=∀p∈L,p.1≠p.2
def bQ(n:Nat)(o:List Nat)(k x:Nat):Prop:=x<n∧o.idxOf x<k
def mU(n:Nat)(L:aZ)(o:List Nat)(k:Nat)(f:Nat→List Nat):Prop:=∀a b:Nat,a<n→b<n→k≤o.idxOf a→k≤o.idxOf b→(b∈f a↔a≠b∧Wk (aL n L) (bQ n o k) a b)
variable {o:List Nat} {f:Nat→List Nat}
theorem mU.start(nb:eV n L f)(ns:vH L):mU n L o 0 f:=fun a b ha hb _ _=>by
 rw [nb a b ha];constructor
 ·intro h
  refine ⟨fun e=>?_,.one ⟨ha,hb,h⟩⟩;subst e;rcases h with h | h <;> exact ns _ h rfl
 ·rintro ⟨_,h⟩
  cases h with
  | one ab=>exact ab.2.2
  | more _ o _=>exact absurd o.2 (oE _)
variable {p:Nat}
theorem mU.step(ho:o.Perm (List.range n)){k:Nat}{g:Nat→List Nat}{ms:List Nat}(h:mU n L o k f)(hp:p<n)(ip:o.idxOf p=k)(hm:∀q,q∈ms↔q∈f p∧k<o.idxOf q)(ml:∀q∈ms,q<n)
  (con:∀a b:Nat,a<n→(b∈g a↔b∈f a∨(a≠b∧a∈ms∧b∈ms))):mU n L o (k+1) g:=fun a b ha hb ka kb=>by
 have th:∀x,bQ n o (k+1) x↔bQ n o k x∨x=p:=fun x=>by
  unfold bQ;constructor
  ·rintro ⟨h1,h2⟩
   by_cases e:o.idxOf x=k
   ·right
    by_cases z:x=p;·exact z
    ·exact absurd (e.trans ip.symm) (kH ho h1 hp z)
   ·exact .inl ⟨h1,by lia⟩
  ·rintro (⟨h1,h2⟩ | rfl)
   ·exact ⟨h1,by lia⟩
   ·exact ⟨hp,by lia⟩
 have ap:a≠p:=fun e=>by subst e;lia
 have bp:b≠p:=fun e=>by subst e;lia
 have ea:=h p a hp ha (by lia) (by lia)
 have eb:=h p b hp hb (by lia) (by lia)
 rw [con a b ha,h a b ha hb (by lia) (by lia),hm a,hm b,ea,eb,Wk.step th]
 constructor
 ·rintro (⟨h1,h2⟩ | ⟨h1,⟨⟨_,h2⟩,_⟩,⟨_,h3⟩,_⟩)
  ·exact ⟨h1,.inl h2⟩
  ·exact ⟨h1,.inr ⟨h2.symm jJ,h3⟩⟩
 ·rintro ⟨h1,h2 | ⟨h2,h3⟩⟩
  ·exact .inl ⟨h1,h2⟩
  ·exact .inr ⟨h1,⟨⟨Ne.symm ap,h2.symm jJ⟩,by lia⟩,⟨Ne.symm bp,h3⟩,by lia⟩
def eW(n:Nat)(L:aZ)(o:List Nat)(p:Nat)(ms:List Nat):Prop:=∀q,q∈ms↔q<n∧o.idxOf p<o.idxOf q∧Wk (aL n L) (bQ n o (o.idxOf p)) p q
def KU(N:Addr):Sp:=fun vs H Q E=>∃(t a:Addr) (n:Nat) (L:aZ) (zs:List Int),vs=[.ref t,.ref a]∧iy H t n L∧s_ n L∧vH L∧n≤60∧H a=some (.lst (zs.map V.int))∧zs.length<64 ∧
 (¬i8 zs n→∀H',ah H H'→E (.ref N) none H') ∧
 ∀o:List Nat,zs=o.map iN→o.Perm (List.range n)→∀(H':Hp) (D:Addr) (rs:Nat→Addr) (g:Nat→List Nat),ah H H'→H D=none→(∀p,p<n→H (rs p)=none)→zb H' D n rs g→(∀p,p<n→fq n o p (g p)∧eW n L o p (g p))→Q (.ref D) H'
theorem KY{q p' q':Nat}(h:fu p q=fu p' q'):(p=p'∧q=q')∨(p=q'∧q=p'):=by
 unfold fu at h;have h1:=b9 Prod.fst h;have h2:=b9 Prod.snd h;dsimp only at h1 h2
 split at h1 <;> split at h1 <;> split at h2 <;> split at h2 <;> lia
def kI(n:Nat)(L:aZ)(o:List Nat)(M:aZ):Prop:=M.Pairwise lexLt∧∀z,z∈M↔∃p q:Nat,p<n∧q<n∧o.idxOf p<o.idxOf q∧Wk (aL n L) (bQ n o (o.idxOf p)) p q∧z=fu p q
theorem kI.lt{M:aZ}(h:kI n L o M):∀z∈M,0≤z.1∧z.1<z.2∧z.2<(n:Int):=fun z hz=>by
 obtain ⟨p,q,hp,hq,hi,_,rfl⟩:=(h.2 z).mp hz;have ne:p≠q:=fun e=>by subst e;lia
 unfold fu;dsimp only
 split <;> split <;> lia
end My
namespace L2
open PySem PySem.Spec PyProof.Rows
section
variable {X:Cx} {a b:Expr} {rest:List Expr} {pos:Pos} {ta tb:TE}
end
end L2
namespace My
open PySem L2
end My
namespace L2
open PySem PySem.Spec PyProof.Rows
section
variable {prog:Program} {w:World} {A:Around} {E:aE} {s:Shared}
end
section
variable {prog:Program} {w:World} {A:Around} {E:aE} {s:Shared}
end
section
variable {X:Cx}
end
section
variable {prog:Program} {w:World} {A:Around} {E:aE} {s:Shared}
end
end L2
namespace My
open PySem L2
end My
namespace L2
open PySem PySem.Spec PyProof.Rows
end L2
namespace My
open PySem L2
end My
namespace L2
open PySem PySem.Spec PyProof.Rows
section
variable {X:Cx}
end
end L2
namespace My
open PySem L2
def p2(g:Nat→Nat→Nat):List Nat→Nat
 | []=>0
 | x::l=>(l.map (g x)).sum+p2 g l
def p3(f:Nat→Nat→Nat→Nat):List Nat→Nat
 | []=>0
 | x::l=>p2 (f x) l+p3 f l
variable {g:Nat→Nat→Nat} {l l':List Nat}
theorem Dp(sy:∀x y,g x y=g y x)(p:l.Perm l'):p2 g l=p2 g l':=by
 induction p with
 | nil=>rfl
 | cons x p ih=>simp only [p2,ih];rw [(p.map (g x)).sum_nat]
 | swap x y l=>simp only [p2,cP,d6];rw [sy x y];lia
 | trans _ _ h1 h2=>exact h1.trans h2
theorem KZ{f:Nat→Nat→Nat→Nat}(s1:∀x y z,f x y z=f y x z)(s2:∀x y z,f x y z=f x z y)(p:l.Perm l'):p3 f l=p3 f l':=by
 induction p with
 | nil=>rfl
 | cons x p ih=>simp only [p3,ih];rw [Dp (s2 x) p]
 | swap x y l=>simp only [p3,p2];rw [show l.map (f y x)=l.map (f x y) from kT fun z _=>s1 y x z];lia
 | trans _ _ h1 h2=>exact h1.trans h2
variable {f:Nat→Nat}
theorem jK{g:Nat→Nat}(h:∀x∈l,f x=g x):(l.map f).sum=(l.map g).sum:=b9 List.sum (kT h)
theorem tm(h:∀x∈l,f x=0):(l.map f).sum=0:=by
 induction l with
 | nil=>rfl
 | cons x l ih=>rw [cP,d6,h x dQ,ih fun y hy=>h y (cH _ hy)]
theorem zi{g:Nat→Nat}(h:∀x∈l,f x≤g x):(l.map f).sum≤(l.map g).sum:=by
 induction l with
 | nil=>exact aw _
 | cons x l ih=>rw [cP,d6,cP,d6];have:=h x dQ;have:=ih fun y hy=>h y (cH _ hy);lia
theorem K6{g:Nat→Nat}:(l.map fun x=>f x+g x).sum=(l.map f).sum+(l.map g).sum:=by
 induction l with
 | nil=>rfl
 | cons x l ih=>simp only [cP,d6,ih];lia
variable {b c:Nat}
theorem K7(nd:l.Nodup)(hb:b∈l):(l.map fun y=>if y=b then c else 0).sum=c:=by
 induction l with
 | nil=>cases hb
 | cons x l ih=>
  rw [cP,d6];obtain ⟨n1,n2⟩:=jW.mp nd;rcases bZ.mp hb with rfl | h
  ·rw [ae rfl,tm fun y hy=>aa (fun e:y=b=>n1 (e▸hy))]
   lia
  ·rw [aa (fun e:x=b=>n1 (e▸h)),ih n2 h]
   lia
variable {g':Nat→Nat→Nat}
theorem zj(nd:l.Nodup)(h:∀x∈l,∀y∈l,x≠y→g x y=g' x y):p2 g l=p2 g' l:=by
 induction l with
 | nil=>rfl
 | cons x l ih=>obtain ⟨n1,n2⟩:=jW.mp nd;show (l.map (g x)).sum+p2 g l=(l.map (g' x)).sum+p2 g' l;rw [jK fun y hy=>h x dQ y (cH _ hy) fun e=>n1 (e▸hy),ih n2 fun a ha b hb=>h a (cH _ ha) b (cH _ hb)]
theorem Dq(h:∀x∈l,∀y∈l,g x y≤g' x y):p2 g l≤p2 g' l:=by
 induction l with
 | nil=>exact aw _
 | cons x l ih=>show (l.map (g x)).sum+p2 g l≤(l.map (g' x)).sum+p2 g' l;exact Nat.add_le_add (zi fun y hy=>h x dQ y (cH _ hy)) (ih fun a ha b hb=>h a (cH _ ha) b (cH _ hb))
theorem K_{f f':Nat→Nat→Nat→Nat}(h:∀x∈l,∀y∈l,∀z∈l,f x y z≤f' x y z):p3 f l≤p3 f' l:=by
 induction l with
 | nil=>exact aw _
 | cons x l ih=>show p2 (f x) l+p3 f l≤p2 (f' x) l+p3 f' l;exact Nat.add_le_add (Dq fun y hy z hz=>h x dQ y (cH _ hy) z (cH _ hz)) (ih fun a ha b hb c hc=>h a (cH _ ha) b (cH _ hb) c (cH _ hc))
theorem La:p2 (fun x y=>g x y+g' x y) l=p2 g l+p2 g' l:=by
 induction l with
 | nil=>rfl
 | cons x l ih=>simp only [p2,ih,K6];lia
theorem Dr(h:∀x∈l,∀y,g x y=0):p2 g l=0:=by
 induction l with
 | nil=>rfl
 | cons x l ih=>show (l.map (g x)).sum+p2 g l=0;rw [tm fun y _=>h x dQ y,ih fun a ha=>h a (cH _ ha)]
variable {a:Nat}
theorem Lb(pw:l.Pairwise (· < ·))(ha:a∈l)(hb:b∈l)(ab:a<b):p2 (fun i j=>if i=a∧j=b then c else 0) l=c:=by
 induction l with
 | nil=>cases ha
 | cons x l ih=>
  obtain ⟨n1,n2⟩:=jg.mp pw;have nd:l.Nodup:=n2.imp fun h=>bY h;show (l.map fun j=>if x=a∧j=b then c else 0).sum+p2 _ l=c
  rcases bZ.mp ha with rfl | h
  ·have tu:b∈l:=by
    rcases bZ.mp hb with rfl | h;·lia
    ·exact h
   rw [show (l.map fun j=>if a=a∧j=b then c else 0).sum=(l.map fun y=>if y=b then c else 0).sum from jK fun y _=>by simp,K7 nd tu,Dr fun i hi j=>aa fun e=>by have:=n1 i hi;lia]
   lia
  ·have xa:=n1 a h
   have tu:b∈l:=by
    rcases bZ.mp hb with rfl | h;·lia
    ·exact h
   rw [tm fun y _=>aa fun e=>by lia,ih n2 h tu]
   lia
theorem tw(pw:l.Pairwise (· < ·)):p2 g l=(l.map fun y=>(l.map fun z=>if y<z then g y z else 0).sum).sum:=by
 induction l with
 | nil=>rfl
 | cons x l ih=>
  obtain ⟨n1,n2⟩:=jg.mp pw;show (l.map (g x)).sum+p2 g l=_;rw [cP,d6,cP,d6,aa (eL x),ih n2];rw [show (l.map fun z=>if x<z then g x z else 0).sum=(l.map (g x)).sum from jK fun z hz=>ae (n1 z hz)]
  rw [show (l.map fun y=>((x::l).map fun z=>if y<z then g y z else 0).sum).sum=(l.map fun y=>(l.map fun z=>if y<z then g y z else 0).sum).sum from jK fun y hy=>by
   rw [cP,d6,aa (by have:=n1 y hy;lia)]
   lia]
  lia
theorem Lc{f:Nat→Nat→Nat→Nat}(pw:l.Pairwise (· < ·)):p3 f l=p2 (fun x y=>(l.map fun z=>if y<z then f x y z else 0).sum) l:=by
 induction l with
 | nil=>rfl
 | cons x l ih=>
  obtain ⟨n1,n2⟩:=jg.mp pw;have nd:l.Nodup:=n2.imp fun h=>bY h;have one:∀u,∀y∈l,((x::l).map fun z=>if y<z then f u y z else 0).sum=(l.map fun z=>if y<z then f u y z else 0).sum:=fun u y hy=>by
   rw [cP,d6,aa (by have:=n1 y hy;lia)]
   lia
  show p2 (f x) l+p3 f l=(l.map fun y=>((x::l).map fun z=>if y<z then f x y z else 0).sum).sum+p2 (fun u y=>((x::l).map fun z=>if y<z then f u y z else 0).sum) l
  rw [ih n2,tw n2,jK (one x),zj nd fun u _ y hy _=>one u y hy]
theorem pH(n:Nat):(List.range n).Pairwise (· < ·):=uu
theorem zl{n:Nat}{W:Nat→Nat→Nat}:∀{M:aZ},M.Nodup→(∀z∈M,0≤z.1∧z.1<z.2∧z.2<(n:Int))→(M.map fun z=>W z.1.toNat z.2.toNat).sum=p2 (fun i j=>if ((i:Int),(j:Int))∈M then W i j else 0) (List.range n)
 | [],_,_=>by rw [Dr fun i _ j=>aa fun h=>nomatch h];rfl
 | z::M,nd,lt=>by
  obtain ⟨n1,n2⟩:=jW.mp nd;obtain ⟨z0,z1,z2⟩:=lt z dQ;rw [cP,d6,zl n2 fun y hy=>lt y (cH _ hy)];have d:=Lb (c:=W z.1.toNat z.2.toNat) (pH n) (a:=z.1.toNat) (b:=z.2.toNat) (cp.mpr (by lia)) (cp.mpr (by lia)) (by lia)
  rw [←d,←La];refine zj j6 fun i _ j _ _=>?_;by_cases e:i=z.1.toNat∧j=z.2.toNat
  ·have ez:((i:Int),(j:Int))=z:=by obtain ⟨e1,e2⟩:=e;subst e1;subst e2;rw [Int.toNat_of_nonneg z0,Int.toNat_of_nonneg (by lia)]
   obtain ⟨e1,e2⟩:=e;have hm:((i:Int),(j:Int))∈z::M:=ez.symm▸dQ;have hn:¬((i:Int),(j:Int))∈M:=fun h=>n1 (ez▸h);rw [ae ⟨e1,e2⟩,ae hm,aa hn,←e1,←e2,rq]
  ·rw [aa e]
   have:((i:Int),(j:Int))≠z:=fun h=>e (by subst h;exact ⟨(cO i).symm,(cO j).symm⟩)
   by_cases h:((i:Int),(j:Int))∈M
   ·rw [ae h,ae (cH _ h)]
    lia
   ·rw [aa h,aa fun h'=>(bZ.mp h').elim this h]
def rL(M:aZ)(a b:Nat):Bool:=decide (((a:Int),(b:Int))∈M) || decide (((b:Int),(a:Int))∈M)
variable {M:aZ}
theorem kJ:rL M a b=true↔((a:Int),(b:Int))∈M∨((b:Int),(a:Int))∈M:=by unfold rL;rw [uy,dm,dm]
theorem pI(M:aZ)(a b:Nat):rL M a b=rL M b a:=Bool.or_comm ..
def jL(r:Nat→Nat→Bool)(x y:Nat):Nat:=if r x y then 1 else 0
def fS(r:Nat→Nat→Bool)(x y z:Nat):Nat:=if r x y && r x z && r y z then 1 else 0
def kK(n:Nat)(M:aZ):Nat:=p3 (fS (rL M)) (List.range n)
def gY(n:Nat)(M:aZ):Nat:=4*M.length+2*kK n M+n
variable {n:Nat}
theorem zo(nd:M.Nodup)(lt:∀z∈M,0≤z.1∧z.1<z.2∧z.2<(n:Int)):M.length=p2 (jL (rL M)) (List.range n):=by
 have:=zl (W:=fun _ _=>1) nd lt;rw [show (M.map fun z=>(fun _ _=>1:Nat→Nat→Nat) z.1.toNat z.2.toNat).sum=M.length from by
  clear this nd lt
  induction M with
  | nil=>rfl
  | cons z M ih=>rw [cP,d6,ih,ee];exact Nat.add_comm 1 _] at this
 rw [this,tw (pH n),tw (pH n)];refine jK fun i _=>jK fun j _=>?_;by_cases ij:i<j
 ·rw [ae ij,ae ij]
  unfold jL;by_cases h:((i:Int),(j:Int))∈M;·rw [ae h,ae (kJ.mpr (.inl h))]
  ·rw [aa h,aa fun h'=>by
    rcases kJ.mp h' with h' | h';·exact h h'
    ·have:=lt _ h'
     lia]
 ·rw [aa ij,aa ij]
theorem Ld(nd:M.Nodup)(lt:∀z∈M,0≤z.1∧z.1<z.2∧z.2<(n:Int)) :
  (M.map fun z=>((List.range n).filter fun k=>decide (z.2.toNat<k) && rL M z.1.toNat k && rL M z.2.toNat k).length).sum=kK n M:=by
 have:=zl (n:=n) (W:=fun i j=>((List.range n).filter fun k=>decide (j<k) && rL M i k && rL M j k).length) nd lt;rw [this];unfold kK;rw [Lc (pH n),tw (pH n),tw (pH n)];refine jK fun i _=>jK fun j _=>?_;by_cases ij:i<j
 ·rw [ae ij,ae ij]
  have fl:∀(l:List Nat) (c:Nat→Bool),(l.filter c).length=(l.map fun k=>if c k then 1 else 0).sum:=fun l c=>by
   induction l with
   | nil=>rfl
   | cons x l ih=>
    rw [uz,cP,d6];by_cases h:c x;·rw [ae h,ae h,ee,ih];lia
    ·rw [aa h,aa h,ih];lia
  by_cases h:((i:Int),(j:Int))∈M
  ·rw [ae h,fl]
   refine jK fun k _=>?_;unfold fS;by_cases jk:j<k;·rw [ae jk,aK jk,kJ.mpr (.inl h)]
   ·rw [aa jk,bj jk]
    rfl
  ·rw [aa h,tm fun k _=>?_]
   by_cases jk:j<k
   ·rw [ae jk]
    unfold fS;rw [aa fun h'=>?_];rw [iF,iF] at h';rcases kJ.mp h'.1.1 with h' | h';·exact h h'
    ·have:=lt _ h'
     lia
   ·rw [aa jk]
 ·rw [aa ij,aa ij]
theorem Le(M:aZ)(x y z:Nat):fS (rL M) x y z=fS (rL M) y x z:=by unfold fS;rw [pI M y x];cases rL M x y <;> cases rL M x z <;> cases rL M y z <;> rfl
theorem Lf(M:aZ)(x y z:Nat):fS (rL M) x y z=fS (rL M) x z y:=by unfold fS;rw [pI M z y];cases rL M x y <;> cases rL M x z <;> cases rL M y z <;> rfl
theorem Ds(a:Nat→Bool):∀l:List Nat,2*p2 (fun y z=>if a y && a z then 1 else 0) l+(l.map fun y=>if a y then 1 else 0).sum=(l.map fun y=>if a y then 1 else 0).sum*(l.map fun y=>if a y then 1 else 0).sum
 | []=>rfl
 | x::l=>by
  have ih:=Ds a l;simp only [p2,cP,d6];by_cases h:a x
  ·simp only [h,Bool.true_and,if_true]
   simp only [Nat.add_mul,Nat.mul_add];lia
  ·simp only [h,Bool.false_and,Bool.false_eq_true,if_false]
   rw [tm fun _ _=>rfl,dF,dF];exact ih
def Good(r:Nat→Nat→Bool)(m:Nat→Nat):List Nat→Prop
 | []=>True
 | x::l=>m x=(l.map fun y=>if r x y then 1 else 0).sum∧(∀y∈l,∀z∈l,y≠z→r x y=true→r x z=true→r y z=true)∧Good r m l
theorem Dt{r:Nat→Nat→Bool}{m:Nat→Nat}:∀{l:List Nat},l.Nodup→Good r m l→(l.map fun x=>m x*m x+3*m x+1).sum=4*p2 (jL r) l+2*p3 (fS r) l+l.length
 | [],_,_=>rfl
 | x::l,nd,⟨h1,h2,h3⟩=>by
  obtain ⟨n1,n2⟩:=jW.mp nd;have ih:=Dt n2 h3;have e:p2 (fS r x) l=p2 (fun y z=>if r x y && r x z then 1 else 0) l:=zj n2 fun y hy z hz yz=>by
   unfold fS;by_cases a:r x y <;> by_cases b:r x z;·simp [a,b,h2 y hy z hz yz a b]
   ·simp [a,b]
   ·simp [a,b]
   ·simp [a,b]
  have e2:(l.map (jL r x)).sum=m x:=h1.symm;have pk:=Ds (r x) l;rw [←h1] at pk;show m x*m x+3*m x+1+(l.map fun x=>m x*m x+3*m x+1).sum=4*((l.map (jL r x)).sum+p2 (jL r) l)+2*(p2 (fS r x) l+p3 (fS r) l)+(l.length+1);rw [ih,e2,e];lia
variable {L:aZ} {o:List Nat}
theorem Lg(f:kI n L o M)(h:aL n M a b){k:Nat}(hk:o.idxOf a≤k∨o.idxOf b≤k):Wk (aL n L) (bQ n o k) a b:=by
 have go:∀{a b:Nat},((a:Int),(b:Int))∈M→(o.idxOf a≤k∨o.idxOf b≤k)→Wk (aL n L) (bQ n o k) a b:=fun{a b} hm hk=>by
  obtain ⟨p,q,hp,hq,pq,w,e⟩:=(f.2 _).mp hm;have e:fu a b=fu p q:=by rw [←e];have:=f.lt _ hm;unfold fu;rw [aa (by lia),ae (by lia)]
  rcases KY e with ⟨rfl,rfl⟩ | ⟨rfl,rfl⟩;·exact w.mono fun x hx=>⟨hx.1,by have:=hx.2;lia⟩
  ·exact (w.symm jJ).mono fun x hx=>⟨hx.1,by have:=hx.2;lia⟩
 rcases h.2.2 with h | h;·exact go h hk
 ·exact (go h hk.symm).symm jJ
theorem lL(f:kI n L o M)(ha:a<n)(hb:b<n)(ab:o.idxOf a<o.idxOf b):rL M a b=true↔Wk (aL n L) (bQ n o (o.idxOf a)) a b:=by
 constructor
 ·intro h
  exact Lg f ⟨ha,hb,kJ.mp h⟩ (.inl (aw _))
 ·intro w
  have hm:=(f.2 _).mpr ⟨a,b,ha,hb,ab,w,rfl⟩;rw [kJ];unfold fu at hm;by_cases h:(b:Int)<(a:Int)
  ·rw [ae h,aa (by lia)] at hm
   exact .inr hm
  ·by_cases h':(b:Int)>(a:Int)
   ·rw [aa h,ae h'] at hm
    exact .inl hm
   ·have e:a=b:=by lia
    subst e;lia
theorem Lh(l:List Nat)(c:Nat→Bool):(l.map fun k=>if c k then 1 else 0).sum=(l.filter c).length:=by
 induction l with
 | nil=>rfl
 | cons x l ih=>
  rw [uz,cP,d6];by_cases h:c x;·rw [ae h,ae h,ee,ih];lia
  ·rw [aa h,aa h,ih];lia
theorem Du{n:Nat}{L M:aZ}{o:List Nat}(ho:o.Perm (List.range n))(f:kI n L o M){g:Nat→List Nat}(hg:∀p,p<n→fq n o p (g p)∧eW n L o p (g p)):∀(l pre:List Nat),o=pre++l→Good (rL M) (fun x=>(g x).length) l
 | [],_,_=>trivial
 | x::l,pre,e=>by
  have nd:=jG ho;have Dv:=nd;rw [e,j7] at Dv;obtain ⟨np,nx,dj⟩:=Dv;obtain ⟨Li,nl⟩:=jW.mp nx;have hx:x<n:=(dP ho).mp (by rw [e];simp)
  have ix:o.idxOf x=pre.length:=by rw [e,List.idxOf_append,aa fun h=>dj x h x dQ rfl,List.idxOf_cons_self,dF]
  have il:∀y,y∈l↔y<n∧o.idxOf x<o.idxOf y:=fun y=>by
   constructor
   ·intro h
    refine ⟨(dP ho).mp (by rw [e];simp [h]),?_⟩
    have yx:y≠x:=fun q=>Li (q▸h);rw [ix,e,List.idxOf_append,aa fun h'=>dj y h' y (cH _ h) rfl,List.idxOf_cons,show (x == y)=false from by simpa using yx.symm]
    simp only [cond_false];lia
   ·rintro ⟨h,h'⟩
    have hm:=(dP ho).mpr h;rw [e,cR,bZ] at hm;rcases hm with hm | rfl | hm
    ·rw [ix,e,List.idxOf_append,ae hm] at h'
     have:=uw hm;lia
    ·lia
    ·exact hm
  refine ⟨?_,?_,Du ho f hg l (pre++[x]) (by rw [e];simp)⟩
  ·rw [Lh]
   obtain ⟨gk,gw⟩:=hg x hx;refine ((oI (gk.up.imp fun h=>bY h) (nl.filter _)).mpr fun q=>?_).length_eq;rw [gw q,fz,il q];constructor
   ·rintro ⟨h1,h2,h3⟩
    exact ⟨⟨h1,h2⟩,(lL f hx h1 h2).mpr h3⟩
   ·rintro ⟨⟨h1,h2⟩,h3⟩
    exact ⟨h1,h2,(lL f hx h1 h2).mp h3⟩
  ·intro y hy z hz yz ry rz
   obtain ⟨y1,y2⟩:=(il y).mp hy;obtain ⟨z1,z2⟩:=(il z).mp hz;have wy:=(lL f hx y1 y2).mp ry;have wz:=(lL f hx z1 z2).mp rz;have ne:=kH ho y1 z1 yz;have both:∀k,o.idxOf x<k→Wk (aL n L) (bQ n o k) y z:=fun k hk=>by
    have m:∀t,bQ n o (o.idxOf x) t→bQ n o k t:=fun t ht=>⟨ht.1,by have:=ht.2;lia⟩
    exact ((wy.symm jJ).mono m).trans ⟨hx,hk⟩ (wz.mono m)
   by_cases h:o.idxOf y<o.idxOf z;·exact (lL f y1 z1 h).mpr (both _ y2)
   ·rw [pI]
    exact (lL f z1 y1 (by lia)).mpr ((both _ z2).symm jJ)
theorem Dw(ho:o.Perm (List.range n))(f:kI n L o M){g:Nat→List Nat}(hg:∀p,p<n→fq n o p (g p)∧eW n L o p (g p)) :
  ((List.range n).map fun x=>(g x).length*(g x).length+3*(g x).length+1).sum=gY n M:=by
 have nd:M.Nodup:=f.1.imp fun h e=>by subst e;unfold lexLt at h;lia
 have gs:=Dt (jG ho) (Du ho f hg o [] rfl);rw [←(ho.map fun x=>(g x).length*(g x).length+3*(g x).length+1).sum_nat,gs];unfold gY kK;rw [zo nd f.lt,Dp (fun x y=>by unfold jL;rw [pI]) ho,KZ (Le M) (Lf M) ho,ho.length_eq,da]
theorem Lj(ho:o.Perm (List.range n))(f:kI n L o M)(nl:L.Nodup)(lt:∀z∈L,0≤z.1∧z.1<z.2∧z.2<(n:Int)):gY n L≤gY n M:=by
 have nd:M.Nodup:=f.1.imp fun h e=>by subst e;unfold lexLt at h;lia
 have sub:∀a b:Nat,rL L a b=true→rL M a b=true:=by
  have go:∀a b:Nat,((a:Int),(b:Int))∈L→rL M a b=true:=fun a b h=>by
   have:=lt _ h;have ha:a<n:=by lia
   have hb:b<n:=by lia
   have ne:=kH ho ha hb (by lia)
   by_cases ab:o.idxOf a<o.idxOf b;·exact (lL f ha hb ab).mpr (.one ⟨ha,hb,.inl h⟩)
   ·rw [pI]
    exact (lL f hb ha (by lia)).mpr (.one ⟨hb,ha,.inr h⟩)
  intro a b h;rcases kJ.mp h with h | h;·exact go a b h
  ·rw [pI]
   exact go b a h
 have h1:p2 (jL (rL L)) (List.range n)≤p2 (jL (rL M)) (List.range n):=Dq fun x _ y _=>by
  unfold jL;by_cases h:rL L x y
  ·rw [ae h,ae (sub x y h)]
   exact aw _
  ·rw [aa h]
   exact cg _
 have h2:kK n L≤kK n M:=K_ fun x _ y _ z _=>by
  unfold fS;by_cases h:(rL L x y && rL L x z && rL L y z)=true
  ·rw [ae h]
   rw [iF,iF] at h;rw [sub x y h.1.1,sub x z h.1.2,sub y z h.2];exact aw _
  ·rw [aa h]
   exact cg _
 unfold gY;rw [zo nl lt,zo nd f.lt];lia
end My
namespace L2
open PySem
section
variable {prog:Program} {w:World} {A:Around} {E:aE} {s:Shared}
end
end L2
namespace My
open PySem L2
end My
namespace L2
open PySem PySem.Spec PyProof.Rows My
end L2
namespace My
open PySem L2
def vI(n:Nat)(L:aZ)(z:Int×Int):Nat:=((List.range n).filter fun k=>decide (z.2.toNat<k) && rL L z.1.toNat k && rL L z.2.toNat k).length
def Dx(j:Nat)(m:List Nat):V→Bool
 | .int z=>decide ((j:Int)<z) && decide (z.toNat∈m)
 | _=>false
variable {n:Nat} {L:aZ}
theorem Ll{g:Nat→List Nat}(nb:eV n L g)(gn:∀a,(g a).Nodup){i j:Nat}(hi:i<n)(hj:j<n)(gl:∀k∈g i,k<n):vI n L ((i:Int),(j:Int))=(((g i).map fun k:Nat=>V.int (k:Int)).filter (Dx j (g j))).length:=by
 rw [List.filter_map,aJ];unfold vI;refine ((oI (j6.filter _) ((gn i).filter _)).mpr fun k=>?_).length_eq;rw [fz,fz,cp];show (k<n∧(decide (((j:Nat):Int).toNat<k) && rL L ((i:Nat):Int).toNat k && rL L ((j:Nat):Int).toNat k)=true)↔k∈g i∧(decide ((j:Int)<(k:Int)) && decide (((k:Nat):Int).toNat∈g j))=true;rw [cO,cO,cO,iF,iF,iF,dm,dm,dm,kJ,kJ,nb i k hi,nb j k hj];constructor
 ·rintro ⟨h1,⟨h2,h3⟩,h4⟩
  exact ⟨h3,by lia,h4⟩
 ·rintro ⟨h1,h2,h3⟩
  exact ⟨gl k ((nb i k hi).mpr h1),⟨by lia,h1⟩,h3⟩
section
variable {P a d:Addr} {H Hc:Hp} {n m:Nat} {L:aZ}
end
theorem iy.dq{H H':Hp}{t:Addr}(h:iy H t n L)(k:∀b xs,H b=some (.tup xs)→H' b=some (.tup xs)):iy H' t n L:=by obtain ⟨lt,us,h1,h2,h3⟩:=h;refine ⟨lt,us,k _ _ h1,k _ _ h2,h3.1,fun i v p e1 e2=>?_⟩;obtain ⟨b,e,g⟩:=h3.2 i v p e1 e2;exact ⟨b,e,k _ _ g⟩
section
variable {n:Nat} {E:Nat→Nat→Prop} {pos rk:Nat→Nat}
def zp(n:Nat)(E:Nat→Nat→Prop)(pos:Nat→Nat):Prop:=∀a b c,a<n→b<n→c<n→pos a<pos b→pos a<pos c→b≠c→E a b→E a c→E b c
end
open PySem PySem.W PyProof.Rows Tm
section
variable {prog:Program} {w:World} {A:Around} {E:aE} {s:Shared}
end
open PySem PySem.W PyProof.Rows
section
variable {prog:Program} {w:World} {A:Around} {E:aE} {s:Shared}
end
end My
namespace L2
open PySem PySem.W PyProof.Rows My
end L2
namespace My
open PySem PySem.W PyProof.Rows
section
variable {prog:Program} {w:World} {A:Around} {E:aE} {s:Shared} {R:Result→Shared→Prop}
end
open PySem PySem.W PyProof.Rows L2
section
variable {prog:Program} {w:World} {A:Around} {s:Shared}
end
end My
namespace L2
open PySem PySem.W PyProof.Rows My
end L2
namespace My
open PySem L2
theorem Dy{k:Nat}(h:k≤1000):k≤sizeLine:=cG h (by decide)
end My
namespace L2
open PySem PySem.Spec PyProof.Rows My
end L2
namespace My
open PySem L2
end My
namespace L2
open PySem
section
variable {prog:Program} {w:World} {A:Around} {E:aE} {s:Shared}
end
open PySem PySem.Spec PyProof.Rows My
end L2
namespace My
open PySem L2
theorem vJ{n:Nat}{L:aZ}{o:List Nat}(ho:o.Perm (List.range n))(cl:zp n (aL n L) (fun a=>o.idxOf a)):∀(k a b:Nat),a<n→b<n→k≤o.idxOf a→k≤o.idxOf b→a≠b→Wk (aL n L) (bQ n o k) a b→aL n L a b
 | 0,a,b,_,_,_,_,_,w=>by
  cases w with
  | one ab=>exact ab
  | more _ t _=>exact absurd t.2 (oE _)
 | k+1,a,b,an,bn,ka,kb,ne,w=>by
  have lo:=iA ho;have ia:o.idxOf a<o.length:=uw ((dP ho).mpr an);have hk:k<o.length:=by lia
  have pn:o[k]<n:=(dP ho).mp (dv hk);have ip:o.idxOf o[k]=k:=jH (jG ho) hk;generalize o[k]=p at pn ip;have th:∀x,bQ n o (k+1) x↔bQ n o k x∨x=p:=fun x=>by
   unfold bQ;constructor
   ·rintro ⟨h1,h2⟩
    by_cases e:o.idxOf x=k
    ·right
     refine uA fun z=>?_;exact absurd (e.trans ip.symm) (kH ho h1 pn z)
    ·exact .inl ⟨h1,by lia⟩
   ·rintro (⟨h1,h2⟩ | rfl)
    ·exact ⟨h1,by lia⟩
    ·exact ⟨pn,by lia⟩
  have ap:a≠p:=fun e=>by subst e;lia
  have bp:b≠p:=fun e=>by subst e;lia
  rcases (Wk.step th).mp w with h | ⟨h1,h2⟩;·exact vJ ho cl k a b an bn (by lia) (by lia) ne h
  ·have e1:=vJ ho cl k a p an pn (by lia) (by lia) ap h1
   have e2:=vJ ho cl k p b pn bn (by lia) (by lia) bp.symm h2
   exact cl p a b pn an bn (show o.idxOf p<o.idxOf a by lia) (show o.idxOf p<o.idxOf b by lia) ne (jJ _ _ e1) e2
theorem Lm{n:Nat}{L:aZ}{o:List Nat}(ho:o.Perm (List.range n))(pw:L.Pairwise lexLt)(lt:∀z∈L,0≤z.1∧z.1<z.2∧z.2<(n:Int))(cl:zp n (aL n L) (fun a=>o.idxOf a)):kI n L o L:=by
 refine ⟨pw,fun z=>⟨fun hz=>?_,?_⟩⟩
 ·obtain ⟨z0,z1,z2⟩:=lt z hz
  obtain ⟨i,j⟩:=z;dsimp only at z0 z1 z2;obtain ⟨a,rfl⟩:=iK z0;obtain ⟨b,rfl⟩:=iK (show 0≤j by lia)
  have an:a<n:=by lia
  have bn:b<n:=by lia
  have ne:=kH ho an bn (by lia)
  by_cases h:o.idxOf a<o.idxOf b
  ·refine ⟨a,b,an,bn,h,.one ⟨an,bn,.inl hz⟩,?_⟩
   unfold fu;rw [aa (by lia),ae (by lia)]
  ·refine ⟨b,a,bn,an,by lia,.one ⟨bn,an,.inr hz⟩,?_⟩
   unfold fu;rw [ae (by lia),aa (by lia)]
 ·rintro ⟨p,q,pn,qn,pq,w,rfl⟩
  have ne:p≠q:=fun e=>by subst e;lia
  have h:=vJ ho cl (o.idxOf p) p q pn qn (aw _) (l7 pq) ne w;unfold fu;rcases h.2.2 with e | e
  ·have:=lt _ e
   rw [aa (by lia),ae (by lia)]
   exact e
  ·have:=lt _ e
   rw [ae (by lia),aa (by lia)]
   exact e
end My
namespace L2
open PySem PySem.W PyProof.Rows
section
variable {prog:Program} {w:World} {A:Around} {E:aE} {s:Shared}
end
open AutoSeq1 (wpAny_loadPart')
section
variable {prog:Program} {w:World} {A:Around} {E:aE} {s:Shared}
end
end L2
namespace My
open PySem L2
end My
namespace L2
open PySem PySem.Spec PyProof.Rows My
end L2
namespace My
open PySem L2
open PySem L2 Classical
theorem Ln(n:Nat)(L:aZ)(o:List Nat):∃M,kI n L o M:=by
 let f:Nat→Nat→Bool:=fun i j=>decide (∃p q:Nat,p<n∧q<n∧o.idxOf p<o.idxOf q∧Wk (aL n L) (bQ n o (o.idxOf p)) p q∧((i:Int),(j:Int))=fu p q)
 refine ⟨eS n f n,yX n,fun z=>⟨fun h=>?_,?_⟩⟩
 ·obtain ⟨i,j,_,_,_,hf,rfl⟩:=mem_of h
  exact dc hf
 ·rintro ⟨p,q,hp,hq,zq,hw,rfl⟩
  have ne:p≠q:=fun e=>by rw [e] at zq;exact absurd zq (eL _)
  obtain ⟨i,j,ij,jn,e⟩:∃i j:Nat,i<j∧j<n∧fu p q=((i:Int),(j:Int)):=by
   by_cases h:q<p
   ·refine ⟨q,p,h,hp,?_⟩
    unfold fu;rw [ae (by lia),aa (by lia)]
   ·refine ⟨p,q,by lia,hq,?_⟩
    unfold fu;rw [aa (by lia),ae (by lia)]
  rw [e];exact yW ij jn (aK ⟨p,q,hp,hq,zq,hw,e.symm⟩) (by lia)
theorem ar{a b:TS}{D:Ends}{σ:St}{H:Hp}(h:∀R:St→Hp→Prop,(∀σ H,b D σ H→R σ H)→a {D with nx:=R} σ H):xQ a b D σ H:=h _ fun _ _ h=>h
end My
namespace L2
open PySem PySem.Spec PyProof.Rows
end L2
namespace My
open PySem L2 Classical
open PySem L2
end My
namespace L2
open PySem PySem.Spec PyProof.Rows My
section
variable {X:Cx}
end
end L2
namespace My
open PySem L2
end My
namespace L2
open PySem PySem.Spec PyProof.Rows My
end L2
namespace My
open PySem L2
inductive aD where
 | band (n w:Nat)
 | cu (n w:Nat)
 | ring (n:Nat)
 | cV (m:Nat)
 | tree (as:List Nat)
def aD.sz:aD→Nat
 | .band n _=>n
 | .cu n _=>n
 | .ring n=>n
 | .cV m=>2*m
 | .tree as=>as.length+1
def aD.lk:aD→Nat→Nat→Bool
 | .band _ w,i,j=>decide (j≤i+w)
 | .cu n w,i,j=>decide (j≤i+w) || decide (j+1=n)
 | .ring n,i,j=>decide (j=i+1) || decide (j+1=i+n)
 | .cV _,i,j=>decide (j=i+2) || (decide (j=i+1) && decide (i % 2=0))
 | .tree as,i,j=>decide (as.getD (j-1) 0=i)
def aD.ok:aD→Prop
 | .band n w=>1≤n∧n≤60∧w<n
 | .cu n w=>1≤n∧n≤60∧w<n
 | .ring n=>3≤n∧n≤60
 | .cV m=>1≤m∧m≤30
 | .tree as=>as.length≤59∧∀i,i<as.length→as.getD i 0≤i
def aD.pJ:aD→Prop
 | .band n w=>n≤20∨w<4
 | .cu n w=>n≤20∨w<4
 | _=>True
def sV(s:String):V:=.str (Str.ofString s)
def ToldN(H:Hp)(td:Addr):aD→Prop
 | .band n w=>H td=some (.tup [sV "band",.int (n:Int),.int (w:Int)])
 | .cu n w=>H td=some (.tup [sV "brim",.int (n:Int),.int (w:Int)])
 | .ring n=>H td=some (.tup [sV "ring",.int (n:Int)])
 | .cV m=>H td=some (.tup [sV "ladder",.int (m:Int)])
 | .tree as=>∃ta,H td=some (.tup [sV "tree",.ref ta])∧H ta=some (.tup (as.map fun k:Nat=>V.int (k:Int)))
variable {N:aD}
theorem ToldN.mono{H H':Hp}{td:Addr}(h:ToldN H td N)(s:ah H H'):ToldN H' td N:=by
 cases N with
 | tree as=>obtain ⟨ta,h1,h2⟩:=h;exact ⟨ta,s _ _ h1,s _ _ h2⟩
 | _=>exact s _ _ h
def aX(N:aD):List (Int×Int):=eS N.sz N.lk N.sz
theorem vK{a b:Nat}:((a:Int),(b:Int))∈aX N↔a<b∧b<N.sz∧N.lk a b=true:=by
 constructor
 ·intro h
  obtain ⟨i,j,_,h2,h3,h4,e⟩:=mem_of h;have e1:=b9 Prod.fst e;have e2:=b9 Prod.snd e;dsimp only at e1 e2;have:a=i:=by lia
  have:b=j:=by lia
  subst a b;exact ⟨h2,h3,h4⟩
 ·rintro ⟨h1,h2,h3⟩
  exact yW h1 h2 h3 (by lia)
theorem lN:∀z∈aX N,0≤z.1∧z.1<z.2∧z.2<(N.sz:Int):=fun z hz=>by obtain ⟨i,j,_,h2,h3,h4,rfl⟩:=mem_of hz;dsimp only;lia
theorem vL:(aX N).Pairwise lexLt:=yX _
theorem jM(h:N.ok):1≤N.sz∧N.sz≤60:=by
 cases N with
 | band n w=>exact ⟨h.1,h.2.1⟩
 | cu n w=>exact ⟨h.1,h.2.1⟩
 | ring n=>exact ⟨by have:=h.1;show 1≤n;lia,h.2⟩
 | cV m=>obtain ⟨h1,h2⟩:=h;constructor <;> show _≤_ <;> simp only [aD.sz] <;> lia
 | tree as=>have:=h.1;constructor <;> show _≤_ <;> simp only [aD.sz] <;> lia
variable {n:Nat}
theorem Dz{f:Nat→Nat→Bool}{i c:Nat}(h:∀l:List Nat,l.Pairwise (· < ·)→(∀j∈l,i<j∧j<n∧f i j=true)→l.length≤c):(fR n f i).length≤c:=by
 have:=h (((List.range (n-(i+1))).filter fun k=>f i (i+1+k)).map fun k=>i+1+k) ?_ fun j hj=>?_
 ·rw [aJ] at this
  unfold fR;rw [aJ];exact this
 ·rw [kY]
  exact (uu.sublist uv).imp fun h=>by lia
 ·obtain ⟨k,hk,rfl⟩:=d5.mp hj
  obtain ⟨h1,h2⟩:=fz.mp hk;have:=cp.mp h1;exact ⟨by lia,by lia,h2⟩
theorem zr{n c:Nat}{f:Nat→Nat→Bool}(h:∀i,i<n→(fR n f i).length≤c):∀k,k≤n→(eS n f k).length≤k*c
 | 0,_=>cg _
 | k+1,hk=>by
  have:=zr h k (by lia)
  have:=h k (by lia)
  show (eS n f k++fR n f k).length≤_;rw [cY,Nat.succ_mul];lia
theorem pK{a:Nat}:∀(l:List Nat) (b:Nat),l.Pairwise (· < ·)→(∀j∈l,a<j∧j≤b)→l.length+a≤max a b
 | [],b,_,_=>by simp;lia
 | x::l,b,h,hl=>by
  obtain ⟨h1,h2⟩:=jg.mp h;have hx:=hl x (by simp)
  have:=pK (a:=x) l b h2 fun j hj=>⟨h1 j hj,(hl j (cH _ hj)).2⟩;rw [ee];lia
theorem Lo{l:List Int}(nd:l.Nodup)(h:∀z∈l,0≤z∧z<(n:Int)):l.length≤n:=by
 have Lp:(l.map Int.toNat).Nodup:=by rw [ux,kY];exact (ux.mp nd).imp_of_mem fun{a b} ha hb ne e=>ne (by have:=h a ha;have:=h b hb;lia)
 have h1:((List.range n).filter fun p=>decide (p∈l.map Int.toNat)).Perm (l.map Int.toNat):=(oI (j6.filter _) Lp).mpr fun x=>by rw [fz,cp,dm];refine ⟨fun h=>h.2,fun hx=>⟨?_,hx⟩⟩;obtain ⟨z,hz,rfl⟩:=d5.mp hx;have:=h z hz;lia
 have:=h1.length_eq;rw [aJ] at this;rw [←this];exact cG (rC ..) (by simp)
theorem DA(ok:N.ok)(fw:N.pJ):(aX N).length≤800:=by
 have cnt:∀c,c*60≤800→(∀i,i<N.sz→∀l:List Nat,l.Pairwise (· < ·)→(∀j∈l,i<j∧j<N.sz∧N.lk i j=true)→l.length≤c)→(aX N).length≤800:=fun c hc h=>by have h1:=zr (n:=N.sz) (f:=N.lk) (c:=c) (fun i hi=>Dz (h i hi)) N.sz (aw _);have h2:=(jM ok).2;have h3:N.sz*c≤60*c:=Nat.mul_le_mul_right _ h2;unfold aX;rw [Nat.mul_comm] at hc;lia
 have DB:N.sz≤20→(aX N).length≤800:=fun vM=>by
  have h1:=zr (n:=N.sz) (f:=N.lk) (c:=20) (fun i hi=>Dz fun l hp hl=>by
   have:=pK (a:=i) l (N.sz-1) hp fun j hj=>⟨(hl j hj).1,by have:=(hl j hj).2.1;lia⟩
   lia) N.sz (aw _)
  have h3:N.sz*20≤20*20:=Nat.mul_le_mul_right _ vM;unfold aX;lia
 cases N with
 | band n w=>
  rcases fw with h | h;·exact DB h
  ·refine cnt 4 (by decide) fun i _ l hp hl=>?_
   have:=pK (a:=i) l (i+w) hp fun j hj=>⟨(hl j hj).1,dc (hl j hj).2.2⟩;lia
 | cu n w=>
  rcases fw with h | h;·exact DB h
  ·refine cnt 5 (by decide) fun i _ l hp hl=>?_
   have hf:(l.filter fun j=>decide (j≤i+w)).length≤4:=by have:=pK (a:=i) (l.filter fun j=>decide (j≤i+w)) (i+w) (hp.sublist uv) fun j hj=>⟨(hl j (fz.mp hj).1).1,dc (fz.mp hj).2⟩;lia
   have hg:(l.filter fun j=>!decide (j≤i+w)).length≤1:=by
    have:=pK (a:=n-2) (l.filter fun j=>!decide (j≤i+w)) (n-1) (hp.sublist uv) fun j hj=>by
     obtain ⟨h1,h2⟩:=fz.mp hj;obtain ⟨h3,h4,h5⟩:=hl j h1;have h5:(decide (j≤i+w) || decide (j+1=n))=true:=h5;rw [show decide (j≤i+w)=false by simpa using h2,me] at h5
     have:=dc h5;lia
    lia
   have hs:∀l:List Nat,l.length=(l.filter fun p=>decide (p≤i+w)).length+(l.filter fun p=>!decide (p≤i+w)).length:=fun l=>by
    induction l with
    | nil=>rfl
    | cons x l ih=>
     rw [uz,uz,ee];by_cases e:x≤i+w
     ·rw [aK e,ae rfl,Bool.not_true,aa (by simp),ee]
      lia
     ·rw [bj e,aa (by simp),Bool.not_false,ae rfl,ee]
      lia
   have:=hs l;lia
 | ring n=>
  refine cnt 13 (by decide) fun i _ l hp hl=>?_
  match l,hp,hl with
  | [],_,_=>exact cg _
  | [_],_,_=>simp
  | [_,_],_,_=>simp
  | x::y::z::l,hp,hl=>
   exfalso
   have e:∀j,j∈x::y::z::l→j=i+1∨j+1=i+n:=fun j hj=>by have:=(hl j hj).2.2;have this:(decide (j=i+1) || decide (j+1=i+n))=true:=this;simpa using this
   have h1:=e x (by simp)
   have h2:=e y (by simp)
   have h3:=e z (by simp)
   obtain ⟨p1,p2⟩:=jg.mp hp;have q1:=p1 y (by simp)
   have q2:=p1 z (by simp)
   have q3:=(jg.mp p2).1 z (by simp)
   lia
 | cV m=>
  refine cnt 2 (by decide) fun i _ l hp hl=>?_
  have:=pK (a:=i) l (i+2) hp fun j hj=>⟨(hl j hj).1,by have:=(hl j hj).2.2;have this:(decide (j=i+2) || (decide (j=i+1) && decide (i % 2=0)))=true:=this;simp at this;lia⟩
  lia
 | tree as=>
  have nd:((aX (.tree as)).map Prod.snd).Nodup:=by
   rw [ux,kY];refine (vL (N:=.tree as)).imp_of_mem fun{a b} ha hb h e=>?_;obtain ⟨i,j,_,_,_,h1,rfl⟩:=mem_of ha;obtain ⟨i',j',_,_,_,h2,rfl⟩:=mem_of hb;have h1:=dc (show decide (as.getD (j-1) 0=i)=true from h1);have h2:=dc (show decide (as.getD (j'-1) 0=i')=true from h2);dsimp only at e;have:j=j':=by lia
   subst this;have:i=i':=h1.symm.trans h2;subst this;unfold lexLt at h;lia
  have:=Lo nd (n:=60) fun z hz=>by obtain ⟨q,hq,rfl⟩:=d5.mp hz;have:=lN q hq;have:=(jM ok).2;lia
  rw [aJ] at this;lia
end My
namespace L2
open PySem PySem.Spec PyProof.Rows
section
variable {prog:Program} {w:World} {A:Around} {E:aE} {s:Shared}
variable {it l:Addr} {i:Nat} {x:Value} {Q:aE}
theorem Lq{items}(hit:s.heap.IsTupleIter it l i)
  (hl:s.heap.IsTuple l items) (hx:items[i]?=some x)
  (hQ:∀h',h'.IsTupleIter it l (i+1)→Heap.SameBut it s.heap h'→Q x {s with heap:=h'}) :
  wpAny (model prog w) A (Builtin.SmallTypes.nextOf (.ref it)) Q E s:=by
 obtain ⟨o,ho,hc,hd⟩:=id hit;obtain ⟨ol,zt,_,nl,zu⟩:=hl;unfold Builtin.SmallTypes.nextOf
 refine aB (uB (name:=Str.ofString "__next__") hit.typeIs uC
  (rB uC hit.typeIs PySem.F.entry_tuple_iterator_next ?_ (PySem.F.args_tuple_iterator_next_1 _)))
 show wpAny _ _ (field (.ref it) 0 >>= _) _ _ s;refine aB (jh ho hd (x:=.ref l) rfl ?_);show wpAny _ _ (if (Value.ref l == Value.none)=true then _ else _) _ _ s
 rw [aa (show ¬((Value.ref l == Value.none)=true) from b_)];show wpAny _ _ (field (.ref it) 1 >>= _) _ _ s;refine aB (jh ho hd (x:=.int i 0) rfl ?_);show wpAny _ _ (seqItems? (.ref l) >>= _) _ _ s;refine aB (wpAny_seqItems zt zu ?_);simp only [cO,hx];refine aB (wpAny_setField ho hd (by simp) (cf ⟨x,rfl,cf (hQ _ ?_ (Heap.SameBut.update ..))⟩))
 exact ⟨_,xA _ ho (Obj.isFreed_of_fields (Obj.data_mapFields hd _)),(Obj.cls_mapFields ..).trans hc,by rw [Obj.data_mapFields hd];simp [rawInt]⟩
theorem Lr{items}(hh:A.handled=none)
  (hit:s.heap.IsTupleIter it l i) (hl:s.heap.IsTuple l items) (hx:items[i]?=none)
  (hE:∀h' e,Heap.ExtBut it s.heap h'→(∃o,h'.get? e=some o∧o.cls=.type "StopIteration")→E (.ref e) {s with heap:=h'}) :
  wpAny (model prog w) A (Builtin.SmallTypes.nextOf (.ref it)) Q E s:=by
 obtain ⟨o,ho,hc,hd⟩:=id hit;obtain ⟨ol,zt,_,nl,zu⟩:=hl;unfold Builtin.SmallTypes.nextOf
 refine aB (uB (name:=Str.ofString "__next__") hit.typeIs uC
  (rB uC hit.typeIs PySem.F.entry_tuple_iterator_next ?_ (PySem.F.args_tuple_iterator_next_1 _)))
 show wpAny _ _ (field (.ref it) 0 >>= _) _ _ s;refine aB (jh ho hd (x:=.ref l) rfl ?_);show wpAny _ _ (if (Value.ref l == Value.none)=true then _ else _) _ _ s
 rw [aa (show ¬((Value.ref l == Value.none)=true) from b_)];show wpAny _ _ (field (.ref it) 1 >>= _) _ _ s;refine aB (jh ho hd (x:=.int i 0) rfl ?_);show wpAny _ _ (seqItems? (.ref l) >>= _) _ _ s;refine aB (wpAny_seqItems zt zu ?_);simp only [cO,hx];refine aB (j4 (aB (wpAny_setField ho hd (by simp) ?_)))
 show wpAny _ _ (newExc (.type "StopIteration") [] >>= _) _ _ _;refine aB ?_;simp only [newExc,newTuple];refine aB (rh ?_ (by size_fits))
 refine aB (m:=firstArgMember _ _) (wpAny_of_eq (a:=Value.none) (by first | rfl | (simp only [firstArgMember];rfl)) ?_)
 refine rh ?_ (by size_fits)
 simp only [raiseNew];refine aB (wpAny_handled ?_)
 first | rw [show A.in1.handled=none from hh] | rw [hh]
 refine aB (cf (wpAny_throw ?_));exact hE _ _ (((Heap.SameBut.update ..).extBut.push _).push _) ⟨_,dE _ rfl,rfl⟩
variable {e:Addr} {j:Int} {items:Array Value} {old:Value}
theorem Ls(he:IsEnum s.heap e it j old)(hit:s.heap.IsTupleIter it l i)(hl:s.heap.IsTuple l items)(hx:items[i]?=some x)(d9:e≠it)
  (hQ:∀h',IsEnumOut h' e it (j+1) x s.heap.objs.size→h'.IsTupleIter it l (i+1)→
   h'.get? s.heap.objs.size=some {cls:=.type "tuple",data:=.seq #[.int j s.toks,x]}→h'.objs.size=s.heap.objs.size+1→
   (∀b o,b≠e→b≠it→s.heap.get? b=some o→h'.get? b=some o)→Q (.ref s.heap.objs.size) {s with heap:=h',toks:=s.toks+1}) :
  wpAny (model prog w) A (Builtin.«enumerate.__next__» ⟨[.ref e],[]⟩) (fun fin s'=>∃v,fin=.done (.ret v)∧Q v s') E s:=by
 obtain ⟨hp,g,d,tk,os⟩:=s;show wpAny _ _ (field (.ref e) 2 >>= _) _ _ _;refine aB (jh he rfl (x:=.ref it) rfl ?_);refine aB (Lq hit hl hx fun h₁ DC pL=>?_)
 replace pL:Heap.SameBut it hp h₁:=pL
 have vO:IsEnum h₁ e it j old:=(pL.2 e d9).trans he;show wpAny _ _ (field (.ref e) 3 >>= _) _ _ ⟨h₁,g,d,tk,os⟩;refine aB (jh vO rfl (x:=rawInt j) rfl ?_);show wpAny _ _ (field (.ref e) 4 >>= _) _ _ ⟨h₁,g,d,tk,os⟩;refine aB (jh vO rfl (x:=.none) rfl ?_);show wpAny _ _ (mkInt j >>= _) _ _ ⟨h₁,g,d,tk,os⟩;refine aB (wpAny_mkInt ?_);show wpAny _ _ (setField (.ref e) 3 (rawInt (j+1)) >>= _) _ _ ⟨h₁,g,d,tk+1,os⟩;refine aB (rF vO (by simp) fun h₂ vP pM=>?_)
 replace pM:Heap.SameBut e h₁ h₂:=pM
 replace vP:IsEnum h₂ e it (j+1) old:=vP
 show wpAny _ _ (setField (.ref e) 4 .none >>= _) _ _ ⟨h₂,g,d,tk+1,os⟩;refine aB (rF vP (by simp) fun h₃ vQ pN=>?_)
 replace pN:Heap.SameBut e h₂ h₃:=pN
 replace vQ:IsEnum h₃ e it (j+1) old:=vQ
 show wpAny _ _ (newTuple [.int j tk,x] >>= _) _ _ ⟨h₃,g,d,tk+1,os⟩;refine aB (wpAny_newTuple ?_);have vR:IsEnum (h₃.push {cls:=.type "tuple",data:=.seq #[.int j tk,x]}) e it (j+1) old:=bS _ vQ;generalize tD:h₃.push {cls:=.type "tuple",data:=.seq #[.int j tk,x]}=h₄ at vR;have hsz:h₃.objs.size=hp.objs.size:=by rw [pN.1,pM.1,pL.1]
 have zv:e<hp.objs.size:=aY he;have Lu:h₄.get? hp.objs.size=some {cls:=.type "tuple",data:=.seq #[.int j tk,x]}:=by rw [←tD,←hsz];exact dE _ rfl
 have Lv:h₄.objs.size=hp.objs.size+1:=by rw [←tD,Heap.size_push,hsz]
 have Lw:∀b o,b≠e→b≠it→hp.get? b=some o→h₄.get? b=some o:=fun b o fB vS hb=>by rw [←tD];exact bS _ (pN.extBut b o fB (pM.extBut b o fB (pL.extBut b o vS hb)))
 have Lx:h₄.IsTupleIter it l (i+1):=by rw [←tD];obtain ⟨o,ho,r⟩:=(DC.extBut pM.extBut (Ne.symm d9)).extBut pN.extBut (Ne.symm d9);exact ⟨o,bS _ ho,r⟩
 show wpAny _ _ (Builtin.SmallTypes.ownedTupleIsFree (.ref e) >>= _) _ _ ⟨h₄,g,d,tk+1,os⟩;rw [hsz];clear tD vQ pN vP pM vO pL DC hsz h₃ h₂ h₁;refine aB ?_
 ·unfold Builtin.SmallTypes.ownedTupleIsFree
  refine aB (jh vR rfl (x:=.none) rfl (cf ?_));simp only [if_true];refine aB (j4 ?_);refine aB (jh vR rfl (x:=old) rfl ?_);refine aB (rF vR (by simp) fun h₅ zw pO=>?_)
  replace pO:Heap.SameBut e h₄ h₅:=pO
  replace zw:IsEnum h₅ e it (j+1) x:=zw
  show wpAny _ _ (Builtin.SmallTypes.ownedTupleHandOut (.ref e) (.ref hp.objs.size) >>= _) _ _ ⟨h₅,g,d,tk+1,os⟩;refine aB ?_
  ·unfold Builtin.SmallTypes.ownedTupleHandOut
   refine aB (rF zw (by simp) fun h₆ zA pP=>?_)
   replace pP:Heap.SameBut e h₅ h₆:=pP
   replace zA:IsEnumOut h₆ e it (j+1) x hp.objs.size:=zA
   refine rF zA (by simp) fun h₇ zB pQ=>?_
   replace pQ:Heap.SameBut e h₆ h₇:=pQ
   replace zB:IsEnumOut h₇ e it (j+1) x hp.objs.size:=zB
   refine aB (wpAny_letGo (cf ⟨_,rfl,hQ h₇ zB ?_ ?_ ?_ ?_⟩));·exact ((Lx.extBut pO.extBut (Ne.symm d9)).extBut pP.extBut (Ne.symm d9)).extBut pQ.extBut (Ne.symm d9)
   ·exact pQ.extBut _ _ (Nat.ne_of_gt zv) (pP.extBut _ _ (Nat.ne_of_gt zv) (pO.extBut _ _ (Nat.ne_of_gt zv) Lu))
   ·rw [pQ.1,pP.1,pO.1,Lv]
   ·exact fun b o fB vS hb=>pQ.extBut b o fB (pP.extBut b o fB (pO.extBut b o fB (Lw b o fB vS hb)))
theorem Ly{Q:Option Value→Shared→Prop}
  (he:IsEnum s.heap e it j old) (hit:s.heap.IsTupleIter it l i) (hl:s.heap.IsTuple l items) (hx:items[i]?=some x) (d9:e≠it)
  (hQ:∀h',IsEnumOut h' e it (j+1) x s.heap.objs.size→h'.IsTupleIter it l (i+1)→
   h'.get? s.heap.objs.size=some {cls:=.type "tuple",data:=.seq #[.int j s.toks,x]}→h'.objs.size=s.heap.objs.size+1→
   (∀b o,b≠e→b≠it→s.heap.get? b=some o→h'.get? b=some o)→Q (some (.ref s.heap.objs.size)) {s with heap:=h',toks:=s.toks+1}) :
  wpAny (model prog w) A (pyNext (.ref e)) Q E s:=by
 have hT:s.TypeIs (.ref e) "enumerate":=⟨_,he,rfl⟩;unfold pyNext
 exact aB (wpAny_attempt (uB (name:=Str.ofString "__next__") hT uD
  (rB uD hT PySem.F.entry_enumerate_next
   (Ls he hit hl hx d9 fun h' a b c d k=>cf (hQ h' a b c d k)) (PySem.F.args_enumerate_next_1 _))))
theorem Lz{Q:Option Value→Shared→Prop}(hh:A.handled=none)
  (he:IsEnum s.heap e it j old) (hit:s.heap.IsTupleIter it l i) (hl:s.heap.IsTuple l items) (hx:items[i]?=none)
  (hQ:∀h',Heap.ExtBut it s.heap h'→Q none {s with heap:=h'}):wpAny (model prog w) A (pyNext (.ref e)) Q E s:=by
 have hT:s.TypeIs (.ref e) "enumerate":=⟨_,he,rfl⟩;unfold pyNext
 refine aB (wpAny_attempt (uB (name:=Str.ofString "__next__") hT uD
  (rB uD hT PySem.F.entry_enumerate_next ?_ (PySem.F.args_enumerate_next_1 _))))
 show wpAny _ _ (field (.ref e) 2 >>= _) _ _ _;refine aB (jh he rfl (x:=.ref it) rfl ?_);refine aB (Lr hh hit hl hx fun h' x LA zC=>?_);obtain ⟨o,ho,hc⟩:=zC;refine aB (wpAny_isInstance (T:="StopIteration") (b:=true) ⟨o,ho,hc⟩ isSubtype_stop ?_);exact cf (hQ _ LA)
end
open AutoSeq1 (wpAny_loadPart')
section
variable {prog:Program} {w:World} {A:Around} {E:aE} {s:Shared}
theorem LB{T newId sq:String}{Bn Bi:Builtin}{args:List Value}{kw:List (Str×Value)}{S:PySem.Spec}{Q Q₁:aE}(ft:TypeCalled T newId sq)(RC:checkTypeCall T ⟨args,kw⟩=pure ())(LC:checkBuiltinCall newId ⟨.type T::args,kw⟩=pure ())
  (LD:entryFor table newId=some Bn) (LF:entryFor table sq=some Bi) (g:Meets (Bn ⟨.type T::args,kw⟩) S) (h:S A.in1 (wants Q₁ E) s)
  (LG:∀obj s₁,Q₁ obj s₁→s₁.TypeIs obj T∧argsOk sq ⟨obj::args,kw⟩∧∃Si,Meets (Bi ⟨obj::args,kw⟩) Si∧Si A.in1 (wants (fun r s₂=>r=.none∧Q obj s₂) E) s₁) :
  wpAny (model prog w) A (call (.type T) args kw) Q E s:=by
 obtain ⟨c,tl,Ca⟩:=ft.mro;have RD:=ft.made;have LH:=ft.sub;refine wpAny_call (codeAny_of_tree (show wpAny _ _ (callAny (.type T) _) _ _ _ from cf ⟨Code.quiet_builtin _ (by decide +kernel),codeAny_builtin F.entry_type_call ?_⟩))
 rw [Around.under_plain (weight_type_call_type T args kw) (units_type_call_type T args kw)];have h1:=ft.notType;have h2:=ft.canCreate
 repeat (any_goals (first | assumption | wp_step))
 refine q8 (ug ft.plain LD (wpAny_of_eq LC (g prog w A.in1 _ s h))) fun r s₁ hr=>?_;cases r with
 | error e=>exact hr
 | ok fl=>
  cases fl with
  | ret obj=>
   obtain ⟨hT,au,Si,gi,LI⟩:=LG _ _ hr;have RE:=ft.init.lookup;have vS:=ft.init.bind obj
   repeat (any_goals (first | assumption | wp_step))
   refine q8 (ug ft.init.plain LF (ft.init.check _ _ _ _ _ _ _ _ hT au (gi prog w A.in1 _ s₁ LI))) fun r₂ s₂ zD=>?_;cases r₂ with
   | error e=>exact zD
   | ok LJ=>
    cases LJ with
    | ret r=>
     obtain ⟨rfl,hq⟩:=zD
     repeat (any_goals (first | assumption | wp_step))
    | _=>exact zD.elim
  | _=>exact hr.elim
end
variable {T:String}
theorem LK{newId:String}{self a:Value}{kw:List (Str×Value)}(hl:typeLookup (.type T) "__init__"=pure (some (.builtin "object.__init__")))(hm:Bind.madeBy (.type T)=pure (some newId))(d9:(some newId != some "object.__new__")=true) :
  Meets (Builtin.«object.__init__» ⟨[self,a],kw⟩) (fun _ R s=>s.TypeIs self T∧R (.ok (.ret .none)) s):=by
 refine Meets.of_wp fun prog w A R s hs=>?_;obtain ⟨hT,hq⟩:=hs
 repeat (any_goals (first | assumption | wp_step))
 exact ⟨_,rfl,hq⟩
theorem LL(l:Addr)(items:Array Value)(n:Nat)(jB:Option Addr)(sl:Array (Option Value))(t:Tok) :
  Meets (Builtin.«enumerate.__new__» ⟨[.type "enumerate",.ref l],[(Str.ofString "start",.int 1 t)]⟩) (fun _ R s=>s.heap.get? l=some {cls:=.type "tuple",dict:=jB,data:=.seq items n,slots:=sl} ∧
   R (.ok (.ret (.ref (s.heap.push {cls:=.type "tuple_iterator",data:=.fields #[.ref l,.int 0 0]}).objs.size)))
    {s with heap:=(s.heap.push {cls:=.type "tuple_iterator",data:=.fields #[.ref l,.int 0 0]}).push {cls:=.type "enumerate",data:=.fields #[.none,.bool false,.ref s.heap.objs.size,rawInt 1,.none,.none]}}):=
 .of_wp fun prog w A R s h=>by
  obtain ⟨hp,g,d,tk,os⟩:=s;obtain ⟨hl,h⟩:=h;have LH:=sub_enumerate;have hL:Heap.IsTuple (Shared.heap ⟨hp,g,d,tk,os⟩) l items:=⟨_,hl,rfl,n,rfl⟩
  wp_walk using uE hl
  refine wpAny_stack_any fun st=>cf ?_
  split
  ·rename_i c _ _ _ _ _
   cases (c == Value.type "enumerate")
   ·wp_walk using uE hl,ud hL
    exact ⟨_,rfl,h⟩
   ·wp_walk using uE hl,ud hL
    exact ⟨_,rfl,h⟩
  ·wp_walk using uE hl,ud hL
   exact ⟨_,rfl,h⟩
section
variable {prog:Program} {w:World} {A:Around} {E:aE} {s:Shared}
theorem LM{l:Addr}{items:Array Value}{t:Tok}{Q:aE}(hL:s.heap.IsTuple l items)
  (h:∀h',IsEnum h' (s.heap.objs.size+1) s.heap.objs.size 1 .none→h'.IsTupleIter s.heap.objs.size l 0→(∀b o,s.heap.get? b=some o→h'.get? b=some o)→Q (.ref (s.heap.objs.size+1)) {s with heap:=h'}) :
  wpAny (model prog w) A (call (.type "enumerate") [.ref l] [(Str.ofString "start",.int 1 t)]) Q E s:=by
 obtain ⟨⟨c,jB,dt,sl⟩,hl,hc,n,hd⟩:=hL
 replace hc:c=.type "tuple":=hc
 replace hd:dt=.seq items n:=hd
 subst hc hd;have ft:=PySem.F.called_enumerate;refine LB (Q₁:=fun obj s₁=>s₁.TypeIs obj "enumerate"∧Q obj s₁) ft (by kernel_rfl) (by kernel_rfl) PySem.F.entry_enumerate_new PySem.F.entry_object_init (LL l items n jB sl t) ⟨hl,?_⟩ fun obj s₁ hq=>⟨hq.1,by unfold argsOk;kernel_rfl,_,LK ft.init.lookup ft.made (by decide),hq.1,rfl,hq.2⟩
 have hz:(s.heap.push {cls:=.type "tuple_iterator",data:=.fields #[.ref l,.int 0 0]}).objs.size=s.heap.objs.size+1:=Heap.size_push ..;show _∧_;rw [hz];have he:IsEnum ((s.heap.push {cls:=.type "tuple_iterator",data:=.fields #[.ref l,.int 0 0]}).push {cls:=.type "enumerate",data:=.fields #[.none,.bool false,.ref s.heap.objs.size,rawInt 1,.none,.none]}) (s.heap.objs.size+1) s.heap.objs.size 1 .none:=by have:=dE (s.heap.push {cls:=.type "tuple_iterator",data:=.fields #[.ref l,.int 0 0]}) (o:={cls:=.type "enumerate",data:=.fields #[.none,.bool false,.ref s.heap.objs.size,rawInt 1,.none,.none]}) rfl;rw [hz] at this;exact this
 exact ⟨⟨_,he,rfl⟩,h _ he ⟨_,bS _ (dE _ rfl),rfl,rfl⟩ fun b o x=>bS _ (bS _ x)⟩
end
def zE(K:aH)(l:Addr):It:=
  ⟨fun i H=>∃xs x,dw K H l xs∧xs[i]?=some x,
   fun i H v H'=>∃T x,H T=none∧v=.ref T∧H'=upd H T (.tup [.int ((i:Int)+1),x])∧∀xs,dw K H l xs→xs[i]?=some x,
   fun i H=>∃xs,dw K H l xs∧xs.length≤i⟩
variable {K:aH} {pos:Pos} {l:Addr}
theorem LN{P:Program}{w:World}{elts:List Expr}{k:Nat}{e it:Addr}(sM:e≠it):Turn P w K (.Tuple elts k pos) (zE K l) [e,it] e
  (fun i h=>(∃old,IsEnum h e it ((i:Int)+1) old)∧h.IsTupleIter it l i) where
 mem:=by simp
 obj:=fun i h st b hb=>by
  obtain ⟨⟨old,he⟩,h1⟩:=st;simp only [bZ,g8,g9] at hb;rcases hb with rfl | rfl;·exact ⟨_,he,fun v z=>by cases z⟩
  ·obtain ⟨o,e,c,d⟩:=h1
   exact ⟨o,e,fun v z=>by rw [d] at z;cases z⟩
 keep:=fun i h h' st k=>by obtain ⟨⟨old,he⟩,h1⟩:=st;exact ⟨⟨old,k _ (by simp) _ he⟩,h1.at fun o e=>k _ (by simp) o e⟩
 item:=by
  intro X hP hw hK hc i pins s σ H E I hf st hg;subst hP hw hK;obtain ⟨⟨old,he⟩,h1⟩:=st;obtain ⟨xs,x,gT,hx⟩:=hg;obtain ⟨its,rv,p,_⟩:=I.tuple gT;obtain ⟨u,hu,ru⟩:=rv.get hx;refine Ly he h1 p (x:=u) (by simpa using hu) sM fun h' g1 g2 g3 g4 g5=>⟨_,rfl,?_⟩
  refine wpAny_letOwnedTupleGo_enum g1 fun ku q1 sb=>?_;have sN:H s.heap.objs.size=none:=I.au.fresh (aw _);have lt:∀b o,s.heap.get? b=some o→b≠s.heap.objs.size:=fun b o e=>bY (aY e);have keep:∀b o,b∉[e,it]→s.heap.get? b=some o→ku.get? b=some o:=fun b o nb e=>by simp only [bZ,g8,g9,not_or] at nb;exact sb.extBut _ _ nb.1 (g5 b o nb.1 nb.2 e)
  have elt:e≠s.heap.objs.size:=lt _ _ he;have pT:=sb.extBut _ _ elt.symm g3;have iY:∀{b:Addr} {o:HO} (e:H b=some o),upd H s.heap.objs.size (.tup [.int ((i:Int)+1),x]) b=some o:=fun e=>by rw [aM (jl e sN)];exact e
  have au:bK X.prog X.w (upd H s.heap.objs.size (.tup [.int ((i:Int)+1),x])) ku:=fun b o e=>by
   by_cases hb:b=s.heap.objs.size
   ·subst hb
    rw [av] at e;cases e;exact ⟨by show 2≤sizeLine;decide,[.int ((i:Int)+1) s.toks,u],.cons ⟨_,rfl⟩ (.cons ru .nil),⟨_,pT,rfl,_,rfl⟩⟩
   ·rw [aM hb] at e
    refine (I.au b o e).gI (fun c v df q=>keep c v (fun m=>?_) q) (fun c q=>iY q) fun c xs q=>iY q;have nn:=(hf c m).1;rcases df with rfl | df;·rw [nn] at e;cases e
    ·rw [nn] at df;cases df
  have u1:Un (b3 X.stack) [e,it] H (upd H s.heap.objs.size (.tup [.int ((i:Int)+1),x])) s.heap ku:=
   ⟨fun b o e n _ hx=>keep b o hx e,fun b o e n _ hx=>⟨o.slots,keep b o hx e⟩,fun b o e n hx=>by rw [aM (lt b o e)];exact n,fun b o e hx=>⟨o,keep b o hx e⟩,fun b xs e=>iY e,fun b o u e=>iY e,fun b ps e=>⟨#[],by rw [iY e];simp⟩⟩
  refine ⟨.ref s.heap.objs.size,upd H s.heap.objs.size (.tup [.int ((i:Int)+1),x]),I.k4 (s':={s with heap:=ku,toks:=s.toks+1}) (ch:=[e,it]) rfl u1 au I.bare (fun b hb=>?_),rfl,⟨_,x,sN,rfl,rfl,fun as ha=>by rw [I.Bm ha gT];exact hx⟩,?_,fun b hb=>?_⟩
  ·obtain ⟨f0,f1,f2,f3,f4,f5⟩:=hf b hb
   exact ⟨f3,f1,f4,f5⟩
  ·refine ⟨⟨u,?_⟩,g2.extBut sb.extBut sM.symm⟩
   have z:((i+1:Nat):Int)+1=(i:Int)+1+1:=by lia
   rw [z];exact q1
  ·have nb:b≠s.heap.objs.size:=by
    simp only [bZ,g8,g9] at hb;rcases hb with rfl | rfl;·exact lt _ _ he
    ·obtain ⟨o,e,_⟩:=h1;exact lt _ _ e
   rw [aM nb];exact (hf b hb).1
 done:=by
  intro X hP hw hK hc i pins s σ H E I hf st hg;subst hP hw hK;obtain ⟨⟨old,he⟩,h1⟩:=st;obtain ⟨xs,gT,hx⟩:=hg;obtain ⟨its,rv,p,_⟩:=I.tuple gT;have hl:=rv.length;refine Lz (I.ok.hd hc) he h1 p (by simp;lia) fun h' g=>⟨rfl,?_⟩
  have keep:∀b o,b∉[e,it]→s.heap.get? b=some o→h'.get? b=some o:=fun b o nb e=>by simp only [bZ,g8,g9,not_or] at nb;exact g b o nb.2 e
  have au:bK X.prog X.w H h':=fun b o e=>by
   refine (I.au b o e).gI (fun c v df q=>keep c v (fun m=>?_) q) (fun c q=>q) fun c xs q=>q;have nn:=(hf c m).1;rcases df with rfl | df;·rw [nn] at e;cases e
   ·rw [nn] at df;cases df
  have u1:Un (b3 X.stack) [e,it] H H s.heap h':=
   ⟨fun b o e n _ hx=>keep b o hx e,fun b o e n _ hx=>⟨o.slots,keep b o hx e⟩,fun b o e n hx=>n,fun b o e hx=>⟨o,keep b o hx e⟩,fun b xs e=>e,fun b o u e=>e,fun b ps e=>⟨#[],by rw [e];simp⟩⟩
  refine I.k4 (s':={s with heap:=h'}) (ch:=[e,it]) rfl u1 au I.bare fun b hb=>?_;obtain ⟨f0,f1,f2,f3,f4,f5⟩:=hf b hb;exact ⟨f3,f1,f4,f5⟩
 self:=fun _ _ _ _ _ st h=>by obtain ⟨⟨old,he⟩,_⟩:=st;exact uh he h
theorem cw_kwT{M:Model}{A:Around}{E:aE}{s:Shared}{env:Env}{e:Expr}{lb:List Keyword}{Q:aE}
  (h:wpAny M A (spliced (backTo pos (starEach [e] env))) (fun vs s₁=>wpAny M A (evalAll ((backToKw pos (keywordEach lb env)).map (·.2))) (fun kvs s₂=>wpAny M A (call (.type T) vs (((backToKw pos (keywordEach lb env)).filterMap (·.1)).zip kvs)) Q E s₂) E s₁) E s)
  (he:backTo pos (starEach [e] env)=[(false,eval e env)]) (h1:(backToKw pos (keywordEach lb env)).all (·.1.isSome)=true) (h2:(backToKw pos (keywordEach lb env)).any (·.1.isNone)=false) :
  wpAny M A (callWith pos (.type T) [] (backTo pos (starEach [e] env)) (backToKw pos (keywordEach lb env))) Q E s:=by
 unfold callWith;rw [he] at h ⊢;have h':wpAny M A (evalArgs (.type T) true [(false,eval e env)] (backToKw pos (keywordEach lb env))) (fun a s₁=>wpAny M A (call (.type T) ([]++a.pos) a.kw) Q E s₁) E s:=evalArgs_kwB h1 h;refine aB (kP (bR h' (fun a s₁ h₁=>aB (q0 ?_)) fun _ _ x=>x));simp only [h2,oz,List.any_nil,Bool.or_false];exact aB (cf (aB (bR h₁ (fun r s₂ hr=>aB (kP (wpAny_point (cf hr)))) fun _ _ x=>x)))
def LO(K:aH)(ta:TA)(td:TE):TI:=fun σ H R=>ta σ H fun vs H1=>td σ H1 fun y H2=>∃l,vs=[.ref l]∧y=.int 1∧(∃xs,dw K H2 l xs)∧R (zE K l) H2
section
variable {X:Cx}
theorem LP{elts:List Expr}{k:Nat}{oW:Pos}{a de:Expr}{ta:TA}{td:TE}{p kp:Pos}(hg:Gl X "enumerate")(hm:X.mg "enumerate"=none)(ha:PA X [a] ta)(hd:PE X de td)(he:backTo pos (starEach [a] X.env)=[(false,eval a X.env)]:=by rfl) :
  PI X (.Tuple elts k oW) (.Call (.Name "enumerate" p) [a] [⟨some (Str.ofString "start"),de,kp⟩] pos) (LO X.K ta td):=by
 intro pins s σ H R I h
 refine ue (j_ I hg hm boot_enumerate ?_)
 refine cw_kwT (aI (ha pos pins s σ H _ I h) fun us s1 ⟨vs,H1,I1,r1,q1⟩=>?_) he rfl rfl
 show wpAny _ _ (evalAll [(do let v ←eval de X.env;standAt pos;pure v)]) _ _ s1
 refine wpAny_evalAll_cons (aB (aI (hd pins s1 σ H1 _ I1 q1) fun u s2 ⟨y,H2,I2,r2,q2⟩=>aB (q0 (cf (wpAny_evalAll_nil ?_)))))
 obtain ⟨l,rfl,rfl,⟨xs,gT⟩,q⟩:=q2
 obtain ⟨u',rfl,ru⟩:=vals1 r1
 cases ru
 obtain ⟨tk,rfl⟩:=r2
 obtain ⟨its,rv,p1,_⟩:=I2.tuple gT
 show wpAny _ _ (call (.type "enumerate") [.ref l] [(Str.ofString "start",.int 1 tk)]) _ _ s2
 refine LM (items:=its.toArray) p1 fun h' z1 z2 z4=>?_
 refine uh (s:={s2 with heap:=h'}) z1 ?_
 refine ⟨_,_,_,_,H2,rfl,I2.kept (t':=s2.toks) z4,LN (Nat.succ_ne_self _),⟨⟨_,z1⟩,z2⟩,fun b hb=>?_,q⟩
 have le:s2.heap.objs.size≤b:=by
  simp only [bZ,g8,g9] at hb
  rcases hb with rfl | rfl
  ·exact Nat.le_add_right ..
  ·exact aw _
 exact I2.oP le (I2.au.fresh le)
end
open PySem PySem.Spec PyProof.Rows My
theorem LQ{xs:List V}{H1:Hp}(h:H1 l=some (.tup xs)):Cy (zE K l) ((List.range xs.length).zip xs |>.map fun p=>(V.int ((p.1:Int)+1),p.2)) H1 where
 go:=fun i Hc s hi=>by
  have hi:i<xs.length:=by simpa using hi
  exact ⟨xs,xs[i],.of (s _ _ h),by simp [hi]⟩
 dH:=fun i Hc v H' s y=>by
  obtain ⟨T,x,nT,e1,e2,e3⟩:=y;refine ⟨T,.int ((i:Int)+1),x,e1,nT,e2,fun hi=>?_⟩;have hi:i<xs.length:=by simpa using hi
  have:=e3 xs (.of (s _ _ h));rw [bU,(List.getElem?_zip_eq_some (z:=(i,x))).mpr ⟨iH hi,this⟩];rfl
 stop:=fun i Hc s hi=>by
  have hi:xs.length≤i:=by simpa using hi
  exact ⟨xs,.of (s _ _ h),hi⟩
end L2
namespace My
open PySem L2
def LR:Sp:=fun vs H Q _=>∃z:Int,vs=[.int z]∧Q (.bl (decide (1≤z∧z≤60))) H
def LS:Sp:=fun vs H Q _=>∃(ta:Addr) (as:List Nat),vs=[.ref ta]∧H ta=some (.tup (as.map fun k:Nat=>V.int (k:Int)))∧(aD.tree as).ok∧∀H',ah H H'→Q (.bl true) H'
def LU:Sp:=fun vs H Q _=>∃(td:Addr) (N:aD),vs=[.ref td]∧ToldN H td N∧N.ok∧∀H',ah H H'→Q (.bl true) H'
def LV:Sp:=fun vs H Q _=>∃(td:Addr) (N:aD),vs=[.ref td]∧ToldN H td N∧N.ok∧Q (.int (N.sz:Int)) H
def LW:Sp:=fun vs H Q _=>∃(td:Addr) (N:aD) (i j:Nat),vs=[.ref td,.int (i:Int),.int (j:Int)]∧ToldN H td N∧N.ok∧i<j∧j<N.sz∧Q (.bl (N.lk i j)) H
def DD:Sp:=fun vs H Q _=>∃(td:Addr) (N:aD),vs=[.ref td]∧ToldN H td N∧N.ok∧∀(t:Addr) (H':Hp),ah H H'→iy H' t N.sz (aX N)→Q (.ref t) H'
def dB(H:Hp)(T:Addr):Prop:=∃x:Int,H T=some (.lst [.int x])
def bJ(T:Addr)(H H':Hp):Prop:=∀b o,b≠T→H b=some o→H' b=some o
variable {T:Addr} {H H1:Hp}
theorem bJ.trans{H2:Hp}(a:bJ T H H1)(b:bJ T H1 H2):bJ T H H2:=fun c o n e=>b c o n (a c o n e)
theorem bJ.of(a:ah H H1):bJ T H H1:=fun c o _ e=>a c o e
theorem bJ.upd{o:HO}:bJ T H (L2.upd H T o):=fun c u n e=>(aM n).trans e
theorem dB.mono(h:dB H T)(a:ah H H1):dB H1 T:=let ⟨x,e⟩:=h;⟨x,a _ _ e⟩
theorem dB.ne{b:Addr}(h:dB H T)(n:H b=none):b≠T:=fun z=>by obtain ⟨x,e⟩:=h;rw [z,e] at n;cases n
def LX(K:aH):Sp:=fun vs H Q _=>∃(a:Addr) (ns:List Int) (k:Nat),vs=[.ref a,.int (k:Int)]∧bD K H a (ns.map V.int)∧∀z:Int,Q (.int z) H
def LY(K:aH):Sp:=fun vs H Q _=>∃(a:Addr) (ns:List Int) (k:Nat),vs=[.ref a,.int (k:Int)]∧bD K H a (ns.map V.int)∧k≤1000∧∀(T:Addr) (H':Hp),ah H H'→H T=none→dB H' T→Q (.ref T) H'
def LZ:Sp:=fun vs H Q _=>∃(T:Addr) (m:Nat),vs=[.ref T,.int (m:Int)]∧dB H T∧1≤m∧m≤1000∧∀(d:Nat) (H':Hp),d<m→bJ T H H'→dB H' T→Q (.int (d:Int)) H'
theorem bJ.refl(T:Addr)(H:Hp):bJ T H H:=fun _ _ _ e=>e
theorem L0{wi:TI}{ρ:St→St}{te:TE}{σ:St}{Q:VK}{n:Nat}(hn:n<sizeLine)(hT:dB H T)(gS:∀R:It→Hp→Prop,R (jr 0 n) H→wi σ H R)(Pr:Nat→V→Prop)
  (step:∀i:Nat,i<n→∀(Hc:Hp) (R:VK),bJ T H Hc→dB Hc T→(∀y H3,bJ T Hc H3→dB H3 T→Pr i y→R y H3)→te (some (.int (0+(i:Int)))::ρ σ) Hc R)
  (fin:∀(D:Addr) (ys:List V) (Hc:Hp),D≠T→bJ T H Hc→dB Hc T→ys.length=n→(∀(i:Nat) (y:V),ys[i]?=some y→Pr i y)→Hc D=some (.lst ys)→Q (.ref D) Hc):fK wi ρ (fun _ H Q=>Q true H) te σ H Q:=by
 refine gS _ ?_;intro D nD;have nP:=hT.ne nD;have up:∀{Hc:Hp} {o:HO},dB Hc T→dB (L2.upd Hc D o) T:=fun⟨x,e⟩=>⟨x,(aM (Ne.symm nP)).trans e⟩;have off:∀{Hc:Hp} {o:HO},bJ T H Hc→bJ T H (L2.upd Hc D o):=fun h b u ne e=>(aM (fun z=>by rw [z,nD] at e;cases e)).trans (h b u ne e)
 refine ⟨fun i m ys Hc=>m=n-i∧i≤n∧Hc D=some (.lst ys)∧bJ T H Hc∧dB Hc T∧ys.length=i∧∀j y,ys[j]?=some y→Pr j y,⟨_,rfl,cg _,av,off (bJ.refl T H),up hT,rfl,fun j y e=>by simp at e⟩,?_⟩
 rintro i m ys Hc ⟨rfl,hi,eD,sH,pc,el,hP⟩;refine ⟨eD,?_⟩;by_cases b4:i<n
 ·refine .inr ⟨b4,fun x H' hy=>?_⟩
  obtain ⟨rfl,rfl⟩:=hy;rw [ae rfl];refine step i b4 _ _ sH pc fun y H3 s3 p3 hp=>?_;have e3:=s3 _ _ nP eD;refine ⟨e3,by lia,n-(i+1),by lia,rfl,b4,av,off (sH.trans s3),up p3,by simp [el],fun j y' e=>?_⟩
  by_cases hj:j<i;·exact hP j y' (by rw [jd (by lia)] at e;exact e)
  ·have hj:j=i:=by have:=(cy.mp e).1;simp at this;lia
   subst hj;have e':y'=y:=by rw [jc (by lia),el,oB] at e;simpa using e.symm
   subst e';exact hp
 ·have e:i=n:=by lia
  subst e;exact .inl ⟨aw _,fin D ys Hc nP sH pc el hP eD⟩
end My
namespace L2
open PySem
theorem L3{v:V}{r:List V→Hp→VK→Prop}{te:TE}{σ:St}{H:Hp}{Q:VK}(h:te σ H fun x H1=>r [x] H1 fun y H2=>uT (fun _ H Q=>Q [v,y] H) σ H2 Q):uT (iR (tC v) (iR (uV r (iR te oX)) oX)) σ H Q:=h
end L2
namespace My
open PySem L2
variable {Q:VK} {n:Nat}
theorem vT{wi:TI}{ρ:St→St}{te:TE}{σ:St}{H:Hp}(g:Nat→Int×Int)(hn:n≤500)(gS:∀R:It→Hp→Prop,R (jr 0 n) H→wi σ H R)
  (step:∀i:Nat,i<n→∀(Hc:Hp) (R:VK),ah H Hc→(∀b H3,ah Hc H3→H3 b=some (.tup [.int (g i).1,.int (g i).2])→R (.ref b) H3)→te (some (.int (0+(i:Int)))::ρ σ) Hc R)
  (fin:∀(D:Addr) (ys:List V) (Hc:Hp),H D=none→ah H Hc→Hc D=some (.lst ys)→bA Hc ys ((List.range n).map g)→Q (.ref D) Hc):fK wi ρ (fun _ H Q=>Q true H) te σ H Q:=by
 have lx:((List.range n).map fun i:Nat=>V.int (0+(i:Int))).length=n:=by simp
 refine vd (xs:=(List.range n).map fun i:Nat=>V.int (0+(i:Int))) (fun R h=>gS R (h _ _ (ah.refl _) pe)) (dM (by lia)) (fun _ i y Hz=>∃b:Addr,y=.ref b∧Hz b=some (.tup [.int (g i).1,.int (g i).2])) (fun D i y Ha Hb ys ⟨b,h1,h2⟩ e f=>⟨b,h1,f b _ (fun z=>by rw [z,e] at h2;cases h2) h2⟩) ?_ ?_
 ·intro D i x hx Hc R sc _ kc
  have hi:i<n:=by have:=(cy.mp hx).1;lia
  rw [bU,iH hi] at hx;cases hx;exact step i hi Hc R sc fun b H3 s3 e=>kc _ _ s3 ⟨b,rfl,e⟩
 ·intro D ys Hc nD sc ly hP eD
  refine fin D ys Hc nD sc eD ⟨by rw [ly,lx];simp,fun i v p h1 h2=>?_⟩
  have hi:i<n:=by have:=(cy.mp h1).1;lia
  rw [bU,iH hi] at h2;cases h2;exact hP i v h1
def pR(n k:Nat):Nat:=((List.range k).map fun i=>n-1-i).sum
theorem zF{n:Nat}{f:Nat→Nat→Bool}:∀k,(eS n f k).length≤pR n k
 | 0=>aw _
 | k+1=>by
  show (eS n f k++fR n f k).length≤_;have h1:=zF (n:=n) (f:=f) k;have h2:(fR n f k).length≤n-1-k:=by unfold fR;rw [aJ];refine cG (rC _ _) ?_;rw [da];lia
  have h3:pR n (k+1)=pR n k+(n-1-k):=by unfold pR;rw [oC,iI,rj];simp
  rw [cY];lia
theorem L4:∀n∈List.range 61,pR n n≤1770:=by decide +kernel
variable {N:aD}
theorem zG(ok:N.ok):(aX N).length≤1770:=cG (zF _) (L4 _ (cp.mpr (by have:=jM ok;lia)))
theorem tE:(aX N).Nodup:=(vL (N:=N)).imp fun h e=>by subst e;exact yY h
theorem tF{K:aH}{Hc:Hp}{fd:Addr}{xs:List V}{M:aZ}(ok:N.ok)(ef:Hc fd=some (.lst xs))(hX:bA Hc xs M)(nd:M.Nodup)(mm:∀z,z∈M↔z∈aX N)
  (kk:∀(lt:Addr) (zs:List V) (Hd:Hp),ah Hc Hd→Hd lt=some (.tup zs)→bA Hd zs (aX N)→Q (.ref lt) Hd) :
  CT [.ref fd] Hc (fun x H2=>∃p ys,[x]=[V.ref p]∧((bD K H2 p ys∧∀l,H2 l=none→Q (.ref l) (upd H2 l (.tup ys)))∨(dw K H2 p ys∧Q (.ref p) H2))):=by
 have lX:=hX.1;have L5:M.Perm (aX N):=(oI nd tE).mpr mm;have pJ:=zG ok;have lM:=L5.length_eq;have RF:=jM ok;have small:∀q∈M,0≤q.2∧q.2<1000:=fun q hq=>by have:=lN q ((mm q).mp hq);lia
 refine ⟨fd,xs,fun i=>(M.getD i (0,0)).1,fun i=>(M.getD i (0,0)).2,rfl,ef,by lia,fun i v hv=>?_,fun p l' hp hu L6=>?_⟩
 ·have hi:i<M.length:=by rw [←lX];exact (cy.mp hv).1
  obtain ⟨b,rfl,eb⟩:=hX.2 i v M[i] hv (by simp [hi])
  dsimp only;rw [getD_at hi];exact ⟨⟨b,rfl,eb⟩,small _ (dv hi)⟩
 ·rw [lX] at hp hu
  obtain ⟨pm,pw⟩:=JU hp hu nd small;have sl:ah Hc (upd Hc l' (.lst (p.toList.map fun i=>xs.getD i .aQ))):=aP L6;have hP:bA Hc (p.toList.map fun i=>xs.getD i .aQ) (p.toList.map fun i=>M.getD i (0,0)):=hX.pick _ fun i hi=>by have:p.toList.Perm (List.range M.length):=rA.mp hp;exact cp.mp (this.mem_iff.mp hi)
  have eN:(p.toList.map fun i=>M.getD i (0,0))=aX N:=CY pw vL fun q=>(pm.mem_iff).trans (mm q);rw [eN] at hP;generalize (p.toList.map fun i=>xs.getD i .aQ)=zs at sl hP ⊢;refine ⟨l',zs,rfl,.inl ⟨.of av,fun lt zH=>?_⟩⟩;have DE:=sl.trans (aP (o:=.tup zs) zH);exact kk lt zs _ DE av (hP.mono DE)
def dC(f:Nat→Nat→Bool)(j:Nat):Nat→List (Int×Int)
 | 0=>[]
 | i+1=>dC f j i++if f i j then [((i:Int),(j:Int))] else []
def dh(f:Nat→Nat→Bool):Nat→List (Int×Int)
 | 0=>[]
 | j+1=>dh f j++dC f j j
theorem vU{f:Nat→Nat→Bool}{j:Nat}{z:Int×Int}:∀{k:Nat},z∈dC f j k↔∃i,i<k∧f i j=true∧z=((i:Int),(j:Int))
 | 0=>⟨(fun h=>by cases h),fun⟨i,h,_⟩=>by lia⟩
 | k+1=>by
  show z∈dC f j k++_↔_;rw [cR,vU (k:=k)];constructor
  ·rintro (⟨i,h1,h2,h3⟩ | h)
   ·exact ⟨i,by lia,h2,h3⟩
   ·by_cases q:f k j=true
    ·rw [ae q] at h
     exact ⟨k,by lia,q,bV.mp h⟩
    ·rw [aa q] at h
     cases h
  ·rintro ⟨i,h1,h2,h3⟩
   by_cases q:i<k;·exact .inl ⟨i,q,h2,h3⟩
   ·have:i=k:=by lia
    subst this;rw [ae h2];exact .inr (bV.mpr h3)
theorem zI{f:Nat→Nat→Bool}{z:Int×Int}:∀{k:Nat},z∈dh f k↔∃i j,i<j∧j<k∧f i j=true∧z=((i:Int),(j:Int))
 | 0=>⟨(fun h=>by cases h),fun⟨i,j,_,h,_⟩=>by lia⟩
 | k+1=>by
  show z∈dh f k++_↔_;rw [cR,zI (k:=k),vU];constructor
  ·rintro (⟨i,j,h1,h2,h3⟩ | ⟨i,h1,h2,h3⟩)
   ·exact ⟨i,j,h1,by lia,h3⟩
   ·exact ⟨i,k,h1,by lia,h2,h3⟩
  ·rintro ⟨i,j,h1,h2,h3,h4⟩
   by_cases q:j<k;·exact .inl ⟨i,j,h1,q,h3,h4⟩
   ·have:j=k:=by lia
    subst this;exact .inr ⟨i,h1,h3,h4⟩
theorem DF{f:Nat→Nat→Bool}{j:Nat}:∀k,(dC f j k).Nodup
 | 0=>rD
 | k+1=>by
  show (dC f j k++_).Nodup;refine j7.mpr ⟨DF k,by split <;> simp,fun a ha b hb e=>?_⟩
  obtain ⟨i,h1,_,rfl⟩:=vU.mp ha;by_cases q:f k j=true
  ·rw [ae q,bV] at hb
   rw [hb] at e;have:=b9 Prod.fst e;dsimp only at this;lia
  ·rw [aa q] at hb
   cases hb
theorem vV{f:Nat→Nat→Bool}:∀k,(dh f k).Nodup
 | 0=>rD
 | k+1=>by show (dh f k++dC f k k).Nodup;refine j7.mpr ⟨vV k,DF k,fun a ha b hb e=>?_⟩;obtain ⟨i,j,_,h1,_,rfl⟩:=zI.mp ha;obtain ⟨i',_,_,rfl⟩:=vU.mp hb;have:=b9 Prod.snd e;dsimp only at this;lia
variable {z:Int×Int}
theorem zJ:z∈dh N.lk N.sz↔z∈aX N:=by
 rw [zI];constructor
 ·rintro ⟨i,j,h1,h2,h3,rfl⟩
  exact vK.mpr ⟨h1,h2,h3⟩
 ·intro h
  obtain ⟨i,j,_,h2,h3,h4,e⟩:=mem_of h;exact ⟨i,j,h2,h3,h4,e⟩
theorem DG(ok:N.ok){k i:Nat}(hk:k<N.sz)(hi:i≤k):(dh N.lk k++dC N.lk k i).length≤1770:=by
 have h1:∀d,(dC N.lk k i).length≤(dC N.lk k (i+d)).length:=fun d=>by
  induction d with
  | zero=>exact aw _
  | succ d ih=>show _≤(dC N.lk k (i+d)++_).length;rw [cY];lia
 have h2:∀d,(dh N.lk (k+1)).length≤(dh N.lk (k+1+d)).length:=fun d=>by
  induction d with
  | zero=>exact aw _
  | succ d ih=>show _≤(dh N.lk (k+1+d)++_).length;rw [cY];lia
 have a:=h1 (k-i);rw [show i+(k-i)=k by lia] at a
 have b:=h2 (N.sz-(k+1));rw [show k+1+(N.sz-(k+1))=N.sz by lia] at b
 have c:(dh N.lk (k+1)).length=(dh N.lk k).length+(dC N.lk k k).length:=cY;have d:=((oI (vV N.sz) (tE (N:=N))).mpr fun z=>zJ).length_eq;have e:=zG ok;rw [cY];lia
theorem zK:z∈aX N↔∃a b:Nat,z=((a:Int),(b:Int))∧a<b∧b<N.sz∧N.lk a b=true:=by
 constructor
 ·intro h
  obtain ⟨i,j,_,h2,h3,h4,e⟩:=mem_of h;exact ⟨i,j,e,h2,h3,h4⟩
 ·rintro ⟨a,b,rfl,h⟩
  exact vK.mpr h
theorem vW{g:Nat→Int×Int}(inj:∀i j,i<n→j<n→g i=g j→i=j):((List.range n).map g).Nodup:=by refine kY.mpr (List.Pairwise.imp_of_mem (fun{a b} ha hb h e=>h (inj a b (cp.mp ha) (cp.mp hb) e)) j6)
def vX(n:Nat):List (Int×Int):=[((0:Int),(n:Int)-1)]++(List.range (n-1)).map fun k:Nat=>((k:Int),(k:Int)+1)
theorem L7(h:3≤n):(vX n).Nodup∧∀z,z∈vX n↔z∈aX (.ring n):=by
 refine ⟨j7.mpr ⟨by simp,vW fun i j _ _ e=>by have:=b9 Prod.fst e;dsimp only at this;lia,fun a ha b hb e=>?_⟩,fun z=>?_⟩
 ·rw [bV.mp ha] at e
  obtain ⟨k,_,rfl⟩:=d5.mp hb;have e1:=b9 Prod.fst e;have e2:=b9 Prod.snd e;dsimp only at e1 e2;lia
 ·rw [zK,vX,cR,bV,d5]
  constructor
  ·rintro (rfl | ⟨k,hk,rfl⟩)
   ·refine ⟨0,n-1,by rw [hG];constructor <;> lia,by lia,by show n-1<n;lia,?_⟩
    show (decide (n-1=0+1) || decide (n-1+1=0+n))=true;rw [aK (show n-1+1=0+n by lia),Bool.or_true]
   ·have hk:=cp.mp hk
    refine ⟨k,k+1,by rw [hG];constructor <;> lia,by lia,by show k+1<n;lia,?_⟩
    show (decide (k+1=k+1) || _)=true;rw [aK rfl,Bool.true_or]
  ·rintro ⟨a,b,rfl,h1,h2,h3⟩
   have h2:b<n:=h2;have h3:(decide (b=a+1) || decide (b+1=a+n))=true:=h3;rw [uy,dm,dm] at h3;rcases h3 with h3 | h3;·exact .inr ⟨a,cp.mpr (by lia),by rw [hG];constructor <;> lia⟩
   ·exact .inl (by rw [hG];constructor <;> lia)
def vY(m:Nat):List (Int×Int):=((List.range m).map fun k:Nat=>(2*(k:Int),2*(k:Int)+1))++(List.range (2*m-2)).map fun k:Nat=>((k:Int),(k:Int)+2)
theorem L8{m:Nat}:(vY m).Nodup∧∀z,z∈vY m↔z∈aX (.cV m):=by
 refine ⟨j7.mpr ⟨vW fun i j _ _ e=>by have:=b9 Prod.fst e;dsimp only at this;lia,vW fun i j _ _ e=>by have:=b9 Prod.fst e;dsimp only at this;lia,fun a ha b hb e=>?_⟩,fun z=>?_⟩
 ·obtain ⟨i,_,rfl⟩:=d5.mp ha
  obtain ⟨k,_,rfl⟩:=d5.mp hb;have e1:=b9 Prod.fst e;have e2:=b9 Prod.snd e;dsimp only at e1 e2;lia
 ·rw [zK,vY,cR,d5,d5]
  constructor
  ·rintro (⟨k,hk,rfl⟩ | ⟨k,hk,rfl⟩)
   ·have hk:=cp.mp hk
    refine ⟨2*k,2*k+1,by rw [hG];constructor <;> lia,by lia,by show 2*k+1<2*m;lia,?_⟩
    show (_ || (decide (2*k+1=2*k+1) && decide (2*k % 2=0)))=true;rw [aK rfl,aK (show 2*k % 2=0 by lia),Bool.and_true,Bool.or_true]
   ·have hk:=cp.mp hk
    refine ⟨k,k+2,by rw [hG];constructor <;> lia,by lia,by show k+2<2*m;lia,?_⟩
    show (decide (k+2=k+2) || _)=true;rw [aK rfl,Bool.true_or]
  ·rintro ⟨a,b,rfl,h1,h2,h3⟩
   have h2:b<2*m:=h2;have h3:(decide (b=a+2) || (decide (b=a+1) && decide (a % 2=0)))=true:=h3;rw [uy,iF,dm,dm,dm] at h3;rcases h3 with h3 | ⟨h3,h4⟩;·exact .inr ⟨a,cp.mpr (by lia),by rw [hG];constructor <;> lia⟩
   ·exact .inl ⟨a / 2,cp.mpr (by lia),by rw [hG];constructor <;> lia⟩
def zL(as:List Nat):List (Int×Int):=(List.range as.length).map fun k:Nat=>(((as.getD k 0:Nat):Int),(k:Int)+1)
theorem L9{as:List Nat}(h:∀i,i<as.length→as.getD i 0≤i):(zL as).Nodup∧∀z,z∈zL as↔z∈aX (.tree as):=by
 refine ⟨vW fun i j _ _ e=>by have:=b9 Prod.snd e;dsimp only at this;lia,fun z=>?_⟩
 rw [zK,zL,d5];constructor
 ·rintro ⟨k,hk,rfl⟩
  have hk:=cp.mp hk;have:=h k hk;refine ⟨as.getD k 0,k+1,by rw [hG];constructor <;> lia,by lia,by show k+1<as.length+1;lia,?_⟩
  show decide (as.getD (k+1-1) 0=as.getD k 0)=true;rw [Nat.add_sub_cancel];exact aK rfl
 ·rintro ⟨a,b,rfl,h1,h2,h3⟩
  have h2:b<as.length+1:=h2;have h3:as.getD (b-1) 0=a:=dc h3;refine ⟨b-1,cp.mpr (by lia),?_⟩
  rw [h3,hG];constructor <;> lia
end My
namespace L2
open PySem PySem.W PyProof.Rows My
section
variable {prog:Program} {w:World} {A:Around} {E:aE} {s:Shared}
end
end L2
namespace My
open PySem L2 Classical
open PySem L2
theorem L_{n:Nat}{f:List Nat}(h:eU n f):f.length≤n:=by
 have h1:((List.range n).filter fun p=>decide (p∈f)).Perm f:=(oI (j6.filter _) h.1).mpr fun x=>by rw [fz,cp,dm];exact ⟨fun h=>h.2,fun hx=>⟨h.2 x hx,hx⟩⟩
 rw [←h1.length_eq];exact cG (rC ..) (by simp)
end My
namespace L2
open PySem PySem.Spec PyProof.Rows
section
variable {prog:Program} {w:World} {A:Around} {E:aE} {s:Shared}
end
section
variable {X:Cx} {tg:Expr}
end
section
variable {prog:Program} {w:World} {K:Type} [DecidableEq K] {knd:HeapKind prog w K} {A:Around} {E:aE} {s:Shared}
end
section
variable {prog:Program} {w:World} {A:Around} {E:aE} {s:Shared}
end
section
variable {X:Cx} {pins:aN} {σ:St} {H:Hp} {s:Shared}
end
section
variable {X:Cx} {tg:Expr}
end
open PySem PySem.W PyProof.Rows My
end L2
namespace My
open PySem L2
end My
namespace L2
open PySem
end L2
namespace My
end My
namespace L2
open PySem PySem.Spec PyProof.Rows
open PySem PySem.Spec PyProof.Rows PySem.W
open PySem PySem.Spec PyProof.Rows PySem.W Att
section
variable {prog:Program} {w:World} {A:Around} {E:aE} {s:Shared}
theorem Ma:typeLookup (.type "list_reverseiterator") "__len__"=pure none:=by rw [typeLookup_type,builtinLookup_eq_fast];kernel_rfl
theorem Mb:typeLookup (.type "list_reverseiterator") "__length_hint__"=pure (some (.builtin "list_reverseiterator.__length_hint__")):=by rw [typeLookup_type,builtinLookup_eq_fast];kernel_rfl
theorem Mc{r:Addr}{Q:Bool→Shared→Prop}(hT:s.TypeIs (.ref r) "list_reverseiterator")(h:Q false s):wpAny (model prog w) A (Builtin.List.listLengthHint (.ref r)) Q E s:=by
 unfold Builtin.List.listLengthHint;refine aB (wpAny_specialOf hT Ma ?_);refine oJ (fun i_=>absurd i_ (by decide)) (fun _=>?_)
 refine oJ (fun i_=>absurd i_ (by decide)) (fun _=>?_)
 refine aB (wpAny_specialOf hT Mb ?_);generalize DH:("list_reverseiterator.__length_hint__":String)=Md
 wp_delta
 rw [show splitId Md=some ("list_reverseiterator","__length_hint__") from by subst DH;decide +kernel]
 subst DH;refine aB (wpAny_isInstance (T:="list_reverseiterator") (b:=true) hT (by rw [isSubtype_type];kernel_rfl) ?_)
 refine oJ (fun i_=>absurd i_ (by decide)) (fun _=>?_)
 refine oJ (fun _=>?_) (fun i_=>absurd (by decide +kernel) i_)
 refine oJ (fun i_=>absurd i_ (by decide +kernel)) (fun _=>?_)
 exact cf h
def vZ(its acc:Array Value):Prop:=acc.toList=its.toList.reverse
variable {its:Array Value}
theorem Me{acc:Array Value}(h:ItemsOf (fun i v=>its[its.size-1-i]?=some v) acc its.size):vZ its acc:=by
 refine List.ext_getElem? fun i=>?_;have ha:=h.1;by_cases hi:i<acc.size
 ·have e1:=h.2 i _ (Array.getElem?_eq_getElem hi)
  rw [uf,Array.getElem?_eq_getElem hi,List.getElem?_reverse (by simpa using (by lia:i<its.size)),gF,uf,e1]
 ·rw [uf,Array.getElem?_eq_none (by lia),xF (by rw [List.length_reverse,gF];lia)]
variable {R:Result→Shared→Prop} {it l:Addr}
theorem Mf(hh:A.handled=none)(hit:s.heap.IsRevIter it l ((its.size:Int)-1))(hl:s.heap.IsList l its)(d9:l≠it)(hlen:its.size≤2 ^ 24)(S:Addr)(res:Value)(c₀:Nat)
  (hS:s.heap.get? S=some {cls:=.type "list",data:=.seq #[] c₀}) (pS:S≠l)
  (hR:∀h' tk gA c',(∀b o,b≠S→b≠it→s.heap.get? b=some o→h'.get? b=some o)→h'.get? S=some {cls:=.type "list",dict:=none,data:=.seq gA c',slots:=#[]}→vZ its gA→R (.ok (.ret res)) {s with heap:=h',toks:=tk}) :
  wpAny (model prog w) A.in1 (Builtin.List.listExtendWith (.ref S) (.ref it) res)
   (fun fin s'=>match fin with | .done f=>R (.ok f) s' | .again c'=>c'.quiet=true∧codeAny (model prog w) A c' R s') (fun e s'=>R (.error e) s') s:=by
 have hT:=hit.typeIs;have v7:S≠it:=fun e=>by obtain ⟨o,ho,hc,zM⟩:=hit;rw [e,ho] at hS;cases hS;cases zM
 have Mg:S∉[it,l]:=fun Mh=>by
  rcases bZ.mp Mh with e | e;·exact v7 e
  ·exact pS (bV.mp e)
 have W:=(Walks.listRev (prog:=prog) (w:=w) (A:=A.in1) hh it l d9 its).toS
 have key:∀(h:Heap) (c₁ tk:Nat),h.IsRevIter it l ((its.size:Int)-1-((0:Nat):Int))∧h.IsList l its→(∀b o,b≠S→s.heap.get? b=some o→h.get? b=some o)→
   h.get? S=some {cls:=.type "list",data:=.seq #[] c₁}→codeAny (model prog w) A (.builtin "list.extend.loop" ⟨[.ref S,.ref it,res],[]⟩) R {s with heap:=h,toks:=tk}:=by
  intro h c₁ tk hit hk Mi;refine codeAny_extend_loopS W (by rw [l_];lia) S Mg res its.size 0 _ #[] c₁ rfl (cg _) ⟨cg _,hit⟩ Mi (ItemsOf.nil _) fun s' gA c' DI tG mV=>?_
  rw [Moved.eq_with DI];refine hR s'.heap s'.toks gA c' (fun b o hb eX e=>DI.heap b o (fun zN=>?_) (hk b o hb e)) tG (Me mV);rcases bZ.mp zN with e' | zN;·exact hb e'
  ·exact eX (bV.mp zN)
 have Mj:s.heap.IsRevIter it l ((its.size:Int)-1-((0:Nat):Int)):=by
  have e:(its.size:Int)-1-((0:Nat):Int)=(its.size:Int)-1:=by lia
  rw [e];exact hit
 unfold Builtin.List.listExtendWith;refine aB (wpAny_typeOf (T:="list_reverseiterator") hT ?_);simp only [show Builtin.List.listSameRef (.ref S) (.ref it)=false from by simp [Builtin.List.listSameRef,v7],show (Value.type "list_reverseiterator" == Value.type "list")=false from by decide,show (Value.type "list_reverseiterator" == Value.type "tuple")=false from by decide,Bool.or_false,Bool.false_eq_true,if_false]
 refine aB (wpAny_pyIter_revIter hit ?_);refine aB (kP (Mc hT ?_));refine oJ (fun i_=>absurd i_ (by decide)) (fun _=>cf ⟨plainId_quiet F.plain_extend_loop _,key _ c₀ _ ⟨Mj,hl⟩ (fun b o _ e=>e) hS⟩)
theorem Mk(hh:A.handled=none)(hit:s.heap.IsRevIter it l ((its.size:Int)-1))(hl:s.heap.IsList l its)(d9:l≠it)(hlen:its.size≤2 ^ 24)(S:Addr)
  (hS:s.heap.get? S=some {cls:=.type "list",data:=.seq #[]}) (pS:S≠l)
  (hR:∀h' tk gA c',(∀b o,b≠S→b≠it→s.heap.get? b=some o→h'.get? b=some o)→h'.get? S=some {cls:=.type "list",dict:=none,data:=.seq gA c',slots:=#[]}→vZ its gA→R (.ok (.ret .none)) {s with heap:=h',toks:=tk}) :
  wpAny (model prog w) A.in1 (Builtin.«list.__init__» ⟨[.ref S,.ref it],[]⟩)
   (fun fin s'=>match fin with | .done f=>R (.ok f) s' | .again c'=>c'.quiet=true∧codeAny (model prog w) A c' R s') (fun e s'=>R (.error e) s') s:=by
 have v7:S≠it:=fun e=>by
  obtain ⟨o,ho,hc,zM⟩:=hit
  rw [e,ho] at hS
  cases hS
  cases zM
 show wpAny _ _ (do let old ←Builtin.List.listItems (.ref S);Builtin.List.listUpdate (.ref S) (fun _=>#[]);letGo old.toList.reverse;Builtin.List.listExtendWith (.ref S) (.ref it) .none) _ _ s
 refine aB ?_
 unfold Builtin.List.listItems
 refine aB (wpAny_seqItems hS rfl (cf ?_))
 show wpAny _ _ (updateSeq S (fun _=>#[]) >>= fun _=>letGo (#[]:Array Value).toList.reverse >>= fun _=>Builtin.List.listExtendWith (.ref S) (.ref it) .none) _ _ s
 refine aB (wpAny_updateSeq hS rfl ?_)
 have Ml:=xA (Obj.mapSeq (fun _=>(#[]:Array Value))) hS rfl
 have zO:∀b o,b≠S→s.heap.get? b=some o→(s.heap.update S (Obj.mapSeq (fun _=>(#[]:Array Value)))).get? b=some o:=fun b o hb e=>(xB _ _ (Ne.symm hb)).trans e
 refine aB (wpAny_letGo ?_)
 exact Mf (s:={s with heap:=s.heap.update S (Obj.mapSeq (fun _=>(#[]:Array Value)))}) hh (hit.at fun o e=>zO it o (Ne.symm v7) e) (hl.at fun o e=>zO l o (Ne.symm pS) e) d9 hlen S .none _ Ml pS fun h' tk gA c' hk tG mV=>hR h' tk gA c' (fun b o hb eX e=>hk b o hb eX (zO b o hb e)) tG mV
theorem Mm{Q:aE}(hh:A.handled=none)(hit:s.heap.IsRevIter it l ((its.size:Int)-1))(hl:s.heap.IsList l its)(d9:l≠it)(hlen:its.size≤2 ^ 24)
  (hQ:∀h' tk gA c',(∀b o,b≠it→s.heap.get? b=some o→h'.get? b=some o)→h'.get? s.heap.objs.size=some {cls:=.type "list",dict:=none,data:=.seq gA c',slots:=#[]}→vZ its gA→Q (.ref s.heap.objs.size) {s with heap:=h',toks:=tk}) :
  wpAny (model prog w) A (call (.type "list") [.ref it]) Q E s:=by
 refine callType_codes (Q₁:=fun obj s₁=>obj=.ref s.heap.objs.size∧s₁={s with heap:=s.heap.push {cls:=.type "list",data:=.seq #[]}}) F.called_list (F.typeCall_list_1 _) F.entry_list_init (code_list_new _ ⟨rfl,rfl⟩) fun obj s₁ h₁=>?_;obtain ⟨rfl,rfl⟩:=h₁;have hS:(s.heap.push {cls:=.type "list",data:=.seq #[]}).get? s.heap.objs.size=some {cls:=.type "list",data:=.seq #[]}:=dE _ rfl;have pS:s.heap.objs.size≠l:=fun e=>by obtain ⟨o,ho,_⟩:=hl;exact eL _ (e▸aY ho)
 refine ⟨⟨_,hS,rfl⟩,F.args_list_init_2 _ _,Mk (s:={s with heap:=s.heap.push {cls:=.type "list",data:=.seq #[]}}) (A:=A.in1) hh (hit.at fun o e=>bS _ e) (hl.at fun o e=>bS _ e) d9 hlen _ hS pS fun h' tk gA c' hk tG mV=>?_⟩;exact ⟨rfl,hQ h' tk gA c' (fun b o hb e=>hk b o (bY (aY e)) hb (bS _ e)) tG mV⟩
end
section
variable {X:Cx}
def Mn(K:aH)(ta:TA):TE:=fun σ H Q=>ta σ H fun vs H1=>∃(l:Addr) (xs:List V),vs=[.ref l]∧bD K H1 l xs∧xs.length≤10000∧∀D,H1 D=none→Q (.ref D) (upd H1 D (.lst xs.reverse))
theorem Mo{a:Expr}{ta:TA}{p pos p2 v8:Pos}(hc:X.calm=true)(hg:Gl X "list")(hm:X.mg "list"=none)(Mp:Gl X "reversed")(Mq:X.mg "reversed"=none)(ha:PA X [a] ta)(hs:starEach [a] X.env=[(false,eval a X.env)]:=by rfl)
  (oR:starEach [.Call (.Name "reversed" p2) [a] [] v8] X.env=[(false,eval (.Call (.Name "reversed" p2) [a] [] v8) X.env)]:=by rfl):PE X (.Call (.Name "list" p) [.Call (.Name "reversed" p2) [a] [] v8] [] pos) (Mn X.K ta):=by
 intro pins s σ H Q I h;refine PyProof.Rows.Call_Name1 (j_ I hg hm boot_list (callWith_type1 ?_)) oR;refine Call_ (j_ I Mp Mq boot_reversed (q5 (aI (ha v8 pins s σ H _ I h) fun us s1 ⟨vs,H1,I1,r1,q1⟩=>?_) hs rfl));obtain ⟨l,xs,e,hq,hx,q⟩:=q1;subst e;cases r1 with
 | cons r rr=>
  cases rr;cases r;obtain ⟨its,rv,pl,hz⟩:=I1.list hq;have RG:=rv.length;obtain ⟨o,n,go,c1,c2,c3⟩:=id pl;refine call_reversed_list pl.isList ?_;refine Mm (its:=its.toArray) (l:=l) (I1.ok.hd hc) ⟨_,dE _ rfl,rfl,rfl⟩ ?_ (bY (aY go)) (by rw [cz];lia) fun h' tk acc c hk hD mV=>?_
  ·exact (show PlainL _ l _ from ⟨o,n,bS _ go,c1,c2,c3⟩).isList
  ·have I2:Inv X pins σ H1 {s1 with heap:=s1.heap.push (revObj l ((its.toArray.size:Int)-1))}:=I1.kept (t':=s1.toks) fun b o e=>bS _ e
   have kp:∀b o,s1.heap.get? b=some o→h'.get? b=some o:=fun b o e=>hk b o (bY (aY e)) (bS _ e);have hsz:s1.heap.objs.size≤(s1.heap.push (revObj l ((its.toArray.size:Int)-1))).objs.size:=by rw [Heap.size_push];exact Nat.le_succ _
   refine ⟨.ref _,_,I1.laid (o:=.lst xs.reverse) kp hsz ⟨?_,acc.toList,c,?_,?_⟩,rfl,q _ (I1.au.fresh hsz)⟩
   ·rw [List.length_reverse]
    exact cG hx (by decide)
   ·have e:acc.toList=its.reverse:=by rw [mV]
    rw [e];exact rv.reverse
   ·rw [hD]
end
end L2
namespace My
open PySem L2
def gZ(m:Nat):Nat:=m*m+3*m+1
variable {N:aD} {a b:Nat}
theorem tH:aL N.sz (aX N) a b↔(a<b∧b<N.sz∧N.lk a b=true)∨(b<a∧a<N.sz∧N.lk b a=true):=by
 unfold aL;rw [vK,vK];constructor
 ·rintro ⟨_,_,h⟩
  exact h
 ·rintro (h | h)
  ·exact ⟨by lia,by lia,.inl h⟩
  ·exact ⟨by lia,by lia,.inr h⟩
variable {n:Nat}
theorem iC(h:a<n):(List.range n).idxOf a=a:=by
 have:=jH (o:=List.range n) j6 (k:=a) (by rw [da];exact h)
 rwa [jf] at this
theorem v9(h:a<n):(List.range n).reverse.idxOf a=n-1-a:=by
 have hl:n-1-a<(List.range n).reverse.length:=by rw [List.length_reverse,da];lia
 have:=jH (o:=(List.range n).reverse) ((kX _).nodup_iff.mpr j6) hl;rw [List.getElem_reverse,jf] at this;rw [da] at this
 rwa [show n-1-(n-1-a)=a by lia] at this
variable {L:aZ} {o:List Nat} {p:Nat}
theorem Mr(ho:o.Perm (List.range n))
  (tc:∀v,v<n→∀C:Nat→Prop,(∃x,x<n∧x≠v∧C x)→(∀x y,C x→aL n L x y→y≠v→C y)→∀y,y<n→y≠v→C y)
  (nb:∀w,w<n→∃y,y≠w∧aL n L y w) (hp:p<n) {ms:List Nat} (hm:eW n L o p ms):min 2 (n-1-o.idxOf p)≤ms.length:=by
 have lo:=iA ho;have nd:=jG ho;refine uA fun hc=>?_;have kn:o.idxOf p<n:=by have:=(kG ((dP ho).mpr hp)).1;lia
 have later:∀j,o.idxOf p<j→(hj:j<n)→∃w,w<n∧o.idxOf w=j:=fun j h1 h2=>by
  have hj:j<o.length:=by lia
  exact ⟨o[j],(dP ho).mp (dv hj),jH nd hj⟩
 have same:∀y,y<n→o.idxOf y=o.idxOf p→y=p:=fun y hy e=>uA fun z=>kH ho hy hp z e;have wk:∀x y,(x=p∨(bQ n o (o.idxOf p) x∧Wk (aL n L) (bQ n o (o.idxOf p)) p x))→aL n L x y→Wk (aL n L) (bQ n o (o.idxOf p)) p y:=fun x y cx xy=>by
  rcases cx with rfl | ⟨c1,c2⟩;·exact .one xy
  ·exact .more c2 c1 xy
 have pU:∀v,v<n→v≠p→(∀q∈ms,q=v)→∀y,y<n→y≠v→(y=p∨(bQ n o (o.idxOf p) y∧Wk (aL n L) (bQ n o (o.idxOf p)) p y)):=fun v hv vp one=>by
  refine tc v hv (fun x=>x=p∨(bQ n o (o.idxOf p) x∧Wk (aL n L) (bQ n o (o.idxOf p)) p x)) ⟨p,hp,Ne.symm vp,.inl rfl⟩ fun x y cx xy yv=>?_;have wy:=wk x y cx xy;have hy:=xy.2.1;by_cases h1:o.idxOf y<o.idxOf p;·exact .inr ⟨⟨hy,h1⟩,wy⟩
  ·by_cases h2:o.idxOf y=o.idxOf p
   ·exact .inl (same y hy h2)
   ·exact absurd (one y ((hm y).mpr ⟨hy,by lia,wy⟩)) yv
 have bx:∀w,o.idxOf p<o.idxOf w→¬(w=p∨(bQ n o (o.idxOf p) w∧Wk (aL n L) (bQ n o (o.idxOf p)) p w)):=fun w h=>by rintro (rfl | ⟨⟨_,h2⟩,_⟩) <;> lia
 match ms,hm,hc,pU with
 | [],hm,hc,pU=>
  have hk:o.idxOf p+1<n:=by simp at hc;lia
  obtain ⟨w,hw,ew⟩:=later (o.idxOf p+1) (by lia) hk
  obtain ⟨y,yw,ay⟩:=nb w hw;have:=pU w hw (fun z=>by subst z;lia) (fun q hq=>nomatch hq) y ay.1 yw
  exact nomatch (hm w).mpr ⟨hw,by lia,wk y w this ay⟩
 | [v],hm,hc,pU=>
  have hk:o.idxOf p+2<n:=by simp at hc;lia
  obtain ⟨w1,Ms,e1⟩:=later (o.idxOf p+1) (by lia) (by lia)
  obtain ⟨w2,Mt,e2⟩:=later (o.idxOf p+2) (by lia) hk
  have hv:=(hm v).mp (bV.mpr rfl);have cl:=pU v hv.1 (fun z=>by subst z;lia) (fun q hq=>bV.mp hq)
  by_cases z:w1=v;·exact bx w2 (by lia) (cl w2 Mt fun y=>by rw [y,←z] at e2;lia)
  ·exact bx w1 (by lia) (cl w1 Ms z)
 | a::b::r,hm,hc,pU=>simp at hc;lia
variable {m:Nat}
theorem DJ{D:Nat→Prop}{i:Nat}(hi:i<m)(h0:D i)(up:∀j,j+1<m→D j→D (j+1))(dn:∀j,j+1<m→D (j+1)→D j):∀j,j<m→D j:=by
 have z:D 0:=by
  have:∀k,k≤i→D (i-k):=fun k=>by
   induction k with
   | zero=>intro _;exact h0
   | succ k ih=>
    intro hk;have:=ih (by lia)
    rw [show i-k=(i-(k+1))+1 by lia] at this
    exact dn _ (by lia) this
  have:=this i (aw _)
  rwa [oB] at this
 intro j
 induction j with
 | zero=>intro _;exact z
 | succ j ih=>intro hj;exact up j hj (ih (by lia))
theorem tI:aL n (aX (.ring n)) a b↔(a<b∧b<n∧(b=a+1∨b+1=a+n))∨(b<a∧a<n∧(a=b+1∨a+1=b+n)):=by have:=tH (N:=.ring n) (a:=a) (b:=b);simpa [aD.sz,aD.lk] using this
theorem pV:aL (2*m) (aX (.cV m)) a b↔(a<b∧b<2*m∧(b=a+2∨(b=a+1∧a % 2=0)))∨(b<a∧a<2*m∧(a=b+2∨(a=b+1∧b % 2=0))):=by have:=tH (N:=.cV m) (a:=a) (b:=b);simpa [aD.sz,aD.lk] using this
theorem DK(v:Nat)(hv:v<n)(C:Nat→Prop)(hx:∃x,x<n∧x≠v∧C x)(cl:∀x y,C x→aL n (aX (.ring n)) x y→y≠v→C y):∀y,y<n→y≠v→C y:=by
 obtain ⟨e,he⟩:∃e:Nat→Nat,∀t,e t=if v+1+t<n then v+1+t else v+1+t-n:=⟨_,fun _=>rfl⟩
 have at':∀x,x<n→x≠v→∃t,t<n-1∧e t=x:=fun x h1 h2=>by
  by_cases h:v<x;·exact ⟨x-v-1,by lia,by rw [he];split <;> lia⟩
  ·exact ⟨x+n-v-1,by lia,by rw [he];split <;> lia⟩
 have bb:∀t,t+1<n-1→aL n (aX (.ring n)) (e t) (e (t+1)):=fun t ht=>by
  rw [tI,he,he]
  split <;> split <;> lia
 have ne:∀t,t<n-1→e t≠v:=fun t ht=>by
  rw [he]
  split <;> lia
 obtain ⟨x,h1,h2,h3⟩:=hx;obtain ⟨t,ht,rfl⟩:=at' x h1 h2;intro y hy yv;obtain ⟨s,hs,rfl⟩:=at' y hy yv;exact DJ (D:=fun t=>C (e t)) ht h3 (fun j hj c=>cl _ _ c (bb j hj) (ne _ (by lia))) (fun j hj c=>cl _ _ c (jJ _ _ (bb j hj)) (ne _ (by lia))) s hs
theorem DL(v:Nat)(hv:v<2*m)(C:Nat→Prop)(hx:∃x,x<2*m∧x≠v∧C x)(cl:∀x y,C x→aL (2*m) (aX (.cV m)) x y→y≠v→C y):∀y,y<2*m→y≠v→C y:=by
 obtain ⟨e,he⟩:∃e:Nat→Nat,∀t,e t=2*t+(1-v % 2):=⟨_,fun _=>rfl⟩;have bb:∀t,t+1<m→aL (2*m) (aX (.cV m)) (e t) (e (t+1)):=fun t ht=>by rw [pV,he,he];lia
 have ne:∀t,e t≠v:=fun t=>by rw [he];lia
 have side:∀x,x<2*m→x=e (x / 2)∨aL (2*m) (aX (.cV m)) x (e (x / 2)):=fun x h1=>by rw [pV,he];omega
 obtain ⟨x,h1,h2,h3⟩:=hx;have c0:C (e (x / 2)):=by
  rcases side x h1 with h | h;·rw [←h];exact h3
  ·exact cl _ _ h3 h (ne _)
 have all:=DJ (D:=fun t=>C (e t)) (m:=m) (by lia) c0 (fun j hj c=>cl _ _ c (bb j hj) (ne _)) (fun j hj c=>cl _ _ c (jJ _ _ (bb j hj)) (ne _))
 intro y hy yv;rcases side y hy with h | h;·rw [h];exact all _ (by lia)
 ·exact cl _ _ (all _ (by lia)) (jJ _ _ h) yv
theorem DM(h:3≤n)(w:Nat)(hw:w<n):∃y,y≠w∧aL n (aX (.ring n)) y w:=by
 by_cases z:w+1<n;·exact ⟨w+1,by lia,by rw [tI];lia⟩
 ·exact ⟨w-1,by lia,by rw [tI];lia⟩
theorem DN(w:Nat)(hw:w<2*m):∃y,y≠w∧aL (2*m) (aX (.cV m)) y w:=by
 by_cases z:w % 2=0;·exact ⟨w+1,by lia,by rw [pV];lia⟩
 ·exact ⟨w-1,by lia,by rw [pV];lia⟩
variable {q:Nat} {bh:Nat→Prop}
theorem Mu(ht:∀x,bh x→x<p)(h:Wk (aL n (aX (.ring n))) bh p q):q≤p+1∨q+1=n:=by
 induction h with
 | one a=>rw [tI] at a;lia
 | more _ t a ih=>have:=ht _ t;rw [tI] at a;lia
theorem Mv(ht:∀x,bh x→x<p)(h:Wk (aL (2*m) (aX (.cV m))) bh p q):q≤p+2:=by
 induction h with
 | one a=>rw [pV] at a;lia
 | more _ t a ih=>have:=ht _ t;rw [pV] at a;lia
def mW(n k:Nat):Nat:=gZ (min 2 (n-1-k))
theorem DO(h:2≤n):((List.range n).map (mW n)).sum=11*n-16:=by
 obtain ⟨m,rfl⟩:∃m,n=m+2:=⟨n-2,by lia⟩
 rw [oC,oC,iI,iI,rj,rj];have e:((List.range m).map (mW (m+2)))=(List.range m).map fun _=>11:=kT fun k hk=>by
  have:=cp.mp hk;unfold mW;rw [Nat.min_eq_left (by lia)]
  rfl
 rw [e,List.map_const',List.sum_replicate_nat];have e1:mW (m+2) m=5:=by unfold mW;rw [show m+2-1-m=1 by lia];rfl
 have e2:mW (m+2) (m+1)=1:=by unfold mW;rw [show m+2-1-(m+1)=0 by lia];rfl
 simp [e1,e2,da];lia
theorem DP(h:a≤b):gZ a≤gZ b:=by unfold gZ;have:=Nat.mul_le_mul h h;lia
theorem Mw(ho:o.Perm (List.range n))(c:Nat→Nat):((List.range n).map fun x=>c (o.idxOf x)).sum=((List.range n).map c).sum:=by
 rw [←(ho.map fun x=>c (o.idxOf x)).sum_nat]
 congr 1
 have lo:=iA ho;refine g_ (by simp [lo]) fun i h1 h2=>?_
 rw [fY,fY,jf,jH (jG ho)]
variable {g:Nat→List Nat}
theorem v_(n2:2≤n)(ho:o.Perm (List.range n))
  (tc:∀v,v<n→∀C:Nat→Prop,(∃x,x<n∧x≠v∧C x)→(∀x y,C x→aL n L x y→y≠v→C y)→∀y,y<n→y≠v→C y)
  (nb:∀w,w<n→∃y,y≠w∧aL n L y w) (hg:∀p,p<n→fq n o p (g p)∧eW n L o p (g p)):11*n-16≤((List.range n).map fun x=>gZ (g x).length).sum:=by
 rw [←DO n2,←Mw ho];exact zi fun x hx=>DP (Mr ho tc nb (cp.mp hx) (hg x (cp.mp hx)).2)
theorem DQ{s t:Nat}:∀{l:List Nat},l.Pairwise (· < ·)→(∀q∈l,q=s∨q=t)→l.length≤2
 | [],_,_=>cg _
 | [_],_,_=>by simp
 | [_,_],_,_=>by simp
 | a::b::c::r,pw,h=>by
  rw [jg,jg] at pw;have h1:=pw.1 b (by simp)
  have h2:=pw.2.1 c (by simp)
  have a1:=h a (by simp)
  have b1:=h b (by simp)
  have c1:=h c (by simp)
  lia
theorem DR(n2:2≤n)(tw2:(∀p q,p<n→p<q→q<n→Wk (aL n L) (bQ n (List.range n) p) p q→q=p+1∨q=p+2)∨(∀p q,p<n→p<q→q<n→Wk (aL n L) (bQ n (List.range n) p) p q→q=p+1∨q=n-1))(hg:∀p,p<n→fq n (List.range n) p (g p)∧eW n L (List.range n) p (g p)):((List.range n).map fun x=>gZ (g x).length).sum≤11*n-16:=by
 rw [←DO n2];refine zi fun x hx=>DP ?_;have xn:=cp.mp hx;obtain ⟨h1,h2⟩:=hg x xn;have l1:=zf (List.Perm.refl _) h1;rw [iC xn] at l1;have l2:(g x).length≤2:=by
  have k:∀q∈g x,q<n∧x<q∧Wk (aL n L) (bQ n (List.range n) x) x q:=fun q hq=>by have:=(h2 q).mp hq;rw [iC xn,iC this.1] at this;exact this
  rcases tw2 with t | t;·exact DQ (s:=x+1) (t:=x+2) h1.up fun q hq=>t x q xn (k q hq).2.1 (k q hq).1 (k q hq).2.2
  ·exact DQ (s:=x+1) (t:=n-1) h1.up fun q hq=>t x q xn (k q hq).2.1 (k q hq).1 (k q hq).2.2
 lia
def dX:aD→List Nat
 | .tree as=>(List.range (as.length+1)).reverse
 | N=>List.range N.sz
def aD.fU:aD→Nat
 | .ring n=>11*n-16
 | .cV m=>11*(2*m)-16
 | N=>gY N.sz (aX N)
theorem jN(N:aD):(dX N).Perm (List.range N.sz):=by
 cases N with
 | tree as=>exact kX _
 | _=>exact List.Perm.refl _
theorem zP(ok:N.ok)(h:N.fU=gY N.sz (aX N))(cl:zp N.sz (aL N.sz (aX N)) fun a=>(dX N).idxOf a)(hg:∀p,p<N.sz→fq N.sz (dX N) p (g p)∧eW N.sz (aX N) (dX N) p (g p)):((List.range N.sz).map fun x=>gZ (g x).length).sum=N.fU:=by rw [h];exact Dw (jN N) (Lm (jN N) vL lN cl) hg
theorem DS{x:Nat}(hp:p<n)(h:bQ n (List.range n) p x):x<p:=by
 have:=h.2
 rwa [iC h.1] at this
theorem zQ(ok:N.ok)(hg:∀p,p<N.sz→fq N.sz (dX N) p (g p)∧eW N.sz (aX N) (dX N) p (g p)):((List.range N.sz).map fun x=>gZ (g x).length).sum=N.fU:=by
 cases N with
 | band n w=>refine zP ok rfl (fun a b c an bn cn ab ac bc e1 e2=>?_) hg;have an:a<n:=an;have bn:b<n:=bn;have cn:c<n:=cn;have ab:(List.range n).idxOf a<(List.range n).idxOf b:=ab;have ac:(List.range n).idxOf a<(List.range n).idxOf c:=ac;rw [iC an,iC bn] at ab;rw [iC an,iC cn] at ac;rw [tH] at e1 e2 ⊢;simp only [aD.sz,aD.lk,dm] at e1 e2 ⊢;lia
 | cu n w=>refine zP ok rfl (fun a b c an bn cn ab ac bc e1 e2=>?_) hg;have an:a<n:=an;have bn:b<n:=bn;have cn:c<n:=cn;have ab:(List.range n).idxOf a<(List.range n).idxOf b:=ab;have ac:(List.range n).idxOf a<(List.range n).idxOf c:=ac;rw [iC an,iC bn] at ab;rw [iC an,iC cn] at ac;rw [tH] at e1 e2 ⊢;simp only [aD.sz,aD.lk,dm,uy] at e1 e2 ⊢;lia
 | tree as=>refine zP ok rfl (fun a b c an bn cn ab ac bc e1 e2=>?_) hg;have an:a<as.length+1:=an;have bn:b<as.length+1:=bn;have cn:c<as.length+1:=cn;have ab:(List.range (as.length+1)).reverse.idxOf a<(List.range (as.length+1)).reverse.idxOf b:=ab;have ac:(List.range (as.length+1)).reverse.idxOf a<(List.range (as.length+1)).reverse.idxOf c:=ac;rw [v9 an,v9 bn] at ab;rw [v9 an,v9 cn] at ac;rw [tH] at e1 e2 ⊢;simp only [aD.sz,aD.lk,dm] at e1 e2 ⊢;lia
 | ring n=>
  obtain ⟨n3,di⟩:=ok;refine Nat.le_antisymm (DR (L:=aX (.ring n)) (show 2≤n by lia) (.inr fun p q hp pq qn w=>?_) hg) (v_ (show 2≤n by lia) (List.Perm.refl _) (fun v hv C=>DK v hv C) (fun w hw=>DM n3 w hw) hg)
  have:=Mu (fun x=>DS hp) w;lia
 | cV m=>
  obtain ⟨m1,DU⟩:=ok;refine Nat.le_antisymm (DR (L:=aX (.cV m)) (show 2≤2*m by lia) (.inl fun p q hp pq qn w=>?_) hg) (v_ (show 2≤2*m by lia) (List.Perm.refl _) (fun v hv C=>DL v hv C) (fun w hw=>DN w hw) hg)
  have:=Mv (fun x=>DS hp) w;lia
theorem Mx(ok:N.ok)(ho:o.Perm (List.range N.sz))(hg:∀p,p<N.sz→fq N.sz o p (g p)∧eW N.sz (aX N) o p (g p)):N.fU≤((List.range N.sz).map fun x=>gZ (g x).length).sum:=by
 have flat:N.fU=gY N.sz (aX N)→N.fU≤((List.range N.sz).map fun x=>gZ (g x).length).sum:=fun h=>by obtain ⟨M,hM⟩:=Ln N.sz (aX N) o;have e:=Dw ho hM hg;have e':((List.range N.sz).map fun x=>gZ (g x).length).sum=gY N.sz M:=e;rw [h,e'];exact Lj ho hM tE lN
 cases N with
 | ring n=>obtain ⟨n3,di⟩:=ok;exact v_ (show 2≤n by lia) ho (fun v hv C=>DK v hv C) (fun w hw=>DM n3 w hw) hg
 | cV m=>obtain ⟨m1,DU⟩:=ok;exact v_ (show 2≤2*m by lia) ho (fun v hv C=>DL v hv C) (fun w hw=>DN w hw) hg
 | _=>exact flat rfl
end My
namespace L2
open PySem
variable {X:Cx}
def Mz:V→List V→Hp→VK→Prop:=fun x vs H Q=>∃l xs,∃k:Nat,∃i:Int,∃y,x=.ref l∧vs=[.int i,y]∧i=(k:Int)∧H l=some (.lst xs)∧k≤xs.length∧xs.length≤1000∧Q .aQ (upd H l (.lst (xs.take k++y::xs.drop k)))
theorem MA:r0 X "list.insert" Mz:=by
 intro pins s σ H x vs v us Q I rx rv h;obtain ⟨l,xs,k,i,y,rfl,rfl,hi,hH,hk,hz,q⟩:=h;cases rx;obtain ⟨u,w,rfl,ru,rX⟩:=rv.two;obtain ⟨t,rfl⟩:=ru;obtain ⟨z,its,n,r,hl,e⟩:=I.kh hH;have l1:1001≤sizeLine:=by decide +kernel
 have lx:=r.length;have hf:¬(!Builtin.List.listFitsIndex i)=true:=by
  rw [fitsIndex_both (k:=i) (by lia) (by lia)]
  exact b_
 have hs:its.toArray.size≤sizeLine:=by rw [cz];lia
 have M:=@AutoSeq1.list_insert_list_int_val_1 l its.toArray n i t w hf hs;refine md F.slot_list_insert ⟨_,e,rfl⟩ F.entry_list_insert (@F.args_list_insert_3 _ _ _) M ⟨e,?_⟩;refine ⟨.aQ,_,I.r6 (its':=its.take k++w::its.drop k) hH e ?_ ((r.take k).append (.cons rX (r.drop k))) ?_,rfl,q⟩
 ·have e1:¬(i<0):=by lia
  have e2:min i.toNat its.length=k:=by lia
  simp only [aa e1,cz,e2];apply Array.ext';simp;rw [rp (by simp)]
 ·rw [cY,ee,ou,q_]
  lia
end L2
namespace My
open PySem L2
def nI(o:List Nat):List V:=o.map fun k:Nat=>V.int (k:Int)
def kL(n:Nat)(g:Nat→List Nat):Nat:=((List.range n).map fun x=>gZ (g x).length).sum
def DV(N:Addr):Sp:=fun vs H Q E=>∃(t a:Addr) (n:Nat) (L:aZ) (zs:List Int),vs=[.ref t,.ref a]∧iy H t n L∧s_ n L∧vH L∧n≤60∧H a=some (.lst (zs.map V.int))∧zs.length<64 ∧
 (¬i8 zs n→∀H',ah H H'→E (.ref N) none H') ∧
 ∀o:List Nat,zs=o.map iN→o.Perm (List.range n)→∀(H':Hp),ah H H'→∀g:Nat→List Nat,(∀p,p<n→fq n o p (g p)∧eW n L o p (g p))→Q (.int (kL n g:Int)) H'
def MB:Sp:=fun vs H Q _=>∃(td:Addr) (N:aD),vs=[.ref td]∧ToldN H td N∧N.ok∧∀(f o:Addr) (H':Hp),ah H H'→H f=none→H o=none→H' f=some (.tup [.ref o,.int (N.fU:Int)])→H' o=some (.lst (nI (dX N)))→Q (.ref f) H'
def MC:Sp:=fun vs H Q _=>∃(T:Addr) (n:Nat),vs=[.ref T,.int (n:Int)]∧dB H T∧n≤60∧∀(D:Addr) (o:List Nat) (H':Hp),bJ T H H'→dB H' T→H D=none→H' D=some (.lst (nI o))→o.Perm (List.range n)→Q (.ref D) H'
def MD:Sp:=fun vs H Q _=>∃(lt a:Addr) (n:Nat) (us:List V) (L:aZ) (o:List Nat),vs=[.int (n:Int),.ref lt,.ref a]∧H lt=some (.tup us)∧bA H us L∧s_ n L∧n≤12∧L.length≤400∧L.Nodup∧(∀z∈L,z.1<z.2)∧H a=some (.lst (nI o))∧o.Perm (List.range n) ∧
 ∀(H':Hp) (D:Addr) (rs:Nat→Addr) (g:Nat→List Nat),ah H H'→zb H' D n rs g→(∀p,p<n→fq n o p (g p)∧eW n L o p (g p))→Q (.ref D) H'
def ME:Sp:=fun vs H Q _=>∃(D:Addr) (n:Nat) (rs:Nat→Addr) (g:Nat→List Nat),vs=[.ref D]∧zb H D n rs g∧n≤60∧(∀p,p<n→(g p).length≤60)∧∀H',ah H H'→Q (.int (kL n g:Int)) H'
def MF:Sp:=fun vs H Q _=>∃(td t:Addr) (N:aD),vs=[.ref td,.ref t]∧ToldN H td N∧N.ok∧N.pJ∧iy H t N.sz (aX N)∧∀H',ah H H'→Q (.int (N.fU:Int)) H'
def MG:Sp:=fun vs H Q _=>∃(t f o:Addr) (N:aD),vs=[.ref t,.ref f]∧N.ok∧N.pJ∧iy H t N.sz (aX N)∧H f=some (.tup [.ref o,.int (N.fU:Int)])∧H o=some (.lst (nI (dX N)))∧∀H',ah H H'→Q (.bl true) H'
def MJ:Sp:=fun vs H Q _=>∃T:Addr,vs=[.ref T]∧dB H T∧∀(td:Addr) (N:aD) (H':Hp),bJ T H H'→dB H' T→ToldN H' td N→N.ok→N.pJ→Q (.ref td) H'
variable {N:aD}
theorem tJ:s_ N.sz (aX N):=fun p hp=>by have:=lN p hp;exact ⟨this.1,by lia,by lia,this.2.2⟩
theorem zR:vH (aX N):=fun p hp=>by have:=lN p hp;lia
structure eY (n:Nat) (bb:Nat→Nat→Prop) (bh:Nat→Prop) (p q:Nat) (here:Option Nat) (dn:Nat→Prop) (sn ws:List Nat) (hit:Prop):Prop where
 nd:sn.Nodup
 lt:∀x∈sn,x<n
 rc:∀x∈sn,x=p∨(bh x∧Wk bb bh p x)
 wt:∀x∈ws,x∈sn
 st:p∈sn
 cl:∀x∈sn,x∉ws→∀b,bb x b→((bh b→b∈sn)∧(b=q→hit))∨(here=some x∧¬dn b)
 ht:hit→Wk bb bh p q
section
variable {n:Nat} {bb:Nat→Nat→Prop} {bh:Nat→Prop} {p q:Nat}
variable {dn:Nat→Prop} {hit:Prop}
theorem eY.start(hp:p<n)(nh:¬hit):eY n bb bh p q none dn [p] [p] hit:=
 ⟨by simp,fun x hx=>by rw [bV.mp hx];exact hp,fun x hx=>.inl (bV.mp hx),fun x hx=>hx,by simp,fun x hx nx=>absurd hx nx,fun h=>absurd h nh⟩
variable {mX:Nat→Prop} {sn ws:List Nat} {h:Nat}
theorem eY.MK(k:eY n bb bh p q none dn sn (ws++[h]) hit)(ML:∀b,¬mX b):eY n bb bh p q (some h) mX sn ws hit:=
 ⟨k.nd,k.lt,k.rc,fun x hx=>k.wt x (jV _ hx),k.st,fun x hx nx b hb=>by
  by_cases e:x=h
  ·subst e
   exact .inr ⟨rfl,ML b⟩
  ·exact (k.cl x hx (fun z=>(cR.mp z).elim nx fun y=>e (bV.mp y)) b hb).imp id (fun z=>nomatch z.1),k.ht⟩
theorem eY.step{lq mY:List Nat}{b:Nat}{zS:Prop}(k:eY n bb bh p q (some h) dn sn ws hit)(hh:h∈sn)(ab:bb h b)(bn:b<n)
  (hs:(b∉sn∧bh b∧lq=sn++[b]∧mY=ws++[b])∨((b∈sn∨¬bh b)∧lq=sn∧mY=ws)) (hd:∀x,mX x→dn x∨x=b) (tK:zS↔hit∨b=q):eY n bb bh p q (some h) mX lq mY zS:=by
 have wb:Wk bb bh p b:=by
  rcases k.rc h hh with rfl | ⟨h1,h2⟩;·exact .one ab
  ·exact .more h2 h1 ab
 have DW:zS→Wk bb bh p q:=fun z=>by
  rcases tK.mp z with z | z;·exact k.ht z
  ·rw [←z];exact wb
 rcases hs with ⟨h1,h2,rfl,rfl⟩ | ⟨h1,rfl,rfl⟩
 ·refine ⟨?_,fun x hx=>?_,fun x hx=>?_,fun x hx=>?_,jV _ k.st,fun x hx nx c hc=>?_,DW⟩
  ·rw [j7]
   exact ⟨k.nd,by simp,fun a ha c hc=>fun z=>h1 (by rw [bV.mp hc] at z;rw [←z];exact ha)⟩
  ·rcases cR.mp hx with hx | hx
   ·exact k.lt x hx
   ·rw [bV.mp hx];exact bn
  ·rcases cR.mp hx with hx | hx
   ·exact k.rc x hx
   ·rw [bV.mp hx];exact .inr ⟨h2,wb⟩
  ·rcases cR.mp hx with hx | hx
   ·exact jV _ (k.wt x hx)
   ·exact c_ _ hx
  ·have zC:x∈sn:=(cR.mp hx).elim id fun z=>absurd (c_ _ z) nx
   rcases k.cl x zC (fun z=>nx (jV _ z)) c hc with z | ⟨z1,z2⟩;·exact .inl ⟨fun t=>jV _ (z.1 t),fun e=>tK.mpr (.inl (z.2 e))⟩
   ·by_cases e:c=b
    ·subst e
     exact .inl ⟨fun _=>c_ _ (bV.mpr rfl),fun e=>tK.mpr (.inr e)⟩
    ·exact .inr ⟨z1,fun z=>(hd c z).elim z2 e⟩
 ·refine ⟨k.nd,k.lt,k.rc,k.wt,k.st,fun x hx nx c hc=>?_,DW⟩
  rcases k.cl x hx nx c hc with z | ⟨z1,z2⟩;·exact .inl ⟨z.1,fun e=>tK.mpr (.inl (z.2 e))⟩
  ·by_cases e:c=b
   ·subst e
    exact .inl ⟨fun t=>h1.elim id fun y=>absurd t y,fun e=>tK.mpr (.inr e)⟩
   ·exact .inr ⟨z1,fun z=>(hd c z).elim z2 e⟩
theorem eY.next(k:eY n bb bh p q (some h) dn sn ws hit)(all:∀b,bb h b→dn b):eY n bb bh p q none mX sn ws hit:=
 ⟨k.nd,k.lt,k.rc,k.wt,k.st,fun x hx nx b hb=>by
  rcases k.cl x hx nx b hb with z | ⟨z1,z2⟩;·exact .inl z
  ·cases z1
   exact absurd (all b hb) z2,k.ht⟩
theorem eY.done(k:eY n bb bh p q none dn sn [] hit):hit↔Wk bb bh p q:=by
 refine ⟨k.ht,fun w=>?_⟩;have go:∀x,Wk bb bh p x→(bh x→x∈sn)∧(x=q→hit):=fun x w=>by
  induction w with
  | one a=>exact (k.cl p k.st (by simp) _ a).elim id fun z=>nomatch z.1
  | more _ t a ih=>exact (k.cl _ (ih.1 t) (by simp) _ a).elim id fun z=>nomatch z.1
 exact (go q w).2 rfl
end
variable {n k x:Nat} {o:List Nat}
theorem DX(ho:o.Perm (List.range n)):x∈o.take k↔bQ n o k x:=by
 have nd:=jG ho;constructor
 ·intro h
  obtain ⟨i,hi,e⟩:=oD h;rw [ou] at hi;rw [List.getElem_take] at e;subst e;exact ⟨(dP ho).mp (dv _),by rw [jH nd];lia⟩
 ·rintro ⟨h1,h2⟩
  obtain ⟨hk,e⟩:=kG ((dP ho).mpr h1);have:o.idxOf x<(o.take k).length:=by rw [ou];lia
  have:=dv this
  rwa [List.getElem_take,e] at this
theorem DY(ho:o.Perm (List.range n)):x∈o.drop k↔x<n∧k≤o.idxOf x:=by
 have nd:=jG ho;constructor
 ·intro h
  obtain ⟨i,hi,e⟩:=oD h;rw [q_] at hi;rw [uj] at e;subst e;exact ⟨(dP ho).mp (dv _),by rw [jH nd];lia⟩
 ·rintro ⟨h1,h2⟩
  obtain ⟨hk,e⟩:=kG ((dP ho).mpr h1);have hl:o.idxOf x-k<(o.drop k).length:=by rw [q_];lia
  have:=dv hl;rw [uj] at this;simp only [show k+(o.idxOf x-k)=o.idxOf x by lia,e] at this
  exact this
def gB(R:List Nat)(q:Nat)(c:Bool):List Nat:=if c then R++[q] else R
variable {g:Nat→List Nat} {p:Nat}
theorem MM{q:Nat}{R:List Nat}:i9 (b8 g p (gB R q false)) p q=b8 g p (gB R q true):=by
 funext a
 unfold i9 b8 gB;by_cases e:a=p <;> simp [e]
theorem MN:b8 g p (g p)=g:=by
 funext a
 unfold b8;by_cases e:a=p <;> simp [e]
theorem gz.bx{H H':Hp}{D:Addr}{rs:Nat→Addr}(h:gz H D n rs g)(k:∀b o,(b=D∨∃i,i<n∧b=rs i)→H b=some o→H' b=some o):gz H' D n rs g:=
 ⟨k _ _ (.inl rfl) h.lst,h.inj,h.ne,fun i hi=>k _ _ (.inr ⟨i,hi,rfl⟩) (h.at' i hi)⟩
end My
set_option maxRecDepth 100000
set_option maxHeartbeats 4000000
namespace My
open PySem L2
def top(i:Nat):Stmt:=PySem.Challenge.pw_bandwright_k46_fewest_of_named_shapes.main.body.getD i (.Pass ⟨0,0,0,0⟩)
abbrev wc:Stmt:=top 5
abbrev we:Stmt:=top 8
abbrev wg:Stmt:=top 9
abbrev wj:Stmt:=top 11
abbrev wm:Stmt:=top 12
abbrev wo:Stmt:=top 13
abbrev wq:Stmt:=top 14
abbrev wu:Stmt:=top 15
abbrev wx:Stmt:=top 16
abbrev wA:Stmt:=top 17
abbrev wB:Stmt:=top 19
abbrev wC:Stmt:=top 20
abbrev wD:Stmt:=top 21
abbrev wF:Stmt:=top 22
abbrev wG:Stmt:=top 23
abbrev wH:Stmt:=top 24
abbrev wI:Stmt:=top 25
abbrev wJ:Stmt:=top 27
abbrev wK:Stmt:=top 28
abbrev wL:Stmt:=top 29
abbrev wM:Stmt:=top 30
abbrev wN:Stmt:=top 31
abbrev wO:Stmt:=top 32
abbrev wQ:Stmt:=top 33
abbrev wR:Stmt:=top 34
abbrev wU:Stmt:=top 35
abbrev wV:Stmt:=top 36
abbrev wW:Stmt:=top 37
abbrev wX:Stmt:=top 38
abbrev wY:Stmt:=top 39
set_option genInjectivity false in
set_option genSizeOf false in
structure zT where
 mZ:Addr
 pW:FuncData
 m4:Addr
 pX:FuncData
 m5:Addr
 pY:FuncData
 m6:Addr
 pZ:FuncData
 m7:Addr
 p4:FuncData
 m8:Addr
 p5:FuncData
 m9:Addr
 p6:FuncData
 m_:Addr
 p7:FuncData
 ng:Addr
 p8:FuncData
 ni:Addr
 p9:FuncData
 nj:Addr
 p_:FuncData
 nk:Addr
 qa:FuncData
 nr:Addr
 qb:FuncData
 nt:Addr
 qc:FuncData
 nz:Addr
 qd:FuncData
 nB:Addr
 qe:FuncData
 nC:Addr
 qf:FuncData
 nE:Addr
 qg:FuncData
 nG:Addr
 qh:FuncData
 nH:Addr
 qi:FuncData
 nJ:Addr
 qj:FuncData
 nK:Addr
 qk:FuncData
 nM:Addr
 ql:FuncData
 nN:Addr
 qm:FuncData
 nO:Addr
 qo:FuncData
 nQ:Addr
 qp:FuncData
 nR:Addr
 qq:FuncData
 nS:Addr
 qr:FuncData
 nU:Addr
 qt:FuncData
 lO:Addr
 nV:FuncData
 qu:Addr
 jO:Addr
abbrev cw (mg:cJ) (x:Str) (f:Addr):Prop:=mg x=some (.ref f)
abbrev DZ (K:aH) (a:Addr):Prop:=PySem.W.excIn K a [.type "ValueError",.type "Exception",.type "BaseException",.type "object"] "ValueError.__new__"=true
structure Txt (K:aH) (mg:cJ) (t:zT):Prop where
 kM:aV K "is_whole" wc t.mZ t.pW
 tL:Binds K t.pW ["thing"] []
 tM:cw mg "is_whole" t.mZ
 nW:aV K "is_place" we t.m4 t.pX
 zU:Binds K t.pX ["thing","n"] []
 zV:cw mg "is_place" t.m4
 qv:aV K "neighbours" wg t.m5 t.pY
 D3:Binds K t.pY ["shape"] []
 D4:cw mg "neighbours" t.m5
 qw:aV K "is_order" wj t.m6 t.pZ
 D5:Binds K t.pZ ["thing","n"] []
 D6:cw mg "is_order" t.m6
 qx:aV K "check_order" wm t.m7 t.p4
 D7:Binds K t.p4 ["order","n"] []
 D8:cw mg "check_order" t.m7
 qy:aV K "turns_of" wo t.m8 t.p5
 D9:Binds K t.p5 ["order"] []
 D_:cw mg "turns_of" t.m8
 qz:aV K "link_all" wq t.m9 t.p6
 Ea:Binds K t.p6 ["linked","places"] []
 Eb:cw mg "link_all" t.m9
 qA:aV K "later" wu t.m_ t.p7
 Ec:Binds K t.p7 ["shape","order"] []
 Ed:cw mg "later" t.m_
 qB:aV K "place_deeds" wx t.ng t.p8
 Ee:Binds K t.p8 ["many"] []
 Ef:cw mg "place_deeds" t.ng
 lP:aV K "deeds" wA t.ni t.p9
 wZ:Binds K t.p9 ["shape","order"] []
 w6:cw mg "deeds" t.ni
 kN:aV K "is_size" wB t.nj t.p_
 tN:Binds K t.p_ ["thing"] []
 tO:cw mg "is_size" t.nj
 qC:aV K "are_aheads" wC t.nk t.qa
 Eg:Binds K t.qa ["thing"] []
 Eh:cw mg "are_aheads" t.nk
 qD:aV K "is_known" wD t.nr t.qb
 Ei:Binds K t.qb ["told"] []
 Ej:cw mg "is_known" t.nr
 qE:aV K "size_of" wF t.nt t.qc
 Ek:Binds K t.qc ["told"] []
 El:cw mg "size_of" t.nt
 qF:aV K "are_linked" wG t.nz t.qd
 Em:Binds K t.qd ["told","i","j"] []
 En:cw mg "are_linked" t.nz
 qG:aV K "named" wH t.nB t.qe
 Eo:Binds K t.qe ["told"] []
 Ep:cw mg "named" t.nB
 lQ:aV K "best" wI t.nC t.qf
 w9:Binds K t.qf ["told"] []
 w_:cw mg "best" t.nC
 qH:aV K "_law_acell" wJ t.nE t.qg
 Er:Binds K t.qg ["script","k"] []
 Es:cw mg "_law_acell" t.nE
 qI:aV K "_law_atape" wK t.nG t.qh
 Et:Binds K t.qh ["script","k"] []
 Eu:cw mg "_law_atape" t.nG
 iD:aV K "_law_adigit" wL t.nH t.qi
 lS:Binds K t.qi ["tape","many"] []
 lU:cw mg "_law_adigit" t.nH
 qJ:aV K "_law_aorder" wM t.nJ t.qj
 Ew:Binds K t.qj ["tape","size"] []
 Ex:cw mg "_law_aorder" t.nJ
 qK:aV K "_law_alater" wN t.nK t.qk
 Ey:Binds K t.qk ["size","links","order"] []
 Ez:cw mg "_law_alater" t.nK
 qL:aV K "_law_adeeds" wO t.nM t.ql
 EA:Binds K t.ql ["behind"] []
 EB:cw mg "_law_adeeds" t.nM
 nX:aV K "_law_awhole" wQ t.nN t.qm
 zW:Binds K t.qm ["found"] []
 zX:cw mg "_law_awhole" t.nN
 qM:aV K "_law_aname" wR t.nO t.qo
 EC:Binds K t.qo ["tape"] []
 ED:cw mg "_law_aname" t.nO
 qN:aV K "_law_anamed" wU t.nQ t.qp
 EE:Binds K t.qp ["told"] []
 EF:cw mg "_law_anamed" t.nQ
 qO:aV K "_law_abeside" wV t.nR t.qq
 EG:Binds K t.qq ["shape"] []
 EH:cw mg "_law_abeside" t.nR
 qP:aV K "_law_adue" wW t.nS t.qr
 EI:Binds K t.qr ["told","shape"] []
 EJ:cw mg "_law_adue" t.nS
 nY:aV K "_law_aorder_right" wX t.nU t.qt
 zY:Binds K t.qt ["shape","found"] []
 zZ:cw mg "_law_aorder_right" t.nU
 qQ:aV K "law" wY t.lO t.nV
 MO:Binds K t.nV ["script"] []
 EK:cw mg "law" t.lO
 EL:cw mg "NoShape" t.qu
 EM:cw mg "NoOrder" t.jO
 MP:mg "ValueError"=none
 z5:mg "all"=none
 MQ:mg "any"=none
 z6:mg "bool"=none
 z7:mg "enumerate"=none
 xb:mg "int"=none
 jP:mg "isinstance"=none
 eZ:mg "len"=none
 nZ:mg "list"=none
 tP:mg "max"=none
 z8:mg "min"=none
 dD:mg "range"=none
 EN:mg "reversed"=none
 qS:mg "sorted"=none
 z9:mg "sum"=none
 n4:mg "tuple"=none
 MR:mg "zip"=none
 EO:∃u,mg "MOST"=some u∧RelV (.int 60) u
 ER:DZ K t.qu
 ES:DZ K t.jO
section
variable {P:Program} {w:World} {K:aH} {mg:cJ} {base:Heap} {t:zT}
theorem MS:bO ["thing"] ["thing"] (bf wc):=cC
theorem xc(T:Txt K mg t):bE P w K mg base b6 1 t.mZ t.pW ["thing"] Cq:=by
 have S:=MS;refine T.kM.cW S (fun _ _ _ _ H _ Q _ hr h=>?_);obtain ⟨v,rfl,ha,k⟩:=h;refine ⟨_,(aF (a7 (iO (bI (km (K:=K)) rfl T.jP boot_isinstance (af (pv 0) (af (kd (v:=.ty "int") rfl T.xb boot_int rfl) ak))) (hZ (Bk (bI (km (K:=K)) rfl T.jP boot_isinstance (af (pv 0) (af (kd (v:=.ty "bool") rfl T.z6 boot_bool rfl) ak)))))))),?_⟩;obtain ⟨Ty,ty,k1,k2,_⟩:=ha.u6 (K:=K);refine ⟨_,rfl,_,_,_,_,rfl,rfl,ty,k1,_,rfl,cX (fun h1=>?_) (fun h1=>?_)⟩
 ·refine ⟨_,rfl,_,_,_,_,rfl,rfl,ty,k2,_,rfl,?_⟩
  have e:(!kr v)=kq v:=by
   cases h2:kr v with
   | true=>rw [Cp h2];rfl
   | false=>rw [h2,Bool.or_false] at h1;rw [h1];rfl
  show Q (.bl (!kr v)) H;rw [e];exact k
 ·have e:kq v=false:=by
   cases h2:kq v with
   | true=>rw [h2] at h1;exact absurd rfl h1
   | false=>rfl
  rw [e] at k;exact k
theorem MT:bO ["thing","n"] ["thing","n"] (bf we):=cC
theorem ET(T:Txt K mg t):bE P w K mg base b6 2 t.m4 t.pX ["thing","n"] KS:=by
 have S:=MT;refine T.nW.cW S (fun _ _ _ _ H _ _ _ hr h=>?_);obtain ⟨z,n,rfl,k⟩:=h;refine ⟨_,(aF (a7 (iO (bt (xc T) hr T.tM T.kM.kp T.tL bF (af (pv 0) ak)) (hZ (BC mG uQ ao (pv 0) (pv 1)))))),?_⟩;refine ⟨_,rfl,.int z,rfl,.int z,true,rfl,cN ?_⟩;refine ⟨_,rfl,0,z,rfl,rfl,_,rfl,cX (fun h1=>?_) (fun h1=>?_)⟩
 ·refine ⟨_,rfl,z,(n:Int),rfl,rfl,?_⟩
  have n5:=dc h1;rw [show decide (0≤z∧z<(n:Int))=decide (z<(n:Int)) by simp [n5]] at k
  exact k
 ·have n5:¬(0≤z):=fun e=>h1 (aK e)
  rw [show decide (0≤z∧z<(n:Int))=false by simp [n5]] at k
  exact k
theorem MU:bO ["thing"] ["thing"] (bf wB):=cC
theorem xf(T:Txt K mg t):bE P w K mg base b6 2 t.nj t.p_ ["thing"] LR:=by
 have S:=MU;obtain ⟨uM,hM,rM⟩:=T.EO;refine T.kN.cW S (fun _ _ _ _ H _ _ _ hr h=>?_);obtain ⟨z,rfl,k⟩:=h;refine ⟨_,(aF (a7 (iO (bt (xc T) hr T.tM T.kM.kp T.tL bF (af (pv 0) ak)) (hZ (BC mG mG ao (pv 0) (F_ (v:=.int 60) rfl hM rM)))))),?_⟩;refine ⟨_,rfl,.int z,rfl,.int z,true,rfl,cN ?_⟩;refine ⟨_,rfl,1,z,rfl,rfl,_,rfl,cX (fun h1=>?_) (fun h1=>?_)⟩
 ·refine ⟨z,60,rfl,rfl,?_⟩
  have n5:=dc h1;rw [show decide (1≤z∧z≤60)=decide (z≤60) by simp [n5]] at k
  exact k
 ·have n5:¬(1≤z):=fun e=>h1 (aK e)
  rw [show decide (1≤z∧z≤60)=false by simp [n5]] at k
  exact k
theorem MV:bO ["thing"] ["thing"] (bf wC):=cC
theorem MW(T:Txt K mg t):bE P w K mg base b6 3 t.nk t.qa ["thing"] LS:=by
 have S:=MV;refine T.qC.cW S (fun _ _ _ _ H vs _ _ hr h=>?_);obtain ⟨ta,as,rfl,eta,ok,kk⟩:=h;obtain ⟨MX,hle⟩:=ok;have lm:(as.map fun k:Nat=>V.int (k:Int)).length=as.length:=aJ _
 refine ⟨_,(aA (bM (PW.pt (pw_or (hW (gK (bI (km (K:=K)) rfl T.jP boot_isinstance (af (pv 0) (af (kd (v:=.ty "tuple") rfl T.n4 boot_tuple rfl) ak))))) (pw_or1 (hW (gK (bt (xf T) hr T.tO T.kN.kp T.tN bF (af (aO dg (bI gP rfl T.eZ e8 (af (pv 0) ak)) ao) ak))))))) (aF (a7 eP)) bL)
  (aF (a7 (bI (Cj (K:=K) rfl) rfl T.z5 boot_all (af (IQ (N:=["place","ahead"]) (ρ:=(fun σ=>[])) (IL [] rfl) rfl (LP rfl T.z7 (af (pv 0) ak) ao) (fun _ _ _=>.nil) (fun _ _ _=>(bt (ET T) hr T.zV T.nW.kp T.zU bF (af (pv 1) (af (pv 0) ak))))) ak))))),?_⟩
 refine ar fun _ MY=>⟨_,rfl,_,_,_,_,rfl,rfl,.of (.tup eta),rfl,true,rfl,aG ?_⟩;refine ⟨_,rfl,ta,_,rfl,.inr (.of eta),_,_,rfl,rfl,_,rfl,true,by rw [lm];exact b9 V.bl (aK (by lia)),aG ?_⟩
 refine MY _ _ ?_
 try dsimp only [xP]
 have lz:((List.range (as.map fun k:Nat=>V.int (k:Int)).length).zip (as.map fun k:Nat=>V.int (k:Int)) |>.map fun p=>(V.int ((p.1:Int)+1),p.2)).length=as.length:=by simp
 refine iX (ph (IV (zs:=(List.range (as.map fun k:Nat=>V.int (k:Int)).length).zip (as.map fun k:Nat=>V.int (k:Int)) |>.map fun p=>(V.int ((p.1:Int)+1),p.2)) (fun R h=>⟨_,rfl,ta,rfl,rfl,⟨_,.of eta⟩,h _ _ (ah.refl _) (LQ eta)⟩) (dM (by rw [lz];lia)) (fun i v=>v=.bl true) ?_ ?_))
 ·intro i x y EU Hc R sc kR
  have hi:i<as.length:=by have:=(cy.mp EU).1;rw [lz] at this;exact this
  have e:x=.int ((i+1:Nat):Int)∧y=.int ((as[i]:Nat):Int):=by
   have:=(cy.mp EU).2;simp at this;refine ⟨?_,this.2.symm⟩;rw [←this.1]
   congr 1
  obtain ⟨rfl,rfl⟩:=e;have:=hle i hi;rw [fA,dR hi] at this;have this:as[i]≤i:=this;refine ⟨_,rfl,_,rfl,_,i+1,rfl,kR _ _ (ah.refl _) ?_⟩;exact b9 V.bl (aK (by lia))
 ·intro D vs Hc sc MZ hP eD
  have ev:vs=(List.replicate as.length true).map V.bl:=by rw [List.map_replicate];exact List.eq_replicate_iff.mpr ⟨by rw [MZ,lz],fun y hy=>by obtain ⟨i,hi⟩:=List.getElem?_of_mem hy;exact hP i y hi⟩
  subst ev;refine ⟨D,_,rfl,.of eD,?_⟩;rw [show (List.replicate as.length true).all id=true from rg.mpr fun x hx=>by rw [List.eq_of_mem_replicate hx];rfl]
  exact kk _ sc
theorem M0:bO ["told"] ["told"] (bf wD):=cC
theorem M1(T:Txt K mg t):bE P w K mg base b6 4 t.nr t.qb ["told"] LU:=by
 have S:=M0;refine T.qD.cW S (fun _ _ _ _ H _ _ _ hr h=>?_);obtain ⟨td,N,rfl,tn,ok,kk⟩:=h
 refine ⟨_,(aA (bM (PW.pt (pw_or (hW (gK (bI (km (K:=K)) rfl T.jP boot_isinstance (af (pv 0) (af (kd (v:=.ty "tuple") rfl T.n4 boot_tuple rfl) ak))))) (pw_or1 (bN b5 (bI gP rfl T.eZ e8 (af (pv 0) ak)) ao)))) (aF (a7 eP)) bL)
  (aA (bM (PW.pt (pw_or (bN b5 (aC aS (pv 0) ao) cT) (pw_or1 (bN b5 (aC aS (pv 0) ao) cT)))) (aF (a7 (iO (fc b5 (bI gP rfl T.eZ e8 (af (pv 0) ak)) ao) (iO (bt (xf T) hr T.tO T.kN.kp T.tN bF (af (aC aS (pv 0) ao) ak)) (hZ (bt (ET T) hr T.zV T.nW.kp T.zU bF (af (aC aS (pv 0) ao) (af (aC aS (pv 0) ao) ak)))))))) bL)
  (aA (bM (bN rV (bI gP rfl T.eZ e8 (af (pv 0) ak)) ao) (aF (a7 eP)) bL)
  (aA (bM (bN b5 (aC aS (pv 0) ao) cT) (aF (a7 (bt (MW T) hr T.Eh T.qC.kp T.Eg bF (af (aC aS (pv 0) ao) ak)))) bL)
  (aA (bM (bN b5 (aC aS (pv 0) ao) cT) (aF (a7 (iO (bt (xf T) hr T.tO T.kN.kp T.tN bF (af (aC aS (pv 0) ao) ak)) (hZ (fc GD (aC aS (pv 0) ao) ao))))) bL)
  (aF (a7 (iO (fc b5 (aC aS (pv 0) ao) cT) (iO (bt (xc T) hr T.tM T.kM.kp T.tL bF (af (aC aS (pv 0) ao) ak)) (hZ (bt (xf T) hr T.tO T.kN.kp T.tN bF (af (aO et ao (aC aS (pv 0) ao)) ak)))))))))))),?_⟩
 cases N with
 | band n w=>
  have e:H td=some (.tup [sV "band",.int (n:Int),.int (w:Int)]):=tn;obtain ⟨n1,di,wn⟩:=ok;refine ar fun _ hR=>⟨_,rfl,_,_,_,_,rfl,rfl,.of (.tup e),rfl,true,rfl,aG ⟨_,rfl,td,_,rfl,.inr (.of e),rfl,false,rfl,aG (hR _ _ ?_)⟩⟩;refine ar fun _ hR=>⟨_,rfl,td,_,_,_,rfl,rfl,.of e,rfl,rfl,true,by decide +kernel,cN ?_⟩
  refine ⟨_,rfl,td,_,rfl,.inr (.of e),rfl,true,rfl,cN ?_⟩;refine ⟨_,rfl,td,_,_,_,rfl,rfl,.of e,rfl,(n:Int),rfl,true,b9 V.bl (aK (by lia)),cN ?_⟩
  refine ⟨_,rfl,td,_,_,_,rfl,rfl,.of e,rfl,_,rfl,td,_,_,_,rfl,rfl,.of e,rfl,(w:Int),n,rfl,?_⟩;rw [aK (show 0≤(w:Int)∧(w:Int)<(n:Int) by lia)]
  exact kk _ (ah.refl _)
 | cu n w=>
  have e:H td=some (.tup [sV "brim",.int (n:Int),.int (w:Int)]):=tn;obtain ⟨n1,di,wn⟩:=ok;refine ar fun _ hR=>⟨_,rfl,_,_,_,_,rfl,rfl,.of (.tup e),rfl,true,rfl,aG ⟨_,rfl,td,_,rfl,.inr (.of e),rfl,false,rfl,aG (hR _ _ ?_)⟩⟩;refine ar fun _ hR=>⟨_,rfl,td,_,_,_,rfl,rfl,.of e,rfl,rfl,false,by decide +kernel,aG ?_⟩
  refine ⟨_,rfl,td,_,_,_,rfl,rfl,.of e,rfl,rfl,true,by decide +kernel,cN ?_⟩
  refine ⟨_,rfl,td,_,rfl,.inr (.of e),rfl,true,rfl,cN ?_⟩;refine ⟨_,rfl,td,_,_,_,rfl,rfl,.of e,rfl,(n:Int),rfl,true,b9 V.bl (aK (by lia)),cN ?_⟩
  refine ⟨_,rfl,td,_,_,_,rfl,rfl,.of e,rfl,_,rfl,td,_,_,_,rfl,rfl,.of e,rfl,(w:Int),n,rfl,?_⟩;rw [aK (show 0≤(w:Int)∧(w:Int)<(n:Int) by lia)]
  exact kk _ (ah.refl _)
 | ring n=>
  have e:H td=some (.tup [sV "ring",.int (n:Int)]):=tn;obtain ⟨n3,di⟩:=ok;refine ar fun _ hR=>⟨_,rfl,_,_,_,_,rfl,rfl,.of (.tup e),rfl,true,rfl,aG ⟨_,rfl,td,_,rfl,.inr (.of e),rfl,false,rfl,aG (hR _ _ ?_)⟩⟩;refine ar fun _ hR=>⟨_,rfl,td,_,_,_,rfl,rfl,.of e,rfl,rfl,false,by decide +kernel,aG ?_⟩
  refine ⟨_,rfl,td,_,_,_,rfl,rfl,.of e,rfl,rfl,false,by decide +kernel,aG (hR _ _ ?_)⟩
  refine ar fun _ hR=>⟨_,rfl,td,_,rfl,.inr (.of e),rfl,false,rfl,aG (hR _ _ ?_)⟩;refine ar fun _ hR=>⟨_,rfl,td,_,_,_,rfl,rfl,.of e,rfl,rfl,false,by decide +kernel,aG (hR _ _ ?_)⟩
  refine ar fun _ hR=>⟨_,rfl,td,_,_,_,rfl,rfl,.of e,rfl,rfl,true,by decide +kernel,cN ?_⟩
  refine ⟨_,rfl,td,_,_,_,rfl,rfl,.of e,rfl,(n:Int),rfl,true,b9 V.bl (aK (by lia)),cN ?_⟩
  refine ⟨_,rfl,td,_,_,_,rfl,rfl,.of e,rfl,_,_,rfl,rfl,?_⟩;have g:decide ((n:Int)≥3)=true:=aK (by lia)
  dsimp only;rw [g];exact kk _ (ah.refl _)
 | cV m=>
  have e:H td=some (.tup [sV "ladder",.int (m:Int)]):=tn;obtain ⟨n3,di⟩:=ok;refine ar fun _ hR=>⟨_,rfl,_,_,_,_,rfl,rfl,.of (.tup e),rfl,true,rfl,aG ⟨_,rfl,td,_,rfl,.inr (.of e),rfl,false,rfl,aG (hR _ _ ?_)⟩⟩;refine ar fun _ hR=>⟨_,rfl,td,_,_,_,rfl,rfl,.of e,rfl,rfl,false,by decide +kernel,aG ?_⟩
  refine ⟨_,rfl,td,_,_,_,rfl,rfl,.of e,rfl,rfl,false,by decide +kernel,aG (hR _ _ ?_)⟩
  refine ar fun _ hR=>⟨_,rfl,td,_,rfl,.inr (.of e),rfl,false,rfl,aG (hR _ _ ?_)⟩;refine ar fun _ hR=>⟨_,rfl,td,_,_,_,rfl,rfl,.of e,rfl,rfl,false,by decide +kernel,aG (hR _ _ ?_)⟩
  refine ar fun _ hR=>⟨_,rfl,td,_,_,_,rfl,rfl,.of e,rfl,rfl,false,by decide +kernel,aG (hR _ _ ?_)⟩
  refine ⟨_,rfl,td,_,_,_,rfl,rfl,.of e,rfl,rfl,true,by decide +kernel,cN ?_⟩
  refine ⟨_,rfl,td,_,_,_,rfl,rfl,.of e,rfl,.int (m:Int),rfl,.int _,true,rfl,cN ?_⟩;refine ⟨_,rfl,td,_,_,_,rfl,rfl,.of e,rfl,_,_,rfl,rfl,.inl ⟨by decide,by decide⟩,2*(m:Int),rfl,?_⟩
  rw [aK (show 1≤2*(m:Int)∧2*(m:Int)≤60 by lia)]
  exact kk _ (ah.refl _)
 | tree as=>
  obtain ⟨ta,e,eta⟩:=id tn;refine ar fun _ hR=>⟨_,rfl,_,_,_,_,rfl,rfl,.of (.tup e),rfl,true,rfl,aG ⟨_,rfl,td,_,rfl,.inr (.of e),rfl,false,rfl,aG (hR _ _ ?_)⟩⟩;refine ar fun _ hR=>⟨_,rfl,td,_,_,_,rfl,rfl,.of e,rfl,rfl,false,by decide +kernel,aG ?_⟩
  refine ⟨_,rfl,td,_,_,_,rfl,rfl,.of e,rfl,rfl,false,by decide +kernel,aG (hR _ _ ?_)⟩
  refine ar fun _ hR=>⟨_,rfl,td,_,rfl,.inr (.of e),rfl,false,rfl,aG (hR _ _ ?_)⟩;refine ar fun _ hR=>⟨_,rfl,td,_,_,_,rfl,rfl,.of e,rfl,rfl,true,by decide +kernel,cN ?_⟩
  exact ⟨_,rfl,td,_,_,_,rfl,rfl,.of e,rfl,ta,as,rfl,eta,ok,kk⟩
theorem M3:bO ["told"] ["told"] (bf wF):=cC
theorem M4(T:Txt K mg t):bE P w K mg base b6 1 t.nt t.qc ["told"] LV:=by
 have S:=M3;refine T.qE.cW S (fun _ _ _ _ H _ _ _ hr h=>?_);obtain ⟨td,N,rfl,tn,ok,kk⟩:=h
 refine ⟨_,(aA (bM (bN b5 (aC aS (pv 0) ao) cT) (aF (a7 (aO dg (bI gP rfl T.eZ e8 (af (aC aS (pv 0) ao) ak)) ao))) bL)
  (aA (bM (bN b5 (aC aS (pv 0) ao) cT) (aF (a7 (aO et ao (aC aS (pv 0) ao)))) bL)
  (aF (a7 (aC aS (pv 0) ao))))),?_⟩
 cases N with
 | band n w=>
  have e:H td=some (.tup [sV "band",.int (n:Int),.int (w:Int)]):=tn;refine ar fun _ hR=>⟨_,rfl,td,_,_,_,rfl,rfl,.of e,rfl,rfl,false,by decide +kernel,aG (hR _ _ ?_)⟩
  refine ar fun _ hR=>⟨_,rfl,td,_,_,_,rfl,rfl,.of e,rfl,rfl,false,by decide +kernel,aG (hR _ _ ?_)⟩
  exact ⟨_,rfl,td,_,_,_,rfl,rfl,.of e,rfl,kk⟩
 | cu n w=>
  have e:H td=some (.tup [sV "brim",.int (n:Int),.int (w:Int)]):=tn;refine ar fun _ hR=>⟨_,rfl,td,_,_,_,rfl,rfl,.of e,rfl,rfl,false,by decide +kernel,aG (hR _ _ ?_)⟩
  refine ar fun _ hR=>⟨_,rfl,td,_,_,_,rfl,rfl,.of e,rfl,rfl,false,by decide +kernel,aG (hR _ _ ?_)⟩
  exact ⟨_,rfl,td,_,_,_,rfl,rfl,.of e,rfl,kk⟩
 | ring n=>
  have e:H td=some (.tup [sV "ring",.int (n:Int)]):=tn;refine ar fun _ hR=>⟨_,rfl,td,_,_,_,rfl,rfl,.of e,rfl,rfl,false,by decide +kernel,aG (hR _ _ ?_)⟩
  refine ar fun _ hR=>⟨_,rfl,td,_,_,_,rfl,rfl,.of e,rfl,rfl,false,by decide +kernel,aG (hR _ _ ?_)⟩
  exact ⟨_,rfl,td,_,_,_,rfl,rfl,.of e,rfl,kk⟩
 | cV m=>
  have e:H td=some (.tup [sV "ladder",.int (m:Int)]):=tn;refine ar fun _ hR=>⟨_,rfl,td,_,_,_,rfl,rfl,.of e,rfl,rfl,false,by decide +kernel,aG (hR _ _ ?_)⟩
  refine ar fun _ hR=>⟨_,rfl,td,_,_,_,rfl,rfl,.of e,rfl,rfl,true,by decide +kernel,cN ?_⟩
  refine ⟨_,rfl,td,_,_,_,rfl,rfl,.of e,rfl,_,_,rfl,rfl,.inl ⟨by decide,by decide⟩,?_⟩
  have:((aD.cV m).sz:Int)=2*(m:Int):=by show ((2*m:Nat):Int)=_;lia
  rw [this] at kk;exact kk
 | tree as=>
  obtain ⟨ta,e,eta⟩:=id tn;refine ar fun _ hR=>⟨_,rfl,td,_,_,_,rfl,rfl,.of e,rfl,rfl,true,by decide +kernel,cN ?_⟩
  refine ⟨_,rfl,td,_,_,_,rfl,rfl,.of e,rfl,ta,_,rfl,.inr (.of eta),_,_,rfl,rfl,?_⟩;rw [aJ];exact kk
theorem M5:bO ["told","i","j","apart"] ["told","i","j"] (bf wG):=cC
theorem M6(T:Txt K mg t):bE P w K mg base b6 1 t.nz t.qd ["told","i","j"] LW:=by
 have S:=M5;refine T.qF.cW S (fun _ _ _ _ H _ Q _ hr h=>?_);obtain ⟨td,N,i,j,rfl,tn,ok,ij,jn,kk⟩:=h
 refine ⟨_,(aA (putL 3 S.nd (aO gN (pv 2) (pv 1)))
  (aA (bM (bN b5 (aC aS (pv 0) ao) cT) (aF (a7 (fc b5 (aC aS (aC aS (pv 0) ao) (aO gN (pv 2) ao)) (pv 1)))) bL)
  (aA (bM (bN b5 (aC aS (pv 0) ao) cT) (aF (a7 (xO (fc b5 (pv 3) ao) (hZ (fc b5 (pv 3) (aO gN (aC aS (pv 0) ao) ao)))))) bL)
  (aA (bM (bN b5 (aC aS (pv 0) ao) cT) (aF (a7 (xO (fc b5 (pv 3) ao) (hZ (iO (fc b5 (pv 3) ao) (hZ (fc b5 (aO oU (pv 1) ao) ao))))))) bL)
  (aF (a7 (xO (fc mG (pv 3) (aC aS (pv 0) ao)) (hZ (iO (fc b5 (aC aS (pv 0) ao) cT) (hZ (fc b5 (pv 2) (aO gN (aC aS (pv 0) ao) ao)))))))))))),?_⟩
 refine ar fun _ hR=>bG ⟨_,rfl,_,rfl,_,_,rfl,rfl,hR _ _ ?_⟩;have fin:∀{b:Bool},N.lk i j=b→Q (.bl b) H:=fun h=>h▸kk;cases N with
 | band n w=>
  have e:H td=some (.tup [sV "band",.int (n:Int),.int (w:Int)]):=tn;refine ar fun _ hR=>⟨_,rfl,td,_,_,_,rfl,rfl,.of e,rfl,rfl,false,by decide +kernel,aG (hR _ _ ?_)⟩
  refine ar fun _ hR=>⟨_,rfl,td,_,_,_,rfl,rfl,.of e,rfl,rfl,false,by decide +kernel,aG (hR _ _ ?_)⟩
  refine ar fun _ hR=>⟨_,rfl,td,_,_,_,rfl,rfl,.of e,rfl,rfl,false,by decide +kernel,aG (hR _ _ ?_)⟩
  refine ⟨_,rfl,_,rfl,td,_,_,_,rfl,rfl,.of e,rfl,_,_,rfl,rfl,_,rfl,cX (fun hb=>?_) (fun hb=>?_)⟩
  ·have hb:=dc hb
   exact fin (aK (by lia))
  ·have hb:¬((j:Int)-(i:Int)≤(w:Int)):=fun z=>hb (aK z)
   exact ⟨_,rfl,td,_,_,_,rfl,rfl,.of e,rfl,rfl,false,by decide +kernel,aG (fin (bj (by lia)))⟩
 | cu n w=>
  have e:H td=some (.tup [sV "brim",.int (n:Int),.int (w:Int)]):=tn;refine ar fun _ hR=>⟨_,rfl,td,_,_,_,rfl,rfl,.of e,rfl,rfl,false,by decide +kernel,aG (hR _ _ ?_)⟩
  refine ar fun _ hR=>⟨_,rfl,td,_,_,_,rfl,rfl,.of e,rfl,rfl,false,by decide +kernel,aG (hR _ _ ?_)⟩
  refine ar fun _ hR=>⟨_,rfl,td,_,_,_,rfl,rfl,.of e,rfl,rfl,false,by decide +kernel,aG (hR _ _ ?_)⟩
  refine ⟨_,rfl,_,rfl,td,_,_,_,rfl,rfl,.of e,rfl,_,_,rfl,rfl,_,rfl,cX (fun hb=>?_) (fun hb=>?_)⟩
  ·have hb:=dc hb
   exact fin (by show (decide (j≤i+w) || _)=true;rw [aK (show j≤i+w by lia)];rfl)
  ·have hb:¬((j:Int)-(i:Int)≤(w:Int)):=fun z=>hb (aK z)
   refine ⟨_,rfl,td,_,_,_,rfl,rfl,.of e,rfl,rfl,true,by decide +kernel,cN ?_⟩
   refine ⟨_,rfl,_,rfl,td,_,_,_,rfl,rfl,.of e,rfl,_,_,rfl,rfl,rfl,fin ?_⟩;show (decide (j≤i+w) || decide (j+1=n))=_;rw [fg,bj (show ¬j≤i+w by lia),me]
   exact mh.mpr (by lia)
 | ring n=>
  have e:H td=some (.tup [sV "ring",.int (n:Int)]):=tn;refine ar fun _ hR=>⟨_,rfl,td,_,_,_,rfl,rfl,.of e,rfl,rfl,false,by decide +kernel,aG (hR _ _ ?_)⟩
  refine ar fun _ hR=>⟨_,rfl,td,_,_,_,rfl,rfl,.of e,rfl,rfl,true,by decide +kernel,cN ?_⟩
  refine ⟨_,rfl,rfl,_,rfl,cX (fun hb=>?_) (fun hb=>?_)⟩
  ·rw [fg] at hb
   have hb:=dc hb;exact fin (by show (decide (j=i+1) || _)=true;rw [aK (show j=i+1 by lia)];rfl)
  ·have hb:¬((j:Int)-(i:Int)=1):=fun z=>hb (by rw [fg];exact aK z)
   refine ⟨_,rfl,_,rfl,td,_,_,_,rfl,rfl,.of e,rfl,_,_,rfl,rfl,rfl,fin ?_⟩;show (decide (j=i+1) || decide (j+1=i+n))=_;rw [fg,bj (show ¬j=i+1 by lia),me]
   exact mh.mpr (by lia)
 | cV m=>
  have e:H td=some (.tup [sV "ladder",.int (m:Int)]):=tn;refine ar fun _ hR=>⟨_,rfl,td,_,_,_,rfl,rfl,.of e,rfl,rfl,false,by decide +kernel,aG (hR _ _ ?_)⟩
  refine ar fun _ hR=>⟨_,rfl,td,_,_,_,rfl,rfl,.of e,rfl,rfl,false,by decide +kernel,aG (hR _ _ ?_)⟩
  refine ar fun _ hR=>⟨_,rfl,td,_,_,_,rfl,rfl,.of e,rfl,rfl,true,by decide +kernel,cN ?_⟩
  refine ⟨_,rfl,rfl,_,rfl,cX (fun hb=>?_) (fun hb=>?_)⟩
  ·rw [fg] at hb
   have hb:=dc hb;exact fin (by show (decide (j=i+2) || _)=true;rw [aK (show j=i+2 by lia)];rfl)
  ·have hb:¬((j:Int)-(i:Int)=2):=fun z=>hb (by rw [fg];exact aK z)
   refine ⟨_,rfl,rfl,_,rfl,cX (fun hc=>?_) (fun hc=>?_)⟩
   ·rw [fg] at hc
    have hc:=dc hc;refine ⟨_,rfl,_,_,rfl,rfl,(by decide:(0:Int)<2),rfl,fin ?_⟩
    show (decide (j=i+2) || (decide (j=i+1) && decide (i % 2=0)))=_;rw [fg,bj (show ¬j=i+2 by lia),me,aK (show j=i+1 by lia),Bool.true_and]
    exact mh.mpr (by lia)
   ·have hc:¬((j:Int)-(i:Int)=1):=fun z=>hc (by rw [fg];exact aK z)
    exact fin (by show (decide (j=i+2) || (decide (j=i+1) && decide (i % 2=0)))=false;rw [bj (show ¬j=i+2 by lia),bj (show ¬j=i+1 by lia)];rfl)
 | tree as=>
  obtain ⟨ta,e,eta⟩:=id tn;have jn:j<as.length+1:=jn;refine ar fun _ hR=>⟨_,rfl,td,_,_,_,rfl,rfl,.of e,rfl,rfl,true,by decide +kernel,cN ?_⟩
  have at':ic (as.map fun k:Nat=>V.int (k:Int)) ((j:Int)-1)=some (.int ((as.getD (j-1) 0:Nat):Int)):=by
   have hj:j-1<as.length:=by lia
   rw [show (j:Int)-1=((j-1:Nat):Int) by lia,fA,dR hj]
   exact oY (by rw [bU,dR hj];rfl)
  refine ⟨_,rfl,td,_,_,_,rfl,rfl,.of e,rfl,_,rfl,_,_,rfl,rfl,ta,_,_,_,rfl,rfl,.of eta,at',_,rfl,rfl,fin ?_⟩;show decide (as.getD (j-1) 0=i)=_;rw [fg];exact mh.mpr (by lia)
theorem M7:bO ["told","n","links","i"] ["told"] (bf wH):=cC
theorem M8(T:Txt K mg t):bE P w K mg base (gg P w) 5 t.nB t.qe ["told"] DD:=by
 have S:=M7;refine T.qG.gQ S (fun _ _ _ _ H _ _ _ hr h L=>?_);obtain ⟨td,N,rfl,tn,ok,kk⟩:=h
 refine ⟨_,(aA (bM (hW (gK (bt (M1 T) hr T.Ej T.qD.kp T.Ei bF (af (pv 0) ak)))) (aF (Cb L rfl PySem.F.excBase_ValueError T.ER rfl T.EL (af cT ak))) bL)
  (aA (putL 1 S.nd (bt (M4 T) hr T.El T.qE.kp T.Ek bF (af (pv 0) ak)))
  (aA (putL 2 S.nd (fe ak))
  (aA (en (KG L) rfl (fb rfl T.dD (af (pv 1) ak)) (cM (i:=3) S.nd rfl (Or.inr rfl))
   (aF (iP (lh ji PySem.F.slot_list_extend PySem.F.type_list_extend HA (pv 2) (af (ig (N:=["j","i","told"]) (ρ:=(fun σ=>[σ[3]?.join,σ[0]?.join])) (eA [3,0] rfl) rfl (Bs rfl T.dD (af (aO dg (pv 3) ao) (af (pv 1) ak))) (fun _ _ _=>(.one (gK (bt (M6 T) hr T.En T.qF.kp T.Em bF (af (pv 2) (af (pv 1) (af (pv 0) ak))))))) (fun _ _ _=>(fG (af (pv 1) (af (pv 0) ak))))) ak)))))
  (aF (a7 (fG (af (pv 1) (af (jz yc rfl T.n4 boot_tuple (af (pv 2) ak)) ak))))))))),?_⟩
 obtain ⟨n1,di⟩:=jM ok;have len:=zG ok;have fl:∀i,i≤N.sz→(eS N.sz N.lk i).length≤1770:=fun i hi=>by
  have mon:∀k,(eS N.sz N.lk i).length≤(eS N.sz N.lk (i+k)).length:=fun k=>by
   induction k with
   | zero=>exact aw _
   | succ k ih=>show _≤(eS N.sz N.lk (i+k)++fR N.sz N.lk (i+k)).length;rw [cY];lia
  have:=mon (N.sz-i);rw [show i+(N.sz-i)=N.sz by lia] at this
  exact cG this len
 refine ar fun _ hR=>⟨_,rfl,td,N,rfl,tn,ok,fun H1 s1=>⟨true,rfl,aG (hR _ _ ?_)⟩⟩;have gC:=tn.mono s1;refine ar fun _ hR=>bG ⟨_,rfl,td,N,rfl,gC,ok,hR _ _ ?_⟩;refine ar fun _ hR=>bG ⟨by show 0≤sizeLine;decide,fun fd EV=>hR _ _ ?_⟩
 have s2:ah H1 (upd H1 fd (.lst [])):=aP EV;have ef:upd H1 fd (.lst []) fd=some (.lst []):=av;generalize upd H1 fd (.lst [])=H2 at s2 ef ⊢;have tQ:=s1.trans s2;have M9:H fd=none:=none_of s1 EV;have fv:=gC.mono s2;refine ar fun _ hR=>⟨_,rfl,(N.sz:Int),rfl,by lia,by lia,?_⟩
 rw [cO];refine ju (fun i σ Hc=>∃(us:List V) (v3:Option V),σ=[some (.ref td),some (.int (N.sz:Int)),some (.ref fd),v3]∧ah H Hc∧Hc fd=some (.lst us)∧bA Hc us (eS N.sz N.lk i)) ⟨[],_,rfl,tQ,ef,bA.nil _⟩ ?_ ?_
 ·rintro i σ Hc hi ⟨us,v3,rfl,sc,n8,hL⟩
  have M_:=tn.mono sc;dsimp only [cL];refine ⟨_,rfl,.inl ⟨rfl,_,.of n8⟩,CV (xs:=(List.range (N.sz-(i+1))).map fun k:Nat=>V.int ((i:Int)+1+(k:Int))) (fun k=>N.lk i (i+1+k)) (fun R h=>⟨_,rfl,_,_,rfl,rfl,_,rfl,_,_,rfl,⟨by lia,by lia,by lia,by lia⟩,h _ ?_⟩) (by rw [aJ,da];exact dM (by lia)) (fun _ k y Hx=>∃b:Addr,y=.ref b∧Hx b=some (.tup [.int (i:Int),.int ((i+1+k:Nat):Int)])) (fun D k y Ha Hb ys ⟨b,h1,h2⟩ e f=>⟨b,h1,f b _ (fun z=>by rw [z,e] at h2;cases h2) h2⟩) ?_ ?_ ?_⟩
  ·rw [show ((N.sz:Int)-(0+(i:Int)+1)).toNat=N.sz-(i+1) by lia,show 0+(i:Int)+1=(i:Int)+1 by lia]
   exact pe
  ·intro k x hx Hd R sd hR
   have hk:k<N.sz-(i+1):=by have:=(cy.mp hx).1;simpa using this
   rw [bU,iH hk] at hx;cases hx;refine ⟨_,rfl,_,rfl,_,rfl,td,N,i,i+1+k,?_,M_.mono sd,ok,by lia,by lia,_,rfl,hR⟩
   show [V.ref td,V.int (0+(i:Int)),V.int ((i:Int)+1+(k:Int))]=_;rw [e9,show ((i+1+k:Nat):Int)=(i:Int)+1+(k:Int) by lia]
  ·intro D k x hx Hd R sd _ kc
   have hk:k<N.sz-(i+1):=by have:=(cy.mp hx).1;simpa using this
   rw [bU,iH hk] at hx;cases hx;refine ⟨_,rfl,_,rfl,by show 2≤sizeLine;decide,fun tp g6=>?_⟩
   refine kc _ _ (aP g6) ⟨tp,rfl,?_⟩;rw [av,e9,show ((i+1+k:Nat):Int)=(i:Int)+1+(k:Int) by lia]
  ·intro D ys Hd nD sd ja hP eD
   rw [aJ,da] at ja hP;have hR:bA Hd ys (fR N.sz N.lk i):=⟨by unfold fR;rw [aJ];exact ja,fun k v p h1 h2=>by
    unfold fR at h2;rw [bU] at h2;cases e:((List.range (N.sz-(i+1))).filter fun k=>N.lk i (i+1+k))[k]? with
    | none=>rw [e] at h2;cases h2
    | some k'=>rw [e] at h2;cases h2;exact hP k k' v h1 e⟩
   have l1:=hL.1;have l2:=hR.1;have l3:=fl (i+1) (by lia)
   have e3:eS N.sz N.lk (i+1)=eS N.sz N.lk i++fR N.sz N.lk i:=rfl;rw [e3,cY] at l3;refine ⟨fd,D,us,ys,rfl,rfl,sd _ _ n8,eD,cG (show _≤2000 by lia) (by decide),us++ys,_,rfl,eB (sc.trans sd) M9,av,?_⟩
   rw [e3];exact ((hL.mono sd).cat hR).bx (sd _ _ n8) fun b o nb e=>by rw [aM nb];exact e
 ·rintro σ Hc ⟨us,v3,rfl,sc,n8,hL⟩
  refine hR _ _ ?_;refine ⟨_,rfl,_,rfl,fd,us,rfl,.inl ⟨.of n8,fun lt zH=>?_⟩⟩;have sl:ah Hc (upd Hc lt (.tup us)):=aP zH;have el:upd Hc lt (.tup us) lt=some (.tup us):=av;generalize upd Hc lt (.tup us)=Hd at sl el ⊢;refine ⟨by show 2≤sizeLine;decide,fun tp g6=>?_⟩
  have st:ah Hd (upd Hd tp (.tup [.int (N.sz:Int),.ref lt])):=aP g6;exact kk tp _ (sc.trans (sl.trans st)) ⟨lt,us,av,st _ _ el,(hL.mono sl).mono st⟩
theorem Na:bO ["shape","linked","i","j"] ["shape"] (bf wg):=cC
theorem Nb(T:Txt K mg t):bE P w K mg base b6 1 t.m5 t.pY ["shape"] Df:=by
 have S:=Na;refine T.qv.cW S (fun _ _ _ _ H _ _ _ hr h=>?_);obtain ⟨tp,n,L,rfl,⟨lt,us,dY,elt,hL⟩,ok,n9,kk⟩:=h;have hu:=iG (uG (show 1≤64 by decide) _) hr.units
 have qT:((List.range n).map fun i:Nat=>V.int (0+(i:Int))).length=n:=by rw [aJ,da]
 refine ⟨_,(aA (pf (i0:=1) (N:=["place"]) (ρ:=(fun σ=>[])) (eA [] rfl) rfl S.nd rfl (Or.inl rfl) (fb rfl T.dD (af (aC aS (pv 0) ao) ak)) (fun _ _ _=>.nil) (fun _ _ _=>C7))
  (aA (en eh rfl (uN (aC aS (pv 0) ao)) (mC rfl (f_ (cM (i:=2) S.nd rfl (Or.inl rfl)) (f_ (cM (i:=3) S.nd rfl (Or.inl rfl)) mB)))
   (aA (sZ hu (aC dJ (pv 1) (pv 2)) (pv 3) eP rfl)
  (aF (sZ hu (aC dJ (pv 1) (pv 3)) (pv 2) eP rfl))))
  (aF (a7 (pv 1))))),?_⟩
 refine lE (bG (pj (xs:=(List.range n).map fun i:Nat=>V.int (0+(i:Int))) (n:=n) qT (fun R h=>⟨_,rfl,tp,_,_,_,rfl,rfl,.of dY,rfl,(n:Int),rfl,by lia,by lia,h _ _ (ah.refl _) (by rw [cO];exact pe)⟩) (dM (by lia)) (fun _ i y Hx=>Hx y=some (.dK (dk []))∧H y=none) ?_ ?_ ?_))
 ·intro D i y Ha Hb ys ⟨h1,h2⟩ hy e f
  exact ⟨f y _ hy h1,h2⟩
 ·intro D i x hx Hc R sc _ kc
  refine fun p np=>kc p _ (eB (ah.refl _) np) np ⟨_,av⟩ ⟨av,?_⟩;cases e:H p with
  | none=>rfl
  | some o=>rw [sc _ _ e] at np;cases np
 ·intro D ds H1 nD s1 inj hA eD
  have K0:cQ H1 D n ds (fun _=>True) (fun _=>[]):=⟨eD,inj,fun i hi=>(hA i hi).2,fun i hi _=>(hA i hi).1.1,fun i _=>eU.nil n⟩;have fr:∀i,i<n→H (ds i)=none:=fun i hi=>(hA i hi).1.2;dsimp only [cL];refine lE ⟨_,rfl,tp,_,_,_,rfl,rfl,.of (s1 _ _ dY),rfl,lt,rfl,⟨_,.of (s1 _ _ elt)⟩,?_⟩;refine uO (K:=K) (a:=lt) (xs:=us) (fun k σ Hc=>∃(f:Nat→List Nat) (v2 v3:Option V),σ=[some (.ref tp),some (.ref D),v2,v3]∧ah H Hc∧cQ Hc D n ds (fun _=>True) f∧eV n (L.take k) f) ⟨_,_,_,rfl,s1,K0,eV.nil n⟩ (fun k σ Hc _ ⟨_,_,_,_,sc,_⟩=>.of (sc _ _ elt)) ?_ ?_
  ·rintro k x σ Hc hx ⟨f,v2,v3,rfl,sc,KL,nb⟩
   have hk:k<L.length:=by rw [←hL.1];exact (cy.mp hx).1
   obtain ⟨b,rfl,eb⟩:=hL.2 k x L[k] hx (by simp [hk])
   have pk:=ok L[k] (dv hk);have tk:L.take (k+1)=L.take k++[L[k]]:=by rw [rE,dR hk];rfl
   generalize L[k]=p at eb pk tk;obtain ⟨p1,p2⟩:=p;dsimp only at pk eb;obtain ⟨i,rfl⟩:=iK pk.1;obtain ⟨j,rfl⟩:=iK pk.2.2.1;have hi:i<n:=by lia
   have hj:j<n:=by lia
   refine ⟨b,_,rfl,.of (sc _ _ eb),rfl,_,_,rfl,_,_,rfl,rfl,?_⟩;obtain ⟨q1,K1⟩:=KL.put hi hj trivial n9;obtain ⟨q2,K2⟩:=K1.put hj hi trivial n9;refine ⟨_,rfl,_,rfl,D,_,_,_,rfl,rfl,.of KL.lst,KL.ix hi,_,rfl,_,_,rfl,q1,?_⟩;refine ⟨_,rfl,_,rfl,D,_,_,_,rfl,rfl,.of K1.lst,K1.ix hj,_,rfl,_,_,rfl,q2,?_⟩;have off:∀(Hx:Hp) (i:Nat) (o:HO),i<n→ah H Hx→ah H (upd Hx (ds i) o):=fun Hx i o hi sx a u e=>by
    rw [aM (fun z=>by rw [z,fr i hi] at e;cases e)]
    exact sx _ _ e
   exact ⟨_,_,_,rfl,off _ _ _ hj (off _ _ _ hi sc),K2,by rw [tk];exact nb.more hi hj⟩
  ·rintro σ Hc ⟨f,v2,v3,rfl,sc,KL,nb⟩
   rw [hL.1,jY] at nb;exact ⟨_,rfl,kk _ _ _ _ sc nD fr KL nb⟩
theorem Nc:bO ["many"] ["many"] (bf wx):=cC
theorem Nd(T:Txt K mg t):bE P w K mg base b6 1 t.ng t.p8 ["many"] KH:=by have S:=Nc;refine T.qB.cW S (fun _ _ _ _ H _ _ _ hr h=>?_);obtain ⟨m,rfl,m1,k⟩:=h;refine ⟨_,(aF (a7 (aO dg (aO dg (aO et (pv 0) (pv 0)) (aO et ao (pv 0))) ao))),?_⟩;exact ⟨_,rfl,_,rfl,_,_,rfl,rfl,.inl ⟨by lia,by lia⟩,_,rfl,_,_,rfl,rfl,.inl ⟨by lia,by lia⟩,_,_,rfl,rfl,_,_,rfl,rfl,k⟩
theorem Nf:bO ["thing","n"] ["thing","n"] (bf wj):=cC
theorem Ng(T:Txt K mg t):bE P w K mg base b6 2 t.m6 t.pZ ["thing","n"] Km:=by
 have S:=Nf;refine T.qw.cW S (fun _ _ _ _ H _ _ _ hr h=>?_);obtain ⟨a,zs,n,rfl,ea,n_,n1,k⟩:=h;have og:=hr.units
 refine ⟨_,(aA (bM (PW.pt (pw_or (hW (gK (bI (km (K:=K)) rfl T.jP boot_isinstance (af (pv 0) (af (kd (v:=.ty "list") rfl T.nZ boot_list rfl) ak))))) (pw_or1 (hW (gK (bI (Cj (K:=K) rfl) rfl T.z5 boot_all (af (ig (N:=["place"]) (ρ:=(fun σ=>[])) (eA [] rfl) rfl (iQ (pv 0)) (fun _ _ _=>.nil) (fun _ _ _=>(bt (xc T) hr T.tM T.kM.kp T.tL bF (af (pv 0) ak)))) ak))))))) (aF (a7 eP)) bL)
  (aF (a7 (fc (Kk og) (bI vE rfl T.qS rG (af (pv 0) ak)) (jz (yp rfl) rfl T.nZ boot_list (af (jz yo rfl T.dD yq (af (pv 1) ak)) ak)))))),?_⟩
 refine ⟨_,rfl,_,_,_,true,rfl,rfl,.of (.lst ea),yt,true,rfl,aG ?_⟩;unfold Bj tB;refine ph (IH (xs:=zs.map V.int) (fun R h=>⟨_,rfl,a,rfl,⟨_,.of ea⟩,h _ _ (ah.refl _) (pd (.of ea))⟩) (by rw [aJ];exact dM (by lia)) (fun _ i y _=>y=.bl true) (fun _ _ _ _ _ _ h _ _=>h) ?_ ?_)
 ·intro D i v hi Hc R sc _ kc
  obtain ⟨z,rfl⟩:∃z:Int,v=.int z:=by
   rw [bU] at hi;cases e:zs[i]? with
   | none=>rw [e] at hi;cases hi
   | some z=>rw [e] at hi;exact ⟨z,(Option.some.inj hi).symm⟩
  exact ⟨_,rfl,.int z,rfl,.int z,kc _ Hc (ah.refl _) rfl⟩
 ·intro D ys Hc sc qU hP eD
  refine ⟨D,List.replicate ys.length true,rfl,.of (by rw [eD];exact b9 _ (b9 _ (IY hP))),?_⟩
  rw [IZ];refine ⟨true,rfl,aG ?_⟩;dsimp only [xP];have Nh:=sc _ _ ea;refine ⟨_,rfl,a,zs,rfl,Nh,n_,fun ws D2 p o n2=>?_⟩;refine ⟨_,rfl,(n:Int),rfl,fun p1 jQ=>⟨p1,n,rfl,av,by lia,fun l nl=>?_⟩⟩
  have d1:D2≠p1:=fun z=>by rw [←z,av] at jQ;cases jQ
  have d2:D2≠l:=fun z=>by rw [←z,aM d1,av] at nl;cases nl
  refine ⟨D2,l,ws,(List.range n).map iN,rfl,rfl,.of ?_,.of ?_,?_⟩;·rw [aM d2,aM d1,av]
  ·rw [av]
   unfold gR;rw [dG];rfl
  ·rw [Dg p o]
   exact k _ (kF (kF (kF sc n2) jQ) nl)
theorem Ni:bO ["order","n"] ["order","n"] (bf wm):=cC
theorem Nj(T:Txt K mg t):bE P w K mg base (gg P w) 3 t.m7 t.p4 ["order","n"] (Kn t.jO):=by
 have S:=Ni;refine T.qx.gQ S (fun _ _ _ _ H _ _ _ hr h L=>?_);obtain ⟨a,zs,n,rfl,ea,n_,n1,kE,k⟩:=h;refine ⟨_,(aF (bM (hW (gK (bt (Ng T) hr T.D6 T.qw.kp T.D5 bF (af (pv 0) (af (pv 1) ak))))) (aF (Cb L rfl PySem.F.excBase_ValueError T.ES rfl T.EM (af cT ak))) bL)),?_⟩;refine ⟨_,rfl,_,rfl,a,zs,n,rfl,ea,n_,n1,fun H1 s1=>⟨_,rfl,cX (fun hb=>?_) (fun hb=>?_)⟩⟩;·exact ⟨by show 1≤sizeLine;decide,kE (by simpa using hb) _ s1⟩
 ·exact k (by simpa using hb) _ s1
theorem Nk:bO ["order","turns","turn","place"] ["order"] (bf wo):=cC
theorem Nl(T:Txt K mg t):bE P w K mg base b6 1 t.m8 t.p5 ["order"] Kp:=by
 have S:=Nk;refine T.qy.cW S (fun _ _ _ _ H _ _ _ hr h=>?_);obtain ⟨a,n,o,rfl,⟨ea,ho⟩,n1,kk⟩:=h;have lo:=iA ho;have lm:(o.map fun k:Nat=>V.int (k:Int)).length=n:=by rw [aJ,lo]
 refine ⟨_,(aA (putL 1 S.nd (aO HK (fe (af ao ak)) (bI gP rfl T.eZ e8 (af (pv 0) ak))))
  (aA (en eh rfl (Ja rfl T.z7 (af (pv 0) ak)) (mC rfl (f_ (cM (i:=2) S.nd rfl (Or.inl rfl)) (f_ (cM (i:=3) S.nd rfl (Or.inl rfl)) mB)))
   (aF (@uK _ _ _ _ _ _ (pv 2) (xU (pv 1) (pv 3) set_list) (by rfl) (by rfl) (by rfl))))
  (aF (a7 (pv 1))))),?_⟩
 refine ⟨by show 1≤sizeLine;decide,fun l nl=>?_⟩
 have al:a≠l:=fun z=>by rw [z,nl] at ea;cases ea
 refine ⟨_,rfl,a,_,rfl,.inl (.of (by rw [aM al];exact ea)),l,_,_,rfl,rfl,av,by lia,by rw [lm];lia,?_,fun c nc=>?_⟩
 ·rw [lm,cO]
  show 1*n≤sizeLine;rw [l_];lia
 rw [lm,cO,Ks n o];have EW:H c=none:=none_of (aP nl) nc;have s0:ah H (upd (upd H l (.lst [.int 0])) c (.lst ((List.range n).map fun p=>V.int (iz o 0 p)))):=(aP nl).trans (aP nc);have e0:upd (upd H l (.lst [.int 0])) c (.lst ((List.range n).map fun p=>V.int (iz o 0 p))) c=_:=av;generalize upd (upd H l (.lst [.int 0])) c (.lst ((List.range n).map fun p=>V.int (iz o 0 p)))=H0 at s0 e0 ⊢;dsimp only [cL];refine lE ⟨_,rfl,a,rfl,⟨_,.of (s0 _ _ ea)⟩,?_⟩
 refine Jb (K:=K) (l:=a) (xs:=o.map fun k:Nat=>V.int (k:Int)) (fun i σ Hc=>ah H Hc∧∃(v2 v3:Option V),σ=[some (.ref a),some (.ref c),v2,v3]∧Hc c=some (.lst ((List.range n).map fun p=>V.int (iz o i p))))
  ⟨s0,_,_,rfl,e0⟩ (fun i σ Hc ⟨z,_⟩=>.of (z _ _ ea)) ?_ ?_
 ·rintro i x σ Hc Tt hx ⟨sc,v2,v3,rfl,ec⟩ nT
  have hi:i<o.length:=by have:=(cy.mp hx).1;simpa using this
  have ex:x=.int ((o[i]:Nat):Int):=by rw [bU] at hx;simp [hi] at hx;exact hx.symm
  subst ex;have hp:o[i]<n:=(dP ho).mp (dv hi);have sT:ah Hc (upd Hc Tt (.tup [.int (i:Int),.int ((o[i]:Nat):Int)])):=aP nT;have eT:upd Hc Tt (.tup [.int (i:Int),.int ((o[i]:Nat):Int)]) Tt=_:=av;generalize upd Hc Tt (.tup [.int (i:Int),.int ((o[i]:Nat):Int)])=H1 at sT eT ⊢;refine ⟨Tt,_,rfl,.of eT,rfl,_,_,rfl,_,_,rfl,rfl,?_⟩;refine ⟨_,rfl,_,rfl,_,rfl,c,_,_,o[i],rfl,rfl,sT _ _ ec,by rw [aJ,da];exact Dh hp,?_⟩
  exact ⟨eB (sc.trans sT) EW,_,_,rfl,by rw [av,Kr ho hi]⟩
 ·rintro σ Hc ⟨sc,v2,v3,rfl,ec⟩
  rw [aJ,Kt ho] at ec;exact ⟨_,rfl,kk c Hc sc EW ec⟩
theorem Nm:bO ["linked","places","one","other"] ["linked","places"] (bf wq):=cC
theorem Nn(T:Txt K mg t):bE P w K mg base b6 1 t.m9 t.p6 ["linked","places"] Ku:=by
 have S:=Nm;refine T.qz.cW S (fun _ _ _ _ H _ _ _ hr h=>?_);obtain ⟨D,pl,n,ds,un,f,ps,rfl,KL,qV,Np,n9,kk⟩:=h;have hu:=iG (uG (show 1≤64 by decide) _) hr.units
 have bx:∀i,i<n→un i→pl≠ds i:=fun i hi ui z=>by rw [z,KL.at' i hi ui] at qV;cases qV
 have EX:∀{i:Nat} {x:V},(ps.map fun k:Nat=>V.int (k:Int))[i]?=some x→∃p:Nat,ps[i]?=some p∧x=.int (p:Int)∧p<n∧un p:=fun{i x} hx=>by
  rw [bU] at hx;cases e:ps[i]? with
  | none=>rw [e] at hx;cases hx
  | some p=>rw [e] at hx;exact ⟨p,rfl,(Option.some.inj hx).symm,Np p (List.mem_of_getElem? e)⟩
 refine ⟨_,(aF (en eh rfl (iQ (pv 1)) (cM (i:=2) S.nd rfl (Or.inl rfl))
   (aF (en eh rfl (iQ (pv 1)) (cM (i:=3) S.nd rfl (Or.inl rfl))
   (aF (bM (bN rV (pv 2) (pv 3)) (aF (sZ hu (aC dJ (pv 0) (pv 2)) (pv 3) eP rfl)) bL)))))),?_⟩
 refine ⟨_,rfl,pl,rfl,⟨_,.of qV⟩,?_⟩;refine rU (K:=K) (a:=pl) (xs:=ps.map fun k:Nat=>V.int (k:Int)) (fun i σ Hc=>∃(g:Nat→List Nat) (v2 v3:Option V),σ=[some (.ref D),some (.ref pl),v2,v3]∧lK n ds un H Hc∧cQ Hc D n ds un g∧fm n f ps i 0 g) ⟨f,_,_,rfl,.refl,KL,fm.start n f ps⟩ (fun i σ Hc _ ⟨_,_,_,_,oc,_⟩=>.of (oc _ _ qV bx)) ?_ ?_
 ·rintro i x σ Hc hx ⟨g,v2,v3,rfl,oc,Kc,la⟩
  obtain ⟨p,hp,rfl,pn,up⟩:=EX hx;refine ⟨_,rfl,pl,rfl,⟨_,.of (oc _ _ qV bx)⟩,?_⟩;refine rU (K:=K) (a:=pl) (xs:=ps.map fun k:Nat=>V.int (k:Int)) (fun j σ Hd=>∃(g:Nat→List Nat) (v3:Option V),σ=[some (.ref D),some (.ref pl),some (.int (p:Int)),v3]∧lK n ds un H Hd∧cQ Hd D n ds un g∧fm n f ps i j g) ⟨g,_,rfl,oc,Kc,la⟩ (fun i σ Hc _ ⟨_,_,_,oc,_⟩=>.of (oc _ _ qV bx)) ?_ ?_
  ·rintro j y σ Hd hy ⟨g,v3,rfl,od,Kd,la⟩
   obtain ⟨q,hq,rfl,qn,uq⟩:=EX hy;refine ⟨_,rfl,_,rfl,rfl,_,rfl,cX (fun hb=>?_) (fun hb=>?_)⟩
   ·have ne:p≠q:=fun z=>by subst z;rw [fg,aK rfl] at hb;cases hb
    obtain ⟨q1,K1⟩:=Kd.put pn qn up n9;exact ⟨_,rfl,_,rfl,D,_,_,_,rfl,rfl,.of Kd.lst,Kd.ix pn,_,rfl,_,_,rfl,q1,_,_,rfl,od.put pn up,K1,la.put hp hq ne⟩
   ·have e:p=q:=by
     by_cases z:(p:Int)=(q:Int);·lia
     ·exact absurd (by rw [fg,bj z];rfl) hb
    subst e;exact ⟨_,_,rfl,od,Kd,la.same hp hq⟩
  ·rintro σ Hd ⟨g,v3,rfl,od,Kd,la⟩
   rw [aJ] at la;exact ⟨g,_,_,rfl,od,Kd,la.row⟩
 ·rintro σ Hc ⟨g,v2,v3,rfl,oc,Kc,la⟩
  rw [aJ] at la;exact kk _ g oc Kc la.done
theorem Nq:bO ["shape","order","linked","turns","told","place"] ["shape","order"] (bf wu):=cC
theorem Nr(T:Txt K mg t):bE P w K mg base (gg P w) 4 t.m_ t.p7 ["shape","order"] (KU t.jO):=by
 have S:=Nq;refine T.qA.gQ S (fun _ _ _ _ H _ _ _ hr h L=>?_);obtain ⟨tp,a,n,Lk,zs,rfl,hS,hL,ns,di,ea,n_,kE,kk⟩:=h;obtain ⟨lt,us,dY,elt,kj⟩:=id hS
 refine ⟨_,(aA (iP (bt (Nj T) hr T.D8 T.qx.kp T.D7 (B_ L) (af (pv 1) (af (aC aS (pv 0) ao) ak))))
  (ei.my (aA (putL 2 S.nd (bt (Nb T) hr T.D4 T.qv.kp T.D3 bF (af (pv 0) ak)))
  (aA (Co 3 S.nd (bt (Nl T) hr T.D_ T.qy.kp T.D9 bF (af (pv 1) ak)))
  (aA (pf (i0:=4) (N:=["place"]) (ρ:=(fun σ=>[])) (eA [] rfl) rfl S.nd rfl (Or.inl rfl) (iQ (pv 1)) (fun _ _ _=>.nil) (fun _ _ _=>(fe ak)))
  (aA (en eh rfl (iQ (pv 1)) (cM (i:=5) S.nd rfl (Or.inr rfl))
   (aA (@uK _ _ _ _ _ _ (bI vE rfl T.qS rG (af (ig (N:=["other","turns","place"]) (ρ:=(fun σ=>[σ[3]?.join,σ[5]?.join])) (eA [3,5] rfl) rfl (C_ (aC dJ (pv 2) (pv 5))) (fun _ _ _=>(.one (bN x4 (aC (yB (K:=K)) (pv 1) (pv 0)) (aC (yB (K:=K)) (pv 1) (pv 2))))) (fun _ _ _=>(pv 0))) ak)) (xU (pv 4) (pv 5) set_list) (by rfl) (by rfl) (by rfl))
  (aF (iP (bt (Nn T) hr T.Eb T.qz.kp T.Ea bF (af (pv 2) (af (aC dJ (pv 4) (pv 5)) ak)))))))
  (aF (a7 (pv 4))))))))),?_⟩
 refine ⟨_,rfl,_,rfl,tp,_,_,_,rfl,rfl,.of dY,rfl,a,zs,n,rfl,ea,n_,by lia,fun no H1 s1=>kE no H1 s1,fun yes H1 s1=>?_⟩
 obtain ⟨o,rfl,ho⟩:=Kz yes;have kk:=kk o rfl ho;have lo:=iA ho;have nd:=jG ho;have tR:H a=some (.lst (o.map fun k:Nat=>V.int (k:Int))):=by rw [ea,dG];rfl
 have lm:(o.map fun k:Nat=>V.int (k:Int)).length=n:=by rw [aJ,lo]
 refine ⟨_,rfl,tp,n,Lk,rfl,⟨lt,us,s1 _ _ dY,s1 _ _ elt,kj.mono s1⟩,hL,by lia,fun H2 D ds f s2 nD z_ KL nb=>?_⟩
 have RH:=none_of s1 nD;have EY:∀i,i<n→H (ds i)=none:=fun i hi=>none_of s1 (z_ i hi);have tQ:=s1.trans s2;dsimp only [cL];refine ⟨_,rfl,a,n,o,rfl,⟨tQ _ _ tR,ho⟩,by lia,fun tr H3 s3 Nt e3=>?_⟩
 have xg:=tQ.trans s3;have RI:=none_of tQ Nt;have K3:=KL.mono s3;dsimp only [cL];refine lE (bG (pj (xs:=o.map fun k:Nat=>V.int (k:Int)) (n:=n) lm (fun R h=>⟨_,rfl,a,rfl,⟨_,.of (xg _ _ tR)⟩,h _ _ (ah.refl _) (pd (.of (xg _ _ tR)))⟩) (dM (by lia)) (fun _ i y Hx=>H3 y=none) (fun _ _ _ _ _ _ h _ _ _=>h) ?_ ?_))
 ·intro D' i x hx Hc R sc _ kc
  refine ⟨by show 0≤sizeLine;exact cg _,fun p np=>kc p _ (aP np) np ⟨_,av⟩ (none_of sc np)⟩
 ·intro c Nu H4 nc s4 _ hA ec
  have EZ:=xg.trans s4;have E1:=none_of xg nc;have K4:=K3.mono s4;have e4:=s4 _ _ e3;have cD:c≠D:=fun z=>by rw [z,K3.lst] at nc;cases nc
  have Nv:c≠tr:=fun z=>by rw [z,e3] at nc;cases nc
  dsimp only [cL];refine lE ⟨_,rfl,a,rfl,⟨_,.of (EZ _ _ tR)⟩,?_⟩
  refine rU (K:=K) (a:=a) (xs:=o.map fun k:Nat=>V.int (k:Int)) (fun k σ Hc=>∃(rs:Nat→Addr) (f g:Nat→List Nat) (v5:Option V),σ=[some (.ref tp),some (.ref a),some (.ref D),some (.ref tr),some (.ref c),v5]∧ah H Hc∧cQ Hc D n ds (fun p=>k≤o.idxOf p) f∧Hc tr=some (.lst ((List.range n).map fun p=>V.int (o.idxOf p:Int)))∧Hc c=some (.lst ((List.range n).map fun p=>V.ref (rs p))) ∧
    (∀p,p<n→o.idxOf p<k→H (rs p)=none∧rs p≠c∧Hc (rs p)=some (.lst ((g p).map fun k:Nat=>V.int (k:Int)))∧fq n o p (g p)∧eW n Lk o p (g p))∧mU n Lk o k f) ⟨Nu,f,fun _=>[],_,rfl,EZ,K4.less (fun _ _ _=>trivial),e4,ec,fun p _ h=>absurd h (oE _),mU.start nb ns⟩ (fun k σ Hc _ ⟨_,_,_,_,_,sc,_⟩=>.of (sc _ _ tR)) ?_ ?_
  ·rintro k x σ Hc hx ⟨rs,f,g,v5,rfl,sc,Kc,Aa,xh,done,Ab⟩
   have hk:k<o.length:=by have:=(cy.mp hx).1;simpa using this
   have ex:x=.int ((o[k]:Nat):Int):=by rw [bU] at hx;simp [hk] at hx;exact hx.symm
   subst ex;have hp:o[k]<n:=(dP ho).mp (dv hk);have ip:o.idxOf o[k]=k:=jH nd hk;generalize o[k]=p at hp ip ⊢;dsimp only [cL];have E2:=Kc.at' p hp (by lia)
   refine lE (bG (ph (ze ⟨_,rfl,_,rfl,D,_,_,_,rfl,rfl,.of Kc.lst,Kc.ix hp,ds p,dk (f p),rfl,.inl ⟨E2,fun ob=>?_⟩⟩)));have Kf:cQ (upd Hc (ds p) (.bC ob (.dK (dk (f p))))) D n ds (fun q=>k+1≤o.idxOf q) f:=(Kc.less (fun i hi (ui:k+1≤o.idxOf i)=>show k≤o.idxOf i by lia)).upd (Kc.ne p hp) (fun i hi (ui:k+1≤o.idxOf i) z=>by have:=Kc.inj i p hi hp z;subst this;lia)
   have Ac:∀{b:Addr} {xs:List V},Hc b=some (.lst xs)→b≠ds p:=fun{b xs} e z=>by rw [z,E2] at e;cases e
   have xi:upd Hc (ds p) (.bC ob (.dK (dk (f p)))) tr=_:=(aM (Ac Aa)).trans Aa;have xj:upd Hc (ds p) (.bC ob (.dK (dk (f p)))) c=_:=(aM (Ac xh)).trans xh;have sf:ah H (upd Hc (ds p) (.bC ob (.dK (dk (f p))))):=fun b u e=>by
    rw [aM (fun z=>by rw [z,EY p hp] at e;cases e)]
    exact sc _ _ e
   have Ad:∀q,q<n→o.idxOf q<k→H (rs q)=none∧rs q≠c∧upd Hc (ds p) (.bC ob (.dK (dk (f p)))) (rs q)=some (.lst ((g q).map fun k:Nat=>V.int (k:Int)))∧fq n o q (g q)∧eW n Lk o q (g q):=fun q hq xk=>by obtain ⟨d1,d2,d3,d4⟩:=done q hq xk;exact ⟨d1,d2,(aM (Ac d3)).trans d3,d4⟩
   have tS:upd Hc (ds p) (.bC ob (.dK (dk (f p)))) (ds p)=some (.bC ob (.dK (dk (f p)))):=av;generalize upd Hc (ds p) (.bC ob (.dK (dk (f p))))=Hf at Kf xi xj sf Ad tS ⊢;have tT:=Kc.pl p hp;refine Dj tS (fun q=>decide ((o.idxOf p:Int)<(o.idxOf q:Int))) (iG tT.len (dM (by lia))) ?_ ?_ ?_
   ·intro q hq Hx R sx hR
    have qn:=tT.2 q hq;exact ⟨_,rfl,_,rfl,tr,_,_,_,rfl,rfl,.of (sx _ _ xi),jI qn,_,rfl,_,rfl,tr,_,_,_,rfl,rfl,.of (sx _ _ xi),jI hp,_,_,rfl,rfl,_,rfl,hR⟩
   ·intro q hq Hx R hR
    exact ⟨_,rfl,hR⟩
   ·intro D1 H1 Nw E3 xl
    rw [KD] at xl;have fl:((f p).filter fun q=>decide (o.idxOf p<o.idxOf q)).length≤n:=cG (rC _ _) tT.len;refine ⟨D1,((f p).filter fun q=>decide (o.idxOf p<o.idxOf q)).map iN,rfl,by rw [xl,dG];rfl,by rw [aJ];lia,fun ws D2 pw so oh=>?_⟩
    obtain ⟨ms,rfl,pm⟩:=za pw;have xm:=Dk tT pm so;have hm:∀q,q∈ms↔q∈f p∧k<o.idxOf q:=fun q=>by rw [pm.mem_iff,fz,dm,ip]
    have Nx:eW n Lk o p ms:=fun q=>by
     rw [hm q,ip];constructor
     ·rintro ⟨h1,h2⟩
      have qn:=tT.2 q h1;exact ⟨qn,h2,((Ab p q hp qn (by lia) (by lia)).mp h1).2⟩
     ·rintro ⟨h1,h2,h3⟩
      exact ⟨(Ab p q hp h1 (by lia) (by lia)).mpr ⟨fun e=>by subst e;lia,h3⟩,h2⟩
    have oi:ah Hf (upd H1 D2 (.lst ((ms.map iN).map V.int))):=kF E3 oh;have lV:upd H1 D2 (.lst ((ms.map iN).map V.int)) D2=some (.lst (ms.map fun k:Nat=>V.int (k:Int))):=by rw [av,dG];rfl
    have Ae:Hf D2=none:=none_of E3 oh;have Ny:H D2=none:=none_of sf Ae;generalize upd H1 D2 (.lst ((ms.map iN).map V.int))=Hg at oi lV ⊢;have E4:D2≠c:=fun z=>by rw [z,xj] at Ae;cases Ae
    refine ⟨_,rfl,_,rfl,c,_,_,p,rfl,rfl,oi _ _ xj,by rw [aJ,da];exact Dh hp,?_⟩
    rw [KA];have Kg:=Kf.mono oi;have Kh:cQ (upd Hg c (.lst ((List.range n).map fun q=>V.ref (iB rs p D2 q)))) D n ds (fun q=>k+1≤o.idxOf q) f:=Kg.upd cD (fun i hi ui z=>by have:=Kg.at' i hi ui;rw [z,oi _ _ xj] at this;cases this)
    have sh:ah H (upd Hg c (.lst ((List.range n).map fun q=>V.ref (iB rs p D2 q)))):=eB (sf.trans oi) E1;have Af:upd Hg c (.lst ((List.range n).map fun q=>V.ref (iB rs p D2 q))) c=_:=av;have E5:upd Hg c (.lst ((List.range n).map fun q=>V.ref (iB rs p D2 q))) tr=_:=(aM (Ne.symm Nv)).trans (oi _ _ xi);have Ag:upd Hg c (.lst ((List.range n).map fun q=>V.ref (iB rs p D2 q))) D2=_:=(aM E4).trans lV;have E6:∀q,q<n→o.idxOf q<k→upd Hg c (.lst ((List.range n).map fun q=>V.ref (iB rs p D2 q))) (rs q)=some (.lst ((g q).map fun k:Nat=>V.int (k:Int))):=fun q hq xk=>by obtain ⟨d1,d2,d3,d4⟩:=Ad q hq xk;exact (aM d2).trans (oi _ _ d3)
    generalize upd Hg c (.lst ((List.range n).map fun q=>V.ref (iB rs p D2 q)))=Hh at Kh sh Af E5 Ag E6 ⊢;refine ⟨_,rfl,_,rfl,_,rfl,c,_,_,_,rfl,rfl,.of Af,jI hp,?_⟩;rw [Dl];refine ⟨D,D2,n,ds,_,f,ms,rfl,Kh,Ag,fun q hq=>⟨xm.lt q hq,by have:=xm.la q hq;lia⟩,by lia,fun H5 g5 off K5 con=>?_⟩
    have bx:∀{b:Addr} {xs:List V},Hh b=some (.lst xs)→H5 b=some (.lst xs):=fun{b xs} e=>off _ _ e fun i hi ui z=>by rw [z,Kh.at' i hi ui] at e;cases e
    refine ⟨iB rs p D2,g5,b8 g p ms,_,rfl,fun b u e=>off _ _ (sh _ _ e) (fun i hi _ z=>by rw [z,EY i hi] at e;cases e),K5,bx E5,bx Af,fun q hq xk=>?_,Ab.step ho hp ip hm xm.lt con⟩
    by_cases e:q=p
    ·subst e
     rw [Dl,zc];exact ⟨Ny,E4,bx Ag,xm,Nx⟩
    ·rw [KC e,zd e]
     have ne:=kH ho hq hp e;have E7:o.idxOf q<k:=by lia
     obtain ⟨d1,d2,d3,d4⟩:=Ad q hq E7;exact ⟨d1,d2,bx (E6 q hq E7),d4⟩
  ·rintro σ Hc ⟨rs,f,g,v5,rfl,sc,Kc,Aa,xh,done,_⟩
   rw [lm] at done;have lt:∀p,p<n→o.idxOf p<n:=fun p hp=>by have:=(kG ((dP ho).mpr hp)).1;lia
   exact ⟨_,rfl,kk Hc c rs g sc E1 (fun p hp=>(done p hp (lt p hp)).1) ⟨xh,fun p hp=>(done p hp (lt p hp)).2.2.1⟩ fun p hp=>(done p hp (lt p hp)).2.2.2⟩
theorem Nz:bO ["shape","order"] ["shape","order"] (bf wA):=cC
theorem Ah(T:Txt K mg t):bE P w K mg base (gg P w) 5 t.ni t.p9 ["shape","order"] (DV t.jO):=by
 have S:=Nz;refine T.lP.gQ S (fun _ _ _ _ H _ _ _ hr h L=>?_);obtain ⟨tp,a,n,Lk,zs,rfl,hS,hL,ns,n9,ea,n_,kE,kk⟩:=h
 refine ⟨_,(aA (a7 (bI (Cv (K:=K) rfl) rfl T.z9 boot_sum (af (ig (N:=["others"]) (ρ:=(fun σ=>[])) (eA [] rfl) rfl (iQ (bt (Nr T) hr T.Ed T.qA.kp T.Ec (B_ L) (af (pv 0) (af (pv 1) ak)))) (fun _ _ _=>.nil) (fun _ _ _=>(bt (Nd T) hr T.Ef T.qB.kp T.Ee bF (af (bI (ve (K:=K)) rfl T.eZ e8 (af (pv 0) ak)) ak)))) ak)))
  (ei.my bL)),?_⟩
 refine iX (ph (ze ⟨_,rfl,_,rfl,tp,a,n,Lk,zs,rfl,hS,hL,ns,by lia,ea,n_,kE,fun o ez ho H1 D rs g s1 nD RJ la ok=>⟨D,rfl,⟨_,.of la.1⟩,?_⟩⟩))
 have jR:((List.range n).map fun p=>V.ref (rs p)).length=n:=by rw [aJ,da]
 refine vd (xs:=(List.range n).map fun p=>V.ref (rs p)) (fun R h=>h _ _ (ah.refl _) (pd (.of la.1))) (by rw [jR];exact dM (by lia)) (fun _ i y _=>y=.int (((g i).length:Int)*(g i).length+3*(g i).length+1)) (fun _ _ _ _ _ _ h _ _=>h) ?_ ?_
 ·intro D' k x hx Hc R sc _ kc
  have hk:k<n:=by have:=(cy.mp hx).1;rw [jR] at this;exact this
  have ex:x=.ref (rs k):=by rw [bU,iH hk] at hx;exact (Option.some.inj hx).symm
  subst ex;have lg:(g k).length≤60:=cG (zf ho (ok k hk).1) (by lia)
  refine ⟨_,rfl,rs k,_,rfl,.inl (.of (sc _ _ (la.2 k hk))),(g k).length,by rw [aJ];rfl,by lia,kc _ Hc (ah.refl _) rfl⟩
 ·intro D' ys Hc NA sc ja qU Ai
  rw [jR] at ja;have ey:ys=((List.range n).map fun i=>((g i).length:Int)*(g i).length+3*(g i).length+1).map V.int:=by
   refine g_ (by simp [ja]) fun i h1 h2=>?_
   rw [fY,fY,jf];exact qU i _ (dR h1)
  have es:((List.range n).map fun i=>((g i).length:Int)*(g i).length+3*(g i).length+1).sum=((((List.range n).map fun i=>(g i).length*(g i).length+3*(g i).length+1).sum:Nat):Int):=by
   generalize List.range n=l;clear ey qU ja kk
   induction l with
   | nil=>rfl
   | cons x l ih=>rw [cP,d6,cP,d6,ih];push_cast;rfl
  refine ⟨D',_,rfl,.of (by rw [Ai,ey]),?_⟩
  rw [es];exact kk o ez ho _ (s1.trans sc) g ok
theorem NB:bO ["script","k"] ["script","k"] (bf wJ):=cC
theorem NC(T:Txt K mg t):bE P w K mg base b6 1 t.nE t.qg ["script","k"] (LX K):=by
 have S:=NB;refine T.qH.cW S (fun _ _ _ _ H _ _ _ hr h=>?_);obtain ⟨a,ns,k,rfl,hS,kk⟩:=h
 refine ⟨_,(aA (bM (bN uQ (pv 1) (bI gP rfl T.eZ e8 (af (pv 0) ak))) (aF (a7 (aC dJ (pv 0) (pv 1)))) bL)
  (aF (a7 ao))),?_⟩
 refine ar fun _ hR=>⟨_,rfl,_,rfl,a,_,rfl,.inl hS,_,_,rfl,rfl,_,rfl,cX (fun hb=>?_) (fun hb=>hR _ _ (kk 0))⟩;have hb:=dc hb;rw [aJ] at hb;have hk:k<ns.length:=by lia
 exact ⟨_,rfl,_,rfl,a,_,_,_,rfl,rfl,hS,oY (by rw [bU,dR hk];rfl),kk _⟩
theorem ND:bO ["found"] ["found"] (bf wQ):=cC
theorem E8(T:Txt K mg t):bE P w K mg base b6 1 t.nN t.qm ["found"] Cq:=by
 have S:=ND;refine T.nX.cW S (fun _ _ _ _ H _ Q _ hr h=>?_);obtain ⟨v,rfl,ha,k⟩:=h;refine ⟨_,(aF (a7 (iO (bI (km (K:=K)) rfl T.jP boot_isinstance (af (pv 0) (af (kd (v:=.ty "int") rfl T.xb boot_int rfl) ak))) (hZ (Bk (bI (km (K:=K)) rfl T.jP boot_isinstance (af (pv 0) (af (kd (v:=.ty "bool") rfl T.z6 boot_bool rfl) ak)))))))),?_⟩;obtain ⟨Ty,ty,k1,k2,_⟩:=ha.u6 (K:=K);refine ⟨_,rfl,_,_,_,_,rfl,rfl,ty,k1,_,rfl,cX (fun h1=>?_) (fun h1=>?_)⟩
 ·refine ⟨_,rfl,_,_,_,_,rfl,rfl,ty,k2,_,rfl,?_⟩
  have e:(!kr v)=kq v:=by
   cases h2:kr v with
   | true=>rw [Cp h2];rfl
   | false=>rw [h2,Bool.or_false] at h1;rw [h1];rfl
  show Q (.bl (!kr v)) H;rw [e];exact k
 ·have e:kq v=false:=by
   cases h2:kq v with
   | true=>rw [h2] at h1;exact absurd rfl h1
   | false=>rfl
  rw [e] at k;exact k
theorem NF:bO ["tape","many","found"] ["tape","many"] (bf wL):=cC
theorem E9(T:Txt K mg t):bE P w K mg base b6 1 t.nH t.qi ["tape","many"] LZ:=by
 have S:=NF;refine T.iD.cW S (fun _ _ _ _ H _ _ _ hr h=>?_);obtain ⟨Tp,m,rfl,⟨x,e⟩,m1,m2,kk⟩:=h
 refine ⟨_,(aA (putL 2 S.nd (aO oU (aC dJ (pv 0) ao) (pv 1)))
  (aA (@uK _ _ _ _ _ _ (aO xZ (aC dJ (pv 0) ao) (pv 1)) (xU (pv 0) ao set_list) (by rfl) (by rfl) (by rfl))
  (aF (a7 (pv 2))))),?_⟩
 have p0:(0:Int)<(m:Int):=by lia
 refine ar fun _ hR=>bG ⟨_,rfl,Tp,_,_,_,rfl,rfl,.of e,rfl,_,rfl,_,_,rfl,rfl,p0,hR _ _ ?_⟩;refine ar fun _ hR=>⟨_,rfl,Tp,_,_,_,rfl,rfl,.of e,rfl,_,rfl,_,_,rfl,rfl,⟨p0,by lia⟩,_,rfl,Tp,_,0,0,rfl,rfl,e,rfl,hR _ _ ?_⟩
 have d0:=Int.emod_nonneg x (show (m:Int)≠0 by lia)
 have d1:=Int.emod_lt_of_pos x p0;obtain ⟨d,ed⟩:=iK d0;refine ⟨_,rfl,?_⟩;dsimp only;rw [ed];exact kk d _ (by lia) bJ.upd ⟨_,av⟩
theorem NG:bO ["script","k","cell","p","number","last","turn"] ["script","k"] (bf wK):=cC
theorem NH(T:Txt K mg t):bE P w K mg base b6 2 t.nG t.qh ["script","k"] (LY K):=by
 have S:=NG;refine T.qI.cW S (fun _ _ _ _ H _ _ _ hr h=>?_);obtain ⟨a,ns,k,rfl,hS,k1,kk⟩:=h
 refine ⟨_,(aA (putL 2 S.nd (bt (NC T) hr T.Es T.qH.kp T.Er bF (af (pv 0) (af (pv 1) ak))))
  (aA (bM (bN b5 (aO oU (pv 2) ao) ao) (aF (a7 (fe (af (aO xZ (pv 2) ao) ak)))) bL)
  (aA (putL 3 S.nd ao)
  (aA (putL 4 S.nd ao)
  (aA (putL 5 S.nd (aO oU (aO dg (aO dg (aO et (aO oU (pv 2) (pv 3)) ao) (aO et ao (pv 1))) ao) (pv 3)))
  (aA (en eh rfl (fb rfl T.dD (af ao ak)) (cM (i:=6) S.nd rfl (Or.inl rfl))
   (aA (putL 4 S.nd (aO dg (aO et (pv 4) (pv 3)) (pv 5)))
  (aF (putL 5 S.nd (aO oU (aO dg (aO dg (aO et (pv 5) (pv 5)) (aO et ao (pv 1))) (pv 6)) (pv 3))))))
  (aF (a7 (fe (af (pv 4) ak)))))))))),?_⟩
 have p2:(0:Int)<2:=by decide
 have pp:(0:Int)<2305843009213693951:=by decide
 refine ar fun _ hR=>bG ⟨_,rfl,_,rfl,a,ns,k,rfl,hS,fun z=>hR _ _ ?_⟩;refine ar fun _ hR=>⟨_,rfl,_,_,rfl,rfl,p2,rfl,_,rfl,cX (fun hb=>?_) (fun hb=>hR _ _ ?_)⟩
 ·refine ⟨_,rfl,_,_,rfl,rfl,⟨p2,by decide⟩,by show 1≤sizeLine;decide,fun Tp tU=>?_⟩
  exact kk Tp _ (aP tU) tU ⟨_,av⟩
 ·refine ar fun _ hR=>bG (hR _ _ ?_)
  refine ar fun _ hR=>bG (hR _ _ ?_);refine ar fun _ hR=>bG ⟨_,rfl,_,rfl,_,_,rfl,rfl,pp,_,_,rfl,rfl,.inr ⟨by decide,by decide⟩,_,rfl,_,_,rfl,rfl,.inl ⟨by decide,by decide⟩,_,_,rfl,rfl,_,_,rfl,rfl,_,rfl,_,_,rfl,rfl,pp,hR _ _ ?_⟩
  have l0:=Int.emod_nonneg (z % 2305843009213693951*48271+69621*(k:Int)+11) (show (2305843009213693951:Int)≠0 by decide)
  have l1:=Int.emod_lt_of_pos (z % 2305843009213693951*48271+69621*(k:Int)+11) pp;dsimp only;generalize (z % 2305843009213693951*48271+69621*(k:Int)+11) % 2305843009213693951=la at l0 l1 ⊢;refine ar fun _ hR=>⟨7,rfl,by decide,by decide,?_⟩
  refine ju (fun i σ Hc=>Hc=H∧∃(nu la:Int) (v6:Option V),σ=[some (.ref a),some (.int (k:Int)),some (.int z),some (.int 2305843009213693951),some (.int nu),some (.int la),v6]∧0≤la∧la<2305843009213693951) ⟨rfl,_,_,_,rfl,l0,l1⟩ ?_ ?_
  ·rintro i σ Hc hi ⟨rfl,nu,la,v6,rfl,l0,l1⟩
   dsimp only [cL];refine ar fun _ hR=>bG ⟨_,rfl,_,rfl,_,_,rfl,rfl,.inr ⟨by decide,by decide⟩,_,rfl,_,_,rfl,rfl,hR _ _ ?_⟩
   refine ⟨_,rfl,_,rfl,_,_,rfl,rfl,.inl ⟨by lia,by lia⟩,_,rfl,_,_,rfl,rfl,.inl ⟨by decide,by decide⟩,_,_,rfl,rfl,_,rfl,_,_,rfl,rfl,_,rfl,_,_,rfl,rfl,pp,?_⟩
   refine ⟨rfl,_,_,_,rfl,?_,?_⟩;·exact Int.emod_nonneg _ (by decide)
   ·exact Int.emod_lt_of_pos _ pp
  ·rintro σ Hc ⟨rfl,nu,la,v6,rfl,_,_⟩
   refine hR _ _ ?_;refine ⟨_,rfl,by show 1≤sizeLine;decide,fun Tp tU=>?_⟩
   exact kk Tp _ (aP tU) tU ⟨_,av⟩
theorem NI:bO ["tape","way","size","wide"] ["tape"] (bf wR):=cC
theorem NJ(T:Txt K mg t):bE P w K mg base b6 2 t.nO t.qo ["tape"] MJ:=by
 have S:=NI;have qW:=E9 (P:=P) (w:=w) (base:=base) T;refine T.qM.cW S (fun _ _ _ _ H _ _ _ hr h=>?_);obtain ⟨Tp,rfl,tc,kk⟩:=h
 refine ⟨_,(aA (putL 1 S.nd (bt qW hr T.lU T.iD.kp T.lS bF (af (pv 0) (af ao ak))))
  (aA (putL 2 S.nd (aO dg ao (bt qW hr T.lU T.iD.kp T.lS bF (af (pv 0) (af (aC dJ (fe (af ao (af ao (af ao ak)))) (bt qW hr T.lU T.iD.kp T.lS bF (af (pv 0) (af ao ak)))) ak)))))
  (aA (bM (bN uQ (pv 1) ao) (aA (putL 3 S.nd (aC dJ (fe (af (pv 2) (af (bI (BD rfl) rfl T.z8 boot_min (af (pv 2) (af ao ak))) ak))) (bI (uS rfl) rfl T.tP boot_max (af (jz GH rfl T.xb boot_int (af (fc x4 (pv 2) ao) ak)) (af (bt qW hr T.lU T.iD.kp T.lS bF (af (pv 0) (af ao ak))) ak)))))
  (aF (a7 (fG (af (aC dJ (fe (af cT (af cT ak))) (pv 1)) (af (pv 2) (af (bt qW hr T.lU T.iD.kp T.lS bF (af (pv 0) (af (pv 3) ak))) ak))))))) bL)
  (aA (bM (bN b5 (pv 1) ao) (aF (a7 (fG (af cT (af (bI (uS rfl) rfl T.tP boot_max (af ao (af (pv 2) ak))) ak))))) bL)
  (aA (bM (bN b5 (pv 1) ao) (aF (a7 (fG (af cT (af (bI (uS rfl) rfl T.tP boot_max (af ao (af (aO xZ (pv 2) ao) ak))) ak))))) bL)
  (aF (a7 (fG (af cT (af (jz yc rfl T.n4 boot_tuple (af (ig (N:=["k","tape"]) (ρ:=(fun σ=>[σ[0]?.join])) (eA [0] rfl) rfl (fb rfl T.dD (af (aO gN (pv 2) ao) ak)) (fun _ _ _=>.nil) (fun _ _ _=>(bt qW hr T.lU T.iD.kp T.lS bF (af (pv 1) (af (aO dg (pv 0) ao) ak))))) ak)) ak)))))))))),?_⟩
 refine ar fun _ hR=>bG ⟨_,rfl,Tp,5,rfl,tc,by decide,by decide,fun way H1 w5 o1 t1=>hR _ _ ?_⟩
 refine ar fun _ hR=>bG ⟨_,rfl,by show 3≤sizeLine;decide,fun l nl=>?_⟩
 have s2:ah H1 (upd H1 l (.lst [.int 9,.int 20,.int 60])):=aP nl;have el:upd H1 l (.lst [.int 9,.int 20,.int 60]) l=some (.lst [.int 9,.int 20,.int 60]):=av;have lT:l≠Tp:=t1.ne nl;generalize upd H1 l (.lst [.int 9,.int 20,.int 60])=H2 at s2 el ⊢;refine ⟨_,rfl,Tp,3,rfl,t1.mono s2,by decide,by decide,fun d H3 d3 o3 t3=>?_⟩
 have hm:∃m:Nat,1≤m∧m≤60∧ic [V.int 9,.int 20,.int 60] (d:Int)=some (.int (m:Int)):=by
  rcases (show d=0∨d=1∨d=2 by lia) with rfl | rfl | rfl
  ·exact ⟨9,by decide,by decide,rfl⟩
  ·exact ⟨20,by decide,by decide,rfl⟩
  ·exact ⟨60,by decide,by decide,rfl⟩
 obtain ⟨m,m1,RK,em⟩:=hm;refine ⟨l,_,_,_,rfl,rfl,.of (o3 _ _ lT el),em,Tp,m,rfl,t3,m1,by lia,fun e H4 RL o4 t4=>⟨_,_,rfl,rfl,hR _ _ ?_⟩⟩
 have xo:bJ Tp H H4:=o1.trans ((bJ.of s2).trans (o3.trans o4));have tV:(1:Int)+(e:Int)=((e+1:Nat):Int):=by lia
 dsimp only;rw [tV];have z1:1≤e+1:=by lia
 have Aj:e+1≤60:=by lia
 generalize e+1=n at z1 Aj ⊢;clear hR;refine ar fun _ hR=>⟨_,rfl,_,_,rfl,rfl,_,rfl,cX (fun hb=>?_) (fun hb=>hR _ _ ?_)⟩
 ·have hb:=dc hb
  have w2:way<2:=by lia
  refine ar fun _ hR=>bG ⟨_,rfl,_,rfl,_,_,rfl,by show 2≤sizeLine;decide,fun l2 qX=>?_⟩
  have s5:ah H4 (upd H4 l2 (.lst [.int (n:Int),.int (if (4:Int)<(n:Int) then 4 else (n:Int))])):=aP qX
  have jS:upd H4 l2 (.lst [.int (n:Int),.int (if (4:Int)<(n:Int) then 4 else (n:Int))]) l2=some (.lst [.int (n:Int),.int (if (4:Int)<(n:Int) then 4 else (n:Int))]):=av
  have NK:l2≠Tp:=t4.ne qX;generalize upd H4 l2 (.lst [.int (n:Int),.int (if (4:Int)<(n:Int) then 4 else (n:Int))])=H5 at s5 jS ⊢
  refine ⟨_,rfl,_,_,rfl,rfl,.inr ⟨_,rfl,_,rfl,Tp,2,rfl,t4.mono s5,by decide,by decide,fun d2 H6 RM o6 t6=>⟨_,_,rfl,?_⟩⟩⟩
  have key:∃wd:Nat,1≤wd∧wd≤n∧(n≤20∨wd≤4)∧ic [V.int (n:Int),.int (if (4:Int)<(n:Int) then 4 else (n:Int))] (if (d2:Int)>(if decide ((20:Int)<(n:Int))=true then 1 else 0) then (d2:Int) else (if decide ((20:Int)<(n:Int))=true then 1 else 0))=some (.int (wd:Int)):=by
   by_cases vM:(20:Int)<(n:Int)
   ·refine ⟨4,by decide,by lia,.inr (by decide),?_⟩
    rw [aK vM,ae rfl,aa (show ¬(d2:Int)>1 by lia),ae (show (4:Int)<(n:Int) by lia)]
    rfl
   ·rw [bj vM,aa b_]
    rcases (show d2=0∨d2=1 by lia) with rfl | rfl
    ·exact ⟨n,by lia,aw _,.inl (by lia),rfl⟩
    ·by_cases h4:(4:Int)<(n:Int)
     ·refine ⟨4,by decide,by lia,.inr (by decide),?_⟩
      rw [ae h4];rfl
     ·refine ⟨n,by lia,aw _,.inl (by lia),?_⟩
      rw [aa h4];rfl
  obtain ⟨wd,E_,RN,Fb,ew⟩:=key;refine ⟨l2,_,_,_,rfl,rfl,.of (o6 _ _ NK jS),ew,hR _ _ ?_⟩;have Fc:bJ Tp H H6:=xo.trans ((bJ.of s5).trans o6);refine ⟨by show 2≤sizeLine;decide,fun l3 NL=>?_⟩
  have s7:ah H6 (upd H6 l3 (.lst [.str (Str.ofString "band"),.str (Str.ofString "brim")])):=aP NL;have Ak:upd H6 l3 (.lst [.str (Str.ofString "band"),.str (Str.ofString "brim")]) l3=some (.lst [sV "band",sV "brim"]):=av;have t7:=t6.mono s7;generalize upd H6 l3 (.lst [.str (Str.ofString "band"),.str (Str.ofString "brim")])=H7 at s7 Ak t7 ⊢;rcases (show way=0∨way=1 by lia) with rfl | rfl
  ·refine ⟨_,rfl,l3,_,_,sV "band",rfl,rfl,.of Ak,rfl,_,rfl,_,rfl,_,rfl,Tp,wd,rfl,t7,E_,by lia,fun ww H8 wl o8 t8=>⟨by show 3≤sizeLine;decide,fun td fV=>?_⟩⟩
   exact kk td (.band n ww) _ (Fc.trans ((bJ.of s7).trans (o8.trans (bJ.of (aP fV))))) (t8.mono (aP fV)) av ⟨z1,Aj,by lia⟩ (by rcases Fb with h | h;exact .inl h;exact .inr (by lia))
  ·refine ⟨_,rfl,l3,_,_,sV "brim",rfl,rfl,.of Ak,rfl,_,rfl,_,rfl,_,rfl,Tp,wd,rfl,t7,E_,by lia,fun ww H8 wl o8 t8=>⟨by show 3≤sizeLine;decide,fun td fV=>?_⟩⟩
   exact kk td (.cu n ww) _ (Fc.trans ((bJ.of s7).trans (o8.trans (bJ.of (aP fV))))) (t8.mono (aP fV)) av ⟨z1,Aj,by lia⟩ (by rcases Fb with h | h;exact .inl h;exact .inr (by lia))
 ·have hb:¬((way:Int)<2):=fun z=>hb (aK z)
  refine ar fun _ hR=>⟨_,rfl,rfl,_,rfl,cX (fun eX=>?_) (fun eX=>hR _ _ ?_)⟩
  ·refine ⟨_,rfl,_,_,rfl,by show 2≤sizeLine;decide,fun td fV=>?_⟩
   have em:(if (3:Int)<(n:Int) then (n:Int) else 3)=((max 3 n:Nat):Int):=by split <;> lia
   rw [em];refine kk td (.ring (max 3 n)) _ (xo.trans (bJ.of (aP fV))) (t4.mono (aP fV)) av ⟨by lia,by lia⟩ trivial
  ·refine ar fun _ hR=>⟨_,rfl,rfl,_,rfl,cX (fun NM=>?_) (fun NM=>hR _ _ ?_)⟩
   ·refine ⟨_,rfl,_,_,rfl,rfl,⟨by decide,by decide⟩,_,_,rfl,by show 2≤sizeLine;decide,fun td fV=>?_⟩
    have em:(if (1:Int)<(n:Int) / 2 then (n:Int) / 2 else 1)=((max 1 (n / 2):Nat):Int):=by split <;> lia
    dsimp only;rw [em];refine kk td (.cV (max 1 (n / 2))) _ (xo.trans (bJ.of (aP fV))) (t4.mono (aP fV)) av ⟨by lia,by lia⟩ trivial
   ·refine iX (L3 (L0 (n:=n-1) (dM (by lia)) t4 (fun R h=>⟨_,rfl,_,_,rfl,rfl,_,rfl,by lia,by lia,?_⟩) (fun i y=>∃k:Nat,y=.int (k:Int)∧k≤i) (fun i hi Hc R oc oj kR=>?_) fun D ys Hc DT oc oj ly hP eD=>?_))
    ·rw [show ((n:Int)-1).toNat=n-1 by lia]
     exact h
    ·refine ⟨_,rfl,_,rfl,_,_,rfl,rfl,Tp,i+1,by rw [e9];rfl,oj,by lia,by lia,fun d Hd dl od NN=>kR _ _ od NN ⟨d,rfl,by lia⟩⟩
    ·have ex:∃as:List Nat,ys=as.map (fun k:Nat=>V.int (k:Int))∧as.length=n-1∧∀i,i<as.length→as.getD i 0≤i:=by
      refine ⟨(List.range ys.length).map fun i=>match ys.getD i .aQ with | .int z=>z.toNat | _=>0,g_ (by simp) fun i h1 h2=>?_,by simp [ly],fun i hi=>?_⟩
      ·obtain ⟨k,e,_⟩:=hP i ys[i] (dR h1)
       simp [h1,e]
      ·have h1:i<ys.length:=by simpa using hi
       obtain ⟨k,e,hk⟩:=hP i ys[i] (dR h1);simp [h1,e];exact hk
     obtain ⟨as,rfl,la,hle⟩:=ex;refine ⟨D,_,rfl,.inl ⟨.of eD,fun ta Fd=>⟨by show 2≤sizeLine;decide,fun td fV=>?_⟩⟩⟩
     refine kk td (.tree as) _ (xo.trans (oc.trans (bJ.of ((aP Fd).trans (aP fV))))) (oj.mono ((aP Fd).trans (aP fV))) ⟨ta,av,(aP fV) _ _ av⟩ ⟨by lia,hle⟩ trivial
theorem NO:bO ["told","links","size","j","i"] ["told"] (bf wU):=cC
theorem NP(T:Txt K mg t):bE P w K mg base b6 1 t.nQ t.qp ["told"] DD:=by
 have S:=NO;refine T.qN.cW S (fun _ _ _ _ H _ Q _ hr h=>?_);obtain ⟨td,N,rfl,tn,ok,kk⟩:=h
 refine ⟨_,(aA (putL 1 S.nd (fe ak))
  (aA (putL 2 S.nd ao)
  (aA (bM (oV yb (aC aS (pv 0) ao) (fG (af cT (af cT ak))) rfl) (aA (putL 2 S.nd (aC aS (pv 0) ao))
  (aF (en eh rfl (fb rfl T.dD (af (pv 2) ak)) (cM (i:=3) S.nd rfl (Or.inl rfl))
   (aF (en eh rfl (fb rfl T.dD (af (pv 3) ak)) (cM (i:=4) S.nd rfl (Or.inl rfl))
   (aF (bM (PW.pt (pw_or (bN mG (aO gN (pv 3) (pv 4)) (aC aS (pv 0) ao)) (pw_or1 (PW.pt (pw_and (bN b5 (aC aS (pv 0) ao) cT) (pw_and1 (bN b5 (pv 3) (aO gN (pv 2) ao)))))))) (aF (iP (lh ji oK oM ki (pv 1) (af (fG (af (pv 4) (af (pv 3) ak))) ak)))) bL))))))) bL)
  (aA (bM (bN b5 (aC aS (pv 0) ao) cT) (aA (putL 2 S.nd (aC aS (pv 0) ao))
  (aF (putL 1 S.nd (aO B4 (fe (af (fG (af ao (af (aO gN (pv 2) ao) ak))) ak)) (ig (N:=["k"]) (ρ:=(fun σ=>[])) (eA [] rfl) rfl (fb rfl T.dD (af (aO gN (pv 2) ao) ak)) (fun _ _ _=>.nil) (fun _ _ _=>(fG (af (pv 0) (af (aO dg (pv 0) ao) ak))))))))) bL)
  (aA (bM (bN b5 (aC aS (pv 0) ao) cT) (aA (putL 2 S.nd (aO et ao (aC aS (pv 0) ao)))
  (aF (putL 1 S.nd (aO B4 (ig (N:=["k"]) (ρ:=(fun σ=>[])) (eA [] rfl) rfl (fb rfl T.dD (af (aC aS (pv 0) ao) ak)) (fun _ _ _=>.nil) (fun _ _ _=>(fG (af (aO et ao (pv 0)) (af (aO dg (aO et ao (pv 0)) ao) ak))))) (ig (N:=["k"]) (ρ:=(fun σ=>[])) (eA [] rfl) rfl (fb rfl T.dD (af (aO gN (pv 2) ao) ak)) (fun _ _ _=>.nil) (fun _ _ _=>(fG (af (pv 0) (af (aO dg (pv 0) ao) ak))))))))) bL)
  (aA (bM (bN b5 (aC aS (pv 0) ao) cT) (aA (putL 2 S.nd (aO dg (bI gP rfl T.eZ e8 (af (aC aS (pv 0) ao) ak)) ao))
  (aF (pf (i0:=1) (N:=["k","told"]) (ρ:=(fun σ=>[σ[0]?.join])) (eA [0] rfl) rfl S.nd rfl (Or.inl rfl) (fb rfl T.dD (af (aO gN (pv 2) ao) ak)) (fun _ _ _=>.nil) (fun _ _ _=>(fG (af (aC (Cz (K:=K)) (aC (Cz (K:=K)) (pv 1) ao) (pv 0)) (af (aO dg (pv 0) ao) ak))))))) bL)
  (aF (a7 (fG (af (pv 2) (af (jz yc rfl T.n4 boot_tuple (af (bI JQ rfl T.qS rG (af (pv 1) ak)) ak)) ak))))))))))),?_⟩
 obtain ⟨n1,di⟩:=jM ok;refine ar fun _ hR=>bG ⟨cg _,fun l0 lW=>hR _ _ ?_⟩;have s1:ah H (upd H l0 (.lst [])):=aP lW;have Al:upd H l0 (.lst []) l0=some (.lst []):=av;have gC:=tn.mono s1;generalize upd H l0 (.lst [])=H1 at s1 Al gC ⊢;refine ar fun _ hR=>bG (hR _ _ ?_);cases N with
 | band n w=>
  have e:H1 td=some (.tup [sV "band",.int (n:Int),.int (w:Int)]):=gC;refine ar fun _ hR=>⟨_,rfl,td,_,_,_,rfl,rfl,.of e,rfl,by show 2≤sizeLine;decide,fun q nq=>?_⟩
  have s2:ah H1 (upd H1 q (.tup [.str (Str.ofString "band"),.str (Str.ofString "brim")])):=aP nq;have gD:upd H1 q (.tup [.str (Str.ofString "band"),.str (Str.ofString "brim")]) q=some (.tup [.str (Str.ofString "band"),.str (Str.ofString "brim")]):=av;have fv:=gC.mono s2;generalize upd H1 q (.tup [.str (Str.ofString "band"),.str (Str.ofString "brim")])=H2 at s2 gD fv ⊢;have e2:=s2 _ _ e;refine ⟨q,_,rfl,.inr (.of gD),rfl,rfl,true,by decide +kernel,cN ?_⟩
  refine ar fun _ g7=>bG ⟨_,rfl,td,_,_,_,rfl,rfl,.of e2,rfl,g7 _ _ ?_⟩;have hz:(aD.band n w).sz=n:=rfl;have n1:1≤n:=n1;have di:n≤60:=di;refine ⟨_,rfl,(n:Int),rfl,by lia,by lia,?_⟩
  rw [cO];have e0:H td=some (.tup [sV "band",.int (n:Int),.int (w:Int)]):=tn;refine ju (fun j σ Hc=>∃(us:List V) (v3 v4:Option V),σ=[some (.ref td),some (.ref l0),some (.int (n:Int)),v3,v4]∧ah H Hc∧Hc l0=some (.lst us)∧bA Hc us (dh (aD.band n w).lk j)) ⟨[],_,_,rfl,s1.trans s2,s2 _ _ Al,bA.nil _⟩ ?_ ?_
  ·rintro j σ Hc hj ⟨us,v3,v4,rfl,sc,el,hL⟩
   dsimp only [cL];refine ⟨_,rfl,0+(j:Int),rfl,by lia,by lia,?_⟩
   rw [show (0+(j:Int)).toNat=j by lia]
   refine ju (fun i σ Hd=>∃(us:List V) (v4:Option V),σ=[some (.ref td),some (.ref l0),some (.int (n:Int)),some (.int (0+(j:Int))),v4]∧ah H Hd∧Hd l0=some (.lst us)∧bA Hd us (dh (aD.band n w).lk j++dC (aD.band n w).lk j i)) ⟨us,_,rfl,sc,el,by show bA _ _ (_++[]);rw [ma];exact hL⟩ ?_ ?_
   ·clear hL el sc
    rintro i σ Hd hi ⟨us,v4,rfl,sd,el,hL⟩;have ed:=sd _ _ e0;dsimp only [cL];have len:=DG ok (show j<(aD.band n w).sz from hj) (l7 hi);have Fe:=hL.1;have app:∀(R:St→Hp→Prop),(aD.band n w).lk i j=true→(∀σ' H',(∃(us:List V) (v4:Option V),σ'=[some (.ref td),some (.ref l0),some (.int (n:Int)),some (.int (0+(j:Int))),v4]∧ah H H'∧H' l0=some (.lst us)∧bA H' us (dh (aD.band n w).lk j++dC (aD.band n w).lk j (i+1)))→R σ' H')→∀tq,Hd tq=none→R [some (.ref td),some (.ref l0),some (.int (n:Int)),some (.int (0+(j:Int))),some (.int (0+(i:Int)))] (upd (upd Hd tq (.tup [.int (0+(i:Int)),.int (0+(j:Int))])) l0 (.lst (us++[.ref tq]))):=fun R hl kR tq iE=>by
     have st:ah Hd (upd Hd tq (.tup [.int (0+(i:Int)),.int (0+(j:Int))])):=aP iE;have tW:upd Hd tq (.tup [.int (0+(i:Int)),.int (0+(j:Int))]) tq=some (.tup [.int (i:Int),.int (j:Int)]):=by rw [av,e9,e9]
     generalize upd Hd tq (.tup [.int (0+(i:Int)),.int (0+(j:Int))])=He at st tW ⊢;refine kR _ _ ⟨us++[.ref tq],_,rfl,eB (sd.trans st) lW,av,?_⟩;have ec:dh (aD.band n w).lk j++dC (aD.band n w).lk j (i+1)=(dh (aD.band n w).lk j++dC (aD.band n w).lk j i)++[((i:Int),(j:Int))]:=by show _++(_++_)=_;rw [ae hl,fX]
     rw [ec];exact ((hL.mono st).cat (show bA He [.ref tq] [((i:Int),(j:Int))] from ⟨rfl,fun k v p h1 h2=>by
      match k,h1,h2 with
      | 0,h1,h2=>cases h1;cases h2;exact ⟨tq,rfl,tW⟩
      | k+1,h1,h2=>simp at h1⟩)).bx (st _ _ el) fun b o nb e=>by rw [aM nb];exact e
    have skip:(aD.band n w).lk i j=false→∃(fW:List V) (v4:Option V),[some (V.ref td),some (.ref l0),some (.int (n:Int)),some (.int (0+(j:Int))),some (.int (0+(i:Int)))]=[some (.ref td),some (.ref l0),some (.int (n:Int)),some (.int (0+(j:Int))),v4]∧ah H Hd∧Hd l0=some (.lst fW)∧bA Hd fW (dh (aD.band n w).lk j++dC (aD.band n w).lk j (i+1)):=fun hl=>⟨us,_,rfl,sd,el,by show bA _ _ (_++(_++_));rw [hl,aa b_,ma];exact hL⟩
    refine ⟨_,rfl,_,rfl,_,_,rfl,rfl,_,rfl,td,_,_,_,rfl,rfl,.of ed,rfl,_,_,rfl,rfl,_,rfl,cX (fun hb=>?_) (fun hb=>?_)⟩
    ·have hb:=dc hb
     refine ⟨_,rfl,.inl ⟨rfl,_,.of el⟩,_,rfl,_,rfl,by show 2≤sizeLine;decide,fun tq iE=>⟨l0,us,_,rfl,rfl,(aP iE) _ _ el,iG (show us.length≤2000 by lia) (by decide),?_⟩⟩
     exact app _ (aK (by lia)) (fun _ _ h=>h) tq iE
    ·have hb:¬(0+(j:Int)-(0+(i:Int))≤(w:Int)):=fun z=>hb (aK z)
     exact ⟨_,rfl,td,_,_,_,rfl,rfl,.of ed,rfl,rfl,false,by decide +kernel,aG (skip (bj (by lia)))⟩
   ·rintro σ Hd ⟨us,v4,rfl,sd,el,hL⟩
    exact ⟨us,_,_,rfl,sd,el,hL⟩
  ·rintro σ Hc ⟨us,v3,v4,rfl,sc,el,hL⟩
   refine hR _ _ ?_;have e5:=sc _ _ e0;refine ar fun _ hR=>⟨_,rfl,td,_,_,_,rfl,rfl,.of e5,rfl,rfl,false,by decide +kernel,aG (hR _ _ ?_)⟩
   refine ar fun _ hR=>⟨_,rfl,td,_,_,_,rfl,rfl,.of e5,rfl,rfl,false,by decide +kernel,aG (hR _ _ ?_)⟩
   refine ar fun _ hR=>⟨_,rfl,td,_,_,_,rfl,rfl,.of e5,rfl,rfl,false,by decide +kernel,aG (hR _ _ ?_)⟩
   refine ⟨_,rfl,_,rfl,tF (K:=K) (Q:=fun y H2=>[V.int (n:Int),y].length≤sizeLine∧∀q,H2 q=none→Q (.ref q) (upd H2 q (.tup [.int (n:Int),y]))) ok el hL (vV _) (fun z=>zJ (N:=.band n w)) fun lt zs Hd sd elt hz=>⟨by show 2≤sizeLine;decide,fun tp g6=>?_⟩⟩
   have st:ah Hd (upd Hd tp (.tup [.int (n:Int),.ref lt])):=aP g6;exact kk tp _ (sc.trans (sd.trans st)) ⟨lt,zs,av,st _ _ elt,hz.mono st⟩
 | cu n w=>
  have e:H1 td=some (.tup [sV "brim",.int (n:Int),.int (w:Int)]):=gC;refine ar fun _ hR=>⟨_,rfl,td,_,_,_,rfl,rfl,.of e,rfl,by show 2≤sizeLine;decide,fun q nq=>?_⟩
  have s2:ah H1 (upd H1 q (.tup [.str (Str.ofString "band"),.str (Str.ofString "brim")])):=aP nq;have gD:upd H1 q (.tup [.str (Str.ofString "band"),.str (Str.ofString "brim")]) q=some (.tup [.str (Str.ofString "band"),.str (Str.ofString "brim")]):=av;have fv:=gC.mono s2;generalize upd H1 q (.tup [.str (Str.ofString "band"),.str (Str.ofString "brim")])=H2 at s2 gD fv ⊢;have e2:=s2 _ _ e;refine ⟨q,_,rfl,.inr (.of gD),rfl,rfl,true,by decide +kernel,cN ?_⟩
  refine ar fun _ g7=>bG ⟨_,rfl,td,_,_,_,rfl,rfl,.of e2,rfl,g7 _ _ ?_⟩;have hz:(aD.cu n w).sz=n:=rfl;have n1:1≤n:=n1;have di:n≤60:=di;refine ⟨_,rfl,(n:Int),rfl,by lia,by lia,?_⟩
  rw [cO];have e0:H td=some (.tup [sV "brim",.int (n:Int),.int (w:Int)]):=tn;refine ju (fun j σ Hc=>∃(us:List V) (v3 v4:Option V),σ=[some (.ref td),some (.ref l0),some (.int (n:Int)),v3,v4]∧ah H Hc∧Hc l0=some (.lst us)∧bA Hc us (dh (aD.cu n w).lk j)) ⟨[],_,_,rfl,s1.trans s2,s2 _ _ Al,bA.nil _⟩ ?_ ?_
  ·rintro j σ Hc hj ⟨us,v3,v4,rfl,sc,el,hL⟩
   dsimp only [cL];refine ⟨_,rfl,0+(j:Int),rfl,by lia,by lia,?_⟩
   rw [show (0+(j:Int)).toNat=j by lia]
   refine ju (fun i σ Hd=>∃(us:List V) (v4:Option V),σ=[some (.ref td),some (.ref l0),some (.int (n:Int)),some (.int (0+(j:Int))),v4]∧ah H Hd∧Hd l0=some (.lst us)∧bA Hd us (dh (aD.cu n w).lk j++dC (aD.cu n w).lk j i)) ⟨us,_,rfl,sc,el,by show bA _ _ (_++[]);rw [ma];exact hL⟩ ?_ ?_
   ·clear hL el sc
    rintro i σ Hd hi ⟨us,v4,rfl,sd,el,hL⟩;have ed:=sd _ _ e0;dsimp only [cL];have len:=DG ok (show j<(aD.cu n w).sz from hj) (l7 hi);have Fe:=hL.1;have app:∀(R:St→Hp→Prop),(aD.cu n w).lk i j=true→(∀σ' H',(∃(us:List V) (v4:Option V),σ'=[some (.ref td),some (.ref l0),some (.int (n:Int)),some (.int (0+(j:Int))),v4]∧ah H H'∧H' l0=some (.lst us)∧bA H' us (dh (aD.cu n w).lk j++dC (aD.cu n w).lk j (i+1)))→R σ' H')→∀tq,Hd tq=none→R [some (.ref td),some (.ref l0),some (.int (n:Int)),some (.int (0+(j:Int))),some (.int (0+(i:Int)))] (upd (upd Hd tq (.tup [.int (0+(i:Int)),.int (0+(j:Int))])) l0 (.lst (us++[.ref tq]))):=fun R hl kR tq iE=>by
     have st:ah Hd (upd Hd tq (.tup [.int (0+(i:Int)),.int (0+(j:Int))])):=aP iE;have tW:upd Hd tq (.tup [.int (0+(i:Int)),.int (0+(j:Int))]) tq=some (.tup [.int (i:Int),.int (j:Int)]):=by rw [av,e9,e9]
     generalize upd Hd tq (.tup [.int (0+(i:Int)),.int (0+(j:Int))])=He at st tW ⊢;refine kR _ _ ⟨us++[.ref tq],_,rfl,eB (sd.trans st) lW,av,?_⟩;have ec:dh (aD.cu n w).lk j++dC (aD.cu n w).lk j (i+1)=(dh (aD.cu n w).lk j++dC (aD.cu n w).lk j i)++[((i:Int),(j:Int))]:=by show _++(_++_)=_;rw [ae hl,fX]
     rw [ec];exact ((hL.mono st).cat (show bA He [.ref tq] [((i:Int),(j:Int))] from ⟨rfl,fun k v p h1 h2=>by
      match k,h1,h2 with
      | 0,h1,h2=>cases h1;cases h2;exact ⟨tq,rfl,tW⟩
      | k+1,h1,h2=>simp at h1⟩)).bx (st _ _ el) fun b o nb e=>by rw [aM nb];exact e
    have skip:(aD.cu n w).lk i j=false→∃(fW:List V) (v4:Option V),[some (V.ref td),some (.ref l0),some (.int (n:Int)),some (.int (0+(j:Int))),some (.int (0+(i:Int)))]=[some (.ref td),some (.ref l0),some (.int (n:Int)),some (.int (0+(j:Int))),v4]∧ah H Hd∧Hd l0=some (.lst fW)∧bA Hd fW (dh (aD.cu n w).lk j++dC (aD.cu n w).lk j (i+1)):=fun hl=>⟨us,_,rfl,sd,el,by show bA _ _ (_++(_++_));rw [hl,aa b_,ma];exact hL⟩
    refine ⟨_,rfl,_,rfl,_,_,rfl,rfl,_,rfl,td,_,_,_,rfl,rfl,.of ed,rfl,_,_,rfl,rfl,_,rfl,cX (fun hb=>?_) (fun hb=>?_)⟩
    ·have hb:=dc hb
     refine ⟨_,rfl,.inl ⟨rfl,_,.of el⟩,_,rfl,_,rfl,by show 2≤sizeLine;decide,fun tq iE=>⟨l0,us,_,rfl,rfl,(aP iE) _ _ el,iG (show us.length≤2000 by lia) (by decide),?_⟩⟩
     exact app _ (by show (decide (j≤i+w) || _)=true;rw [aK (show j≤i+w by lia)];rfl) (fun _ _ h=>h) tq iE
    ·have hb:¬(0+(j:Int)-(0+(i:Int))≤(w:Int)):=fun z=>hb (aK z)
     have hl:(aD.cu n w).lk i j=decide (j+1=n):=by show (decide (j≤i+w) || decide (j+1=n))=_;rw [bj (show ¬j≤i+w by lia),me]
     refine ⟨_,rfl,td,_,_,_,rfl,rfl,.of ed,rfl,rfl,true,by decide +kernel,cN ?_⟩
     refine ⟨_,rfl,_,rfl,_,_,rfl,rfl,rfl,_,rfl,cX (fun hc=>?_) (fun hc=>?_)⟩
     ·rw [fg] at hc
      have hc:=dc hc;refine ⟨_,rfl,.inl ⟨rfl,_,.of el⟩,_,rfl,_,rfl,by show 2≤sizeLine;decide,fun tq iE=>⟨l0,us,_,rfl,rfl,(aP iE) _ _ el,iG (show us.length≤2000 by lia) (by decide),?_⟩⟩
      exact app _ (by rw [hl];exact aK (by lia)) (fun _ _ h=>h) tq iE
     ·have hc:¬(0+(j:Int)=(n:Int)-1):=fun z=>hc (by rw [fg];exact aK z)
      exact skip (by rw [hl];exact bj (by lia))
   ·rintro σ Hd ⟨us,v4,rfl,sd,el,hL⟩
    exact ⟨us,_,_,rfl,sd,el,hL⟩
  ·rintro σ Hc ⟨us,v3,v4,rfl,sc,el,hL⟩
   refine hR _ _ ?_;have e5:=sc _ _ e0;refine ar fun _ hR=>⟨_,rfl,td,_,_,_,rfl,rfl,.of e5,rfl,rfl,false,by decide +kernel,aG (hR _ _ ?_)⟩
   refine ar fun _ hR=>⟨_,rfl,td,_,_,_,rfl,rfl,.of e5,rfl,rfl,false,by decide +kernel,aG (hR _ _ ?_)⟩
   refine ar fun _ hR=>⟨_,rfl,td,_,_,_,rfl,rfl,.of e5,rfl,rfl,false,by decide +kernel,aG (hR _ _ ?_)⟩
   refine ⟨_,rfl,_,rfl,tF (K:=K) (Q:=fun y H2=>[V.int (n:Int),y].length≤sizeLine∧∀q,H2 q=none→Q (.ref q) (upd H2 q (.tup [.int (n:Int),y]))) ok el hL (vV _) (fun z=>zJ (N:=.cu n w)) fun lt zs Hd sd elt hz=>⟨by show 2≤sizeLine;decide,fun tp g6=>?_⟩⟩
   have st:ah Hd (upd Hd tp (.tup [.int (n:Int),.ref lt])):=aP g6;exact kk tp _ (sc.trans (sd.trans st)) ⟨lt,zs,av,st _ _ elt,hz.mono st⟩
 | ring n=>
  have e:H1 td=some (.tup [sV "ring",.int (n:Int)]):=gC;obtain ⟨n3,_⟩:=id ok;obtain ⟨nd,mm⟩:=L7 n3;refine ar fun _ hR=>⟨_,rfl,td,_,_,_,rfl,rfl,.of e,rfl,by show 2≤sizeLine;decide,fun q nq=>?_⟩
  have s2:ah H1 (upd H1 q (.tup [.str (Str.ofString "band"),.str (Str.ofString "brim")])):=aP nq;have gD:upd H1 q (.tup [.str (Str.ofString "band"),.str (Str.ofString "brim")]) q=some (.tup [.str (Str.ofString "band"),.str (Str.ofString "brim")]):=av;have fv:=gC.mono s2;generalize upd H1 q (.tup [.str (Str.ofString "band"),.str (Str.ofString "brim")])=H2 at s2 gD fv ⊢;have e2:=s2 _ _ e;refine ⟨q,_,rfl,.inr (.of gD),rfl,rfl,false,by decide +kernel,aG (hR _ _ ?_)⟩
  refine ar fun _ hR=>⟨_,rfl,td,_,_,_,rfl,rfl,.of e2,rfl,rfl,true,by decide +kernel,cN ?_⟩
  refine ar fun _ g7=>bG ⟨_,rfl,td,_,_,_,rfl,rfl,.of e2,rfl,g7 _ _ ?_⟩;refine bG ⟨_,rfl,_,_,rfl,rfl,by show 2≤sizeLine;decide,fun b nb=>⟨by show 1≤sizeLine;decide,fun l1 xp=>?_⟩⟩
  have s3:ah H2 (upd (upd H2 b (.tup [.int 0,.int ((n:Int)-1)])) l1 (.lst [.ref b])):=(aP nb).trans (aP xp);have eb:upd (upd H2 b (.tup [.int 0,.int ((n:Int)-1)])) l1 (.lst [.ref b]) b=some (.tup [.int 0,.int ((n:Int)-1)]):=(aP xp) _ _ av;have Ff:upd (upd H2 b (.tup [.int 0,.int ((n:Int)-1)])) l1 (.lst [.ref b]) l1=some (.lst [.ref b]):=av;generalize upd (upd H2 b (.tup [.int 0,.int ((n:Int)-1)])) l1 (.lst [.ref b])=H3 at s3 eb Ff ⊢;refine vT (n:=n-1) (fun k:Nat=>((k:Int),(k:Int)+1)) (by lia) (fun R h=>⟨_,rfl,_,_,rfl,rfl,_,rfl,by lia,by lia,by rw [show ((n:Int)-1).toNat=n-1 by lia];exact h⟩) (fun i hi Hc R sc kR=>⟨_,rfl,_,rfl,_,_,rfl,rfl,by show 2≤sizeLine;decide,fun b nb=>kR b _ (aP nb) (by rw [av,e9])⟩) fun D ys H4 nD s4 eD hY=>?_
  refine ⟨l1,D,[.ref b],ys,rfl,rfl,s4 _ _ Ff,eD,Dy (by have:=hY.1;rw [aJ,da] at this;simp;lia),fun l2 qX=>hR _ _ ?_⟩
  have s5:ah H4 (upd H4 l2 (.lst ([.ref b]++ys))):=aP qX;have jS:upd H4 l2 (.lst ([.ref b]++ys)) l2=some (.lst ([.ref b]++ys)):=av;have hM:bA H4 ([.ref b]++ys) (vX n):=(show bA H4 [.ref b] [((0:Int),(n:Int)-1)] from ⟨rfl,fun k v p h1 h2=>by
   match k,h1,h2 with
   | 0,h1,h2=>cases h1;cases h2;exact ⟨b,rfl,s4 _ _ eb⟩
   | k+1,h1,h2=>simp at h1⟩).cat hY
  have om:=hM.mono s5;generalize upd H4 l2 (.lst ([.ref b]++ys))=H5 at s5 jS om ⊢;generalize [V.ref b]++ys=us at jS om;have tX:=s3.trans (s4.trans s5);have e5:=tX _ _ e2;refine ar fun _ hR=>⟨_,rfl,td,_,_,_,rfl,rfl,.of e5,rfl,rfl,false,by decide +kernel,aG (hR _ _ ?_)⟩
  refine ar fun _ hR=>⟨_,rfl,td,_,_,_,rfl,rfl,.of e5,rfl,rfl,false,by decide +kernel,aG (hR _ _ ?_)⟩
  refine ⟨_,rfl,_,rfl,tF (K:=K) (Q:=fun y H2=>[V.int (n:Int),y].length≤sizeLine∧∀q,H2 q=none→Q (.ref q) (upd H2 q (.tup [.int (n:Int),y]))) ok jS om nd mm fun lt zs Hd sd elt hz=>⟨by show 2≤sizeLine;decide,fun tp g6=>?_⟩⟩
  have st:ah Hd (upd Hd tp (.tup [.int (n:Int),.ref lt])):=aP g6;exact kk tp _ ((s1.trans (s2.trans tX)).trans (sd.trans st)) ⟨lt,zs,av,st _ _ elt,hz.mono st⟩
 | cV m=>
  have e:H1 td=some (.tup [sV "ladder",.int (m:Int)]):=gC;refine ar fun _ hR=>⟨_,rfl,td,_,_,_,rfl,rfl,.of e,rfl,by show 2≤sizeLine;decide,fun q nq=>?_⟩
  have s2:ah H1 (upd H1 q (.tup [.str (Str.ofString "band"),.str (Str.ofString "brim")])):=aP nq;have gD:upd H1 q (.tup [.str (Str.ofString "band"),.str (Str.ofString "brim")]) q=some (.tup [.str (Str.ofString "band"),.str (Str.ofString "brim")]):=av;have fv:=gC.mono s2;generalize upd H1 q (.tup [.str (Str.ofString "band"),.str (Str.ofString "brim")])=H2 at s2 gD fv ⊢;have e2:=s2 _ _ e;refine ⟨q,_,rfl,.inr (.of gD),rfl,rfl,false,by decide +kernel,aG (hR _ _ ?_)⟩
  refine ar fun _ hR=>⟨_,rfl,td,_,_,_,rfl,rfl,.of e2,rfl,rfl,false,by decide +kernel,aG (hR _ _ ?_)⟩
  refine ar fun _ hR=>⟨_,rfl,td,_,_,_,rfl,rfl,.of e2,rfl,rfl,true,by decide +kernel,cN ?_⟩
  obtain ⟨nd,mm⟩:=L8 (m:=m);obtain ⟨m1,DU⟩:=id ok;refine ar fun _ g7=>bG ⟨_,rfl,td,_,_,_,rfl,rfl,.of e2,rfl,_,_,rfl,rfl,.inl ⟨by decide,by decide⟩,g7 _ _ ?_⟩
  refine bG (show fK _ _ _ _ _ _ _ from vT (n:=m) (fun k:Nat=>(2*(k:Int),2*(k:Int)+1)) (by lia) (fun R h=>⟨_,rfl,td,_,_,_,rfl,rfl,.of e2,rfl,_,rfl,by lia,by lia,by rw [cO];exact h⟩) (fun i hi Hc R sc kR=>⟨_,rfl,_,_,rfl,rfl,.inl ⟨by decide,by decide⟩,_,rfl,_,_,rfl,rfl,.inl ⟨by decide,by decide⟩,_,_,rfl,rfl,by show 2≤sizeLine;decide,fun b nb=>kR b _ (aP nb) (by rw [av,e9])⟩) fun D1 lY H3 Nw s3 xl Fg=>?_)
  refine (show fK _ _ _ _ _ _ _ from vT (n:=2*m-2) (fun k:Nat=>((k:Int),(k:Int)+2)) (by lia) (fun R h=>⟨_,rfl,_,_,rfl,rfl,_,rfl,by lia,by lia,by rw [show (2*(m:Int)-2).toNat=2*m-2 by lia];exact h⟩) (fun i hi Hc R sc kR=>⟨_,rfl,_,rfl,_,_,rfl,rfl,by show 2≤sizeLine;decide,fun b nb=>kR b _ (aP nb) (by rw [av,e9])⟩) fun D2 ys H4 oh s4 lV Fh=>?_)
  refine ⟨D1,D2,lY,ys,rfl,rfl,s4 _ _ xl,lV,Dy (by have:=Fg.1;have:=Fh.1;rw [aJ,da] at *;lia),fun l2 qX=>hR _ _ ?_⟩
  have s5:ah H4 (upd H4 l2 (.lst (lY++ys))):=aP qX;have jS:upd H4 l2 (.lst (lY++ys)) l2=some (.lst (lY++ys)):=av;have om:bA (upd H4 l2 (.lst (lY++ys))) (lY++ys) (vY m):=((Fg.mono s4).cat Fh).mono s5;generalize upd H4 l2 (.lst (lY++ys))=H5 at s5 jS om ⊢;generalize lY++ys=us at jS om;have tX:=s3.trans (s4.trans s5);have e5:=tX _ _ e2;refine ar fun _ hR=>⟨_,rfl,td,_,_,_,rfl,rfl,.of e5,rfl,rfl,false,by decide +kernel,aG (hR _ _ ?_)⟩
  have tV:((aD.cV m).sz:Int)=2*(m:Int):=by show ((2*m:Nat):Int)=_;lia
  refine ⟨_,rfl,_,rfl,tF (K:=K) (Q:=fun y H2=>[V.int (2*(m:Int)),y].length≤sizeLine∧∀q,H2 q=none→Q (.ref q) (upd H2 q (.tup [.int (2*(m:Int)),y]))) ok jS om nd mm fun lt zs Hd sd elt hz=>⟨by show 2≤sizeLine;decide,fun tp g6=>?_⟩⟩
  have st:ah Hd (upd Hd tp (.tup [.int (2*(m:Int)),.ref lt])):=aP g6;exact kk tp _ ((s1.trans (s2.trans tX)).trans (sd.trans st)) ⟨lt,zs,by rw [av,tV],st _ _ elt,hz.mono st⟩
 | tree as=>
  obtain ⟨ta,e,eta⟩:=id gC;refine ar fun _ hR=>⟨_,rfl,td,_,_,_,rfl,rfl,.of e,rfl,by show 2≤sizeLine;decide,fun q nq=>?_⟩
  have s2:ah H1 (upd H1 q (.tup [.str (Str.ofString "band"),.str (Str.ofString "brim")])):=aP nq;have gD:upd H1 q (.tup [.str (Str.ofString "band"),.str (Str.ofString "brim")]) q=some (.tup [.str (Str.ofString "band"),.str (Str.ofString "brim")]):=av;have fv:=gC.mono s2;generalize upd H1 q (.tup [.str (Str.ofString "band"),.str (Str.ofString "brim")])=H2 at s2 gD fv ⊢;have e2:=s2 _ _ e;refine ⟨q,_,rfl,.inr (.of gD),rfl,rfl,false,by decide +kernel,aG (hR _ _ ?_)⟩
  refine ar fun _ hR=>⟨_,rfl,td,_,_,_,rfl,rfl,.of e2,rfl,rfl,false,by decide +kernel,aG (hR _ _ ?_)⟩
  refine ar fun _ hR=>⟨_,rfl,td,_,_,_,rfl,rfl,.of e2,rfl,rfl,false,by decide +kernel,aG (hR _ _ ?_)⟩
  refine ar fun _ hR=>⟨_,rfl,td,_,_,_,rfl,rfl,.of e2,rfl,rfl,true,by decide +kernel,cN ?_⟩
  obtain ⟨MX,hle⟩:=id ok;obtain ⟨nd,mm⟩:=L9 hle;have Fi:=s2 _ _ eta;refine ar fun _ g7=>bG ⟨_,rfl,td,_,_,_,rfl,rfl,.of e2,rfl,ta,_,rfl,.inr (.of Fi),_,_,rfl,rfl,g7 _ _ ?_⟩;refine (show fK _ _ _ _ _ _ _ from vT (n:=as.length) (fun k:Nat=>(((as.getD k 0:Nat):Int),(k:Int)+1)) (by lia) (fun R h=>⟨_,rfl,_,_,rfl,rfl,_,rfl,by rw [aJ];lia,by rw [aJ];lia,by rw [aJ,show ((as.length:Int)+1-1).toNat=as.length by lia];exact h⟩) (fun i hi Hc R sc kR=>⟨_,rfl,td,_,_,_,rfl,rfl,.of (sc _ _ e2),rfl,_,rfl,ta,_,_,_,rfl,rfl,.of (sc _ _ Fi),(by rw [e9];exact oY (by rw [bU,dR hi];rfl)),_,rfl,_,_,rfl,rfl,by show 2≤sizeLine;decide,fun b nb=>kR b _ (aP nb) (by rw [av,e9,fA,dR hi];rfl)⟩) fun D ys H3 nD s3 eD hY=>?_)
  refine hR _ _ ?_;have tV:((aD.tree as).sz:Int)=((as.map fun k:Nat=>V.int (k:Int)).length:Int)+1:=by rw [aJ];rfl
  refine ⟨_,rfl,_,rfl,tF (K:=K) (Q:=fun y H2=>[V.int (((as.map fun k:Nat=>V.int (k:Int)).length:Int)+1),y].length≤sizeLine∧∀q,H2 q=none→Q (.ref q) (upd H2 q (.tup [.int (((as.map fun k:Nat=>V.int (k:Int)).length:Int)+1),y]))) ok eD hY nd mm fun lt zs Hd sd elt hz=>⟨by show 2≤sizeLine;decide,fun tp g6=>?_⟩⟩
  have st:ah Hd (upd Hd tp (.tup [.int (((as.map fun k:Nat=>V.int (k:Int)).length:Int)+1),.ref lt])):=aP g6;exact kk tp _ ((s1.trans (s2.trans s3)).trans (sd.trans st)) ⟨lt,zs,by rw [av,tV],st _ _ elt,hz.mono st⟩
theorem NQ:bO ["told","shape","order"] ["told"] (bf wI):=cC
theorem Am(T:Txt K mg t):bE P w K mg base b6 6 t.nC t.qf ["told"] MB:=by
 have S:=NQ;refine T.lQ.cW S (fun _ _ _ _ H _ Q _ hr h=>?_);obtain ⟨td,N,rfl,tn,ok,kk⟩:=h;have og:=hr.units;obtain ⟨n1,di⟩:=jM ok
 refine ⟨_,(aA (putL 1 S.nd (bt (M8 T) hr T.Ep T.qG.kp T.Eo u4 (af (pv 0) ak)))
  (aA (putL 2 S.nd (jz (yp rfl) rfl T.nZ boot_list (af (jz yo rfl T.dD yq (af (aC aS (pv 1) ao) ak)) ak)))
  (aA (bM (bN b5 (aC aS (pv 0) ao) cT) (aF (putL 2 S.nd (Mo rfl rfl T.nZ rfl T.EN (af (pv 2) ak)))) bL)
  (aF (a7 (fG (af (pv 2) (af (bt (Ah T) hr T.w6 T.lP.kp T.wZ u4 (af (pv 1) (af (pv 2) ak))) ak)))))))),?_⟩
 refine ar fun _ hR=>bG ⟨_,rfl,td,N,rfl,tn,ok,fun tp H1 s1 sh=>hR _ _ ?_⟩;obtain ⟨lt,us,dY,elt,kj⟩:=id sh;refine ar fun _ hR=>bG ⟨_,rfl,tp,_,_,_,rfl,rfl,.of dY,rfl,(N.sz:Int),rfl,fun p1 jQ=>⟨p1,N.sz,rfl,av,by lia,fun l nl=>hR _ _ ?_⟩⟩
 have s2:ah H1 (upd (upd H1 p1 (.hJ 0 (N.sz:Int))) l (.lst (gR N.sz))):=kF (kF (ah.refl _) jQ) nl;have el:upd (upd H1 p1 (.hJ 0 (N.sz:Int))) l (.lst (gR N.sz)) l=some (.lst (nI (List.range N.sz))):=by rw [av];unfold gR nI;rfl
 have xp:H1 l=none:=none_of (aP jQ) nl;generalize upd (upd H1 p1 (.hJ 0 (N.sz:Int))) l (.lst (gR N.sz))=H2 at s2 el ⊢;have lW:H l=none:=none_of s1 xp;have fv:=(tn.mono s1).mono s2;have fin:∀(R:VK) (b:Addr) (H3:Hp),ah H2 H3→H b=none→H3 b=some (.lst (nI (dX N)))→(∀f o H',ah H H'→H f=none→H o=none→H' f=some (.tup [.ref o,.int (N.fU:Int)])→H' o=some (.lst (nI (dX N)))→R (.ref f) H')→xR (uT (iR (rQ 2) (iR (x_ (DV t.jO) [] (fun _ _ _=>False) (iR (rQ 1) (iR (rQ 2) oX))) oX))) {nx:=fun _ H'=>R .aQ H',rt:=R} [some (.ref td),some (.ref tp),some (.ref b)] H3:=fun R b H3 s3 nb eb kR=>by
  refine iX ⟨_,rfl,_,rfl,_,rfl,tp,b,N.sz,aX N,(dX N).map iN,rfl,(sh.mono s2).mono s3,tJ,zR,di,by rw [eb,dG];rfl,by rw [aJ,iA (jN N)];lia,fun no=>absurd ((jN N).map iN) no,fun o ez ho H4 s4 g hg=>?_⟩
  have eo:o=dX N:=by
   have inj:∀{a b:List Nat},a.map iN=b.map iN→a=b:=fun{a b} e=>by
    have:=b9 (List.map Int.toNat) e;rw [dG,dG] at this;have An:(Int.toNat ∘ iN)=id:=by funext x;exact cO x
    rwa [An,oH,oH] at this
   exact (inj ez).symm
  subst eo;rw [show kL N.sz g=N.fU from zQ ok hg];refine ⟨by show 2≤sizeLine;decide,fun f nf=>kR f b _ ((s1.trans s2).trans (s3.trans (s4.trans (aP nf)))) (none_of ((s1.trans s2).trans (s3.trans s4)) nf) nb av ((aP nf) _ _ (s4 _ _ eb))⟩
 cases N with
 | tree as=>
  obtain ⟨ta,e1,e2⟩:=id fv;refine ar fun _ hR=>⟨_,rfl,td,_,_,_,rfl,rfl,.of e1,rfl,rfl,true,by decide +kernel,cN (bG ⟨_,rfl,l,_,rfl,.inl (.of el),by unfold nI;rw [aJ,da];lia,fun D nD=>hR _ _ ?_⟩)⟩
  refine fin Q D _ (aP nD) (none_of (s1.trans s2) nD) ?_ kk;rw [av];unfold nI;rw [←List.map_reverse];rfl
 | band n w=>exact ar fun _ hR=>⟨_,rfl,td,_,_,_,rfl,rfl,.of fv,rfl,rfl,false,by decide +kernel,aG (hR _ _ (fin Q l H2 (ah.refl _) lW el kk))⟩
 | cu n w=>exact ar fun _ hR=>⟨_,rfl,td,_,_,_,rfl,rfl,.of fv,rfl,rfl,false,by decide +kernel,aG (hR _ _ (fin Q l H2 (ah.refl _) lW el kk))⟩
 | ring n=>exact ar fun _ hR=>⟨_,rfl,td,_,_,_,rfl,rfl,.of fv,rfl,rfl,false,by decide +kernel,aG (hR _ _ (fin Q l H2 (ah.refl _) lW el kk))⟩
 | cV m=>exact ar fun _ hR=>⟨_,rfl,td,_,_,_,rfl,rfl,.of fv,rfl,rfl,false,by decide +kernel,aG (hR _ _ (fin Q l H2 (ah.refl _) lW el kk))⟩
theorem NR:bO ["tape","size","order","k"] ["tape","size"] (bf wM):=cC
theorem NS(T:Txt K mg t):bE P w K mg base b6 2 t.nJ t.qj ["tape","size"] MC:=by
 have S:=NR;refine T.qJ.cW S (fun _ _ _ _ H _ _ _ hr h=>?_);obtain ⟨Tp,n,rfl,tc,di,kk⟩:=h
 refine ⟨_,(aA (putL 2 S.nd (fe ak))
  (aA (en eh rfl (fb rfl T.dD (af (pv 1) ak)) (cM (i:=3) S.nd rfl (Or.inl rfl))
   (aF (iP (lh ji PySem.F.slot_list_insert PySem.F.type_list_insert MA (pv 2) (af (bt (E9 T) hr T.lU T.iD.kp T.lS bF (af (pv 0) (af (aO dg (pv 3) ao) ak))) (af (pv 3) ak))))))
  (aF (a7 (pv 2))))),?_⟩
 refine ar fun _ hR=>bG ⟨cg _,fun D nD=>hR _ _ ?_⟩;have DT:D≠Tp:=tc.ne nD;have o1:bJ Tp H (upd H D (.lst [])):=bJ.of (aP nD);have t1:dB (upd H D (.lst [])) Tp:=tc.mono (aP nD);have e1:upd H D (.lst []) D=some (.lst (nI [])):=av;generalize upd H D (.lst [])=H1 at o1 t1 e1 ⊢;refine ar fun _ hR=>⟨_,rfl,(n:Int),rfl,by lia,by lia,?_⟩
 rw [cO];refine ju (fun k σ Hc=>∃(o:List Nat) (v3:Option V),σ=[some (.ref Tp),some (.int (n:Int)),some (.ref D),v3]∧bJ Tp H Hc∧dB Hc Tp∧Hc D=some (.lst (nI o))∧o.Perm (List.range k)) ⟨[],_,rfl,o1,t1,e1,List.Perm.refl _⟩ ?_ ?_
 ·rintro k σ Hc hk ⟨o,v3,rfl,oc,oj,eD,pm⟩
  dsimp only [cL];refine ⟨_,rfl,.inl ⟨rfl,_,.of eD⟩,_,rfl,_,rfl,_,_,rfl,rfl,Tp,k+1,by show [V.ref Tp,V.int ((0+(k:Int))+1)]=_;rw [show (0+(k:Int))+1=((k+1:Nat):Int) by lia],oj,by lia,by lia,fun d H2 hd od td=>?_⟩
  have lV:=od _ _ DT eD;have lo:(nI o).length=k:=by unfold nI;rw [aJ,pm.length_eq,da]
  refine ⟨_,rfl,D,nI o,d,_,_,rfl,rfl,rfl,lV,by lia,by lia,?_⟩
  have pk:(o.take d++k::o.drop d).Perm (List.range (k+1)):=by rw [oC];refine List.perm_middle.trans ?_;rw [mf];exact ((List.Perm.cons k pm).trans (rn (l₁:=[k])))
  refine ⟨o.take d++k::o.drop d,_,rfl,fun b u ne e=>?_,?_,?_,pk⟩
  ·rw [aM (fun z=>by rw [z,nD] at e;cases e)]
   exact (oc.trans od) b u ne e
  ·obtain ⟨x,ex⟩:=td
   exact ⟨x,(aM (Ne.symm DT)).trans ex⟩
  ·rw [av]
   unfold nI;rw [iI,cP,List.map_take,List.map_drop,e9]
 ·rintro σ Hc ⟨o,v3,rfl,oc,oj,eD,pm⟩
  exact hR _ _ ⟨_,rfl,kk D o _ oc oj nD eD pm⟩
theorem NT:bO ["behind"] ["behind"] (bf wO):=cC
theorem NU(T:Txt K mg t):bE P w K mg base b6 2 t.nM t.ql ["behind"] ME:=by
 have S:=NT;refine T.qL.cW S (fun _ _ _ _ H _ _ _ hr h=>?_);obtain ⟨D,n,rs,g,rfl,la,di,lg,kk⟩:=h;refine ⟨_,(aF (a7 (bI (Cv (K:=K) rfl) rfl T.z9 boot_sum (af (ig (N:=["row"]) (ρ:=(fun σ=>[])) (eA [] rfl) rfl (iQ (pv 0)) (fun _ _ _=>.nil) (fun _ _ _=>(aO dg (aO dg (aO et (bI (ve (K:=K)) rfl T.eZ e8 (af (pv 0) ak)) (bI (ve (K:=K)) rfl T.eZ e8 (af (pv 0) ak))) (aO et ao (bI (ve (K:=K)) rfl T.eZ e8 (af (pv 0) ak)))) ao))) ak)))),?_⟩;have jR:((List.range n).map fun p=>V.ref (rs p)).length=n:=by rw [aJ,da]
 refine iX (ph (vd (xs:=(List.range n).map fun p=>V.ref (rs p)) (fun R h=>⟨_,rfl,D,rfl,⟨_,.of la.1⟩,h _ _ (ah.refl _) (pd (.of la.1))⟩) (by rw [jR];exact dM (by lia)) (fun _ i y _=>y=.int (((g i).length:Int)*(g i).length+3*(g i).length+1)) (fun _ _ _ _ _ _ h _ _=>h) ?_ ?_))
 ·intro D' k x hx Hc R sc _ kc
  have hk:k<n:=by have:=(cy.mp hx).1;rw [jR] at this;exact this
  have ex:x=.ref (rs k):=by rw [bU,iH hk] at hx;exact (Option.some.inj hx).symm
  subst ex;have lk:=lg k hk;have ek:=sc _ _ (la.2 k hk);have len:((g k).map fun k:Nat=>V.int (k:Int)).length=(g k).length:=aJ _;refine ⟨_,rfl,rs k,_,rfl,.inl (.of ek),_,rfl,rs k,_,rfl,.inl (.of ek),?_⟩;rw [len];refine ⟨_,_,rfl,rfl,.inl ⟨by lia,by lia⟩,_,rfl,rs k,_,rfl,.inl (.of ek),?_⟩
  rw [len];exact ⟨_,_,rfl,rfl,.inl ⟨by lia,by lia⟩,_,_,rfl,rfl,_,_,rfl,rfl,kc _ Hc (ah.refl _) rfl⟩
 ·intro D' ys Hc NA sc ja qU Ai
  rw [jR] at ja;have ey:ys=((List.range n).map fun i=>((g i).length:Int)*(g i).length+3*(g i).length+1).map V.int:=by
   refine g_ (by simp [ja]) fun i h1 h2=>?_
   rw [fY,fY,jf];exact qU i _ (dR h1)
  have es:((List.range n).map fun i=>((g i).length:Int)*(g i).length+3*(g i).length+1).sum=((kL n g:Nat):Int):=by
   unfold kL gZ;generalize List.range n=l;clear ey qU ja kk
   induction l with
   | nil=>rfl
   | cons x l ih=>rw [cP,d6,cP,d6,ih];push_cast;rfl
  refine ⟨D',_,rfl,.of (by rw [Ai,ey]),?_⟩
  rw [es];exact kk _ sc
theorem NV:bO ["shape","beside","i","j"] ["shape"] (bf wV):=cC
theorem NW(T:Txt K mg t):bE P w K mg base b6 1 t.nR t.qq ["shape"] Df:=by
 have S:=NV;refine T.qO.cW S (fun _ _ _ _ H _ _ _ hr h=>?_);obtain ⟨tp,n,L,rfl,⟨lt,us,dY,elt,hL⟩,ok,n9,kk⟩:=h;have hu:=iG (uG (show 1≤64 by decide) _) hr.units
 have qT:((List.range n).map fun i:Nat=>V.int (0+(i:Int))).length=n:=by rw [aJ,da]
 refine ⟨_,(aA (pf (i0:=1) (N:=["k"]) (ρ:=(fun σ=>[])) (eA [] rfl) rfl S.nd rfl (Or.inl rfl) (fb rfl T.dD (af (aC aS (pv 0) ao) ak)) (fun _ _ _=>.nil) (fun _ _ _=>C7))
  (aA (en eh rfl (uN (aC aS (pv 0) ao)) (mC rfl (f_ (cM (i:=2) S.nd rfl (Or.inl rfl)) (f_ (cM (i:=3) S.nd rfl (Or.inl rfl)) mB)))
   (aA (sZ hu (aC dJ (pv 1) (pv 2)) (pv 3) eP rfl)
  (aF (sZ hu (aC dJ (pv 1) (pv 3)) (pv 2) eP rfl))))
  (aF (a7 (pv 1))))),?_⟩
 refine lE (bG (pj (xs:=(List.range n).map fun i:Nat=>V.int (0+(i:Int))) (n:=n) qT (fun R h=>⟨_,rfl,tp,_,_,_,rfl,rfl,.of dY,rfl,(n:Int),rfl,by lia,by lia,h _ _ (ah.refl _) (by rw [cO];exact pe)⟩) (dM (by lia)) (fun _ i y Hx=>Hx y=some (.dK (dk []))∧H y=none) ?_ ?_ ?_))
 ·intro D i y Ha Hb ys ⟨h1,h2⟩ hy e f
  exact ⟨f y _ hy h1,h2⟩
 ·intro D i x hx Hc R sc _ kc
  refine fun p np=>kc p _ (eB (ah.refl _) np) np ⟨_,av⟩ ⟨av,?_⟩;cases e:H p with
  | none=>rfl
  | some o=>rw [sc _ _ e] at np;cases np
 ·intro D ds H1 nD s1 inj hA eD
  have K0:cQ H1 D n ds (fun _=>True) (fun _=>[]):=⟨eD,inj,fun i hi=>(hA i hi).2,fun i hi _=>(hA i hi).1.1,fun i _=>eU.nil n⟩;have fr:∀i,i<n→H (ds i)=none:=fun i hi=>(hA i hi).1.2;dsimp only [cL];refine lE ⟨_,rfl,tp,_,_,_,rfl,rfl,.of (s1 _ _ dY),rfl,lt,rfl,⟨_,.of (s1 _ _ elt)⟩,?_⟩;refine uO (K:=K) (a:=lt) (xs:=us) (fun k σ Hc=>∃(f:Nat→List Nat) (v2 v3:Option V),σ=[some (.ref tp),some (.ref D),v2,v3]∧ah H Hc∧cQ Hc D n ds (fun _=>True) f∧eV n (L.take k) f) ⟨_,_,_,rfl,s1,K0,eV.nil n⟩ (fun k σ Hc _ ⟨_,_,_,_,sc,_⟩=>.of (sc _ _ elt)) ?_ ?_
  ·rintro k x σ Hc hx ⟨f,v2,v3,rfl,sc,KL,nb⟩
   have hk:k<L.length:=by rw [←hL.1];exact (cy.mp hx).1
   obtain ⟨b,rfl,eb⟩:=hL.2 k x L[k] hx (by simp [hk])
   have pk:=ok L[k] (dv hk);have tk:L.take (k+1)=L.take k++[L[k]]:=by rw [rE,dR hk];rfl
   generalize L[k]=p at eb pk tk;obtain ⟨p1,p2⟩:=p;dsimp only at pk eb;obtain ⟨i,rfl⟩:=iK pk.1;obtain ⟨j,rfl⟩:=iK pk.2.2.1;have hi:i<n:=by lia
   have hj:j<n:=by lia
   refine ⟨b,_,rfl,.of (sc _ _ eb),rfl,_,_,rfl,_,_,rfl,rfl,?_⟩;obtain ⟨q1,K1⟩:=KL.put hi hj trivial n9;obtain ⟨q2,K2⟩:=K1.put hj hi trivial n9;refine ⟨_,rfl,_,rfl,D,_,_,_,rfl,rfl,.of KL.lst,KL.ix hi,_,rfl,_,_,rfl,q1,?_⟩;refine ⟨_,rfl,_,rfl,D,_,_,_,rfl,rfl,.of K1.lst,K1.ix hj,_,rfl,_,_,rfl,q2,?_⟩;have off:∀(Hx:Hp) (i:Nat) (o:HO),i<n→ah H Hx→ah H (upd Hx (ds i) o):=fun Hx i o hi sx a u e=>by
    rw [aM (fun z=>by rw [z,fr i hi] at e;cases e)]
    exact sx _ _ e
   exact ⟨_,_,_,rfl,off _ _ _ hj (off _ _ _ hi sc),K2,by rw [tk];exact nb.more hi hj⟩
  ·rintro σ Hc ⟨f,v2,v3,rfl,sc,KL,nb⟩
   rw [hL.1,jY] at nb;exact ⟨_,rfl,kk _ _ _ _ sc nD fr KL nb⟩
theorem NX:bO ["told","shape","beside","count","i","j"] ["told","shape"] (bf wW):=cC
theorem NY(T:Txt K mg t):bE P w K mg base b6 3 t.nS t.qr ["told","shape"] MF:=by
 have S:=NX;refine T.qP.cW S (fun _ _ _ s H _ Q _ hr h=>?_);obtain ⟨td,tp,N,rfl,tn,ok,fw,oo,kk⟩:=h;have hu:=iG (uG (show 1≤64 by decide) _) hr.units
 obtain ⟨n1,di⟩:=jM ok;have l5:=DA ok fw
 refine ⟨_,(aA (bM (bN b5 (aC aS (pv 0) ao) cT) (aF (a7 (aO gN (aO et ao (aC aS (pv 0) ao)) ao))) bL)
  (aA (bM (bN b5 (aC aS (pv 0) ao) cT) (aF (a7 (aO gN (aO et ao (aC aS (pv 0) ao)) ao))) bL)
  (aA (Co 2 S.nd (bt (NW T) hr T.EH T.qO.kp T.EG bF (af (pv 1) ak)))
  (aA (putL 3 S.nd ao)
  (aA (en eh rfl (uN (aC aS (pv 1) ao)) (mC rfl (f_ (cM (i:=4) S.nd rfl (Or.inl rfl)) (f_ (cM (i:=5) S.nd rfl (Or.inr rfl)) mB)))
   (aF (putL 3 S.nd (aO dg (pv 3) (bI gP rfl T.eZ e8 (af (ig (N:=["k","j","beside"]) (ρ:=(fun σ=>[σ[5]?.join,σ[2]?.join])) (eA [5,2] rfl) rfl (C_ (aC dJ (pv 2) (pv 4))) (fun _ _ _=>(.one (PW.pt (pw_and (bN x4 (pv 0) (pv 1)) (pw_and1 (Ga (J4 hu (pv 0) (aC (yB (K:=K)) (pv 2) (pv 1))) rfl)))))) (fun _ _ _=>(pv 0))) ak))))))
  (aF (a7 (aO dg (aO dg (aO et ao (bI gP rfl T.eZ e8 (af (aC aS (pv 1) ao) ak))) (aO et ao (pv 3))) (aC aS (pv 1) ao))))))))),?_⟩
 refine ar fun R hR=>?_;have flat:∀(c:String) (ys:List V),c="band"∨c="brim"∨c="tree"→H td=some (.tup (sV c::ys))→ic (sV c::ys) 0=some (sV c)→N.fU=gY N.sz (aX N)→R [some (.ref td),some (.ref tp),none,none,none,none] H:=fun c ys hc e Fj hd=>by
  refine hR _ _ ?_;refine ar fun _ hR=>⟨_,rfl,td,_,_,sV c,rfl,rfl,.of e,Fj,rfl,false,by rcases hc with rfl | rfl | rfl <;> decide +kernel,aG (hR _ _ ?_)⟩
  have kk:∀H':Hp,ah H H'→Q (.int (gY N.sz (aX N):Int)) H':=fun H' s=>by rw [←hd];exact kk H' s
  have nd:=tE (N:=N);have lt:=lN (N:=N);have Ao:=tJ (N:=N);clear hd hc e Fj ok fw tn n1;generalize aX N=L at kk nd lt Ao oo l5;generalize N.sz=n at kk lt Ao oo di;refine ar fun _ hR=>bG ⟨_,rfl,tp,n,L,rfl,oo,Ao,by lia,fun H1 D ds f s1 nD z_ KL nb=>hR _ _ ?_⟩
  obtain ⟨lk,us,dY,elt,hL⟩:=id oo;refine ar fun _ hR=>bG (hR _ _ ?_);refine ar fun _ hR=>⟨_,rfl,tp,_,_,_,rfl,rfl,.of (s1 _ _ dY),rfl,lk,rfl,⟨_,.of (s1 _ _ elt)⟩,?_⟩;refine uO (K:=K) (a:=lk) (xs:=us) (fun k σ Hc=>∃(v3 v4:Option V),σ=[some (.ref td),some (.ref tp),some (.ref D),some (.int (((L.take k).map (vI n L)).sum:Nat)),v3,v4]∧ah H Hc∧vG Hc D n ds f) ⟨_,_,rfl,s1,KL.fr⟩ (fun k σ Hc _ ⟨_,_,_,sc,_⟩=>.of (sc _ _ elt)) ?_ ?_
  ·rintro k x σ Hc hx ⟨v3,v4,rfl,sc,KF⟩
   have hk:k<L.length:=by rw [←hL.1];exact (cy.mp hx).1
   obtain ⟨b,rfl,eb⟩:=hL.2 k x L[k] hx (by simp [hk])
   have pk:=lt L[k] (dv hk);have tk:L.take (k+1)=L.take k++[L[k]]:=by rw [rE,dR hk];rfl
   generalize L[k]=p at eb pk tk;obtain ⟨p1,p2⟩:=p;dsimp only at pk eb;obtain ⟨i,rfl⟩:=iK pk.1;obtain ⟨j,rfl⟩:=iK (show 0≤p2 by lia)
   have hi:i<n:=by lia
   have hj:j<n:=by lia
   refine ⟨b,_,rfl,.of (sc _ _ eb),rfl,_,_,rfl,_,_,rfl,rfl,?_⟩;refine bG ⟨_,rfl,ph (ze (KQ (a:=ds i) (kvs:=dk (f i)) (fun Q q=>⟨_,rfl,_,rfl,D,_,_,_,rfl,rfl,.of KF.lst,jI hi,q⟩) (KF.at' i hi) fun ob Hf tS off=>?_))⟩;have sf:ah H Hf:=fun b u e=>off b u (fun z=>by rw [z,z_ i hi] at e;cases e) (sc _ _ e)
   have xq:vG Hf D n ds f:=⟨off D _ (fun z=>KL.ne i hi z.symm) KF.lst,fun i' bg=>by
    by_cases e:i'=i
    ·subst e
     exact .inr ⟨ob,tS⟩
    ·rcases KF.at' i' bg with h | ⟨tY,h⟩
     ·exact .inl (off _ _ (fun z=>e (KL.inj i' i bg hi z)) h)
     ·exact .inr ⟨tY,off _ _ (fun z=>e (KL.inj i' i bg hi z)) h⟩⟩
   refine Dj tS (fun q=>decide (j<q) && decide (q∈f j)) (dM (by have:=L_ (KL.pl i hi);lia)) ?_ (fun q hq Hd R h=>⟨_,rfl,h⟩) ?_
   ·intro q hq Hd R sd kR
    refine ⟨_,rfl,_,rfl,_,_,rfl,rfl,_,rfl,cX (fun hc=>?_) (fun hc=>?_)⟩
    ·have hc:(j:Int)<(q:Int):=dc hc
     rw [aK (show j<q by lia),Bool.true_and] at kR
     have rd:Rd Hd (ds j) (.dK (dk (f j))):=by
      rcases xq.at' j hj with h | ⟨tY,h⟩;·exact .inl (sd _ _ h)
      ·exact .inr ⟨tY,sd _ _ h⟩
     refine ⟨_,rfl,_,rfl,_,rfl,D,_,_,_,rfl,rfl,.of (sd _ _ xq.lst),jI hj,ds j,_,rfl,.inl ⟨_,(Sum.inl (q:Int):Key),rd,rfl,rfl⟩,_,rfl,?_⟩;rw [Ke];by_cases hm:q∈f j
     ·rw [aK hm] at kR
      rw [ae hm];exact kR
     ·rw [bj hm] at kR
      rw [aa hm];exact kR
    ·have hc:¬j<q:=fun z=>hc (aK (show (j:Int)<(q:Int) by lia))
     rw [bj hc,Bool.false_and] at kR;exact kR
   ·intro D2 H2 oh s2 lV
    have NZ:ah H H2:=sf.trans s2;have N0:vG H2 D n ds f:=⟨s2 _ _ xq.lst,fun i' bg=>(xq.at' i' bg).imp (fun h=>s2 _ _ h) fun⟨tY,h⟩=>⟨tY,s2 _ _ h⟩⟩;refine ⟨D2,_,rfl,.inl (.of lV),_,_,rfl,rfl,some (.int (i:Int)),some (.int (j:Int)),?_,NZ,N0⟩;have te:=Ll (n:=n) (L:=L) (g:=fun a=>if a<n then f a else []) (fun a q ha=>by show q∈(if a<n then f a else [])↔_;rw [ae ha];exact nb a q ha) (fun a=>by split;exact (KL.pl a (by assumption)).1;exact rD) hi hj (fun q hq=>by rw [ae hi] at hq;exact (KL.pl i hi).2 q hq)
    rw [ae hi,ae hj,List.filter_map,aJ] at te;rw [tk,iI,rj,List.map_singleton,List.sum_singleton,te,aJ];have ef:(f i).filter (Dx j (f j) ∘ fun k:Nat=>V.int (k:Int))=(f i).filter fun q=>decide (j<q) && decide (q∈f j):=List.filter_congr fun q _=>by
     show (decide ((j:Int)<(q:Int)) && decide (((q:Nat):Int).toNat∈f j))=_;rw [cO];by_cases z:j<q;·rw [aK z,aK (show (j:Int)<(q:Int) by lia)]
     ·rw [bj z,bj (show ¬(j:Int)<(q:Int) by lia)]
    rw [ef]
    push_cast
    rfl
  ·rintro σ Hc ⟨v3,v4,rfl,sc,KF⟩
   refine hR _ _ ?_;rw [hL.1,jY,show (L.map (vI n L)).sum=kK n L from Ld nd lt];have ll:us.length=L.length:=hL.1;refine iX ⟨_,rfl,tp,_,_,_,rfl,rfl,.of (sc _ _ dY),rfl,lk,_,rfl,.inr (.of (sc _ _ elt)),?_⟩;rw [ll];refine ⟨_,_,rfl,rfl,.inl ⟨by lia,by lia⟩,_,rfl,_,_,rfl,rfl,.inl ⟨by lia,by lia⟩,_,_,rfl,rfl,_,rfl,tp,_,_,_,rfl,rfl,.of (sc _ _ dY),rfl,_,_,rfl,rfl,?_⟩
   have e:(4*(L.length:Int)+2*(kK n L:Int)+(n:Int))=((gY n L:Nat):Int):=by unfold gY;push_cast;rfl
   show Q (.int (4*(L.length:Int)+2*(kK n L:Int)+(n:Int))) Hc;rw [e];exact kk _ sc
 cases N with
 | ring n=>
  have tn:H td=some (.tup [sV "ring",.int (n:Int)]):=tn;have n3:3≤n:=ok.1;have n6:n≤60:=ok.2;refine ⟨_,rfl,td,_,_,_,rfl,rfl,.of tn,rfl,rfl,true,by decide +kernel,cN (iX ⟨_,rfl,td,_,_,_,rfl,rfl,.of tn,rfl,_,_,rfl,rfl,.inl ⟨by lia,by lia⟩,_,_,rfl,rfl,?_⟩)⟩
  show Q (.int (11*(n:Int)-16)) H;rw [show 11*(n:Int)-16=((11*n-16:Nat):Int) by lia]
  exact kk _ (ah.refl _)
 | cV m=>
  have tn:H td=some (.tup [sV "ladder",.int (m:Int)]):=tn;have n3:1≤m:=ok.1;have n6:m≤30:=ok.2;refine ⟨_,rfl,td,_,_,_,rfl,rfl,.of tn,rfl,rfl,false,by decide +kernel,aG (hR _ _ ?_)⟩
  refine ar fun _ hR=>⟨_,rfl,td,_,_,_,rfl,rfl,.of tn,rfl,rfl,true,by decide +kernel,cN (iX ⟨_,rfl,td,_,_,_,rfl,rfl,.of tn,rfl,_,_,rfl,rfl,.inl ⟨by lia,by lia⟩,_,_,rfl,rfl,?_⟩)⟩
  show Q (.int (22*(m:Int)-16)) H;rw [show 22*(m:Int)-16=((11*(2*m)-16:Nat):Int) by lia]
  exact kk _ (ah.refl _)
 | band n w=>have tn:H td=some (.tup [sV "band",.int (n:Int),.int (w:Int)]):=tn;exact ⟨_,rfl,td,_,_,_,rfl,rfl,.of tn,rfl,rfl,false,by decide +kernel,aG (flat "band" _ (.inl rfl) tn rfl rfl)⟩
 | cu n w=>have tn:H td=some (.tup [sV "brim",.int (n:Int),.int (w:Int)]):=tn;exact ⟨_,rfl,td,_,_,_,rfl,rfl,.of tn,rfl,rfl,false,by decide +kernel,aG (flat "brim" _ (.inr (.inl rfl)) tn rfl rfl)⟩
 | tree as=>obtain ⟨ta,tn,_⟩:=tn;exact ⟨_,rfl,td,_,_,_,rfl,rfl,.of tn,rfl,rfl,false,by decide +kernel,aG (flat "tree" _ (.inr (.inr rfl)) tn rfl rfl)⟩
theorem N1:bO ["size","links","order","beside","i","j","found","k","place","other","seen","waits","one"] ["size","links","order"] (bf wN):=cC
theorem N2(T:Txt K mg t):bE P w K mg base b6 2 t.nK t.qk ["size","links","order"] MD:=by
 have S:=N1
 refine T.qK.cW S (fun _ _ _ _ H _ _ _ hr h=>?_)
 obtain ⟨lt,a,n,us,L,o,rfl,elt,hL,ok,Fl,l2,RO,RP,ea,ho,kk⟩:=h
 have og:=hr.units
 have lo:=iA ho
 have Fm:=jG ho
 have qT:((List.range n).map fun i:Nat=>V.int (0+(i:Int))).length=n:=by rw [aJ,da]
 refine ⟨_,(aA (pf (i0:=3) (N:=["k"]) (ρ:=(fun σ=>[])) (eA [] rfl) rfl S.nd rfl (Or.inl rfl) (fb rfl T.dD (af (pv 0) ak)) (fun _ _ _=>.nil) (fun _ _ _=>(fe ak)))
  (aA (en eh rfl (uN (pv 1)) (mC rfl (f_ (cM (i:=4) S.nd rfl (Or.inl rfl)) (f_ (cM (i:=5) S.nd rfl (Or.inl rfl)) mB)))
   (aA (iP (lh ji oK oM ki (aC dJ (pv 3) (pv 4)) (af (pv 5) ak)))
  (aF (iP (lh ji oK oM ki (aC dJ (pv 3) (pv 5)) (af (pv 4) ak))))))
  (aA (pf (i0:=6) (N:=["k"]) (ρ:=(fun σ=>[])) (eA [] rfl) rfl S.nd rfl (Or.inl rfl) (fb rfl T.dD (af (pv 0) ak)) (fun _ _ _=>.nil) (fun _ _ _=>(fe ak)))
  (aA (en eh rfl (fb rfl T.dD (af (pv 0) ak)) (cM (i:=7) S.nd rfl (Or.inl rfl))
   (aA (putL 8 S.nd (aC dJ (pv 2) (pv 7)))
  (aF (en eh rfl (iQ (BQ BY (pv 2) (BO (aO dg (pv 7) ao)) BN)) (cM (i:=9) S.nd rfl (Or.inl rfl))
   (aA (putL 10 S.nd (fe (af (pv 8) ak)))
  (aA (putL 11 S.nd (fe (af (pv 8) ak)))
  (aF (Gp eh (bN (JT og) (pv 11) (fe ak)) (aF (en eh rfl (iQ (aC dJ (pv 3) (B1 ji PySem.F.slot_list_pop PySem.F.type_list_pop HE (pv 11)))) (cM (i:=12) S.nd rfl (Or.inl rfl))
   (aA (bM (PW.pt (pw_and (bN b5 (pv 12) (pv 9)) (pw_and1 (oV (Dm (K:=K)) (pv 9) (aC dJ (pv 6) (pv 8)) rfl)))) (aF (iP (lh ji oK oM ki (aC dJ (pv 6) (pv 8)) (af (pv 9) ak)))) bL)
  (aF (bM (PW.pt (pw_and (oV (Dm (K:=K)) (pv 12) (pv 10) rfl) (pw_and1 (oV (KN (K:=K)) (pv 12) (BQ BY (pv 2) BN (BO (pv 7))) rfl)))) (aA (iP (lh ji oK oM ki (pv 10) (af (pv 12) ak)))
  (aF (iP (lh ji oK oM ki (pv 11) (af (pv 12) ak))))) bL)))))))))))))
  (aF (a7 (ig (N:=["row"]) (ρ:=(fun σ=>[])) (eA [] rfl) rfl (iQ (pv 6)) (fun _ _ _=>.nil) (fun _ _ _=>(bI vE rfl T.qS rG (af (pv 0) ak)))))))))),?_⟩
 refine ar fun _ hR=>bG (pj (xs:=(List.range n).map fun i:Nat=>V.int (0+(i:Int))) (n:=n) qT (fun R h=>⟨_,rfl,(n:Int),rfl,by lia,by lia,h _ _ (ah.refl _) (by rw [cO];exact pe)⟩) (dM (by lia)) (fun _ i y Hx=>Hx y=some (.lst [])∧H y=none) ?_ ?_ ?_)
 ·intro D i y Ha Hb ys ⟨h1,h2⟩ hy e f
  exact ⟨f y _ hy h1,h2⟩
 ·intro D i x hx Hc R sc _ kc
  exact ⟨cg _,fun p np=>kc p _ (eB (ah.refl _) np) np ⟨_,av⟩ ⟨av,none_of sc np⟩⟩
 ·intro D rs H1 nD s1 inj hA eD
  have K0:gz H1 D n rs (fun _=>[]):=⟨eD,inj,fun i hi=>(hA i hi).2,fun i hi=>(hA i hi).1.1⟩
  have fr:∀i,i<n→H (rs i)=none:=fun i hi=>(hA i hi).1.2
  refine hR _ _ ?_
  refine ar fun _ hR=>⟨_,rfl,lt,rfl,⟨_,.of (s1 _ _ elt)⟩,?_⟩
  refine uO (K:=K) (a:=lt) (xs:=us) (fun k σ Hc=>∃(g:Nat→List Nat) (v4 v5:Option V),σ=[some (.int (n:Int)),some (.ref lt),some (.ref a),some (.ref D),v4,v5,none,none,none,none,none,none,none]∧ah H Hc∧gz Hc D n rs g∧eV n (L.take k) g∧(∀a,(g a).length≤2*k)) ⟨_,_,_,rfl,s1,K0,eV.nil n,fun _=>aw _⟩ (fun k σ Hc _ ⟨_,_,_,_,sc,_⟩=>.of (sc _ _ elt)) ?_ ?_
  ·rintro k x σ Hc hx ⟨g,v4,v5,rfl,sc,KL,nb,gl⟩
   have hk:k<L.length:=by
    rw [←hL.1]
    exact (cy.mp hx).1
   obtain ⟨b,rfl,eb⟩:=hL.2 k x L[k] hx (by simp [hk])
   have pk:=ok L[k] (dv hk)
   have tk:L.take (k+1)=L.take k++[L[k]]:=by rw [rE,dR hk];rfl
   generalize L[k]=p at eb pk tk
   obtain ⟨p1,p2⟩:=p
   dsimp only at pk eb
   obtain ⟨i,rfl⟩:=iK pk.1
   obtain ⟨j,rfl⟩:=iK pk.2.2.1
   have hi:i<n:=by lia
   have hj:j<n:=by lia
   refine ⟨b,_,rfl,.of (sc _ _ eb),rfl,_,_,rfl,_,_,rfl,rfl,?_⟩
   have off:∀(Hx:Hp) (i:Nat) (o:HO),i<n→ah H Hx→ah H (upd Hx (rs i) o):=fun Hx i o hi sx a u e=>by
    rw [aM (fun z=>by rw [z,fr i hi] at e;cases e)]
    exact sx _ _ e
   have K1:=KL.snoc j hi
   have K2:=K1.snoc i hj
   have g1:=gl i
   have g2:(i9 g i j j).length≤2*k+1:=cG zh (by have:=gl j;lia)
   refine ⟨_,rfl,_,rfl,D,_,_,_,rfl,rfl,.of KL.lst,jI hi,.inl ⟨rfl,_,.of (KL.at' i hi)⟩,_,rfl,rs i,_,_,rfl,rfl,KL.at' i hi,dM (by rw [aJ];lia),?_⟩
   refine ⟨_,rfl,_,rfl,D,_,_,_,rfl,rfl,.of K1.lst,jI hj,.inl ⟨rfl,_,.of (K1.at' j hj)⟩,_,rfl,rs j,_,_,rfl,rfl,K1.at' j hj,dM (by rw [aJ];lia),?_⟩
   exact ⟨_,_,_,rfl,off _ _ _ hj (off _ _ _ hi sc),K2,by rw [tk];exact nb.snoc,fun a=>cG zh (by have:=zh (g:=g) (i:=i) (j:=j) (a:=a);have:=gl a;lia)⟩
  ·rintro σ HB ⟨g,v4,v5,rfl,sB,KB,nb,gl⟩
   rw [hL.1,jY] at nb
   rw [hL.1] at gl
   refine hR _ _ ?_
   clear hR s1 K0 hA eD
   have bb:∀x,x<n→∀b,b∈g x↔aL n L x b:=fun x hx b=>by
    rw [nb x b hx]
    constructor
    ·intro h
     refine ⟨hx,?_,h⟩
     rcases h with h | h <;> (have:=ok _ h;lia)
    ·rintro ⟨_,_,h⟩
     exact h
   refine ar fun _ hR=>bG (pj (xs:=(List.range n).map fun i:Nat=>V.int (0+(i:Int))) (n:=n) qT (fun R h=>⟨_,rfl,(n:Int),rfl,by lia,by lia,h _ _ (ah.refl _) (by rw [cO];exact pe)⟩) (dM (by lia)) (fun _ i y Hx=>Hx y=some (.lst [])∧HB y=none) ?_ ?_ ?_)
   ·intro D i y Ha Hb ys ⟨h1,h2⟩ hy e f
    exact ⟨f y _ hy h1,h2⟩
   ·intro D i x hx Hc R sc _ kc
    exact ⟨cg _,fun p np=>kc p _ (eB (ah.refl _) np) np ⟨_,av⟩ ⟨av,none_of sc np⟩⟩
   ·intro F fs H2 nF s2 inj hA eF
    have K0:gz H2 F n fs (fun _=>[]):=⟨eF,inj,fun i hi=>(hA i hi).2,fun i hi=>(hA i hi).1.1⟩
    have ff:∀i,i<n→HB (fs i)=none:=fun i hi=>(hA i hi).1.2
    refine hR _ _ ?_
    clear hR
    have Ap:=sB _ _ ea
    refine ar fun _ hR=>⟨_,rfl,(n:Int),rfl,by lia,by lia,?_⟩
    rw [cO]
    refine ju (fun k σ Hc=>∃(gf:Nat→List Nat) (v:Nat→Option V),σ=[some (.int (n:Int)),some (.ref lt),some (.ref a),some (.ref D),v 4,v 5,some (.ref F),v 7,v 8,v 9,v 10,v 11,v 12]∧ah HB Hc∧gz Hc F n fs gf∧(∀p,p<n→o.idxOf p<k→(gf p).Nodup∧eW n L o p (gf p))∧∀p,p<n→k≤o.idxOf p→gf p=[]) ⟨fun _=>[],fun i=>List.getD [none,none,none,none,v4,v5] i none,rfl,s2,K0,fun p _ h=>absurd h (oE _),fun _ _ _=>rfl⟩ ?_ ?_
    ·rintro k σ Hc hk ⟨gf,v,rfl,sc,KF,dn,un⟩
     dsimp only [cL]
     have dO:k<o.length:=by lia
     have ek:(nI o)[k]?=some (.int ((o[k]:Nat):Int)):=by
      unfold nI
      rw [bU,dR dO]
      rfl
     have hp:o[k]<n:=(dP ho).mp (dv dO)
     have ip:o.idxOf o[k]=k:=jH Fm dO
     refine ar fun _ hR=>bG ⟨_,rfl,_,rfl,a,_,_,_,rfl,rfl,.of (sc _ _ Ap),by rw [e9];exact oY ek,hR _ _ ?_⟩
     generalize o[k]=p at hp ip
     have kn:k<n:=hk
     have N3:h_ (nI o) (some (0+(k:Int)+1)) none=nI (o.drop (k+1)):=by
      rw [show (0+(k:Int)+1)=((k+1:Nat):Int) by lia,KO _ _ (by unfold nI;rw [aJ];lia)]
      unfold nI
      rw [List.map_drop]
     refine ⟨_,rfl,_,rfl,_,_,rfl,rfl,_,rfl,a,_,rfl,.of (sc _ _ Ap),fun u nu=>?_⟩
     rw [N3]
     have su:ah Hc (upd Hc u (.lst (nI (o.drop (k+1))))):=aP nu
     have eu:upd Hc u (.lst (nI (o.drop (k+1)))) u=some (.lst (nI (o.drop (k+1)))):=av
     generalize upd Hc u (.lst (nI (o.drop (k+1))))=Hu at su eu ⊢
     have uF:u≠F:=fun z=>by rw [z,KF.lst] at nu;cases nu
     have N4:∀i,i<n→u≠fs i:=fun i hi z=>by rw [z,KF.at' i hi] at nu;cases nu
     have gp:gf p=[]:=un p hp (by lia)
     refine ⟨u,rfl,⟨_,.of eu⟩,?_⟩
     refine rU (K:=K) (a:=u) (xs:=nI (o.drop (k+1))) (fun j σ He=>∃(R:List Nat) (v:Nat→Option V),σ=[some (.int (n:Int)),some (.ref lt),some (.ref a),some (.ref D),v 4,v 5,some (.ref F),some (.int (0+(k:Int))),some (.int (p:Int)),v 9,v 10,v 11,v 12]∧ah HB He∧He u=some (.lst (nI (o.drop (k+1))))∧gz He F n fs (b8 gf p R)∧R.Nodup∧∀x,x∈R↔x∈(o.drop (k+1)).take j∧Wk (aL n L) (bQ n o k) p x) ⟨[],v,rfl,sc.trans su,eu,by rw [←gp,MN];exact KF.bx fun b o _ e=>su b o e,rD,fun x=>by simp⟩ (fun j σ He _ ⟨_,_,_,_,e,_⟩=>.of e) ?_ ?_
     ·rintro j x σ He hx ⟨R,v,rfl,se,xr,KR,tZ,mR⟩
      obtain ⟨q,hq,rfl⟩:∃q:Nat,(o.drop (k+1))[j]?=some q∧x=.int (q:Int):=by
       unfold nI at hx
       rw [bU] at hx
       cases e:(o.drop (k+1))[j]? with
       | none=>rw [e] at hx;cases hx
       | some q=>rw [e] at hx;exact ⟨q,rfl,(Option.some.inj hx).symm⟩
      have tq:=take_snoc hq
      have nq:q∉(o.drop (k+1)).take j:=fun z=>by
       have:=(List.drop_sublist (k+1) o).nodup Fm
       have h2:=(List.take_sublist (j+1) (o.drop (k+1))).nodup this
       rw [tq,j7] at h2
       exact h2.2.2 q z q (bV.mpr rfl) rfl
      have qR:q∉R:=fun z=>nq ((mR q).mp z).1
      dsimp only [cL]
      refine ar fun _ hR=>bG ⟨_,rfl,by show 1≤sizeLine;decide,fun sa lZ=>hR _ _ ?_⟩
      have s1:ah He (upd He sa (.lst [.int (p:Int)])):=aP lZ
      have e1:upd He sa (.lst [.int (p:Int)]) sa=some (.lst (nI [p])):=av
      generalize upd He sa (.lst [.int (p:Int)])=H5 at s1 e1 ⊢
      refine ar fun _ hR=>bG ⟨_,rfl,by show 1≤sizeLine;decide,fun wa xt=>hR _ _ ?_⟩
      have s3:ah H5 (upd H5 wa (.lst [.int (p:Int)])):=aP xt
      have e3:upd H5 wa (.lst [.int (p:Int)]) wa=some (.lst (nI [p])):=av
      generalize upd H5 wa (.lst [.int (p:Int)])=H6 at s3 e3 ⊢
      have s6:=s1.trans s3
      have oq:He wa=none:=none_of s1 xt
      have Aq:sa≠wa:=fun z=>by rw [←z,e1] at xt;cases xt
      have N5:sa≠F:=fun z=>by rw [z,KR.lst] at lZ;cases lZ
      have Fn:wa≠F:=fun z=>by rw [z,KR.lst] at oq;cases oq
      have N6:sa≠u:=fun z=>by rw [z,xr] at lZ;cases lZ
      have Fo:wa≠u:=fun z=>by rw [z,xr] at oq;cases oq
      have Fp:∀i,i<n→fs i≠sa:=fun i hi z=>by rw [←z,KR.at' i hi] at lZ;cases lZ
      have Ar:∀i,i<n→fs i≠wa:=fun i hi z=>by rw [←z,KR.at' i hi] at oq;cases oq
      have N7:HB sa=none:=none_of se lZ
      have Fq:HB wa=none:=none_of se oq
      refine ⟨fun m σ Hw=>∃(sn ws:List Nat) (c:Bool) (ot:Option V),σ=[some (.int (n:Int)),some (.ref lt),some (.ref a),some (.ref D),v 4,v 5,some (.ref F),some (.int (0+(k:Int))),some (.int (p:Int)),some (.int (q:Int)),some (.ref sa),some (.ref wa),ot]∧m=2*(n-sn.length)+ws.length∧ah HB Hw∧Hw u=some (.lst (nI (o.drop (k+1))))∧gz Hw F n fs (b8 gf p (gB R q c))∧Hw sa=some (.lst (nI sn))∧Hw wa=some (.lst (nI ws))∧eY n (aL n L) (bQ n o k) p q none (fun _=>True) sn ws (c=true)∧ws.length≤sn.length,⟨_,[p],[p],false,_,rfl,rfl,se.trans s6,s6 _ _ xr,KR.bx fun b o _ e=>s6 b o e,s3 _ _ e1,e3,eY.start hp (by decide),aw _⟩,?_⟩
      rintro m' σ Hw ⟨sn,ws,c,ot,rfl,em,sw,As,KW,l6,jT,gE,wl⟩
      have Fs:sn.length≤n:=eU.len ⟨gE.nd,gE.lt⟩
      refine ⟨_,rfl,by show 0≤sizeLine;decide,fun le N8=>?_⟩
      have s7:ah Hw (upd Hw le (.lst [])):=aP N8
      have e7:upd Hw le (.lst []) le=some (.lst []):=av
      generalize upd Hw le (.lst [])=Hn at s7 e7 ⊢
      refine ⟨wa,le,_,rfl,rfl,.of (s7 _ _ jT),e7,_,rfl,cX (fun hz=>?_) (fun hz=>?_)⟩
      ·have Ft:ws≠[]:=fun z=>by rw [z] at hz;cases hz
       obtain ⟨fW,h,rfl⟩:∃us h,ws=us++[h]:=⟨ws.dropLast,ws.getLast Ft,(List.dropLast_concat_getLast Ft).symm⟩
       have Fe:(fW++[h]).length=fW.length+1:=by simp
       have hh:=gE.wt h (c_ _ (bV.mpr rfl))
       have hn:h<n:=gE.lt h hh
       have N9:(nI (fW++[h])).dropLast=nI fW:=by
        unfold nI
        rw [iI,cP,List.map_nil,List.dropLast_concat]
       refine ⟨_,fun _ _ h=>h,?_⟩
       refine ⟨_,rfl,_,rfl,.inl ⟨rfl,_,.of (s7 _ _ jT)⟩,wa,_,.int (h:Int),rfl,rfl,s7 _ _ jT,by unfold nI;simp,?_⟩
       rw [N9]
       have o1:∀b w,b≠wa→Hn b=some w→upd Hn wa (.lst (nI fW)) b=some w:=fun b w ne e=>by rw [aM ne];exact e
       have qY:upd Hn wa (.lst (nI fW)) wa=some (.lst (nI fW)):=av
       generalize upd Hn wa (.lst (nI fW))=H8 at o1 qY ⊢
       have xu:ah HB H8:=fun b w e=>o1 b w (fun z=>by rw [z,Fq] at e;cases e) (s7 _ _ (sw _ _ e))
       have Fu:=o1 _ _ (Ne.symm Fo) (s7 _ _ As)
       have Fv:=o1 _ _ Aq (s7 _ _ l6)
       have K8:=KW.bx fun b w hb e=>o1 b w (by rcases hb with rfl | ⟨i,hi,rfl⟩;exact Ne.symm Fn;exact Ar i hi) (s7 b w e)
       refine ⟨D,_,_,_,rfl,rfl,.of (xu _ _ KB.lst),jI hn,rs h,rfl,⟨_,.of (xu _ _ (KB.at' h hn))⟩,?_⟩
       refine rU (K:=K) (a:=rs h) (xs:=(g h).map fun k:Nat=>V.int (k:Int)) (fun i σ Hi=>∃(sn ws:List Nat) (c:Bool) (ot:Option V),σ=[some (.int (n:Int)),some (.ref lt),some (.ref a),some (.ref D),v 4,v 5,some (.ref F),some (.int (0+(k:Int))),some (.int (p:Int)),some (.int (q:Int)),some (.ref sa),some (.ref wa),ot]∧ah HB Hi∧Hi u=some (.lst (nI (o.drop (k+1))))∧gz Hi F n fs (b8 gf p (gB R q c))∧Hi sa=some (.lst (nI sn))∧Hi wa=some (.lst (nI ws))∧eY n (aL n L) (bQ n o k) p q (some h) (·∈(g h).take i) sn ws (c=true)∧ws.length≤sn.length∧h∈sn∧2*(n-sn.length)+ws.length<m') ⟨sn,fW,c,_,rfl,xu,Fu,K8,Fv,qY,gE.MK (fun b hb=>by simp at hb),by lia,hh,by lia⟩ (fun i σ Hi _ ⟨_,_,_,_,_,e,_⟩=>.of (e _ _ (KB.at' h hn))) ?_ ?_
       ·clear gE wl Fs l6 jT KW As sw em xu Fu Fv K8 qY o1
        rintro i x σ Hi hx ⟨sn,ws,c,ot,rfl,si,t5,KI,l6,jT,gE,wl,t_,lt'⟩
        obtain ⟨b,hb,rfl⟩:∃b:Nat,(g h)[i]?=some b∧x=.int (b:Int):=by
         rw [bU] at hx
         cases e:(g h)[i]? with
         | none=>rw [e] at hx;cases hx
         | some q=>rw [e] at hx;exact ⟨q,rfl,(Option.some.inj hx).symm⟩
        have ab:aL n L h b:=(bb h hn b).mp (List.mem_of_getElem? hb)
        have bn:b<n:=ab.2.1
        have tb:=take_snoc hb
        have Fs:sn.length≤n:=eU.len ⟨gE.nd,gE.lt⟩
        dsimp only [cL]
        refine ar fun Rr hR=>?_
        have fin:∀(c':Bool) (Hj:Hp),ah HB Hj→Hj u=some (.lst (nI (o.drop (k+1))))→gz Hj F n fs (b8 gf p (gB R q c'))→Hj sa=some (.lst (nI sn))→Hj wa=some (.lst (nI ws))→(c'=true↔c=true∨b=q)→Rr [some (.int (n:Int)),some (.ref lt),some (.ref a),some (.ref D),v 4,v 5,some (.ref F),some (.int (0+(k:Int))),some (.int (p:Int)),some (.int (q:Int)),some (.ref sa),some (.ref wa),some (.int (b:Int))] Hj:=fun c' Hj sj Au KJ xv Av df=>by
         refine hR _ _ ?_
         have conv:∀{lq mY:List Nat},(b∉sn∧bQ n o k b∧lq=sn++[b]∧mY=ws++[b])∨((b∈sn∨¬bQ n o k b)∧lq=sn∧mY=ws)→eY n (aL n L) (bQ n o k) p q (some h) (·∈(g h).take (i+1)) lq mY (c'=true):=fun hs=>gE.step t_ ab bn hs (fun x hx=>by rw [tb] at hx;exact (cR.mp hx).imp id bV.mp) df
         refine ⟨_,rfl,_,rfl,sa,_,rfl,.inl (.of xv),rfl,zg sn,_,rfl,cX (fun jb=>?_) (fun jb=>?_)⟩
         ·have lI:b∉sn:=fun z=>by
           have jb:(!jA (.int (b:Int)) (sn.map fun k:Nat=>V.int (k:Int)))=true:=jb
           rw [tf,aK z] at jb
           cases jb
          refine ⟨_,rfl,_,rfl,_,rfl,_,rfl,a,_,rfl,.of (sj _ _ Ap),fun w1 N_=>?_⟩
          have ec:h_ (nI o) none (some (0+(k:Int)))=nI (o.take k):=by
           rw [e9,IG]
           unfold nI
           rw [List.map_take]
          rw [ec]
          have jU:ah Hj (upd Hj w1 (.lst (nI (o.take k)))):=aP N_
          have qY:upd Hj w1 (.lst (nI (o.take k))) w1=some (.lst (nI (o.take k))):=av
          generalize upd Hj w1 (.lst (nI (o.take k)))=Hk at jU qY ⊢
          have K9:=KJ.bx fun b w _ e=>jU b w e
          refine ⟨w1,_,rfl,.inl (.of qY),rfl,zg (o.take k),_,rfl,cX (fun eX=>?_) (fun eX=>?_)⟩
          ·have eX:jA (.int (b:Int)) ((o.take k).map fun k:Nat=>V.int (k:Int))=true:=eX
           rw [tf,dm,DX ho] at eX
           have Fw:=jU _ _ xv
           have Oa:=jU _ _ Av
           have Ob:(sn++[b]).length≤n:=eU.len ⟨(conv (.inl ⟨lI,eX,rfl,rfl⟩)).nd,(conv (.inl ⟨lI,eX,rfl,rfl⟩)).lt⟩
           rw [cY,rb] at Ob
           refine ar fun _ hR=>⟨_,rfl,.inl ⟨rfl,_,.of Fw⟩,_,rfl,sa,_,_,rfl,rfl,Fw,dM (by unfold nI;rw [aJ];lia),hR _ _ ?_⟩
           have o5:∀b' w,b'≠sa→Hk b'=some w→upd Hk sa (.lst (nI sn++[V.int (b:Int)])) b'=some w:=fun b' w ne e=>by rw [aM ne];exact e
           have e5:upd Hk sa (.lst (nI sn++[V.int (b:Int)])) sa=some (.lst (nI (sn++[b]))):=by
            rw [av]
            unfold nI
            rw [iI]
            rfl
           generalize upd Hk sa (.lst (nI sn++[V.int (b:Int)]))=Hl at o5 e5 ⊢
           have Fx:=o5 _ _ (Ne.symm Aq) Oa
           refine ⟨_,rfl,.inl ⟨rfl,_,.of Fx⟩,_,rfl,wa,_,_,rfl,rfl,Fx,dM (by unfold nI;rw [aJ];lia),?_⟩
           have o6:∀b' w,b'≠wa→Hl b'=some w→upd Hl wa (.lst (nI ws++[V.int (b:Int)])) b'=some w:=fun b' w ne e=>by rw [aM ne];exact e
           have e6:upd Hl wa (.lst (nI ws++[V.int (b:Int)])) wa=some (.lst (nI (ws++[b]))):=by
            rw [av]
            unfold nI
            rw [iI]
            rfl
           generalize upd Hl wa (.lst (nI ws++[V.int (b:Int)]))=Hm at o6 e6 ⊢
           have o7:∀b' w,b'≠sa→b'≠wa→Hk b'=some w→Hm b'=some w:=fun b' w n1 n2 e=>o6 b' w n2 (o5 b' w n1 e)
           refine ⟨sn++[b],ws++[b],c',_,rfl,fun b' w e=>o7 b' w (fun z=>by rw [z,N7] at e;cases e) (fun z=>by rw [z,Fq] at e;cases e) (jU _ _ (sj _ _ e)),o7 _ _ (Ne.symm N6) (Ne.symm Fo) (jU _ _ Au),K9.bx (fun b' w tu e=>?_),o6 _ _ Aq e5,e6,conv (.inl ⟨lI,eX,rfl,rfl⟩),by rw [cY,cY,rb];lia,jV _ t_,by rw [cY,cY,rb];lia⟩
           rcases tu with rfl | ⟨i',bg,rfl⟩
           ·exact o7 _ _ (Ne.symm N5) (Ne.symm Fn) e
           ·exact o7 _ _ (Fp i' bg) (Ar i' bg) e
          ·have eX:¬jA (.int (b:Int)) ((o.take k).map fun k:Nat=>V.int (k:Int))=true:=eX
           rw [tf,dm,DX ho] at eX
           exact ⟨sn,ws,c',_,rfl,sj.trans jU,jU _ _ Au,K9,jU _ _ xv,jU _ _ Av,conv (.inr ⟨.inr eX,rfl,rfl⟩),wl,t_,lt'⟩
         ·have lI:b∈sn:=uA fun z=>jb (by
           show (!jA (.int (b:Int)) (sn.map fun k:Nat=>V.int (k:Int)))=true
           rw [tf,bj z]
           rfl)
          exact aG ⟨sn,ws,c',_,rfl,sj,Au,KJ,xv,Av,conv (.inr ⟨.inl lI,rfl,rfl⟩),wl,t_,lt'⟩
        refine ⟨_,rfl,_,rfl,rfl,_,rfl,cX (fun jb=>?_) (fun jb=>?_)⟩
        ·rw [fg] at jb
         have bq:b=q:=by have:=dc jb;lia
         have row:b8 gf p (gB R q c) p=gB R q c:=zc ..
         have xw:=KI.at' p hp
         rw [row] at xw
         refine ⟨_,rfl,_,rfl,_,rfl,F,_,_,_,rfl,rfl,.of KI.lst,jI hp,fs p,_,rfl,.inl (.of xw),rfl,zg _,_,rfl,?_⟩
         rw [tf]
         cases c with
         | true=>
          rw [aK (show q∈gB R q true from c_ _ (bV.mpr rfl))]
          exact aG (fin true Hi si t5 KI l6 jT (by simp))
         | false=>
          rw [bj (show ¬q∈gB R q false from qR)]
          refine cN ?_
          have lR:R.length≤12:=by
           have:R.length≤n:=eU.len ⟨tZ,fun x hx=>((DY ho).mp (List.mem_of_mem_take ((mR x).mp hx).1)).1⟩
           lia
          refine ⟨_,rfl,_,rfl,F,_,_,_,rfl,rfl,.of KI.lst,jI hp,.inl ⟨rfl,_,.of xw⟩,_,rfl,fs p,_,_,rfl,rfl,xw,dM (by rw [aJ];show R.length≤1000;lia),?_⟩
          have K9:=KI.snoc q hp
          rw [row,MM] at K9
          have o5:∀b' w,b'≠fs p→Hi b'=some w→upd Hi (fs p) (.lst (((gB R q false).map fun k:Nat=>V.int (k:Int))++[V.int (q:Int)])) b'=some w:=fun b' w ne e=>by rw [aM ne];exact e
          exact fin true _ (fun b' w e=>o5 b' w (fun z=>by rw [z,ff p hp] at e;cases e) (si _ _ e)) (o5 _ _ (N4 p hp) t5) K9 (o5 _ _ (Ne.symm (Fp p hp)) l6) (o5 _ _ (Ne.symm (Ar p hp)) jT) (by simp [bq])
        ·have Oc:¬b=q:=fun z=>jb (by rw [fg,z];exact aK rfl)
         exact aG (fin c Hi si t5 KI l6 jT (by simp [Oc]))
       ·rintro σ Hi ⟨sn,ws,c,ot,rfl,si,t5,KI,l6,jT,gE,wl,t_,lt'⟩
        rw [aJ,jY] at gE
        exact ⟨_,lt',sn,ws,c,_,rfl,rfl,si,t5,KI,l6,jT,gE.next fun b hb=>(bb h hn b).mpr hb,wl⟩
      ·have w0:ws=[]:=by
        cases ws with
        | nil=>rfl
        | cons x r=>exact absurd rfl hz
       subst w0
       have hd:=gE.done
       refine ⟨gB R q c,fun i=>List.getD [none,none,none,none,v 4,v 5,none,none,none,some (.int (q:Int)),some (.ref sa),some (.ref wa),ot] i none,rfl,sw.trans s7,s7 _ _ As,KW.bx fun b o _ e=>s7 b o e,?_,fun x=>?_⟩
       ·unfold gB
        split
        ·rw [j7]
         exact ⟨tZ,by simp,fun a ha c hc=>fun z=>qR (by rw [bV.mp hc] at z;rw [←z];exact ha)⟩
        ·exact tZ
       ·rw [tq,cR]
        unfold gB
        split
        ·rename_i hc
         rw [cR,mR x]
         constructor
         ·rintro (⟨h1,h2⟩ | h1)
          ·exact ⟨.inl h1,h2⟩
          ·rw [bV.mp h1]
           exact ⟨.inr (bV.mpr rfl),hd.mp hc⟩
         ·rintro ⟨h1 | h1,h2⟩
          ·exact .inl ⟨h1,h2⟩
          ·exact .inr h1
        ·rename_i hc
         rw [mR x]
         constructor
         ·rintro ⟨h1,h2⟩
          exact ⟨.inl h1,h2⟩
         ·rintro ⟨h1 | h1,h2⟩
          ·exact ⟨h1,h2⟩
          ·rw [bV.mp h1] at h2
           exact absurd (hd.mpr h2) hc
     ·rintro σ He ⟨R,v,rfl,se,xr,KR,tZ,mR⟩
      have ll:(nI (o.drop (k+1))).length=(o.drop (k+1)).length:=aJ _
      rw [ll,jY] at mR
      refine ⟨b8 gf p R,fun i=>List.getD [none,none,none,none,v 4,v 5,none,some (.int (0+(k:Int))),some (.int (p:Int)),v 9,v 10,v 11,v 12] i none,rfl,se,KR,fun p' pG h1=>?_,fun p' pG h1=>?_⟩
      ·by_cases e:p'=p
       ·subst e
        rw [zc]
        refine ⟨tZ,fun x=>?_⟩
        rw [mR x,DY ho,ip]
        constructor
        ·rintro ⟨⟨h1,h2⟩,h3⟩
         exact ⟨h1,by lia,h3⟩
        ·rintro ⟨h1,h2,h3⟩
         exact ⟨⟨h1,by lia⟩,h3⟩
       ·rw [zd e]
        have:=kH ho pG hp e
        exact dn p' pG (by lia)
      ·have e:p'≠p:=fun z=>by subst z;lia
       rw [zd e]
       exact un p' pG (by lia)
    ·rintro σ Hc ⟨gf,v,rfl,sc,KF,dn,un⟩
     refine hR _ _ ?_
     have jR:((List.range n).map fun p=>V.ref (fs p)).length=n:=by rw [aJ,da]
     have lt':∀p,p<n→o.idxOf p<n:=fun p hp=>by
      have:=(kG ((dP ho).mpr hp)).1
      lia
     refine iX (pj (xs:=(List.range n).map fun p=>V.ref (fs p)) (n:=n) jR (fun R h=>⟨_,rfl,F,rfl,⟨_,.of KF.lst⟩,h _ _ (ah.refl _) (pd (.of KF.lst))⟩) (dM (by lia)) (fun _ i y Hx=>∃ms:List Nat,Hx y=some (.lst (nI ms))∧fq n o i ms∧eW n L o i ms) ?_ ?_ ?_)
     ·rintro D i y Ha Hb ys ⟨ms,h1,h2⟩ hy e f
      exact ⟨ms,f y _ hy h1,h2⟩
     ·intro D i x hx Hd R sd _ kc
      have hi:i<n:=by
       have:=(cy.mp hx).1
       rwa [jR] at this
      have ex:x=.ref (fs i):=by
       rw [bU,iH hi] at hx
       exact (Option.some.inj hx).symm
      subst ex
      obtain ⟨Od,lw⟩:=dn i hi (lt' i hi)
      have Fy:eU n (gf i):=⟨Od,fun q hq=>((lw q).mp hq).1⟩
      have ln:=Fy.len
      refine ⟨_,rfl,fs i,(gf i).map iN,rfl,by rw [sd _ _ (KF.at' i hi),dG];rfl,by rw [aJ];lia,fun ws D2 pw so oh=>?_⟩
      obtain ⟨ms,rfl,pm⟩:=za pw
      refine kc D2 _ (aP oh) oh ⟨_,av⟩ ⟨ms,by rw [av,dG];rfl,Dk Fy (by rw [List.filter_eq_self.mpr fun q hq=>aK ((lw q).mp hq).2.1];exact pm) so,fun q=>by rw [pm.mem_iff];exact lw q⟩
     ·intro c Fz H4 nc s4 inj hA ec
      obtain ⟨g',FA⟩:∃g':Nat→List Nat,∀i,i<n→H4 (Fz i)=some (.lst (nI (g' i)))∧fq n o i (g' i)∧eW n L o i (g' i):=⟨fun i=>if h:i<n then (hA i h).1.choose else [],fun i hi=>by simp only [dif_pos hi];exact (hA i hi).1.choose_spec⟩
      exact kk H4 c Fz g' (sB.trans (sc.trans s4)) ⟨ec,fun p hp=>(FA p hp).1⟩ fun p hp=>(FA p hp).2
theorem Oe:bO ["shape","found","order","many"] ["shape","found"] (bf wX):=cC
theorem FC(T:Txt K mg t):bE P w K mg base b6 6 t.nU t.qt ["shape","found"] MG:=by
 have S:=Oe;refine T.nY.cW S (fun _ _ _ _ H _ _ _ hr h=>?_);obtain ⟨tp,f,o,N,rfl,ok,fw,oo,ef,eo,kk⟩:=h;have og:=hr.units;obtain ⟨n1,di⟩:=jM ok;have pJ:=DA ok fw;obtain ⟨lt,us,dY,elt,kj⟩:=id oo
 refine ⟨_,(aA (@uK _ _ _ _ _ _ (pv 1) (mC rfl (f_ (cM (i:=2) S.nd rfl (Or.inl rfl)) (f_ (cM (i:=3) S.nd rfl (Or.inl rfl)) mB))) (by rfl) (by rfl) (by rfl))
  (aA (bM (PW.pt (pw_or (hW (gK (bI (km (K:=K)) rfl T.jP boot_isinstance (af (pv 2) (af (kd (v:=.ty "list") rfl T.nZ boot_list rfl) ak))))) (pw_or (oV yb eP (ig (N:=["k"]) (ρ:=(fun σ=>[])) (eA [] rfl) rfl (iQ (pv 2)) (fun _ _ _=>.nil) (fun _ _ _=>(bt (E8 T) hr T.zX T.nX.kp T.zW bF (af (pv 0) ak)))) rfl) (pw_or1 (hW (gK (bt (E8 T) hr T.zX T.nX.kp T.zW bF (af (pv 3) ak)))))))) (aF (a7 eP)) bL)
  (aA (bM (bN (Jd og) (bI vE rfl T.qS rG (af (pv 2) ak)) (jz (yp rfl) rfl T.nZ boot_list (af (jz yo rfl T.dD yq (af (aC aS (pv 0) ao) ak)) ak))) (aF (a7 eP)) bL)
  (aA (bM (bN mG (aC aS (pv 0) ao) ao) (aF (a7 (fc b5 (pv 3) (bt (NU T) hr T.EB T.qL.kp T.EA bF (af (bt (N2 T) hr T.Ez T.qK.kp T.Ey bF (af (aC aS (pv 0) ao) (af (aC aS (pv 0) ao) (af (pv 2) ak)))) ak))))) bL)
  (aF (a7 (fc b5 (pv 3) (bt (Ah T) hr T.w6 T.lP.kp T.wZ u4 (af (pv 0) (af (pv 2) ak)))))))))),?_⟩
 have lo:(nI (dX N)).length=N.sz:=by unfold nI;rw [aJ,iA (jN N)]
 refine ar fun _ hR=>bG ⟨_,rfl,f,_,rfl,.of ef,rfl,_,_,rfl,_,_,rfl,rfl,hR _ _ ?_⟩;refine ar fun _ hR=>⟨_,rfl,_,_,_,true,rfl,rfl,.of (.lst eo),yt,true,rfl,aG ?_⟩;unfold Bh x5 k8 tC;refine vd (xs:=nI (dX N)) (fun R h=>⟨_,rfl,o,rfl,⟨_,.of eo⟩,h _ _ (ah.refl _) (pd (.of eo))⟩) (by rw [lo];exact dM (by lia)) (fun _ i y _=>y=.bl true) (fun _ _ _ _ _ _ h _ _=>h) ?_ ?_
 ·intro D i v hi Hc R sc _ kc
  obtain ⟨z,rfl⟩:∃z:Int,v=.int z:=by
   unfold nI at hi;rw [bU] at hi;cases e:(dX N)[i]? with
   | none=>rw [e] at hi;cases hi
   | some z=>rw [e] at hi;exact ⟨_,(Option.some.inj hi).symm⟩
  exact ⟨_,rfl,.int z,rfl,.int z,kc _ Hc (ah.refl _) rfl⟩
 ·intro D ys H1 nD s1 ja hP eD
  have ey:ys=List.replicate ys.length (V.bl true):=List.eq_replicate_iff.mpr ⟨rfl,fun y hy=>by obtain ⟨i,hi,e⟩:=oD hy;exact hP i y (by rw [←e];exact dR hi)⟩
  have e1:ys.all ie=true:=by rw [ey];simp [ie]
  have e2:jA (.bl false) ys=false:=by rw [ey];unfold jA;rw [List.any_replicate];simp [gb]
  refine ⟨D,ys,rfl,.inl (.of eD),rfl,e1,_,rfl,?_⟩;rw [e2];refine aG ⟨_,rfl,.int _,rfl,.int _,true,rfl,aG (hR _ _ ?_)⟩;refine ar fun _ hR=>⟨_,rfl,o,(dX N).map iN,rfl,by rw [s1 _ _ eo,dG];rfl,by rw [aJ,iA (jN N)];lia,fun ws D2 pw so n2=>?_⟩
  have s2:ah H1 (upd H1 D2 (.lst (ws.map V.int))):=aP n2;refine ⟨_,rfl,tp,_,_,_,rfl,rfl,.of (s2 _ _ (s1 _ _ dY)),rfl,(N.sz:Int),rfl,fun p1 jQ=>⟨p1,N.sz,rfl,av,by lia,fun l nl=>?_⟩⟩
  have d1:D2≠p1:=fun z=>by rw [←z,av] at jQ;cases jQ
  have d2:D2≠l:=fun z=>by rw [←z,aM d1,av] at nl;cases nl
  have s4:ah H (upd (upd (upd H1 D2 (.lst (ws.map V.int))) p1 (.hJ 0 (N.sz:Int))) l (.lst (gR N.sz))):=kF (kF (kF s1 n2) jQ) nl;refine ⟨D2,l,ws,(List.range N.sz).map iN,rfl,rfl,.of ?_,.of ?_,?_⟩;·rw [aM d2,aM d1,av]
  ·rw [av]
   unfold gR;rw [dG];rfl
  generalize upd (upd (upd H1 D2 (.lst (ws.map V.int))) p1 (.hJ 0 (N.sz:Int))) l (.lst (gR N.sz))=H5 at s4 ⊢;rw [Dg pw so];have io:i8 ((dX N).map iN) N.sz:=(jN N).map iN;rw [aK io];refine ⟨_,rfl,aG (hR _ _ ?_)⟩;have Aw:=s4 _ _ dY;have FD:=s4 _ _ eo;have Of:=kj.mono s4;have Og:=s4 _ _ elt;refine ar fun _ hR=>⟨_,rfl,tp,_,_,_,rfl,rfl,.of Aw,rfl,_,_,rfl,rfl,_,rfl,cX (fun hb=>?_) (fun hb=>?_)⟩
  ·have Fl:N.sz≤12:=by have:=dc hb;lia
   have l4:(aX N).length≤400:=cG (zF _) ((show ∀n∈List.range 13,pR n n≤400 by decide) _ (cp.mpr (by lia)))
   refine iX ⟨_,rfl,_,rfl,tp,_,_,_,rfl,rfl,.of Aw,rfl,_,rfl,tp,_,_,_,rfl,rfl,.of Aw,rfl,_,rfl,lt,o,N.sz,us,aX N,dX N,rfl,Og,Of,tJ,Fl,l4,tE,fun z hz=>(lN z hz).2.1,FD,jN N,fun H6 D rs g s6 la lw=>?_⟩;refine ⟨D,N.sz,rs,g,rfl,la,di,fun p hp=>cG (zf (jN N) (lw p hp).1) (by lia),fun H7 s7=>⟨rfl,?_⟩⟩
   rw [show kL N.sz g=N.fU from zQ ok lw];have:=kk H7 (s4.trans (s6.trans s7));simpa using this
  ·refine hR _ _ ?_
   refine iX ⟨_,rfl,_,rfl,_,rfl,tp,o,N.sz,aX N,(dX N).map iN,rfl,oo.mono s4,tJ,zR,di,by rw [FD,dG];rfl,by rw [aJ,iA (jN N)];lia,fun no=>absurd io no,fun o' ez jm H6 s6 g hg=>?_⟩
   have Oh:o'=dX N:=by
    have inj:∀{a b:List Nat},a.map iN=b.map iN→a=b:=fun{a b} e=>by
     have:=b9 (List.map Int.toNat) e;rw [dG,dG] at this;have An:(Int.toNat ∘ iN)=id:=by funext x;exact cO x
     rwa [An,oH,oH] at this
    exact (inj ez).symm
   subst Oh;refine ⟨rfl,?_⟩;rw [show kL N.sz g=N.fU from zQ ok hg];have:=kk H6 (s4.trans s6);simpa using this
theorem Oi:bO ["script","start","tape","told","shape","found","turn"] ["script"] (bf wY):=cC
theorem Oj(T:Txt K mg t):bE P w K mg base b6 9 t.lO t.nV ["script"] (vc K):=by
 have S:=Oi;refine T.qQ.cW S (fun _ _ _ _ H _ _ _ hr h=>?_);obtain ⟨a,ns,rfl,hS,hlen,kQ⟩:=h;have og:=hr.units
 refine ⟨_,(aA (en eh rfl (Bs rfl T.dD (af ao (af (bI (uS rfl) rfl T.tP boot_max (af ao (af (bI (BD rfl) rfl T.z8 boot_min (af ao (af (bI gP rfl T.eZ e8 (af (pv 0) ak)) ak))) ak))) ak))) (cM (i:=1) S.nd rfl (Or.inl rfl))
   (aA (putL 2 S.nd (bt (NH T) hr T.Eu T.qI.kp T.Et bF (af (pv 0) (af (pv 1) ak))))
  (aA (putL 3 S.nd (bt (NJ T) hr T.ED T.qM.kp T.EC bF (af (pv 2) ak)))
  (aA (putL 4 S.nd (bt (NP T) hr T.EF T.qN.kp T.EE bF (af (pv 3) ak)))
  (aA (putL 5 S.nd (bt (Am T) hr T.w_ T.lQ.kp T.w9 bF (af (pv 3) ak)))
  (aA (bM (PW.pt (pw_or (hW (gK (bI (km (K:=K)) rfl T.jP boot_isinstance (af (pv 5) (af (kd (v:=.ty "tuple") rfl T.n4 boot_tuple rfl) ak))))) (pw_or (bN rV (bI gP rfl T.eZ e8 (af (pv 5) ak)) ao) (pw_or1 (hW (gK (bt (FC T) hr T.zZ T.nY.kp T.zY bF (af (pv 4) (af (pv 5) ak))))))))) (aF (a7 eP)) bL)
  (aA (bM (bN rV (aC aS (pv 5) ao) (bt (NY T) hr T.EJ T.qP.kp T.EI bF (af (pv 3) (af (pv 4) ak)))) (aF (a7 eP)) bL)
  (aA (en eh rfl (fb rfl T.dD (af ao ak)) (cM (i:=6) S.nd rfl (Or.inl rfl))
   (aF (bM (PW.pt (pw_and (bN mG (aC aS (pv 4) ao) ao) (pw_and1 (bN uQ (bt (Ah T) hr T.w6 T.lP.kp T.wZ u4 (af (pv 4) (af (bt (NS T) hr T.Ex T.qJ.kp T.Ew bF (af (pv 2) (af (aC aS (pv 4) ao) ak))) ak))) (aC aS (pv 5) ao))))) (aF (a7 eP)) bL)))
  (aA (iP (B1 ji PySem.F.slot_list_clear PySem.F.type_list_clear HH (aC aS (pv 5) ao)))
  (aF (bM (PW.pt (pw_or (hW (gK (bt (FC T) hr T.zZ T.nY.kp T.zY bF (af (pv 4) (af (bt (Am T) hr T.w_ T.lQ.kp T.w9 bF (af (pv 3) ak)) ak))))) (pw_or1 (bN rV (aC aS (bt (Am T) hr T.w_ T.lQ.kp T.w9 bF (af (pv 3) ak)) ao) (aC aS (pv 5) ao))))) (aF (a7 eP)) bL)))))))))))
  (aF (a7 eP))),?_⟩
 refine ar fun _ hR=>⟨_,rfl,a,_,rfl,.inl hS,_,_,rfl,_,_,rfl,_,_,rfl,⟨by decide,by decide,?_,?_⟩,?_⟩
 ·split <;> split <;> lia
 ·split <;> split <;> lia
 have cnt:∃c:Nat,c≤8∧((if (if ((ns.map V.int).length:Int)<8 then ((ns.map V.int).length:Int) else 8)>1 then (if ((ns.map V.int).length:Int)<8 then ((ns.map V.int).length:Int) else 8) else 1)-0:Int).toNat=c:=⟨_,by split <;> split <;> lia,rfl⟩
 obtain ⟨c,RQ,ec⟩:=cnt;rw [ec];refine ju (fun i σ Hc=>∃(v:Nat→Option V),σ=[some (.ref a),v 1,v 2,v 3,v 4,v 5,v 6]∧ah H Hc) ⟨fun _=>none,rfl,ah.refl _⟩ ?_ ?_
 ·rintro i σ Hc hi ⟨v,rfl,sc⟩
  have Ol:bD K Hc a (ns.map V.int):=sc.seq hS;dsimp only [cL];refine ar fun _ Ax=>bG ⟨_,rfl,_,rfl,a,ns,i,by rw [e9];rfl,Ol,by lia,fun Tp H1 s1 nT tc=>Ax _ _ ?_⟩
  refine ar fun _ Ax=>bG ⟨_,rfl,Tp,rfl,tc,fun td N H2 o2 Ay tn ok fw=>Ax _ _ ?_⟩;have s2:ah Hc H2:=fun b o e=>o2 b o (fun z=>by rw [z,nT] at e;cases e) (s1 _ _ e)
  obtain ⟨n1,di⟩:=jM ok;refine ar fun _ g7=>bG ⟨_,rfl,td,N,rfl,tn,ok,fun t0 H3 s3 Om=>g7 _ _ ?_⟩;refine ar fun _ g7=>bG ⟨_,rfl,td,N,rfl,tn.mono s3,ok,fun f o H4 s4 nf no ef eo=>g7 _ _ ?_⟩;have FE:=s3.trans s4;have FF:=tn.mono FE;have Az:=Om.mono s4;have Oo:=Ay.mono FE;have fT:f≠Tp:=(Ay.mono s3).ne nf;have oT:o≠Tp:=(Ay.mono s3).ne no;refine ar fun _ hR=>⟨_,rfl,_,_,_,true,rfl,rfl,.of (.tup ef),yt,true,rfl,aG ?_⟩;refine ⟨_,rfl,f,_,rfl,.inr (.of ef),rfl,_,rfl,aG ?_⟩;refine ⟨_,rfl,_,rfl,t0,f,o,N,rfl,ok,fw,Az,ef,eo,fun H5 s5=>⟨true,rfl,aG (hR _ _ ?_)⟩⟩;refine ar fun _ hR=>⟨_,rfl,f,_,_,_,rfl,rfl,.of (s5 _ _ ef),rfl,_,rfl,_,rfl,td,t0,N,rfl,FF.mono s5,ok,fw,Az.mono s5,fun H6 s6=>?_⟩;refine ⟨rfl,false,by simp,aG (hR _ _ ?_)⟩
  have qZ:=s5.trans s6;have FG:=FF.mono qZ;have AA:=Az.mono qZ;have FH:=Oo.mono qZ;have AB:=qZ _ _ ef;have FI:=qZ _ _ eo;have dq:∀{Hd:Hp},bJ Tp H6 Hd→∀b xs,H6 b=some (.tup xs)→Hd b=some (.tup xs):=fun{Hd} od b xs e=>od b _ (fun z=>by obtain ⟨x,ex⟩:=FH;rw [z,ex] at e;cases e) e
  have FJ:∀{Hd:Hp},(∀b xs,H6 b=some (.tup xs)→Hd b=some (.tup xs))→ToldN Hd td N:=fun{Hd} k=>by
   cases N with
   | tree as=>obtain ⟨ta,h1,h2⟩:=FG;exact ⟨ta,k _ _ h1,k _ _ h2⟩
   | _=>exact k _ _ FG
  refine ar fun _ hR=>⟨2,rfl,by decide,by decide,?_⟩
  refine ju (fun j σ Hd=>∃(v6:Option V),σ=[some (.ref a),some (.int (0+(i:Int))),some (.ref Tp),some (.ref td),some (.ref t0),some (.ref f),v6]∧bJ Tp H6 Hd∧dB Hd Tp) ⟨_,rfl,bJ.refl _ _,FH⟩ ?_ ?_
  ·rintro j σ Hd hj ⟨v6,rfl,od,AD⟩
   dsimp only [cL];have Oq:=AA.dq (dq od);obtain ⟨lt,us,dY,elt,kj⟩:=id Oq;refine ⟨_,rfl,t0,_,_,_,rfl,rfl,.of dY,rfl,_,_,rfl,rfl,_,rfl,cX (fun hb=>?_) (fun hb=>aG ⟨_,rfl,od,AD⟩)⟩;refine ⟨_,rfl,_,rfl,_,rfl,t0,_,_,_,rfl,rfl,.of dY,rfl,Tp,N.sz,rfl,AD,di,fun D o' H7 o7 Ot nD eD po=>?_⟩;have AE:=od.trans o7;refine ⟨t0,D,N.sz,aX N,o'.map iN,rfl,AA.dq (dq AE),tJ,zR,di,by rw [eD,dG];rfl,by rw [aJ,iA po];lia,fun no=>absurd (po.map iN) no,fun RR ez ho H8 s8 g hg=>?_⟩
   refine ⟨_,rfl,f,_,_,_,rfl,rfl,.of (s8 _ _ (AE _ _ fT AB)),rfl,_,_,rfl,rfl,false,?_,aG ⟨_,rfl,AE.trans (bJ.of s8),Ot.mono s8⟩⟩;have:=Mx ok ho hg;have h2:¬((kL N.sz g:Int)<(N.fU:Int)):=by unfold kL;lia
   show V.bl (decide _)=_;rw [bj h2]
  ·rintro σ Hd ⟨v6,rfl,od,AD⟩
   refine hR _ _ ?_;have n8:=od _ _ fT AB;have FK:=od _ _ oT FI;refine ar fun _ hR=>⟨_,rfl,f,_,_,_,rfl,rfl,.of n8,rfl,.inl ⟨rfl,_,.of FK⟩,o,_,rfl,rfl,FK,hR _ _ ?_⟩;have o9:∀b w,b≠o→Hd b=some w→upd Hd o (.lst []) b=some w:=fun b w ne e=>by rw [aM ne];exact e
   generalize upd Hd o (.lst [])=H9 at o9 ⊢;have t9:∀b xs,H6 b=some (.tup xs)→H9 b=some (.tup xs):=fun b xs e=>o9 b _ (fun z=>by rw [z,FI] at e;cases e) (dq od b xs e)
   have Ou:∀b w,H b=some w→H9 b=some w:=fun b w e=>by
    have e1:=sc _ _ e;have bT:b≠Tp:=fun z=>by rw [z,nT] at e1;cases e1
    have e2:=s3 _ _ (s2 _ _ e1);have bo:b≠o:=fun z=>by rw [z,no] at e2;cases e2
    exact o9 b w bo (od b w bT (qZ _ _ (s4 _ _ e2)))
   refine ⟨_,rfl,_,rfl,td,N,rfl,FJ t9,ok,fun f2 o2 Ha sa RS RT Ov Ow=>?_⟩;refine ⟨t0,f2,o2,N,rfl,ok,fw,(AA.dq t9).mono sa,Ov,Ow,fun Hb sb=>⟨true,rfl,aG ?_⟩⟩;have AF:=sa.trans sb;refine ⟨_,rfl,td,N,rfl,(FJ t9).mono AF,ok,fun f3 o3 He se RU RV Ox RW=>?_⟩;refine ⟨f3,_,_,_,rfl,rfl,.of Ox,rfl,_,rfl,f,_,_,_,rfl,rfl,.of (se _ _ (AF _ _ (t9 _ _ AB))),rfl,rfl,false,by simp,aG ?_⟩
   exact ⟨fun i'=>List.getD [none,some (.int (0+(i:Int))),some (.ref Tp),some (.ref td),some (.ref t0),some (.ref f),v6] i' none,rfl,fun b w e=>se _ _ (AF _ _ (Ou b w e))⟩
 ·rintro σ Hc ⟨v,rfl,sc⟩
  refine hR _ _ ?_;exact kQ _
theorem Oy{l:PySem.W.OpenLaw}(T:Txt K mg t):∃fd:FuncData,(∀(s:Shared) (v:Value),BindsTo s fd ⟨[v],[]⟩ [("script",v)])∧∀base:Heap,K.In base→base.Ns mainGlobals mg→bE l.prog w K mg base b6 9 t.lO fd ["script"] (vc K):=by obtain ⟨oc,od,kV,doc,pm,an,bH,ct,jx,e,lk,f9⟩:=T.qQ.ex;refine ⟨t.nV,fun s v=>?_,fun base _ _=>Oj T⟩;rw [e];exact .of_eq rfl
end
theorem walk{l:PySem.W.OpenLaw}{q:Program}{loose:List Str}{XP:(Str→Option Value)→Heap→Prop}{YP:World→Heap→Prop}{d:DefRec}{K:Params→PySem.W.Frag}(hn:l.most=some 63)(r9:d.params.defaults=[])
  (hY:∀(w:World) (h:Heap),YP w h→(K w.params).In h)
  (F:∀(w:World) (mg:cJ) (fa:Addr) (h:Heap),(K w.params).In h→h.Ns mainGlobals mg→mg d.name=some (.ref fa)→
   ∃fd:FuncData,(∀(s:Shared) (u:Value),BindsTo s fd ⟨[u],[]⟩ [("script",u)])∧∀base:Heap,(K w.params).In base→base.Ns mainGlobals mg→bE l.prog w (K w.params) mg base b6 9 fa fd ["script"] (vc (K w.params))) :
  PySem.W.WalkO q loose XP YP l.row.toRowW d [] (fun f vs=>PySem.call f vs):=
 L2.Ia (n:=63) (k:=9) (x:="script") (CX:=fun _=>b6) (sp:=fun w=>vc (K w.params)) hn (by decide) r9 ⟨rfl,by decide,by decide⟩ hY F (fun _ _ a ns hl _ hS=>⟨a,ns,rfl,hS,hl,fun _=>rfl⟩) fun _ _ _ _ _ z=>z
theorem Oz{K:aH}{h:Heap}{mg:cJ}(X:K.In h)(G:h.Ns mainGlobals mg)
  {qu:Addr}
  {jO:Addr}
  {OA:Tok}
  {mZ m4 m5 m6 m7 m8 m9 m_ ng ni nj nk nr nt nz nB nC nE nG nH nJ nK nM nN nO nQ nR nS nU lO:Addr} {pW pX pY pZ p4 p5 p6 p7 p8 p9 p_ qa qb qc qd qe qf qg qh qi qj qk ql qm qo qp qq qr qt nV:FuncData}
  (AG:PySem.W.nsIn K mainGlobals "NoShape"=some (some (.ref qu)))
  (AH:PySem.W.nsIn K mainGlobals "NoOrder"=some (some (.ref jO)))
  (OB:mg "is_whole"=some (.ref mZ))
  (kM:aV K "is_whole" wc mZ pW)
  (OC:mg "is_place"=some (.ref m4))
  (nW:aV K "is_place" we m4 pX)
  (OD:mg "neighbours"=some (.ref m5))
  (qv:aV K "neighbours" wg m5 pY)
  (OE:mg "is_order"=some (.ref m6))
  (qw:aV K "is_order" wj m6 pZ)
  (OF:mg "check_order"=some (.ref m7))
  (qx:aV K "check_order" wm m7 p4)
  (OG:mg "turns_of"=some (.ref m8))
  (qy:aV K "turns_of" wo m8 p5)
  (OH:mg "link_all"=some (.ref m9))
  (qz:aV K "link_all" wq m9 p6)
  (OI:mg "later"=some (.ref m_))
  (qA:aV K "later" wu m_ p7)
  (OJ:mg "place_deeds"=some (.ref ng))
  (qB:aV K "place_deeds" wx ng p8)
  (OK:mg "deeds"=some (.ref ni))
  (lP:aV K "deeds" wA ni p9)
  (OL:mg "is_size"=some (.ref nj))
  (kN:aV K "is_size" wB nj p_)
  (OM:mg "are_aheads"=some (.ref nk))
  (qC:aV K "are_aheads" wC nk qa)
  (ON:mg "is_known"=some (.ref nr))
  (qD:aV K "is_known" wD nr qb)
  (OO:mg "size_of"=some (.ref nt))
  (qE:aV K "size_of" wF nt qc)
  (OP:mg "are_linked"=some (.ref nz))
  (qF:aV K "are_linked" wG nz qd)
  (OQ:mg "named"=some (.ref nB))
  (qG:aV K "named" wH nB qe)
  (OR:mg "best"=some (.ref nC))
  (lQ:aV K "best" wI nC qf)
  (OS:mg "_law_acell"=some (.ref nE))
  (qH:aV K "_law_acell" wJ nE qg)
  (OT:mg "_law_atape"=some (.ref nG))
  (qI:aV K "_law_atape" wK nG qh)
  (OU:mg "_law_adigit"=some (.ref nH))
  (iD:aV K "_law_adigit" wL nH qi)
  (OV:mg "_law_aorder"=some (.ref nJ))
  (qJ:aV K "_law_aorder" wM nJ qj)
  (OW:mg "_law_alater"=some (.ref nK))
  (qK:aV K "_law_alater" wN nK qk)
  (OX:mg "_law_adeeds"=some (.ref nM))
  (qL:aV K "_law_adeeds" wO nM ql)
  (OY:mg "_law_awhole"=some (.ref nN))
  (nX:aV K "_law_awhole" wQ nN qm)
  (OZ:mg "_law_aname"=some (.ref nO))
  (qM:aV K "_law_aname" wR nO qo)
  (O0:mg "_law_anamed"=some (.ref nQ))
  (qN:aV K "_law_anamed" wU nQ qp)
  (O1:mg "_law_abeside"=some (.ref nR))
  (qO:aV K "_law_abeside" wV nR qq)
  (O2:mg "_law_adue"=some (.ref nS))
  (qP:aV K "_law_adue" wW nS qr)
  (O3:mg "_law_aorder_right"=some (.ref nU))
  (nY:aV K "_law_aorder_right" wX nU qt)
  (O4:mg "law"=some (.ref lO))
  (qQ:aV K "law" wY lO nV)
  (AI:PySem.W.nsIn K mainGlobals "ValueError"=some none)
  (AJ:PySem.W.nsIn K mainGlobals "all"=some none)
  (AK:PySem.W.nsIn K mainGlobals "any"=some none)
  (AL:PySem.W.nsIn K mainGlobals "bool"=some none)
  (AM:PySem.W.nsIn K mainGlobals "enumerate"=some none)
  (AN:PySem.W.nsIn K mainGlobals "int"=some none)
  (AO:PySem.W.nsIn K mainGlobals "isinstance"=some none)
  (AQ:PySem.W.nsIn K mainGlobals "len"=some none)
  (AR:PySem.W.nsIn K mainGlobals "list"=some none)
  (AS:PySem.W.nsIn K mainGlobals "max"=some none)
  (AU:PySem.W.nsIn K mainGlobals "min"=some none)
  (AV:PySem.W.nsIn K mainGlobals "range"=some none)
  (AW:PySem.W.nsIn K mainGlobals "reversed"=some none)
  (AX:PySem.W.nsIn K mainGlobals "sorted"=some none)
  (AY:PySem.W.nsIn K mainGlobals "sum"=some none)
  (AZ:PySem.W.nsIn K mainGlobals "tuple"=some none)
  (A0:PySem.W.nsIn K mainGlobals "zip"=some none)
  (A1:PySem.W.nsIn K mainGlobals "MOST"=some (some (.int 60 OA)))
  (A2:PySem.W.excIn K qu [.type "ValueError",.type "Exception",.type "BaseException",.type "object"] "ValueError.__new__"=true)
  (A3:PySem.W.excIn K jO [.type "ValueError",.type "Exception",.type "BaseException",.type "object"] "ValueError.__new__"=true)
  : ∃t:zT,Txt K mg t:=by
 refine ⟨⟨mZ,pW,m4,pX,m5,pY,m6,pZ,m7,p4,m8,p5,m9,p6,m_,p7,ng,p8,ni,p9,nj,p_,nk,qa,nr,qb,nt,qc,nz,qd,nB,qe,nC,qf,nE,qg,nG,qh,nH,qi,nJ,qj,nK,qk,nM,ql,nN,qm,nO,qo,nQ,qp,nR,qq,nS,qr,nU,qt,lO,nV,qu,jO⟩,?_⟩
 exact {
  kM:=kM
  tL:=kM.cE
  tM:=OB
  nW:=nW
  zU:=nW.cE
  zV:=OC
  qv:=qv
  D3:=qv.cE
  D4:=OD
  qw:=qw
  D5:=qw.cE
  D6:=OE
  qx:=qx
  D7:=qx.cE
  D8:=OF
  qy:=qy
  D9:=qy.cE
  D_:=OG
  qz:=qz
  Ea:=qz.cE
  Eb:=OH
  qA:=qA
  Ec:=qA.cE
  Ed:=OI
  qB:=qB
  Ee:=qB.cE
  Ef:=OJ
  lP:=lP
  wZ:=lP.cE
  w6:=OK
  kN:=kN
  tN:=kN.cE
  tO:=OL
  qC:=qC
  Eg:=qC.cE
  Eh:=OM
  qD:=qD
  Ei:=qD.cE
  Ej:=ON
  qE:=qE
  Ek:=qE.cE
  El:=OO
  qF:=qF
  Em:=qF.cE
  En:=OP
  qG:=qG
  Eo:=qG.cE
  Ep:=OQ
  lQ:=lQ
  w9:=lQ.cE
  w_:=OR
  qH:=qH
  Er:=qH.cE
  Es:=OS
  qI:=qI
  Et:=qI.cE
  Eu:=OT
  iD:=iD
  lS:=iD.cE
  lU:=OU
  qJ:=qJ
  Ew:=qJ.cE
  Ex:=OV
  qK:=qK
  Ey:=qK.cE
  Ez:=OW
  qL:=qL
  EA:=qL.cE
  EB:=OX
  nX:=nX
  zW:=nX.cE
  zX:=OY
  qM:=qM
  EC:=qM.cE
  ED:=OZ
  qN:=qN
  EE:=qN.cE
  EF:=O0
  qO:=qO
  EG:=qO.cE
  EH:=O1
  qP:=qP
  EI:=qP.cE
  EJ:=O2
  nY:=nY
  zY:=nY.cE
  zZ:=O3
  qQ:=qQ
  MO:=qQ.cE
  EK:=O4
  EL:=cj X G AG
  EM:=cj X G AH
  MP:=eO X G AI
  z5:=eO X G AJ
  MQ:=eO X G AK
  z6:=eO X G AL
  z7:=eO X G AM
  xb:=eO X G AN
  jP:=eO X G AO
  eZ:=eO X G AQ
  nZ:=eO X G AR
  tP:=eO X G AS
  z8:=eO X G AU
  dD:=eO X G AV
  EN:=eO X G AW
  qS:=eO X G AX
  z9:=eO X G AY
  n4:=eO X G AZ
  MR:=eO X G A0
  EO:=⟨_,cj X G A1,_,rfl⟩
  ER:=A2
  ES:=A3
 }
end My
namespace PySem.W.Fast
def tw15324950151271303644:Unit:=()
def tw17329044742936160053:Unit:=()
def tw14167402429566991299:Unit:=()
def tw16479302105320490673:Unit:=()
def tw16794705045152733033:Unit:=()
def tw11329638617869760321:Unit:=()
def tw3738224455033728723:Unit:=()
def tw3025217409830518733:Unit:=()
def tw4536998617145841840:Unit:=()
def tw16194313365981690104:Unit:=()
def tw7190107009120262383:Unit:=()
def tw935648925130928422:Unit:=()
def tw7082816472461546032:Unit:=()
def tw541773330649332362:Unit:=()
def tw14174557863029429766:Unit:=()
def tw12465080922088180486:Unit:=()
def tw11864581748428827831:Unit:=()
def tw10971615952070287823:Unit:=()
def tw2374991741866284407:Unit:=()
def tw10456911994501305149:Unit:=()
def tw2613557170940980401:Unit:=()
def tw11894191624248640535:Unit:=()
def tw13907958453123580185:Unit:=()
def tw16368654888310903956:Unit:=()
def tw17699258164273273663:Unit:=()
def tw4915398708543635117:Unit:=()
def tw17926104171586273418:Unit:=()
def tw5058795432750428184:Unit:=()
def tw9913127684663550380:Unit:=()
def tw2516811735540497795:Unit:=()
def tw5781251969765523256:Unit:=()
def tw13136607179293675196:Unit:=()
def tw1934448598410597417:Unit:=()
def tw12664544623896884079:Unit:=()
def tw12570770466622720561:Unit:=()
def tw6742446037619777369:Unit:=()
def tw7588213099771106384:Unit:=()
def tw7675339741598728807:Unit:=()
def tw4788466652831820807:Unit:=()
def tw1743595500675197215:Unit:=()
def tw12326748777058174998:Unit:=()
def tw3737821607887158952:Unit:=()
def tw16701364562962544272:Unit:=()
def tw11600131664180815477:Unit:=()
def tw2817434621578911759:Unit:=()
def tw13289184799938317303:Unit:=()
def tw17611726468067432479:Unit:=()
def tw6388751635500691747:Unit:=()
def tw9884406981821627723:Unit:=()
def tw3826651389510713619:Unit:=()
def tw7019386135416755309:Unit:=()
def tw10913702031997632636:Unit:=()
def tw9511382924295645505:Unit:=()
def tw10886537626582520930:Unit:=()
def tw15230321444183989082:Unit:=()
def tw16423882821703659870:Unit:=()
def tw12842336841740835650:Unit:=()
def tw7180566436341990119:Unit:=()
def tw13219157711961212913:Unit:=()
def tw18114923210216978644:Unit:=()
def tw15784872542766973881:Unit:=()
def tw7410506183717643514:Unit:=()
def tw10557395783419051182:Unit:=()
def tw11132154515945541574:Unit:=()
def tw6962657318497471237:Unit:=()
def tw12324491136324486912:Unit:=()
def tw8738079950234713637:Unit:=()
def tw8863848865781851882:Unit:=()
def tw18420601065376265024:Unit:=()
def tw2712894929226703578:Unit:=()
def tw8799903276054401841:Unit:=()
def tw13587125249015645908:Unit:=()
def tw8541642052410115706:Unit:=()
def tw7559191473837199915:Unit:=()
def tw10132006735816226905:Unit:=()
def tw1252382887390801436:Unit:=()
def tw3812489184888096229:Unit:=()
def tw228286590268404925:Unit:=()
def tw11220241643901904731:Unit:=()
def tw961973579211394677:Unit:=()
def tw11069449653635203091:Unit:=()
def tw7156413641802777865:Unit:=()
def tw15201271103196252320:Unit:=()
def tw17646901059865956379:Unit:=()
def tw1944749057698960822:Unit:=()
def tw18117422489934897704:Unit:=()
def tw11898502520402687643:Unit:=()
def tw3958811111384590423:Unit:=()
def tw7627340786775524109:Unit:=()
def tw14686944044468379087:Unit:=()
def tw14617896907309097598:Unit:=()
def tw10952362587176114649:Unit:=()
def tw13806252922490022033:Unit:=()
def tw6052407458543670200:Unit:=()
def tw1007241172605205412:Unit:=()
def tw15214655708745622961:Unit:=()
def tw2114010437615102964:Unit:=()
def tw9417014834021089684:Unit:=()
def tw17737229341489074089:Unit:=()
def tw12413770728704680372:Unit:=()
def tw4513704715551288633:Unit:=()
def tw13216137577579195390:Unit:=()
def tw10496952510051227834:Unit:=()
def tw9875156682391159510:Unit:=()
def tw7952627177652675117:Unit:=()
def tw16391639005491361247:Unit:=()
def tw3973818495102821314:Unit:=()
def tw1738788733959288115:Unit:=()
def tw1534801105808293747:Unit:=()
def tw9857365759874645901:Unit:=()
def tw11537709820009575924:Unit:=()
def tw10016867575571696760:Unit:=()
def tw11516795589731220332:Unit:=()
def tw13116719254277769835:Unit:=()
def tw6647057359035903836:Unit:=()
def tw12237486954526769682:Unit:=()
def tw4648003173701706902:Unit:=()
def tw6055578758398580292:Unit:=()
def tw4740337133898989301:Unit:=()
def tw427146870220758227:Unit:=()
def tw12058911104390559434:Unit:=()
def tw7482186167662216471:Unit:=()
def tw9925253994272713005:Unit:=()
def tw16683703789136490950:Unit:=()
def tw12937437853667510198:Unit:=()
def tw14438370141550667962:Unit:=()
def tw13047799867842938042:Unit:=()
def tw2155772338394119086:Unit:=()
def tw5080998797268649229:Unit:=()
def tw13370144366692148931:Unit:=()
def tw18045292704907690098:Unit:=()
def tw5513003101772536425:Unit:=()
def tw3678759194369215251:Unit:=()
def tw5865146320506830994:Unit:=()
def tw7244278773275909172:Unit:=()
def tw18417642314201318256:Unit:=()
def tw2313218854242922373:Unit:=()
def tw14971002154171996106:Unit:=()
def tw6381163694594352191:Unit:=()
def tw14112163122679382989:Unit:=()
def tw11715031349070492736:Unit:=()
def tw8753402286554060492:Unit:=()
def tw6928159295849380582:Unit:=()
def tw14956390028511696800:Unit:=()
def tw1584701608698187903:Unit:=()
def tw12789514118539789914:Unit:=()
def tw3552445482991415446:Unit:=()
def tw13121946805607858428:Unit:=()
def tw4054134553871494885:Unit:=()
def tw7419809580521320110:Unit:=()
def tw16807429486342215004:Unit:=()
def tw2307682824490055624:Unit:=()
def tw2397176395687074592:Unit:=()
end PySem.W.Fast
open PySem PySem.W PyProof.Rows
set_option maxRecDepth 100000 in
set_option maxHeartbeats 0 in
theorem PySem.Challenge.cw_bandwright_k46_fewest_of_named_shapes_holds : PySem.Challenge.rw_bandwright_k46_fewest_of_named_shapes.Holds := by
 w_on;o_law;k_head;(case hw=>w_witness2)
 k_fill
 refine My.walk (l:=PySem.Challenge.rw_bandwright_k46_fewest_of_named_shapes) rfl rfl (fun w h Y=>PySem.W.kIn_of Y) ?F
 case F=>
  intro w mg fa h KX G r_
  have T:∃t,My.Txt (L2.B9 KX) mg t:=by
   dsimp only [L2.B9]
   refine' My.Oz KX G ?AG ?AH (cj KX G ?O5) (L2.cF (st:=My.wc) ?O6 ?O7 ?O8) (cj KX G ?O9) (L2.cF (st:=My.we) ?O_ ?Pa ?Pb) (cj KX G ?Pc) (L2.cF (st:=My.wg) ?Pd ?Pe ?Pf) (cj KX G ?Pg) (L2.cF (st:=My.wj) ?Ph ?Pj ?Pk) (cj KX G ?Pn) (L2.cF (st:=My.wm) ?Po ?Pp ?Pq) (cj KX G ?Pu) (L2.cF (st:=My.wo) ?Pw ?Px ?Py) (cj KX G ?Pz) (L2.cF (st:=My.wq) ?PB ?PD ?PF) (cj KX G ?PJ) (L2.cF (st:=My.wu) ?PK ?PL ?PM) (cj KX G ?PN) (L2.cF (st:=My.wx) ?PR ?PU ?PV) (cj KX G ?PX) (L2.cF (st:=My.wA) ?PY ?PZ ?P0) (cj KX G ?P1) (L2.cF (st:=My.wB) ?P4 ?P5 ?P6) (cj KX G ?P7) (L2.cF (st:=My.wC) ?P8 ?P9 ?P_) (cj KX G ?Qa) (L2.cF (st:=My.wD) ?Qc ?Qd ?Qe) (cj KX G ?Qf) (L2.cF (st:=My.wF) ?Qg ?Qh ?Qi) (cj KX G ?Qj) (L2.cF (st:=My.wG) ?Qk ?Ql ?Qm) (cj KX G ?Qn) (L2.cF (st:=My.wH) ?Qo ?Qp ?Qq) (cj KX G ?Qs) (L2.cF (st:=My.wI) ?Qt ?Qu ?Qv) (cj KX G ?Qw) (L2.cF (st:=My.wJ) ?Qx ?Qy ?Qz) (cj KX G ?QA) (L2.cF (st:=My.wK) ?QB ?QC ?QD) (cj KX G ?QE) (L2.cF (st:=My.wL) ?QF ?QG ?QH) (cj KX G ?QI) (L2.cF (st:=My.wM) ?QJ ?QK ?QL) (cj KX G ?QM) (L2.cF (st:=My.wN) ?QN ?QO ?QS) (cj KX G ?QT) (L2.cF (st:=My.wO) ?QU ?QV ?QW) (cj KX G ?QX) (L2.cF (st:=My.wQ) ?QY ?QZ ?Q0) (cj KX G ?Q2) (L2.cF (st:=My.wR) ?Q3 ?Q4 ?Q5) (cj KX G ?Q6) (L2.cF (st:=My.wU) ?Q7 ?Q8 ?Q9) (cj KX G ?Q_) (L2.cF (st:=My.wV) ?Ra ?Rb ?Rc) (cj KX G ?Rf) (L2.cF (st:=My.wW) ?Rg ?Rh ?Ri) (cj KX G ?Rj) (L2.cF (st:=My.wX) ?Rk ?Rm ?Rn) (cj KX G ?Ro) (L2.cF (st:=My.wY) ?Rp ?Rq ?Rt) ?AI ?AJ ?AK ?AL ?AM ?AN ?AO ?AQ ?AR ?AS ?AU ?AV ?AW ?AX ?AY ?AZ ?A0 ?A1 ?A2 ?A3
   (case AG|AH|O5|O6|O7|O8|O9|O_|Pa|Pb|Pc|Pd|Pe|Pf|Pg|Ph|Pj|Pk|Pn|Po|Pp|Pq|Pu|Pw|Px|Py|Pz|PB|PD|PF|PJ|PK|PL|PM|PN|PR|PU|PV|PX|PY|PZ|P0|P1|P4|P5|P6|P7|P8|P9|P_|Qa|Qc|Qd|Qe|Qf|Qg|Qh|Qi|Qj|Qk|Ql|Qm|Qn|Qo|Qp|Qq|Qs|Qt|Qu|Qv|Qw|Qx|Qy|Qz|QA|QB|QC|QD|QE|QF|QG|QH|QI|QJ|QK|QL|QM|QN|QO|QS|QT|QU|QV|QW|QX|QY|QZ|Q0|Q2|Q3|Q4|Q5|Q6|Q7|Q8|Q9|Q_|Ra|Rb|Rc|Rf|Rg|Rh|Ri|Rj|Rk|Rm|Rn|Ro|Rp|Rq|Rt|AI|AJ|AK|AL|AM|AN|AO|AQ|AR|AS|AU|AV|AW|AX|AY|AZ|A0|A1=>k_is)
   (case A2|A3=>k_exc)
  obtain ⟨t,T⟩:=T
  have e0:=r_.symm.trans T.EK
  cases e0
  exact My.Oy T
#print axioms PySem.Challenge.cw_bandwright_k46_fewest_of_named_shapes_holds
