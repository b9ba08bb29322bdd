import PyProof.Rows.All
import Wide.All
import OpenK.AllK
import Wide.FinOn
import Lean
import PyProof.EqAt
import PyProof.EqKinds
import PyProof.TupleCall
import PySem.Challenge.RW_bandwright_k28_worths_looked_at
set_option Elab.async false
set_option linter.all false
set_option maxRecDepth 100000
abbrev b3:=@decide_eq_false
abbrev zQ:=@beq_eq_false_iff_ne
abbrev C9:=@List.getElem?_eq_none_iff
abbrev aj:=@if_pos
abbrev aa:=@if_neg
abbrev aZ:=@PySem.Heap.lt_size
abbrev dA:=@Nat.lt_of_lt_of_le
abbrev dI:=@Nat.lt_irrefl
abbrev bM:=@Nat.ne_of_lt
abbrev zR:=@PySem.W.hideAll_get
abbrev cG:=@List.mem_filter
abbrev cu:=@List.mem_range
abbrev a9:=@Nat.le_trans
abbrev xl:=@Nat.le_of_lt
abbrev zS:=@List.filterMap_cons
abbrev cw:=@List.mem_cons_self
abbrev cA:=@List.mem_cons_of_mem
abbrev bU:=@List.mem_cons
abbrev cH:=@List.mem_append
abbrev xo:=@List.mem_append_left
abbrev bx:=@List.getElem?_eq_some_iff
abbrev zT:=@List.getElem_inj
abbrev bJ:=@PySem.wpAny_mono
abbrev nR:=@PySem.wpAny_truthy_bool
abbrev fA:=@Array.length_toList
abbrev eL:=@congrArg
abbrev zU:=@PySem.wpAny_execs_nil
abbrev ae:=@PySem.wpAny_bind
abbrev gX:=@PySem.wpAny_holding
abbrev qr:=@PySem.wpAny_standAt
abbrev qt:=@PySem.wpAny_passesOwn
abbrev cj:=@Bool.false_ne_true
abbrev aB:=@PySem.wpAny_pure
abbrev t7:=@Bool.false_and
abbrev C_:=@PySem.wpAny_pyIter_rangeiter
abbrev zV:=@PySem.wpAny_pyIter_list
abbrev bK:=@PySem.Heap.get?_push_of_some
abbrev cK:=@PySem.Heap.get?_push_size
abbrev aC:=@Nat.le_refl
abbrev xp:=@PyProof.Rows.callWith_type1
abbrev dR:=@List.mem_append_right
abbrev bG:=@Nat.zero_le
abbrev nV:=@Bool.eq_iff_iff
abbrev gY:=@PySem.sizeLine_eq
abbrev b4:=@List.size_toArray
abbrev jy:=@PySem.W.kia_one
abbrev t8:=@List.append_nil
abbrev xq:=@PySem.wpAny_Call_Name_kw
abbrev fB:=@List.nodup_cons
abbrev zW:=@Option.isSome_iff_exists
abbrev oW:=@List.length_take
abbrev mG:=@PySem.mem_of_lookup
abbrev gG:=@List.getElem?_append_right
abbrev gZ:=@List.getElem?_append_left
abbrev bP:=@List.getElem?_map
abbrev iz:=@List.mem_of_getElem?
abbrev c_:=@List.length_append
abbrev aG:=@List.length_map
abbrev eM:=@List.length_cons
abbrev xr:=@List.length_nil
abbrev bV:=@decide_eq_true
abbrev Dg:=@PySem.F.slot_tuple_add
abbrev Dh:=@PySem.F.entry_tuple_add
abbrev Di:=@PySem.F.args_tuple_add_2
abbrev t9:=@List.map_nil
abbrev dq:=@List.map_cons
abbrev qu:=@PySem.Heap.get?_update_self
abbrev xt:=@PySem.Heap.get?_update_other
abbrev iX:=@if_true
abbrev gg:=@if_false
abbrev xu:=@Bool.and_eq_true
abbrev xv:=@List.any_cons
abbrev Dj:=@PySem.Calls.callWith_builtin
abbrev t_:=@List.replicate_succ
abbrev xw:=@List.flatten_cons
abbrev oX:=@Nat.le_succ
abbrev jz:=@List.append_assoc
abbrev lp:=@List.length_singleton
abbrev ua:=@Bool.and_false
abbrev xx:=@Array.getElem?_toList
abbrev cx:=@PySem.W.mg_of
abbrev fg:=@Nat.lt_of_le_of_lt
abbrev Dk:=@PySem.F.typeOf_object_class
abbrev xy:=@PySem.wpAny_loadPart_at
abbrev nW:=@PySem.codeAny_builtin
abbrev ub:=@Bool.eq_false_iff
abbrev iY:=@List.all_eq_true
abbrev zX:=@PySem.wpAny_comprehension_free
abbrev g6:=@PySem.wpAny_newObj_type
abbrev zY:=@PySem.wpAny_newFunctionEnv
abbrev j7:=@PySem.lookup_relabel_local
abbrev zZ:=@PySem.wpAny_tests_nil
abbrev z5:=@PySem.wpAny_tests_one
abbrev z6:=@PySem.codeAny_compStart_list
abbrev dr:=@Int.le_of_lt
abbrev eN:=@List.getD_eq_getElem?_getD
abbrev bY:=@List.mem_singleton
abbrev dJ:=@List.length_range
abbrev Dm:=@Array.getElem?_eq_some_iff
abbrev qv:=@List.getElem?_range
abbrev cB:=@List.getElem_mem
abbrev mH:=@Nat.pow_le_pow_right
abbrev qw:=@Nat.sub_self
abbrev gh:=@List.take_length
abbrev qy:=@List.not_mem_nil
abbrev mI:=@Nat.lt_succ_of_lt
abbrev Dn:=@Classical.choose_spec
abbrev g7:=@List.ext_getElem
abbrev z7:=@List.range_succ
abbrev fC:=@List.map_append
abbrev g8:=@List.map_congr_left
abbrev aw:=@PyProof.Rows.wpS_bind
abbrev jA:=@PyProof.Rows.wpS_get
abbrev xA:=@PySem.wpAny_attempt
abbrev av:=@PyProof.Rows.wpS_pure
abbrev gm:=@PyProof.Rows.wpS_forRange
abbrev gH:=@PyProof.Rows.wpS_mono
abbrev xB:=@List.pairwise_append
abbrev xC:=@List.perm_append_comm
abbrev qz:=@List.take_append_drop
abbrev Dp:=@List.Perm.append_left
abbrev z8:=@List.take_of_length_le
abbrev uc:=@List.getElem_of_mem
abbrev lA:=@Int.le_refl
abbrev qA:=@List.pairwise_iff_getElem
abbrev lB:=@PyProof.Rows.wpS_modify
abbrev fP:=@of_decide_eq_true
abbrev dt:=@Int.le_trans
abbrev oY:=@Array.toList_push
abbrev mJ:=@Array.toList_append
abbrev j8:=@PySem.wpAny_rule
abbrev Dq:=@List.pairwise_reverse
abbrev ud:=@Array.toList_reverse
abbrev oZ:=@List.mem_reverse
abbrev o6:=@List.reverse_perm
abbrev d5:=@Nat.zero_add
abbrev xD:=@Nat.not_lt_zero
abbrev xE:=@Nat.add_zero
abbrev ue:=@Array.perm_iff_toList_perm
abbrev bg:=@List.getElem?_eq_getElem
abbrev qB:=@decide_eq_decide
abbrev bw:=@List.map_map
abbrev o7:=@PyProof.Rows.get?_update_seq
abbrev xF:=@PySem.Heap.size_update
abbrev o_:=@PySem.Heap.get?_push_ne
abbrev qC:=@PyProof.Rows.size_push'
abbrev uf:=@PySem.Heap.get?_update_ne
abbrev ug:=@PyProof.Rows.listUpdate_at
abbrev uh:=@PySem.wpAny_newList
abbrev jB:=@Bool.false_eq_true
abbrev lE:=@PySem.wpAny_call_entry
abbrev Dr:=@List.length_eq_zero_iff
abbrev mK:=@List.nodup_range
abbrev fQ:=@List.getElem_map
abbrev qD:=@List.getElem_range
abbrev qE:=@List.nodup_nil
abbrev b7:=@List.mem_map
abbrev iA:=@Int.eq_ofNat_of_zero_le
abbrev dF:=@Int.toNat_natCast
abbrev iZ:=@List.take_succ
abbrev mL:=@List.pairwise_cons
abbrev nX:=@List.nodup_append
abbrev xG:=@Nat.add_sub_cancel
abbrev z9:=@List.filter_append
abbrev j9:=@List.length_filter_le
abbrev qF:=@List.pairwise_map
abbrev xH:=@List.pairwise_lt_range
abbrev uj:=@List.find?_cons
abbrev um:=@Option.map_some
abbrev z_:=@Option.map_eq_some_iff
abbrev uo:=@PySem.tupleKind_room_in1
abbrev xI:=@PySem.wpAny_specialOf
abbrev i3:=@List.filter_cons
abbrev fR:=@decide_eq_true_iff
abbrev Aa:=@List.idxOf_lt_length_of_mem
abbrev ph:=@List.map_id
abbrev ur:=@List.perm_ext_iff_of_nodup
abbrev g9:=@List.sum_cons
abbrev xJ:=@Bool.true_and
abbrev uu:=@List.idxOf_append
abbrev Ab:=@PySem.wpAny_notOrdered_dict
abbrev i4:=@PySem.wpAny_dictEntries
abbrev uv:=@PySem.wpAny_dictEpoch
abbrev qG:=@PySem.F.slot_dict_keyiterator_next
abbrev Ac:=@PySem.wpAny_callSpecial?_slot
abbrev Ds:=@PySem.F.entry_dict_keyiterator_next
abbrev Dt:=@PySem.F.args_dict_keyiterator_next_1
abbrev uw:=@PySem.wpAny_typeNameOfWhole_keyiter
abbrev ux:=@PySem.wpAny_typeNameOf_keyiter
abbrev uy:=@Array.getElem?_eq_getElem
abbrev jC:=@PySem.Heap.SameBut.update
abbrev Ad:=@Array.getElem?_eq_none
abbrev jD:=@PySem.wpAny_of_eq
abbrev xK:=@PySem.wpAny_isInstance
abbrev xM:=@PySem.wpAny_typeOf
abbrev nY:=@PySem.plainId_quiet
abbrev uz:=@PySem.wpAny_updateSeq
abbrev xN:=@PySem.wpAny_seqItems
abbrev qH:=@PySem.wpAny_letGo
abbrev Ae:=@List.pairwise_singleton
abbrev Af:=@PySem.F.entry_min_loop
abbrev pj:=@PySem.Around.under_plainId
abbrev pA:=@PySem.F.plain_min_loop
abbrev xO:=@PySem.wpAny_tryCatch
abbrev iB:=@Int.zero_add
abbrev xP:=@List.map_eq_nil_iff
abbrev Ag:=@Classical.byContradiction
abbrev lG:=@PySem.size_of_entries
abbrev Du:=@PySem.F.slot_range_reversed
abbrev uA:=@PySem.wpAny_field
abbrev xQ:=@Bool.not_true
abbrev Ah:=@List.getElem?_of_mem
abbrev xR:=@Bool.not_false
abbrev Ai:=@PySem.Obj.data_mapDictKeys
abbrev Dv:=@List.eq_nil_of_length_eq_zero
abbrev Dw:=@PyProof.Rows.slot_tuple_getitem
abbrev gJ:=@Nat.add_le_add_left
abbrev dB:=@PySem.PassesOwn.never
abbrev fS:=@PySem.boot_len
abbrev i5:=@PySem.F.plainAttrs_list
abbrev Dy:=@PySem.F.slot_list_pop
abbrev Dz:=@PySem.F.type_list_pop
abbrev mM:=@PySem.F.slot_list_append
abbrev mO:=@PySem.F.type_list_append
abbrev uB:=@PyProof.Rows.boot_sorted
abbrev nZ:=@Int.emod_nonneg
abbrev qI:=@Int.emod_lt_of_pos
abbrev Aj:=@Int.ediv_nonneg
abbrev xS:=@Nat.mul_le_mul
abbrev gK:=@PySem.W.mg_none_of
abbrev TLL:=List (List (Int×Int))
abbrev aE:=List (Int×Int)
abbrev TNN:=Nat→Nat→Int
abbrev dC:=PySem.Str→Option PySem.Value
abbrev aJ:=PySem.Value→PySem.Shared→Prop
abbrev aK:=PySem.W.Frag
abbrev aR:=List (PySem.Addr×PySem.Obj)
namespace L2
open PySem PySem.Spec PyProof.Rows
abbrev Key:=Sum Int Str
def qJ:Key→Value→Bool
 | .inl k,v=>Value.isInt k v
 | .inr x,v=>Value.isStrOf x v
def OV(w:World):Key→Int
 | .inl k=>hashInt k
 | .inr x=>hashStr w x
theorem mP:∀{k:Key} {v:Value},qJ k v=true→(∃i t,k=Sum.inl i∧v=Value.int i t)∨(∃x t,k=Sum.inr x∧v=Value.str x t)
 | .inl i,v,h=>by obtain ⟨t,e⟩:=Value.isInt_shape (k:=i) (v:=v) h;exact .inl ⟨i,t,rfl,e⟩
 | .inr x,v,h=>by obtain ⟨t,e⟩:=Value.isStrOf_shape (x:=x) (v:=v) h;exact .inr ⟨x,t,rfl,e⟩
theorem OW(i:Int)(t:Tok):qJ (.inl i) (.int i t)=true:=by simp [qJ,Value.isInt]
theorem OX(x:Str)(t:Tok):qJ (.inr x) (.str x t)=true:=by simp [qJ,Value.isStrOf]
theorem OY(a b:Int):decide ((Sum.inl a:Key)=Sum.inl b)=(a == b):=by
 by_cases e:a=b;·subst e;simp
 ·have h:¬(Sum.inl a:Key)=Sum.inl b:=fun q=>e (Sum.inl.inj q)
  rw [b3 h];exact (zQ.mpr e).symm
theorem OZ(a b:Str):decide ((Sum.inr a:Key)=Sum.inr b)=decide (a=b):=by
 by_cases e:a=b;·subst e;simp
 ·have h:¬(Sum.inr a:Key)=Sum.inr b:=fun q=>e (Sum.inr.inj q)
  rw [b3 h,b3 e]
theorem O0(a:Int)(b:Str):decide ((Sum.inl a:Key)=Sum.inr b)=false:=b3 (fun q=>nomatch q)
theorem O1(a:Str)(b:Int):decide ((Sum.inr a:Key)=Sum.inl b)=false:=b3 (fun q=>nomatch q)
def eO(prog:Program)(w:World):PySem.KeyKind prog w Key where
 is:=qJ
 hash:=OV w
 inj:=fun v a b ha hb=>by
  rcases mP ha with ⟨i,t,rfl,rfl⟩ | ⟨x,t,rfl,rfl⟩
  ·rcases mP hb with ⟨j,u,rfl,e⟩ | ⟨y,u,rfl,e⟩
   ·injection e with e1 _;rw [e1]
   ·exact nomatch e
  ·rcases mP hb with ⟨j,u,rfl,e⟩ | ⟨y,u,rfl,e⟩
   ·exact nomatch e
   ·injection e with e1 _;rw [e1]
 byValue:=fun k v h=>by
  rcases mP h with ⟨i,t,rfl,rfl⟩ | ⟨x,t,rfl,rfl⟩ <;> rfl
 pyHash:=fun hv h=>by
  rcases mP hv with ⟨i,t,rfl,rfl⟩ | ⟨x,t,rfl,rfl⟩
  ·exact wpAny_pyHash_int h
  ·exact wpAny_pyHash_str h
 eqBool:=fun hu hv h=>by
  rcases mP hu with ⟨i,t,rfl,rfl⟩ | ⟨x,t,rfl,rfl⟩
  ·rcases mP hv with ⟨j,u,rfl,rfl⟩ | ⟨y,u,rfl,rfl⟩
   ·rw [OY] at h;exact wpAny_eqBool_int h
   ·rw [O0] at h;exact SeqAt.EqAt.int_str i t y u _ _ _ _ h
  ·rcases mP hv with ⟨j,u,rfl,rfl⟩ | ⟨y,u,rfl,rfl⟩
   ·rw [O1] at h;exact SeqAt.EqAt.str_int x t j u _ _ _ _ h
   ·rw [OZ] at h;exact wpAny_eqBool_str h
 «strs»:=fun k x t v h=>by
  rcases mP h with ⟨i,u,rfl,e⟩ | ⟨y,u,rfl,e⟩
  ·exact nomatch e
  ·injection e with e1 _
   subst e1
   cases v <;> rfl
theorem O2(prog:Program)(w:World)(i:Int)(t:Tok):(eO prog w).is (.inl i) (.int i t)=true:=OW i t
theorem O3(prog:Program)(w:World)(x:Str)(t:Tok):(eO prog w).is (.inr x) (.str x t)=true:=OX x t
inductive V where
 | aS | bl (b:Bool) | int (i:Int) | str (x:Str) | jE (b:Array UInt8) | uC (b:UInt64) | ref (a:Addr) | ty (n:String)
 deriving DecidableEq
def RelV:V→Value→Prop
 | .aS,u=>u=Value.none
 | .bl b,u=>u=Value.bool b
 | .int i,u=>∃t,u=Value.int i t
 | .str x,u=>∃t,u=Value.str x t
 | .jE b,u=>∃t,u=Value.bytes b t
 | .uC b,u=>∃t,u=Value.float b t
 | .ref a,u=>u=Value.ref a
 | .ty n,u=>u=Value.type n
abbrev Vals:List V→List Value→Prop:=Paired RelV
variable {xs:List V} {us:List Value}
theorem Vals.length(r:Vals xs us):xs.length=us.length:=Paired.length r
theorem Vals.get:∀{xs:List V} {us:List Value} {i:Nat} {x:V},Vals xs us→xs[i]?=some x→∃u,us[i]?=some u∧RelV x u
 | _,_,_,_,.nil,e=>by simp at e
 | _,_,0,_,.cons r _,e=>by simp at e;subst e;exact ⟨_,rfl,r⟩
 | _,_,i+1,x,.cons _ t,e=>by
  obtain ⟨u,h1,h2⟩:=Vals.get (i:=i) (x:=x) t (by simpa using e)
  exact ⟨u,by simpa using h1,h2⟩
theorem Vals.set{x:V}{u:Value}(r:RelV x u):∀{xs:List V} {us:List Value} (i:Nat),Vals xs us→Vals (xs.set i x) (us.set i u)
 | _,_,_,.nil=>.nil
 | _,_,0,.cons _ t=>.cons r t
 | _,_,i+1,.cons q t=>.cons q (Vals.set r i t)
theorem Vals.append:∀{xs ys:List V} {us ws:List Value},Vals xs us→Vals ys ws→Vals (xs++ys) (us++ws)
 | _,_,_,_,.nil,s=>s
 | _,_,_,_,.cons r t,s=>.cons r (Vals.append t s)
theorem Vals.take:∀{xs:List V} {us:List Value} (n:Nat),Vals xs us→Vals (xs.take n) (us.take n)
 | _,_,0,_=>.nil
 | _,_,_+1,.nil=>.nil
 | _,_,n+1,.cons r t=>.cons r (Vals.take n t)
theorem Vals.drop:∀{xs:List V} {us:List Value} (n:Nat),Vals xs us→Vals (xs.drop n) (us.drop n)
 | _,_,0,r=>r
 | _,_,_+1,.nil=>.nil
 | _,_,n+1,.cons _ t=>Vals.drop n t
theorem Vals.none_of:∀{xs:List V} {us:List Value} {i:Nat},Vals xs us→xs[i]?=none→us[i]?=none:=fun{xs us i} r e=>by have h1:=r.length;have h2:xs.length≤i:=C9.mp e;exact C9.mpr (by lia)
def jF:Option V→Option Value→Prop
 | some v,some u=>RelV v u
 | none,none=>True
 | _,_=>False
def KV{κ:Type}:List (κ×V)→List (κ×Value)→Prop:=Paired fun(p:κ×V) (q:κ×Value)=>p.1=q.1∧RelV p.2 q.2
def kV:Key→V
 | .inl i=>.int i
 | .inr x=>.str x
inductive HO where
 | lst (xs:List V)
 | tup (xs:List V)
 | dK (kvs:List (Key×V)) | dT (kvs:List (List Key×V))
 | set (S:Int→Bool) (n:Nat)
 | ins (C dx:Addr) (fs:List (Str×V))
 | own (x:Addr)
 | xd (fs:List (Str×V))
 | met (f x:Addr)
 | gp (lo hi:Int)
 | aW (o:Obj) (u:HO)
 | n4 (ps:Array Value)
 | ext (φ:Heap→Prop)
abbrev Hp:=Addr→Option HO
def upd(H:Hp)(a:Addr)(o:HO):Hp:=fun b=>if b=a then some o else H b
variable {H:Hp} {a:Addr} {o:HO}
theorem au:upd H a o a=some o:=by unfold upd;rw [aj rfl]
variable {b:Addr}
theorem aM(h:b≠a):upd H a o b=H b:=by unfold upd;rw [aa h]
theorem HI{u:HO}(h:H a=some o)(h':H b=some u)(d:o≠u):a≠b:=by intro e;subst e;rw [h] at h';exact d (Option.some.inj h')
theorem mQ(h:H a=some o)(h':H b=none):a≠b:=by intro e;subst e;rw [h] at h';cases h'
section
variable (P:Program) (w:World)
def b9(H:Hp)(h:Heap)(a:Addr):HO→Prop
 | .lst xs=>xs.length≤sizeLine∧∃(ak:List Value) (n:Nat),Vals xs ak∧h.get? a=some {cls:=.type "list",data:=.seq ak.toArray n}
 | .tup xs=>xs.length≤sizeLine∧∃ak:List Value,Vals xs ak∧IsTup h a ak.toArray
 | .dK kvs=>kvs.length≤sizeLine∧(a == sysModules)=false∧∃vs,KV kvs vs∧h.DictOf (eO P w) a vs
 | .dT kvs=>kvs.length≤sizeLine∧(a == sysModules)=false∧∃xs:List (List Key×Addr×Value),
   Paired (fun(p:List Key×V) (q:List Key×Addr×Value)=>p.1=q.1∧H q.2.1=some (.tup (p.1.map kV))∧RelV p.2 q.2.2) kvs xs ∧
   ∃o es ep,h.get? a=some o∧o.ExactDict∧o.data=.dict es ep∧es.toList=xs.map (entryOfKey (tupleKind (eO P w)))∧(xs.map (·.1)).Nodup
 | .set S n=>h.SetOf (intKind P w) a S n
 | .ins C dx fs=>H dx=some (.own a)∧fs.length≤1000∧dx≠a∧h.get? a=some (PySem.W.instObj C dx) ∧
   ∃mA,h.Ns1 dx mA∧(∀f,jF (fs.lookup f) (mA f))∧PySem.Within mA (fs.map (·.1))
 | .own _=>∃o,h.get? a=some o
 | .xd fs=>∃mA,h.Ns1 a mA∧∀f,jF (fs.lookup f) (mA f)
 | .gp lo hi=>∃t u v,h.get? a=some {cls:=.type "range",data:=.fields #[.int lo t,.int hi u,.int 1 v]}
 | .aW o u=>h.get? a=some o∧b9 H h a u
 | .n4 ps=>h.get? a=some {cls:=.none,data:=.fields ps}
 | .met f x=>h.get? a=some (PySem.W.methodObj (.ref f) (.ref x))
 | .ext φ=>φ h∧(∃o,h.get? a=some o)∧∀h1 h2:Heap,φ h1→(∀o,h1.get? a=some o→h2.get? a=some o)→φ h2
def cC(H:Hp)(h:Heap):Prop:=∀a o,H a=some o→b9 P w H h a o
end
section
variable {P:Program} {w:World} {H H':Hp} {h h':Heap} {a:Addr} {o:HO}
theorem b9.lt(x:b9 P w H h a o):a<h.objs.size:=by
 cases o with
 | lst xs=>obtain ⟨_,_,_,_,e⟩:=x;exact aZ e
 | tup xs=>obtain ⟨_,_,_,p⟩:=x;exact p.lt
 | dK kvs=>obtain ⟨_,_,_,_,o,_,_,e,_⟩:=x;exact aZ e
 | dT kvs=>obtain ⟨_,_,_,_,o,_,_,e,_⟩:=x;exact aZ e
 | set S n=>obtain ⟨o,_,_,_,e,_⟩:=x;exact aZ e
 | ins C dx fs=>obtain ⟨_,_,_,e,_⟩:=x;exact aZ e
 | own y=>obtain ⟨_,e⟩:=x;exact aZ e
 | xd fs=>obtain ⟨_,⟨_,_,_,e,_⟩,_⟩:=x;exact aZ e
 | gp lo hi=>obtain ⟨_,_,_,e⟩:=x;exact aZ e
 | aW ob u=>obtain ⟨e,_⟩:=x;exact aZ e
 | n4 ps=>exact aZ (show h.get? a=some _ from x)
 | met f y=>exact aZ (show h.get? a=some _ from x)
 | ext φ=>obtain ⟨_,⟨_,e⟩,_⟩:=x;exact aZ e
theorem Paired.Ak{α β:Type}{F G:α→β→Prop}:∀{l₁:List α} {l₂:List β},Paired F l₁ l₂→(∀a b,F a b→G a b)→Paired G l₁ l₂
 | _,_,.nil,_=>.nil
 | _,_,.cons r t,f=>.cons (f _ _ r) (Paired.Ak t f)
theorem b9.j_(x:b9 P w H h a o)(k:∀b u,(b=a∨H b=some (.own a))→h.get? b=some u→h'.get? b=some u)
  (ho:∀b,H b=some (.own a)→H' b=some (.own a)) (ht:∀b xs,H b=some (.tup xs)→H' b=some (.tup xs)):b9 P w H' h' a o:=by
 induction o with
 | lst xs=>obtain ⟨z,ak,n,r,e⟩:=x;exact ⟨z,ak,n,r,k _ _ (.inl rfl) e⟩
 | tup xs=>obtain ⟨z,ak,r,ob,e,c⟩:=x;exact ⟨z,ak,r,ob,k _ _ (.inl rfl) e,c⟩
 | dK kvs=>obtain ⟨z,y,vs,r,ob,es,ep,e,c⟩:=x;exact ⟨z,y,vs,r,ob,es,ep,k _ _ (.inl rfl) e,c⟩
 | dT kvs=>obtain ⟨z,y,xs,r,ob,es,ep,e,c⟩:=x;exact ⟨z,y,xs,Paired.Ak r fun p q z=>⟨z.1,ht _ _ z.2.1,z.2.2⟩,ob,es,ep,k _ _ (.inl rfl) e,c⟩
 | set S n=>obtain ⟨ob,es,ep,t,e,c⟩:=x;exact ⟨ob,es,ep,t,k _ _ (.inl rfl) e,c⟩
 | ins C dx fs=>obtain ⟨d,z,ne,e,mA,⟨od,es,ep,e2,c⟩,r⟩:=x;exact ⟨ho _ d,z,ne,k _ _ (.inl rfl) e,mA,⟨od,es,ep,k _ _ (.inr d) e2,c⟩,r⟩
 | own y=>obtain ⟨ob,e⟩:=x;exact ⟨ob,k _ _ (.inl rfl) e⟩
 | xd fs=>obtain ⟨mA,⟨od,es,ep,e,c⟩,r⟩:=x;exact ⟨mA,⟨od,es,ep,k _ _ (.inl rfl) e,c⟩,r⟩
 | gp lo hi=>obtain ⟨t,u,v,e⟩:=x;exact ⟨t,u,v,k _ _ (.inl rfl) e⟩
 | aW ob u ih=>obtain ⟨e,q⟩:=x;exact ⟨k _ _ (.inl rfl) e,ih q⟩
 | n4 ps=>have e:h.get? a=some {cls:=.none,data:=.fields ps}:=x;show h'.get? a=some {cls:=.none,data:=.fields ps};exact k a _ (.inl rfl) e
 | met f y=>have e:h.get? a=some (PySem.W.methodObj (.ref f) (.ref y)):=x;show h'.get? a=some (PySem.W.methodObj (.ref f) (.ref y));exact k a _ (.inl rfl) e
 | ext φ=>obtain ⟨p,⟨o,e⟩,st⟩:=x;exact ⟨st _ _ p fun o q=>k _ _ (.inl rfl) q,⟨o,k _ _ (.inl rfl) e⟩,st⟩
theorem cC.lt(x:cC P w H h)(e:H a=some o):a<h.objs.size:=(x a o e).lt
theorem cC.fresh(x:cC P w H h)(e:h.objs.size≤a):H a=none:=by
 cases q:H a with
 | none=>rfl
 | some u=>exact absurd (dA (x.lt q) e) (dI _)
theorem cC.kept(x:cC P w H h)(k:∀b u,h.get? b=some u→h'.get? b=some u):cC P w H h':=fun a o e=>(x a o e).j_ (fun b u _ q=>k b u q) (fun _ q=>q) fun _ _ q=>q
theorem cC.laid(x:cC P w H h)(k:∀b u,h.get? b=some u→h'.get? b=some u)(hp:h.objs.size≤a)(new:b9 P w (upd H a o) h' a o):cC P w (upd H a o) h':=fun b u e=>by
 have hn:=x.fresh hp;by_cases hb:b=a;·subst hb;rw [au] at e;cases e;exact new
 ·rw [aM hb] at e
  exact (x b u e).j_ (fun c v _ q=>k c v q) (fun c q=>by rw [aM (mQ q hn)];exact q) fun c xs q=>by rw [aM (mQ q hn)];exact q
end
def Rd(H:Hp)(a:Addr)(u:HO):Prop:=H a=some u∨∃o,H a=some (.aW o u)
variable {P:Program} {w:World} {h:Heap}
theorem Rd.ok{u:HO}(r:Rd H a u)(x:cC P w H h):b9 P w H h a u:=by
 rcases r with r | ⟨o,r⟩;·exact x a u r
 ·obtain ⟨_,q⟩:=x a _ r
  exact q
def xT:Option HO→Prop
 | some (.lst _)=>True
 | some (.dK _)=>True
 | some (.dT _)=>True
 | some (.set _ _)=>True
 | some (.ins _ _ _)=>True
 | some (.ext _)=>True
 | _=>False
section
variable {P:Program} {w:World} {H:Hp} {h h':Heap} {x e:Addr} {o':HO}
theorem cC.write(ok:cC P w H h)(mu:xT (H x))(he:e=x∨H e=some (.own x))(k:∀b u,b≠e→h.get? b=some u→h'.get? b=some u)(uD:∃u,h'.get? e=some u)
  (new:b9 P w (upd H x o') h' x o'):cC P w (upd H x o') h':=fun b u q=>by
 have HY:∀c y,H c=some (.own y)→c≠x:=fun c y r z=>by subst z;rw [r] at mu;exact mu
 have O4:∀c xs,H c=some (.tup xs)→c≠x:=fun c xs r z=>by subst z;rw [r] at mu;exact mu
 by_cases hb:b=x;·subst hb;rw [au] at q;cases q;exact new
 ·rw [aM hb] at q
  by_cases qK:b=e
  ·have q':H b=some (.own x):=by
    rcases he with z | z;·exact absurd (qK.trans z) hb
    ·rw [qK];exact z
   rw [q] at q';cases q';obtain ⟨v,hv⟩:=uD;exact ⟨v,by rw [qK];exact hv⟩
  ·refine (ok b u q).j_ (fun c v hc r=>k c v ?_ r) (fun c r=>by rw [aM (HY c b r)];exact r) fun c xs r=>by rw [aM (O4 c xs r)];exact r
   rcases hc with rfl | hc;·exact qK
   ·rintro rfl
    rcases he with z | z;·exact HY c b hc z
    ·rw [hc] at z;cases z;exact hb rfl
end
structure Un (fs ex:List Addr) (H H':Hp) (h h':Heap):Prop where
 keep:∀b o,h.get? b=some o→H b=none→b∉fs→b∉ex→h'.get? b=some o
 slot:∀b o,h.get? b=some o→H b=none→b∈fs→b∉ex→∃sl,h'.get? b=some {o with slots:=sl}
 free:∀b o,h.get? b=some o→H b=none→b∉ex→H' b=none
 there:∀b o,h.get? b=some o→b∉ex→∃o',h'.get? b=some o'
 dW:∀b xs,H b=some (.tup xs)→H' b=some (.tup xs)
 gM:∀b o u,H b=some (.aW o u)→H' b=some (.aW o u)
 g_:∀b ps,H b=some (.n4 ps)→∃more,H' b=some (.n4 (ps++more))
section
variable {fs DA ex xU:List Addr} {H H1 H2:Hp} {h h1 h2 h':Heap} {a x e:Addr} {o:HO}
theorem Un.any(u:Un fs ex H H1 h h1){ob:Obj}(q:h.get? b=some ob)(n:H b=none)(hx:b∉ex):∃sl,h1.get? b=some {ob with slots:=sl}:=by
 by_cases hb:b∈fs;·exact u.slot b ob q n hb hx
 ·exact ⟨ob.slots,u.keep b ob q n hb hx⟩
theorem Un.kept(k:∀b u,h.get? b=some u→h'.get? b=some u):Un fs ex H H h h':=
 ⟨fun b ob q _ _ _=>k b ob q,fun b ob q _ _ _=>⟨ob.slots,k b ob q⟩,fun _ _ _ n _=>n,fun b ob q _=>⟨ob,k b ob q⟩,fun _ _ q=>q,fun _ _ _ q=>q,fun _ ps q=>⟨#[],by rw [q];simp⟩⟩
theorem Un.refl:Un fs ex H H h h:=Un.kept fun _ _ q=>q
theorem Un.laid(k:∀b u,h.get? b=some u→h'.get? b=some u)(hp:h.objs.size≤a)(hn:H a=none):Un fs ex H (upd H a o) h h' where
 keep:=fun b u q _ _ _=>k b u q
 slot:=fun b u q _ _ _=>⟨u.slots,k b u q⟩
 free:=fun b u q n _=>by rw [aM (bM (dA (aZ q) hp))];exact n
 there:=fun b u q _=>⟨u,k b u q⟩
 dW:=fun b xs q=>by rw [aM (mQ q hn)];exact q
 gM:=fun b u xs q=>by rw [aM (mQ q hn)];exact q
 g_:=fun b ps q=>⟨#[],by rw [aM (mQ q hn),q];simp⟩
theorem Un.write(mu:xT (H x))(he:e=x∨H e=some (.own x))(k:∀b u,b≠e→h.get? b=some u→h'.get? b=some u)(uD:∃u,h'.get? e=some u):Un fs ex H (upd H x o) h h':=by
 have hx:∀b,H b=none→b≠x:=fun b n z=>by subst z;rw [n] at mu;exact mu
 have hb:∀b,H b=none→b≠e:=fun b n z=>by
  subst z;rcases he with r | r;·exact hx b n r
  ·rw [n] at r;cases r
 have hm:∀b u,H b=some u→¬xT (some u)→b≠x:=fun b u q nm z=>by subst z;rw [q] at mu;exact nm mu
 refine ⟨fun b u q n _ _=>k b u (hb b n) q,fun b u q n _ _=>⟨u.slots,k b u (hb b n) q⟩,fun b u q n _=>by rw [aM (hx b n)];exact n,fun b u q _=>?_,
  fun b xs q=>by rw [aM (hm b _ q fun z=>z)];exact q,fun b u xs q=>by rw [aM (hm b _ q fun z=>z)];exact q,fun b ps q=>⟨#[],by rw [aM (hm b _ q fun z=>z),q];simp⟩⟩
 by_cases qK:b=e;·subst qK;exact uD
 ·exact ⟨u,k b u qK q⟩
end
def Al(h:Heap)(H:Hp):List Addr:=(List.range h.objs.size).filter fun a=>(H a).isSome
def n6(h:Heap)(H:Hp):Heap:=PySem.W.hideAll h (Al h H)
theorem O5(h:Heap)(H:Hp):(n6 h H).objs.size=h.objs.size:=PySem.W.hideAll_size _ _
theorem O6{o:Obj}(e:h.get? b=some o)(n:H b=none):(n6 h H).get? b=some o:=
 zR _ e fun hm=>by have q:(H b).isSome=true:=(cG.mp hm).2;rw [n] at q;simp at q
theorem O7{o:Obj}(e:(n6 h H).get? b=some o):h.get? b=some o∧H b=none:=by
 have e':h.get? b=some o:=PySem.W.of_hideAll (Al h H) e;refine ⟨e',?_⟩;cases q:H b with
 | none=>rfl
 | some x=>
  have hm:b∈Al h H:=cG.mpr ⟨cu.mpr (aZ e'),by simp [q]⟩
  have z:(n6 h H).get? b=none:=PySem.W.hideAll_none (Al h H) hm;rw [z] at e;cases e
structure Mod (K:aK) (mg:dC) (base:Heap):Prop where
 dD:K.In base
 glob:base.Ns mainGlobals mg
 blt:∃mb,base.Ns builtinsNs mb∧∀x:Str,x ≠ "__name__"→mb x=bootBuiltins x
 nolimit:base.NoLimit
structure Cx where
 prog:Program
 w:World
 K:PySem.W.Frag
 mg:Str→Option Value
 base:Heap
 A:Around
 N:List Str
 s₀:Shared
 H₀:Hp
 env:Env
 outer:List Env
 stack:List Env
 ex:List Addr
 fn:Str→Bool
 calm:Bool
 pn:List (Addr×Obj)
 xe:Value→Shared→Prop
def cR(l:List Env):List Addr:=l.filterMap (·.frame)
abbrev Cx.fs (X:Cx):List Addr:=cR X.outer
def qL(sc:Scope)(x:Str):Prop:=sc.names.lookup x=some .local∨sc.names.lookup x=some .cell∨sc.names.lookup x=some .free
def Loc(sc:Scope)(x:Str):Prop:=sc.names.lookup x=some .local∨sc.names.lookup x=some .cell
def Look(env:Env)(h:Heap)(m:dC)(x:Str)(u:Value):Prop:=
 (env.kindOf x=some .local∧m x=some u)∨((env.kindOf x=some .cell∨env.kindOf x=some .free)∧∃c,env.cells.lookup x=some c∧h.IsCell c (some u))
structure Cx.Ok (X:Cx):Prop where
 mod:Mod X.K X.mg X.base
 kind:X.env.scope.kind=.function
 glob:X.env.globals=mainGlobals
 blt:X.env.builtins=builtinsNs
 above:X.s₀.heap.objs.size≤X.env.locals
 inj:∀x y c,X.env.cells.lookup x=some c→X.env.cells.lookup y=some c→x=y
 has:∀x,(X.env.kindOf x=some .cell∨X.env.kindOf x=some .free)→∃c,X.env.cells.lookup x=some c
 xV:∀x c,X.fn x=true→X.env.cells.lookup x=some c→X.s₀.heap.objs.size≤c
 hd:X.calm=true→X.A.handled=none
 frames:X.A.frames=some X.stack
 jG:X.stack=X.outer∨(X.stack=X.env::X.outer∧X.env.frame=some X.env.locals)
 HZ:∀b∈X.ex,b≠X.env.locals∧∀x c,X.env.cells.lookup x=some c→c≠b
 bs:∀b o,X.base.get? b=some o→X.s₀.heap.get? b=some o∧X.H₀ b=none
 i6:X.base.objs.size≤X.s₀.heap.objs.size
 pB:∀b o,X.base.get? b=some o→b∉X.ex
 pC:∀b∈X.ex,b∉X.fs
 lH:X.s₀.heap.FunFrames X.base X.outer
 pD:∀b∈X.fs,X.H₀ b=none
structure Inv (X:Cx) (pins:aR) (σ:List (Option V)) (H:Hp) (s:Shared):Prop where
 ok:X.Ok
 os:s.os=X.s₀.os
 bare:AllBare s.gens
 base:Un X.fs X.ex X.H₀ H X.s₀.heap s.heap
 loc:∃m,s.heap.Ns X.env.locals m∧∀(i:Nat) (x:Str) (v:V),X.N[i]?=some x→σ[i]?=some (some v)→qL X.env.scope x→∃u,RelV v u∧Look X.env s.heap m x u
 cell:∀x c,X.env.cells.lookup x=some c→∃v,s.heap.IsCell c v
 free:H X.env.locals=none
 jH:∀x c,X.env.cells.lookup x=some c→H c=none
 pin:∀p∈X.pn++pins,s.heap.get? p.1=some p.2∧H p.1=none∧p.1≠X.env.locals∧p.1∉X.fs∧∀v,p.2.data≠.cell v
 ay:cC X.prog X.w H s.heap
 len:σ.length=X.N.length
section
variable {X:Cx} {pins:aR} {σ:List (Option V)} {H H':Hp} {s:Shared} {h':Heap}
theorem Cx.Ok.O8(ok:X.Ok){o:Obj}(e:X.base.get? b=some o):b∉X.fs:=fun hb=>by have:=(ok.lH.mem hb).1;rw [e] at this;cases this
theorem Inv.bs(I:Inv X pins σ H s):∀b o,X.base.get? b=some o→s.heap.get? b=some o∧H b=none:=fun b o e=>⟨I.base.keep b o (I.ok.bs b o e).1 (I.ok.bs b o e).2 (I.ok.O8 e) (I.ok.pB b o e),I.base.free b o (I.ok.bs b o e).1 (I.ok.bs b o e).2 (I.ok.pB b o e)⟩
theorem Inv.bk(I:Inv X pins σ H s):∀b o,X.base.get? b=some o→s.heap.get? b=some o:=fun b o e=>(I.bs b o e).1
theorem Inv.mod(I:Inv X pins σ H s):Mod X.K X.mg X.base:=I.ok.mod
theorem Inv.fT(I:Inv X pins σ H s):X.K.In s.heap:=I.ok.mod.dD.keeps I.bk
theorem Inv.lt(I:Inv X pins σ H s):X.env.locals<s.heap.objs.size:=let ⟨_,hn,_⟩:=I.loc;hn.lt
theorem Inv.sz(I:Inv X pins σ H s):X.s₀.heap.objs.size≤s.heap.objs.size:=a9 I.ok.above (xl I.lt)
theorem Inv.O9(I:Inv X pins σ H s)(h:s.heap.objs.size≤a):a∉X.fs:=fun hb=>by obtain ⟨_,o,ho,_⟩:=I.ok.lH.mem hb;exact absurd (dA (aZ ho) (a9 I.sz h)) (dI _)
theorem Inv.qM(I:Inv X pins σ H s):∀x c,X.env.cells.lookup x=some c→c≠X.env.locals:=fun x c e z=>by obtain ⟨v,o,ho,hd⟩:=I.cell x c e;obtain ⟨m,⟨o',es,ep,kd,mR,_⟩,_⟩:=I.loc;rw [z,kd] at ho;cases ho;rw [mR] at hd;cases hd
theorem Inv.lH(I:Inv X pins σ H s):s.heap.FunFrames X.base X.outer:=by
 have all:∀(l:List Env),(∀b∈cR l,b∈X.fs)→X.s₀.heap.FunFrames X.base l→s.heap.FunFrames X.base l:=by
  intro l
  induction l with
  | nil=>intro _ _;trivial
  | cons env r ih=>
   intro hs hl;obtain ⟨hk,⟨L,o,hf,hn,ho,hd⟩,hr⟩:=hl;have hL:L∈X.fs:=hs L (by unfold cR;rw [zS,hf];exact cw)
   obtain ⟨sl,e⟩:=I.base.slot L o ho (I.ok.pD L hL) hL fun z=>I.ok.pC L z hL;exact ⟨hk,⟨L,_,hf,hn,e,hd⟩,ih (fun b hb=>hs b (by unfold cR;rw [zS,hf];exact cA _ hb)) hr⟩
 exact all X.outer (fun _ hb=>hb) I.ok.lH
theorem Inv.stack(I:Inv X pins σ H s):s.heap.FunFrames X.base X.stack:=by
 rcases I.ok.jG with e | ⟨e,hf⟩;·rw [e];exact I.lH
 ·rw [e]
  obtain ⟨m,hn,_⟩:=I.loc;refine .cons (by rw [I.ok.kind];decide) hf hn ?_ I.lH
  exact Heap.get?_none_of_le (a9 I.ok.i6 I.ok.above)
theorem Inv.uE(I:Inv X pins σ H s):∀b∈cR X.stack,b∈X.env.locals::X.fs:=fun b hb=>by
 rcases I.ok.jG with e | ⟨e,hf⟩;·rw [e] at hb;exact cA _ hb
 ·rw [e] at hb
  unfold cR at hb;rw [zS,hf] at hb;exact hb
theorem Inv.uF(I:Inv X pins σ H s):∀b∈cR X.stack,H b=none:=fun b hb=>by
 rcases bU.mp (I.uE b hb) with e | hb;·rw [e];exact I.free
 ·obtain ⟨_,o,ho,_⟩:=I.ok.lH.mem hb
  exact I.base.free b o ho (I.ok.pD b hb) fun z=>I.ok.pC b z hb
variable {g':Array GenState} {t':Nat} {d':Drawn} {ch:List Addr}
theorem Inv.step(I:Inv X pins σ H s)
  (mS:∀b∈ch,(b∈X.ex∨X.s₀.heap.objs.size≤b)∧b≠X.env.locals∧(∀x c,X.env.cells.lookup x=some c→c≠b)∧∀p∈X.pn++pins,p.1≠b)
  (keep:∀b o,b≠X.env.locals→b∉X.fs→b∉ch→s.heap.get? b=some o→H b=none→h'.get? b=some o)
  (slot:∀b o,b≠X.env.locals→b∈X.fs→b∉ch→s.heap.get? b=some o→H b=none→∃sl,h'.get? b=some {o with slots:=sl}) (free:∀b o,b∉ch→s.heap.get? b=some o→H b=none→H' b=none)
  (there:∀b o,b∉ch→s.heap.get? b=some o→∃o',h'.get? b=some o')
  (dW:∀b xs,H b=some (.tup xs)→H' b=some (.tup xs)) (gM:∀b o u,H b=some (.aW o u)→H' b=some (.aW o u)) (g_:∀b ps,H b=some (.n4 ps)→∃more,H' b=some (.n4 (ps++more)))
  (ns:∀m,s.heap.Ns X.env.locals m→h'.Ns X.env.locals m) (ay:cC X.prog X.w H' h') (hg:AllBare g') :
  Inv X pins σ H' {s with heap:=h',gens:=g',drawn:=d',toks:=t'}:=by
 have H_:∀b o,X.s₀.heap.get? b=some o→b≠X.env.locals:=fun b o e=>bM (dA (aZ e) I.ok.above);have Am:∀b o,X.s₀.heap.get? b=some o→b∉X.ex→b∉ch:=fun b o e hx hb=>by
  rcases (mS b hb).1 with z | z;·exact hx z
  ·exact absurd (dA (aZ e) z) (dI _)
 have cellK:∀x c,X.env.cells.lookup x=some c→∀v,s.heap.IsCell c v→h'.IsCell c v:=fun x c e v ⟨o,ho,hd⟩=>by
  have xW:c∉ch:=fun z=>(mS c z).2.2.1 x c e rfl;by_cases hc:c∈X.fs
  ·obtain ⟨sl,q⟩:=slot c o (I.qM x c e) hc xW ho (I.jH x c e)
   exact ⟨_,q,hd⟩
  ·exact ⟨o,keep c o (I.qM x c e) hc xW ho (I.jH x c e),hd⟩
 refine ⟨I.ok,I.os,hg,⟨fun b o e n hb hx=>?_,fun b o e n hb hx=>?_,fun b o e n hx=>?_,fun b o e hx=>?_,fun b xs e=>dW b xs (I.base.dW b xs e),fun b o xs e=>gM b o xs (I.base.gM b o xs e),fun b ps e=>?_⟩,?_,fun x c e=>?_,?_,fun x c e=>?_,fun p hp=>?_,ay,I.len⟩;·exact keep b o (H_ b o e) hb (Am b o e hx) (I.base.keep b o e n hb hx) (I.base.free b o e n hx)
 ·obtain ⟨sl,e1⟩:=I.base.slot b o e n hb hx
  obtain ⟨O_,e2⟩:=slot b _ (H_ b o e) hb (Am b o e hx) e1 (I.base.free b o e n hx);exact ⟨O_,e2⟩
 ·obtain ⟨o',e1⟩:=I.base.there b o e hx
  exact free b o' (Am b o e hx) e1 (I.base.free b o e n hx)
 ·obtain ⟨o',e1⟩:=I.base.there b o e hx
  exact there b o' (Am b o e hx) e1
 ·obtain ⟨m1,e1⟩:=I.base.g_ b ps e
  obtain ⟨m2,e2⟩:=g_ b _ e1;exact ⟨m1++m2,by rw [e2,Array.append_assoc]⟩
 ·obtain ⟨m,hn,hl⟩:=I.loc
  refine ⟨m,ns m hn,fun i x v e1 e2 e3=>?_⟩;obtain ⟨u,r,l⟩:=hl i x v e1 e2 e3;refine ⟨u,r,?_⟩;rcases l with l | ⟨k,c,e,z⟩;·exact .inl l
  ·exact .inr ⟨k,c,e,cellK x c e _ z⟩
 ·obtain ⟨v,z⟩:=I.cell x c e
  exact ⟨v,cellK x c e v z⟩
 ·obtain ⟨m,⟨o,_,_,ho,_⟩,_⟩:=I.loc
  exact free _ o (fun z=>(mS _ z).2.1 rfl) ho I.free
 ·obtain ⟨v,o,ho,hd⟩:=I.cell x c e
  exact free c o (fun z=>(mS c z).2.2.1 x c e rfl) ho (I.jH x c e)
 ·obtain ⟨e,n,ne,nf,d⟩:=I.pin p hp
  have xW:p.1∉ch:=fun z=>(mS p.1 z).2.2.2 p hp rfl;exact ⟨keep p.1 p.2 ne nf xW e n,free p.1 p.2 xW e n,ne,nf,d⟩
theorem Inv.un(I:Inv X pins σ H s)(u:Un X.fs [] H H' s.heap h')(ay:cC X.prog X.w H' h'):Inv X pins σ H' {s with heap:=h',toks:=t'}:=by
 obtain ⟨m,⟨o,es,ep,ho,r⟩,_⟩:=id I.loc;obtain ⟨sl,hL⟩:=u.any ho I.free (by simp)
 exact I.step (g':=s.gens) (d':=s.drawn) (ch:=[]) (fun _ z=>nomatch z) (fun b o _ hb _ e n=>u.keep b o e n hb (by simp)) (fun b o _ hb _ e n=>u.slot b o e n hb (by simp)) (fun b o _ e n=>u.free b o e n (by simp)) (fun b o _ e=>u.there b o e (by simp)) u.dW u.gM u.g_ (fun m' hm=>by obtain ⟨o',kg,n8,kd,r'⟩:=hm;rw [ho] at kd;cases kd;exact ⟨_,kg,n8,hL,r'⟩) ay I.bare
theorem Inv.call(I:Inv X pins σ H s)(u:Un (cR X.stack) ch H H' s.heap h')(ay:cC X.prog X.w H' h')(hg:AllBare g')
  (mS:∀b∈ch,(b∈X.ex∨X.s₀.heap.objs.size≤b)∧b≠X.env.locals∧(∀x c,X.env.cells.lookup x=some c→c≠b)∧∀p∈X.pn++pins,p.1≠b) :
  Inv X pins σ H' {s with heap:=h',gens:=g',drawn:=d',toks:=t'}:=by
 obtain ⟨m,⟨o,es,ep,ho,r⟩,_⟩:=id I.loc;obtain ⟨sl,hL⟩:=u.any ho I.free fun z=>(mS _ z).2.1 rfl;exact I.step (ch:=ch) mS (fun b o hL hb hc e n=>u.keep b o e n (fun z=>(bU.mp (I.uE b z)).elim hL hb) hc) (fun b o _ _ hc e n=>u.any e n hc) (fun b o hc e n=>u.free b o e n hc) (fun b o hc e=>u.there b o e hc) u.dW u.gM u.g_ (fun m' hm=>by obtain ⟨o',kg,n8,kd,r'⟩:=hm;rw [ho] at kd;cases kd;exact ⟨_,kg,n8,hL,r'⟩) ay hg
theorem Inv.turned{it:Addr}(I:Inv X pins σ H s)(k:∀b o,b≠it→s.heap.get? b=some o→h'.get? b=some o)(hn:H it=none)(hL:it≠X.env.locals)
  (h1:it∈X.ex∨X.s₀.heap.objs.size≤it) (h2:∀x c,X.env.cells.lookup x=some c→c≠it) (h3:∀p∈X.pn++pins,p.1≠it):Inv X pins σ H {s with heap:=h',toks:=t'}:=by
 have Ia:∀b u,H b=some u→b≠it:=fun b u e z=>by rw [z,hn] at e;cases e
 refine I.step (g':=s.gens) (d':=s.drawn) (ch:=[it]) (fun b hb=>?_) (fun b o _ _ hc e _=>k b o (fun z=>hc (by simp [z])) e) (fun b o _ _ hc e _=>⟨o.slots,k b o (fun z=>hc (by simp [z])) e⟩) (fun _ _ _ _ n=>n)
  (fun b o hc e=>⟨o,k b o (fun z=>hc (by simp [z])) e⟩) (fun _ _ e=>e) (fun _ _ _ e=>e) (fun b ps e=>⟨#[],by rw [e];simp⟩) (fun m hm=>?_) (fun b u e=>?_) I.bare
 ·have e:b=it:=by simpa using hb
  subst e;exact ⟨h1,hL,h2,h3⟩
 ·obtain ⟨o,es,ep,ho,r⟩:=hm
  exact ⟨o,es,ep,k _ o (Ne.symm hL) ho,r⟩
 ·refine (I.ay b u e).j_ (fun c v hc q=>k c v ?_ q) (fun _ q=>q) fun _ _ q=>q
  rcases hc with z | z;·rw [z];exact Ia b u e
  ·exact Ia c _ z
theorem Inv.tok(I:Inv X pins σ H s)(t:Nat):Inv X pins σ H {s with toks:=t}:=I.un (h':=s.heap) (t':=t) Un.refl I.ay
theorem Inv.kept(I:Inv X pins σ H s)(k:∀b u,s.heap.get? b=some u→h'.get? b=some u):Inv X pins σ H {s with heap:=h',toks:=t'}:=I.un (Un.kept k) (I.ay.kept k)
theorem Inv.laid(I:Inv X pins σ H s)(k:∀b u,s.heap.get? b=some u→h'.get? b=some u)(hp:s.heap.objs.size≤a)(new:b9 X.prog X.w (upd H a o) h' a o) :
  Inv X pins σ (upd H a o) {s with heap:=h',toks:=t'}:=I.un (Un.laid k hp (I.ay.fresh hp)) (I.ay.laid k hp new)
theorem Inv.write{x e:Addr}(I:Inv X pins σ H s)(mu:xT (H x))(he:e=x∨H e=some (.own x))(k:∀b u,b≠e→s.heap.get? b=some u→h'.get? b=some u)(uD:∃u,h'.get? e=some u)
  (new:b9 X.prog X.w (upd H x o) h' x o):Inv X pins σ (upd H x o) {s with heap:=h',toks:=t'}:=I.un (Un.write mu he k uD) (I.ay.write mu he k uD new)
theorem Inv.Ib{Ic:aR}(I:Inv X pins σ H s)(h:∀p∈Ic,s.heap.get? p.1=some p.2∧H p.1=none∧p.1≠X.env.locals∧p.1∉X.fs∧∀v,p.2.data≠.cell v):Inv X Ic σ H s:=
 ⟨I.ok,I.os,I.bare,I.base,I.loc,I.cell,I.free,I.jH,fun p hp=>(cH.mp hp).elim (fun z=>I.pin p (xo _ z)) (h p),I.ay,I.len⟩
variable {i:Nat} {x:Str}
theorem Ie{N:List Str}(hN:N.Nodup){j:Nat}(a:N[i]?=some x)(b:N[j]?=some x):i=j:=by obtain ⟨h1,e1⟩:=bx.mp a;obtain ⟨h2,e2⟩:=bx.mp b;exact (zT hN).mp (e1.trans e2.symm)
variable {M:Model} {A:Around} {E:aJ} {u:Value} {Q:Unit→Shared→Prop}
theorem DB{v:V}(I:Inv X pins σ H s)(hN:X.N.Nodup)(hi:X.N[i]?=some x)(hx:Loc X.env.scope x)(r:RelV v u)
  (h:∀s',Inv X pins (σ.set i (some v)) H s'→(∃a,Heap.SameBut a s.heap s'.heap∧(a=X.env.locals∨X.env.cells.lookup x=some a))→Q () s') (hf:X.fn x=true∨X.env.scope.names.lookup x=some .local:=by first | exact .inl rfl | exact .inr rfl | assumption):wpAny M A (storeName X.env x u) Q E s:=by
 obtain ⟨m,hn,hl⟩:=id I.loc;have Pa:(X.env.scope.kind == .class || (X.env.scope.kind == .module && X.env.locals != X.env.globals))=false:=by rw [I.ok.kind];rfl
 have Ig:i<σ.length:=by rw [I.len];exact (bx.mp hi).1
 have qM:=I.qM;have tracked:∀{a:Addr} {h':Heap},(∃o,s.heap.get? a=some o∧H a=none)→Heap.SameBut a s.heap h'→cC X.prog X.w H h':=fun{a h'} ha hs b ob e=>by
  obtain ⟨_,_,Ih⟩:=ha;refine (I.ay b ob e).j_ (fun c w' hc q=>(hs.2 c ?_).trans q) (fun _ q=>q) fun _ _ q=>q;rintro rfl;rcases hc with rfl | hc;·rw [Ih] at e;cases e
  ·rw [Ih] at hc;cases hc
 rcases hx with hk | hk
 ·refine wpAny_storeName_local hk hn (fun h' Pb hs=>?_) Pa
  obtain ⟨oL,_,_,Pc,_⟩:=id hn;refine h _ ⟨I.ok,I.os,I.bare,⟨fun b o e n hb hx=>?_,fun b o e n hb hx=>?_,I.base.free,fun b o e hx=>?_,I.base.dW,I.base.gM,I.base.g_⟩,⟨_,Pb,fun j y v' e1 e2 e3=>?_⟩,fun y c e=>?_,I.free,I.jH,fun p hp=>?_,tracked ⟨oL,Pc,I.free⟩ hs,by simpa using I.len⟩ ⟨_,hs,.inl rfl⟩
  ·exact (hs.2 b (bM (dA (aZ e) I.ok.above))).trans (I.base.keep b o e n hb hx)
  ·obtain ⟨sl,e1⟩:=I.base.slot b o e n hb hx
   exact ⟨sl,(hs.2 b (bM (dA (aZ e) I.ok.above))).trans e1⟩
  ·obtain ⟨o',e1⟩:=I.base.there b o e hx
   exact ⟨o',(hs.2 b (bM (dA (aZ e) I.ok.above))).trans e1⟩
  ·by_cases hj:j=i
   ·subst hj
    rw [hi] at e1;cases e1;rw [List.getElem?_set_self Ig] at e2;cases e2;exact ⟨u,r,.inl ⟨hk,by simp⟩⟩
   ·rw [List.getElem?_set_ne (Ne.symm hj)] at e2
    obtain ⟨u',r',q⟩:=hl j y v' e1 e2 e3;refine ⟨u',r',?_⟩;rcases q with ⟨k,e⟩ | ⟨k,c,e,z⟩
    ·refine .inl ⟨k,?_⟩
     have:y≠x:=fun e=>hj (Ie hN e1 (e▸hi));simp [this,e]
    ·exact .inr ⟨k,c,e,z.sameBut hs (qM y c e)⟩
  ·obtain ⟨w',z⟩:=I.cell y c e
   exact ⟨w',z.sameBut hs (qM y c e)⟩
  ·obtain ⟨e,n,ne,nf,d⟩:=I.pin p hp
   exact ⟨(hs.2 p.1 ne).trans e,n,ne,nf,d⟩
 ·have DC:X.fn x=true:=by
   rcases hf with z | z;·exact z
   ·rw [z] at hk;cases hk
  obtain ⟨c,hc⟩:=I.ok.has x (.inl hk);obtain ⟨w',z⟩:=I.cell x c hc;refine wpAny_storeName_cell I.ok.kind hk hc z (fun h' i7 hs=>?_);obtain ⟨oc,Ii,Pd⟩:=id z;refine h {s with heap:=h'} ⟨I.ok,I.os,I.bare,⟨fun b o e n hb hx=>?_,fun b o e n hb hx=>?_,I.base.free,fun b o e hx=>?_,I.base.dW,I.base.gM,I.base.g_⟩,⟨m,hn.sameBut hs (Ne.symm (qM x c hc)),fun j y v' e1 e2 e3=>?_⟩,fun y c' e=>?_,I.free,I.jH,fun p hp=>?_,tracked ⟨oc,Ii,I.jH x c hc⟩ hs,by simpa using I.len⟩ ⟨c,hs,.inr hc⟩
  ·exact (hs.2 b (bM (dA (aZ e) (I.ok.xV x c DC hc)))).trans (I.base.keep b o e n hb hx)
  ·obtain ⟨sl,e1⟩:=I.base.slot b o e n hb hx
   exact ⟨sl,(hs.2 b (bM (dA (aZ e) (I.ok.xV x c DC hc)))).trans e1⟩
  ·obtain ⟨o',e1⟩:=I.base.there b o e hx
   exact ⟨o',(hs.2 b (bM (dA (aZ e) (I.ok.xV x c DC hc)))).trans e1⟩
  ·by_cases hj:j=i
   ·subst hj
    rw [hi] at e1;cases e1;rw [List.getElem?_set_self Ig] at e2;cases e2;exact ⟨u,r,.inr ⟨.inl hk,c,hc,i7⟩⟩
   ·rw [List.getElem?_set_ne (Ne.symm hj)] at e2
    obtain ⟨u',r',q⟩:=hl j y v' e1 e2 e3;refine ⟨u',r',?_⟩;rcases q with q | ⟨k,c',e,z'⟩;·exact .inl q
    ·refine .inr ⟨k,c',e,z'.sameBut hs ?_⟩
     rintro rfl;exact hj (Ie hN e1 (I.ok.inj _ _ _ e hc▸hi))
  ·by_cases Ij:c'=c
   ·subst Ij;exact ⟨_,i7⟩
   ·obtain ⟨w2,z2⟩:=I.cell y c' e
    exact ⟨w2,z2.sameBut hs Ij⟩
  ·obtain ⟨e,n,ne,nf,d⟩:=I.pin p hp
   refine ⟨(hs.2 p.1 ?_).trans e,n,ne,nf,d⟩;intro q;rw [q,Ii] at e;have q':oc=p.2:=Option.some.inj e;exact d w' (by rw [←q'];exact Pd)
theorem Ik{v:V}(I:Inv X pins σ H s)(hN:X.N.Nodup)(hi:X.N[i]?=some x)(hx:Loc X.env.scope x)(r:RelV v u)
  (h:∀s',Inv X pins (σ.set i (some v)) H s'→Q () s') (hf:X.fn x=true∨X.env.scope.names.lookup x=some .local:=by first | exact .inl rfl | exact .inr rfl | assumption):wpAny M A (storeName X.env x u) Q E s:=
 DB I hN hi hx r (fun s' I' _=>h s' I') hf
theorem Inv.pE{s':Shared}(I:Inv X pins σ H s)(ho:s'.os=s.os)(u:Un (cR X.stack) ch H H' s.heap s'.heap)(ay:cC X.prog X.w H' s'.heap)(hg:AllBare s'.gens)
  (mS:∀b∈ch,(b∈X.ex∨X.s₀.heap.objs.size≤b)∧b≠X.env.locals∧(∀x c,X.env.cells.lookup x=some c→c≠b)∧∀p∈X.pn++pins,p.1≠b):Inv X pins σ H' s':=by
 obtain ⟨h',g',d',t',o'⟩:=s';have e:o'=s.os:=ho;subst e;exact I.call (g':=g') (t':=t') (d':=d') u ay hg mS
end
abbrev XK:=Value→Option Addr→Hp→Prop
abbrev St:=List (Option V)
abbrev VK:=V→Hp→Prop
abbrev TE:=St→Hp→VK→Prop
abbrev TT:=St→Hp→(Bool→Hp→Prop)→Prop
abbrev TA:=St→Hp→(List V→Hp→Prop)→Prop
structure Ends where
 nx:St→Hp→Prop
 rt:VK
 bk:St→Hp→Prop:=fun _ _=>False
 ct:St→Hp→Prop:=fun _ _=>False
abbrev TS:=Ends→St→Hp→Prop
def EP(X:Cx)(pins:aR)(σ:St)(Q:VK)(u:Value)(s':Shared):Prop:=∃v H',Inv X pins σ H' s'∧RelV v u∧Q v H'
def TP(X:Cx)(pins:aR)(σ:St)(Q:Bool→Hp→Prop)(b:Bool)(s':Shared):Prop:=∃H',Inv X pins σ H' s'∧Q b H'
def AP(X:Cx)(pins:aR)(σ:St)(Q:List V→Hp→Prop)(us:List Value)(s':Shared):Prop:=∃vs H',Inv X pins σ H' s'∧Vals vs us∧Q vs H'
def SP(X:Cx)(pins:aR)(D:Ends)(f:Flow)(s':Shared):Prop:=
 match f with
 | .next=>∃σ' H',Inv X pins σ' H' s'∧D.nx σ' H'
 | .brk=>∃σ' H',Inv X pins σ' H' s'∧D.bk σ' H'
 | .cont=>∃σ' H',Inv X pins σ' H' s'∧D.ct σ' H'
 | .ret u=>∃v σ' H',Inv X pins σ' H' s'∧RelV v u∧D.rt v H'
def PE(X:Cx)(e:Expr)(t:TE):Prop:=
 ∀(pins:aR) (s:Shared) (σ:St) (H:Hp) (Q:VK),Inv X pins σ H s→t σ H Q→wpAny (model X.prog X.w) X.A (eval e X.env) (EP X pins σ Q) X.xe s
def PT(X:Cx)(e:Expr)(t:TT):Prop:=
 ∀(pins:aR) (s:Shared) (σ:St) (H:Hp) (Q:Bool→Hp→Prop),Inv X pins σ H s→t σ H Q→wpAny (model X.prog X.w) X.A (isTrue e X.env (eval e X.env)) (TP X pins σ Q) X.xe s
def PW(X:Cx)(e:Expr)(t:TT):Prop:=
 ∀(whole:Sem Value) (pins:aR) (s:Shared) (σ:St) (H:Hp) (Q:Bool→Hp→Prop),Inv X pins σ H s→t σ H Q→wpAny (model X.prog X.w) X.A (isTrue e X.env whole) (TP X pins σ Q) X.xe s
variable {X:Cx}
theorem PW.pt{e:Expr}{t:TT}(h:PW X e t):PT X e t:=h _
def PA(X:Cx)(es:List Expr)(t:TA):Prop:=
 ∀(pos:Pos) (pins:aR) (s:Shared) (σ:St) (H:Hp) (Q:List V→Hp→Prop),Inv X pins σ H s→t σ H Q→wpAny (model X.prog X.w) X.A (spliced (backTo pos (starEach es X.env))) (AP X pins σ Q) X.xe s
def PS(X:Cx)(st:Stmt)(t:TS):Prop:=
 ∀(pins:aR) (s:Shared) (σ:St) (H:Hp) (D:Ends),Inv X pins σ H s→t D σ H→wpAny (model X.prog X.w) X.A (exec st X.env) (SP X pins D) X.xe s
def gq(X:Cx)(st:List Stmt)(t:TS):Prop:=
 ∀(pins:aR) (s:Shared) (σ:St) (H:Hp) (D:Ends),Inv X pins σ H s→t D σ H→wpAny (model X.prog X.w) X.A (execs st X.env) (SP X pins D) X.xe s
variable {M:Model} {A:Around} {E:aJ} {s:Shared}
theorem aN{α:Type}{t:Sem α}{Q Q':α→Shared→Prop}(h:wpAny M A t Q E s)(hQ:∀a s,Q a s→Q' a s):wpAny M A t Q' E s:=bJ h hQ fun _ _ x=>x
section
variable {X:Cx}
variable {pins:aR} {σ:St}
theorem bin{a b:Expr}{ta tb:TE}(ha:PE X a ta)(hb:PE X b tb){R:V→V→Hp→Prop}(I:Inv X pins σ H s)(h:ta σ H fun x H1=>tb σ H1 fun y H2=>R x y H2)
  {α:Type} {Q:α→Shared→Prop} {f:Value→Value→Sem α}
  (hf:∀v u s2 x y H2,Inv X pins σ H2 s2→RelV x v→RelV y u→R x y H2→wpAny (model X.prog X.w) X.A (f v u) Q X.xe s2) :
  wpAny (model X.prog X.w) X.A (eval a X.env) (fun v s₁=>wpAny (model X.prog X.w) X.A (eval b X.env) (fun u s₂=>wpAny (model X.prog X.w) X.A (f v u) Q X.xe s₂) X.xe s₁) X.xe s:=by
 refine aN (ha pins s σ H _ I h) fun v s1 ⟨x,H1,I1,r1,q1⟩=>?_;refine aN (hb pins s1 σ H1 _ I1 q1) fun u s2 ⟨y,H2,I2,r2,q2⟩=>?_;exact hf v u s2 x y H2 I2 r1 r2 q2
def Il(i:Nat):TE:=fun σ H Q=>∃v,σ[i]?=some (some v)∧Q v H
def tC(v:V):TE:=fun _ H Q=>Q v H
variable {x:Str} {pos:Pos}
theorem Pe{i:Nat}(hN:X.N[i]?=some x)(hv:qL X.env.scope x)(hd:(x == ("__debug__":Str))=false:=by decide)(fU:(x == ("__classdict__":Str))=false:=by decide):PE X (.Name x pos) (Il i):=by
 intro pins s σ H Q I h;obtain ⟨v,e,h⟩:=h;obtain ⟨m,hn,hl⟩:=I.loc;obtain ⟨u,r,l⟩:=hl i x v hN e hv;have fin:EP X pins σ Q u s:=⟨v,H,I,r,h⟩;rcases l with ⟨hk,hm⟩ | ⟨hk,c,hc,Im⟩;·exact wpAny_Name (wpAny_loadName_local I.ok.kind hk hn hm fin) hd
 ·rcases hk with hk | hk
  ·exact wpAny_Name (wpAny_loadName_cell I.ok.kind hk hc Im fin) hd
  ·exact wpAny_Name (wpAny_loadName_free I.ok.kind hk hc Im fin fU) hd
theorem aF{i j pos}:PE X (.Constant (.int i) j pos) (tC (.int i)):=fun _ _ _ H _ I h=>wpAny_Constant_int ⟨.int i,H,I.tok _,⟨_,rfl⟩,h⟩
theorem hE{b j pos}:PE X (.Constant (.bool b) j pos) (tC (.bl b)):=fun _ _ _ H _ I h=>Constant_bool ⟨.bl b,H,I,rfl,h⟩
theorem Io{x j pos}:PE X (.Constant (.str x) j pos) (tC (.str x)):=fun _ _ _ H _ I h=>Calls.Constant_str ⟨.str x,H,I.tok _,⟨_,rfl⟩,h⟩
def Gl(X:Cx)(x:Str):Prop:=X.env.kindOf x=some .globalImplicit
variable {u:Value} {Q:aJ}
theorem DD(I:Inv X pins σ H s)(hg:Gl X x)(hm:X.mg x=some u)(h:Q u s)
  (hd:(x == ("__debug__":Str))=false:=by decide):wpAny (model X.prog X.w) X.A (eval (.Name x pos) X.env) Q E s:=
 Calls.Name_function_global I.ok.kind hg (Calls.loadGlobal_global (by rw [I.ok.glob];exact I.mod.glob.keeps I.bk) hm h) hd
theorem lJ(I:Inv X pins σ H s)(hg:Gl X x)(hm:X.mg x=none)(hv:bootBuiltins x=some u)(h:Q u s)
  (hn:x ≠ "__name__":=by decide) (hd:(x == ("__debug__":Str))=false:=by decide):wpAny (model X.prog X.w) X.A (eval (.Name x pos) X.env) Q E s:=by
 obtain ⟨mb,h1,h2⟩:=I.mod.blt;exact Calls.Name_function_global I.ok.kind hg (Calls.loadGlobal_builtin (by rw [I.ok.glob];exact I.mod.glob.keeps I.bk) hm (by rw [I.ok.blt];exact h1.keeps I.bk) ((h2 x hn).trans hv) h) hd
theorem Pf{v:V}(hg:Gl X x)(hm:X.mg x=some u)(r:RelV v u)(hd:(x == ("__debug__":Str))=false:=by decide):PE X (.Name x pos) (tC v):=
 fun _ _ _ H _ I h=>DD I hg hm ⟨v,H,I,r,h⟩ hd
theorem An{v:V}(hg:Gl X x)(hm:X.mg x=none)(hv:bootBuiltins x=some u)(r:RelV v u)(hn:x ≠ "__name__":=by decide)(hd:(x == ("__debug__":Str))=false:=by decide):PE X (.Name x pos) (tC v):=
 fun _ _ _ H _ I h=>lJ I hg hm hv ⟨v,H,I,r,h⟩ hn hd
variable {a b:Expr} {ta tb:TE} {pos:Pos}
def PC(X:Cx)(op:CmpOp)(a b:Expr)(t:TE):Prop:=
 ∀(pins:aR) (s:Shared) (σ:St) (H:Hp) (Q:VK),Inv X pins σ H s→t σ H Q→
  wpAny (model X.prog X.w) X.A (eval a X.env) (fun v s₁=>wpAny (model X.prog X.w) X.A (eval b X.env) (fun u s₂=>wpAny (model X.prog X.w) X.A (compareOp op v u) (EP X pins σ Q) X.xe s₂) X.xe s₁) X.xe s
def tB(t:TE):TT:=fun σ H Q=>t σ H fun x H1=>∃c,x=.bl c∧Q c H1
variable {op:CmpOp}
theorem Ip{t:TE}(h:PC X op a b t)(h1:behindInMarks op b=false:=by first | exact Pg _ (by decide) (by decide) | rfl):PE X (.Compare a [op] [b] pos) t:=fun pins s σ H Q I hw=>wpAny_Compare1 (h pins s σ H Q I hw) h1
theorem Iq{t:TE}(h:PC X op a b t)(h1:behindInMarks op b=false:=by first | exact Pg _ (by decide) (by decide) | rfl):PT X (.Compare a [op] [b] pos) (tB t):=by intro pins s σ H Q I hw;refine wpAny_isTrue_Compare1 (aN (h pins s σ H _ I hw) fun v s1 h1=>aN h1 fun u s2 h2=>aN h2 fun c s3 ⟨x,H1,I1,r1,q1⟩=>?_) h1;obtain ⟨d,rfl,q⟩:=q1;cases r1;exact nR ⟨H1,I1,q⟩
theorem pF{e:Expr}{t:TE}(h:PE X e t)(he:∀whole,isTrue e X.env whole=(do let v ←whole;standAt e.pos;holding [v] (truthy v)):=by intro _;rfl):PT X e (tB t):=by
 intro pins s σ H Q I hw
 refine isTrue_plain (aN (h pins s σ H _ I hw) fun v s1 ⟨x,H1,I1,r1,q1⟩=>?_) (he _)
 obtain ⟨d,rfl,q⟩:=q1
 cases r1
 exact nR ⟨H1,I1,q⟩
variable {tA xX:TT} {rest:List Expr}
def Ph(t u:TT):TT:=fun σ H Q=>t σ H fun c H1=>if c=true then u σ H1 Q else Q false H1
def Pj(t u:TT):TT:=fun σ H Q=>t σ H fun c H1=>if c=true then Q true H1 else u σ H1 Q
def Ir(t:TT):TT:=fun σ H Q=>t σ H fun c H1=>Q (!c) H1
theorem pw_and1(ha:PT X a tA):PW X (.BoolOp .And [a] pos) tA:=by
 intro wh pins s σ H Q I h;refine isTrue_and (aN (ha pins s σ H Q I h) fun c s1 e=>?_);cases c with
 | true=>exact isTrue_and_nil e
 | false=>exact e
theorem pw_or1(ha:PT X a tA):PW X (.BoolOp .Or [a] pos) tA:=by
 intro wh pins s σ H Q I h;refine isTrue_or (aN (ha pins s σ H Q I h) fun c s1 e=>?_);cases c with
 | false=>exact isTrue_or_nil e
 | true=>exact e
theorem pw_and(ha:PT X a tA)(hb:PW X (.BoolOp .And (b::rest) pos) xX):PW X (.BoolOp .And (a::b::rest) pos) (Ph tA xX):=by
 intro wh pins s σ H Q I h;refine isTrue_and (aN (ha pins s σ H _ I h) fun c s1 ⟨H1,I1,q1⟩=>?_);cases c with
 | true=>exact hb wh pins s1 σ H1 Q I1 q1
 | false=>exact ⟨H1,I1,q1⟩
theorem pw_or(ha:PT X a tA)(hb:PW X (.BoolOp .Or (b::rest) pos) xX):PW X (.BoolOp .Or (a::b::rest) pos) (Pj tA xX):=by
 intro wh pins s σ H Q I h;refine isTrue_or (aN (ha pins s σ H _ I h) fun c s1 ⟨H1,I1,q1⟩=>?_);cases c with
 | true=>exact ⟨H1,I1,q1⟩
 | false=>exact hb wh pins s1 σ H1 Q I1 q1
theorem uG(ha:PT X a tA):PT X (.UnaryOp .Not a pos) (Ir tA):=by intro pins s σ H Q I h;exact isTrue_not (ha pins s σ H (fun c H1=>Q (!c) H1) I h)
def Pk(ta tb:TE):TE:=fun σ H Q=>ta σ H fun x H1=>∃c,x=.bl c∧if c=true then tb σ H1 Q else Q (.bl false) H1
def Pl(ta tb:TE):TE:=fun σ H Q=>ta σ H fun x H1=>∃c,x=.bl c∧if c=true then Q (.bl true) H1 else tb σ H1 Q
def Pm(ta:TE):TE:=fun σ H Q=>ta σ H fun x H1=>∃c,x=.bl c∧Q (.bl (!c)) H1
theorem DE{op}{t:TE}(h:PE X a t):PE X (.BoolOp op [a] pos) t:=fun pins s σ H Q I hw=>BoolOp_one (h pins s σ H Q I hw)
theorem Iu(ha:PE X a ta)(hb:PE X (.BoolOp .And (b::rest) pos) tb):PE X (.BoolOp .And (a::b::rest) pos) (Pk ta tb):=by
 intro pins s σ H Q I h;refine BoolOp_and (aN (ha pins s σ H _ I h) fun v s1 ⟨x,H1,I1,r1,q1⟩=>?_);obtain ⟨c,rfl,q1⟩:=q1;cases r1;refine nR ?_;cases c with
 | true=>exact hb pins s1 σ H1 Q I1 q1
 | false=>exact ⟨.bl false,H1,I1,rfl,q1⟩
theorem Pn(ha:PE X a ta)(hb:PE X (.BoolOp .Or (b::rest) pos) tb):PE X (.BoolOp .Or (a::b::rest) pos) (Pl ta tb):=by
 intro pins s σ H Q I h;refine BoolOp_or (aN (ha pins s σ H _ I h) fun v s1 ⟨x,H1,I1,r1,q1⟩=>?_);obtain ⟨c,rfl,q1⟩:=q1;cases r1;refine nR ?_;cases c with
 | false=>exact hb pins s1 σ H1 Q I1 q1
 | true=>exact ⟨.bl true,H1,I1,rfl,q1⟩
theorem Po(ha:PE X a ta):PE X (.UnaryOp .Not a pos) (Pm ta):=by intro pins s σ H Q I h;refine UnaryOp_ (aN (ha pins s σ H _ I h) fun v s1 ⟨x,H1,I1,r1,q1⟩=>?_);obtain ⟨c,rfl,q1⟩:=q1;cases r1;exact not_of (nR ⟨.bl (!c),H1,I1,rfl,q1⟩)
def Pp(t:TT)(ta tb:TE):TE:=fun σ H Q=>t σ H fun c H1=>if c=true then ta σ H1 Q else tb σ H1 Q
theorem Pq{c:Expr}(hc:PT X c tA)(ha:PE X a ta)(hb:PE X b tb):PE X (.IfExp c a b pos) (Pp tA ta tb):=by
 intro pins s σ H Q I h;refine wpAny_IfExp (aN (hc pins s σ H _ I h) fun d s1 ⟨H1,I1,q1⟩=>?_);cases d with
 | true=>exact ha pins s1 σ H1 Q I1 q1
 | false=>exact hb pins s1 σ H1 Q I1 q1
end
def bz(K:aK)(H:Hp)(a:Addr)(xs:List V):Prop:=
 Rd H a (.lst xs) ∨
  ∃(o:Obj) (ak:Array Value) (n:Nat),K.lookup a=some o∧o.cls=.type "list"∧o.dict=none∧o.data=.seq ak n∧ak.size≤sizeLine∧Vals xs ak.toList
def dG(K:aK)(H:Hp)(a:Addr)(xs:List V):Prop:=
 Rd H a (.tup xs) ∨
  ∃(o:Obj) (ak:Array Value) (n:Nat),K.lookup a=some o∧o.cls=.type "tuple"∧o.data=.seq ak n∧ak.size≤sizeLine∧Vals xs ak.toList
def Pr:Value→Option V
 | .none=>some .aS
 | .bool b=>some (.bl b)
 | .int i _=>some (.int i)
 | .str x _=>some (.str x)
 | .bytes b _=>some (.jE b)
 | .float b _=>some (.uC b)
 | .ref a=>some (.ref a)
 | .type n=>some (.ty n)
 | _=>none
variable {x:V} {u:Value}
theorem RelV.abs(r:RelV x u):Pr u=some x:=by
 cases x with
 | aS=>cases r;rfl
 | bl _=>cases r;rfl
 | int _=>obtain ⟨t,rfl⟩:=r;rfl
 | str _=>obtain ⟨t,rfl⟩:=r;rfl
 | jE _=>obtain ⟨t,rfl⟩:=r;rfl
 | uC _=>obtain ⟨t,rfl⟩:=r;rfl
 | ref _=>cases r;rfl
 | ty _=>cases r;rfl
theorem RelV.inj{y:V}(r:RelV x u)(q:RelV y u):x=y:=Option.some.inj (r.abs.symm.trans q.abs)
theorem Vals.inj:∀{xs ys:List V} {us:List Value},Vals xs us→Vals ys us→xs=ys
 | _,_,_,.nil,.nil=>rfl
 | _,_,_,.cons r t,.cons r' t'=>by rw [r.inj r',Vals.inj t t']
section
variable {X:Cx} {pins:aR} {σ:St} {H:Hp} {s:Shared} {a:Addr} {xs ys:List V}
variable {K:aK}
theorem bz.of(h:H a=some (.lst xs)):bz K H a xs:=.inl (.inl h)
theorem dG.of(h:H a=some (.tup xs)):dG K H a xs:=.inl (.inl h)
theorem Inv.list(I:Inv X pins σ H s)(h:bz X.K H a xs):∃ak:List Value,Vals xs ak∧PlainL s.heap a ak.toArray∧xs.length≤sizeLine:=by
 rcases h with h | ⟨o,ak,n,hk,hc,hd,hs,hz,r⟩
 ·obtain ⟨z,ak,n,r,e⟩:=h.ok I.ay
  exact ⟨ak,r,⟨_,n,e,rfl,rfl,rfl⟩,z⟩
 ·refine ⟨ak.toList,r,⟨o,n,I.fT a o hk,hc,hd,by simpa using hs⟩,?_⟩
  have e:=r.length;simp only [fA] at e;lia
theorem Inv.tuple(I:Inv X pins σ H s)(h:dG X.K H a xs):∃ak:List Value,Vals xs ak∧IsTup s.heap a ak.toArray∧xs.length≤sizeLine:=by
 rcases h with h | ⟨o,ak,n,hk,hc,hs,hz,r⟩
 ·obtain ⟨z,ak,r,p⟩:=h.ok I.ay
  exact ⟨ak,r,p,z⟩
 ·refine ⟨ak.toList,r,⟨o,I.fT a o hk,hc,n,by simpa using hs⟩,?_⟩
  have e:=r.length;simp only [fA] at e;lia
theorem Inv.Iv(I:Inv X pins σ H s)(h:bz X.K H a xs)(h':bz X.K H a ys):xs=ys:=by
 obtain ⟨ak,r,⟨o,n,e,_,_,d⟩,_⟩:=I.list h;obtain ⟨its',r',⟨o',n',e',_,_,d'⟩,_⟩:=I.list h';rw [e] at e';cases e';rw [d] at d';injection d' with d1 _;have:ak=its':=by simpa using eL Array.toList d1
 subst this;exact r.inj r'
theorem Inv.Pt(I:Inv X pins σ H s)(h:dG X.K H a xs)(h':dG X.K H a ys):xs=ys:=by
 obtain ⟨ak,r,⟨o,e,_,n,d⟩,_⟩:=I.tuple h;obtain ⟨its',r',⟨o',e',_,n',d'⟩,_⟩:=I.tuple h';rw [e] at e';cases e';rw [d] at d';injection d' with d1 _;have:ak=its':=by simpa using eL Array.toList d1
 subst this;exact r.inj r'
end
abbrev Cx.mT (X:Cx) (E:aJ):Cx:={X with xe:=E}
abbrev Cx.qN (X:Cx):Cx:=X.mT fun _ _=>False
theorem Cx.Ok.mT(ok:X.Ok)(E:aJ):(X.mT E).Ok:=
 ⟨ok.mod,ok.kind,ok.glob,ok.blt,ok.above,ok.inj,ok.has,ok.xV,ok.hd,ok.frames,ok.jG,ok.HZ,ok.bs,ok.i6,ok.pB,ok.pC,ok.lH,ok.pD⟩
theorem Cx.Ok.pG(ok:(X.mT E).Ok):X.Ok:=
 ⟨ok.mod,ok.kind,ok.glob,ok.blt,ok.above,ok.inj,ok.has,ok.xV,ok.hd,ok.frames,ok.jG,ok.HZ,ok.bs,ok.i6,ok.pB,ok.pC,ok.lH,ok.pD⟩
section
variable {X:Cx} {pins:aR} {σ:St} {H:Hp} {s:Shared} {E:aJ}
theorem Inv.mT(I:Inv X pins σ H s)(E:aJ):Inv (X.mT E) pins σ H s:=⟨I.ok.mT E,I.os,I.bare,I.base,I.loc,I.cell,I.free,I.jH,I.pin,I.ay,I.len⟩
theorem Inv.pG(I:Inv (X.mT E) pins σ H s):Inv X pins σ H s:=⟨I.ok.pG,I.os,I.bare,I.base,I.loc,I.cell,I.free,I.jH,I.pin,I.ay,I.len⟩
theorem SP.pG{D:Ends}{f:Flow}{s':Shared}(h:SP (X.mT E) pins D f s'):SP X pins D f s':=by
 cases f with
 | next=>obtain ⟨σ',H',I,q⟩:=h;exact ⟨σ',H',I.pG,q⟩
 | brk=>obtain ⟨σ',H',I,q⟩:=h;exact ⟨σ',H',I.pG,q⟩
 | cont=>obtain ⟨σ',H',I,q⟩:=h;exact ⟨σ',H',I.pG,q⟩
 | ret u=>obtain ⟨v,σ',H',I,r,q⟩:=h;exact ⟨v,σ',H',I.pG,r,q⟩
theorem gq.qN{st:List Stmt}{t:TS}(h:gq X.qN st t):gq X st t:=fun pins s σ H D I hw=>bJ (h pins s σ H D (I.mT _) hw) (fun _ _ q=>q.pG) fun _ _ z=>False.elim z
end
section
variable {X:Cx} {st:Stmt} {rest:List Stmt} {t u:TS} {e:Expr} {te:TE} {pos:Pos}
def kh:TS:=fun D σ H=>D.nx σ H
def Ao(t u:TS):TS:=fun D σ H=>t {D with nx:=u D} σ H
theorem ck:gq X [] kh:=fun _ _ σ H _ I h=>zU ⟨σ,H,I,h⟩
theorem aD(h1:PS X st t)(h2:gq X rest u):gq X (st::rest) (Ao t u):=by
 intro pins s σ H D I h;refine wpAny_execs_cons (aN (h1 pins s σ H {D with nx:=u D} I h) fun f s1 q=>?_);cases f with
 | next=>obtain ⟨σ',H',I',q⟩:=q;exact h2 pins s1 σ' H' D I' q
 | ret v=>exact q
 | brk=>exact q
 | cont=>exact q
theorem aI(h1:PS X st t):gq X [st] t:=by
 intro pins s σ H D I h;refine wpAny_execs_cons (aN (h1 pins s σ H D I h) fun f s1 q=>?_);cases f with
 | next=>exact zU q
 | ret v=>exact q
 | brk=>exact q
 | cont=>exact q
theorem Inv.quiet{pins:aR}{σ:St}(I:Inv X pins σ H s):interactive X.env=false:=by simp [interactive,I.ok.kind]
def Pu(te:TE):TS:=fun D σ H=>te σ H fun _ H1=>D.nx σ H1
theorem gr(he:PE X e te)(hs:swapsWith e none pos.line X.env=pure false:=by rfl):PS X (.Expr e pos) (Pu te):=by intro pins s σ H D I h;exact wpAny_Expr_any (aN (he pins s σ H _ I h) fun v s1 ⟨x,H1,I1,r1,q1⟩=>⟨σ,H1,I1,q1⟩) I.quiet hs
def Iw(te:TE):TS:=fun D σ H=>te σ H D.rt
theorem bX(he:PE X e te):PS X (.Return (some e) pos) (Iw te):=by intro pins s σ H D I h;exact wpAny_Return_some (aN (he pins s σ H _ I h) fun v s1 ⟨x,H1,I1,r1,q1⟩=>⟨x,σ,H1,I1,r1,q1⟩)
def DG(c:TT)(t u:TS):TS:=fun D σ H=>c σ H fun b H1=>if b=true then t D σ H1 else u D σ H1
theorem cm{c:Expr}{a b:List Stmt}{tc:TT}(hc:PT X c tc)(ha:gq X a t)(hb:gq X b u):PS X (.If c a b pos) (DG tc t u):=by
 intro pins s σ H D I h;refine wpAny_If (aN (hc pins s σ H _ I h) fun d s1 ⟨H1,I1,q1⟩=>?_);cases d with
 | true=>exact ha pins s1 σ H1 D I1 q1
 | false=>exact hb pins s1 σ H1 D I1 q1
end
abbrev TG:=V→St→Hp→(St→Hp→Prop)→Prop
abbrev qO:=List V→St→Hp→(St→Hp→Prop)→Prop
def PG(X:Cx)(target:Expr)(t:TG):Prop:=
 ∀(pins:aR) (s:Shared) (σ:St) (H:Hp) (v:V) (u:Value) (Q:St→Hp→Prop),Inv X pins σ H s→RelV v u→t v σ H Q→
  wpAny (model X.prog X.w) X.A (assign target X.env u) (fun _ s'=>∃σ' H',Inv X pins σ' H' s'∧Q σ' H') X.xe s
def Ap(X:Cx)(ts:List Expr)(t:qO):Prop:=
 ∀(pins:aR) (s:Shared) (σ:St) (H:Hp) (vs:List V) (us:List Value) (Q:St→Hp→Prop),Inv X pins σ H s→Vals vs us→t vs σ H Q→
  wpAny (model X.prog X.w) X.A (assignInOrder ((assignEach ts X.env).map (·.2)) us) (fun _ s'=>∃σ' H',Inv X pins σ' H' s'∧Q σ' H') X.xe s
abbrev DH:=V→V→V→Hp→(Hp→Prop)→Prop
def Iy(X:Cx)(t:DH):Prop:=
 ∀(pins:aR) (s:Shared) (σ:St) (H:Hp) (o i v:V) (ov iv u:Value) (Q:Hp→Prop),Inv X pins σ H s→RelV o ov→RelV i iv→RelV v u→t o i v H Q→
  wpAny (model X.prog X.w) X.A (setItem ov iv u) (fun _ s'=>∃H',Inv X pins σ H' s'∧Q H') X.xe s
section
variable {X:Cx} {pos:Pos}
def aP(i:Nat):TG:=fun v σ H Q=>Q (σ.set i (some v)) H
variable {i:Nat}
theorem cy{x:Str}(hN:X.N.Nodup)(hi:X.N[i]?=some x)(hx:Loc X.env.scope x)(hf:X.fn x=true∨X.env.scope.names.lookup x=some .local:=by first | exact .inl rfl | exact .inr rfl | assumption):PG X (.Name x pos) (aP i):=by intro pins s σ H v u Q I r h;exact wpAny_assign_Name (Ik I hN hi hx r (fun s' I'=>⟨_,H,I',h⟩) hf)
def DI:qO:=fun vs σ H Q=>vs=[]∧Q σ H
def xY(t:TG)(u:qO):qO:=fun vs σ H Q=>∃v r,vs=v::r∧t v σ H fun σ' H'=>u r σ' H' Q
theorem qP:Ap X [] DI:=by intro pins s σ H vs us Q I r h;obtain ⟨e,h⟩:=h;subst e;cases r;exact assignInOrder_nil ⟨σ,H,I,h⟩
variable {e:Expr} {es:List Expr}
theorem i8{t:TG}{u:qO}(h1:PG X e t)(h2:Ap X es u)
  (hs:(assignEach (e::es) X.env).map (·.2)=assign e X.env::(assignEach es X.env).map (·.2):=by rfl):Ap X (e::es) (xY t u):=by
 intro pins s σ H vs us Q I r h;obtain ⟨v,vr,e1,h⟩:=h;subst e1;cases r with
 | cons r rr=>rw [hs];refine assignInOrder_cons (aN (h1 pins s σ H _ _ _ I r h) fun _ s1 ⟨σ1,H1,I1,q1⟩=>?_);exact h2 pins s1 σ1 H1 _ _ Q I1 rr q1
def DJ(K:aK)(n:Nat)(t:qO):TG:=fun v σ H Q=>∃a xs,v=.ref a∧dG K H a xs∧xs.length=n∧t xs σ H Q
theorem qQ{k:Nat}{t:qO}{n:Nat}(hc:X.calm=true)(h:Ap X es t)
  (hn:(assignEach es X.env).length=n:=by rfl) (DK:(assignEach es X.env).findIdx? (·.1)=none:=by rfl):PG X (.Tuple es k pos) (DJ X.K n t):=by
 intro pins s σ H v u Q I r hw;obtain ⟨a,xs,e1,hq,hl,hw⟩:=hw;subst e1;cases r;obtain ⟨ak,rv,ht,hz⟩:=I.tuple hq;refine assign_Tuple_tuple (I.ok.hd hc) ht (by simp [hn,←hl,rv.length]) DK fun h' hx=>?_
 have I1:Inv X pins σ H {s with heap:=h'}:=I.kept (t':=s.toks) fun b o e=>hx b o (bM (aZ e)) e;exact h pins _ σ H xs _ Q I1 (by simpa using rv) hw
def Pw(to ti:TE)(t:DH):TG:=fun v σ H Q=>to σ H fun o H1=>ti σ H1 fun i H2=>t o i v H2 fun H3=>Q σ H3
theorem xZ{o i:Expr}{to ti:TE}{t:DH}(ho:PE X o to)(hi:PE X i ti)(hs:Iy X t)
  (ha:∀v,assign (.Subscript o i pos) X.env v=(do
   let ov ←holding [v] (eval o X.env)
   let iv ←holding [v,ov] (eval i X.env)
   standAt pos
   holding [v,ov,iv] (setItem ov iv v)
   release [v,ov,iv] []):=by intro _;rfl):PG X (.Subscript o i pos) (Pw to ti t):=by
 intro pins s σ H v u Q I r h
 rw [ha]
 refine ae (gX (aN (ho pins s σ H _ I h) fun ov s1 ⟨x,H1,I1,r1,q1⟩=>?_))
 refine ae (gX (aN (hi pins s1 σ H1 _ I1 q1) fun iv s2 ⟨y,H2,I2,r2,q2⟩=>?_))
 refine ae (qr (ae (gX (aN (hs pins s2 σ H2 x y v ov iv u _ I2 r1 r2 r q2) fun _ s3 ⟨H3,I3,q3⟩=>?_))))
 exact wpAny_release ⟨σ,H3,I3,q3⟩
def pH(te:TE)(g:TG):TS:=fun D σ H=>te σ H fun x H1=>g x σ H1 D.nx
theorem x4{tg e:Expr}{te:TE}{g:TG}(he:PE X e te)(hg:PG X tg g)(hs:swapsWithSole [tg] e pos.line X.env=pure false:=by rfl)(hw:swappedStores [tg] e X.env=pure none:=by rfl)
  (h1:(assignEach [tg] X.env).map (·.2)=[assign tg X.env]:=by rfl):PS X (.Assign [tg] e pos) (pH te g):=by
 intro pins s σ H D I h;refine wpAny_Assign_stores (aN (he pins s σ H _ I h) fun v s1 ⟨x,H1,I1,r1,q1⟩=>?_) hs hw;rw [h1];exact aN (hg pins s1 σ H1 x v _ I1 r1 q1) fun _ s2 q=>q
theorem Px{x:Str}{te:TE}{pos':Pos}(hN:X.N.Nodup)(hi:X.N[i]?=some x)(hx:Loc X.env.scope x)(he:PE X e te)(hs:swapsWith e (some (.Name x pos')) pos.line X.env=pure false:=by rfl)(hf:X.fn x=true∨X.env.scope.names.lookup x=some .local:=by first | exact .inl rfl | exact .inr rfl | assumption) :
  PS X (.Assign [.Name x pos'] e pos) (pH te (aP i)):=by
 intro pins s σ H D I h;refine wpAny_Assign_Name (aN (he pins s σ H _ I h) fun v s1 ⟨y,H1,I1,r1,q1⟩=>?_) hs;exact Ik I1 hN hi hx r1 (fun s2 I2=>⟨_,H1,I2,q1⟩) hf
end
section
variable {X:Cx} {pos:Pos}
def Py(c:TT)(tb:TS):TS:=fun D σ H=>∃W:Nat→St→Hp→Prop,(∃m,W m σ H)∧∀m σ H,W m σ H→
 c σ H fun b H1=>if b=true then ∃N:St→Hp→Prop,(∀σ' H',N σ' H'→∃m',m'<m∧W m' σ' H')∧tb {D with nx:=N,ct:=N,bk:=D.nx} σ H1 else D.nx σ H1
theorem Aq{c:Expr}{body:List Stmt}{tc:TT}{tb:TS}(hp:PassesOwn (model X.prog X.w) X.A X.env X.xe)(hc:PT X c tc)(hb:gq X body tb):PS X (.While c body [] pos) (Py tc tb):=by
 intro pins s σ H D I h;obtain ⟨W,⟨m0,w0⟩,turn⟩:=h;refine wpAny_While (codeAny_whileLoop (fun n s'=>∃σ' H',Inv X pins σ' H' s'∧W n σ' H') ?_ m0 ⟨σ,H,I,w0⟩);rintro n s1 ⟨σ1,H1,I1,w1⟩;refine qt hp (aN (hc pins s1 σ1 H1 _ I1 (turn n σ1 H1 w1)) fun b s2 ⟨H2,I2,q2⟩=>?_);cases b with
 | true=>
  obtain ⟨N,hN,q2⟩:=q2;rw [aj rfl];refine qt hp (aN (hb pins s2 σ1 H2 _ I2 q2) fun f s3 q3=>?_);cases f with
  | next=>obtain ⟨σ3,H3,I3,n3⟩:=q3;obtain ⟨m',hm,w3⟩:=hN σ3 H3 n3;exact ⟨m',hm,σ3,H3,I3,w3⟩
  | cont=>obtain ⟨σ3,H3,I3,n3⟩:=q3;obtain ⟨m',hm,w3⟩:=hN σ3 H3 n3;exact ⟨m',hm,σ3,H3,I3,w3⟩
  | brk=>exact q3
  | ret v=>exact q3
 | false=>rw [aa cj];exact zU ⟨σ1,H2,I2,q2⟩
end
structure It where
 go:Nat→Hp→Prop
 df:Nat→Hp→V→Hp→Prop
 stop:Nat→Hp→Prop
def mU(X:Cx)(pins:aR)(H:Hp)(b:Addr):Prop:=
 H b=none∧b≠X.env.locals∧b∉X.fs∧(b∈X.ex∨X.s₀.heap.objs.size≤b)∧(∀x c,X.env.cells.lookup x=some c→c≠b)∧∀p∈X.pn++pins,p.1≠b
variable {σ:St}
theorem Inv.qR{pins:aR}{H':Hp}(I:Inv X pins σ H s)(hb:s.heap.objs.size≤b)(hn:H' b=none):mU X pins H' b:=by
 refine ⟨hn,Nat.ne_of_gt (dA I.lt hb),I.O9 hb,.inr (a9 I.sz hb),fun x c e z=>?_,fun p hp z=>?_⟩
 ·obtain ⟨v,q⟩:=I.cell x c e
  exact absurd (dA q.lt (by rw [z];exact hb)) (dI _)
 ·exact absurd (dA (aZ (I.pin p hp).1) (by rw [z];exact hb)) (dI _)
structure Turn (P:Program) (w:World) (K:aK) (tg:Expr) (J:It) (fp:List Addr) (it:Addr) (tn:Nat→Heap→Prop):Prop where
 mem:it∈fp
 obj:∀i h,tn i h→∀b∈fp,∃o,h.get? b=some o∧∀v,o.data≠.cell v
 keep:∀i h h',tn i h→(∀b∈fp,∀o,h.get? b=some o→h'.get? b=some o)→tn i h'
 item:∀(X:Cx),X.prog=P→X.w=w→X.K=K→X.calm=true→∀(i:Nat) (pins:aR) (s:Shared) (σ:St) (H:Hp) (E:aJ),Inv X pins σ H s→(∀b∈fp,mU X pins H b)→tn i s.heap→J.go i H→
  wpAny (model P w) X.A (pyNext (.ref it)) (fun r s1=>∃u,r=some u ∧
   wpAny (model P w) X.A (letOwnedTupleGo tg (.ref it) u) (fun _ s2=>∃x H',Inv X pins σ H' s2∧RelV x u∧J.df i H x H'∧tn (i+1) s2.heap∧∀b∈fp,H' b=none) E s1) E s
 done:∀(X:Cx),X.prog=P→X.w=w→X.K=K→X.calm=true→∀(i:Nat) (pins:aR) (s:Shared) (σ:St) (H:Hp) (E:aJ),Inv X pins σ H s→(∀b∈fp,mU X pins H b)→tn i s.heap→J.stop i H→
  wpAny (model P w) X.A (pyNext (.ref it)) (fun r s1=>r=none∧Inv X pins σ H s1) E s
 self:∀(A:Around) (i:Nat) (s:Shared) (Q:aJ) (E:aJ),tn i s.heap→Q (.ref it) s→wpAny (model P w) A (pyIter (.ref it)) Q E s
abbrev TI:=St→Hp→(It→Hp→Prop)→Prop
def Ar(X:Cx)(pins:aR)(σ:St)(tg:Expr)(R:It→Hp→Prop)(uH:Value)(s2:Shared):Prop:=
 ∃(it:Addr) (fp:List Addr) (tn:Nat→Heap→Prop) (J:It) (H':Hp),uH=.ref it∧Inv X pins σ H' s2∧Turn X.prog X.w X.K tg J fp it tn∧tn 0 s2.heap∧(∀b∈fp,mU X pins H' b)∧R J H'
def PI(X:Cx)(tg iter:Expr)(wi:TI):Prop:=
 ∀(pins:aR) (s:Shared) (σ:St) (H:Hp) (R:It→Hp→Prop),Inv X pins σ H s→wi σ H R→
  wpAny (model X.prog X.w) X.A (eval iter X.env) (fun v s1=>wpAny (model X.prog X.w) X.A (pyIter v) (Ar X pins σ tg R) X.xe s1) X.xe s
variable {tg:Expr}
theorem uI{it:Addr}{o:Obj}{n:String}{vs:Array Value}{Q:Unit→Shared→Prop}(ho:s.heap.get? it=some o)(hc:o.cls=.type n)(hd:o.data=.fields vs)
    (hn:["enumerate","zip","dict_itemiterator","dict_reverseitemiterator","odict_iterator","itertools.zip_longest","itertools.pairwise"].contains n=false) (hQ:Q () s):wpAny M A (letOwnedTupleGo tg (.ref it) u) Q E s:=by
  unfold letOwnedTupleGo
  cases tg <;> first
    | exact aB hQ
    | (cases u <;> first
        | exact aB hQ
        | (refine ae (wpAny_load ho ?_)
           rw [hc,hd];show wpAny M A (if (["enumerate","zip","dict_itemiterator","dict_reverseitemiterator","odict_iterator","itertools.zip_longest","itertools.pairwise"].contains n && vs[0]? == some (rawInt _))=true then _ else _) Q E s
           rw [aa (by intro h;rw [hn,t7] at h;cases h)]
           exact aB hQ))
def i9(K:aK)(a:Addr):It:=
 ⟨fun i H=>∃xs x,bz K H a xs∧xs[i]?=some x,fun i H x H'=>H'=H∧∀xs,bz K H a xs→xs[i]?=some x,fun i H=>∃xs,bz K H a xs∧xs.length≤i⟩
def x5(K:aK)(a:Addr):It:=
 ⟨fun i H=>∃xs x,dG K H a xs∧xs[i]?=some x,fun i H x H'=>H'=H∧∀xs,dG K H a xs→xs[i]?=some x,fun i H=>∃xs,dG K H a xs∧xs.length≤i⟩
def pI(lo:Int)(n:Nat):It:=⟨fun i _=>i<n,fun i H x H'=>H'=H∧x=.int (lo+i),fun i _=>n≤i⟩
variable {K:aK}
theorem Pz(a it:Addr):Turn P w K tg (i9 K a) [it] it (fun i h=>h.IsListIter it a i) where
 mem:=by simp
 obj:=fun i h st b hb=>by
  have e:b=it:=by simpa using hb
  subst e;obtain ⟨o,e,c,d⟩:=st;exact ⟨o,e,fun v z=>by rw [d] at z;cases z⟩
 keep:=fun i h h' st k=>st.at fun o e=>k it (by simp) o e
 item:=by
  intro X hP hw hK hc i pins s σ H E I hf st hg;subst hP hw hK;obtain ⟨xs,x,hq,hx⟩:=hg;obtain ⟨ak,rv,p,hz⟩:=I.list hq;obtain ⟨u,hu,ru⟩:=rv.get hx;obtain ⟨f0,f1,f2,f3,f4,f5⟩:=hf it (by simp)
  refine wpAny_pyNext_list_item st p.isList (x:=u) (by simpa using hu) fun h' ax sb=>?_
  have I1:Inv X pins σ H {s with heap:=h'}:=I.turned (t':=s.toks) (fun b o hb e=>(sb.2 b hb).trans e) f0 f1 f3 f4 f5;obtain ⟨o,e,c,d⟩:=id ax;exact ⟨u,rfl,uI (s:={s with heap:=h'}) e c d (by decide) ⟨x,H,I1,ru,⟨rfl,fun ys hy=>by rw [I.Iv hy hq];exact hx⟩,ax,fun b hb=>(hf b hb).1⟩⟩
 done:=by
  intro X hP hw hK hc i pins s σ H E I hf st hg;subst hP hw hK;obtain ⟨xs,hq,hx⟩:=hg;obtain ⟨ak,rv,p,hz⟩:=I.list hq;obtain ⟨f0,f1,f2,f3,f4,f5⟩:=hf it (by simp)
  have hl:=rv.length;exact wpAny_pyNext_list_end (I.ok.hd hc) st p.isList (by simp;lia) fun h' eb=>⟨rfl,I.turned (t':=s.toks) (fun b o hb e=>eb b o hb e) f0 f1 f3 f4 f5⟩
 self:=fun _ _ _ _ _ st h=>wpAny_pyIter_listiter st h
theorem PB(a it:Addr):Turn P w K tg (x5 K a) [it] it (fun i h=>h.IsTupleIter it a i) where
 mem:=by simp
 obj:=fun i h st b hb=>by
  have e:b=it:=by simpa using hb
  subst e;obtain ⟨o,e,c,d⟩:=st;exact ⟨o,e,fun v z=>by rw [d] at z;cases z⟩
 keep:=fun i h h' st k=>st.at fun o e=>k it (by simp) o e
 item:=by
  intro X hP hw hK hc i pins s σ H E I hf st hg;subst hP hw hK;obtain ⟨xs,x,hq,hx⟩:=hg;obtain ⟨ak,rv,p,hz⟩:=I.tuple hq;obtain ⟨u,hu,ru⟩:=rv.get hx;obtain ⟨f0,f1,f2,f3,f4,f5⟩:=hf it (by simp)
  refine wpAny_pyNext_tuple_item st (show s.heap.IsTuple a ak.toArray from p) (x:=u) (by simpa using hu) fun h' ax sb=>?_
  have I1:Inv X pins σ H {s with heap:=h'}:=I.turned (t':=s.toks) (fun b o hb e=>(sb.2 b hb).trans e) f0 f1 f3 f4 f5;obtain ⟨o,e,c,d⟩:=id ax;exact ⟨u,rfl,uI (s:={s with heap:=h'}) e c d (by decide) ⟨x,H,I1,ru,⟨rfl,fun ys hy=>by rw [I.Pt hy hq];exact hx⟩,ax,fun b hb=>(hf b hb).1⟩⟩
 done:=by
  intro X hP hw hK hc i pins s σ H E I hf st hg;subst hP hw hK;obtain ⟨xs,hq,hx⟩:=hg;obtain ⟨ak,rv,p,hz⟩:=I.tuple hq;obtain ⟨f0,f1,f2,f3,f4,f5⟩:=hf it (by simp)
  have hl:=rv.length;exact wpAny_pyNext_tuple_end (I.ok.hd hc) st (show s.heap.IsTuple a ak.toArray from p) (by simp;lia) fun h' eb=>⟨rfl,I.turned (t':=s.toks) (fun b o hb e=>eb b o hb e) f0 f1 f3 f4 f5⟩
 self:=fun _ _ _ _ _ st h=>wpAny_pyIter_tupleiter st h
theorem PD(it:Addr)(lo:Int)(n:Nat):Turn P w K tg (pI lo n) [it] it (fun i h=>IsRangeIter h it (lo+(i:Nat)*1) ((n:Int)-(i:Nat)) 1) where
 mem:=by simp
 obj:=fun i h st b hb=>by
  have e:b=it:=by simpa using hb
  subst e;exact ⟨_,st,fun v z=>by have z':Data.fields _=Data.cell v:=z;cases z'⟩
 keep:=fun i h h' st k=>k it (by simp) _ st
 item:=by
  intro X hP hw hK hc i pins s σ H E I hf st hg;subst hP hw hK;obtain ⟨f0,f1,f2,f3,f4,f5⟩:=hf it (by simp)
  have W:=Walks.range (prog:=X.prog) (w:=X.w) (I.ok.hd hc) it lo 1 n;refine W.item i s _ _ hg st fun v h' tk hv ax kk=>?_;obtain ⟨t,rfl⟩:=hv;have I1:Inv X pins σ H {s with heap:=h',toks:=tk}:=I.turned (fun b o hb e=>kk b o (by simpa using hb) e) f0 f1 f3 f4 f5
  refine ⟨_,rfl,uI (s:={s with heap:=h',toks:=tk}) (n:="range_iterator") ax rfl rfl (by decide) ⟨.int (lo+i),H,I1,⟨t,?_⟩,⟨rfl,rfl⟩,ax,fun b hb=>(hf b hb).1⟩⟩
  rw [Int.mul_one]
 done:=by
  intro X hP hw hK hc i pins s σ H E I hf st hg;subst hP hw hK;obtain ⟨f0,f1,f2,f3,f4,f5⟩:=hf it (by simp)
  exact wpAny_pyNext_range_end (I.ok.hd hc) st (by have:n≤i:=hg;lia) fun h' eb=>⟨rfl,I.turned (t':=s.toks) (fun b o hb e=>eb b o hb e) f0 f1 f3 f4 f5⟩
 self:=fun _ _ _ _ _ st h=>C_ st h
section
variable {X:Cx} {tg:Expr}
def Iz(K:aK)(tl:TE):TI:=fun σ H R=>tl σ H fun x H1=>∃a,x=.ref a∧(∃xs,bz K H1 a xs)∧R (i9 K a) H1
def PF(K:aK)(tl:TE):TI:=fun σ H R=>tl σ H fun x H1=>∃a,x=.ref a∧(∃xs,dG K H1 a xs)∧R (x5 K a) H1
variable {l:Expr} {tl:TE}
theorem dM(hl:PE X l tl):PI X tg l (Iz X.K tl):=by
 intro pins s σ H R I h;refine aN (hl pins s σ H _ I h) fun v s1 ⟨x,H1,I1,r1,q1⟩=>?_;obtain ⟨a,e,⟨xs,hq⟩,q⟩:=q1;subst e;cases r1;obtain ⟨ak,rv,p,hz⟩:=I1.list hq;refine zV p.isList ?_;refine ⟨s1.heap.objs.size,[s1.heap.objs.size],_,_,H1,rfl,I1.kept (t':=s1.toks) fun b o e=>bK _ e,Pz a _,⟨_,cK _ rfl,rfl,rfl⟩,fun b hb=>?_,q⟩;have e:b=s1.heap.objs.size:=by simpa using hb
 subst e;exact I1.qR (aC _) (I1.ay.fresh (aC _))
theorem IA(hl:PE X l tl):PI X tg l (PF X.K tl):=by
 intro pins s σ H R I h;refine aN (hl pins s σ H _ I h) fun v s1 ⟨x,H1,I1,r1,q1⟩=>?_;obtain ⟨a,e,⟨xs,hq⟩,q⟩:=q1;subst e;cases r1;obtain ⟨ak,rv,p,hz⟩:=I1.tuple hq;refine wpAny_pyIter_tuple (show s1.heap.IsTuple a ak.toArray from p) ?_;refine ⟨s1.heap.objs.size,[s1.heap.objs.size],_,_,H1,rfl,I1.kept (t':=s1.toks) fun b o e=>bK _ e,PB a _,⟨_,cK _ rfl,rfl,rfl⟩,fun b hb=>?_,q⟩;have e:b=s1.heap.objs.size:=by simpa using hb
 subst e;exact I1.qR (aC _) (I1.ay.fresh (aC _))
variable {pins:aR}
theorem IC{R:It→Hp→Prop}{lo hi:Int}{t u v:Tok}{tk:Nat}(I:Inv X pins σ H s)(h1:-(2 ^ 62)≤lo)(h2:lo<2 ^ 62)(h3:-(2 ^ 62)≤hi)(h4:hi<2 ^ 62)
  (q:R (pI lo (hi-lo).toNat) H):wpAny (model X.prog X.w) X.A (pyIter (.ref s.heap.objs.size)) (Ar X pins σ tg R) E {s with heap:=s.heap.push {cls:=.type "range",data:=.fields #[.int lo t,.int hi u,.int 1 v]},toks:=tk}:=by
 refine wpAny_pyIter_range (IsRange.new ..) (small_one h1 h2 h3 h4) ?_;have I1:Inv X pins σ H {s with heap:=s.heap.push {cls:=.type "range",data:=.fields #[.int lo t,.int hi u,.int 1 v]},toks:=tk}:=I.kept fun b o e=>bK _ e
 refine ⟨(s.heap.push {cls:=.type "range",data:=.fields #[.int lo t,.int hi u,.int 1 v]}).objs.size,[(s.heap.push {cls:=.type "range",data:=.fields #[.int lo t,.int hi u,.int 1 v]}).objs.size],_,_,H,rfl,
  I1.kept (t':=tk) fun b o e=>bK _ e,PD _ lo (hi-lo).toNat,?_,fun b hb=>?_,q⟩
 ·have e1:lo+((0:Nat):Int)*1=lo:=by simp
  have e2:(((hi-lo).toNat:Nat):Int)-((0:Nat):Int)=Builtin.Range.rangeSize lo hi 1:=by rw [rangeSize_one];split <;> lia
  show IsRangeIter _ _ (lo+((0:Nat):Int)*1) ((((hi-lo).toNat:Nat):Int)-((0:Nat):Int)) 1;rw [e1,e2];exact cK _ rfl
 ·have e:b=(s.heap.push {cls:=.type "range",data:=.fields #[.int lo t,.int hi u,.int 1 v]}).objs.size:=by simpa using hb
  subst e;exact I1.qR (aC _) (I1.ay.fresh (aC _))
def PH(ta:TA):TI:=fun σ H R=>ta σ H fun vs H1=>∃j:Int,vs=[.int j]∧-(2 ^ 62)≤j∧j<2 ^ 62∧R (pI 0 j.toNat) H1
def PJ(ta:TA):TI:=fun σ H R=>ta σ H fun vs H1=>∃i j:Int,vs=[.int i,.int j]∧(-(2 ^ 62)≤i∧i<2 ^ 62∧-(2 ^ 62)≤j∧j<2 ^ 62)∧R (pI i (j-i).toNat) H1
variable {ta:TA} {p pos:Pos}
theorem mV{a:Expr}(hg:Gl X "range")(hm:X.mg "range"=none)(ha:PA X [a] ta)(hs:starEach [a] X.env=[(false,eval a X.env)]:=by rfl):PI X tg (.Call (.Name "range" p) [a] [] pos) (PH ta):=by
 intro pins s σ H R I h;refine Call_ (lJ I hg hm boot_range (xp (aN (ha pos pins s σ H _ I h) fun us s1 ⟨vs,H1,I1,r1,q1⟩=>?_) hs rfl));obtain ⟨j,e,q1,q2,q⟩:=q1;subst e;cases r1 with
 | cons r rr=>cases rr;obtain ⟨t,rfl⟩:=r;exact call_range_1 (IC I1 (by lia) (by lia) q1 q2 (by simpa using q))
theorem PK{a b:Expr}(hg:Gl X "range")(hm:X.mg "range"=none)(ha:PA X [a,b] ta)(hs:starEach [a,b] X.env=[(false,eval a X.env),(false,eval b X.env)]:=by rfl)(uJ:starEach [b] X.env=[(false,eval b X.env)]:=by rfl) :
  PI X tg (.Call (.Name "range" p) [a,b] [] pos) (PJ ta):=by
 intro pins s σ H R I h;refine Call_ (lJ I hg hm boot_range (xp (aN (ha pos pins s σ H _ I h) fun us s1 ⟨vs,H1,I1,r1,q1⟩=>?_) (by rw [hs,uJ]) (by rw [uJ];rfl)))
 obtain ⟨i,j,e,⟨q1,q2,q3,q4⟩,q⟩:=q1;subst e;cases r1 with
 | cons r rr=>
  cases rr with
  | cons r' rr=>cases rr;obtain ⟨t,rfl⟩:=r;obtain ⟨t',rfl⟩:=r';exact call_range_2 (IC I1 q1 q2 q3 q4 q)
def ID(wi:TI)(g:TG)(tb:TS):TS:=fun D σ H=>wi σ H fun J H1=>∃W:Nat→Nat→St→Hp→Prop,(∃m,W 0 m σ H1)∧∀i m σ H,W i m σ H→
 (J.stop i H∧D.nx σ H)∨(J.go i H∧∃N:St→Hp→Prop,(∀σ' H',N σ' H'→∃m',m'<m∧W (i+1) m' σ' H')∧∀x H',J.df i H x H'→g x σ H' fun σ2 H2=>tb {D with nx:=N,ct:=N,bk:=D.nx} σ2 H2)
def kj(fp:List Addr)(h:Heap):List (Addr×Obj):=fp.filterMap fun b=>(h.get? b).map fun o=>(b,o)
variable {fp:List Addr}
theorem mW{o:Obj}(hb:b∈fp)(e:h.get? b=some o):(b,o)∈kj fp h:=List.mem_filterMap.mpr ⟨b,hb,by rw [e];rfl⟩
theorem PL{p:Addr×Obj}(hp:p∈kj fp h):p.1∈fp∧h.get? p.1=some p.2:=by
 obtain ⟨b,hb,e⟩:=List.mem_filterMap.mp hp;cases q:h.get? b with
 | none=>rw [q] at e;cases e
 | some o=>rw [q] at e;have e':(b,o)=p:=Option.some.inj e;subst e';exact ⟨hb,q⟩
theorem Inv.pinned(I:Inv X pins σ H s)(hf:∀b∈fp,mU X pins H b)(ho:∀b∈fp,∃o,s.heap.get? b=some o∧∀v,o.data≠.cell v):Inv X (pins++kj fp s.heap) σ H s:=
 I.Ib fun p hp=>(cH.mp hp).elim (fun z=>I.pin p (dR _ z)) fun z=>by obtain ⟨hb,e⟩:=PL z;obtain ⟨f0,f1,f2,_⟩:=hf p.1 hb;obtain ⟨o,e',d⟩:=ho p.1 hb;rw [e] at e';cases e';exact ⟨e,f0,f1,f2,d⟩
theorem Inv.qT{pl:aR}(I:Inv X (pins++pl) σ H s):Inv X pins σ H s:=I.Ib fun p hp=>I.pin p (dR _ (xo _ hp))
theorem dN{iter:Expr}{body:List Stmt}{wi:TI}{g:TG}{tb:TS}(hp:PassesOwn (model X.prog X.w) X.A X.env X.xe)(hc:X.calm=true)(hi:PI X tg iter wi)(hg:PG X tg g)(hb:gq X body tb)
  (hs:∀x,foldedSetIterable iter X.env x=pure x:=by intro _;rfl):PS X (.For tg iter body [] pos) (ID wi g tb):=by
 intro pins s σ H D I h;refine wpAny_For (aN (hi pins s σ H _ I h) fun v s1 h1=>aN h1 fun uH s2 h2=>?_) hs;obtain ⟨it,fp,tn,J,H2,e,I2,T,gN,f2,W,⟨m0,w0⟩,turn⟩:=h2;subst e;have fV:∀{H':Hp},(∀b∈fp,H' b=none)→∀b∈fp,mU X pins H' b:=fun hn b hb=>⟨hn b hb,(f2 b hb).2⟩;refine codeAny_forLoop_any (fun n s'=>∃i σ' H',Inv X pins σ' H' s'∧tn i s'.heap∧(∀b∈fp,H' b=none)∧W i n σ' H') ?_ m0 ⟨0,σ,H2,I2,gN,fun b hb=>(f2 b hb).1,w0⟩;rintro n s3 ⟨i,σ3,H3,I3,IE,IF,w3⟩;rcases turn i n σ3 H3 w3 with ⟨stop,qn⟩ | ⟨go,N,hN,step⟩
 ·refine qt hp (aN (T.done X rfl rfl rfl hc i pins s3 σ3 H3 X.xe I3 (fV IF) IE stop) fun r s4 ⟨hr,I4⟩=>?_)
  subst hr;exact zU ⟨σ3,H3,I4,qn⟩
 ·refine qt hp (aN (T.item X rfl rfl rfl hc i pins s3 σ3 H3 X.xe I3 (fV IF) IE go) fun r s4 ⟨u,hr,h4⟩=>?_)
  subst hr;refine qt hp (aN h4 fun _ s5 ⟨x,H5,I5,r5,y5,fW,n_⟩=>?_);have og:=I5.pinned (fV n_) (T.obj _ _ fW);refine qt hp (aN (hg _ s5 σ3 H5 x u _ og r5 (step x H5 y5)) fun _ s6 ⟨σ6,H6,I6,q6⟩=>?_);refine qt hp (aN (hb _ s6 σ6 H6 _ I6 q6) fun f s7 q7=>?_);have again:∀{σ7:St} {H7:Hp},Inv X (pins++kj fp s5.heap) σ7 H7 s7→N σ7 H7→∃m,m<n∧∃i σ' H',Inv X pins σ' H' s7∧tn i s7.heap∧(∀b∈fp,H' b=none)∧W i m σ' H':=fun{σ7 H7} I7 n7=>by obtain ⟨m',hm,w7⟩:=hN σ7 H7 n7;refine ⟨m',hm,i+1,σ7,H7,I7.qT,T.keep _ _ _ fW fun b hb o e=>(I7.pin (b,o) (dR _ (dR _ (mW hb e)))).1,fun b hb=>?_,w7⟩;obtain ⟨o,e,d⟩:=T.obj _ _ fW b hb;exact (I7.pin (b,o) (dR _ (dR _ (mW hb e)))).2.1
  cases f with
  | next=>obtain ⟨σ7,H7,I7,n7⟩:=q7;exact again I7 n7
  | cont=>obtain ⟨σ7,H7,I7,n7⟩:=q7;exact again I7 n7
  | brk=>obtain ⟨σ7,H7,I7,q7⟩:=q7;exact ⟨σ7,H7,I7.qT,q7⟩
  | ret v=>obtain ⟨x7,σ7,H7,I7,r7,q7⟩:=q7;exact ⟨x7,σ7,H7,I7.qT,r7,q7⟩
end
variable {g:TG} {tb:TS} {D:Ends}
theorem jI(Pv:Nat→St→Hp→Prop)(h0:Pv 0 σ H)(hl:∀i σ H,i≤xs.length→Pv i σ H→bz K H a xs)
  (hs:∀i x σ H,xs[i]?=some x→Pv i σ H→g x σ H fun σ2 H2=>tb {D with nx:=Pv (i+1),ct:=Pv (i+1),bk:=D.nx} σ2 H2) (hd:∀σ H,Pv xs.length σ H→D.nx σ H) :
  ∃W:Nat→Nat→St→Hp→Prop,(∃m,W 0 m σ H)∧∀i m σ H,W i m σ H→
   ((i9 K a).stop i H∧D.nx σ H)∨((i9 K a).go i H∧∃N:St→Hp→Prop,(∀σ' H',N σ' H'→∃m',m'<m∧W (i+1) m' σ' H')∧∀x H',(i9 K a).df i H x H'→g x σ H' fun σ2 H2=>tb {D with nx:=N,ct:=N,bk:=D.nx} σ2 H2):=by
 refine ⟨fun i m σ H=>m=xs.length-i∧i≤xs.length∧Pv i σ H,⟨xs.length,by simp,bG _,h0⟩,?_⟩
 rintro i m σ H ⟨rfl,hi,p⟩;have q:=hl i σ H hi p;by_cases aT:i<xs.length
 ·refine .inr ⟨⟨xs,xs[i],q,by simp [aT]⟩,Pv (i+1),fun σ' H' p'=>⟨xs.length-(i+1),by lia,rfl,aT,p'⟩,fun x H' y=>?_⟩
  obtain ⟨e,y⟩:=y;subst e;exact hs i x σ _ (y xs q) p
 ·have e:i=xs.length:=by lia
  subst e;exact .inl ⟨⟨xs,q,aC _⟩,hd σ H p⟩
theorem IG(Pv:Nat→St→Hp→Prop)(h0:Pv 0 σ H)(hl:∀i σ H,i≤xs.length→Pv i σ H→dG K H a xs)
  (hs:∀i x σ H,xs[i]?=some x→Pv i σ H→g x σ H fun σ2 H2=>tb {D with nx:=Pv (i+1),ct:=Pv (i+1),bk:=D.nx} σ2 H2) (hd:∀σ H,Pv xs.length σ H→D.nx σ H) :
  ∃W:Nat→Nat→St→Hp→Prop,(∃m,W 0 m σ H)∧∀i m σ H,W i m σ H→
   ((x5 K a).stop i H∧D.nx σ H)∨((x5 K a).go i H∧∃N:St→Hp→Prop,(∀σ' H',N σ' H'→∃m',m'<m∧W (i+1) m' σ' H')∧∀x H',(x5 K a).df i H x H'→g x σ H' fun σ2 H2=>tb {D with nx:=N,ct:=N,bk:=D.nx} σ2 H2):=by
 refine ⟨fun i m σ H=>m=xs.length-i∧i≤xs.length∧Pv i σ H,⟨xs.length,by simp,bG _,h0⟩,?_⟩
 rintro i m σ H ⟨rfl,hi,p⟩;have q:=hl i σ H hi p;by_cases aT:i<xs.length
 ·refine .inr ⟨⟨xs,xs[i],q,by simp [aT]⟩,Pv (i+1),fun σ' H' p'=>⟨xs.length-(i+1),by lia,rfl,aT,p'⟩,fun x H' y=>?_⟩
  obtain ⟨e,y⟩:=y;subst e;exact hs i x σ _ (y xs q) p
 ·have e:i=xs.length:=by lia
  subst e;exact .inl ⟨⟨xs,q,aC _⟩,hd σ H p⟩
variable {n:Nat}
theorem pJ{lo:Int}(Pv:Nat→St→Hp→Prop)(h0:Pv 0 σ H)
  (hs:∀i σ H,i<n→Pv i σ H→g (.int (lo+i)) σ H fun σ2 H2=>tb {D with nx:=Pv (i+1),ct:=Pv (i+1),bk:=D.nx} σ2 H2) (hd:∀σ H,Pv n σ H→D.nx σ H) :
  ∃W:Nat→Nat→St→Hp→Prop,(∃m,W 0 m σ H)∧∀i m σ H,W i m σ H→
   ((pI lo n).stop i H∧D.nx σ H)∨((pI lo n).go i H∧∃N:St→Hp→Prop,(∀σ' H',N σ' H'→∃m',m'<m∧W (i+1) m' σ' H')∧∀x H',(pI lo n).df i H x H'→g x σ H' fun σ2 H2=>tb {D with nx:=N,ct:=N,bk:=D.nx} σ2 H2):=by
 refine ⟨fun i m σ H=>m=n-i∧i≤n∧Pv i σ H,⟨n,by simp,bG _,h0⟩,?_⟩
 rintro i m σ H ⟨rfl,hi,p⟩;by_cases aT:i<n
 ·refine .inr ⟨aT,Pv (i+1),fun σ' H' p'=>⟨n-(i+1),by lia,rfl,aT,p'⟩,fun x H' y=>?_⟩
  obtain ⟨e,y⟩:=y;subst e y;exact hs i σ _ aT p
 ·have e:i=n:=by lia
  subst e;exact .inl ⟨aC _,hd σ H p⟩
abbrev R2:=V→V→Hp→VK→Prop
def cU(X:Cx)(f:Value→Value→Sem Value)(r:R2):Prop:=
 ∀(pins:aR) (s:Shared) (σ:St) (H:Hp) (x y:V) (v u:Value) (Q:VK),Inv X pins σ H s→RelV x v→RelV y u→r x y H Q→
  wpAny (model X.prog X.w) X.A (f v u) (EP X pins σ Q) X.xe s
def DL(X:Cx)(f:Value→Sem Value)(r:V→Hp→VK→Prop):Prop:=
 ∀(pins:aR) (s:Shared) (σ:St) (H:Hp) (x:V) (v:Value) (Q:VK),Inv X pins σ H s→RelV x v→r x H Q→
  wpAny (model X.prog X.w) X.A (f v) (EP X pins σ Q) X.xe s
def eQ(X:Cx)(f:Value)(r:List V→Hp→VK→Prop):Prop:=
 ∀(pins:aR) (s:Shared) (σ:St) (H:Hp) (xs:List V) (us:List Value) (Q:VK),Inv X pins σ H s→Vals xs us→r xs H Q→
  wpAny (model X.prog X.w) X.A (call f us) (EP X pins σ Q) X.xe s
def PM(X:Cx)(r:V→Hp→(Bool→Hp→Prop)→Prop):Prop:=
 ∀(pins:aR) (s:Shared) (σ:St) (H:Hp) (x:V) (v:Value) (Q:Bool→Hp→Prop),Inv X pins σ H s→RelV x v→r x H Q→
  wpAny (model X.prog X.w) X.A (truthy v) (TP X pins σ Q) X.xe s
def qU(r:R2)(ta tb:TE):TE:=fun σ H Q=>ta σ H fun x H1=>tb σ H1 fun y H2=>r x y H2 Q
def PN(r:V→Hp→VK→Prop)(ta:TE):TE:=fun σ H Q=>ta σ H fun x H1=>r x H1 Q
def rI(C:Int→Int→Prop)(g:Int→Int→V):R2:=fun x y H Q=>∃i j,x=.int i∧y=.int j∧C i j∧Q (g i j) H
def pK(g:Int→Int→V):R2:=fun x y H Q=>∃i j,x=.int i∧y=.int j∧Q (g i j) H
def rU(g:Int→V):V→Hp→VK→Prop:=fun x H Q=>∃i,x=.int i∧Q (g i) H
section
variable {X:Cx} {a b c:Expr} {ta tb tc:TE} {pos:Pos}
variable {f:Value→Value→Sem Value}
theorem DM(ha:PE X a ta)(hb:PE X b tb){pins:aR}{R:V→V→Hp→Prop}(I:Inv X pins σ H s)
  (h:ta σ H fun x H1=>tb σ H1 fun y H2=>R x y H2) {Q:aJ}
  (hf:∀v u s2 x y H2,Inv X pins σ H2 s2→RelV x v→RelV y u→R x y H2→wpAny (model X.prog X.w) X.A (f v u) Q X.xe s2) :
  wpAny (model X.prog X.w) X.A (eval a X.env) (fun v s₁=>wpAny (model X.prog X.w) X.A (eval b X.env) (fun u s₂=>wpAny (model X.prog X.w) X.A (f v u) Q X.xe s₂) X.xe s₁) X.xe s:=by
 refine aN (ha pins s σ H _ I h) fun v s1 ⟨x,H1,I1,r1,q1⟩=>?_;refine aN (hb pins s1 σ H1 _ I1 q1) fun u s2 ⟨y,H2,I2,r2,q2⟩=>?_;exact hf v u s2 x y H2 I2 r1 r2 q2
theorem bh{op:Operator}{r:R2}(ho:cU X (binaryOp op) r)(ha:PE X a ta)(hb:PE X b tb):PE X (.BinOp a op b pos) (qU r ta tb):=by intro pins s σ H Q I h;exact wpAny_BinOp (DM ha hb I h fun v u s2 x y H2 I2 rx ry q=>ho pins s2 σ H2 x y v u Q I2 rx ry q)
theorem DN{op:UnaryOp}{r:V→Hp→VK→Prop}(ho:DL X (unaryOp op) r)(ha:PE X a ta):PE X (.UnaryOp op a pos) (PN r ta):=by intro pins s σ H Q I h;exact UnaryOp_ (aN (ha pins s σ H _ I h) fun v s1 ⟨x,H1,I1,r1,q1⟩=>ho pins s1 σ H1 x v Q I1 r1 q1)
theorem As{C:Int→Int→Prop}{g:Int→Int→Int}
  (rule:∀(i j:Int) (t u:Tok) (s:Shared) (Q:aJ) (E:aJ),C i j→Q (.int (g i j) s.toks) {s with toks:=s.toks+1}→wpAny (model X.prog X.w) X.A (f (.int i t) (.int j u)) Q E s) :
  cU X f (rI C fun i j=>.int (g i j)):=by
 intro pins s σ H x y v u Q I rx ry h;obtain ⟨i,j,rfl,rfl,hc,q⟩:=h;obtain ⟨t,rfl⟩:=rx;obtain ⟨t',rfl⟩:=ry;exact rule i j t t' s _ _ hc ⟨.int (g i j),H,I.tok _,⟨_,rfl⟩,q⟩
theorem IH{g:Int→Int→Int}
  (rule:∀(i j:Int) (t u:Tok) (s:Shared) (Q:aJ) (E:aJ),Q (.int (g i j) s.toks) {s with toks:=s.toks+1}→wpAny (model X.prog X.w) X.A (f (.int i t) (.int j u)) Q E s) :
  cU X f (pK fun i j=>.int (g i j)):=by
 intro pins s σ H x y v u Q I rx ry h;obtain ⟨i,j,rfl,rfl,q⟩:=h;obtain ⟨t,rfl⟩:=rx;obtain ⟨t',rfl⟩:=ry;exact rule i j t t' s _ _ ⟨.int (g i j),H,I.tok _,⟨_,rfl⟩,q⟩
theorem Au{g:Int→Int→Bool}
  (rule:∀(i j:Int) (t u:Tok) (s:Shared) (Q:aJ) (E:aJ),Q (.bool (g i j)) s→wpAny (model X.prog X.w) X.A (f (.int i t) (.int j u)) Q E s) :
  cU X f (pK fun i j=>.bl (g i j)):=by
 intro pins s σ H x y v u Q I rx ry h;obtain ⟨i,j,rfl,rfl,q⟩:=h;obtain ⟨t,rfl⟩:=rx;obtain ⟨t',rfl⟩:=ry;exact rule i j t t' s _ _ ⟨.bl (g i j),H,I,rfl,q⟩
def PQ(i j:Int):Prop:=0≤j∧j≤1000000∧i.natAbs<2 ^ 64
def DO(i j:Int):Prop:=(-(2 ^ 64)<i∧i<2 ^ 64)∨(-(2 ^ 64)<j∧j<2 ^ 64)
theorem DO.ok{i j:Int}(h:DO i j):IntMulOk i j:=by
 rcases h with ⟨h1,h2⟩ | ⟨h1,h2⟩;·exact .of_left (intBits_le_64 h1 h2)
 ·exact .of_right (intBits_le_64 h1 h2)
theorem fD:cU X (binaryOp .Add) (pK fun i j=>.int (i+j)):=IH fun _ _ _ _ _ _ _ q=>add_int q
theorem lK:cU X (binaryOp .Sub) (pK fun i j=>.int (i-j)):=IH fun _ _ _ _ _ _ _ q=>sub_int q
theorem i_:cU X (binaryOp .Mult) (rI DO fun i j=>.int (i*j)):=As fun _ _ _ _ _ _ _ hc q=>mul_int q hc.ok
theorem qV:cU X (binaryOp .Mod) (rI (fun _ j=>0<j) fun i j=>.int (i % j)):=As fun i j _ _ _ _ _ hc q=>by have h1:(0:Int)<j:=hc;exact mod_int' (by lia) (by rw [Int.fmod_eq_emod_of_nonneg i (by lia)];exact q)
theorem PR:cU X (binaryOp .Pow) (rI PQ fun i j=>.int (i ^ j.toNat)):=As fun _ _ _ _ _ _ _ hc q=>pow_int_small hc.1 hc.2.1 hc.2.2 q
theorem PU{f:Value→Sem Value}{g:Int→Int}
  (rule:∀(i:Int) (t:Tok) (s:Shared) (Q:aJ) (E:aJ),Q (.int (g i) s.toks) {s with toks:=s.toks+1}→wpAny (model X.prog X.w) X.A (f (.int i t)) Q E s) :
  DL X f (rU fun i=>.int (g i)):=by
 intro pins s σ H x v Q I rx h;obtain ⟨i,rfl,q⟩:=h;obtain ⟨t,rfl⟩:=rx;exact rule i t s _ _ ⟨.int (g i),H,I.tok _,⟨_,rfl⟩,q⟩
theorem DQ:DL X (unaryOp .USub) (rU fun i=>.int (-i)):=PU fun _ _ _ _ _ q=>neg_int q
end
def II:V→V→Bool
 | .aS,.aS=>true | .aS,.int _=>true | .int _,.aS=>true | .aS,.bl _=>true | .bl _,.aS=>true | .aS,.str _=>true | .str _,.aS=>true
 | .int _,.int _=>true | .bl _,.bl _=>true | .str _,.str _=>true | .jE _,.jE _=>true
 | .int _,.str _=>true | .str _,.int _=>true | .bl _,.str _=>true | .str _,.bl _=>true
 | _,_=>false
def PV:R2:=fun x y H Q=>II x y=true∧Q (.bl (decide (x=y))) H
def PX:R2:=fun x y H Q=>II x y=true∧Q (.bl (!decide (x=y))) H
theorem IJ{i j:Int}:decide (V.int i=V.int j)=(i == j):=by rw [nV];simp
theorem IK{i j:Bool}:decide (V.bl i=V.bl j)=(i == j):=by rw [nV];simp
theorem IL{i j:Str}:decide (V.str i=V.str j)=(i == j):=by rw [nV];simp
theorem IM{i j:Array UInt8}:decide (V.jE i=V.jE j)=(i.toList == j.toList):=by rw [nV];cases i;cases j;simp
section
variable {X:Cx} {a b c:Expr} {ta tb tc:TE} {pos:Pos}
theorem du{pins:aR}{Q:VK}{k k':Bool}(I:Inv X pins σ H s)(q:Q (.bl k) H)(e:k=k'):EP X pins σ Q (.bool k') s:=by subst e;exact ⟨.bl k,H,I,rfl,q⟩
theorem d6:cU X (compareOp .Eq) PV:=by
 intro pins s σ H x y v u Q I rx ry h;obtain ⟨hs,q⟩:=h;cases x with
 | aS=>
  cases rx;cases y with
  | aS=>cases ry;exact PySem.EqNone.eq_none_none (du I q (by simp))
  | bl j=>cases ry;exact PySem.EqNone.eq_none_bool (du I q (by simp))
  | int j=>obtain ⟨t',rfl⟩:=ry;exact PySem.EqNone.eq_none_int (du I q (by simp))
  | str j=>obtain ⟨t',rfl⟩:=ry;exact PySem.EqNone.eq_none_str (du I q (by simp))
  | _=>exact absurd (show false=true from hs) cj
 | bl i=>
  cases rx;cases y with
  | aS=>cases ry;exact PySem.EqNone.eq_bool_none (du I q (by simp))
  | bl j=>cases ry;exact eq_bool (du I q IK)
  | str j=>obtain ⟨t',rfl⟩:=ry;exact PySem.EqMixed.eq_bool_str (du I q (by simp))
  | _=>exact absurd (show false=true from hs) cj
 | int i=>
  obtain ⟨t,rfl⟩:=rx;cases y with
  | aS=>cases ry;exact PySem.EqNone.eq_int_none (du I q (by simp))
  | int j=>obtain ⟨t',rfl⟩:=ry;exact eq_int (du I q IJ)
  | str j=>obtain ⟨t',rfl⟩:=ry;exact PySem.EqMixed.eq_int_str (du I q (by simp))
  | _=>exact absurd (show false=true from hs) cj
 | str i=>
  obtain ⟨t,rfl⟩:=rx;cases y with
  | aS=>cases ry;exact PySem.EqNone.eq_str_none (du I q (by simp))
  | bl j=>cases ry;exact PySem.EqMixed.eq_str_bool (du I q (by simp))
  | int j=>obtain ⟨t',rfl⟩:=ry;exact PySem.EqMixed.eq_str_int (du I q (by simp))
  | str j=>obtain ⟨t',rfl⟩:=ry;exact eq_str (du I q IL)
  | _=>exact absurd (show false=true from hs) cj
 | jE i=>
  obtain ⟨t,rfl⟩:=rx;cases y with
  | jE j=>obtain ⟨t',rfl⟩:=ry;exact PySem.W.eq_bytes (du I q IM)
  | _=>exact absurd (show false=true from hs) cj
 | _=>cases y <;> exact absurd (show false=true from hs) cj
theorem qW:cU X (compareOp .NotEq) PX:=by
 intro pins s σ H x y v u Q I rx ry h;obtain ⟨hs,q⟩:=h;cases x with
 | aS=>
  cases rx;cases y with
  | aS=>cases ry;exact PySem.EqNone.ne_none_none (du I q (by simp))
  | bl j=>cases ry;exact PySem.EqNone.ne_none_bool (du I q (by simp))
  | int j=>obtain ⟨t',rfl⟩:=ry;exact PySem.EqNone.ne_none_int (du I q (by simp))
  | str j=>obtain ⟨t',rfl⟩:=ry;exact PySem.EqNone.ne_none_str (du I q (by simp))
  | _=>exact absurd (show false=true from hs) cj
 | bl i=>
  cases rx;cases y with
  | aS=>cases ry;exact PySem.EqNone.ne_bool_none (du I q (by simp))
  | bl j=>cases ry;exact ne_bool (du I q (eL not IK))
  | str j=>obtain ⟨t',rfl⟩:=ry;exact PySem.EqMixed.ne_bool_str (du I q (by simp))
  | _=>exact absurd (show false=true from hs) cj
 | int i=>
  obtain ⟨t,rfl⟩:=rx;cases y with
  | aS=>cases ry;exact PySem.EqNone.ne_int_none (du I q (by simp))
  | int j=>obtain ⟨t',rfl⟩:=ry;exact ne_int (du I q (eL not IJ))
  | str j=>obtain ⟨t',rfl⟩:=ry;exact PySem.EqMixed.ne_int_str (du I q (by simp))
  | _=>exact absurd (show false=true from hs) cj
 | str i=>
  obtain ⟨t,rfl⟩:=rx;cases y with
  | aS=>cases ry;exact PySem.EqNone.ne_str_none (du I q (by simp))
  | bl j=>cases ry;exact PySem.EqMixed.ne_str_bool (du I q (by simp))
  | int j=>obtain ⟨t',rfl⟩:=ry;exact PySem.EqMixed.ne_str_int (du I q (by simp))
  | str j=>obtain ⟨t',rfl⟩:=ry;exact ne_str (du I q (eL not IL))
  | _=>exact absurd (show false=true from hs) cj
 | jE i=>
  obtain ⟨t,rfl⟩:=rx;cases y with
  | jE j=>obtain ⟨t',rfl⟩:=ry;exact PySem.W.ne_bytes (du I q (eL not IM))
  | _=>exact absurd (show false=true from hs) cj
 | _=>cases y <;> exact absurd (show false=true from hs) cj
theorem Av:cU X (compareOp .Lt) (pK fun i j=>.bl (decide (i<j))):=Au fun _ _ _ _ _ _ _ q=>lt_int q
theorem DR:cU X (compareOp .LtE) (pK fun i j=>.bl (decide (i≤j))):=Au fun _ _ _ _ _ _ _ q=>le_int q
theorem oi:cU X (compareOp .Gt) (pK fun i j=>.bl (decide (j<i))):=Au fun _ _ _ _ _ _ _ q=>gt_int q
theorem PY:cU X (compareOp .GtE) (pK fun i j=>.bl (decide (j≤i))):=Au fun _ _ _ _ _ _ _ q=>ge_int q
variable {op:CmpOp}
theorem IP(b:Expr)(h:op≠.In:=by decide)(h2:op≠.NotIn:=by decide):behindInMarks op b=false:=by
 have e1:(op == CmpOp.In)=false:=by cases op <;> first | rfl | exact absurd rfl h
 have e2:(op == CmpOp.NotIn)=false:=by cases op <;> first | rfl | exact absurd rfl h2
 cases b <;> simp [behindInMarks,e1,e2]
variable {r:R2}
theorem PZ(ho:cU X (compareOp op) r)(ha:PE X a ta)(hb:PE X b tb)(hm:behindInMarks op b=false):PE X (.Compare a [op] [b] pos) (qU r ta tb):=by intro pins s σ H Q I h;exact wpAny_Compare1 (DM ha hb I h fun v u s2 x y H2 I2 rx ry q=>ho pins s2 σ H2 x y v u Q I2 rx ry q) hm
theorem mX(ho:cU X (compareOp op) r)(ha:PE X a ta)(hb:PE X b tb)(hm:behindInMarks op b=false:=by exact IP _):PE X (.Compare a [op] [b] pos) (qU r ta tb):=PZ ho ha hb hm
def IQ(t:TE):TT:=fun σ H Q=>t σ H fun x H'=>∃k,x=.bl k∧Q k H'
theorem pL(ho:cU X (compareOp op) r)(ha:PE X a ta)(hb:PE X b tb)(hm:behindInMarks op b=false):PT X (.Compare a [op] [b] pos) (IQ (qU r ta tb)):=by intro pins s σ H Q I h;refine wpAny_isTrue_Compare1 (aN (ha pins s σ H _ I h) fun v s1 ⟨x,H1,I1,r1,q1⟩=>aN (hb pins s1 σ H1 _ I1 q1) fun u s2 ⟨y,H2,I2,r2,q2⟩=>aN (ho pins s2 σ H2 x y v u _ I2 r1 r2 q2) fun c s3 ⟨z,H3,I3,r3,k,e,q3⟩=>?_) hm;subst e;cases r3;exact nR ⟨H3,I3,q3⟩
theorem b5(ho:cU X (compareOp op) r)(ha:PE X a ta)(hb:PE X b tb)(hm:behindInMarks op b=false:=by exact IP _):PT X (.Compare a [op] [b] pos) (IQ (qU r ta tb)):=pL ho ha hb hm
def IS(K:aK)(x:V)(H:Hp)(k:Bool):Prop:=
 match x with
 | .aS=>k=false
 | .bl b=>k=b
 | .int i=>k=(i != 0)
 | .str y=>y.length≤sizeLine∧k=((y.length:Int) != 0)
 | .jE y=>y.size≤sizeLine∧k=((y.size:Int) != 0)
 | .ref p=>(∃xs,bz K H p xs∧k = !xs.isEmpty)∨(∃xs,dG K H p xs∧k = !xs.isEmpty)∨∃kvs,H p=some (.dK kvs)∧k = !kvs.isEmpty
 | _=>False
theorem P1{κ:Type}{kvs:List (κ×V)}{vs:List (κ×Value)}(r:KV kvs vs):(!vs.isEmpty) = !kvs.isEmpty:=by cases r <;> rfl
theorem IT{ak:List Value}(r:Vals xs ak):(!ak.toArray.isEmpty) = !xs.isEmpty:=by cases r <;> simp
theorem x6:(sizeLine:Nat)<2 ^ 63:=by rw [gY];decide
theorem P2:PM X (fun x H Q=>∃k,IS X.K x H k∧Q k H):=by
 intro pins s σ H x v Q I rx h;obtain ⟨k,e,q⟩:=h;have hl:=x6;have hs:sizeLine=16777216:=gY;cases x with
 | aS=>cases rx;have e':k=false:=e;subst e';exact truthy_none ⟨H,I,q⟩
 | bl b=>cases rx;have e':k=b:=e;subst e';exact nR ⟨H,I,q⟩
 | int i=>obtain ⟨t,rfl⟩:=rx;have e':k=(i != 0):=e;subst e';exact PySem.P.truthy_int ⟨H,I,q⟩
 | str y=>obtain ⟨t,rfl⟩:=rx;obtain ⟨hy,e'⟩:y.length≤sizeLine∧k=((y.length:Int) != 0):=e;subst e';exact PySem.P.truthy_str (by lia) ⟨H,I.tok _,q⟩
 | jE y=>obtain ⟨t,rfl⟩:=rx;obtain ⟨hy,e'⟩:y.size≤sizeLine∧k=((y.size:Int) != 0):=e;subst e';exact PySem.W.truthy_bytes (by lia) ⟨H,I.tok _,q⟩
 | ref p=>
  cases rx;have e':(∃xs,bz X.K H p xs∧k = !xs.isEmpty)∨(∃xs,dG X.K H p xs∧k = !xs.isEmpty)∨∃kvs,H p=some (.dK kvs)∧k = !kvs.isEmpty:=e;rcases e' with ⟨xs,hx,e'⟩ | ⟨xs,hx,e'⟩ | ⟨kvs,hx,e'⟩
  ·subst e'
   obtain ⟨ak,r,pl,hz⟩:=I.list hx;have hlen:=r.length;exact wpAny_truthy_list pl.isList (by simp only [b4];lia) ⟨H,I.tok _,by rw [IT r];exact q⟩
  ·subst e'
   obtain ⟨ak,r,pl,hz⟩:=I.tuple hx;have hlen:=r.length;exact truthy_tuple pl (by simp only [b4];lia) ⟨H,I.tok _,by rw [IT r];exact q⟩
  ·subst e'
   obtain ⟨hz,hS,vs,r,m⟩:kvs.length≤sizeLine∧(p == sysModules)=false∧∃vs,KV kvs vs∧s.heap.DictOf (eO X.prog X.w) p vs:=I.ay p _ hx;have hlen:kvs.length=vs.length:=Paired.length r;exact wpAny_truthy_dict hS m (by lia) ⟨H,I.tok _,by rw [P1 r];exact q⟩
 | _=>exact (show False from e).elim
theorem P4(ha:PE X a ta)(he:∀whole,isTrue a X.env whole=(do let v ←whole;standAt a.pos;holding [v] (truthy v))) :
  PT X a (fun σ H Q=>ta σ H fun x H'=>∃k,IS X.K x H' k∧Q k H'):=by
 intro pins s σ H Q I h
 exact isTrue_plain (aN (ha pins s σ H _ I h) fun v s1 ⟨x,H1,I1,r1,q1⟩=>P2 pins s1 σ H1 x v Q I1 r1 q1) (he _)
theorem vals1(r:Vals [x] us):∃u,us=[u]∧RelV x u:=by
 cases r with
 | cons r1 r2=>cases r2;exact ⟨_,rfl,r1⟩
theorem vals2{y:V}(r:Vals [x,y] us):∃u w',us=[u,w']∧RelV x u∧RelV y w':=by
 cases r with
 | cons r1 r2=>
  cases r2 with
  | cons r3 r4=>cases r4;exact ⟨_,_,rfl,r1,r3⟩
theorem P5(hc:X.calm=true):eQ X (.builtin "max") (fun xs H Q=>∃i j,xs=[.int i,.int j]∧Q (.int (if j>i then j else i)) H):=by
 intro pins s σ H xs us Q I r h;obtain ⟨i,j,rfl,q⟩:=h;obtain ⟨u,w',rfl,⟨t,rfl⟩,⟨t',rfl⟩⟩:=vals2 r;refine max_two_ints (I.ok.hd hc) fun h' tk k=>⟨_,H,I.kept k,?_,q⟩;by_cases hj:j>i;·rw [aj hj,aj hj];exact ⟨_,rfl⟩
 ·rw [aa hj,aa hj];exact ⟨_,rfl⟩
theorem P6(hc:X.calm=true):eQ X (.builtin "min") (fun xs H Q=>∃i j,xs=[.int i,.int j]∧Q (.int (if j<i then j else i)) H):=by
 intro pins s σ H xs us Q I r h;obtain ⟨i,j,rfl,q⟩:=h;obtain ⟨u,w',rfl,⟨t,rfl⟩,⟨t',rfl⟩⟩:=vals2 r;refine min_two_ints (I.ok.hd hc) fun h' tk k=>⟨_,H,I.kept k,?_,q⟩;by_cases hj:j<i;·rw [aj hj,aj hj];exact ⟨_,rfl⟩
 ·rw [aa hj,aa hj];exact ⟨_,rfl⟩
end
structure DS (h:Heap) (x dx C:Addr) (mA:dC):Prop where
 obj:h.get? x=some (PySem.W.instObj C dx)
 ns:h.Ns1 dx mA
 ne:dx≠x
variable {dx:Addr} {mA:dC}
theorem P7(n:h.Ns1 dx mA):∃od,h.get? dx=some od∧∀name,PySem.W.lookIn name od=some (mA name):=by
 obtain ⟨o,es,ep,ho,hd,hk,_,hm⟩:=n;refine ⟨o,ho,fun name=>?_⟩;have e:=hm name;unfold nsFind findBy at e;rw [←Array.find?_toList] at e;unfold PySem.W.lookIn;rw [hd];dsimp only
 split
 ·rename_i y q
  rw [q] at e;exact eL some e
 ·rename_i q
  rw [q] at e;have a:es.toList.any (·.refKey)=false:=by rw [List.any_eq_false];intro y hy;obtain ⟨z,t,uK⟩:=hk y (Array.mem_toList_iff.mp hy);simp [DictEntry.refKey,uK]
  have a':¬es.toList.any (·.refKey)=true:=by rw [a];exact cj
  rw [aa a'];exact eL some e
theorem DS.look{x C:Addr}(I:DS h x dx C mA):∃od,PySem.W.InstAt h x (PySem.W.instObj C dx) C (some od)∧∀name,PySem.W.lookIn name od=some (mA name):=
 let ⟨od,ho,hl⟩:=P7 I.ns
 ⟨od,⟨I.obj,rfl,rfl,ho⟩,hl⟩
section
variable {prog:Program} {w:World} {A:Around} {E:aJ} {s:Shared} {K:aK} {x dx C f:Addr} {mA:dC} {name:Str} {v:Value}
end
theorem jF.some_of{v:V}{o:Option Value}(r:jF (some v) o):∃u,o=some u∧RelV v u:=by
 cases o with
 | none=>exact (show False from r).elim
 | some u=>exact ⟨u,rfl,r⟩
section
variable {P:Program} {w:World} {H H':Hp} {h h':Heap} {a C dx:Addr} {fs DA:List (Str×V)}
theorem P8(ay:cC P w H h)(e:H a=some (.ins C dx fs)):∃mA,DS h a dx C mA∧(∀f,jF (fs.lookup f) (mA f))∧PySem.Within mA (fs.map (·.1))∧fs.length≤1000∧H dx=some (.own a):=by obtain ⟨d,z,ne,ob,mA,n,r,q⟩:=(show b9 P w H h a (.ins C dx fs) from ay a _ e);exact ⟨mA,⟨ob,n,ne⟩,r,q,z,d⟩
end
structure DT (K:aK) (C:Addr):Prop where
 pg:PySem.W.plainGet K C Str.empty=true
 hd:PySem.W.hasDictIn K C=true
 po:PySem.W.plainOver K C=true
 sa:PySem.W.findIn K (.ref C) "__setattr__"=some (some (.builtin "object.__setattr__"))
theorem DT.get{K:aK}{C:Addr}(c:DT K C)(f:Str):PySem.W.plainGet K C f=true:=c.pg
section
variable {X:Cx} {pins:aR} {σ:St} {H:Hp} {s:Shared} {a C dx:Addr} {fs:List (Str×V)} {f:Str} {v:V} {A:Around} {E:aJ}
end
section
variable {X:Cx} {o e value:Expr} {f:Str} {pos pos' Aw:Pos} {ta tv:TE}
end
section
variable {X:Cx} {pins:aR} {σ:St} {H:Hp} {s:Shared} {A:Around} {E:aJ} {Q:aJ} {c:Value} {b:Bool}
inductive jJ (K:aK) (H:Hp):V→Value→Prop where
 | aS:jJ K H .aS (.type "NoneType")
 | bl (x:Bool):jJ K H (.bl x) (.type "bool")
 | int (i:Int):jJ K H (.int i) (.type "int")
 | str (x:Str):jJ K H (.str x) (.type "str")
 | uC (x:UInt64):jJ K H (.uC x) (.type "float")
 | lst {a:Addr} {xs:List V} (e:H a=some (.lst xs)):jJ K H (.ref a) (.type "list")
 | aW {a:Addr} {o:Obj} {xs:List V} (e:H a=some (.aW o (.lst xs))):jJ K H (.ref a) (.type "list")
 | tup {a:Addr} {xs:List V} (e:H a=some (.tup xs)):jJ K H (.ref a) (.type "tuple")
 | dK {a:Addr} {kvs:List (Key×V)} (e:H a=some (.dK kvs)):jJ K H (.ref a) (.type "dict")
 | dT {a:Addr} {kvs:List (List Key×V)} (e:H a=some (.dT kvs)):jJ K H (.ref a) (.type "dict")
 | ins {a C dx:Addr} {fs:List (Str×V)} (e:H a=some (.ins C dx fs)) (cl:DT K C) (ha:PySem.W.findIn K (.ref C) "__class__"=some (some (.builtin "object.__class__")))
   (hn:PySem.W.specialIn K (.builtin "object.__class__") "__get__"=some (some (.builtin "getset_descriptor.__get__"))) (IU:PySem.W.takesIn K (.builtin "object.__class__")=some true)
   (hm:PySem.W.mroIn K C (.type "object")=some true):jJ K H (.ref a) (.ref C)
theorem P9{t:Value}(I:Inv X pins σ H s)(rx:RelV x u)(ty:jJ X.K H x t)(e:PySem.W.kitOne X.K t c=some b)(h:∀tk,Q (.bool b) {s with toks:=tk}) :
  wpAny (model X.prog X.w) A (call (.builtin "isinstance") [u,c]) Q E s:=by
 cases ty with
 | aS=>cases (show u=Value.none from rx);exact jy PySem.W.kitx_none I.fT True.intro e (fun z=>nomatch z) h
 | bl y=>cases (show u=Value.bool y from rx);exact jy PySem.W.kitx_bool I.fT True.intro e (fun z=>nomatch z) h
 | int i=>obtain ⟨t,q⟩:=(show ∃t,u=Value.int i t from rx);cases q;exact jy PySem.W.kitx_int I.fT True.intro e (fun z=>nomatch z) h
 | str y=>obtain ⟨t,q⟩:=(show ∃t,u=Value.str y t from rx);cases q;exact jy PySem.W.kitx_str I.fT True.intro e (fun z=>nomatch z) h
 | uC y=>obtain ⟨t,q⟩:=(show ∃t,u=Value.float y t from rx);cases q;exact jy PySem.W.kitx_float I.fT True.intro e (fun z=>nomatch z) h
 | @lst a xs ea=>cases (show u=Value.ref a from rx);obtain ⟨_,_,n,_,h1⟩:=(show b9 X.prog X.w H s.heap a (.lst xs) from I.ay a _ ea);exact jy PySem.W.kitx_list I.fT ⟨_,h1,rfl⟩ e (fun z=>nomatch z) h
 | @aW a ob xs ea=>cases (show u=Value.ref a from rx);obtain ⟨_,_,_,n,_,h1⟩:=(show b9 X.prog X.w H s.heap a (.aW ob (.lst xs)) from I.ay a _ ea);exact jy PySem.W.kitx_list I.fT ⟨_,h1,rfl⟩ e (fun z=>nomatch z) h
 | @tup a xs ea=>cases (show u=Value.ref a from rx);obtain ⟨_,_,_,p⟩:=(show b9 X.prog X.w H s.heap a (.tup xs) from I.ay a _ ea);obtain ⟨o,h1,h2,_⟩:=p;exact jy PySem.W.kitx_tuple I.fT ⟨o,h1,h2⟩ e (fun z=>nomatch z) h
 | @dK a kvs ea=>cases (show u=Value.ref a from rx);obtain ⟨_,_,vs,_,p⟩:=(show b9 X.prog X.w H s.heap a (.dK kvs) from I.ay a _ ea);obtain ⟨o,es,ep,h1,h2,_⟩:=p;exact jy PySem.W.kitx_dict I.fT ⟨o,h1,h2.1⟩ e (fun z=>nomatch z) h
 | @dT a kvs ea=>cases (show u=Value.ref a from rx);obtain ⟨_,_,xs,_,o,es,ep,h1,h2,_⟩:=(show b9 X.prog X.w H s.heap a (.dT kvs) from I.ay a _ ea);exact jy PySem.W.kitx_dict I.fT ⟨o,h1,h2.1⟩ e (fun z=>nomatch z) h
 | @ins a C dx fs ea cl ha hn IU hm=>cases (show u=Value.ref a from rx);obtain ⟨mA,O,_⟩:=P8 I.ay ea;obtain ⟨od,J,_⟩:=O.look;exact jy (PySem.W.kitx_own (cl.get _) cl.hd ha hn IU hm) I.fT J e (fun z=>nomatch z) h
end
structure fh (k:Nat) (A:Around):Prop where
 hd:A.handled=none
 dp:A.depth+3*k+5<recursionLimit
 un:A.units+16*k+200<cLine
variable {k:Nat}
theorem fh.mono{j:Nat}(r:fh k A)(h:j≤k):fh j A:=⟨r.hd,by have:=r.dp;lia,by have:=r.un;lia⟩
theorem fh.deeper(r:fh (k+1) A)(env:Env):fh k (A.deeper env):=
 ⟨r.hd,by have:=r.dp;show A.depth+1+3*k+5<_;lia,by have:=r.un;show A.units+3+16*k+200<_;lia⟩
theorem fh.depth(r:fh k A):A.depth<recursionLimit:=by have:=r.dp;lia
theorem fh.units(r:fh k A):A.units+64<cLine:=by have:=r.un;lia
def Ax:TA:=fun _ H Q=>Q [] H
def uL(ta:TE)(tr:TA):TA:=fun σ H Q=>ta σ H fun x H1=>tr σ H1 fun xs H2=>Q (x::xs) H2
section
variable {X:Cx} {e:Expr} {es:List Expr} {te:TE} {t:TA} {pos:Pos}
theorem aq:PA X [] Ax:=fun _ _ _ _ H Q I h=>Calls.spliced_nil ⟨[],H,I,.nil,h⟩
theorem P_(ha:PE X e te)(hr:PA X es t)(hs:starEach (e::es) X.env=(false,eval e X.env)::starEach es X.env:=by rfl):PA X (e::es) (uL te t):=by intro pos pins s σ H Q I h;rw [hs];show wpAny _ _ (spliced ((false,eval e X.env)::backTo pos (starEach es X.env))) _ _ s;refine Calls.spliced_cons (aN (ha pins s σ H _ I h) fun u s1 ⟨x,H1,I1,r1,q1⟩=>?_);exact aN (hr pos pins s1 σ H1 _ I1 q1) fun us s2 ⟨xs,H2,I2,r2,q2⟩=>⟨x::xs,H2,I2,.cons r1 r2,q2⟩
def Qa(t:TA):TE:=fun σ H Q=>t σ H fun xs H1=>xs.length≤sizeLine∧∀p,H1 p=none→Q (.ref p) (upd H1 p (.tup xs))
def Qb(t:TA):TE:=fun σ H Q=>t σ H fun xs H1=>xs.length≤sizeLine∧∀p,H1 p=none→Q (.ref p) (upd H1 p (.lst xs))
theorem d7{x1}(h:PA X es t):PE X (.Tuple es x1 pos) (Qa t):=by
 intro pins s σ H Q I hq;refine wpAny_Tuple_spliced (aN (h pos pins s σ H _ I hq) fun us s1 ⟨xs,H1,I1,r,z,q⟩=>⟨by rw [←r.length];exact z,?_⟩)
 have hf:H1 s1.heap.objs.size=none:=I1.ay.fresh (aC _);refine ⟨.ref s1.heap.objs.size,upd H1 s1.heap.objs.size (.tup xs),I1.laid (t':=s1.toks) (fun b u e=>bK _ e) (aC _) ?_,rfl,q _ hf⟩;exact ⟨z,us,r,⟨_,cK _ rfl,rfl,_,rfl⟩⟩
theorem eR(h:PA X es t):PE X (.List es pos) (Qb t):=by
 intro pins s σ H Q I hq;refine wpAny_List_spliced (aN (h pos pins s σ H _ I hq) fun us s1 ⟨xs,H1,I1,r,z,q⟩=>⟨by rw [←r.length];exact z,?_⟩)
 have hf:H1 s1.heap.objs.size=none:=I1.ay.fresh (aC _);refine ⟨.ref s1.heap.objs.size,upd H1 s1.heap.objs.size (.lst xs),I1.laid (t':=s1.toks) (fun b u e=>bK _ e) (aC _) ?_,rfl,q _ hf⟩;exact ⟨z,us,0,r,cK _ rfl⟩
end
abbrev Sp:=List V→Hp→VK→XK→Prop
abbrev iC:=List Env→Hp→Shared→XK→Value→Shared→Prop
structure Ay (P:Program) (w:World) (K:aK) (mg:dC) (base:Heap) (A:Around) (outer:List Env) (s:Shared) (H:Hp):Prop where
 frames:A.frames=some outer
 mod:Mod K mg base
 bs:∀b o,base.get? b=some o→s.heap.get? b=some o∧H b=none
 i6:base.objs.size≤s.heap.objs.size
 lH:s.heap.FunFrames base outer
 pD:∀b∈cR outer,H b=none
 ay:cC P w H s.heap
 bare:AllBare s.gens
def CE(outer:List Env)(P:Program)(w:World)(H:Hp)(s:Shared)(Q:VK)(u:Value)(s':Shared):Prop:=
 ∃v H',s'.os=s.os∧AllBare s'.gens∧Un (cR outer) [] H H' s.heap s'.heap∧cC P w H' s'.heap∧RelV v u∧Q v H'
def CR(CX:iC)(outer:List Env)(P:Program)(w:World)(H:Hp)(s:Shared)(Q:VK)(E:XK)(r:Result)(s':Shared):Prop:=
 match r with
 | .ok (.ret u)=>CE outer P w H s Q u s'
 | .ok _=>False
 | .error e=>CX outer H s E e s'
structure bQ (P:Program) (w:World) (K:aK) (mg:dC) (base:Heap) (CX:iC) (k:Nat) (f:Addr) (fd:FuncData) (ps:List Str) (sp:Sp):Prop where
 len:∀vs H Q E,sp vs H Q E→vs.length=ps.length
 run:∀(A:Around) (outer:List Env) (s:Shared) (H:Hp) (args:Args) (us:List Value) (vs:List V) (Q:VK) (E:XK),fh k A→Ay P w K mg base A outer s H→BindsTo s fd args (ps.zip us)→Vals vs us→sp vs H Q E→
  codeAny (model P w) A (.call (.ref f) args) (CR CX outer P w H s Q E) s
section
variable {X:Cx} {pins:aR} {σ:St} {H:Hp} {s s':Shared}
theorem Inv.Qc(I:Inv X pins σ H s):Ay X.prog X.w X.K X.mg X.base X.A X.stack s H:=
 ⟨I.ok.frames,I.ok.mod,I.bs,a9 I.ok.i6 I.sz,I.stack,I.uF,I.ay,I.bare⟩
theorem Inv.after{Q:VK}(I:Inv X pins σ H s)(h:CE X.stack X.prog X.w H s Q u s'):EP X pins σ Q u s':=by obtain ⟨v,H',os,bare,un,ay,r,q⟩:=h;obtain ⟨hh,g,d,t,Qd⟩:=s';obtain rfl:Qd=s.os:=os;exact ⟨v,H',I.call (h':=hh) (g':=g) (d':=d) (t':=t) (ch:=[]) un ay bare (fun b z=>absurd z (by simp)),r,q⟩
end
def IV(sp:Sp)(mY:List V)(E:XK)(t:TA):TE:=fun σ H Q=>t σ H fun vs H1=>sp (vs++mY) H1 Q E
def Binds(K:aK)(fd:FuncData)(ps:List Str)(ds:List Value):Prop:=
 ∀(s:Shared) (us:List Value),K.In s.heap→(us++ds).length=ps.length→BindsTo s fd ⟨us,[]⟩ (ps.zip (us++ds))
variable {ps:List Str}
theorem Binds.all{fd:FuncData}(h:∀us:List Value,us.length=ps.length→bindArgs fd ⟨us,[]⟩=pure (ps.zip us)):Binds K fd ps []:=fun s us _ hl=>by rw [t8] at hl ⊢;exact .of_eq (h us hl)
def Passes(CX:iC)(X:Cx)(E:XK):Prop:=∀(pins:aR) (σ:St) (H:Hp) (s:Shared) (e:Value) (s':Shared),Inv X pins σ H s→CX X.stack H s E e s'→X.xe e s'
section
variable {X:Cx} {CX:iC} {k:Nat} {f C:Addr} {fd:FuncData} {ps:List Str} {sp:Sp} {mY:List V} {ds:List Value} {E:XK} {x m:Str} {p pos apos:Pos} {e o:Expr} {es:List Expr} {ta:TE} {t:TA}
theorem Qe{pins:aR}{Q:VK}{vs:List V}(F:bQ X.prog X.w X.K X.mg X.base CX k f fd ps sp)(hr:fh k X.A)(hb:Binds X.K fd ps ds)(hd:Vals mY ds)(hx:Passes CX X E)
  (I:Inv X pins σ H s) (r:Vals vs us) (h:sp (vs++mY) H Q E):wpAny (model X.prog X.w) X.A (call (.ref f) us) (EP X pins σ Q) X.xe s:=by
 have r2:Vals (vs++mY) (us++ds):=r.append hd;have hl:(us++ds).length=ps.length:=by rw [←r2.length];exact F.len _ _ _ _ h
 refine wpAny_call (codeAny_mono (F.run X.A X.stack s H ⟨us,[]⟩ (us++ds) (vs++mY) Q E hr I.Qc (hb s us I.fT hl) r2 h) fun r s' hq=>?_);cases r with
 | error e=>exact hx pins σ H s e s' I hq
 | ok fl=>
  cases fl with
  | ret u=>exact I.after hq
  | next=>exact False.elim hq
  | brk=>exact False.elim hq
  | cont=>exact False.elim hq
theorem Qf(F:bQ X.prog X.w X.K X.mg X.base CX k f fd ps sp)(hr:fh k X.A)(hg:Gl X x)(hm:X.mg x=some (.ref f))(hk:PySem.W.keepIn X.K (.ref f)=true)(hb:Binds X.K fd ps ds)(hd:Vals mY ds)(hx:Passes CX X E)
  (ha:PA X (e::es) t) (lN:(x == ("__debug__":Str))=false:=by decide) (he:starEach (e::es) X.env=(false,eval e X.env)::starEach es X.env:=by rfl) (ja:(backTo pos (starEach es X.env)).any (·.1)=false:=by rfl) :
  PE X (.Call (.Name x p) (e::es) [] pos) (IV sp mY E t):=by
 intro pins s σ H Q I h;refine xq (DD I hg hm ?_ lN);refine PySem.W.callWith_K (h₀:=X.base) I.ok.mod.dD hk (aN (ha pos pins s σ H _ I h) fun us s1 ⟨vs,H1,I1,r,q⟩=>⟨I1.fT,?_⟩) he ja;exact Qe F hr hb hd hx I1 r q
theorem a8{j:Nat}(F:bQ X.prog X.w X.K X.mg X.base CX k f fd ps sp)(hr:fh j X.A)(hm:X.mg x=some (.ref f))(hk:PySem.W.keepIn X.K (.ref f)=true)(hb:Binds X.K fd ps [])(hx:Passes CX X E)
  (ha:PA X (e::es) t) (hj:k≤j:=by decide) (hg:Gl X x:=by exact rfl) (lN:(x == ("__debug__":Str))=false:=by decide) (he:starEach (e::es) X.env=(false,eval e X.env)::starEach es X.env:=by rfl) (ja:(backTo pos (starEach es X.env)).any (·.1)=false:=by rfl) :
  PE X (.Call (.Name x p) (e::es) [] pos) (IV sp [] E t):=Qf F (hr.mono hj) hg hm hk hb .nil hx ha lN he ja
end
section
variable {X:Cx} {CX:iC} {k:Nat} {f C:Addr} {fd:FuncData} {ps ks:List Str} {sp:Sp} {E:XK} {x m:Str} {p pos apos IW:Pos} {e o:Expr} {es:List Expr} {Qg:List Keyword} {te ta:TE} {t tk:TA} {nm:Option Str}
variable {g:List Value→List Value→List Value} {gV:List V→List V→List V}
end
structure b8 (N P:List Str) (sc:Scope):Prop where
 kind:sc.kind=.function
 co:sc.isCoroutine=false
 gen:sc.isGenerator=false
 nd:N.Nodup
 pre:N.take P.length=P
 par:∀x∈P,sc.names.lookup x=some .local∨sc.names.lookup x=some .cell
 Qh:∀y∈sc.names,y.2≠.free
variable {N:List Str} {sc:Scope}
theorem cL{P:List Str}(h1:sc.kind=.function:=by rfl)(h2:sc.isCoroutine=false:=by rfl)(h3:sc.isGenerator=false:=by rfl)(h4:N.Nodup:=by decide +kernel)(h5:N.take P.length=P:=by rfl)(h6:∀x∈P,sc.names.lookup x=some .local∨sc.names.lookup x=some .cell:=by decide +kernel)(h7:∀y∈sc.names,y.2≠.free:=by decide +kernel):b8 N P sc:=⟨h1,h2,h3,h4,h5,h6,h7⟩
theorem IY{kindOf:Str→Option NameKind}{x:Str}:∀{binds:List (Str×Value)} {m:dC},(∀v,(x,v)∉binds)→bindL kindOf binds m x=m x
 | [],_,_=>rfl
 | (n,v)::r,m,h=>by
  unfold bindL;rw [IY fun w hw=>h w (cA _ hw)]
  split
  ·have:x≠n:=by rintro rfl;exact h v cw
   simp [this]
  ·rfl
theorem IZ{kindOf:Str→Option NameKind}{x:Str}:∀{binds:List (Str×Value)} {m:dC},(∀v,(x,v)∉binds)→bindC kindOf binds m x=m x
 | [],_,_=>rfl
 | (n,v)::r,m,h=>by
  unfold bindC;rw [IZ fun w hw=>h w (cA _ hw)]
  split
  ·rfl
  ·have:x≠n:=by rintro rfl;exact h v cw
   simp [this]
theorem I0{kindOf:Str→Option NameKind}{x:Str}{v:Value}:∀{P:List Str} {vs:List Value} {i:Nat} {m:dC},P.Nodup→P[i]?=some x→vs[i]?=some v→kindOf x=some .local→
  bindL kindOf (P.zip vs) m x=some v
 | [],_,_,_,_,h,_,_=>by simp at h
 | _::_,[],_,_,_,_,h,_=>by simp at h
 | p::P,w::vs,0,m,nd,h1,h2,hk=>by simp at h1 h2;subst h1;subst h2;show bindL kindOf ((p,w)::P.zip vs) m p=_;unfold bindL;rw [IY fun v hv=>(fB.mp nd).1 (List.of_mem_zip hv).1,aj hk];simp
 | p::P,w::vs,i+1,m,nd,h1,h2,hk=>by show bindL kindOf ((p,w)::P.zip vs) m x=_;unfold bindL;exact I0 (i:=i) (fB.mp nd).2 (by simpa using h1) (by simpa using h2) hk
theorem I_{kindOf:Str→Option NameKind}{x:Str}{v:Value}:∀{P:List Str} {vs:List Value} {i:Nat} {m:dC},P.Nodup→P[i]?=some x→vs[i]?=some v→kindOf x≠some .local→
  bindC kindOf (P.zip vs) m x=some v
 | [],_,_,_,_,h,_,_=>by simp at h
 | _::_,[],_,_,_,_,h,_=>by simp at h
 | p::P,w::vs,0,m,nd,h1,h2,hk=>by simp at h1 h2;subst h1;subst h2;show bindC kindOf ((p,w)::P.zip vs) m p=_;unfold bindC;rw [IZ fun v hv=>(fB.mp nd).1 (List.of_mem_zip hv).1,aa hk];simp
 | p::P,w::vs,i+1,m,nd,h1,h2,hk=>by show bindC kindOf ((p,w)::P.zip vs) m x=_;unfold bindC;exact I_ (i:=i) (fB.mp nd).2 (by simpa using h1) (by simpa using h2) hk
def start(N:List Str)(vs:List V):St:=vs.map some++List.replicate (N.length-vs.length) none
def lO(CX:iC)(P:Program)(w:World)(K:aK)(mg:dC)(base:Heap)(N:List Str)(qual:Str)(scope:Scope)(f:Addr)(cd:Value)(A:Around)(outer:List Env)(s:Shared)(H:Hp)(E:XK):Cx where
 prog:=P
 w:=w
 K:=K
 mg:=mg
 base:=base
 A:=A.deeper (envOfC qual scope s.heap.objs.size f cd)
 N:=N
 s₀:=s
 H₀:=H
 env:=envOfC qual scope s.heap.objs.size f cd
 outer:=outer
 stack:=envOfC qual scope s.heap.objs.size f cd::outer
 ex:=[]
 calm:=true
 fn:=fun _=>true
 pn:=[]
 xe:=fun e s'=>wpAny (model P w) (A.deeper (envOfC qual scope s.heap.objs.size f cd)) (leaving (envOfC qual scope s.heap.objs.size f cd) e) (fun _ fi=>CX outer H s E e fi) (fun e' fi=>CX outer H s E e' fi) s'
theorem Ja{x:Str}(h:sc.names.lookup x=some .cell):∃c,(cellsFrom n sc.names []).lookup x=some c:=by have q:=PySem.W.cellsFrom_some sc.names n [] (.inl h);exact zW.mp q
variable {CX:iC} {mg:dC} {qual:Str} {scope:Scope} {f:Addr}
theorem Qi{base:Heap}{cd:Value}{outer:List Env}{s1:Shared}{E:XK}{vs:List V}
  (S:b8 N ps scope) (hd:A.handled=none) (e0:Ay P w K mg base A outer s H) (hl:vs.length=ps.length) (r:Vals vs us)
  (x:InCallC s s.heap.objs.size (bindL (envOfC qual scope s.heap.objs.size f cd).kindOf (ps.zip us) fun _=>none) (cellsFrom (s.heap.objs.size+1) scope.names []) (bindC (envOfC qual scope s.heap.objs.size f cd).kindOf (ps.zip us) fun _=>none) s1) :
  Inv (lO CX P w K mg base N qual scope f cd A outer s H E) [] (start N vs) H s1:=by
 have ja:ps.length≤N.length:=by have:=eL List.length S.pre;rw [oW] at this;lia
 obtain ⟨h1,tk,rfl,hk⟩:=x.done;have x8:∀b:Addr,b∉(lO CX P w K mg base N qual scope f cd A outer s H E).ex:=fun b z=>absurd (show b∈([]:List Addr) from z) (by simp)
 refine ⟨⟨e0.mod,S.kind,rfl,rfl,aC _,fun y z c h1 h2=>?_,fun y hy=>?_,fun y c _ h=>?_,fun _=>hd,Around.frames_deeper e0.frames,.inr ⟨rfl,rfl⟩,fun b z=>absurd z (x8 b),e0.bs,e0.i6,fun b _ _=>x8 b,fun b z=>absurd z (x8 b),e0.lH,e0.pD⟩,
  rfl,e0.bare,Un.kept hk,⟨_,x.toInCall.ns,fun i y v h1 h2 h3=>?_⟩,fun y c h=>⟨_,x.cell y c h⟩,e0.ay.fresh (aC _),fun y c h=>?_,fun p hp=>absurd (show p∈([]:aR) from hp) (by simp),e0.ay.kept hk,?_⟩
 ·exact name_of_addr x.apart (mG h1) (mG h2)
 ·have hy:scope.names.lookup y=some .cell∨scope.names.lookup y=some .free:=hy
  rcases hy with hy | hy;·exact Ja hy
  ·exact absurd rfl (S.Qh _ (mG hy))
 ·exact xl (x.above y c (mG h))
 ·have hi:i<vs.length:=by
   unfold start at h2;by_cases hi:i<vs.length;·exact hi
   ·rw [gG (by simpa using hi)] at h2
    rw [List.getElem?_replicate] at h2
    split at h2 <;> cases h2
  have ha:vs[i]?=some v:=by
   unfold start at h2;rw [gZ (by simpa using hi),bP] at h2
   cases e:vs[i]? with
   | none=>rw [e] at h2;cases h2
   | some a=>rw [e] at h2;cases h2;rfl
  obtain ⟨u,hu,rv⟩:=r.get ha;have hp:ps[i]?=some y:=by rw [←S.pre,List.getElem?_take_of_lt (by lia)];exact h1
  have Jb:ps.Nodup:=by rw [←S.pre];exact S.nd.sublist (List.take_sublist _ _)
  refine ⟨u,rv,?_⟩;rcases S.par y (iz hp) with k | k;·exact .inl ⟨k,I0 Jb hp hu k⟩
  ·obtain ⟨c,e⟩:=Ja (n:=s.heap.objs.size+1) k
   refine .inr ⟨.inl k,c,e,?_⟩;have q:=x.cell y c e;rw [I_ Jb hp hu (by show scope.names.lookup y≠_;rw [k];decide)] at q
   exact q
 ·exact e0.ay.fresh (xl (x.above y c (mG h)))
 ·unfold start
  show _=N.length;rw [c_,aG,List.length_replicate];lia
theorem Jc{base:Heap}{name:Str}{params:Arguments}{body:List Stmt}{dV kV doc pm cg ct oc:Value}{an od:Option Addr}
  {mZ:Array (Option Value)} {sp:Sp} (lk:K.lookup f=some ⟨oc,od,.func (PySem.W.fnOf name qual params body scope dV kV doc pm an cg ct),mZ⟩) (fU:PySem.W.codeIn K cg qual=true) (S:b8 N ps scope)
  (len:∀vs H Q E,sp vs H Q E→vs.length=ps.length)
  (oj:∀(A:Around) (outer:List Env) (s:Shared) (H:Hp) (vs:List V) (Q:VK) (E:XK),fh k (A.deeper (envOfC qual scope s.heap.objs.size f cg))→sp vs H Q E→
   ∃t,gq (lO CX P w K mg base N qual scope f cg A outer s H E) body t∧t {nx:=fun _ H'=>Q .aS H',rt:=Q} (start N vs) H) :
  bQ P w K mg base CX (k+1) f (PySem.W.fnOf name qual params body scope dV kV doc pm an cg ct) ps sp:=by
 refine ⟨len,fun A outer s H args us vs Q E hr e0 hb r m4=>?_⟩;have hl:=len _ _ _ _ m4;have KX:K.In s.heap:=e0.mod.dD.keeps fun b o e=>(e0.bs b o e).1;have lim:s.heap.NoLimit:=e0.mod.nolimit.keeps fun b o e=>(e0.bs b o e).1;have Qj:∀y∈ps.zip us,scope.names.lookup y.1=some .local∨(scope.names.lookup y.1=some .cell∧((cellsFrom (s.heap.objs.size+1) scope.names []).lookup y.1).isSome=true):=fun⟨n,v⟩ hy=>by
  rcases S.par n (List.of_mem_zip hy).1 with q | q;·exact .inl q
  ·exact .inr ⟨q,PySem.W.cellsFrom_some _ _ _ (.inl q)⟩
 refine codeAny_call_function hr.depth (KX _ _ lk) rfl S.co S.gen rfl (PySem.W.codeRec_of KX fU) (hb _ _ _ _ ?_);refine wpAny_newFunctionEnv_cells S.kind Qj fun env he s1 x=>?_;subst he;refine ⟨lim.keeps x.toInCall.keep,codeAny_func ?_⟩;obtain ⟨t,ht,hq⟩:=oj A outer s H vs Q E (hr.deeper _) m4;have I:Inv (lO CX P w K mg base N qual scope f cg A outer s H E) [] (start N vs) H s1:=Qi S hr.hd e0 hl r x;refine bJ (ht [] s1 (start N vs) H _ I hq) (fun fl s' hs=>?_) fun e s' hs=>hs;have fin:∀{σ':St} {H':Hp} {v:V} {u:Value},Inv (lO CX P w K mg base N qual scope f cg A outer s H E) [] σ' H' s'→RelV v u→Q v H'→CE outer P w H s Q u s':=
  fun{σ' H' v u} J rv q=>⟨v,H',J.os,J.bare,J.base,J.ay,rv,q⟩
 cases fl with
 | ret u=>obtain ⟨v,σ',H',J,rv,q⟩:=hs;exact fin J rv q
 | next=>obtain ⟨σ',H',J,q⟩:=hs;exact fin (v:=V.aS) (u:=Value.none) J rfl q
 | brk=>obtain ⟨_,_,_,q⟩:=hs;exact False.elim q
 | cont=>obtain ⟨_,_,_,q⟩:=hs;exact False.elim q
section
variable {X:Cx} {x:Str} {p pos:Pos} {e:Expr} {es:List Expr} {t:TA} {id T:String} {r:List V→Hp→VK→Prop}
def uN(r:List V→Hp→VK→Prop)(t:TA):TE:=fun σ H Q=>t σ H fun vs H1=>r vs H1 Q
theorem cI(hc:eQ X (.builtin id) r)(hg:Gl X x)(hm:X.mg x=none)(hv:bootBuiltins x=some (.builtin id))(ha:PA X (e::es) t)(hn:x ≠ "__name__":=by decide)(lN:(x == ("__debug__":Str))=false:=by decide)
  (he:starEach (e::es) X.env=(false,eval e X.env)::starEach es X.env:=by rfl) (ja:(backTo pos (starEach es X.env)).any (·.1)=false:=by rfl):PE X (.Call (.Name x p) (e::es) [] pos) (uN r t):=by
 intro pins s σ H Q I h;refine xq (lJ I hg hm hv ?_ hn lN);exact PyProof.Rows.callWith_builtin1 (aN (ha pos pins s σ H _ I h) fun us s1 ⟨vs,H1,I1,r1,q1⟩=>hc pins s1 σ H1 vs us Q I1 r1 q1) he ja
theorem gu(hc:eQ X (.type T) r)(hg:Gl X x)(hm:X.mg x=none)(hv:bootBuiltins x=some (.type T))(ha:PA X (e::es) t)(hn:x ≠ "__name__":=by decide)(lN:(x == ("__debug__":Str))=false:=by decide)
  (he:starEach (e::es) X.env=(false,eval e X.env)::starEach es X.env:=by rfl) (ja:(backTo pos (starEach es X.env)).any (·.1)=false:=by rfl):PE X (.Call (.Name x p) (e::es) [] pos) (uN r t):=by
 intro pins s σ H Q I h;refine xq (lJ I hg hm hv ?_ hn lN);exact xp (aN (ha pos pins s σ H _ I h) fun us s1 ⟨vs,H1,I1,r1,q1⟩=>hc pins s1 σ H1 vs us Q I1 r1 q1) he ja
end
end L2
namespace HT
open PySem PyProof.Rows
def lexLt:List Int→List Int→Bool
 | [],[]=>false
 | [],_::_=>true
 | _::_,[]=>false
 | x::xs,y::ys=>if x=y then lexLt xs ys else decide (x<y)
theorem DU(x y:Int)(xs ys:List Int):lexLt (x::xs) (y::ys)=if x=y then lexLt xs ys else decide (x<y):=rfl
theorem Qk:lexLt [] []=false:=rfl
theorem Ql(y:Int)(ys:List Int):lexLt [] (y::ys)=true:=rfl
theorem Qm(x:Int)(xs:List Int):lexLt (x::xs) []=false:=rfl
theorem Qn(A:Around)(s:Shared)(a:Int)(t:Tok)(c:Int)(u:Tok):∃e,SeqAt.EqAt A s (.int a t) (.int c u) e∧(e=true↔a=c):=
 ⟨(a == c),SeqAt.EqAt.int_int a t c u,by simp⟩
theorem Jd(A:Around)(s:Shared)(a:Int)(t:Tok)(c:Int)(u:Tok)(prog:Program)(w:World)(E:aJ)(Q:aJ)(h:Q (.bool (decide (a<c))) s) :
  wpAny (model prog w) A (richCompare .Lt (.int a t) (.int c u)) Q E s:=
 (PyProof.Rows.lt_int h:wpAny (model prog w) A (compareOp .Lt (.int a t) (.int c u)) Q E s)
section
open PySem.SeqAt
open PySem.AutoSeq1 (wpAny_loadPart')
open PySem.MeetsSeq PySem.MeetsSeq2 PySem.MeetsSeq3
theorem Qo(l b:Addr)(items items2:Array Value)(n n2:Nat)(dd pM:Option Addr)(sl jK:Array (Option Value))(ns ms:List Int)(hi:IntsAre items.toList ns)(hj:IntsAre items2.toList ms) :
  Meets (Builtin.«tuple.__lt__» ⟨[.ref l,.ref b],[]⟩)
   (fun _ R s=>s.heap.get? l=some {cls:=.type "tuple",dict:=dd,data:=.seq items n,slots:=sl}∧s.heap.get? b=some {cls:=.type "tuple",dict:=pM,data:=.seq items2 n2,slots:=jK} ∧
    R (.ok (.ret (.bool (lexLt ns ms)))) s):=
 .of_wp fun prog w A R s h=>by
  obtain ⟨hp,g,d,tk,os⟩:=s;obtain ⟨hl,hb,h⟩:=h;have f2:=AutoSeq1.sub_tuple_tuple;have z1:items.size=ns.length:=by rw [←hi.length];simp
  have z2:items2.size=ms.length:=by rw [←hj.length];simp
  wp_walk using wpAny_loadPart' hl,wpAny_loadPart' hb,wpAny_forIn_list _ (fun rest b s'=>b.1=none∧s'=⟨hp,g,d,tk,os⟩∧∃(vs ws:List Value) (kr uO:List Int),rest=vs.zip ws ∧
   IntsAre vs kr∧IntsAre ws uO∧kr.length+items2.size=uO.length+items.size∧R (.ok (.ret (.bool (lexLt kr uO)))) ⟨hp,g,d,tk,os⟩) _
  case turn=>
   rintro ⟨y,x⟩ rest b s' ⟨fE,rfl,vs,ws,kr,uO,hz,DV,eV,hlen,hR⟩;cases DV with
   | nil=>rw [List.zip_nil_left] at hz;cases hz
   | cons a t Qp=>
    cases eV with
    | nil=>rw [List.zip_nil_right] at hz;cases hz
    | cons c u Qq=>
     rw [List.zip_cons_cons] at hz;injection hz with Qr DW;injection Qr with hy hx;subst hy hx;rw [DU] at hR;simp only [eM] at hlen;obtain ⟨e,he,Je⟩:=Qn A.in1 ⟨hp,g,d,tk,os⟩ a t c u;refine ae (he prog w _ _ ?_);cases e with
     | true=>
      rw [aj (Je.mp rfl)] at hR
      wp_walk
      exact ⟨rfl,rfl,_,_,_,_,DW,Qp,Qq,by lia,hR⟩
     | false=>
      rw [aa (fun q=>absurd (Je.mpr q) cj)] at hR;have Qs:=Jd A.in1 ⟨hp,g,d,tk,os⟩ a t c u prog w
      wp_walk using Qs
      exact ⟨_,rfl,by simpa using hR⟩
  case fin=>
   rintro ⟨b1,b2⟩ s' ⟨fE,rfl,vs,ws,kr,uO,hz,DV,eV,hlen,hR⟩;simp only at fE;subst fE;have hv:lexLt kr uO=decide (items.size<items2.size):=by
    cases DV with
    | nil=>
     cases eV with
     | nil=>simp only [xr] at hlen;rw [Qk];exact (b3 (by lia)).symm
     | cons c u hw=>simp only [xr,eM] at hlen;rw [Ql];exact (bV (by lia)).symm
    | cons a t hv=>
     cases eV with
     | nil=>simp only [xr,eM] at hlen;rw [Qm];exact (b3 (by lia)).symm
     | cons c u hw=>rw [List.zip_cons_cons] at hz;cases hz
   rw [hv] at hR
   wp_walk
   exact ⟨_,rfl,by simpa [Builtin.Tuple.tupleCompareSizes] using hR⟩
  case h=>exact ⟨rfl,rfl,items.toList,items2.toList,ns,ms,rfl,hi,hj,by lia,h⟩
end
section
variable {prog:Program} {w:World} {A:Around} {E:aJ} {s:Shared}
variable {b:Addr} {Q:aJ}
theorem Qt{l:Addr}{items items2:Array Value}{ns ms:List Int}(hl:IsTup s.heap l items)(hb:IsTup s.heap b items2)(hi:IntsAre items.toList ns)(hj:IntsAre items2.toList ms)
  (hu:A.units<cLine) (h:Q (.bool (lexLt ns ms)) s):wpAny (model prog w) A (compareOp .Lt (.ref l) (.ref b)) Q E s:=by
 obtain ⟨⟨cls,dd,data,sl⟩,ho,hc,n,hd⟩:=id hl;obtain ⟨⟨Jf,pM,data2,jK⟩,lQ,hG,n2,hd2⟩:=id hb;simp only at hc hd hG hd2;subst hc hd hG hd2
 exact richCompare_meets_room (op:=.Lt) ⟨_,ho,rfl⟩ ⟨_,lQ,rfl⟩ PySem.F.slot_tuple_lt PySem.F.entry_tuple_lt (PySem.F.args_tuple_lt_2 _ _) (Qo l b items items2 n n2 dd pM sl jK ns ms hi hj)
  ⟨ho,lQ,show Value.bool (lexLt ns ms)≠Value.notImplemented∧Q (.bool (lexLt ns ms)) s from ⟨(fun x=>nomatch x),h⟩⟩ hu
theorem Qu{t:Addr}{vs ws:List Value}(ht:IsTup s.heap t vs.toArray)(hb:IsTup s.heap b ws.toArray)(hv:vs≠[])
  (h1:ws=[]→Q (.ref t) s) (h2:ws≠[]→Q (.ref s.heap.objs.size) {s with heap:=s.heap.push {cls:=.type "tuple",data:=.seq (vs++ws).toArray}})
  (hsz:vs.length+ws.length≤sizeLine):wpAny (model prog w) A (binaryOp .Add (.ref t) (.ref b)) Q E s:=by
 obtain ⟨⟨cls,dd,data,sl⟩,ho,hc,n,hd⟩:=id ht;obtain ⟨⟨Jf,pM,data2,jK⟩,lQ,hG,n2,hd2⟩:=id hb;simp only at hc hd hG hd2;subst hc hd hG hd2;have e:vs.toArray++ws.toArray=(vs++ws).toArray:=by simp
 by_cases hw:ws=[]
 ·exact concat_meets ⟨_,ho,rfl⟩ ⟨_,lQ,rfl⟩ noFill_tuple_add seq_tuple_add Dg Dh (Di _ _)
   (tuple_addW1 t b vs.toArray ws.toArray n n2 dd pM sl jK (by simpa using hv) (by simp [hw])) ⟨ho,lQ,h1 hw⟩
 ·refine concat_meets ⟨_,ho,rfl⟩ ⟨_,lQ,rfl⟩ noFill_tuple_add seq_tuple_add Dg Dh (Di _ _)
   (tuple_addW2 t b vs.toArray ws.toArray n n2 dd pM sl jK (by simpa using hv) (by simpa using hw) (by rw [b4,b4];exact hsz)) ⟨ho,lQ,?_⟩
  rw [e];exact h2 hw
def iD(n d:Nat):Option Int→Nat
 | none=>d
 | some v=>if v<0 then (v+(n:Int)).toNat else min v.toNat n
theorem DX{v:Value}{o:Option Int}{Q:Option Int→Shared→Prop}(p:IsPart v o)(h:Q o s):wpAny (model prog w) A (Builtin.Slice.slicePartIndex v) Q E s:=by
 cases p with
 | none=>exact slicePart_none h
 | int i t=>exact slicePart_int h
end
end HT
namespace L2
open PySem PySem.Spec PyProof.Rows
abbrev TO:=St→Hp→(Option Int→Hp→Prop)→Prop
def PO(X:Cx)(e:Option Expr)(t:TO):Prop:=
 ∀(pins:aR) (s:Shared) (σ:St) (H:Hp) (Q:Option Int→Hp→Prop),Inv X pins σ H s→t σ H Q→
  wpAny (model X.prog X.w) X.A (evalPart e X.env) (fun u s'=>∃o H',Inv X pins σ H' s'∧IsPart u o∧Q o H') X.xe s
def Qv:TO:=fun _ H Q=>Q none H
def Qw(t:TE):TO:=fun σ H Q=>t σ H fun x H1=>∃i,x=.int i∧Q (some i) H1
theorem intsAre_of{ns:List Int}:∀{us:List Value},Vals (ns.map V.int) us→IntsAre us ns:=by
 induction ns with
 | nil=>intro us r;rw [t9] at r;cases r;exact .nil
 | cons n ns ih=>
  intro us r;rw [dq] at r;cases r with
  | cons r1 r2=>obtain ⟨t,e⟩:=r1;subst e;exact .cons n t (ih r2)
section
variable {X:Cx} {e:Expr} {te:TE} {lo hi:Option Expr} {tl th:TO} {pos p2:Pos}
theorem Qx:PO X none Qv:=by intro pins s σ H Q I h;rw [evalPart_none];exact aB ⟨none,H,I,.none,h⟩
theorem Qy(h:PE X e te):PO X (some e) (Qw te):=by intro pins s σ H Q I hw;rw [evalPart_some];refine aN (h pins s σ H _ I hw) fun u s1 ⟨x,H1,I1,r1,q1⟩=>?_;obtain ⟨i,rfl,q⟩:=q1;obtain ⟨t,rfl⟩:=r1;exact ⟨some i,H1,I1,.int i t,q⟩
def Jg(X:Cx)(r:V→Option Int→Option Int→Hp→VK→Prop):Prop:=
 ∀(pins:aR) (s:Shared) (σ:St) (H:Hp) (x:V) (v vl vu:Value) (lo hi:Option Int) (sl:Addr) (Q:VK),Inv X pins σ H s→RelV x v→s.heap.IsSliceOf sl vl vu .none→IsPart vl lo→IsPart vu hi→r x lo hi H Q→
  ∃T id,typeLookup (.type T) "__getitem__"=pure (some (.builtin id))∧s.TypeIs v T∧wpAny (model X.prog X.w) X.A (getItem v (.ref sl)) (EP X pins σ Q) X.xe s
def Qz(r:V→Option Int→Option Int→Hp→VK→Prop)(te:TE)(tl th:TO):TE:=fun σ H Q=>te σ H fun x H1=>tl σ H1 fun l H2=>th σ H2 fun u H3=>r x l u H3 Q
theorem QA{r:V→Option Int→Option Int→Hp→VK→Prop}(hr:Jg X r)(he:PE X e te)(hl:PO X lo tl)(hu:PO X hi th):PE X (.Subscript e (.Slice lo hi none p2) pos) (Qz r te tl th):=by intro pins s σ H Q I h;refine Subscript_ (aN (he pins s σ H _ I h) fun v s1 ⟨x,H1,I1,r1,q1⟩=>?_);refine wpAny_Slice (aN (hl pins s1 σ H1 _ I1 q1) fun vl s2 ⟨l,H2,I2,pl,q2⟩=>aN (hu pins s2 σ H2 _ I2 q2) fun vu s3 ⟨u,H3,I3,pu,q3⟩=>?_);rw [evalPart_none];refine aB ?_;have I4:Inv X pins σ H3 {s3 with heap:=s3.heap.push {cls:=.type "slice",data:=.fields #[vl,vu,.none]}}:=I3.kept (t':=s3.toks) fun b ob q=>bK _ q;obtain ⟨T,id,hT,ht,hg⟩:=hr pins {s3 with heap:=s3.heap.push {cls:=.type "slice",data:=.fields #[vl,vu,.none]}} σ H3 x v vl vu l u s3.heap.objs.size Q I4 r1 (Heap.IsSliceOf.new ..) pl pu q3;show wpAny (model X.prog X.w) X.A (subscriptTail e (.Slice lo hi none p2) v (.ref s3.heap.objs.size)) (EP X pins σ Q) X.xe {s3 with heap:=s3.heap.push {cls:=.type "slice",data:=.fields #[vl,vu,.none]}};exact tail_any (ops:=[.ref s3.heap.objs.size,v]) ht hT hg (by with_unfolding_all rfl)
def jL(xs:List V)(lo hi:Option Int):List V:=(xs.drop (HT.iD xs.length 0 lo)).take (HT.iD xs.length xs.length hi-HT.iD xs.length 0 lo)
theorem QB(xs:List V)(lo hi:Option Int):(jL xs lo hi).length≤xs.length:=by unfold jL;rw [oW,List.length_drop];lia
def QC(K:aK):R2:=fun x y H Q=>∃a b xs ys,x=.ref a∧y=.ref b∧dG K H a xs∧dG K H b ys∧xs≠[]∧xs.length+ys.length≤sizeLine ∧
 (ys=[]→Q (.ref a) H)∧(ys≠[]→∀p,H p=none→Q (.ref p) (upd H p (.tup (xs++ys))))
theorem Vals.Az{xs:List V}{us:List Value}(r:Vals xs us):us=[]↔xs=[]:=by
 cases r with
 | nil=>simp
 | cons _ _=>simp
theorem QD:cU X (binaryOp .Add) (QC X.K):=by
 intro pins s σ H x y v u Q I rx ry h;obtain ⟨a,b,xs,ys,rfl,rfl,ha,hb,hx,hz,q1,q2⟩:=h;cases rx;cases ry;obtain ⟨ak,r1,p1,_⟩:=I.tuple ha;obtain ⟨jb,r2,p2,_⟩:=I.tuple hb;refine HT.Qu p1 p2 (fun z=>hx (r1.Az.mp z)) (fun z=>⟨.ref a,H,I,rfl,q1 (r2.Az.mp z)⟩) (fun z=>?_) (by rw [←r1.length,←r2.length];exact hz)
 refine ⟨.ref s.heap.objs.size,_,I.laid (t':=s.toks) (o:=.tup (xs++ys)) (fun b ob q=>bK _ q) (aC _) ?_,rfl,q2 (fun w=>z (r2.Az.mpr w)) _ (I.ay.fresh (aC _))⟩;exact ⟨by rw [c_];exact hz,_,r1.append r2,IsTup.new _ _⟩
end
def lR(n:Nat)(i:Int):Option Nat:=if 0≤i then (if i<n then some i.toNat else none) else if -(n:Int)≤i then some (i+n).toNat else none
def jM{α:Type}(xs:List α)(i:Int):Option α:=(lR xs.length i).bind fun j=>xs[j]?
variable {i:Int} {j:Nat}
theorem Jh{n:Nat}(h:lR n i=some j):seqIndex? i n=some j∧j<n∧-(n:Int)≤i∧i<n:=by
 unfold lR at h;by_cases h0:0≤i
 ·rw [aj h0] at h
  by_cases h1:i<n
  ·rw [aj h1] at h
   have e:i.toNat=j:=Option.some.inj h;exact ⟨by rw [seqIndex_of h0 h1,e],by lia,by lia,h1⟩
  ·rw [aa h1] at h;cases h
 ·rw [aa h0] at h
  by_cases h1:-(n:Int)≤i
  ·rw [aj h1] at h
   have e:(i+n).toNat=j:=Option.some.inj h;exact ⟨by rw [seqIndex_neg (by lia) h1,e],by lia,h1,by lia⟩
  ·rw [aa h1] at h;cases h
theorem Ji{α:Type}{xs:List α}{v:α}(h:jM xs i=some v):∃j,seqIndex? i xs.length=some j∧xs[j]?=some v∧j<xs.length∧-(xs.length:Int)≤i∧i<xs.length:=by
 unfold jM at h;cases e:lR xs.length i with
 | none=>rw [e] at h;cases h
 | some j=>rw [e] at h;obtain ⟨h1,h2,h3,h4⟩:=Jh e;exact ⟨j,h1,h,h2,h3,h4⟩
theorem pN{α:Type}{xs:List α}{v:α}(h:xs[j]?=some v):jM xs (j:Int)=some v:=by
 have hj:j<xs.length:=(bx.mp h).1;have e:lR xs.length (j:Int)=some j:=by unfold lR;rw [aj (by lia),aj (by lia)];simp
 unfold jM;rw [e];exact h
def Jj(b:Expr):Prop:=∀o i,subscripted b false o i=operate [o,i] (getItem o i)
def x9(X:Cx)(r:R2):Prop:=
 ∀(value slice:Expr) (pins:aR) (s:Shared) (σ:St) (H:Hp) (x y:V) (v u:Value) (Q:VK),Inv X pins σ H s→RelV x v→RelV y u→r x y H Q→
  subscripted slice false v u=operate [v,u] (getItem v u)→wpAny (model X.prog X.w) X.A (subscriptTail value slice v u) (EP X pins σ Q) X.xe s
def Jk(X:Cx)(id:String)(r:V→List V→Hp→VK→Prop):Prop:=
 ∀(pins:aR) (s:Shared) (σ:St) (H:Hp) (x:V) (xs:List V) (v:Value) (us:List Value) (Q:VK),Inv X pins σ H s→RelV x v→Vals xs us→r x xs H Q→
  wpAny (model X.prog X.w) X.A (call (.builtin id) (v::us)) (EP X pins σ Q) X.xe s
section
variable {X:Cx} {a b:Expr} {ta tb:TE} {pos:Pos}
variable {r:R2}
theorem QE(hr:x9 X r)(ha:PE X a ta)(hb:PE X b tb)(hs:Jj b):PE X (.Subscript a b pos) (qU r ta tb):=by intro pins s σ H Q I h;exact Subscript_ (DM ha hb I h fun v u s2 x y H2 I2 rx ry q=>hr a b pins s2 σ H2 x y v u Q I2 rx ry q (hs _ _))
theorem bN(hr:x9 X r)(ha:PE X a ta)(hb:PE X b tb)(hs:Jj b:=by exact fun _ _=>rfl):PE X (.Subscript a b pos) (qU r ta tb):=QE hr ha hb hs
def Jl(K:aK):R2:=fun x y H Q=>∃p xs i v,x=.ref p∧y=.int i∧bz K H p xs∧jM xs i=some v∧Q v H
def QF(K:aK):R2:=fun x y H Q=>∃p xs i v,x=.ref p∧y=.int i∧dG K H p xs∧jM xs i=some v∧Q v H
theorem dv:x9 X (Jl X.K):=by
 intro value slice pins s σ H x y v u Q I rx ry h hs;obtain ⟨p,xs,i,z,rfl,rfl,hq,he,q⟩:=h;cases rx;obtain ⟨t,rfl⟩:=ry;obtain ⟨ak,r,pl,hz⟩:=I.list hq;obtain ⟨j,h1,h2,h3,h4,h5⟩:=Ji he;obtain ⟨w,ew,iE⟩:=r.get h2;have hl:=r.length;have hn:=x6;have fin:EP X pins σ Q w s:=⟨z,H,I,iE,q⟩;by_cases h0:0≤i
 ·have hj:i.toNat=j:=by rw [seqIndex_of h0 h5] at h1;exact Option.some.inj h1
  exact item_listR pl.isList h0 (by lia) (by rw [hj];simpa using ew) fin hs
 ·have hj:(i+(ak.toArray.size:Int)).toNat=j:=by
   rw [seqIndex_neg (by lia) h4] at h1
   rw [b4,←hl];exact Option.some.inj h1
  exact subscriptTail_builtinR (x:=w) pl.isList.typeIs slot_list_getitem.lookup
   (wpAny_getItem_list_neg (Q:=fun r s'=>r=w∧EP X pins σ Q r s') pl.isList (by lia) (by rw [b4] <;> lia) (by lia) (by rw [hj];simpa using ew) ⟨rfl,fin⟩) hs
theorem gO:x9 X (QF X.K):=by
 intro value slice pins s σ H x y v u Q I rx ry h hs;obtain ⟨p,xs,i,z,rfl,rfl,hq,he,q⟩:=h;cases rx;obtain ⟨t,rfl⟩:=ry;obtain ⟨ak,r,pl,hz⟩:=I.tuple hq;obtain ⟨j,h1,h2,h3,h4,h5⟩:=Ji he;obtain ⟨w,ew,iE⟩:=r.get h2;have hl:=r.length;have hn:=x6;have fin:EP X pins σ Q w s:=⟨z,H,I,iE,q⟩
 exact subscriptTail_builtinR (x:=w) pl.typeIs slot_tuple_getitem.lookup
  (getItem_tuple (j:=j) (Q:=fun r s'=>r=w∧EP X pins σ Q r s') pl (by lia) (by lia) (by rw [b4,←hl];exact h1) (by simpa using ew) ⟨rfl,fin⟩) hs
theorem QG(ak:List Value)(n j:Nat)(u:Value):Obj.mapSeq (·.setIfInBounds j u) {cls:=.type "list",data:=.seq ak.toArray n}={cls:=.type "list",data:=.seq (ak.set j u).toArray n}:=by simp [Obj.mapSeq]
theorem Inv.lst{pins:aR}{σ:St}{H:Hp}{s:Shared}{p:Addr}{xs:List V}(I:Inv X pins σ H s)(h:H p=some (.lst xs)) :
  ∃(ak:List Value) (n:Nat),Vals xs ak∧s.heap.get? p=some {cls:=.type "list",data:=.seq ak.toArray n}∧xs.length≤sizeLine:=by
 obtain ⟨z,ak,n,r,e⟩:=I.ay p _ h;exact ⟨ak,n,r,e,z⟩
variable {pins:aR} {σ:St} {H:Hp} {s:Shared}
theorem Inv.QH{p:Addr}{xs ys:List V}{ak its':List Value}{n n':Nat}{f:Obj→Obj}(I:Inv X pins σ H s)(h:H p=some (.lst xs))
  (ho:s.heap.get? p=some {cls:=.type "list",data:=.seq ak.toArray n}) (hf:f {cls:=.type "list",data:=.seq ak.toArray n}={cls:=.type "list",data:=.seq its'.toArray n'}) (r:Vals ys its') (hz:ys.length≤sizeLine) (t:Nat) :
  Inv X pins σ (upd H p (.lst ys)) {s with heap:=s.heap.update p f,toks:=t}:=by
 have e:(s.heap.update p f).get? p=some {cls:=.type "list",data:=.seq its'.toArray n'}:=by rw [qu f ho (by rw [hf] <;> rfl),hf]
 refine I.write (x:=p) (e:=p) (by rw [h];trivial) (.inl rfl) (fun b u hb q=>(xt _ _ (Ne.symm hb)).trans q) ⟨_,e⟩ ?_
 exact ⟨hz,its',n',r,e⟩
def QI:V→V→V→Hp→(Hp→Prop)→Prop:=fun o i v H Q=>∃p xs k j,o=.ref p∧i=.int k∧H p=some (.lst xs)∧lR xs.length k=some j∧Q (upd H p (.lst (xs.set j v)))
theorem set_list:Iy X QI:=by
 intro pins s σ H o i v ov iv u Q I ro ri rv h;obtain ⟨p,xs,k,j,rfl,rfl,hp,hj,q⟩:=h;cases ro;obtain ⟨t,rfl⟩:=ri;obtain ⟨ak,n,r,ho,hz⟩:=I.lst hp;obtain ⟨h1,h2,h3,h4⟩:=Jh hj;have hl:=r.length;have hn:=x6;have I':Inv X pins σ (upd H p (.lst (xs.set j v))) {s with heap:=s.heap.update p (Obj.mapSeq (·.setIfInBounds j u))}:=
  I.QH hp ho (QG ak n j u) (r.set rv j) (by rw [List.length_set];exact hz) s.toks
 by_cases h0:0≤k
 ·have hk:k.toNat=j:=by rw [seqIndex_of h0 h4] at h1;exact Option.some.inj h1
  exact PySem.W.ki_setAt ho h0 (by lia) (by rw [b4,←hl];exact h4) (by rw [hk];exact ⟨_,I',q⟩)
 ·have hk:(k+(ak.toArray.size:Int)).toNat=j:=by
   rw [seqIndex_neg (by lia) h3] at h1
   rw [b4,←hl];exact Option.some.inj h1
  exact PySem.W.ki_setBack ho (by lia) (by rw [b4,←hl];exact h3) (by lia) (by rw [hk];exact ⟨_,I',q⟩)
theorem QJ(lo hi:Option Int)(n:Nat):(sliceBounds lo hi none n).1=((HT.iD n 0 lo:Nat):Int)∧(sliceBounds lo hi none n).2.1=((HT.iD n n hi:Nat):Int)∧(sliceBounds lo hi none n).2.2=1:=by
 refine ⟨?_,?_,rfl⟩
 ·cases lo with
  | none=>simp [sliceBounds,HT.iD]
  | some i=>
   simp only [sliceBounds,HT.iD,Option.getD_none,show (1:Int)>0 by decide,iX]
   by_cases h:i<0;·simp only [h,iX] <;> lia
   ·simp only [h,gg] <;> lia
 ·cases hi with
  | none=>simp [sliceBounds,HT.iD]
  | some i=>
   simp only [sliceBounds,HT.iD,Option.getD_none,show (1:Int)>0 by decide,iX]
   by_cases h:i<0;·simp only [h,iX] <;> lia
   ·simp only [h,gg] <;> lia
theorem QK(ak:List Value)(lo hi:Option Int):slicePick ak.toArray lo hi none=((ak.drop (HT.iD ak.length 0 lo)).take (HT.iD ak.length ak.length hi-HT.iD ak.length 0 lo)).toArray:=by obtain ⟨h1,h2,h3⟩:=QJ lo hi ak.toArray.size;unfold slicePick;rw [h1,h2,h3];simp only [sliceRange_one,pick_run,b4] <;> rfl
def QL(K:aK):V→Option Int→Option Int→Hp→VK→Prop:=fun x lo hi H Q=>∃a xs,x=.ref a∧bz K H a xs∧∀p,H p=none→Q (.ref p) (upd H p (.lst (jL xs lo hi)))
theorem QM:Jg X (QL X.K):=by
 intro pins s σ H x v vl vu lo hi sl Q I rx hs pl pu h;obtain ⟨a,xs,rfl,hx,q⟩:=h;cases rx;obtain ⟨ak,r,ht,hz⟩:=I.list hx;have hlen:=r.length;refine ⟨"list",_,slot_list_getitem.lookup,ht.isList.typeIs,?_⟩;refine wpAny_getItem_list_slice ht.isList hs pl pu .none (by simp) ?_ (by rw [b4] <;> lia)
 rw [QK,←hlen];refine ⟨.ref s.heap.objs.size,_,I.laid (t':=s.toks) (o:=.lst (jL xs lo hi)) (fun b ob q=>bK _ q) (aC _) ?_,rfl,q _ (I.ay.fresh (aC _))⟩;exact ⟨a9 (QB xs lo hi) hz,_,0,(r.drop (HT.iD xs.length 0 lo)).take (HT.iD xs.length xs.length hi-HT.iD xs.length 0 lo),cK _ rfl⟩
def jc:V→Bool
 | .aS=>true
 | .bl _=>true
 | .int _=>true
 | .str _=>true
 | _=>false
def iF:V→V→Bool
 | .aS,.aS=>true
 | .bl a,.bl b=>a == b
 | .bl a,.int b=>(if a then 1 else 0) == b
 | .int a,.bl b=>a == (if b then 1 else 0)
 | .int a,.int b=>a == b
 | .str a,.str b=>a == b
 | _,_=>false
variable {y x:V} {u:Value}
theorem AA{A:Around}{v:Value}(ry:RelV y u)(rx:RelV x v)(fy:jc y=true)(fx:jc x=true):SeqAt.EqAt A s u v (iF y x):=by
 cases y with
 | aS=>
  cases ry;cases x with
  | aS=>cases rx;exact SeqAt.EqAt.same _
  | bl b=>cases rx;exact SeqAt.EqAt.none_bool b
  | int b=>obtain ⟨t,rfl⟩:=rx;exact SeqAt.EqAt.none_int b t
  | str b=>obtain ⟨t,rfl⟩:=rx;exact SeqAt.EqAt.none_str b t
  | _=>exact absurd (show false=true from fx) cj
 | bl a=>
  cases ry;cases x with
  | aS=>cases rx;exact SeqAt.EqAt.bool_none a
  | bl b=>cases rx;exact SeqAt.EqAt.bool_bool a b
  | int b=>obtain ⟨t,rfl⟩:=rx;exact SeqAt.EqAt.bool_int a b t
  | str b=>obtain ⟨t,rfl⟩:=rx;exact SeqAt.EqAt.bool_str a b t
  | _=>exact absurd (show false=true from fx) cj
 | int a=>
  obtain ⟨t',rfl⟩:=ry;cases x with
  | aS=>cases rx;exact SeqAt.EqAt.int_none a t'
  | bl b=>cases rx;exact SeqAt.EqAt.int_bool a t' b
  | int b=>obtain ⟨t,rfl⟩:=rx;exact SeqAt.EqAt.int_int a t' b t
  | str b=>obtain ⟨t,rfl⟩:=rx;exact SeqAt.EqAt.int_str a t' b t
  | _=>exact absurd (show false=true from fx) cj
 | str a=>
  obtain ⟨t',rfl⟩:=ry;cases x with
  | aS=>cases rx;exact SeqAt.EqAt.str_none a t'
  | bl b=>cases rx;exact SeqAt.EqAt.str_bool a t' b
  | int b=>obtain ⟨t,rfl⟩:=rx;exact SeqAt.EqAt.str_int a t' b t
  | str b=>obtain ⟨t,rfl⟩:=rx;exact SeqAt.EqAt.str_str a t' b t
  | _=>exact absurd (show false=true from fx) cj
 | _=>exact absurd (show false=true from fy) cj
def iG(x:V)(u:Value):Bool:=match u with
 | .none=>iF .aS x
 | .bool b=>iF (.bl b) x
 | .int i _=>iF (.int i) x
 | .str z _=>iF (.str z) x
 | _=>false
theorem Jm(r:RelV y u)(f:jc y=true):iG x u=iF y x:=by
 cases y with
 | aS=>cases r;rfl
 | bl b=>cases r;rfl
 | int i=>obtain ⟨t,rfl⟩:=r;rfl
 | str z=>obtain ⟨t,rfl⟩:=r;rfl
 | _=>exact absurd (show false=true from f) cj
theorem x_{x:V}:∀{xs:List V} {us:List Value},Vals xs us→xs.all jc=true→us.any (iG x)=xs.any fun y=>iF y x
 | _,_,.nil,_=>rfl
 | y::xs,u::us,.cons r t,f=>by rw [List.all_cons,xu] at f;rw [xv,xv,Jm r f.1,x_ t f.2]
theorem ya{A:Around}{s:Shared}{x:V}{v:Value}(rx:RelV x v)(fx:jc x=true):∀{xs:List V} {us:List Value},Vals xs us→xs.all jc=true→∀u∈us,SeqAt.EqAt A s u v (iG x u)
 | _,_,.nil,_=>fun u hu=>by cases hu
 | y::xs,u::us,.cons r t,f=>fun u' hu=>by
  rw [List.all_cons,xu] at f;rcases bU.mp hu with rfl | hu;·rw [Jm r f.1];exact AA r rx f.1 fx
  ·exact ya rx fx t f.2 u' hu
def jd(x:V)(xs:List V):Bool:=xs.any fun y=>iF y x
def DY(K:aK)(neg:Bool):R2:=fun x y H Q=>∃p xs,y=.ref p∧(bz K H p xs∨dG K H p xs)∧jc x=true∧xs.all jc=true∧Q (.bl (if neg then !jd x xs else jd x xs)) H
theorem DZ:cU X (compareOp .In) (DY X.K false):=by
 intro pins s σ H x y v u Q I rx ry h;obtain ⟨p,xs,rfl,hq,fx,fs,q⟩:=h;cases ry;rcases hq with hq | hq
 ·obtain ⟨ak,r,pl,hz⟩:=I.list hq
  refine SeqAt.in_listAt (iG x) pl.isList (fun w hw=>ya rx fx r fs w (by simpa using hw)) ⟨.bl _,H,I,rfl,?_⟩
  rw [show ak.toArray.any (iG x)=ak.any (iG x) by simp,x_ r fs]
  exact q
 ·obtain ⟨ak,r,pl,hz⟩:=I.tuple hq
  refine SeqAt.in_tupleAt (iG x) pl (fun w hw=>ya rx fx r fs w (by simpa using hw)) ⟨.bl _,H,I,rfl,?_⟩
  rw [show ak.toArray.any (iG x)=ak.any (iG x) by simp,x_ r fs]
  exact q
theorem QN:cU X (compareOp .NotIn) (DY X.K true):=by
 intro pins s σ H x y v u Q I rx ry h;obtain ⟨p,xs,rfl,hq,fx,fs,q⟩:=h;cases ry;rcases hq with hq | hq
 ·obtain ⟨ak,r,pl,hz⟩:=I.list hq
  refine SeqAt.notIn_listAt (iG x) pl.isList (fun w hw=>ya rx fx r fs w (by simpa using hw)) ⟨.bl _,H,I,rfl,?_⟩
  rw [show ak.toArray.any (iG x)=ak.any (iG x) by simp,x_ r fs]
  exact q
 ·obtain ⟨ak,r,pl,hz⟩:=I.tuple hq
  refine SeqAt.notIn_tupleAt (iG x) pl (fun w hw=>ya rx fx r fs w (by simpa using hw)) ⟨.bl _,H,I,rfl,?_⟩
  rw [show ak.toArray.any (iG x)=ak.any (iG x) by simp,x_ r fs]
  exact q
theorem jN:eQ X (.builtin "len") (fun xs H Q=>∃p ys,xs=[.ref p]∧(bz X.K H p ys∨dG X.K H p ys)∧Q (.int ys.length) H):=by
 intro pins s σ H xs us Q I r h;obtain ⟨p,ys,rfl,hq,q⟩:=h;obtain ⟨u,rfl,rx⟩:=vals1 r;cases rx;have hn:=x6;rcases hq with hq | hq
 ·obtain ⟨ak,r',pl,hz⟩:=I.list hq
  have hlen:=r'.length;exact Calls.call_len_list pl.isList (by simp only [b4] <;> lia) ⟨.int ys.length,H,I.tok _,⟨s.toks+1,by rw [b4,hlen]⟩,q⟩
 ·obtain ⟨ak,r',pl,hz⟩:=I.tuple hq
  have hlen:=r'.length;exact len_tuple pl (by simp only [b4] <;> lia) ⟨.int ys.length,H,I.tok _,⟨s.toks+1,by rw [b4,hlen]⟩,q⟩
theorem Jn:eQ X (.type "list") (fun xs H Q=>∃p ys,xs=[.ref p]∧(bz X.K H p ys∨dG X.K H p ys)∧∀l,H l=none→Q (.ref l) (upd H l (.lst ys))):=by
 intro pins s σ H xs us Q I r h;obtain ⟨p,ys,rfl,hq,q⟩:=h;obtain ⟨u,rfl,rx⟩:=vals1 r;cases rx
 have fin:∀(ak:List Value),Vals ys ak→ys.length≤sizeLine→∀(h':Heap) (c':Nat),(∀b o',s.heap.get? b=some o'→h'.get? b=some o')→
   h'.get? s.heap.objs.size=some {cls:=.type "list",dict:=none,data:=.seq ak.toArray c',slots:=#[]}→EP X pins σ Q (.ref s.heap.objs.size) {s with heap:=h'}:=fun ak r' hz h' c' kp e=>
  ⟨.ref s.heap.objs.size,_,I.laid (t':=s.toks) kp (aC _) (show b9 X.prog X.w _ h' _ (.lst ys) from ⟨hz,ak,c',r',e⟩),rfl,q _ (I.ay.fresh (aC _))⟩
 rcases hq with hq | hq
 ·obtain ⟨ak,r',pl,hz⟩:=I.list hq
  have hlen:=r'.length;obtain ⟨o,ho,hc,n,hd⟩:=pl.isList;exact call_list_seq p (.inl rfl) ho hc hd (fun h' c' kp e=>fin ak r' hz h' c' kp e) (by simp only [b4] <;> lia)
 ·obtain ⟨ak,r',pl,hz⟩:=I.tuple hq
  have hlen:=r'.length;obtain ⟨o,ho,hc,n,hd⟩:=pl;exact call_list_seq p (.inr rfl) ho hc hd (fun h' c' kp e=>fin ak r' hz h' c' kp e) (by simp only [b4] <;> lia)
theorem D4:eQ X (.type "tuple") (fun xs H Q=>∃p ys,xs=[.ref p]∧((bz X.K H p ys∧∀l,H l=none→Q (.ref l) (upd H l (.tup ys)))∨(dG X.K H p ys∧Q (.ref p) H))):=by
 intro pins s σ H xs us Q I r h;obtain ⟨p,ys,rfl,h⟩:=h;obtain ⟨u,rfl,rx⟩:=vals1 r;cases rx;rcases h with ⟨hq,q⟩ | ⟨hq,q⟩
 ·obtain ⟨ak,r',pl,hz⟩:=I.list hq
  have hlen:=r'.length;refine call_tuple_list pl.isList (fun h' kp=>?_) (by simp only [b4] <;> lia)
  have I1:Inv X pins σ H {s with heap:=h'}:=I.kept (t':=s.toks) kp;have I2:Inv X pins σ (upd H h'.objs.size (.tup ys)) {s with heap:=h'.push {cls:=.type "tuple",data:=.seq ak.toArray}}:=
   I1.laid (t':=s.toks) (fun b o e=>bK _ e) (aC _) (show b9 X.prog X.w _ _ _ (.tup ys) from ⟨hz,ak,r',IsTup.new _ _⟩)
  exact ⟨.ref h'.objs.size,_,I2,rfl,q _ (I1.ay.fresh (aC _))⟩
 ·obtain ⟨ak,r',pl,hz⟩:=I.tuple hq
  exact call_tuple_same pl ⟨.ref p,H,I,rfl,q⟩
def D5(K:aK)(T:String)(x:V)(H:Hp):Prop:=match x with
 | .str _=>T="str"
 | .int _=>T="int"
 | .ref p=>(T="list"∧∃xs,bz K H p xs)∨(T="tuple"∧∃o,K.lookup p=some o∧o.cls=.type "tuple"∧o.dict=none) ∨
   (T="dict"∧((∃kvs,H p=some (.dK kvs))∨∃kvs,H p=some (.dT kvs)))∨(T="set"∧∃S n,H p=some (.set S n))
 | _=>False
theorem Jo{T:String}{v:Value}(I:Inv X pins σ H s)(r:RelV x v)(ty:D5 X.K T x H) :
  s.TypeIs v T∧∀a,v=.ref a→∃ob,s.heap.get? a=some ob∧ob.dict=none:=by
 cases x with
 | str z=>obtain ⟨t,rfl⟩:=r;cases (show T="str" from ty);exact ⟨typeIs_str s z t,fun _ e=>nomatch e⟩
 | int i=>obtain ⟨t,rfl⟩:=r;cases (show T="int" from ty);exact ⟨typeIs_int s i t,fun _ e=>nomatch e⟩
 | ref p=>
  cases r;rcases ty with ⟨rfl,xs,hq⟩ | ⟨rfl,o,hk,hc,hd⟩ | ⟨rfl,hk⟩ | ⟨rfl,S,n,hk⟩
  ·obtain ⟨ak,_,pl,_⟩:=I.list hq
   refine ⟨pl.isList.typeIs,fun a e=>?_⟩;cases e;obtain ⟨o,n,e,c,hd,_⟩:=pl;exact ⟨o,e,hd⟩
  ·refine ⟨⟨o,I.fT p o hk,hc⟩,fun a e=>?_⟩
   cases e;exact ⟨o,I.fT _ o hk,hd⟩
  ·have z:∃o,s.heap.get? p=some o∧o.ExactDict:=by
    rcases hk with ⟨kvs,hk⟩ | ⟨kvs,hk⟩
    ·obtain ⟨_,_,_,_,o,_,_,e,ex,_⟩:=I.ay p _ hk
     exact ⟨o,e,ex⟩
    ·obtain ⟨_,_,_,_,o,_,_,e,ex,_⟩:=I.ay p _ hk
     exact ⟨o,e,ex⟩
   obtain ⟨o,e,ex⟩:=z;refine ⟨⟨o,e,ex.1⟩,fun a e2=>?_⟩;cases e2;exact ⟨o,e,ex.2.1⟩
  ·obtain ⟨o,_,_,_,e,ex,_⟩:=I.ay p _ hk
   refine ⟨⟨o,e,ex.1⟩,fun a e2=>?_⟩;cases e2;exact ⟨o,e,ex.2.1⟩
 | _=>exact False.elim ty
def QO(K:aK)(T:String)(r:V→List V→Hp→VK→Prop)(to:TE):TE:=fun σ H Q=>to σ H fun x H1=>D5 K T x H1∧r x [] H1 Q
def QP(K:aK)(T:String)(r:V→List V→Hp→VK→Prop)(to:TE)(t:TA):TE:=fun σ H Q=>to σ H fun x H1=>D5 K T x H1∧t σ H1 fun xs H2=>r x xs H2 Q
variable {o e:Expr} {es:List Expr} {to:TE} {t:TA} {name:Str} {apos d_:Pos} {T id:String} {r:V→List V→Hp→VK→Prop}
theorem Jp(pa:PlainAttrs T)(slot:Slot T name id)(D6:typeOf (.builtin id)=pure (.type "method_descriptor"))(hm:Jk X id r)(ho:PE X o to)
  (D7:attributeBase o name X.env (eval o X.env)=eval o X.env:=by rfl) (D8:(apos.endLine == d_.line)=true:=by rfl):PE X (.Call (.Attribute o name apos) [] [] d_) (QO X.K T r to):=by
 intro pins s σ H Q I h;refine wpAny_Call_method0_late D7 D8 (aN (ho pins s σ H _ I h) fun v s1 ⟨x,H1,I1,r1,ty,q1⟩=>?_);obtain ⟨h1,h2⟩:=Jo I1 r1 ty;exact ⟨T,id,pa,slot,D6,h1,h2,Dj rfl (PySem.evalArgs_none (hm pins s1 σ H1 x [] v [] Q I1 r1 .nil q1))⟩
theorem ku(pa:PlainAttrs T)(slot:Slot T name id)(D6:typeOf (.builtin id)=pure (.type "method_descriptor"))(hm:Jk X id r)(ho:PE X o to)(ha:PA X (e::es) t)
  (D7:attributeBase o name X.env (eval o X.env)=eval o X.env:=by rfl)
  (D9:((backTo d_ (starEach (e::es) X.env)).all (fun x=>!x.1) && (backToKw d_ (keywordEach [] X.env)).all (fun x=>x.1.isSome)
   && decide ((e::es).length+([]:List Keyword).length+(if ([]:List Keyword).isEmpty then 0 else 1)<30))=true:=by rfl)
  (D8:(apos.endLine == d_.line)=true:=by rfl) (hs:starEach (e::es) X.env=(false,eval e X.env)::starEach es X.env:=by rfl) (QQ:(backTo d_ (starEach es X.env)).any (·.1)=false:=by rfl) :
  PE X (.Call (.Attribute o name apos) (e::es) [] d_) (QP X.K T r to t):=by
 intro pins s σ H Q I h;refine wpAny_Call_method_late D7 D9 D8 rfl (aN (ho pins s σ H _ I h) fun v s1 ⟨x,H1,I1,r1,ty,q1⟩=>?_);obtain ⟨h1,h2⟩:=Jo I1 r1 ty;refine ⟨T,id,pa,slot,D6,h1,h2,?_⟩;have hA:=ha d_ pins s1 σ H1 _ I1 q1;rw [hs] at hA ⊢;refine Dj (by show (false || (backTo d_ (starEach es X.env)).any (·.1))=false;rw [QQ] <;> rfl) (Calls.evalArgs_plain ?_)
 exact aN hA fun us s2 ⟨vs,H2,I2,r2,q2⟩=>hm pins s2 σ H2 x vs v us Q I2 r1 r2 q2
end
def AB(X:Cx)(id:String)(r:V→List V→Hp→VK→Prop):Prop:=
 ∀(pins:aR) (s:Shared) (σ:St) (H:Hp) (x:V) (xs:List V) (v:Value) (us:List Value) (Q:VK),Inv X pins σ H s→RelV x v→Vals xs us→r x xs H Q→
  wpAny (model X.prog X.w) X.A (call (.builtin id) (v::us)) (EP X pins σ Q) X.xe s
theorem Vals.one:∀{x:V} {us:List Value},Vals [x] us→∃u,us=[u]∧RelV x u
 | _,_,.cons r .nil=>⟨_,rfl,r⟩
theorem Vals.zero:∀{us:List Value},Vals [] us→us=[]
 | _,.nil=>rfl
theorem Vals.dropLast{xs:List V}{us:List Value}(h:Vals xs us):Vals xs.dropLast us.dropLast:=by
 induction h with
 | nil=>exact .nil
 | cons r t ih=>
  cases t with
  | nil=>exact .nil
  | cons q t'=>exact .cons r ih
theorem Vals.eraseIdx:∀{xs:List V} {us:List Value} (i:Nat),Vals xs us→Vals (xs.eraseIdx i) (us.eraseIdx i)
 | _,_,_,.nil=>.nil
 | _,_,0,.cons _ t=>t
 | _,_,i+1,.cons r t=>.cons r (Vals.eraseIdx i t)
theorem Vals.rep{xs:List V}{us:List Value}(h:Vals xs us):∀k:Nat,Vals (List.replicate k xs).flatten (List.replicate k us).flatten
 | 0=>.nil
 | k+1=>by rw [t_,t_,xw,xw];exact Vals.append h (Vals.rep h k)
variable {α:Type}
theorem QR(l:List α):l.eraseIdx (l.length-1)=l.dropLast:=by
 induction l with
 | nil=>rfl
 | cons a r ih=>
  cases r with
  | nil=>rfl
  | cons b r=>
   have e:(a::b::r).length-1=((b::r).length-1)+1:=by have h1:(a::b::r).length=r.length+2:=rfl;have h2:(b::r).length=r.length+1:=rfl;lia
   rw [e,List.eraseIdx_cons_succ,ih]
   all_goals rfl
theorem Jq{α:Type}:∀(l:List α) (i:Nat),(l.eraseIdx i).length≤l.length
 | [],_=>aC _
 | _::_,0=>oX _
 | _::r,i+1=>Nat.succ_le_succ (Jq r i)
theorem foldl_rep(ak:List Value):∀(k:Nat) (acc:List Value),
  List.foldl (fun x1 x2=>x1++x2) acc.toArray (List.replicate k ak.toArray)=(acc++(List.replicate k ak).flatten).toArray
 | 0,acc=>by simp
 | k+1,acc=>by
  have e:acc.toArray++ak.toArray=(acc++ak).toArray:=by simp
  have e2:(acc++ak)++(List.replicate k ak).flatten=acc++(List.replicate (k+1) ak).flatten:=by rw [t_,xw,jz]
  rw [←e2,←foldl_rep ak k (acc++ak),←e,t_,List.foldl_cons]
section
variable {X:Cx} {pins:aR} {σ:St} {H:Hp} {s:Shared} {l b:Addr} {xs ys zs:List V}
variable {ak:List Value} {n t':Nat}
theorem Inv.AD{its':List Value}{f:Array Value→Array Value}(I:Inv X pins σ H s)(hH:H l=some (.lst xs))
  (e:s.heap.get? l=some {cls:=.type "list",data:=.seq ak.toArray n}) (hf:f ak.toArray=its'.toArray) (hv:Vals ys its') (hz:ys.length≤sizeLine) :
  Inv X pins σ (upd H l (.lst ys)) {s with heap:=s.heap.update l (Obj.mapSeq f),toks:=t'}:=by
 have q:=PySem.IsL.update e f;rw [hf] at q;refine I.write (x:=l) (e:=l) (by rw [hH];exact trivial) (.inl rfl) (fun b' u hb hu=>(xt s.heap (Obj.mapSeq f) (Ne.symm hb)).trans hu) ⟨_,q⟩ ?_
 exact ⟨hz,its',_,hv,q⟩
theorem Inv.Jr(I:Inv X pins σ H s)(hv:Vals ys ak)(hz:ys.length≤sizeLine) :
  Inv X pins σ (upd H s.heap.objs.size (.lst ys)) {s with heap:=s.heap.push {cls:=.type "list",data:=.seq ak.toArray},toks:=t'}:=
 I.laid (fun _ _ q=>bK _ q) (aC _) ⟨hz,ak,0,hv,cK _ rfl⟩
theorem Inv.fresh(I:Inv X pins σ H s):H s.heap.objs.size=none:=I.ay.fresh (aC _)
theorem Inv.pO(I:Inv X pins σ H s)(hH:H l=some (.lst xs)):xs.length≤sizeLine∧∃(ak:List Value) (n:Nat),Vals xs ak∧xs.length=ak.length∧s.heap.get? l=some {cls:=.type "list",data:=.seq ak.toArray n}:=by obtain ⟨z,ak,n,r,e⟩:=I.ay l _ hH;exact ⟨z,ak,n,r,r.length,e⟩
theorem Js(h:n≤sizeLine):Builtin.List.listTooLong n=false:=by unfold Builtin.List.listTooLong;exact b3 (by lia)
end
section
variable {X:Cx}
def QS:V→List V→Hp→VK→Prop:=fun x vs H Q=>∃l xs y,x=.ref l∧vs=[y]∧H l=some (.lst xs)∧xs.length<sizeLine∧Q .aS (upd H l (.lst (xs++[y])))
theorem je:AB X "list.append" QS:=by
 intro pins s σ H x vs v us Q I rx rv h;obtain ⟨l,xs,y,rfl,rfl,hH,hz,q⟩:=h;cases rx;obtain ⟨u,rfl,ru⟩:=rv.one;obtain ⟨z,ak,n,r,hl,e⟩:=I.pO hH;refine call_meets F.slot_list_append ⟨_,e,rfl⟩ F.entry_list_append (F.args_list_append_2 _ _) (PySem.list_append l ak.toArray n u (by rw [b4];lia)) ⟨e,?_⟩
 refine ⟨.aS,_,I.AD (its':=ak++[u]) hH e (by simp) (r.append (.cons ru .nil)) ?_,rfl,q⟩
 rw [c_,lp];lia
def QT:V→List V→Hp→VK→Prop:=fun x vs H Q=>∃l b xs zs,x=.ref l∧vs=[.ref b]∧H l=some (.lst xs)∧H b=some (.lst zs)∧xs.length+zs.length≤sizeLine∧Q .aS (upd H l (.lst (xs++zs)))
theorem QU:AB X "list.extend" QT:=by
 intro pins s σ H x vs v us Q I rx rv h;obtain ⟨l,b,xs,zs,rfl,rfl,hH,hB,hz,q⟩:=h;cases rx;obtain ⟨u,rfl,ru⟩:=rv.one;cases ru;obtain ⟨z,ak,n,r,hl,e⟩:=I.pO hH;obtain ⟨z2,jb,n2,r2,QV,e2⟩:=I.pO hB;have hsz:ak.toArray.size+jb.toArray.size≤sizeLine:=by rw [b4,b4];lia
 have D_:¬(!ak.toArray.isEmpty && Builtin.List.listTooLong (ak.toArray.size+jb.toArray.size))=true:=by rw [Js hsz,ua];exact cj
 refine call_meets F.slot_list_extend ⟨_,e,rfl⟩ F.entry_list_extend (F.args_list_extend_2 _ _)
  (AutoSeq1.list_extend_list_list_0 l ak.toArray n b jb.toArray n2 D_ (by rw [b4];lia) (by lia)) ⟨e,e2,?_⟩
 refine ⟨.aS,_,I.AD (its':=ak++jb) hH e (by simp) (r.append r2) ?_,rfl,q⟩
 rw [c_];lia
def QW:V→List V→Hp→VK→Prop:=fun x vs H Q=>∃l xs y,x=.ref l∧vs=[]∧H l=some (.lst xs)∧xs[xs.length-1]?=some y∧Q y (upd H l (.lst xs.dropLast))
theorem Jt:AB X "list.pop" QW:=by
 intro pins s σ H x vs v us Q I rx rv h;obtain ⟨l,xs,y,rfl,rfl,hH,hy,q⟩:=h;cases rx;have om:=rv.zero;subst om;obtain ⟨z,ak,n,r,hl,e⟩:=I.pO hH;obtain ⟨u,hu,ru⟩:=r.get hy;have QX:ak.toArray[ak.toArray.size-1]?=some u:=by show ak.toArray[ak.length-1]?=some u;rw [←xx,←hl];exact hu
 refine call_meets F.slot_list_pop ⟨_,e,rfl⟩ F.entry_list_pop (F.args_list_pop_1 _) (MeetsSeq.list_pop_last l ak.toArray n u QX (by rw [b4];lia)) ⟨e,?_⟩
 refine ⟨y,_,I.AD (its':=ak.dropLast) hH e ?_ r.dropLast ?_,ru,q⟩
 ·show ak.toArray.eraseIdxIfInBounds (ak.toArray.size-1)=ak.dropLast.toArray
  rw [b4,List.eraseIdxIfInBounds_toArray,QR]
 ·rw [List.length_dropLast]
  lia
def QY:V→List V→Hp→VK→Prop:=fun x vs H Q=>∃l xs i k y,x=.ref l∧vs=[.int i]∧H l=some (.lst xs)∧-(2 ^ 63)≤i∧i<2 ^ 63∧seqIndex? i xs.length=some k∧xs[k]?=some y∧Q y (upd H l (.lst (xs.eraseIdx k)))
theorem QZ:AB X "list.pop" QY:=by
 intro pins s σ H x vs v us Q I rx rv h;obtain ⟨l,xs,i,k,y,rfl,rfl,hH,h1,h2,hk,hy,q⟩:=h;cases rx;obtain ⟨u,rfl,ru⟩:=rv.one;obtain ⟨t,rfl⟩:=ru;obtain ⟨z,ak,n,r,hl,e⟩:=I.pO hH;obtain ⟨w,hw,iE⟩:=r.get hy
 refine call_meets F.slot_list_pop ⟨_,e,rfl⟩ F.entry_list_pop (F.args_list_pop_2 _ _)
  (MeetsSeq.list_pop_at l ak.toArray n i t k w (fitsIndex_both h1 h2) (by rw [b4,←hl];exact hk) (by rw [←xx];exact hw) (by rw [b4];lia)) ⟨e,?_⟩
 refine ⟨y,_,I.AD (its':=ak.eraseIdx k) hH e ?_ (r.eraseIdx k) ?_,iE,q⟩
 ·show ak.toArray.eraseIdxIfInBounds k=(ak.eraseIdx k).toArray
  rw [List.eraseIdxIfInBounds_toArray]
 ·have:=Jq xs k
  lia
def Q0:R2:=fun x y H Q=>∃l b xs zs,x=.ref l∧y=.ref b∧H l=some (.lst xs)∧H b=some (.lst zs)∧xs.length+zs.length≤sizeLine∧∀p,H p=none→Q (.ref p) (upd H p (.lst (xs++zs)))
theorem Ea:cU X (binaryOp .Add) Q0:=by
 intro pins s σ H x y v u Q I rx ry h;obtain ⟨l,b,xs,zs,rfl,rfl,hH,hB,hz,q⟩:=h;cases rx;cases ry;obtain ⟨z,ak,n,r,hl,e⟩:=I.pO hH;obtain ⟨z2,jb,n2,r2,QV,e2⟩:=I.pO hB;refine PySem.P.add_list e e2 ?_ (by rw [b4,b4];lia)
 have ea:ak.toArray++jb.toArray=(ak++jb).toArray:=by simp
 rw [ea];exact ⟨.ref _,_,I.Jr (t':=s.toks) (r.append r2) (by rw [c_];lia),rfl,q _ I.fresh⟩
def Q1:R2:=fun x y H Q=>∃l k xs,x=.ref l∧y=.int k∧H l=some (.lst xs)∧-(2 ^ 63)≤k∧k<2 ^ 63∧xs.length*k.toNat≤sizeLine ∧
 ∀p,H p=none→Q (.ref p) (upd H p (.lst (List.replicate k.toNat xs).flatten))
theorem len_rep(xs:List α)(k:Nat):(List.replicate k xs).flatten.length=k*xs.length:=by
 induction k with
 | zero=>simp
 | succ k ih=>rw [t_,xw,c_,ih,Nat.succ_mul,Nat.add_comm]
theorem Q2:cU X (binaryOp .Mult) Q1:=by
 intro pins s σ H x y v u Q I rx ry h;obtain ⟨l,k,xs,rfl,rfl,hH,h1,h2,hz,q⟩:=h;cases rx;obtain ⟨t,rfl⟩:=ry;obtain ⟨z,ak,n,r,hl,e⟩:=I.pO hH;have hlen:ak.toArray.size*k.toNat≤sizeLine:=by rw [b4,←hl];exact hz
 have Q3:¬ak.toArray.size*k.toNat>(2 ^ 63-1) / 8:=by
  have:(sizeLine:Nat)≤(2 ^ 63-1) / 8:=by decide
  lia
 have Ju:¬(!Builtin.List.listFitsIndex k)=true:=by rw [fitsIndex_both h1 h2];exact cj
 have D_:¬Builtin.List.listTooLong (ak.toArray.size*k.toNat)=true:=by rw [Js hlen];exact cj
 have AE:List.foldl (fun x1 x2=>x1++x2) #[] (List.replicate (if ak.toArray.isEmpty=true then 0 else k.toNat) ak.toArray)=(List.replicate k.toNat ak).flatten.toArray:=by
  have f0:∀m:Nat,List.foldl (fun x1 x2=>x1++x2) #[] (List.replicate m ak.toArray)=(List.replicate m ak).flatten.toArray:=fun m=>by have:=foldl_rep ak m [];rw [List.nil_append] at this;exact this
  rw [f0];cases ak with
  | nil=>simp
  | cons a r'=>rw [aa (by simp)]
 refine wpAny_binaryOp_repeat_ref (T:="list") (U:="int") (by decide) ⟨_,e,rfl⟩ (fun s'=>typeIs_int s' k t) noFill_list_mul F.fills_int_mul F.slot_int_rmul repeat_list F.slot_int_index.lookup
  (call_meets F.slot_int_rmul (typeIs_int s k t) F.entry_int_rmul (F.args_int_rmul_2 _ _) (int___rmul___int_list k t l ak.toArray n)
   ⟨e,rfl,⟨_,e,rfl⟩,call_meets F.slot_list_mul ⟨_,e,rfl⟩ F.entry_list_mul (F.args_list_mul_2 _ _) (AutoListH.list___mul___list_int_3 l ak.toArray n k t Ju Q3 D_) ⟨e,?_⟩⟩)
 rw [AE];exact ⟨.ref _,_,I.Jr (t':=s.toks) (r.rep k.toNat) (by rw [len_rep,Nat.mul_comm];exact hz),rfl,q _ I.fresh⟩
end
section
variable {prog:Program} {w:World} {A:Around} {E:aJ} {s:Shared}
end
section
variable {X:Cx}
end
end L2
namespace AF
open PySem PySem.W PySem.Calls PyProof.Rows
variable {P:Params} {h:Heap}
theorem Q4:∀(ns:List Int) (vs:List Value),WellAll P h vs (ns.map WData.int)→IntsAre vs ns:=by
 intro ns
 induction ns with
 | nil=>intro vs w;rw [t9] at w;cases w;exact .nil
 | cons n ns ih=>
  intro vs w;rw [dq] at w;cases w with
  | cons a b=>cases a;exact .cons _ _ (ih _ b)
variable {l:OpenLaw} {n:Nat}
theorem Q5(hn:l.most=some n){args:List WData}{vals:List Value}
  (AG:l.row.toRowW.claim.pre args=true) (Eb:WellAll P h vals args) :
  ∃a vs ns,vals=[Value.ref a]∧args=[WData.list (ns.map WData.int)]∧h.get? a=some {cls:=.type "list",data:=.seq vs.toArray}∧IntsAre vs ns∧ns.length≤n:=by
 have Q6:WShape.hasAll [] args [.list .int]=true:=(pre_splitW AG).1;have hc:l.pre.holds [] {args:=args}=true:=(pre_splitW AG).2;obtain ⟨d,r,rfl,h1,h2⟩:=hasAllW_cons Q6;obtain rfl:=hasAllW_nil h2;obtain ⟨xs,rfl,h3⟩:=hasW_list h1;obtain ⟨ns,rfl⟩:=items_int h3;have hlen:ns.length≤n:=by
  unfold OpenLaw.pre at hc;have h4:(WTm.not (.lt (.lit (.int (n:Int))) (.len (.arg 0)))).holds [] {args:=[.list (ns.map .int)]}=true:=by have h4:=(holds_andW hc).1;rw [hn] at h4;exact h4
  have h5:=condW_of h4 (w_not (w_lt w_lit (w_len_list (w_arg rfl))));rw [aG] at h5;refine Nat.le_of_not_lt fun q=>?_;have q':(n:Int)<((ns.length:Nat):Int):=by lia
  first
   | (rw [bV q'] at h5;exact absurd h5 (by decide))
   | (simp at h5;lia)
 cases Eb with
 | cons w1 w2=>
  cases w2;cases w1 with
  | list ho hJ=>exact ⟨_,_,ns,rfl,rfl,ho,Q4 ns _ hJ,hlen⟩
theorem Q7(l:OpenLaw)(args:List WData):l.row.toRowW.claim.post args (.bool true) args=true:=
 postW_of (r:=l.row.toRowW) (X:=(true == true))
  (show WShape.has [] (.bool true) .bool=true by first | rfl | decide | simp [WShape.has,WShape.arms,WShape.armsAll])
  (show (WTm.eq .res (.lit (.bool true))).value [] {args:=args,res:=some (.bool true),after:=args}=some (.bool (true == true)) from w_eq_bool (w_res rfl) w_lit) rfl
theorem Q8{q:Program}{loose:List Str}{XP:(Str→Option Value)→Heap→Prop}{YP:World→Heap→Prop}{d:DefRec}
  (hn:l.most=some n) (yb:d.params.defaults=[])
  (call:∀(w:World) (s₀ s₁:Shared) (mg mb:dC) (fa:Addr) (o:Obj) (pm cd doc:Value) (a:Addr) (vs:List Value) (ns:List Int),
   Ground q loose [] XP w s₀ mg mb s₁.heap→YP w s₁.heap→
   s₁.heap.get? fa=some o→o.data=.func (docDef d.name d.params d.body d.scope pm cd doc)→s₁.heap.CodeRec cd d.name→mg d.name=some (.ref fa)→
   s₁.heap.get? a=some {cls:=.type "list",data:=.seq vs.toArray}→IntsAre vs ns→ns.length≤n→s₁.gens = #[]→
   codeAny (model l.prog w) callerA (.call (.ref fa) ⟨[.ref a],[]⟩) (fun r s'=>r=.ok (.ret (.bool true))∧OldK s₁.heap s'.heap∧s'.os=s₁.os∧AllBare s'.gens) s₁) :
  WalkO q loose XP YP l.row.toRowW d [] (fun f vs=>PySem.call f vs):=by
 intro w s₀ s₁ mg mb G Y fa o pm cd doc dV kV ho hd fU hD yc hg args vals as AG acs hrd Eb hlo;obtain rfl:dV=.none:=Dflts.none hD yb;obtain rfl:kV=.none:=Dflts.noKw hD;obtain ⟨a,vs,ns,rfl,rfl,Ec,hints,hlen⟩:=Q5 hn AG Eb;refine enter_call (codeAny_mono (call w s₀ s₁ mg mb fa o pm cd doc a vs ns G Y ho (fd_plain hd) fU yc Ec hints hlen hg) fun r s' hq=>?_);obtain ⟨rfl,h2,h3,h4⟩:=hq;exact ⟨.inl ⟨.bool true,.bool true,[],rfl,fun _=>rfl,.bool true,Q7 l _,fun _=>⟨List.Pairwise.nil,fun _ hm=>(nomatch hm)⟩⟩,h2,h3,h4⟩
section
variable {prog:Program} {w:World} {A:Around} {E:aJ} {s:Shared} {K:Frag}
end
end AF
namespace L2
open PySem PySem.Spec PyProof.Rows
theorem Jv:∀{vs:List Value} {ns:List Int},IntsAre vs ns→Vals (ns.map V.int) vs
 | _,_,.nil=>.nil
 | _,_,.cons n t h=>.cons ⟨t,rfl⟩ (Jv h)
def Ed(H:Hp):Prop:=∀b,H b=none∨∃o xs,H b=some (.aW o (.lst xs))
variable {K:aK} {k:Nat} {a:Addr} {x:Str}
theorem Q9{P:Program}{w:World}{mg mb:dC}{CX:iC}{fa:Addr}{fd:FuncData}{sp:Sp}{s₁:Shared}{vs:List Value}{ns:List Int}
  (KX:K.In s₁.heap) (Jw:s₁.heap.Ns mainGlobals mg) (hb:s₁.heap.Ns builtinsNs mb) (qX:∀x:Str,x ≠ "__name__"→mb x=bootBuiltins x) (Q_:s₁.heap.NoLimit) (hg:s₁.gens = #[])
  (ha:s₁.heap.get? a=some {cls:=.type "list",data:=.seq vs.toArray}) (hi:IntsAre vs ns) (hl:ns.length≤sizeLine) (hr:fh k callerA)
  (F:∀base:Heap,K.In base→base.Ns mainGlobals mg→bQ P w K mg base CX k fa fd [x] sp) (Ra:∀(s:Shared) (u:Value),BindsTo s fd ⟨[u],[]⟩ [(x,u)])
  (m4:∀H:Hp,Ed H→bz K H a (ns.map V.int)→sp [.ref a] H (fun v _=>v=.bl true) fun _ _ _=>False)
  (Ee:∀H e s',CX [] H s₁ (fun _ _ _=>False) e s'→False) :
  codeAny (model P w) callerA (.call (.ref fa) ⟨[.ref a],[]⟩) (fun r s'=>r=.ok (.ret (.bool true))∧OldK s₁.heap s'.heap∧s'.os=s₁.os∧AllBare s'.gens) s₁:=by
 have rv:=Jv hi;have Rb:=hi.length
 have core:∀H:Hp,Ed H→bz K H a (ns.map V.int)→cC P w H s₁.heap→(∀b,H b≠none→b=a)→(H a≠none→K.lookup a=none)→
   codeAny (model P w) callerA (.call (.ref fa) ⟨[.ref a],[]⟩) (fun r s'=>r=.ok (.ret (.bool true))∧OldK s₁.heap s'.heap∧s'.os=s₁.os∧AllBare s'.gens) s₁:=by
  intro H hO hS ay hA hK;have Jx:∀{b:Addr} {o:Obj},s₁.heap.get? b=some o→H b=none→(n6 s₁.heap H).get? b=some o:=fun e n=>O6 e n;have x8:∀{b:Addr} {o:Obj} {es:Array DictEntry} {ep:Nat},s₁.heap.get? b=some o→o.data=.dict es ep→H b=none:=fun{b o es ep} e d=>by
   cases q:H b with
   | none=>rfl
   | some u=>
    have e':b=a:=hA b (by rw [q];simp)
    subst e';rw [ha] at e;cases e;have d':Data.seq vs.toArray _=Data.dict es ep:=d;cases d'
  have AH:∀{b:Addr} {m:dC},s₁.heap.Ns b m→(n6 s₁.heap H).Ns b m:=fun{b m} ⟨o,es,ep,e,d,r⟩=>⟨o,es,ep,Jx e (x8 e d),d,r⟩;have Jy:K.In (n6 s₁.heap H):=fun b o e=>Jx (KX b o e) (by
   cases q:H b with
   | none=>rfl
   | some u=>
    have e':b=a:=hA b (by rw [q];simp)
    subst e';rw [hK (by rw [q];simp)] at e;cases e)
  have hM:Mod K mg (n6 s₁.heap H):=⟨Jy,AH Jw,⟨mb,AH hb,qX⟩,let ⟨mc,h1,h2⟩:=Q_;⟨mc,AH h1,h2⟩⟩
  have e0:Ay P w K mg (n6 s₁.heap H) callerA [] s₁ H:=⟨rfl,hM,fun b o e=>O7 e,Nat.le_of_eq (O5 _ _),trivial,fun b hb=>absurd (show b∈([]:List Addr) from hb) (by simp),ay,.of_eq hg⟩
  refine codeAny_mono ((F _ Jy (AH Jw)).run callerA [] s₁ H ⟨[.ref a],[]⟩ [.ref a] [.ref a] _ _ hr e0 (Ra s₁ (.ref a)) (.cons rfl .nil) (m4 H hO hS)) fun r s' h=>?_;cases r with
  | error e=>exact (Ee H e s' h).elim
  | ok fl=>
   cases fl with
   | next=>exact False.elim h
   | brk=>exact False.elim h
   | cont=>exact False.elim h
   | ret u=>
    obtain ⟨v,H',os,bare,un,Rc,r',q⟩:=h;have q':v=.bl true:=q;subst q';obtain rfl:u=Value.bool true:=r';refine ⟨rfl,OldK.of_keep fun b o e=>?_,os,bare⟩;cases q:H b with
    | none=>exact un.keep b o e q (by intro z;exact absurd (show b∈([]:List Addr) from z) (by simp)) (by simp)
    | some u=>
     rcases hO b with z | ⟨ob,xs,z⟩;·rw [q] at z;cases z
     ·have z2:=un.gM b ob _ z
      obtain ⟨e1,_⟩:=ay b _ z;obtain ⟨e2,_⟩:=Rc b _ z2;rw [e] at e1;cases e1;exact e2
 cases hk:K.lookup a with
 | some o=>have e:=KX a o hk;rw [ha] at e;cases e;refine core (fun _=>none) (fun _=>.inl rfl) (.inr ⟨_,vs.toArray,_,hk,rfl,rfl,rfl,by rw [b4,Rb];exact hl,by simpa using rv⟩) (fun b u z=>by have z':(none:Option HO)=some u:=z;cases z') (fun b z=>absurd rfl z) fun z=>absurd rfl z
 | none=>
  refine core (fun b=>if b=a then some (.aW {cls:=.type "list",data:=.seq vs.toArray} (.lst (ns.map V.int))) else none) (fun b=>?_) (.inl (.inr ⟨{cls:=.type "list",data:=.seq vs.toArray},aj rfl⟩)) (fun b u z=>?_) (fun b z=>?_) fun _=>hk
  ·by_cases hb:b=a
   ·exact .inr ⟨_,_,aj hb⟩
   ·exact .inl (aa hb)
  ·by_cases hb:b=a
   ·have z':=(aj hb).symm.trans z
    cases z';subst hb;exact ⟨ha,by rw [aG];exact hl,vs,_,rv,ha⟩
   ·have z':=(aa hb).symm.trans z
    cases z'
  ·by_cases hb:b=a
   ·exact hb
   ·exact absurd (aa hb) z
abbrev Jz {K:aK} {h:Heap} (_:K.In h):PySem.W.Frag:=K
variable {n:Nat}
theorem Rf{l:PySem.W.OpenLaw}{q:Program}{loose:List Str}{XP:(Str→Option Value)→Heap→Prop}{YP:World→Heap→Prop}{d:DefRec}{K:Params→PySem.W.Frag}{CX:World→iC}{sp:World→Sp}
  (hn:l.most=some n) (Rg:n≤sizeLine) (yb:d.params.defaults=[]) (hr:fh k callerA)
  (hY:∀(w:World) (h:Heap),YP w h→(K w.params).In h)
  (F:∀(w:World) (mg:dC) (fa:Addr) (h:Heap),(K w.params).In h→h.Ns mainGlobals mg→mg d.name=some (.ref fa)→
   ∃fd:FuncData,(∀(s:Shared) (u:Value),BindsTo s fd ⟨[u],[]⟩ [(x,u)]) ∧
    ∀base:Heap,(K w.params).In base→base.Ns mainGlobals mg→bQ l.prog w (K w.params) mg base (CX w) k fa fd [x] (sp w))
  (m4:∀(w:World) (H:Hp) (a:Addr) (ns:List Int),ns.length≤n→Ed H→bz (K w.params) H a (ns.map V.int)→sp w [.ref a] H (fun v _=>v=.bl true) fun _ _ _=>False)
  (Ee:∀(w:World) (H:Hp) (s:Shared) (e:Value) (s':Shared),CX w [] H s (fun _ _ _=>False) e s'→False) :
  PySem.W.WalkO q loose XP YP l.row.toRowW d [] (fun f vs=>PySem.call f vs):=by
 refine AF.Q8 hn yb fun w s₀ s₁ mg mb fa o pm cd doc a vs ns G Y ho hd fU yc Ec hints hlen hg=>?_;have KX:=hY w _ Y;obtain ⟨fd,hb,hF⟩:=F w mg fa _ KX G.T.g yc;exact Q9 KX G.T.g G.T.b G.T.builtins G.T.nolimit hg Ec hints (a9 hlen Rg) hr hF hb (fun H hO hS=>m4 w H a ns hlen hO hS) fun H e s'=>Ee w H s₁ e s'
def yd(s:Stmt):Arguments:=match s with
 | .FunctionDef _ a _ _ _ _ _ _ _ _=>a
 | _=>{posonlyargs:=[],args:=[],vararg:=none,kwonlyargs:=[],kw_defaults:=[],kwarg:=none,defaults:=[]}
def oq(s:Stmt):List Stmt:=match s with
 | .FunctionDef _ _ b _ _ _ _ _ _ _=>b
 | _=>[]
def bA(s:Stmt):Scope:=match s with
 | .FunctionDef _ _ _ _ _ _ sc _ _ _=>sc
 | _=>{kind:=.function,names:=[],isGenerator:=false,isCoroutine:=false}
abbrev cV:iC:=fun _ _ _ _ _ _=>False
abbrev E0:XK:=fun _ _ _=>False
theorem bR{X:Cx}:Passes cV X E0:=fun _ _ _ _ _ _ _ h=>h.elim
structure jf (K:aK) (x qual:Str) (st:Stmt) (f:Addr) (fd:FuncData):Prop where
 ex:∃(oc:Value) (od:Option Addr) (kV doc pm:Value) (an:Option Addr) (cg ct:Value) (mZ:Array (Option Value)),
  fd=PySem.W.fnOf x qual (yd st) (oq st) (bA st) .none kV doc pm an cg ct∧K.lookup f=some ⟨oc,od,.func fd,mZ⟩∧PySem.W.codeIn K cg qual=true
 kp:PySem.W.keepIn K (.ref f)=true
abbrev aY (K:aK) (x:Str) (st:Stmt) (f:Addr) (fd:FuncData):Prop:=jf K x x st f fd
section
variable {P:Program} {w:World} {K:aK} {mg:dC} {base:Heap}
variable {qual:Str} {st:Stmt} {f:Addr} {fd:FuncData} {N ps:List Str} {sp:Sp}
theorem jf.ok(F:jf K x qual st f fd)(S:b8 N ps (bA st))(len:∀vs H Q E,sp vs H Q E→vs.length=ps.length)
  (oj:∀(cg:Value) (A:Around) (outer:List Env) (s:Shared) (H:Hp) (vs:List V) (Q:VK) (E:XK),fh k (A.deeper (envOfC qual (bA st) s.heap.objs.size f cg))→sp vs H Q E→
   ∃t,gq (lO cV P w K mg base N qual (bA st) f cg A outer s H E).qN (oq st) t∧t {nx:=fun _ H'=>Q .aS H',rt:=Q} (start N vs) H):bQ P w K mg base cV (k+1) f fd ps sp:=by
 obtain ⟨oc,od,kV,doc,pm,an,cg,ct,mZ,rfl,lk,fU⟩:=F.ex;refine Jc lk fU S len fun A outer s H vs Q E hr m4=>?_;obtain ⟨t,h,q⟩:=oj cg A outer s H vs Q E hr m4;exact ⟨t,h.qN,q⟩
theorem jf.dX(F:jf K x qual st f fd)(S:b8 N ps (bA st))
  (oj:∀(cg:Value) (A:Around) (outer:List Env) (s:Shared) (H:Hp) (vs:List V) (Q:VK) (E:XK),fh k (A.deeper (envOfC qual (bA st) s.heap.objs.size f cg))→sp vs H Q E→
   ∃t,gq (lO cV P w K mg base N qual (bA st) f cg A outer s H E).qN (oq st) t∧t {nx:=fun _ H'=>Q .aS H',rt:=Q} (start N vs) H)
  (len:∀vs H Q E,sp vs H Q E→vs.length=ps.length:=by intro vs H Q E h;repeat first | (obtain ⟨rfl,_⟩:=h;rfl) | (subst h;rfl) | obtain ⟨_,h⟩:=h):bQ P w K mg base cV (k+1) f fd ps sp:=F.ok S len oj
theorem jf.binds(F:jf K x qual st f fd)
  (h:∀(kV doc pm:Value) (an:Option Addr) (cg ct:Value) (us:List Value),us.length=ps.length→bindArgs (PySem.W.fnOf x qual (yd st) (oq st) (bA st) .none kV doc pm an cg ct) ⟨us,[]⟩=pure (ps.zip us)):Binds K fd ps []:=by
 obtain ⟨oc,od,kV,doc,pm,an,cg,ct,mZ,rfl,lk,fU⟩:=F.ex;exact .all (h kV doc pm an cg ct)
theorem jf.cM(F:jf K x qual st f fd)
  (h:∀(kV doc pm:Value) (an:Option Addr) (cg ct:Value) (us:List Value),us.length=ps.length→bindArgs (PySem.W.fnOf x qual (yd st) (oq st) (bA st) .none kV doc pm an cg ct) ⟨us,[]⟩=pure (ps.zip us):=by intro _ _ _ _ _ _ us hl;rcases us with _ | ⟨_,_ | ⟨_,_ | ⟨_,_ | ⟨_,_ | ⟨_,_ | ⟨_,_ | ⟨_,_⟩⟩⟩⟩⟩⟩⟩ <;> first | rfl | (simp at hl;done)):Binds K fd ps []:=F.binds h
theorem cN{oc:Value}{od an:Option Addr}{mZ:Array (Option Value)}{kV doc pm cg ct:Value}(l:K.lookup f=some ⟨oc,od,.func (PySem.W.fnOf x qual (yd st) (oq st) (bA st) .none kV doc pm an cg ct),mZ⟩)
  (c:PySem.W.codeIn K cg qual=true) (k:PySem.W.keepIn K (.ref f)=true):jf K x qual st f (PySem.W.fnOf x qual (yd st) (oq st) (bA st) .none kV doc pm an cg ct):=⟨⟨oc,od,kV,doc,pm,an,cg,ct,mZ,rfl,l,c⟩,k⟩
end
theorem bS(h:n≤1000):n<sizeLine:=fg h (by decide)
section
variable {X:Cx}
theorem pv(i:Nat){pos:Pos}(hN:X.N[i]?=some x:=by rfl)(hv:qL X.env.scope x:=by first | exact Or.inl rfl | exact Or.inr (Or.inl rfl) | exact Or.inr (Or.inr rfl))(hd:(x == ("__debug__":Str))=false:=by decide)
  (fU:(x == ("__classdict__":Str))=false:=by decide):PE X (.Name x pos) (Il i):=Pe hN hv hd fU
end
variable {A B:Prop}
theorem iH(h:B):if false=true then A else B:=by rw [aa cj];exact h
theorem qY(h:A):if true=true then A else B:=by rw [aj rfl];exact h
theorem bZ{c:Prop}[Decidable c](h1:c→A)(h2:¬c→B):if c then A else B:=by
 by_cases h:c
 ·rw [aj h]
  exact h1 h
 ·rw [aa h]
  exact h2 h
def ao(H H':Hp):Prop:=∀b o,H b=some o→H' b=some o
theorem ao.refl(H:Hp):ao H H:=fun _ _ h=>h
variable {H:Hp}
theorem ao.trans{H1 H2:Hp}(a:ao H H1)(b:ao H1 H2):ao H H2:=fun c o h=>b c o (a c o h)
theorem ao.seq{H':Hp}{xs:List V}(e:ao H H')(h:bz K H a xs):bz K H' a xs:=by
 rcases h with (h | ⟨o,h⟩) | h;·exact .inl (.inl (e _ _ h))
 ·exact .inl (.inr ⟨o,e _ _ h⟩)
 ·exact .inr h
end L2
set_option maxHeartbeats 4000000
namespace L2
open PySem PySem.Spec PyProof.Rows
structure AI (P:Program) (w:World) (outer:List Env) (H:Hp) (s:Shared) (H':Hp) (ea C:Addr) (B:Heap) (t:Addr) (s':Shared):Prop where
 os:s'.os=s.os
 bare:AllBare s'.gens
 fl:Heap.FlyingW B outer ea (.ref C) (.ref t) s'.heap
 ay:cC P w H' B
 kb:∀b o,s.heap.get? b=some o→H b=none→b∉cR outer→B.get? b=some o
 tb:∀b o,s.heap.get? b=some o→b∉cR outer→∃o',B.get? b=some o'
 sl:∀b o,s.heap.get? b=some o→H b=none→b∈cR outer→∃l,s'.heap.get? b=some {o with slots:=l}
 frh:∀b∈cR outer,H b=none
 Rh:∀b o,s.heap.get? b=some o→H b=none→H' b=none
 dW:∀b xs,H b=some (.tup xs)→H' b=some (.tup xs)
 gM:∀b o u,H b=some (.aW o u)→H' b=some (.aW o u)
 g_:∀b ps,H b=some (.n4 ps)→∃more,H' b=some (.n4 (ps++more))
def fF(P:Program)(w:World):iC:=fun outer H s E e s'=>∃ea C H' B t,e=.ref ea∧AI P w outer H s H' ea C B t s'∧E (.ref C) none H'
section
variable {P:Program} {w:World} {outer:List Env} {H H':Hp} {s s':Shared} {ea C t:Addr} {B:Heap}
def ExcAt(ea C:Addr)(h:Heap):Prop:=∃oe,h.get? ea=some oe∧oe.cls=.ref C∧PySem.W.notCls oe=true
def Ri(ea C:Addr):HO:=.ext (ExcAt ea C)
end
section
variable {X:Cx} {pins:aR} {σ:St} {H H':Hp} {s s':Shared} {ea C t:Addr} {B:Heap}
structure uP (X:Cx) (E:XK):Prop where
 jG:X.stack=X.env::X.outer
 fr:X.env.frame=some X.env.locals
 ex:X.ex=[]
 xe:X.xe=fun e s'=>wpAny (model X.prog X.w) X.A (leaving X.env e) (fun _ fi=>fF X.prog X.w X.outer X.H₀ X.s₀ E e fi) (fun e' fi=>fF X.prog X.w X.outer X.H₀ X.s₀ E e' fi) s'
theorem AJ{env:Env}{outer:List Env}{L:Addr}(h:env.frame=some L):cR (env::outer)=L::cR outer:=by unfold cR;rw [zS,h]
variable {E:XK}
theorem AI.leave(L:uP X E)(I:Inv X pins σ H s)(f:AI X.prog X.w X.stack H s H' ea C B t s'){h:Heap}(x:Heap.FlyingW B X.outer ea (.ref C) (.ref t) h)(up:s'.heap.UpToSlots h):AI X.prog X.w X.outer X.H₀ X.s₀ H' ea C B t {s' with heap:=h}:=by
 have nL:∀b o,X.s₀.heap.get? b=some o→b≠X.env.locals:=fun b o e=>bM (dA (aZ e) I.ok.above);have ns:∀b o,X.s₀.heap.get? b=some o→b∉cR X.outer→b∉cR X.stack:=fun b o e nb z=>by
  rw [L.jG,AJ L.fr] at z;rcases bU.mp z with z | z;·exact nL b o e z
  ·exact nb z
 have nx:∀b:Addr,b∉X.ex:=fun b z=>by rw [L.ex] at z;cases z
 refine ⟨f.os.trans I.os,f.bare,x,f.ay,fun b o e n nb=>?_,fun b o e nb=>?_,fun b o e n hb=>?_,I.ok.pD,fun b o e n=>?_,fun b xs e=>f.dW b xs (I.base.dW b xs e),fun b o u e=>f.gM b o u (I.base.gM b o u e),fun b ps e=>?_⟩;·exact f.kb b o (I.base.keep b o e n nb (nx b)) (I.base.free b o e n (nx b)) (ns b o e nb)
 ·obtain ⟨o',e'⟩:=I.base.there b o e (nx b)
  exact f.tb b o' e' (ns b o e nb)
 ·obtain ⟨l,q⟩:=I.base.slot b o e n hb (nx b)
  have hs:b∈cR X.stack:=by rw [L.jG,AJ L.fr];exact cA _ hb
  obtain ⟨l2,q2⟩:=f.sl b _ q (I.base.free b o e n (nx b)) hs;obtain ⟨_,o2,q3,nf⟩:=f.fl.2.2.1.mem hs;rw [q2] at q3;cases q3;obtain ⟨l3,q4⟩:=up b _ q2 nf;exact ⟨l3,q4⟩
 ·obtain ⟨o',e'⟩:=I.base.there b o e (nx b)
  exact f.Rh b o' e' (I.base.free b o e n (nx b))
 ·obtain ⟨m1,e1⟩:=I.base.g_ b ps e
  obtain ⟨m2,e2⟩:=f.g_ b _ e1;exact ⟨m1++m2,by rw [e2,Array.append_assoc]⟩
theorem qZ:Passes (fF X.prog X.w) X (fun _ _ _=>False):=fun pins σ H s e s' I h=>by obtain ⟨_,_,_,_,_,_,_,q⟩:=h;exact q.elim
theorem m5(L:uP X E):Passes (fF X.prog X.w) X E:=fun pins σ H s e s' I h=>by
 obtain ⟨ea,C,H',B,t,rfl,f,q⟩:=h;rw [L.xe];refine wpAny_leaves_onW (by rw [I.ok.frames,L.jG]) L.fr (by have z:=f.fl;rw [L.jG] at z;exact z) fun h' x up=>?_
 exact ⟨ea,C,H',B,t,rfl,f.leave L I x up,q⟩
end
variable {K:aK} {h:Heap}
theorem Rj{C:Addr}{uQ:List Value}{newId:String}(dD:K.In h)(hq:PySem.W.excIn K C uQ newId=true) :
  ∃bm N nm qn bs hdct sn sub ab col dd k0 k1 k2 k3 k5 mN,h.get? C=some (excClassObj nm qn C N bs bm hdct sn sub ab col dd k0 k1 k2 k3 k5 newId)∧h.Ns N mN∧mN "__init__"=none∧OwnTail h uQ bm∧PySem.W.mroIn K C=fun b=>some ((Value.ref C::bm).contains b):=by
 unfold PySem.W.excIn at hq
 split at hq
 ·rename_i uR cls slt look
  split at hq
  ·rename_i CC rest a0 a1 a2 a3 nn a5 em es
   simp only [xu,beq_iff_eq,Bool.not_eq_true'] at hq;obtain ⟨⟨⟨⟨⟨e1,e2⟩,e3⟩,e4⟩,e5⟩,e6⟩:=hq;subst e1 e2;have Rk:PySem.W.mroIn K CC=fun b=>some ((Value.ref CC::rest).contains b):=by
    funext b
    unfold PySem.W.mroIn PySem.W.clsIn;rw [look];simp [em]
   obtain ⟨c1,c2,c3,c4,c5,c6,c7,c8,c9,Rm,c11⟩:=cls;dsimp only at em e3 e5 e6;subst em e3;have Rn:slt = #[a0,a1,a2,a3,some (.builtin nn),a5]:=by obtain ⟨ll⟩:=slt;simp only at es;rw [es]
   subst Rn;exact ⟨rest,c4,c1,c5,c2,c6,c7,c8,c9,Rm,uR,a0,a1,a2,a3,a5,_,dD _ _ look,.of_isNs (PySem.W.isNs_of_in dD e5),PySem.W.nsMap_none_of_in dD e5 e6,PySem.W.tail_of_in dD e4,Rk⟩
  ·cases hq
 ·cases hq
section
variable {X:Cx} {E:XK} {x:Str} {C:Addr} {np d_ pos:Pos} {e:Expr} {es:List Expr} {ta:TA} {B newId Ro:String} {uQ:List Value}
def Rp(C:Addr)(E:XK)(ta:TA):TS:=fun _ σ H=>ta σ H fun vs H1=>vs.length≤sizeLine∧E (.ref C) none H1
theorem JA(L:uP X E)(hc:X.calm=true)(FB:ExcBaseFacts B newId Ro uQ)(hq:PySem.W.excIn X.K C uQ newId=true)(hg:Gl X x)(hm:X.mg x=some (.ref C))(ha:PA X (e::es) ta)
  (hs:starEach (e::es) X.env=(false,eval e X.env)::starEach es X.env:=by rfl) (hp:(backTo d_ (starEach es X.env)).any (·.1)=false:=by rfl) (hd:(x == ("__debug__":Str))=false:=by decide) :
  PS X (.Raise (some (.Call (.Name x np) (e::es) [] d_)) none pos) (Rp C E ta):=by
 intro pins s σ H D I h;obtain ⟨bm,N,nm,qn,bs,hdct,sn,sub,ab,col,dd,k0,k1,k2,k3,k5,mN,hC,hN,Rq,T,_⟩:=Rj I.ok.mod.dD hq
 refine wpAny_Raise_call_subT (C:=C) (nm:=nm) (q:=qn) (N:=N) (bs:=bs) (bm:=bm) (hdct:=hdct) (sn:=sn) (sub:=sub) (ab:=ab) (col:=col) (dd:=dd) (k0:=k0) (k1:=k1) (k2:=k2) (k3:=k3) (k5:=k5) FB (mN:=mN) (T.hasType FB.hasBase) (I.ok.hd hc)
  (by rw [hs];show (false || (backTo d_ (starEach es X.env)).any (·.1))=false;rw [hp];rfl) Rq (DD I hg hm ⟨rfl,?_⟩ hd)
 have h1:=ha d_ pins s σ H _ I h;rw [hs] at h1 ⊢;refine Calls.evalArgs_plain (aN h1 fun us s2 ⟨vs,H1,I1,r,hl,q⟩=>⟨rfl,by rw [←r.length];exact hl,I1.bk _ _ hC,hN.keeps I1.bk,T.keeps I1.bk,fun h' ea mk=>?_⟩)
 rw [L.xe];have nL:∀b o,X.s₀.heap.get? b=some o→b≠X.env.locals:=fun b o q=>bM (dA (aZ q) I1.ok.above);have ns:∀b o,X.s₀.heap.get? b=some o→b∉cR X.outer→b∉cR X.stack:=fun b o q nb z=>by
  rw [L.jG,AJ L.fr] at z;rcases bU.mp z with z | z;·exact nL b o q z
  ·exact nb z
 have nx:∀b:Addr,b∉X.ex:=fun b z=>by rw [L.ex] at z;cases z
 have ff:s2.heap.FunFrames (PySem.W.hideAll s2.heap (cR X.stack)) (X.env::X.outer):=by have z:=I1.stack;rw [←L.jG];exact PySem.W.funFrames_hide z fun env he a hf=>List.mem_filterMap.mpr ⟨env,he,hf⟩
 refine wpAny_leaves_madeW (base:=PySem.W.hideAll s2.heap (cR X.stack)) (h:=s2.heap) (by rw [I1.ok.frames,L.jG]) L.fr (fun b o q=>PySem.W.of_hideAll _ q) ff mk fun h2 t fl _ _ up=>?_
 refine ⟨ea,C,H1,_,t,rfl,⟨I1.os,I1.bare,fl,fun a o e1=>?_,fun b o e1 n nb=>?_,fun b o e1 nb=>?_,fun b o e1 n hb=>?_,I1.ok.pD,fun b o e1 n=>?_,I1.base.dW,I1.base.gM,I1.base.g_⟩,q⟩
 ·refine (I1.ay a o e1).j_ (fun b u hb e2=>zR _ e2 fun z=>?_) (fun _ z=>z) fun _ _ z=>z
  have n0:=I1.uF b z;rcases hb with hb | hb
  ·subst hb
   rw [e1] at n0;cases n0
  ·rw [hb] at n0
   cases n0
 ·exact zR _ (I1.base.keep b o e1 n nb (nx b)) (ns b o e1 nb)
 ·obtain ⟨o',e2⟩:=I1.base.there b o e1 (nx b)
  exact ⟨o',zR _ e2 (ns b o e1 nb)⟩
 ·obtain ⟨l,e2⟩:=I1.base.slot b o e1 n hb (nx b)
  have uJ:b∈cR X.stack:=by rw [L.jG,AJ L.fr];exact cA _ hb
  obtain ⟨_,o2,e3,nf⟩:=I1.stack.mem uJ;rw [e2] at e3;cases e3;obtain ⟨l2,e4⟩:=up b _ (mk.keeps _ _ e2) nf;exact ⟨l2,e4⟩
 ·obtain ⟨o',e2⟩:=I1.base.there b o e1 (nx b)
  exact I1.base.free b o e1 n (nx b)
end
section
variable {X:Cx} {k:Nat} {f C:Addr} {fd:FuncData} {ps:List Str} {sp:Sp} {mY:List V} {ds:List Value} {x m:Str} {p pos apos:Pos} {e o:Expr} {es:List Expr} {ta:TE} {t:TA}
variable {te:TX} {i:Nat} {pos':Pos}
end
section
variable {X:Cx} {pins:aR} {σ:St} {H:Hp} {s:Shared} {ea:Addr}
end
section
variable {M:Model} {A:Around} {E:aJ} {h:Heap} {g:Array GenState} {d:Drawn} {t:Nat} {os:OsState} {e:Addr} {oe:Obj} {Q:Bool→Shared→Prop}
variable {nm q nm' q':Str} {C N D N':Addr} {bs bm bs' bm':List Value} {hdct acB:Bool} {sn sn':List Str} {sub JB:List Value} {ab ab':Bool} {col acE:Option Bool} {dd ky:Option Addr} {k0 k1 k2 k3 k5 j0 j1 j2 j3 j5:Option Value} {newId acF:String}
end
section
variable {X:Cx} {body:List Stmt} {b₀:Stmt} {acG:List Stmt} {np acH pos:Pos} {x n:Str} {D:Addr} {tb:TSX} {ts:TS} {uQ:List Value} {newId:String} {i:Nat}
end
section
variable {P:Program} {w:World} {K:aK} {mg:dC} {base:Heap}
variable {x qual:Str} {st:Stmt} {f:Addr} {fd:FuncData} {N ps:List Str} {k:Nat} {sp:Sp}
theorem jf.Rr(F:jf K x qual st f fd)(S:b8 N ps (bA st))(len:∀vs H Q E,sp vs H Q E→vs.length=ps.length)
  (oj:∀(cg:Value) (A:Around) (outer:List Env) (s:Shared) (H:Hp) (vs:List V) (Q:VK) (E:XK),fh k (A.deeper (envOfC qual (bA st) s.heap.objs.size f cg))→sp vs H Q E→
   uP (lO (fF P w) P w K mg base N qual (bA st) f cg A outer s H E) E→
   ∃t,gq (lO (fF P w) P w K mg base N qual (bA st) f cg A outer s H E) (oq st) t∧t {nx:=fun _ H'=>Q .aS H',rt:=Q} (start N vs) H):bQ P w K mg base (fF P w) (k+1) f fd ps sp:=by
 obtain ⟨oc,od,kV,doc,pm,an,cg,ct,mZ,rfl,lk,fU⟩:=F.ex;exact Jc lk fU S len fun A outer s H vs Q E hr m4=>oj cg A outer s H vs Q E hr m4 ⟨rfl,rfl,rfl,rfl⟩
theorem jf.eW(F:jf K x qual st f fd)(S:b8 N ps (bA st))
  (oj:∀(cg:Value) (A:Around) (outer:List Env) (s:Shared) (H:Hp) (vs:List V) (Q:VK) (E:XK),fh k (A.deeper (envOfC qual (bA st) s.heap.objs.size f cg))→sp vs H Q E→
   uP (lO (fF P w) P w K mg base N qual (bA st) f cg A outer s H E) E→
   ∃t,gq (lO (fF P w) P w K mg base N qual (bA st) f cg A outer s H E) (oq st) t∧t {nx:=fun _ H'=>Q .aS H',rt:=Q} (start N vs) H)
  (len:∀vs H Q E,sp vs H Q E→vs.length=ps.length:=by intro vs H Q E h;repeat first | (obtain ⟨rfl,_⟩:=h;rfl) | (subst h;rfl) | obtain ⟨_,h⟩:=h):bQ P w K mg base (fF P w) (k+1) f fd ps sp:=F.Rr S len oj
end
structure q5 (K:aK) (C:Addr):Prop where
 ci:PySem.W.hasDictIn K C=true
 ga:PySem.W.findIn K (.ref C) "__getattribute__"=some (some (.builtin "BaseException.__getattribute__"))
 gn:PySem.W.findIn K (.ref C) "__getattr__"=some none
 ca:PySem.W.findIn K (.ref C) "__class__"=some (some (.builtin "object.__class__"))
 mo:PySem.W.mroIn K C (.type "object")=some true
 mb:PySem.W.mroIn K C (.type "BaseException")=some true
section
variable {prog:Program} {w:World} {A:Around} {E:aJ} {h:Heap} {g:Array GenState} {d:Drawn} {t:Nat} {os:OsState} {K:aK} {a C:Addr} {o:Obj}
theorem Rt{R:Result→Shared→Prop}(dD:K.In h)(c:q5 K C)(hx:h.get? a=some o)(hc:o.cls=.ref C)(hq:R (.ok (.ret (.ref C))) ⟨h,g,d,t,os⟩) :
  codeAny (model prog w) A (.call (.builtin "getset_descriptor.__get__") ⟨[.builtin "object.__class__",.ref a,.ref C],[]⟩) R ⟨h,g,d,t,os⟩:=by
 have JD:(⟨h,g,d,t,os⟩:Shared).TypeIs (.builtin "object.__class__") "getset_descriptor":=Dk;have L1:=PySem.W.looks_mroIn (M:=model prog w) dD c.mo;have ow:=F.owner_object_class;refine codeAny_call_builtin F.slot_gs_get.plain F.entry_gs_get (F.slot_gs_get.check _ _ _ _ _ _ _ _ JD (F.args_gs_get _ _ _) ?_)
 repeat (any_goals (first | assumption | (with_reducible refine xy hx ?_;rw [hc]) | (rw [ow];with_reducible refine L1.at ?_) | wp_step))
 refine ⟨Code.quiet_builtin _ (by decide +kernel),nW F.entry_object_class ?_⟩
 repeat (any_goals (first | assumption | (with_reducible refine xy hx ?_;rw [hc]) | wp_step))
variable {tk:Tok}
theorem Ru{Q:Fin→Shared→Prop}(dD:K.In h)(c:q5 K C)(hx:h.get? a=some o)(hc:o.cls=.ref C)(hq:Q (.done (.ret (.ref C))) ⟨h,g,d,t,os⟩) :
  wpAny (model prog w) A (Builtin.«object.__getattribute__» ⟨[.ref a,.str "__class__" tk],[]⟩) Q E ⟨h,g,d,t,os⟩:=by
 have JD:(⟨h,g,d,t,os⟩:Shared).TypeIs (.builtin "object.__class__") "getset_descriptor":=Dk;have L1:=PySem.W.looks_findIn (M:=model prog w) dD c.ca;have f5:=Dk;have f6:=F.slot_gs_get.lookup;have f7:=F.slot_gs_set.lookup
 repeat (any_goals (first | assumption | (with_reducible refine xy hx ?_;rw [hc]) | with_reducible refine L1.at ?_ | wp_step))
 refine Rt dD c hx hc ?_
 repeat (any_goals (first | assumption | wp_step))
theorem Rv{M:Model}{nv:Value}{Q:Unit→Shared→Prop}(dD:K.In h)(c:q5 K C)(hx:h.get? a=some o)(hc:o.cls=.ref C)(hq:Q () ⟨h,g,d,t,os⟩) :
  wpAny M A (checkBuiltinCall "BaseException.__getattribute__" ⟨[.ref a,nv],[]⟩) Q E ⟨h,g,d,t,os⟩:=by
 have hk:builtinKind "BaseException.__getattribute__"=some .slot:=by decide +kernel
 have hs:splitId "BaseException.__getattribute__"=some ("BaseException","__getattribute__"):=by decide +kernel
 have L1:=PySem.W.looks_mroIn (M:=M) dD c.mb;have ha:=F.args_bexc_ga (.ref a) nv;simp only [checkBuiltinCall,hk,hs];refine ae ?_;unfold isInstance
 repeat (first | (with_reducible refine xy hx ?_;rw [hc]) | with_reducible refine L1.at ?_ | wp_step)
 exact hq
theorem Rw{fill expr:Bool}{Q:aJ}(dD:K.In h)(c:q5 K C)(hx:h.get? a=some o)(hc:o.cls=.ref C)(hq:Q (.ref C) ⟨h,g,d,t,os⟩) :
  wpAny (model prog w) A (getAttrBy (.ref a) (.str "__class__" tk) fill expr) Q E ⟨h,g,d,t,os⟩:=by
 have f3:=F.attrBase_ValueError.ga.bind (.ref a);have z0:(expr && onTheHeap (Value.builtin "BaseException.__getattribute__"))=false:=by cases expr <;> rfl
 have z2:(Value.builtin "BaseException.__getattribute__" == Value.builtin "object.__getattribute__")=false:=by decide +kernel
 have z1:(onTheHeap (Value.ref C) && Value.builtin "BaseException.__getattribute__" == Value.builtin "object.__getattribute__")=false:=by rw [z2];rfl
 have L1:=PySem.W.looks_findIn (M:=model prog w) dD c.ga;have L2:=PySem.W.looks_findIn (M:=model prog w) dD c.gn
 repeat (any_goals (first | assumption | (with_reducible refine xy hx ?_;rw [hc]) | with_reducible refine L1.at ?_ | with_reducible refine L2.at ?_ | wp_step))
 refine codeAny_call_builtin F.attrBase_ValueError.ga.plain F.entry_bexc_ga (Rv dD c hx hc (Ru dD c hx hc ?_))
 repeat (any_goals (first | assumption | wp_step))
theorem Rx{Q:Option Value→Shared→Prop}(dD:K.In h)(c:q5 K C)(hx:h.get? a=some o)(hc:o.cls=.ref C)(hq:Q (some (.ref C)) ⟨h,g,d,t+1,os⟩) :
  wpAny (model prog w) A (getAttr? (.ref a) "__class__") Q E ⟨h,g,d,t,os⟩:=by
 unfold getAttr? getAttrBy?
 repeat (any_goals (first | assumption | with_reducible apply Rw dD c hx hc | wp_step))
theorem Ry(c:q5 K C):PySem.W.KitX K (.ref a) (.ref C) (ExcAt a C) where
 ty:=fun M h _ k=>by obtain ⟨oe,e1,e2,_⟩:=k;exact e2▸(PySem.W.Looks.ld e1).andThen .now
 it:=fun M h dD _=>by
  obtain ⟨cd,hc,_⟩:=PySem.W.any_some c.ci;unfold PySem.W.clsIn at hc
  split at hc
  ·rename_i look
   intro A' Q' E' s' k q;unfold isType loadHead;exact ae (wpAny_loadPart (k _ _ (dD _ _ look)) (aB q))
  ·cases hc
 ne:=fun h tp dd ak n sl dD Rz=>by
  obtain ⟨cd,hc,_⟩:=PySem.W.any_some c.ci;refine ub.mpr fun q=>?_;have e:C=tp:=Value.ref.inj (beq_iff_eq.mp q);subst e;unfold PySem.W.clsIn at hc
  split at hc
  ·rename_i look
   have z:=(dD _ _ look).symm.trans Rz;cases z
  ·cases hc
 ca:=fun{prog w A E Q s} dD k z=>by obtain ⟨oe,e1,e2,_⟩:=k;obtain ⟨h,g,d,t,os⟩:=s;exact Rx dD c e1 e2 z
end
def AK(a:Addr)(h:Heap):Prop:=∃o ep,h.get? a=some o∧o.ExactDict∧o.data=.dict #[] ep∧(a == sysModules)=false
theorem AK.Ef{a:Addr}(e:AK a h):PySem.W.KitAt a "dict" h:=by obtain ⟨o,_,e,c,_⟩:=e;exact ⟨o,e,c.1⟩
def JE(a:Addr):HO:=.ext (AK a)
inductive ye (K:aK) (H:Hp):V→Value→Prop where
 | of {x:V} {t:Value} (h:jJ K H x t):ye K H x t
 | exc {a C:Addr} (e:H a=some (Ri a C)) (c:q5 K C):ye K H (.ref a) (.ref C)
 | uR {a:Addr} (e:H a=some (JE a)):ye K H (.ref a) (.type "dict")
def JF:V→Value
 | .ty n=>.type n
 | .ref a=>.ref a
 | _=>.none
def RB:V→Bool
 | .ty _=>true
 | .ref _=>true
 | _=>false
def RC(K:aK):List V→Hp→VK→Prop:=fun xs H Q=>∃x c t b,xs=[x,c]∧RB c=true∧ye K H x t∧PySem.W.kitOne K t (JF c)=some b∧Q (.bl b) H
theorem AL{X:Cx}(hK:X.K=K:=by rfl):eQ X (.builtin "isinstance") (RC K):=by
 intro pins s σ H xs us Q I r h;subst hK;obtain ⟨x,c,t,b,rfl,hc,ty,e,q⟩:=h;obtain ⟨u,cv,rfl,rx,rc⟩:=vals2 r;have ec:cv=JF c:=by
  cases c with
  | ty n=>exact rc
  | ref a=>exact rc
  | _=>cases hc
 subst ec;cases ty with
 | of ty=>exact P9 I rx ty e fun tk=>⟨.bl b,H,I.tok tk,rfl,q⟩
 | @uR a ea=>cases rx;obtain ⟨k,_,_⟩:=(show b9 X.prog X.w H s.heap a (.ext (AK a)) from I.ay a _ ea);exact jy PySem.W.kitx_dict I.fT k.Ef e (fun z=>nomatch z) fun tk=>⟨.bl b,H,I.tok tk,rfl,q⟩
 | @exc a C ea cc=>cases rx;obtain ⟨k,_,_⟩:=(show b9 X.prog X.w H s.heap a (.ext (ExcAt a C)) from I.ay a _ ea);exact jy (Ry cc) I.fT k e (fun z=>nomatch z) fun tk=>⟨.bl b,H,I.tok tk,rfl,q⟩
theorem boot_isinstance:bootBuiltins "isinstance"=some (.builtin "isinstance"):=by decide +kernel
theorem boot_min:bootBuiltins "min"=some (.builtin "min"):=by decide +kernel
theorem boot_max:bootBuiltins "max"=some (.builtin "max"):=by decide +kernel
theorem boot_int:bootBuiltins "int"=some (.type "int"):=by decide +kernel
theorem boot_bool:bootBuiltins "bool"=some (.type "bool"):=by decide +kernel
theorem boot_tuple:bootBuiltins "tuple"=some (.type "tuple"):=by decide +kernel
theorem boot_list:bootBuiltins "list"=some (.type "list"):=by decide +kernel
end L2
namespace My
open PySem L2
end My
namespace L2
open PySem PySem.Spec PyProof.Rows
abbrev Cx.bj (X:Cx) (N:List Str) (scope:Scope) (cl:List (Str×Addr)) (s₃:Shared) (H₃:Hp) (fp:List Addr):Cx:=
 {X with N:=N,s₀:=s₃,H₀:=H₃,env:=compEnvC scope cl s₃.heap.objs.size X.env,outer:=X.stack,stack:=X.stack,ex:=fp,fn:=fun _=>false,pn:=[],xe:=fun _ _=>False}
inductive m6 (X:Cx):List Expr→TT→Prop where
 | nil:m6 X [] (fun _ H Q=>Q true H)
 | one {c:Expr} {t:TT} (h:PT X c t):m6 X [c] t
def hV(wi:TI)(ρ:St→St)(tt:TT)(te:TE):TE:=fun σ H Q=>wi σ H fun J H1=>∀D,H1 D=none→∃W:Nat→Nat→List V→Hp→Prop,(∃m,W 0 m [] (upd H1 D (.lst []))) ∧
 ∀i m ys Hc,W i m ys Hc→Hc D=some (.lst ys)∧((J.stop i Hc∧Q (.ref D) Hc)∨(J.go i Hc∧∀x H',J.df i Hc x H'→tt (some x::ρ σ) H' fun b H2=>
  if b=true then te (some x::ρ σ) H2 fun y H3=>H3 D=some (.lst ys)∧ys.length<sizeLine∧∃m',m'<m∧W (i+1) m' (ys++[y]) (upd H3 D (.lst (ys++[y]))) else ∃m',m'<m∧W (i+1) m' ys H2))
section
variable {X:Cx} {N:List Str} {scope:Scope} {cl:List (Str×Addr)} {x:Str} {px pos:Pos} {iter elt:Expr} {ifs:List Expr} {wi:TI} {ρ:St→St} {tt:TT} {te:TE}
structure Eg (X:Cx) (N:List Str) (scope:Scope) (cl:List (Str×Addr)) (x:Str) (ρ:St→St):Prop where
 yf:closureFor scope X.env=pure cl
 kind:scope.kind=.function
 yg:∀y∈scope.names,y.2≠.cell
 names:∀y∈scope.names,y.2=.local→scope.names.lookup y.1=some .local
 sub:∀p∈cl,X.env.cells.lookup p.1=some p.2
 has:∀y,((relabel scope X.env).names.lookup y=some .cell∨(relabel scope X.env).names.lookup y=some .free)→∃c,cl.lookup y=some c
 n0:N[0]?=some x
 nd:N.Nodup
 hx:scope.names.lookup x=some .local
 yh:∀(σ:St) (j:Nat) (v:V),(ρ σ)[j]?=some (some v)→∃(i:Nat) (y:Str),N[j+1]?=some y∧X.N[i]?=some y∧σ[i]?=some (some v)∧qL X.env.scope y∧(X.env.kindOf y=some .cell∨X.env.kindOf y=some .free)∧((relabel scope X.env).names.lookup y=some .cell∨(relabel scope X.env).names.lookup y=some .free)
 len:∀σ:St,σ.length=X.N.length→(ρ σ).length+1=N.length
theorem JG{names:List (Str×NameKind)}(h:(names.all fun q=>(q.2 != .cell && q.2 != .free) || (cl.lookup q.1).isSome)=true) :
  ∀y,(names.lookup y=some .cell∨names.lookup y=some .free)→∃c,cl.lookup y=some c:=fun y hy=>by
 have key:∀k:NameKind,(k != .cell && k != .free)=false→names.lookup y=some k→∃c,cl.lookup y=some c:=fun k hk e=>by have z:=iY.mp h (y,k) (mG e);rw [hk,Bool.false_or] at z;exact zW.mp z
 rcases hy with e | e;·exact key .cell rfl e
 ·exact key .free rfl e
theorem join_some{o:Option (Option V)}{v:V}(h:some o.join=some (some v)):o=some (some v):=by
 cases o with
 | none=>cases h
 | some o=>cases h;rfl
def AM(X:Cx)(sc:Scope):List Str→List Nat→Prop
 | n::ns,i::is=>(X.N[i]?=some n∧qL X.env.scope n∧(X.env.kindOf n=some .cell∨X.env.kindOf n=some .free)∧((relabel sc X.env).names.lookup n=some .cell∨(relabel sc X.env).names.lookup n=some .free))∧AM X sc ns is
 | _,[]=>True
 | [],_::_=>False
theorem Eh{X:Cx}{sc:Scope}:∀{ns:List Str} {is:List Nat},AM X sc ns is→∀(σ:St) (j:Nat) (v:V),(is.map fun i=>σ[i]?.join)[j]?=some (some v)→∃(i:Nat) (n:Str),ns[j]?=some n∧X.N[i]?=some n∧σ[i]?=some (some v)∧qL X.env.scope n∧(X.env.kindOf n=some .cell∨X.env.kindOf n=some .free)∧((relabel sc X.env).names.lookup n=some .cell∨(relabel sc X.env).names.lookup n=some .free)
 | _,[],_,_,_,_,e=>by cases e
 | [],_::_,h,_,_,_,_=>h.elim
 | n::_,i::_,h,_,0,_,e=>⟨i,n,rfl,h.1.1,join_some e,h.1.2⟩
 | _::_,_::_,h,σ,j+1,v,e=>Eh h.2 σ j v e
theorem fX(is:List Nat)(h1:closureFor scope X.env=pure cl)(h:AM X scope N.tail is:=by repeat' first | exact True.intro | refine And.intro ⟨rfl,Or.inr (Or.inl rfl),.inl rfl,.inl rfl⟩ ?_)(h2:scope.kind=.function:=by rfl)(h3:∀y∈scope.names,y.2≠.cell:=by decide +kernel)(h4:∀y∈scope.names,y.2=.local→scope.names.lookup y.1=some .local:=by decide +kernel)(h5:∀p∈cl,X.env.cells.lookup p.1=some p.2:=by repeat' first | exact List.forall_mem_nil _ | refine List.forall_mem_cons.mpr ⟨rfl,?_⟩)(h6:((relabel scope X.env).names.all fun q=>(q.2 != .cell && q.2 != .free) || (cl.lookup q.1).isSome)=true:=by rfl)(h7:N[0]?=some x:=by rfl)(h8:N.Nodup:=by decide +kernel)(h9:scope.names.lookup x=some .local:=by rfl)(hr:∀σ:St,ρ σ=is.map fun i=>σ[i]?.join:=by exact fun _=>rfl)(hl:is.length+1=N.length:=by rfl):Eg X N scope cl x ρ:=
 ⟨h1,h2,h3,h4,h5,JG h6,h7,h8,h9,fun σ j v e=>by rw [hr] at e;rw [←List.getElem?_tail];exact Eh h σ j v e,fun σ _=>by rw [hr,aG];exact hl⟩
theorem jg(B:Eg X N scope cl x ρ)(hc:X.calm=true)(hi:PI X (.Name x px) iter wi)(ht:∀s₃ H₃ fp,m6 (X.bj N scope cl s₃ H₃ fp) ifs tt)(he:∀s₃ H₃ fp,PE (X.bj N scope cl s₃ H₃ fp) elt te)
  (hs:∀x,foldedSetIterable iter X.env x=pure x:=by intro _;rfl):PE X (.ListComp elt [⟨.Name x px,iter,ifs,0⟩] scope pos) (hV wi ρ tt te):=by
 intro pins s σ H Q I h
 rw [eval_ListComp]
 refine zX (use:=none) rfl hs B.yf B.kind B.names (aN (hi pins s σ H _ I h) fun v s1 h1=>aN h1 fun uH s2 h2=>?_)
 obtain ⟨it,fp,tn,J,H2,rfl,I2,T,gN,f2,q2⟩:=h2
 have nD:H2 s2.heap.objs.size=none:=I2.ay.fresh (aC _)
 obtain ⟨W,⟨m0,w0⟩,turn⟩:=q2 _ nD
 refine g6 (zY B.yg (by intro y hy;simp at hy) (fun h₁ fY fZ=>?_) B.kind)
 dsimp only at fY fZ ⊢
 generalize hD:s2.heap.objs.size=D at nD w0 turn fY fZ ⊢
 generalize iI:({s2 with heap:=s2.heap.push {cls:=.type "list",dict:=none,data:=.seq ([]:List Value).toArray}}:Shared)=s3
 have I3:Inv X pins σ (upd H2 D (.lst [])) s3:=by
  subst hD iI
  exact I2.laid (t':=s2.toks) (fun b u e=>bK _ e) (aC _) ⟨bG _,[],_,.nil,cK _ rfl⟩
 have e3:s3.heap=s2.heap.push {cls:=.type "list",dict:=none,data:=.seq ([]:List Value).toArray}:=by rw [←iI]
 have f9:∀b o,s2.heap.get? b=some o→s3.heap.get? b=some o:=fun b o e=>by rw [e3];exact bK _ e
 rw [←e3] at fY fZ ⊢
 have below:∀b o,s3.heap.get? b=some o→b≠s3.heap.objs.size:=fun b o e=>bM (aZ e)
 have dO:∀b o,s3.heap.get? b=some o→h₁.get? b=some o:=fun b o e=>fZ.extBut b o (below b o e) (bK _ e)
 have iJ:∀b∈fp,∃o,s2.heap.get? b=some o∧∀v,o.data≠.cell v:=T.obj _ _ gN
 have q8:∀b∈fp,b≠D:=fun b hb z=>by
  obtain ⟨o,e,_⟩:=iJ b hb
  rw [z,←hD] at e
  exact absurd (aZ e) (dI _)
 have dg:∀y c,cl.lookup y=some c→X.env.cells.lookup y=some c:=fun y c e=>B.sub (y,c) (mG e)
 have q_:=I3.uF
 have eW:(X.bj N scope cl s3 (upd H2 D (.lst [])) fp).Ok:=by
  refine ⟨I.ok.mod,B.kind,I.ok.glob,I.ok.blt,aC _,fun a b c e1 e2=>I.ok.inj a b c (dg a c e1) (dg b c e2),fun y hy=>B.has y hy,(fun _ _ z _=>absurd z cj),(fun _=>I.ok.hd hc),I.ok.frames,.inl rfl,fun b hb=>⟨?_,fun y c e z=>?_⟩,fun b o e=>?_,a9 I.ok.i6 I3.sz,fun b o e hb=>?_,fun b hb z=>?_,I3.stack,q_⟩
  ·obtain ⟨o,e,_⟩:=iJ b hb
   exact below b o (f9 b o e)
  ·exact (f2 b hb).2.2.2.2.1 y c (dg y c e) z
  ·exact I3.bs b o e
  ·rcases (f2 b hb).2.2.2.1 with z | z
   ·exact I.ok.pB b o e z
   ·exact absurd (dA (aZ e) (a9 I.ok.i6 z)) (dI _)
  ·rcases bU.mp (I3.uE b z) with z | z
   ·exact (f2 b hb).2.1 z
   ·exact (f2 b hb).2.2.1 z
 have IB:∀tk:Nat,Inv (X.bj N scope cl s3 (upd H2 D (.lst [])) fp) [] (none::ρ σ) (upd H2 D (.lst [])) {s3 with heap:=h₁,toks:=tk}:=fun tk=>by
  refine ⟨eW,rfl,I3.bare,Un.kept dO,⟨_,fY,fun j y v e1 e2 e3=>?_⟩,fun y c e=>?_,?_,fun y c e=>I3.jH y c (dg y c e),(fun p hp=>nomatch hp),I3.ay.kept dO,?_⟩
  ·cases j with
   | zero=>cases e2
   | succ j=>
    obtain ⟨i,y',a1,a2,a3,a4,a5,a6⟩:=B.yh σ j v e2
    have ot:N[j+1]?=some y:=e1
    rw [ot] at a1
    cases a1
    obtain ⟨m,hn,hl⟩:=I3.loc
    obtain ⟨u,r,l⟩:=hl i y v a2 a3 a4
    refine ⟨u,r,.inr ⟨a6,?_⟩⟩
    obtain ⟨c,ec⟩:=B.has y a6
    rcases l with ⟨k,_⟩ | ⟨_,c',lT,z⟩
    ·rcases a5 with q | q <;> (rw [k] at q;cases q)
    ·have:=dg y c ec
     rw [this] at lT
     cases lT
     obtain ⟨o,ho,hd⟩:=z
     exact ⟨c,ec,o,dO _ _ ho,hd⟩
  ·obtain ⟨v,o,ho,hd⟩:=I3.cell y c (dg y c e)
   exact ⟨v,o,dO _ _ ho,hd⟩
  ·exact I3.ay.fresh (aC _)
  ·show (none::ρ σ).length=N.length
   rw [eM]
   exact B.len σ I.len
 have fin:∀{σ':St} {H':Hp} {s':Shared},Inv (X.bj N scope cl s3 (upd H2 D (.lst [])) fp) [] σ' H' s'→Q (.ref D) H'→compPost (model X.prog X.w) X.A X.xe none (EP X pins σ Q) (.ref D) s3.heap.objs.size (.ok .next) s':=fun{σ' H' s'} J q=>by
  obtain ⟨m,hn,_⟩:=J.loc
  refine ⟨m,hn,fun h' dY=>⟨.ref D,H',?_,rfl,q⟩⟩
  have old:∀b o,s3.heap.get? b=some o→b≠s3.heap.objs.size:=below
  have u1:Un (cR X.stack) fp (upd H2 D (.lst [])) H' s3.heap h':=by
   refine ⟨fun b o e n hb hx=>?_,fun b o e n hb hx=>?_,J.base.free,fun b o e hx=>?_,J.base.dW,J.base.gM,J.base.g_⟩
   ·exact (dY.2 b (old b o e)).trans (J.base.keep b o e n hb hx)
   ·obtain ⟨sl,z⟩:=J.base.slot b o e n hb hx
    exact ⟨sl,(dY.2 b (old b o e)).trans z⟩
   ·obtain ⟨o',z⟩:=J.base.there b o e hx
    exact ⟨o',(dY.2 b (old b o e)).trans z⟩
  have rd:cC X.prog X.w H' h':=fun b u e=>by
   refine (J.ay b u e).j_ (fun c v hc z=>(dY.2 c fun y=>?_).trans z) (fun _ z=>z) fun _ _ z=>z
   have fr:=J.free
   have y':c=s3.heap.objs.size:=y
   rcases hc with hc | hc
   ·rw [←hc,y'] at e
    exact absurd (fr.symm.trans e) (by simp)
   ·rw [y'] at hc
    exact absurd (fr.symm.trans hc) (by simp)
  refine I3.pE (s':={s' with heap:=h'}) (ch:=fp) (J.os) u1 rd J.bare fun b hb=>?_
  obtain ⟨g0,g1,g2,g3,g4,g5⟩:=f2 b hb
  exact ⟨g3,g1,g4,g5⟩
 have fV:∀{H':Hp},(∀b∈fp,H' b=none)→∀b∈fp,mU (X.bj N scope cl s3 (upd H2 D (.lst [])) fp) [] H' b:=fun hn b hb=>by
  refine ⟨hn b hb,?_,?_,.inl hb,fun y c e z=>(f2 b hb).2.2.2.2.1 y c (dg y c e) z,fun p hp=>nomatch hp⟩
  ·obtain ⟨o,e,_⟩:=iJ b hb
   exact below b o (f9 b o e)
  ·exact eW.pC b hb
 have loop:∀tk:Nat,codeAny (model X.prog X.w) X.A (.compLoop (.ListComp elt [⟨.Name x px,iter,ifs,0⟩] scope pos) 0 (.ref it) (.ref D) (compEnvC scope cl s3.heap.objs.size X.env))
   (compPost (model X.prog X.w) X.A X.xe none (EP X pins σ Q) (.ref D) s3.heap.objs.size) {s3 with heap:=h₁,toks:=tk}:=fun tk=>by
  refine codeAny_compLoop_tests (fun n s'=>∃i ys o H',Inv (X.bj N scope cl s3 (upd H2 D (.lst [])) fp) [] (o::ρ σ) H' s'∧tn i s'.heap∧(∀b∈fp,H' b=none)∧W i n ys H') ?_ m0
   ⟨0,[],none,_,IB tk,T.keep _ _ _ gN fun b hb o e=>dO _ _ (f9 _ _ e),fun b hb=>by rw [aM (q8 b hb)];exact (f2 b hb).1,w0⟩
  rintro n s4 ⟨i,ys,o,H4,I4,lW,lY,w4⟩
  obtain ⟨Ei,rf⟩:=turn i n ys H4 w4
  rcases rf with ⟨stop,qn⟩ | ⟨go,step⟩
  ·refine bJ (T.done (X.bj N scope cl s3 (upd H2 D (.lst [])) fp) rfl rfl rfl hc i [] s4 _ H4 (fun _ _=>False) I4 (fV lY) lW stop) (fun r s5 ⟨hr,I5⟩=>?_) fun _ _ z=>z.elim
   subst hr
   exact fin I5 qn
  ·refine bJ (T.item (X.bj N scope cl s3 (upd H2 D (.lst [])) fp) rfl rfl rfl hc i [] s4 _ H4 (fun _ _=>False) I4 (fV lY) lW go) (fun r s5 ⟨u,hr,h5⟩=>?_) fun _ _ z=>z.elim
   subst hr
   have z:letOwnedTupleGo (.Name x px) (.ref it) u=pure ():=rfl
   rw [z] at h5
   show wpAny _ _ ((pure ():Sem Unit) >>= fun _=>assign (.Name x px) (compEnvC scope cl s3.heap.objs.size X.env) u) _ _ s5
   refine ae (bJ h5 (fun _ s5 ⟨y,H5,I5,r5,y5,fW,n_⟩=>?_) fun _ _ z=>z.elim)
   have og:=I5.pinned (fV n_) (T.obj _ _ fW)
   have pg:PG (X.bj N scope cl s3 (upd H2 D (.lst [])) fp) (.Name x px) (aP 0):=cy (i:=0) B.nd B.n0 (.inl (j7 B.hx)) (.inr (j7 B.hx))
   have again:∀{σ7:St} {H7:Hp} {s7:Shared},Inv (X.bj N scope cl s3 (upd H2 D (.lst [])) fp) ([]++kj fp s5.heap) σ7 H7 s7→Inv (X.bj N scope cl s3 (upd H2 D (.lst [])) fp) [] σ7 H7 s7∧tn (i+1) s7.heap∧∀b∈fp,H7 b=none:=fun{σ7 H7 s7} I7=>by
    refine ⟨I7.qT,T.keep _ _ _ fW fun b hb o e=>(I7.pin (b,o) (dR _ (dR _ (mW hb e)))).1,fun b hb=>?_⟩
    obtain ⟨o,e,d⟩:=T.obj _ _ fW b hb
    exact (I7.pin (b,o) (dR _ (dR _ (mW hb e)))).2.1
   refine bJ (pg _ s5 _ H5 y u (fun σ2 H6=>σ2=some y::ρ σ∧H6=H5) og r5 ⟨rfl,rfl⟩) (fun _ s6 ⟨σ6,H6,I6,q6⟩=>?_) fun _ _ z=>z.elim
   obtain ⟨rfl,rfl⟩:=q6
   have rg:=step y _ y5
   have tests:∀{iK:TT},m6 (X.bj N scope cl s3 (upd H2 D (.lst [])) fp) ifs iK→∀{R:Bool→Hp→Prop},iK (some y::ρ σ) H6 R→wpAny (model X.prog X.w) X.A
     (forIn ifs true fun c r=>if r=true then do let ok ←isTrue c (compEnvC scope cl s3.heap.objs.size X.env) (eval c (compEnvC scope cl s3.heap.objs.size X.env));pure (ForInStep.yield ok) else pure (ForInStep.yield r))
     (fun ok s7=>∃H7,Inv (X.bj N scope cl s3 (upd H2 D (.lst [])) fp) ([]++kj fp s5.heap) (some y::ρ σ) H7 s7∧R ok H7) (fun _ _=>False) s6:=fun{iK} p {R} hR=>by
    cases p with
    | nil=>exact zZ ⟨_,I6,hR⟩
    | one p=>exact z5 (p _ s6 _ _ _ I6 hR)
   refine bJ (tests (ht s3 _ fp) rg) (fun ok s7 ⟨H7,I7,q7⟩=>?_) fun _ _ z=>z.elim
   cases ok with
   | false=>
    obtain ⟨m',iL,w7⟩:=q7
    obtain ⟨a1,a2,a3⟩:=again I7
    exact ⟨m',iL,i+1,ys,_,H7,a1,a2,a3,w7⟩
   | true=>
    refine bJ (he s3 _ fp _ s7 _ H7 _ I7 q7) (fun ev s8 ⟨z,H8,I8,r8,rh,hz,m',iL,w8⟩=>?_) fun _ _ z=>z.elim
    refine bJ (je (X:=X.bj N scope cl s3 (upd H2 D (.lst [])) fp) _ s8 _ H8 (.ref D) [z] (.ref D) [ev] (fun _ H9=>H9=upd H8 D (.lst (ys++[z]))) I8 rfl (.cons r8 .nil) ⟨D,ys,z,rfl,rfl,rh,hz,rfl⟩) (fun _ s9 ⟨_,H9,I9,_,q9⟩=>?_) fun _ _ z=>z.elim
    subst q9
    obtain ⟨a1,a2,a3⟩:=again I9
    exact ⟨m',iL,i+1,ys++[z],_,_,a1,a2,a3,w8⟩
 have start:=loop (s3.toks+([]:List (Str×Value)).length)
 have es:({s3 with heap:=h₁,toks:=s3.toks+([]:List (Str×Value)).length}:Shared)={s2 with heap:=h₁,toks:=s2.toks+([]:List (Str×Value)).length}:=by rw [←iI]
 rw [es] at start
 exact z6 start (T.self _ 0 _ _ _ (T.keep _ _ _ gN fun b hb o e=>dO _ _ (f9 _ _ e)) start)
end
def gv(i:Int):Prop:=i.natAbs<2 ^ 2048
theorem gv.log{i:Int}(h:gv i):i.natAbs.log2<2048:=by
 by_cases z:i.natAbs=0;·rw [z];decide
 ·exact (Nat.log2_lt z).mpr h
theorem yi:∀{xs:List V} {us:List Value},xs.length=us.length→(∀(i:Nat) (x:V) (u:Value),xs[i]?=some x→us[i]?=some u→RelV x u)→Vals xs us
 | [],[],_,_=>.nil
 | [],_::_,h,_=>by simp at h
 | _::_,[],h,_=>by simp at h
 | x::xs,u::us,h,k=>.cons (k 0 x u rfl rfl) (yi (by simpa using h) fun i a b h1 h2=>k (i+1) a b (by simpa using h1) (by simpa using h2))
section
variable {X:Cx}
def RE(i j:Int):Prop:=0<j∧gv j
theorem RF:cU X (binaryOp .FloorDiv) (rI RE fun i j=>.int (i / j)):=As fun i j _ _ _ _ _ hc q=>floordiv_int (Int.ne_of_gt hc.1) (by rw [Int.fdiv_eq_ediv_of_nonneg i (dr hc.1)];exact q) (.inl (PyProof.noPylong_of_log2 (dA hc.2.log (by decide))))
def allR(K:aK):List V→Hp→VK→Prop:=fun xs H Q=>∃(p:Addr) (bs:List Bool),xs=[.ref p]∧bz K H p (bs.map V.bl)∧Q (.bl (bs.all id)) H
theorem yj{K:aK}(hc:X.calm=true)(hK:X.K=K:=by rfl):eQ X (.builtin "all") (allR K):=by
 intro pins s σ H xs us Q I r h;subst hK;obtain ⟨p,bs,rfl,hq,q⟩:=h;obtain ⟨u,rfl,ru⟩:=vals1 r;cases ru;obtain ⟨ak,rv,pl,hz⟩:=I.list hq;have ou:p≠s.heap.objs.size:=by obtain ⟨o,e,_⟩:=pl.isList;exact bM (aZ e)
 have hl:ak.length=bs.length:=by rw [←rv.length,aG]
 refine call_all_walk (zV pl.isList ?_);refine ⟨s.heap.objs.size,_,_,_,_,_,fun i=>bs.getD i true,rfl,Walks.list (A:=X.A.in1) (show X.A.in1.handled=none from I.ok.hd hc) s.heap.objs.size p ou ak.toArray,⟨⟨_,cK _ rfl,rfl,rfl⟩,pl.isList.push _⟩,fun i v s' Q' E' hv RG=>?_,fun h' tk hk=>?_⟩
 ·have l5:ak[i]?=some v:=by simpa using hv
  cases eb:bs[i]? with
  | none=>
   have:=rv.none_of (i:=i) (by rw [bP,eb];rfl)
   rw [this] at l5;cases l5
  | some b=>
   obtain ⟨u,hu,ru⟩:=rv.get (i:=i) (x:=V.bl b) (by rw [bP,eb];rfl)
   rw [hu] at l5;cases l5;cases ru;have e:bs.getD i true=b:=by rw [eN,eb];rfl
   have JH:Q' (bs.getD i true) s':=RG;rw [e] at JH;exact nR JH
 ·refine ⟨.bl (bs.all id),H,I.kept fun b o e=>hk b o (fun z=>?_) (bK _ e),?_,q⟩
  ·exact absurd (aZ e) (by rw [bY.mp z];exact dI _)
  ·show Value.bool _=Value.bool _
   congr 1
   rw [b4,hl];clear hk q rv pl hz hl hq
   induction bs with
   | nil=>rfl
   | cons b bs ih=>rw [eM,List.range_succ_eq_map,List.all_cons,List.all_map,List.all_cons];show (b && (List.range bs.length).all fun i=>bs.getD i true)=(b && bs.all id);rw [ih]
def RH:List V→Hp→VK→Prop:=fun xs H Q=>∃j:Int,xs=[.int j]∧∀p,H p=none→Q (.ref p) (upd H p (.gp 0 j))
theorem AN:eQ X (.type "range") RH:=by intro pins s σ H xs us Q I r h;obtain ⟨j,rfl,q⟩:=h;obtain ⟨u,rfl,ru⟩:=vals1 r;obtain ⟨t,rfl⟩:=ru;refine call_range_1 ⟨.ref s.heap.objs.size,_,I.laid (o:=.gp 0 j) (fun b o e=>bK _ e) (aC _) ⟨_,_,_,cK _ rfl⟩,rfl,q _ (I.ay.fresh (aC _))⟩
def cJ(n:Nat):List V:=(List.range n).map fun i:Nat=>V.int (i:Int)
def RI:List V→Hp→VK→Prop:=fun xs H Q=>∃p n,xs=[.ref p]∧H p=some (.gp 0 (n:Nat))∧n≤10000∧∀l,H l=none→Q (.ref l) (upd H l (.lst (cJ n)))
theorem Ej(hc:X.calm=true):eQ X (.type "list") RI:=by
 intro pins s σ H xs us Q I r h;obtain ⟨p,n,rfl,hp,hn,q⟩:=h;obtain ⟨u,rfl,ru⟩:=vals1 r;cases ru;obtain ⟨t,u,v,e⟩:=(show b9 X.prog X.w H s.heap p (.gp 0 n) from I.ay p _ hp);refine call_list_range (n:=n) (I.ok.hd hc) e (small_one (by lia) (by lia) (by lia) (by lia)) (by rw [rangeSize_one];split <;> lia) (by lia) fun h' tk acc c hk hD hit=>?_
 refine ⟨.ref s.heap.objs.size,_,I.laid (o:=.lst (cJ n)) (fun b o e=>hk b o e) (aC _) ⟨?_,acc.toList,c,?_,?_⟩,rfl,q _ (I.ay.fresh (aC _))⟩
 ·unfold cJ
  rw [aG,dJ];exact a9 hn (by decide)
 ·refine yi ?_ fun i x u h1 h2=>?_
  ·unfold cJ
   rw [aG,dJ,fA,hit.1]
  ·have yk:acc[i]?=some u:=by simpa using h2
   obtain ⟨dw,e'⟩:=hit.2 i u yk;unfold cJ at h1;rw [bP] at h1;have hi:i<n:=by have z:=(Dm.mp yk).1;rw [hit.1] at z;exact z
   rw [qv hi] at h1;cases h1;exact ⟨dw,by rw [e'];simp⟩
 ·rw [hD]
end
theorem boot_all:bootBuiltins "all"=some (.builtin "all"):=by decide +kernel
theorem AO:bootBuiltins "range"=some (.type "range"):=by decide +kernel
def Ek:Expr→Bool
 | .Starred _ _=>false
 | _=>true
variable {e:Expr} {es:List Expr}
theorem RJ{env:Env}(h:Ek e=true):starEach (e::es) env=(false,eval e env)::starEach es env:=by cases e <;> first | rfl | cases h
variable {X:Cx} {te:TE}
theorem RK{t:TA}(hs:Ek e=true)(ha:PE X e te)(hr:PA X es t):PA X (e::es) (uL te t):=
 P_ ha hr (RJ hs)
theorem ai{t:TA}(ha:PE X e te)(hr:PA X es t)(hs:Ek e=true:=by rfl):PA X (e::es) (uL te t):=RK hs ha hr
variable {pos pos':Pos} {x:Str}
theorem JI{i:Nat}(hs:swapsWith e (some (.Name x pos')) pos.line X.env=pure false)(hf:X.fn x=true∨X.env.scope.names.lookup x=some .local)(hN:X.N.Nodup)(hi:X.N[i]?=some x)(hx:Loc X.env.scope x)(he:PE X e te) :
  PS X (.Assign [.Name x pos'] e pos) (pH te (aP i)):=Px hN hi hx he hs hf
theorem putL(i:Nat)(hN:X.N.Nodup)(he:PE X e te)(hs:swapsWith e (some (.Name x pos')) pos.line X.env=pure false:=by rfl)(hi:X.N[i]?=some x:=by rfl)(hx:X.env.scope.names.lookup x=some .local:=by rfl) :
  PS X (.Assign [.Name x pos'] e pos) (pH te (aP i)):=JI hs (.inr hx) hN hi (.inl hx) he
theorem JJ(i:Nat)(hN:X.N.Nodup)(he:PE X e te)(hs:swapsWith e (some (.Name x pos')) pos.line X.env=pure false:=by rfl)(hf:X.fn x=true∨X.env.scope.names.lookup x=some .local:=by first | exact .inl rfl | exact .inr rfl | assumption)(hi:X.N[i]?=some x:=by rfl)(hx:X.env.scope.names.lookup x=some .cell:=by rfl) :
  PS X (.Assign [.Name x pos'] e pos) (pH te (aP i)):=JI hs hf hN hi (.inr hx) he
end L2
namespace My
open PySem L2
theorem jh(a b:Int):decide (V.int a=V.int b)=decide (a=b):=by
 by_cases h:a=b;·subst h;simp
 ·rw [b3 h];exact b3 fun e=>h (V.int.inj e)
variable {K:aK}
theorem RL{T:String}:PySem.W.kitOne K (.type T) (.type T)=some true:=by unfold PySem.W.kitOne;rw [aj (beq_self_eq_true _)]
variable {H:Hp}
theorem aH{p:Addr}{o:HO}(h:H p=none):ao H (upd H p o):=fun b u e=>by rw [aM (mQ e h)];exact e
variable {i:Int}
theorem JK{α:Type}{xs:List α}(h0:0≤i)(h1:i<xs.length):∃v,jM xs i=some v∧v∈xs:=by
 obtain ⟨k,rfl⟩:∃k:Nat,i=(k:Int):=⟨i.toNat,by lia⟩
 have hk:k<xs.length:=by lia
 exact ⟨xs[k],pN (by simp [hk]),cB _⟩
inductive Any (H:Hp):V→Prop where
 | aS:Any H .aS
 | bl (b:Bool):Any H (.bl b)
 | int (i:Int):Any H (.int i)
 | str (x:Str):Any H (.str x)
 | lst {a:Addr} {xs:List V} (e:H a=some (.lst xs)):Any H (.ref a)
 | tup {a:Addr} {xs:List V} (e:H a=some (.tup xs)):Any H (.ref a)
 | uR {a:Addr} (e:H a=some (JE a)):Any H (.ref a)
def uS:V→Bool
 | .int _=>true
 | _=>false
def uT:V→Bool
 | .bl _=>true
 | _=>false
def AQ(H:Hp):V→Bool
 | .ref a=>(match H a with | some (.tup _)=>true | _=>false)
 | _=>false
theorem Any.Ef{v:V}(h:Any H v):∃T:String,ye K H v (.type T)∧PySem.W.kitOne K (.type T) (.type "int")=some (uS v || uT v)∧PySem.W.kitOne K (.type T) (.type "bool")=some (uT v) ∧
  PySem.W.kitOne K (.type T) (.type "tuple")=some (AQ H v):=by
 cases h with
 | aS=>exact ⟨"NoneType",.of .aS,rfl,rfl,rfl⟩
 | bl b=>exact ⟨"bool",.of (.bl b),rfl,rfl,rfl⟩
 | int i=>exact ⟨"int",.of (.int i),rfl,rfl,rfl⟩
 | str x=>exact ⟨"str",.of (.str x),rfl,rfl,rfl⟩
 | lst e=>exact ⟨"list",.of (.lst e),rfl,rfl,by unfold AQ;dsimp only;rw [e];rfl⟩
 | tup e=>exact ⟨"tuple",.of (.tup e),rfl,rfl,by unfold AQ;dsimp only;rw [e];rfl⟩
 | uR e=>exact ⟨"dict",.uR e,rfl,rfl,by unfold AQ;dsimp only;rw [e];rfl⟩
theorem RM{v:V}(h:uT v=true):uS v=false:=by cases v <;> first | rfl | cases h
theorem gv.of_lt(h1:-(10 ^ 70)<i)(h2:i<10 ^ 70):gv i:=by
 have h3:i.natAbs<2 ^ 240:=by lia
 exact dA h3 (mH (by decide) (by decide))
def RN:Sp:=fun vs H Q _=>∃v:V,vs=[v]∧Any H v∧Q (.bl (uS v)) H
def AR(K:aK):Sp:=fun vs H Q _=>∃(a:Addr) (ns:List Int),vs=[.ref a]∧bz K H a (ns.map V.int)∧ns.length≤63∧∀H',Q (.bl true) H'
end My
namespace L2
open PySem PySem.Spec PyProof.Rows
end L2
namespace My
open PySem L2
end My
namespace L2
open PySem PySem.Spec PyProof.Rows
section
variable {P:Program} {w:World} {K:aK} {mg:dC} {base:Heap}
end
section
variable {X:Cx} {CX:iC} {k:Nat} {f C:Addr} {fd:FuncData} {ps:List Str} {y:Str} {sp:Sp} {E:XK} {m:Str} {pos apos IW:Pos} {e e' o:Expr} {ta:TE} {t tk:TA}
end
end L2
namespace My
open PySem L2
end My
namespace L2
open PySem PySem.Spec PyProof.Rows
section
variable {X:Cx}
end
end L2
namespace My
open PySem L2
section
variable {C N z:Addr} {q:Int} {v u:V} {t b t' b':Int} {H:Hp} {Q:VK} {E:XK}
end
end My
namespace L2
open PySem PySem.Spec PyProof.Rows
structure kB (J:It) (xs:List V) (H1:Hp):Prop where
 go:∀i Hc,ao H1 Hc→i<xs.length→J.go i Hc
 df:∀i Hc x H',ao H1 Hc→J.df i Hc x H'→H'=Hc∧(i<xs.length→xs[i]?=some x)
 stop:∀i Hc,ao H1 Hc→xs.length≤i→J.stop i Hc
variable {xs:List V} {H1:Hp}
theorem kC{K:aK}{a:Addr}(h:bz K H1 a xs):kB (i9 K a) xs H1 where
 go:=fun i Hc s hi=>⟨xs,xs[i],s.seq h,by simp [hi]⟩
 df:=fun i Hc x H' s y=>⟨y.1,fun _=>y.2 xs (s.seq h)⟩
 stop:=fun i Hc s hi=>⟨xs,s.seq h,hi⟩
theorem El{lo:Int}{n:Nat}:kB (pI lo n) ((List.range n).map fun i:Nat=>V.int (lo+(i:Int))) H1 where
 go:=fun i Hc s hi=>by
  have hi:i<n:=by simpa using hi
  exact hi
 df:=fun i Hc x H' s y=>⟨y.1,fun hi=>by
  have hi:i<n:=by simpa using hi
  rw [y.2];simp [hi]⟩
 stop:=fun i Hc s hi=>by
  have hi:n≤i:=by simpa using hi
  exact hi
variable {H:Hp} {D:Addr}
theorem fG{H':Hp}{o:HO}(s:ao H H')(n:H D=none):ao H (upd H' D o):=fun b u e=>by rw [aM (mQ e n)];exact s b u e
variable {te:TE} {Q:VK}
theorem JL{J:It}{ρσ:St}(js:kB J xs H1)(nD:H1 D=none)(hn:xs.length<sizeLine)
  (P:Nat→V→Hp→Prop) (mono:∀i y H H' ys,P i y H→H D=some (.lst ys)→(∀b o,b≠D→H b=some o→H' b=some o)→P i y H')
  (step:∀i x,xs[i]?=some x→∀(Hc:Hp) (R:VK),ao H1 Hc→(∃ys,Hc D=some (.lst ys))→(∀y H3,ao Hc H3→P i y H3→R y H3)→te (some x::ρσ) Hc R)
  (fin:∀ys Hc,ao H1 Hc→ys.length=xs.length→(∀i y,ys[i]?=some y→P i y Hc)→Hc D=some (.lst ys)→Q (.ref D) Hc) :
  ∃W:Nat→Nat→List V→Hp→Prop,(∃m,W 0 m [] (upd H1 D (.lst []))) ∧
   ∀i m ys Hc,W i m ys Hc→Hc D=some (.lst ys)∧((J.stop i Hc∧Q (.ref D) Hc)∨(J.go i Hc∧∀x H',J.df i Hc x H'→
    if true=true then te (some x::ρσ) H' fun y H3=>H3 D=some (.lst ys)∧ys.length<sizeLine∧∃m',m'<m∧W (i+1) m' (ys++[y]) (upd H3 D (.lst (ys++[y]))) else ∃m',m'<m∧W (i+1) m' ys H')):=by
 refine ⟨fun i m ys Hc=>m=xs.length-i∧i≤xs.length∧Hc D=some (.lst ys)∧ao H1 Hc∧ys.length=i∧∀j y,ys[j]?=some y→P j y Hc,⟨_,rfl,bG _,au,fG (ao.refl H1) nD,rfl,fun j y e=>by simp at e⟩,?_⟩
 rintro i m ys Hc ⟨rfl,hi,eD,sH,el,hP⟩;refine ⟨eD,?_⟩;by_cases aT:i<xs.length
 ·refine .inr ⟨js.go i Hc sH aT,fun x H' hy=>?_⟩
  obtain ⟨rfl,hx⟩:=js.df i Hc x H' sH hy;rw [aj rfl];refine step i x (hx aT) _ _ sH ⟨ys,eD⟩ fun y H3 s3 hp=>?_;have e3:=s3 _ _ eD;refine ⟨e3,by lia,xs.length-(i+1),by lia,rfl,aT,au,fG (sH.trans s3) nD,by simp [el],fun j y' e=>?_⟩
  have cO:∀b o,b≠D→H3 b=some o→upd H3 D (.lst (ys++[y])) b=some o:=fun b o nb e=>by rw [aM nb];exact e
  by_cases hj:j<i
  ·have e':ys[j]?=some y':=by rw [gZ (by lia)] at e;exact e
   refine mono j y' H' _ ys (hP j y' e') eD fun b o nb e=>?_;exact cO b o nb (s3 _ _ e)
  ·have hj:j=i:=by have:=(bx.mp e).1;simp at this;lia
   subst hj;have e':y'=y:=by rw [gG (by lia),el,qw] at e;simpa using e.symm
   subst e';exact mono _ _ H3 _ ys hp e3 cO
 ·have e:i=xs.length:=by lia
  subst e;exact .inl ⟨js.stop _ Hc sH (aC _),fin ys Hc sH el hP eD⟩
variable {wi:TI} {ρ:St→St} {σ:St}
theorem RO(eV:∀R:It→Hp→Prop,(∀J H1,ao H H1→kB J xs H1→R J H1)→wi σ H R)(hn:xs.length<sizeLine)
  (P:Addr→Nat→V→Hp→Prop) (mono:∀D i y H H' ys,P D i y H→H D=some (.lst ys)→(∀b o,b≠D→H b=some o→H' b=some o)→P D i y H')
  (step:∀D i x,xs[i]?=some x→∀(Hc:Hp) (R:VK),ao H Hc→(∃ys,Hc D=some (.lst ys))→(∀y H3,ao Hc H3→P D i y H3→R y H3)→te (some x::ρ σ) Hc R)
  (fin:∀D ys Hc,ao H Hc→ys.length=xs.length→(∀i y,ys[i]?=some y→P D i y Hc)→Hc D=some (.lst ys)→Q (.ref D) Hc):hV wi ρ (fun _ H Q=>Q true H) te σ H Q:=by
 refine eV _ fun J H1 s1 js=>?_;intro D nD;exact JL (ρσ:=ρ σ) (te:=te) (Q:=Q) js nD hn (P D) (mono D) (fun i x hx Hc R sc=>step D i x hx Hc R (s1.trans sc)) (fun ys Hc sc=>fin D ys Hc (s1.trans sc))
theorem fj{g:TG}{D:Ends}(h:te σ H fun x H1=>g x σ H1 D.nx):pH te g D σ H:=h
theorem cW{a b:TS}{D:Ends}(h:a {D with nx:=fun σ H=>b D σ H} σ H):Ao a b D σ H:=h
section
variable {X:Cx} {N:List Str} {scope:Scope} {cl:List (Str×Addr)} {x:Str} {px pos:Pos} {iter elt:Expr} {ifs:List Expr} {wi:TI} {ρ:St→St} {tt:TT} {te:TE}
theorem ym{y:Str}{py yn:Pos}{i0:Nat}(B:Eg X N scope cl x ρ)(hc:X.calm=true)(hN:X.N.Nodup)(Em:X.N[i0]?=some y)(hy:Loc X.env.scope y)(hi:PI X (.Name x px) iter wi)(ht:∀s₃ H₃ fp,m6 (X.bj N scope cl s₃ H₃ fp) ifs tt)(he:∀s₃ H₃ fp,PE (X.bj N scope cl s₃ H₃ fp) elt te)
  (En:swapsWith (.ListComp elt [⟨.Name x px,iter,ifs,0⟩] scope pos) (some (.Name y py)) yn.line X.env=pure true:=by rfl) (hf:X.fn y=true∨X.env.scope.names.lookup y=some .local:=by first | exact .inl rfl | exact .inr rfl | assumption)
  (hs:∀x,foldedSetIterable iter X.env x=pure x:=by intro _;rfl):PS X (.Assign [.Name y py] (.ListComp elt [⟨.Name x px,iter,ifs,0⟩] scope pos) yn) (pH (hV wi ρ tt te) (aP i0)):=by
 intro pins s σ H D0 I h
 have h:hV wi ρ tt te σ H (fun v H1=>D0.nx (σ.set i0 (some v)) H1):=h
 rw [exec_Assign_Name_used _ _ _ _ En]
 refine ae (qr (ae ?_))
 show wpAny _ X.A (do let _ ←comprehension (.ListComp elt [⟨.Name x px,iter,ifs,0⟩] scope pos) scope X.env _ (newList []) false (eval iter X.env) (some (assign (.Name y py) X.env))) _ _ s
 refine ae (bJ (Q:=fun _ s'=>SP X pins D0 .next s') ?_ (fun _ s' hq=>aB (aB hq)) fun _ _ e=>e)
 refine zX (use:=some (assign (.Name y py) X.env)) rfl hs B.yf B.kind B.names (aN (hi pins s σ H _ I h) fun v s1 h1=>aN h1 fun uH s2 h2=>?_)
 obtain ⟨it,fp,tn,J,H2,rfl,I2,T,gN,f2,q2⟩:=h2
 have nD:H2 s2.heap.objs.size=none:=I2.ay.fresh (aC _)
 obtain ⟨W,⟨m0,w0⟩,turn⟩:=q2 _ nD
 refine g6 (zY B.yg (by intro y hy;simp at hy) (fun h₁ fY fZ=>?_) B.kind)
 dsimp only at fY fZ ⊢
 generalize hD:s2.heap.objs.size=D at nD w0 turn fY fZ ⊢
 generalize iI:({s2 with heap:=s2.heap.push {cls:=.type "list",dict:=none,data:=.seq ([]:List Value).toArray}}:Shared)=s3
 have I3:Inv X pins σ (upd H2 D (.lst [])) s3:=by
  subst hD iI
  exact I2.laid (t':=s2.toks) (fun b u e=>bK _ e) (aC _) ⟨bG _,[],_,.nil,cK _ rfl⟩
 have e3:s3.heap=s2.heap.push {cls:=.type "list",dict:=none,data:=.seq ([]:List Value).toArray}:=by rw [←iI]
 have f9:∀b o,s2.heap.get? b=some o→s3.heap.get? b=some o:=fun b o e=>by rw [e3];exact bK _ e
 rw [←e3] at fY fZ ⊢
 have below:∀b o,s3.heap.get? b=some o→b≠s3.heap.objs.size:=fun b o e=>bM (aZ e)
 have dO:∀b o,s3.heap.get? b=some o→h₁.get? b=some o:=fun b o e=>fZ.extBut b o (below b o e) (bK _ e)
 have iJ:∀b∈fp,∃o,s2.heap.get? b=some o∧∀v,o.data≠.cell v:=T.obj _ _ gN
 have q8:∀b∈fp,b≠D:=fun b hb z=>by
  obtain ⟨o,e,_⟩:=iJ b hb
  rw [z,←hD] at e
  exact absurd (aZ e) (dI _)
 have dg:∀y c,cl.lookup y=some c→X.env.cells.lookup y=some c:=fun y c e=>B.sub (y,c) (mG e)
 have q_:=I3.uF
 have eW:(X.bj N scope cl s3 (upd H2 D (.lst [])) fp).Ok:=by
  refine ⟨I.ok.mod,B.kind,I.ok.glob,I.ok.blt,aC _,fun a b c e1 e2=>I.ok.inj a b c (dg a c e1) (dg b c e2),fun y hy=>B.has y hy,(fun _ _ z _=>absurd z cj),(fun _=>I.ok.hd hc),I.ok.frames,.inl rfl,fun b hb=>⟨?_,fun y c e z=>?_⟩,fun b o e=>?_,a9 I.ok.i6 I3.sz,fun b o e hb=>?_,fun b hb z=>?_,I3.stack,q_⟩
  ·obtain ⟨o,e,_⟩:=iJ b hb
   exact below b o (f9 b o e)
  ·exact (f2 b hb).2.2.2.2.1 y c (dg y c e) z
  ·exact I3.bs b o e
  ·rcases (f2 b hb).2.2.2.1 with z | z
   ·exact I.ok.pB b o e z
   ·exact absurd (dA (aZ e) (a9 I.ok.i6 z)) (dI _)
  ·rcases bU.mp (I3.uE b z) with z | z
   ·exact (f2 b hb).2.1 z
   ·exact (f2 b hb).2.2.1 z
 have IB:∀tk:Nat,Inv (X.bj N scope cl s3 (upd H2 D (.lst [])) fp) [] (none::ρ σ) (upd H2 D (.lst [])) {s3 with heap:=h₁,toks:=tk}:=fun tk=>by
  refine ⟨eW,rfl,I3.bare,Un.kept dO,⟨_,fY,fun j y v e1 e2 e3=>?_⟩,fun y c e=>?_,?_,fun y c e=>I3.jH y c (dg y c e),(fun p hp=>nomatch hp),I3.ay.kept dO,?_⟩
  ·cases j with
   | zero=>cases e2
   | succ j=>
    obtain ⟨i,y',a1,a2,a3,a4,a5,a6⟩:=B.yh σ j v e2
    have ot:N[j+1]?=some y:=e1
    rw [ot] at a1
    cases a1
    obtain ⟨m,hn,hl⟩:=I3.loc
    obtain ⟨u,r,l⟩:=hl i y v a2 a3 a4
    refine ⟨u,r,.inr ⟨a6,?_⟩⟩
    obtain ⟨c,ec⟩:=B.has y a6
    rcases l with ⟨k,_⟩ | ⟨_,c',lT,z⟩
    ·rcases a5 with q | q <;> (rw [k] at q;cases q)
    ·have:=dg y c ec
     rw [this] at lT
     cases lT
     obtain ⟨o,ho,hd⟩:=z
     exact ⟨c,ec,o,dO _ _ ho,hd⟩
  ·obtain ⟨v,o,ho,hd⟩:=I3.cell y c (dg y c e)
   exact ⟨v,o,dO _ _ ho,hd⟩
  ·exact I3.ay.fresh (aC _)
  ·show (none::ρ σ).length=N.length
   rw [eM]
   exact B.len σ I.len
 have rj:∀b o,s3.heap.get? b=some o→b≠s3.heap.objs.size:=below
 have fin:∀{σ':St} {H':Hp} {s':Shared},Inv (X.bj N scope cl s3 (upd H2 D (.lst [])) fp) [] σ' H' s'→D0.nx (σ.set i0 (some (.ref D))) H'→compPost (model X.prog X.w) X.A X.xe (some (assign (.Name y py) X.env)) (fun _ s'=>SP X pins D0 .next s') (.ref D) s3.heap.objs.size (.ok .next) s':=fun{σ' H' s'} J q=>by
  obtain ⟨m,hn,_⟩:=J.loc
  have hn:s'.heap.Ns s3.heap.objs.size m:=hn
  have JC:H' s3.heap.objs.size=none:=J.free
  have u1:Un (cR X.stack) fp (upd H2 D (.lst [])) H' s3.heap s'.heap:=by
   refine ⟨fun b o e n hb hx=>J.base.keep b o e n hb hx,fun b o e n hb hx=>J.base.slot b o e n hb hx,J.base.free,fun b o e hx=>J.base.there b o e hx,J.base.dW,J.base.gM,J.base.g_⟩
  have IX:Inv X pins σ H' s':=I3.pE (ch:=fp) (J.os) u1 J.ay J.bare fun b hb=>by
   obtain ⟨g0,g1,g2,g3,g4,g5⟩:=f2 b hb
   exact ⟨g3,g1,g4,g5⟩
  have nl:X.env.locals≠s3.heap.objs.size:=by
   obtain ⟨m3,⟨o3,_,_,e3,_⟩,_⟩:=I3.loc
   exact rj _ _ e3
  have nc:∀z c,X.env.cells.lookup z=some c→c≠s3.heap.objs.size:=fun z c e=>by
   obtain ⟨v3,o3,e3,_⟩:=I3.cell z c e
   exact rj _ _ e3
  refine wpAny_assign_Name (DB (v:=.ref D) IX hN Em hy rfl (fun fi rn rq=>?_) hf)
  obtain ⟨a,rq,ha⟩:=rq
  have na:s3.heap.objs.size≠a:=by
   rcases ha with rfl | e
   ·exact fun z=>nl z.symm
   ·exact fun z=>nc _ _ e z.symm
  refine ⟨m,hn.sameBut rq na,fun h' dY=>⟨σ.set i0 (some (.ref D)),H',?_,q⟩⟩
  have u2:Un (cR X.stack) [s3.heap.objs.size] H' H' fi.heap h':=by
   refine ⟨fun b o e n hb hx=>(dY.2 b (by simpa using hx)).trans e,fun b o e n hb hx=>⟨o.slots,(dY.2 b (by simpa using hx)).trans e⟩,fun b o e n hx=>n,fun b o e hx=>⟨o,(dY.2 b (by simpa using hx)).trans e⟩,fun b xs z=>z,fun b o u z=>z,fun b ps z=>⟨#[],by simpa using z⟩⟩
  have rd:cC X.prog X.w H' h':=fun b u e=>by
   refine (rn.ay b u e).j_ (fun c v hc z=>(dY.2 c fun y=>?_).trans z) (fun _ z=>z) fun _ _ z=>z
   have y':c=s3.heap.objs.size:=y
   rcases hc with hc | hc
   ·rw [←hc,y',JC] at e
    cases e
   ·rw [y',JC] at hc
    cases hc
  refine rn.pE (s':={fi with heap:=h'}) (ch:=[s3.heap.objs.size]) rfl u2 rd rn.bare fun b hb=>?_
  have eb:b=s3.heap.objs.size:=by simpa using hb
  subst eb
  refine ⟨.inr I3.sz,fun z=>nl z.symm,fun z c e=>nc z c e,fun p hp=>?_⟩
  exact rj _ _ (I3.pin p hp).1
 have fV:∀{H':Hp},(∀b∈fp,H' b=none)→∀b∈fp,mU (X.bj N scope cl s3 (upd H2 D (.lst [])) fp) [] H' b:=fun hn b hb=>by
  refine ⟨hn b hb,?_,?_,.inl hb,fun y c e z=>(f2 b hb).2.2.2.2.1 y c (dg y c e) z,fun p hp=>nomatch hp⟩
  ·obtain ⟨o,e,_⟩:=iJ b hb
   exact below b o (f9 b o e)
  ·exact eW.pC b hb
 have loop:∀tk:Nat,codeAny (model X.prog X.w) X.A (.compLoop (.ListComp elt [⟨.Name x px,iter,ifs,0⟩] scope pos) 0 (.ref it) (.ref D) (compEnvC scope cl s3.heap.objs.size X.env))
   (compPost (model X.prog X.w) X.A X.xe (some (assign (.Name y py) X.env)) (fun _ s'=>SP X pins D0 .next s') (.ref D) s3.heap.objs.size) {s3 with heap:=h₁,toks:=tk}:=fun tk=>by
  refine codeAny_compLoop_tests (fun n s'=>∃i ys o H',Inv (X.bj N scope cl s3 (upd H2 D (.lst [])) fp) [] (o::ρ σ) H' s'∧tn i s'.heap∧(∀b∈fp,H' b=none)∧W i n ys H') ?_ m0
   ⟨0,[],none,_,IB tk,T.keep _ _ _ gN fun b hb o e=>dO _ _ (f9 _ _ e),fun b hb=>by rw [aM (q8 b hb)];exact (f2 b hb).1,w0⟩
  rintro n s4 ⟨i,ys,o,H4,I4,lW,lY,w4⟩
  obtain ⟨Ei,rf⟩:=turn i n ys H4 w4
  rcases rf with ⟨stop,qn⟩ | ⟨go,step⟩
  ·refine bJ (T.done (X.bj N scope cl s3 (upd H2 D (.lst [])) fp) rfl rfl rfl hc i [] s4 _ H4 (fun _ _=>False) I4 (fV lY) lW stop) (fun r s5 ⟨hr,I5⟩=>?_) fun _ _ z=>z.elim
   subst hr
   exact fin I5 qn
  ·refine bJ (T.item (X.bj N scope cl s3 (upd H2 D (.lst [])) fp) rfl rfl rfl hc i [] s4 _ H4 (fun _ _=>False) I4 (fV lY) lW go) (fun r s5 ⟨u,hr,h5⟩=>?_) fun _ _ z=>z.elim
   subst hr
   have z:letOwnedTupleGo (.Name x px) (.ref it) u=pure ():=rfl
   rw [z] at h5
   show wpAny _ _ ((pure ():Sem Unit) >>= fun _=>assign (.Name x px) (compEnvC scope cl s3.heap.objs.size X.env) u) _ _ s5
   refine ae (bJ h5 (fun _ s5 ⟨y,H5,I5,r5,y5,fW,n_⟩=>?_) fun _ _ z=>z.elim)
   have og:=I5.pinned (fV n_) (T.obj _ _ fW)
   have pg:PG (X.bj N scope cl s3 (upd H2 D (.lst [])) fp) (.Name x px) (aP 0):=cy (i:=0) B.nd B.n0 (.inl (j7 B.hx)) (.inr (j7 B.hx))
   have again:∀{σ7:St} {H7:Hp} {s7:Shared},Inv (X.bj N scope cl s3 (upd H2 D (.lst [])) fp) ([]++kj fp s5.heap) σ7 H7 s7→Inv (X.bj N scope cl s3 (upd H2 D (.lst [])) fp) [] σ7 H7 s7∧tn (i+1) s7.heap∧∀b∈fp,H7 b=none:=fun{σ7 H7 s7} I7=>by
    refine ⟨I7.qT,T.keep _ _ _ fW fun b hb o e=>(I7.pin (b,o) (dR _ (dR _ (mW hb e)))).1,fun b hb=>?_⟩
    obtain ⟨o,e,d⟩:=T.obj _ _ fW b hb
    exact (I7.pin (b,o) (dR _ (dR _ (mW hb e)))).2.1
   refine bJ (pg _ s5 _ H5 y u (fun σ2 H6=>σ2=some y::ρ σ∧H6=H5) og r5 ⟨rfl,rfl⟩) (fun _ s6 ⟨σ6,H6,I6,q6⟩=>?_) fun _ _ z=>z.elim
   obtain ⟨rfl,rfl⟩:=q6
   have rg:=step y _ y5
   have tests:∀{iK:TT},m6 (X.bj N scope cl s3 (upd H2 D (.lst [])) fp) ifs iK→∀{R:Bool→Hp→Prop},iK (some y::ρ σ) H6 R→wpAny (model X.prog X.w) X.A
     (forIn ifs true fun c r=>if r=true then do let ok ←isTrue c (compEnvC scope cl s3.heap.objs.size X.env) (eval c (compEnvC scope cl s3.heap.objs.size X.env));pure (ForInStep.yield ok) else pure (ForInStep.yield r))
     (fun ok s7=>∃H7,Inv (X.bj N scope cl s3 (upd H2 D (.lst [])) fp) ([]++kj fp s5.heap) (some y::ρ σ) H7 s7∧R ok H7) (fun _ _=>False) s6:=fun{iK} p {R} hR=>by
    cases p with
    | nil=>exact zZ ⟨_,I6,hR⟩
    | one p=>exact z5 (p _ s6 _ _ _ I6 hR)
   refine bJ (tests (ht s3 _ fp) rg) (fun ok s7 ⟨H7,I7,q7⟩=>?_) fun _ _ z=>z.elim
   cases ok with
   | false=>
    obtain ⟨m',iL,w7⟩:=q7
    obtain ⟨a1,a2,a3⟩:=again I7
    exact ⟨m',iL,i+1,ys,_,H7,a1,a2,a3,w7⟩
   | true=>
    refine bJ (he s3 _ fp _ s7 _ H7 _ I7 q7) (fun ev s8 ⟨z,H8,I8,r8,rh,hz,m',iL,w8⟩=>?_) fun _ _ z=>z.elim
    refine bJ (je (X:=X.bj N scope cl s3 (upd H2 D (.lst [])) fp) _ s8 _ H8 (.ref D) [z] (.ref D) [ev] (fun _ H9=>H9=upd H8 D (.lst (ys++[z]))) I8 rfl (.cons r8 .nil) ⟨D,ys,z,rfl,rfl,rh,hz,rfl⟩) (fun _ s9 ⟨_,H9,I9,_,q9⟩=>?_) fun _ _ z=>z.elim
    subst q9
    obtain ⟨a1,a2,a3⟩:=again I9
    exact ⟨m',iL,i+1,ys++[z],_,_,a1,a2,a3,w8⟩
 have start:=loop (s3.toks+([]:List (Str×Value)).length)
 have es:({s3 with heap:=h₁,toks:=s3.toks+([]:List (Str×Value)).length}:Shared)={s2 with heap:=h₁,toks:=s2.toks+([]:List (Str×Value)).length}:=by rw [←iI]
 rw [es] at start
 exact z6 start (T.self _ 0 _ _ _ (T.keep _ _ _ gN fun b hb o e=>dO _ _ (f9 _ _ e)) start)
end
section
variable {X:Cx}
end
section
variable {prog:Program} {w:World} {A:Around} {R:Result→Shared→Prop} {s:Shared}
theorem JM{elt target iter:Expr}{ifs:List Expr}{scope:Scope}{pos:Pos}{it acc:Value}{env:Env}(I:Nat→Shared→Prop)
  (turn:∀n s,I n s→wpAny (model prog w) A (pyNext it) (fun r s₁=>match r with
   | none=>R (.ok .next) s₁
   | some v=>wpAny (model prog w) A (letOwnedTupleGo target it v) (fun _ s₁=>wpAny (model prog w) A (assign target env v) (fun _ s₂=>
     wpAny (model prog w) A (forIn ifs true fun c r=>if r=true then do let ok ←isTrue c env (eval c env);pure (ForInStep.yield ok) else pure (ForInStep.yield r)) (fun ok s₃=>
      if ok=true then wpAny (model prog w) A (eval elt env) (fun x s₄=>
       wpAny (model prog w) A (call (.builtin "list.append") [acc,x]) (fun _ s₅=>∃m,m<n∧I m s₅) (notedBy (model prog w) A env fun e s'=>R (.error e) s') s₄) (notedBy (model prog w) A env fun e s'=>R (.error e) s') s₃
      else ∃m,m<n∧I m s₃) (notedBy (model prog w) A env fun e s'=>R (.error e) s') s₂) (notedBy (model prog w) A env fun e s'=>R (.error e) s') s₁) (notedBy (model prog w) A env fun e s'=>R (.error e) s') s₁) (notedBy (model prog w) A env fun e s'=>R (.error e) s') s)
  (n:Nat) (h:I n s):codeAny (model prog w) A (.compLoop (.ListComp elt [⟨target,iter,ifs,0⟩] scope pos) 0 it acc env) R s:=by
 refine codeAny_loop rfl I (fun n s hI=>?_) n h
 show wpAny _ A ((compTurn (.ListComp elt [⟨target,iter,ifs,0⟩] scope pos) 0 it acc env).onRaise (fun x=>do noteFrame x env;theTreesLotGoes x)) _ _ s
 refine wpAny_noted ?_
 rw [compTurn_list]
 refine ae (qr (ae (bJ (turn n s hI) (fun r s₁ h₁=>?_) fun _ _ h'=>h')))
 cases r with
 | none=>exact aB h₁
 | some v=>
  refine ae (bJ h₁ (fun _ s₁ h₁=>?_) fun _ _ h'=>h')
  refine ae (bJ h₁ (fun _ s₂ h₂=>ae (bJ h₂ (fun ok s₃ h₃=>?_) fun _ _ h'=>h')) fun _ _ h'=>h')
  cases ok with
  | false=>exact aB ⟨rfl,h₃⟩
  | true=>
   exact ae (ae (bJ h₃ (fun x s₄ h₄=>ae (bJ h₄ (fun _ s₅ h₅=>aB (aB ⟨rfl,h₅⟩)) fun _ _ h'=>h')) fun _ _ h'=>h'))
end
def m7(K:aK)(wi:TI)(ρ:St→St)(tt:TT)(te:TE):TE:=fun σ H Q=>wi σ H fun J H1=>∀D,H1 D=none→∃W:Nat→Nat→List V→Hp→Prop,(∃m,W 0 m [] (upd H1 D (.lst []))) ∧
 ∀i m ys Hc,W i m ys Hc→Hc D=some (.lst ys)∧((J.stop i Hc∧Q (.ref D) Hc)∨(J.go i Hc∧∀v H',J.df i Hc v H'→∃T x1 x2,v=.ref T∧dG K H' T [x1,x2]∧tt (some x1::some x2::ρ σ) H' fun b H2=>
  if b=true then te (some x1::some x2::ρ σ) H2 fun y H3=>H3 D=some (.lst ys)∧ys.length<sizeLine∧∃m',m'<m∧W (i+1) m' (ys++[y]) (upd H3 D (.lst (ys++[y]))) else ∃m',m'<m∧W (i+1) m' ys H2))
section
variable {X:Cx} {N:List Str} {scope:Scope} {cl:List (Str×Addr)} {x y:Str} {px py pos tp:Pos} {l7:Nat} {iter elt:Expr} {ifs:List Expr} {wi:TI} {ρ:St→St} {tt:TT} {te:TE}
structure Eo (X:Cx) (N:List Str) (scope:Scope) (cl:List (Str×Addr)) (x y:Str) (ρ:St→St):Prop where
 yf:closureFor scope X.env=pure cl
 kind:scope.kind=.function
 yg:∀y∈scope.names,y.2≠.cell
 names:∀y∈scope.names,y.2=.local→scope.names.lookup y.1=some .local
 sub:∀p∈cl,X.env.cells.lookup p.1=some p.2
 has:∀y,((relabel scope X.env).names.lookup y=some .cell∨(relabel scope X.env).names.lookup y=some .free)→∃c,cl.lookup y=some c
 n0:N[0]?=some x
 n1:N[1]?=some y
 nd:N.Nodup
 hx:scope.names.lookup x=some .local
 hy:scope.names.lookup y=some .local
 yh:∀(σ:St) (j:Nat) (v:V),(ρ σ)[j]?=some (some v)→∃(i:Nat) (y:Str),N[j+1+1]?=some y∧X.N[i]?=some y∧σ[i]?=some (some v)∧qL X.env.scope y∧(X.env.kindOf y=some .cell∨X.env.kindOf y=some .free)∧((relabel scope X.env).names.lookup y=some .cell∨(relabel scope X.env).names.lookup y=some .free)
 len:∀σ:St,σ.length=X.N.length→(ρ σ).length+1+1=N.length
theorem Ep(is:List Nat)(h1:closureFor scope X.env=pure cl)(h:AM X scope N.tail.tail is:=by repeat' first | exact True.intro | refine And.intro ⟨rfl,Or.inr (Or.inl rfl),.inl rfl,.inl rfl⟩ ?_)(h2:scope.kind=.function:=by rfl)(h3:∀y∈scope.names,y.2≠.cell:=by decide +kernel)(h4:∀y∈scope.names,y.2=.local→scope.names.lookup y.1=some .local:=by decide +kernel)(h5:∀p∈cl,X.env.cells.lookup p.1=some p.2:=by repeat' first | exact List.forall_mem_nil _ | refine List.forall_mem_cons.mpr ⟨rfl,?_⟩)(h6:((relabel scope X.env).names.all fun q=>(q.2 != .cell && q.2 != .free) || (cl.lookup q.1).isSome)=true:=by rfl)(h7:N[0]?=some x:=by rfl)(RP:N[1]?=some y:=by rfl)(h8:N.Nodup:=by decide +kernel)(h9:scope.names.lookup x=some .local:=by rfl)(RQ:scope.names.lookup y=some .local:=by rfl)(hr:∀σ:St,ρ σ=is.map fun i=>σ[i]?.join:=by exact fun _=>rfl)(hl:is.length+1+1=N.length:=by rfl):Eo X N scope cl x y ρ:=
 ⟨h1,h2,h3,h4,h5,JG h6,h7,RP,h8,h9,RQ,fun σ j v e=>by rw [hr] at e;rw [←List.getElem?_tail,←List.getElem?_tail];exact Eh h σ j v e,fun σ _=>by rw [hr,aG];exact hl⟩
theorem JN(B:Eo X N scope cl x y ρ)(hc:X.calm=true)(hi:PI X (.Tuple [.Name x px,.Name y py] l7 tp) iter wi)(ht:∀s₃ H₃ fp,m6 (X.bj N scope cl s₃ H₃ fp) ifs tt)(he:∀s₃ H₃ fp,PE (X.bj N scope cl s₃ H₃ fp) elt te)
  (hs:∀x,foldedSetIterable iter X.env x=pure x:=by intro _;rfl):PE X (.ListComp elt [⟨.Tuple [.Name x px,.Name y py] l7 tp,iter,ifs,0⟩] scope pos) (m7 X.K wi ρ tt te):=by
 intro pins s σ H Q I h
 rw [eval_ListComp]
 refine zX (use:=none) rfl hs B.yf B.kind B.names (aN (hi pins s σ H _ I h) fun v s1 h1=>aN h1 fun uH s2 h2=>?_)
 obtain ⟨it,fp,tn,J,H2,rfl,I2,T,gN,f2,q2⟩:=h2
 have nD:H2 s2.heap.objs.size=none:=I2.ay.fresh (aC _)
 obtain ⟨W,⟨m0,w0⟩,turn⟩:=q2 _ nD
 refine g6 (zY B.yg (by intro y hy;simp at hy) (fun h₁ fY fZ=>?_) B.kind)
 dsimp only at fY fZ ⊢
 generalize hD:s2.heap.objs.size=D at nD w0 turn fY fZ ⊢
 generalize iI:({s2 with heap:=s2.heap.push {cls:=.type "list",dict:=none,data:=.seq ([]:List Value).toArray}}:Shared)=s3
 have I3:Inv X pins σ (upd H2 D (.lst [])) s3:=by
  subst hD iI
  exact I2.laid (t':=s2.toks) (fun b u e=>bK _ e) (aC _) ⟨bG _,[],_,.nil,cK _ rfl⟩
 have e3:s3.heap=s2.heap.push {cls:=.type "list",dict:=none,data:=.seq ([]:List Value).toArray}:=by rw [←iI]
 have f9:∀b o,s2.heap.get? b=some o→s3.heap.get? b=some o:=fun b o e=>by rw [e3];exact bK _ e
 rw [←e3] at fY fZ ⊢
 have below:∀b o,s3.heap.get? b=some o→b≠s3.heap.objs.size:=fun b o e=>bM (aZ e)
 have dO:∀b o,s3.heap.get? b=some o→h₁.get? b=some o:=fun b o e=>fZ.extBut b o (below b o e) (bK _ e)
 have iJ:∀b∈fp,∃o,s2.heap.get? b=some o∧∀v,o.data≠.cell v:=T.obj _ _ gN
 have q8:∀b∈fp,b≠D:=fun b hb z=>by
  obtain ⟨o,e,_⟩:=iJ b hb
  rw [z,←hD] at e
  exact absurd (aZ e) (dI _)
 have dg:∀y c,cl.lookup y=some c→X.env.cells.lookup y=some c:=fun y c e=>B.sub (y,c) (mG e)
 have q_:=I3.uF
 have eW:(X.bj N scope cl s3 (upd H2 D (.lst [])) fp).Ok:=by
  refine ⟨I.ok.mod,B.kind,I.ok.glob,I.ok.blt,aC _,fun a b c e1 e2=>I.ok.inj a b c (dg a c e1) (dg b c e2),fun y hy=>B.has y hy,(fun _ _ z _=>absurd z cj),(fun _=>I.ok.hd hc),I.ok.frames,.inl rfl,fun b hb=>⟨?_,fun y c e z=>?_⟩,fun b o e=>?_,a9 I.ok.i6 I3.sz,fun b o e hb=>?_,fun b hb z=>?_,I3.stack,q_⟩
  ·obtain ⟨o,e,_⟩:=iJ b hb
   exact below b o (f9 b o e)
  ·exact (f2 b hb).2.2.2.2.1 y c (dg y c e) z
  ·exact I3.bs b o e
  ·rcases (f2 b hb).2.2.2.1 with z | z
   ·exact I.ok.pB b o e z
   ·exact absurd (dA (aZ e) (a9 I.ok.i6 z)) (dI _)
  ·rcases bU.mp (I3.uE b z) with z | z
   ·exact (f2 b hb).2.1 z
   ·exact (f2 b hb).2.2.1 z
 have IB:∀tk:Nat,Inv (X.bj N scope cl s3 (upd H2 D (.lst [])) fp) [] (none::none::ρ σ) (upd H2 D (.lst [])) {s3 with heap:=h₁,toks:=tk}:=fun tk=>by
  refine ⟨eW,rfl,I3.bare,Un.kept dO,⟨_,fY,fun j y v e1 e2 e3=>?_⟩,fun y c e=>?_,?_,fun y c e=>I3.jH y c (dg y c e),(fun p hp=>nomatch hp),I3.ay.kept dO,?_⟩
  ·cases j with
   | zero=>cases e2
   | succ j=>
   cases j with
   | zero=>cases e2
   | succ j=>
    obtain ⟨i,y',a1,a2,a3,a4,a5,a6⟩:=B.yh σ j v e2
    have ot:N[j+1+1]?=some y:=e1
    rw [ot] at a1
    cases a1
    obtain ⟨m,hn,hl⟩:=I3.loc
    obtain ⟨u,r,l⟩:=hl i y v a2 a3 a4
    refine ⟨u,r,.inr ⟨a6,?_⟩⟩
    obtain ⟨c,ec⟩:=B.has y a6
    rcases l with ⟨k,_⟩ | ⟨_,c',lT,z⟩
    ·rcases a5 with q | q <;> (rw [k] at q;cases q)
    ·have:=dg y c ec
     rw [this] at lT
     cases lT
     obtain ⟨o,ho,hd⟩:=z
     exact ⟨c,ec,o,dO _ _ ho,hd⟩
  ·obtain ⟨v,o,ho,hd⟩:=I3.cell y c (dg y c e)
   exact ⟨v,o,dO _ _ ho,hd⟩
  ·exact I3.ay.fresh (aC _)
  ·show (none::none::ρ σ).length=N.length
   rw [eM,eM]
   exact B.len σ I.len
 have fin:∀{σ':St} {H':Hp} {s':Shared},Inv (X.bj N scope cl s3 (upd H2 D (.lst [])) fp) [] σ' H' s'→Q (.ref D) H'→compPost (model X.prog X.w) X.A X.xe none (EP X pins σ Q) (.ref D) s3.heap.objs.size (.ok .next) s':=fun{σ' H' s'} J q=>by
  obtain ⟨m,hn,_⟩:=J.loc
  refine ⟨m,hn,fun h' dY=>⟨.ref D,H',?_,rfl,q⟩⟩
  have old:∀b o,s3.heap.get? b=some o→b≠s3.heap.objs.size:=below
  have u1:Un (cR X.stack) fp (upd H2 D (.lst [])) H' s3.heap h':=by
   refine ⟨fun b o e n hb hx=>?_,fun b o e n hb hx=>?_,J.base.free,fun b o e hx=>?_,J.base.dW,J.base.gM,J.base.g_⟩
   ·exact (dY.2 b (old b o e)).trans (J.base.keep b o e n hb hx)
   ·obtain ⟨sl,z⟩:=J.base.slot b o e n hb hx
    exact ⟨sl,(dY.2 b (old b o e)).trans z⟩
   ·obtain ⟨o',z⟩:=J.base.there b o e hx
    exact ⟨o',(dY.2 b (old b o e)).trans z⟩
  have rd:cC X.prog X.w H' h':=fun b u e=>by
   refine (J.ay b u e).j_ (fun c v hc z=>(dY.2 c fun y=>?_).trans z) (fun _ z=>z) fun _ _ z=>z
   have fr:=J.free
   have y':c=s3.heap.objs.size:=y
   rcases hc with hc | hc
   ·rw [←hc,y'] at e
    exact absurd (fr.symm.trans e) (by simp)
   ·rw [y'] at hc
    exact absurd (fr.symm.trans hc) (by simp)
  refine I3.pE (s':={s' with heap:=h'}) (ch:=fp) (J.os) u1 rd J.bare fun b hb=>?_
  obtain ⟨g0,g1,g2,g3,g4,g5⟩:=f2 b hb
  exact ⟨g3,g1,g4,g5⟩
 have fV:∀{H':Hp},(∀b∈fp,H' b=none)→∀b∈fp,mU (X.bj N scope cl s3 (upd H2 D (.lst [])) fp) [] H' b:=fun hn b hb=>by
  refine ⟨hn b hb,?_,?_,.inl hb,fun y c e z=>(f2 b hb).2.2.2.2.1 y c (dg y c e) z,fun p hp=>nomatch hp⟩
  ·obtain ⟨o,e,_⟩:=iJ b hb
   exact below b o (f9 b o e)
  ·exact eW.pC b hb
 have loop:∀tk:Nat,codeAny (model X.prog X.w) X.A (.compLoop (.ListComp elt [⟨.Tuple [.Name x px,.Name y py] l7 tp,iter,ifs,0⟩] scope pos) 0 (.ref it) (.ref D) (compEnvC scope cl s3.heap.objs.size X.env))
   (compPost (model X.prog X.w) X.A X.xe none (EP X pins σ Q) (.ref D) s3.heap.objs.size) {s3 with heap:=h₁,toks:=tk}:=fun tk=>by
  refine JM (fun n s'=>∃i ys o o2 H',Inv (X.bj N scope cl s3 (upd H2 D (.lst [])) fp) [] (o::o2::ρ σ) H' s'∧tn i s'.heap∧(∀b∈fp,H' b=none)∧W i n ys H') ?_ m0
   ⟨0,[],none,none,_,IB tk,T.keep _ _ _ gN fun b hb o e=>dO _ _ (f9 _ _ e),fun b hb=>by rw [aM (q8 b hb)];exact (f2 b hb).1,w0⟩
  rintro n s4 ⟨i,ys,o,o2,H4,I4,lW,lY,w4⟩
  obtain ⟨Ei,rf⟩:=turn i n ys H4 w4
  rcases rf with ⟨stop,qn⟩ | ⟨go,step⟩
  ·refine bJ (T.done (X.bj N scope cl s3 (upd H2 D (.lst [])) fp) rfl rfl rfl hc i [] s4 _ H4 (fun _ _=>False) I4 (fV lY) lW stop) (fun r s5 ⟨hr,I5⟩=>?_) fun _ _ z=>z.elim
   subst hr
   exact fin I5 qn
  ·refine bJ (T.item (X.bj N scope cl s3 (upd H2 D (.lst [])) fp) rfl rfl rfl hc i [] s4 _ H4 (fun _ _=>False) I4 (fV lY) lW go) (fun r s5 ⟨u,hr,h5⟩=>?_) fun _ _ z=>z.elim
   subst hr
   refine bJ h5 (fun _ s5 ⟨y0,H5,I5,r5,y5,fW,n_⟩=>?_) fun _ _ z=>z.elim
   obtain ⟨Tt,x1,x2,e0,Er,rg⟩:=step y0 _ y5
   subst e0
   have og:=I5.pinned (fV n_) (T.obj _ _ fW)
   have pg:PG (X.bj N scope cl s3 (upd H2 D (.lst [])) fp) (.Tuple [.Name x px,.Name y py] l7 tp) (DJ X.K 2 (xY (aP 0) (xY (aP 1) DI))):=
    qQ (X:=X.bj N scope cl s3 (upd H2 D (.lst [])) fp) hc (i8 (cy (i:=0) B.nd B.n0 (.inl (j7 B.hx)) (.inr (j7 B.hx))) (i8 (cy (i:=1) B.nd B.n1 (.inl (j7 B.hy)) (.inr (j7 B.hy))) qP))
   have again:∀{σ7:St} {H7:Hp} {s7:Shared},Inv (X.bj N scope cl s3 (upd H2 D (.lst [])) fp) ([]++kj fp s5.heap) σ7 H7 s7→Inv (X.bj N scope cl s3 (upd H2 D (.lst [])) fp) [] σ7 H7 s7∧tn (i+1) s7.heap∧∀b∈fp,H7 b=none:=fun{σ7 H7 s7} I7=>by
    refine ⟨I7.qT,T.keep _ _ _ fW fun b hb o e=>(I7.pin (b,o) (dR _ (dR _ (mW hb e)))).1,fun b hb=>?_⟩
    obtain ⟨o,e,d⟩:=T.obj _ _ fW b hb
    exact (I7.pin (b,o) (dR _ (dR _ (mW hb e)))).2.1
   refine bJ (pg _ s5 _ H5 (.ref Tt) u (fun σ2 H6=>σ2=some x1::some x2::ρ σ∧H6=H5) og r5 ⟨Tt,_,rfl,Er,rfl,_,_,rfl,_,_,rfl,rfl,rfl,rfl⟩) (fun _ s6 ⟨σ6,H6,I6,q6⟩=>?_) fun _ _ z=>z.elim
   obtain ⟨rfl,rfl⟩:=q6
   have tests:∀{iK:TT},m6 (X.bj N scope cl s3 (upd H2 D (.lst [])) fp) ifs iK→∀{R:Bool→Hp→Prop},iK (some x1::some x2::ρ σ) H6 R→wpAny (model X.prog X.w) X.A
     (forIn ifs true fun c r=>if r=true then do let ok ←isTrue c (compEnvC scope cl s3.heap.objs.size X.env) (eval c (compEnvC scope cl s3.heap.objs.size X.env));pure (ForInStep.yield ok) else pure (ForInStep.yield r))
     (fun ok s7=>∃H7,Inv (X.bj N scope cl s3 (upd H2 D (.lst [])) fp) ([]++kj fp s5.heap) (some x1::some x2::ρ σ) H7 s7∧R ok H7) (fun _ _=>False) s6:=fun{iK} p {R} hR=>by
    cases p with
    | nil=>exact zZ ⟨_,I6,hR⟩
    | one p=>exact z5 (p _ s6 _ _ _ I6 hR)
   refine bJ (tests (ht s3 _ fp) rg) (fun ok s7 ⟨H7,I7,q7⟩=>?_) fun _ _ z=>z.elim
   cases ok with
   | false=>
    obtain ⟨m',iL,w7⟩:=q7
    obtain ⟨a1,a2,a3⟩:=again I7
    exact ⟨m',iL,i+1,ys,_,_,H7,a1,a2,a3,w7⟩
   | true=>
    refine bJ (he s3 _ fp _ s7 _ H7 _ I7 q7) (fun ev s8 ⟨z,H8,I8,r8,rh,hz,m',iL,w8⟩=>?_) fun _ _ z=>z.elim
    refine bJ (je (X:=X.bj N scope cl s3 (upd H2 D (.lst [])) fp) _ s8 _ H8 (.ref D) [z] (.ref D) [ev] (fun _ H9=>H9=upd H8 D (.lst (ys++[z]))) I8 rfl (.cons r8 .nil) ⟨D,ys,z,rfl,rfl,rh,hz,rfl⟩) (fun _ s9 ⟨_,H9,I9,_,q9⟩=>?_) fun _ _ z=>z.elim
    subst q9
    obtain ⟨a1,a2,a3⟩:=again I9
    exact ⟨m',iL,i+1,ys++[z],_,_,_,a1,a2,a3,w8⟩
 have start:=loop (s3.toks+([]:List (Str×Value)).length)
 have es:({s3 with heap:=h₁,toks:=s3.toks+([]:List (Str×Value)).length}:Shared)={s2 with heap:=h₁,toks:=s2.toks+([]:List (Str×Value)).length}:=by rw [←iI]
 rw [es] at start
 exact z6 start (T.self _ 0 _ _ _ (T.keep _ _ _ gN fun b hb o e=>dO _ _ (f9 _ _ e)) start)
end
section
variable {X:Cx}
def RR(K:aK):List V→Hp→VK→Prop:=fun xs H Q=>∃(p:Addr) (ns:List Int),xs=[.ref p]∧bz K H p (ns.map V.int)∧Q (.int ns.sum) H
theorem RS:∀(ns:List Int),preSum (fun i=>ns.getD i 0) ns.length=ns.sum:=by
 intro ns;have key:∀k,k≤ns.length→preSum (fun i=>ns.getD i 0) k=(ns.take k).sum:=by
  intro k
  induction k with
  | zero=>intro _;rfl
  | succ k ih=>
   intro hk;show preSum (fun i=>ns.getD i 0) k+ns.getD k 0=_;rw [ih (by lia),List.take_add_one,List.sum_append]
   have e:ns[k]?=some ns[k]:=by simp [show k<ns.length by lia]
   rw [eN,e];simp
 rw [key ns.length (aC _),gh]
theorem RT{K:aK}(hc:X.calm=true)(hK:X.K=K:=by rfl):eQ X (.builtin "sum") (RR K):=by
 intro pins s σ H xs us Q I r h;subst hK;obtain ⟨p,ns,rfl,hq,q⟩:=h;obtain ⟨u,rfl,ru⟩:=vals1 r;cases ru;obtain ⟨ak,rv,pl,hz⟩:=I.list hq;have ou:p≠s.heap.objs.size:=by obtain ⟨o,e,_⟩:=pl.isList;exact bM (aZ e)
 have hl:ak.length=ns.length:=by rw [←rv.length,aG]
 refine call_sum_walkG (zV pl.isList ?_);refine ⟨s.heap.objs.size,_,_,_,_,_,fun i=>ns.getD i 0,rfl,Walks.list (A:=X.A.in1) (show X.A.in1.handled=none from I.ok.hd hc) s.heap.objs.size p ou ak.toArray,⟨⟨_,cK _ rfl,rfl,rfl⟩,pl.isList.push _⟩,?_,fun i v hv=>?_,fun h' tk t' hk=>?_⟩
 ·intro b hb
  rw [Heap.size_push];simp only [bU,qy,or_false] at hb;rcases hb with rfl | rfl;·exact Nat.lt_succ_self _
  ·obtain ⟨o,e,_⟩:=pl.isList
   exact mI (aZ e)
 ·have l5:ak[i]?=some v:=by simpa using hv
  cases eb:ns[i]? with
  | none=>
   have:=rv.none_of (i:=i) (by rw [bP,eb];rfl)
   rw [this] at l5;cases l5
  | some b=>
   obtain ⟨u,hu,ru⟩:=rv.get (i:=i) (x:=V.int b) (by rw [bP,eb];rfl)
   rw [hu] at l5;cases l5;obtain ⟨t,rfl⟩:=ru;exact ⟨t,by show Value.int b t=Value.int (ns.getD i 0) t;rw [eN,eb];rfl⟩
 ·refine ⟨.int ns.sum,H,I.kept fun b o e=>hk b o (fun z=>?_) (bK _ e),⟨t',?_⟩,q⟩
  ·exact absurd (aZ e) (by rw [bY.mp z];exact dI _)
  ·congr 1
   rw [b4,hl];exact RS ns
end
theorem boot_sum:bootBuiltins "sum"=some (.builtin "sum"):=by decide +kernel
section
variable {M:Model} {A:Around} {E:aJ} {s:Shared}
end
section
variable {X:Cx} {N:List Str} {scope:Scope} {cl:List (Str×Addr)} {x:Str} {px pos:Pos} {iter elt:Expr} {ifs:List Expr} {wi:TI} {ρ:St→St} {tt:TT} {te:TE}
end
theorem JO{v:V}(h:jc v=true):iF v v=true:=by
 cases v with
 | aS=>rfl
 | bl b=>show (b == b)=true;simp
 | int i=>show (i == i)=true;simp
 | str x=>show (x == x)=true;simp
 | _=>cases h
theorem all_range(n:Nat):(List.range n).all (fun _=>true)=true:=by simp
section
variable {X:Cx} {pins:aR} {σ:St} {H:Hp} {s:Shared}
end
section
variable {X:Cx}
end
section
variable {X:Cx} {N:List Str} {scope:Scope} {cl:List (Str×Addr)} {x:Str} {px pos:Pos} {iter elt:Expr} {ifs:List Expr} {wi:TI} {ρ:St→St} {tt:TT} {te:TE}
end
theorem pP(eV:∀R:It→Hp→Prop,(∀J H1,ao H H1→kB J xs H1→R J H1)→wi σ H R)(hn:xs.length<sizeLine)
  (P:Addr→Nat→V→Hp→Prop) (mono:∀D i y H H' ys,P D i y H→H D=some (.lst ys)→(∀b o,b≠D→H b=some o→H' b=some o)→P D i y H')
  (step:∀D i x,xs[i]?=some x→∀(Hc:Hp) (R:VK),ao H Hc→(∃ys,Hc D=some (.lst ys))→(∀y H3,ao Hc H3→P D i y H3→R y H3)→te (some x::ρ σ) Hc R)
  (fin:∀D ys Hc,H D=none→ao H Hc→ys.length=xs.length→(∀(i:Nat) (y:V),ys[i]?=some y→P D i y Hc)→Hc D=some (.lst ys)→Q (.ref D) Hc):hV wi ρ (fun _ H Q=>Q true H) te σ H Q:=by
 refine eV _ fun J H1 s1 js=>?_;intro D nD;have hD:H D=none:=by
  cases e:H D with
  | none=>rfl
  | some o=>rw [s1 _ _ e] at nD;cases nD
 exact JL (ρσ:=ρ σ) (te:=te) (Q:=Q) js nD hn (P D) (mono D) (fun i x hx Hc R sc=>step D i x hx Hc R (s1.trans sc)) (fun ys Hc sc=>fin D ys Hc hD (s1.trans sc))
section
variable {X:Cx} {K:aK}
theorem JP(hK:X.K=K:=by rfl):x9 X (Jl K):=by subst hK;exact dv
def RU(K:aK):List V→Hp→VK→Prop:=fun xs H Q=>∃p ys,xs=[.ref p]∧(bz K H p ys∨dG K H p ys)∧Q (.int (ys.length:Int)) H
theorem Es(hK:X.K=K:=by rfl):eQ X (.builtin "len") (RU K):=by subst hK;exact jN
end
end L2
namespace My
open PySem L2
variable {te:TE} {σ:St} {H:Hp}
theorem rA{r:List V→Hp→VK→Prop}{Q:VK}(h:te σ H fun x H1=>r [x] H1 Q):uN r (uL te Ax) σ H Q:=h
theorem uU{D:Ends}(h:te σ H D.rt):Iw te D σ H:=h
variable {α:Type}
theorem pick{β:Type}{xs:List α}{R:Nat→α→β→Prop}(h:∀(i:Nat) (x:α),xs[i]?=some x→∃w,R i x w):∃ws:List β,ws.length=xs.length∧∀(i:Nat) (x:α) (w:β),xs[i]?=some x→ws[i]?=some w→R i x w:=by
 refine ⟨List.ofFn fun i:Fin xs.length=>Classical.choose (h i.1 xs[i.1] (by simp)),by simp,fun i x w hx hw=>?_⟩
 have hi:i<xs.length:=(bx.mp hx).1;have ex:xs[i]=x:=(bx.mp hx).2;rw [List.getElem?_ofFn,dif_pos hi] at hw;have hw:=Option.some.inj hw;rw [←hw];have z:=Dn (h i xs[i] (by simp [hi]))
 rw [←ex];exact z
theorem RV{vs:List V}{b:Bool}(h:∀(i:Nat) (v:V),vs[i]?=some v→v=.bl b):vs=(List.replicate vs.length b).map V.bl:=by
 refine List.ext_getElem? fun i=>?_;rw [bP];by_cases hi:i<vs.length
 ·rw [show vs[i]?=some vs[i] by simp [hi],h i vs[i] (by simp [hi])]
  simp [hi]
 ·rw [List.getElem?_eq_none (by lia),List.getElem?_eq_none (by simp;lia)]
  rfl
theorem RW(n:Nat):(List.replicate n true).all id=true:=by simp
variable {H':Hp} {b:Addr}
theorem none_of(s:ao H H')(h:H' b=none):H b=none:=by
 cases e:H b with
 | none=>rfl
 | some o=>rw [s _ _ e] at h;cases h
theorem getD_at{α:Type}{xs:List α}{d:α}{i:Nat}(hi:i<xs.length):xs.getD i d=xs[i]:=by
 rw [eN,show xs[i]?=some xs[i] by simp [hi]]
 rfl
def er(P:Addr)(H:Hp):Hp:=fun b=>if b=P then none else H b
variable {P:Addr}
theorem AS:ao (er P H) H:=fun b o e=>by
 unfold er at e
 split at e
 ·cases e
 ·exact e
theorem fk(h:b≠P):er P H b=H b:=aa h
variable {o:HO}
theorem uV(h:b≠P)(e:H b=some o):er P H b=some o:=by rw [fk h];exact e
theorem AU(s:ao H H'):ao (er P H) (er P H'):=fun b o e=>by
 unfold er at e ⊢
 split at e
 ·cases e
 ·rename_i h
  rw [aa h];exact s _ _ e
theorem JQ:er P (upd H P o)=er P H:=funext fun b=>by
 unfold er
 split
 ·rfl
 ·rename_i h
  exact aM h
def bt(H:Hp)(P a:Addr):Prop:=∃x y:Int,H P=some (.lst [.ref a,.int x,.int y])∧0≤x∧0≤y
variable {a:Addr}
theorem bt.mono(h:bt H P a)(s:ao H H'):bt H' P a:=by obtain ⟨x,y,e,h1,h2⟩:=h;exact ⟨x,y,s _ _ e,h1,h2⟩
variable {D:Addr}
theorem bt.upd(h:bt H P a)(n:D≠P):bt (L2.upd H D o) P a:=by obtain ⟨x,y,e,h1,h2⟩:=h;exact ⟨x,y,by rw [aM n.symm];exact e,h1,h2⟩
theorem bt.ne(h:bt H P a)(n:H D=none):D≠P:=fun z=>by obtain ⟨x,y,e,_⟩:=h;rw [z,e] at n;cases n
def aU(P:Addr)(H H':Hp):Prop:=ao (er P H) (er P H')
theorem aU.refl(H:Hp):aU P H H:=ao.refl _
theorem aU.trans{H2:Hp}(s:aU P H H')(t:aU P H' H2):aU P H H2:=ao.trans s t
theorem aU.of(s:ao H H'):aU P H H':=AU s
theorem aU.bu:aU P H (upd H P o):=by unfold aU;rw [JQ];exact ao.refl _
theorem aU.but(s:aU P H H')(n:H D=none):aU P H (upd H' D o):=fun b u e=>by
 have e0:=s b u e;have nb:b≠P:=fun z=>by unfold er at e;rw [aj z] at e;cases e
 rw [fk nb] at e e0 ⊢;rw [aM (mQ e n)];exact e0
theorem aU.at(s:aU P H H')(nb:b≠P)(e:H b=some o):H' b=some o:=by have z:=s b o (uV nb e);rw [fk nb] at z;exact z
end My
namespace L2
open PySem PySem.Spec PyProof.Rows
end L2
namespace My
open PySem L2
def RX:Sp:=fun vs H Q _=>∃c a:Int,vs=[.int c,.int a]∧0≤a∧∀r:Int,0≤r→Q (.int r) H
def RY(K:aK):Sp:=fun vs H Q _=>∃(P a:Addr) (ns:List Int) (many:Int),vs=[.ref P,.int many]∧bt H P a∧bz K (er P H) a (ns.map V.int)∧1≤many∧gv many∧∀(r:Int) (H':Hp),0≤r→r<many→aU P H H'→bt H' P a→Q (.int r) H'
end My
namespace L2
open PySem PySem.Spec PyProof.Rows
end L2
namespace My
open PySem L2
end My
namespace L2
open PySem PySem.Spec PyProof.Rows
def yo(K:aK)(l:Addr):It:=
  ⟨fun i H=>∃xs x,bz K H l xs∧xs[i]?=some x,
   fun i H v H'=>∃T x,H T=none∧v=.ref T∧H'=upd H T (.tup [.int (i:Int),x])∧∀xs,bz K H l xs→xs[i]?=some x,
   fun i H=>∃xs,bz K H l xs∧xs.length≤i⟩
variable {K:aK} {l:Addr}
theorem RZ{P:Program}{w:World}{elts:List Expr}{k:Nat}{pos:Pos}{e it:Addr}(JR:e≠it):Turn P w K (.Tuple elts k pos) (yo K l) [e,it] e
  (fun i h=>(∃old,IsEnum h e it (i:Int) old)∧h.IsListIter it l i) where
 mem:=by simp
 obj:=fun i h st b hb=>by
  obtain ⟨⟨old,he⟩,h1⟩:=st;simp only [bU,qy,or_false] at hb;rcases hb with rfl | rfl;·exact ⟨_,he,fun v z=>by cases z⟩
  ·obtain ⟨o,e,c,d⟩:=h1
   exact ⟨o,e,fun v z=>by rw [d] at z;cases z⟩
 keep:=fun i h h' st k=>by obtain ⟨⟨old,he⟩,h1⟩:=st;exact ⟨⟨old,k _ (by simp) _ he⟩,h1.at fun o e=>k _ (by simp) o e⟩
 item:=by
  intro X hP hw hK hc i pins s σ H E I hf st hg;subst hP hw hK;obtain ⟨⟨old,he⟩,h1⟩:=st;obtain ⟨xs,x,uW,hx⟩:=hg;obtain ⟨ak,rv,p,_⟩:=I.list uW;obtain ⟨u,hu,ru⟩:=rv.get hx;refine wpAny_pyNext_enum_item he h1 p.isList (x:=u) (by simpa using hu) JR fun h' g1 g2 g3 g4 g5=>⟨_,rfl,?_⟩
  refine wpAny_letOwnedTupleGo_enum g1 fun AV q1 sb=>?_;have JS:H s.heap.objs.size=none:=I.ay.fresh (aC _);have lt:∀b o,s.heap.get? b=some o→b≠s.heap.objs.size:=fun b o e=>bM (aZ e);have keep:∀b o,b∉[e,it]→s.heap.get? b=some o→AV.get? b=some o:=fun b o nb e=>by simp only [bU,qy,or_false,not_or] at nb;exact sb.extBut _ _ nb.1 (g5 b o nb.1 nb.2 e)
  have elt:e≠s.heap.objs.size:=lt _ _ he;have pT:=sb.extBut _ _ elt.symm g3;have yp:∀{b:Addr} {o:HO} (e:H b=some o),upd H s.heap.objs.size (.tup [.int (i:Int),x]) b=some o:=fun e=>by rw [aM (mQ e JS)];exact e
  have ay:cC X.prog X.w (upd H s.heap.objs.size (.tup [.int (i:Int),x])) AV:=fun b o e=>by
   by_cases hb:b=s.heap.objs.size
   ·subst hb
    rw [au] at e;cases e;exact ⟨by show 2≤sizeLine;decide,[.int i s.toks,u],.cons ⟨_,rfl⟩ (.cons ru .nil),⟨_,pT,rfl,_,rfl⟩⟩
   ·rw [aM hb] at e
    refine (I.ay b o e).j_ (fun c v i7 q=>keep c v (fun m=>?_) q) (fun c q=>yp q) fun c xs q=>yp q;have nn:=(hf c m).1;rcases i7 with rfl | i7;·rw [nn] at e;cases e
    ·rw [nn] at i7;cases i7
  have u1:Un (cR X.stack) [e,it] H (upd H s.heap.objs.size (.tup [.int (i:Int),x])) s.heap AV:=
   ⟨fun b o e n _ hx=>keep b o hx e,fun b o e n _ hx=>⟨o.slots,keep b o hx e⟩,fun b o e n hx=>by rw [aM (lt b o e)];exact n,fun b o e hx=>⟨o,keep b o hx e⟩,fun b xs e=>yp e,fun b o u e=>yp e,fun b ps e=>⟨#[],by rw [yp e];simp⟩⟩
  refine ⟨.ref s.heap.objs.size,upd H s.heap.objs.size (.tup [.int (i:Int),x]),I.pE (s':={s with heap:=AV,toks:=s.toks+1}) (ch:=[e,it]) rfl u1 ay I.bare (fun b hb=>?_),rfl,⟨_,x,JS,rfl,rfl,fun as ha=>by rw [I.Iv ha uW];exact hx⟩,?_,fun b hb=>?_⟩
  ·obtain ⟨f0,f1,f2,f3,f4,f5⟩:=hf b hb
   exact ⟨f3,f1,f4,f5⟩
  ·refine ⟨⟨u,?_⟩,g2.extBut sb.extBut JR.symm⟩
   have z:((i+1:Nat):Int)=(i:Int)+1:=by lia
   rw [z];exact q1
  ·have nb:b≠s.heap.objs.size:=by
    simp only [bU,qy,or_false] at hb;rcases hb with rfl | rfl;·exact lt _ _ he
    ·obtain ⟨o,e,_⟩:=h1;exact lt _ _ e
   rw [aM nb];exact (hf b hb).1
 done:=by
  intro X hP hw hK hc i pins s σ H E I hf st hg;subst hP hw hK;obtain ⟨⟨old,he⟩,h1⟩:=st;obtain ⟨xs,uW,hx⟩:=hg;obtain ⟨ak,rv,p,_⟩:=I.list uW;have hl:=rv.length;refine wpAny_pyNext_enum_end (I.ok.hd hc) he h1 p.isList (by simp;lia) fun h' g=>⟨rfl,?_⟩
  have keep:∀b o,b∉[e,it]→s.heap.get? b=some o→h'.get? b=some o:=fun b o nb e=>by simp only [bU,qy,or_false,not_or] at nb;exact g b o nb.2 e
  have ay:cC X.prog X.w H h':=fun b o e=>by
   refine (I.ay b o e).j_ (fun c v i7 q=>keep c v (fun m=>?_) q) (fun c q=>q) fun c xs q=>q;have nn:=(hf c m).1;rcases i7 with rfl | i7;·rw [nn] at e;cases e
   ·rw [nn] at i7;cases i7
  have u1:Un (cR X.stack) [e,it] H H s.heap h':=
   ⟨fun b o e n _ hx=>keep b o hx e,fun b o e n _ hx=>⟨o.slots,keep b o hx e⟩,fun b o e n hx=>n,fun b o e hx=>⟨o,keep b o hx e⟩,fun b xs e=>e,fun b o u e=>e,fun b ps e=>⟨#[],by rw [e];simp⟩⟩
  refine I.pE (s':={s with heap:=h'}) (ch:=[e,it]) rfl u1 ay I.bare fun b hb=>?_;obtain ⟨f0,f1,f2,f3,f4,f5⟩:=hf b hb;exact ⟨f3,f1,f4,f5⟩
 self:=fun _ _ _ _ _ st h=>by obtain ⟨⟨old,he⟩,_⟩:=st;exact wpAny_pyIter_enum he h
theorem boot_enumerate:bootBuiltins "enumerate"=some (.type "enumerate"):=by decide +kernel
def R0(K:aK)(ta:TA):TI:=fun σ H R=>ta σ H fun vs H1=>∃l,vs=[.ref l]∧(∃xs,bz K H1 l xs)∧R (yo K l) H1
section
variable {X:Cx}
theorem R1{elts:List Expr}{k:Nat}{Aw:Pos}{a:Expr}{ta:TA}{p pos:Pos}(hg:Gl X "enumerate")(hm:X.mg "enumerate"=none)(ha:PA X [a] ta)(hs:starEach [a] X.env=[(false,eval a X.env)]:=by rfl) :
  PI X (.Tuple elts k Aw) (.Call (.Name "enumerate" p) [a] [] pos) (R0 X.K ta):=by
 intro pins s σ H R I h;refine Call_ (lJ I hg hm boot_enumerate (xp (aN (ha pos pins s σ H _ I h) fun us s1 ⟨vs,H1,I1,r1,q1⟩=>?_) hs rfl));obtain ⟨l,e,⟨xs,uW⟩,q⟩:=q1;subst e;obtain ⟨u,rfl,ru⟩:=vals1 r1;cases ru;obtain ⟨ak,rv,p1,_⟩:=I1.list uW;refine call_enumerate_list p1.isList fun h' z1 z2 z3 z4=>?_;refine wpAny_pyIter_enum (s:={s1 with heap:=h'}) z1 ?_;refine ⟨_,_,_,_,H1,rfl,I1.kept (t':=s1.toks) z4,RZ (Nat.succ_ne_self _),⟨⟨_,z1⟩,z2⟩,fun b hb=>?_,q⟩;have le:s1.heap.objs.size≤b:=by
  simp only [bU,qy,or_false] at hb;rcases hb with rfl | rfl;·exact Nat.le_add_right ..
  ·exact aC _
 exact I1.qR le (I1.ay.fresh le)
end
theorem R3{xs:List V}{g:TG}{tb:TS}{D:Ends}{σ:St}{H:Hp}(Pv:Nat→St→Hp→Prop)(h0:Pv 0 σ H)(hl:∀i σ H,Pv i σ H→bz K H l xs)
  (hs:∀(i:Nat) (x:V) σ H T,xs[i]?=some x→Pv i σ H→H T=none→g (.ref T) σ (upd H T (.tup [.int (i:Int),x])) fun σ2 H2=>tb {D with nx:=Pv (i+1),ct:=Pv (i+1),bk:=D.nx} σ2 H2) (hd:∀σ H,Pv xs.length σ H→D.nx σ H) :
  ∃W:Nat→Nat→St→Hp→Prop,(∃m,W 0 m σ H)∧∀i m σ H,W i m σ H→
   ((yo K l).stop i H∧D.nx σ H)∨((yo K l).go i H∧∃N:St→Hp→Prop,(∀σ' H',N σ' H'→∃m',m'<m∧W (i+1) m' σ' H')∧∀x H',(yo K l).df i H x H'→g x σ H' fun σ2 H2=>tb {D with nx:=N,ct:=N,bk:=D.nx} σ2 H2):=by
 refine ⟨fun i m σ H=>m=xs.length-i∧i≤xs.length∧Pv i σ H,⟨xs.length,by simp,bG _,h0⟩,?_⟩
 rintro i m σ H ⟨rfl,hi,p⟩;have q1:=hl i σ H p;by_cases aT:i<xs.length
 ·refine .inr ⟨⟨xs,xs[i],q1,by simp [aT]⟩,Pv (i+1),fun σ' H' p'=>⟨xs.length-(i+1),by lia,rfl,aT,p'⟩,fun v H' hy=>?_⟩
  obtain ⟨T,x,nT,rfl,rfl,hx⟩:=hy;exact hs i x σ H T (hx xs q1) p nT
 ·have e:i=xs.length:=by lia
  subst e;exact .inl ⟨⟨xs,q1,aC _⟩,hd σ H p⟩
end L2
namespace My
open PySem L2
end My
namespace L2
open PySem PySem.Spec PyProof.Rows
section
variable {X:Cx} {tg:Expr}
def yq(lo:Int)(n:Nat):It:=⟨fun i _=>i<n,fun i H x H'=>H'=H∧x=.int (lo-i),fun i _=>n≤i⟩
theorem R4{P:Program}{w:World}{K:aK}(it:Addr)(lo:Int)(n:Nat):Turn P w K tg (yq lo n) [it] it (fun i h=>IsRangeIter h it (lo+(i:Nat)*(-1)) ((n:Int)-(i:Nat)) (-1)) where
 mem:=by simp
 obj:=fun i h st b hb=>by
  have e:b=it:=by simpa using hb
  subst e;exact ⟨_,st,fun v z=>by have z':Data.fields _=Data.cell v:=z;cases z'⟩
 keep:=fun i h h' st k=>k it (by simp) _ st
 item:=by
  intro X hP hw hK hc i pins s σ H E I hf st hg;subst hP hw hK;obtain ⟨f0,f1,f2,f3,f4,f5⟩:=hf it (by simp)
  have W:=Walks.range (prog:=X.prog) (w:=X.w) (I.ok.hd hc) it lo (-1) n;refine W.item i s _ _ hg st fun v h' tk hv ax kk=>?_;obtain ⟨t,rfl⟩:=hv;have I1:Inv X pins σ H {s with heap:=h',toks:=tk}:=I.turned (fun b o hb e=>kk b o (by simpa using hb) e) f0 f1 f3 f4 f5
  refine ⟨_,rfl,uI (s:={s with heap:=h',toks:=tk}) (n:="range_iterator") ax rfl rfl (by decide) ⟨.int (lo-i),H,I1,⟨t,?_⟩,⟨rfl,rfl⟩,ax,fun b hb=>(hf b hb).1⟩⟩
  rw [show lo+(i:Int)*(-1)=lo-i by lia]
 done:=by
  intro X hP hw hK hc i pins s σ H E I hf st hg;subst hP hw hK;obtain ⟨f0,f1,f2,f3,f4,f5⟩:=hf it (by simp)
  exact wpAny_pyNext_range_end (I.ok.hd hc) st (by have:n≤i:=hg;lia) fun h' eb=>⟨rfl,I.turned (t':=s.toks) (fun b o hb e=>eb b o hb e) f0 f1 f3 f4 f5⟩
 self:=fun _ _ _ _ _ st h=>C_ st h
theorem R5{lo:Int}{n:Nat}{g:TG}{tb:TS}{D:Ends}{σ:St}{H:Hp}(Pv:Nat→St→Hp→Prop)(h0:Pv 0 σ H)
  (hs:∀i σ H,i<n→Pv i σ H→g (.int (lo-i)) σ H fun σ2 H2=>tb {D with nx:=Pv (i+1),ct:=Pv (i+1),bk:=D.nx} σ2 H2) (hd:∀σ H,Pv n σ H→D.nx σ H) :
  ∃W:Nat→Nat→St→Hp→Prop,(∃m,W 0 m σ H)∧∀i m σ H,W i m σ H→
   ((yq lo n).stop i H∧D.nx σ H)∨((yq lo n).go i H∧∃N:St→Hp→Prop,(∀σ' H',N σ' H'→∃m',m'<m∧W (i+1) m' σ' H')∧∀x H',(yq lo n).df i H x H'→g x σ H' fun σ2 H2=>tb {D with nx:=N,ct:=N,bk:=D.nx} σ2 H2):=by
 refine ⟨fun i m σ H=>m=n-i∧i≤n∧Pv i σ H,⟨n,by simp,bG _,h0⟩,?_⟩
 rintro i m σ H ⟨rfl,hi,p⟩;by_cases aT:i<n
 ·refine .inr ⟨aT,Pv (i+1),fun σ' H' p'=>⟨n-(i+1),by lia,rfl,aT,p'⟩,fun x H' y=>?_⟩
  obtain ⟨e,y⟩:=y;subst e y;exact hs i σ _ aT p
 ·have e:i=n:=by lia
  subst e;exact .inl ⟨aC _,hd σ H p⟩
end
end L2
namespace My
open PySem L2
end My
namespace L2
open PySem PySem.Spec PyProof.Rows
def R6(K:aK):R2:=fun x y H Q=>∃(a b:Addr) (xs ys:List Int),x=.ref a∧y=.ref b∧bz K H a (xs.map V.int)∧bz K H b (ys.map V.int)∧Q (.bl (!decide (xs=ys))) H
theorem JT{xs ys:List Int}(h:xs.length=ys.length):((List.range xs.length).all fun j=>iF (.int (xs.getD j 0)) (.int (ys.getD j 0)))=decide (xs=ys):=by
 by_cases e:xs=ys
 ·subst e
  rw [bV rfl,iY];intro j _;exact JO rfl
 ·rw [b3 e]
  cases z:((List.range xs.length).all fun j=>iF (.int (xs.getD j 0)) (.int (ys.getD j 0))) with
  | false=>rfl
  | true=>refine absurd (g7 h fun j h1 h2=>?_) e;have:=iY.mp z j (cu.mpr h1);have this:(xs.getD j 0 == ys.getD j 0)=true:=this;rw [beq_iff_eq,eN,eN] at this;simpa [h1,h2] using this
theorem R7{X:Cx}(hu:X.A.units+64<cLine):cU X (compareOp .NotEq) (R6 X.K):=by
 intro pins s σ H x y v u Q I rx ry h;obtain ⟨a,b,xs,ys,rfl,rfl,h1,h2,q⟩:=h;cases rx;cases ry;obtain ⟨us,r1,t1,_⟩:=I.list h1;obtain ⟨vs,r2,t2,_⟩:=I.list h2;have l1:=r1.length;have l2:=r2.length;rw [aG] at l1 l2;by_cases hl:xs.length=ys.length
 ·refine SeqAt.RcNeAt.lists (e:=fun j=>iF (.int (xs.getD j 0)) (.int (ys.getD j 0))) t1.isList t2.isList (by simp;lia) (by lia) (fun j z1 z2=>?_) _ _ _ _ ?_
  ·have yr:j<us.length:=by simpa using z1
   have R8:j<vs.length:=by simpa using z2
   have ex:(xs.map V.int)[j]?=some (.int (xs.getD j 0)):=by rw [bP,eN];simp [show j<xs.length by lia]
   have ey:(ys.map V.int)[j]?=some (.int (ys.getD j 0)):=by rw [bP,eN];simp [show j<ys.length by lia]
   obtain ⟨x',xU,rx⟩:=r1.get ex;obtain ⟨y',Et,ry⟩:=r2.get ey;have e1:us.toArray[j]=x':=by simpa using (bx.mp xU).2
   have e2:vs.toArray[j]=y':=by simpa using (bx.mp Et).2
   rw [e1,e2];exact AA rx ry rfl rfl
  ·rw [show us.toArray.size=xs.length by simp;lia,JT hl]
   exact ⟨.bl (!decide (xs=ys)),H,I,rfl,q⟩
 ·rw [b3 (fun e=>hl (by rw [e]))] at q
  refine SeqAt.RcNeAt.lists_lengths t1.isList t2.isList ?_ (by lia) _ _ _ _ ⟨.bl true,H,I,rfl,q⟩
  simp;lia
end L2
namespace My
open PySem L2
end My
namespace L2
open PySem PySem.Spec PyProof.Rows
end L2
namespace My
open PySem L2
end My
namespace L2
open PySem PySem.Spec PyProof.Rows
section
variable {X:Cx}
end
end L2
namespace My
open PySem L2
end My
namespace L2
open PySem PySem.Spec PyProof.Rows
end L2
namespace My
open PySem L2
theorem Eu{wi:TI}{ρ:St→St}{te:TE}{σ:St}{H:Hp}{Q:VK}{xs:List V}{n:Nat}(hl:xs.length=n)(eV:∀R:It→Hp→Prop,(∀J H1,ao H H1→kB J xs H1→R J H1)→wi σ H R)(hn:n<sizeLine)
  (P:Addr→Nat→Addr→Hp→Prop) (mono:∀D i y H H' ys,P D i y H→y≠D→H D=some (.lst ys)→(∀b o,b≠D→H b=some o→H' b=some o)→P D i y H')
  (step:∀D (i:Nat) (x:V),xs[i]?=some x→∀(Hc:Hp) (R:VK),ao H Hc→(∃ys,Hc D=some (.lst ys))→(∀y H3,ao Hc H3→Hc y=none→(∃o,H3 y=some o)→P D i y H3→R (.ref y) H3)→te (some x::ρ σ) Hc R)
  (fin:∀D (A:Nat→Addr) Hc,H D=none→ao H Hc→(∀i j,i<n→j<n→A i=A j→i=j)→(∀i,i<n→P D i (A i) Hc∧A i≠D)→Hc D=some (.lst ((List.range n).map fun i=>V.ref (A i)))→Q (.ref D) Hc):hV wi ρ (fun _ H Q=>Q true H) te σ H Q:=by
 refine eV _ fun J H1 s1 js=>?_;intro D nD;have hD:H D=none:=by
  cases e:H D with
  | none=>rfl
  | some o=>rw [s1 _ _ e] at nD;cases nD
 refine ⟨fun i m ys Hc=>m=n-i∧i≤n∧Hc D=some (.lst ys)∧ao H1 Hc∧∃A:Nat→Addr,ys=(List.range i).map (fun j=>V.ref (A j))∧(∀a b,a<i→b<i→A a=A b→a=b)∧∀j,j<i→P D j (A j) Hc∧A j≠D∧∃o,Hc (A j)=some o,⟨_,rfl,bG _,au,fG (ao.refl H1) nD,fun _=>D,rfl,(fun a b h=>by lia),fun j h=>by lia⟩,?_⟩
 rintro i m ys Hc ⟨rfl,hi,eD,sH,A,rfl,inj,hA⟩;refine ⟨eD,?_⟩;by_cases aT:i<n
 ·refine .inr ⟨js.go i Hc sH (by lia),fun x H' hy=>?_⟩
  obtain ⟨rfl,hx⟩:=js.df i Hc x H' sH hy;rw [aj rfl];refine step D i x (hx (by lia)) _ _ (s1.trans sH) ⟨_,eD⟩ fun y H3 s3 ny ⟨o,ho⟩ hp=>?_
  have e3:=s3 _ _ eD;have yD:y≠D:=fun e=>by rw [e,eD] at ny;cases ny
  have cO:∀b o,b≠D→H3 b=some o→upd H3 D (.lst ((List.range i).map (fun j=>V.ref (A j))++[.ref y])) b=some o:=fun b o nb e=>by rw [aM nb];exact e
  have nA:∀j,j<i→A j≠y:=fun j hj e=>by obtain ⟨_,_,o',h'⟩:=hA j hj;rw [e,ny] at h';cases h'
  refine ⟨e3,by simp;lia,n-(i+1),by lia,rfl,aT,au,fG (sH.trans s3) nD,fun j=>if j=i then y else A j,?_,fun a b ha hb e=>?_,fun j hj=>?_⟩
  ·rw [z7,fC]
   congr 1
   ·refine g8 fun j hj=>?_
    dsimp only;rw [aa (by have:=cu.mp hj;lia)]
   ·simp
  ·dsimp only at e
   by_cases z1:a=i
   ·by_cases z2:b=i
    ·lia
    ·rw [aj z1,aa z2] at e
     exact absurd e.symm (nA b (by lia))
   ·by_cases z2:b=i
    ·rw [aa z1,aj z2] at e
     exact absurd e (nA a (by lia))
    ·rw [aa z1,aa z2] at e
     exact inj a b (by lia) (by lia) e
  ·dsimp only
   by_cases z:j=i
   ·rw [aj z,z]
    exact ⟨mono D i y H3 _ _ hp yD e3 cO,yD,o,cO _ _ yD ho⟩
   ·rw [aa z]
    obtain ⟨h1,h2,o',h3⟩:=hA j (by lia)
    exact ⟨mono D j (A j) H' _ _ h1 h2 eD (fun b o nb e=>cO b o nb (s3 _ _ e)),h2,o',cO _ _ h2 (s3 _ _ h3)⟩
 ·have e:i=n:=by lia
  subst e;exact .inl ⟨js.stop _ Hc sH (by lia),fin D A Hc hD (s1.trans sH) inj (fun j hj=>⟨(hA j hj).1,(hA j hj).2.1⟩) eD⟩
open PySem PySem.W PyProof.Rows
section
variable {n:Nat} {c:Nat→Int}
def oz(n:Nat)(p:Array Nat):Prop:=p.Perm (List.toArray (List.range n))
theorem oz.size{p:Array Nat}(h:oz n p):p.size=n:=by rw [Array.Perm.size_eq h];simp
def vN(c:Nat→Int)(p:Array Nat)(i:Nat):Int:=c (p.getD i 0)
def rB(c:Nat→Int)(p:Array Nat)(k:Nat):Prop:=∀a b,a≤b→b<k→vN c p a≤vN c p b
end
end My
namespace Tm
open PySem PySem.W PyProof.Rows
def pQ:Bool→Keyed→Array Keyed→Nat→Nat→Nat→StateT SortSt Sem (Option Nat):=sortPriv% PySem.Builtin.gallop
def yt:Nat→StateT SortSt Sem Unit:=sortPriv% PySem.Builtin.setMinGallop
def Ew:Array Keyed→Array Keyed→StateT SortSt Sem (Array Keyed):=sortPriv% PySem.Builtin.mergeLo
def Ex:Array Keyed→Array Keyed→StateT SortSt Sem (Array Keyed):=sortPriv% PySem.Builtin.mergeHi
def rD(left:Bool)(key:Keyed)(arr:Array Keyed)(base i:Nat):StateT SortSt Sem (Option Bool):=do
 let x ←elem' arr (base+i)
 if left then lt' x key else return (←lt' key x).map (!·)
theorem R9(left:Bool)(key:Keyed)(arr:Array Keyed)(base n hint:Nat):pQ left key arr base n hint=(do
 let mut AW:=0
 let mut bH:=1
 let mut lo:=0
 let mut hi:=0
 let some right ←rD left key arr base hint | return none
 if right then
  let yu:=n-hint
  for _ in [0:n] do
   if bH≥yu then break
   let some more ←rD left key arr base (hint+bH) | return none
   if !more then break
   AW:=bH
   bH:=2*bH+1
  lo:=hint+AW+1
  hi:=hint+min bH yu
 else
  let yu:=hint+1
  for _ in [0:n] do
   if bH≥yu then break
   let some found ←rD left key arr base (hint-bH) | return none
   if found then break
   AW:=bH
   bH:=2*bH+1
  lo:=hint+1-min bH yu
  hi:=hint-AW
 for _ in [0:n] do
  if lo≥hi then break
  let m:=lo+(hi-lo) / 2
  let some more ←rD left key arr base m | return none
  if more then lo:=m+1 else hi:=m
 return some hi):=rfl
section
variable {prog:Program} {w:World} {A:Around} {E:aJ} {s:Shared} {κ:SortKind} {key:Keyed→Int} {Ok:Keyed→Prop}
def jO(prog:Program)(w:World)(A:Around)(s:Shared)(κ:SortKind)(key:Keyed→Int)(Ok:Keyed→Prop):Prop:=
 ∀x y,Ok x→Ok y→∀C:Bool→Shared→Prop,C (decide (key x<key y)) s→wpAny (model prog w) A (keyLt' κ x.1 y.1) C (fun _ _=>False) s
variable {st:SortSt} {Q:Option Bool→SortSt→Prop}
theorem yv(h:jO prog w A s κ key Ok){x y:Keyed}(ox:Ok x)(oy:Ok y)(hk:kindOf st=κ)(q:Q (some (decide (key x<key y))) st):wpS (model prog w) A E s (lt' x y) Q st:=by rw [lt'_eq];refine aw (jA ?_);rw [hk];refine aw (wpS_lift (xA (bJ (h x y ox oy (fun c s'=>s'=s∧wpS (model prog w) A E s (pure (some c)) Q st) ⟨rfl,av q⟩) (fun c s' hc=>?_) fun _ _ hF=>hF.elim)));exact hc
def nn:Keyed:=(Value.none,Value.none)
variable {arr:Array Keyed} {i:Nat}
theorem bI(hi:i<arr.size){Q:Keyed→SortSt→Prop}(q:Q (arr.getD i nn) st):wpS (model prog w) A E s (elem' arr i) Q st:=by
 rw [elem'_eq];have e:arr[i]?=some (arr.getD i nn):=by simp [Array.getD,hi]
 rw [e];exact av q
def fH(Ok:Keyed→Prop)(arr:Array Keyed):Prop:=∀i,i<arr.size→Ok (arr.getD i nn)
def bB(left:Bool)(k a:Int):Bool:=if left=true then decide (a<k) else !decide (k<a)
variable {left:Bool} {kx:Keyed}
theorem ji(h:jO prog w A s κ key Ok){base:Nat}(hi:base+i<arr.size)(ha:fH Ok arr)(ox:Ok kx)(hk:kindOf st=κ)(q:Q (some (bB left (key kx) (key (arr.getD (base+i) nn)))) st):wpS (model prog w) A E s (rD left kx arr base i) Q st:=by
 unfold rD;refine aw (bI hi ?_);unfold bB at q;cases left with
 | true=>rw [aj rfl] at q ⊢;exact yv h (ha _ hi) ox hk q
 | false=>
  rw [aa (by simp)] at q ⊢
  exact aw (yv h ox (ha _ hi) hk (av q))
theorem jj{base n hint:Nat}{f:Nat→Bool}
  (hb:∀i,i<n→∀Q:Option Bool→SortSt→Prop,Q (some (f i)) st→wpS (model prog w) A E s (rD left kx arr base i) Q st)
  (hh:hint<n) (mono:∀i j,i≤j→j<n→f j=true→f i=true) {Q:Option Nat→SortSt→Prop}
  (k:∀m,m≤n→(∀i,i<m→f i=true)→(∀i,m≤i→i<n→f i=false)→Q (some m) st):wpS (model prog w) A E s (pQ left kx arr base n hint) Q st:=by
 rw [R9];refine aw (hb hint hh _ ?_);dsimp only;have Ey:∀i j,i≤j→j<n→f i=false→f j=false:=fun i j h1 h2 h3=>by
  cases e:f j with
  | false=>rfl
  | true=>rw [mono i j h1 h2 e] at h3;cases h3
 have bs:∀(lo hi:Nat) (body:Nat→Option (Option Nat)×Nat×Nat→StateT SortSt Sem (ForInStep (Option (Option Nat)×Nat×Nat))) (R:Option (Option Nat)×Nat×Nat→SortSt→Prop),lo≤hi→hi≤n→(∀i,i<lo→f i=true)→(∀i,hi≤i→i<n→f i=false)→
   (∀x lo hi (R:ForInStep (Option (Option Nat)×Nat×Nat)→SortSt→Prop),lo≥hi→R (.done (none,lo,hi)) st→wpS (model prog w) A E s (body x (none,lo,hi)) R st)→
   (∀x lo hi (R:ForInStep (Option (Option Nat)×Nat×Nat)→SortSt→Prop),lo<hi→hi≤n→R (.yield (if f (lo+(hi-lo) / 2)=true then (none,lo+(hi-lo) / 2+1,hi) else (none,lo,lo+(hi-lo) / 2))) st→wpS (model prog w) A E s (body x (none,lo,hi)) R st)→
   (∀m,m≤n→(∀i,i<m→f i=true)→(∀i,m≤i→i<n→f i=false)→R (none,m,m) st)→
   wpS (model prog w) A E s (forIn [0:n] (none,lo,hi) body) R st:=fun lo hi body R h1 h2 h3 h4 b1 b2 kk=>by
  refine gm (I:=fun x c ax=>ax=st∧∃lo hi,c=(none,lo,hi)∧lo≤hi∧hi≤n∧hi-lo+x≤n∧(∀i,i<lo→f i=true)∧(∀i,hi≤i→i<n→f i=false)) ?_ ?_ ⟨rfl,lo,hi,rfl,h1,h2,by lia,h3,h4⟩
  ·rintro x c ax _ hx ⟨rfl,lo,hi,rfl,g1,g2,g3,g4,g5⟩
   by_cases z:lo≥hi
   ·refine b1 x lo hi _ z ?_
    obtain rfl:lo=hi:=by lia
    exact kk lo g2 g4 g5
   ·refine b2 x lo hi _ (by lia) g2 ?_
    cases e:f (lo+(hi-lo) / 2) with
    | true=>rw [aj rfl];exact ⟨rfl,_,_,rfl,by lia,g2,by lia,fun i a_=>mono i (lo+(hi-lo) / 2) (by lia) (by lia) e,g5⟩
    | false=>
     rw [aa (by simp)]
     exact ⟨rfl,_,_,rfl,by lia,by lia,by lia,g4,fun i h1 h2=>Ey (lo+(hi-lo) / 2) i h1 h2 e⟩
  ·rintro c ax ⟨rfl,lo,hi,rfl,g1,g2,g3,g4,g5⟩
   have:lo=hi:=by
    have:max 0 n=n:=by lia
    lia
   subst this;exact kk lo g2 g4 g5
 cases e:f hint with
 | true=>
  rw [aj rfl]
  refine aw (gH (gm (I:=fun x c ax=>ax=st∧∃la bH,c=(none,la,bH)∧x+1≤bH∧la<bH∧la<n-hint∧f (hint+la)=true)
   (Q:=fun c ax=>ax=st∧∃la bH,c=(none,la,bH)∧la<bH∧la<n-hint∧f (hint+la)=true∧(bH≥n-hint∨f (hint+bH)=false)) ?_ ?_ ⟨rfl,0,1,rfl,aC _,by lia,by lia,by simpa using e⟩) ?_)
  ·rintro x c ax _ hx ⟨rfl,la,bH,rfl,g1,g2,g3,g4⟩
   dsimp only;by_cases z:bH≥n-hint
   ·rw [aj z]
    exact av ⟨rfl,la,bH,rfl,g2,g3,g4,.inl z⟩
   ·rw [aa z]
    refine aw (hb _ (by lia) _ ?_)
    dsimp only;cases e':f (hint+bH) with
    | true=>
     rw [aa (by simp)]
     exact av ⟨rfl,_,_,rfl,by lia,by lia,by lia,e'⟩
    | false=>
     rw [aj (by simp)]
     exact av ⟨rfl,la,bH,rfl,g2,g3,g4,.inr e'⟩
  ·rintro c ax ⟨rfl,la,bH,rfl,g1,g2,g3,g4⟩
   have:max 0 n=n:=by lia
   exact ⟨rfl,la,bH,rfl,g2,g3,g4,.inl (by lia)⟩
  ·rintro c ax ⟨rfl,la,bH,rfl,g2,g3,g4,g5⟩
   refine aw (bs (hint+la+1) (hint+min bH (n-hint)) _ _ (by lia) (by lia) (fun i hi=>mono i (hint+la) (by lia) (by lia) g4) (fun i h1 h2=>?_) ?_ ?_ ?_)
   ·rcases g5 with g5 | g5
    ·lia
    ·by_cases z:bH≥n-hint
     ·lia
     ·exact Ey (hint+bH) i (by lia) h2 g5
   ·intro x lo hi R z hR
    dsimp only;rw [aj z];exact av hR
   ·intro x lo hi R z z2 hR
    dsimp only;rw [aa (by lia)]
    refine aw (hb _ (by lia) _ ?_)
    dsimp only;cases e:f (lo+(hi-lo) / 2) with
    | true=>rw [e,aj rfl] at hR;rw [aj rfl];exact av hR
    | false=>
     rw [e,aa (by simp)] at hR
     rw [aa (by simp)]
     exact av hR
   ·exact fun m m1 m2 m3=>av (k m m1 m2 m3)
 | false=>
  rw [aa (by simp)]
  refine aw (gH (gm (I:=fun x c ax=>ax=st∧∃la bH,c=(none,la,bH)∧x+1≤bH∧la<bH∧la≤hint∧f (hint-la)=false)
   (Q:=fun c ax=>ax=st∧∃la bH,c=(none,la,bH)∧la<bH∧la≤hint∧f (hint-la)=false∧(bH≥hint+1∨f (hint-bH)=true)) ?_ ?_ ⟨rfl,0,1,rfl,aC _,by lia,by lia,by simpa using e⟩) ?_)
  ·rintro x c ax _ hx ⟨rfl,la,bH,rfl,g1,g2,g3,g4⟩
   dsimp only;by_cases z:bH≥hint+1
   ·rw [aj z]
    exact av ⟨rfl,la,bH,rfl,g2,g3,g4,.inl z⟩
   ·rw [aa z]
    refine aw (hb _ (by lia) _ ?_)
    dsimp only;cases e':f (hint-bH) with
    | true=>rw [aj rfl];exact av ⟨rfl,la,bH,rfl,g2,g3,g4,.inr e'⟩
    | false=>
     rw [aa (by simp)]
     exact av ⟨rfl,_,_,rfl,by lia,by lia,by lia,e'⟩
  ·rintro c ax ⟨rfl,la,bH,rfl,g1,g2,g3,g4⟩
   have:max 0 n=n:=by lia
   exact ⟨rfl,la,bH,rfl,g2,g3,g4,.inl (by lia)⟩
  ·rintro c ax ⟨rfl,la,bH,rfl,g2,g3,g4,g5⟩
   refine aw (bs (hint+1-min bH (hint+1)) (hint-la) _ _ (by lia) (by lia) (fun i hi=>?_) (fun i h1 h2=>Ey (hint-la) i (by lia) h2 g4) ?_ ?_ ?_)
   ·rcases g5 with g5 | g5
    ·lia
    ·by_cases z:bH≥hint+1
     ·lia
     ·exact mono i (hint-bH) (by lia) (by lia) g5
   ·intro x lo hi R z hR
    dsimp only;rw [aj z];exact av hR
   ·intro x lo hi R z z2 hR
    dsimp only;rw [aa (by lia)]
    refine aw (hb _ (by lia) _ ?_)
    dsimp only;cases e:f (lo+(hi-lo) / 2) with
    | true=>rw [e,aj rfl] at hR;rw [aj rfl];exact av hR
    | false=>
     rw [e,aa (by simp)] at hR
     rw [aa (by simp)]
     exact av hR
   ·exact fun m m1 m2 m3=>av (k m m1 m2 m3)
end
def bE(K:Keyed→Int)(l:List Keyed):Prop:=l.Pairwise fun x y=>K x≤K y
variable {K:Keyed→Int} {l:List Keyed}
theorem bE.take(h:bE K l)(k:Nat):bE K (l.take k):=List.Pairwise.sublist (List.take_sublist k l) h
theorem bE.drop(h:bE K l)(k:Nat):bE K (l.drop k):=List.Pairwise.sublist (List.drop_sublist k l) h
variable {m:List Keyed}
theorem bE.app(h:bE K l)(h':bE K m)(k:∀x∈l,∀y∈m,K x≤K y):bE K (l++m):=xB.mpr ⟨h,h',k⟩
structure MI (K:Keyed→Int) (A B O:List Keyed) (i j:Nat):Prop where
 pm:O.Perm (A.take i++B.take j)
 so:bE K O
 ca:∀x∈O,∀y∈A.drop i,K x≤K y
 cb:∀x∈O,∀y∈B.drop j,K x≤K y
variable {A B O:List Keyed} {i j:Nat}
theorem MI.flip(h:MI K A B O i j):MI K B A O j i:=⟨h.pm.trans xC,h.so,h.cb,h.ca⟩
theorem MI.AX(h:MI K A B O i j)(sA:bE K A)(k:Nat)(hk:∀x∈(A.drop i).take k,∀y∈B.drop j,K x≤K y):MI K A B (O++(A.drop i).take k) (i+k) j:=by
 have e:A.take (i+k)=A.take i++(A.drop i).take k:=List.take_add;have d:A.drop (i+k)=(A.drop i).drop k:=by rw [List.drop_drop]
 have sd:=sA.drop i;have sp:(A.drop i).take k++(A.drop i).drop k=A.drop i:=qz ..;have cr:∀x∈(A.drop i).take k,∀y∈(A.drop i).drop k,K x≤K y:=by have:=sd;rw [←sp] at this;exact (xB.mp this).2.2
 refine ⟨?_,h.so.app (sd.take k) fun x hx y hy=>h.ca x hx y (List.mem_of_mem_take hy),fun x hx y hy=>?_,fun x hx y hy=>?_⟩
 ·rw [e]
  refine (h.pm.append_right _).trans ?_;rw [jz,jz];exact Dp _ xC
 ·rw [d] at hy
  rcases cH.mp hx with hx | hx;·exact h.ca x hx y (List.mem_of_mem_drop hy)
  ·exact cr x hx y hy
 ·rcases cH.mp hx with hx | hx
  ·exact h.cb x hx y hy
  ·exact hk x hx y hy
theorem MI.Ez(h:MI K A B O i j)(sB:bE K B)(k:Nat)(hk:∀x∈(B.drop j).take k,∀y∈A.drop i,K x≤K y):MI K A B (O++(B.drop j).take k) i (j+k):=(h.flip.AX sB k hk).flip
theorem MI.done(h:MI K A B O i j)(sA:bE K A)(sB:bE K B)(k:∀x∈A.drop i,∀y∈B.drop j,K x≤K y):(O++A.drop i++B.drop j).Perm (A++B)∧bE K (O++A.drop i++B.drop j):=by
 refine ⟨?_,(h.so.app (sA.drop i) h.ca).app (sB.drop j) fun x hx y hy=>?_⟩
 ·have e1:A.take i++A.drop i=A:=qz ..
  have e2:B.take j++B.drop j=B:=qz ..;have:(A.take i++B.take j++A.drop i++B.drop j).Perm ((A.take i++A.drop i)++(B.take j++B.drop j)):=by rw [jz,jz,jz];refine Dp _ ?_;rw [←jz,←jz];exact List.Perm.append_right _ xC
  rw [e1,e2] at this;exact ((h.pm.append_right _).append_right _).trans this
 ·rcases cH.mp hx with hx | hx
  ·exact h.cb x hx y hy
  ·exact k x hx y hy
theorem MI.JU(h:MI K A B O i j)(sA:bE K A)(sB:bE K B)(k:∀x∈A.drop i,∀y∈B.drop j,K y≤K x):(O++B.drop j++A.drop i).Perm (A++B)∧bE K (O++B.drop j++A.drop i):=by have:=h.flip.done sB sA fun x hx y hy=>k y hy x hx;exact ⟨this.1.trans xC,this.2⟩
theorem R_(a b:Array Keyed):Ew a b=(do
 rule "list.sort.merge-lo"
 let total:=a.size+b.size
 let done (out:Array Keyed) (ia ib:Nat):=out++a.extract ia a.size++b.extract ib b.size
 let AY (out:Array Keyed) (ia ib:Nat):=out++b.extract ib b.size++a.extract ia a.size
 let mut out:Array Keyed:=#[←elem' b 0]
 let mut ia:=0
 let mut ib:=1
 if ib == b.size then return done out ia ib
 if ia+1 == a.size then return AY out ia ib
 let mut minGallop:=gallopOf (←get)
 for _ in [0:total] do
  let mut jP:=0
  let mut jQ:=0
  for _ in [0:total] do
   let some Sa ←lt' (←elem' b ib) (←elem' a ia) | return done out ia ib
   if Sa then
    out:=out.push (←elem' b ib);ib:=ib+1;jQ:=jQ+1;jP:=0
    if ib == b.size then return done out ia ib
    if jQ≥minGallop then break
   else
    out:=out.push (←elem' a ia);ia:=ia+1;jP:=jP+1;jQ:=0
    if ia+1 == a.size then return AY out ia ib
    if jP≥minGallop then break
  rule "list.sort.gallop"
  minGallop:=minGallop+1
  for _ in [0:total] do
   if minGallop>1 then minGallop:=minGallop-1
   yt minGallop
   let some k ←pQ false (←elem' b ib) a ia (a.size-ia) 0 | return done out ia ib
   jP:=k
   if k>0 then
    out:=out++a.extract ia (ia+k);ia:=ia+k
    if ia+1 == a.size then return AY out ia ib
    if ia == a.size then return done out ia ib
   out:=out.push (←elem' b ib);ib:=ib+1
   if ib == b.size then return done out ia ib
   let some k ←pQ true (←elem' a ia) b ib (b.size-ib) 0 | return done out ia ib
   jQ:=k
   if k>0 then
    out:=out++b.extract ib (ib+k);ib:=ib+k
    if ib == b.size then return done out ia ib
   out:=out.push (←elem' a ia);ia:=ia+1
   if ia+1 == a.size then return AY out ia ib
   if jP<7 && jQ<7 then break
  minGallop:=minGallop+1
  yt minGallop
 unsupported "internal:list.sort.merge-bound"):=rfl
section
variable {prog:Program} {w:World} {A:Around} {E:aJ} {s:Shared} {κ:SortKind} {key:Keyed→Int} {Ok:Keyed→Prop}
def setG(st:SortSt)(g:Nat):SortSt:=SortSt.mk' (kindOf st) (arrOf st) (pendingOf st) g (failedOf st)
variable {a:Array Keyed}
theorem yw(hi:i<a.size):(a.toList.drop i).take 1=[a.getD i nn]:=by
 have hl:i<a.toList.length:=by simpa using hi
 rw [List.drop_eq_getElem_cons hl];simp [Array.getD,hi]
theorem kD(a:Array Keyed)(i j:Nat):(a.extract i j).toList=(a.toList.drop i).take (j-i):=by rw [Array.toList_extract,List.extract_eq_take_drop]
theorem AZ(a:Array Keyed)(i:Nat):(a.extract i a.size).toList=a.toList.drop i:=by rw [kD];refine z8 ?_;simp
variable {x:Keyed}
theorem rE(h:x∈a.toList.drop i):∃j,i≤j∧j<a.size∧x=a.getD j nn:=by
 obtain ⟨j,hj,rfl⟩:=uc h;have dh:i+j<a.size:=by simp at hj;lia
 refine ⟨i+j,by lia,dh,?_⟩
 rw [List.getElem_drop];simp [Array.getD,dh]
theorem EA{k:Nat}(h:x∈(a.toList.drop i).take k):∃j,j<k∧i+j<a.size∧x=a.getD (i+j) nn:=by
 obtain ⟨j,hj,rfl⟩:=uc h;have dh:i+j<a.size∧j<k:=by simp at hj;lia
 refine ⟨j,dh.2,dh.1,?_⟩;rw [List.getElem_take,List.getElem_drop];simp [Array.getD,dh.1]
theorem gx(h:bE key a.toList)(A0:i≤j)(hj:j<a.size):key (a.getD i nn)≤key (a.getD j nn):=by
 have hi:i<a.size:=by lia
 by_cases e:i=j;·subst e;exact lA _
 ·have:=qA.mp h i j (by simpa using hi) (by simpa using hj) (by lia)
  simpa [Array.getD,hi,hj] using this
variable {st:SortSt}
theorem fu{c:Prop}[Decidable c]{α:Type}{m1 m2:StateT SortSt Sem α}{Q:α→SortSt→Prop}(h1:c→wpS (model prog w) A E s m1 Q st)(h2:¬c→wpS (model prog w) A E s m2 Q st):wpS (model prog w) A E s (if c then m1 else m2) Q st:=by
 by_cases h:c;·rw [aj h];exact h1 h
 ·rw [aa h];exact h2 h
theorem uX{g:Nat}{Q:Unit→SortSt→Prop}(q:Q () (setG st g)):wpS (model prog w) A E s (yt g) Q st:=lB q
variable {k:Int}
theorem iM{a:Int}(h:bB true k a=true):a<k:=fP h
theorem jk{a:Int}(h:bB true k a=false):k≤a:=Int.not_lt.mp (of_decide_eq_false h)
theorem m8{a:Int}(h:bB false k a=true):a≤k:=by have:(!decide (k<a))=true:=h;simpa using this
theorem pR{a:Int}(h:bB false k a=false):k<a:=by have:(!decide (k<a))=false:=h;simpa using this
variable {b:Array Keyed} {o:Nat}
theorem pU(sb:bE key b.toList):∀i j,i≤j→j<b.size-o→bB true k (key (b.getD (o+j) nn))=true→bB true k (key (b.getD (o+i) nn))=true:=fun i j h1 h2 h3=>bV (Int.lt_of_le_of_lt (gx sb (by lia) (by lia)) (iM h3))
theorem A1(sb:bE key b.toList):∀i j,i≤j→j<b.size-o→bB false k (key (b.getD (o+j) nn))=true→bB false k (key (b.getD (o+i) nn))=true:=fun i j h1 h2 h3=>by
 have:key (b.getD (o+i) nn)≤k:=dt (gx sb (by lia) (by lia)) (m8 h3)
 show (!decide (k<key (b.getD (o+i) nn)))=true;simpa using this
section
variable {a b:Array Keyed} (sa:bE key a.toList) (sb:bE key b.toList) {out:Array Keyed} {ia ib:Nat}
include sa sb
theorem uY(m:MI key a.toList b.toList out.toList ia ib)(hb:ib<b.size)(k:∀j,ia≤j→j<a.size→key (b.getD ib nn)≤key (a.getD j nn)):MI key a.toList b.toList (out.push (b.getD ib nn)).toList ia (ib+1):=by
 have:=m.Ez sb 1 fun x hx y hy=>by rw [yw hb,bY] at hx;subst hx;obtain ⟨j,h1,h2,rfl⟩:=rE hy;exact k j h1 h2
 rw [yw hb] at this;rw [oY];exact this
theorem oA(m:MI key a.toList b.toList out.toList ia ib)(ha:ia<a.size)(k:∀j,ib≤j→j<b.size→key (a.getD ia nn)≤key (b.getD j nn)):MI key a.toList b.toList (out.push (a.getD ia nn)).toList (ia+1) ib:=by
 have:=m.AX sa 1 fun x hx y hy=>by rw [yw ha,bY] at hx;subst hx;obtain ⟨j,h1,h2,rfl⟩:=rE hy;exact k j h1 h2
 rw [yw ha] at this;rw [oY];exact this
variable {n:Nat}
theorem JV(m:MI key a.toList b.toList out.toList ia ib)(k:∀i j,i<n→ia+i<a.size→ib≤j→j<b.size→key (a.getD (ia+i) nn)≤key (b.getD j nn)):MI key a.toList b.toList (out++a.extract ia (ia+n)).toList (ia+n) ib:=by
 have:=m.AX sa n fun x hx y hy=>by obtain ⟨i,h3,h4,rfl⟩:=EA hx;obtain ⟨j,h1,h2,rfl⟩:=rE hy;exact k i j h3 h4 h1 h2
 rw [mJ,kD,show ia+n-ia=n by lia]
 exact this
theorem A2(m:MI key a.toList b.toList out.toList ia ib)(k:∀i j,i<n→ib+i<b.size→ia≤j→j<a.size→key (b.getD (ib+i) nn)≤key (a.getD j nn)):MI key a.toList b.toList (out++b.extract ib (ib+n)).toList ia (ib+n):=by
 have:=m.Ez sb n fun x hx y hy=>by obtain ⟨i,h3,h4,rfl⟩:=EA hx;obtain ⟨j,h1,h2,rfl⟩:=rE hy;exact k i j h3 h4 h1 h2
 rw [mJ,kD,show ib+n-ib=n by lia]
 exact this
theorem kF(m:MI key a.toList b.toList out.toList ia ib)(e:ib=b.size∨ia=a.size):(out++a.extract ia a.size++b.extract ib b.size).toList.Perm (a.toList++b.toList)∧bE key (out++a.extract ia a.size++b.extract ib b.size).toList:=by rw [mJ,mJ,AZ,AZ];refine m.done sa sb fun x hx y hy=>?_;obtain ⟨i,h1,h2,_⟩:=rE hx;obtain ⟨j,h3,h4,_⟩:=rE hy;lia
theorem kG(m:MI key a.toList b.toList out.toList ia ib)(hl:∀y∈b.toList,key y≤key (a.getD (a.size-1) nn))(e:ia+1=a.size):(out++b.extract ib b.size++a.extract ia a.size).toList.Perm (a.toList++b.toList)∧bE key (out++b.extract ib b.size++a.extract ia a.size).toList:=by
 rw [mJ,mJ,AZ,AZ];refine m.JU sa sb fun x hx y hy=>?_;obtain ⟨i,h1,h2,rfl⟩:=rE hx;have:=hl y (List.mem_of_mem_drop hy);rw [show i=a.size-1 by lia]
 exact this
end
theorem Sb(h:jO prog w A s κ key Ok)(oa:fH Ok a)(ob:fH Ok b)(sa:bE key a.toList)(sb:bE key b.toList)(a1:1≤a.size)(b1:1≤b.size)
  (h0:∀x∈a.toList,key (b.getD 0 nn)≤key x) (hl:∀y∈b.toList,key y≤key (a.getD (a.size-1) nn)) (hk:kindOf st=κ) {Q:Array Keyed→SortSt→Prop}
  (q:∀m g,m.toList.Perm (a.toList++b.toList)→bE key m.toList→Q m (setG st g)):wpS (model prog w) A E s (Ew a b) Q st:=by
 rw [R_];refine aw (wpS_lift (j8 ⟨rfl,?_⟩));refine aw (bI (by lia) ?_)
 dsimp only;have m0:MI key a.toList b.toList (#[b.getD 0 nn]:Array Keyed).toList 0 1:=by
  have:MI key a.toList b.toList (#[]:Array Keyed).toList 0 0:=⟨by simp,List.Pairwise.nil,fun x hx=>by simp at hx,fun x hx=>by simp at hx⟩
  exact uY sa sb this (by lia) fun j _ hj=>h0 _ (by simp [Array.getD,hj])
 have cY:∀g,kindOf (setG st g)=κ:=fun _=>hk;by_cases e1:(1 == b.size)=true
 ·rw [aj e1]
  have:=kF sa sb m0 (.inl (eq_of_beq e1));exact av (q _ (gallopOf st) this.1 this.2)
 rw [aa e1];by_cases e2:(0+1 == a.size)=true
 ·rw [aj e2]
  have:=kG sa sb m0 hl (eq_of_beq e2);exact av (q _ (gallopOf st) this.1 this.2)
 rw [aa e2];have b2:1<b.size:=by
  have:1≠b.size:=fun e=>e1 (by simp [←e])
  lia
 have a2:0+1<a.size:=by
  have:0+1≠a.size:=fun e=>e2 (by simp [←e])
  lia
 refine aw (jA ?_)
 refine aw (gH (gm (I:=fun x c ax=>∃out ia ib mg g,c=(none,out,ia,ib,mg)∧ax=setG st g∧MI key a.toList b.toList out.toList ia ib∧ia+1<a.size∧ib<b.size∧x≤ia+ib)
  (Q:=fun c ax=>∃m g,c.1=some m∧ax=setG st g∧m.toList.Perm (a.toList++b.toList)∧bE key m.toList) ?_ ?_ ⟨_,_,_,_,gallopOf st,rfl,rfl,m0,a2,b2,bG _⟩) ?_)
 ·rintro x c ax _ hx ⟨out,ia,ib,mg,g,rfl,rfl,h_⟩
  have mi:=h_.1;have ha:=h_.2.1;have hb:=h_.2.2.1;have EB:=h_.2.2.2;clear h_;dsimp only
  refine aw (gH (gm (I:=fun y c ax=>∃out ic iO ac bc,c=(none,out,ic,iO,ac,bc)∧ax=setG st g∧MI key a.toList b.toList out.toList ic iO∧ic+1<a.size∧iO<b.size∧ia+ib+y≤ic+iO)
   (Q:=fun c ax=>ax=setG st g∧((∃m,c.1=some m∧m.toList.Perm (a.toList++b.toList)∧bE key m.toList)∨∃out ic iO ac bc,c=(none,out,ic,iO,ac,bc)∧MI key a.toList b.toList out.toList ic iO∧ic+1<a.size∧iO<b.size∧ia+ib+1≤ic+iO)) ?_ ?_ ⟨_,_,_,_,_,rfl,rfl,mi,ha,hb,aC _⟩) ?_)
  ·rintro y c ax _ hy ⟨out,ic,iO,ac,bc,rfl,rfl,ie⟩
   have mi:=ie.1;have ha:=ie.2.1;have hb:=ie.2.2.1;have iP:=ie.2.2.2;clear ie;dsimp only;refine aw (bI hb (aw (bI (by lia) (aw (yv h (ob _ hb) (oa ic (by lia)) (cY _) ?_)))))
   dsimp only;by_cases z:key (b.getD iO nn)<key (a.getD ic nn)
   ·rw [bV z,aj rfl]
    refine aw (bI hb ?_);have iQ:=uY sa sb mi hb fun j h1 h2=>dt (dr z) (gx sa h1 h2);by_cases z1:(iO+1 == b.size)=true
    ·rw [aj z1]
     exact av ⟨rfl,.inl ⟨_,rfl,kF sa sb iQ (.inl (eq_of_beq z1))⟩⟩
    ·rw [aa z1]
     have yr:iO+1≠b.size:=fun e=>z1 (by simp [←e])
     by_cases z2:bc+1≥mg
     ·rw [aj z2]
      exact av ⟨rfl,.inr ⟨_,_,_,_,_,rfl,iQ,ha,by lia,by lia⟩⟩
     ·rw [aa z2]
      exact av ⟨_,_,_,_,_,rfl,rfl,iQ,ha,by lia,by lia⟩
   ·rw [b3 z,aa (by simp)]
    refine aw (bI (by lia) ?_)
    have iQ:=oA sa sb mi (by lia) fun j h1 h2=>dt (Int.not_lt.mp z) (gx sb h1 h2)
    by_cases z1:(ic+1+1 == a.size)=true
    ·rw [aj z1]
     exact av ⟨rfl,.inl ⟨_,rfl,kG sa sb iQ hl (eq_of_beq z1)⟩⟩
    ·rw [aa z1]
     have yr:ic+1+1≠a.size:=fun e=>z1 (by simp [←e])
     by_cases z2:ac+1≥mg
     ·rw [aj z2]
      exact av ⟨rfl,.inr ⟨_,_,_,_,_,rfl,iQ,by lia,hb,by lia⟩⟩
     ·rw [aa z2]
      exact av ⟨_,_,_,_,_,rfl,rfl,iQ,by lia,hb,by lia⟩
  ·rintro c ax ⟨out,ic,iO,ac,bc,rfl,rfl,gy⟩
   have mi:=gy.1;have ha:=gy.2.1;have hb:=gy.2.2.1;have iP:=gy.2.2.2;clear gy;exact ⟨rfl,.inr ⟨_,_,_,_,_,rfl,mi,ha,hb,by lia⟩⟩
  ·rintro c ax ⟨rfl,⟨m,e,pm⟩ | ⟨out,ic,iO,ac,bc,rfl,mi,ha,hb,iP⟩⟩
   ·obtain ⟨c1,c2⟩:=c
    dsimp only at e;subst e;exact av ⟨m,g,rfl,rfl,pm⟩
   ·dsimp only
    refine aw (wpS_lift (j8 ⟨rfl,?_⟩))
    refine aw (gH (gm (I:=fun y c ax=>∃out i j mg ac bc g,c=(none,out,i,j,mg,ac,bc)∧ax=setG st g∧MI key a.toList b.toList out.toList i j∧i+1<a.size∧j<b.size∧x+1≤i+j)
     (Q:=fun c ax=>(∃m g,c.1=some m∧ax=setG st g∧m.toList.Perm (a.toList++b.toList)∧bE key m.toList)∨∃out i j mg ac bc g,c=(none,out,i,j,mg,ac,bc)∧ax=setG st g∧MI key a.toList b.toList out.toList i j∧i+1<a.size∧j<b.size∧x+1≤i+j) ?_ ?_ ⟨_,_,_,_,_,_,g,rfl,rfl,mi,ha,hb,by lia⟩) ?_)
    ·clear mi ha hb iP
     rintro y c ax _ hy ⟨out,ia,ib,mg,ac,bc,g,rfl,rfl,gz⟩;have mi:=gz.1;have ha:=gz.2.1;have hb:=gz.2.2.1;have iP:=gz.2.2.2;clear gz;dsimp only;rcases Nat.lt_or_ge 1 mg with zm | zm
     ·rw [aj zm]
      refine aw (uX ?_);refine aw (bI hb (aw (jj (f:=fun i=>bB false (key (b.getD ib nn)) (key (a.getD (ia+i) nn))) (fun i hi Q q=>ji h (by lia) oa (ob _ hb) (cY _) q) (by lia) (A1 sa) fun k k1 k2 k3=>?_)))
      dsimp only;by_cases zk:k>0
      ·rw [aj zk]
       have iR:=JV sa sb mi (n:=k) fun i j hi a_ hj dh=>dt (m8 (k2 i hi)) (gx sb hj dh);by_cases w1:(ia+k+1 == a.size)=true
       ·rw [aj w1]
        exact av (.inl ⟨_,_,rfl,rfl,kG sa sb iR hl (eq_of_beq w1)⟩)
       ·rw [aa w1]
        have EC:ia+k+1≠a.size:=fun e=>w1 (by simp [←e])
        by_cases w2:(ia+k == a.size)=true
        ·rw [aj w2]
         exact av (.inl ⟨_,_,rfl,rfl,kF sa sb iR (.inr (eq_of_beq w2))⟩)
        ·rw [aa w2]
         have Se:ia+k≠a.size:=fun e=>w2 (by simp [←e])
         refine aw (bI hb ?_);have cP:=uY sa sb iR hb fun j h1 h2=>by have:=pR (k3 (j-ia) (by lia) (by lia));rw [show ia+(j-ia)=j by lia] at this;exact dr this
         by_cases x1:(ib+1 == b.size)=true
         ·rw [aj x1]
          exact av (.inl ⟨_,_,rfl,rfl,kF sa sb cP (.inl (eq_of_beq x1))⟩)
         ·rw [aa x1]
          have rF:ib+1≠b.size:=fun e=>x1 (by simp [←e])
          refine aw (bI (by lia) (aw (jj (f:=fun i=>bB true (key (a.getD (ia+k) nn)) (key (b.getD (ib+1+i) nn))) (fun i hi Q q=>ji h (by lia) ob (oa _ (by lia)) (cY _) q) (by lia) (pU sb) fun k' q1 q2 q3=>?_)))
          dsimp only;by_cases en:k'>0
          ·rw [aj en]
           have dP:=A2 sa sb cP (n:=k') fun i j hi a_ hj dh=>dt (dr (iM (q2 i hi))) (gx sa hj dh);by_cases x2:(ib+1+k' == b.size)=true
           ·rw [aj x2]
            exact av (.inl ⟨_,_,rfl,rfl,kF sa sb dP (.inl (eq_of_beq x2))⟩)
           ·rw [aa x2]
            have rG:ib+1+k'≠b.size:=fun e=>x2 (by simp [←e])
            refine aw (bI (by lia) ?_)
            have ba:=oA sa sb dP (by lia) fun j h1 h2=>by have:=jk (q3 (j-(ib+1)) (by lia) (by lia));rwa [show ib+1+(j-(ib+1))=j by lia] at this
            by_cases y1:(ia+k+1+1 == a.size)=true
            ·rw [aj y1]
             exact av (.inl ⟨_,_,rfl,rfl,kG sa sb ba hl (eq_of_beq y1)⟩)
            ·rw [aa y1]
             have iS:ia+k+1+1≠a.size:=fun e=>y1 (by simp [←e])
             exact fu (fun _=>av (.inr ⟨_,_,_,_,_,_,_,rfl,rfl,ba,by lia,by lia,by lia⟩)) (fun _=>av ⟨_,_,_,_,_,_,_,rfl,rfl,ba,by lia,by lia,by lia⟩)
          ·rw [aa en]
           obtain rfl:k'=0:=by lia
           refine aw (bI (by lia) ?_)
           have ba:=oA sa sb cP (by lia) fun j h1 h2=>by have:=jk (q3 (j-(ib+1)) (by lia) (by lia));rwa [show ib+1+(j-(ib+1))=j by lia] at this
           by_cases y1:(ia+k+1+1 == a.size)=true
           ·rw [aj y1]
            exact av (.inl ⟨_,_,rfl,rfl,kG sa sb ba hl (eq_of_beq y1)⟩)
           ·rw [aa y1]
            have iS:ia+k+1+1≠a.size:=fun e=>y1 (by simp [←e])
            exact fu (fun _=>av (.inr ⟨_,_,_,_,_,_,_,rfl,rfl,ba,by lia,by lia,by lia⟩)) (fun _=>av ⟨_,_,_,_,_,_,_,rfl,rfl,ba,by lia,by lia,by lia⟩)
      ·rw [aa zk]
       obtain rfl:k=0:=by lia
       refine aw (bI hb ?_);have cP:=uY sa sb mi hb fun j h1 h2=>by have:=pR (k3 (j-ia) (by lia) (by lia));rw [show ia+(j-ia)=j by lia] at this;exact dr this
       by_cases x1:(ib+1 == b.size)=true
       ·rw [aj x1]
        exact av (.inl ⟨_,_,rfl,rfl,kF sa sb cP (.inl (eq_of_beq x1))⟩)
       ·rw [aa x1]
        have rF:ib+1≠b.size:=fun e=>x1 (by simp [←e])
        refine aw (bI (by lia) (aw (jj (f:=fun i=>bB true (key (a.getD (ia) nn)) (key (b.getD (ib+1+i) nn))) (fun i hi Q q=>ji h (by lia) ob (oa _ (by lia)) (cY _) q) (by lia) (pU sb) fun k' q1 q2 q3=>?_)))
        dsimp only;by_cases en:k'>0
        ·rw [aj en]
         have dP:=A2 sa sb cP (n:=k') fun i j hi a_ hj dh=>dt (dr (iM (q2 i hi))) (gx sa hj dh);by_cases x2:(ib+1+k' == b.size)=true
         ·rw [aj x2]
          exact av (.inl ⟨_,_,rfl,rfl,kF sa sb dP (.inl (eq_of_beq x2))⟩)
         ·rw [aa x2]
          have rG:ib+1+k'≠b.size:=fun e=>x2 (by simp [←e])
          refine aw (bI (by lia) ?_)
          have ba:=oA sa sb dP (by lia) fun j h1 h2=>by have:=jk (q3 (j-(ib+1)) (by lia) (by lia));rwa [show ib+1+(j-(ib+1))=j by lia] at this
          by_cases y1:(ia+1+1 == a.size)=true
          ·rw [aj y1]
           exact av (.inl ⟨_,_,rfl,rfl,kG sa sb ba hl (eq_of_beq y1)⟩)
          ·rw [aa y1]
           have iS:ia+1+1≠a.size:=fun e=>y1 (by simp [←e])
           exact fu (fun _=>av (.inr ⟨_,_,_,_,_,_,_,rfl,rfl,ba,by lia,by lia,by lia⟩)) (fun _=>av ⟨_,_,_,_,_,_,_,rfl,rfl,ba,by lia,by lia,by lia⟩)
        ·rw [aa en]
         obtain rfl:k'=0:=by lia
         refine aw (bI (by lia) ?_)
         have ba:=oA sa sb cP (by lia) fun j h1 h2=>by have:=jk (q3 (j-(ib+1)) (by lia) (by lia));rwa [show ib+1+(j-(ib+1))=j by lia] at this
         by_cases y1:(ia+1+1 == a.size)=true
         ·rw [aj y1]
          exact av (.inl ⟨_,_,rfl,rfl,kG sa sb ba hl (eq_of_beq y1)⟩)
         ·rw [aa y1]
          have iS:ia+1+1≠a.size:=fun e=>y1 (by simp [←e])
          exact fu (fun _=>av (.inr ⟨_,_,_,_,_,_,_,rfl,rfl,ba,by lia,by lia,by lia⟩)) (fun _=>av ⟨_,_,_,_,_,_,_,rfl,rfl,ba,by lia,by lia,by lia⟩)
     ·rw [aa (by lia)]
      refine aw (uX ?_);refine aw (bI hb (aw (jj (f:=fun i=>bB false (key (b.getD ib nn)) (key (a.getD (ia+i) nn))) (fun i hi Q q=>ji h (by lia) oa (ob _ hb) (cY _) q) (by lia) (A1 sa) fun k k1 k2 k3=>?_)))
      dsimp only;by_cases zk:k>0
      ·rw [aj zk]
       have iR:=JV sa sb mi (n:=k) fun i j hi a_ hj dh=>dt (m8 (k2 i hi)) (gx sb hj dh);by_cases w1:(ia+k+1 == a.size)=true
       ·rw [aj w1]
        exact av (.inl ⟨_,_,rfl,rfl,kG sa sb iR hl (eq_of_beq w1)⟩)
       ·rw [aa w1]
        have EC:ia+k+1≠a.size:=fun e=>w1 (by simp [←e])
        by_cases w2:(ia+k == a.size)=true
        ·rw [aj w2]
         exact av (.inl ⟨_,_,rfl,rfl,kF sa sb iR (.inr (eq_of_beq w2))⟩)
        ·rw [aa w2]
         have Se:ia+k≠a.size:=fun e=>w2 (by simp [←e])
         refine aw (bI hb ?_);have cP:=uY sa sb iR hb fun j h1 h2=>by have:=pR (k3 (j-ia) (by lia) (by lia));rw [show ia+(j-ia)=j by lia] at this;exact dr this
         by_cases x1:(ib+1 == b.size)=true
         ·rw [aj x1]
          exact av (.inl ⟨_,_,rfl,rfl,kF sa sb cP (.inl (eq_of_beq x1))⟩)
         ·rw [aa x1]
          have rF:ib+1≠b.size:=fun e=>x1 (by simp [←e])
          refine aw (bI (by lia) (aw (jj (f:=fun i=>bB true (key (a.getD (ia+k) nn)) (key (b.getD (ib+1+i) nn))) (fun i hi Q q=>ji h (by lia) ob (oa _ (by lia)) (cY _) q) (by lia) (pU sb) fun k' q1 q2 q3=>?_)))
          dsimp only;by_cases en:k'>0
          ·rw [aj en]
           have dP:=A2 sa sb cP (n:=k') fun i j hi a_ hj dh=>dt (dr (iM (q2 i hi))) (gx sa hj dh);by_cases x2:(ib+1+k' == b.size)=true
           ·rw [aj x2]
            exact av (.inl ⟨_,_,rfl,rfl,kF sa sb dP (.inl (eq_of_beq x2))⟩)
           ·rw [aa x2]
            have rG:ib+1+k'≠b.size:=fun e=>x2 (by simp [←e])
            refine aw (bI (by lia) ?_)
            have ba:=oA sa sb dP (by lia) fun j h1 h2=>by have:=jk (q3 (j-(ib+1)) (by lia) (by lia));rwa [show ib+1+(j-(ib+1))=j by lia] at this
            by_cases y1:(ia+k+1+1 == a.size)=true
            ·rw [aj y1]
             exact av (.inl ⟨_,_,rfl,rfl,kG sa sb ba hl (eq_of_beq y1)⟩)
            ·rw [aa y1]
             have iS:ia+k+1+1≠a.size:=fun e=>y1 (by simp [←e])
             exact fu (fun _=>av (.inr ⟨_,_,_,_,_,_,_,rfl,rfl,ba,by lia,by lia,by lia⟩)) (fun _=>av ⟨_,_,_,_,_,_,_,rfl,rfl,ba,by lia,by lia,by lia⟩)
          ·rw [aa en]
           obtain rfl:k'=0:=by lia
           refine aw (bI (by lia) ?_)
           have ba:=oA sa sb cP (by lia) fun j h1 h2=>by have:=jk (q3 (j-(ib+1)) (by lia) (by lia));rwa [show ib+1+(j-(ib+1))=j by lia] at this
           by_cases y1:(ia+k+1+1 == a.size)=true
           ·rw [aj y1]
            exact av (.inl ⟨_,_,rfl,rfl,kG sa sb ba hl (eq_of_beq y1)⟩)
           ·rw [aa y1]
            have iS:ia+k+1+1≠a.size:=fun e=>y1 (by simp [←e])
            exact fu (fun _=>av (.inr ⟨_,_,_,_,_,_,_,rfl,rfl,ba,by lia,by lia,by lia⟩)) (fun _=>av ⟨_,_,_,_,_,_,_,rfl,rfl,ba,by lia,by lia,by lia⟩)
      ·rw [aa zk]
       obtain rfl:k=0:=by lia
       refine aw (bI hb ?_);have cP:=uY sa sb mi hb fun j h1 h2=>by have:=pR (k3 (j-ia) (by lia) (by lia));rw [show ia+(j-ia)=j by lia] at this;exact dr this
       by_cases x1:(ib+1 == b.size)=true
       ·rw [aj x1]
        exact av (.inl ⟨_,_,rfl,rfl,kF sa sb cP (.inl (eq_of_beq x1))⟩)
       ·rw [aa x1]
        have rF:ib+1≠b.size:=fun e=>x1 (by simp [←e])
        refine aw (bI (by lia) (aw (jj (f:=fun i=>bB true (key (a.getD (ia) nn)) (key (b.getD (ib+1+i) nn))) (fun i hi Q q=>ji h (by lia) ob (oa _ (by lia)) (cY _) q) (by lia) (pU sb) fun k' q1 q2 q3=>?_)))
        dsimp only;by_cases en:k'>0
        ·rw [aj en]
         have dP:=A2 sa sb cP (n:=k') fun i j hi a_ hj dh=>dt (dr (iM (q2 i hi))) (gx sa hj dh);by_cases x2:(ib+1+k' == b.size)=true
         ·rw [aj x2]
          exact av (.inl ⟨_,_,rfl,rfl,kF sa sb dP (.inl (eq_of_beq x2))⟩)
         ·rw [aa x2]
          have rG:ib+1+k'≠b.size:=fun e=>x2 (by simp [←e])
          refine aw (bI (by lia) ?_)
          have ba:=oA sa sb dP (by lia) fun j h1 h2=>by have:=jk (q3 (j-(ib+1)) (by lia) (by lia));rwa [show ib+1+(j-(ib+1))=j by lia] at this
          by_cases y1:(ia+1+1 == a.size)=true
          ·rw [aj y1]
           exact av (.inl ⟨_,_,rfl,rfl,kG sa sb ba hl (eq_of_beq y1)⟩)
          ·rw [aa y1]
           have iS:ia+1+1≠a.size:=fun e=>y1 (by simp [←e])
           exact fu (fun _=>av (.inr ⟨_,_,_,_,_,_,_,rfl,rfl,ba,by lia,by lia,by lia⟩)) (fun _=>av ⟨_,_,_,_,_,_,_,rfl,rfl,ba,by lia,by lia,by lia⟩)
        ·rw [aa en]
         obtain rfl:k'=0:=by lia
         refine aw (bI (by lia) ?_)
         have ba:=oA sa sb cP (by lia) fun j h1 h2=>by have:=jk (q3 (j-(ib+1)) (by lia) (by lia));rwa [show ib+1+(j-(ib+1))=j by lia] at this
         by_cases y1:(ia+1+1 == a.size)=true
         ·rw [aj y1]
          exact av (.inl ⟨_,_,rfl,rfl,kG sa sb ba hl (eq_of_beq y1)⟩)
         ·rw [aa y1]
          have iS:ia+1+1≠a.size:=fun e=>y1 (by simp [←e])
          exact fu (fun _=>av (.inr ⟨_,_,_,_,_,_,_,rfl,rfl,ba,by lia,by lia,by lia⟩)) (fun _=>av ⟨_,_,_,_,_,_,_,rfl,rfl,ba,by lia,by lia,by lia⟩)
    ·rintro c ax ⟨out,i,j,mg,ac,bc,g,rfl,rfl,gA⟩
     have mi:=gA.1;have ha:=gA.2.1;have hb:=gA.2.2.1;have iP:=gA.2.2.2;clear gA;exact .inr ⟨_,_,_,_,_,_,_,rfl,rfl,mi,ha,hb,iP⟩
    ·rintro c ax (⟨m,g,e,rfl,pm⟩ | ⟨out,i,j,mg,ac,bc,g,rfl,rfl,mi,ha,hb,iP⟩)
     ·obtain ⟨c1,c2⟩:=c
      dsimp only at e;subst e;exact av ⟨m,g,rfl,rfl,pm⟩
     ·dsimp only
      exact aw (uX (av ⟨_,_,_,_,_,rfl,rfl,mi,ha,hb,by lia⟩))
 ·rintro c ax ⟨out,ia,ib,mg,g,rfl,rfl,gB⟩
  have mi:=gB.1;have ha:=gB.2.1;have hb:=gB.2.2.1;have EB:=gB.2.2.2;clear gB
  exfalso
  lia
 ·rintro c ax ⟨m,g,e,rfl,pm,sm⟩
  obtain ⟨c1,c2⟩:=c;dsimp only at e;subst e;exact av (q m g pm sm)
end
theorem Sf(a b:Array Keyed):Ex a b=(do
 rule "list.sort.merge-hi"
 let total:=a.size+b.size
 let done (out:Array Keyed) (na nb:Nat):=a.extract 0 na++b.extract 0 nb++out.reverse
 let A3 (out:Array Keyed) (na nb:Nat):=b.extract 0 nb++a.extract 0 na++out.reverse
 let mut na:=a.size-1
 let mut nb:=b.size
 let mut out:Array Keyed:=#[←elem' a na]
 if na == 0 then return done out na nb
 if nb == 1 then return A3 out na nb
 let mut minGallop:=gallopOf (←get)
 for _ in [0:total] do
  let mut jP:=0
  let mut jQ:=0
  for _ in [0:total] do
   let some Sg ←lt' (←elem' b (nb-1)) (←elem' a (na-1)) | return done out na nb
   if Sg then
    na:=na-1;out:=out.push (←elem' a na);jP:=jP+1;jQ:=0
    if na == 0 then return done out na nb
    if jP≥minGallop then break
   else
    nb:=nb-1;out:=out.push (←elem' b nb);jQ:=jQ+1;jP:=0
    if nb == 1 then return A3 out na nb
    if jQ≥minGallop then break
  rule "list.sort.gallop"
  minGallop:=minGallop+1
  for _ in [0:total] do
   if minGallop>1 then minGallop:=minGallop-1
   yt minGallop
   let some at_ ←pQ false (←elem' b (nb-1)) a 0 na (na-1) | return done out na nb
   let k:=na-at_
   jP:=k
   if k>0 then
    out:=out++(a.extract at_ na).reverse;na:=at_
    if na == 0 then return done out na nb
   nb:=nb-1;out:=out.push (←elem' b nb)
   if nb == 1 then return A3 out na nb
   let some at_ ←pQ true (←elem' a (na-1)) b 0 nb (nb-1) | return done out na nb
   let k:=nb-at_
   jQ:=k
   if k>0 then
    out:=out++(b.extract at_ nb).reverse;nb:=at_
    if nb == 1 then return A3 out na nb
    if nb == 0 then return done out na nb
   na:=na-1;out:=out.push (←elem' a na)
   if na == 0 then return done out na nb
   if jP<7 && jQ<7 then break
  minGallop:=minGallop+1
  yt minGallop
 unsupported "internal:list.sort.merge-bound"):=rfl
section
variable {key:Keyed→Int}
theorem uZ(h:bE key l):bE (fun x=>-key x) l.reverse:=by unfold bE;rw [Dq];exact List.Pairwise.imp (fun h=>Int.neg_le_neg h) h
theorem JW(h:bE (fun x=>-key x) l):bE key l.reverse:=by unfold bE;rw [Dq];exact List.Pairwise.imp (fun h=>Int.le_of_neg_le_neg h) h
variable {a:Array Keyed} {n:Nat}
theorem l9(h:n≤a.size):a.toList.reverse.drop (a.size-n)=(a.extract 0 n).toList.reverse:=by rw [List.drop_reverse,kD,List.drop_zero,Nat.sub_zero,fA,show a.size-(a.size-n)=n by lia]
theorem A4{m:Nat}(h:n≤a.size)(hm:m≤n):(a.toList.reverse.drop (a.size-n)).take (n-m)=(a.extract m n).reverse.toList:=by rw [l9 h,ud,kD,kD,List.drop_zero,Nat.sub_zero,List.take_reverse,oW,fA,show min n a.size-(n-m)=m by lia,List.drop_take]
theorem oB{m:Nat}(h:n≤a.size){x:Keyed}(hx:x∈(a.extract m n).toList):∃j,m≤j∧j<n∧x=a.getD j nn:=by rw [kD] at hx;obtain ⟨j,h1,h2,rfl⟩:=EA hx;exact ⟨m+j,by lia,by lia,rfl⟩
theorem JX(h:n≤a.size)(h1:1≤n):(a.extract (n-1) n).reverse.toList=[a.getD (n-1) nn]:=by
 rw [ud,kD,show n-(n-1)=1 by lia,yw (by lia)]
 rfl
def MH(key:Keyed→Int)(a b out:Array Keyed)(na nb:Nat):Prop:=MI (fun x=>-key x) a.toList.reverse b.toList.reverse out.toList (a.size-na) (b.size-nb)∧na≤a.size∧nb≤b.size
variable {a b:Array Keyed} (sa:bE key a.toList) (sb:bE key b.toList) {out:Array Keyed} {na nb:Nat}
include sa sb
variable {k:Nat}
theorem ED(m:MH key a b out na nb)(hk:k≤na)(c:∀i j,k≤i→i<na→j<nb→key (b.getD j nn)≤key (a.getD i nn)):MH key a b (out++(a.extract k na).reverse) k nb:=by
 obtain ⟨m,ha,hb⟩:=m;refine ⟨?_,by lia,hb⟩
 have:=m.AX (uZ sa) (na-k) fun x hx y hy=>by rw [A4 ha hk,ud,oZ] at hx;rw [l9 hb,oZ] at hy;obtain ⟨i,i1,i2,rfl⟩:=oB ha hx;obtain ⟨j,j1,j2,rfl⟩:=oB hb hy;have:=c i j i1 i2 j2;lia
 rw [A4 ha hk,show a.size-na+(na-k)=a.size-k by lia] at this
 rw [mJ];exact this
theorem yy(m:MH key a b out na nb)(hk:k≤nb)(c:∀i j,k≤i→i<nb→j<na→key (a.getD j nn)≤key (b.getD i nn)):MH key a b (out++(b.extract k nb).reverse) na k:=by
 obtain ⟨m,ha,hb⟩:=m;refine ⟨?_,ha,by lia⟩
 have:=m.Ez (uZ sb) (nb-k) fun x hx y hy=>by rw [A4 hb hk,ud,oZ] at hx;rw [l9 ha,oZ] at hy;obtain ⟨i,i1,i2,rfl⟩:=oB hb hx;obtain ⟨j,j1,j2,rfl⟩:=oB ha hy;have:=c i j i1 i2 j2;lia
 rw [A4 hb hk,show b.size-nb+(nb-k)=b.size-k by lia] at this
 rw [mJ];exact this
theorem m9(m:MH key a b out na nb)(h1:1≤na)(c:∀j,j<nb→key (b.getD j nn)≤key (a.getD (na-1) nn)):MH key a b (out.push (a.getD (na-1) nn)) (na-1) nb:=by
 have:=ED sa sb m (k:=na-1) (by lia) fun i j i1 i2 j1=>by
  rw [show i=na-1 by lia]
  exact c j j1
 have e:out++(a.extract (na-1) na).reverse=out.push (a.getD (na-1) nn):=by apply Array.toList_inj.mp;rw [mJ,JX m.2.1 h1,oY]
 rw [e] at this;exact this
theorem yA(m:MH key a b out na nb)(h1:1≤nb)(c:∀j,j<na→key (a.getD j nn)≤key (b.getD (nb-1) nn)):MH key a b (out.push (b.getD (nb-1) nn)) na (nb-1):=by
 have:=yy sa sb m (k:=nb-1) (by lia) fun i j i1 i2 j1=>by
  rw [show i=nb-1 by lia]
  exact c j j1
 have e:out++(b.extract (nb-1) nb).reverse=out.push (b.getD (nb-1) nn):=by apply Array.toList_inj.mp;rw [mJ,JX m.2.2 h1,oY]
 rw [e] at this;exact this
theorem ig(m:MH key a b out na nb)(e:na=0∨nb=0):(a.extract 0 na++b.extract 0 nb++out.reverse).toList.Perm (a.toList++b.toList)∧bE key (a.extract 0 na++b.extract 0 nb++out.reverse).toList:=by
 obtain ⟨m,ha,hb⟩:=m;have:=m.JU (uZ sa) (uZ sb) fun x hx y hy=>by rw [l9 ha,oZ] at hx;rw [l9 hb,oZ] at hy;obtain ⟨i,i1,i2,_⟩:=oB ha hx;obtain ⟨j,j1,j2,_⟩:=oB hb hy;lia
 rw [l9 ha,l9 hb] at this;have er:(a.extract 0 na++b.extract 0 nb++out.reverse).toList=(out.toList++(b.extract 0 nb).toList.reverse++(a.extract 0 na).toList.reverse).reverse:=by simp
 rw [er];refine ⟨(o6 _).trans (this.1.trans ?_),JW this.2⟩;exact (o6 _).append (o6 _)
theorem m_(m:MH key a b out na nb)(h0:∀x∈a.toList,key (b.getD 0 nn)≤key x)(e:nb=1):(b.extract 0 nb++a.extract 0 na++out.reverse).toList.Perm (a.toList++b.toList)∧bE key (b.extract 0 nb++a.extract 0 na++out.reverse).toList:=by
 obtain ⟨m,ha,hb⟩:=m;have:=m.done (uZ sa) (uZ sb) fun x hx y hy=>by
  rw [l9 ha,oZ] at hx;rw [l9 hb,oZ] at hy;obtain ⟨i,i1,i2,rfl⟩:=oB ha hx;obtain ⟨j,j1,j2,rfl⟩:=oB hb hy;have:=h0 (a.getD i nn) (by simp [Array.getD,show i<a.size by lia])
  rw [show j=0 by lia]
  lia
 rw [l9 ha,l9 hb] at this;have er:(b.extract 0 nb++a.extract 0 na++out.reverse).toList=(out.toList++(a.extract 0 na).toList.reverse++(b.extract 0 nb).toList.reverse).reverse:=by simp
 rw [er];refine ⟨(o6 _).trans (this.1.trans ?_),JW this.2⟩;exact (o6 _).append (o6 _)
end
section
variable {prog:Program} {w:World} {A:Around} {E:aJ} {s:Shared} {κ:SortKind} {key:Keyed→Int} {Ok:Keyed→Prop}
theorem Sh(h:jO prog w A s κ key Ok){a b:Array Keyed}(oa:fH Ok a)(ob:fH Ok b)(sa:bE key a.toList)(sb:bE key b.toList)(a1:1≤a.size)(b1:1≤b.size)
  (h0:∀x∈a.toList,key (b.getD 0 nn)≤key x) (hl:∀y∈b.toList,key y≤key (a.getD (a.size-1) nn)) {st:SortSt} (hk:kindOf st=κ) {Q:Array Keyed→SortSt→Prop}
  (q:∀m g,m.toList.Perm (a.toList++b.toList)→bE key m.toList→Q m (setG st g)):wpS (model prog w) A E s (Ex a b) Q st:=by
 rw [Sf];refine aw (wpS_lift (j8 ⟨rfl,?_⟩));refine aw (bI (by lia) ?_)
 dsimp only;have m0:MH key a b (#[a.getD (a.size-1) nn]:Array Keyed) (a.size-1) b.size:=by
  have:MH key a b (#[]:Array Keyed) a.size b.size:=⟨⟨by simp,List.Pairwise.nil,fun x hx=>by simp at hx,fun x hx=>by simp at hx⟩,aC _,aC _⟩
  exact m9 sa sb this a1 fun j hj=>hl _ (by simp [Array.getD,hj])
 have cY:∀g,kindOf (setG st g)=κ:=fun _=>hk;by_cases e1:(a.size-1 == 0)=true
 ·rw [aj e1]
  have:=ig sa sb m0 (.inl (eq_of_beq e1));exact av (q _ (gallopOf st) this.1 this.2)
 rw [aa e1];by_cases e2:(b.size == 1)=true
 ·rw [aj e2]
  have:=m_ sa sb m0 h0 (eq_of_beq e2);exact av (q _ (gallopOf st) this.1 this.2)
 rw [aa e2];have a2:1≤a.size-1:=by
  have:a.size-1≠0:=fun e=>e1 (by simp [e])
  lia
 have b2:2≤b.size:=by
  have:b.size≠1:=fun e=>e2 (by simp [e])
  lia
 refine aw (jA ?_)
 refine aw (gH (gm (I:=fun x c ax=>∃(out:Array Keyed) (na nb mg g:Nat),c=(none,na,nb,out,mg)∧ax=setG st g∧MH key a b out na nb∧1≤na∧2≤nb∧x+na+nb≤a.size+b.size)
  (Q:=fun c ax=>∃(m:Array Keyed) (g:Nat),c.1=some m∧ax=setG st g∧m.toList.Perm (a.toList++b.toList)∧bE key m.toList) ?_ ?_ ⟨_,a.size-1,b.size,_,gallopOf st,rfl,rfl,m0,a2,b2,show 0+(a.size-1)+b.size≤a.size+b.size by lia⟩) ?_)
 ·rintro x c ax _ hx ⟨out,na,nb,mg,g,rfl,rfl,h_⟩
  have mi:=h_.1;have ha:=h_.2.1;have hb:=h_.2.2.1;have EB:=h_.2.2.2;clear h_;dsimp only
  refine aw (gH (gm (I:=fun y c ax=>∃(out:Array Keyed) (bF cn ac bc:Nat),c=(none,bF,cn,out,ac,bc)∧ax=setG st g∧MH key a b out bF cn∧1≤bF∧2≤cn∧y+bF+cn≤na+nb)
   (Q:=fun c ax=>ax=setG st g∧((∃m:Array Keyed,c.1=some m∧m.toList.Perm (a.toList++b.toList)∧bE key m.toList)∨∃(out:Array Keyed) (bF cn ac bc:Nat),c=(none,bF,cn,out,ac,bc)∧MH key a b out bF cn∧1≤bF∧2≤cn∧1+bF+cn≤na+nb)) ?_ ?_ ⟨_,na,nb,_,_,rfl,rfl,mi,ha,hb,show 0+na+nb≤na+nb by lia⟩) ?_)
  ·rintro y c ax _ hy ⟨out,bF,cn,ac,bc,rfl,rfl,ie⟩
   have mi:=ie.1;have ha:=ie.2.1;have hb:=ie.2.2.1;have iP:=ie.2.2.2;clear ie;have yB:=mi.2.1;have qX:=mi.2.2;dsimp only;refine aw (bI (by lia) (aw (bI (by lia) (aw (yv h (ob (cn-1) (by lia)) (oa (bF-1) (by lia)) (cY _) ?_)))))
   dsimp only;by_cases z:key (b.getD (cn-1) nn)<key (a.getD (bF-1) nn)
   ·rw [bV z,aj rfl]
    refine aw (bI (by lia) ?_)
    have iQ:=m9 sa sb mi ha fun j hj=>dt (gx sb (by lia) (by lia)) (dr z)
    by_cases z1:(bF-1 == 0)=true
    ·rw [aj z1]
     exact av ⟨rfl,.inl ⟨_,rfl,ig sa sb iQ (.inl (eq_of_beq z1))⟩⟩
    ·rw [aa z1]
     have yr:bF-1≠0:=fun e=>z1 (by simp [e])
     exact fu (fun _=>av ⟨rfl,.inr ⟨_,_,_,_,_,rfl,iQ,by lia,hb,by lia⟩⟩) (fun _=>av ⟨_,_,_,_,_,rfl,rfl,iQ,by lia,hb,by lia⟩)
   ·rw [b3 z,aa (by simp)]
    refine aw (bI (by lia) ?_)
    have iQ:=yA sa sb mi (by lia) fun j hj=>dt (gx sa (by lia) (by lia)) (Int.not_lt.mp z)
    by_cases z1:(cn-1 == 1)=true
    ·rw [aj z1]
     exact av ⟨rfl,.inl ⟨_,rfl,m_ sa sb iQ h0 (eq_of_beq z1)⟩⟩
    ·rw [aa z1]
     have yr:cn-1≠1:=fun e=>z1 (by simp [e])
     exact fu (fun _=>av ⟨rfl,.inr ⟨_,_,_,_,_,rfl,iQ,ha,by lia,by lia⟩⟩) (fun _=>av ⟨_,_,_,_,_,rfl,rfl,iQ,ha,by lia,by lia⟩)
  ·rintro c ax ⟨out,bF,cn,ac,bc,rfl,rfl,gy⟩
   have mi:=gy.1;have ha:=gy.2.1;have hb:=gy.2.2.1;have iP:=gy.2.2.2;clear gy;exact ⟨rfl,.inr ⟨_,_,_,_,_,rfl,mi,ha,hb,by lia⟩⟩
  ·rintro c ax ⟨rfl,⟨m,e,pm⟩ | ⟨out,bF,cn,ac,bc,rfl,mi,ha,hb,iP⟩⟩
   ·obtain ⟨c1,c2⟩:=c
    dsimp only at e;subst e;exact av ⟨m,g,rfl,rfl,pm⟩
   ·dsimp only
    refine aw (wpS_lift (j8 ⟨rfl,?_⟩))
    refine aw (gH (gm (I:=fun y c ax=>∃(out:Array Keyed) (i j mg ac bc g:Nat),c=(none,i,j,out,mg,ac,bc)∧ax=setG st g∧MH key a b out i j∧1≤i∧2≤j∧x+1+i+j≤a.size+b.size)
     (Q:=fun c ax=>(∃(m:Array Keyed) (g:Nat),c.1=some m∧ax=setG st g∧m.toList.Perm (a.toList++b.toList)∧bE key m.toList)∨∃(out:Array Keyed) (i j mg ac bc g:Nat),c=(none,i,j,out,mg,ac,bc)∧ax=setG st g∧MH key a b out i j∧1≤i∧2≤j∧x+1+i+j≤a.size+b.size) ?_ ?_ ⟨_,bF,cn,_,_,_,g,rfl,rfl,mi,ha,hb,by lia⟩) ?_)
    ·clear mi ha hb iP
     rintro y c ax _ hy ⟨out,na,nb,mg,ac,bc,g,rfl,rfl,gz⟩;have mi:=gz.1;have ha:=gz.2.1;have hb:=gz.2.2.1;have iP:=gz.2.2.2;clear gz;have yB:=mi.2.1;have qX:=mi.2.2;dsimp only;rcases Nat.lt_or_ge 1 mg with zm | zm
     ·rw [aj zm]
      refine aw (uX ?_);refine aw (bI (by lia) (aw (jj (f:=fun i=>bB false (key (b.getD (nb-1) nn)) (key (a.getD (0+i) nn))) (fun i hi Q q=>ji h (by lia) oa (ob _ (by lia)) (cY _) q) (by lia) (fun i j h1 h2 h3=>A1 sa (o:=0) i j h1 (by lia) h3) fun k k1 k2 k3=>?_)))
      dsimp only;by_cases zk:na-k>0
      ·rw [aj zk]
       have iR:=ED sa sb mi (k:=k) k1 fun i j hi a_ hj=>by have:=pR (k3 i hi a_);rw [d5] at this;exact dt (gx sb (by lia) (by lia)) (dr this)
       by_cases w1:(k == 0)=true
       ·rw [aj w1]
        exact av (.inl ⟨_,_,rfl,rfl,ig sa sb iR (.inl (eq_of_beq w1))⟩)
       ·rw [aa w1]
        have EC:k≠0:=fun e=>w1 (by simp [e])
        refine aw (bI (by have:=iR.2.2;lia) ?_)
        have cP:=yA sa sb iR (by lia) fun j h1=>by have:=m8 (k2 j h1);rw [d5] at this;exact this
        by_cases x1:(nb-1 == 1)=true
        ·rw [aj x1]
         exact av (.inl ⟨_,_,rfl,rfl,m_ sa sb cP h0 (eq_of_beq x1)⟩)
        ·rw [aa x1]
         have rF:nb-1≠1:=fun e=>x1 (by simp [e])
         have qX:=cP.2.2;refine aw (bI (by lia) (aw (jj (f:=fun i=>bB true (key (a.getD (k-1) nn)) (key (b.getD (0+i) nn))) (fun i hi Q q=>ji h (by lia) ob (oa _ (by lia)) (cY _) q) (by lia) (fun i j h1 h2 h3=>pU sb (o:=0) i j h1 (by lia) h3) fun k' q1 q2 q3=>?_)))
         dsimp only;by_cases en:nb-1-k'>0
         ·rw [aj en]
          have dP:=yy sa sb cP (k:=k') q1 fun i j hi a_ hj=>by have:=jk (q3 i hi a_);rw [d5] at this;exact dt (gx sa (by lia) (by lia)) this
          by_cases x2:(k' == 1)=true
          ·rw [aj x2]
           exact av (.inl ⟨_,_,rfl,rfl,m_ sa sb dP h0 (eq_of_beq x2)⟩)
          ·rw [aa x2]
           have rG:k'≠1:=fun e=>x2 (by simp [e])
           by_cases x3:(k' == 0)=true
           ·rw [aj x3]
            exact av (.inl ⟨_,_,rfl,rfl,ig sa sb dP (.inr (eq_of_beq x3))⟩)
           ·rw [aa x3]
            have EE:k'≠0:=fun e=>x3 (by simp [e])
            refine aw (bI (by lia) ?_)
            have ba:=m9 sa sb dP (by lia) fun j h1=>by have:=iM (q2 j h1);rw [d5] at this;exact dr this
            by_cases y1:(k-1 == 0)=true
            ·rw [aj y1]
             exact av (.inl ⟨_,_,rfl,rfl,ig sa sb ba (.inl (eq_of_beq y1))⟩)
            ·rw [aa y1]
             have iS:k-1≠0:=fun e=>y1 (by simp [e])
             exact fu (fun _=>av (.inr ⟨_,_,_,_,_,_,_,rfl,rfl,ba,by lia,by lia,by lia⟩)) (fun _=>av ⟨_,_,_,_,_,_,_,rfl,rfl,ba,by lia,by lia,by lia⟩)
         ·rw [aa en]
          obtain rfl:k'=nb-1:=by lia
          refine aw (bI (by lia) ?_)
          have ba:=m9 sa sb cP (by lia) fun j h1=>by have:=iM (q2 j h1);rw [d5] at this;exact dr this
          by_cases y1:(k-1 == 0)=true
          ·rw [aj y1]
           exact av (.inl ⟨_,_,rfl,rfl,ig sa sb ba (.inl (eq_of_beq y1))⟩)
          ·rw [aa y1]
           have iS:k-1≠0:=fun e=>y1 (by simp [e])
           exact fu (fun _=>av (.inr ⟨_,_,_,_,_,_,_,rfl,rfl,ba,by lia,by lia,by lia⟩)) (fun _=>av ⟨_,_,_,_,_,_,_,rfl,rfl,ba,by lia,by lia,by lia⟩)
      ·rw [aa zk]
       obtain rfl:k=na:=by lia
       refine aw (bI (by have:=mi.2.2;lia) ?_)
       have cP:=yA sa sb mi (by lia) fun j h1=>by have:=m8 (k2 j h1);rw [d5] at this;exact this
       by_cases x1:(nb-1 == 1)=true
       ·rw [aj x1]
        exact av (.inl ⟨_,_,rfl,rfl,m_ sa sb cP h0 (eq_of_beq x1)⟩)
       ·rw [aa x1]
        have rF:nb-1≠1:=fun e=>x1 (by simp [e])
        have qX:=cP.2.2;refine aw (bI (by lia) (aw (jj (f:=fun i=>bB true (key (a.getD (k-1) nn)) (key (b.getD (0+i) nn))) (fun i hi Q q=>ji h (by lia) ob (oa _ (by lia)) (cY _) q) (by lia) (fun i j h1 h2 h3=>pU sb (o:=0) i j h1 (by lia) h3) fun k' q1 q2 q3=>?_)))
        dsimp only;by_cases en:nb-1-k'>0
        ·rw [aj en]
         have dP:=yy sa sb cP (k:=k') q1 fun i j hi a_ hj=>by have:=jk (q3 i hi a_);rw [d5] at this;exact dt (gx sa (by lia) (by lia)) this
         by_cases x2:(k' == 1)=true
         ·rw [aj x2]
          exact av (.inl ⟨_,_,rfl,rfl,m_ sa sb dP h0 (eq_of_beq x2)⟩)
         ·rw [aa x2]
          have rG:k'≠1:=fun e=>x2 (by simp [e])
          by_cases x3:(k' == 0)=true
          ·rw [aj x3]
           exact av (.inl ⟨_,_,rfl,rfl,ig sa sb dP (.inr (eq_of_beq x3))⟩)
          ·rw [aa x3]
           have EE:k'≠0:=fun e=>x3 (by simp [e])
           refine aw (bI (by lia) ?_)
           have ba:=m9 sa sb dP (by lia) fun j h1=>by have:=iM (q2 j h1);rw [d5] at this;exact dr this
           by_cases y1:(k-1 == 0)=true
           ·rw [aj y1]
            exact av (.inl ⟨_,_,rfl,rfl,ig sa sb ba (.inl (eq_of_beq y1))⟩)
           ·rw [aa y1]
            have iS:k-1≠0:=fun e=>y1 (by simp [e])
            exact fu (fun _=>av (.inr ⟨_,_,_,_,_,_,_,rfl,rfl,ba,by lia,by lia,by lia⟩)) (fun _=>av ⟨_,_,_,_,_,_,_,rfl,rfl,ba,by lia,by lia,by lia⟩)
        ·rw [aa en]
         obtain rfl:k'=nb-1:=by lia
         refine aw (bI (by lia) ?_)
         have ba:=m9 sa sb cP (by lia) fun j h1=>by have:=iM (q2 j h1);rw [d5] at this;exact dr this
         by_cases y1:(k-1 == 0)=true
         ·rw [aj y1]
          exact av (.inl ⟨_,_,rfl,rfl,ig sa sb ba (.inl (eq_of_beq y1))⟩)
         ·rw [aa y1]
          have iS:k-1≠0:=fun e=>y1 (by simp [e])
          exact fu (fun _=>av (.inr ⟨_,_,_,_,_,_,_,rfl,rfl,ba,by lia,by lia,by lia⟩)) (fun _=>av ⟨_,_,_,_,_,_,_,rfl,rfl,ba,by lia,by lia,by lia⟩)
     ·rw [aa (by lia)]
      refine aw (uX ?_);refine aw (bI (by lia) (aw (jj (f:=fun i=>bB false (key (b.getD (nb-1) nn)) (key (a.getD (0+i) nn))) (fun i hi Q q=>ji h (by lia) oa (ob _ (by lia)) (cY _) q) (by lia) (fun i j h1 h2 h3=>A1 sa (o:=0) i j h1 (by lia) h3) fun k k1 k2 k3=>?_)))
      dsimp only;by_cases zk:na-k>0
      ·rw [aj zk]
       have iR:=ED sa sb mi (k:=k) k1 fun i j hi a_ hj=>by have:=pR (k3 i hi a_);rw [d5] at this;exact dt (gx sb (by lia) (by lia)) (dr this)
       by_cases w1:(k == 0)=true
       ·rw [aj w1]
        exact av (.inl ⟨_,_,rfl,rfl,ig sa sb iR (.inl (eq_of_beq w1))⟩)
       ·rw [aa w1]
        have EC:k≠0:=fun e=>w1 (by simp [e])
        refine aw (bI (by have:=iR.2.2;lia) ?_)
        have cP:=yA sa sb iR (by lia) fun j h1=>by have:=m8 (k2 j h1);rw [d5] at this;exact this
        by_cases x1:(nb-1 == 1)=true
        ·rw [aj x1]
         exact av (.inl ⟨_,_,rfl,rfl,m_ sa sb cP h0 (eq_of_beq x1)⟩)
        ·rw [aa x1]
         have rF:nb-1≠1:=fun e=>x1 (by simp [e])
         have qX:=cP.2.2;refine aw (bI (by lia) (aw (jj (f:=fun i=>bB true (key (a.getD (k-1) nn)) (key (b.getD (0+i) nn))) (fun i hi Q q=>ji h (by lia) ob (oa _ (by lia)) (cY _) q) (by lia) (fun i j h1 h2 h3=>pU sb (o:=0) i j h1 (by lia) h3) fun k' q1 q2 q3=>?_)))
         dsimp only;by_cases en:nb-1-k'>0
         ·rw [aj en]
          have dP:=yy sa sb cP (k:=k') q1 fun i j hi a_ hj=>by have:=jk (q3 i hi a_);rw [d5] at this;exact dt (gx sa (by lia) (by lia)) this
          by_cases x2:(k' == 1)=true
          ·rw [aj x2]
           exact av (.inl ⟨_,_,rfl,rfl,m_ sa sb dP h0 (eq_of_beq x2)⟩)
          ·rw [aa x2]
           have rG:k'≠1:=fun e=>x2 (by simp [e])
           by_cases x3:(k' == 0)=true
           ·rw [aj x3]
            exact av (.inl ⟨_,_,rfl,rfl,ig sa sb dP (.inr (eq_of_beq x3))⟩)
           ·rw [aa x3]
            have EE:k'≠0:=fun e=>x3 (by simp [e])
            refine aw (bI (by lia) ?_)
            have ba:=m9 sa sb dP (by lia) fun j h1=>by have:=iM (q2 j h1);rw [d5] at this;exact dr this
            by_cases y1:(k-1 == 0)=true
            ·rw [aj y1]
             exact av (.inl ⟨_,_,rfl,rfl,ig sa sb ba (.inl (eq_of_beq y1))⟩)
            ·rw [aa y1]
             have iS:k-1≠0:=fun e=>y1 (by simp [e])
             exact fu (fun _=>av (.inr ⟨_,_,_,_,_,_,_,rfl,rfl,ba,by lia,by lia,by lia⟩)) (fun _=>av ⟨_,_,_,_,_,_,_,rfl,rfl,ba,by lia,by lia,by lia⟩)
         ·rw [aa en]
          obtain rfl:k'=nb-1:=by lia
          refine aw (bI (by lia) ?_)
          have ba:=m9 sa sb cP (by lia) fun j h1=>by have:=iM (q2 j h1);rw [d5] at this;exact dr this
          by_cases y1:(k-1 == 0)=true
          ·rw [aj y1]
           exact av (.inl ⟨_,_,rfl,rfl,ig sa sb ba (.inl (eq_of_beq y1))⟩)
          ·rw [aa y1]
           have iS:k-1≠0:=fun e=>y1 (by simp [e])
           exact fu (fun _=>av (.inr ⟨_,_,_,_,_,_,_,rfl,rfl,ba,by lia,by lia,by lia⟩)) (fun _=>av ⟨_,_,_,_,_,_,_,rfl,rfl,ba,by lia,by lia,by lia⟩)
      ·rw [aa zk]
       obtain rfl:k=na:=by lia
       refine aw (bI (by have:=mi.2.2;lia) ?_)
       have cP:=yA sa sb mi (by lia) fun j h1=>by have:=m8 (k2 j h1);rw [d5] at this;exact this
       by_cases x1:(nb-1 == 1)=true
       ·rw [aj x1]
        exact av (.inl ⟨_,_,rfl,rfl,m_ sa sb cP h0 (eq_of_beq x1)⟩)
       ·rw [aa x1]
        have rF:nb-1≠1:=fun e=>x1 (by simp [e])
        have qX:=cP.2.2;refine aw (bI (by lia) (aw (jj (f:=fun i=>bB true (key (a.getD (k-1) nn)) (key (b.getD (0+i) nn))) (fun i hi Q q=>ji h (by lia) ob (oa _ (by lia)) (cY _) q) (by lia) (fun i j h1 h2 h3=>pU sb (o:=0) i j h1 (by lia) h3) fun k' q1 q2 q3=>?_)))
        dsimp only;by_cases en:nb-1-k'>0
        ·rw [aj en]
         have dP:=yy sa sb cP (k:=k') q1 fun i j hi a_ hj=>by have:=jk (q3 i hi a_);rw [d5] at this;exact dt (gx sa (by lia) (by lia)) this
         by_cases x2:(k' == 1)=true
         ·rw [aj x2]
          exact av (.inl ⟨_,_,rfl,rfl,m_ sa sb dP h0 (eq_of_beq x2)⟩)
         ·rw [aa x2]
          have rG:k'≠1:=fun e=>x2 (by simp [e])
          by_cases x3:(k' == 0)=true
          ·rw [aj x3]
           exact av (.inl ⟨_,_,rfl,rfl,ig sa sb dP (.inr (eq_of_beq x3))⟩)
          ·rw [aa x3]
           have EE:k'≠0:=fun e=>x3 (by simp [e])
           refine aw (bI (by lia) ?_)
           have ba:=m9 sa sb dP (by lia) fun j h1=>by have:=iM (q2 j h1);rw [d5] at this;exact dr this
           by_cases y1:(k-1 == 0)=true
           ·rw [aj y1]
            exact av (.inl ⟨_,_,rfl,rfl,ig sa sb ba (.inl (eq_of_beq y1))⟩)
           ·rw [aa y1]
            have iS:k-1≠0:=fun e=>y1 (by simp [e])
            exact fu (fun _=>av (.inr ⟨_,_,_,_,_,_,_,rfl,rfl,ba,by lia,by lia,by lia⟩)) (fun _=>av ⟨_,_,_,_,_,_,_,rfl,rfl,ba,by lia,by lia,by lia⟩)
        ·rw [aa en]
         obtain rfl:k'=nb-1:=by lia
         refine aw (bI (by lia) ?_)
         have ba:=m9 sa sb cP (by lia) fun j h1=>by have:=iM (q2 j h1);rw [d5] at this;exact dr this
         by_cases y1:(k-1 == 0)=true
         ·rw [aj y1]
          exact av (.inl ⟨_,_,rfl,rfl,ig sa sb ba (.inl (eq_of_beq y1))⟩)
         ·rw [aa y1]
          have iS:k-1≠0:=fun e=>y1 (by simp [e])
          exact fu (fun _=>av (.inr ⟨_,_,_,_,_,_,_,rfl,rfl,ba,by lia,by lia,by lia⟩)) (fun _=>av ⟨_,_,_,_,_,_,_,rfl,rfl,ba,by lia,by lia,by lia⟩)
    ·rintro c ax ⟨out,i,j,mg,ac,bc,g,rfl,rfl,gA⟩
     have mi:=gA.1;have ha:=gA.2.1;have hb:=gA.2.2.1;have iP:=gA.2.2.2;clear gA;exact .inr ⟨_,_,_,_,_,_,_,rfl,rfl,mi,ha,hb,iP⟩
    ·rintro c ax (⟨m,g,e,rfl,pm⟩ | ⟨out,i,j,mg,ac,bc,g,rfl,rfl,mi,ha,hb,iP⟩)
     ·obtain ⟨c1,c2⟩:=c
      dsimp only at e;subst e;exact av ⟨m,g,rfl,rfl,pm⟩
     ·dsimp only
      exact aw (uX (av ⟨_,_,_,_,_,rfl,rfl,mi,ha,hb,by lia⟩))
 ·rintro c ax ⟨out,ia,ib,mg,g,rfl,rfl,gB⟩
  have mi:=gB.1;have ha:=gB.2.1;have hb:=gB.2.2.1;have EB:=gB.2.2.2;clear gB
  exfalso
  lia
 ·rintro c ax ⟨m,g,e,rfl,pm,sm⟩
  obtain ⟨c1,c2⟩:=c;dsimp only at e;subst e;exact av (q m g pm sm)
end
section
variable {prog:Program} {w:World} {A:Around} {E:aJ} {s:Shared} {κ:SortKind} {key:Keyed→Int} {Ok:Keyed→Prop}
def vA(key:Keyed→Int)(arr:Array Keyed)(i:Nat):Int:=key (arr.getD i nn)
def cZ(key:Keyed→Int)(arr:Array Keyed)(lo hi:Nat):Prop:=∀i j,lo≤i→i≤j→j<hi→vA key arr i≤vA key arr j
def kH(key:Keyed→Int)(arr:Array Keyed)(lo hi:Nat):Prop:=∀i j,lo≤i→i≤j→j<hi→vA key arr j≤vA key arr i
structure Rl (arr aX:Array Keyed) (lo hi:Nat):Prop where
 pm:aX.Perm arr
 out:∀k,k<lo∨hi≤k→aX[k]?=arr[k]?
theorem Rl.refl(arr:Array Keyed)(lo hi:Nat):Rl arr arr lo hi:=⟨Array.Perm.refl _,fun _ _=>rfl⟩
variable {arr aX:Array Keyed} {lo hi:Nat}
theorem Rl.trans{aO:Array Keyed}(h:Rl arr aX lo hi)(h':Rl aX aO lo hi):Rl arr aO lo hi:=⟨h'.pm.trans h.pm,fun k hk=>(h'.out k hk).trans (h.out k hk)⟩
theorem Rl.size(h:Rl arr aX lo hi):aX.size=arr.size:=h.pm.size_eq
theorem Rl.wide{JY a_:Nat}(h:Rl arr aX lo hi)(h1:JY≤lo)(h2:hi≤a_):Rl arr aX JY a_:=⟨h.pm,fun k hk=>h.out k (by lia)⟩
theorem l_(arr:Array Keyed)(i:Nat):arr.getD i nn=arr[i]?.getD nn:=by by_cases z:i<arr.size <;> simp [Array.getD,z]
variable {k:Nat}
theorem Rl.v(h:Rl arr aX lo hi)(hk:k<lo∨hi≤k):vA key aX k=vA key arr k:=by unfold vA;rw [l_,l_,h.out k hk]
theorem u0(h:fH Ok arr)(p:aX.Perm arr):fH Ok aX:=fun i hi=>by
 have e:aX.getD i nn=aX[i]:=by simp [Array.getD,hi]
 rw [e];have m:aX[i]∈arr:=(Array.Perm.mem_iff p).mp (Array.getElem_mem hi);obtain ⟨j,hj,ej⟩:=Array.getElem_of_mem m;rw [←ej];have:=h j hj;simpa [Array.getD,hj] using this
theorem Rl.ok(h:Rl arr aX lo hi)(ok:fH Ok arr):fH Ok aX:=u0 ok h.pm
theorem ma(hj:j≤arr.size):Rl arr (mirror arr i j ((j-i) / 2)) i j:=⟨mirror_perm ..,fun k hk=>by rw [getElem?_mirror_all hj,aa (by lia)]⟩
theorem A5(hj:j≤arr.size)(h1:i≤k)(h2:k<j):vA key (mirror arr i j ((j-i) / 2)) k=vA key arr (i+j-1-k):=by unfold vA;rw [l_,l_,getElem?_mirror_all hj,aj ⟨h1,h2⟩]
abbrev bo (κ:SortKind) (arr:Array Keyed) (pend:Array (Nat×Nat×Nat)) (g:Nat):SortSt:=SortSt.mk' κ arr pend g none
variable {arr:Array Keyed} {pend:Array (Nat×Nat×Nat)} {g:Nat}
theorem md(h:jO prog w A s κ key Ok)(ok:fH Ok arr)(hi:i<arr.size)(hj:j<arr.size){Q:Option Bool→SortSt→Prop}(q:Q (some (decide (vA key arr i<vA key arr j))) (bo κ arr pend g)):wpS (model prog w) A E s (ltAt' i j) Q (bo κ arr pend g):=by rw [ltAt'_eq];refine aw (jA ?_);exact aw (bI hi (aw (bI hj (yv h (ok _ hi) (ok _ hj) rfl q))))
theorem oC{Q:Unit→SortSt→Prop}(q:Q () (bo κ (mirror arr i j ((j-i) / 2)) pend g)):wpS (model prog w) A E s (reverseSlice' i j) Q (bo κ arr pend g):=by rw [reverseSlice'_eq];exact lB q
variable {n:Nat}
theorem cZ.more(h:cZ key arr lo (lo+n))(n1:1≤n)(c:vA key arr (lo+n-1)≤vA key arr (lo+n)):cZ key arr lo (lo+(n+1)):=fun i j h1 h2 h3=>by
 by_cases z:j<lo+n;·exact h i j h1 h2 z
 ·obtain rfl:j=lo+n:=by lia
  by_cases y:i=lo+n;·rw [y];exact lA _
  ·exact dt (h i (lo+n-1) h1 (by lia) (by lia)) c
theorem kH.more(h:kH key arr lo (lo+n))(n1:1≤n)(c:vA key arr (lo+n)≤vA key arr (lo+n-1)):kH key arr lo (lo+(n+1)):=fun i j h1 h2 h3=>by
 by_cases z:j<lo+n;·exact h i j h1 h2 z
 ·obtain rfl:j=lo+n:=by lia
  by_cases y:i=lo+n;·rw [y];exact lA _
  ·exact dt c (h i (lo+n-1) h1 (by lia) (by lia))
def yC(key:Keyed→Int)(arr:Array Keyed)(lo n q:Nat):Prop:=q+1≤n∧∀i,lo+n-(q+1)≤i→i<lo+n→vA key arr i=vA key arr (lo+n-1)
theorem A6{q:Nat}(hz:lo+n≤arr.size)(d:kH key arr lo (lo+n))(e:yC key arr lo n q):kH key (mirror arr (lo+n-(q+1)) (lo+n) ((lo+n-(lo+n-(q+1))) / 2)) lo (lo+n)∧∀k,vA key (mirror arr (lo+n-(q+1)) (lo+n) ((lo+n-(lo+n-(q+1))) / 2)) k=vA key arr k:=by
 have hv:∀k,vA key (mirror arr (lo+n-(q+1)) (lo+n) ((lo+n-(lo+n-(q+1))) / 2)) k=vA key arr k:=fun k=>by
  by_cases z:lo+n-(q+1)≤k∧k<lo+n;·rw [A5 hz z.1 z.2,e.2 _ (by have:=e.1;lia) (by lia),e.2 k z.1 z.2]
  ·exact (ma hz).v (by lia)
 refine ⟨fun i j h1 h2 h3=>?_,hv⟩;rw [hv,hv];exact d i j h1 h2 h3
theorem A7(hz:lo+n≤arr.size)(d:kH key arr lo (lo+n)):cZ key (mirror arr lo (lo+n) ((lo+n-lo) / 2)) lo (lo+n):=fun i j h1 h2 h3=>by
 rw [A5 hz h1 (by lia),A5 hz (by lia) h3]
 exact d _ _ (by lia) (by lia) (by lia)
end
section
variable {prog:Program} {w:World} {A:Around} {E:aJ} {s:Shared} {κ:SortKind} {key:Keyed→Int} {Ok:Keyed→Prop} {arr:Array Keyed} {pend:Array (Nat×Nat×Nat)} {g:Nat}
variable {lo cQ:Nat}
theorem yE(h:jO prog w A s κ key Ok)(ok:fH Ok arr){m:Nat}(hz:lo+cQ≤arr.size)(m1:1≤m)(mn:m≤cQ)(sg:cZ key arr lo (lo+m)){body:Nat→Option (Option Nat)×Nat→StateT SortSt Sem (ForInStep (Option (Option Nat)×Nat))}{R:Option (Option Nat)×Nat→SortSt→Prop}
  (hb:∀x n (R:ForInStep (Option (Option Nat)×Nat)→SortSt→Prop),1≤n→n<cQ→R (if vA key arr (lo+n)<vA key arr (lo+n-1) then .done (none,n) else .yield (none,n+1)) (bo κ arr pend g)→wpS (model prog w) A E s (body x (none,n)) R (bo κ arr pend g))
  (k:∀n,m≤n→n≤cQ→cZ key arr lo (lo+n)→(n<cQ→vA key arr (lo+n)<vA key arr (lo+n-1))→R (none,n) (bo κ arr pend g)) :
  wpS (model prog w) A E s (forIn [m:cQ] (none,m) body) R (bo κ arr pend g):=by
 refine gm (I:=fun x c ax=>ax=bo κ arr pend g∧c=(none,x)∧m≤x∧x≤cQ∧cZ key arr lo (lo+x)) ?_ ?_ ⟨rfl,rfl,aC _,mn,sg⟩
 ·rintro x c ax _ hx ⟨rfl,rfl,h_⟩
  have g1:=h_.1;have g2:=h_.2.1;have g3:=h_.2.2;clear h_;refine hb x x _ (by lia) hx ?_
  by_cases z:vA key arr (lo+x)<vA key arr (lo+x-1)
  ·rw [aj z]
   exact k x g1 g2 g3 fun _=>z
  ·rw [aa z]
   exact ⟨rfl,rfl,by lia,by lia,g3.more (by lia) (Int.not_lt.mp z)⟩
 ·rintro c ax ⟨rfl,rfl,ie⟩
  have g1:=ie.1;have g2:=ie.2.1;have g3:=ie.2.2;clear ie;have e:max m cQ=cQ:=by lia
  rw [e] at g3 ⊢;exact k cQ mn (aC _) g3 fun z=>absurd z (dI _)
theorem Si(h:jO prog w A s κ key Ok)(ok:fH Ok arr)(hz:lo+cQ≤arr.size)(n1:1≤cQ){Q:Option Nat→SortSt→Prop}
  (k:∀n aX,1≤n→n≤cQ→Rl arr aX lo (lo+cQ)→cZ key aX lo (lo+n)→Q (some n) (bo κ aX pend g)):wpS (model prog w) A E s (countRun' lo cQ) Q (bo κ arr pend g):=by
 rw [countRun'_eq];refine aw (yE h ok hz (aC 1) n1 (fun i j h1 h2 h3=>by rw [show i=j by lia];exact lA _) ?_ fun n m1 mn sg br=>?_)
 ·intro x n R a1 a2 r
  dsimp only;refine aw (md h ok (by lia) (by lia) ?_)
  dsimp only;by_cases z:vA key arr (lo+n)<vA key arr (lo+n-1)
  ·rw [aj z] at r
   rw [bV z,aj rfl];exact av r
  ·rw [aa z] at r
   rw [b3 z,aa (by simp)]
   exact av r
 dsimp only;by_cases e1:(n == cQ)=true
 ·rw [aj e1]
  exact av (k n arr m1 mn (Rl.refl ..) sg)
 rw [aa e1];have aT:n<cQ:=by
  have:n≠cQ:=fun e=>e1 (by simp [e])
  lia
 have JZ:=br aT;by_cases e2:n>1
 ·rw [aj e2]
  refine aw (md h ok (by lia) (by lia) ?_)
  dsimp only;by_cases z:vA key arr lo<vA key arr (lo+n-1)
  ·rw [bV z,aj rfl]
   exact av (k n arr m1 mn (Rl.refl ..) sg)
  ·rw [b3 z,aa (by simp)]
   refine aw (oC ?_);have ev:∀i,lo≤i→i<lo+n→vA key arr i=vA key arr (lo+n-1):=fun i h1 h2=>by
    have a1:=sg lo i (aC _) h1 h2;have a2:=sg i (lo+n-1) h1 (by lia) (by lia)
    lia
   have hv:∀i,vA key (mirror arr lo (lo+n) ((lo+n-lo) / 2)) i=vA key arr i:=fun i=>by
    by_cases y:lo≤i∧i<lo+n;·rw [A5 (by lia) y.1 y.2,ev _ (by lia) (by lia),ev i y.1 y.2]
    ·exact (ma (by lia)).v (by lia)
   have d1:kH key (mirror arr lo (lo+n) ((lo+n-lo) / 2)) lo (lo+n):=fun i j h1 h2 h3=>by
    rw [hv,hv,ev i h1 (by lia),ev j (by lia) h3]
    exact lA _
   have A8:Rl arr (mirror arr lo (lo+n) ((lo+n-lo) / 2)) lo (lo+cQ):=(ma (by lia)).wide (aC _) (by lia)
   have J0:vA key (mirror arr lo (lo+n) ((lo+n-lo) / 2)) (lo+n)<vA key (mirror arr lo (lo+n) ((lo+n-lo) / 2)) (lo+n-1):=by rw [hv,hv];exact JZ
   generalize mirror arr lo (lo+n) ((lo+n-lo) / 2)=Sj at d1 A8 J0 ⊢;refine aw (wpS_lift (j8 ⟨rfl,?_⟩))
   refine aw (gH (gm (I:=fun x c ax=>∃(aO:Array Keyed) (q:Nat),ax=bo κ aO pend g∧c=(none,x,q)∧Rl arr aO lo (lo+cQ)∧kH key aO lo (lo+x)∧yC key aO lo x q∧x≤cQ∧1≤x)
    (Q:=fun c ax=>∃(aO:Array Keyed) (n q:Nat),ax=bo κ aO pend g∧c=(none,n,q)∧Rl arr aO lo (lo+cQ)∧kH key aO lo (lo+n)∧yC key aO lo n q∧n≤cQ∧1≤n) ?_ ?_ ⟨Sj,0,rfl,rfl,A8,d1.more (by lia) (dr J0),⟨by lia,fun i h1 h2=>by rw [show i=lo+(n+1)-1 by lia]⟩,by lia,by lia⟩) ?_)
   ·rintro x c ax _ hx ⟨aO,q,rfl,rfl,gy⟩
    have dZ:=gy.1;have d2:=gy.2.1;have e2:=gy.2.2.1;have x1:=gy.2.2.2.1;have x2:=gy.2.2.2.2;clear gy;have oD:=dZ.ok ok;have z2:=dZ.size;dsimp only;refine aw (md h oD (by lia) (by lia) ?_)
    dsimp only;by_cases z:vA key aO (lo+x)<vA key aO (lo+x-1)
    ·rw [bV z,aj rfl]
     by_cases y:q>0
     ·rw [aj y]
      refine aw (oC (av ?_));obtain ⟨d3,hv⟩:=A6 (by lia) d2 e2
      refine ⟨_,0,rfl,rfl,dZ.trans ((ma (by lia)).wide (by have:=e2.1;lia) (by lia)),d3.more (by lia) (by rw [hv,hv];exact dr z),⟨by lia,fun i h1 h2=>by rw [show i=lo+(x+1)-1 by lia]⟩,by lia,by lia⟩
     ·rw [aa y]
      exact av ⟨_,0,rfl,rfl,dZ,d2.more (by lia) (dr z),⟨by lia,fun i h1 h2=>by rw [show i=lo+(x+1)-1 by lia]⟩,by lia,by lia⟩
    ·rw [b3 z,aa (by simp)]
     refine aw (md h oD (by lia) (by lia) ?_)
     dsimp only;by_cases y:vA key aO (lo+x-1)<vA key aO (lo+x)
     ·rw [bV y,aj rfl]
      exact av ⟨_,_,_,rfl,rfl,dZ,d2,e2,x1,x2⟩
     ·rw [b3 y,aa (by simp)]
      have ev:vA key aO (lo+x)=vA key aO (lo+x-1):=by lia
      refine av ⟨_,_,rfl,rfl,dZ,d2.more (by lia) (by lia),⟨by have:=e2.1;lia,fun i h1 h2=>?_⟩,by lia,by lia⟩
      rw [show lo+(x+1)-1=lo+x by lia]
      by_cases w:i=lo+x;·rw [w]
      ·rw [ev]
       exact e2.2 i (by lia) (by lia)
   ·rintro c ax ⟨aO,q,rfl,rfl,gz⟩
    have dZ:=gz.1;have d2:=gz.2.1;have e2:=gz.2.2.1;have x1:=gz.2.2.2.1;have x2:=gz.2.2.2.2;clear gz;exact ⟨aO,_,q,rfl,rfl,dZ,d2,e2,x1,x2⟩
   ·rintro c ax ⟨aO,n2,q2,rfl,rfl,gA⟩
    have dZ:=gA.1;have d2:=gA.2.1;have e2:=gA.2.2.1;have x1:=gA.2.2.2.1;have x2:=gA.2.2.2.2;clear gA;have z2:=dZ.size;dsimp only;by_cases y:q2>0
    ·rw [aj y]
     obtain ⟨d3,hv⟩:=A6 (by lia) d2 e2
     refine aw (oC (aw (oC ?_)));have me:=dZ.trans ((ma (arr:=aO) (i:=lo+n2-(q2+1)) (j:=lo+n2) (by lia)).wide (by have:=e2.1;lia) (show lo+n2≤lo+cQ by lia))
     generalize mirror aO (lo+n2-(q2+1)) (lo+n2) _=cS at d3 me ⊢;have z3:=me.size;have gP:=A7 (by lia) d3
     have b6:=me.trans ((ma (arr:=cS) (i:=lo) (j:=lo+n2) (by lia)).wide (aC lo) (show lo+n2≤lo+cQ by lia))
     generalize mirror cS lo (lo+n2) _=bf at gP b6 ⊢;have mf:=Rl.ok b6 ok;have z4:=Rl.size b6;refine aw (yE h mf (by lia) (by lia) (by lia) gP ?_ fun m m1 mn rH _=>av (k m bf (by lia) mn b6 rH))
     intro x n R a1 a2 r;dsimp only;refine aw (md h mf (by lia) (by lia) ?_)
     dsimp only;by_cases z:vA key bf (lo+n)<vA key bf (lo+n-1)
     ·rw [aj z] at r
      rw [bV z,aj rfl];exact av r
     ·rw [aa z] at r
      rw [b3 z,aa (by simp)]
      exact av r
    ·rw [aa y]
     refine aw (oC ?_);have gP:=A7 (by lia) d2
     have b6:=dZ.trans ((ma (arr:=aO) (i:=lo) (j:=lo+n2) (by lia)).wide (aC lo) (show lo+n2≤lo+cQ by lia))
     generalize mirror aO lo (lo+n2) _=bf at gP b6 ⊢;have mf:=Rl.ok b6 ok;have z4:=Rl.size b6;refine aw (yE h mf (by lia) (by lia) (by lia) gP ?_ fun m m1 mn rH _=>av (k m bf (by lia) mn b6 rH))
     intro x n R a1 a2 r;dsimp only;refine aw (md h mf (by lia) (by lia) ?_)
     dsimp only;by_cases z:vA key bf (lo+n)<vA key bf (lo+n-1)
     ·rw [aj z] at r
      rw [bV z,aj rfl];exact av r
     ·rw [aa z] at r
      rw [b3 z,aa (by simp)]
      exact av r
 ·rw [aa e2]
  have d1:kH key arr lo (lo+n):=fun i j h1 h2 h3=>by
   rw [show i=j by lia]
   exact lA _
  have A8:Rl arr arr lo (lo+cQ):=Rl.refl ..;refine aw (wpS_lift (j8 ⟨rfl,?_⟩))
  refine aw (gH (gm (I:=fun x c ax=>∃(aO:Array Keyed) (q:Nat),ax=bo κ aO pend g∧c=(none,x,q)∧Rl arr aO lo (lo+cQ)∧kH key aO lo (lo+x)∧yC key aO lo x q∧x≤cQ∧1≤x)
   (Q:=fun c ax=>∃(aO:Array Keyed) (n q:Nat),ax=bo κ aO pend g∧c=(none,n,q)∧Rl arr aO lo (lo+cQ)∧kH key aO lo (lo+n)∧yC key aO lo n q∧n≤cQ∧1≤n) ?_ ?_ ⟨arr,0,rfl,rfl,A8,d1.more (by lia) (dr JZ),⟨by lia,fun i h1 h2=>by rw [show i=lo+(n+1)-1 by lia]⟩,by lia,by lia⟩) ?_)
  ·rintro x c ax _ hx ⟨aO,q,rfl,rfl,gB⟩
   have dZ:=gB.1;have d2:=gB.2.1;have e2:=gB.2.2.1;have x1:=gB.2.2.2.1;have x2:=gB.2.2.2.2;clear gB;have oD:=dZ.ok ok;have z2:=dZ.size;dsimp only;refine aw (md h oD (by lia) (by lia) ?_)
   dsimp only;by_cases z:vA key aO (lo+x)<vA key aO (lo+x-1)
   ·rw [bV z,aj rfl]
    by_cases y:q>0
    ·rw [aj y]
     refine aw (oC (av ?_));obtain ⟨d3,hv⟩:=A6 (by lia) d2 e2
     refine ⟨_,0,rfl,rfl,dZ.trans ((ma (by lia)).wide (by have:=e2.1;lia) (by lia)),d3.more (by lia) (by rw [hv,hv];exact dr z),⟨by lia,fun i h1 h2=>by rw [show i=lo+(x+1)-1 by lia]⟩,by lia,by lia⟩
    ·rw [aa y]
     exact av ⟨_,0,rfl,rfl,dZ,d2.more (by lia) (dr z),⟨by lia,fun i h1 h2=>by rw [show i=lo+(x+1)-1 by lia]⟩,by lia,by lia⟩
   ·rw [b3 z,aa (by simp)]
    refine aw (md h oD (by lia) (by lia) ?_)
    dsimp only;by_cases y:vA key aO (lo+x-1)<vA key aO (lo+x)
    ·rw [bV y,aj rfl]
     exact av ⟨_,_,_,rfl,rfl,dZ,d2,e2,x1,x2⟩
    ·rw [b3 y,aa (by simp)]
     have ev:vA key aO (lo+x)=vA key aO (lo+x-1):=by lia
     refine av ⟨_,_,rfl,rfl,dZ,d2.more (by lia) (by lia),⟨by have:=e2.1;lia,fun i h1 h2=>?_⟩,by lia,by lia⟩
     rw [show lo+(x+1)-1=lo+x by lia]
     by_cases w:i=lo+x;·rw [w]
     ·rw [ev]
      exact e2.2 i (by lia) (by lia)
  ·rintro c ax ⟨aO,q,rfl,rfl,u4⟩
   have dZ:=u4.1;have d2:=u4.2.1;have e2:=u4.2.2.1;have x1:=u4.2.2.2.1;have x2:=u4.2.2.2.2;clear u4;exact ⟨aO,_,q,rfl,rfl,dZ,d2,e2,x1,x2⟩
  ·rintro c ax ⟨aO,n2,q2,rfl,rfl,u5⟩
   have dZ:=u5.1;have d2:=u5.2.1;have e2:=u5.2.2.1;have x1:=u5.2.2.2.1;have x2:=u5.2.2.2.2;clear u5;have z2:=dZ.size;dsimp only;by_cases y:q2>0
   ·rw [aj y]
    obtain ⟨d3,hv⟩:=A6 (by lia) d2 e2
    refine aw (oC (aw (oC ?_)));have me:=dZ.trans ((ma (arr:=aO) (i:=lo+n2-(q2+1)) (j:=lo+n2) (by lia)).wide (by have:=e2.1;lia) (show lo+n2≤lo+cQ by lia))
    generalize mirror aO (lo+n2-(q2+1)) (lo+n2) _=cS at d3 me ⊢;have z3:=me.size;have gP:=A7 (by lia) d3
    have b6:=me.trans ((ma (arr:=cS) (i:=lo) (j:=lo+n2) (by lia)).wide (aC lo) (show lo+n2≤lo+cQ by lia))
    generalize mirror cS lo (lo+n2) _=bf at gP b6 ⊢;have mf:=Rl.ok b6 ok;have z4:=Rl.size b6;refine aw (yE h mf (by lia) (by lia) (by lia) gP ?_ fun m m1 mn rH _=>av (k m bf (by lia) mn b6 rH))
    intro x n R a1 a2 r;dsimp only;refine aw (md h mf (by lia) (by lia) ?_)
    dsimp only;by_cases z:vA key bf (lo+n)<vA key bf (lo+n-1)
    ·rw [aj z] at r
     rw [bV z,aj rfl];exact av r
    ·rw [aa z] at r
     rw [b3 z,aa (by simp)]
     exact av r
   ·rw [aa y]
    refine aw (oC ?_);have gP:=A7 (by lia) d2
    have b6:=dZ.trans ((ma (arr:=aO) (i:=lo) (j:=lo+n2) (by lia)).wide (aC lo) (show lo+n2≤lo+cQ by lia))
    generalize mirror aO lo (lo+n2) _=bf at gP b6 ⊢;have mf:=Rl.ok b6 ok;have z4:=Rl.size b6;refine aw (yE h mf (by lia) (by lia) (by lia) gP ?_ fun m m1 mn rH _=>av (k m bf (by lia) mn b6 rH))
    intro x n R a1 a2 r;dsimp only;refine aw (md h mf (by lia) (by lia) ?_)
    dsimp only;by_cases z:vA key bf (lo+n)<vA key bf (lo+n-1)
    ·rw [aj z] at r
     rw [bV z,aj rfl];exact av r
    ·rw [aa z] at r
     rw [b3 z,aa (by simp)]
     exact av r
end
section
variable {prog:Program} {w:World} {A:Around} {E:aJ} {s:Shared} {κ:SortKind} {key:Keyed→Int} {Ok:Keyed→Prop} {arr:Array Keyed} {pend:Array (Nat×Nat×Nat)} {g:Nat}
theorem Sk{Q:Unit→SortSt→Prop}(q:Q () (bo κ (bubble arr i (i-j)) pend g)):wpS (model prog w) A E s (moveDown' i j) Q (bo κ arr pend g):=by rw [moveDown'_eq];exact lB q
variable {d:Nat}
theorem J1{k:Nat}(hi:i<arr.size)(hd:d≤i):vA key (bubble arr i d) k=if k=i-d then vA key arr i else if i-d<k∧k≤i then vA key arr (k-1) else vA key arr k:=by
 unfold vA;rw [l_,getElem?_bubble hi d hd,l_ arr i,l_ arr (k-1),l_ arr k];by_cases a:k=i-d;·rw [aj a,aj a]
 ·rw [aa a,aa a]
  by_cases b:i-d<k∧k≤i;·rw [aj b,aj b]
  ·rw [aa b,aa b]
variable {lo:Nat}
theorem Sl{hi:Nat}(h:i<arr.size)(hd:d≤i)(h1:lo≤i-d)(h2:i<hi):Rl arr (bubble arr i d) lo hi:=⟨bubble_perm ..,fun k hk=>by rw [getElem?_bubble h d hd,aa (by lia),aa (by lia)]⟩
theorem Sm(h:jO prog w A s κ key Ok)(ok:fH Ok arr){n m:Nat}(hz:lo+n≤arr.size)(m1:1≤m)(mn:m≤n)(sg:cZ key arr lo (lo+m)){Q:Bool→SortSt→Prop}
  (k:∀aX,Rl arr aX lo (lo+n)→cZ key aX lo (lo+n)→Q true (bo κ aX pend g)):wpS (model prog w) A E s (binarySort' lo n m) Q (bo κ arr pend g):=by
 rw [binarySort'_eq];have em:max m 1=m:=by lia
 rw [em]
 refine aw (gH (gm (I:=fun x c ax=>∃aO:Array Keyed,ax=bo κ aO pend g∧c=(none,())∧Rl arr aO lo (lo+n)∧cZ key aO lo (lo+x)∧m≤x∧x≤n)
  (Q:=fun c ax=>∃aO:Array Keyed,ax=bo κ aO pend g∧c=(none,())∧Rl arr aO lo (lo+n)∧cZ key aO lo (lo+n)) ?_ ?_ ⟨arr,rfl,rfl,Rl.refl ..,sg,aC _,mn⟩) ?_)
 ·rintro x c ax _ hx ⟨aO,rfl,rfl,rl,sg,x1,x2⟩
  have oD:=rl.ok ok;have z2:=rl.size;dsimp only
  refine aw (gH (gm (I:=fun y c ax=>∃l r:Nat,ax=bo κ aO pend g∧c=(none,l,r)∧l≤r∧r≤x∧r-l+y≤x∧(∀i,i<l→vA key aO (lo+i)≤vA key aO (lo+x))∧(∀i,r≤i→i<x→vA key aO (lo+x)≤vA key aO (lo+i)))
   (Q:=fun c ax=>∃l:Nat,ax=bo κ aO pend g∧c=(none,l,l)∧l≤x∧(∀i,i<l→vA key aO (lo+i)≤vA key aO (lo+x))∧(∀i,l≤i→i<x→vA key aO (lo+x)≤vA key aO (lo+i))) ?_ ?_ ⟨0,x,rfl,rfl,by lia,aC _,show x-0+0≤x by lia,fun i hi=>absurd hi (xD _),fun i h1 h2=>by lia⟩) ?_)
  ·rintro y c ax _ hy ⟨l,r,rfl,rfl,g1,g2,g3,g4,g5⟩
   dsimp only;by_cases z:l≥r
   ·rw [aj z]
    obtain rfl:l=r:=by lia
    exact av ⟨l,rfl,rfl,g2,g4,g5⟩
   ·rw [aa z]
    refine aw (md h oD (by lia) (by lia) ?_)
    dsimp only;by_cases w:vA key aO (lo+x)<vA key aO (lo+(l+r) / 2)
    ·rw [bV w,aj rfl]
     exact av ⟨l,_,rfl,rfl,by lia,by lia,by lia,g4,fun i h1 h2=>dt (dr w) (sg _ _ (by lia) (by lia) (by lia))⟩
    ·rw [b3 w,aa (by simp)]
     exact av ⟨_,r,rfl,rfl,by lia,g2,by lia,fun i h1=>dt (sg _ _ (by lia) (by lia) (by lia)) (Int.not_lt.mp w),g5⟩
  ·rintro c ax ⟨l,r,rfl,rfl,g1,g2,g3,g4,g5⟩
   have:max 0 x=x:=by lia
   obtain rfl:l=r:=by lia
   exact ⟨l,rfl,rfl,g2,g4,g5⟩
  ·rintro c ax ⟨l,rfl,rfl,g2,g4,g5⟩
   dsimp only;refine aw (Sk (av ?_));have ed:lo+x-(lo+l)=x-l:=by lia
   rw [ed];refine ⟨_,rfl,rfl,rl.trans (Sl (by lia) (by lia) (by lia) (by lia)),fun i j h1 h2 h3=>?_,by lia,by lia⟩
   have e0:lo+x-(x-l)=lo+l:=by lia
   rw [J1 (by lia) (by lia),J1 (by lia) (by lia),e0]
   have f4:∀i,lo≤i→i<lo+l→vA key aO i≤vA key aO (lo+x):=fun i a b=>by have:=g4 (i-lo) (by lia);rwa [show lo+(i-lo)=i by lia] at this
   have f5:∀i,lo+l≤i→i<lo+x→vA key aO (lo+x)≤vA key aO i:=fun i a b=>by have:=g5 (i-lo) (by lia) (by lia);rwa [show lo+(i-lo)=i by lia] at this
   by_cases a1:i=lo+l
   ·rw [aj a1]
    by_cases b1:j=lo+l;·rw [aj b1];exact lA _
    ·rw [aa b1,aj (by lia)]
     exact f5 _ (by lia) (by lia)
   ·rw [aa a1]
    by_cases a2:lo+l<i∧i≤lo+x
    ·rw [aj a2,aa (by lia),aj (by lia)]
     exact sg _ _ (by lia) (by lia) (by lia)
    ·rw [aa a2]
     by_cases b1:j=lo+l
     ·rw [aj b1]
      exact f4 i h1 (by lia)
     ·rw [aa b1]
      by_cases b2:lo+l<j∧j≤lo+x
      ·rw [aj b2]
       exact dt (f4 i h1 (by lia)) (f5 _ (by lia) (by lia))
      ·rw [aa b2]
       exact sg _ _ (by lia) (by lia) (by lia)
 ·rintro c ax ⟨aO,rfl,rfl,rl,sg,x1,x2⟩
  have:max m n=n:=by lia
  rw [this] at sg;exact ⟨aO,rfl,rfl,rl,sg⟩
 ·rintro c ax ⟨aO,rfl,rfl,rl,sg⟩
  exact av (k aO rl sg)
end
theorem Sn(i:Nat):mergeAt' i=(do
 let s ←get
 let (some (sa,na,power),some (sb,nb,_)):=((pendingOf s)[i]?,(pendingOf s)[i+1]?) | unsupported "internal:list.sort.pending"
 set (setPending s (((pendingOf s).setIfInBounds i (sa,na+nb,power)).eraseIdxIfInBounds (i+1)))
 let some k ←pQ false (←elem' (arrOf s) sb) (arrOf s) sa na 0 | return false
 let (sa,na):=(sa+k,na-k)
 if na == 0 then return true
 let some nb ←pQ true (←elem' (arrOf s) (sa+na-1)) (arrOf s) sb nb (nb-1) | return false
 if nb == 0 then return true
 let x:=(arrOf s).extract sa sb
 let y:=(arrOf s).extract sb (sb+nb)
 let merged ←if na≤nb then Ew x y else Ex x y
 modify fun s=>setArr s (merged.toList.zipIdx.foldl (fun a (p,j)=>a.setIfInBounds (sa+j) p) (arrOf s))
 return (failedOf (←get)).isNone):=rfl
def putL(m:List Keyed)(o:Nat)(arr:Array Keyed)(n:Nat):Array Keyed:=(m.zipIdx n).foldl (fun a (p,j)=>a.setIfInBounds (o+j) p) arr
theorem J2(m:List Keyed)(o:Nat):∀(arr:Array Keyed) (n k:Nat),o+n+m.length≤arr.size→(putL m o arr n)[k]?=if o+n≤k∧k<o+n+m.length then m[k-(o+n)]? else arr[k]?:=by
 induction m with
 | nil=>
  intro arr n k _;rw [aa (by simp)]
  rfl
 | cons x m ih=>
  intro arr n k hz;rw [eM] at hz ⊢;show (putL m o (arr.setIfInBounds (o+n) x) (n+1))[k]?=_;rw [ih _ _ _ (by simp;lia)]
  by_cases a:o+(n+1)≤k∧k<o+(n+1)+m.length
  ·rw [aj a,aj (by lia),show k-(o+n)=(k-(o+(n+1)))+1 by lia]
   rfl
  ·rw [aa a]
   by_cases b:k=o+n
   ·subst b
    rw [aj (by lia),qw]
    simp [show o+n<arr.size by lia]
   ·rw [aa (by lia)]
    rw [Array.getElem?_setIfInBounds_ne (by lia)]
theorem So{o:Nat}{arr:Array Keyed}(hz:o+m.length≤arr.size):(putL m o arr 0).toList=arr.toList.take o++m++arr.toList.drop (o+m.length):=by
 refine List.ext_getElem? fun k=>?_;have e:(putL m o arr 0).toList[k]?=(putL m o arr 0)[k]?:=by simp
 rw [e,J2 m o arr 0 k (by lia),xE]
 by_cases a:k<o
 ·rw [aa (by lia),jz,gZ (by simp;lia),List.getElem?_take_of_lt a]
  simp
 ·by_cases b:k<o+m.length
  ·rw [aj (by lia),jz,gG (by simp;lia),gZ (by simp;lia)]
   congr 1
   simp;lia
  ·rw [aa (by lia),gG (by simp;lia),List.getElem?_drop]
   have:o+m.length+(k-(arr.toList.take o++m).length)=k:=by simp;lia
   rw [this];simp
section
variable {prog:Program} {w:World} {A:Around} {E:aJ} {s:Shared} {κ:SortKind} {key:Keyed→Int} {Ok:Keyed→Prop} {arr:Array Keyed} {pend:Array (Nat×Nat×Nat)} {g:Nat}
variable {lo hi:Nat}
theorem J3(h:cZ key arr lo hi)(hz:hi≤arr.size):bE key (arr.extract lo hi).toList:=by
 unfold bE;rw [qA];intro i j a_ hj A0;have h1:i<hi-lo∧j<hi-lo:=by simp at a_ hj;lia
 have:=h (lo+i) (lo+j) (by lia) (by lia) (by lia)
 unfold vA at this;simpa [Array.getD,show lo+i<arr.size by lia,show lo+j<arr.size by lia] using this
theorem EF(hz:hi≤arr.size)(a_:lo+i<hi):(arr.extract lo hi).getD i nn=arr.getD (lo+i) nn:=by simp [Array.getD,show lo+i<arr.size by lia,show i<min hi arr.size-lo by lia]
theorem J4(ok:fH Ok arr)(hz:hi≤arr.size):fH Ok (arr.extract lo hi):=fun i a_=>by
 have:lo+i<hi:=by simp at a_;lia
 rw [EF hz this];exact ok _ (by lia)
theorem ext_mem(hz:hi≤arr.size){x:Keyed}(hx:x∈(arr.extract lo hi).toList):∃j,lo≤j∧j<hi∧x=arr.getD j nn:=oB hz hx
theorem Sq{σ:Type}{st ax:σ}{Q:PUnit→σ→Prop}{M:Model}(q:Q ⟨⟩ ax):wpS M A E s (set ax:StateT σ Sem PUnit) Q st:=by unfold wpS;rw [StateT.run_set];exact aB ⟨rfl,q⟩
variable {sa na nb:Nat}
theorem Sr{sb bF cn:Nat}{m:Array Keyed}(hz:sb+nb≤arr.size)(h0:sa+na=sb)(hk:bF≤na)(hb:cn≤nb)(pm:m.toList.Perm ((arr.extract (sa+bF) sb).toList++(arr.extract sb (sb+cn)).toList))(sm:bE key m.toList)
  (s1:cZ key arr sa sb) (s2:cZ key arr sb (sb+nb)) (yF:bF<na) (J5:1≤nb)
  (c1:∀i,i<bF→vA key arr (sa+i)≤vA key arr sb) (c2:∀i,cn≤i→i<nb→vA key arr (sb-1)≤vA key arr (sb+i)) :
  Rl arr (putL m.toList (sa+bF) arr 0) sa (sb+nb)∧cZ key (putL m.toList (sa+bF) arr 0) sa (sb+nb):=by
 have lm:m.toList.length=(na-bF)+cn:=by rw [pm.length_eq,c_,kD,kD];simp;lia
 have hsz:sa+bF+m.toList.length≤arr.size:=by lia
 have at':=J2 m.toList (sa+bF) arr 0;have rl:Rl arr (putL m.toList (sa+bF) arr 0) sa (sb+nb):=by
  refine ⟨ue.mpr ?_,fun k cY=>?_⟩
  ·rw [So hsz]
   have e:arr.toList=arr.toList.take (sa+bF)++((arr.extract (sa+bF) sb).toList++(arr.extract sb (sb+cn)).toList)++arr.toList.drop (sa+bF+m.toList.length):=by
    rw [kD,kD,show sa+bF+m.toList.length=sb+cn by lia,show sb+cn-sb=cn by lia]
    have t1:arr.toList.drop (sa+bF)=(arr.toList.drop (sa+bF)).take (sb-(sa+bF))++arr.toList.drop sb:=by
     have:=(qz (sb-(sa+bF)) (arr.toList.drop (sa+bF))).symm;rw [List.drop_drop,show sa+bF+(sb-(sa+bF))=sb by lia] at this
     exact this
    have t2:arr.toList.drop sb=(arr.toList.drop sb).take cn++arr.toList.drop (sb+cn):=by have:=(qz cn (arr.toList.drop sb)).symm;rw [List.drop_drop] at this;exact this
    have t0:=(qz (sa+bF) arr.toList).symm;rw [t1,t2] at t0;rw [jz,jz];exact t0
   refine List.Perm.trans ?_ (List.Perm.of_eq e.symm);exact List.Perm.append_right _ (Dp _ pm)
  ·rw [at' k (by lia),aa (by lia)]
 have vo:∀k,k<sa+bF∨sb+cn≤k→vA key (putL m.toList (sa+bF) arr 0) k=vA key arr k:=fun k cY=>by unfold vA;rw [l_,at' k (by lia),aa (by lia),l_]
 have vm:∀k,sa+bF≤k→k<sb+cn→∃hj:k-(sa+bF)<m.toList.length,vA key (putL m.toList (sa+bF) arr 0) k=key (m.toList[k-(sa+bF)]'hj):=fun k h1 h2=>by
  have hj:k-(sa+bF)<m.toList.length:=by lia
  refine ⟨hj,?_⟩;unfold vA;rw [l_,at' k (by lia),aj (by lia),xE,bg hj]
  rfl
 have vq:∀k,sa+bF≤k→k<sb+cn→∃q,sa+bF≤q∧q<sb+cn∧vA key (putL m.toList (sa+bF) arr 0) k=vA key arr q:=fun k h1 h2=>by
  obtain ⟨hj,e⟩:=vm k h1 h2;have mm:=pm.mem_iff.mp (cB hj);rcases cH.mp mm with mm | mm
  ·obtain ⟨q,q1,q2,eq⟩:=ext_mem (by lia) mm
   exact ⟨q,q1,by lia,by rw [e,eq];rfl⟩
  ·obtain ⟨q,q1,q2,eq⟩:=ext_mem (by lia) mm
   exact ⟨q,by lia,q2,by rw [e,eq];rfl⟩
 have d1:∀i,sa≤i→i<sa+bF→vA key arr i≤vA key arr sb:=fun i a b=>by
  have:=c1 (i-sa) (by lia)
  rwa [show sa+(i-sa)=i by lia] at this
 have d2:∀j,sb+cn≤j→j<sb+nb→vA key arr (sb-1)≤vA key arr j:=fun j a b=>by
  have:=c2 (j-sb) (by lia) (by lia)
  rwa [show sb+(j-sb)=j by lia] at this
 refine ⟨rl,fun i j h1 h2 h3=>?_⟩;by_cases i1:i<sa+bF
 ·rw [vo i (.inl i1)]
  by_cases j1:j<sa+bF
  ·rw [vo j (.inl j1)]
   exact s1 i j h1 h2 (by lia)
  ·by_cases j2:j<sb+cn
   ·obtain ⟨q,q1,q2,e⟩:=vq j (by lia) j2
    rw [e];by_cases q3:q<sb;·exact s1 i q h1 (by lia) q3
    ·exact dt (d1 i h1 i1) (s2 sb q (aC _) (by lia) (by lia))
   ·rw [vo j (.inr (by lia))]
    exact dt (d1 i h1 i1) (s2 sb j (aC _) (by lia) h3)
 ·by_cases i2:i<sb+cn
  ·by_cases j2:j<sb+cn
   ·obtain ⟨x1,e1⟩:=vm i (by lia) i2
    obtain ⟨x2,e2⟩:=vm j (by lia) j2
    rw [e1,e2];by_cases z:i=j;·subst z;exact lA _
    ·exact qA.mp sm _ _ x1 x2 (by lia)
   ·obtain ⟨q,q1,q2,e⟩:=vq i (by lia) i2
    rw [e,vo j (.inr (by lia))]
    by_cases q3:q<sb;·exact dt (s1 q (sb-1) (by lia) (by lia) (by lia)) (d2 j (by lia) h3)
    ·exact s2 q j (by lia) (by lia) h3
  ·rw [vo i (.inr (by lia)),vo j (.inr (by lia))]
   exact s2 i j (by lia) h2 h3
theorem Ss(h:jO prog w A s κ key Ok)(ok:fH Ok arr){pw oE:Nat}(e1:pend[i]?=some (sa,na,pw))(e2:pend[i+1]?=some (sa+na,nb,oE))(yF:1≤na)(J5:1≤nb)(hz:sa+na+nb≤arr.size)
  (s1:cZ key arr sa (sa+na)) (s2:cZ key arr (sa+na) (sa+na+nb)) {Q:Bool→SortSt→Prop}
  (k:∀aX g',Rl arr aX sa (sa+na+nb)→cZ key aX sa (sa+na+nb)→Q true (bo κ aX ((pend.setIfInBounds i (sa,na+nb,pw)).eraseIdxIfInBounds (i+1)) g')):wpS (model prog w) A E s (mergeAt' i) Q (bo κ arr pend g):=by
 rw [Sn];refine aw (jA ?_);have ot:(pendingOf (bo κ arr pend g))[i]?=some (sa,na,pw):=e1;have Su:(pendingOf (bo κ arr pend g))[i+1]?=some (sa+na,nb,oE):=e2;rw [ot,Su];dsimp only;refine aw (Sq ?_);refine aw (bI (by show sa+na<arr.size;lia) ?_)
 refine aw (jj (f:=fun j=>bB false (vA key arr (sa+na)) (vA key arr (sa+j))) (fun j hj Q q=>ji (κ:=κ) h (by show sa+j<arr.size;lia) ok (ok _ (by lia)) rfl q) (by lia) ?_ fun t t1 t2 t3=>?_)
 ·intro i j h1 h2 h3
  have:vA key arr (sa+i)≤vA key arr (sa+na):=dt (s1 _ _ (by lia) (by lia) (by lia)) (m8 h3)
  show (!decide (vA key arr (sa+na)<vA key arr (sa+i)))=true;simpa using this
 dsimp only;by_cases z1:(na-t == 0)=true
 ·rw [aj z1]
  have tz:t=na:=by have:=eq_of_beq z1;lia
  subst tz;refine av (k arr g (Rl.refl ..) fun i j h1 h2 h3=>?_);by_cases i1:i<sa+t
  ·by_cases j1:j<sa+t
   ·exact s1 i j h1 h2 j1
   ·have:=m8 (t2 (i-sa) (by lia))
    rw [show sa+(i-sa)=i by lia] at this
    exact dt this (s2 _ _ (aC _) (by lia) (by lia))
  ·exact s2 i j (by lia) h2 (by lia)
 rw [aa z1];have tn:t<na:=by
  have:na-t≠0:=fun e=>z1 (by simp [e])
  lia
 refine aw (bI (by show sa+t+(na-t)-1<arr.size;lia) ?_)
 have el:sa+t+(na-t)-1=sa+na-1:=by lia
 rw [el];refine aw (jj (f:=fun j=>bB true (vA key arr (sa+na-1)) (vA key arr (sa+na+j))) (fun j hj Q q=>ji (κ:=κ) h (by show sa+na+j<arr.size;lia) ok (ok _ (by lia)) rfl q) (by lia) ?_ fun u u1 u2 u3=>?_)
 ·intro i j h1 h2 h3
  exact bV (Int.lt_of_le_of_lt (s2 _ _ (by lia) (by lia) (by lia)) (iM h3))
 dsimp only;have Sv:=pR (t3 (na-1) (by lia) (by lia))
 rw [show sa+(na-1)=sa+na-1 by lia] at Sv
 by_cases z2:(u == 0)=true
 ·exfalso
  have:=jk (u3 0 (by have:=eq_of_beq z2;lia) (by lia))
  rw [xE] at this;lia
 rw [aa z2];have un:1≤u:=by
  have:u≠0:=fun e=>z2 (by simp [e])
  lia
 have ox:=J4 ok (lo:=sa+t) (hi:=sa+na) (by lia)
 have oy:=J4 ok (lo:=sa+na) (hi:=sa+na+u) (by lia)
 have sx:bE key (arr.extract (sa+t) (sa+na)).toList:=J3 (fun i j h1 h2 h3=>s1 i j (by lia) h2 h3) (by lia)
 have sy:bE key (arr.extract (sa+na) (sa+na+u)).toList:=J3 (fun i j h1 h2 h3=>s2 i j h1 h2 (by lia)) (by lia)
 have zx:(arr.extract (sa+t) (sa+na)).size=na-t:=by simp;lia
 have zy:(arr.extract (sa+na) (sa+na+u)).size=u:=by simp;lia
 have h0:∀x∈(arr.extract (sa+t) (sa+na)).toList,key ((arr.extract (sa+na) (sa+na+u)).getD 0 nn)≤key x:=fun x hx=>by
  obtain ⟨j,j1,j2,rfl⟩:=ext_mem (by lia) hx
  rw [EF (by lia) (by lia),xE]
  have:=pR (t3 (j-sa) (by lia) (by lia))
  rw [show sa+(j-sa)=j by lia] at this
  exact dr this
 have hl:∀y∈(arr.extract (sa+na) (sa+na+u)).toList,key y≤key ((arr.extract (sa+t) (sa+na)).getD ((arr.extract (sa+t) (sa+na)).size-1) nn):=fun y hy=>by
  obtain ⟨j,j1,j2,rfl⟩:=ext_mem (by lia) hy
  rw [zx,EF (by lia) (by lia),show sa+t+(na-t-1)=sa+na-1 by lia]
  have:=iM (u2 (j-(sa+na)) (by lia))
  rw [show sa+na+(j-(sa+na))=j by lia] at this
  exact dr this
 have fin:∀(m:Array Keyed) (g':Nat),m.toList.Perm ((arr.extract (sa+t) (sa+na)).toList++(arr.extract (sa+na) (sa+na+u)).toList)→bE key m.toList→Q true (bo κ (putL m.toList (sa+t) arr 0) ((pend.setIfInBounds i (sa,na+nb,pw)).eraseIdxIfInBounds (i+1)) g'):=fun m g' pm sm=>by obtain ⟨rl,sg⟩:=Sr (sb:=sa+na) hz rfl (xl tn) u1 pm sm s1 s2 tn J5 (fun i hi=>m8 (t2 i hi)) (fun i h1 h2=>jk (u3 i h1 h2));exact k _ g' rl sg
 refine fu (fun _=>?_) (fun _=>?_)
 ·refine aw (Sb (κ:=κ) h ox oy sx sy (by lia) (by lia) h0 hl rfl fun m g' pm sm=>?_)
  exact aw (lB (aw (jA (av (fin m g' pm sm)))))
 ·refine aw (Sh (κ:=κ) h ox oy sx sy (by lia) (by lia) h0 hl rfl fun m g' pm sm=>?_)
  exact aw (lB (aw (jA (av (fin m g' pm sm)))))
end
def cX(key:Keyed→Int)(arr:Array Keyed):List (Nat×Nat×Nat)→Nat→Nat→Prop
 | [],lo,hi=>lo=hi
 | p::r,lo,hi=>p.1=lo∧1≤p.2.1∧cZ key arr lo (lo+p.2.1)∧cX key arr r (lo+p.2.1) hi
section
variable {key:Keyed→Int} {arr aX:Array Keyed}
theorem cX.le:∀{l:List (Nat×Nat×Nat)} {lo hi:Nat},cX key arr l lo hi→lo+l.length≤hi
 | [],lo,hi,h=>by have:lo=hi:=h;simp;lia
 | p::r,lo,hi,h=>by have:=cX.le h.2.2.2;have:=h.2.1;simp only [eM];lia
variable {hi:Nat}
theorem cZ.cO{lo a b:Nat}(h:cZ key arr lo hi)(rl:Rl arr aX a b)(d:hi≤a∨b≤lo):cZ key aX lo hi:=fun i j h1 h2 h3=>by
 rw [rl.v (by lia),rl.v (by lia)]
 exact h i j h1 h2 h3
theorem cX.cO:∀{l:List (Nat×Nat×Nat)} {lo hi a b:Nat},cX key arr l lo hi→Rl arr aX a b→hi≤a∨b≤lo→cX key aX l lo hi
 | [],lo,hi,a,b,h,_,_=>h
 | p::r,lo,hi,a,b,h,rl,d=>by have:=h.2.2.2.le;refine ⟨h.1,h.2.1,h.2.2.1.cO rl (by lia),h.2.2.2.cO rl (by lia)⟩
theorem cX.snoc:∀{l:List (Nat×Nat×Nat)} {lo hi n pw:Nat},cX key arr l lo hi→1≤n→cZ key arr hi (hi+n)→cX key arr (l++[(hi,n,pw)]) lo (hi+n)
 | [],lo,hi,n,pw,h,n1,s=>by obtain rfl:lo=hi:=h;exact ⟨rfl,n1,s,rfl⟩
 | p::r,lo,hi,n,pw,h,n1,s=>⟨h.1,h.2.1,h.2.2.1,h.2.2.2.snoc n1 s⟩
theorem cX.two:∀{l:List (Nat×Nat×Nat)} {lo hi i:Nat},cX key arr l lo hi→i+1<l.length→∃sa na pw nb oE,l[i]?=some (sa,na,pw)∧l[i+1]?=some (sa+na,nb,oE)∧1≤na∧1≤nb∧lo≤sa∧sa+na+nb≤hi∧cZ key arr sa (sa+na)∧cZ key arr (sa+na) (sa+na+nb) ∧
  ∀aX,Rl arr aX sa (sa+na+nb)→cZ key aX sa (sa+na+nb)→cX key aX ((l.set i (sa,na+nb,pw)).eraseIdx (i+1)) lo hi
 | [],lo,hi,i,h,a_=>by simp at a_
 | [p],lo,hi,i,h,a_=>by simp at a_
 | p::q::r,lo,hi,0,h,_=>by
  obtain ⟨p1,p2,pw⟩:=p;obtain ⟨q1,q2,oE⟩:=q;obtain ⟨e1,n1,s1,e2,n2,s2,c⟩:=h;dsimp only at e1 n1 s1 e2 n2 s2 c;subst e1;subst e2;have:=c.le;refine ⟨p1,p2,pw,q2,oE,rfl,rfl,n1,n2,aC _,by lia,s1,s2,fun aX rl sg=>?_⟩
  show cX key aX ((p1,p2+q2,pw)::r) p1 hi;refine ⟨rfl,by show 1≤p2+q2;lia,by show cZ key aX p1 (p1+(p2+q2));rw [←Nat.add_assoc];exact sg,?_⟩
  show cX key aX r (p1+(p2+q2)) hi;rw [←Nat.add_assoc];exact c.cO rl (.inr (aC _))
 | p::q::r,lo,hi,i+1,h,a_=>by
  obtain ⟨sa,na,pw,nb,oE,e1,e2,n1,n2,l1,l2,s1,s2,k⟩:=h.2.2.2.two (i:=i) (by simpa using a_)
  refine ⟨sa,na,pw,nb,oE,e1,e2,n1,n2,by lia,l2,s1,s2,fun aX rl sg=>?_⟩
  exact ⟨h.1,h.2.1,h.2.2.1.cO rl (.inl l1),k aX rl sg⟩
theorem cX.last:∀{l:List (Nat×Nat×Nat)} {lo hi pw:Nat},cX key arr l lo hi→cX key arr (l.modify (l.length-1) fun x=>(x.1,x.2.1,pw)) lo hi
 | [],lo,hi,pw,h=>h
 | [p],lo,hi,pw,h=>h
 | p::q::r,lo,hi,pw,h=>⟨h.1,h.2.1,h.2.2.1,h.2.2.2.last⟩
theorem cX.one{l:List (Nat×Nat×Nat)}(h:cX key arr l 0 hi)(hl:l.length≤1):cZ key arr 0 hi:=by
 match l,h,hl with
 | [],h,_=>have:0=hi:=h;exact fun i j h1 h2 h3=>by lia
 | [p],h,_=>have:=h.2.2.1;have e:0+p.2.1=hi:=h.2.2.2;rw [←e];exact this
 | p::q::r,_,hl=>simp at hl
end
section
variable {prog:Program} {w:World} {A:Around} {E:aJ} {s:Shared} {κ:SortKind} {key:Keyed→Int} {Ok:Keyed→Prop} {arr:Array Keyed} {pend:Array (Nat×Nat×Nat)} {g:Nat}
theorem EG(h:jO prog w A s κ key Ok)(ok:fH Ok arr){hi:Nat}(c:cX key arr pend.toList 0 hi)(hz:hi≤arr.size)(a_:i+1<pend.size){Q:Bool→SortSt→Prop}
  (k:∀aX EH g',Rl arr aX 0 hi→cX key aX EH.toList 0 hi→EH.size+1=pend.size→Q true (bo κ aX EH g')):wpS (model prog w) A E s (mergeAt' i) Q (bo κ arr pend g):=by
 obtain ⟨sa,na,pw,nb,oE,e1,e2,n1,n2,l1,l2,s1,s2,kk⟩:=c.two (i:=i) (by simpa using a_)
 refine Ss h ok (by simpa using e1) (by simpa using e2) n1 n2 (by lia) s1 s2 fun aX g' rl sg=>?_
 refine k _ _ _ (rl.wide (bG _) l2) ?_ ?_
 ·have:=kk aX rl sg
  simpa using this
 ·rw [←fA,Array.toList_eraseIdxIfInBounds,List.length_eraseIdx,aj (by simpa using a_)]
  simp;lia
theorem J6(h:jO prog w A s κ key Ok)(ok:fH Ok arr){Q:Unit→SortSt→Prop}
  (k:∀aX ax,aX.Perm arr→cZ key aX 0 arr.size→arrOf ax=aX→failedOf ax=none→Q () ax):wpS (model prog w) A E s sortRuns' Q (bo κ arr #[] g):=by
 rw [sortRuns'_eq];refine aw (jA ?_);dsimp only;have es:(arrOf (bo κ arr #[] g)).size=arr.size:=rfl;rw [es]
 refine aw (gH (gm (I:=fun x c ax=>∃(aO:Array Keyed) (eX:Array (Nat×Nat×Nat)) (g2 lo:Nat),ax=bo κ aO eX g2∧c=(none,lo)∧aO.Perm arr∧cX key aO eX.toList 0 lo∧lo≤arr.size∧x≤lo)
  (Q:=fun c ax=>∃(aO:Array Keyed) (eX:Array (Nat×Nat×Nat)) (g2:Nat),ax=bo κ aO eX g2∧c=(none,arr.size)∧aO.Perm arr∧cX key aO eX.toList 0 arr.size) ?_ ?_ ⟨arr,#[],g,0,rfl,rfl,Array.Perm.refl _,rfl,bG _,aC _⟩) ?_)
 ·rintro x c ax _ hx ⟨aO,eX,g2,lo,rfl,rfl,pV,rJ,l1,l2⟩
  have oD:=u0 ok pV;have z2:=pV.size_eq;dsimp only;by_cases z:lo≥arr.size
  ·rw [aj z]
   obtain rfl:lo=arr.size:=by lia
   exact av ⟨aO,eX,g2,rfl,rfl,pV,rJ⟩
  rw [aa z];refine aw (Si h oD (by lia) (by lia) fun n cS n1 nn me sg=>?_)
  have eY:=me.pm.trans pV;have J7:=u0 ok eY;have z3:=eY.size_eq;have jl:=rJ.cO me (.inl (aC _));dsimp only;by_cases y:n<minRun' arr.size arr.size 0
  ·rw [aj y]
   refine aw (wpS_lift (j8 ⟨rfl,?_⟩));refine aw (Sm h J7 (n:=min (arr.size-lo) (minRun' arr.size arr.size 0)) (by lia) n1 (by lia) sg fun bf b6 gP=>?_)
   rw [aa (by simp)]
   have gQ:=jl.cO b6 (.inl (aC _));have EI:=b6.pm.trans eY;clear jl eY J7 z3 sg me b6;have f1:1≤min (arr.size-lo) (minRun' arr.size arr.size 0):=by lia
   have f2:lo+min (arr.size-lo) (minRun' arr.size arr.size 0)≤arr.size:=by lia
   generalize min (arr.size-lo) (minRun' arr.size arr.size 0)=fo at gP f1 f2 ⊢
   revert gQ EI gP
   generalize bf=cS;intro jl eY gP;refine aw (jA ?_);have eb:(pendingOf (bo κ cS eX g2)).back?=eX.back?:=rfl;rw [eb];cases eX.back? with
   | none=>dsimp only;exact aw (lB (av ⟨cS,eX.push (lo,fo,0),g2,lo+fo,rfl,rfl,eY,by rw [oY];exact jl.snoc f1 gP,f2,by have:=f1;lia⟩))
   | some p=>
    obtain ⟨Sw,A9,Sx⟩:=p;dsimp only;have z3:=eY.size_eq
    refine aw (gH (gm (I:=fun y c ax=>∃(bf:Array Keyed) (bT:Array (Nat×Nat×Nat)) (g4:Nat),ax=bo κ bf bT g4∧c=(none,())∧Rl cS bf 0 lo∧cX key bf bT.toList 0 lo)
     (Q:=fun c ax=>∃(bf:Array Keyed) (bT:Array (Nat×Nat×Nat)) (g4:Nat),ax=bo κ bf bT g4∧c=(none,())∧Rl cS bf 0 lo∧cX key bf bT.toList 0 lo) ?_ (fun c ax hh=>hh) ⟨cS,eX,g2,rfl,rfl,Rl.refl ..,jl⟩) ?_)
    ·rintro y c ax _ hy ⟨bf,bT,g4,rfl,rfl,b6,gQ⟩
     have z4:=b6.size;refine aw (jA ?_);have hx:∀o,o=(if (pendingOf (bo κ bf bT g4)).size>1 then (pendingOf (bo κ bf bT g4))[(pendingOf (bo κ bf bT g4)).size-2]? else none)→o.isSome=true→bT.size>1:=fun o ho hs=>by
      by_cases z:bT.size>1;·exact z
      ·rw [aa z] at ho
       rw [ho] at hs;cases hs
     generalize eo:(if (pendingOf (bo κ bf bT g4)).size>1 then (pendingOf (bo κ bf bT g4))[(pendingOf (bo κ bf bT g4)).size-2]? else none)=o
     cases o with
     | none=>exact av ⟨bf,bT,g4,rfl,rfl,b6,gQ⟩
     | some p=>
      have gt:=hx _ eo.symm rfl;obtain ⟨q1,q2,Sy⟩:=p;dsimp only;refine fu (fun _=>av ⟨bf,bT,g4,rfl,rfl,b6,gQ⟩) (fun _=>?_);refine aw (EG h (u0 ok (b6.pm.trans eY)) gQ (by lia) (show bT.size-2+1<bT.size by lia) fun EJ EK g5 EL EM _=>?_)
      rw [aa (by simp)]
      exact av ⟨EJ,EK,g5,rfl,rfl,b6.trans EL,EM⟩
    ·rintro c ax ⟨bf,bT,g4,rfl,rfl,b6,gQ⟩
     dsimp only;refine aw (lB (aw (lB (av ⟨bf,_,g4,lo+fo,rfl,rfl,b6.pm.trans eY,?_,f2,by have:=f1;lia⟩))))
     rw [oY];refine cX.snoc ?_ f1 (cZ.cO gP b6 (.inr (aC _)));rw [Array.toList_modify];exact gQ.last
  ·rw [aa y]
   have f2:lo+n≤arr.size:=by lia
   refine aw (jA ?_);have eb:(pendingOf (bo κ cS eX g2)).back?=eX.back?:=rfl;rw [eb];cases eX.back? with
   | none=>dsimp only;exact aw (lB (av ⟨cS,eX.push (lo,n,0),g2,lo+n,rfl,rfl,eY,by rw [oY];exact jl.snoc n1 sg,f2,by have:=n1;lia⟩))
   | some p=>
    obtain ⟨Sw,A9,Sx⟩:=p;dsimp only;have z3:=eY.size_eq
    refine aw (gH (gm (I:=fun y c ax=>∃(bf:Array Keyed) (bT:Array (Nat×Nat×Nat)) (g4:Nat),ax=bo κ bf bT g4∧c=(none,())∧Rl cS bf 0 lo∧cX key bf bT.toList 0 lo)
     (Q:=fun c ax=>∃(bf:Array Keyed) (bT:Array (Nat×Nat×Nat)) (g4:Nat),ax=bo κ bf bT g4∧c=(none,())∧Rl cS bf 0 lo∧cX key bf bT.toList 0 lo) ?_ (fun c ax hh=>hh) ⟨cS,eX,g2,rfl,rfl,Rl.refl ..,jl⟩) ?_)
    ·rintro y c ax _ hy ⟨bf,bT,g4,rfl,rfl,b6,gQ⟩
     have z4:=b6.size;refine aw (jA ?_);have hx:∀o,o=(if (pendingOf (bo κ bf bT g4)).size>1 then (pendingOf (bo κ bf bT g4))[(pendingOf (bo κ bf bT g4)).size-2]? else none)→o.isSome=true→bT.size>1:=fun o ho hs=>by
      by_cases z:bT.size>1;·exact z
      ·rw [aa z] at ho
       rw [ho] at hs;cases hs
     generalize eo:(if (pendingOf (bo κ bf bT g4)).size>1 then (pendingOf (bo κ bf bT g4))[(pendingOf (bo κ bf bT g4)).size-2]? else none)=o
     cases o with
     | none=>exact av ⟨bf,bT,g4,rfl,rfl,b6,gQ⟩
     | some p=>
      have gt:=hx _ eo.symm rfl;obtain ⟨q1,q2,Sy⟩:=p;dsimp only;refine fu (fun _=>av ⟨bf,bT,g4,rfl,rfl,b6,gQ⟩) (fun _=>?_);refine aw (EG h (u0 ok (b6.pm.trans eY)) gQ (by lia) (show bT.size-2+1<bT.size by lia) fun EJ EK g5 EL EM _=>?_)
      rw [aa (by simp)]
      exact av ⟨EJ,EK,g5,rfl,rfl,b6.trans EL,EM⟩
    ·rintro c ax ⟨bf,bT,g4,rfl,rfl,b6,gQ⟩
     dsimp only;refine aw (lB (aw (lB (av ⟨bf,_,g4,lo+n,rfl,rfl,b6.pm.trans eY,?_,f2,by have:=n1;lia⟩))))
     rw [oY];refine cX.snoc ?_ n1 (cZ.cO sg b6 (.inr (aC _)));rw [Array.toList_modify];exact gQ.last
 ·rintro c ax ⟨aO,eX,g2,lo,rfl,rfl,pV,rJ,l1,l2⟩
  obtain rfl:lo=arr.size:=by lia
  exact ⟨aO,eX,g2,rfl,rfl,pV,rJ⟩
 ·rintro c ax ⟨aO,eX,g2,rfl,rfl,pV,rJ⟩
  dsimp only;have pz:=rJ.le
  refine aw (gH (gm (I:=fun x c ax=>∃(cS:Array Keyed) (eZ:Array (Nat×Nat×Nat)) (g3:Nat),ax=bo κ cS eZ g3∧c=(none,())∧cS.Perm arr∧cX key cS eZ.toList 0 arr.size∧eZ.size+x≤arr.size)
   (Q:=fun c ax=>∃(cS:Array Keyed) (eZ:Array (Nat×Nat×Nat)) (g3:Nat),ax=bo κ cS eZ g3∧c=(none,())∧cS.Perm arr∧cX key cS eZ.toList 0 arr.size∧eZ.size≤1) ?_ ?_ ⟨aO,eX,g2,rfl,rfl,pV,rJ,show eX.size+0≤arr.size by simpa using pz⟩) ?_)
  ·rintro x c ax _ hx ⟨cS,eZ,g3,rfl,rfl,eY,jl,l3⟩
   have z3:=eY.size_eq;refine aw (jA ?_);by_cases z:(pendingOf (bo κ cS eZ g3)).size≤1
   ·rw [aj z]
    exact av ⟨cS,eZ,g3,rfl,rfl,eY,jl,z⟩
   ·rw [aa z]
    have z':1<eZ.size:=Nat.lt_of_not_le z;have go:∀i,i+1<eZ.size→wpS (model prog w) A E s (mergeAt' i) (fun b ax=>b=true∧∃(bf:Array Keyed) (bT:Array (Nat×Nat×Nat)) (g4:Nat),ax=bo κ bf bT g4∧bf.Perm arr∧cX key bf bT.toList 0 arr.size∧bT.size+(x+1)≤arr.size) (bo κ cS eZ g3):=fun i hi=>by refine EG h (u0 ok eY) jl (by lia) hi fun bf bT g4 b6 gQ sz=>⟨rfl,bf,bT,g4,rfl,b6.pm.trans eY,gQ,by lia⟩
    refine aw (gH (go _ ?_) ?_)
    ·show (if _ then _ else _)+1<eZ.size
     have e:(pendingOf (bo κ cS eZ g3)).size=eZ.size:=rfl;rw [e];have:∀c:Bool,(if c=true then eZ.size-2-1 else eZ.size-2)+1<eZ.size:=fun c=>by cases c <;> simp <;> lia
     exact this _
    ·rintro b ax ⟨rfl,bf,bT,g4,rfl,EI,gQ,l4⟩
     rw [aa (by simp)]
     exact av ⟨bf,bT,g4,rfl,rfl,EI,gQ,l4⟩
  ·rintro c ax ⟨cS,eZ,g3,rfl,rfl,eY,jl,l3⟩
   exact ⟨cS,eZ,g3,rfl,rfl,eY,jl,by lia⟩
  ·rintro c ax ⟨cS,eZ,g3,rfl,rfl,eY,jl,l3⟩
   exact av (k cS _ eY (jl.one (by simpa using l3)) rfl rfl)
end
end Tm
namespace My
open PySem PySem.W PyProof.Rows Tm
section
variable {prog:Program} {w:World} {A:Around} {E:aJ} {s:Shared}
def e8(h:Heap)(v:Value)(x y:Int):Prop:=∃a o t u e,v=.ref a∧h.get? a=some o∧o.cls=.type "tuple"∧o.data=.seq #[.int x t,.int y u] e
variable {x y x' y':Int}
theorem Sz{v v':Value}(h1:e8 s.heap v x y)(h2:e8 s.heap v' x' y'){Q:Bool→Shared→Prop}(h:Q (decide (x<x'∨x=x'∧y<y')) s):wpAny (model prog w) A (keyLt' (tuples' true) v v') Q E s:=by
 obtain ⟨a,o,t,u,e,rfl,g,_,d⟩:=h1;obtain ⟨a',o',t',u',e',rfl,g',_,d'⟩:=h2;refine kat_lt g d g' d' ?_;show KatLex prog w A true (decide (2<2)) Q [(.int x t,.int x' t'),(.int y u,.int y' u')] 0 s;refine kat_cons (wpAny_eqBool_int ?_);by_cases z:x=x'
 ·subst z
  rw [show (x == x)=true by simp]
  refine kat_yes (kat_cons (wpAny_eqBool_int ?_));by_cases z2:y=y'
  ·subst z2
   rw [show (y == y)=true by simp]
   refine kat_yes (kat_nil ?_);rw [b3 (by lia)] at h
   exact h
  ·rw [show (y == y')=false by simp [z2]]
   refine kat_no ?_;show wpAny (model prog w) A (oneLt' false (.int y u) (.int y' u')) Q _ s;refine kat_one _ _ (lt_int ?_);show Q (decide (y<y')) s;rw [show decide (y<y')=decide (x<x∨x=x∧y<y') from qB.mpr (by lia)]
   exact h
 ·rw [show (x == x')=false by simp [z]]
  refine kat_no ?_;show wpAny (model prog w) A (oneLt' true (.int x t) (.int x' t')) Q _ s;refine oneLt_int ?_;rw [show decide (x<x')=decide (x<x'∨x=x'∧y<y') from qB.mpr (by lia)]
  exact h
theorem J8{h:Heap}:∀{vs:List Value},(∀v∈vs,∃x y,e8 h v x y)→∃fs:List Value,KatTups h vs fs∧fs.length=vs.length∧∀f∈fs,∃n t,f=.int n t
 | [],_=>⟨[],.nil,rfl,fun f hf=>by cases hf⟩
 | v::vs,hv=>by
  obtain ⟨fs,k,l,i⟩:=J8 (vs:=vs) fun v h=>hv v (cA _ h);obtain ⟨x,y,a,o,t,u,e,rfl,g,c,d⟩:=hv v cw;refine ⟨.int x t::fs,.cons g c d rfl k,by rw [eM,eM,l],fun f hf=>?_⟩
  rcases bU.mp hf with rfl | hf;·exact ⟨x,t,rfl⟩
  ·exact i f hf
theorem perm_back{α β:Type}{f:α→β}{l m:List β}(h:l.Perm m):∀q:List α,m=q.map f→∃p:List α,p.Perm q∧l=p.map f:=by
 induction h with
 | nil=>intro q e;exact ⟨q,List.Perm.refl _,e⟩
 | cons x _ ih=>
  intro q e
  match q,e with
  | a::q,e=>obtain ⟨rfl,e'⟩:=List.cons.inj e;obtain ⟨p,hp,rfl⟩:=ih q e';exact ⟨a::p,hp.cons a,rfl⟩
 | swap x y _=>
  intro q e
  match q,e with
  | a::b::q,e=>obtain ⟨rfl,e'⟩:=List.cons.inj e;obtain ⟨rfl,rfl⟩:=List.cons.inj e';exact ⟨b::a::q,List.Perm.swap ..,rfl⟩
 | trans _ _ SA SD=>intro q e;obtain ⟨p,hp,e1⟩:=SD q e;obtain ⟨p',SE,e2⟩:=SA p e1;exact ⟨p',SE.trans hp,e2⟩
variable {h:Heap}
theorem e8.uniq{v:Value}(h1:e8 h v x y)(h2:e8 h v x' y'):x=x'∧y=y':=by obtain ⟨a,o,t,u,e,rfl,g,_,d⟩:=h1;obtain ⟨a',o',t',u',e',ev,g',_,d'⟩:=h2;cases ev;rw [g] at g';cases g';rw [d] at d';simp at d';exact ⟨d'.1.1.1,d'.1.2.1⟩
open Classical in
noncomputable def EN (h:Heap) (k:Keyed):Int:=if e:∃z:Int×Int,e8 h k.1 z.1 z.2 then (choose e).1*1000+(choose e).2 else 0
theorem A_{v u:Value}(p:e8 h v x y):EN h (v,u)=x*1000+y:=by have e:∃z:Int×Int,e8 h (v,u).1 z.1 z.2:=⟨(x,y),p⟩;unfold EN;rw [dif_pos e];obtain ⟨a,b⟩:=(Dn e).uniq p;rw [a,b]
variable {vs:List Value}
theorem SF{x y:Nat→Int}(h2:2≤vs.length)(hv:∀i v,vs[i]?=some v→e8 s.heap v (x i) (y i)∧0≤y i∧y i<1000){Q:SortSt→Shared→Prop}
  (hQ:∀(p:Array Nat) (st:SortSt),oz vs.length p→rB (fun i=>x i*1000+y i) p vs.length→(arrOf st).map (·.2)=List.toArray (p.toList.map fun i=>vs.getD i Value.none)→failedOf st=none→Q st s) :
  wpAny (model prog w) A (sortRuns'.run (SortSt.mk' (tuples' true) (vs.toArray.zip vs.toArray) #[] 7 none)) (fun r s'=>Q r.2 s') E s:=by
 have az:(vs.toArray.zip vs.toArray).size=vs.length:=by simp
 have ag:∀i,i<vs.length→(vs.toArray.zip vs.toArray).getD i nn=(vs.getD i Value.none,vs.getD i Value.none):=fun i hi=>by simp [Array.getD,hi]
 have ga:∀i (hi:i<vs.length),e8 s.heap (vs.getD i Value.none) (x i) (y i)∧0≤y i∧y i<1000:=fun i hi=>by refine hv i _ ?_;simp [hi]
 have lt:jO prog w A s (tuples' true) (EN s.heap) (fun k=>∃a b,e8 s.heap k.1 a b∧0≤b∧b<1000):=by
  rintro ⟨u,u'⟩ ⟨v,v'⟩ ⟨a,b,p1,b0,b1⟩ ⟨c,d,p2,d0,d1⟩ C hC;refine Sz p1 p2 ?_;rw [A_ p1,A_ p2] at hC;rw [show decide (a<c∨a=c∧b<d)=decide (a*1000+b<c*1000+d) from qB.mpr (by lia)]
  exact hC
 have ok:fH (fun k=>∃a b,e8 s.heap k.1 a b∧0≤b∧b<1000) (vs.toArray.zip vs.toArray):=fun i hi=>by rw [az] at hi;rw [ag i hi];exact ⟨_,_,ga i hi⟩
 refine bJ (J6 (E:=E) (Q:=fun _ st=>Q st s) (g:=7) lt ok fun aX st pm sg ha hf=>?_) (fun r s' h'=>by obtain ⟨rfl,h'⟩:=h';exact h') fun _ _ e=>e
 have el:(vs.toArray.zip vs.toArray).toList=(List.range vs.length).map fun i=>(vs.getD i Value.none,vs.getD i Value.none):=by
  refine g7 (by simp) fun i h1 h2=>?_
  have hi:i<vs.length:=by simpa using h2
  simp [hi]
 obtain ⟨p,hp,ep⟩:=perm_back (ue.mp pm) _ el;have pl:p.length=vs.length:=by rw [hp.length_eq,dJ]
 have EO:∀i∈p,i<vs.length:=fun i hi=>cu.mp (hp.mem_iff.mp hi);have hsz:aX.size=vs.length:=by rw [pm.size_eq,az]
 have gd:∀i,i<vs.length→aX.getD i nn=(vs.getD (p.toArray.getD i 0) Value.none,vs.getD (p.toArray.getD i 0) Value.none)∧p.toArray.getD i 0<vs.length:=fun i hi=>by
  have e1:aX.getD i nn=aX.toList[i]'(by simp;lia):=by simp [Array.getD,show i<aX.size by lia]
  have e2:p.toArray.getD i 0=p[i]'(by lia):=by simp [Array.getD,show i<p.length by lia]
  rw [e1,e2];refine ⟨?_,EO _ (cB _)⟩;simp [ep]
 refine hQ p.toArray st (ue.mpr (by simpa using hp)) (fun i j h1 h3=>?_) ?_ hf
 ·have:=sg i j (bG _) h1 (by rw [az];exact h3)
  unfold vA at this;obtain ⟨e1,l1⟩:=gd i (by lia)
  obtain ⟨e2,l2⟩:=gd j h3;rw [e1,e2,A_ (ga _ l1).1,A_ (ga _ l2).1] at this;exact this
 ·rw [ha]
  apply Array.toList_inj.mp;rw [Array.toList_map,ep,bw];rfl
theorem SG{Q:SortKind→Shared→Prop}(h1:1≤vs.length)(hv:∀v∈vs,∃x y,e8 s.heap v x y)(h:Q (tuples' true) s):wpAny (model prog w) A (keyKind' vs.toArray) Q E s:=by
 obtain ⟨fs,k,l,i⟩:=J8 hv;refine kat_kind (T:=Value.type "int") k (by lia) (fun v hv=>?_) rfl h
 obtain ⟨n,t,rfl⟩:=i v hv;exact .now
theorem e8.mono{h':Heap}{v:Value}(k:∀b o,h.get? b=some o→h'.get? b=some o)(p:e8 h v x y):e8 h' v x y:=by obtain ⟨a,o,t,u,e,rfl,g,c,d⟩:=p;exact ⟨a,o,t,u,e,rfl,k _ _ g,c,d⟩
theorem SH{a:Addr}{n:Nat}{x y:Nat→Int}{P:PySem.Fin→Shared→Prop}(ho:s.heap.get? a=some (seqObj "list" vs.toArray n))(yG:vs.length<2000)(hv:∀i v,vs[i]?=some v→e8 s.heap v (x i) (y i)∧0≤y i∧y i<1000)
  (h:∀(p:Array Nat),oz vs.length p→rB (fun i=>x i*1000+y i) p vs.length→P (.done (.ret .none)) {s with heap:=sortedHeap s.heap a vs (List.toArray (p.toList.map fun i=>vs.getD i Value.none))}) :
  wpAny (model prog w) A (Builtin.«list.sort» ⟨[.ref a],[]⟩) P E s:=by
 have sl:vs.length≤sizeLine:=by rw [gY];lia
 have lt:=aZ ho
 obtain ⟨e1,g1⟩:∃e,(s.heap.update a (Obj.mapSeq fun _=>#[])).get? a=some (seqObj "list" #[] e):=⟨_,o7 ho fun _=>#[]⟩
 have z1:(s.heap.update a (Obj.mapSeq fun _=>#[])).objs.size=s.heap.objs.size:=xF _ _ _
 have up:∀b u,b<s.heap.objs.size→(s.heap.update a (Obj.mapSeq fun _=>#[])).get? b=some u→(((s.heap.update a (Obj.mapSeq fun _=>#[])).push (seqObj "tuple" vs.toArray 0)).push (seqObj "list" #[] 0)).get? b=some u:=fun b u hb hu=>by
  rw [o_ _ _ _ (bM (by rw [qC,z1];exact mI hb)),o_ _ _ _ (bM (by rw [z1];exact hb))]
  exact hu
 have g3:=up a _ lt g1
 have J9:∀i v,vs[i]?=some v→e8 (((s.heap.update a (Obj.mapSeq fun _=>#[])).push (seqObj "tuple" vs.toArray 0)).push (seqObj "list" #[] 0)) v (x i) (y i)∧0≤y i∧y i<1000:=fun i v hi=>by
  obtain ⟨⟨b,o,t,u,e,rfl,g,cc,d⟩,y0⟩:=hv i v hi
  have nb:b≠a:=fun q=>by
   rw [q,ho] at g
   cases g
   exact absurd (Value.type.inj cc) (by decide)
  refine ⟨⟨b,o,t,u,e,rfl,up b o (aZ g) ?_,cc,d⟩,y0⟩
  rw [uf _ _ _ _ nb]
  exact g
 rw [list_sort_plain]
 refine ae (listItems_at ho rfl (ae (ug ho rfl ?_ (by rw [b4];lia) (bG _))))
 refine ae (seqEpoch_at g1 rfl (ae (wpAny_newTuple ?_ (by show vs.length≤_;lia))))
 refine ae (uh (gX ?_) (bG _))
 show wpAny (model prog w) A _ P E {s with heap:=((s.heap.update a (Obj.mapSeq fun _=>#[])).push (seqObj "tuple" vs.toArray 0)).push (seqObj "list" #[] 0)}
 dsimp only
 have fin:∀(st:SortSt) (p:Array Nat),oz vs.length p→rB (fun i=>x i*1000+y i) p vs.length→(arrOf st).map (·.2)=List.toArray (p.toList.map fun i=>vs.getD i Value.none)→failedOf st=none→
   wpAny (model prog w) A (do
    let touched:=(←seqEpoch a) != e1
    Builtin.List.listUpdate (.ref a) fun _=>(arrOf st).map (·.2)
    if let some e:=failedOf st then rule "list.sort.comparison-raised";throw e
    if touched then rule "list.sort.modified";raiseError "ValueError" "list modified during sort"
    ret .none) P E {s with heap:=((s.heap.update a (Obj.mapSeq fun _=>#[])).push (seqObj "tuple" vs.toArray 0)).push (seqObj "list" #[] 0)}:=fun st p hp hu ha hf=>by
  refine ae (seqEpoch_at g3 rfl (ae (ug g3 rfl ?_ (bG _) ?_)))
  ·rw [hf,ha]
   simp only [bne_self_eq_false,jB,gg]
   exact aB (h p hp hu)
  ·rw [ha,b4,aG,fA,hp.size]
   lia
 by_cases z:vs.toArray.size<2
 ·rw [aj z,aj z]
  refine ae (aB ?_)
  rw [StateT.run_pure]
  refine ae (aB ?_)
  have len:vs.length<2:=by simpa using z
  refine fin _ (List.toArray (List.range vs.length)) (Array.Perm.refl _) (fun a b h1 h2=>by
   obtain rfl:a=b:=by lia
   exact lA _) ?_ rfl
  match vs,len with
  | [],_=>
   show Array.map (·.2) ((#[]:Array Value).zip #[])=_
   simp
  | [v],_=>
   show Array.map (·.2) (#[v].zip #[v])=_
   simp
 ·rw [aa z,aa z]
  have len:2≤vs.length:=by simpa using z
  refine ae (SG (by lia) (fun v hm=>?_) ?_)
  ·obtain ⟨i,hi,rfl⟩:=uc hm
   exact ⟨_,_,(J9 i _ (by simp [hi])).1⟩
  ·refine ae (bJ (SF (Q:=fun st s'=>s'={s with heap:=((s.heap.update a (Obj.mapSeq fun _=>#[])).push (seqObj "tuple" vs.toArray 0)).push (seqObj "list" #[] 0)}∧∃p,oz vs.length p∧rB (fun i=>x i*1000+y i) p vs.length∧(arrOf st).map (·.2)=List.toArray (p.toList.map fun i=>vs.getD i Value.none)∧failedOf st=none) len J9 fun p st a1 a2 a3 a4=>⟨rfl,p,a1,a2,a3,a4⟩) ?_ fun _ _ e=>e)
   rintro ⟨⟨⟩,st⟩ s' ⟨rfl,p,a1,a2,a3,a4⟩
   exact fin st p a1 a2 a3 a4
end
open PySem PySem.W PyProof.Rows
section
variable {prog:Program} {w:World} {A:Around} {E:aJ} {s:Shared}
theorem SI{l:Addr}{vs:List Value}{x y:Nat→Int}{Q:aJ}(hl:s.heap.IsList l vs.toArray)(yG:vs.length<2000)(hv:∀i v,vs[i]?=some v→e8 s.heap v (x i) (y i)∧0≤y i∧y i<1000)
  (h:∀(p:Array Nat) (h':Heap) (c:Nat),oz vs.length p→rB (fun i=>x i*1000+y i) p vs.length→(∀b o,s.heap.get? b=some o→h'.get? b=some o)→h'.get? (s.heap.objs.size+1)=some (seqObj "list" (List.toArray (p.toList.map fun i=>vs.getD i Value.none)) c)→Q (.ref (s.heap.objs.size+1)) {s with heap:=h'}) :
  wpAny (model prog w) A (call (.builtin "sorted") [.ref l]) Q E s:=by
 have sl:vs.length≤sizeLine:=by rw [gY];lia
 refine Calls.call_function_entry kind_sorted plain_sorted entry_sorted (args_sorted1 _) ?_;unfold Builtin.«sorted»;refine ae (m:=checkCount "sorted" 1 1 _) (aB (ae (collect_list hl (ae (uh ?_ sl)) sl)));have zz:((s.heap.push (seqObj "list" #[] 0)).update s.heap.objs.size (Obj.mapSeq (·++vs.toArray))).objs.size=s.heap.objs.size+1:=by rw [xF,qC]
 have kp:∀b o,s.heap.get? b=some o→(((s.heap.push (seqObj "list" #[] 0)).update s.heap.objs.size (Obj.mapSeq (·++vs.toArray))).push (seqObj "list" vs.toArray 0)).get? b=some o:=fun b o g=>by
  have lt:=aZ g;rw [o_ _ _ _ (bM (by rw [zz];exact mI lt)),uf _ _ _ _ (bM lt),o_ _ _ _ (bM lt)]
  exact g
 have gL:(((s.heap.push (seqObj "list" #[] 0)).update s.heap.objs.size (Obj.mapSeq (·++vs.toArray))).push (seqObj "list" vs.toArray 0)).get? (s.heap.objs.size+1)=some (seqObj "list" vs.toArray 0):=by rw [←zz];exact cK _ rfl
 show wpAny _ _ _ _ _ {s with heap:=((s.heap.push (seqObj "list" #[] 0)).update s.heap.objs.size (Obj.mapSeq (·++vs.toArray))).push (seqObj "list" vs.toArray 0)};rw [zz];generalize ((s.heap.push (seqObj "list" #[] 0)).update s.heap.objs.size (Obj.mapSeq (·++vs.toArray))).push (seqObj "list" vs.toArray 0)=h1 at kp gL;refine ae (gX (lE slot_list_sort ⟨_,gL,rfl⟩ entry_list_sort (SH (s:={s with heap:=h1}) gL yG (fun i v hi=>⟨(hv i v hi).1.mono kp,(hv i v hi).2⟩) fun p hp hu=>⟨_,rfl,?_⟩) (args_list_sort _)));have SJ:=aZ gL;have z1:(h1.update (s.heap.objs.size+1) (Obj.mapSeq fun _=>#[])).objs.size=h1.objs.size:=xF _ _ _;obtain ⟨e1,g1⟩:∃e,(h1.update (s.heap.objs.size+1) (Obj.mapSeq fun _=>#[])).get? (s.heap.objs.size+1)=some (seqObj "list" #[] e):=⟨_,o7 gL fun _=>#[]⟩;have up:∀b u,b<h1.objs.size→(h1.update (s.heap.objs.size+1) (Obj.mapSeq fun _=>#[])).get? b=some u→(((h1.update (s.heap.objs.size+1) (Obj.mapSeq fun _=>#[])).push (seqObj "tuple" vs.toArray 0)).push (seqObj "list" #[] 0)).get? b=some u:=fun b u hb hu=>by
  rw [o_ _ _ _ (bM (by rw [qC,z1];exact mI hb)),o_ _ _ _ (bM (by rw [z1];exact hb))]
  exact hu
 have g3:=up _ _ SJ g1;refine aB ⟨_,rfl,h p _ _ hp hu (fun b o g=>?_) (o7 g3 fun _=>List.toArray (p.toList.map fun i=>vs.getD i Value.none))⟩;have g':=kp b o g;have ne:b≠s.heap.objs.size+1:=bM (mI (aZ g));show (Heap.update _ _ _).get? b=some o;rw [uf _ _ _ _ ne];refine up b o (aZ g') ?_;rw [uf _ _ _ _ ne];exact g'
end
end My
namespace L2
open PySem PySem.W PyProof.Rows My
def SK:List V→Hp→VK→Prop:=fun xs H Q=>∃(a:Addr) (vs:List V) (x y:Nat→Int),xs=[.ref a]∧H a=some (.lst vs)∧vs.length<2000∧(∀(i:Nat) (v:V),vs[i]?=some v→(∃b,v=.ref b∧H b=some (.tup [.int (x i),.int (y i)]))∧0≤y i∧y i<1000) ∧
 ∀(p:Array Nat) (l:Addr),oz vs.length p→rB (fun i=>x i*1000+y i) p vs.length→H l=none→Q (.ref l) (upd H l (.lst (p.toList.map fun i=>vs.getD i .aS)))
theorem ER{xs:List V}{us:List Value}(r:Vals xs us):∀(ns:List Nat),(∀i∈ns,i<xs.length)→Vals (ns.map fun i=>xs.getD i .aS) (ns.map fun i=>us.getD i Value.none)
 | [],_=>.nil
 | i::ns,h=>by
  have hi:=h i cw;obtain ⟨u,e,ru⟩:=r.get (i:=i) (x:=xs[i]) (by simp [hi])
  refine .cons ?_ (ER r ns fun j hj=>h j (cA _ hj));dsimp only;rw [show xs.getD i .aS=xs[i] by simp [hi],show us.getD i Value.none=u by rw [eN,e];rfl]
  exact ru
theorem SM{X:Cx}:eQ X (.builtin "sorted") SK:=by
 intro pins s σ H xs us Q I r h;obtain ⟨a,vs,x,y,rfl,ha,yG,hv,k⟩:=h;obtain ⟨u,rfl,ru⟩:=vals1 r;cases ru;obtain ⟨ak,rv,pl,hz⟩:=I.list (.of ha);have hl:=rv.length;refine SI (x:=x) (y:=y) pl.isList (by lia) (fun i v hi=>?_) fun p h' c hp hu kp g=>?_
 ·have a_:i<vs.length:=by have:=(bx.mp hi).1;lia
  have gi:vs[i]?=some vs[i]:=by simp [a_]
  obtain ⟨⟨b,eb,hb⟩,ES⟩:=hv i _ gi;obtain ⟨u,eu,ru⟩:=rv.get gi;rw [hi] at eu;cases eu;rw [eb] at ru;cases ru;obtain ⟨_,jb,r2,o,g,cl,e,d⟩:=(show b9 X.prog X.w H s.heap b (.tup [.int (x i),.int (y i)]) from I.ay b _ hb);obtain ⟨u1,u2,rfl,q1,q2⟩:=vals2 r2;obtain ⟨t1,rfl⟩:=q1;obtain ⟨t2,rfl⟩:=q2;exact ⟨⟨b,o,t1,t2,e,rfl,g,cl,d⟩,ES⟩
 ·rw [←hl] at hp hu
  have sz:=hp.size;refine ⟨.ref (s.heap.objs.size+1),_,I.laid (t':=s.toks) (o:=.lst (p.toList.map fun i=>vs.getD i .aS)) kp (oX _) ⟨?_,p.toList.map fun i=>ak.getD i Value.none,c,?_,g⟩,rfl,k p _ hp hu (I.ay.fresh (oX _))⟩
  ·rw [aG,fA,sz]
   exact hz
  ·refine ER rv _ fun i hi=>?_
   have m:i∈List.toArray (List.range vs.length):=(Array.Perm.mem_iff hp).mp (Array.mem_toList_iff.mp hi);simpa using m
end L2
namespace My
open PySem L2
def SN(K:aK):R2:=fun x y H Q=>∃a b xs,x=.ref a∧y=.ref b∧bz K H a xs∧H b=some (.lst [])∧Q (.bl (!xs.isEmpty)) H
theorem ET{X:Cx}(hu:X.A.units+64<cLine):cU X (compareOp .NotEq) (SN X.K):=by
 intro pins s σ H x y v u Q I rx ry h;obtain ⟨a,b,xs,rfl,rfl,h1,h2,q⟩:=h;cases rx;cases ry;obtain ⟨us,r1,t1,_⟩:=I.list h1;obtain ⟨vs,r2,t2,_⟩:=I.list (bz.of h2);have l1:=r1.length;have l2:=r2.length;cases xs with
 | nil=>
  refine SeqAt.RcNeAt.lists (e:=fun _=>true) t1.isList t2.isList (by simp at l1 l2 ⊢;lia) (by lia) (fun j z1 z2=>?_) _ _ _ _ ?_
  ·simp at l1
   have:us=[]:=Dr.mp l1.symm;subst this;simp at z1
  ·rw [all_range]
   exact ⟨.bl false,H,I,rfl,q⟩
 | cons w ws=>
  refine SeqAt.RcNeAt.lists_lengths t1.isList t2.isList ?_ (by lia) _ _ _ _ ⟨.bl true,H,I,rfl,q⟩
  simp at l1 l2 ⊢;lia
variable {σ:St} {H:Hp}
theorem J_{c:TT}{t u:TS}{D:Ends}(M:St→Hp→Prop)(hM:∀σ H,M σ H→D.nx σ H)(k:∀R:St→Hp→Prop,(∀σ H,M σ H→R σ H)→DG c t u {D with nx:=R} σ H):DG c t u D σ H:=k D.nx hM
def SO(K:aK):Sp:=fun vs H Q _=>∃(P a l:Addr) (ns:List Int) (xs:List V),vs=[.ref P,.ref l]∧bt H P a∧bz K (er P H) a (ns.map V.int)∧l≠P∧H l=some (.lst xs)∧xs.length≤100 ∧
 ∀(r:Addr) (ys:List V) (H':Hp),aU P H H'→bt H' P a→er P H r=none→r≠P→H' r=some (.lst ys)→ys.Perm xs→Q (.ref r) H'
def SQ(K:aK):Sp:=fun vs H Q _=>∃(P a:Addr) (ns:List Int) (way size wide i j:Int),vs=[.ref P,.int way,.int size,.int wide,.int i,.int j]∧bt H P a∧bz K (er P H) a (ns.map V.int) ∧
 ∀(b:Bool) (H':Hp),aU P H H'→bt H' P a→Q (.bl b) H'
theorem Ka{α:Type}:∀(zs:List α) (k:Nat) (h:k<zs.length),(zs[k]::zs.eraseIdx k).Perm zs
 | _::_,0,_=>.refl _
 | z::zs,k+1,h=>(List.Perm.swap _ _ _).trans ((Ka zs k (by simpa using h)).cons z)
def cz(H:Hp)(vs:List V)(L:aE):Prop:=vs.length=L.length∧∀(k:Nat) (v:V) (p:Int×Int),vs[k]?=some v→L[k]?=some p→∃b,v=.ref b∧H b=some (.tup [.int p.1,.int p.2])
theorem cz.nil(H:Hp):cz H [] []:=⟨rfl,fun k v p h=>by simp at h⟩
variable {H':Hp} {vs:List V} {L:aE}
theorem cz.mono(h:cz H vs L)(s:ao H H'):cz H' vs L:=⟨h.1,fun k v p h1 h2=>by obtain ⟨b,e,g⟩:=h.2 k v p h1 h2;exact ⟨b,e,s _ _ g⟩⟩
variable {r:Addr} {xs:List V}
theorem cz.cO(h:cz H vs L)(e:H r=some (.lst xs))(k:∀b o,b≠r→H b=some o→H' b=some o):cz H' vs L:=⟨h.1,fun i v p h1 h2=>by obtain ⟨b,eb,g⟩:=h.2 i v p h1 h2;refine ⟨b,eb,k b _ (fun z=>?_) g⟩;rw [z,e] at g;cases g⟩
variable {b:Addr} {p:Int×Int}
theorem cz.push(h:cz H vs L)(e:H b=some (.tup [.int p.1,.int p.2])):cz H (vs++[.ref b]) (L++[p]):=⟨by simp [h.1],fun k v q h1 h2=>by
 have hl:=h.1;by_cases z:k<vs.length
 ·rw [gZ z] at h1
  rw [gZ (by lia)] at h2
  exact h.2 k v q h1 h2
 ·have hk:=(bx.mp h1).1
  rw [c_,lp] at hk;obtain rfl:k=vs.length:=by lia
  rw [gG (aC _),qw] at h1;rw [gG (by lia),show vs.length-L.length=0 by lia] at h2
  cases h1;cases h2;exact ⟨b,rfl,e⟩⟩
structure kJ (n:Nat) (L:aE):Prop where
 nd:L.Nodup
 lt:∀p∈L,0≤p.1∧p.1<p.2∧p.2<n
 eB:L.length≤n*n / 2
def lexLt(p q:Int×Int):Prop:=p.1<q.1∨p.1=q.1∧p.2<q.2
variable {M:aE}
theorem SR{p:Array Nat}(P:oz M.length p)(U:rB (fun i=>(M.getD i (0,0)).1*1000+(M.getD i (0,0)).2) p M.length)(nd:M.Nodup)(b:∀q∈M,0≤q.2∧q.2<1000) :
  (p.toList.map fun i=>M.getD i (0,0)).Perm M∧(p.toList.map fun i=>M.getD i (0,0)).Pairwise lexLt:=by
 have pm:p.toList.Perm (List.range M.length):=ue.mp P;have pn:p.toList.Nodup:=pm.nodup_iff.mpr mK;have lt:∀i∈p.toList,i<M.length:=fun i hi=>cu.mp (pm.mem_iff.mp hi);refine ⟨?_,?_⟩
 ·have e:((List.range M.length).map fun i=>M.getD i (0,0))=M:=by
   refine g7 (by simp) fun i h1 h2=>?_
   rw [fQ,qD,getD_at h2]
  have:=pm.map fun i=>M.getD i (0,0);rw [e] at this;exact this
 ·rw [qA]
  intro i j hi hj A0;rw [aG] at hi hj;rw [fQ,fQ];have sz:=P.size;have li:p.toList[i]<M.length:=lt _ (cB _);have lj:p.toList[j]<M.length:=lt _ (cB _);have u:=U i j (by lia) (by rw [←sz,←fA];exact hj)
  unfold vN at u;have gi:p.getD i 0=p.toList[i]:=by
   have:i<p.size:=by rw [←fA];exact hi
   simp [Array.getD,this]
  have gj:p.getD j 0=p.toList[j]:=by
   have:j<p.size:=by rw [←fA];exact hj
   simp [Array.getD,this]
  rw [gi,gj] at u;dsimp only at u;rw [getD_at li,getD_at lj] at u;rw [getD_at li,getD_at lj];have ne:M[p.toList[i]]≠M[p.toList[j]]:=fun e=>by have e1:=(zT nd).mp e;have e2:=(zT pn).mp e1;lia
  have b1:=b _ (cB li);have b2:=b _ (cB lj);generalize M[p.toList[i]]=x at u ne b1;generalize M[p.toList[j]]=y at u ne b2;obtain ⟨x1,x2⟩:=x;obtain ⟨y1,y2⟩:=y;unfold lexLt;dsimp only at u b1 b2 ⊢;by_cases z:x1<y1;·exact .inl z
  ·right
   have e1:x1=y1:=by lia
   subst e1;refine ⟨rfl,?_⟩;by_cases y:x2=y2
   ·subst y
    exact absurd rfl ne
   ·lia
theorem Ba{α β:Type}{f:α→β}:∀{L:List α},L.Nodup→(∀p q,p∈L→q∈L→f p=f q→p=q)→(L.map f).Nodup
 | [],_,_=>qE
 | x::L,h,k=>by obtain ⟨h1,h2⟩:=fB.mp h;refine fB.mpr ⟨fun m=>?_,Ba h2 fun p q hp hq=>k p q (cA _ hp) (cA _ hq)⟩;obtain ⟨y,hy,e⟩:=b7.mp m;have:=k y x (cA _ hy) cw e;rw [this] at hy;exact h1 hy
def iT(nm:Nat→Int)(p:Int×Int):Int×Int:=(min (nm p.1.toNat) (nm p.2.toNat),max (nm p.1.toNat) (nm p.2.toNat))
structure EU (n:Nat) (nm:Nat→Int):Prop where
 lt:∀i,i<n→0≤nm i∧nm i<n
 inj:∀i j,i<n→j<n→nm i=nm j→i=j
variable {n:Nat}
theorem SS{nm:Nat→Int}(h:kJ n L)(N:EU n nm):kJ n (L.map (iT nm)) where
 nd:=by
  refine Ba h.nd fun p q hp hq e=>?_;have a:=h.lt p hp;have b:=h.lt q hq;obtain ⟨p1,p2⟩:=p;obtain ⟨q1,q2⟩:=q;obtain ⟨i,rfl⟩:=iA (show 0≤p1 by dsimp only at a;lia)
  obtain ⟨j,rfl⟩:=iA (show 0≤p2 by dsimp only at a;lia)
  obtain ⟨k,rfl⟩:=iA (show 0≤q1 by dsimp only at b;lia)
  obtain ⟨l,rfl⟩:=iA (show 0≤q2 by dsimp only at b;lia)
  dsimp only at a b;have e1:=eL Prod.fst e;have e2:=eL Prod.snd e;unfold iT at e1 e2;simp only [dF] at e1 e2;have ij:nm i≠nm j:=fun z=>by have:=N.inj i j (by lia) (by lia) z;lia
  have kl:nm k≠nm l:=fun z=>by have:=N.inj k l (by lia) (by lia) z;lia
  by_cases z:nm i=nm k
  ·have e3:nm j=nm l:=by lia
   have i1:=N.inj i k (by lia) (by lia) z
   have i2:=N.inj j l (by lia) (by lia) e3
   rw [i1,i2]
  ·have e3:nm i=nm l:=by lia
   have e4:nm j=nm k:=by lia
   have i1:=N.inj i l (by lia) (by lia) e3
   have i2:=N.inj j k (by lia) (by lia) e4
   lia
 lt:=fun p hp=>by
  obtain ⟨q,hq,rfl⟩:=b7.mp hp;have a:=h.lt q hq;have n1:=N.lt q.1.toNat (by lia)
  have n2:=N.lt q.2.toNat (by lia)
  have ne:nm q.1.toNat≠nm q.2.toNat:=fun z=>by have:=N.inj _ _ (by lia) (by lia) z;lia
  unfold iT;dsimp only;lia
 eB:=by rw [aG];exact h.eB
theorem kJ.perm{L':aE}(h:kJ n L)(p:L'.Perm L):kJ n L':=⟨p.nodup_iff.mpr h.nd,fun q hq=>h.lt q (p.mem_iff.mp hq),by rw [p.length_eq];exact h.eB⟩
def dS(H:Hp)(t:Addr)(n:Nat)(L:aE):Prop:=∃(lt:Addr) (us:List V),H t=some (.tup [.int (n:Int),.ref lt])∧H lt=some (.tup us)∧cz H us L
def SU:Sp:=fun vs H Q _=>∃(l r:Addr) (n:Nat) (us ws:List V) (L:aE) (nm:Nat→Int),vs=[.int (n:Int),.ref l,.ref r]∧H l=some (.lst us)∧cz H us L∧kJ n L∧n≤30∧H r=some (.lst ws)∧ws.length=n∧(∀i,i<n→ws[i]?=some (.int (nm i)))∧EU n nm ∧
 ∀(t:Addr) (L':aE) (H':Hp),ao H H'→H t=none→dS H' t n L'→kJ n L'→L'.Pairwise lexLt→L'.Perm (L.map (iT nm))→Q (.ref t) H'
variable {us:List V}
theorem cz.pick(h:cz H us M)(ns:List Nat)(hn:∀i∈ns,i<M.length):cz H (ns.map fun i=>us.getD i .aS) (ns.map fun i=>M.getD i (0,0)):=⟨by simp,fun k v p h1 h2=>by
 have hl:=h.1;have hk:k<ns.length:=by have:=(bx.mp h1).1;simpa using this
 have hi:=hn ns[k] (cB hk);rw [bP,bg hk] at h1 h2;cases h1;cases h2;dsimp only;have a_:ns[k]<us.length:=by lia
 rw [getD_at hi];have e:us.getD ns[k] .aS=us[ns[k]]:=by simp [a_]
 rw [e];exact h.2 ns[k] _ _ (by simp [a_]) (by simp [hi])⟩
variable {wi:TI} {ρ:St→St} {tt:TT} {te:TE} {Q:VK} {P a:Addr}
theorem SV{K:aK}{l:Addr}(hn:xs.length<sizeLine)(nl:l≠P)(el:H l=some (.lst xs))(pc:bt H P a)
  (eV:∀R:It→Hp→Prop,R (i9 K l) H→wi σ H R)
  (test:∀(i:Nat) (x:V),xs[i]?=some x→∀(Hc:Hp) (R:Bool→Hp→Prop),aU P H Hc→bt Hc P a→(∀b H3,aU P Hc H3→bt H3 P a→R b H3)→tt (some x::ρ σ) Hc R)
  (elem:∀(x:V) (Hc:Hp) (R:VK),R x Hc→te (some x::ρ σ) Hc R)
  (fin:∀(D:Addr) (ys:List V) (Hc:Hp),D≠P→er P H D=none→aU P H Hc→bt Hc P a→ys.Sublist xs→Hc D=some (.lst ys)→Q (.ref D) Hc):hV wi ρ tt te σ H Q:=by
 refine eV _ fun D nD=>?_;have nP:=pc.ne nD;have lD:l≠D:=fun e=>by rw [e,nD] at el;cases el
 refine ⟨fun i m ys Hc=>m=xs.length-i∧i≤xs.length∧Hc D=some (.lst ys)∧aU P H Hc∧bt Hc P a∧ys.Sublist (xs.take i),⟨_,rfl,bG _,au,(aU.refl H).but nD,pc.upd nP,by simp⟩,?_⟩
 rintro i m ys Hc ⟨rfl,hi,eD,sH,Kb,sub⟩;refine ⟨eD,?_⟩;have EV:=sH.at nl el;by_cases aT:i<xs.length
 ·refine .inr ⟨⟨xs,xs[i],.of EV,by simp [aT]⟩,fun x H' hy=>?_⟩
  obtain ⟨rfl,hx⟩:=hy;have ex:=hx xs (.of EV);refine test i x ex _ _ sH Kb fun b H3 s3 p3=>?_;have tk:xs.take (i+1)=xs.take i++[x]:=by rw [iZ,ex];rfl
  have e3:=s3.at nP eD;cases b with
  | true=>
   rw [aj rfl];refine elem x H3 _ ⟨e3,?_,xs.length-(i+1),by lia,rfl,aT,au,(sH.trans s3).but nD,p3.upd nP,?_⟩
   ·have:=sub.length_le
    rw [oW] at this;lia
   ·rw [tk]
    exact sub.append (List.Sublist.refl _)
  | false=>
   rw [aa (by simp)]
   refine ⟨xs.length-(i+1),by lia,rfl,aT,e3,sH.trans s3,p3,?_⟩
   rw [tk];exact sub.trans (List.sublist_append_left _ _)
 ·have e:i=xs.length:=by lia
  subst e;rw [gh] at sub;exact .inl ⟨⟨xs,.of EV,by lia⟩,fin D ys Hc nP (by rw [fk nP];exact nD) sH Kb sub eD⟩
def gC(k:Nat)(d:List Nat):Prop:=d.Pairwise (fun a b=>b<a)∧∀x∈d,x<k
theorem gC.len:∀{d:List Nat} {k:Nat},gC k d→d.length≤k
 | [],_,_=>bG _
 | x::d,k,h=>by obtain ⟨h1,h2⟩:=mL.mp h.1;have:=gC.len (k:=x) ⟨h2,fun y hy=>h1 y hy⟩;have:=h.2 x cw;rw [eM];lia
theorem gC.nil(k:Nat):gC k []:=⟨List.Pairwise.nil,fun x hx=>by cases hx⟩
variable {k:Nat} {d:List Nat}
theorem gC.sub{e:List Nat}(h:gC k d)(s:e.Sublist d):gC k e:=⟨h.1.sublist s,fun x hx=>h.2 x (s.subset hx)⟩
variable {j:Nat}
theorem gC.put(h:gC k d)(hk:k<j):gC j (k::d):=⟨mL.mpr ⟨h.2,h.1⟩,fun x hx=>by
 rcases bU.mp hx with rfl | hx;·exact hk
 ·have:=h.2 x hx
  lia⟩
theorem gC.nd(h:gC k d):d.Nodup:=h.1.imp fun h=>by lia
def fI(d:List Nat):List V:=d.map fun(x:Nat)=>V.int (x:Int)
theorem EW:∀{d:List Nat} {ys:List V},ys.Sublist (fI d)→∃e:List Nat,e.Sublist d∧ys=fI e
 | [],ys,h=>⟨[],List.Sublist.refl _,by have h:ys.Sublist []:=h;rw [List.sublist_nil.mp h];rfl⟩
 | x::d,ys,h=>by
  have h:ys.Sublist (V.int (x:Int)::fI d):=h;cases h with
  | cons _ h=>obtain ⟨e,h1,h2⟩:=EW h;exact ⟨e,h1.cons _,h2⟩
  | cons_cons _ h=>obtain ⟨e,h1,h2⟩:=EW h;exact ⟨x::e,.cons_cons _ h1,by rw [h2];rfl⟩
structure oF (j:Nat) (L:aE):Prop where
 nd:L.Nodup
 lt:∀p∈L,0≤p.1∧p.1<p.2∧p.2<j
 eB:2*L.length≤j*(j-1)
theorem oF.nil:oF 1 []:=⟨qE,(fun p hp=>by cases hp),by simp⟩
theorem oF.ok(h:oF n L):kJ n L:=⟨h.nd,h.lt,by
 have:=h.eB;have:n*(n-1)≤n*n:=Nat.mul_le_mul_left _ (by lia)
 lia⟩
theorem oF.more(h:oF j L)(hd:gC j d):oF (j+1) (L++d.map fun(x:Nat)=>((x:Int),(j:Int))) where
 nd:=by
  refine nX.mpr ⟨h.nd,Ba hd.nd fun p q _ _ e=>by have:=eL Prod.fst e;dsimp only at this;lia,fun p hp q hq e=>?_⟩
  obtain ⟨x,_,rfl⟩:=b7.mp hq;have:=h.lt p hp;rw [e] at this;dsimp only at this;lia
 lt:=fun p hp=>by
  rcases cH.mp hp with hp | hp
  ·have:=h.lt p hp
   lia
  ·obtain ⟨x,hx,rfl⟩:=b7.mp hp
   have:=hd.2 x hx;dsimp only;lia
 eB:=by
  have a:=h.eB;have b:=hd.len;rw [c_,aG,xG];cases j with
  | zero=>rw [Nat.zero_mul] at a;rw [Nat.mul_zero];lia
  | succ j=>
   rw [xG] at a;have e:(j+1+1)*(j+1)=(j+1)*j+2*(j+1):=by grind
   rw [e];lia
def SW(K:aK):Sp:=fun vs H Q _=>∃(P a:Addr) (ns:List Int) (n:Nat),vs=[.ref P,.int (n:Int)]∧bt H P a∧bz K (er P H) a (ns.map V.int)∧1≤n∧n≤30 ∧
 ∀(r:Addr) (us:List V) (L:aE) (H':Hp),aU P H H'→bt H' P a→er P H r=none→r≠P→H' r=some (.lst us)→cz (er P H') us L→kJ n L→Q (.ref r) H'
def SX(H:Hp)(vs:List V)(j:Nat)(D:Nat→List Nat):Prop:=vs.length=j∧∀k,k<j→gC k (D k)∧∃b,vs[k]?=some (.ref b)∧H b=some (.lst (fI (D k)))
theorem EX{o:HO}:∀b o',b≠r→er P H b=some o'→er P (upd H r o) b=some o':=fun b o' nb e=>by
 by_cases z:b=P
 ·subst z
  unfold er at e;rw [aj rfl] at e;cases e
 ·rw [fk z] at e ⊢
  rw [aM nb];exact e
theorem cz.cat{zs:List V}(h:cz H us L)(g:cz H zs M):cz H (us++zs) (L++M):=⟨by simp [h.1,g.1],fun k v p h1 h2=>by
 have hl:=h.1;by_cases z:k<us.length
 ·rw [gZ z] at h1
  rw [gZ (by lia)] at h2
  exact h.2 k v p h1 h2
 ·rw [gG (by lia)] at h1
  rw [gG (by lia),show k-L.length=k-us.length by lia] at h2
  exact g.2 _ v p h1 h2⟩
variable {i:Nat}
theorem SY{x:V}(h:(fI d)[i]?=some x):∃y,d[i]?=some y∧x=.int (y:Int):=by
 unfold fI at h;rw [bP] at h;cases e:d[i]? with
 | none=>rw [e] at h;cases h
 | some y=>rw [e] at h;cases h;exact ⟨y,rfl,rfl⟩
theorem yH(p:bt H P a)(e:H b=some (.tup xs)):er P H b=some (.tup xs):=by refine uV (fun z=>?_) e;obtain ⟨x,y,eP,_⟩:=p;rw [z,eP] at e;cases e
structure iq (j i:Nat) (L:aE):Prop where
 nd:L.Nodup
 lt:∀p∈L,0≤p.1∧p.1<p.2∧(p.2<j∨p.2=j∧p.1<i)
 eB:2*L.length≤j*(j-1)+2*i
theorem iq.start:iq 0 0 []:=⟨qE,(fun p hp=>by cases hp),by simp⟩
theorem iq.skip(h:iq j i L):iq j (i+1) L:=⟨h.nd,fun p hp=>by
 have:=h.lt p hp;lia,by
 have:=h.eB;lia⟩
theorem iq.push(h:iq j i L)(hi:i<j):iq j (i+1) (L++[((i:Int),(j:Int))]) where
 nd:=by
  refine nX.mpr ⟨h.nd,by simp,fun p hp q hq e=>?_⟩
  rw [bY.mp hq] at e;have:=h.lt p hp;rw [e] at this;dsimp only at this;lia
 lt:=fun p hp=>by
  rcases cH.mp hp with hp | hp
  ·have:=h.lt p hp
   lia
  ·rw [bY.mp hp]
   dsimp only;lia
 eB:=by have:=h.eB;rw [c_,lp];lia
theorem iq.next(h:iq j j L):iq (j+1) 0 L:=⟨h.nd,fun p hp=>by
 have:=h.lt p hp;lia,by
 have a:=h.eB;rw [xG];cases j with
 | zero=>lia
 | succ j=>
  rw [xG] at a;have e:(j+1+1)*(j+1)=(j+1)*j+2*(j+1):=by grind
  rw [e];lia⟩
theorem iq.ok(h:iq n 0 L):kJ n L:=⟨h.nd,fun p hp=>by
 have:=h.lt p hp;lia,by
 have:=h.eB;have:n*(n-1)≤n*n:=Nat.mul_le_mul_left _ (by lia)
 lia⟩
theorem S0(n:Nat):(cJ n).Nodup:=Ba mK fun p q _ _ e=>by have:=V.int.inj e;lia
theorem S1{ys:List V}(h:ys.Perm (cJ n)):∃nm:Nat→Int,ys.length=n∧(∀i,i<n→ys[i]?=some (.int (nm i)))∧EU n nm:=by
 have ln:ys.length=n:=by rw [h.length_eq];unfold cJ;simp
 have nd:ys.Nodup:=h.nodup_iff.mpr (S0 n);have each:∀i,∃x:Int,i<n→ys[i]?=some (.int x)∧0≤x∧x<n:=fun i=>by
  by_cases hi:i<n
  ·have a_:i<ys.length:=by lia
   have m:ys[i]∈cJ n:=h.mem_iff.mp (cB a_);obtain ⟨k,hk,e⟩:=b7.mp m;have:=cu.mp hk;exact ⟨(k:Int),fun _=>⟨by rw [e];simp [a_],by lia,by lia⟩⟩
  ·exact ⟨0,fun z=>absurd z hi⟩
 obtain ⟨nm,hn⟩:=Classical.axiomOfChoice each;refine ⟨nm,ln,fun i hi=>(hn i hi).1,fun i hi=>(hn i hi).2,fun i j hi hj e=>?_⟩;have a:=(hn i hi).1;have b:=(hn j hj).1;rw [e] at a;have a_:i<ys.length:=by lia
 have dh:j<ys.length:=by lia
 rw [bg a_] at a;rw [bg dh] at b;exact (zT nd).mp ((Option.some.inj a).trans (Option.some.inj b).symm)
def S2(K:aK):Sp:=fun vs H Q _=>∃(P a:Addr) (ns:List Int) (most:Nat),vs=[.ref P,.int (most:Int)]∧bt H P a∧bz K (er P H) a (ns.map V.int)∧1≤most∧most≤30 ∧
 ∀(t:Addr) (n:Nat) (L:aE) (H':Hp),aU P H H'→bt H' P a→er P H t=none→t≠P→dS (er P H') t n L→kJ n L→L.Pairwise lexLt→1≤n→n≤most→Q (.ref t) H'
theorem cz.er(h:cz H us L)(p:bt H P a):cz (er P H) us L:=⟨h.1,fun k v q h1 h2=>by obtain ⟨b,e,g⟩:=h.2 k v q h1 h2;exact ⟨b,e,yH p g⟩⟩
theorem dS.er{t:Addr}(h:dS H t n L)(p:bt H P a):dS (er P H) t n L:=by obtain ⟨lt,us,h1,h2,h3⟩:=h;exact ⟨lt,us,yH p h1,yH p h2,h3.er p⟩
theorem dS.mono{t:Addr}(h:dS H t n L)(s:ao H H'):dS H' t n L:=by obtain ⟨lt,us,h1,h2,h3⟩:=h;exact ⟨lt,us,s _ _ h1,s _ _ h2,h3.mono s⟩
theorem S3(pr:Nat→Bool)(eV:∀R:It→Hp→Prop,(∀J,kB J xs H→R J H)→wi σ H R)(hn:xs.length<sizeLine)
  (P:Addr→Nat→V→Hp→Prop) (mono:∀D i y H H' ys,P D i y H→H D=some (.lst ys)→(∀b o,b≠D→H b=some o→H' b=some o)→P D i y H')
  (test:∀(i:Nat) (x:V),xs[i]?=some x→∀(Hc:Hp) (R:Bool→Hp→Prop),ao H Hc→R (pr i) Hc→tt (some x::ρ σ) Hc R)
  (step:∀D (i:Nat) (x:V),xs[i]?=some x→∀(Hc:Hp) (R:VK),ao H Hc→(∃ys,Hc D=some (.lst ys))→(∀y H3,ao Hc H3→P D i y H3→R y H3)→te (some x::ρ σ) Hc R)
  (fin:∀D ys Hc,H D=none→ao H Hc→ys.length=((List.range xs.length).filter pr).length→(∀(k i:Nat) (y:V),ys[k]?=some y→((List.range xs.length).filter pr)[k]?=some i→P D i y Hc)→Hc D=some (.lst ys)→Q (.ref D) Hc):hV wi ρ tt te σ H Q:=by
 refine eV _ fun J js=>?_;intro D nD;refine ⟨fun i m ys Hc=>m=xs.length-i∧i≤xs.length∧Hc D=some (.lst ys)∧ao H Hc∧ys.length=((List.range i).filter pr).length∧∀(k i':Nat) (y:V),ys[k]?=some y→((List.range i).filter pr)[k]?=some i'→P D i' y Hc,⟨_,rfl,bG _,au,fG (ao.refl H) nD,rfl,fun k i y h=>by simp at h⟩,?_⟩
 rintro i m ys Hc ⟨rfl,hi,eD,sH,ly,hP⟩;refine ⟨eD,?_⟩;by_cases aT:i<xs.length
 ·refine .inr ⟨js.go i Hc sH aT,fun x H' hy=>?_⟩
  obtain ⟨rfl,hx⟩:=js.df i Hc x H' sH hy;refine test i x (hx aT) _ _ sH ?_;have fs:(List.range (i+1)).filter pr=(List.range i).filter pr++(if pr i=true then [i] else []):=by
   rw [z7,z9]
   congr 1
   cases e:pr i <;> simp [e]
  have fl:((List.range i).filter pr).length≤i:=a9 (j9 _ _) (by simp)
  cases e:pr i with
  | true=>
   rw [aj rfl];refine step D i x (hx aT) _ _ sH ⟨_,eD⟩ fun y H3 s3 hp=>?_;have e3:=s3 _ _ eD;have cO:∀b o,b≠D→H3 b=some o→upd H3 D (.lst (ys++[y])) b=some o:=fun b o nb e=>by rw [aM nb];exact e
   refine ⟨e3,by lia,xs.length-(i+1),by lia,rfl,aT,au,fG (sH.trans s3) nD,?_,fun k i' y' h1 h2=>?_⟩
   ·rw [fs,e,aj rfl,c_,c_,ly]
    rfl
   ·rw [fs,e,aj rfl] at h2
    by_cases z:k<ys.length
    ·rw [gZ z] at h1
     rw [gZ (by lia)] at h2
     refine mono D i' y' H' _ ys (hP k i' y' h1 h2) eD fun b o nb e=>cO b o nb (s3 _ _ e)
    ·have hk:=(bx.mp h1).1
     rw [c_,lp] at hk;obtain rfl:k=ys.length:=by lia
     rw [gG (aC _),qw] at h1;rw [gG (by lia),show ys.length-((List.range i).filter pr).length=0 by lia] at h2
     cases h1;cases h2;exact mono D _ _ H3 _ ys hp e3 cO
  | false=>
   rw [aa (by simp)]
   refine ⟨xs.length-(i+1),by lia,rfl,aT,eD,sH,?_,fun k i' y' h1 h2=>?_⟩
   ·rw [fs,e,aa (by simp),t8]
    exact ly
   ·rw [fs,e,aa (by simp),t8] at h2
    exact hP k i' y' h1 h2
 ·have e:i=xs.length:=by lia
  subst e;exact .inl ⟨js.stop _ Hc sH (aC _),fin D ys Hc nD sH ly hP eD⟩
def EY(n:Nat)(f:Nat→Nat→Bool)(i:Nat):List (Int×Int):=((List.range (n-(i+1))).filter fun k=>f i (i+1+k)).map fun k=>((i:Int),((i+1+k:Nat):Int))
def yI(n:Nat)(f:Nat→Nat→Bool):Nat→List (Int×Int)
 | 0=>[]
 | i+1=>yI n f i++EY n f i
variable {f:Nat→Nat→Bool}
theorem Ki(h:p∈EY n f i):∃j,i<j∧j<n∧f i j=true∧p=((i:Int),(j:Int)):=by obtain ⟨k,hk,rfl⟩:=b7.mp h;obtain ⟨h1,h2⟩:=cG.mp hk;have:=cu.mp h1;exact ⟨i+1+k,by lia,by lia,h2,rfl⟩
theorem S4(h1:i<j)(h2:j<n)(h3:f i j=true):((i:Int),(j:Int))∈EY n f i:=by
 refine b7.mpr ⟨j-(i+1),cG.mpr ⟨cu.mpr (by lia),?_⟩,?_⟩
 ·show f i (i+1+(j-(i+1)))=true
  rw [show i+1+(j-(i+1))=j by lia]
  exact h3
 ·rw [show i+1+(j-(i+1))=j by lia]
theorem mem_of{n:Nat}{f:Nat→Nat→Bool}{p:Int×Int}:∀{k:Nat},p∈yI n f k→∃i j,i<k∧i<j∧j<n∧f i j=true∧p=((i:Int),(j:Int))
 | 0,h=>by cases h
 | k+1,h=>by
  rcases cH.mp h with h | h
  ·obtain ⟨i,j,h1,h2⟩:=mem_of h
   exact ⟨i,j,by lia,h2⟩
  ·obtain ⟨j,h1⟩:=Ki h
   exact ⟨k,j,by lia,h1⟩
theorem Kj{n:Nat}{f:Nat→Nat→Bool}{i j:Nat}(h1:i<j)(h2:j<n)(h3:f i j=true):∀{k:Nat},i<k→((i:Int),(j:Int))∈yI n f k
 | k+1,h=>by
  by_cases z:i=k
  ·subst z
   exact dR _ (S4 h1 h2 h3)
  ·exact xo _ (Kj h1 h2 h3 (by lia))
theorem Kk{n:Nat}{f:Nat→Nat→Bool}:∀k,(yI n f k).Pairwise lexLt
 | 0=>List.Pairwise.nil
 | k+1=>by
  refine xB.mpr ⟨Kk k,?_,fun p hp q hq=>?_⟩
  ·refine qF.mpr ((xH.sublist List.filter_sublist).imp fun h=>?_)
   right;dsimp only;lia
  ·obtain ⟨i,j,h1,_,_,_,rfl⟩:=mem_of hp
   obtain ⟨j',_,_,_,rfl⟩:=Ki hq;left;dsimp only;lia
end My
namespace L2
open PySem PySem.Spec PyProof.Rows
section
variable {X:Cx} {pins:aR} {σ:St} {H:Hp} {s:Shared}
end
end L2
namespace My
open PySem L2
end My
namespace L2
open PySem PySem.Spec PyProof.Rows
def pW(o:Obj):Nat:=match o.data with
 | .dict _ ep=>ep
 | _=>0
def jR(a:Addr)(o:Obj)(kvs:List (Key×V)):It:=
 ⟨fun i H=>H a=some (.aW o (.dK kvs))∧i<kvs.length,fun i H x H'=>H'=H∧∃kv,kvs[i]?=some kv∧x=kV kv.1,fun i H=>H a=some (.aW o (.dK kvs))∧kvs.length≤i⟩
variable {k:Key}
theorem S5{v:Value}(h:qJ k v=true):RelV (kV k) v:=by
 rcases mP h with ⟨i,t,rfl,rfl⟩ | ⟨x,t,rfl,rfl⟩;·exact ⟨t,rfl⟩
 ·exact ⟨t,rfl⟩
theorem Kl{kvs:List (Key×V)}{vs:List (Key×Value)}:∀{i:Nat} {kv:Key×V},KV kvs vs→kvs[i]?=some kv→∃v,vs[i]?=some (kv.1,v)
 | _,_,.nil,h=>by simp at h
 | 0,kv,.cons (b:=b) r _,h=>by simp at h;subst h;obtain ⟨k,v⟩:=b;have e:_=k:=r.1;exact ⟨v,by rw [e];rfl⟩
 | i+1,kv,.cons _ t,h=>by simp at h;obtain ⟨v,e⟩:=Kl t h;exact ⟨v,by simpa using e⟩
section
variable {X:Cx} {pins:aR} {σ:St} {H:Hp} {s:Shared}
theorem Inv.EZ{a:Addr}{o:Obj}{kvs:List (Key×V)}(I:Inv X pins σ H s)(h:H a=some (.aW o (.dK kvs))):∃vs,KV kvs vs∧s.heap.DictAt (eO X.prog X.w) a vs (pW o):=by obtain ⟨g,_,_,vs,r,o',es,ep,g',c,d,rest⟩:=(show b9 X.prog X.w H s.heap a (.aW o (.dK kvs)) from I.ay a _ h);rw [g] at g';cases g';refine ⟨vs,r,o,es,g,c,?_,rest⟩;rw [d];unfold pW;rw [d]
end
variable {P:Program} {w:World}
theorem S6{K:aK}{tg:Expr}(a it:Addr)(o:Obj)(kvs:List (Key×V)):Turn P w K tg (jR a o kvs) [it] it (fun i h=>h.IsKeyIter it a i kvs.length (pW o)) where
 mem:=by simp
 obj:=fun i h st b hb=>by
  have e:b=it:=by simpa using hb
  subst e;obtain ⟨o,e,c,d⟩:=st;exact ⟨o,e,fun v z=>by rw [d] at z;cases z⟩
 keep:=fun i h h' st k=>by obtain ⟨o,e,c,d⟩:=st;exact ⟨o,k it (by simp) o e,c,d⟩
 item:=by
  intro X hP hw hK hc i pins s σ H E I hf st hg;subst hP hw hK;obtain ⟨eH,hi⟩:=hg;obtain ⟨vs,r,hm⟩:=I.EZ eH;have lr:kvs.length=vs.length:=Paired.length r;have ek:kvs[i]?=some kvs[i]:=by simp [hi]
  obtain ⟨v,ev⟩:=Kl r ek;obtain ⟨f0,f1,f2,f3,f4,f5⟩:=hf it (by simp)
  rw [lr] at st;refine wpAny_pyNext_dict_item st hm ev fun key h' hk ax sb=>?_;have I1:Inv X pins σ H {s with heap:=h'}:=I.turned (t':=s.toks) (fun b o hb e=>(sb.2 b hb).trans e) f0 f1 f3 f4 f5;obtain ⟨o',e,c,d⟩:=id ax;rw [←lr] at ax;exact ⟨key,rfl,uI (s:={s with heap:=h'}) e c d (by decide) ⟨kV kvs[i].1,H,I1,S5 hk,⟨rfl,_,ek,rfl⟩,ax,fun b hb=>(hf b hb).1⟩⟩
 done:=by
  intro X hP hw hK hc i pins s σ H E I hf st hg;subst hP hw hK;obtain ⟨eH,hi⟩:=hg;obtain ⟨vs,r,hm⟩:=I.EZ eH;have lr:kvs.length=vs.length:=Paired.length r;obtain ⟨f0,f1,f2,f3,f4,f5⟩:=hf it (by simp)
  rw [lr] at st;exact wpAny_pyNext_dict_end (I.ok.hd hc) st hm (by simp;lia) fun h' eb=>⟨rfl,I.turned (t':=s.toks) (fun b o hb e=>eb b o hb e) f0 f1 f3 f4 f5⟩
 self:=fun _ _ _ _ _ st h=>wpAny_pyIter_keyiter st h
section
variable {X:Cx} {tg:Expr}
def Km(tl:TE):TI:=fun σ H R=>tl σ H fun x H1=>∃a kvs,x=.ref a∧((H1 a=some (.dK kvs)∧∀o,R (jR a o kvs) (upd H1 a (.aW o (.dK kvs))))∨∃o,H1 a=some (.aW o (.dK kvs))∧R (jR a o kvs) H1)
theorem Bb{l:Expr}{tl:TE}(hl:PE X l tl):PI X tg l (Km tl):=by
 intro pins s σ H R I h;refine aN (hl pins s σ H _ I h) fun v s1 ⟨x,H1,I1,r1,q1⟩=>?_;obtain ⟨a,kvs,e,q⟩:=q1;subst e;cases r1;have main:∀{H2:Hp} {o:Obj},Inv X pins σ H2 s1→H2 a=some (.aW o (.dK kvs))→R (jR a o kvs) H2→wpAny (model X.prog X.w) X.A (pyIter (.ref a)) (Ar X pins σ tg R) X.xe s1:=fun{H2 o} I2 eH q=>by
  obtain ⟨vs,r,hm⟩:=I2.EZ eH;obtain ⟨_,_,sys,_⟩:=(show b9 X.prog X.w H2 s1.heap a (.aW o (.dK kvs)) from I2.ay a _ eH);have lr:kvs.length=vs.length:=Paired.length r;refine wpAny_pyIter_dict sys hm ?_;refine ⟨s1.heap.objs.size,[s1.heap.objs.size],_,_,H2,rfl,I2.kept (t':=s1.toks) fun b o e=>bK _ e,S6 a _ o kvs,⟨_,cK _ rfl,rfl,by rw [lr];rfl⟩,fun b hb=>?_,q⟩
  have e:b=s1.heap.objs.size:=by simpa using hb
  subst e;exact I2.qR (aC _) (I2.ay.fresh (aC _))
 rcases q with ⟨eH,q⟩ | ⟨o,eH,q⟩
 ·obtain ⟨hz,sys,vs,r,o,es,ep,g,c,d,rest⟩:=(show b9 X.prog X.w H1 s1.heap a (.dK kvs) from I1.ay a _ eH)
  refine main (H2:=upd H1 a (.aW o (.dK kvs))) ?_ au (q o);exact I1.write (t':=s1.toks) (x:=a) (e:=a) (by rw [eH];exact trivial) (.inl rfl) (fun b u _ e=>e) ⟨o,g⟩ ⟨g,hz,sys,vs,r,o,es,ep,g,c,d,rest⟩
 ·exact main I1 eH q
end
section
variable (P:Program) (w:World)
end
section
variable {P:Program} {w:World} {H H':Hp} {h h':Heap} {a:Addr} {o:HO}
end
section
variable {P:Program} {w:World} {H:Hp} {h h':Heap} {x e:Addr} {o':HO}
end
section
variable {fs DA ex xU:List Addr} {H H1 H2:Hp} {h h1 h2 h':Heap} {a x e:Addr} {o:HO}
end
section
variable {X:Cx} {pins:aR} {σ:List (Option V)} {H H':Hp} {s:Shared} {h':Heap}
end
section
variable {X:Cx}
variable {a b:Expr} {ta tb:TE} {pos:Pos}
variable {tA xX:TT} {rest:List Expr}
end
section
variable {X:Cx} {pins:aR} {σ:St} {H:Hp} {s:Shared} {a:Addr} {xs ys:List V}
end
section
variable {X:Cx} {pins:aR} {σ:St} {H:Hp} {s:Shared} {E:aJ}
end
section
variable {X:Cx} {st:Stmt} {rest:List Stmt} {t u:TS} {e:Expr} {te:TE} {pos:Pos}
end
section
variable {X:Cx} {pos:Pos}
end
section
variable {X:Cx} {pos:Pos}
end
section
variable {X:Cx} {tg:Expr}
end
section
variable {X:Cx} {a b c:Expr} {ta tb tc:TE} {pos:Pos}
end
section
variable {X:Cx} {a b c:Expr} {ta tb tc:TE} {pos:Pos}
end
section
variable {prog:Program} {w:World} {A:Around} {E:aJ} {s:Shared} {K:aK} {x dx C f:Addr} {mA:dC} {name:Str} {v:Value}
end
section
variable {P:Program} {w:World} {H H':Hp} {h h':Heap} {a C dx:Addr} {fs DA:List (Str×V)}
end
section
variable {X:Cx} {pins:aR} {σ:St} {H:Hp} {s:Shared} {a C dx:Addr} {fs:List (Str×V)} {f:Str} {v:V} {A:Around} {E:aJ}
end
section
variable {X:Cx} {o e value:Expr} {f:Str} {pos pos' Aw:Pos} {ta tv:TE}
end
section
variable {X:Cx} {pins:aR} {σ:St} {H:Hp} {s:Shared} {A:Around} {E:aJ} {Q:aJ} {c:Value} {b:Bool}
end
section
variable {X:Cx} {e:Expr} {es:List Expr} {te:TE} {t:TA} {pos:Pos}
end
section
variable {X:Cx} {pins:aR} {σ:St} {H:Hp} {s s':Shared}
end
section
variable {X:Cx} {CX:iC} {k:Nat} {f C:Addr} {fd:FuncData} {ps:List Str} {sp:Sp} {mY:List V} {ds:List Value} {E:XK} {x m:Str} {p pos apos:Pos} {e o:Expr} {es:List Expr} {ta:TE} {t:TA}
end
section
variable {X:Cx} {CX:iC} {k:Nat} {f C:Addr} {fd:FuncData} {ps ks:List Str} {sp:Sp} {E:XK} {x m:Str} {p pos apos IW:Pos} {e o:Expr} {es:List Expr} {Qg:List Keyword} {te ta:TE} {t tk:TA} {nm:Option Str}
variable {g:List Value→List Value→List Value} {gV:List V→List V→List V}
end
section
variable {X:Cx} {x:Str} {p pos:Pos} {e:Expr} {es:List Expr} {t:TA} {id T:String} {r:List V→Hp→VK→Prop}
end
section
variable {κ:Type} [DecidableEq κ]
def a7(kvs:List (κ×V))(k:κ):Option V:=(kvs.find? fun kv=>decide (kv.1=k)).map (·.2)
def putK(kvs:List (κ×V))(k:κ)(v:V):List (κ×V):=
 if (kvs.any fun kv=>decide (kv.1=k))=true then kvs.map (fun kv=>if kv.1=k then (kv.1,v) else kv) else kvs++[(k,v)]
def eE(kvs:List (κ×V))(k:κ):List (κ×V):=kvs.filter fun kv=>decide (kv.1≠k)
variable {p:κ×V} {r:List (κ×V)}
theorem gD{k:κ}(e:p.1=k):a7 (p::r) k=some p.2:=by simp [a7,uj,e]
theorem fJ{k:κ}(e:¬p.1=k):a7 (p::r) k=a7 r k:=by simp [a7,uj,e]
theorem u6(k:κ):∀kvs:List (κ×V),(kvs.any fun kv=>decide (kv.1=k))=(a7 kvs k).isSome
 | []=>rfl
 | p::r=>by
  rw [xv];by_cases e:p.1=k;·simp only [gD e,bV e,Bool.true_or,Option.isSome_some]
  ·rw [fJ e,b3 e,Bool.false_or];exact u6 k r
theorem Kn(k j:κ)(y:V):∀kvs:List (κ×V),a7 (kvs.map fun kv=>if kv.1=k then (kv.1,y) else kv) j=(a7 kvs j).map fun x=>if j=k then y else x
 | []=>rfl
 | p::r=>by
  have ih:=Kn k j y r;rw [dq];by_cases h:p.1=k
  ·rw [aj h]
   by_cases e:p.1=j;·rw [gD (p:=(p.1,y)) e,gD e,um,aj (e.symm.trans h)]
   ·rw [fJ (p:=(p.1,y)) e,fJ e,ih]
  ·rw [aa h]
   by_cases e:p.1=j;·rw [gD (p:=p) e,gD e,um,aa (fun z=>h (e.trans z))]
   ·rw [fJ (p:=p) e,fJ e,ih]
theorem Ko(k j:κ)(y:V):∀kvs:List (κ×V),a7 kvs k=none→a7 (kvs++[(k,y)]) j=if j=k then some y else a7 kvs j
 | [],_=>by
  by_cases e:k=j;·rw [aj e.symm];exact gD (p:=(k,y)) e
  ·rw [aa (fun z=>e z.symm)];exact fJ (p:=(k,y)) e
 | p::r,hn=>by
  rw [List.cons_append];have hk:¬p.1=k:=fun z=>by rw [gD z] at hn;cases hn
  rw [fJ hk] at hn;have ih:=Ko k j y r hn;by_cases e:p.1=j;·rw [gD e,gD e,aa (fun z=>hk (e.trans z))]
  ·rw [fJ e,fJ e,ih]
theorem Kq(kvs:List (κ×V))(k j:κ)(y:V):a7 (putK kvs k y) j=if j=k then some y else a7 kvs j:=by
 unfold putK;by_cases a:(kvs.any fun kv=>decide (kv.1=k))=true
 ·rw [aj a,Kn]
  rw [u6] at a;by_cases e:j=k
  ·obtain ⟨x,hx⟩:=zW.mp a
   rw [aj e,e,hx,um,aj rfl]
  ·rw [aa e]
   cases a7 kvs j with
   | none=>rfl
   | some x=>rw [um,aa e]
 ·rw [aa a]
  refine Ko k j y kvs ?_;rw [u6] at a;cases q:a7 kvs k with
  | none=>rfl
  | some x=>rw [q] at a;exact (a rfl).elim
theorem Bc(kvs:List (κ×V))(k:κ)(v:V):(putK kvs k v).length≤kvs.length+1:=by
 unfold putK
 split
 ·rw [aG];lia
 ·rw [c_,eM,xr];lia
variable {kvs:List (κ×V)}
theorem S7{k:κ}(v:V)(h:a7 kvs k=none):putK kvs k v=kvs++[(k,v)]:=by unfold putK;rw [u6,h];exact aa (by decide)
theorem jF.yJ{o:Option V}{u:Option Value}(r:jF o u):o.isSome=u.isSome:=by
 cases o with
 | none=>cases u with
  | none=>rfl
  | some _=>exact (show False from r).elim
 | some _=>cases u with
  | none=>exact (show False from r).elim
  | some _=>rfl
variable {vs:List (κ×Value)}
theorem KV.val(r:KV kvs vs)(k:κ):jF (a7 kvs k) (valueAt vs k):=by
 unfold KV at r
 induction r with
 | nil=>exact True.intro
 | @cons p q ps qs h t ih=>
  obtain ⟨h1,h2⟩:=h;by_cases e:p.1=k
  ·have e':q.1=k:=h1.symm.trans e
   have b:valueAt (q::qs) k=some q.2:=by simp [valueAt,uj,e']
   rw [gD e,b];exact h2
  ·have e':¬q.1=k:=fun z=>e (h1.trans z)
   have b:valueAt (q::qs) k=valueAt qs k:=by simp [valueAt,uj,e']
   rw [fJ e,b];exact ih
theorem KV.any(r:KV kvs vs)(k:κ):(kvs.any fun kv=>decide (kv.1=k))=vs.any fun kv=>decide (kv.1=k):=by
 unfold KV at r
 induction r with
 | nil=>rfl
 | cons h t ih=>rw [xv,xv,ih,h.1]
variable {y:V} {u:Value}
theorem KV.E1(r:KV kvs vs)(k:κ)(ry:RelV y u) :
  KV (kvs.map fun kv=>if kv.1=k then (kv.1,y) else kv) (vs.map fun kv=>if kv.1=k then (kv.1,u) else kv):=by
 unfold KV at r ⊢
 induction r with
 | nil=>exact .nil
 | @cons p q ps qs h t ih=>
  rw [dq,dq];refine .cons ?_ ih;obtain ⟨h1,h2⟩:=h;by_cases e:p.1=k;·rw [aj e,aj (h1.symm.trans e)];exact ⟨h1,ry⟩
  ·rw [aa e,aa (fun z=>e (h1.trans z))];exact ⟨h1,h2⟩
theorem KV.put(r:KV kvs vs)(k:κ)(ry:RelV y u):KV (putK kvs k y) (stored vs k u):=by
 unfold putK stored;rw [r.any k];by_cases e:(vs.any fun kv=>decide (kv.1=k))=true;·rw [aj e,aj e];exact r.E1 k ry
 ·rw [aa e,aa e];exact Paired.snoc r ⟨rfl,ry⟩
theorem KV.length(r:KV kvs vs):kvs.length=vs.length:=Paired.length r
theorem Be(kvs:List (κ×V))(k:κ):(eE kvs k).length≤kvs.length:=j9 _ _
end
variable {u:Value}
theorem u7(r:RelV (kV k) u):(eO P w).is k u=true:=by
 cases k with
 | inl i=>obtain ⟨t,e⟩:=(show ∃t,u=Value.int i t from r);subst e;exact O2 P w i t
 | inr x=>obtain ⟨t,e⟩:=(show ∃t,u=Value.str x t from r);subst e;exact O3 P w x t
theorem Kr{P:Program}{w:World}:∀{ks:List Key} {us:List Value},Vals (ks.map kV) us→ItemsAre (eO P w) ks us
 | [],_,r=>by rw [t9] at r;cases r;exact .nil
 | k::ks,_,r=>by
  rw [dq] at r;cases r with
  | cons h t=>exact .cons (u7 h) (Kr t)
abbrev KT (H:Hp):List (List Key×V)→List (List Key×Addr×Value)→Prop:=Paired fun p q=>p.1=q.1∧H q.2.1=some (.tup (p.1.map kV))∧RelV p.2 q.2.2
variable {H:Hp} {kvs:List (List Key×V)} {xs:List (List Key×Addr×Value)}
theorem KT.val(r:KT H kvs xs)(k:List Key):jF (a7 kvs k) ((atKey xs k).map (·.2)):=by
 induction r with
 | nil=>exact True.intro
 | @cons p q ps qs h t ih=>
  obtain ⟨h1,_,h2⟩:=h;by_cases e:p.1=k
  ·have e':q.1=k:=h1.symm.trans e
   have b:atKey (q::qs) k=some q.2:=by simp [atKey,uj,e']
   rw [gD e,b];exact h2
  ·have e':¬q.1=k:=fun z=>e (h1.trans z)
   have b:atKey (q::qs) k=atKey qs k:=by simp [atKey,uj,e']
   rw [fJ e,b];exact ih
variable {y:V}
theorem KT.E1(r:KT H kvs xs)(k:List Key)(ry:RelV y u) :
  KT H (kvs.map fun kv=>if kv.1=k then (kv.1,y) else kv) (xs.map (putAt k u)):=by
 induction r with
 | nil=>exact .nil
 | @cons p q ps qs h t ih=>
  rw [dq,dq];refine .cons ?_ ih;obtain ⟨h1,h2,h3⟩:=h;unfold putAt;by_cases e:p.1=k;·rw [aj e,aj (h1.symm.trans e)];exact ⟨h1,h2,ry⟩
  ·rw [aa e,aa (fun z=>e (h1.trans z))];exact ⟨h1,h2,h3⟩
variable {b:Addr}
theorem KT.put(r:KT H kvs xs)(k:List Key)(hb:H b=some (.tup (k.map kV)))(ry:RelV y u) :
  KT H (putK kvs k y) (storedH xs k b u):=by
 have e:(kvs.any fun kv=>decide (kv.1=k))=(atKey xs k).isSome:=by rw [u6,(r.val k).yJ,Option.isSome_map]
 unfold putK storedH;rw [e];by_cases q:(atKey xs k).isSome=true;·rw [aj q,aj q];exact r.E1 k ry
 ·rw [aa q,aa q];exact Paired.snoc r ⟨rfl,hb,ry⟩
theorem KT.keeps{H':Hp}(r:KT H kvs xs)(ht:∀b ys,H b=some (.tup ys)→H' b=some (.tup ys)):KT H' kvs xs:=
 Paired.Ak r fun _ _ z=>⟨z.1,ht _ _ z.2.1,z.2.2⟩
section
variable {P:Program} {w:World} {H:Hp} {h:Heap} {a:Addr}
theorem Ks{u:HO}(ok:cC P w H h)(e:Rd H a u):b9 P w H h a u:=e.ok ok
theorem u9{kvs:List (Key×V)}(ok:cC P w H h)(e:Rd H a (.dK kvs)):kvs.length≤sizeLine∧(a == sysModules)=false∧∃vs,KV kvs vs∧h.DictOf (eO P w) a vs:=
 show b9 P w H h a (.dK kvs) from Ks ok e
theorem Kt{kvs:List (Key×V)}(ok:cC P w H h)(e:H a=some (.dK kvs)):kvs.length≤sizeLine∧(a == sysModules)=false∧∃vs,KV kvs vs∧h.DictOf (eO P w) a vs:=u9 ok (.inl e)
theorem u_{ks:List Key}(ok:cC P w H h)(e:H a=some (.tup (ks.map kV))):(tupleKind (eO P w)).is h ks a:=by obtain ⟨_,ak,r,o,h1,h2,n,h3⟩:=(show b9 P w H h a (.tup (ks.map kV)) from ok a _ e);exact ⟨o,ak.toArray,n,h1,h2,h3,by simpa using Kr r⟩
theorem rK(ok:cC P w H h)(e:Rd H a (.dT kvs)):kvs.length≤sizeLine∧(a == sysModules)=false ∧
  ∃xs,KT H kvs xs∧h.DictOfH (tupleKind (eO P w)) a xs:=by
 obtain ⟨z,y,xs,r,o,es,ep,h1,h2,h3,h4,h5⟩:=(show b9 P w H h a (.dT kvs) from Ks ok e);refine ⟨z,y,xs,r,o,es,ep,h1,h2,h3,h4,fun x hx=>?_,h5⟩;have all:∀{l:List (List Key×V)} {m:List (List Key×Addr×Value)},KT H l m→∀x∈m,(tupleKind (eO P w)).is h x.1 x.2.1:=by
  intro l m q
  induction q with
  | nil=>intro x hx;exact nomatch hx
  | @cons p q ps qs hq t ih=>
   intro x hx;rcases bU.mp hx with e | hx
   ·subst e
    exact u_ ok (by rw [←hq.1];exact hq.2.1)
   ·exact ih x hx
 exact all r x hx
theorem rN(ok:cC P w H h)(e:H a=some (.dT kvs)):kvs.length≤sizeLine∧(a == sysModules)=false ∧
  ∃xs,KT H kvs xs∧h.DictOfH (tupleKind (eO P w)) a xs:=rK ok (.inl e)
end
def dE(H:Hp)(a:Addr)(y:V)(r:Option V):Prop:=
 (∃kvs k,Rd H a (.dK kvs)∧y=kV k∧r=a7 kvs k)∨∃kvs k b,Rd H a (.dT kvs)∧y=.ref b∧H b=some (.tup (k.map kV))∧r=a7 kvs k
def gE(H:Hp)(a:Addr)(y v:V)(H':Hp):Prop:=
 (∃kvs k,H a=some (.dK kvs)∧y=kV k∧kvs.length<sizeLine∧H'=upd H a (.dK (putK kvs k v))) ∨
 ∃kvs k b,H a=some (.dT kvs)∧y=.ref b∧H b=some (.tup (k.map kV))∧kvs.length<sizeLine∧H'=upd H a (.dT (putK kvs k v))
variable {a:Addr}
theorem dE.t{k:List Key}(e:H a=some (.dT kvs))(eb:H b=some (.tup (k.map kV))):dE H a (.ref b) (a7 kvs k):=.inr ⟨kvs,k,b,.inl e,rfl,eb,rfl⟩
theorem gE.t{k:List Key}{v:V}(e:H a=some (.dT kvs))(eb:H b=some (.tup (k.map kV)))(hl:kvs.length<sizeLine) :
  gE H a (.ref b) v (upd H a (.dT (putK kvs k v))):=.inr ⟨kvs,k,b,e,rfl,eb,hl,rfl⟩
section
variable {X:Cx} {pins:aR} {σ:St} {H:Hp} {s:Shared} {a:Addr} {y v:V} {u r:Value} {o:Option V} {A:Around} {E:aJ}
theorem Inv.big(I:Inv X pins σ H s):sysModules<s.heap.objs.size:=by have h:mainGlobals<s.heap.objs.size:=(I.mod.glob.keeps I.bk).lt;exact Nat.lt_trans (by decide) h
variable {Q:aJ}
theorem S8(hu:A.units+1<cLine)(I:Inv X pins σ H s)(g:dE H a y (some v))(ry:RelV y u)(h:∀w' s',Inv X pins σ H s'→RelV v w'→Q w' s') :
  wpAny (model X.prog X.w) A (getItem (.ref a) u) Q E s:=by
 rcases g with ⟨kvs,k,e,ey,l⟩ | ⟨kvs,k,b,e,ey,eb,l⟩
 ·subst ey
  obtain ⟨z,hd,vs,rel,dd⟩:=u9 I.ay e;obtain ⟨w',hw,iE⟩:=jF.some_of (v:=v) (o:=valueAt vs k) (by rw [l];exact rel.val k)
  exact wpAny_getItem_of (u7 ry) dd.mapOf hw (h w' _ (I.tok _) iE)
 ·subst ey
  cases (show u=Value.ref b from ry);obtain ⟨z,hd,xs,rel,dd⟩:=rK I.ay e;obtain ⟨w',hw,iE⟩:=jF.some_of (v:=v) (o:=(atKey xs k).map (·.2)) (by rw [l];exact rel.val k)
  obtain ⟨p,hp,E2⟩:=z_.mp hw;refine wpAny_getItem_heap (uo hu) (u_ I.ay eb) dd hp ?_;rw [E2];exact h w' _ (I.tok _) iE
theorem S9(hu:A.units+1<cLine)(I:Inv X pins σ H s)(g:dE H a y o)(ry:RelV y u)(h:∀s',Inv X pins σ H s'→Q (.bool o.isSome) s') :
  wpAny (model X.prog X.w) A (compareOp .In u (.ref a)) Q E s:=by
 rcases g with ⟨kvs,k,e,ey,l⟩ | ⟨kvs,k,b,e,ey,eb,l⟩
 ·subst ey
  obtain ⟨z,hd,vs,rel,dd⟩:=u9 I.ay e;refine wpAny_in_of (u7 ry) hd dd.mapOf ?_;rw [←(rel.val k).yJ,←l];exact h _ (I.tok _)
 ·subst ey
  cases (show u=Value.ref b from ry);obtain ⟨z,hd,xs,rel,dd⟩:=rK I.ay e;refine wpAny_in_heap (uo hu) (u_ I.ay eb) hd dd ?_;have q:=(rel.val k).yJ;rw [Option.isSome_map] at q;rw [←q,←l];exact h _ (I.tok _)
theorem S_(hu:A.units+1<cLine)(I:Inv X pins σ H s)(g:dE H a y o)(ry:RelV y u)(h:∀s',Inv X pins σ H s'→Q (.bool (!o.isSome)) s') :
  wpAny (model X.prog X.w) A (compareOp .NotIn u (.ref a)) Q E s:=by
 rcases g with ⟨kvs,k,e,ey,l⟩ | ⟨kvs,k,b,e,ey,eb,l⟩
 ·subst ey
  obtain ⟨z,hd,vs,rel,dd⟩:=u9 I.ay e;refine wpAny_notIn_of (u7 ry) hd dd.mapOf ?_;rw [←(rel.val k).yJ,←l];exact h _ (I.tok _)
 ·subst ey
  cases (show u=Value.ref b from ry);obtain ⟨z,hd,xs,rel,dd⟩:=rK I.ay e;refine wpAny_notIn_heap (uo hu) (u_ I.ay eb) hd dd ?_;have q:=(rel.val k).yJ;rw [Option.isSome_map] at q;rw [←q,←l];exact h _ (I.tok _)
variable {h':Heap}
theorem Bf{t':Nat}{ob:HO}(I:Inv X pins σ H s)(mu:xT (H a))(hs:Heap.SameBut a s.heap h')(he:∃q,h'.get? a=some q)(new:b9 X.prog X.w (upd H a ob) h' a ob) :
  Inv X pins σ (upd H a ob) {s with heap:=h',toks:=t'}:=
 I.write (x:=a) (e:=a) mu (.inl rfl) (fun b q hb z=>(hs.2 b hb).trans z) he new
variable {H':Hp}
theorem Ku{kvs:List (Key×V)}{vs:List (Key×Value)}(z:kvs.length≤sizeLine)(hd:(a == sysModules)=false)(rel:KV kvs vs)(dd:h'.DictOf (eO P w) a vs) :
  b9 P w H' h' a (.dK kvs):=⟨z,hd,vs,rel,dd⟩
theorem Ta{Q:Unit→Shared→Prop}(hu:A.units+1<cLine)(I:Inv X pins σ H s)(g:gE H a y v H')(ry:RelV y u)(rv:RelV v r)(h:∀s',Inv X pins σ H' s'→Q () s') :
  wpAny (model X.prog X.w) A (setItem (.ref a) u r) Q E s:=by
 rcases g with ⟨kvs,k,e,ey,l,eH⟩ | ⟨kvs,k,b,e,ey,eb,l,eH⟩
 ·subst ey eH
  obtain ⟨z,hd,vs,rel,dd⟩:=Kt I.ay e;have hz:vs.length≤sizeLine:=by rw [←rel.length];exact z
  have hl:(putK kvs k v).length≤sizeLine:=by have:=Bc kvs k v;lia
  refine wpAny_setItem_pairs (hsz:=hz) (u7 ry) dd fun h' ky hs=>h _ ?_;have he:∃q,h'.get? a=some q:=let ⟨q,_,_,hq,_⟩:=ky;⟨q,hq⟩
  exact Bf I (by rw [e];exact True.intro) hs he (Ku hl hd (rel.put k rv) ky)
 ·subst ey eH
  cases (show u=Value.ref b from ry);obtain ⟨z,hd,xs,rel,dd⟩:=rN I.ay e;have hz:xs.length≤sizeLine:=by rw [←Paired.length rel];exact z
  have hl:(putK kvs k v).length≤sizeLine:=by have:=Bc kvs k v;lia
  refine wpAny_setItem_heap (hsz:=hz) (uo hu) (u_ I.ay eb) dd fun h' ky hs=>h _ ?_;obtain ⟨q,es,ep,hq,h2,h3,h4,_,h5⟩:=ky;refine Bf I (by rw [e];exact True.intro) hs ⟨q,hq⟩ ⟨hl,hd,_,(rel.put k eb rv).keeps fun c ys ec=>?_,q,es,ep,hq,h2,h3,h4,h5⟩
  rw [aM (HI ec e (fun z=>nomatch z))];exact ec
end
section
variable {X:Cx} {pins:aR} {σ:St} {H:Hp} {s:Shared} {a:Addr} {kvs:List (Key×V)} {k:Key} {u:Value} {A:Around} {E:aJ}
end
def Kv(i:Expr):Prop:=∀ov iv,subscripted i false ov iv=operate [ov,iv] (getItem ov iv)
variable {s:Shared} {pos:Pos}
theorem Tb{prog:Program}{A:Around}{E:aJ}{env:Env}{value slice:Expr}{T id:String}{Q:aJ}
  (hl:typeLookup (.type T) "__getitem__"=pure (some (.builtin id))) (hs:Kv slice)
  (h:wpAny (model prog w) A (eval value env) (fun o s₁=>wpAny (model prog w) A (eval slice env) (fun i s₂=>s₂.TypeIs o T∧wpAny (model prog w) A (getItem o i) Q E s₂) E s₁) E s) :
  wpAny (model prog w) A (eval (.Subscript value slice pos) env) Q E s:=by
 refine Subscript_ (bJ h (fun o s₁ h₁=>bJ h₁ (fun i s₂ h₂=>?_) fun _ _ x=>x) fun _ _ x=>x);obtain ⟨hT,h₂⟩:=h₂;unfold subscriptTail;refine ae ?_;rw [getitemInPython_of_ne hT.not_modules];refine ae (xI hT hl ?_);have fin:wpAny (model prog w) A (subscripted slice false o i) (fun r s₃=>wpAny (model prog w) A (letTemporaryGo value o r >>= fun _=>pure r) Q E s₃) E s₂:=by rw [hs o i];exact wpAny_operating (bJ h₂ (fun r s₃ h₃=>ae (wpAny_letTemporaryGo (aB h₃))) fun _ _ x=>x)
 first
  | exact aB (ae fin)
  | exact ae (aB (ae fin))
  | exact ae fin
variable {X:Cx} {pins:aR} {σ:St}
theorem Tc{o:Option V}(I:Inv X pins σ H s)(g:dE H a y o):s.TypeIs (.ref a) "dict":=by
 rcases g with ⟨kvs,k,e,_,_⟩ | ⟨kvs,k,b,e,_,_,_⟩
 ·obtain ⟨_,_,vs,_,dd⟩:=u9 I.ay e
  exact dd.typeIs
 ·obtain ⟨_,_,xs,_,dd⟩:=rK I.ay e
  exact dd.typeIs
def Td(td ty:TE):TE:=fun σ H Q=>td σ H fun x H1=>ty σ H1 fun y H2=>∃a v,x=.ref a∧dE H2 a y (some v)∧Q v H2
def Te(ty td:TE):TE:=fun σ H Q=>ty σ H fun y H1=>td σ H1 fun x H2=>∃a o,x=.ref a∧dE H2 a y o∧Q (.bl o.isSome) H2
def Tf(ty td:TE):TE:=fun σ H Q=>ty σ H fun y H1=>td σ H1 fun x H2=>∃a o,x=.ref a∧dE H2 a y o∧Q (.bl (!o.isSome)) H2
def Tg(td ty tv:TE):TS:=fun D σ H=>tv σ H fun v H1=>td σ H1 fun x H2=>ty σ H2 fun y H3=>∃a H4,x=.ref a∧gE H3 a y v H4∧D.nx σ H4
section
variable {X:Cx} {o i e value:Expr} {pos pos' Aw:Pos} {td ty tv:TE}
theorem fK(hu:X.A.units+1<cLine)(ho:PE X o td)(hi:PE X i ty)(hs:Kv i):PE X (.Subscript o i pos) (Td td ty):=by intro pins s σ H Q I h;refine Tb PySem.F.slot_dict_getitem.lookup hs (aN (ho pins s σ H _ I h) fun u s1 ⟨x,H1,I1,rx,q1⟩=>aN (hi pins s1 σ H1 _ I1 q1) fun iv s2 ⟨y,H2,I2,ry,a,v,ex,g,q2⟩=>?_);subst ex;obtain rfl:u=Value.ref a:=rx;exact ⟨Tc I2 g,S8 hu I2 g ry fun w' s3 I3 iE=>⟨v,H2,I3,iE,q2⟩⟩
theorem Kw(hu:X.A.units+1<cLine)(hi:PE X i ty)(ho:PE X o td):PC X .In i o (Te ty td):=by intro pins s σ H Q I h;refine aN (hi pins s σ H _ I h) fun iv s1 ⟨y,H1,I1,ry,q1⟩=>aN (ho pins s1 σ H1 _ I1 q1) fun u s2 ⟨x,H2,I2,rx,a,ov,ex,g,q2⟩=>?_;subst ex;obtain rfl:u=Value.ref a:=rx;exact S9 hu I2 g ry fun s3 I3=>⟨.bl ov.isSome,H2,I3,rfl,q2⟩
theorem Kx(hu:X.A.units+1<cLine)(hi:PE X i ty)(ho:PE X o td):PC X .NotIn i o (Tf ty td):=by intro pins s σ H Q I h;refine aN (hi pins s σ H _ I h) fun iv s1 ⟨y,H1,I1,ry,q1⟩=>aN (ho pins s1 σ H1 _ I1 q1) fun u s2 ⟨x,H2,I2,rx,a,ov,ex,g,q2⟩=>?_;subst ex;obtain rfl:u=Value.ref a:=rx;exact S_ hu I2 g ry fun s3 I3=>⟨.bl (!ov.isSome),H2,I3,rfl,q2⟩
theorem gF(hu:X.A.units+1<cLine)(ho:PE X o td)(hi:PE X i ty)(hv:PE X value tv)(hs:swapsWith value (some (.Subscript o i pos')) pos.line X.env=pure false) :
  PS X (.Assign [.Subscript o i pos'] value pos) (Tg td ty tv):=by
 intro pins s σ H D I h;refine wpAny_Assign_Subscript (aN (hv pins s σ H _ I h) fun r s1 ⟨v,H1,I1,rv,q1⟩=>aN (ho pins s1 σ H1 _ I1 q1) fun u s2 ⟨x,H2,I2,rx,q2⟩=>aN (hi pins s2 σ H2 _ I2 q2) fun iv s3 ⟨y,H3,I3,ry,a,H4,ex,g,q3⟩=>?_) hs;subst ex;obtain rfl:u=Value.ref a:=rx;exact Ta hu I3 g ry rv fun s4 I4=>⟨σ,H4,I4,q3⟩
end
theorem Ky(h:Heap)(hb:sysModules<h.objs.size):b9 P w H (h.push {cls:=.type "dict",data:=.dict #[]}) h.objs.size (.dK []):=
 ⟨bG _,zQ.mpr (Ne.symm (bM hb)),[],.nil,Heap.DictOf.new h⟩
theorem Th(h:Heap)(hb:sysModules<h.objs.size):b9 P w H (h.push {cls:=.type "dict",data:=.dict #[]}) h.objs.size (.dT []):=
 ⟨bG _,zQ.mpr (Ne.symm (bM hb)),[],.nil,_,#[],0,cK _ rfl,⟨rfl,rfl,rfl⟩,rfl,rfl,qE⟩
def Ti:TE:=fun _ H Q=>∀p,H p=none→Q (.ref p) (upd H p (.dK []))
def Tj:TE:=fun _ H Q=>∀p,H p=none→Q (.ref p) (upd H p (.dT []))
section
variable {X:Cx} {pos:Pos}
theorem Tn:PE X (.Dict [] [] pos) Ti:=fun pins s σ H Q I h=>wpAny_Dict_empty ⟨.ref s.heap.objs.size,_,I.laid (a:=s.heap.objs.size) (o:=.dK []) (t':=s.toks) (fun _ _ q=>bK _ q) (aC _) (Ky s.heap I.big),rfl,h _ (I.ay.fresh (aC _))⟩
theorem E3:PE X (.Dict [] [] pos) Tj:=fun pins s σ H Q I h=>wpAny_Dict_empty ⟨.ref s.heap.objs.size,_,I.laid (a:=s.heap.objs.size) (o:=.dT []) (t':=s.toks) (fun _ _ q=>bK _ q) (aC _) (Th s.heap I.big),rfl,h _ (I.ay.fresh (aC _))⟩
end
def E4:List (TE×TE)→St→Hp→(List (V×V)→Hp→Prop)→Prop
 | [],_,H,Q=>Q [] H
 | (tk,tv)::r,σ,H,Q=>tk σ H fun x H1=>tv σ H1 fun y H2=>E4 r σ H2 fun ps H3=>Q ((x,y)::ps) H3
abbrev VV:List (V×V)→List (Value×Value)→Prop:=Paired fun p q=>RelV p.1 q.1∧RelV p.2 q.2
def Bg(X:Cx)(pos:Pos)(keys:List (Option Expr))(values:List Expr)(oG:List (TE×TE)):Prop:=
 ∀(pins:aR) (s:Shared) (σ:St) (H:Hp) (Q:List (V×V)→Hp→Prop),Inv X pins σ H s→E4 oG σ H Q→
  wpAny (model X.prog X.w) X.A (evalPairs (pairTrees keys values X.env pos)) (fun vs s'=>∃ps H',Inv X pins σ H' s'∧VV ps vs∧Q ps H') X.xe s
theorem Kz:Bg X pos [] [] []:=fun pins s σ H Q I h=>pairTrees_nil_walk ⟨[],H,I,.nil,h⟩
variable {oG:List (TE×TE)}
theorem KA{k v:Expr}{ks:List (Option Expr)}{vs:List Expr}{tk tv:TE}(hk:PE X k tk)(hv:PE X v tv)(hr:Bg X pos ks vs oG) :
  Bg X pos (some k::ks) (v::vs) ((tk,tv)::oG):=fun pins s σ H Q I h=>
 pairTrees_cons_walk (aN (hk pins s σ H _ I h) fun u s1 ⟨x,H1,I1,rx,q1⟩=>aN (hv pins s1 σ H1 _ I1 q1) fun w2 s2 ⟨y,H2,I2,ry,q2⟩=>aN (hr pins s2 σ H2 _ I2 q2) fun ws s3 ⟨ps,H3,I3,rel,q3⟩=>⟨(x,y)::ps,H3,I3,.cons ⟨rx,ry⟩ rel,q3⟩)
def mh(kvs more:List (Key×V)):List (Key×V):=more.foldl (fun acc kv=>putK acc kv.1 kv.2) kvs
theorem KV.merge:∀{more:List (Key×V)} {rs:List (Key×Value)} {kvs:List (Key×V)} {vs:List (Key×Value)},KV more rs→KV kvs vs→KV (mh kvs more) (merged vs rs):=by
 intro more rs kvs vs r;unfold KV at r
 induction r generalizing kvs vs with
 | nil=>intro q;exact q
 | @cons p q ps qs h t ih=>
  intro r0;have e:KV (putK kvs p.1 p.2) (stored vs q.1 q.2):=by have:=r0.put p.1 h.2;rw [←h.1];exact this
  exact ih e
theorem KC:∀(more kvs:List (Key×V)),(mh kvs more).length≤kvs.length+more.length
 | [],kvs=>by show kvs.length≤kvs.length+0;lia
 | p::r,kvs=>by have h1:=KC r (putK kvs p.1 p.2);have h2:=Bc kvs p.1 p.2;show (mh (putK kvs p.1 p.2) r).length≤_;rw [eM];lia
theorem KD{P:Program}{w:World}:∀{kvs:List (Key×V)} {ws:List (Value×Value)},VV (kvs.map fun kv=>(kV kv.1,kv.2)) ws→∃rs,Carries (eO P w) ws rs∧KV kvs rs
 | [],_,r=>by rw [t9] at r;cases r;exact ⟨[],True.intro,.nil⟩
 | p::kvs,_,r=>by
  rw [dq] at r;cases r with
  | @cons a b as bs h t=>obtain ⟨rs,c,q⟩:=KD (P:=P) (w:=w) t;obtain ⟨b1,b2⟩:=b;exact ⟨(p.1,b2)::rs,⟨u7 h.1,rfl,c⟩,.cons ⟨rfl,h.2⟩ q⟩
def Tp(oG:List (TE×TE)):TE:=fun σ H Q=>∀p,H p=none→E4 oG σ (upd H p (.dK [])) fun ps H2=>H2 p=some (.dK [])∧∃kvs:List (Key×V),ps=kvs.map (fun kv=>(kV kv.1,kv.2))∧kvs.length≤15∧Q (.ref p) (upd H2 p (.dK (mh [] kvs)))
theorem KG{keys:List (Option Expr)}{values:List Expr}(h:Bg X pos keys values oG)(hJ:keys.all (·.isSome)=true)(hl:keys.length=values.length)(h0:keys≠[])
  (Tq:keys.length≤15):PE X (.Dict keys values pos) (Tp oG):=by
 intro pins s σ H Q I q;have hn:=I.ay.fresh (aC s.heap.objs.size);have I1:=I.laid (a:=s.heap.objs.size) (o:=.dK []) (h':=s.heap.push {cls:=.type "dict",data:=.dict #[]}) (t':=s.toks) (fun _ _ q=>bK _ q) (aC _) (Ky s.heap I.big);refine wpAny_Dict_walk (knd:=eO X.prog X.w) hJ hl h0 Tq (aN (h pins _ σ _ _ I1 (q _ hn)) fun ws s2 ⟨ps,H2,I2,rel,e,kvs,ep,lk,q2⟩=>?_);subst ep;obtain ⟨rs,c,rk⟩:=KD (P:=X.prog) (w:=X.w) rel;obtain ⟨z,hd,vs0,r0,dd⟩:=Kt I2.ay e;cases r0;refine ⟨rs,c,dd,fun h' ky hs=>⟨.ref s.heap.objs.size,_,?_,rfl,q2⟩⟩;have hz:(mh [] kvs).length≤sizeLine:=by have h1:=KC kvs [];rw [xr] at h1;rw [gY];lia
 have he:∃q,h'.get? s.heap.objs.size=some q:=let ⟨q,_,_,hq,_⟩:=ky;⟨q,hq⟩
 exact Bf I2 (by rw [e];exact True.intro) hs he (Ku hz hd (rk.merge .nil) ky)
structure M1 (X:Cx) (o:Expr) (m:Str) (apos:Pos) (e:Expr) (d_:Pos):Prop where
 base:attributeBase o m X.env (eval o X.env)=eval o X.env
 eB:((backTo d_ (starEach [e] X.env)).all (fun x=>!x.1) && (backToKw d_ (keywordEach [] X.env)).all (fun x=>x.1.isSome)
  && decide (([e]:List Expr).length+([]:List Keyword).length+(if ([]:List Keyword).isEmpty then 0 else 1)<30))=true
 line:(apos.endLine == d_.line)=true
 trees:backTo d_ (starEach [e] X.env)=[(false,eval e X.env)]
def KH(H:Hp)(a:Addr):Prop:=(∃kvs,Rd H a (.dK kvs))∨∃kvs,Rd H a (.dT kvs)
theorem Tr(I:Inv X pins σ H s)(d:KH H a) :
  s.TypeIs (.ref a) "dict"∧(∀b,Value.ref a=.ref b→∃ob,s.heap.get? b=some ob∧ob.dict=none)∧(a == sysModules)=false:=by
 rcases d with ⟨kvs,e⟩ | ⟨kvs,e⟩
 ·obtain ⟨_,hd,vs,_,dd⟩:=u9 I.ay e
  refine ⟨dd.typeIs,fun b q=>?_,hd⟩;cases q;obtain ⟨ob,_,_,h1,h2,_⟩:=dd;exact ⟨ob,h1,h2.2.1⟩
 ·obtain ⟨_,hd,xs,_,dd⟩:=rK I.ay e
  refine ⟨dd.typeIs,fun b q=>?_,hd⟩;cases q;obtain ⟨ob,_,_,h1,h2,_⟩:=dd;exact ⟨ob,h1,h2.2.1⟩
section
variable {X:Cx} {pins:aR} {σ:St} {H:Hp} {s:Shared} {a:Addr} {y d:V} {u r:Value} {o:Option V} {A:Around} {E:aJ}
end
section
variable {X:Cx} {o e f:Expr} {apos d_:Pos} {td ty tx:TE}
end
section
variable {X:Cx} {pins:aR} {σ:St} {H:Hp} {s:Shared} {a:Addr} {kvs:List (Key×V)} {A:Around} {E:aJ}
end
section
variable {X:Cx} {pins:aR} {σ:St} {H:Hp} {s:Shared} {a:Addr} {y:V} {u:Value} {A:Around} {E:aJ}
end
end L2
namespace AF
open PySem PySem.W PySem.Calls PyProof.Rows
section
variable {prog:Program} {w:World} {A:Around} {E:aJ} {s:Shared} {K:Frag}
end
end AF
namespace L2
open PySem PySem.Spec PyProof.Rows
section
variable {P:Program} {w:World} {K:aK} {mg:dC} {base:Heap}
end
section
variable {X:Cx}
end
section
variable {κ:Type} [DecidableEq κ]
variable {p:κ×V} {r:List (κ×V)} {k:κ}
theorem Ts(e:p.1=k):eE (p::r) k=eE r k:=by unfold eE;rw [i3,aa (by simp [e])]
theorem Tu(e:¬p.1=k):eE (p::r) k=p::eE r k:=by unfold eE;rw [i3,aj (by simp [e])]
end
theorem E5:∀{us:List Value} {ns:List Int},IntsAre us ns→Vals (ns.map V.int) us
 | _,_,.nil=>.nil
 | _,_,.cons a u r=>.cons ⟨u,rfl⟩ (E5 r)
def Tv:List V→Hp→VK→Prop:=fun xs H Q=>∃(a:Addr) (zs:List Int),xs=[.ref a]∧H a=some (.lst (zs.map V.int))∧zs.length<64∧∀(ws:List Int) (D:Addr),ws.Perm zs→ws.Pairwise (·≤·)→H D=none→Q (.ref D) (upd H D (.lst (ws.map V.int)))
theorem KI{X:Cx}:eQ X (.builtin "sorted") Tv:=by
 intro pins s σ H xs us Q I r h;obtain ⟨a,zs,rfl,ha,yG,k⟩:=h;obtain ⟨u,rfl,ru⟩:=vals1 r;cases ru;obtain ⟨ak,rv,pl,hz⟩:=I.list (.of ha);have hl:=rv.length;rw [aG] at hl;refine sorted_ints pl.isList (intsAre_of rv) (by lia) fun out kr a1 a2 a3=>?_
 obtain ⟨e,he⟩:=sortedAll_at s.heap ak out;refine ⟨.ref (s.heap.objs.size+1),_,I.laid (t':=s.toks) (o:=.lst (kr.map .int)) (fun _ _=>sortedAll_old) (oX _) ⟨?_,out.toList,e,E5 a1,?_⟩,rfl,k kr _ a2 a3 (I.ay.fresh (oX _))⟩
 ·rw [aG,a2.length_eq]
  rw [gY];lia
 ·simpa using he
end L2
namespace My
open PySem L2
def dk(ks:List Nat):List (Key×V):=ks.map fun k:Nat=>((Sum.inl (k:Int):Key),V.bl true)
def b_(ks:List Nat)(k:Nat):List Nat:=if k∈ks then ks else ks++[k]
theorem KJ{a b:Nat}:((Sum.inl (a:Int):Key)=Sum.inl (b:Int))↔a=b:=by
 constructor
 ·intro h
  have:=Sum.inl.inj h;lia
 ·rintro rfl;rfl
theorem yK(ks:List Nat):(dk ks).length=ks.length:=aG _
theorem Tw(ks:List Nat)(k:Nat):((dk ks).any fun kv=>decide (kv.1=(Sum.inl (k:Int):Key)))=decide (k∈ks):=by
 rw [nV,List.any_eq_true,fR];constructor
 ·rintro ⟨kv,h1,h2⟩
  obtain ⟨j,hj,rfl⟩:=b7.mp h1;have:=KJ.mp (fP h2);subst this;exact hj
 ·intro h
  exact ⟨_,b7.mpr ⟨k,h,rfl⟩,bV rfl⟩
theorem E6(ks:List Nat)(k:Nat):putK (dk ks) (Sum.inl (k:Int):Key) (V.bl true)=dk (b_ ks k):=by
 unfold putK b_;rw [Tw];by_cases h:k∈ks
 ·rw [aj (bV h),aj h]
  unfold dk;rw [bw];refine g8 fun j _=>?_;show (if _ then _ else _)=_
  split <;> rfl
 ·rw [aa (by rw [fR];exact h),aa h]
  unfold dk;rw [fC];rfl
theorem KN(ks:List Nat)(k:Nat):a7 (dk ks) (Sum.inl (k:Int):Key)=if k∈ks then some (V.bl true) else none:=by
 induction ks with
 | nil=>simp [dk,a7]
 | cons j r ih=>
  by_cases h:j=k
  ·subst h
   rw [aj (cw ..)];exact gD rfl
  ·show a7 ((Sum.inl (j:Int),V.bl true)::dk r) _=_
   rw [fJ (fun e=>h (KJ.mp e)),ih];by_cases m:k∈r;·rw [aj m,aj (cA _ m)]
   ·rw [aa m,aa (fun x=>by rcases bU.mp x with e | e;exact h e.symm;exact m e)]
variable {ks:List Nat} {k j:Nat}
theorem ir:j∈b_ ks k↔j∈ks∨j=k:=by
 unfold b_;by_cases h:k∈ks
 ·rw [aj h]
  constructor;·exact .inl
  ·rintro (e | rfl)
   ·exact e
   ·exact h
 ·rw [aa h,cH,bY]
theorem Tx(h:ks.Nodup):(b_ ks k).Nodup:=by
 unfold b_;by_cases m:k∈ks;·rw [aj m];exact h
 ·rw [aa m]
  refine nX.mpr ⟨h,(by simp),fun a ha b hb=>?_⟩
  rw [bY] at hb;subst hb;rintro rfl;exact m ha
def jS(n:Nat)(ks:List Nat):Prop:=ks.Nodup∧∀k∈ks,k<n
theorem jS.nil(n:Nat):jS n []:=⟨qE,fun _ h=>by cases h⟩
variable {n:Nat}
theorem jS.add(h:jS n ks)(hk:k<n):jS n (b_ ks k):=⟨Tx h.1,fun j hj=>by
 rcases ir.mp hj with e | rfl;·exact h.2 j e
 ·exact hk⟩
theorem E7:∀{n:Nat} {ks:List Nat},ks.Nodup→(∀k∈ks,k<n)→ks.length≤n
 | 0,ks,_,h=>by
  cases ks with
  | nil=>exact aC _
  | cons a r=>exact absurd (h a (cw ..)) (xD _)
 | n+1,ks,nd,h=>by
  have e:=E7 (n:=n) (ks:=ks.erase n) (nd.erase n) (fun k hk=>by have m:=(List.Nodup.mem_erase_iff nd).mp hk;have:=h k m.2;have:=m.1;lia)
  by_cases hm:n∈ks
  ·have:=List.length_erase_of_mem hm
   lia
  ·rw [List.erase_of_not_mem hm] at e
   lia
theorem jS.len(h:jS n ks):ks.length≤n:=E7 h.1 h.2
structure dQ (H:Hp) (D:Addr) (n:Nat) (ds:Nat→Addr) (un:Nat→Prop) (f:Nat→List Nat):Prop where
 lst:H D=some (.lst ((List.range n).map fun i=>V.ref (ds i)))
 inj:∀i j,i<n→j<n→ds i=ds j→i=j
 ne:∀i,i<n→ds i≠D
 at':∀i,i<n→un i→H (ds i)=some (.dK (dk (f i)))
 pl:∀i,i<n→jS n (f i)
def eF(f:Nat→List Nat)(i:Nat)(ks:List Nat):Nat→List Nat:=fun j=>if j=i then ks else f j
variable {H:Hp} {D:Addr} {ds:Nat→Addr} {f:Nat→List Nat} {i:Nat}
theorem dQ.put{un:Nat→Prop}(h:dQ H D n ds un f)(hi:i<n)(hj:j<n)(ui:un i)(hn:n≤1000) :
  gE H (ds i) (.int (j:Int)) (.bl true) (upd H (ds i) (.dK (dk (b_ (f i) j))))∧dQ (upd H (ds i) (.dK (dk (b_ (f i) j)))) D n ds un (eF f i (b_ (f i) j)):=by
 refine ⟨.inl ⟨dk (f i),Sum.inl (j:Int),h.at' i hi ui,rfl,?_,by rw [E6]⟩,?_,h.inj,h.ne,fun k hk uk=>?_,fun k hk=>?_⟩
 ·rw [yK]
  have:=(h.pl i hi).len;exact fg this (fg hn (by rw [gY];decide))
 ·rw [aM (Ne.symm (h.ne i hi))]
  exact h.lst
 ·unfold eF
  by_cases e:k=i
  ·subst e
   rw [aj rfl,au]
  ·rw [aa e,aM (fun z=>e (h.inj k i hk hi z))]
   exact h.at' k hk uk
 ·unfold eF
  by_cases e:k=i;·rw [aj e];exact (h.pl i hi).add hj
  ·rw [aa e];exact h.pl k hk
theorem dQ.ix{un:Nat→Prop}(h:dQ H D n ds un f)(hi:i<n):jM ((List.range n).map fun i=>V.ref (ds i)) (i:Int)=some (V.ref (ds i)):=
 pN (by rw [bP,qv hi];rfl)
def gR(n:Nat)(L:aE):Prop:=∀p∈L,0≤p.1∧p.1<(n:Int)∧0≤p.2∧p.2<(n:Int)
def fv(n:Nat)(L:aE)(f:Nat→List Nat):Prop:=∀i j:Nat,i<n→(j∈f i↔((i:Int),(j:Int))∈L∨((j:Int),(i:Int))∈L)
theorem fv.nil(n:Nat):fv n [] (fun _=>[]):=fun i j _=>by simp
theorem fv.more{L:aE}(h:fv n L f)(hi:i<n)(hj:j<n):fv n (L++[((i:Int),(j:Int))]) (eF (eF f i (b_ (f i) j)) j (b_ (eF f i (b_ (f i) j) j) i)):=fun a b ha=>by
 have e1:∀x y:Nat,y∈eF f i (b_ (f i) j) x↔y∈f x∨(x=i∧y=j):=fun x y=>by
  unfold eF;by_cases e:x=i
  ·subst e
   rw [aj rfl,ir];simp
  ·rw [aa e]
   simp [e]
 have e2:b∈eF (eF f i (b_ (f i) j)) j (b_ (eF f i (b_ (f i) j) j) i) a↔b∈eF f i (b_ (f i) j) a∨(a=j∧b=i):=by
  unfold eF;by_cases e:a=j
  ·subst e
   rw [aj rfl,ir];simp
  ·rw [aa e]
   simp [e]
 rw [e2,e1,h a b ha];simp only [cH,bY,Prod.mk.injEq];constructor
 ·rintro ((e | e) | ⟨rfl,rfl⟩)
  ·rcases e with e | e
   ·exact .inl (.inl e)
   ·exact .inr (.inl e)
  ·exact .inl (.inr ⟨by lia,by lia⟩)
  ·exact .inr (.inr ⟨rfl,rfl⟩)
 ·rintro ((e | ⟨e1,e2⟩) | (e | ⟨e1,e2⟩))
  ·exact .inl (.inl (.inl e))
  ·exact .inl (.inr ⟨by lia,by lia⟩)
  ·exact .inl (.inl (.inr e))
  ·exact .inr ⟨by lia,by lia⟩
def Tz:Sp:=fun vs H Q _=>∃(t:Addr) (n:Nat) (L:aE),vs=[.ref t]∧dS H t n L∧gR n L∧n≤1000 ∧
 ∀(H':Hp) (D:Addr) (ds:Nat→Addr) (f:Nat→List Nat),ao H H'→H D=none→(∀i,i<n→H (ds i)=none)→dQ H' D n ds (fun _=>True) f→fv n L f→Q (.ref D) H'
end My
namespace L2
open PySem PySem.Spec PyProof.Rows
def TB(K:aK):R2:=fun x y H Q=>∃(a b:Addr) (xs ys:List Int),x=.ref a∧y=.ref b∧bz K H a (xs.map V.int)∧bz K H b (ys.map V.int)∧Q (.bl (decide (xs=ys))) H
theorem TF{X:Cx}(hu:X.A.units+64<cLine):cU X (compareOp .Eq) (TB X.K):=by
 intro pins s σ H x y v u Q I rx ry h;obtain ⟨a,b,xs,ys,rfl,rfl,h1,h2,q⟩:=h;cases rx;cases ry;obtain ⟨us,r1,t1,_⟩:=I.list h1;obtain ⟨vs,r2,t2,_⟩:=I.list h2;have l1:=r1.length;have l2:=r2.length;rw [aG] at l1 l2;by_cases hl:xs.length=ys.length
 ·refine SeqAt.RcAt.lists (e:=fun j=>iF (.int (xs.getD j 0)) (.int (ys.getD j 0))) t1.isList t2.isList (by simp;lia) (by lia) (fun j z1 z2=>?_) _ _ _ _ ?_
  ·have yr:j<us.length:=by simpa using z1
   have R8:j<vs.length:=by simpa using z2
   have ex:(xs.map V.int)[j]?=some (.int (xs.getD j 0)):=by rw [bP,eN];simp [show j<xs.length by lia]
   have ey:(ys.map V.int)[j]?=some (.int (ys.getD j 0)):=by rw [bP,eN];simp [show j<ys.length by lia]
   obtain ⟨x',xU,rx⟩:=r1.get ex;obtain ⟨y',Et,ry⟩:=r2.get ey;have e1:us.toArray[j]=x':=by simpa using (bx.mp xU).2
   have e2:vs.toArray[j]=y':=by simpa using (bx.mp Et).2
   rw [e1,e2];exact AA rx ry rfl rfl
  ·rw [show us.toArray.size=xs.length by simp;lia,JT hl]
   exact ⟨.bl (decide (xs=ys)),H,I,rfl,q⟩
 ·rw [b3 (fun e=>hl (by rw [e]))] at q
  refine SeqAt.RcAt.lists_lengths t1.isList t2.isList ?_ (by lia) _ _ _ _ ⟨.bl false,H,I,rfl,q⟩
  simp;lia
end L2
namespace My
open PySem L2
def iN(k:Nat):Int:=(k:Int)
def nh(zs:List Int)(n:Nat):Prop:=zs.Perm ((List.range n).map iN)
instance (zs:List Int) (n:Nat):Decidable (nh zs n):=by unfold nh;exact inferInstance
theorem TH(n:Nat):((List.range n).map iN).Pairwise (·≤·):=by rw [qF];exact List.Pairwise.imp (fun h=>by unfold iN;lia) xH
variable {ws zs:List Int} {n:Nat}
theorem TJ(p:ws.Perm zs)(o:ws.Pairwise (·≤·)):decide (ws=(List.range n).map iN)=decide (nh zs n):=by
 by_cases h:nh zs n
 ·rw [bV h]
  refine bV ?_;exact (p.trans h).eq_of_pairwise (fun a b _ _ h1 h2=>by lia) o (TH n)
 ·rw [b3 h]
  refine b3 fun e=>h ?_;subst e;exact p.symm
def TK:Sp:=fun vs H Q _=>∃(a:Addr) (zs:List Int) (n:Nat),vs=[.ref a,.int (n:Int)]∧H a=some (.lst (zs.map V.int))∧zs.length<64∧n≤1000∧(∀H',ao H H'→Q (.bl (decide (nh zs n))) H')
def TL(N:Addr):Sp:=fun vs H Q E=>∃(a:Addr) (zs:List Int) (n:Nat),vs=[.ref a,.int (n:Int)]∧H a=some (.lst (zs.map V.int))∧zs.length<64∧n≤1000 ∧
 (¬nh zs n→∀H',ao H H'→E (.ref N) none H')∧(nh zs n→∀H',ao H H'→Q .aS H')
def TM(H:Hp)(a:Addr)(n:Nat)(o:List Nat):Prop:=H a=some (.lst (o.map fun k:Nat=>V.int (k:Int)))∧o.Perm (List.range n)
def TN:Sp:=fun vs H Q _=>∃(a:Addr) (n:Nat) (o:List Nat),vs=[.ref a]∧TM H a n o∧n≤1000 ∧
 ∀(r:Addr) (H':Hp),ao H H'→H r=none→H' r=some (.lst ((List.range n).map fun p=>V.int (o.idxOf p:Int)))→Q (.ref r) H'
variable {H H1:Hp} {D:Addr}
theorem TQ(s:ao H H1)(e:H1 D=none):H D=none:=by
 cases z:H D with
 | none=>rfl
 | some o=>rw [s _ _ z] at e;cases e
theorem Bh(s:ao H H1){o:HO}(e:H1 D=none):ao H (upd H1 D o):=fG s (TQ s e)
variable {k:Nat}
theorem KO(h:k<n):lR n (k:Int)=some k:=by unfold lR;rw [aj (by lia),aj (by lia),dF]
def kK(o:List Nat)(k p:Nat):Int:=if o.idxOf p<k then (o.idxOf p:Int) else 0
variable {o:List Nat}
theorem yL(h:o.Perm (List.range n)):o.Nodup:=h.nodup_iff.mpr mK
theorem va(h:o.Perm (List.range n)):o.length=n:=by rw [h.length_eq,dJ]
variable {p:Nat}
theorem jT(h:o.Perm (List.range n)):p∈o↔p<n:=by rw [h.mem_iff,cu]
theorem KP(nd:o.Nodup)(hk:k<o.length):o.idxOf o[k]=k:=nd.idxOf_getElem k hk
theorem yM(h:p∈o):∃hk:o.idxOf p<o.length,o[o.idxOf p]=p:=⟨Aa h,List.getElem_idxOf _⟩
theorem TR(h:o.Perm (List.range n))(hk:k<o.length):((List.range n).map fun p=>V.int (kK o k p)).set o[k] (.int (k:Int))=(List.range n).map fun p=>V.int (kK o (k+1) p):=by
 have nd:=yL h;refine g7 (by simp) fun q h1 h2=>?_
 have hq:q<n:=by simpa using h2
 rw [List.getElem_set];by_cases e:o[k]=q
 ·rw [aj e]
  simp only [fQ,qD];unfold kK;rw [←e,KP nd hk,aj (Nat.lt_succ_self k)]
 ·rw [aa e]
  simp only [fQ,qD];unfold kK;have ne:o.idxOf q≠k:=fun z=>by obtain ⟨hz,ez⟩:=yM ((jT h).mpr hq);subst z;exact e ez
  by_cases z:o.idxOf q<k;·rw [aj z,aj (by lia)]
  ·rw [aa z,aa (by lia)]
theorem TV(n:Nat)(o:List Nat):(List.replicate n [V.int 0]).flatten=(List.range n).map fun p=>V.int (kK o 0 p):=by
 have e:∀n:Nat,(List.replicate n [V.int 0]).flatten=List.replicate n (V.int 0):=fun n=>by
  induction n with
  | zero=>rfl
  | succ n ih=>rw [t_,xw,ih];rfl
 rw [e];refine g7 (by simp) fun q h1 h2=>?_
 simp [kK]
theorem TY(h:o.Perm (List.range n)):(List.range n).map (fun p=>V.int (kK o o.length p))=(List.range n).map fun p=>V.int (o.idxOf p:Int):=by refine g8 fun p hp=>?_;unfold kK;rw [aj (Aa ((jT h).mpr (cu.mp hp)))]
def pX(n:Nat)(ds:Nat→Addr)(un:Nat→Prop)(H H':Hp):Prop:=∀b o,H b=some o→(∀i,i<n→un i→b≠ds i)→H' b=some o
variable {ds:Nat→Addr}
theorem pX.refl{un:Nat→Prop}:pX n ds un H H:=fun _ _ h _=>h
variable {i:Nat}
theorem pX.put{un:Nat→Prop}(h:pX n ds un H H1)(hi:i<n)(ui:un i){o:HO}:pX n ds un H (upd H1 (ds i) o):=fun b u e k=>by rw [aM (k i hi ui)];exact h b u e k
theorem take_snoc{α:Type}{xs:List α}{x:α}(h:xs[i]?=some x):xs.take (i+1)=xs.take i++[x]:=by rw [iZ,h];rfl
def iu(n:Nat)(f:Nat→List Nat)(ps:List Nat)(i j:Nat)(g:Nat→List Nat):Prop:=∀a b:Nat,a<n→(b∈g a↔b∈f a∨(a≠b∧(a∈ps.take i∧b∈ps∨ps[i]?=some a∧b∈ps.take j)))
theorem iu.start(n:Nat)(f:Nat→List Nat)(ps:List Nat):iu n f ps 0 0 f:=fun a b _=>by simp
variable {f g:Nat→List Nat} {ps:List Nat}
theorem iu.row(h:iu n f ps i ps.length g):iu n f ps (i+1) 0 g:=fun a b ha=>by
 rw [h a b ha,gh];cases e:ps[i]? with
 | none=>
  have:ps.length≤i:=C9.mp e;rw [z8 this,z8 (by lia)]
  simp
 | some x=>
  rw [take_snoc e];simp only [cH,bY,Option.some.injEq,List.take_zero,qy,and_false,or_false];constructor
  ·rintro (z | ⟨z,z1 | z1⟩)
   ·exact .inl z
   ·exact .inr ⟨z,.inl z1.1,z1.2⟩
   ·exact .inr ⟨z,.inr z1.1.symm,z1.2⟩
  ·rintro (z | ⟨z,z1 | z1,z2⟩)
   ·exact .inl z
   ·exact .inr ⟨z,.inl ⟨z1,z2⟩⟩
   ·exact .inr ⟨z,.inr ⟨z1.symm,z2⟩⟩
variable {j:Nat}
theorem iu.same{x:Nat}(h:iu n f ps i j g)(hi:ps[i]?=some x)(hj:ps[j]?=some x):iu n f ps i (j+1) g:=fun a b ha=>by
 rw [h a b ha,take_snoc hj];simp only [cH,bY,hi,Option.some.injEq];constructor
 ·rintro (z | ⟨z,z1 | z1⟩)
  ·exact .inl z
  ·exact .inr ⟨z,.inl z1⟩
  ·exact .inr ⟨z,.inr ⟨z1.1,.inl z1.2⟩⟩
 ·rintro (z | ⟨z,z1 | ⟨z1,z2 | z2⟩⟩)
  ·exact .inl z
  ·exact .inr ⟨z,.inl z1⟩
  ·exact .inr ⟨z,.inr ⟨z1,z2⟩⟩
  ·exact absurd (z1.symm.trans z2.symm) z
theorem iu.put{x y:Nat}(h:iu n f ps i j g)(hi:ps[i]?=some x)(hj:ps[j]?=some y)(ne:x≠y):iu n f ps i (j+1) (eF g x (b_ (g x) y)):=fun a b ha=>by
 have e1:b∈eF g x (b_ (g x) y) a↔b∈g a∨(a=x∧b=y):=by
  unfold eF;by_cases e:a=x
  ·subst e
   rw [aj rfl,ir];simp
  ·rw [aa e]
   simp [e]
 rw [e1,h a b ha,take_snoc hj];simp only [cH,bY,hi,Option.some.injEq];constructor
 ·rintro ((z | ⟨z,z1 | z1⟩) | ⟨rfl,rfl⟩)
  ·exact .inl z
  ·exact .inr ⟨z,.inl z1⟩
  ·exact .inr ⟨z,.inr ⟨z1.1,.inl z1.2⟩⟩
  ·exact .inr ⟨ne,.inr ⟨rfl,.inr rfl⟩⟩
 ·rintro (z | ⟨z,z1 | ⟨z1,z2 | z2⟩⟩)
  ·exact .inl (.inl z)
  ·exact .inl (.inr ⟨z,.inl z1⟩)
  ·exact .inl (.inr ⟨z,.inr ⟨z1,z2⟩⟩)
  ·exact .inr ⟨z1.symm,z2⟩
theorem iu.done(h:iu n f ps ps.length 0 g):∀a b:Nat,a<n→(b∈g a↔b∈f a∨(a≠b∧a∈ps∧b∈ps)):=fun a b ha=>by rw [h a b ha,gh];simp
def TZ:Sp:=fun vs H Q _=>∃(D pl:Addr) (n:Nat) (ds:Nat→Addr) (un:Nat→Prop) (f:Nat→List Nat) (ps:List Nat),vs=[.ref D,.ref pl]∧dQ H D n ds un f∧H pl=some (.lst (ps.map fun k:Nat=>V.int (k:Int)))∧(∀p∈ps,p<n∧un p)∧n≤1000 ∧
 ∀(H':Hp) (g:Nat→List Nat),pX n ds un H H'→dQ H' D n ds un g→(∀a b:Nat,a<n→(b∈g a↔b∈f a∨(a≠b∧a∈ps∧b∈ps)))→Q .aS H'
theorem dQ.mono{H':Hp}{un:Nat→Prop}(h:dQ H D n ds un f)(s:ao H H'):dQ H' D n ds un f:=⟨s _ _ h.lst,h.inj,h.ne,fun i hi ui=>s _ _ (h.at' i hi ui),h.pl⟩
theorem dQ.less{un KQ:Nat→Prop}(h:dQ H D n ds un f)(k:∀i,i<n→KQ i→un i):dQ H D n ds KQ f:=⟨h.lst,h.inj,h.ne,fun i hi ui=>h.at' i hi (k i hi ui),h.pl⟩
variable {x:Addr}
theorem dQ.upd{un:Nat→Prop}(h:dQ H D n ds un f){o:HO}(n1:x≠D)(n2:∀i,i<n→un i→ds i≠x):dQ (upd H x o) D n ds un f:=⟨by rw [aM (Ne.symm n1)];exact h.lst,h.inj,h.ne,fun i hi ui=>by rw [aM (n2 i hi ui)];exact h.at' i hi ui,h.pl⟩
variable {a:Addr}
theorem T1{o:Obj}{kvs:List (Key×V)}(h:H1 a=some (.aW o (.dK kvs))):kB (jR a o kvs) (kvs.map fun kv=>kV kv.1) H1 where
 go:=fun i Hc s hi=>⟨s _ _ h,by simpa using hi⟩
 df:=fun i Hc x H' s y=>⟨y.1,fun _=>by obtain ⟨kv,e,rfl⟩:=y.2;rw [bP,e];rfl⟩
 stop:=fun i Hc s hi=>⟨s _ _ h,by simpa using hi⟩
theorem T2(ks:List Nat):(dk ks).map (fun kv=>kV kv.1)=ks.map fun k:Nat=>V.int (k:Int):=by unfold dk;rw [bw];rfl
theorem T3(ks:List Nat):(List.range ks.length).map (fun i=>ks.getD i 0)=ks:=by
 refine g7 (by simp) fun i h1 h2=>?_
 simp [eN,h2]
theorem T4(ks:List Nat)(pr:Nat→Bool):((List.range ks.length).filter fun i=>pr (ks.getD i 0)).map (fun i=>ks.getD i 0)=ks.filter pr:=by have e:=List.filter_map (f:=fun i=>ks.getD i 0) (l:=List.range ks.length) (p:=pr);rw [T3] at e;exact e.symm
variable {ρ:St→St} {tt:TT} {te:TE} {σ:St} {Q:VK} {ks:List Nat}
theorem E8{ob:Obj}(h:H a=some (.aW ob (.dK (dk ks))))(pr:Nat→Bool)(hl:ks.length<sizeLine)
  (test:∀k∈ks,∀(Hc:Hp) (R:Bool→Hp→Prop),ao H Hc→R (pr k) Hc→tt (some (.int (k:Int))::ρ σ) Hc R)
  (step:∀k∈ks,∀(Hc:Hp) (R:VK),R (.int (k:Int)) Hc→te (some (.int (k:Int))::ρ σ) Hc R)
  (fin:∀D Hc,H D=none→ao H Hc→Hc D=some (.lst ((ks.filter pr).map fun k:Nat=>V.int (k:Int)))→Q (.ref D) Hc):hV (fun _ H R=>R (jR a ob (dk ks)) H) ρ tt te σ H Q:=by
 have at':∀{i:Nat} {x:V},(ks.map fun k:Nat=>V.int (k:Int))[i]?=some x→i<ks.length∧x=.int ((ks.getD i 0:Nat):Int)∧ks.getD i 0∈ks:=fun{i x} hx=>by
  have hi:i<ks.length:=by have:=(bx.mp hx).1;simpa using this
  rw [bP] at hx;simp [hi] at hx;rw [getD_at hi];exact ⟨hi,hx.symm,cB hi⟩
 refine S3 (xs:=ks.map fun k:Nat=>V.int (k:Int)) (fun i=>pr (ks.getD i 0)) (fun R k=>k _ (by rw [←T2];exact T1 h)) (by rw [aG];exact hl) (fun _ i y _=>y=.int ((ks.getD i 0:Nat):Int)) (fun _ _ _ _ _ _ h _ _=>h) ?_ ?_ ?_
 ·intro i x hx Hc R sc hR
  obtain ⟨_,rfl,m⟩:=at' hx;exact test _ m Hc R sc hR
 ·intro D i x hx Hc R sc _ kc
  obtain ⟨_,rfl,m⟩:=at' hx;exact step _ m Hc R (kc _ Hc (ao.refl _) rfl)
 ·intro D ys Hc nD sc ly hP eD
  refine fin D Hc nD sc ?_;rw [eD,←T4 ks pr,bw];rw [aG] at ly hP
  congr 2
  refine g7 (by simpa using ly) fun k h1 h2=>?_
  have h3:k<((List.range ks.length).filter fun i=>pr (ks.getD i 0)).length:=by simpa using h2
  rw [fQ];exact hP k _ _ (bg h1) (bg h3)
theorem KR(p:ws.Perm (ks.map iN)):∃ms:List Nat,ws=ms.map iN∧ms.Perm ks:=by
 refine ⟨ws.map Int.toNat,?_,?_⟩
 ·rw [bw]
  conv=>lhs;rw [←ph ws]
  refine g8 fun z hz=>?_
  obtain ⟨k,_,rfl⟩:=b7.mp (p.mem_iff.mp hz)
  show iN k=iN (Int.toNat (iN k))
  unfold iN
  rw [dF]
 ·have:=p.map Int.toNat
  rw [bw] at this
  have e:ks.map (Int.toNat ∘ iN)=ks:=by
   conv=>rhs;rw [←ph ks]
   exact g8 fun k _=>dF k
  rw [e] at this
  exact this
structure kL (n:Nat) (o:List Nat) (p:Nat) (ms:List Nat):Prop where
 up:ms.Pairwise (· < ·)
 lt:∀q∈ms,q<n
 la:∀q∈ms,o.idxOf p<o.idxOf q
theorem T5{ms:List Nat}(hk:jS n ks)(h:ms.Perm (ks.filter fun q=>decide (o.idxOf p<o.idxOf q)))(s:(ms.map iN).Pairwise (·≤·)):kL n o p ms:=by
 have m:∀q∈ms,q∈ks∧o.idxOf p<o.idxOf q:=fun q hq=>by have:=cG.mp (h.mem_iff.mp hq);exact ⟨this.1,by simpa using this.2⟩
 refine ⟨?_,fun q hq=>hk.2 q (m q hq).1,fun q hq=>(m q hq).2⟩;have nd:ms.Nodup:=h.nodup_iff.mpr (hk.1.filter _);rw [qF] at s;refine List.Pairwise.imp₂ (fun a b h1 h2=>?_) s nd;have h1:(a:Int)≤(b:Int):=h1;have h2:a≠b:=h2;lia
def T6(H:Hp)(D:Addr)(n:Nat)(rs:Nat→Addr)(g:Nat→List Nat):Prop:=H D=some (.lst ((List.range n).map fun p=>V.ref (rs p)))∧∀p,p<n→H (rs p)=some (.lst ((g p).map fun k:Nat=>V.int (k:Int)))
theorem T7(h:nh zs n):∃o:List Nat,zs=o.map iN∧o.Perm (List.range n):=KR h
def kM(rs:Nat→Addr)(p:Nat)(x:Addr):Nat→Addr:=fun q=>if q=p then x else rs q
theorem T8(n:Nat)(rs:Nat→Addr)(p:Nat)(x:Addr):((List.range n).map fun q=>V.ref (rs q)).set p (.ref x)=(List.range n).map fun q=>V.ref (kM rs p x q):=by
 refine g7 (by simp) fun q h1 h2=>?_
 rw [List.getElem_set,fQ,qD,fQ,qD];unfold kM;by_cases e:p=q
 ·subst e
  rw [aj rfl,aj rfl]
 ·rw [aa e,aa (Ne.symm e)]
variable {rs:Nat→Addr}
theorem KS:kM rs p x p=x:=aj rfl
variable {q:Nat}
theorem T9(h:q≠p):kM rs p x q=rs q:=aa h
theorem T_{x:List Nat}:eF f p x p=x:=aj rfl
theorem Ua{x:List Nat}(h:q≠p):eF f p x q=f q:=aa h
theorem rO{g:Nat→V}(h:p<n):jM ((List.range n).map g) (p:Int)=some (g p):=pN (by rw [bP,qv h];rfl)
theorem Ub(o ks:List Nat)(p:Nat):(ks.filter fun q=>decide ((o.idxOf p:Int)<(o.idxOf q:Int)))=ks.filter fun q=>decide (o.idxOf p<o.idxOf q):=by refine List.filter_congr fun q _=>?_;rw [nV,fR,fR];lia
theorem yN(h:o.Perm (List.range n))(hp:p<n)(hq:q<n)(ne:p≠q):o.idxOf p≠o.idxOf q:=fun z=>by
 obtain ⟨h1,e1⟩:=yM ((jT h).mpr hp);obtain ⟨h2,e2⟩:=yM ((jT h).mpr hq);refine ne ?_;rw [←e1,←e2]
 congr 1
theorem Bi{wi:TI}(h:wi σ H fun J H1=>hV (fun _ H R=>R J H) ρ tt te σ H1 Q):hV wi ρ tt te σ H Q:=h
end My
namespace L2
open PySem PySem.Spec PyProof.Rows
section
variable {X:Cx} {pins:aR} {σ:St} {H:Hp} {s:Shared}
end
end L2
namespace My
open PySem L2
theorem Uc{n:Nat}{o:List Nat}(h:o.Perm (List.range n)){p:Nat}{ms:List Nat}(k:kL n o p ms):ms.length≤n-1-o.idxOf p:=by
 have nd:(ms.map fun q=>o.idxOf q-(o.idxOf p+1)).Nodup:=by rw [List.nodup_iff_pairwise_ne,qF];refine List.Pairwise.imp_of_mem (fun{a b} ha hb lt=>?_) k.up;have h1:=k.la a ha;have h2:=k.la b hb;have ne:=yN h (k.lt a ha) (k.lt b hb) (bM lt);lia
 have:=E7 (n:=n-1-o.idxOf p) nd (fun x hx=>by obtain ⟨q,hq,rfl⟩:=b7.mp hx;have h1:=k.la q hq;have h2:=(yM ((jT h).mpr (k.lt q hq))).1;rw [va h] at h2;lia)
 rwa [aG] at this
def jU(p q:Nat):Int×Int:=(if (q:Int)<(p:Int) then (q:Int) else (p:Int),if (q:Int)>(p:Int) then (q:Int) else (p:Int))
end My
namespace L2
open PySem PySem.Spec PyProof.Rows
theorem KU{X:Cx}{E:XK}(L:uP X E):PassesOwn (model X.prog X.w) X.A X.env X.xe:=by rw [L.xe];exact PassesOwn.leaving
end L2
namespace My
open PySem L2
def Ud:Sp:=fun vs H Q _=>∃m:Nat,vs=[.int (m:Int)]∧m≤1000∧Q (.int ((m:Int)*m+3*m+1)) H
def Ue:Sp:=fun vs H Q _=>∃(t:Addr) (n:Nat) (L:aE),vs=[.ref t]∧dS H t n L∧n≤9∧Q .aS H
end My
namespace L2
open PySem PySem.Spec PyProof.Rows
def KW(K:aK):R2:=fun x y H Q=>∃a b xs ys,x=.ref a∧y=.ref b∧dG K H a xs∧dG K H b ys∧ys≠[]∧xs.length+ys.length≤sizeLine ∧
 (xs=[]→Q (.ref b) H)∧(xs≠[]→∀p,H p=none→Q (.ref p) (upd H p (.tup (xs++ys))))
theorem KY{X:Cx}:cU X (binaryOp .Add) (KW X.K):=by
 intro pins s σ H x y v u Q I rx ry h;by_cases hx:∃a b xs ys,x=.ref a∧y=.ref b∧dG X.K H a xs∧dG X.K H b ys∧xs=[]∧Q (.ref b) H
 ·obtain ⟨a,b,xs,ys,rfl,rfl,ha,hb,rfl,q⟩:=hx
  cases rx;cases ry;obtain ⟨ak,r1,p1,_⟩:=I.tuple ha;obtain ⟨jb,r2,p2,_⟩:=I.tuple hb;have e0:ak=[]:=r1.Az.mpr rfl;subst e0;obtain ⟨⟨cls,dd,data,sl⟩,ho,hc,n,hd⟩:=id p1;obtain ⟨⟨Jf,pM,data2,jK⟩,lQ,hG,n2,hd2⟩:=id p2;simp only at hc hd hG hd2;subst hc hd hG hd2
  exact concat_meets ⟨_,ho,rfl⟩ ⟨_,lQ,rfl⟩ noFill_tuple_add seq_tuple_add Dg Dh (Di _ _)
   (tuple_addW0 a b _ jb.toArray n n2 dd pM sl jK (by simp)) ⟨ho,lQ,⟨.ref b,H,I,rfl,q⟩⟩
 ·obtain ⟨a,b,xs,ys,rfl,rfl,ha,hb,hy,hz,q1,q2⟩:=h
  have ne:xs≠[]:=fun z=>hx ⟨a,b,xs,ys,rfl,rfl,ha,hb,z,q1 z⟩;exact QD pins s σ H _ _ v u Q I rx ry ⟨a,b,xs,ys,rfl,rfl,ha,hb,ne,hz,fun z=>absurd z hy,fun _=>q2 ne⟩
end L2
namespace My
open PySem L2
end My
namespace L2
open PySem PySem.Spec PyProof.Rows
theorem E9{X:Cx}{K:aK}(hk:X.K=K:=by rfl):cU X (binaryOp .Add) (KW K):=by subst hk;exact KY
end L2
namespace My
open PySem L2
end My
namespace L2
open PySem PySem.Spec PyProof.Rows
end L2
namespace My
open PySem L2
def yO:V→Nat
 | .int i=>i.toNat
 | _=>0
theorem Ug{ys:List V}{n:Nat}(p:ys.Perm (cJ n)):∃o:List Nat,ys=o.map (fun k:Nat=>V.int (k:Int))∧o.Perm (List.range n):=by
 refine ⟨ys.map yO,?_,?_⟩
 ·rw [bw]
  conv=>lhs;rw [←ph ys]
  refine g8 fun y hy=>?_
  obtain ⟨k,_,rfl⟩:=b7.mp (p.mem_iff.mp hy)
  show V.int (k:Int)=V.int (((k:Int).toNat:Nat):Int)
  rw [dF]
 ·have:=p.map yO
  unfold cJ at this
  rw [bw] at this
  have e:(List.range n).map (yO ∘ fun i:Nat=>V.int (i:Int))=List.range n:=by
   conv=>rhs;rw [←ph (List.range n)]
   exact g8 fun k _=>dF k
  rw [e] at this
  exact this
inductive ni (bO:Nat→Nat→Prop) (bL:Nat→Prop) (s:Nat):Nat→Prop where
 | start:ni bO bL s s
 | step {a b:Nat}:ni bO bL s a→(a=s∨bL a)→bO a b→ni bO bL s b
structure dU (n:Nat) (bO:Nat→Nat→Prop) (bL:Nat→Prop) (s:Nat) (here:Option Nat) (dn:Nat→Prop) (ks ws:List Nat):Prop where
 pl:jS n ks
 st:s∈ks
 rc:∀k∈ks,ni bO bL s k
 wt:∀w∈ws,w∈ks∧(w=s∨bL w)
 cl:∀k∈ks,(k=s∨bL k)→k∈ws∨∀b,bO k b→b∈ks∨(here=some k∧¬dn b)
variable {n:Nat} {bO:Nat→Nat→Prop} {bL:Nat→Prop} {s:Nat}
variable {dn:Nat→Prop}
theorem dU.start(hs:s<n):dU n bO bL s none dn [s] [s]:=
 ⟨⟨by simp,fun k hk=>by rw [bY.mp hk];exact hs⟩,bY.mpr rfl,fun k hk=>by rw [bY.mp hk];exact .start,fun w hw=>⟨hw,.inl (bY.mp hw)⟩,fun k hk _=>.inl hk⟩
variable {ks ws:List Nat} {h:Nat}
theorem dU.pop(k:dU n bO bL s none dn ks (ws++[h])):dU n bO bL s (some h) (fun _=>False) ks ws:=
 ⟨k.pl,k.st,k.rc,fun w hw=>k.wt w (xo _ hw),fun x hx ox=>by
  rcases k.cl x hx ox with e | e
  ·rcases cH.mp e with e | e
   ·exact .inl e
   ·exact .inr fun b _=>.inr ⟨by rw [bY.mp e],fun z=>z⟩
  ·exact .inr fun b hb=>.inl ((e b hb).resolve_right fun z=>by cases z.1)⟩
variable {b:Nat}
theorem dU.old(k:dU n bO bL s (some h) dn ks ws)(hb:b∈ks):dU n bO bL s (some h) (fun x=>dn x∨x=b) ks ws:=
 ⟨k.pl,k.st,k.rc,k.wt,fun x hx ox=>by
  rcases k.cl x hx ox with e | e;·exact .inl e
  ·refine .inr fun c hc=>?_
   rcases e c hc with e | e;·exact .inl e
   ·by_cases z:c=b
    ·rw [z];exact .inl hb
    ·exact .inr ⟨e.1,fun q=>q.elim e.2 z⟩⟩
theorem dU.new{vs:List Nat}(k:dU n bO bL s (some h) dn ks ws)(hb:b∉ks)(bn:b<n)(hh:h∈ks)(oh:h=s∨bL h)(ab:bO h b)(hv:(bL b∧vs=ws++[b])∨(¬bL b∧vs=ws)):dU n bO bL s (some h) (fun x=>dn x∨x=b) (b_ ks b) vs:=by
 have bs:b≠s:=fun z=>hb (z▸k.st);have sub:∀w∈ws,w∈vs:=fun w hw=>by
  rcases hv with ⟨_,rfl⟩ | ⟨_,rfl⟩;·exact xo _ hw
  ·exact hw
 refine ⟨k.pl.add bn,ir.mpr (.inl k.st),fun x hx=>?_,fun w hw=>?_,fun x hx ox=>?_⟩
 ·rcases ir.mp hx with e | rfl
  ·exact k.rc x e
  ·exact .step (k.rc h hh) oh ab
 ·rcases hv with ⟨tb,rfl⟩ | ⟨_,rfl⟩
  ·rcases cH.mp hw with e | e
   ·exact ⟨ir.mpr (.inl (k.wt w e).1),(k.wt w e).2⟩
   ·rw [bY.mp e]
    exact ⟨ir.mpr (.inr rfl),.inr tb⟩
  ·exact ⟨ir.mpr (.inl (k.wt w hw).1),(k.wt w hw).2⟩
 ·rcases ir.mp hx with e | rfl
  ·rcases k.cl x e ox with e | e
   ·exact .inl (sub x e)
   ·refine .inr fun c hc=>?_
    rcases e c hc with e | e;·exact .inl (ir.mpr (.inl e))
    ·by_cases z:c=b
     ·exact .inl (ir.mpr (.inr z))
     ·exact .inr ⟨e.1,fun q=>q.elim e.2 z⟩
  ·rcases hv with ⟨tb,rfl⟩ | ⟨tb,rfl⟩
   ·exact .inl (dR _ (bY.mpr rfl))
   ·exact absurd ox (fun z=>z.elim bs tb)
theorem dU.next{Uh:Nat→Prop}(k:dU n bO bL s (some h) dn ks ws)(all:∀b,bO h b→dn b):dU n bO bL s none Uh ks ws:=
 ⟨k.pl,k.st,k.rc,k.wt,fun x hx ox=>by
  rcases k.cl x hx ox with e | e;·exact .inl e
  ·refine .inr fun c hc=>.inl ?_
   rcases e c hc with e | ⟨e,e2⟩;·exact e
   ·cases e
    exact absurd (all c hc) e2⟩
theorem dU.done(k:dU n bO bL s none dn ks [])(x:Nat):x∈ks↔ni bO bL s x:=by
 refine ⟨k.rc x,fun h=>?_⟩
 induction h with
 | start=>exact k.st
 | step _ o ab ih=>
  rcases k.cl _ ih o with e | e;·cases e
  ·exact (e _ ab).resolve_right fun z=>by cases z.1
theorem Ui{ms:List Nat}(h1:ks.Nodup)(h2:ms.Nodup)(e:∀x,x∈ks↔x∈ms)(p:Nat→Bool):(ks.filter p).length=(ms.filter p).length:=by have pm:ks.Perm ms:=(ur h1 h2).mpr e;exact (pm.filter p).length_eq
theorem KZ(h:b∉ks):(b_ ks b).length=ks.length+1:=by unfold b_;rw [aa h,c_];rfl
end My
namespace L2
open PySem PySem.Spec PyProof.Rows
theorem Bj{X:Cx}{K:aK}(hk:X.K=K:=by rfl):cU X (compareOp .NotIn) (DY K true):=by subst hk;exact QN
end L2
namespace My
open PySem L2
def gT(n:Nat)(f:Nat→List Nat)(a b:Nat):Prop:=a<n∧b∈f a
def mj(n:Nat)(f:Nat→List Nat)(done:List Nat)(p:Nat)(c:Nat):Prop:=∃ks:List Nat,jS n ks∧(∀x,x∈ks↔ni (gT n f) (·∈done) p x)∧c=(ks.filter fun q=>!decide (q=p) && !decide (q∈done)).length
def Uj:Sp:=fun vs H Q _=>∃(D d:Addr) (n:Nat) (ds:Nat→Addr) (f:Nat→List Nat) (done:List Nat) (p:Nat),vs=[.ref D,.ref d,.int (p:Int)]∧dQ H D n ds (fun _=>True) f∧H d=some (.tup (done.map fun k:Nat=>V.int (k:Int)))∧done.length≤1000∧p<n∧n≤60 ∧
 ∀(H':Hp) (r:Addr) (xs:List V),(∀b o,H b=some o→(∀i,i<n→b≠ds i)→H' b=some o)→H' r=some (.lst xs)→mj n f done p xs.length→Q (.ref r) H'
variable {a:Addr} {σ:St} {H:Hp}
theorem Uk{ob:Obj}{ks:List Nat}{g:TG}{tb:TS}{D:Ends}(Pv:Nat→St→Hp→Prop)(h0:Pv 0 σ H)(hl:∀i σ H,i≤ks.length→Pv i σ H→H a=some (.aW ob (.dK (dk ks))))
  (hs:∀(i k:Nat) σ H,ks[i]?=some k→Pv i σ H→g (.int (k:Int)) σ H fun σ2 H2=>tb {D with nx:=Pv (i+1),ct:=Pv (i+1),bk:=D.nx} σ2 H2) (hd:∀σ H,Pv ks.length σ H→D.nx σ H) :
  ∃W:Nat→Nat→St→Hp→Prop,(∃m,W 0 m σ H)∧∀i m σ H,W i m σ H→
   ((jR a ob (dk ks)).stop i H∧D.nx σ H)∨((jR a ob (dk ks)).go i H∧∃N:St→Hp→Prop,(∀σ' H',N σ' H'→∃m',m'<m∧W (i+1) m' σ' H')∧∀x H',(jR a ob (dk ks)).df i H x H'→g x σ H' fun σ2 H2=>tb {D with nx:=N,ct:=N,bk:=D.nx} σ2 H2):=by
 refine ⟨fun i m σ H=>m=ks.length-i∧i≤ks.length∧Pv i σ H,⟨ks.length,by simp,bG _,h0⟩,?_⟩
 rintro i m σ H ⟨rfl,hi,p⟩;have q:=hl i σ H hi p;by_cases aT:i<ks.length
 ·refine .inr ⟨⟨q,by rw [yK];exact aT⟩,Pv (i+1),fun σ' H' p'=>⟨ks.length-(i+1),by lia,rfl,aT,p'⟩,fun x H' y=>?_⟩
  obtain ⟨e,kv,ek,rfl⟩:=y;subst e;unfold dk at ek;rw [bP,bg aT] at ek;cases ek;exact hs i _ σ _ (bg aT) p
 ·have e:i=ks.length:=by lia
  subst e;exact .inl ⟨⟨q,by rw [yK];exact aC _⟩,hd σ H p⟩
structure oH (H:Hp) (D:Addr) (n:Nat) (ds:Nat→Addr) (f:Nat→List Nat):Prop where
 lst:H D=some (.lst ((List.range n).map fun i=>V.ref (ds i)))
 at':∀i,i<n→H (ds i)=some (.dK (dk (f i)))∨∃ob,H (ds i)=some (.aW ob (.dK (dk (f i))))
variable {D:Addr} {n:Nat} {ds:Nat→Addr} {f:Nat→List Nat}
theorem dQ.fr(h:dQ H D n ds (fun _=>True) f):oH H D n ds f:=⟨h.lst,fun i hi=>.inl (h.at' i hi trivial)⟩
theorem oJ(done:List Nat)(k:Nat):jd (.int (k:Int)) (done.map fun k:Nat=>V.int (k:Int))=decide (k∈done):=by
 unfold jd;rw [nV,List.any_eq_true,fR];constructor
 ·rintro ⟨y,hy,e⟩
  obtain ⟨j,hj,rfl⟩:=b7.mp hy;have e:((j:Int) == (k:Int))=true:=e;rw [beq_iff_eq] at e;have:j=k:=by lia
  subst this;exact hj
 ·intro h
  exact ⟨_,b7.mpr ⟨k,h,rfl⟩,JO rfl⟩
theorem Bk(done:List Nat):(done.map fun k:Nat=>V.int (k:Int)).all jc=true:=by rw [iY];intro x hx;obtain ⟨j,_,rfl⟩:=b7.mp hx;rfl
variable {kvs:List (Key×V)} {R:It→Hp→Prop}
theorem Ul(h:H a=some (.dK kvs)∨∃ob,H a=some (.aW ob (.dK kvs)))(k:∀(ob:Obj) (Hf:Hp),Hf a=some (.aW ob (.dK kvs))→(∀b u,b≠a→H b=some u→Hf b=some u)→R (jR a ob kvs) Hf) :
  (H a=some (.dK kvs)∧∀o,R (jR a o kvs) (upd H a (.aW o (.dK kvs))))∨∃o,H a=some (.aW o (.dK kvs))∧R (jR a o kvs) H:=by
 rcases h with e | ⟨ob,e⟩;·exact .inl ⟨e,fun o=>k o _ au fun b u ne hb=>by rw [aM ne];exact hb⟩
 ·exact .inr ⟨ob,e,k ob H e fun _ _ _ h=>h⟩
theorem oH.keep{H':Hp}(h:oH H D n ds f)(k:∀b u,b≠a→H b=some u→H' b=some u)(nD:a≠D)(nd:∀i,i<n→ds i≠a):oH H' D n ds f:=⟨k _ _ (Ne.symm nD) h.lst,fun i hi=>by
 rcases h.at' i hi with e | ⟨ob,e⟩;·exact .inl (k _ _ (nd i hi) e)
 ·exact .inr ⟨ob,k _ _ (nd i hi) e⟩⟩
theorem oH.aW{H H':Hp}{D:Addr}{n:Nat}{ds:Nat→Addr}{f:Nat→List Nat}(h:oH H D n ds f){j:Nat}{ob:Obj}(k:∀b u,b≠ds j→H b=some u→H' b=some u)(hj:j<n)(e:H' (ds j)=some (.aW ob (.dK (dk (f j)))))(inj:∀i j,i<n→j<n→ds i=ds j→i=j)(nD:ds j≠D):oH H' D n ds f:=⟨k _ _ (Ne.symm nD) h.lst,fun i hi=>by
 by_cases z:i=j;·subst z;exact .inr ⟨ob,e⟩
 ·rcases h.at' i hi with e | ⟨ob,e⟩
  ·exact .inl (k _ _ (fun q=>z (inj i j hi hj q)) e)
  ·exact .inr ⟨ob,k _ _ (fun q=>z (inj i j hi hj q)) e⟩⟩
def rQ(n:Nat)(ds:Nat→Addr)(H H':Hp):Prop:=∀b o,H b=some o→(∀i,i<n→b≠ds i)→H' b=some o
theorem E_{tl:TE}(hp:∀Q:VK,Q (.ref a) H→tl σ H Q)(h:H a=some (.dK kvs)∨∃ob,H a=some (.aW ob (.dK kvs)))(k:∀(ob:Obj) (Hf:Hp),Hf a=some (.aW ob (.dK kvs))→(∀b u,b≠a→H b=some u→Hf b=some u)→R (jR a ob kvs) Hf):Km tl σ H R:=hp _ ⟨a,kvs,rfl,Ul h k⟩
def Um:Sp:=fun vs H Q _=>∃(t d:Addr) (n:Nat) (L:aE) (done:List Nat) (p:Nat),vs=[.ref t,.ref d,.int (p:Int)]∧dS H t n L∧gR n L∧n≤9∧H d=some (.tup (done.map fun k:Nat=>V.int (k:Int)))∧done.length≤1000∧p<n ∧
 ∀(H':Hp) (f:Nat→List Nat) (c:Nat),ao H H'→fv n L f→mj n f done p c→Q (.int ((c:Int)*c+3*c+1)) H'
variable {p c:Nat}
theorem mj.le{done:List Nat}(h:mj n f done p c):c≤n:=by obtain ⟨ks,pl,_,rfl⟩:=h;exact a9 (j9 _ _) pl.len
variable {L:aE} {g:Nat→List Nat}
theorem mj.same{done:List Nat}{e:Nat}(hf:fv n L f)(hg:fv n L g)(h:mj n f done p c)(k:mj n g done p e):c=e:=by
 obtain ⟨ks,pk,ik,rfl⟩:=h;obtain ⟨ms,pm,im,rfl⟩:=k;have ad:gT n f=gT n g:=by
  funext a b
  unfold gT;refine propext ⟨fun⟨x,y⟩=>⟨x,(hg a b x).mpr ((hf a b x).mp y)⟩,fun⟨x,y⟩=>⟨x,(hf a b x).mpr ((hg a b x).mp y)⟩⟩
 refine Ui pk.1 pm.1 (fun x=>?_) _;rw [ik,im,ad]
def oK(g:Nat→List Nat)(i j:Nat):Nat→List Nat:=eF g i (g i++[j])
variable {i j:Nat}
theorem K6{a b:Nat}:b∈oK g i j a↔b∈g a∨(a=i∧b=j):=by
 unfold oK eF;by_cases e:a=i
 ·subst e
  rw [aj rfl,cH,bY];simp
 ·rw [aa e]
  simp [e]
theorem Fb{a:Nat}:(oK g i j a).length≤(g a).length+1:=by
 unfold oK eF;by_cases e:a=i
 ·subst e
  rw [aj rfl,c_];exact aC _
 ·rw [aa e];lia
theorem fv.snoc(h:fv n L g):fv n (L++[((i:Int),(j:Int))]) (oK (oK g i j) j i):=fun a b ha=>by
 rw [K6,K6,h a b ha];simp only [cH,bY,Prod.mk.injEq];constructor
 ·rintro (((e | e) | ⟨rfl,rfl⟩) | ⟨rfl,rfl⟩)
  ·exact .inl (.inl e)
  ·exact .inr (.inl e)
  ·exact .inl (.inr ⟨rfl,rfl⟩)
  ·exact .inr (.inr ⟨rfl,rfl⟩)
 ·rintro ((e | ⟨e1,e2⟩) | (e | ⟨e1,e2⟩))
  ·exact .inl (.inl (.inl e))
  ·exact .inl (.inr ⟨by lia,by lia⟩)
  ·exact .inl (.inl (.inr e))
  ·exact .inr ⟨by lia,by lia⟩
structure iw (H:Hp) (D:Addr) (n:Nat) (rs:Nat→Addr) (g:Nat→List Nat):Prop where
 lst:H D=some (.lst ((List.range n).map fun i=>V.ref (rs i)))
 inj:∀i j,i<n→j<n→rs i=rs j→i=j
 ne:∀i,i<n→rs i≠D
 at':∀i,i<n→H (rs i)=some (.lst ((g i).map fun k:Nat=>V.int (k:Int)))
theorem iw.snoc{rs:Nat→Addr}(h:iw H D n rs g)(j:Nat)(hi:i<n):iw (upd H (rs i) (.lst (((g i).map fun k:Nat=>V.int (k:Int))++[V.int (j:Int)]))) D n rs (oK g i j):=by
 refine ⟨by rw [aM (Ne.symm (h.ne i hi))];exact h.lst,h.inj,h.ne,fun a ha=>?_⟩
 unfold oK eF;by_cases e:a=i
 ·subst e
  rw [aj rfl,au,fC];rfl
 ·rw [aa e,aM (fun z=>e (h.inj a i ha hi z))]
  exact h.at' a ha
def Uo:Sp:=fun vs H Q _=>∃(t:Addr) (n:Nat) (L:aE),vs=[.ref t]∧dS H t n L∧gR n L∧n≤60∧L.length≤200 ∧
 ∀(H':Hp) (D:Addr) (rs:Nat→Addr) (g:Nat→List Nat),ao H H'→H D=none→(∀i,i<n→H (rs i)=none)→iw H' D n rs g→fv n L g→Q (.ref D) H'
end My
namespace L2
open PySem PySem.Spec PyProof.Rows
end L2
namespace My
open PySem L2
end My
namespace L2
open PySem PySem.Spec PyProof.Rows My
structure Fc (J:It) (Z:aE) (H1:Hp):Prop where
 go:∀i Hc,ao H1 Hc→i<Z.length→J.go i Hc
 df:∀i Hc v H',ao H1 Hc→J.df i Hc v H'→ao Hc H'∧∀z,Z[i]?=some z→∃T,v=.ref T∧H' T=some (.tup [.int z.1,.int z.2])
 stop:∀i Hc,ao H1 Hc→Z.length≤i→J.stop i Hc
end L2
namespace My
open PySem L2
end My
namespace L2
open PySem PySem.Spec PyProof.Rows My
end L2
namespace My
open PySem L2
theorem K7{xs:List V}{v:V}(h1:1≤xs.length)(h:xs[xs.length-1]?=some v):jM xs (-1)=some v:=by
 unfold jM;have e:lR xs.length (-1)=some (xs.length-1):=by
  unfold lR
  split
  ·rename_i hh;lia
  ·split
   ·congr 1
    lia
   ·rename_i h2 h3
    lia
 rw [e];exact h
inductive Wk (bO:Nat→Nat→Prop) (bL:Nat→Prop) (s:Nat):Nat→Prop where
 | one {b:Nat}:bO s b→Wk bO bL s b
 | more {a b:Nat}:Wk bO bL s a→bL a→bO a b→Wk bO bL s b
section
variable {bO:Nat→Nat→Prop} {bL yP:Nat→Prop} {s t:Nat}
theorem Up(t:Nat):ni bO bL s t↔t=s∨Wk bO bL s t:=by
 constructor
 ·intro h
  induction h with
  | start=>exact .inl rfl
  | step _ o ab ih=>
   rcases ih with rfl | w;·exact .inr (.one ab)
   ·rcases o with rfl | o
    ·exact .inr (.one ab)
    ·exact .inr (.more w o ab)
 ·rintro (rfl | h)
  ·exact .start
  ·induction h with
   | one ab=>exact .step .start (.inl rfl) ab
   | more _ o ab ih=>exact .step ih (.inr o) ab
theorem Wk.mono(h:Wk bO bL s t)(k:∀x,bL x→yP x):Wk bO yP s t:=by
 induction h with
 | one ab=>exact .one ab
 | more _ o ab ih=>exact .more ih (k _ o) ab
theorem Wk.imp{K8:Nat→Nat→Prop}(h:Wk bO bL s t)(k:∀a b,bO a b→K8 a b):Wk K8 bL s t:=by
 induction h with
 | one ab=>exact .one (k _ _ ab)
 | more _ o ab ih=>exact .more ih o (k _ _ ab)
theorem Wk.cons{a:Nat}(ab:bO s a)(ta:bL a)(h:Wk bO bL a t):Wk bO bL s t:=by
 induction h with
 | one e=>exact .more (.one ab) ta e
 | more _ o e ih=>exact .more ih o e
theorem Wk.symm(sy:∀a b,bO a b→bO b a)(h:Wk bO bL s t):Wk bO bL t s:=by
 induction h with
 | one ab=>exact .one (sy _ _ ab)
 | more _ o ab ih=>exact ih.cons (sy _ _ ab) o
variable {p:Nat}
theorem Wk.trans(h:Wk bO bL s p)(tp:bL p)(h':Wk bO bL p t):Wk bO bL s t:=by
 induction h' with
 | one ab=>exact .more h tp ab
 | more _ o ab ih=>exact .more ih o ab
theorem Wk.step(k:∀x,yP x↔bL x∨x=p):Wk bO yP s t↔Wk bO bL s t∨(Wk bO bL s p∧Wk bO bL p t):=by
 constructor
 ·intro h
  induction h with
  | one ab=>exact .inl (.one ab)
  | more _ o ab ih=>
   rcases (k _).mp o with o | rfl
   ·rcases ih with ih | ⟨i1,i2⟩
    ·exact .inl (.more ih o ab)
    ·exact .inr ⟨i1,.more i2 o ab⟩
   ·rcases ih with ih | ⟨i1,_⟩
    ·exact .inr ⟨ih,.one ab⟩
    ·exact .inr ⟨i1,.one ab⟩
 ·have m:∀x,bL x→yP x:=fun x h=>(k x).mpr (.inl h)
  rintro (h | ⟨h,h'⟩);·exact h.mono m
  ·exact (h.mono m).trans ((k p).mpr (.inr rfl)) (h'.mono m)
end
def aL(n:Nat)(L:aE)(a b:Nat):Prop:=a<n∧b<n∧(((a:Int),(b:Int))∈L∨((b:Int),(a:Int))∈L)
variable {n:Nat} {L:aE}
theorem vc(a b:Nat)(h:aL n L a b):aL n L b a:=⟨h.2.1,h.1,h.2.2.symm⟩
def yQ(L:aE):Prop:=∀p∈L,p.1≠p.2
def f_(n:Nat)(o:List Nat)(k x:Nat):Prop:=x<n∧o.idxOf x<k
def rR(n:Nat)(L:aE)(o:List Nat)(k:Nat)(f:Nat→List Nat):Prop:=∀a b:Nat,a<n→b<n→k≤o.idxOf a→k≤o.idxOf b→(b∈f a↔a≠b∧Wk (aL n L) (f_ n o k) a b)
variable {o:List Nat} {f:Nat→List Nat}
theorem rR.start(nb:fv n L f)(ns:yQ L):rR n L o 0 f:=fun a b ha hb _ _=>by
 rw [nb a b ha];constructor
 ·intro h
  refine ⟨fun e=>?_,.one ⟨ha,hb,h⟩⟩;subst e;rcases h with h | h <;> exact ns _ h rfl
 ·rintro ⟨_,h⟩
  cases h with
  | one ab=>exact ab.2.2
  | more _ o _=>exact absurd o.2 (xD _)
variable {p:Nat}
theorem rR.step(ho:o.Perm (List.range n)){k:Nat}{g:Nat→List Nat}{ms:List Nat}(h:rR n L o k f)(hp:p<n)(ip:o.idxOf p=k)(hm:∀q,q∈ms↔q∈f p∧k<o.idxOf q)(ml:∀q∈ms,q<n)
  (con:∀a b:Nat,a<n→(b∈g a↔b∈f a∨(a≠b∧a∈ms∧b∈ms))):rR n L o (k+1) g:=fun a b ha hb ka kb=>by
 have th:∀x,f_ n o (k+1) x↔f_ n o k x∨x=p:=fun x=>by
  unfold f_;constructor
  ·rintro ⟨h1,h2⟩
   by_cases e:o.idxOf x=k
   ·right
    by_cases z:x=p;·exact z
    ·exact absurd (e.trans ip.symm) (yN ho h1 hp z)
   ·exact .inl ⟨h1,by lia⟩
  ·rintro (⟨h1,h2⟩ | rfl)
   ·exact ⟨h1,by lia⟩
   ·exact ⟨hp,by lia⟩
 have ap:a≠p:=fun e=>by subst e;lia
 have bp:b≠p:=fun e=>by subst e;lia
 have ea:=h p a hp ha (by lia) (by lia)
 have eb:=h p b hp hb (by lia) (by lia)
 rw [con a b ha,h a b ha hb (by lia) (by lia),hm a,hm b,ea,eb,Wk.step th]
 constructor
 ·rintro (⟨h1,h2⟩ | ⟨h1,⟨⟨_,h2⟩,_⟩,⟨_,h3⟩,_⟩)
  ·exact ⟨h1,.inl h2⟩
  ·exact ⟨h1,.inr ⟨h2.symm vc,h3⟩⟩
 ·rintro ⟨h1,h2 | ⟨h2,h3⟩⟩
  ·exact .inl ⟨h1,h2⟩
  ·exact .inr ⟨h1,⟨⟨Ne.symm ap,h2.symm vc⟩,by lia⟩,⟨Ne.symm bp,h3⟩,by lia⟩
def mq(n:Nat)(L:aE)(o:List Nat)(p:Nat)(ms:List Nat):Prop:=∀q,q∈ms↔q<n∧o.idxOf p<o.idxOf q∧Wk (aL n L) (f_ n o (o.idxOf p)) p q
def Uq(N:Addr):Sp:=fun vs H Q E=>∃(t a:Addr) (n:Nat) (L:aE) (zs:List Int),vs=[.ref t,.ref a]∧dS H t n L∧gR n L∧yQ L∧n≤60∧H a=some (.lst (zs.map V.int))∧zs.length<64 ∧
 (¬nh zs n→∀H',ao H H'→E (.ref N) none H') ∧
 ∀o:List Nat,zs=o.map iN→o.Perm (List.range n)→∀(H':Hp) (D:Addr) (rs:Nat→Addr) (g:Nat→List Nat),ao H H'→H D=none→(∀p,p<n→H (rs p)=none)→T6 H' D n rs g→(∀p,p<n→kL n o p (g p)∧mq n L o p (g p))→Q (.ref D) H'
theorem Ur{q p' q':Nat}(h:jU p q=jU p' q'):(p=p'∧q=q')∨(p=q'∧q=p'):=by
 unfold jU at h;have h1:=eL Prod.fst h;have h2:=eL Prod.snd h;dsimp only at h1 h2
 split at h1 <;> split at h1 <;> split at h2 <;> split at h2 <;> lia
def kN(n:Nat)(L:aE)(o:List Nat)(M:aE):Prop:=M.Pairwise lexLt∧∀z,z∈M↔∃p q:Nat,p<n∧q<n∧o.idxOf p<o.idxOf q∧Wk (aL n L) (f_ n o (o.idxOf p)) p q∧z=jU p q
theorem kN.lt{M:aE}(h:kN n L o M):∀z∈M,0≤z.1∧z.1<z.2∧z.2<(n:Int):=fun z hz=>by
 obtain ⟨p,q,hp,hq,hi,_,rfl⟩:=(h.2 z).mp hz;have ne:p≠q:=fun e=>by subst e;lia
 unfold jU;dsimp only
 split <;> split <;> lia
end My
namespace L2
open PySem PySem.Spec PyProof.Rows
section
variable {X:Cx} {a b:Expr} {rest:List Expr} {pos:Pos} {ta tb:TE}
end
end L2
namespace My
open PySem L2
end My
namespace L2
open PySem PySem.Spec PyProof.Rows
section
variable {prog:Program} {w:World} {A:Around} {E:aJ} {s:Shared}
end
section
variable {prog:Program} {w:World} {A:Around} {E:aJ} {s:Shared}
end
section
variable {X:Cx}
end
section
variable {prog:Program} {w:World} {A:Around} {E:aJ} {s:Shared}
end
end L2
namespace My
open PySem L2
end My
namespace L2
open PySem PySem.Spec PyProof.Rows
end L2
namespace My
open PySem L2
end My
namespace L2
open PySem PySem.Spec PyProof.Rows
section
variable {X:Cx}
end
end L2
namespace My
open PySem L2
theorem K9:∀{A B:List Nat},A.Pairwise (· < ·)→B.Pairwise (· < ·)→(∀p,p∈A↔p∈B)→A=B:=fun{A B} h1 h2 e=>by have nA:A.Nodup:=List.Pairwise.imp (fun h=>bM h) h1;have nB:B.Nodup:=List.Pairwise.imp (fun h=>bM h) h2;exact ((ur nA nB).mpr e).eq_of_pairwise (fun a b _ _ h h'=>by lia) h1 h2
theorem Us{A B:List Nat}(p:A.Perm B)(nd:B.Nodup)(s:(A.map iN).Pairwise (·≤·)):A.Pairwise (· < ·):=by rw [qF] at s;refine List.Pairwise.imp₂ (fun a b h1 h2=>?_) s (p.nodup_iff.mpr nd);have h1:(a:Int)≤(b:Int):=h1;have h2:a≠b:=h2;lia
def p2(g:Nat→Nat→Nat):List Nat→Nat
 | []=>0
 | x::l=>(l.map (g x)).sum+p2 g l
def p3(f:Nat→Nat→Nat→Nat):List Nat→Nat
 | []=>0
 | x::l=>p2 (f x) l+p3 f l
variable {g:Nat→Nat→Nat} {l l':List Nat}
theorem K_(sy:∀x y,g x y=g y x)(p:l.Perm l'):p2 g l=p2 g l':=by
 induction p with
 | nil=>rfl
 | cons x p ih=>simp only [p2,ih];rw [(p.map (g x)).sum_nat]
 | swap x y l=>simp only [p2,dq,g9];rw [sy x y];lia
 | trans _ _ h1 h2=>exact h1.trans h2
theorem Ut{f:Nat→Nat→Nat→Nat}(s1:∀x y z,f x y z=f y x z)(s2:∀x y z,f x y z=f x z y)(p:l.Perm l'):p3 f l=p3 f l':=by
 induction p with
 | nil=>rfl
 | cons x p ih=>simp only [p3,ih];rw [K_ (s2 x) p]
 | swap x y l=>simp only [p3,p2];rw [show l.map (f y x)=l.map (f x y) from g8 fun z _=>s1 y x z];lia
 | trans _ _ h1 h2=>exact h1.trans h2
variable {f:Nat→Nat}
theorem vd{g:Nat→Nat}(h:∀x∈l,f x=g x):(l.map f).sum=(l.map g).sum:=eL List.sum (g8 h)
theorem Bl(h:∀x∈l,f x=0):(l.map f).sum=0:=by
 induction l with
 | nil=>rfl
 | cons x l ih=>rw [dq,g9,h x cw,ih fun y hy=>h y (cA _ hy)]
theorem Uu{g:Nat→Nat}:(l.map fun x=>f x+g x).sum=(l.map f).sum+(l.map g).sum:=by
 induction l with
 | nil=>rfl
 | cons x l ih=>simp only [dq,g9,ih];lia
variable {b c:Nat}
theorem Uv(nd:l.Nodup)(hb:b∈l):(l.map fun y=>if y=b then c else 0).sum=c:=by
 induction l with
 | nil=>cases hb
 | cons x l ih=>
  rw [dq,g9];obtain ⟨n1,n2⟩:=fB.mp nd;rcases bU.mp hb with rfl | h
  ·rw [aj rfl,Bl fun y hy=>aa (fun e:y=b=>n1 (e▸hy))]
   lia
  ·rw [aa (fun e:x=b=>n1 (e▸h)),ih n2 h]
   lia
variable {g':Nat→Nat→Nat}
theorem La(nd:l.Nodup)(h:∀x∈l,∀y∈l,x≠y→g x y=g' x y):p2 g l=p2 g' l:=by
 induction l with
 | nil=>rfl
 | cons x l ih=>obtain ⟨n1,n2⟩:=fB.mp nd;show (l.map (g x)).sum+p2 g l=(l.map (g' x)).sum+p2 g' l;rw [vd fun y hy=>h x cw y (cA _ hy) fun e=>n1 (e▸hy),ih n2 fun a ha b hb=>h a (cA _ ha) b (cA _ hb)]
theorem Uw:p2 (fun x y=>g x y+g' x y) l=p2 g l+p2 g' l:=by
 induction l with
 | nil=>rfl
 | cons x l ih=>simp only [p2,ih,Uu];lia
theorem Lb(h:∀x∈l,∀y,g x y=0):p2 g l=0:=by
 induction l with
 | nil=>rfl
 | cons x l ih=>show (l.map (g x)).sum+p2 g l=0;rw [Bl fun y _=>h x cw y,ih fun a ha=>h a (cA _ ha)]
variable {a:Nat}
theorem Ux(pw:l.Pairwise (· < ·))(ha:a∈l)(hb:b∈l)(ab:a<b):p2 (fun i j=>if i=a∧j=b then c else 0) l=c:=by
 induction l with
 | nil=>cases ha
 | cons x l ih=>
  obtain ⟨n1,n2⟩:=mL.mp pw;have nd:l.Nodup:=n2.imp fun h=>bM h;show (l.map fun j=>if x=a∧j=b then c else 0).sum+p2 _ l=c
  rcases bU.mp ha with rfl | h
  ·have fE:b∈l:=by
    rcases bU.mp hb with rfl | h;·lia
    ·exact h
   rw [show (l.map fun j=>if a=a∧j=b then c else 0).sum=(l.map fun y=>if y=b then c else 0).sum from vd fun y _=>by simp,Uv nd fE,Lb fun i hi j=>aa fun e=>by have:=n1 i hi;lia]
   lia
  ·have xa:=n1 a h
   have fE:b∈l:=by
    rcases bU.mp hb with rfl | h;·lia
    ·exact h
   rw [Bl fun y _=>aa fun e=>by lia,ih n2 h fE]
   lia
theorem Lc(pw:l.Pairwise (· < ·)):p2 g l=(l.map fun y=>(l.map fun z=>if y<z then g y z else 0).sum).sum:=by
 induction l with
 | nil=>rfl
 | cons x l ih=>
  obtain ⟨n1,n2⟩:=mL.mp pw;show (l.map (g x)).sum+p2 g l=_;rw [dq,g9,dq,g9,aa (dI x),ih n2];rw [show (l.map fun z=>if x<z then g x z else 0).sum=(l.map (g x)).sum from vd fun z hz=>aj (n1 z hz)]
  rw [show (l.map fun y=>((x::l).map fun z=>if y<z then g y z else 0).sum).sum=(l.map fun y=>(l.map fun z=>if y<z then g y z else 0).sum).sum from vd fun y hy=>by
   rw [dq,g9,aa (by have:=n1 y hy;lia)]
   lia]
  lia
theorem ve(n:Nat):(List.range n).Pairwise (· < ·):=xH
theorem Ld{n:Nat}{W:Nat→Nat→Nat}:∀{M:aE},M.Nodup→(∀z∈M,0≤z.1∧z.1<z.2∧z.2<(n:Int))→(M.map fun z=>W z.1.toNat z.2.toNat).sum=p2 (fun i j=>if ((i:Int),(j:Int))∈M then W i j else 0) (List.range n)
 | [],_,_=>by rw [Lb fun i _ j=>aa fun h=>nomatch h];rfl
 | z::M,nd,lt=>by
  obtain ⟨n1,n2⟩:=fB.mp nd;obtain ⟨z0,z1,z2⟩:=lt z cw;rw [dq,g9,Ld n2 fun y hy=>lt y (cA _ hy)];have d:=Ux (c:=W z.1.toNat z.2.toNat) (ve n) (a:=z.1.toNat) (b:=z.2.toNat) (cu.mpr (by lia)) (cu.mpr (by lia)) (by lia)
  rw [←d,←Uw];refine La mK fun i _ j _ _=>?_;by_cases e:i=z.1.toNat∧j=z.2.toNat
  ·have ez:((i:Int),(j:Int))=z:=by obtain ⟨e1,e2⟩:=e;subst e1;subst e2;rw [Int.toNat_of_nonneg z0,Int.toNat_of_nonneg (by lia)]
   obtain ⟨e1,e2⟩:=e;have hm:((i:Int),(j:Int))∈z::M:=ez.symm▸cw;have hn:¬((i:Int),(j:Int))∈M:=fun h=>n1 (ez▸h);rw [aj ⟨e1,e2⟩,aj hm,aa hn,←e1,←e2,xE]
  ·rw [aa e]
   have:((i:Int),(j:Int))≠z:=fun h=>e (by subst h;exact ⟨(dF i).symm,(dF j).symm⟩)
   by_cases h:((i:Int),(j:Int))∈M
   ·rw [aj h,aj (cA _ h)]
    lia
   ·rw [aa h,aa fun h'=>(bU.mp h').elim this h]
def rL(M:aE)(a b:Nat):Bool:=decide (((a:Int),(b:Int))∈M) || decide (((b:Int),(a:Int))∈M)
variable {M:aE}
theorem yR:rL M a b=true↔((a:Int),(b:Int))∈M∨((b:Int),(a:Int))∈M:=by unfold rL;rw [Bool.or_eq_true,fR,fR]
theorem Bm(M:aE)(a b:Nat):rL M a b=rL M b a:=Bool.or_comm ..
def rS(r:Nat→Nat→Bool)(x y:Nat):Nat:=if r x y then 1 else 0
def kO(r:Nat→Nat→Bool)(x y z:Nat):Nat:=if r x y && r x z && r y z then 1 else 0
def Le(n:Nat)(M:aE):Nat:=p3 (kO (rL M)) (List.range n)
def rT(n:Nat)(M:aE):Nat:=4*M.length+2*Le n M+n
variable {n:Nat}
theorem Uy(nd:M.Nodup)(lt:∀z∈M,0≤z.1∧z.1<z.2∧z.2<(n:Int)):M.length=p2 (rS (rL M)) (List.range n):=by
 have:=Ld (W:=fun _ _=>1) nd lt;rw [show (M.map fun z=>(fun _ _=>1:Nat→Nat→Nat) z.1.toNat z.2.toNat).sum=M.length from by
  clear this nd lt
  induction M with
  | nil=>rfl
  | cons z M ih=>rw [dq,g9,ih,eM];exact Nat.add_comm 1 _] at this
 rw [this,Lc (ve n),Lc (ve n)];refine vd fun i _=>vd fun j _=>?_;by_cases ij:i<j
 ·rw [aj ij,aj ij]
  unfold rS;by_cases h:((i:Int),(j:Int))∈M;·rw [aj h,aj (yR.mpr (.inl h))]
  ·rw [aa h,aa fun h'=>by
    rcases yR.mp h' with h' | h';·exact h h'
    ·have:=lt _ h'
     lia]
 ·rw [aa ij,aa ij]
theorem Uz(M:aE)(x y z:Nat):kO (rL M) x y z=kO (rL M) y x z:=by unfold kO;rw [Bm M y x];cases rL M x y <;> cases rL M x z <;> cases rL M y z <;> rfl
theorem UA(M:aE)(x y z:Nat):kO (rL M) x y z=kO (rL M) x z y:=by unfold kO;rw [Bm M z y];cases rL M x y <;> cases rL M x z <;> cases rL M y z <;> rfl
theorem Lf(a:Nat→Bool):∀l:List Nat,2*p2 (fun y z=>if a y && a z then 1 else 0) l+(l.map fun y=>if a y then 1 else 0).sum=(l.map fun y=>if a y then 1 else 0).sum*(l.map fun y=>if a y then 1 else 0).sum
 | []=>rfl
 | x::l=>by
  have ih:=Lf a l;simp only [p2,dq,g9];by_cases h:a x
  ·simp only [h,xJ,iX]
   simp only [Nat.add_mul,Nat.mul_add];lia
  ·simp only [h,t7,jB,gg]
   rw [Bl fun _ _=>rfl,d5,d5];exact ih
def Good(r:Nat→Nat→Bool)(m:Nat→Nat):List Nat→Prop
 | []=>True
 | x::l=>m x=(l.map fun y=>if r x y then 1 else 0).sum∧(∀y∈l,∀z∈l,y≠z→r x y=true→r x z=true→r y z=true)∧Good r m l
theorem Lg{r:Nat→Nat→Bool}{m:Nat→Nat}:∀{l:List Nat},l.Nodup→Good r m l→(l.map fun x=>m x*m x+3*m x+1).sum=4*p2 (rS r) l+2*p3 (kO r) l+l.length
 | [],_,_=>rfl
 | x::l,nd,⟨h1,h2,h3⟩=>by
  obtain ⟨n1,n2⟩:=fB.mp nd;have ih:=Lg n2 h3;have e:p2 (kO r x) l=p2 (fun y z=>if r x y && r x z then 1 else 0) l:=La n2 fun y hy z hz yz=>by
   unfold kO;by_cases a:r x y <;> by_cases b:r x z;·simp [a,b,h2 y hy z hz yz a b]
   ·simp [a,b]
   ·simp [a,b]
   ·simp [a,b]
  have e2:(l.map (rS r x)).sum=m x:=h1.symm;have pk:=Lf (r x) l;rw [←h1] at pk;show m x*m x+3*m x+1+(l.map fun x=>m x*m x+3*m x+1).sum=4*((l.map (rS r x)).sum+p2 (rS r) l)+2*(p2 (kO r x) l+p3 (kO r) l)+(l.length+1);rw [ih,e2,e];lia
variable {L:aE} {o:List Nat}
theorem UB(f:kN n L o M)(h:aL n M a b){k:Nat}(hk:o.idxOf a≤k∨o.idxOf b≤k):Wk (aL n L) (f_ n o k) a b:=by
 have go:∀{a b:Nat},((a:Int),(b:Int))∈M→(o.idxOf a≤k∨o.idxOf b≤k)→Wk (aL n L) (f_ n o k) a b:=fun{a b} hm hk=>by
  obtain ⟨p,q,hp,hq,pq,w,e⟩:=(f.2 _).mp hm;have e:jU a b=jU p q:=by rw [←e];have:=f.lt _ hm;unfold jU;rw [aa (by lia),aj (by lia)]
  rcases Ur e with ⟨rfl,rfl⟩ | ⟨rfl,rfl⟩;·exact w.mono fun x hx=>⟨hx.1,by have:=hx.2;lia⟩
  ·exact (w.symm vc).mono fun x hx=>⟨hx.1,by have:=hx.2;lia⟩
 rcases h.2.2 with h | h;·exact go h hk
 ·exact (go h hk.symm).symm vc
theorem vf(f:kN n L o M)(ha:a<n)(hb:b<n)(ab:o.idxOf a<o.idxOf b):rL M a b=true↔Wk (aL n L) (f_ n o (o.idxOf a)) a b:=by
 constructor
 ·intro h
  exact UB f ⟨ha,hb,yR.mp h⟩ (.inl (aC _))
 ·intro w
  have hm:=(f.2 _).mpr ⟨a,b,ha,hb,ab,w,rfl⟩;rw [yR];unfold jU at hm;by_cases h:(b:Int)<(a:Int)
  ·rw [aj h,aa (by lia)] at hm
   exact .inr hm
  ·by_cases h':(b:Int)>(a:Int)
   ·rw [aa h,aj h'] at hm
    exact .inl hm
   ·have e:a=b:=by lia
    subst e;lia
theorem UD(l:List Nat)(c:Nat→Bool):(l.map fun k=>if c k then 1 else 0).sum=(l.filter c).length:=by
 induction l with
 | nil=>rfl
 | cons x l ih=>
  rw [i3,dq,g9];by_cases h:c x;·rw [aj h,aj h,eM,ih];lia
  ·rw [aa h,aa h,ih];lia
theorem Lh{n:Nat}{L M:aE}{o:List Nat}(ho:o.Perm (List.range n))(f:kN n L o M){g:Nat→List Nat}(hg:∀p,p<n→kL n o p (g p)∧mq n L o p (g p)):∀(l pre:List Nat),o=pre++l→Good (rL M) (fun x=>(g x).length) l
 | [],_,_=>trivial
 | x::l,pre,e=>by
  have nd:=yL ho;have Li:=nd;rw [e,nX] at Li;obtain ⟨np,nx,dj⟩:=Li;obtain ⟨UE,nl⟩:=fB.mp nx;have hx:x<n:=(jT ho).mp (by rw [e];simp)
  have ix:o.idxOf x=pre.length:=by rw [e,uu,aa fun h=>dj x h x cw rfl,List.idxOf_cons_self,d5]
  have il:∀y,y∈l↔y<n∧o.idxOf x<o.idxOf y:=fun y=>by
   constructor
   ·intro h
    refine ⟨(jT ho).mp (by rw [e];simp [h]),?_⟩
    have yx:y≠x:=fun q=>UE (q▸h);rw [ix,e,uu,aa fun h'=>dj y h' y (cA _ h) rfl,List.idxOf_cons,show (x == y)=false from by simpa using yx.symm]
    simp only [cond_false];lia
   ·rintro ⟨h,h'⟩
    have hm:=(jT ho).mpr h;rw [e,cH,bU] at hm;rcases hm with hm | rfl | hm
    ·rw [ix,e,uu,aj hm] at h'
     have:=Aa hm;lia
    ·lia
    ·exact hm
  refine ⟨?_,?_,Lh ho f hg l (pre++[x]) (by rw [e];simp)⟩
  ·rw [UD]
   obtain ⟨gk,gw⟩:=hg x hx;refine ((ur (gk.up.imp fun h=>bM h) (nl.filter _)).mpr fun q=>?_).length_eq;rw [gw q,cG,il q];constructor
   ·rintro ⟨h1,h2,h3⟩
    exact ⟨⟨h1,h2⟩,(vf f hx h1 h2).mpr h3⟩
   ·rintro ⟨⟨h1,h2⟩,h3⟩
    exact ⟨h1,h2,(vf f hx h1 h2).mp h3⟩
  ·intro y hy z hz yz ry rz
   obtain ⟨y1,y2⟩:=(il y).mp hy;obtain ⟨z1,z2⟩:=(il z).mp hz;have wy:=(vf f hx y1 y2).mp ry;have wz:=(vf f hx z1 z2).mp rz;have ne:=yN ho y1 z1 yz;have both:∀k,o.idxOf x<k→Wk (aL n L) (f_ n o k) y z:=fun k hk=>by
    have m:∀t,f_ n o (o.idxOf x) t→f_ n o k t:=fun t ht=>⟨ht.1,by have:=ht.2;lia⟩
    exact ((wy.symm vc).mono m).trans ⟨hx,hk⟩ (wz.mono m)
   by_cases h:o.idxOf y<o.idxOf z;·exact (vf f y1 z1 h).mpr (both _ y2)
   ·rw [Bm]
    exact (vf f z1 y1 (by lia)).mpr ((both _ z2).symm vc)
theorem Lj(ho:o.Perm (List.range n))(f:kN n L o M){g:Nat→List Nat}(hg:∀p,p<n→kL n o p (g p)∧mq n L o p (g p)) :
  ((List.range n).map fun x=>(g x).length*(g x).length+3*(g x).length+1).sum=rT n M:=by
 have nd:M.Nodup:=f.1.imp fun h e=>by subst e;unfold lexLt at h;lia
 have gs:=Lg (yL ho) (Lh ho f hg o [] rfl);rw [←(ho.map fun x=>(g x).length*(g x).length+3*(g x).length+1).sum_nat,gs];unfold rT Le;rw [Uy nd f.lt,K_ (fun x y=>by unfold rS;rw [Bm]) ho,Ut (Uz M) (UA M) ho,ho.length_eq,dJ]
def UG(N:Addr):Sp:=fun vs H Q E=>∃(t a:Addr) (n:Nat) (L:aE) (zs:List Int),vs=[.ref t,.ref a]∧dS H t n L∧gR n L∧yQ L∧n≤30∧H a=some (.lst (zs.map V.int))∧zs.length<64 ∧
 (¬nh zs n→∀H',ao H H'→E (.ref N) none H') ∧
 ∀o:List Nat,zs=o.map iN→o.Perm (List.range n)→∀(H':Hp),ao H H'→∀d:Nat,(∀M,kN n L o M→d=rT n M)→Q (.int (d:Int)) H'
end My
namespace L2
open PySem
section
variable {prog:Program} {w:World} {A:Around} {E:aJ} {s:Shared}
def dy(h:Heap)(d:Addr)(es:Array DictEntry)(ep:Nat):Prop:=∃o,h.get? d=some o∧o.ExactDict∧o.data=.dict es ep
variable {d:Addr} {es:Array DictEntry} {ep:Nat}
theorem dy.ty(h:dy s.heap d es ep):s.TypeIs (.ref d) "dict":=let ⟨o,ho,hc,_⟩:=h;⟨o,ho,hc.1⟩
theorem dy.to{h h':Heap}(x:dy h d es ep)(e:∀o,h.get? d=some o→h'.get? d=some o):dy h' d es ep:=let ⟨o,ho,r⟩:=x;⟨o,e _ ho,r⟩
variable {Q:aJ}
theorem Ll(hd:(d == sysModules)=false)(hm:dy s.heap d es ep)
  (hQ:∀h',h'=s.heap.push {cls:=.type "dict_keyiterator",data:=.fields #[.ref d,.int 0 0,.int es.size 0,.int ep 0]}→Q (.ref s.heap.objs.size) {s with heap:=h'}):wpAny (model prog w) A (pyIter (.ref d)) Q E s:=by
 have hT:=hm.ty;obtain ⟨o,ho,hc,pY⟩:=hm;refine wpAny_pyIter_slot hT F.slot_dict_iter (lE F.slot_dict_iter hT F.entry_dict_iter ?_ (F.args_dict_iter_1 _));unfold Builtin.«dict.__iter__»;refine ae ?_;unfold Builtin.Dict.dictSlotNone;refine ae (Ab hT (aB ?_));show wpAny _ _ (Builtin.Dict.showsAll d >>= _) _ _ s;unfold Builtin.Dict.showsAll;rw [aa (by rw [hd];exact cj)]
 refine ae (aB (ae (i4 ho pY (ae (uv ho pY ?_)))));refine ae (g6 (aB ⟨_,rfl,"dict_keyiterator",_,⟨_,cK _ rfl,rfl⟩,qG.lookup,?_⟩));exact hQ _ rfl
variable {it:Addr}
theorem Lm{i:Nat}{Q:Option Value→Shared→Prop}(hit:s.heap.IsKeyIter it d i es.size ep)(hm:dy s.heap d es ep)(hi:i<es.size)
  (hQ:∀h',h'.IsKeyIter it d (i+1) es.size ep→Heap.SameBut it s.heap h'→Q (some es[i].key) {s with heap:=h'}):wpAny (model prog w) A (pyNext (.ref it)) Q E s:=by
 have hT:=hit.typeIs;obtain ⟨o,ho,hc,hd⟩:=id hit;obtain ⟨od,jm,fU,jV⟩:=hm;unfold pyNext;refine ae (xA (Ac (name:=Str.ofString "__next__") hT qG (lE qG hT Ds ?_ (Dt _))));refine ae (aB (ae (ae ?_)))
 first | refine ae (uw hT (aB ?_)) | refine ae (ux hT (aB ?_))
 refine ae (wpAny_fieldsOf ho hd ?_);simp only [show Builtin.Dict_items.ownsTuple "dict_keyiterator"=false from by decide,jB,gg]
 show wpAny _ _ (if (Value.ref d == Value.none)=true then _ else _) _ _ s
 rw [aa (show ¬((Value.ref d == Value.none)=true) from cj)];refine ae (aB (ae (i4 jm jV ?_)));rw [aa (by simp)]
 refine ae (aB (ae (uv jm jV ?_)));rw [aa (by simp)]
 refine aB ?_;simp only [show ¬((i:Int)<0) from by lia,gg,dF,uy hi]
 refine ae ?_
 first | refine ae (uw hT (aB ?_)) | refine ae (ux hT (aB ?_))
 refine ae (wpAny_isOneOf_keyiter hT ?_);show wpAny _ _ (setField (.ref it) 1 (rawInt ((i:Int)+1)) >>= _) _ _ s;refine ae (wpAny_setField ho hd (by simp) ?_)
 have Ln:(s.heap.update it (Obj.mapFields (·.setIfInBounds 1 (rawInt ((i:Int)+1))))).IsKeyIter it d (i+1) es.size ep:=
  ⟨_,qu _ ho (Obj.isFreed_of_fields (Obj.data_mapFields hd _)),(Obj.cls_mapFields ..).trans hc,by rw [Obj.data_mapFields hd];simp [rawInt]⟩
 refine ae (gX ?_);refine ae (wpAny_isOneOf_keyiter (s:={s with heap:=s.heap.update it (Obj.mapFields (·.setIfInBounds 1 (rawInt ((i:Int)+1))))}) Ln.typeIs ?_);show wpAny _ _ (pure es[i].key) _ _ _;exact aB (aB ⟨_,rfl,aB (hQ _ Ln (jC ..))⟩)
theorem UH{Q:Option Value→Shared→Prop}(hh:A.handled=none)(hit:s.heap.IsKeyIter it d es.size es.size ep)(hm:dy s.heap d es ep)
  (hQ:∀h',Heap.ExtBut it s.heap h'→Q none {s with heap:=h'}):wpAny (model prog w) A (pyNext (.ref it)) Q E s:=by
 have hT:=hit.typeIs;obtain ⟨o,ho,hc,hd⟩:=id hit;obtain ⟨od,jm,fU,jV⟩:=hm;unfold pyNext;refine ae (xA (Ac (name:=Str.ofString "__next__") hT qG (lE qG hT Ds ?_ (Dt _))));refine ae (aB (ae (ae ?_)))
 first | refine ae (uw hT (aB ?_)) | refine ae (ux hT (aB ?_))
 refine ae (wpAny_fieldsOf ho hd ?_);simp only [show Builtin.Dict_items.ownsTuple "dict_keyiterator"=false from by decide,jB,gg]
 show wpAny _ _ (if (Value.ref d == Value.none)=true then _ else _) _ _ s
 rw [aa (show ¬((Value.ref d == Value.none)=true) from cj)];refine ae (aB (ae (i4 jm jV ?_)));rw [aa (by simp)]
 refine ae (aB (ae (uv jm jV ?_)));rw [aa (by simp)]
 refine aB ?_;simp only [show ¬((es.size:Int)<0) from by lia,gg,dF,Ad (aC es.size)]
 refine ae ?_
 first | refine ae (uw hT (aB ?_)) | refine ae (ux hT (aB ?_))
 show wpAny _ _ (setField (.ref it) 0 .none >>= _) _ _ s;refine ae (wpAny_setField ho hd (by simp) ?_)
 show wpAny _ _ (newExc (.type "StopIteration") [] >>= _) _ _ _;refine ae ?_;simp only [newExc,newTuple];refine ae (g6 ?_ (by size_fits))
 refine ae (m:=firstArgMember _ _) (jD (a:=Value.none) (by first | rfl | (simp only [firstArgMember];rfl)) ?_)
 refine g6 ?_ (by size_fits)
 simp only [raiseNew];refine ae (wpAny_handled ?_);rw [show A.in1.handled=none from hh];refine ae (aB (wpAny_throw ?_));refine ae (xK (T:="StopIteration") (b:=true) ⟨_,cK _ rfl,rfl⟩ isSubtype_stop ?_);exact aB (hQ _ (((jC ..).extBut.push _).push _))
theorem UI(hh:A.handled=none)(I d:Addr)(ou:d≠I)(es:Array DictEntry)(ep:Nat) :
  Walks prog w A I [I,d] [I] es.size (fun i v=>∃e,es[i]?=some e∧v=e.key) (fun i h=>h.IsKeyIter I d i es.size ep∧dy h d es ep) where
 sub:=fun b hb=>by simp at hb;simp [hb]
 frame:=fun _ _ _ st hk=>⟨st.1.at fun o e=>hk I (by simp) o e,st.2.to fun o e=>hk d (by simp) o e⟩
 item:=fun i s Q E hi st hQ=>Lm st.1 st.2 hi fun h' UJ sb=>hQ _ h' s.toks ⟨_,uy hi,rfl⟩ ⟨UJ,st.2.to fun o e=>sb.extBut d o ou e⟩ fun b o hb e=>sb.extBut b o (fun h=>hb (by simp [h])) e
 done:=fun s Q E st hQ=>UH hh st.1 st.2 fun h' UK=>hQ h' s.toks fun b o hb e=>UK b o (fun h=>hb (by simp [h])) e
 self:=fun _ _ _ _ st hQ=>wpAny_pyIter_keyiter st.1 hQ
theorem UL{Q:Bool→Shared→Prop}(hm:dy s.heap d es ep)(h:Q false s):wpAny (model prog w) A (Builtin.List.listLengthHint (.ref d)) Q E s:=by
 unfold Builtin.List.listLengthHint;refine ae (xI hm.ty F.slot_dict_len.lookup ?_);generalize Lo:("dict.__len__":String)=UM
 wp_delta
 rw [show splitId UM=some ("dict","__len__") from by subst Lo;decide +kernel]
 subst Lo;refine ae (xK (T:="dict") (b:=true) hm.ty (by rw [isSubtype_type];kernel_rfl) ?_)
 refine wpAny_ite_split (fun Fe=>absurd Fe (by decide)) (fun _=>?_)
 refine wpAny_ite_split (fun _=>?_) (fun Fe=>absurd (by decide +kernel) Fe)
 exact ae (xM hm.ty (aB h))
def KeysAre(es:Array DictEntry)(acc:Array Value):Prop:=acc.toList=es.toList.map (·.key)
theorem UN{acc:Array Value}(h:ItemsOf (fun i v=>∃e,es[i]?=some e∧v=e.key) acc es.size):KeysAre es acc:=by
 refine List.ext_getElem? fun i=>?_;rw [bP,xx,xx];by_cases hi:i<acc.size
 ·obtain ⟨e,e1,e2⟩:=h.2 i _ (uy hi)
  rw [uy hi,e1,e2];rfl
 ·rw [Ad (by lia),Ad (by have:=h.1;lia)]
  rfl
variable {R:Result→Shared→Prop}
theorem UO(hh:A.handled=none)(hd:(d == sysModules)=false)(hm:dy s.heap d es ep)(hlen:es.size≤2 ^ 24)(S:Addr)(res:Value)(c₀:Nat)
  (hS:s.heap.get? S=some {cls:=.type "list",data:=.seq #[] c₀})
  (hR:∀h' tk jo c',(∀b o,b≠S→s.heap.get? b=some o→h'.get? b=some o)→h'.get? S=some {cls:=.type "list",dict:=none,data:=.seq jo c',slots:=#[]}→KeysAre es jo→R (.ok (.ret res)) {s with heap:=h',toks:=tk}) :
  wpAny (model prog w) A.in1 (Builtin.List.listExtendWith (.ref S) (.ref d) res)
   (fun fin s'=>match fin with | .done f=>R (.ok f) s' | .again c'=>c'.quiet=true∧codeAny (model prog w) A c' R s') (fun e s'=>R (.error e) s') s:=by
 have hT:=hm.ty;have yS:S≠d:=fun e=>by obtain ⟨o,ho,hc,pY⟩:=hm;rw [e,ho] at hS;cases hS;cases pY
 have UQ:S<s.heap.objs.size:=aZ hS;have nj:S≠s.heap.objs.size:=bM UQ;have UR:d≠s.heap.objs.size:=fun e=>by obtain ⟨o,ho,_⟩:=hm;exact dI _ (e▸aZ ho)
 have US:S∉[s.heap.objs.size,d]:=fun UT=>by
  rcases bU.mp UT with e | e;·exact nj e
  ·exact yS (bY.mp e)
 have W:=(UI (prog:=prog) (w:=w) (A:=A.in1) hh s.heap.objs.size d UR es ep).toS
 have key:∀(h:Heap) (c₁ tk:Nat),h.IsKeyIter s.heap.objs.size d 0 es.size ep∧dy h d es ep→(∀b o,b≠S→s.heap.get? b=some o→h.get? b=some o)→
   h.get? S=some {cls:=.type "list",data:=.seq #[] c₁}→codeAny (model prog w) A (.builtin "list.extend.loop" ⟨[.ref S,.ref s.heap.objs.size,res],[]⟩) R {s with heap:=h,toks:=tk}:=by
  intro h c₁ tk hit hk yT;refine codeAny_extend_loopS W (by rw [gY];lia) S US res es.size 0 _ #[] c₁ rfl (bG _) hit yT (ItemsOf.nil _) fun s' jo c' Lp nu nz=>?_
  rw [Moved.eq_with Lp];refine hR s'.heap s'.toks jo c' (fun b o hb e=>Lp.heap b o (fun Ff=>?_) (hk b o hb e)) nu (UN nz);rcases bU.mp Ff with e' | Ff;·exact hb e'
  ·exact absurd (aZ e) (by rw [bY.mp Ff];exact dI _)
 unfold Builtin.List.listExtendWith;refine ae (xM (T:="dict") hT ?_);simp only [show Builtin.List.listSameRef (.ref S) (.ref d)=false from by simp [Builtin.List.listSameRef,yS],show (Value.type "dict" == Value.type "list")=false from by decide,show (Value.type "dict" == Value.type "tuple")=false from by decide,Bool.or_false,jB,gg]
 refine ae (Ll hd hm fun h1 e1=>?_);have k1:∀b o,s.heap.get? b=some o→h1.get? b=some o:=fun b o e=>by rw [e1];exact bK _ e
 have Lq:h1.IsKeyIter s.heap.objs.size d 0 es.size ep:=⟨_,by rw [e1];exact cK _ rfl,rfl,rfl⟩
 have yU:dy h1 d es ep:=hm.to fun o e=>k1 _ _ e;have yT:=k1 _ _ hS;refine ae (gX (UL (s:={s with heap:=h1}) yU ?_));refine wpAny_ite_split (fun _=>?_) (fun _=>aB ⟨nY F.plain_extend_loop _,key _ c₀ _ ⟨Lq,yU⟩ (fun b o _ e=>k1 b o e) yT⟩);refine ae (j8 (ae ?_));show wpAny _ _ (updateSeq S (·.push .none) >>= fun _=>updateSeq S (·.pop)) _ _ _;refine ae (uz yT rfl ?_);have Bn:=qu (Obj.mapSeq (·.push Value.none)) yT rfl;refine uz (hz:=by seq_fits) Bn rfl ?_
 have UU:=qu (Obj.mapSeq (·.pop)) Bn rfl;have oM:∀b o,b≠S→h1.get? b=some o→((h1.update S (Obj.mapSeq (·.push Value.none))).update S (Obj.mapSeq (·.pop))).get? b=some o:=fun b o hb e=>(xt _ _ (Ne.symm hb)).trans ((xt _ _ (Ne.symm hb)).trans e);exact aB ⟨nY F.plain_extend_loop _,key _ _ _ ⟨Lq.at fun o e=>oM _ o (Ne.symm nj) e,yU.to fun o e=>oM _ o (Ne.symm yS) e⟩ (fun b o hb e=>oM b o hb (k1 b o e)) UU⟩
theorem UW(hh:A.handled=none)(hd:(d == sysModules)=false)(hm:dy s.heap d es ep)(hlen:es.size≤2 ^ 24)(S:Addr)
  (hS:s.heap.get? S=some {cls:=.type "list",data:=.seq #[]})
  (hR:∀h' tk jo c',(∀b o,b≠S→s.heap.get? b=some o→h'.get? b=some o)→h'.get? S=some {cls:=.type "list",dict:=none,data:=.seq jo c',slots:=#[]}→KeysAre es jo→R (.ok (.ret .none)) {s with heap:=h',toks:=tk}) :
  wpAny (model prog w) A.in1 (Builtin.«list.__init__» ⟨[.ref S,.ref d],[]⟩)
   (fun fin s'=>match fin with | .done f=>R (.ok f) s' | .again c'=>c'.quiet=true∧codeAny (model prog w) A c' R s') (fun e s'=>R (.error e) s') s:=by
 have yS:S≠d:=fun e=>by
  obtain ⟨o,ho,hc,pY⟩:=hm
  rw [e,ho] at hS
  cases hS
  cases pY
 show wpAny _ _ (do let old ←Builtin.List.listItems (.ref S);Builtin.List.listUpdate (.ref S) (fun _=>#[]);letGo old.toList.reverse;Builtin.List.listExtendWith (.ref S) (.ref d) .none) _ _ s
 refine ae ?_
 unfold Builtin.List.listItems
 refine ae (xN hS rfl (aB ?_))
 show wpAny _ _ (updateSeq S (fun _=>#[]) >>= fun _=>letGo (#[]:Array Value).toList.reverse >>= fun _=>Builtin.List.listExtendWith (.ref S) (.ref d) .none) _ _ s
 refine ae (uz hS rfl ?_)
 have Bn:=qu (Obj.mapSeq (fun _=>(#[]:Array Value))) hS rfl
 have oM:∀b o,b≠S→s.heap.get? b=some o→(s.heap.update S (Obj.mapSeq (fun _=>(#[]:Array Value)))).get? b=some o:=fun b o hb e=>(xt _ _ (Ne.symm hb)).trans e
 refine ae (qH ?_)
 exact UO (s:={s with heap:=s.heap.update S (Obj.mapSeq (fun _=>(#[]:Array Value)))}) hh hd (hm.to fun o e=>oM d o (Ne.symm yS) e) hlen S .none _ Bn fun h' tk jo c' hk nu nz=>hR h' tk jo c' (fun b o hb e=>hk b o hb (oM b o hb e)) nu nz
theorem UX(hh:A.handled=none)(hd:(d == sysModules)=false)(hm:dy s.heap d es ep)(hlen:es.size≤2 ^ 24)
  (hQ:∀h' tk jo c',(∀b o,s.heap.get? b=some o→h'.get? b=some o)→h'.get? s.heap.objs.size=some {cls:=.type "list",dict:=none,data:=.seq jo c',slots:=#[]}→KeysAre es jo→Q (.ref s.heap.objs.size) {s with heap:=h',toks:=tk}) :
  wpAny (model prog w) A (call (.type "list") [.ref d]) Q E s:=by
 refine callType_codes (Q₁:=fun obj s₁=>obj=.ref s.heap.objs.size∧s₁={s with heap:=s.heap.push {cls:=.type "list",data:=.seq #[]}}) F.called_list (F.typeCall_list_1 _) F.entry_list_init (code_list_new _ ⟨rfl,rfl⟩) fun obj s₁ h₁=>?_;obtain ⟨rfl,rfl⟩:=h₁;have hS:(s.heap.push {cls:=.type "list",data:=.seq #[]}).get? s.heap.objs.size=some {cls:=.type "list",data:=.seq #[]}:=cK _ rfl;refine ⟨⟨_,hS,rfl⟩,F.args_list_init_2 _ _,UW (s:={s with heap:=s.heap.push {cls:=.type "list",data:=.seq #[]}}) (A:=A.in1) hh hd (hm.to fun o e=>bK _ e) hlen _ hS fun h' tk jo c' hk nu nz=>?_⟩;exact ⟨rfl,hQ h' tk jo c' (fun b o e=>hk b o (bM (aZ e)) (bK _ e)) nu nz⟩
end
end L2
namespace My
open PySem L2
end My
namespace L2
open PySem PySem.Spec PyProof.Rows My
theorem Fg{wi:TI}{ρ:St→St}{tt:TT}{te:TE}{σ:St}{H:Hp}{Q:VK}{xs:List V}(c:V→Bool)(eV:∀R:It→Hp→Prop,(∀J H1,ao H H1→kB J xs H1→R J H1)→wi σ H R)(hn:xs.length<sizeLine)
  (test:∀x∈xs,∀(Hc:Hp) (R:Bool→Hp→Prop),ao H Hc→R (c x) Hc→tt (some x::ρ σ) Hc R)
  (elem:∀(x:V) (Hc:Hp) (R:VK),R x Hc→te (some x::ρ σ) Hc R)
  (fin:∀D Hc,H D=none→ao H Hc→Hc D=some (.lst (xs.filter c))→Q (.ref D) Hc):hV wi ρ tt te σ H Q:=by
 refine eV _ fun J H1 s1 js=>?_;intro D nD;refine ⟨fun i m ys Hc=>m=xs.length-i∧i≤xs.length∧Hc D=some (.lst ys)∧ao H1 Hc∧ys.length≤i∧ys=(xs.take i).filter c,⟨_,rfl,bG _,au,fG (ao.refl H1) nD,aC _,rfl⟩,?_⟩;rintro i m ys Hc ⟨rfl,hi,eD,sH,ly,hP⟩;refine ⟨eD,?_⟩;by_cases aT:i<xs.length
 ·refine .inr ⟨js.go i Hc sH aT,fun x H' hy=>?_⟩
  obtain ⟨rfl,hx⟩:=js.df i Hc x H' sH hy;have ex:=hx aT;have mx:x∈xs:=iz ex;have tk:xs.take (i+1)=xs.take i++[x]:=by rw [iZ,ex];rfl
  refine test x mx _ _ (s1.trans sH) ?_;by_cases hb:c x=true
  ·rw [aj hb]
   refine elem x _ _ ⟨eD,by lia,xs.length-(i+1),by lia,rfl,aT,au,fG sH nD,by simp;lia,?_⟩
   rw [tk,z9,←hP,i3,aj hb];rfl
  ·rw [aa hb]
   refine ⟨xs.length-(i+1),by lia,rfl,aT,eD,sH,by lia,?_⟩
   rw [tk,z9,←hP,i3,aa hb,List.filter_nil,t8]
 ·have e:i=xs.length:=by lia
  subst e;rw [gh] at hP;subst hP;exact .inl ⟨js.stop _ Hc sH (aC _),fin D Hc (none_of s1 nD) (s1.trans sH) eD⟩
end L2
namespace My
open PySem L2
section
variable {P a d:Addr} {H Hc:Hp} {n m:Nat} {L:aE}
end
theorem dS.dW{H H':Hp}{t:Addr}{n:Nat}{L:aE}(h:dS H t n L)(k:∀b xs,H b=some (.tup xs)→H' b=some (.tup xs)):dS H' t n L:=by obtain ⟨lt,us,h1,h2,h3⟩:=h;refine ⟨lt,us,k _ _ h1,k _ _ h2,h3.1,fun i v p e1 e2=>?_⟩;obtain ⟨b,e,g⟩:=h3.2 i v p e1 e2;exact ⟨b,e,k _ _ g⟩
section
variable {n:Nat} {E:Nat→Nat→Prop} {pos rk:Nat→Nat}
end
open PySem PySem.W PyProof.Rows Tm
section
variable {prog:Program} {w:World} {A:Around} {E:aJ} {s:Shared}
def Fh(k:Keyed):Int:=match k.1 with | .int n _=>n | _=>0
structure pZ (n:Nat) (kz:Nat→Int) (p:List Nat):Prop where
 pm:p.Perm (List.range n)
 dn:p.Pairwise fun i j=>kz j≤kz i
variable {vs:List Value}
theorem UY{ns:List Int}(h:IntsAre vs ns):∀(i:Nat) (z:Int),ns[i]?=some z→∃t,vs[i]?=some (.int z t):=by
 induction h with
 | nil=>intro i z hz;cases hz
 | cons _ _ _ ih=>
  intro i z hz;cases i with
  | zero=>cases hz;exact ⟨_,rfl⟩
  | succ i=>exact ih i z hz
variable {kz:Nat→Int}
theorem UZ{keys:Array Value}(hk:IntsAre keys.toList ((List.range vs.length).map kz)){Q:SortSt→Shared→Prop}
  (hQ:∀(p:List Nat) (st:SortSt),pZ vs.length kz p→((arrOf st).map (·.2)).reverse.toList=p.map (fun i=>vs.getD i Value.none)→failedOf st=none→Q st s) :
  wpAny (model prog w) A (sortRuns'.run (SortSt.mk' oneType' (keys.zip vs.toArray).reverse #[] 7 none)) (fun r s'=>Q r.2 s') E s:=by
 have hl:=hk.length;rw [fA,aG,dJ] at hl;have ki:∀i,i<vs.length→∃t,keys.toList.getD i Value.none=.int (kz i) t:=fun i hi=>by
  obtain ⟨t,e⟩:=UY hk i (kz i) (by rw [bP,qv hi];rfl)
  exact ⟨t,by rw [eN,e];rfl⟩
 have el:(keys.zip vs.toArray).toList=(List.range vs.length).map fun i=>(keys.toList.getD i Value.none,vs.getD i Value.none):=by
  refine g7 (by simp [hl]) fun i h1 h2=>?_
  have hi:i<vs.length:=by simpa using h2
  have a_:i<keys.size:=by lia
  simp [hi,a_]
 have er:(keys.zip vs.toArray).reverse.toList=((List.range vs.length).reverse).map fun i=>(keys.toList.getD i Value.none,vs.getD i Value.none):=by rw [ud,el,List.map_reverse]
 have az:(keys.zip vs.toArray).reverse.size=vs.length:=by simp [hl]
 have lt:jO prog w A s oneType' Fh (fun k=>∃n t,k.1=.int n t):=by rintro ⟨u,u'⟩ ⟨v,v'⟩ ⟨a,t,rfl⟩ ⟨b,t',rfl⟩ C hC;exact kat_lt_int hC
 have ok:fH (fun k=>∃n t,k.1=.int n t) (keys.zip vs.toArray).reverse:=fun i hi=>by
  have e1:(keys.zip vs.toArray).reverse.getD i nn=(keys.zip vs.toArray).reverse.toList[i]'(by rw [fA];exact hi):=by rw [Array.getD_eq_getD_getElem?,uy hi];simp
  have e2:=eL (fun l=>l[i]?) er;have hm:(keys.zip vs.toArray).reverse.toList[i]'(by rw [fA];exact hi)∈(keys.zip vs.toArray).reverse.toList:=cB _
  rw [e1];generalize (keys.zip vs.toArray).reverse.toList[i]'(by rw [fA];exact hi)=x at hm
  rw [er] at hm;obtain ⟨j,hj,rfl⟩:=b7.mp hm;obtain ⟨t,e⟩:=ki j (by simpa using hj)
  exact ⟨_,_,e⟩
 refine bJ (J6 (E:=E) (Q:=fun _ st=>Q st s) (g:=7) lt ok fun aX st pm sg ha hf=>?_) (fun r s' h'=>by obtain ⟨rfl,h'⟩:=h';exact h') fun _ _ e=>e
 obtain ⟨p,hp,ep⟩:=perm_back (ue.mp pm) _ er;have pl:p.length=vs.length:=by rw [hp.length_eq,List.length_reverse,dJ]
 have EO:∀i∈p,i<vs.length:=fun i hi=>by simpa using hp.mem_iff.mp hi
 have hsz:aX.size=vs.length:=by rw [pm.size_eq,az]
 have kv:∀i (hi:i<p.length),vA Fh aX i=kz p[i]:=fun i hi=>by
  have e1:aX.getD i nn=(keys.toList.getD p[i] Value.none,vs.getD p[i] Value.none):=by
   have e2:aX.toList[i]?=some (keys.toList.getD p[i] Value.none,vs.getD p[i] Value.none):=by rw [ep,bP,bg hi];rfl
   rw [Array.getD_eq_getD_getElem?,←xx,e2];rfl
  unfold vA;rw [e1];obtain ⟨t,e⟩:=ki p[i] (EO _ (cB _));unfold Fh;rw [e]
 refine hQ p.reverse st ⟨(o6 p).trans (hp.trans (o6 _)),?_⟩ ?_ hf
 ·rw [Dq]
  refine qA.mpr fun i j hi hj ij=>?_;have:=sg i j (bG _) (by lia) (by rw [az];lia)
  rw [kv i hi,kv j hj] at this;exact this
 ·rw [ha,ud,Array.toList_map,ep,bw,List.map_reverse]
  rfl
variable {n:Nat}
theorem U0(h:n<2):pZ n kz (List.range n):=by
 refine ⟨List.Perm.refl _,?_⟩
 match n,h with
 | 0,_=>exact .nil
 | 1,_=>exact Ae _ _
theorem U1{kA:Array Value}(h:vs.length<2)(hs:kA.size=vs.length):(((kA.zip vs.toArray).reverse).map (·.2)).reverse.toList=(List.range vs.length).map (fun i=>vs.getD i Value.none):=by
 match vs,h,hs with
 | [],_,_=>simp
 | [v],_,hs=>obtain ⟨k,rfl⟩:=Array.size_eq_one_iff.mp hs;simp
theorem U2{a:Addr}{P:PySem.Fin→Shared→Prop}(ho:s.heap.get? a=some (seqObj "list" vs.toArray n))(h1:vs.length<10000)
  (turn:∀i v,vs[i]?=some v→∀(h:Heap) (tk:Nat) (Q:aJ),(∀b o,b≠a→s.heap.get? b=some o→h.get? b=some o)→(∀t dw,Q (.int (kz i) t) {s with heap:=h,toks:=dw})→wpAny (model prog w) A (call (.builtin "len") [v]) Q (fun _ _=>False) {s with heap:=h,toks:=tk})
  (h:∀h' tk out c p,pZ vs.length kz p→(∀b o,b≠a→s.heap.get? b=some o→h'.get? b=some o)→h'.get? a=some (seqObj "list" out c)→out.toList=p.map (fun i=>vs.getD i Value.none)→P (.done (.ret .none)) {s with heap:=h',toks:=tk}) :
  wpAny (model prog w) A (ksk_tree a (.builtin "len") true) P E s:=by
 have sl:vs.length≤sizeLine:=by rw [gY];lia
 have lt:=aZ ho;obtain ⟨e1,g1⟩:∃e,(s.heap.update a (Obj.mapSeq fun _=>#[])).get? a=some (seqObj "list" #[] e):=⟨_,o7 ho fun _=>#[]⟩;have z1:(s.heap.update a (Obj.mapSeq fun _=>#[])).objs.size=s.heap.objs.size:=xF _ _ _;have z2:((s.heap.update a (Obj.mapSeq fun _=>#[])).push (seqObj "tuple" vs.toArray 0)).objs.size=s.heap.objs.size+1:=by rw [qC,z1]
 unfold ksk_tree;refine ae (listItems_at ho rfl (ae (ug ho rfl ?_ (by rw [b4];lia) (bG _))))
 refine ae (seqEpoch_at g1 rfl (ae (wpAny_newTuple ?_ (by show vs.length≤_;lia))))
 refine ae (uh (gX ?_) (bG _));show wpAny (model prog w) A (ksk_rest a (.builtin "len") true vs.toArray e1 (.ref ((s.heap.update a (Obj.mapSeq fun _=>#[])).push (seqObj "tuple" vs.toArray 0)).objs.size)) P E {s with heap:=((s.heap.update a (Obj.mapSeq fun _=>#[])).push (seqObj "tuple" vs.toArray 0)).push (seqObj "list" #[] 0)};have gk:(((s.heap.update a (Obj.mapSeq fun _=>#[])).push (seqObj "tuple" vs.toArray 0)).push (seqObj "list" #[] 0)).get? (s.heap.objs.size+1)=some (seqObj "list" #[] 0):=by rw [←z2];exact cK _ rfl
 have up:∀b u,(s.heap.update a (Obj.mapSeq fun _=>#[])).get? b=some u→(((s.heap.update a (Obj.mapSeq fun _=>#[])).push (seqObj "tuple" vs.toArray 0)).push (seqObj "list" #[] 0)).get? b=some u:=fun b u hu=>bK _ (bK _ hu);have ga:=up a _ g1;have oM:∀b o,b≠a→s.heap.get? b=some o→(((s.heap.update a (Obj.mapSeq fun _=>#[])).push (seqObj "tuple" vs.toArray 0)).push (seqObj "list" #[] 0)).get? b=some o:=fun b o nb g=>up b o (by rw [uf _ _ _ _ nb];exact g)
 rw [z2];generalize ((s.heap.update a (Obj.mapSeq fun _=>#[])).push (seqObj "tuple" vs.toArray 0)).push (seqObj "list" #[] 0)=hp at gk ga oM;have ka:s.heap.objs.size+1≠a:=Nat.ne_of_gt (mI lt);have old:∀b o,s.heap.get? b=some o→b≠s.heap.objs.size+1:=fun b o g=>bM (mI (aZ g));generalize s.heap.objs.size+1=kS at gk ka old;unfold ksk_rest;refine ae (j8 ?_)
 first
  | rw [List.forIn_toArray]
  | (rw [←Array.forIn_toList];simp only [List.toList_toArray])
  | rw [←Array.forIn_toList]
 refine ae (ksk_fold (fun i s'=>∃h' tk kA e,s'={s with heap:=h',toks:=tk}∧h'.get? kS=some (seqObj "list" kA e)∧h'.get? a=some (seqObj "list" #[] e1)∧(∀b o,b≠a→s.heap.get? b=some o→h'.get? b=some o)∧IntsAre kA.toList (((List.range vs.length).map kz).take i)) vs 0 _
  ⟨hp,s.toks,#[],0,rfl,gk,ga,oM,by simpa using IntsAre.nil⟩ ?step ?done)
 case step=>
  rintro j x s' hx ⟨h',tk,kA,e,rfl,yV,yB,Bo,hk⟩;simp only [d5] at hk ⊢;have hj:j<vs.length:=(bx.mp hx).1;have hz:kA.size≤vs.length:=by have h1:=hk.length;rw [fA,oW,aG,dJ] at h1;lia
  refine ae (xA (bJ (turn j x hx h' tk (fun v fi=>∃t dw,v=.int (kz j) t∧fi={s with heap:=h',toks:=dw}) Bo fun t dw=>⟨t,dw,rfl,rfl⟩) (fun v fi he=>?_) fun _ _ hF=>hF.elim));obtain ⟨t,dw,rfl,rfl⟩:=he
  try dsimp only
  have sb:=jC h' kS (Obj.mapSeq (·.push (.int (kz j) t)));obtain ⟨c2,hG⟩:∃c2,(h'.update kS (Obj.mapSeq (·.push (.int (kz j) t)))).get? kS=some (seqObj "list" (kA.push (.int (kz j) t)) c2):=⟨_,o7 yV (·.push (.int (kz j) t))⟩;have ek:((List.range vs.length).map kz).take (j+1)=((List.range vs.length).map kz).take j++[kz j]:=by rw [List.take_add_one,bP,qv hj];rfl
  have ea:(kA.push (Value.int (kz j) t)).toList=kA.toList++[Value.int (kz j) t]:=by simp
  refine ae (ug yV rfl ?_ (by rw [gY];lia) (a9 (Nat.le_of_eq (Array.size_push ..)) (by rw [gY];lia)))
  exact aB ⟨rfl,_,_,kA.push (.int (kz j) t),c2,rfl,hG,(sb.2 a ka.symm).trans yB,fun b o nb g=>(sb.2 b (old b o g)).trans (Bo b o nb g),by rw [ea,ek];exact ksk_snoc hk⟩
 case done=>
  rintro s' ⟨h',tk,kA,e,rfl,yV,yB,Bo,hk⟩;have cY:IntsAre kA.toList ((List.range vs.length).map kz):=by
   rw [z8 (by rw [aG,dJ];lia)] at hk
   exact hk
  have hsz:kA.size=vs.length:=by have h1:=cY.length;rw [fA,aG,dJ] at h1;exact h1
  try dsimp only
  refine ae (listItems_at yV rfl ?_);have fin:∀(st:SortSt) (p:List Nat),pZ vs.length kz p→((arrOf st).map (·.2)).reverse.toList=p.map (fun i=>vs.getD i Value.none)→failedOf st=none→wpAny (model prog w) A (ksk_tail a true e1 (.ref kS) st) P E {s with heap:=h',toks:=tk}:=fun st p fp Lr hf=>by
   have sb:=jC h' kS (Obj.mapSeq fun _=>(#[]:Array Value));have yF:(h'.update kS (Obj.mapSeq fun _=>(#[]:Array Value))).get? a=some (seqObj "list" #[] e1):=(sb.2 a ka.symm).trans yB;have U3:=jC (h'.update kS (Obj.mapSeq fun _=>(#[]:Array Value))) a (Obj.mapSeq fun _=>((arrOf st).map (·.2)).reverse);obtain ⟨c2,hG⟩:∃c2,((h'.update kS (Obj.mapSeq fun _=>(#[]:Array Value))).update a (Obj.mapSeq fun _=>((arrOf st).map (·.2)).reverse)).get? a=some (seqObj "list" ((arrOf st).map (·.2)).reverse c2):=⟨_,o7 yF fun _=>((arrOf st).map (·.2)).reverse⟩;have lo:((arrOf st).map (·.2)).reverse.size=vs.length:=by rw [←fA,Lr,aG,fp.pm.length_eq,dJ]
   unfold ksk_tail
   try dsimp only
   refine ae (ug yV rfl ?_ (by rw [hsz];lia) (bG _))
   refine ae (qH (ae (seqEpoch_at yF rfl ?_)));refine ae (ug yF rfl ?_ (bG _) (by simp only [iX];rw [lo];lia))
   rw [hf];simp only [bne_self_eq_false,jB,gg,iX];exact aB (h _ _ _ c2 p fp (fun b o nb g=>(U3.2 b nb).trans ((sb.2 b (old b o g)).trans (Bo b o nb g))) hG Lr)
  unfold ksk_end
  try dsimp only
  simp only [iX];refine ae (j8 ?_);by_cases h2:vs.toArray.size<2
  ·rw [aj h2,aj h2]
   refine ae (aB ?_);rw [StateT.run_pure];refine ae (aB ?_);have len:vs.length<2:=by simpa using h2
   exact fin _ (List.range vs.length) (U0 len) (U1 len hsz) rfl
  ·rw [aa h2,aa h2]
   have len:2≤vs.length:=by simpa using h2
   rw [ksk_kind cY (by rw [hsz];exact len)]
   refine ae (aB ?_);refine ae (bJ (UZ (s:={s with heap:=h',toks:=tk}) (vs:=vs) (keys:=kA) (kz:=kz) cY (Q:=fun st s'=>s'={s with heap:=h',toks:=tk}∧∃p,pZ vs.length kz p∧((arrOf st).map (·.2)).reverse.toList=p.map (fun i=>vs.getD i Value.none)∧failedOf st=none) fun p st a1 a2 a3=>⟨rfl,p,a1,a2,a3⟩) ?_ fun _ _ e=>e);rintro ⟨⟨⟩,st⟩ s' ⟨rfl,p,a1,a2,a3⟩;exact fin st p a1 a2 a3
end
open PySem PySem.W PyProof.Rows
section
variable {prog:Program} {w:World} {A:Around} {E:aJ} {s:Shared}
theorem IsTup.to{h h':Heap}{a:Addr}{ak:Array Value}(t:IsTup h a ak)(k:∀o,h.get? a=some o→h'.get? a=some o):IsTup h' a ak:=let ⟨o,g,r⟩:=t;⟨o,k _ g,r⟩
theorem U4{l:Addr}{vs:List Value}{kz:Nat→Int}{Q:aJ}(hl:s.heap.IsList l vs.toArray)(h1:vs.length<10000)(hv:∀i v,vs[i]?=some v→∃b ak,v=.ref b∧IsTup s.heap b ak∧kz i=ak.size∧ak.size<10000)
  (h:∀h' tk out c p,pZ vs.length kz p→(∀b o,s.heap.get? b=some o→h'.get? b=some o)→h'.get? (s.heap.objs.size+1)=some (seqObj "list" out c)→out.toList=p.map (fun i=>vs.getD i Value.none)→Q (.ref (s.heap.objs.size+1)) {s with heap:=h',toks:=tk}) :
  wpAny (model prog w) A (call (.builtin "sorted") [.ref l] [(Str.ofString "key",.builtin "len"),(Str.ofString "reverse",.bool true)]) Q E s:=by
 have sl:vs.length≤sizeLine:=by rw [gY];lia
 refine call_function_entry_kw kind_sorted plain_sorted entry_sorted (ksk_s2 _ _ _) ?_;unfold Builtin.«sorted»;refine ae (m:=checkCount "sorted" 1 1 _) (aB (ae (collect_list hl (ae (uh ?_ sl)) sl)));have zz:((s.heap.push (seqObj "list" #[] 0)).update s.heap.objs.size (Obj.mapSeq (·++vs.toArray))).objs.size=s.heap.objs.size+1:=by rw [xF,qC]
 have kp:∀b o,s.heap.get? b=some o→(((s.heap.push (seqObj "list" #[] 0)).update s.heap.objs.size (Obj.mapSeq (·++vs.toArray))).push (seqObj "list" vs.toArray 0)).get? b=some o:=fun b o g=>by
  have lt:=aZ g;rw [o_ _ _ _ (bM (by rw [zz];exact mI lt)),uf _ _ _ _ (bM lt),o_ _ _ _ (bM lt)]
  exact g
 have gL:(((s.heap.push (seqObj "list" #[] 0)).update s.heap.objs.size (Obj.mapSeq (·++vs.toArray))).push (seqObj "list" vs.toArray 0)).get? (s.heap.objs.size+1)=some (seqObj "list" vs.toArray 0):=by rw [←zz];exact cK _ rfl
 show wpAny _ _ _ _ _ {s with heap:=((s.heap.push (seqObj "list" #[] 0)).update s.heap.objs.size (Obj.mapSeq (·++vs.toArray))).push (seqObj "list" vs.toArray 0)};rw [zz];generalize ((s.heap.push (seqObj "list" #[] 0)).update s.heap.objs.size (Obj.mapSeq (·++vs.toArray))).push (seqObj "list" vs.toArray 0)=hp at kp gL;have ne:∀b o,s.heap.get? b=some o→b≠s.heap.objs.size+1:=fun b o g=>bM (mI (aZ g));refine ae (gX (wpAny_call_entry_kw slot_list_sort ⟨_,gL,rfl⟩ entry_list_sort ?_ (ksk_l2 _ _ _)));rw [ksk_t5];refine U2 (s:={s with heap:=hp}) (kz:=kz) gL h1 (fun i v hi h' tk Q' kk hQ=>?_) fun h' tk out c p fp kk g e=>⟨_,rfl,aB ⟨_,rfl,h h' tk out c p fp (fun b o gb=>kk b o (ne b o gb) (kp b o gb)) g e⟩⟩;obtain ⟨b,ak,rfl,t,ek,i1⟩:=hv i v hi;rw [ek] at hQ;refine len_tuple (s:={s with heap:=h',toks:=tk}) (items:=ak) (IsTup.to t fun o g=>kk b o (ne b o g) (kp b o g)) (by lia) ?_
 exact hQ _ _
end
end My
namespace L2
open PySem PySem.W PyProof.Rows My
def U5(t:TA):TE:=fun σ H Q=>t σ H fun xs H1=>∃(l:Addr) (vs:List V) (ks:Nat→Nat),xs=[.ref l]∧H1 l=some (.lst vs)∧vs.length<10000∧(∀(i:Nat) (v:V),vs[i]?=some v→∃b ys,v=.ref b∧H1 b=some (.tup ys)∧ks i=ys.length∧ys.length<10000) ∧
 ∀(D:Addr) (p:List Nat),H1 D=none→pZ vs.length (fun i=>(ks i:Int)) p→Q (.ref D) (upd H1 D (.lst (p.map fun i=>vs.getD i .aS)))
variable {X:Cx}
theorem U6{e:Expr}{es:List Expr}{t:TA}{p p2 pos Fi U7 cp:Pos}{j:Nat}(ha:PA X (e::es) t)(hg:Gl X (Str.ofString "sorted"))(hm:X.mg (Str.ofString "sorted")=none)(hv:bootBuiltins (Str.ofString "sorted")=some (.builtin "sorted"))
  (Fj:Gl X (Str.ofString "len")) (Fl:X.mg (Str.ofString "len")=none) (U8:bootBuiltins (Str.ofString "len")=some (.builtin "len"))
  (he:backTo pos (starEach (e::es) X.env)=(false,eval e X.env)::backTo pos (starEach es X.env):=by rfl) (ja:(backTo pos (starEach (e::es) X.env)).any (·.1)=false:=by rfl) :
  PE X (.Call (.Name (Str.ofString "sorted") p) (e::es) [⟨some (Str.ofString "key"),.Name (Str.ofString "len") p2,Fi⟩,⟨some (Str.ofString "reverse"),.Constant (.bool true) j cp,U7⟩] pos) (U5 t):=by
 intro pins s σ H Q I h
 refine xq (lJ I hg hm hv ?_)
 refine callWith_kw (aN (ha pos pins s σ H _ I h) fun us s1 ⟨xs,H1,I1,r1,q1⟩=>?_) he ja
 obtain ⟨l,vs,ks,rfl,hl,h1,l5,k⟩:=q1
 obtain ⟨u,rfl,ru⟩:=vals1 r1
 cases ru
 show wpAny _ _ (evalAll [(do let v ←eval (.Name (Str.ofString "len") p2) X.env;standAt pos;pure v),(do let v ←eval (.Constant (.bool true) j cp) X.env;standAt pos;pure v)]) _ _ s1
 refine wpAny_evalAll_cons (ae (lJ I1 Fj Fl U8 (ae (qr (aB ?_)))))
 refine wpAny_evalAll_cons (ae (Constant_bool (ae (qr (aB ?_)))))
 refine wpAny_evalAll_nil ?_
 show wpAny _ _ (call (.builtin "sorted") [.ref l] [(Str.ofString "key",.builtin "len"),(Str.ofString "reverse",.bool true)]) _ _ s1
 obtain ⟨ak,rv,pl,hz⟩:=I1.list (.of hl)
 have vg:=rv.length
 refine U4 (kz:=fun i=>(ks i:Int)) pl.isList (by lia) (fun i v hi=>?_) fun h' tk out c p fp kp g e=>?_
 ·have a_:i<vs.length:=by
   have:=(bx.mp hi).1
   lia
  have gi:vs[i]?=some vs[i]:=by simp [a_]
  obtain ⟨b,ys,eb,hb,ek,y1⟩:=l5 i _ gi
  obtain ⟨u,eu,ru⟩:=rv.get gi
  rw [hi] at eu
  cases eu
  rw [eb] at ru
  cases ru
  obtain ⟨jb,r2,tp,_⟩:=I1.tuple (.of hb)
  have l2:=r2.length
  exact ⟨b,jb.toArray,rfl,tp,by rw [b4,←l2,ek],by rw [b4];lia⟩
 ·rw [←vg] at fp
  refine ⟨.ref (s1.heap.objs.size+1),_,I1.laid (t':=tk) (o:=.lst (p.map fun i=>vs.getD i .aS)) kp (oX _) ⟨?_,p.map fun i=>ak.getD i Value.none,c,?_,?_⟩,rfl,k _ p (I1.ay.fresh (oX _)) fp⟩
  ·rw [aG,fp.pm.length_eq,dJ]
   exact a9 (xl h1) (by decide)
  ·exact ER rv p fun i hi=>cu.mp (fp.pm.mem_iff.mp hi)
  ·rw [g,←e,Array.toArray_toList]
def Fm:List V→Hp→VK→Prop:=fun xs H Q=>∃(a:Addr) (zs:List Int),xs=[.ref a]∧H a=some (.tup (zs.map V.int))∧zs.length<64∧∀(ws:List Int) (D:Addr),ws.Perm zs→ws.Pairwise (·≤·)→H D=none→Q (.ref D) (upd H D (.lst (ws.map V.int)))
theorem Ls:eQ X (.builtin "sorted") Fm:=by
 intro pins s σ H xs us Q I r h;obtain ⟨a,zs,rfl,ha,yG,k⟩:=h;obtain ⟨u,rfl,ru⟩:=vals1 r;cases ru;obtain ⟨ak,rv,⟨o,g,c,n,d⟩,hz⟩:=I.tuple (.of ha);have hl:=rv.length;rw [aG] at hl;have sl:ak.length≤sizeLine:=by rw [gY];lia
 refine Calls.call_function_entry kind_sorted plain_sorted entry_sorted (args_sorted1 _) ?_;unfold Builtin.«sorted»;refine ae (m:=checkCount "sorted" 1 1 _) (aB (ae (wpAny_collect_seq a (.inr rfl) g c d (fun h1 k1=>ae (uh ?_ sl)) (by rw [b4];exact sl))))
 have I1:Inv X pins σ H {s with heap:=h1}:=I.kept (t':=s.toks) k1;have gL:(h1.push (seqObj "list" ak.toArray 0)).get? h1.objs.size=some (seqObj "list" ak.toArray 0):=cK _ rfl;show wpAny _ _ _ _ _ {s with heap:=h1.push (seqObj "list" ak.toArray 0)};refine ae (gX (lE slot_list_sort ⟨_,gL,rfl⟩ entry_list_sort (list_sort_tree (s:={s with heap:=h1.push (seqObj "list" ak.toArray 0)}) gL (intsAre_of rv) (by lia) fun out kr a1 a2 a3=>⟨_,rfl,?_⟩) (args_list_sort _)))
 obtain ⟨e,he⟩:=sortedHeap_at (out:=out) gL;refine aB ⟨_,rfl,.ref h1.objs.size,_,I1.laid (t':=s.toks) (o:=.lst (kr.map .int)) (fun b u gb=>?_) (aC _) ⟨?_,out.toList,e,E5 a1,?_⟩,rfl,k kr _ a2 a3 (I1.ay.fresh (aC _))⟩
 ·have lt:=aZ gb
  rw [sortedHeap_old (bM lt) (by rw [qC];exact mI lt)]
  exact bK _ gb
 ·rw [aG,a2.length_eq]
  rw [gY];lia
 ·simpa using he
end L2
namespace My
open PySem PySem.W PyProof.Rows
section
variable {prog:Program} {w:World} {A:Around} {E:aJ} {s:Shared} {R:Result→Shared→Prop}
def kP(s:Shared)(h:Heap):Prop:=∀b o,s.heap.get? b=some o→h.get? b=some o
def Bp(prog:Program)(w:World)(A:Around)(s:Shared)(vs:List Value)(kf:Nat→Int):Prop:=∀i j v u,vs[i]?=some v→vs[j]?=some u→∀(h:Heap) (tk:Nat) (Q:aJ),kP s h→(∀dw,Q (.bool (decide (kf i<kf j))) {s with heap:=h,toks:=dw})→wpAny (model prog w) A (richCompare .Lt v u) Q (fun _ _=>False) {s with heap:=h,toks:=tk}
variable {l:Addr} {vs:List Value} {kf:Nat→Int} {kw:List (Str×Value)}
theorem U9{I S:Addr}(hh:A.handled=none)(hl:s.heap.IsList l vs.toArray)(hI:s.heap.objs.size≤I)(hS:s.heap.objs.size≤S)(nj:S≠I)(cmp:Bp prog w A.in1 s vs kf)
  (hR:∀i v h' dw,vs[i]?=some v→(∀j,j<vs.length→kf i≤kf j∧(j<i→kf i<kf j))→kP s h'→R (.ok (.ret v)) {s with heap:=h',toks:=dw}) :
  ∀(r j i:Nat) (h:Heap) (tk:Nat) (vb:Value) (c:Nat),vs.length-(j+1)=r→j+1≤vs.length→kP s h→h.get? S=some (seqObj "list" #[vb,vb] c)→h.IsListIter I l (j+1)→vs[i]?=some vb→i≤j→(∀j',j'≤j→kf i≤kf j'∧(j'<i→kf i<kf j'))→
   codeAny (model prog w) A (.builtin "min.loop" ⟨[.ref I,.none,.ref S],kw⟩) R {s with heap:=h,toks:=tk}:=by
 have yW:(toString "min"++toString ".loop":String)="min.loop":=by decide
 have lI:l≠I:=fun e=>by obtain ⟨o,g,_⟩:=hl;exact dI _ (dA (aZ g) (e▸hI))
 have W:=Walks.list (prog:=prog) (w:=w) (A:=A.in1) hh I l lI vs.toArray;have hsz:vs.toArray.size=vs.length:=b4 ..;have lk:∀{h:Heap},kP s h→h.IsList l vs.toArray:=fun{h} kp=>by obtain ⟨o,g,r⟩:=hl;exact ⟨o,kp _ _ g,r⟩
 have kI:∀{h h':Heap},kP s h→(∀b o,b∉[I]→h.get? b=some o→h'.get? b=some o)→kP s h':=fun kp k b o g=>k b o (fun z=>by rw [bY.mp z] at g;exact dI _ (dA (aZ g) hI)) (kp b o g)
 have kS:∀{h:Heap} {f:Obj→Obj},kP s h→kP s (h.update S f):=fun{h f} kp b o g=>((jC h S f).2 b (fun z=>by rw [z] at g;exact dI _ (dA (aZ g) hS))).trans (kp b o g)
 intro r
 induction r with
 | zero=>
  intro j i h tk vb c hr hj kp gS hit Bq A0 rV;have U_:j+1=vs.length:=by lia
  refine nW Af ?_;rw [pj pA _];show wpAny _ A.in1 (seqItems? (.ref S) >>= _) _ _ _;refine ae (xN gS rfl ?_);show wpAny _ A.in1 (tryCatch (pyNext (.ref I)) _ >>= _) _ _ _;refine ae (xO (W.done _ _ _ ⟨by rw [hsz,←U_];exact hit,lk kp⟩ fun h' dw cY=>?_))
  have p9:=cY S _ (by simpa using nj) gS
  show wpAny _ A.in1 (updateSeq S (fun _=>#[]) >>= _) _ _ _;refine ae (uz p9 rfl (ae (qH (aB ?_))));exact hR i vb _ _ Bq (fun j' dh=>rV j' (by lia)) (kS (kI kp cY))
 | succ r ih=>
  intro j i h tk vb c hr hj kp gS hit Bq A0 rV;have aT:j+1<vs.length:=by lia
  refine nW Af ?_;rw [pj pA _];show wpAny _ A.in1 (seqItems? (.ref S) >>= _) _ _ _;refine ae (xN gS rfl ?_);show wpAny _ A.in1 (tryCatch (pyNext (.ref I)) _ >>= _) _ _ _;refine ae (xO (W.item (j+1) _ _ _ (by rw [hsz];exact aT) ⟨hit,lk kp⟩ fun v h' dw hP Br cY=>?_))
  have hv:vs[j+1]?=some v:=by simpa using hP
  have yX:=kI kp cY;have p9:=cY S _ (by simpa using nj) gS
  show wpAny _ A.in1 (tryCatch (holding [v,v] (richCompare .Lt v vb >>= _)) _ >>= _) _ _ _;refine ae (xO (gX (ae (bJ (cmp (j+1) i v vb hv Bq h' dw (fun a fi=>∃Bs,a=.bool (decide (kf (j+1)<kf i))∧fi={s with heap:=h',toks:=Bs}) yX fun Bs=>⟨Bs,rfl,rfl⟩) (fun a fi he=>?_) fun _ _ hF=>hF.elim))));obtain ⟨Bs,rfl,rfl⟩:=he;refine ae (gX (nR ?_));refine ae (qH (aB ?_));by_cases fE:kf (j+1)<kf i
  ·obtain ⟨c2,hG⟩:∃c2,(h'.update S (Obj.mapSeq fun _=>#[v,v])).get? S=some (seqObj "list" #[v,v] c2):=⟨_,o7 p9 fun _=>#[v,v]⟩
   simp only [fE,decide_true,iX];refine ae (uz p9 rfl (ae (qH ?_)));rw [yW];obtain ⟨oI,g1,g2⟩:=id Br.1;refine aB ⟨nY pA _,ih (j+1) (j+1) _ _ v c2 (by lia) aT (kS yX) hG ⟨oI,((jC h' S _).2 I nj.symm).trans g1,g2⟩ hv (aC _) fun j' dh=>?_⟩
   by_cases e:j'=j+1
   ·subst e
    exact ⟨by lia,fun _=>by lia⟩
   ·have Va:=rV j' (by lia)
    have hb2:=Va.1;exact ⟨by lia,fun _=>by lia⟩
  ·simp only [fE,decide_false,jB,gg]
   refine ae (qH ?_);rw [yW];refine aB ⟨nY pA _,ih (j+1) i _ _ vb c (by lia) aT yX p9 Br.1 Bq (by lia) fun j' dh=>?_⟩
   by_cases e:j'=j+1
   ·subst e
    exact ⟨by lia,fun _=>by lia⟩
   ·exact rV j' (by lia)
theorem Lu{dflt:Option Value}{Q:aJ}(hh:A.handled=none)(ha:argsOk "min" ⟨[.ref l],kw⟩)(hb:Builtin.Builtins.bindParams "min" ["key","default"] 0 ⟨[],kw⟩=pure [none,dflt])
  (hl:s.heap.IsList l vs.toArray) (cmp:Bp prog w A.in1 s vs kf) (ou:0<vs.length∨∃d,dflt=some d)
  (hQ:∀i v h' dw,vs[i]?=some v→(∀j,j<vs.length→kf i≤kf j∧(j<i→kf i<kf j))→kP s h'→Q v {s with heap:=h',toks:=dw})
  (hD:vs.length=0→∀d,dflt=some d→∀h' dw,kP s h'→Q d {s with heap:=h',toks:=dw}) :
  wpAny (model prog w) A (call (.builtin "min") [.ref l] kw) Q E s:=by
 have yW:(toString "min"++toString ".loop":String)="min.loop":=by decide
 obtain ⟨ol,Vb,_⟩:=id hl;have vg:l<s.heap.objs.size:=aZ Vb;refine kmk_tree PySem.F.kind_min PySem.F.plain_min PySem.F.entry_min ha ?_;show wpAny _ A.in1 (Builtin.Builtins.bindParams "min" ["key","default"] 0 ⟨[],kw⟩ >>= _) _ _ s;refine ae (jD hb ?_);refine ae (aB ?_);refine ae (zV hl ?_);refine ae (uh ?_ (bG _));rw [yW];have hS:(s.heap.push {cls:=.type "list_iterator",data:=.fields #[.ref l,.int 0 0]}).objs.size=s.heap.objs.size+1:=qC ..;have gI:((s.heap.push {cls:=.type "list_iterator",data:=.fields #[.ref l,.int 0 0]}).push (seqObj "list" #[] 0)).get? s.heap.objs.size=some {cls:=.type "list_iterator",data:=.fields #[.ref l,.int 0 0]}:=bK _ (cK _ rfl);have gS:((s.heap.push {cls:=.type "list_iterator",data:=.fields #[.ref l,.int 0 0]}).push (seqObj "list" #[] 0)).get? (s.heap.objs.size+1)=some (seqObj "list" #[] 0):=by rw [←hS];exact cK _ rfl
 have kp:kP s ((s.heap.push {cls:=.type "list_iterator",data:=.fields #[.ref l,.int 0 0]}).push (seqObj "list" #[] 0)):=fun b o e=>bK _ (bK _ e);refine aB ⟨nY pA _,?_⟩;rw [hS];show codeAny _ _ _ _ {s with heap:=(s.heap.push {cls:=.type "list_iterator",data:=.fields #[.ref l,.int 0 0]}).push (seqObj "list" #[] 0)};generalize (s.heap.push {cls:=.type "list_iterator",data:=.fields #[.ref l,.int 0 0]}).push (seqObj "list" #[] 0)=hp at gI gS kp;obtain ⟨S,eS⟩:∃S,S=s.heap.objs.size+1:=⟨_,rfl⟩;obtain ⟨I,eI⟩:∃I,I=s.heap.objs.size:=⟨_,rfl⟩;have nj:S≠I:=by rw [eS,eI];exact Nat.ne_of_gt (Nat.lt_succ_self _)
 have Lv:s.heap.objs.size≤I:=Nat.le_of_eq eI.symm;have yY:s.heap.objs.size≤S:=by rw [eS];exact oX _
 have Vc:l≠I:=by rw [eI];exact bM vg
 rw [←eS] at gS ⊢;rw [←eI] at gI ⊢;have W:=Walks.list (prog:=prog) (w:=w) (A:=A.in1) hh I l Vc vs.toArray;have hsz:vs.toArray.size=vs.length:=b4 ..;have lk:hp.IsList l vs.toArray:=by obtain ⟨o,g,r⟩:=hl;exact ⟨o,kp _ _ g,r⟩
 have kI:∀{h':Heap},(∀b o,b∉[I]→hp.get? b=some o→h'.get? b=some o)→kP s h':=fun k b o g=>k b o (fun z=>by rw [bY.mp z] at g;exact dI _ (dA (aZ g) Lv)) (kp b o g)
 by_cases hz:0<vs.length
 ·refine nW Af ?_
  rw [pj pA _];show wpAny _ A.in1 (seqItems? (.ref S) >>= _) _ _ _;refine ae (xN gS rfl ?_);show wpAny _ A.in1 (tryCatch (pyNext (.ref I)) _ >>= _) _ _ _;refine ae (xO (W.item 0 _ _ _ (by rw [hsz];exact hz) ⟨⟨_,gI,rfl,rfl⟩,lk⟩ fun v h' dw hP Br cY=>?_))
  have hv:vs[0]?=some v:=by simpa using hP
  obtain ⟨Vd,Ve,jm⟩:=id Br.1;have p9:=cY S _ (by simpa using nj) gS
  have yX:=kI cY;obtain ⟨c2,hG⟩:∃c2,(h'.update S (Obj.mapSeq fun _=>#[v,v])).get? S=some (seqObj "list" #[v,v] c2):=⟨_,o7 p9 fun _=>#[v,v]⟩;show wpAny _ A.in1 (updateSeq S (fun _=>#[v,v]) >>= _) _ _ _;refine ae (uz p9 rfl ?_);rw [yW];refine aB ⟨nY pA _,U9 hh hl Lv yY nj cmp hQ _ 0 0 _ _ v c2 rfl hz (fun b o g=>((jC h' S _).2 b (fun z=>?_)).trans (yX b o g)) hG ⟨Vd,((jC h' S _).2 I nj.symm).trans Ve,jm⟩ hv (aC _) fun j' dh=>?_⟩
  ·rw [z] at g
   exact dI _ (dA (aZ g) yY)
  ·have e:j'=0:=by lia
   subst e;exact ⟨lA _,fun h=>absurd h (dI _)⟩
 ·have z0:vs.length=0:=by lia
  obtain ⟨d,rfl⟩:∃d,dflt=some d:=ou.elim (fun h=>absurd h hz) id;refine nW Af ?_;rw [pj pA _];show wpAny _ A.in1 (seqItems? (.ref S) >>= _) _ _ _;refine ae (xN gS rfl ?_);show wpAny _ A.in1 (tryCatch (pyNext (.ref I)) _ >>= _) _ _ _;refine ae (xO (W.done _ _ _ ⟨⟨_,gI,rfl,by rw [hsz,z0];rfl⟩,lk⟩ fun h' dw cY=>?_))
  exact ae (j8 (aB (hD z0 d rfl h' dw (kI cY))))
end
open PySem PySem.W PyProof.Rows L2
theorem Vf(a v:Value):argsOk "min" ⟨[a],[(Str.ofString "default",v)]⟩:=by unfold argsOk;kernel_rfl
theorem Vg(a:Value):argsOk "min" ⟨[a],[]⟩:=by unfold argsOk;kernel_rfl
section
variable {prog:Program} {w:World} {A:Around} {s:Shared}
variable {vs:List Value}
theorem Vh{kf:Nat→Int}(hv:∀(i:Nat) (v:Value),vs[i]?=some v→∃t,v=Value.int (kf i) t):Bp prog w A s vs kf:=fun i j v u hi hj h tk Q kp hQ=>by obtain ⟨t,rfl⟩:=hv i v hi;obtain ⟨t',rfl⟩:=hv j u hj;exact HT.Jd A _ _ _ _ _ prog w _ Q (hQ tk)
theorem Vi{x y:Nat→Int}(hu:A.units<cLine)(hv:∀i v,vs[i]?=some v→e8 s.heap v (x i) (y i)∧0≤y i∧y i<1000):Bp prog w A s vs (fun i=>x i*1000+y i):=fun i j v u hi hj h tk Q kp hQ=>by
 obtain ⟨⟨a,o,t1,t2,e,rfl,g,c,d⟩,y0,y1⟩:=hv i v hi;obtain ⟨⟨b,o',t3,t4,e',rfl,g',c',d'⟩,y2,y3⟩:=hv j u hj;have:=hQ tk;rw [show decide (x i*1000+y i<x j*1000+y j)=HT.lexLt [x i,y i] [x j,y j] from by
  rw [HT.DU,HT.DU];by_cases q:x i=x j
  ·rw [aj q]
   by_cases q':y i=y j
   ·rw [aj q']
    exact b3 (by lia)
   ·rw [aa q']
    exact qB.mpr (by lia)
  ·rw [aa q]
   exact qB.mpr (by lia)] at this
 exact HT.Qt (s:={s with heap:=h,toks:=tk}) (items:=#[.int (x i) t1,.int (y i) t2]) (items2:=#[.int (x j) t3,.int (y j) t4]) ⟨o,kp _ _ g,c,e,d⟩ ⟨o',kp _ _ g',c',e',d'⟩ (.cons _ _ (.cons _ _ .nil)) (.cons _ _ (.cons _ _ .nil)) hu this
end
end My
namespace L2
open PySem PySem.W PyProof.Rows My
def Fn(zs:List Int)(d m:Int):Prop:=(zs=[]∧m=d)∨(m∈zs∧∀z∈zs,m≤z)
def Lw(t:TA)(td:TE):TE:=fun σ H Q=>t σ H fun xs H1=>td σ H1 fun y H2=>∃(l:Addr) (zs:List Int) (d:Int),xs=[.ref l]∧y=.int d∧H2 l=some (.lst (zs.map V.int))∧zs.length≤10000∧∀m,Fn zs d m→Q (.int m) H2
variable {X:Cx}
theorem Lx{e de:Expr}{es:List Expr}{t:TA}{td:TE}{p pos Fi:Pos}(hc:X.calm=true)(ha:PA X (e::es) t)(hd:PE X de td)(hg:Gl X (Str.ofString "min"))(hm:X.mg (Str.ofString "min")=none)(hv:bootBuiltins (Str.ofString "min")=some (.builtin "min"))
  (he:backTo pos (starEach (e::es) X.env)=(false,eval e X.env)::backTo pos (starEach es X.env):=by rfl) (ja:(backTo pos (starEach (e::es) X.env)).any (·.1)=false:=by rfl) :
  PE X (.Call (.Name (Str.ofString "min") p) (e::es) [⟨some (Str.ofString "default"),de,Fi⟩] pos) (Lw t td):=by
 intro pins s σ H Q I h
 refine xq (lJ I hg hm hv ?_)
 refine callWith_kw (aN (ha pos pins s σ H _ I h) fun us s1 ⟨xs,H1,I1,r1,q1⟩=>?_) he ja
 show wpAny _ _ (evalAll [(do let v ←eval de X.env;standAt pos;pure v)]) _ _ s1
 refine wpAny_evalAll_cons (ae (aN (hd pins s1 σ H1 _ I1 q1) fun u s2 ⟨y,H2,I2,r2,q2⟩=>ae (qr (aB (wpAny_evalAll_nil ?_)))))
 obtain ⟨l,zs,d,rfl,rfl,hl,h1,k⟩:=q2
 obtain ⟨u',rfl,ru⟩:=vals1 r1
 cases ru
 obtain ⟨Fo,rfl⟩:=r2
 show wpAny _ _ (call (.builtin "min") [.ref l] [(Str.ofString "default",.int d Fo)]) _ _ s2
 obtain ⟨ak,rv,pl,hz⟩:=I2.list (.of hl)
 have vg:=rv.length
 rw [aG] at vg
 have at':∀(i:Nat) (v:Value),ak[i]?=some v→∃t,v=Value.int (zs.getD i 0) t:=fun i v hi=>by
  have a_:i<zs.length:=by
   have:=(bx.mp hi).1
   lia
  obtain ⟨u,eu,ru⟩:=rv.get (i:=i) (x:=.int (zs[i])) (by simp [a_])
  rw [hi] at eu
  cases eu
  obtain ⟨t,rfl⟩:=ru
  exact ⟨t,by rw [eN,bg a_];rfl⟩
 refine Lu (kf:=fun i=>zs.getD i 0) (dflt:=some (.int d Fo)) (I2.ok.hd hc) (Vf _ _) rfl pl.isList (Vh at') (.inr ⟨_,rfl⟩) (fun i v h' dw hi best kp=>?_) (fun z0 d' e' h' dw kp=>?_)
 ·obtain ⟨t,rfl⟩:=at' i v hi
  have a_:i<zs.length:=by
   have:=(bx.mp hi).1
   lia
  have gd:∀j (hj:j<zs.length),zs.getD j 0=zs[j]:=fun j hj=>by rw [eN,bg hj];rfl
  refine ⟨.int (zs.getD i 0),H2,I2.kept (t':=dw) kp,⟨t,rfl⟩,k _ (.inr ⟨by rw [gd i a_];exact cB _,fun z hz=>?_⟩)⟩
  obtain ⟨j,hj,rfl⟩:=uc hz
  have:=(best j (by lia)).1
  rw [gd j hj] at this
  exact this
 ·cases e'
  have z1:zs=[]:=Dr.mp (by lia)
  exact ⟨.int d,H2,I2.kept (t':=dw) kp,⟨Fo,rfl⟩,k _ (.inl ⟨z1,rfl⟩)⟩
def Vj:List V→Hp→VK→Prop:=fun xs H Q=>∃(l:Addr) (vs:List V) (x y:Nat→Int),xs=[.ref l]∧H l=some (.lst vs)∧0<vs.length∧(∀(i:Nat) (v:V),vs[i]?=some v→(∃b,v=.ref b∧H b=some (.tup [.int (x i),.int (y i)]))∧0≤y i∧y i<1000) ∧
 ∀(i:Nat) (v:V),vs[i]?=some v→(∀j,j<vs.length→x i*1000+y i≤x j*1000+y j)→Q v H
theorem Vk(hc:X.calm=true)(hu:X.A.units+64<cLine):eQ X (.builtin "min") Vj:=by
 intro pins s σ H xs us Q I r h;obtain ⟨l,vs,x,y,rfl,hl,h0,hv,k⟩:=h;obtain ⟨u,rfl,ru⟩:=vals1 r;cases ru;obtain ⟨ak,rv,pl,hz⟩:=I.list (.of hl);have vg:=rv.length;have at':∀i v,ak[i]?=some v→e8 s.heap v (x i) (y i)∧0≤y i∧y i<1000:=fun i v hi=>by
  have a_:i<vs.length:=by have:=(bx.mp hi).1;lia
  have gi:vs[i]?=some vs[i]:=by simp [a_]
  obtain ⟨⟨b,eb,hb⟩,ES⟩:=hv i _ gi;obtain ⟨u,eu,ru⟩:=rv.get gi;rw [hi] at eu;cases eu;rw [eb] at ru;cases ru;obtain ⟨_,jb,r2,o,g,cl,e,d⟩:=(show b9 X.prog X.w H s.heap b (.tup [.int (x i),.int (y i)]) from I.ay b _ hb);obtain ⟨u1,u2,rfl,q1,q2⟩:=vals2 r2;obtain ⟨t1,rfl⟩:=q1;obtain ⟨t2,rfl⟩:=q2;exact ⟨⟨b,o,t1,t2,e,rfl,g,cl,d⟩,ES⟩
 have Vl:X.A.in1.units<cLine:=by show X.A.units+1<cLine;lia
 refine Lu (kf:=fun i=>x i*1000+y i) (dflt:=none) (I.ok.hd hc) (Vg _) rfl pl.isList (Vi Vl at') (.inl (by lia)) (fun i v h' dw hi best kp=>?_) (fun z0=>by lia)
 have a_:i<vs.length:=by have:=(bx.mp hi).1;lia
 have gi:vs[i]?=some vs[i]:=by simp [a_]
 obtain ⟨u,eu,ru⟩:=rv.get gi;rw [hi] at eu;cases eu;exact ⟨vs[i],H,I.kept (t':=dw) kp,ru,k i _ gi fun j hj=>(best j (by lia)).1⟩
end L2
namespace My
open PySem L2
theorem Ly{k:Nat}(h:k≤1000):k≤sizeLine:=a9 h (by decide)
def Vm:Sp:=fun vs H Q _=>∃(d:Addr) (done:List Int) (p:Int),vs=[.ref d,.int p]∧H d=some (.tup (done.map V.int))∧done.length≤60 ∧
 ∀(H':Hp) (t:Addr) (ws:List Int),ws.Perm (done++[p])→ws.Pairwise (·≤·)→H t=none→ao H H'→H' t=some (.tup (ws.map V.int))→Q (.ref t) H'
def ar:Nat→List (List Nat)
 | 0=>[[]]
 | k+1=>ar k++(ar k).map (·++[k])
theorem kT:∀n,(ar n).length=2 ^ n
 | 0=>rfl
 | n+1=>by unfold ar;rw [c_,aG,kT n,Nat.pow_succ];lia
theorem cq:∀{n:Nat} {q:List Nat},q∈ar n↔q.Pairwise (· < ·)∧∀x∈q,x<n
 | 0,q=>by
  show q∈[[]]↔_;rw [bY];constructor
  ·rintro rfl
   exact ⟨.nil,fun x h=>by cases h⟩
  ·rintro ⟨_,h⟩
   cases q with
   | nil=>rfl
   | cons a _=>exact absurd (h a cw) (xD _)
 | n+1,q=>by
  show q∈ar n++(ar n).map (·++[n])↔_;rw [cH,b7];constructor
  ·rintro (h | ⟨p,h,rfl⟩)
   ·obtain ⟨h1,h2⟩:=cq.mp h
    exact ⟨h1,fun x hx=>by have:=h2 x hx;lia⟩
   ·obtain ⟨h1,h2⟩:=cq.mp h
    refine ⟨xB.mpr ⟨h1,Ae _ _,fun a ha b hb=>?_⟩,fun x hx=>?_⟩
    ·rw [bY.mp hb]
     exact h2 a ha
    ·rcases cH.mp hx with hx | hx
     ·have:=h2 x hx
      lia
     ·rw [bY.mp hx]
      lia
  ·rintro ⟨h1,h2⟩
   by_cases hn:n∈q
   ·right
    obtain ⟨a,b,rfl⟩:=List.append_of_mem hn;obtain ⟨p1,p2,p3⟩:=xB.mp h1;have b0:b=[]:=by
     cases b with
     | nil=>rfl
     | cons c b=>
      have c1:=(mL.mp p2).1 c cw;have c2:=h2 c (by simp)
      lia
    subst b0;exact ⟨a,cq.mpr ⟨p1,fun x hx=>p3 x hx n cw⟩,rfl⟩
   ·left
    refine cq.mpr ⟨h1,fun x hx=>?_⟩;have:=h2 x hx;have:x≠n:=fun e=>hn (e▸hx);lia
variable {n:Nat}
theorem p_{q:List Nat}(h1:q.Pairwise (· < ·))(h2:∀x∈q,x<n):q.length≤n:=by
 have:=(mK (n:=n));have sub:q ⊆ List.range n:=fun x hx=>cu.mpr (h2 x hx);have nd:q.Nodup:=h1.imp fun h=>bM h;have:=nd.length_le_of_subset sub
 rwa [dJ] at this
def e_(H:Hp)(xs:List V)(qs:List (List Nat)):Prop:=xs.length=qs.length∧∀(i:Nat) (v:V) (q:List Nat),xs[i]?=some v→qs[i]?=some q→∃b,v=.ref b∧H b=some (.tup (q.map fun k:Nat=>V.int (k:Int)))
variable {H:Hp} {xs:List V} {qs:List (List Nat)}
theorem e_.mono{H':Hp}(h:e_ H xs qs)(s:ao H H'):e_ H' xs qs:=⟨h.1,fun i v q h1 h2=>by obtain ⟨b,e,g⟩:=h.2 i v q h1 h2;exact ⟨b,e,s _ _ g⟩⟩
theorem e_.cat{ys:List V}{rs:List (List Nat)}(h:e_ H xs qs)(h':e_ H ys rs):e_ H (xs++ys) (qs++rs):=⟨by rw [c_,c_,h.1,h'.1],fun i v q h1 h2=>by
 by_cases z:i<xs.length
 ·rw [gZ z] at h1
  rw [gZ (by have:=h.1;lia)] at h2
  exact h.2 i v q h1 h2
 ·rw [gG (by lia)] at h1
  rw [gG (by have:=h.1;lia),←h.1] at h2
  exact h'.2 _ v q h1 h2⟩
def Lz:Sp:=fun vs H Q _=>∃n:Nat,vs=[.int (n:Int)]∧n≤9∧∀(D:Addr) (xs:List V) (H':Hp),ao H H'→H D=none→H' D=some (.lst xs)→e_ H' xs (ar n)→Q (.ref D) H'
def LA(n:Nat)(L:aE)(done:List Nat)(p c:Nat):Prop:=∃f,fv n L f∧mj n f done p c
open Classical in
noncomputable def bW (n:Nat) (L:aE) (done:List Nat) (p:Nat):Int:=if h:∃c,LA n L done p c then ((choose h:Nat):Int)*(choose h:Nat)+3*(choose h:Nat)+1 else 0
variable {p:Nat}
theorem Fp{L:aE}{f:Nat→List Nat}{done:List Nat}{c:Nat}(nb:fv n L f)(h:mj n f done p c):(c:Int)*c+3*c+1=bW n L done p:=by have e:∃c,LA n L done p c:=⟨c,f,nb,h⟩;unfold bW;rw [dif_pos e];obtain ⟨g,cn,h'⟩:=Dn e;rw [mj.same nb cn h h']
def aQ(n:Nat)(done:List Nat):List Nat:=(List.range n).filter fun p=>!decide (p∈done)
def aV:List Nat→Nat→List Nat
 | [],p=>[p]
 | x::l,p=>if p<x then p::x::l else x::aV l p
theorem jW:∀{l:List Nat} {p q:Nat},q∈aV l p↔q=p∨q∈l
 | [],p,q=>by simp [aV]
 | x::l,p,q=>by
  unfold aV
  split
  ·simp
  ·rw [bU,jW,bU]
   constructor
   ·rintro (h | h | h)
    ·exact .inr (.inl h)
    ·exact .inl h
    ·exact .inr (.inr h)
   ·rintro (h | h | h)
    ·exact .inr (.inl h)
    ·exact .inl h
    ·exact .inr (.inr h)
theorem nE:∀{l:List Nat} {p:Nat},l.Pairwise (· < ·)→p∉l→(aV l p).Pairwise (· < ·)
 | [],p,_,_=>Ae _ _
 | x::l,p,h,hp=>by
  obtain ⟨h1,h2⟩:=mL.mp h;unfold aV
  split
  ·rename_i lt
   exact mL.mpr ⟨fun a ha=>by
    rcases bU.mp ha with rfl | ha;·exact lt
    ·have:=h1 a ha
     lia,h⟩
  ·rename_i lt
   have px:p≠x:=fun e=>hp (e▸cw);refine mL.mpr ⟨fun a ha=>?_,nE h2 fun z=>hp (cA _ z)⟩;rcases jW.mp ha with rfl | ha;·lia
   ·exact h1 a ha
theorem yZ:∀{l:List Nat} {p:Nat},(aV l p).length=l.length+1
 | [],p=>rfl
 | x::l,p=>by
  unfold aV
  split
  ·rfl
  ·rw [eM,yZ,eM]
theorem Fq{done:List Nat}{ws:List Int}(up:done.Pairwise (· < ·))(hp:p∉done)(pm:ws.Perm (done.map iN++[(p:Int)]))(so:ws.Pairwise (·≤·)):ws=(aV done p).map iN:=by
 obtain ⟨vs,pv,rfl⟩:=perm_back pm (done++[p]) (by rw [fC];rfl)
 have nd:(done++[p]).Nodup:=by
  rw [nX];refine ⟨up.imp fun h=>bM h,by simp,fun a ha b hb e=>?_⟩
  rw [bY] at hb;subst hb;subst e;exact hp ha
 have vu:vs.Pairwise (· < ·):=Us pv nd so;rw [K9 vu (nE up hp) fun q=>by rw [pv.mem_iff,jW,cH,bY];exact Or.comm]
def y4(done:List Nat):V→Bool
 | .int z=>!decide (z.toNat∈done)
 | _=>false
theorem Vn(done:List Nat)(q:Nat):y4 done (.int (0+(q:Int))) = !jd (.int (0+(q:Int))) (done.map fun k:Nat=>V.int (k:Int)):=by rw [iB,oJ];show (!decide (((q:Nat):Int).toNat∈done))=_;rw [dF]
theorem Vo(n:Nat)(done:List Nat):((List.range n).map fun i:Nat=>V.int (0+(i:Int))).filter (y4 done)=(aQ n done).map fun k:Nat=>V.int (k:Int):=by
 rw [List.filter_map];unfold aQ;rw [show (List.range n).filter (y4 done ∘ fun i:Nat=>V.int (0+(i:Int)))=(List.range n).filter (fun p=>!decide (p∈done)) from List.filter_congr fun q _=>by show y4 done (.int (0+(q:Int)))=_;rw [iB];show (!decide (((q:Nat):Int).toNat∈done))=_;rw [dF]]
 exact g8 fun q _=>by rw [iB]
def aA(q:List Nat):List Key:=q.map fun k:Nat=>.inl (k:Int)
def LB(H:Hp)(n:Nat)(L:aE)(W:List Nat→Int)(done:List Nat)(xs:List V):Prop:=xs.length=(aQ n done).length∧∀(i:Nat) (v:V) (p:Nat),xs[i]?=some v→(aQ n done)[i]?=some p→∃b,v=.ref b∧H b=some (.tup [.int (bW n L done p+W (aV done p)),.int (p:Int)])
def Vp:Sp:=fun vs H Q _=>∃(tp d wo:Addr) (n:Nat) (L:aE) (done:List Nat) (kvs:List (List Key×V)) (W:List Nat→Int),vs=[.ref tp,.ref d,.ref wo]∧dS H tp n L∧gR n L∧n≤9∧H d=some (.tup (done.map fun k:Nat=>V.int (k:Int)))∧done∈ar n∧H wo=some (.dT kvs) ∧
 (∀p,p<n→p∉done→a7 kvs (aA (aV done p))=some (.int (W (aV done p))))∧∀(H':Hp) (D:Addr) (xs:List V),ao H H'→H' D=some (.lst xs)→LB H' n L W done xs→Q (.ref D) H'
end My
namespace L2
open PySem PySem.Spec PyProof.Rows My
variable {K:aK} {Z:aE}
theorem LC{a:Addr}{us:List V}{H1:Hp}(h:H1 a=some (.lst us))(hZ:cz H1 us Z):Fc (i9 K a) Z H1:=by
 have js:kB (i9 K a) us H1:=kC (.of h);refine ⟨fun i Hc s hi=>js.go i Hc s (by rw [hZ.1];exact hi),fun i Hc v H' s y=>?_,fun i Hc s hi=>js.stop i Hc s (by rw [hZ.1];exact hi)⟩
 obtain ⟨rfl,hx⟩:=js.df i Hc v H' s y;refine ⟨ao.refl _,fun z hz=>?_⟩;have hi:i<us.length:=by rw [hZ.1];exact (bx.mp hz).1
 obtain ⟨b,e,g⟩:=hZ.2 i v z (hx hi) hz;exact ⟨b,e,s _ _ g⟩
theorem Vq{wi:TI}{ρ:St→St}{te:TE}{σ:St}{H:Hp}{Q:VK}(eV:∀R:It→Hp→Prop,(∀J H1,ao H H1→Fc J Z H1→R J H1)→wi σ H R)(hn:Z.length<sizeLine)
  (step:∀z∈Z,∀(Hc:Hp) (R:VK),R (.int z.1) Hc→te (some (.int z.1)::some (.int z.2)::ρ σ) Hc R)
  (fin:∀D Hc,H D=none→ao H Hc→Hc D=some (.lst ((Z.map (·.1)).map V.int))→Q (.ref D) Hc):m7 K wi ρ (fun _ H Q=>Q true H) te σ H Q:=by
 refine eV _ fun J H1 s1 js=>?_;intro D nD;refine ⟨fun i m us Hc=>m=Z.length-i∧i≤Z.length∧Hc D=some (.lst us)∧ao H1 Hc∧us.length≤i∧us=((Z.take i).map (·.1)).map V.int,⟨_,rfl,bG _,au,fG (ao.refl H1) nD,aC _,rfl⟩,?_⟩;rintro i m us Hc ⟨rfl,hi,eD,sH,lu,hL⟩;refine ⟨eD,?_⟩;by_cases aT:i<Z.length
 ·refine .inr ⟨js.go i Hc sH aT,fun v H' hy=>?_⟩
  obtain ⟨s',k⟩:=js.df i Hc v H' sH hy;obtain ⟨T,rfl,eT⟩:=k Z[i] (by simp [aT])
  have tk:Z.take (i+1)=Z.take i++[Z[i]]:=by rw [iZ,bg aT];rfl
  have mz:Z[i]∈Z:=cB aT;generalize Z[i]=z at eT tk mz;refine ⟨T,_,_,rfl,.of eT,?_⟩;dsimp only;rw [aj rfl];refine step z mz _ _ ?_;refine ⟨s' _ _ eD,by lia,Z.length-(i+1),by lia,rfl,aT,au,fG (sH.trans s') nD,by simp;lia,?_⟩
  rw [tk,fC,fC,←hL];rfl
 ·have e:i=Z.length:=by lia
  subst e;rw [gh] at hL;subst hL;exact .inl ⟨js.stop _ Hc sH (aC _),fin D Hc (none_of s1 nD) (s1.trans sH) eD⟩
end L2
namespace My
open PySem L2
def vh(d:Int):List Int→Int
 | []=>d
 | z::zs=>zs.foldl min z
theorem fold_min:∀(zs:List Int) (z:Int),zs.foldl min z∈z::zs∧∀y∈z::zs,zs.foldl min z≤y
 | [],z=>⟨cw,fun y hy=>by rw [bY.mp hy];exact lA _⟩
 | x::zs,z=>by
  obtain ⟨h1,h2⟩:=fold_min zs (min z x);show zs.foldl min (min z x)∈_∧_;constructor
  ·rcases bU.mp h1 with e | h
   ·rw [e]
    by_cases q:z≤x
    ·rw [Int.min_eq_left q]
     exact cw
    ·rw [Int.min_eq_right (by lia)]
     exact cA _ cw
   ·exact cA _ (cA _ h)
  ·intro y hy
   have h0:=h2 _ cw;rcases bU.mp hy with e | hy
   ·rw [e]
    exact dt h0 (Int.min_le_left _ _)
   ·rcases bU.mp hy with e | hy
    ·rw [e]
     exact dt h0 (Int.min_le_right _ _)
    ·exact h2 y (cA _ hy)
variable {zs:List Int}
theorem LD{d m:Int}(h:Fn zs d m):m=vh d zs:=by
 rcases h with ⟨rfl,rfl⟩ | ⟨h1,h2⟩;·rfl
 ·cases zs with
  | nil=>cases h1
  | cons z zs=>obtain ⟨f1,f2⟩:=fold_min zs z;exact Int.le_antisymm (h2 _ f1) (f2 _ h1)
noncomputable def wF (n:Nat) (L:aE):Nat→List Nat→Int
 | 0,_=>0
 | k+1,S=>vh 0 ((aQ n S).map fun p=>bW n L S p+wF n L k (aV S p))
noncomputable def wW (n:Nat) (L:aE) (S:List Nat):Int:=wF n L (n-S.length) S
variable {n:Nat} {S:List Nat}
theorem LF(h:S∈ar n)(hl:n≤S.length):aQ n S=[]:=by
 obtain ⟨h1,h2⟩:=cq.mp h;refine List.eq_nil_iff_forall_not_mem.mpr fun p hp=>?_;obtain ⟨p1,p2⟩:=cG.mp hp;have pn:=cu.mp p1;have pS:p∉S:=by simpa using p2
 have up:=nE h1 pS;have:=p_ (n:=n) up fun x hx=>by
  rcases jW.mp hx with rfl | hx;·exact pn
  ·exact h2 x hx
 rw [yZ] at this;lia
variable {L:aE}
theorem Fs(h:S∈ar n):wW n L S=vh 0 ((aQ n S).map fun p=>bW n L S p+wW n L (aV S p)):=by
 unfold wW;by_cases hl:S.length<n
 ·obtain ⟨k,hk⟩:∃k,n-S.length=k+1:=⟨n-S.length-1,by lia⟩
  rw [hk];show vh 0 _=_
  congr 1
  refine g8 fun p hp=>?_;rw [yZ,show n-(S.length+1)=k by lia]
 ·rw [LF h (by lia),show n-S.length=0 by lia]
  rfl
theorem y6{a b:List Nat}(h:aA a=aA b):a=b:=by
 have h1:∀l:List Nat,(aA l).map (fun k=>match k with | .inl z=>z.toNat | .inr _=>0)=l:=fun l=>by
  unfold aA
  rw [bw]
  conv=>rhs;rw [←ph l]
  exact g8 fun k _=>dF k
 rw [←h1 a,←h1 b,h]
def wD(W:List Nat→Int)(qs:List (List Nat)):List (List Key×V):=qs.map fun q=>(aA q,.int (W q))
theorem y7(W:List Nat→Int):∀{qs:List (List Nat)} {q:List Nat},q∈qs→a7 (wD W qs) (aA q)=some (.int (W q))
 | [],_,h=>by cases h
 | r::qs,q,h=>by
  by_cases e:r=q
  ·subst e
   exact gD rfl
  ·show a7 ((aA r,V.int (W r))::wD W qs) (aA q)=_
   rw [fJ fun z=>e (y6 z)];exact y7 W ((bU.mp h).resolve_left fun z=>e z.symm)
variable {qs:List (List Nat)} {q:List Nat}
theorem LG(W:List Nat→Int)(h:q∉qs):putK (wD W qs) (aA q) (.int (W q))=wD W (qs++[q]):=by
 unfold putK;rw [aa fun z=>?_]
 ·unfold wD
  rw [fC];rfl
 ·obtain ⟨kv,hm,e⟩:=List.any_eq_true.mp z
  obtain ⟨r,hr,rfl⟩:=b7.mp hm;exact h (y6 (fP e)▸hr)
theorem vi:∀n,(ar n).Nodup
 | 0=>by show [[]].Nodup;simp
 | n+1=>by
  show (ar n++(ar n).map (·++[n])).Nodup;rw [nX];refine ⟨vi n,(qF.mpr ((vi n).imp fun h e=>h (List.append_cancel_right e))),fun a ha b hb e=>?_⟩;obtain ⟨c,_,rfl⟩:=b7.mp hb;have:=(cq.mp ha).2 n (by rw [e];simp)
  lia
def Vr:Sp:=fun vs H Q _=>∃(tp:Addr) (n:Nat) (L:aE),vs=[.ref tp]∧dS H tp n L∧gR n L∧n≤9 ∧
 ∀(H':Hp) (D:Addr) (qs:List (List Nat)),ao H H'→H D=none→H' D=some (.dT (wD (wW n L) qs))→qs.Perm (ar n)→Q (.ref D) H'
variable {H:Hp}
theorem Vs{K:aK}{wi:TI}{ρ:St→St}{tt:TT}{te td:TE}{σ:St}{Q:VK}(h:m7 K wi ρ tt te σ H fun x H1=>td σ H1 fun y H2=>∃(l:Addr) (zs:List Int) (d:Int),[x]=[V.ref l]∧y=.int d∧H2 l=some (.lst (zs.map V.int))∧zs.length≤10000∧∀m,Fn zs d m→Q (.int m) H2):Lw (uL (m7 K wi ρ tt te) Ax) td σ H Q:=h
structure Ft (n:Nat) (qs:List (List Nat)):Prop where
 pm:qs.Perm (ar n)
 dn:qs.Pairwise fun a b=>b.length≤a.length
theorem Vt{p:List Nat}(h:pZ (ar n).length (fun i=>((((ar n).getD i []).length:Nat):Int)) p):Ft n (p.map fun i=>(ar n).getD i []):=by
 refine ⟨?_,?_⟩
 ·have e:(List.range (ar n).length).map (fun i=>(ar n).getD i [])=ar n:=by
   refine g7 (by simp) fun i h1 h2=>?_
   simp [h2]
  have:=h.pm.map fun i=>(ar n).getD i [];rw [e] at this;exact this
 ·rw [qF]
  exact h.dn.imp fun h=>Int.ofNat_le.mp h
variable {j p:Nat}
theorem Vu(h:Ft n qs)(hq:qs[j]?=some q)(pn:p<n)(pq:p∉q):aV q p∈qs.take j:=by
 have hj:=(bx.mp hq).1;obtain ⟨q1,q2⟩:=cq.mp (h.pm.mem_iff.mp (iz hq));have hm:aV q p∈qs:=h.pm.mem_iff.mpr (cq.mpr ⟨nE q1 pq,fun x hx=>by
  rcases jW.mp hx with rfl | hx;·exact pn
  ·exact q2 x hx⟩)
 obtain ⟨i,hi,e⟩:=uc hm;by_cases ij:i<j;·exact List.mem_take_iff_getElem.mpr ⟨i,by lia,e⟩
 ·exfalso
  have fL:qs[j]=q:=by have:=bg hj;rw [hq] at this;exact (Option.some.inj this).symm
  have l1:=yZ (l:=q) (p:=p);by_cases z:i=j
  ·subst z
   rw [←e,fL] at l1;lia
  ·have:=qA.mp h.dn j i hj hi (by lia)
   rw [e,fL,l1] at this;lia
theorem Vv(h:Ft n qs)(hq:qs[j]?=some q):q∉qs.take j∧qs.take (j+1)=qs.take j++[q]:=by
 have hj:=(bx.mp hq).1;have nd:qs.Nodup:=h.pm.nodup_iff.mpr (vi n);refine ⟨fun hm=>?_,by rw [iZ,hq];rfl⟩
 obtain ⟨i,hi,e⟩:=List.mem_take_iff_getElem.mp hm;have fL:qs[j]=q:=by have:=bg hj;rw [hq] at this;exact (Option.some.inj this).symm
 exact qA.mp (List.nodup_iff_pairwise_ne.mp nd) i j (by lia) hj (by lia) (e.trans fL.symm)
variable {xs:List V}
theorem Vw(h:e_ H xs qs){p:List Nat}(hp:∀i∈p,i<qs.length):e_ H (p.map fun i=>xs.getD i .aS) (p.map fun i=>qs.getD i []):=by
 refine ⟨by rw [aG,aG],fun k v q h1 h2=>?_⟩
 rw [bP] at h1 h2;cases e:p[k]? with
 | none=>rw [e] at h1;cases h1
 | some i=>
  rw [e] at h1 h2;cases h1;cases h2;have hi:=hp i (iz e);have hx:i<xs.length:=by rw [h.1];exact hi
  refine h.2 i _ _ ?_ ?_
  ·show xs[i]?=some (xs.getD i V.aS)
   rw [eN,bg hx];rfl
  ·show qs[i]?=some (qs.getD i [])
   rw [eN,bg hi];rfl
theorem Fu{W:List Nat→Int}{done:List Nat}(h:LB H n L W done xs):cz H xs ((aQ n done).map fun p=>(bW n L done p+W (aV done p),(p:Int))):=by
 refine ⟨by rw [h.1,aG],fun k v z h1 h2=>?_⟩
 rw [bP] at h2;cases e:(aQ n done)[k]? with
 | none=>rw [e] at h2;cases h2
 | some p=>rw [e] at h2;cases h2;exact h.2 k v p h1 e
noncomputable def jq (n:Nat) (L:aE):List Nat→List Nat→Int
 | _,[]=>0
 | S,p::o=>bW n L S p+jq n L (aV S p) o
theorem LH(n:Nat)(L:aE):∀(o:List Nat) (S:List Nat) (p:Nat),jq n L S (o++[p])=jq n L S o+bW n L (o.foldl aV S) p
 | [],S,p=>by show bW n L S p+0=0+bW n L S p;lia
 | x::o,S,p=>by show bW n L S x+jq n L (aV S x) (o++[p])=bW n L S x+jq n L (aV S x) o+bW n L (o.foldl aV (aV S x)) p;rw [LH n L o (aV S x) p];lia
theorem Vx{z:Int}(h:zs≠[]):vh z zs∈zs∧∀y∈zs,vh z zs≤y:=by
 cases zs with
 | nil=>exact absurd rfl h
 | cons x zs=>exact fold_min zs x
structure rW (n:Nat) (L:aE) (o S:List Nat):Prop where
 eq:S=o.foldl aV []
 pm:S.Perm o
 mem:S∈ar n
 LI:jq n L [] o+wW n L S=wW n L []
theorem rW.start(n:Nat)(L:aE):rW n L [] []:=⟨rfl,.nil,cq.mpr ⟨.nil,fun x h=>by cases h⟩,by show 0+_=_;lia⟩
theorem LJ:∀(l:List Nat) (p:Nat),(aV l p).Perm (l++[p])
 | [],p=>.refl _
 | x::l,p=>by
  unfold aV
  split
  ·exact (List.perm_append_singleton p (x::l)).symm
  ·exact (LJ l p).cons x
variable {o:List Nat}
theorem rW.next(h:rW n L o S)(hp:p∈aQ n S)(hm:∀q∈aQ n S,bW n L S p+wW n L (aV S p)≤bW n L S q+wW n L (aV S q)):rW n L (o++[p]) (aV S p):=by
 obtain ⟨p1,p2⟩:=cG.mp hp;have pn:=cu.mp p1;have pS:p∉S:=by simpa using p2
 obtain ⟨m1,m2⟩:=cq.mp h.mem;refine ⟨by rw [List.foldl_append,←h.eq];rfl,(LJ S p).trans (h.pm.append_right [p]),cq.mpr ⟨nE m1 pS,fun x hx=>?_⟩,?_⟩
 ·rcases jW.mp hx with rfl | hx
  ·exact pn
  ·exact m2 x hx
 ·have st:=Fs (L:=L) h.mem
  obtain ⟨f1,f2⟩:=Vx (z:=0) (zs:=(aQ n S).map fun p=>bW n L S p+wW n L (aV S p)) (fun e=>by rw [xP] at e;rw [e] at hp;cases hp)
  rw [←st] at f1 f2;obtain ⟨q,hq,e⟩:=b7.mp f1;have h1:=hm q hq;have h2:=f2 _ (b7.mpr ⟨p,hp,rfl⟩);have:=h.LI;rw [LH,←h.eq];lia
theorem Vy(h:S∈ar n)(hl:S.length<n):0<(aQ n S).length:=by
 refine Nat.pos_of_ne_zero fun e=>?_;have e:=Dr.mp e;have sub:List.range n ⊆ S:=fun x hx=>by
  refine Ag fun no=>?_;have:x∈aQ n S:=cG.mpr ⟨hx,by simpa using no⟩
  rw [e] at this;cases this
 have:=(mK (n:=n)).length_le_of_subset sub;rw [dJ] at this;lia
theorem Vz(h:S∈ar n)(hl:S.length=n):S=List.range n:=by
 obtain ⟨h1,h2⟩:=cq.mp h;refine K9 h1 (ve n) fun p=>⟨fun hp=>cu.mpr (h2 p hp),fun hp=>?_⟩;refine Ag fun no=>?_;have:p∈aQ n S:=cG.mpr ⟨hp,by simpa using no⟩
 rw [LF h (by lia)] at this
 cases this
def VA:Sp:=fun vs H Q _=>∃(tp:Addr) (n:Nat) (L:aE),vs=[.ref tp]∧dS H tp n L∧gR n L∧n≤9 ∧
 ∀(H':Hp) (t lo:Addr) (o:List Nat),ao H H'→H lo=none→H' t=some (.tup [.ref lo,.int (wW n L [])])→H' lo=some (.lst (o.map fun k:Nat=>V.int (k:Int)))→o.Perm (List.range n)→jq n L [] o=wW n L []→Q (.ref t) H'
theorem VB(h:(p::o).Perm (aQ n S)):o.Perm (aQ n (aV S p)):=by
 have nl:(aQ n S).Nodup:=mK.filter _;have nd:=h.nodup_iff.mpr nl;obtain ⟨n1,n2⟩:=fB.mp nd;refine (ur n2 (mK.filter _)).mpr fun q=>?_;have hq:=h.mem_iff (a:=q);have e1:∀T:List Nat,q∈aQ n T↔q<n∧q∉T:=fun T=>by unfold aQ;rw [cG,cu];simp
 rw [e1,bU] at hq;show q∈o↔q∈aQ n (aV S p);rw [e1,jW];constructor
 ·intro ho
  have:=hq.mp (.inr ho);exact ⟨this.1,fun z=>z.elim (fun e=>n1 (e▸ho)) this.2⟩
 ·rintro ⟨h1,h2⟩
  rcases hq.mpr ⟨h1,fun z=>h2 (.inr z)⟩ with e | ho;·exact absurd (.inl e) h2
  ·exact ho
theorem LK:∀(pre S:List Nat) (q:Nat),q∈pre.foldl aV S↔q∈pre∨q∈S
 | [],S,q=>by simp
 | x::pre,S,q=>by
  show q∈pre.foldl aV (aV S x)↔_;rw [LK pre,jW,bU];constructor
  ·rintro (h | h | h)
   ·exact .inl (.inr h)
   ·exact .inl (.inl h)
   ·exact .inr h
  ·rintro ((h | h) | h)
   ·exact .inr (.inl h)
   ·exact .inl h
   ·exact .inr (.inr h)
open Classical in
theorem VC(ho:o.Perm (List.range n))(cE:gR n L){x:Nat}(xn:x<n)(hS:∀y,y∈S↔f_ n o (o.idxOf x) y){ms:List Nat}(h:kL n o x ms∧mq n L o x ms):((ms.length:Nat):Int)*ms.length+3*ms.length+1=bW n L S x:=by
 have nb:fv n L (fun i=>(List.range n).filter fun j=>rL L i j):=fun i j hi=>by
  rw [cG,cu,yR];constructor;·exact fun h=>h.2
  ·intro h
   refine ⟨?_,h⟩;rcases h with e | e
   ·have:=cE _ e
    lia
   ·have:=cE _ e
    lia
 generalize (fun i=>(List.range n).filter fun j=>rL L i j)=f at nb;have ad:∀a b,gT n f a b↔aL n L a b:=fun a b=>by
  unfold gT aL;constructor
  ·rintro ⟨h1,h2⟩
   have h3:=(nb a b h1).mp h2;refine ⟨h1,?_,h3⟩;rcases h3 with e | e
   ·have:=cE _ e
    lia
   ·have:=cE _ e
    lia
  ·rintro ⟨h1,_,h3⟩
   exact ⟨h1,(nb a b h1).mpr h3⟩
 have rc:∀q,ni (gT n f) (·∈S) x q↔q=x∨Wk (aL n L) (f_ n o (o.idxOf x)) x q:=fun q=>by
  rw [Up];constructor
  ·rintro (e | w)
   ·exact .inl e
   ·exact .inr ((w.imp fun a b=>(ad a b).mp).mono fun y=>(hS y).mp)
  ·rintro (e | w)
   ·exact .inl e
   ·exact .inr ((w.imp fun a b=>(ad a b).mpr).mono fun y=>(hS y).mpr)
 have wl:∀q,Wk (aL n L) (f_ n o (o.idxOf x)) x q→q<n:=fun q w=>by
  cases w with
  | one ab=>exact ab.2.1
  | more _ _ ab=>exact ab.2.1
 refine Fp nb ⟨(List.range n).filter fun q=>decide (ni (gT n f) (·∈S) x q),⟨mK.filter _,fun k hk=>cu.mp (cG.mp hk).1⟩,fun q=>?_,?_⟩
 ·rw [cG,cu,fR]
  refine ⟨fun h=>h.2,fun h=>⟨?_,h⟩⟩;rcases (rc q).mp h with e | w;·rw [e];exact xn
  ·exact wl q w
 ·refine ((ur (h.1.up.imp fun h=>bM h) ((mK.filter _).filter _)).mpr fun q=>?_).length_eq
  rw [h.2 q,cG,cG,cu,fR,rc q];constructor
  ·rintro ⟨h1,h2,h3⟩
   refine ⟨⟨h1,.inr h3⟩,?_⟩;have qx:q≠x:=fun e=>by subst e;lia
   have qS:q∉S:=fun z=>by have:=((hS q).mp z).2;lia
   simp [qx,qS]
  ·rintro ⟨⟨h1,h2⟩,h3⟩
   have qx:q≠x:=fun e=>by simp [e] at h3
   have qS:q∉S:=fun z=>by simp [z] at h3
   refine ⟨h1,?_,h2.resolve_left qx⟩;have ne:=yN ho h1 xn qx;have:¬o.idxOf q<o.idxOf x:=fun z=>qS ((hS q).mpr ⟨h1,z⟩);lia
theorem LL{n:Nat}{L:aE}{o:List Nat}(ho:o.Perm (List.range n))(cE:gR n L){g:Nat→List Nat}(hg:∀p,p<n→kL n o p (g p)∧mq n L o p (g p)):∀(l pre:List Nat),o=pre++l→jq n L (pre.foldl aV []) l=(l.map fun x=>(((g x).length:Nat):Int)*(g x).length+3*(g x).length+1).sum
 | [],_,_=>rfl
 | x::l,pre,e=>by
  have nd:=yL ho;rw [e,nX] at nd;obtain ⟨np,nx,dj⟩:=nd;have xn:x<n:=(jT ho).mp (by rw [e];simp)
  have ix:o.idxOf x=pre.length:=by rw [e,uu,aa fun h=>dj x h x cw rfl,List.idxOf_cons_self,d5]
  have hS:∀y,y∈pre.foldl aV []↔f_ n o (o.idxOf x) y:=fun y=>by
   rw [LK,ix];unfold f_;constructor
   ·rintro (h | h)
    ·refine ⟨(jT ho).mp (by rw [e];simp [h]),?_⟩
     rw [e,uu,aj h];exact Aa h
    ·cases h
   ·rintro ⟨h1,h2⟩
    refine .inl (Ag fun no=>?_);rw [e,uu,aa no] at h2;lia
  have c:=VC ho cE xn hS (hg x xn);have ih:=LL ho cE hg l (pre++[x]) (by rw [e];simp)
  rw [List.foldl_append] at ih;show bW n L (pre.foldl aV []) x+jq n L (aV (pre.foldl aV []) x) l=_;rw [dq,g9,←c];exact eL _ ih
theorem VD{M:aE}(ho:o.Perm (List.range n))(cE:gR n L)(f:kN n L o M){g:Nat→List Nat}(hg:∀p,p<n→kL n o p (g p)∧mq n L o p (g p)):jq n L [] o=(rT n M:Int):=by
 have h1:=LL ho cE hg o [] rfl;have h2:=Lj ho f hg;have h3:∀l:List Nat,(l.map fun x=>(((g x).length:Nat):Int)*(g x).length+3*(g x).length+1).sum=(((l.map fun x=>(g x).length*(g x).length+3*(g x).length+1).sum:Nat):Int):=fun l=>by
  induction l with
  | nil=>rfl
  | cons x l ih=>rw [dq,g9,dq,g9,ih];push_cast;rfl
 show jq n L (([]:List Nat).foldl aV []) o=_;rw [h1,h3,←h2,(ho.map fun x=>(g x).length*(g x).length+3*(g x).length+1).sum_nat]
end My
namespace L2
open PySem
section
variable {prog:Program} {w:World} {A:Around} {E:aJ} {s:Shared}
theorem LM{d:Addr}{es:Array DictEntry}{ep:Nat}{Q:aJ}(hd:(d == sysModules)=false)(hm:dy s.heap d es ep)(Ju:(es.size:Int)<2 ^ 63)
  (h:Q (.int es.size (s.toks+1)) {s with toks:=s.toks+1+1}):wpAny (model prog w) A (call (.builtin "len") [.ref d]) Q E s:=by
 refine PyProof.Rows.call_len_slot (n:=es.size) hm.ty F.slot_dict_len (fun Q' hq=>?_) (by lia) (by lia) h
 refine lE F.slot_dict_len hm.ty F.entry_dict_len ?_ (F.args_dict_len_1 _);obtain ⟨o,ho,hc,pY⟩:=hm;show wpAny _ _ (dictSize d >>= _) _ _ s;unfold dictSize;refine ae (ae (i4 ho pY (aB ?_)));show wpAny _ _ (Builtin.Dict.pendingCount d >>= _) _ _ s;refine ae (wpAny_pendingCount_other hd ?_);refine wpAny_ret_mkInt ?_;show Q' (.int ((es.size:Int)+(0:Int)) s.toks) _;rw [Int.add_zero];exact hq
end
theorem VE{X:Cx}:eQ X (.builtin "len") (fun xs H Q=>∃a kvs,xs=[V.ref a]∧H a=some (.dT kvs)∧kvs.length≤10000∧Q (.int kvs.length) H):=by
 intro pins s σ H xs us Q I r h;obtain ⟨d,kvs,rfl,hp,hn,q⟩:=h;obtain ⟨u,rfl,ru⟩:=vals1 r;cases ru;obtain ⟨_,sys,kg,kt,o,es,ep,g,c,dd,e4,e5,e6⟩:=rN I.ay hp;have sz:es.size=kvs.length:=by rw [lG e4,←Paired.length kt]
 exact LM sys ⟨o,g,c,dd⟩ (by lia) ⟨.int kvs.length,H,I.tok _,⟨s.toks+1,by rw [sz]⟩,q⟩
open PySem PySem.Spec PyProof.Rows My
variable {K:aK} {wi:TI} {ρ:St→St} {te:TE} {σ:St} {H:Hp} {Q:VK}
theorem VF{Z:aE}(f:Int×Int→V)(eV:∀R:It→Hp→Prop,(∀J H1,ao H H1→Fc J Z H1→R J H1)→wi σ H R)(hn:Z.length<sizeLine)
  (step:∀z∈Z,∀(Hc:Hp) (R:VK),ao H Hc→R (f z) Hc→te (some (.int z.1)::some (.int z.2)::ρ σ) Hc R)
  (fin:∀D Hc,H D=none→ao H Hc→Hc D=some (.lst (Z.map f))→Q (.ref D) Hc):m7 K wi ρ (fun _ H Q=>Q true H) te σ H Q:=by
 refine eV _ fun J H1 s1 js=>?_;intro D nD;refine ⟨fun i m us Hc=>m=Z.length-i∧i≤Z.length∧Hc D=some (.lst us)∧ao H1 Hc∧us.length≤i∧us=(Z.take i).map f,⟨_,rfl,bG _,au,fG (ao.refl H1) nD,aC _,rfl⟩,?_⟩;rintro i m us Hc ⟨rfl,hi,eD,sH,lu,hL⟩;refine ⟨eD,?_⟩;by_cases aT:i<Z.length
 ·refine .inr ⟨js.go i Hc sH aT,fun v H' hy=>?_⟩
  obtain ⟨s',k⟩:=js.df i Hc v H' sH hy;obtain ⟨T,rfl,eT⟩:=k Z[i] (by simp [aT])
  have tk:Z.take (i+1)=Z.take i++[Z[i]]:=by rw [iZ,bg aT];rfl
  have mz:Z[i]∈Z:=cB aT;generalize Z[i]=z at eT tk mz;refine ⟨T,_,_,rfl,.of eT,?_⟩;dsimp only;rw [aj rfl];refine step z mz _ _ (s1.trans (sH.trans s')) ?_;refine ⟨s' _ _ eD,by lia,Z.length-(i+1),by lia,rfl,aT,au,fG (sH.trans s') nD,by simp;lia,?_⟩
  rw [tk,fC,←hL];rfl
 ·have e:i=Z.length:=by lia
  subst e;rw [gh] at hL;subst hL;exact .inl ⟨js.stop _ Hc sH (aC _),fin D Hc (none_of s1 nD) (s1.trans sH) eD⟩
theorem VG{r:List V→Hp→VK→Prop}{tt:TT}(h:m7 K wi ρ tt te σ H fun x H1=>r [x] H1 Q):uN r (uL (m7 K wi ρ tt te) Ax) σ H Q:=h
end L2
namespace My
open PySem L2
open Classical in
noncomputable def mr (n:Nat) (L:aE) (W:List Nat→Int) (S:List Nat):Bool:=decide (∀p∈aQ n S,W S≤bW n L S p+W (aV S p))
def VH:Sp:=fun vs H Q _=>∃(tp d wo:Addr) (n:Nat) (L:aE) (done:List Nat) (kvs:List (List Key×V)) (W:List Nat→Int),vs=[.ref tp,.ref d,.ref wo]∧dS H tp n L∧gR n L∧n≤9∧H d=some (.tup (done.map fun k:Nat=>V.int (k:Int)))∧done∈ar n∧H wo=some (.dT kvs) ∧
 (∀p,p<n→p∉done→a7 kvs (aA (aV done p))=some (.int (W (aV done p))))∧a7 kvs (aA done)=some (.int (W done))∧∀H':Hp,ao H H'→Q (.bl (mr n L W done)) H'
end My
namespace L2
open PySem PySem.W PyProof.Rows
section
variable {prog:Program} {w:World} {A:Around} {E:aJ} {s:Shared}
theorem VI{Q:List Value→Shared→Prop}{r:Addr}{b:Int}{t u v:Tok}{n:Nat}(hh:A.handled=none)(hr:IsRange s.heap r 0 b 1 t u v)(y8:Builtin.Range.small 0 b 1=true)(hn:Builtin.Range.rangeSize 0 b 1=n)(hlen:n≤2 ^ 24)
  (hQ:∀h' tk (acc:Array Value),(∀b o',s.heap.get? b=some o'→h'.get? b=some o')→ItemsOf (fun i v=>∃t,v=.int (0+(i:Int)*1) t) acc n→Q acc.toList {s with heap:=h',toks:=tk}):wpAny (model prog w) A (collect (.ref r)) Q E s:=by
 unfold collect
 refine ae (wpAny_runValue (nW F.entry_proto_collect ?_))
 rw [pj F.plain_proto_collect _]
 show wpAny _ A.in1 (newList [] >>= fun l=>again (.builtin "list.__iadd__" ⟨[l,.ref r],[]⟩)) _ _ s
 refine ae (g6 ?_)
 refine aB ⟨nY F.plain_list_iadd _,nW F.entry_list_iadd ?_⟩
 rw [pj F.plain_list_iadd _]
 show wpAny _ A.in1 (Builtin.List.listExtendWith (.ref s.heap.objs.size) (.ref r) (.ref s.heap.objs.size)) _ _ _
 have hS:(s.heap.push {cls:=.type "list",data:=.seq ([]:List Value).toArray}).get? s.heap.objs.size=some {cls:=.type "list",data:=.seq #[] 0}:=cK _ rfl
 refine bJ (wpAny_extend_range (A:=A) (R:=fun r' s'=>∃h' tk acc c,r'=.ok (.ret (.ref s.heap.objs.size))∧s'={s with heap:=h',toks:=tk}∧(∀b o',s.heap.get? b=some o'→h'.get? b=some o')∧h'.get? s.heap.objs.size=some {cls:=.type "list",dict:=none,data:=.seq acc c,slots:=#[]}∧ItemsOf (fun i v=>∃t,v=.int (0+(i:Int)*1) t) acc n)
  (s:={s with heap:=s.heap.push {cls:=.type "list",data:=.seq ([]:List Value).toArray}}) hh (bK _ hr) y8 hn hlen _ _ 0 hS fun h' tk acc c k g it=>⟨h',tk,acc,c,rfl,rfl,fun b o' hb=>k b o' (bM (aZ hb)) (bK _ hb),g,it⟩) (fun fin s' h=>?_) (fun e s' h=>?_)
 ·have done:∀s',(∃h' tk acc c,s'={s with heap:=h',toks:=tk}∧(∀b o',s.heap.get? b=some o'→h'.get? b=some o')∧h'.get? s.heap.objs.size=some {cls:=.type "list",dict:=none,data:=.seq acc c,slots:=#[]}∧ItemsOf (fun i v=>∃t,v=.int (0+(i:Int)*1) t) acc n)→wpAny (model prog w) A (match Value.ref s.heap.objs.size with
    | Value.ref a=>do
     match (←load a).data with
      | Data.seq xs _=>pure xs.toList
      | _=>unsupported "internal:collect"
    | _=>unsupported "internal:collect") Q E s':=fun s' ⟨h',tk,acc,c,e,k,g,it⟩=>by
   subst e
   show wpAny _ A (load s.heap.objs.size >>= _) _ _ _
   exact ae (wpAny_load g (aB (hQ h' tk acc k it)))
  cases fin with
  | done f=>
   obtain ⟨h',tk,acc,c,e,es,k,g,it⟩:=h
   cases e
   exact done s' ⟨h',tk,acc,c,es,k,g,it⟩
  | again c'=>exact ⟨h.1,codeAny_mono h.2 fun r fi hr=>by
    obtain ⟨h',tk,acc,c,e,es,k,g,it⟩:=hr
    subst e
    exact done fi ⟨h',tk,acc,c,es,k,g,it⟩⟩
 ·obtain ⟨_,_,_,_,e,_⟩:=h
  exact absurd e (by simp)
end
open AutoSeq1 (wpAny_loadPart')
section
variable {prog:Program} {w:World} {A:Around} {E:aJ} {s:Shared}
variable {r:Addr} {b:Int} {u:Tok} {n:Nat}
theorem VJ{Q₁:aJ}{t v:Tok}(hh:A.handled=none)(hr:IsRange s.heap r 0 b 1 t u v)(y8:Builtin.Range.small 0 b 1=true)(hn:Builtin.Range.rangeSize 0 b 1=n)(hlen:n≤10000)
  (h:∀(h':Heap) (tk:Nat) (acc:Array Value),(∀b o',s.heap.get? b=some o'→h'.get? b=some o')→ItemsOf (fun i v=>∃t,v=.int (0+(i:Int)*1) t) acc n→Q₁ (.ref h'.objs.size) {s with heap:=h'.push {cls:=.type "tuple",data:=.seq acc},toks:=tk}) :
  codeAny (model prog w) A (.call (.builtin "tuple.__new__") ⟨[.type "tuple",.ref r],[]⟩) (wants Q₁ E) s:=by
 refine codeAny_of_tree ?_
 show wpAny _ A.in1 (do checkBuiltinCall "tuple.__new__" ⟨[.type "tuple",.ref r],[]⟩;again (.builtin "tuple.__new__" ⟨[.type "tuple",.ref r],[]⟩)) _ _ s
 refine ae (jD (F.newCall_tuple_1 _) (aB ⟨nY F.plain_tuple_new _,nW F.entry_tuple_new ?_⟩))
 rw [pj F.plain_tuple_new _]
 have acL:=sub_tuple_self
 have acM:=init_tuple_lookup
 have hmh:=madeHere_tuple
 have VL:s.TypeIs (.ref r) "range":=⟨_,hr,rfl⟩
 have VM:=fun(Q:List Value→Shared→Prop) (E:aJ)=>VI (prog:=prog) (w:=w) (A:=A.in1) (E:=E) (Q:=Q) (show A.in1.handled=none from hh) hr y8 hn (by lia)
 wp_walk using xM VL,VM
 intro h' tk acc hk nz
 show wpAny _ _ (Builtin.Tuple.tupleExact acc.toList.toArray >>= fun v=>ret v) _ _ _
 unfold Builtin.Tuple.tupleExact
 refine ae (g6 ?_ (by show acc.toList.toArray.size≤sizeLine;simp only [Array.toArray_toList];rw [nz.1,gY];lia))
 refine aB ?_
 have e:acc.toList.toArray=acc:=by simp
 rw [e]
 exact h h' tk acc hk nz
theorem VN{Q:aJ}{t v:Tok}(hh:A.handled=none)(hr:IsRange s.heap r 0 b 1 t u v)(y8:Builtin.Range.small 0 b 1=true)(hn:Builtin.Range.rangeSize 0 b 1=n)(hlen:n≤10000)
  (hQ:∀(h':Heap) (tk:Nat) (acc:Array Value),(∀b o',s.heap.get? b=some o'→h'.get? b=some o')→ItemsOf (fun i v=>∃t,v=.int (0+(i:Int)*1) t) acc n→Q (.ref h'.objs.size) {s with heap:=h'.push {cls:=.type "tuple",data:=.seq acc},toks:=tk}) :
  wpAny (model prog w) A (call (.type "tuple") [.ref r]) Q E s:=by
 refine callType_codes (Q₁:=fun obj s₁=>s₁.TypeIs obj "tuple"∧Q obj s₁) F.called_tuple (F.typeCall_tuple_1 _) F.entry_object_init
  (VJ hh hr y8 hn hlen fun h' tk acc hk nz=>⟨⟨_,cK _ rfl,rfl⟩,hQ h' tk acc hk nz⟩) fun obj s₁ h₁=>?_
 exact ⟨h₁.1,F.args_object_init_2 obj _,object_init_meets F.called_tuple.init.lookup F.called_tuple.made (by decide) prog w A.in1 _ s₁ ⟨h₁.1,rfl,h₁.2⟩⟩
end
def VO:List V→Hp→VK→Prop:=fun xs H Q=>∃p n,xs=[.ref p]∧H p=some (.gp 0 (n:Nat))∧n≤10000∧∀l,H l=none→Q (.ref l) (upd H l (.tup (cJ n)))
theorem VP{X:Cx}(hc:X.calm=true):eQ X (.type "tuple") VO:=by
 intro pins s σ H xs us Q I r h;obtain ⟨p,n,rfl,hp,hn,q⟩:=h;obtain ⟨u,rfl,ru⟩:=vals1 r;cases ru;obtain ⟨t,u,v,e⟩:=(show b9 X.prog X.w H s.heap p (.gp 0 n) from I.ay p _ hp);refine VN (n:=n) (I.ok.hd hc) e (small_one (by lia) (by lia) (by lia) (by lia)) (by rw [rangeSize_one];split <;> lia) hn fun h' tk acc hk hit=>?_
 have I1:Inv X pins σ H {s with heap:=h',toks:=tk}:=I.kept (t':=tk) hk;refine ⟨.ref h'.objs.size,_,I1.laid (t':=tk) (o:=.tup (cJ n)) (fun b o e=>bK _ e) (aC _) ⟨?_,acc.toList,?_,?_⟩,rfl,q _ (I1.ay.fresh (aC _))⟩
 ·unfold cJ
  rw [aG,dJ];exact a9 hn (by decide)
 ·refine yi ?_ fun i x u h1 h2=>?_
  ·unfold cJ
   rw [aG,dJ,fA,hit.1]
  ·have yk:acc[i]?=some u:=by simpa using h2
   obtain ⟨dw,e'⟩:=hit.2 i u yk;unfold cJ at h1;rw [bP] at h1;have hi:i<n:=by have z:=(Dm.mp yk).1;rw [hit.1] at z;exact z
   rw [qv hi] at h1;cases h1;exact ⟨dw,by rw [e'];simp⟩
 ·rw [Array.toArray_toList]
  exact IsTup.new _ _
end L2
namespace My
open PySem L2
noncomputable def kU (n:Nat) (L:aE) (W:List Nat→Int) (d:Nat):Bool:=!(decide (0<W (List.range n)) || !decide (W []=(d:Int))) && (ar n).all (mr n L W)
end My
namespace L2
open PySem PySem.Spec PyProof.Rows My
end L2
namespace My
open PySem L2
theorem VQ(k:Nat):yO (.int (k:Int))=k:=dF k
open PySem L2 Classical
theorem LN(n:Nat)(L:aE)(o:List Nat)(p:Nat):∃ms,kL n o p ms∧mq n L o p ms:=by
 refine ⟨(List.range n).filter fun q=>decide (o.idxOf p<o.idxOf q∧Wk (aL n L) (f_ n o (o.idxOf p)) p q),⟨xH.sublist List.filter_sublist,fun q hq=>?_,fun q hq=>?_⟩,fun q=>?_⟩;·exact cu.mp (cG.mp hq).1
 ·exact (fP (cG.mp hq).2).1
 ·rw [cG,cu,fR]
theorem VR(n:Nat)(L:aE)(o:List Nat):∃g:Nat→List Nat,∀p,p<n→kL n o p (g p)∧mq n L o p (g p):=
 ⟨fun p=>choose (LN n L o p),fun p _=>choose_spec (LN n L o p)⟩
theorem VS{n:Nat}{L M:aE}{o:List Nat}(ho:o.Perm (List.range n))(cE:gR n L)(f:kN n L o M):jq n L [] o=(rT n M:Int):=by obtain ⟨g,hg⟩:=VR n L o;exact VD ho cE f hg
theorem LO(n:Nat)(L:aE)(o:List Nat):∃M,kN n L o M:=by
 let f:Nat→Nat→Bool:=fun i j=>decide (∃p q:Nat,p<n∧q<n∧o.idxOf p<o.idxOf q∧Wk (aL n L) (f_ n o (o.idxOf p)) p q∧((i:Int),(j:Int))=jU p q)
 refine ⟨yI n f n,Kk n,fun z=>⟨fun h=>?_,?_⟩⟩
 ·obtain ⟨i,j,_,_,_,hf,rfl⟩:=mem_of h
  exact fP hf
 ·rintro ⟨p,q,hp,hq,Fv,hw,rfl⟩
  have ne:p≠q:=fun e=>by rw [e] at Fv;exact absurd Fv (dI _)
  obtain ⟨i,j,ij,jn,e⟩:∃i j:Nat,i<j∧j<n∧jU p q=((i:Int),(j:Int)):=by
   by_cases h:q<p
   ·refine ⟨q,p,h,hp,?_⟩
    unfold jU;rw [aj (by lia),aa (by lia)]
   ·refine ⟨p,q,by lia,hq,?_⟩
    unfold jU;rw [aa (by lia),aj (by lia)]
  rw [e];exact Kj ij jn (bV ⟨p,q,hp,hq,Fv,hw,e.symm⟩) (by lia)
theorem qa(n:Nat):[]∈ar n:=cq.mpr ⟨List.Pairwise.nil,fun _ h=>by cases h⟩
theorem di{a b:TS}{D:Ends}{σ:St}{H:Hp}(h:∀R:St→Hp→Prop,(∀σ H,b D σ H→R σ H)→a {D with nx:=R} σ H):Ao a b D σ H:=h _ fun _ _ h=>h
end My
namespace L2
open PySem PySem.Spec PyProof.Rows
section
variable {prog:Program} {w:World} {A:Around} {E:aJ} {s:Shared}
theorem y_{x:Int}(h1:-(2 ^ 62)-2≤x)(h2:x<2 ^ 62+2):Builtin.Range.rangeFitsLong x=true:=by unfold Builtin.Range.rangeFitsLong;simp;lia
variable {r:Addr} {n:Int} {u:Tok} {Q:aJ}
theorem VT{t v:Tok}(hr:IsRange s.heap r 0 n 1 t u v)(h1:0≤n)(h2:n<2 ^ 62)
  (h:Q (.ref s.heap.objs.size) {s with heap:=s.heap.push {cls:=.type "range_iterator",data:=.fields #[rawInt (n-1),rawInt n,rawInt (-1)]}}):wpAny (model prog w) A (call (.builtin "range.__reversed__") [.ref r]) Q E s:=by
 have hT:s.TypeIs (.ref r) "range":=⟨_,hr,rfl⟩;refine lE Du hT F.entry_range_reversed ?_ (F.args_range_reversed_1 _);have e:Builtin.Range.rangeSize 0 n 1=n:=by
  unfold Builtin.Range.rangeSize;rw [aj (by decide)]
  split
  ·rw [Int.ediv_one];lia
  ·lia
 unfold Builtin.«range.__reversed__»;refine ae (jD (a:=Value.ref r) rfl ?_);show wpAny _ _ (Builtin.Range.rangeFields (.ref r) >>= _) _ _ s;unfold Builtin.Range.rangeFields;refine ae ?_;refine ae (uA hr rfl (x:=.int 0 t) rfl ?_);refine ae (jD (a:=some 0) rfl ?_);refine ae (uA hr rfl (x:=.int n u) rfl ?_);refine ae (jD (a:=some n) rfl ?_);refine ae (uA hr rfl (x:=.int 1 v) rfl ?_);refine ae (jD (a:=some 1) rfl ?_);refine aB ?_;dsimp only;rw [e,y_ (x:=0) (by lia) (by lia),y_ (x:=n) (by lia) (by lia),y_ (x:=1) (by lia) (by lia),y_ (x:=-1) (by lia) (by lia),y_ (x:=0-1) (by lia) (by lia)]
 simp only [xJ,Bool.and_true,iX,xQ,jB,gg];refine ae (g6 (aB ⟨_,rfl,?_⟩));have e2:(0:Int)+(n-1)*1=n-1:=by lia
 rw [e2];exact h
theorem VU{t v:Tok}{Q₁:aJ}(hr:IsRange s.heap r 0 n 1 t u v)(h1:0≤n)(h2:n<2 ^ 62)
  (h:Q₁ (.ref s.heap.objs.size) {s with heap:=s.heap.push {cls:=.type "range_iterator",data:=.fields #[rawInt (n-1),rawInt n,rawInt (-1)]}}) :
  codeAny (model prog w) A (.call (.builtin "reversed.__new__") ⟨[.type "reversed",.ref r],[]⟩) (wants Q₁ E) s:=by
 have hT:s.TypeIs (.ref r) "range":=⟨_,hr,rfl⟩
 refine codeAny_of_tree ?_
 show wpAny _ A.in1 (do checkBuiltinCall "reversed.__new__" ⟨[.type "reversed",.ref r],[]⟩;again (.builtin "reversed.__new__" ⟨[.type "reversed",.ref r],[]⟩)) _ _ s
 refine ae (jD (F.newCall_reversed_1 _) (aB ⟨nY F.plain_reversed_new _,nW F.entry_reversed_new ?_⟩))
 rw [pj F.plain_reversed_new _]
 unfold Builtin.«reversed.__new__»
 refine ae (jD (newClass_reversed _) ?_)
 dsimp only
 refine ae (jD (a:=()) (by first | rfl | kernel_rfl) ?_)
 refine ae (jD (a:=()) (by first | rfl | kernel_rfl) ?_)
 try dsimp only
 refine ae (xI hT Du.lookup ?_)
 dsimp only
 refine ae (jD (Du.bind _) ?_)
 show wpAny _ _ (if (Value.builtin "range.__reversed__" == Value.none)=true then _ else _) _ _ _
 rw [aa (show ¬((Value.builtin "range.__reversed__" == Value.none)=true) from cj)]
 refine ae (j8 ?_)
 refine ae (m:=runValue (.call (.builtin "range.__reversed__") ⟨[.ref r],[]⟩)) (show wpAny _ _ (call (.builtin "range.__reversed__") [.ref r]) _ _ _ from VT hr h1 h2 ?_)
 first
 | exact aB h
 | exact ae (aB (aB h))
theorem VW:isSubtype (.type "range_iterator") (.type "reversed")=pure false:=by rw [isSubtype_type];kernel_rfl
theorem VX{t v:Tok}(hr:IsRange s.heap r 0 n 1 t u v)(h1:0≤n)(h2:n<2 ^ 62)
  (h:Q (.ref s.heap.objs.size) {s with heap:=s.heap.push {cls:=.type "range_iterator",data:=.fields #[rawInt (n-1),rawInt n,rawInt (-1)]}}):wpAny (model prog w) A (call (.type "reversed") [.ref r]) Q E s:=by
 refine callType_other (U:="range_iterator") (Q₁:=fun obj s₁=>obj=.ref s.heap.objs.size∧s₁={s with heap:=s.heap.push {cls:=.type "range_iterator",data:=.fields #[rawInt (n-1),rawInt n,rawInt (-1)]}}) (by decide +kernel) F.create_reversed ⟨_,_,F.mro_reversed⟩ F.made_reversed VW (F.typeCall_reversed_1 _) (VU hr h1 h2 ⟨rfl,rfl⟩) ?_
 rintro obj s₁ ⟨rfl,rfl⟩;exact ⟨⟨_,cK _ rfl,rfl⟩,h⟩
end
section
variable {X:Cx} {tg:Expr}
def VY(ta:TA):TI:=fun σ H R=>ta σ H fun vs H1=>∃j:Int,vs=[.int j]∧0≤j∧j<2 ^ 62∧R (yq (j-1) j.toNat) H1
theorem VZ{a:Expr}{ta:TA}{p pos p2 Bt:Pos}(hg:Gl X "reversed")(hm:X.mg "reversed"=none)(Fj:Gl X "range")(Fl:X.mg "range"=none)(ha:PA X [a] ta)(hs:starEach [a] X.env=[(false,eval a X.env)]:=by rfl)
  (uJ:starEach [.Call (.Name "range" p2) [a] [] Bt] X.env=[(false,eval (.Call (.Name "range" p2) [a] [] Bt) X.env)]:=by rfl):PI X tg (.Call (.Name "reversed" p) [.Call (.Name "range" p2) [a] [] Bt] [] pos) (VY ta):=by
 intro pins s σ H R I h;refine PyProof.Rows.Call_Name1 (lJ I hg hm boot_reversed (callWith_type1 ?_)) uJ;refine Call_ (lJ I Fj Fl boot_range (xp (aN (ha Bt pins s σ H _ I h) fun us s1 ⟨vs,H1,I1,r1,q1⟩=>?_) hs rfl));obtain ⟨j,e,q1,q2,q⟩:=q1;subst e;cases r1 with
 | cons r rr=>
  cases rr;obtain ⟨t,rfl⟩:=r;refine call_range_1 ?_;refine VX (IsRange.new ..) q1 q2 ?_;refine C_ (cK _ rfl) ?_;generalize hB:({cls:=.type "range",data:=.fields #[.int 0 _,.int j _,.int 1 _]}:Obj)=ob;have I2:Inv X pins σ H1 {s1 with heap:=s1.heap.push ob,toks:=s1.toks+1+1}:=I1.kept fun b o e=>bK _ e;refine ⟨(s1.heap.push ob).objs.size,[(s1.heap.push ob).objs.size],_,_,H1,rfl,I2.kept (t':=s1.toks+1+1) fun b o e=>bK _ e,R4 _ (j-1) j.toNat,?_,fun b hb=>?_,q⟩
  ·have e1:j-1+((0:Nat):Int)*(-1)=j-1:=by simp
   have e2:((j.toNat:Nat):Int)-((0:Nat):Int)=j:=by lia
   show IsRangeIter _ _ (j-1+((0:Nat):Int)*(-1)) (((j.toNat:Nat):Int)-((0:Nat):Int)) (-1);rw [e1,e2];exact cK _ rfl
  ·have e:b=(s1.heap.push ob).objs.size:=by simpa using hb
   subst e;exact I2.qR (aC _) (I2.ay.fresh (aC _))
end
section
variable {prog:Program} {w:World} {K:Type} [DecidableEq K] {knd:HeapKind prog w K} {A:Around} {E:aJ} {s:Shared}
variable {a b:Addr} {xa xb:List (K×Addr×Value)}
theorem V0{nm:String}{Q:Bool→Shared→Prop}(ha:(a == sysModules)=false)(hb:(b == sysModules)=false)(hu:knd.room A)
  (da:s.heap.DictOfH knd a xa) (db:s.heap.DictOfH knd b xb) (hl:xa.length=xb.length) (hits:∀x∈xa,∃(j:Nat) (p:Addr×Value),xb[j]?=some (x.1,p)∧SeqAt.EqAt A s x.2.2 p.2 true) (h:Q true s) :
  wpAny (model prog w) A (Builtin.Dict.samePairs nm a b) Q E s:=by
 obtain ⟨oa,es,ep,Bu,_,Bv,LP,V1,hna⟩:=da;obtain ⟨ob,kg,n8,rX,_,lN,Fw,V2,LQ⟩:=db;have V3:=lG LP;have V4:=lG Fw;unfold Builtin.Dict.samePairs Builtin.Dict.showsAll;rw [aa (show ¬(a == sysModules)=true by rw [ha];exact cj),aa (show ¬(b == sysModules)=true by rw [hb];exact cj)]
 refine ae (aB (ae (aB ?_)));refine ae (i4 Bu Bv ?_);dsimp only;refine ae (i4 rX lN ?_);rw [aa (by rw [V3,V4,hl];simp)]
 refine ae (uv Bu Bv ?_);refine ae ?_;rw [Std.Legacy.Range.forIn_eq_forIn_range'];simp only [Std.Legacy.Range.size,Nat.sub_zero,xG,Nat.div_one];refine wpAny_forIn_list _ (fun rest q s'=>s'=s∧q=(none,())∧∃i,rest=List.range' i (es.size-i)∧i≤es.size) _ ?_ ?_ _ _ ⟨rfl,rfl,0,by simp,bG _⟩
 ·rintro x rest q s' ⟨rfl,rfl,i,hr,hi⟩
  have aT:i<es.size:=by
   rcases Nat.lt_or_ge i es.size with h | h;·exact h
   ·rw [Nat.sub_eq_zero_of_le h] at hr;simp at hr
  obtain ⟨rfl,DW⟩:x=i∧rest=List.range' (i+1) (es.size-(i+1)):=by
   have e:es.size-i=(es.size-(i+1))+1:=by lia
   rw [e,List.range'_succ] at hr;injection hr with h1 h2;exact ⟨h1,h2⟩
  refine ae (i4 Bu Bv ?_);have LR:x<xa.length:=by lia
  rw [entry_at LP,bg LR];have hm:=cB LR;generalize xa[x]=z at hm;obtain ⟨k,c,v⟩:=z;obtain ⟨j,p,hj,he⟩:=hits _ hm;show wpAny _ _ (holding [Value.ref c,v] _ >>= _) _ _ _;refine ae (gX (ae (wpAny_dictFind_heap hu (V1 _ hm) rX lN Fw V2 LQ ?_ ?_)))
  ·intro Fy
   exact absurd hj (Fy j p)
  ·intro j' p' dh
   have ej:=idxH_unique LQ hj dh;subst ej;rw [hj] at dh;have n8:p=p':=(Prod.mk.inj (Option.some.inj dh)).2;subst n8;refine ae (i4 rX lN ?_);rw [entry_at Fw,hj];refine gX (he prog w _ _ ?_);show wpAny _ _ (if (!true)=true then _ else _) _ _ _
   rw [aa (by decide)]
   refine ae (uv Bu Bv ?_);rw [aa (by simp)]
   exact aB ⟨rfl,rfl,x+1,DW,aT⟩
 ·rintro q s' ⟨rfl,rfl,i,hr,hi⟩
  exact aB h
theorem V5{Q:aJ}(ha:(a == sysModules)=false)(hb:(b == sysModules)=false)(hu:A.units<cLine)(hr:knd.room A.in1)
  (da:s.heap.DictOfH knd a xa) (db:s.heap.DictOfH knd b xb) (hl:xa.length=xb.length) (hits:∀x∈xa,∃(j:Nat) (p:Addr×Value),xb[j]?=some (x.1,p)∧SeqAt.EqAt A.in1 s x.2.2 p.2 true) (h:Q (.bool false) s) :
  wpAny (model prog w) A (compareOp .NotEq (.ref a) (.ref b)) Q E s:=by
 refine wpAny_richCompare_same_room (op:=.NotEq) da.typeIs db.typeIs PySem.F.slot_dict_ne (lE PySem.F.slot_dict_ne da.typeIs PySem.F.entry_dict_ne ?_ (PySem.F.args_dict_ne_2 _ _)) hu;show wpAny _ _ (Builtin.Dict.dictSlotArgs "__ne__" ⟨[.ref a,.ref b],[]⟩ >>= _) _ _ s;refine ae ?_;unfold Builtin.Dict.dictSlotArgs;refine ae (Ab da.typeIs ?_);show wpAny _ _ (pure (Value.ref a,Value.ref b)) _ _ s;refine aB ?_;refine ae (xK (T:="dict") db.typeIs PySem.F.sub_dict_dict ?_);simp only [xQ,jB,gg];refine ae (aB (ae (aB ?_)));refine ae (V0 ha hb hr da db hl hits ?_);refine aB ⟨_,rfl,?_,?_⟩;·exact fun x=>nomatch x
 ·simpa using h
end
theorem LS{H:Hp}{kvs:List (List Key×V)}{xs:List (List Key×Addr×Value)}(r:KT H kvs xs):∀x∈xs,∃p∈kvs,p.1=x.1∧RelV p.2 x.2.2:=by
 induction r with
 | nil=>intro x hx;exact nomatch hx
 | @cons p q ps qs h t ih=>
  intro x hx;rcases bU.mp hx with e | hx
  ·subst e
   exact ⟨p,cw,h.1,h.2.2⟩
  ·obtain ⟨p,hp,e⟩:=ih x hx
   exact ⟨p,cA _ hp,e⟩
theorem V6{X:Cx}(hu:X.A.units+1<cLine):cU X (compareOp .NotEq) (fun x y H Q=>∃a b ka kb,x=V.ref a∧y=V.ref b∧H a=some (.dT ka)∧H b=some (.dT kb)∧ka.length=kb.length ∧
  (∀p∈ka,∃v,a7 kb p.1=some v∧jc p.2=true∧jc v=true∧iF p.2 v=true)∧Q (.bl false) H):=by
 intro pins s σ H x y v u Q I rx ry h;obtain ⟨a,b,ka,kb,rfl,rfl,ea,eb,hl,hk,q⟩:=h;cases rx;cases ry;obtain ⟨_,sa,xa,ra,da⟩:=rN I.ay ea;obtain ⟨_,sb,xb,rb,db⟩:=rN I.ay eb;have l1:=Paired.length ra;have l2:=Paired.length rb;refine V5 sa sb (by lia) (uo hu) da db (by lia) (fun x hx=>?_) ⟨.bl false,H,I,rfl,q⟩
 obtain ⟨p,hp,e1,e2⟩:=LS ra x hx;obtain ⟨v,ev,f1,f2,ee⟩:=hk p hp;obtain ⟨w',hw,iE⟩:=jF.some_of (v:=v) (o:=(atKey xb p.1).map (·.2)) (by rw [←ev];exact rb.val p.1)
 obtain ⟨z,hz,V7⟩:=z_.mp hw;unfold atKey at hz;obtain ⟨y,hy,V8⟩:=z_.mp hz;have ey:y.1=p.1:=by simpa using List.find?_some hy
 obtain ⟨j,hj⟩:=Ah (List.mem_of_find?_eq_some hy);refine ⟨j,y.2,by rw [hj,←e1,←ey],?_⟩
 rw [←ee,V8,V7];exact AA e2 iE f1 f2
section
variable {prog:Program} {w:World} {A:Around} {E:aJ} {s:Shared}
end
section
variable {X:Cx} {pins:aR} {σ:St} {H:Hp} {s:Shared}
theorem Inv.Fz{a:Addr}{o:Obj}{kvs:List (List Key×V)}(I:Inv X pins σ H s)(h:H a=some (.aW o (.dT kvs))):∃(xs:List (List Key×Addr×Value)) (es:Array DictEntry),KT H kvs xs∧(a == sysModules)=false∧dy s.heap a es (pW o)∧es.toList=xs.map (entryOfKey (tupleKind (eO X.prog X.w))):=by obtain ⟨g,_,sys,xs,r,o',es,ep,g',c,d,e,_⟩:=(show b9 X.prog X.w H s.heap a (.aW o (.dT kvs)) from I.ay a _ h);rw [g] at g';cases g';refine ⟨xs,es,r,sys,⟨o,g,c,?_⟩,e⟩;rw [d];unfold pW;rw [d]
end
section
variable {X:Cx} {tg:Expr}
end
open PySem PySem.W PyProof.Rows My
end L2
namespace My
open PySem L2
def V9:Sp:=fun vs H Q _=>∃(D d:Addr) (n:Nat) (rs:Nat→Addr) (g:Nat→List Nat) (done:List Nat) (p:Nat),vs=[.ref D,.ref d,.int (p:Int)]∧iw H D n rs g∧(∀i,i<n→∀j∈g i,j<n)∧H d=some (.tup (done.map fun k:Nat=>V.int (k:Int)))∧done.length≤1000∧p<n∧n≤60 ∧
 ∀(H':Hp) (mt:Addr) (ks:List Nat),ao H H'→H mt=none→H' mt=some (.dK (dk ks))→jS n ks→(∀x,x∈ks↔ni (gT n g) (·∈done) p x)→Q (.ref mt) H'
def V_:Sp:=fun vs H Q _=>∃(D d:Addr) (n:Nat) (rs:Nat→Addr) (g:Nat→List Nat) (done:List Nat) (p:Nat),vs=[.ref D,.ref d,.int (p:Int)]∧iw H D n rs g∧(∀i,i<n→∀j∈g i,j<n)∧H d=some (.tup (done.map fun k:Nat=>V.int (k:Int)))∧done.length≤1000∧p<n∧n≤60 ∧
 ∀(H':Hp) (c:Nat),ao H H'→mj n g done p c→Q (.int ((c:Int)*c+3*c+1)) H'
theorem LU{H:Hp}{c:V→Bool}{f:List Nat→Bool}:∀{xs:List V} {qs:List (List Nat)},e_ H xs qs→(∀(i:Nat) (v:V) (q:List Nat),xs[i]?=some v→qs[i]?=some q→c v=f q)→e_ H (xs.filter c) (qs.filter f)
 | [],[],h,_=>h
 | [],_::_,h,_=>by have:=h.1;simp at this
 | _::_,[],h,_=>by have:=h.1;simp at this
 | x::xs,q::qs,h,hc=>by
  have ih:=LU (H:=H) (c:=c) (f:=f) (xs:=xs) (qs:=qs) ⟨by have:=h.1;simpa using this,fun i v q h1 h2=>h.2 (i+1) v q (by simpa using h1) (by simpa using h2)⟩ fun i v q h1 h2=>hc (i+1) v q (by simpa using h1) (by simpa using h2)
  have e:=hc 0 x q rfl rfl;obtain ⟨b,eb,gb⟩:=h.2 0 x q rfl rfl;rw [i3,i3,e]
  split
  ·refine ⟨by simpa using ih.1,fun i v r h1 h2=>?_⟩
   cases i with
   | zero=>cases h1;cases h2;exact ⟨b,eb,gb⟩
   | succ i=>exact ih.2 i v r (by simpa using h1) (by simpa using h2)
  ·exact ih
def vj(H:Hp)(m:Nat):V→Bool
 | .ref b=>match H b with
  | some (.tup q)=>decide (q.length=m)
  | _=>false
 | _=>false
variable {H:Hp}
theorem LV{m:Nat}{b:Addr}{q:List V}(h:H b=some (.tup q)):vj H m (.ref b)=decide (q.length=m):=by unfold vj;dsimp only;rw [h]
variable {H':Hp} {D:Addr} {n:Nat} {rs:Nat→Addr} {g:Nat→List Nat}
theorem iw.FA(h:iw H D n rs g)(k:∀b ys,H b=some (.lst ys)→H' b=some (.lst ys)):iw H' D n rs g:=⟨k _ _ h.lst,h.inj,h.ne,fun i hi=>k _ _ (h.at' i hi)⟩
theorem iw.mono(h:iw H D n rs g)(k:ao H H'):iw H' D n rs g:=h.FA fun b _ e=>k b _ e
end My
namespace L2
open PySem
theorem Wa{K:aK}{tl:TE}{g:TG}{tb:TS}{D:Ends}{σ:St}{H:Hp}(h:tl σ H fun x H1=>∃a,x=.ref a∧(∃xs,bz K H1 a xs)∧∃W:Nat→Nat→St→Hp→Prop,(∃m,W 0 m σ H1)∧∀i m σ H,W i m σ H→
  ((i9 K a).stop i H∧D.nx σ H)∨((i9 K a).go i H∧∃N:St→Hp→Prop,(∀σ' H',N σ' H'→∃m',m'<m∧W (i+1) m' σ' H')∧∀x H',(i9 K a).df i H x H'→g x σ H' fun σ2 H2=>tb {D with nx:=N,ct:=N,bk:=D.nx} σ2 H2)):ID (Iz K tl) g tb D σ H:=h
end L2
namespace My
theorem LW{α:Type}{l:List α}{j:Nat}{q:α}(nd:l.Nodup)(h:l[j]?=some q):q∉l.take j:=fun z=>by obtain ⟨hj,e⟩:=bx.mp h;rw [←qz j l,List.drop_eq_getElem_cons hj,e,nX] at nd;exact nd.2.2 q z q cw rfl
theorem LX{α:Type}[DecidableEq α]:∀{l m:List α},l.Nodup→(∀x∈l,x∈m)→l.length≤m.length
 | [],_,_,_=>bG _
 | x::l,m,nd,h=>by obtain ⟨nx,nd⟩:=fB.mp nd;have xm:=h x cw;have:=LX (m:=m.erase x) nd fun y hy=>(List.mem_erase_of_ne (fun e:y=x=>nx (e▸hy))).mpr (h y (cA _ hy));rw [List.length_erase_of_mem xm] at this;have:=List.length_pos_of_mem xm;rw [eM];lia
end My
namespace L2
open PySem My
open PySem
theorem boot_dict:bootBuiltins "dict"=some (.type "dict"):=by decide +kernel
open PySem PySem.Spec PyProof.Rows My
section
variable {prog:Program} {w:World} {A:Around} {E:aJ} {s:Shared}
theorem Wb{it d:Addr}{i ep:Nat}{es:Array DictEntry}{Q:Option Value→Shared→Prop}(hh:A.handled=none)(hit:s.heap.IsKeyIter it d i es.size ep)(hm:dy s.heap d es ep)(hi:es.size≤i)
  (hQ:∀h',Heap.ExtBut it s.heap h'→Q none {s with heap:=h'}):wpAny (model prog w) A (pyNext (.ref it)) Q E s:=by
 have hT:=hit.typeIs;obtain ⟨o,ho,hc,hd⟩:=id hit;obtain ⟨od,jm,fU,jV⟩:=hm;unfold pyNext;refine ae (xA (Ac (name:=Str.ofString "__next__") hT qG (lE qG hT Ds ?_ (Dt _))));refine ae (aB (ae (ae ?_)))
 first | refine ae (uw hT (aB ?_)) | refine ae (ux hT (aB ?_))
 refine ae (wpAny_fieldsOf ho hd ?_);simp only [show Builtin.Dict_items.ownsTuple "dict_keyiterator"=false from by decide,jB,gg]
 show wpAny _ _ (if (Value.ref d == Value.none)=true then _ else _) _ _ s
 rw [aa (show ¬((Value.ref d == Value.none)=true) from cj)];refine ae (aB (ae (i4 jm jV ?_)));rw [aa (by simp)]
 refine ae (aB (ae (uv jm jV ?_)));rw [aa (by simp)]
 refine aB ?_;simp only [show ¬((i:Int)<0) from by lia,gg,dF,Ad hi]
 refine ae ?_
 first | refine ae (uw hT (aB ?_)) | refine ae (ux hT (aB ?_))
 show wpAny _ _ (setField (.ref it) 0 .none >>= _) _ _ s;refine ae (wpAny_setField ho hd (by simp) ?_)
 show wpAny _ _ (newExc (.type "StopIteration") [] >>= _) _ _ _;refine ae ?_;simp only [newExc,newTuple];refine ae (g6 ?_ (by size_fits))
 refine ae (m:=firstArgMember _ _) (jD (a:=Value.none) (by first | rfl | (simp only [firstArgMember];rfl)) ?_)
 refine g6 ?_ (by size_fits)
 simp only [raiseNew];refine ae (wpAny_handled ?_);rw [show A.in1.handled=none from hh];refine ae (aB (wpAny_throw ?_));refine ae (xK (T:="StopIteration") (b:=true) ⟨_,cK _ rfl,rfl⟩ isSubtype_stop ?_);exact aB (hQ _ (((jC ..).extBut.push _).push _))
end
def Wc:Value→V
 | .ref b=>.ref b
 | _=>.aS
def keysOf(o:Obj):List V:=match o.data with
 | .dict es _=>es.toList.map fun e=>Wc e.key
 | _=>[]
def jr(H:Hp)(kvs:List (List Key×V))(xs:List V):Prop:=xs.length=kvs.length∧∀(i:Nat) (x:V) (kv:List Key×V),xs[i]?=some x→kvs[i]?=some kv→∃b,x=.ref b∧H b=some (.tup (kv.1.map kV))
def nG(a:Addr)(o:Obj)(kvs:List (List Key×V)):It:=
 ⟨fun i H=>H a=some (.aW o (.dT kvs))∧i<kvs.length,fun i H x H'=>H'=H∧(keysOf o)[i]?=some x,fun i H=>H a=some (.aW o (.dT kvs))∧kvs.length≤i⟩
theorem kt_key{H:Hp}{kvs:List (List Key×V)}{xs:List (List Key×Addr×Value)}:∀{i:Nat} {kv:List Key×V},KT H kvs xs→kvs[i]?=some kv→∃x,xs[i]?=some x∧H x.2.1=some (.tup (kv.1.map kV))
 | _,_,.nil,h=>by simp at h
 | 0,kv,.cons (b:=b) r _,h=>by simp at h;subst h;exact ⟨b,rfl,r.2.1⟩
 | i+1,kv,.cons _ t,h=>by simp at h;obtain ⟨v,e,r⟩:=kt_key t h;exact ⟨v,by simpa using e,r⟩
section
variable {X:Cx} {pins:aR} {σ:St} {H:Hp} {s:Shared}
variable {a:Addr} {o:Obj} {kvs:List (List Key×V)}
theorem Inv.LY(I:Inv X pins σ H s)(h:H a=some (.aW o (.dT kvs))):∃(xs:List (List Key×Addr×Value)) (es:Array DictEntry),KT H kvs xs∧(a == sysModules)=false∧dy s.heap a es (pW o)∧es.size=xs.length∧keysOf o=xs.map (fun x=>V.ref x.2.1)∧∀i (h1:i<es.size) (h2:i<xs.length),es[i].key=.ref xs[i].2.1:=by
 obtain ⟨g,_,sys,xs,r,o',es,ep,g',c,d,e,_⟩:=(show b9 X.prog X.w H s.heap a (.aW o (.dT kvs)) from I.ay a _ h);rw [g] at g';cases g';have sz:=lG e;refine ⟨xs,es,r,sys,⟨o,g,c,?_⟩,sz,?_,fun i h1 h2=>?_⟩
 ·rw [d]
  unfold pW;rw [d]
 ·unfold keysOf
  rw [d];show es.toList.map _=_;rw [e,bw];rfl
 ·have:=entry_at e i
  rw [bg h2,uy h1] at this;rw [Option.some.inj this];rfl
theorem Inv.Wd(I:Inv X pins σ H s)(h:H a=some (.aW o (.dT kvs))):jr H kvs (keysOf o):=by
 obtain ⟨xs,es,r,_,_,_,ke,_⟩:=I.LY h;have lr:kvs.length=xs.length:=Paired.length r;rw [ke];refine ⟨by rw [aG,lr],fun i x kv hx hk=>?_⟩
 obtain ⟨y,ey,ry⟩:=kt_key r hk;rw [bP,ey] at hx;cases hx;exact ⟨_,rfl,ry⟩
end
theorem We{P:Program}{w:World}{K:aK}{tg:Expr}(a it:Addr)(o:Obj)(kvs:List (List Key×V)):Turn P w K tg (nG a o kvs) [it] it (fun i h=>h.IsKeyIter it a i kvs.length (pW o)) where
 mem:=by simp
 obj:=fun i h st b hb=>by
  have e:b=it:=by simpa using hb
  subst e;obtain ⟨o,e,c,d⟩:=st;exact ⟨o,e,fun v z=>by rw [d] at z;cases z⟩
 keep:=fun i h h' st k=>by obtain ⟨o,e,c,d⟩:=st;exact ⟨o,k it (by simp) o e,c,d⟩
 item:=by
  intro X hP hw hK hc i pins s σ H E I hf st hg;subst hP hw hK;obtain ⟨eH,hi⟩:=hg;obtain ⟨xs,es,r,_,hm,sz,ke,he⟩:=I.LY eH;have lr:kvs.length=xs.length:=Paired.length r;obtain ⟨f0,f1,f2,f3,f4,f5⟩:=hf it (by simp)
  have sk:kvs.length=es.size:=by lia
  have a_:i<es.size:=by lia
  have hx:i<xs.length:=by lia
  have ee:=he i a_ hx;rw [sk] at st;refine Lm st hm a_ fun h' ax sb=>?_;have I1:Inv X pins σ H {s with heap:=h'}:=I.turned (t':=s.toks) (fun b o hb e=>(sb.2 b hb).trans e) f0 f1 f3 f4 f5;obtain ⟨o',e,c,d⟩:=id ax;rw [←sk] at ax;exact ⟨_,rfl,uI (s:={s with heap:=h'}) e c d (by decide) ⟨.ref xs[i].2.1,H,I1,by rw [ee];rfl,⟨rfl,by rw [ke,bP,bg hx];rfl⟩,ax,fun b hb=>(hf b hb).1⟩⟩
 done:=by
  intro X hP hw hK hc i pins s σ H E I hf st hg;subst hP hw hK;obtain ⟨eH,hi⟩:=hg;obtain ⟨xs,es,r,_,hm,he⟩:=I.Fz eH;have lr:kvs.length=xs.length:=Paired.length r;have sz:=lG he;obtain ⟨f0,f1,f2,f3,f4,f5⟩:=hf it (by simp)
  have sk:kvs.length=es.size:=by lia
  rw [sk] at st;exact Wb (I.ok.hd hc) st hm (by lia) fun h' eb=>⟨rfl,I.turned (t':=s.toks) (fun b o hb e=>eb b o hb e) f0 f1 f3 f4 f5⟩
 self:=fun _ _ _ _ _ st h=>wpAny_pyIter_keyiter st h
section
variable {X:Cx} {tg:Expr}
def FE(tl:TE):TI:=fun σ H R=>tl σ H fun x H1=>∃a kvs,x=.ref a∧((H1 a=some (.dT kvs)∧∀o,jr (upd H1 a (.aW o (.dT kvs))) kvs (keysOf o)→R (nG a o kvs) (upd H1 a (.aW o (.dT kvs))))∨∃o,H1 a=some (.aW o (.dT kvs))∧(jr H1 kvs (keysOf o)→R (nG a o kvs) H1))
theorem FF{l:Expr}{tl:TE}(hl:PE X l tl):PI X tg l (FE tl):=by
 intro pins s σ H R I h;refine aN (hl pins s σ H _ I h) fun v s1 ⟨x,H1,I1,r1,q1⟩=>?_;obtain ⟨a,kvs,e,q⟩:=q1;subst e;cases r1;have main:∀{H2:Hp} {o:Obj},Inv X pins σ H2 s1→H2 a=some (.aW o (.dT kvs))→(jr H2 kvs (keysOf o)→R (nG a o kvs) H2)→wpAny (model X.prog X.w) X.A (pyIter (.ref a)) (Ar X pins σ tg R) X.xe s1:=fun{H2 o} I2 eH q=>by
  have q:=q (I2.Wd eH);obtain ⟨xs,es,r,sys,hm,he⟩:=I2.Fz eH;have lr:kvs.length=xs.length:=Paired.length r;have sz:=lG he;refine Ll sys hm fun h' eh=>?_;subst eh;refine ⟨s1.heap.objs.size,[s1.heap.objs.size],_,_,H2,rfl,I2.kept (t':=s1.toks) fun b o e=>bK _ e,We a _ o kvs,⟨_,cK _ rfl,rfl,by rw [lr,←sz];rfl⟩,fun b hb=>?_,q⟩
  have e:b=s1.heap.objs.size:=by simpa using hb
  subst e;exact I2.qR (aC _) (I2.ay.fresh (aC _))
 rcases q with ⟨eH,q⟩ | ⟨o,eH,q⟩
 ·obtain ⟨hz,sys,xs,r,o,es,ep,g,c,d,e,nd⟩:=(show b9 X.prog X.w H1 s1.heap a (.dT kvs) from I1.ay a _ eH)
  refine main (H2:=upd H1 a (.aW o (.dT kvs))) ?_ au (q o);exact I1.write (t':=s1.toks) (x:=a) (e:=a) (by rw [eH];exact trivial) (.inl rfl) (fun b u _ e=>e) ⟨o,g⟩ ⟨g,hz,sys,xs,Paired.Ak r fun p q z=>⟨z.1,(aM (fun y=>by rw [y,eH] at z;cases z.2.1)).trans z.2.1,z.2.2⟩,o,es,ep,g,c,d,e,nd⟩
 ·exact main I1 eH q
end
variable {H:Hp} {a:Addr} {kvs:List (List Key×V)}
theorem LZ{o:Obj}(h:H a=some (.aW o (.dT kvs)))(k:jr H kvs (keysOf o)):kB (nG a o kvs) (keysOf o) H:=by refine ⟨fun i Hc s hi=>⟨s _ _ h,by rw [←k.1];exact hi⟩,fun i Hc x H' s y=>⟨y.1,fun _=>y.2⟩,fun i Hc s hi=>⟨s _ _ h,by rw [←k.1];exact hi⟩⟩
open PySem PySem.Spec PyProof.Rows
section
variable {prog:Program} {w:World} {A:Around} {E:aJ} {s:Shared}
end
section
variable {X:Cx}
end
def FG(H:Hp)(a:Addr)(kvs:List (List Key×V)):Prop:=H a=some (.dT kvs)∨∃o,H a=some (.aW o (.dT kvs))
variable {X:Cx} {σ:St}
theorem Inv.L0{pins:aR}{s:Shared}(I:Inv X pins σ H s)(h:FG H a kvs):∃(xs:List (List Key×Addr×Value)) (es:Array DictEntry) (ep:Nat),KT H kvs xs∧(a == sysModules)=false∧dy s.heap a es ep∧es.toList=xs.map (entryOfKey (tupleKind (eO X.prog X.w))):=by
 rcases h with h | ⟨o,h⟩
 ·obtain ⟨_,sys,kg,kt,o,es,ep,g,c,dd,e4,e5,e6⟩:=rN I.ay h
  exact ⟨kg,es,ep,kt,sys,⟨o,g,c,dd⟩,e4⟩
 ·obtain ⟨xs,es,r,sys,hm,he⟩:=I.Fz h
  exact ⟨xs,es,_,r,sys,hm,he⟩
theorem L5:eQ X (.builtin "len") (fun xs H Q=>∃a kvs,xs=[V.ref a]∧FG H a kvs∧kvs.length≤10000∧Q (.int kvs.length) H):=by
 intro pins s σ H xs us Q I r h;obtain ⟨d,kvs,rfl,hp,hn,q⟩:=h;obtain ⟨u,rfl,ru⟩:=vals1 r;cases ru;obtain ⟨xs,es,ep,kt,sys,hm,e4⟩:=I.L0 hp;have sz:es.size=kvs.length:=by rw [lG e4,←Paired.length kt]
 exact LM sys hm (by lia) ⟨.int kvs.length,H,I.tok _,⟨s.toks+1,by rw [sz]⟩,q⟩
def Wf:List V→Hp→VK→Prop:=fun xs H Q=>∃d kvs,xs=[.ref d]∧FG H d kvs∧kvs.length≤10000∧∀l bs,H l=none→jr H kvs bs→Q (.ref l) (upd H l (.lst bs))
theorem L6(hc:X.calm=true):eQ X (.type "list") Wf:=by
 intro pins s σ H xs us Q I r h;obtain ⟨d,kvs,rfl,hp,hn,q⟩:=h;obtain ⟨u,rfl,ru⟩:=vals1 r;cases ru;obtain ⟨kg,es,ep,kt,sys,hm,e4⟩:=I.L0 hp;have lk:kvs.length=kg.length:=Paired.length kt;have sz:es.size=kvs.length:=by rw [lG e4,lk]
 refine UX (I.ok.hd hc) sys hm (by lia) fun h' tk acc ct hk hD hit=>?_
 have ek:acc.toList=kg.map fun x=>Value.ref x.2.1:=by rw [hit,e4,bw];rfl
 refine ⟨.ref s.heap.objs.size,_,I.laid (o:=.lst (kg.map fun x=>V.ref x.2.1)) (fun b o e=>hk b o e) (aC _) ⟨?_,acc.toList,ct,?_,?_⟩,rfl,q _ _ (I.ay.fresh (aC _)) ⟨by rw [aG,lk],?_⟩⟩
 ·rw [aG,←lk]
  exact a9 hn (by decide)
 ·rw [ek]
  refine yi (by rw [aG,aG]) fun i x u h1 h2=>?_
  rw [bP] at h1 h2;cases e:kg[i]? with
  | none=>rw [e] at h1;cases h1
  | some y=>rw [e] at h1 h2;cases h1;cases h2;rfl
 ·rw [hD]
 ·intro i x kv hx hk
  obtain ⟨y,ey,ry⟩:=kt_key kt hk;rw [bP,ey] at hx;cases hx;exact ⟨_,rfl,ry⟩
theorem Wg{ob:Obj}{g:TG}{tb:TS}{D:Ends}(Pv:Nat→St→Hp→Prop)(h0:Pv 0 σ H)(hl:∀i σ H,i≤kvs.length→Pv i σ H→H a=some (.aW ob (.dT kvs)))
  (hs:∀(i:Nat) (x:V) σ H,i<kvs.length→(keysOf ob)[i]?=some x→Pv i σ H→g x σ H fun σ2 H2=>tb {D with nx:=Pv (i+1),ct:=Pv (i+1),bk:=D.nx} σ2 H2) (hd:∀σ H,Pv kvs.length σ H→D.nx σ H) :
  ∃W:Nat→Nat→St→Hp→Prop,(∃m,W 0 m σ H)∧∀i m σ H,W i m σ H→
   ((nG a ob kvs).stop i H∧D.nx σ H)∨((nG a ob kvs).go i H∧∃N:St→Hp→Prop,(∀σ' H',N σ' H'→∃m',m'<m∧W (i+1) m' σ' H')∧∀x H',(nG a ob kvs).df i H x H'→g x σ H' fun σ2 H2=>tb {D with nx:=N,ct:=N,bk:=D.nx} σ2 H2):=by
 refine ⟨fun i m σ H=>m=kvs.length-i∧i≤kvs.length∧Pv i σ H,⟨kvs.length,by simp,bG _,h0⟩,?_⟩
 rintro i m σ H ⟨rfl,hi,p⟩;have q:=hl i σ H hi p;by_cases aT:i<kvs.length
 ·refine .inr ⟨⟨q,aT⟩,Pv (i+1),fun σ' H' p'=>⟨kvs.length-(i+1),by lia,rfl,aT,p'⟩,fun x H' y=>?_⟩
  obtain ⟨rfl,ek⟩:=y;exact hs i x σ _ aT ek p
 ·have e:i=kvs.length:=by lia
  subst e;exact .inl ⟨⟨q,aC _⟩,hd σ H p⟩
end L2
namespace My
open PySem L2
theorem L7:∀{L L':List Nat},L.Pairwise (· < ·)→L'.Pairwise (· < ·)→(∀c,c∈L↔c∈L')→L=L'
 | [],[],_,_,_=>rfl
 | [],b::L',_,_,h=>nomatch (h b).mpr (cw ..)
 | a::L,[],_,_,h=>nomatch (h a).mp (cw ..)
 | a::L,b::L',h1,h2,h=>by
  obtain ⟨a1,a2⟩:=mL.mp h1;obtain ⟨b1,b2⟩:=mL.mp h2;have e:a=b:=by
   rcases bU.mp ((h a).mp (cw ..)) with e | ha;·exact e
   ·rcases bU.mp ((h b).mpr (cw ..)) with e | hb
    ·exact e.symm
    ·have:=b1 a ha
     have:=a1 b hb;lia
  subst e;rw [L7 a2 b2 fun c=>?_];constructor
  ·intro hc
   rcases bU.mp ((h c).mp (cA _ hc)) with rfl | z;·exact absurd (a1 c hc) (by lia)
   ·exact z
  ·intro hc
   rcases bU.mp ((h c).mpr (cA _ hc)) with rfl | z;·exact absurd (b1 c hc) (by lia)
   ·exact z
theorem L8{n:Nat}{L:aE}{W:List Nat→Int}(kp:(ar n).all (mr n L W)=true)(w0:W (List.range n)≤0):∀(o S:List Nat),S∈ar n→o.Perm (aQ n S)→W S≤jq n L S o
 | [],S,hS,h=>by
  have e:aQ n S=[]:=h.symm.eq_nil;obtain ⟨m1,m2⟩:=cq.mp hS;have eS:S=List.range n:=by
   refine L7 m1 xH fun x=>?_;rw [cu];refine ⟨m2 x,fun hx=>Ag fun z=>?_⟩;have:x∈aQ n S:=cG.mpr ⟨cu.mpr hx,by simpa using z⟩
   rw [e] at this;cases this
  rw [eS];exact w0
 | p::o,S,hS,h=>by
  have hp:p∈aQ n S:=h.mem_iff.mp cw;obtain ⟨p1,p2⟩:=cG.mp hp;have pn:=cu.mp p1;have pS:p∉S:=by simpa using p2
  obtain ⟨m1,m2⟩:=cq.mp hS;have ih:=L8 (L:=L) kp w0 o (aV S p) (cq.mpr ⟨nE m1 pS,fun x hx=>by
   rcases jW.mp hx with rfl | hx;·exact pn
   ·exact m2 x hx⟩) (VB h)
  have k:=iY.mp kp S hS;unfold mr at k;have k:=fP k p hp;show W S≤bW n L S p+jq n L (aV S p) o;lia
variable {n d:Nat} {L:aE} {W:List Nat→Int}
theorem Wh{M M':aE}{o o':List Nat}{d':Nat}(cE:gR n L)(s:kU n L W d=true)(ho:o'.Perm (List.range n))(f:kN n L o' M')(e:d'=rT n M'):d≤d':=by
 unfold kU at s;rw [xu] at s;obtain ⟨s1,s2⟩:=s;simp only [Bool.not_eq_true',Bool.or_eq_false_iff,decide_eq_false_iff_not,Bool.not_eq_false',decide_eq_true_eq] at s1;have h:=L8 (L:=L) s2 (by lia) o' [] (qa n) (ho.trans (by
  have:aQ n []=List.range n:=List.filter_eq_self.mpr fun a _=>by simp
  rw [this]))
 rw [VS ho cE f,s1.2] at h;lia
theorem L9{c:List Nat→Nat→Int}(hc:∀S∈ar n,∀p∈aQ n S,c S p=bW n L S p):kU n L W d=((ar n).all (fun S=>decide (∀p∈aQ n S,¬c S p+W (aV S p)<W S)) && (decide (W (List.range n)≤0) && decide (W []=(d:Int)))):=by
 unfold kU;have e1:(ar n).all (mr n L W)=(ar n).all fun S=>decide (∀p∈aQ n S,¬c S p+W (aV S p)<W S):=by
  rw [nV,iY,iY];refine ⟨fun h S hS=>?_,fun h S hS=>?_⟩
  ·have:=h S hS
   unfold mr at this;have:=fP this;exact bV fun p hp=>by rw [hc S hS p hp];have:=this p hp;lia
  ·have:=fP (h S hS)
   unfold mr;exact bV fun p hp=>by have:=this p hp;rw [hc S hS p hp] at this;lia
 rw [e1];generalize ((ar n).all fun S=>decide (∀p∈aQ n S,¬c S p+W (aV S p)<W S))=b;by_cases h1:0<W (List.range n) <;> by_cases h2:W []=(d:Int)
 ·have h3:¬W (List.range n)≤0:=by lia
  simp [h1,h2,h3]
 ·have h3:¬W (List.range n)≤0:=by lia
  simp [h1,h2,h3]
 ·have h3:W (List.range n)≤0:=by lia
  simp [h1,h2,h3]
 ·have h3:W (List.range n)≤0:=by lia
  simp [h1,h2,h3]
def nI(n:Nat)(kvs:List (List Key×V)):Bool:=decide (kvs.length=(ar n).length) && (ar n).all fun q=>(a7 kvs (aA q)).isSome
def Wi(N:Addr):Sp:=fun vs H Q E=>∃(tp a wo:Addr) (n:Nat) (L:aE) (o:List Nat) (kvs:List (List Key×V)) (W:List Nat→Int),vs=[.ref tp,.ref a,.ref wo]∧dS H tp n L∧gR n L∧yQ L∧n≤9∧H a=some (.lst (o.map fun k:Nat=>V.int (k:Int)))∧o.Perm (List.range n)∧H wo=some (.dT kvs)∧kvs.length≤600∧(∀q∈ar n,(a7 kvs (aA q)).isSome=true→a7 kvs (aA q)=some (.int (W q))) ∧
 ∀(H':Hp) (d:Nat),ao H H'→(∀M,kN n L o M→d=rT n M)→Q (.bl (nI n kvs && kU n L W d)) H'
def oN(H:Hp)(n:Nat)(L:aE)(q ps:List Nat)(ys:List V):Prop:=ys.length=ps.length∧∀(i:Nat) (y:V) (p:Nat),ys[i]?=some y→ps[i]?=some p→∃t b:Addr,y=.ref t∧H t=some (.tup [.ref b,.int (bW n L q p)])∧H b=some (.tup ((aV q p).map fun k:Nat=>V.int (k:Int)))
variable {H H':Hp} {q ps:List Nat} {ys:List V}
theorem oN.dW(h:oN H n L q ps ys)(k:∀b xs,H b=some (.tup xs)→H' b=some (.tup xs)):oN H' n L q ps ys:=⟨h.1,fun i y p hy hp=>by obtain ⟨t,b,e,e1,e2⟩:=h.2 i y p hy hp;exact ⟨t,b,e,k _ _ e1,k _ _ e2⟩⟩
variable {b:Addr}
theorem oN.snoc(h:oN H n L q ps ys){p:Nat}{t:Addr}(e1:H t=some (.tup [.ref b,.int (bW n L q p)]))(e2:H b=some (.tup ((aV q p).map fun k:Nat=>V.int (k:Int)))):oN H n L q (ps++[p]) (ys++[.ref t]):=by
 refine ⟨by rw [c_,c_,h.1];rfl,fun i y r hy hr=>?_⟩
 by_cases hi:i<ps.length
 ·rw [gZ (by rw [h.1];exact hi)] at hy
  rw [gZ hi] at hr;exact h.2 i y r hy hr
 ·have hl:=(bx.mp hr).1
  rw [c_,lp] at hl;have ei:i=ps.length:=by lia
  subst ei;rw [gG (aC _),qw] at hr;rw [←h.1,gG (aC _),qw] at hy;cases hr;cases hy;exact ⟨t,b,rfl,e1,e2⟩
theorem L_{k:Nat}:aQ (k+1) q=aQ k q++if k∈q then [] else [k]:=by
 unfold aQ;rw [z7,z9]
 congr 1
 by_cases h:k∈q
 ·rw [aj h,i3,bV h]
  rfl
 ·rw [aa h,i3,b3 h]
  rfl
def cT(rs:List Nat→Addr)(qs:List (List Nat)):List (List Key×V):=qs.map fun q=>(aA q,V.ref (rs q))
structure Ma (H:Hp) (n:Nat) (L:aE) (D:Addr) (rs:List Nat→Addr) (qs:List (List Nat)):Prop where
 d:H D=some (.dT (cT rs qs))
 r:∀q∈qs,∃ys,H (rs q)=some (.lst ys)∧oN H n L q (aQ n q) ys
def Wj:Sp:=fun vs H Q _=>∃(tp:Addr) (n:Nat) (L:aE),vs=[.ref tp]∧dS H tp n L∧gR n L∧n≤9∧L.length≤200 ∧
 ∀(H':Hp) (D:Addr) (rs:List Nat→Addr),ao H H'→H D=none→(∀q∈ar n,H (rs q)=none)→Ma H' n L D rs (ar n)→Q (.ref D) H'
theorem Bw(rs:List Nat→Addr):∀{qs:List (List Nat)} {q:List Nat},q∈qs→a7 (cT rs qs) (aA q)=some (.ref (rs q))
 | [],_,h=>by cases h
 | r::qs,q,h=>by
  by_cases e:r=q
  ·subst e
   exact gD rfl
  ·have hq:q∈qs:=(bU.mp h).resolve_left fun z=>e z.symm
   exact (fJ fun z=>e (y6 z)).trans (Bw rs hq)
theorem Mb(rs:List Nat→Addr):∀{qs:List (List Nat)} {q:List Nat},q∉qs→a7 (cT rs qs) (aA q)=none
 | [],_,_=>rfl
 | r::qs,q,h=>by have e:r≠q:=fun z=>h (z▸cw ..);exact (fJ fun z=>e (y6 z)).trans (Mb rs fun z=>h (cA _ z))
variable {kvs:List (List Key×V)}
theorem Mc{xs:List V}(h:jr H kvs xs)(k:∀b ys,H b=some (.tup ys)→H' b=some (.tup ys)):jr H' kvs xs:=⟨h.1,fun i x kv hx hk=>by obtain ⟨b,e,eb⟩:=h.2 i x kv hx hk;exact ⟨b,e,k _ _ eb⟩⟩
variable {ρ:St→St} {te:TE} {σ:St} {Q:VK} {a:Addr}
theorem Wl{tt:TT}{tl:TE}(c:V→Bool)
  (hl:∀R:VK,R (.ref a) H→tl σ H R)
  (h:H a=some (.dT kvs)∨∃o,H a=some (.aW o (.dT kvs))) (hn:kvs.length<sizeLine)
  (test:∀(xs:List V) (Hf:Hp),jr H kvs xs→(∀b u,b≠a→H b=some u→Hf b=some u)→∀x∈xs,∀(Hc:Hp) (R:Bool→Hp→Prop),ao Hf Hc→R (c x) Hc→tt (some x::ρ σ) Hc R)
  (elem:∀(x:V) (Hc:Hp) (R:VK),R x Hc→te (some x::ρ σ) Hc R)
  (fin:∀(o:Obj) (xs:List V) (D:Addr) (Hc:Hp),jr H kvs xs→Hc a=some (.aW o (.dT kvs))→(∀b u,b≠a→H b=some u→Hc b=some u)→H D=none→Hc D=some (.lst (xs.filter c))→Q (.ref D) Hc):hV (FE tl) ρ tt te σ H Q:=by
 have main:∀(o:Obj) (Hf:Hp),Hf a=some (.aW o (.dT kvs))→jr Hf kvs (keysOf o)→jr H kvs (keysOf o)→(∀b u,b≠a→H b=some u→Hf b=some u)→(∀D,Hf D=none→H D=none)→hV (fun _ H R=>R (nG a o kvs) H) ρ tt te σ Hf Q:=fun o Hf ef ko Bz kf kn=>by
  refine Fg (xs:=keysOf o) c (fun R k=>k _ _ (ao.refl _) (LZ ef ko)) (by rw [ko.1];exact hn) (fun x hx Hc R sc hR=>test _ Hf Bz kf x hx Hc R sc hR) elem fun D Hc nD sc eD=>?_
  exact fin o _ D Hc Bz (sc _ _ ef) (fun b u ne e=>sc _ _ (kf b u ne e)) (kn D nD) eD
 refine hl _ ⟨a,kvs,rfl,?_⟩;rcases h with h | ⟨o,h⟩
 ·refine .inl ⟨h,fun o ko=>main o _ au ko (Mc ko fun b ys e=>by
   by_cases z:b=a;·rw [z,au] at e;cases e
   ·rwa [aM z] at e) (fun b u ne e=>(aM ne).trans e) fun D e=>?_⟩
  by_cases z:D=a
  ·rw [z,au] at e
   cases e
  ·rwa [aM z] at e
 ·exact .inr ⟨o,h,fun ko=>main o H h ko ko (fun _ _ _ e=>e) fun _ e=>e⟩
structure Md (J:It) (Z:List (V×V)) (H1:Hp):Prop where
 go:∀i Hc,ao H1 Hc→i<Z.length→J.go i Hc
 df:∀i Hc v H',ao H1 Hc→J.df i Hc v H'→ao Hc H'∧∀z,Z[i]?=some z→∃T,v=.ref T∧H' T=some (.tup [z.1,z.2])
 stop:∀i Hc,ao H1 Hc→Z.length≤i→J.stop i Hc
def Wm(H:Hp)(us:List V)(Z:List (V×V)):Prop:=us.length=Z.length∧∀(i:Nat) (v:V) (z:V×V),us[i]?=some v→Z[i]?=some z→∃b,v=.ref b∧H b=some (.tup [z.1,z.2])
variable {K:aK} {Z:List (V×V)}
theorem Wn{us:List V}{H1:Hp}(h:H1 a=some (.lst us))(hZ:Wm H1 us Z):Md (i9 K a) Z H1:=by
 have js:kB (i9 K a) us H1:=kC (.of h);refine ⟨fun i Hc s hi=>js.go i Hc s (by rw [hZ.1];exact hi),fun i Hc v H' s y=>?_,fun i Hc s hi=>js.stop i Hc s (by rw [hZ.1];exact hi)⟩
 obtain ⟨rfl,hx⟩:=js.df i Hc v H' s y;refine ⟨ao.refl _,fun z hz=>?_⟩;have hi:i<us.length:=by rw [hZ.1];exact (bx.mp hz).1
 obtain ⟨b,e,g⟩:=hZ.2 i v z (hx hi) hz;exact ⟨b,e,s _ _ g⟩
theorem Wo{wi:TI}(f:V×V→V)(eV:∀R:It→Hp→Prop,(∀J H1,ao H H1→Md J Z H1→R J H1)→wi σ H R)(hn:Z.length<sizeLine)
  (step:∀z∈Z,∀(Hc:Hp) (R:VK),ao H Hc→R (f z) Hc→te (some z.1::some z.2::ρ σ) Hc R)
  (fin:∀D Hc,H D=none→ao H Hc→Hc D=some (.lst (Z.map f))→Q (.ref D) Hc):m7 K wi ρ (fun _ H Q=>Q true H) te σ H Q:=by
 refine eV _ fun J H1 s1 js=>?_;intro D nD;refine ⟨fun i m us Hc=>m=Z.length-i∧i≤Z.length∧Hc D=some (.lst us)∧ao H1 Hc∧us.length≤i∧us=(Z.take i).map f,⟨_,rfl,bG _,au,fG (ao.refl H1) nD,aC _,rfl⟩,?_⟩;rintro i m us Hc ⟨rfl,hi,eD,sH,lu,hL⟩;refine ⟨eD,?_⟩;by_cases aT:i<Z.length
 ·refine .inr ⟨js.go i Hc sH aT,fun v H' hy=>?_⟩
  obtain ⟨s',k⟩:=js.df i Hc v H' sH hy;obtain ⟨T,rfl,eT⟩:=k Z[i] (by simp [aT])
  have tk:Z.take (i+1)=Z.take i++[Z[i]]:=by rw [iZ,bg aT];rfl
  have mz:Z[i]∈Z:=cB aT;generalize Z[i]=z at eT tk mz;refine ⟨T,_,_,rfl,.of eT,?_⟩;dsimp only;rw [aj rfl];refine step z mz _ _ (s1.trans (sH.trans s')) ?_;refine ⟨s' _ _ eD,by lia,Z.length-(i+1),by lia,rfl,aT,au,fG (sH.trans s') nD,by simp;lia,?_⟩
  rw [tk,fC,←hL];rfl
 ·have e:i=Z.length:=by lia
  subst e;rw [gh] at hL;subst hL;exact .inl ⟨js.stop _ Hc sH (aC _),fin D Hc (none_of s1 nD) (s1.trans sH) eD⟩
def eG(H:Hp)(n:Nat)(L:aE)(C:Addr)(rs:List Nat→Addr):Prop:=(H C=some (.dT (cT rs (ar n)))∨∃o,H C=some (.aW o (.dT (cT rs (ar n)))))∧∀q∈ar n,∃ys,H (rs q)=some (.lst ys)∧oN H n L q (aQ n q) ys
def Wq:Sp:=fun vs H Q _=>∃(n:Nat) (L:aE) (C:Addr) (rs:List Nat→Addr),vs=[.int (n:Int),.ref C]∧n≤9∧eG H n L C rs ∧
 ∀(H':Hp) (D:Addr) (qs:List (List Nat)),(∀b o,b≠C→H b=some o→H' b=some o)→eG H' n L C rs→H D=none→H' D=some (.dT (wD (wW n L) qs))→qs.Perm (ar n)→Q (.ref D) H'
def BA(H:Hp)(W:List Nat→Int):V×V→V:=fun z=>match z.1,z.2 with
 | .ref b,.int c=>match H b with
  | some (.tup xs)=>.int (c+W (xs.map yO))
  | _=>.aS
 | _,_=>.aS
theorem Me{r:List Nat}{c:Int}(h:H b=some (.tup (r.map fun k:Nat=>V.int (k:Int)))):BA H W (.ref b,.int c)=.int (c+W r):=by
 unfold BA;dsimp only;rw [h];dsimp only;rw [bw]
 congr 3
 exact (g8 fun k _=>VQ k).trans (ph _)
def qb:List (List Nat):=ar 5++[0,0]::((ar 5).filter fun q=>decide (1<q.length)).map List.reverse
def FH(q:List Nat):Int:=reduceHash (Builtin.Tuple.tupleHashOf (q.map fun k:Nat=>hashInt (k:Int)))
theorem Wr:(qb.map FH).Nodup:=by decide +kernel
theorem Mf{α β:Type}{f:α→β}:∀{l:List α},(l.map f).Nodup→∀a∈l,∀b∈l,f a=f b→a=b
 | [],_,a,ha,_,_,_=>by cases ha
 | x::l,h,a,ha,b,hb,e=>by
  obtain ⟨h1,h2⟩:=fB.mp (show (f x::l.map f).Nodup from h);rcases bU.mp ha with e1 | Mg
  ·rcases bU.mp hb with e2 | fE
   ·exact e1.trans e2.symm
   ·exact absurd (b7.mpr ⟨b,fE,by rw [←e1];exact e.symm⟩) h1
  ·rcases bU.mp hb with e2 | fE
   ·exact absurd (b7.mpr ⟨a,Mg,by rw [←e2];exact e⟩) h1
   ·exact Mf h2 a Mg b fE e
theorem Mh{α β:Type}{f:α→β}:∀{l:List α},l.Nodup→(∀a∈l,∀b∈l,f a=f b→a=b)→(l.map f).Nodup
 | [],_,_=>qE
 | x::l,h,i=>by obtain ⟨h1,h2⟩:=fB.mp h;refine fB.mpr ⟨fun m=>?_,Mh h2 fun a ha b hb=>i a (cA _ ha) b (cA _ hb)⟩;obtain ⟨y,hy,e⟩:=b7.mp m;exact h1 (i y (cA _ hy) x cw e▸hy)
def Mi(kvs:List (List Key×V)):Prop:=∀kv∈kvs,∃q∈qb,kv.1=aA q
end My
namespace L2
open PySem PySem.Spec PyProof.Rows My
theorem Mj{P:Program}{w:World}(q:List Nat):tupleKeyHash (eO P w) (aA q)=FH q:=by unfold tupleKeyHash FH aA;rw [bw];rfl
section
variable {prog:Program} {w:World} {A:Around} {E:aJ} {s:Shared}
variable {es:Array DictEntry}
theorem Ws(hn:(es.toList.map (·.hash)).Nodup)(c:Int):(es.filter (·.hash == c)).size≤1:=by
 rw [←fA,Array.toList_filter];generalize es.toList=l at hn
 induction l with
 | nil=>simp
 | cons x l ih=>
  obtain ⟨h1,h2⟩:=fB.mp (show (x.hash::l.map (·.hash)).Nodup from hn);rw [i3]
  split
  ·rename_i hx
   have:l.filter (·.hash == c)=[]:=List.filter_eq_nil_iff.mpr fun y hy z=>h1 (b7.mpr ⟨y,hy,(eq_of_beq z).trans (eq_of_beq hx).symm⟩);rw [this];simp
  ·exact ih h2
theorem Wt{a:Addr}{Q:Bool→Shared→Prop}(hT:s.TypeIs (.ref a) "tuple")(h:Q false s):wpAny (model prog w) A (Builtin.Dict.quietEq (.ref a)) Q E s:=by unfold Builtin.Dict.quietEq;exact ae (xI hT F.slot_tuple_eq.lookup (aB h))
variable {nm:String} {d:Addr} {ep:Nat}
theorem Wu{Q:Array DictEntry→Shared→Prop}(hm:dy s.heap d es ep)(ht:∀e∈es.toList,∃a,e.key=.ref a∧s.TypeIs (.ref a) "tuple")(hn:(es.toList.map (·.hash)).Nodup)(h:Q es s) :
  wpAny (model prog w) A (Builtin.Dict.entriesForEmpty nm d) Q E s:=by
 obtain ⟨o,ho,hc,hd⟩:=hm;unfold Builtin.Dict.entriesForEmpty;refine ae (i4 ho hd ?_);refine ae ?_;rw [←Array.forIn_toList];refine wpAny_forIn_list _ (fun rest r s'=>s'=s∧∀e∈rest,∃a,e.key=.ref a∧s.TypeIs (.ref a) "tuple") _ ?_ ?_ _ _ ⟨rfl,ht⟩
 ·rintro e rest r s' ⟨rfl,hJ⟩
  obtain ⟨a,ea,hT⟩:=hJ e cw;rw [ea];refine ae (Wt hT ?_);have hf:=Ws hn e.hash;simp only [xR,iX];rw [aa (by lia)]
  exact aB ⟨rfl,fun e he=>hJ e (cA _ he)⟩
 ·rintro r s' ⟨rfl,_⟩
  exact aB h
variable {o:Addr}
theorem Wv{n8:Nat}{Q:Unit→Shared→Prop}(FI:d≠o)(FJ:(o == sysModules)=false)(hd:dy s.heap d #[] n8)(ho:dy s.heap o es ep)(h0:es.isEmpty=false)(hz:es.size≤sizeLine)
  (ht:∀e∈es.toList,∃a,e.key=.ref a∧s.TypeIs (.ref a) "tuple") (hn:(es.toList.map (·.hash)).Nodup)
  (hQ:∀h',dy h' d es (n8+1)→Heap.SameBut d s.heap h'→Q () {s with heap:=h'}):wpAny (model prog w) A (Builtin.Dict.mergeDict nm d o) Q E s:=by
 obtain ⟨od,jm,fU,jV⟩:=id hd;obtain ⟨oo,Ww,hco,Wx⟩:=id ho;have D9:(es.all fun e=>(keyPart e.key).isSome)=false:=by
  rw [ub];intro z;rw [Array.all_eq_true] at z;have hs:0<es.size:=by rw [Nat.pos_iff_ne_zero];intro z0;rw [Array.isEmpty_iff.mpr (Array.eq_empty_of_size_eq_zero z0)] at h0;cases h0
  obtain ⟨a,ea,_⟩:=ht es[0] (Array.getElem_mem_toList hs);have:=z 0 hs;rw [ea] at this;cases this
 unfold Builtin.Dict.mergeDict;rw [aa (by simpa using FI)]
 unfold Builtin.Dict.showsAll;rw [aa (by rw [FJ];exact cj)]
 refine ae (aB ?_);refine ae (i4 Ww Wx ?_);dsimp only;rw [D9];simp only [ua,xR,iX];refine ae (i4 jm jV ?_);rw [aj (show (#[]:Array DictEntry).isEmpty=true from rfl)];refine ae (Wu ho ht hn ?_);rw [h0];simp only [xR,iX];exact ae (wpAny_updateDictKeysTo jm jV (aB (hQ _ ⟨_,qu _ jm (Obj.isFreed_of_dict (Ai jV _)),fU.mapDictKeys _,Ai jV _⟩ (jC ..))) (by lia))
theorem Wy{Q:aJ}(FJ:(o == sysModules)=false)(ho:dy s.heap o es ep)(h0:es.isEmpty=false)(hz:es.size≤sizeLine)
  (ht:∀e∈es.toList,∃a,e.key=.ref a∧s.TypeIs (.ref a) "tuple") (hn:(es.toList.map (·.hash)).Nodup)
  (h:∀h',dy h' s.heap.objs.size es 1→Heap.SameBut s.heap.objs.size (s.heap.push {cls:=.type "dict",data:=.dict #[]}) h'→Q (.ref s.heap.objs.size) {s with heap:=h'}) :
  wpAny (model prog w) A (call (.type "dict") [.ref o]) Q E s:=by
 refine callType_codes (Q₁:=fun obj s₁=>obj=.ref s.heap.objs.size∧s₁={s with heap:=s.heap.push {cls:=.type "dict",data:=.dict #[]}}) F.kt_called_dict (F.kt_typeCall_dict_1 _) F.entry_dict_init (kt_code_dict_new _ ⟨rfl,rfl⟩) ?_;rintro obj s₁ ⟨rfl,rfl⟩;have AE:dy (s.heap.push {cls:=.type "dict",data:=.dict #[]}) s.heap.objs.size #[] 0:=⟨_,cK _ rfl,⟨rfl,rfl,rfl⟩,rfl⟩;have kd:dy (s.heap.push {cls:=.type "dict",data:=.dict #[]}) o es ep:=ho.to fun _ e=>bK _ e;have Wz:∀e∈es.toList,∃a,e.key=.ref a∧({s with heap:=s.heap.push {cls:=.type "dict",data:=.dict #[]}}:Shared).TypeIs (.ref a) "tuple":=fun e he=>by obtain ⟨a,ea,ob,rX,hc⟩:=ht e he;exact ⟨a,ea,ob,bK _ rX,hc⟩
 have FI:s.heap.objs.size≠o:=by obtain ⟨_,hg,_⟩:=ho;exact fun e=>absurd (aZ hg) (by rw [e];exact dI _)
 have Mk:=dy.ty (s:={s with heap:=s.heap.push {cls:=.type "dict",data:=.dict #[]}}) AE;have FK:=dy.ty (s:={s with heap:=s.heap.push {cls:=.type "dict",data:=.dict #[]}}) kd;refine ⟨Mk,F.args_dict_init_2 _ _,?_⟩;unfold Builtin.«dict.__init__»;refine ae ?_;unfold Builtin.Dict.selfAndRest;refine ae (Ab Mk ?_);show wpAny _ _ (pure (s.heap.objs.size,[Value.ref o])) _ _ _;refine aB ?_;show wpAny _ _ (Builtin.Dict.updateFrom "dict.__init__" s.heap.objs.size (.ref o) [] .none) _ _ _;unfold Builtin.Dict.updateFrom;refine ae (xM FK ?_);rw [aa (by decide)]
 refine ae ?_;unfold Builtin.Dict.merge;refine ae ?_;unfold Builtin.Dict.readDirectly;refine ae (xK FK isSubtype_dict_dict ?_);simp only [xQ,jB,gg];refine ae (xI FK F.slot_dict_iter.lookup (aB ?_));simp only [beq_self_eq_true,iX];refine ae (aB ?_);refine Wv (s:={s with heap:=s.heap.push {cls:=.type "dict",data:=.dict #[]}}) FI FJ AE kd h0 hz Wz hn fun h' mR dY=>?_;show wpAny _ _ (Builtin.Dict.addKeywords s.heap.objs.size [] >>= _) _ _ _;exact ae (aB (aB ⟨rfl,h h' mR dY⟩))
end
def WA:List V→Hp→VK→Prop:=fun xs H Q=>∃d kvs,xs=[.ref d]∧Rd H d (.dT kvs)∧kvs≠[]∧Mi kvs∧∀p,H p=none→Q (.ref p) (upd H p (.dT kvs))
theorem FL{X:Cx}:eQ X (.type "dict") WA:=by
 intro pins s σ H xs us Q I r h;obtain ⟨d,kvs,rfl,hp,h0,ok,q⟩:=h;obtain ⟨u,rfl,ru⟩:=vals1 r;cases ru;obtain ⟨z,sys,xs,rel,o,es,ep,g,c,dd,e4,za,nd⟩:=rK I.ay hp;have lk:kvs.length=xs.length:=Paired.length rel;have sz:es.size=xs.length:=lG e4;have Ml:∀x∈xs,∃q∈qb,x.1=aA q:=fun x hx=>by obtain ⟨kv,hk,ek,_⟩:=LS rel x hx;obtain ⟨q,hq,e⟩:=ok kv hk;exact ⟨q,hq,ek.symm.trans e⟩
 have hn:(es.toList.map (·.hash)).Nodup:=by
  rw [e4,bw];have e5:xs.map ((fun e:DictEntry=>e.hash) ∘ entryOfKey (tupleKind (eO X.prog X.w)))=(xs.map (·.1)).map (tupleKeyHash (eO X.prog X.w)):=by rw [bw];rfl
  rw [e5];refine Mh nd fun a ha b hb e=>?_;obtain ⟨x,hx,rfl⟩:=b7.mp ha;obtain ⟨y,hy,rfl⟩:=b7.mp hb;obtain ⟨q1,m1,e1⟩:=Ml x hx;obtain ⟨q2,m2,e2⟩:=Ml y hy;rw [e1,e2,Mj,Mj] at e;rw [e1,e2,Mf Wr q1 m1 q2 m2 e]
 have ou:es.isEmpty=false:=by rw [ub];intro z0;have:es = #[]:=Array.isEmpty_iff.mp z0;rw [this] at sz;exact h0 (Dv (by rw [lk,←sz];rfl))
 refine Wy sys ⟨o,g,c,dd⟩ ou (by lia) (fun e he=>?_) hn fun h' mR dY=>?_
 ·rw [e4] at he
  obtain ⟨x,hx,rfl⟩:=b7.mp he;exact ⟨_,rfl,IsTupleKey.typeIs (za x hx)⟩
 ·have kk:∀b u,s.heap.get? b=some u→h'.get? b=some u:=fun b u hq=>(dY.2 b (bM (aZ hq))).trans (bK _ hq)
  obtain ⟨o',g',c',ky⟩:=mR;have fr:=I.ay.fresh (aC s.heap.objs.size);refine ⟨.ref s.heap.objs.size,_,I.laid (o:=.dT kvs) (t':=s.toks) kk (aC _) ⟨z,zQ.mpr (Ne.symm (bM I.big)),xs,rel.keeps fun b ys e=>?_,o',es,1,g',c',ky,e4,nd⟩,rfl,q _ fr⟩;rw [aM (fun z=>by rw [z,fr] at e;cases e)]
  exact e
open PySem PySem.Spec PyProof.Rows
theorem Vals.rev{xs:List V}{us:List Value}(h:Vals xs us):Vals xs.reverse us.reverse:=by
 have hl:=h.length;refine yi (by simp [hl]) fun i x u h1 h2=>?_
 have hi:i<xs.length:=by simpa using (bx.mp h1).1
 rw [List.getElem?_reverse hi] at h1;rw [List.getElem?_reverse (by lia),←hl] at h2
 obtain ⟨u',e,r⟩:=h.get h1;rw [h2] at e;cases e;exact r
section
variable {X:Cx} {e:Expr} {te:TE} {pos p2:Pos}
end
section
variable {prog:Program} {w:World} {K:Type} [DecidableEq K] {knd:HeapKind prog w K} {A:Around} {E:aJ} {s:Shared}
theorem erase_filter{k:K}:∀{xs:List (K×Addr×Value)} {j:Nat} {p:Addr×Value},(xs.map (·.1)).Nodup→xs[j]?=some (k,p)→xs.eraseIdx j=xs.filter fun x=>decide (x.1≠k)
 | [],_,_,_,h=>by simp at h
 | x::xs,0,p,hn,h=>by
  obtain ⟨h1,h2⟩:=fB.mp (show (x.1::xs.map (·.1)).Nodup from hn);have e:x=(k,p):=by simpa using h
  subst e;rw [i3,aa (by simp)]
  symm
  exact List.filter_eq_self.mpr fun y hy=>bV fun z=>h1 (b7.mpr ⟨y,hy,z⟩)
 | x::xs,j+1,p,hn,h=>by
  obtain ⟨h1,h2⟩:=fB.mp (show (x.1::xs.map (·.1)).Nodup from hn);have h:xs[j]?=some (k,p):=by simpa using h
  have e:x.1≠k:=fun z=>h1 (b7.mpr ⟨(k,p),iz h,z.symm⟩);rw [i3,aj (bV e)];show x::xs.eraseIdx j=_;rw [erase_filter h2 h]
theorem Mm{α β:Type}(f:α→β):∀(l:List α) (j:Nat),(l.map f).eraseIdx j=(l.eraseIdx j).map f
 | [],_=>rfl
 | _::_,0=>rfl
 | x::l,j+1=>by show f x::(l.map f).eraseIdx j=f x::(l.eraseIdx j).map f;rw [Mm f l j]
variable {d a:Addr} {xs:List (K×Addr×Value)} {k:K} {p:Addr×Value}
theorem WB{Q:Option DictEntry→Shared→Prop}(hu:knd.room A)(uK:knd.is s.heap k a)(hm:s.heap.DictOfH knd d xs)(hp:atKey xs k=some p)(hz:xs.length≤sizeLine)
  (h:∀h' e,e.val=p.2→h'.DictOfH knd d (xs.filter fun x=>decide (x.1≠k))→Heap.SameBut d s.heap h'→Q (some e) {s with heap:=h',toks:=s.toks+knd.draws k}):wpAny (model prog w) A (Builtin.Dict.takeOut d (.ref a)) Q E s:=by
 obtain ⟨o,es,ep,ho,hc,hd,he,za,hn⟩:=hm;have sz:=lG he;unfold Builtin.Dict.takeOut
 try with_reducible refine gX ?_
 refine ae (knd.pyHash hu uK (ae (wpAny_dictFind_heap (s:={s with toks:=s.toks+knd.draws k}) hu uK ho hd he za hn ?_ ?_)))
 ·intro Fy
  rw [atKey_none_of_get Fy] at hp;cases hp
 ·intro j q hj
  rw [atKey_of_get hn hj] at hp;cases hp;have dh:es[j]?=some (entryOfKey knd (k,p)):=by rw [entry_at he j,hj];rfl
  refine ae (i4 (s:={s with toks:=s.toks+knd.draws k}) ho hd ?_);rw [dh]
  refine ae (wpAny_updateDictKeys (hz:=by lia) (s:={s with toks:=s.toks+knd.draws k}) ho hd (aB (h _ _ rfl ⟨_,_,ep+1,qu _ ho (Obj.isFreed_of_dict (Ai hd _)),
   hc.mapDictKeys _,Ai hd _,?_,fun x hx=>knd.keeps (za x (cG.mp hx).1) ho hd (jC ..),List.Nodup.sublist (List.Sublist.map _ List.filter_sublist) hn⟩ (jC ..))))
  have aT:j<es.size:=(Dm.mp dh).1;unfold Array.eraseIdxIfInBounds;rw [dif_pos aT,Array.toList_eraseIdx,he,Mm,erase_filter hn hj]
theorem WC{Q:aJ}(hu:knd.room A.in1)(uK:knd.is s.heap k a)(hm:s.heap.DictOfH knd d xs)(hp:atKey xs k=some p)(hz:xs.length≤sizeLine)
  (h:∀h',h'.DictOfH knd d (xs.filter fun x=>decide (x.1≠k))→Heap.SameBut d s.heap h'→Q p.2 {s with heap:=h',toks:=s.toks+knd.draws k}):wpAny (model prog w) A (call (.builtin "dict.pop") [.ref d,.ref a]) Q E s:=by
 have hT:=hm.typeIs;refine lE PySem.F.slot_dict_pop hT PySem.F.entry_dict_pop ?_ (PySem.F.args_dict_pop_2 _ _);unfold Builtin.«dict.pop»;refine ae ?_;unfold Builtin.Dict.keyAndDefault;refine ae (Ab hT ?_);show wpAny _ _ (pure (d,Value.ref a,none)) _ _ s;refine aB ?_;obtain ⟨o,es,ep,ho,hc,hd,he,za,hn⟩:=id hm;have WD:xs≠[]:=fun z=>by rw [z] at hp;cases hp
 have WE:es.isEmpty=false:=by rw [ub];intro z;have e1:es = #[]:=Array.isEmpty_iff.mp z;have sz:=lG he;rw [e1] at sz;exact WD (Dv sz.symm)
 dsimp only;rw [aa (show ¬((keyPart (Value.ref a)).isSome=true) from cj)];refine ae (i4 ho hd (ae (aB ?_)));rw [WE];simp only [jB,gg];refine ae (WB hu uK hm hp hz fun h' e ev mR dY=>?_);simp only [Option.isNone_some,jB,gg];exact ae (qH (aB ⟨e.val,rfl,by rw [ev];exact h h' mR dY⟩))
end
theorem KT.drop{H:Hp}{kvs:List (List Key×V)}{xs:List (List Key×Addr×Value)}(r:KT H kvs xs)(k:List Key):KT H (eE kvs k) (xs.filter fun x=>decide (x.1≠k)):=by
 unfold eE;unfold KT at r ⊢
 induction r with
 | nil=>exact .nil
 | @cons p q ps qs h t ih=>
  rw [i3,i3];by_cases e:p.1=k
  ·have a:¬decide (p.1≠k)=true:=by simp [e]
   have b:¬decide (q.1≠k)=true:=by simp [h.1.symm.trans e]
   rw [aa a,aa b];exact ih
  ·have e':¬q.1=k:=fun z=>e (h.1.trans z)
   have a:decide (p.1≠k)=true:=by simp [e]
   have b:decide (q.1≠k)=true:=by simp [e']
   rw [aj a,aj b];exact .cons h ih
def WG(td ty:TE):TE:=fun σ H Q=>td σ H fun x H1=>∃a,x=.ref a∧KH H1 a∧ty σ H1 fun y H2=>∃kvs k b v,H2 a=some (.dT kvs)∧y=.ref b∧H2 b=some (.tup (k.map kV))∧a7 kvs k=some v∧Q v (upd H2 a (.dT (eE kvs k)))
section
variable {X:Cx} {o e:Expr} {apos d_ pos p2:Pos} {td ty te:TE}
theorem FN(hu:X.A.units+1<cLine)(ho:PE X o td)(he:PE X e ty)(m:M1 X o "pop" apos e d_):PE X (.Call (.Attribute o "pop" apos) [e] [] d_) (WG td ty):=by
 intro pins s σ H Q I h;refine wpAny_Call_method m.base m.eB m.line PySem.F.plainAttrs_dict PySem.F.slot_dict_pop PySem.F.type_dict_pop (aN (ho pins s σ H _ I h) fun u s1 ⟨x,H1,I1,rx,a,ex,d,q1⟩=>?_);subst ex;obtain rfl:u=Value.ref a:=rx;obtain ⟨t1,t2,_⟩:=Tr I1 d;refine ⟨t1,t2,?_⟩;rw [m.trees];refine Dj rfl (Calls.evalArgs_plain (Calls.spliced_cons (aN (he pins s1 σ H1 _ I1 q1) fun iv s2 ⟨y,H2,I2,ry,kvs,k,b,v,ea,ey,eb,l,q2⟩=>Calls.spliced_nil ?_)));subst ey;obtain rfl:iv=Value.ref b:=ry;obtain ⟨z,hd,xs,rel,dd⟩:=rN I2.ay ea;obtain ⟨w',hw,iE⟩:=jF.some_of (v:=v) (o:=(atKey xs k).map (·.2)) (by rw [←l];exact rel.val k)
 obtain ⟨p,hp,E2⟩:=z_.mp hw;refine WC (uo hu) (u_ I2.ay eb) dd hp (by rw [←Paired.length rel];exact z) fun h' ky hs=>?_
 obtain ⟨q,es,ep,hq,h2,h3,h4,_,h5⟩:=ky;refine ⟨v,_,Bf (ob:=.dT (eE kvs k)) I2 (by rw [ea];exact True.intro) hs ⟨q,hq⟩ ⟨a9 (Be kvs k) z,hd,_,(KT.drop rel k).keeps fun c ys ec=>?_,q,es,ep,hq,h2,h3,h4,h5⟩,by rw [E2];exact iE,q2⟩
 rw [aM (HI ec ea (fun z=>nomatch z))];exact ec
end
section
variable {prog:Program} {w:World} {A:Around} {E:aJ} {s:Shared}
variable {sl:Addr}
theorem WH{t:Tok}{n:Nat}{Q:Int×Int×Nat→Shared→Prop}(hs:s.heap.IsSliceOf sl .none .none (.int (-1) t))(h:Q ((n:Int)-1,-1,n) s):wpAny (model prog w) A (Builtin.Slice.sliceApplied (.ref sl) (pure (n:Int))) Q E s:=by
 obtain ⟨os,zb,Mn,BB⟩:=id hs;unfold Builtin.Slice.sliceApplied Builtin.Slice.sliceFields;refine ae (ae (uA zb BB (x:=.none) rfl (ae (uA zb BB (x:=.none) rfl (ae (uA zb BB (x:=.int (-1) t) rfl (aB ?_)))))));refine ae (HT.DX (.int (-1) t) ?_);show wpAny _ _ (if ((-1:Int) == 0)=true then _ else _) _ _ s
 rw [aa (by decide)]
 refine ae (HT.DX .none (ae (HT.DX .none (ae (aB ?_)))));show wpAny _ _ (pure ((n:Int)-1,(-1:Int),Builtin.Slice.slicePlaces ((n:Int)-1) (-1) (-1))) _ _ s;have e:Builtin.Slice.slicePlaces ((n:Int)-1) (-1) (-1)=n:=by
  unfold Builtin.Slice.slicePlaces;rw [aa (by decide)]
  by_cases h0:n=0
  ·subst h0
   rfl
  ·rw [aj (by lia),show (n:Int)-1 - -1-1=(n:Int)-1 by lia,show (- -1:Int)=1 from rfl,Int.ediv_one]
   lia
 rw [e];exact aB h
theorem WI(ak:List Value):((List.range ak.length).filterMap fun(k:Nat)=>ak.toArray[((ak.length:Int)-1+(k:Int) * -1).toNat]?).toArray=ak.reverse.toArray:=by
 congr 1
 have e:∀k∈List.range ak.length,ak.toArray[((ak.length:Int)-1+(k:Int) * -1).toNat]?=some (ak.getD (ak.length-1-k) .none):=fun k hk=>by
  have hk:=cu.mp hk;have hx:ak.length-1-k<ak.length:=by lia
  rw [show ((ak.length:Int)-1+(k:Int) * -1).toNat=ak.length-1-k by lia,eN,show ak[ak.length-1-k]?=some ak[ak.length-1-k] by simp [hx]]
  simp [hx]
 have e2:∀(l:List Nat) (f:Nat→Option Value) (g:Nat→Value),(∀k∈l,f k=some (g k))→l.filterMap f=l.map g:=fun l f g=>by
  induction l with
  | nil=>intro _;rfl
  | cons a l ih=>intro h;rw [List.filterMap_cons_some (h a cw),dq,ih fun k hk=>h k (cA _ hk)]
 rw [e2 _ _ _ e];refine g7 (by simp) fun k h1 h2=>?_
 rw [fQ,qD,List.getElem_reverse];have hk:ak.length-1-k<ak.length:=by simp at h2;lia
 rw [eN,show ak[ak.length-1-k]?=some ak[ak.length-1-k] by simp [hk]]
 rfl
theorem WJ{t:Addr}{ak:List Value}{tk:Tok}{Q:aJ}(ht:IsTup s.heap t ak.toArray)(hs:s.heap.IsSliceOf sl .none .none (.int (-1) tk))
  (h:Q (.ref s.heap.objs.size) {s with heap:=s.heap.push {cls:=.type "tuple",data:=.seq ak.reverse.toArray}}) (hsz:ak.length≤sizeLine):wpAny (model prog w) A (getItem (.ref t) (.ref sl)) Q E s:=by
 have BC:sizeOk (.seq ak.reverse.toArray):=by show ak.reverse.toArray.size≤sizeLine;rw [b4,List.length_reverse];exact hsz
 obtain ⟨os,zb,Mn,BB⟩:=id hs;have WK:s.TypeIs (.ref sl) "slice":=⟨os,zb,Mn⟩;unfold getItem
 try with_reducible refine gX ?_
 first | refine ae (aB ?_) | skip
 refine ae (wpAny_sequenceKey ht.typeIs (by decide) ?_)
 refine ae (Ac (name:=Str.ofString "__getitem__") ht.typeIs Dw
  (lE Dw ht.typeIs entry_tuple_getitem ?_ (args_tuple_getitem _ _)))
 show wpAny _ _ (Builtin.Tuple.tupleItemsOf (.ref t) >>= _) _ _ s;refine ae (tupleItemsOf_ ht ?_);refine ae (xM WK ?_);rw [aj (by decide)]
 rw [b4];refine ae (WH hs ?_);show wpAny _ _ (if ((((ak.length:Int)-1) == 0) && ((-1:Int) == 1) && (ak.length == ak.length))=true then _ else _) _ _ s
 rw [aa (by rw [show ((-1:Int) == 1)=false from by decide,ua,t7];exact cj),WI]
 first
  | exact ae (m:=Builtin.Tuple.tupleExact _) (g6 (aB ⟨_,rfl,aB h⟩) BC)
  | exact ae (m:=Builtin.Tuple.tupleExact _) (g6 (ae (aB (aB ⟨_,rfl,aB h⟩))) BC)
  | exact ae (ae (m:=Builtin.Tuple.tupleExact _) (g6 (aB (aB ⟨_,rfl,aB h⟩)) BC))
  | exact ae (ae (m:=Builtin.Tuple.tupleExact _) (g6 (aB ⟨_,rfl,aB h⟩) BC))
end
section
variable {X:Cx} {e:Expr} {te:TE} {pos p2:Pos}
def WL(K:aK)(te ts:TE):TE:=fun σ H Q=>te σ H fun x H1=>ts σ H1 fun y H2=>y=.int (-1)∧∃a xs,x=.ref a∧H2 a=some (.tup xs)∧∀p,H2 p=none→Q (.ref p) (upd H2 p (.tup xs.reverse))
theorem WM{st:Expr}{ts:TE}(he:PE X e te)(DK:PE X st ts):PE X (.Subscript e (.Slice none none (some st) p2) pos) (WL X.K te ts):=by
 intro pins s σ H Q I h;refine Subscript_ (aN (he pins s σ H _ I h) fun v s1 ⟨x,H1,I1,r1,q1⟩=>?_);refine wpAny_Slice ?_;rw [evalPart_none];refine aB ?_;refine aB ?_;rw [evalPart_some];refine aN (DK pins s1 σ H1 _ I1 q1) fun u s3 ⟨y,H3,I3,r3,q3⟩=>?_;obtain ⟨rfl,a,xs,rfl,hx,q⟩:=q3;obtain ⟨t,rfl⟩:=r3;cases r1;have I4:Inv X pins σ H3 {s3 with heap:=s3.heap.push {cls:=.type "slice",data:=.fields #[.none,.none,.int (-1) t]}}:=I3.kept (t':=s3.toks) fun b ob q=>bK _ q;obtain ⟨hz,ak,r,ht⟩:=(show b9 X.prog X.w H3 _ a (.tup xs) from I4.ay a _ hx);have hlen:=r.length;show wpAny (model X.prog X.w) X.A (subscriptTail e (.Slice none none (some st) p2) (.ref a) (.ref s3.heap.objs.size)) (EP X pins σ Q) X.xe {s3 with heap:=s3.heap.push {cls:=.type "slice",data:=.fields #[.none,.none,.int (-1) t]}};refine tail_any (ops:=[.ref a,.ref s3.heap.objs.size]) (IsTup.typeIs (s:={s3 with heap:=s3.heap.push {cls:=.type "slice",data:=.fields #[.none,.none,.int (-1) t]}}) ht) Dw.lookup ?_ (by with_unfolding_all rfl)
 refine WJ ht (Heap.IsSliceOf.new ..) ?_ (by lia)
 refine ⟨.ref (s3.heap.push {cls:=.type "slice",data:=.fields #[.none,.none,.int (-1) t]}).objs.size,_,I4.laid (t':=s3.toks) (o:=.tup xs.reverse) (fun b ob q=>bK _ q) (aC _) ?_,rfl,q _ (I4.ay.fresh (aC _))⟩;exact ⟨by rw [List.length_reverse];exact hz,_,r.rev,_,cK _ rfl,rfl,0,rfl⟩
end
end L2
namespace My
open PySem L2
variable {σ:St} {H:Hp} {a:Addr} {kvs:List (List Key×V)}
theorem WN{ρ:St→St}{te tl:TE}{Q:VK}(c:List Key→V)
  (hl:∀R:VK,R (.ref a) H→tl σ H R)
  (h:H a=some (.dT kvs)∨∃o,H a=some (.aW o (.dT kvs))) (hn:kvs.length<sizeLine)
  (elem:∀(Hf:Hp) (x:V) (b:Addr) (kv:List Key×V),(∀b u,b≠a→H b=some u→Hf b=some u)→kv∈kvs→x=.ref b→H b=some (.tup (kv.1.map kV))→Hf b=some (.tup (kv.1.map kV))→∀(R:VK),R (c kv.1) Hf→te (some x::ρ σ) Hf R)
  (fin:∀(o:Obj) (D:Addr) (Hc:Hp),Hc a=some (.aW o (.dT kvs))→(∀b u,b≠a→H b=some u→Hc b=some u)→H D=none→Hc D=some (.lst (kvs.map fun kv=>c kv.1))→Q (.ref D) Hc):hV (FE tl) ρ (fun _ H Q=>Q true H) te σ H Q:=by
 have main:∀(o:Obj) (Hf:Hp),Hf a=some (.aW o (.dT kvs))→jr Hf kvs (keysOf o)→jr H kvs (keysOf o)→(∀b u,b≠a→H b=some u→Hf b=some u)→(∀D,Hf D=none→H D=none)→hV (fun _ H R=>R (nG a o kvs) H) ρ (fun _ H Q=>Q true H) te σ Hf Q:=fun o Hf ef ko Bz kf kn=>by
  refine pP (xs:=keysOf o) (fun R k=>k _ _ (ao.refl _) (LZ ef ko)) (by rw [ko.1];exact hn) (fun _ i y _=>∀kv,kvs[i]?=some kv→y=c kv.1) (fun _ _ _ _ _ _ h _ _=>h) ?_ ?_
  ·intro D i x hx Hc R sc _ kc
   have hi:i<kvs.length:=by rw [←ko.1];exact (bx.mp hx).1
   have hk:kvs[i]?=some kvs[i]:=bg hi;obtain ⟨b,e,eb⟩:=Bz.2 i x _ hx hk;obtain ⟨b2,e2,nJ⟩:=ko.2 i x _ hx hk;have hb:b2=b:=by rw [e] at e2;cases e2;rfl
   rw [hb] at nJ;refine elem Hc x b kvs[i] (fun b u ne e=>sc _ _ (kf b u ne e)) (cB hi) e eb (sc _ _ nJ) R (kc _ Hc (ao.refl _) fun kv Mo=>?_);rw [hk] at Mo;cases Mo;rfl
  ·intro D ys Hc nD sc ly hP eD
   refine fin o D Hc (sc _ _ ef) (fun b u ne e=>sc _ _ (kf b u ne e)) (kn D nD) ?_;rw [eD]
   congr 2
   rw [ko.1] at ly;refine g7 (by rw [ly,aG]) fun i h1 h2=>?_
   rw [fQ];exact hP i _ (bg h1) _ (bg (by lia))
 refine hl _ ⟨a,kvs,rfl,?_⟩;rcases h with h | ⟨o,h⟩
 ·refine .inl ⟨h,fun o ko=>main o _ au ko (Mc ko fun b ys e=>by
   by_cases z:b=a;·rw [z,au] at e;cases e
   ·rwa [aM z] at e) (fun b u ne e=>(aM ne).trans e) fun D e=>?_⟩
  by_cases z:D=a
  ·rw [z,au] at e
   cases e
  ·rwa [aM z] at e
 ·exact .inr ⟨o,h,fun ko=>main o H h ko ko (fun _ _ _ e=>e) fun _ e=>e⟩
def kW(kvs:List (List Key×V))(q:List Nat):Int:=match a7 kvs (aA q) with
 | some (.int i)=>i
 | _=>0
structure jt (kvs:List (List Key×V)):Prop where
 ok:Mi kvs
 i:∀kv∈kvs,∃i,kv.2=.int i
variable {k:List Key}
theorem WO{v:V}:a7 kvs k=some v→(k,v)∈kvs:=by
 induction kvs with
 | nil=>intro h;cases h
 | cons p r ih=>
  intro h;by_cases e:p.1=k
  ·rw [gD e] at h
   cases h;subst e;exact cw
  ·rw [fJ e] at h
   exact cA _ (ih h)
variable {q:List Nat}
theorem jt.val(T:jt kvs)(h:(a7 kvs (aA q)).isSome=true):a7 kvs (aA q)=some (.int (kW kvs q)):=by obtain ⟨v,e⟩:=zW.mp h;obtain ⟨i,ei⟩:=T.i _ (WO e);dsimp only at ei;subst ei;unfold kW;rw [e]
theorem Mp{v:V}{kv:List Key×V}(h:kv∈putK kvs k v):kv∈kvs∨kv=(k,v):=by
 unfold putK at h
 split at h
 ·obtain ⟨p,hp,e⟩:=b7.mp h
  split at e
  ·rename_i z
   subst z;exact .inr e.symm
  ·subst e
   exact .inl hp
 ·rcases cH.mp h with h | h
  ·exact .inl h
  ·exact .inr (bY.mp h)
theorem jt.put(T:jt kvs)(hq:q∈qb)(i:Int):jt (putK kvs (aA q) (.int i)):=⟨fun kv h=>by
 rcases Mp h with h | rfl;·exact T.ok kv h
 ·exact ⟨q,hq,rfl⟩,fun kv h=>by
 rcases Mp h with h | rfl;·exact T.i kv h
 ·exact ⟨i,rfl⟩⟩
theorem jt.drop(T:jt kvs)(k:List Key):jt (eE kvs k):=⟨fun kv h=>T.ok kv (cG.mp h).1,fun kv h=>T.i kv (cG.mp h).1⟩
def rY(n:Nat)(kvs:List (List Key×V)):Prop:=∀q∈ar n,(a7 kvs (aA q)).isSome=true
variable {n:Nat}
theorem rY.put(h:rY n kvs)(k:List Key)(v:V):rY n (putK kvs k v):=fun q hq=>by
 rw [Kq]
 split
 ·rfl
 ·exact h q hq
theorem vk(n5:n≤5)(hq:q∈ar n):q∈qb:=by obtain ⟨h1,h2⟩:=cq.mp hq;exact cH.mpr (.inl (cq.mpr ⟨h1,fun x hx=>dA (h2 x hx) n5⟩))
theorem Mq:[0,0]∈qb:=cH.mpr (.inr cw)
theorem WQ(n5:n≤5)(hq:q∈ar n)(h:1<q.length):q.reverse∈qb:=by obtain ⟨h1,h2⟩:=cq.mp hq;exact cH.mpr (.inr (cA _ (b7.mpr ⟨q,cG.mpr ⟨cq.mpr ⟨h1,fun x hx=>dA (h2 x hx) n5⟩,bV h⟩,rfl⟩)))
variable {W:List Nat→Int} {qs:List (List Nat)}
theorem WR(n5:n≤5)(h:qs.Perm (ar n)):jt (wD W qs)∧rY n (wD W qs)∧(wD W qs).length=(ar n).length:=by
 refine ⟨⟨fun kv hk=>?_,fun kv hk=>?_⟩,fun q hq=>?_,?_⟩
 ·unfold wD at hk
  obtain ⟨q,hq,rfl⟩:=b7.mp hk;exact ⟨q,vk n5 (h.mem_iff.mp hq),rfl⟩
 ·unfold wD at hk
  obtain ⟨q,hq,rfl⟩:=b7.mp hk;exact ⟨_,rfl⟩
 ·rw [y7 W (h.mem_iff.mpr hq)]
  rfl
 ·unfold wD
  rw [aG,h.length_eq]
theorem Mr:∀{n:Nat},(ar n)[(ar n).length-1]?=some (List.range n)
 | 0=>rfl
 | n+1=>by
  have ih:=@Mr n;have h0:(ar n).length≠0:=fun z=>by rw [Dv z] at ih;cases ih
  show (ar n++(ar n).map (·++[n]))[(ar n++(ar n).map (·++[n])).length-1]?=_;rw [c_,aG,gG (by lia),bP,show (ar n).length+(ar n).length-1-(ar n).length=(ar n).length-1 by lia,ih,z7]
  rfl
def FO(n:Nat)(L:aE)(W:List Nat→Int)(q:List Nat):Prop:=∀p∈aQ n q,¬bW n L q p+W (aV q p)<W q
variable {L:aE} {d:Nat}
theorem WS(hq:q∈ar n)(h:¬FO n L W q):kU n L W d=false:=by rw [L9 (c:=fun q p=>bW n L q p) fun _ _ _ _=>rfl];rw [show ((ar n).all fun S=>decide (∀p∈aQ n S,¬bW n L S p+W (aV S p)<W S))=false from ?_,t7];rw [ub];intro z;have:=fP (iY.mp z q hq);exact h this
theorem Ms(h:∀q∈ar n,FO n L W q):kU n L W d=(decide (W (List.range n)≤0) && decide (W []=(d:Int))):=by rw [L9 (c:=fun q p=>bW n L q p) fun _ _ _ _=>rfl];rw [show ((ar n).all fun S=>decide (∀p∈aQ n S,¬bW n L S p+W (aV S p)<W S))=true from iY.mpr fun q hq=>bV (show ∀p∈aQ n q,¬bW n L q p+W (aV q p)<W q from h q hq),xJ]
def WT:Sp:=fun vs H Q _=>∃(n:Nat) (L:aE) (C T:Addr) (rs:List Nat→Addr) (kvs:List (List Key×V)) (d:Int),vs=[.ref C,.ref T,.int d]∧n≤9∧eG H n L C rs∧C≠T∧H T=some (.dT kvs)∧kvs.length≤600∧jt kvs ∧
 ∀(H':Hp) (b:Bool),(∀b o,b≠C→H b=some o→H' b=some o)→eG H' n L C rs→(∀d':Nat,d=(d':Int)→b=(nI n kvs && kU n L (kW kvs) d'))→Q (.bl b) H'
variable {D:Ends}
theorem kX{a b:TS}(J:St→Hp→Prop)(h1:∀R:St→Hp→Prop,(∀σ H,J σ H→R σ H)→a {D with nx:=R} σ H)(h2:∀σ H,J σ H→b D σ H):Ao a b D σ H:=h1 _ h2
def Kp(P C:Addr)(H H':Hp):Prop:=∀b o,b≠P→b≠C→H b=some o→H' b=some o
variable {P C:Addr}
theorem Kp.trans{H1 H2:Hp}(k:Kp P C H H1)(k':∀b o,b≠P→b≠C→H1 b=some o→H2 b=some o):Kp P C H H2:=fun b o h1 h2 e=>k' b o h1 h2 (k b o h1 h2 e)
structure cf (K:aK) (H0:Hp) (P a C:Addr) (ns:List Int) (n:Nat) (L:aE) (rs:List Nat→Addr) (H:Hp):Prop where
 kp:Kp P C H0 H
 bu:bt H P a
 iU:bz K (er P H) a (ns.map V.int)
 cost:eG H n L C rs
 rp:∀q∈ar n,rs q≠P
structure dz (K:aK) (H0:Hp) (P a C:Addr) (ns:List Int) (n:Nat) (L:aE) (rs:List Nat→Addr) (S:Addr) (bs:List V) (H:Hp):Prop where
 l:cf K H0 P a C ns n L rs H
 s:H S=some (.lst bs)
 b:e_ H bs (ar n)
 sp:S≠P
variable {b:Addr} {o:HO}
theorem bt.kY(p:bt H P a)(e:H b=some o)(h:∀xs,o≠.lst xs):b≠P:=fun z=>by obtain ⟨x,y,ep,_⟩:=p;rw [z,ep] at e;cases e;exact h _ rfl
variable {rs:List Nat→Addr}
theorem eG.ne(c:eG H n L C rs)(e:H b=some o)(h1:∀kvs,o≠.dT kvs)(h2:∀ob u,o≠.aW ob u):b≠C:=fun z=>by
 rcases c.1 with hc | ⟨ob,hc⟩;·rw [z,hc] at e;cases e;exact h1 _ rfl
 ·rw [z,hc] at e;cases e;exact h2 _ _ rfl
section
variable {K:aK} {H0 H H':Hp} {P a C S:Addr} {ns:List Int} {n:Nat} {L:aE} {rs:List Nat→Addr} {bs:List V}
variable {xs:List V}
theorem cf.tu(B:cf K H0 P a C ns n L rs H)(k:∀b o,b≠P→b≠C→(∀kvs,o≠.dT kvs)→H b=some o→H' b=some o)(e:H b=some (.tup xs)):H' b=some (.tup xs):=
 k b _ (bt.kY B.bu e fun _ z=>by cases z) (B.cost.ne e (fun _ z=>by cases z) fun _ _ z=>by cases z) (fun _ z=>by cases z) e
theorem cf.li(B:cf K H0 P a C ns n L rs H)(k:∀b o,b≠P→b≠C→(∀kvs,o≠.dT kvs)→H b=some o→H' b=some o)(n:b≠P)(e:H b=some (.lst xs)):H' b=some (.lst xs):=
 k b _ n (B.cost.ne e (fun _ z=>by cases z) fun _ _ z=>by cases z) (fun _ z=>by cases z) e
theorem cf.step(B:cf K H0 P a C ns n L rs H)(k:∀b o,b≠P→b≠C→(∀kvs,o≠.dT kvs)→H b=some o→H' b=some o)(kp:Kp P C H0 H')(bu:bt H' P a)
  (c:H' C=some (.dT (cT rs (ar n)))∨∃o,H' C=some (.aW o (.dT (cT rs (ar n))))):cf K H0 P a C ns n L rs H':=by
 refine ⟨kp,bu,?_,⟨c,fun q hq=>?_⟩,B.rp⟩
 ·have uV:∀{o:HO},er P H a=some o→a≠P∧H a=some o:=fun{o} e=>by
   unfold er at e
   split at e
   ·cases e
   ·rename_i z
    exact ⟨z,e⟩
  rcases B.iU with (h | ⟨o,h⟩) | h
  ·obtain ⟨z,e⟩:=uV h
   exact .inl (.inl (by rw [fk z];exact B.li k z e))
  ·obtain ⟨z,e⟩:=uV h
   refine .inl (.inr ⟨o,?_⟩);rw [fk z];refine k a _ z (fun y=>?_) (fun _ y=>by cases y) e
   rcases B.cost.1 with hc | ⟨ob,hc⟩;·rw [y,hc] at e;cases e
   ·rw [y,hc] at e;cases e
  ·exact .inr h
 ·obtain ⟨ys,e,r⟩:=B.cost.2 q hq
  exact ⟨ys,B.li k (B.rp q hq) e,r.dW fun b xs e=>B.tu k e⟩
theorem dz.kp(B:dz K H0 P a C ns n L rs S bs H):Kp P C H0 H:=B.l.kp
theorem dz.bu(B:dz K H0 P a C ns n L rs S bs H):bt H P a:=B.l.bu
theorem dz.iU(B:dz K H0 P a C ns n L rs S bs H):bz K (er P H) a (ns.map V.int):=B.l.iU
theorem dz.cost(B:dz K H0 P a C ns n L rs S bs H):eG H n L C rs:=B.l.cost
theorem dz.step(B:dz K H0 P a C ns n L rs S bs H)(k:∀b o,b≠P→b≠C→(∀kvs,o≠.dT kvs)→H b=some o→H' b=some o)(l:cf K H0 P a C ns n L rs H'):dz K H0 P a C ns n L rs S bs H':=
 ⟨l,B.l.li k B.sp B.s,⟨B.b.1,fun i v q h1 h2=>by obtain ⟨b,e,eb⟩:=B.b.2 i v q h1 h2;exact ⟨b,e,B.l.tu k eb⟩⟩,B.sp⟩
theorem cf.mono(B:cf K H0 P a C ns n L rs H)(s:ao H H'):cf K H0 P a C ns n L rs H':=
 B.step (fun b o _ _ _ e=>s _ _ e) (B.kp.trans fun b o _ _ e=>s _ _ e) (B.bu.mono s) (B.cost.1.imp (fun e=>s _ _ e) fun⟨o,e⟩=>⟨o,s _ _ e⟩)
theorem dz.mono(B:dz K H0 P a C ns n L rs S bs H)(s:ao H H'):dz K H0 P a C ns n L rs S bs H':=B.step (fun b o _ _ _ e=>s _ _ e) (B.l.mono s)
theorem cf.cp(B:cf K H0 P a C ns n L rs H):C≠P:=by
 rcases B.cost.1 with e | ⟨o,e⟩;·exact bt.kY B.bu e fun _ z=>by cases z
 ·exact bt.kY B.bu e fun _ z=>by cases z
theorem cf.next(B:cf K H0 P a C ns n L rs H)(s:aU P H H')(p:bt H' P a):cf K H0 P a C ns n L rs H':=
 B.step (fun b o nb _ _ e=>s.at nb e) (B.kp.trans fun b o nb _ e=>s.at nb e) p (B.cost.1.imp (fun e=>s.at B.cp e) fun⟨o,e⟩=>⟨o,s.at B.cp e⟩)
theorem dz.next(B:dz K H0 P a C ns n L rs S bs H)(s:aU P H H')(p:bt H' P a):dz K H0 P a C ns n L rs S bs H':=B.step (fun b o nb _ _ e=>s.at nb e) (B.l.next s p)
theorem cf.Mt(B:cf K H0 P a C ns n L rs H)(k:Kp P C H H')(p:bt H' P a)(c:eG H' n L C rs):cf K H0 P a C ns n L rs H':=B.step (fun b o h1 h2 _ e=>k b o h1 h2 e) (B.kp.trans k) p c.1
theorem cf.shown(B:cf K H0 P a C ns n L rs H)(k:∀b o,b≠C→H b=some o→H' b=some o)(c:eG H' n L C rs):cf K H0 P a C ns n L rs H':=by refine B.Mt (fun b o _ nc e=>k b o nc e) ?_ c;obtain ⟨x,y,e,h1,h2⟩:=B.bu;exact ⟨x,y,k _ _ B.cp.symm e,h1,h2⟩
theorem dz.shown(B:dz K H0 P a C ns n L rs S bs H)(k:∀b o,b≠C→H b=some o→H' b=some o)(c:eG H' n L C rs):dz K H0 P a C ns n L rs S bs H':=B.step (fun b o _ nc _ e=>k b o nc e) (B.l.shown k c)
variable {F:Addr} {kvs':List (List Key×V)}
theorem cf.put(B:cf K H0 P a C ns n L rs H)(e:H F=some (.dT kvs))(fn:H0 F=none)(fc:F≠C):cf K H0 P a C ns n L rs (upd H F (.dT kvs')):=by
 have fp:F≠P:=bt.kY B.bu e fun _ z=>by cases z
 have kk:∀b o,b≠F→H b=some o→upd H F (.dT kvs') b=some o:=fun b o nb e=>(aM nb).trans e;exact B.step (fun b o _ _ nd eb=>kk b o (fun z=>by rw [z,e] at eb;cases eb;exact nd _ rfl) eb) (fun b o np nc eb=>kk b o (fun z=>by rw [z,fn] at eb;cases eb) (B.kp b o np nc eb)) (B.bu.upd fp) (B.cost.1.imp (fun e=>kk _ _ fc.symm e) fun⟨o,e⟩=>⟨o,kk _ _ fc.symm e⟩)
theorem dz.put(B:dz K H0 P a C ns n L rs S bs H)(e:H F=some (.dT kvs))(fn:H0 F=none)(fc:F≠C):dz K H0 P a C ns n L rs S bs (upd H F (.dT kvs')):=
 B.step (fun b o _ _ nd eb=>(aM (fun z=>by rw [z,e] at eb;cases eb;exact nd _ rfl)).trans eb) (B.l.put e fn fc)
theorem cf.shape{t:Addr}(B:cf K H0 P a C ns n L rs H)(B':cf K H P a C ns n L rs H')(h:dS H t n L):dS H' t n L:=h.dW fun _ _ e=>B.tu (fun b o h1 h2 _ e=>B'.kp b o h1 h2 e) e
theorem cf.base(B:cf K H0 P a C ns n L rs H):cf K H P a C ns n L rs H:=⟨fun _ _ _ _ e=>e,B.bu,B.iU,B.cost,B.rp⟩
theorem cf.trans(B:cf K H0 P a C ns n L rs H)(B':cf K H P a C ns n L rs H'):cf K H0 P a C ns n L rs H':=⟨B.kp.trans B'.kp,B'.bu,B'.iU,B'.cost,B'.rp⟩
end
structure dm (H0:Hp) (C F:Addr) (n:Nat) (G:Prop) (kvs:List (List Key×V)) (H:Hp):Prop where
 f:H F=some (.dT kvs)
 fn:H0 F=none
 fc:F≠C
 told:jt kvs
 ne:kvs≠[]
 len:kvs.length≤40
 held:G→rY n kvs∧kvs.length≤32
section
variable {H0 H H':Hp} {C F P a:Addr} {n:Nat} {G:Prop} {kvs:List (List Key×V)}
theorem dm.at(h:dm H0 C F n G kvs H)(e:H' F=some (.dT kvs)):dm H0 C F n G kvs H':=⟨e,h.fn,h.fc,h.told,h.ne,h.len,h.held⟩
theorem dm.mono(h:dm H0 C F n G kvs H)(s:ao H H'):dm H0 C F n G kvs H':=h.at (s _ _ h.f)
theorem dm.next(h:dm H0 C F n G kvs H)(s:aU P H H')(p:bt H P a):dm H0 C F n G kvs H':=h.at (s.at (bt.kY p h.f fun _ z=>by cases z) h.f)
theorem dm.weak{G':Prop}(h:dm H0 C F n G kvs H)(g:G'→G):dm H0 C F n G' kvs H:=⟨h.f,h.fn,h.fc,h.told,h.ne,h.len,fun x=>h.held (g x)⟩
end
theorem Mu{v:V}:putK kvs k v≠[]:=fun z=>by have:=Kq kvs k k v;rw [z,aj rfl] at this;cases this
theorem WU{v:V}(h:(a7 kvs k).isSome=true):(putK kvs k v).length=kvs.length:=by unfold putK;rw [u6,aj h,aG]
theorem WV{j:List Key}(h:j≠k):a7 (eE kvs k) j=a7 kvs j:=by
 induction kvs with
 | nil=>rfl
 | cons p r ih=>
  by_cases e:p.1=k;·rw [Ts e,ih,fJ fun z=>h (z.symm.trans e)]
  ·rw [Tu e]
   by_cases e2:p.1=j;·rw [gD e2,gD e2]
   ·rw [fJ e2,fJ e2,ih]
theorem WW(n1:1≤n)(h:rY n kvs)(q:List Nat):eE kvs (aA q)≠[]:=fun z=>by
 have key:∀r∈ar n,r≠q→False:=fun r hr ne=>by have:=h r hr;rw [←WV (k:=aA q) fun e=>ne (y6 e),z] at this;cases this
 by_cases e:q=[]
 ·subst e
  refine key [0] (cq.mpr ⟨Ae _ _,fun x hx=>?_⟩) (fun e=>by cases e)
  rw [bY.mp hx];exact n1
 ·exact key [] (qa n) fun z=>e z.symm
def WX(K:aK):Sp:=fun vs H Q _=>∃(P a C U:Addr) (ns:List Int) (n:Nat) (L:aE) (rs:List Nat→Addr) (uk:List (List Key×V)),vs=[.ref P,.ref C,.ref U]∧bt H P a∧bz K (er P H) a (ns.map V.int)∧1≤n∧n≤5∧eG H n L C rs∧(∀q∈ar n,rs q≠P)∧U≠C∧H U=some (.dT uk)∧jt uk∧rY n uk∧uk.length≤32 ∧
 ∀(H':Hp) (R:Addr) (kvs:List (List Key×V)),Kp P C H H'→bt H' P a→eG H' n L C rs→H R=none→R≠C→H' R=some (.dT kvs)→jt kvs→kvs≠[]→kvs.length≤600→Q (.ref R) H'
section
variable {H0 H H':Hp} {C F P a:Addr} {n:Nat} {G G':Prop} {kvs:List (List Key×V)}
theorem dm.FP(h:dm H0 C F n G kvs H)(g:G)(n5:n≤5)(hq:q∈ar n)(i:Int):dm H0 C F n G (putK kvs (aA q) (.int i)) (upd H F (.dT (putK kvs (aA q) (.int i)))):=by obtain ⟨h1,h2⟩:=h.held g;have l:=WU (v:=.int i) (h1 q hq);exact ⟨au,h.fn,h.fc,h.told.put (vk n5 hq) i,Mu,by lia,fun _=>⟨h1.put _ _,by lia⟩⟩
theorem dm.rZ(h:dm H0 C F n G kvs H)(hq:q∈qb)(hl:kvs.length≤39)(ng:¬G')(i:Int):dm H0 C F n G' (putK kvs (aA q) (.int i)) (upd H F (.dT (putK kvs (aA q) (.int i)))):=
 ⟨au,h.fn,h.fc,h.told.put hq i,Mu,by have:=Bc kvs (aA q) (.int i);lia,fun g=>(ng g).elim⟩
theorem dm.FQ(h:dm H0 C F n G kvs H)(g:G)(n1:1≤n)(q:List Nat)(ng:¬G'):dm H0 C F n G' (eE kvs (aA q)) (upd H F (.dT (eE kvs (aA q)))):=
 ⟨au,h.fn,h.fc,h.told.drop _,WW n1 (h.held g).1 q,by have:=Be kvs (aA q);have:=(h.held g).2;lia,fun g=>(ng g).elim⟩
theorem dm.val(h:dm H0 C F n G kvs H)(g:G)(hq:q∈ar n):some (V.int (kW kvs q))=a7 kvs (aA q):=(h.told.val ((h.held g).1 q hq)).symm
end
def vn(H:Hp):V→Bool
 | .ref b=>match H b with
  | some (.tup q)=>decide (1<q.length)
  | _=>false
 | _=>false
theorem Mv{q:List V}(h:H b=some (.tup q)):vn H (.ref b)=decide (1<q.length):=by unfold vn;dsimp only;rw [h]
variable {xs:List V} {x:V}
theorem WY{lo hi:Option Int}(h:x∈jL xs lo hi):x∈xs:=by unfold jL at h;exact List.mem_of_mem_drop (List.mem_of_mem_take h)
theorem ju(h:H b=some (.tup (q.map fun k:Nat=>V.int (k:Int)))):H b=some (.tup ((aA q).map kV)):=by rw [h];unfold aA;rw [bw];rfl
theorem e_.mem(h:e_ H xs qs)(hx:x∈xs):∃q b,q∈qs∧x=.ref b∧H b=some (.tup (q.map fun k:Nat=>V.int (k:Int))):=by
 obtain ⟨i,hi⟩:=Ah hx;have hq:i<qs.length:=by rw [←h.1];exact (bx.mp hi).1
 obtain ⟨b,e,eb⟩:=h.2 i x _ hi (bg hq);exact ⟨_,b,cB hq,e,eb⟩
theorem qc{i:Int}(h0:0≤i)(h:i≤1000):gv i:=gv.of_lt (by lia) (by lia)
theorem WZ{X:TS}(J:St→Hp→Prop)(j:J σ H)(k:∀σ H,J σ H→X D σ H):X D σ H:=k _ _ j
def kZ(K:aK)(H0:Hp)(P a C U:Addr)(ns:List Int)(n:Nat)(L:aE)(rs:List Nat→Addr)(S:Addr)(bs:List V)(x:V)(wy:Int)(G:Prop)(σ:St)(H:Hp):Prop:=
 ∃(F:Addr) (kvs:List (List Key×V)) (v7 v8 v9:Option V),σ=[some (.ref P),some (.ref C),some (.ref U),some (.ref F),some (.ref S),some x,some (.int wy),v7,v8,v9]∧dz K H0 P a C ns n L rs S bs H∧dm H0 C F n G kvs H
theorem dm.copy{K:aK}{H0:Hp}{F D S:Addr}{ns:List Int}{bs:List V}{G:Prop}(B:dz K H0 P a C ns n L rs S bs H)(h:dm H0 C F n G kvs H)(nD:H D=none):dm H0 C D n G kvs (upd H D (.dT kvs)):=by
 have dc:D≠C:=fun z=>by
  rcases B.cost.1 with e | ⟨o,e⟩;·rw [←z,nD] at e;cases e
  ·rw [←z,nD] at e;cases e
 refine ⟨au,?_,dc,h.told,h.ne,h.len,h.held⟩;cases e:H0 D with
 | none=>rfl
 | some o=>rw [B.kp D o (B.bu.ne nD) dc e] at nD;cases nD
theorem W0(h:H b=some (.tup (q.map fun k:Nat=>V.int (k:Int)).reverse)):H b=some (.tup ((aA q.reverse).map kV)):=by rw [h];unfold aA;rw [bw,List.map_reverse];rfl
end My
namespace L2
open PySem PySem.Spec PyProof.Rows My
theorem KT.keys{H:Hp}:∀{kvs:List (List Key×V)} {xs:List (List Key×Addr×Value)},KT H kvs xs→kvs.map (·.1)=xs.map (·.1)
 | _,_,.nil=>rfl
 | _,_,.cons r t=>by rw [dq,dq,KT.keys t,r.1]
theorem Mw:∀{kvs:List (List Key×V)} {p:List Key×V},(kvs.map (·.1)).Nodup→p∈kvs→a7 kvs p.1=some p.2
 | [],_,_,h=>by cases h
 | x::r,p,hn,h=>by
  obtain ⟨h1,h2⟩:=fB.mp (show (x.1::r.map (·.1)).Nodup from hn);rcases bU.mp h with e | h
  ·subst e
   exact gD rfl
  ·rw [fJ fun e=>h1 (b7.mpr ⟨p,h,e.symm⟩)]
   exact Mw h2 h
theorem W2{X:Cx}(hu:X.A.units+1<cLine):cU X (compareOp .NotEq) (fun x y H Q=>∃a b kvs,x=V.ref a∧y=V.ref b∧H a=some (.dT kvs)∧H b=some (.dT kvs)∧(∀p∈kvs,∃i,p.2=.int i)∧Q (.bl false) H):=by
 intro pins s σ H x y v u Q I rx ry h;obtain ⟨a,b,kvs,rfl,rfl,ea,eb,hi,q⟩:=h;obtain ⟨_,sa,xa,ra,o,es,ep,h1,h2,h3,h4,h5,nd⟩:=rN I.ay ea;have nk:(kvs.map (·.1)).Nodup:=by rw [KT.keys ra];exact nd
 refine V6 hu pins s σ H _ _ v u Q I rx ry ⟨a,b,kvs,kvs,rfl,rfl,ea,eb,rfl,fun p hp=>⟨p.2,Mw nk hp,?_⟩,q⟩;obtain ⟨i,e⟩:=hi p hp;rw [e];exact ⟨rfl,rfl,by unfold iF;simp⟩
end L2
namespace My
open PySem L2
theorem aU.kp{P:Addr}{H H':Hp}(k:∀b o,b≠P→H b=some o→H' b=some o):aU P H H':=fun b o e=>by
 unfold er at e ⊢
 split at e
 ·cases e
 ·rename_i z
  rw [aa z];exact k b o z e
theorem FR{o o':List Nat}(e':o.map iN=o'.map iN):o'=o:=by
 have:=eL (List.map Int.toNat) e'
 rw [bw,bw] at this
 have zc:∀l:List Nat,l.map (Int.toNat ∘ iN)=l:=fun l=>by
  conv=>rhs;rw [←ph l]
  exact g8 fun k _=>dF k
 rw [zc,zc] at this
 exact this.symm
end My
namespace L2
open PySem PySem.Spec PyProof.Rows
section
variable {X:Cx} {N:List Str} {scope:Scope} {cl:List (Str×Addr)} {x y:Str} {px py pos tp:Pos} {l7:Nat} {iter elt:Expr} {ifs:List Expr} {wi:TI} {ρ:St→St} {tt:TT} {te:TE}
theorem W3{y9:Str}{vp yn:Pos}{i0:Nat}(B:Eo X N scope cl x y ρ)(hc:X.calm=true)(hN:X.N.Nodup)(Em:X.N[i0]?=some y9)(hy:Loc X.env.scope y9)(hi:PI X (.Tuple [.Name x px,.Name y py] l7 tp) iter wi)(ht:∀s₃ H₃ fp,m6 (X.bj N scope cl s₃ H₃ fp) ifs tt)(he:∀s₃ H₃ fp,PE (X.bj N scope cl s₃ H₃ fp) elt te)
  (En:swapsWith (.ListComp elt [⟨.Tuple [.Name x px,.Name y py] l7 tp,iter,ifs,0⟩] scope pos) (some (.Name y9 vp)) yn.line X.env=pure true:=by rfl) (hf:X.fn y9=true∨X.env.scope.names.lookup y9=some .local:=by first | exact .inl rfl | exact .inr rfl | assumption)
  (hs:∀x,foldedSetIterable iter X.env x=pure x:=by intro _;rfl):PS X (.Assign [.Name y9 vp] (.ListComp elt [⟨.Tuple [.Name x px,.Name y py] l7 tp,iter,ifs,0⟩] scope pos) yn) (pH (m7 X.K wi ρ tt te) (aP i0)):=by
 intro pins s σ H D0 I h
 have h:m7 X.K wi ρ tt te σ H (fun v H1=>D0.nx (σ.set i0 (some v)) H1):=h
 rw [exec_Assign_Name_used _ _ _ _ En]
 refine ae (qr (ae ?_))
 show wpAny _ X.A (do let _ ←comprehension (.ListComp elt [⟨.Tuple [.Name x px,.Name y py] l7 tp,iter,ifs,0⟩] scope pos) scope X.env _ (newList []) false (eval iter X.env) (some (assign (.Name y9 vp) X.env))) _ _ s
 refine ae (bJ (Q:=fun _ s'=>SP X pins D0 .next s') ?_ (fun _ s' hq=>aB (aB hq)) fun _ _ e=>e)
 refine zX (use:=some (assign (.Name y9 vp) X.env)) rfl hs B.yf B.kind B.names (aN (hi pins s σ H _ I h) fun v s1 h1=>aN h1 fun uH s2 h2=>?_)
 obtain ⟨it,fp,tn,J,H2,rfl,I2,T,gN,f2,q2⟩:=h2
 have nD:H2 s2.heap.objs.size=none:=I2.ay.fresh (aC _)
 obtain ⟨W,⟨m0,w0⟩,turn⟩:=q2 _ nD
 refine g6 (zY B.yg (by intro y hy;simp at hy) (fun h₁ fY fZ=>?_) B.kind)
 dsimp only at fY fZ ⊢
 generalize hD:s2.heap.objs.size=D at nD w0 turn fY fZ ⊢
 generalize iI:({s2 with heap:=s2.heap.push {cls:=.type "list",dict:=none,data:=.seq ([]:List Value).toArray}}:Shared)=s3
 have I3:Inv X pins σ (upd H2 D (.lst [])) s3:=by
  subst hD iI
  exact I2.laid (t':=s2.toks) (fun b u e=>bK _ e) (aC _) ⟨bG _,[],_,.nil,cK _ rfl⟩
 have e3:s3.heap=s2.heap.push {cls:=.type "list",dict:=none,data:=.seq ([]:List Value).toArray}:=by rw [←iI]
 have f9:∀b o,s2.heap.get? b=some o→s3.heap.get? b=some o:=fun b o e=>by rw [e3];exact bK _ e
 rw [←e3] at fY fZ ⊢
 have below:∀b o,s3.heap.get? b=some o→b≠s3.heap.objs.size:=fun b o e=>bM (aZ e)
 have dO:∀b o,s3.heap.get? b=some o→h₁.get? b=some o:=fun b o e=>fZ.extBut b o (below b o e) (bK _ e)
 have iJ:∀b∈fp,∃o,s2.heap.get? b=some o∧∀v,o.data≠.cell v:=T.obj _ _ gN
 have q8:∀b∈fp,b≠D:=fun b hb z=>by
  obtain ⟨o,e,_⟩:=iJ b hb
  rw [z,←hD] at e
  exact absurd (aZ e) (dI _)
 have dg:∀y c,cl.lookup y=some c→X.env.cells.lookup y=some c:=fun y c e=>B.sub (y,c) (mG e)
 have q_:=I3.uF
 have eW:(X.bj N scope cl s3 (upd H2 D (.lst [])) fp).Ok:=by
  refine ⟨I.ok.mod,B.kind,I.ok.glob,I.ok.blt,aC _,fun a b c e1 e2=>I.ok.inj a b c (dg a c e1) (dg b c e2),fun y hy=>B.has y hy,(fun _ _ z _=>absurd z cj),(fun _=>I.ok.hd hc),I.ok.frames,.inl rfl,fun b hb=>⟨?_,fun y c e z=>?_⟩,fun b o e=>?_,a9 I.ok.i6 I3.sz,fun b o e hb=>?_,fun b hb z=>?_,I3.stack,q_⟩
  ·obtain ⟨o,e,_⟩:=iJ b hb
   exact below b o (f9 b o e)
  ·exact (f2 b hb).2.2.2.2.1 y c (dg y c e) z
  ·exact I3.bs b o e
  ·rcases (f2 b hb).2.2.2.1 with z | z
   ·exact I.ok.pB b o e z
   ·exact absurd (dA (aZ e) (a9 I.ok.i6 z)) (dI _)
  ·rcases bU.mp (I3.uE b z) with z | z
   ·exact (f2 b hb).2.1 z
   ·exact (f2 b hb).2.2.1 z
 have IB:∀tk:Nat,Inv (X.bj N scope cl s3 (upd H2 D (.lst [])) fp) [] (none::none::ρ σ) (upd H2 D (.lst [])) {s3 with heap:=h₁,toks:=tk}:=fun tk=>by
  refine ⟨eW,rfl,I3.bare,Un.kept dO,⟨_,fY,fun j y v e1 e2 e3=>?_⟩,fun y c e=>?_,?_,fun y c e=>I3.jH y c (dg y c e),(fun p hp=>nomatch hp),I3.ay.kept dO,?_⟩
  ·cases j with
   | zero=>cases e2
   | succ j=>
   cases j with
   | zero=>cases e2
   | succ j=>
    obtain ⟨i,y',a1,a2,a3,a4,a5,a6⟩:=B.yh σ j v e2
    have ot:N[j+1+1]?=some y:=e1
    rw [ot] at a1
    cases a1
    obtain ⟨m,hn,hl⟩:=I3.loc
    obtain ⟨u,r,l⟩:=hl i y v a2 a3 a4
    refine ⟨u,r,.inr ⟨a6,?_⟩⟩
    obtain ⟨c,ec⟩:=B.has y a6
    rcases l with ⟨k,_⟩ | ⟨_,c',lT,z⟩
    ·rcases a5 with q | q <;> (rw [k] at q;cases q)
    ·have:=dg y c ec
     rw [this] at lT
     cases lT
     obtain ⟨o,ho,hd⟩:=z
     exact ⟨c,ec,o,dO _ _ ho,hd⟩
  ·obtain ⟨v,o,ho,hd⟩:=I3.cell y c (dg y c e)
   exact ⟨v,o,dO _ _ ho,hd⟩
  ·exact I3.ay.fresh (aC _)
  ·show (none::none::ρ σ).length=N.length
   rw [eM,eM]
   exact B.len σ I.len
 have rj:∀b o,s3.heap.get? b=some o→b≠s3.heap.objs.size:=below
 have fin:∀{σ':St} {H':Hp} {s':Shared},Inv (X.bj N scope cl s3 (upd H2 D (.lst [])) fp) [] σ' H' s'→D0.nx (σ.set i0 (some (.ref D))) H'→compPost (model X.prog X.w) X.A X.xe (some (assign (.Name y9 vp) X.env)) (fun _ s'=>SP X pins D0 .next s') (.ref D) s3.heap.objs.size (.ok .next) s':=fun{σ' H' s'} J q=>by
  obtain ⟨m,hn,_⟩:=J.loc
  have hn:s'.heap.Ns s3.heap.objs.size m:=hn
  have JC:H' s3.heap.objs.size=none:=J.free
  have u1:Un (cR X.stack) fp (upd H2 D (.lst [])) H' s3.heap s'.heap:=by
   refine ⟨fun b o e n hb hx=>J.base.keep b o e n hb hx,fun b o e n hb hx=>J.base.slot b o e n hb hx,J.base.free,fun b o e hx=>J.base.there b o e hx,J.base.dW,J.base.gM,J.base.g_⟩
  have IX:Inv X pins σ H' s':=I3.pE (ch:=fp) (J.os) u1 J.ay J.bare fun b hb=>by
   obtain ⟨g0,g1,g2,g3,g4,g5⟩:=f2 b hb
   exact ⟨g3,g1,g4,g5⟩
  have nl:X.env.locals≠s3.heap.objs.size:=by
   obtain ⟨m3,⟨o3,_,_,e3,_⟩,_⟩:=I3.loc
   exact rj _ _ e3
  have nc:∀z c,X.env.cells.lookup z=some c→c≠s3.heap.objs.size:=fun z c e=>by
   obtain ⟨v3,o3,e3,_⟩:=I3.cell z c e
   exact rj _ _ e3
  refine wpAny_assign_Name (DB (v:=.ref D) IX hN Em hy rfl (fun fi rn rq=>?_) hf)
  obtain ⟨a,rq,ha⟩:=rq
  have na:s3.heap.objs.size≠a:=by
   rcases ha with rfl | e
   ·exact fun z=>nl z.symm
   ·exact fun z=>nc _ _ e z.symm
  refine ⟨m,hn.sameBut rq na,fun h' dY=>⟨σ.set i0 (some (.ref D)),H',?_,q⟩⟩
  have u2:Un (cR X.stack) [s3.heap.objs.size] H' H' fi.heap h':=by
   refine ⟨fun b o e n hb hx=>(dY.2 b (by simpa using hx)).trans e,fun b o e n hb hx=>⟨o.slots,(dY.2 b (by simpa using hx)).trans e⟩,fun b o e n hx=>n,fun b o e hx=>⟨o,(dY.2 b (by simpa using hx)).trans e⟩,fun b xs z=>z,fun b o u z=>z,fun b ps z=>⟨#[],by simpa using z⟩⟩
  have rd:cC X.prog X.w H' h':=fun b u e=>by
   refine (rn.ay b u e).j_ (fun c v hc z=>(dY.2 c fun y=>?_).trans z) (fun _ z=>z) fun _ _ z=>z
   have y':c=s3.heap.objs.size:=y
   rcases hc with hc | hc
   ·rw [←hc,y',JC] at e
    cases e
   ·rw [y',JC] at hc
    cases hc
  refine rn.pE (s':={fi with heap:=h'}) (ch:=[s3.heap.objs.size]) rfl u2 rd rn.bare fun b hb=>?_
  have eb:b=s3.heap.objs.size:=by simpa using hb
  subst eb
  refine ⟨.inr I3.sz,fun z=>nl z.symm,fun z c e=>nc z c e,fun p hp=>?_⟩
  exact rj _ _ (I3.pin p hp).1
 have fV:∀{H':Hp},(∀b∈fp,H' b=none)→∀b∈fp,mU (X.bj N scope cl s3 (upd H2 D (.lst [])) fp) [] H' b:=fun hn b hb=>by
  refine ⟨hn b hb,?_,?_,.inl hb,fun y c e z=>(f2 b hb).2.2.2.2.1 y c (dg y c e) z,fun p hp=>nomatch hp⟩
  ·obtain ⟨o,e,_⟩:=iJ b hb
   exact below b o (f9 b o e)
  ·exact eW.pC b hb
 have loop:∀tk:Nat,codeAny (model X.prog X.w) X.A (.compLoop (.ListComp elt [⟨.Tuple [.Name x px,.Name y py] l7 tp,iter,ifs,0⟩] scope pos) 0 (.ref it) (.ref D) (compEnvC scope cl s3.heap.objs.size X.env))
   (compPost (model X.prog X.w) X.A X.xe (some (assign (.Name y9 vp) X.env)) (fun _ s'=>SP X pins D0 .next s') (.ref D) s3.heap.objs.size) {s3 with heap:=h₁,toks:=tk}:=fun tk=>by
  refine JM (fun n s'=>∃i ys o o2 H',Inv (X.bj N scope cl s3 (upd H2 D (.lst [])) fp) [] (o::o2::ρ σ) H' s'∧tn i s'.heap∧(∀b∈fp,H' b=none)∧W i n ys H') ?_ m0
   ⟨0,[],none,none,_,IB tk,T.keep _ _ _ gN fun b hb o e=>dO _ _ (f9 _ _ e),fun b hb=>by rw [aM (q8 b hb)];exact (f2 b hb).1,w0⟩
  rintro n s4 ⟨i,ys,o,o2,H4,I4,lW,lY,w4⟩
  obtain ⟨Ei,rf⟩:=turn i n ys H4 w4
  rcases rf with ⟨stop,qn⟩ | ⟨go,step⟩
  ·refine bJ (T.done (X.bj N scope cl s3 (upd H2 D (.lst [])) fp) rfl rfl rfl hc i [] s4 _ H4 (fun _ _=>False) I4 (fV lY) lW stop) (fun r s5 ⟨hr,I5⟩=>?_) fun _ _ z=>z.elim
   subst hr
   exact fin I5 qn
  ·refine bJ (T.item (X.bj N scope cl s3 (upd H2 D (.lst [])) fp) rfl rfl rfl hc i [] s4 _ H4 (fun _ _=>False) I4 (fV lY) lW go) (fun r s5 ⟨u,hr,h5⟩=>?_) fun _ _ z=>z.elim
   subst hr
   refine bJ h5 (fun _ s5 ⟨y0,H5,I5,r5,y5,fW,n_⟩=>?_) fun _ _ z=>z.elim
   obtain ⟨Tt,x1,x2,e0,Er,rg⟩:=step y0 _ y5
   subst e0
   have og:=I5.pinned (fV n_) (T.obj _ _ fW)
   have pg:PG (X.bj N scope cl s3 (upd H2 D (.lst [])) fp) (.Tuple [.Name x px,.Name y py] l7 tp) (DJ X.K 2 (xY (aP 0) (xY (aP 1) DI))):=
    qQ (X:=X.bj N scope cl s3 (upd H2 D (.lst [])) fp) hc (i8 (cy (i:=0) B.nd B.n0 (.inl (j7 B.hx)) (.inr (j7 B.hx))) (i8 (cy (i:=1) B.nd B.n1 (.inl (j7 B.hy)) (.inr (j7 B.hy))) qP))
   have again:∀{σ7:St} {H7:Hp} {s7:Shared},Inv (X.bj N scope cl s3 (upd H2 D (.lst [])) fp) ([]++kj fp s5.heap) σ7 H7 s7→Inv (X.bj N scope cl s3 (upd H2 D (.lst [])) fp) [] σ7 H7 s7∧tn (i+1) s7.heap∧∀b∈fp,H7 b=none:=fun{σ7 H7 s7} I7=>by
    refine ⟨I7.qT,T.keep _ _ _ fW fun b hb o e=>(I7.pin (b,o) (dR _ (dR _ (mW hb e)))).1,fun b hb=>?_⟩
    obtain ⟨o,e,d⟩:=T.obj _ _ fW b hb
    exact (I7.pin (b,o) (dR _ (dR _ (mW hb e)))).2.1
   refine bJ (pg _ s5 _ H5 (.ref Tt) u (fun σ2 H6=>σ2=some x1::some x2::ρ σ∧H6=H5) og r5 ⟨Tt,_,rfl,Er,rfl,_,_,rfl,_,_,rfl,rfl,rfl,rfl⟩) (fun _ s6 ⟨σ6,H6,I6,q6⟩=>?_) fun _ _ z=>z.elim
   obtain ⟨rfl,rfl⟩:=q6
   have tests:∀{iK:TT},m6 (X.bj N scope cl s3 (upd H2 D (.lst [])) fp) ifs iK→∀{R:Bool→Hp→Prop},iK (some x1::some x2::ρ σ) H6 R→wpAny (model X.prog X.w) X.A
     (forIn ifs true fun c r=>if r=true then do let ok ←isTrue c (compEnvC scope cl s3.heap.objs.size X.env) (eval c (compEnvC scope cl s3.heap.objs.size X.env));pure (ForInStep.yield ok) else pure (ForInStep.yield r))
     (fun ok s7=>∃H7,Inv (X.bj N scope cl s3 (upd H2 D (.lst [])) fp) ([]++kj fp s5.heap) (some x1::some x2::ρ σ) H7 s7∧R ok H7) (fun _ _=>False) s6:=fun{iK} p {R} hR=>by
    cases p with
    | nil=>exact zZ ⟨_,I6,hR⟩
    | one p=>exact z5 (p _ s6 _ _ _ I6 hR)
   refine bJ (tests (ht s3 _ fp) rg) (fun ok s7 ⟨H7,I7,q7⟩=>?_) fun _ _ z=>z.elim
   cases ok with
   | false=>
    obtain ⟨m',iL,w7⟩:=q7
    obtain ⟨a1,a2,a3⟩:=again I7
    exact ⟨m',iL,i+1,ys,_,_,H7,a1,a2,a3,w7⟩
   | true=>
    refine bJ (he s3 _ fp _ s7 _ H7 _ I7 q7) (fun ev s8 ⟨z,H8,I8,r8,rh,hz,m',iL,w8⟩=>?_) fun _ _ z=>z.elim
    refine bJ (je (X:=X.bj N scope cl s3 (upd H2 D (.lst [])) fp) _ s8 _ H8 (.ref D) [z] (.ref D) [ev] (fun _ H9=>H9=upd H8 D (.lst (ys++[z]))) I8 rfl (.cons r8 .nil) ⟨D,ys,z,rfl,rfl,rh,hz,rfl⟩) (fun _ s9 ⟨_,H9,I9,_,q9⟩=>?_) fun _ _ z=>z.elim
    subst q9
    obtain ⟨a1,a2,a3⟩:=again I9
    exact ⟨m',iL,i+1,ys++[z],_,_,_,a1,a2,a3,w8⟩
 have start:=loop (s3.toks+([]:List (Str×Value)).length)
 have es:({s3 with heap:=h₁,toks:=s3.toks+([]:List (Str×Value)).length}:Shared)={s2 with heap:=h₁,toks:=s2.toks+([]:List (Str×Value)).length}:=by rw [←iI]
 rw [es] at start
 exact z6 start (T.self _ 0 _ _ _ (T.keep _ _ _ gN fun b hb o e=>dO _ _ (f9 _ _ e)) start)
end
end L2
set_option maxRecDepth 100000
set_option maxHeartbeats 4000000
namespace My
open PySem L2
def top(i:Nat):Stmt:=PySem.Challenge.pw_bandwright_k28_worths_looked_at.main.body.getD i (.Pass ⟨0,0,0,0⟩)
abbrev BD:Stmt:=top 5
abbrev BE:Stmt:=top 7
abbrev BF:Stmt:=top 9
abbrev BG:Stmt:=top 10
abbrev BH:Stmt:=top 11
abbrev BI:Stmt:=top 12
abbrev BJ:Stmt:=top 13
abbrev BK:Stmt:=top 14
abbrev BL:Stmt:=top 15
abbrev BM:Stmt:=top 18
abbrev BN:Stmt:=top 19
abbrev BO:Stmt:=top 20
abbrev BP:Stmt:=top 21
abbrev BQ:Stmt:=top 22
abbrev BR:Stmt:=top 23
abbrev BS:Stmt:=top 24
abbrev BU:Stmt:=top 25
abbrev BV:Stmt:=top 26
abbrev BW:Stmt:=top 27
abbrev BX:Stmt:=top 29
abbrev BY:Stmt:=top 30
abbrev BZ:Stmt:=top 31
abbrev B_:Stmt:=top 32
abbrev Ca:Stmt:=top 33
abbrev Cb:Stmt:=top 34
abbrev Cc:Stmt:=top 35
abbrev Cd:Stmt:=top 36
abbrev Ce:Stmt:=top 37
abbrev Cf:Stmt:=top 38
abbrev Cg:Stmt:=top 39
abbrev Ci:Stmt:=top 40
abbrev Cj:Stmt:=top 41
abbrev Ck:Stmt:=top 42
abbrev Cm:Stmt:=top 43
abbrev Cn:Stmt:=top 44
set_option genInjectivity false in
set_option genSizeOf false in
structure FT where
 r6:Addr
 vt:FuncData
 r_:Addr
 vv:FuncData
 si:Addr
 vw:FuncData
 sj:Addr
 vx:FuncData
 sq:Addr
 vy:FuncData
 sr:Addr
 vz:FuncData
 su:Addr
 vB:FuncData
 sC:Addr
 vC:FuncData
 sE:Addr
 vD:FuncData
 sF:Addr
 vE:FuncData
 sG:Addr
 vF:FuncData
 sI:Addr
 vG:FuncData
 sJ:Addr
 vH:FuncData
 sL:Addr
 vI:FuncData
 sM:Addr
 vJ:FuncData
 sN:Addr
 vK:FuncData
 sO:Addr
 vL:FuncData
 sP:Addr
 vM:FuncData
 sQ:Addr
 vO:FuncData
 sR:Addr
 vP:FuncData
 sS:Addr
 vQ:FuncData
 sU:Addr
 vR:FuncData
 sV:Addr
 vS:FuncData
 sW:Addr
 vT:FuncData
 sX:Addr
 vU:FuncData
 sY:Addr
 vV:FuncData
 sZ:Addr
 vW:FuncData
 s_:Addr
 vX:FuncData
 tj:Addr
 vY:FuncData
 tm:Addr
 vZ:FuncData
 tw:Addr
 v_:FuncData
 tD:Addr
 wa:FuncData
 tE:Addr
 wb:FuncData
 tF:Addr
 wc:FuncData
 qd:Addr
 tG:FuncData
 nK:Addr
 wd:Addr
abbrev cF (mg:dC) (x:Str) (f:Addr):Prop:=mg x=some (.ref f)
abbrev Mx (K:aK) (a:Addr):Prop:=PySem.W.excIn K a [.type "ValueError",.type "Exception",.type "BaseException",.type "object"] "ValueError.__new__"=true
structure Txt (K:aK) (mg:dC) (t:FT):Prop where
 we:aY K "is_whole" BD t.r6 t.vt
 Mz:Binds K t.vt ["thing"] []
 MA:cF mg "is_whole" t.r6
 tH:aY K "neighbours" BE t.r_ t.vv
 FU:Binds K t.vv ["shape"] []
 FV:cF mg "neighbours" t.r_
 wg:aY K "is_order" BF t.si t.vw
 MB:Binds K t.vw ["thing","n"] []
 MC:cF mg "is_order" t.si
 wj:aY K "check_order" BG t.sj t.vx
 MD:Binds K t.vx ["order","n"] []
 ME:cF mg "check_order" t.sj
 wm:aY K "turns_of" BH t.sq t.vy
 MF:Binds K t.vy ["order"] []
 MG:cF mg "turns_of" t.sq
 wq:aY K "link_all" BI t.sr t.vz
 MJ:Binds K t.vz ["linked","places"] []
 MK:cF mg "link_all" t.sr
 wu:aY K "later" BJ t.su t.vB
 ML:Binds K t.vB ["shape","order"] []
 MM:cF mg "later" t.su
 tI:aY K "place_deeds" BK t.sC t.vC
 FW:Binds K t.vC ["many"] []
 FX:cF mg "place_deeds" t.sC
 oO:aY K "deeds" BL t.sE t.vD
 zd:Binds K t.vD ["shape","order"] []
 ze:cF mg "deeds" t.sE
 qe:aY K "check_size" BM t.sF t.vE
 Co:Binds K t.vE ["shape"] []
 Cp:cF mg "check_size" t.sF
 wx:aY K "still_near" BN t.sG t.vF
 MN:Binds K t.vF ["linked","done","place"] []
 MO:cF mg "still_near" t.sG
 wA:aY K "cost" BO t.sI t.vG
 MP:Binds K t.vG ["shape","done","place"] []
 MQ:cF mg "cost" t.sI
 tJ:aY K "rising_tuples" BP t.sJ t.vH
 FY:Binds K t.vH ["n"] []
 FZ:cF mg "rising_tuples" t.sJ
 tK:aY K "and_done" BQ t.sL t.vI
 F_:Binds K t.vI ["done","place"] []
 Ga:cF mg "and_done" t.sL
 qf:aY K "choices" BR t.sM t.vJ
 Cq:Binds K t.vJ ["shape","done","worth_of"] []
 Cr:cF mg "choices" t.sM
 wB:aY K "worths" BS t.sN t.vK
 MR:Binds K t.vK ["shape"] []
 MS:cF mg "worths" t.sN
 wC:aY K "fewest" BU t.sO t.vL
 MT:Binds K t.vL ["shape"] []
 MU:cF mg "fewest" t.sO
 wG:aY K "keeps_to_costs" BV t.sP t.vM
 MV:Binds K t.vM ["shape","done","worth_of"] []
 MW:cF mg "keeps_to_costs" t.sP
 wH:aY K "shows_fewest" BW t.sQ t.vO
 MX:Binds K t.vO ["shape","order","worths"] []
 MY:cF mg "shows_fewest" t.sQ
 wI:aY K "_law_fill" BX t.sR t.vP
 MZ:Binds K t.vP ["_law_cell","_law_at"] []
 M0:cF mg "_law_fill" t.sR
 eJ:aY K "_law_next" BY t.sS t.vQ
 gc:Binds K t.vQ ["_law_pen","_law_many"] []
 gf:cF mg "_law_next" t.sS
 tL:aY K "_law_turned" BZ t.sU t.vR
 Gb:Binds K t.vR ["_law_pen","_law_some"] []
 Gd:cF mg "_law_turned" t.sU
 wJ:aY K "_law_tied_by" B_ t.sV t.vS
 M3:Binds K t.vS ["_law_pen","_law_way","_law_size","_law_wide","_law_i","_law_j"] []
 M4:cF mg "_law_tied_by" t.sV
 wK:aY K "_law_grown_links" Ca t.sW t.vT
 M5:Binds K t.vT ["_law_pen","_law_size"] []
 M6:cF mg "_law_grown_links" t.sW
 wL:aY K "_law_drawn" Cb t.sX t.vU
 M7:Binds K t.vU ["_law_pen","_law_most"] []
 M9:cF mg "_law_drawn" t.sX
 wM:aY K "_law_named" Cc t.sY t.vV
 M_:Binds K t.vV ["_law_size","_law_links","_law_names"] []
 Na:cF mg "_law_named" t.sY
 wN:aY K "_law_beside" Cd t.sZ t.vW
 Nb:Binds K t.vW ["_law_shape"] []
 Nc:cF mg "_law_beside" t.sZ
 wO:aY K "_law_walks" Ce t.s_ t.vX
 Nd:Binds K t.vX ["_law_beside_here","_law_through","_law_start"] []
 Nf:cF mg "_law_walks" t.s_
 wQ:aY K "_law_cost" Cf t.tj t.vY
 Ng:Binds K t.vY ["_law_beside_here","_law_done","_law_place"] []
 Nh:cF mg "_law_cost" t.tj
 wR:aY K "_law_parts" Cg t.tm t.vZ
 Ni:Binds K t.vZ ["_law_size"] []
 Nj:cF mg "_law_parts" t.tm
 wU:aY K "_law_rows" Ci t.tw t.v_
 Nk:Binds K t.v_ ["_law_shape"] []
 Nl:cF mg "_law_rows" t.tw
 wV:aY K "_law_worths" Cj t.tD t.wa
 Nm:Binds K t.wa ["_law_size","_law_costs"] []
 Nn:cF mg "_law_worths" t.tD
 wX:aY K "_law_bent" Ck t.tE t.wb
 Np:Binds K t.wb ["_law_pen","_law_costs","_law_due"] []
 Nq:cF mg "_law_bent" t.tE
 tM:aY K "_law_shown" Cm t.tF t.wc
 Ge:Binds K t.wc ["_law_costs","_law_told","_law_many"] []
 Gf:cF mg "_law_shown" t.tF
 wY:aY K "law" Cn t.qd t.tG
 W4:Binds K t.tG ["script"] []
 Nr:cF mg "law" t.qd
 Nt:cF mg "NoOrder" t.nK
 Nu:cF mg "NoSize" t.wd
 W5:mg "ValueError"=none
 wZ:mg "all"=none
 W6:mg "any"=none
 Gg:mg "bool"=none
 Cs:mg "dict"=none
 Nv:mg "enumerate"=none
 Nw:mg "int"=none
 zf:mg "isinstance"=none
 fN:mg "len"=none
 oP:mg "list"=none
 Nx:mg "max"=none
 zg:mg "min"=none
 gU:mg "range"=none
 Ny:mg "reversed"=none
 tN:mg "sorted"=none
 Nz:mg "sum"=none
 zh:mg "tuple"=none
 NA:∃u,mg "MOST"=some u∧RelV (.int 9) u
 NB:Mx K t.nK
 NC:Mx K t.wd
section
variable {P:Program} {w:World} {K:aK} {mg:dC} {base:Heap} {t:FT}
theorem W7:b8 ["thing"] ["thing"] (bA BD):=cL
theorem W8(T:Txt K mg t):bQ P w K mg base cV 1 t.r6 t.vt ["thing"] RN:=by
 have S:=W7;refine T.we.dX S (fun _ _ _ _ H _ Q _ hr h=>?_);obtain ⟨v,rfl,ha,k⟩:=h;refine ⟨_,(aI (bX (Iu (cI (AL (K:=K)) rfl T.zf boot_isinstance (ai (pv 0) (ai (An (v:=.ty "int") rfl T.Nw boot_int rfl) aq))) (DE (Po (cI (AL (K:=K)) rfl T.zf boot_isinstance (ai (pv 0) (ai (An (v:=.ty "bool") rfl T.Gg boot_bool rfl) aq)))))))),?_⟩;obtain ⟨Ty,ty,k1,k2,_⟩:=ha.Ef (K:=K);refine ⟨_,rfl,_,_,_,_,rfl,rfl,ty,k1,_,rfl,bZ (fun h1=>?_) (fun h1=>?_)⟩
 ·refine ⟨_,rfl,_,_,_,_,rfl,rfl,ty,k2,_,rfl,?_⟩
  have e:(!uT v)=uS v:=by
   cases h2:uT v with
   | true=>rw [RM h2];rfl
   | false=>rw [h2,Bool.or_false] at h1;rw [h1];rfl
  show Q (.bl (!uT v)) H;rw [e];exact k
 ·have e:uS v=false:=by
   cases h2:uS v with
   | true=>rw [h2] at h1;exact absurd rfl h1
   | false=>rfl
  rw [e] at k;exact k
theorem W9:b8 ["shape","linked","i","j"] ["shape"] (bA BE):=cL
theorem ND(T:Txt K mg t):bQ P w K mg base cV 1 t.r_ t.vv ["shape"] Tz:=by
 have S:=W9;refine T.tH.dX S (fun _ _ _ _ H _ _ _ hr h=>?_);obtain ⟨tp,n,L,rfl,⟨lt,us,dH,elt,hL⟩,ok,n9,kk⟩:=h;have hu:=fg (gJ (show 1≤64 by decide) _) hr.units
 have Ct:((List.range n).map fun i:Nat=>V.int (0+(i:Int))).length=n:=by rw [aG,dJ]
 refine ⟨_,(aD (ym (i0:=1) (N:=["place"]) (ρ:=(fun σ=>[])) (fX [] rfl) rfl S.nd rfl (Or.inl rfl) (mV rfl T.gU (ai (bN gO (pv 0) aF) aq)) (fun _ _ _=>.nil) (fun _ _ _=>Tn))
  (aD (dN dB rfl (IA (bN gO (pv 0) aF)) (qQ rfl (i8 (cy (i:=2) S.nd rfl (Or.inl rfl)) (i8 (cy (i:=3) S.nd rfl (Or.inl rfl)) qP)))
   (aD (gF hu (bN dv (pv 1) (pv 2)) (pv 3) hE rfl)
  (aI (gF hu (bN dv (pv 1) (pv 3)) (pv 2) hE rfl))))
  (aI (bX (pv 1))))),?_⟩
 refine cW (fj (Eu (xs:=(List.range n).map fun i:Nat=>V.int (0+(i:Int))) (n:=n) Ct (fun R h=>⟨_,rfl,tp,_,_,_,rfl,rfl,.of dH,rfl,(n:Int),rfl,by lia,by lia,h _ _ (ao.refl _) (by rw [dF];exact El)⟩) (bS (by lia)) (fun _ i y Hx=>Hx y=some (.dK (dk []))∧H y=none) ?_ ?_ ?_))
 ·intro D i y Ha Hb ys ⟨h1,h2⟩ hy e f
  exact ⟨f y _ hy h1,h2⟩
 ·intro D i x hx Hc R sc _ kc
  refine fun p np=>kc p _ (fG (ao.refl _) np) np ⟨_,au⟩ ⟨au,?_⟩;cases e:H p with
  | none=>rfl
  | some o=>rw [sc _ _ e] at np;cases np
 ·intro D ds H1 nD s1 inj hA eD
  have K0:dQ H1 D n ds (fun _=>True) (fun _=>[]):=⟨eD,inj,fun i hi=>(hA i hi).2,fun i hi _=>(hA i hi).1.1,fun i _=>jS.nil n⟩;have fr:∀i,i<n→H (ds i)=none:=fun i hi=>(hA i hi).1.2;dsimp only [aP];refine cW ⟨_,rfl,tp,_,_,_,rfl,rfl,.of (s1 _ _ dH),rfl,lt,rfl,⟨_,.of (s1 _ _ elt)⟩,?_⟩;refine IG (K:=K) (a:=lt) (xs:=us) (fun k σ Hc=>∃(f:Nat→List Nat) (v2 v3:Option V),σ=[some (.ref tp),some (.ref D),v2,v3]∧ao H Hc∧dQ Hc D n ds (fun _=>True) f∧fv n (L.take k) f) ⟨_,_,_,rfl,s1,K0,fv.nil n⟩ (fun k σ Hc _ ⟨_,_,_,_,sc,_⟩=>.of (sc _ _ elt)) ?_ ?_
  ·rintro k x σ Hc hx ⟨f,v2,v3,rfl,sc,KL,nb⟩
   have hk:k<L.length:=by rw [←hL.1];exact (bx.mp hx).1
   obtain ⟨b,rfl,eb⟩:=hL.2 k x L[k] hx (by simp [hk])
   have pk:=ok L[k] (cB hk);have tk:L.take (k+1)=L.take k++[L[k]]:=by rw [iZ,bg hk];rfl
   generalize L[k]=p at eb pk tk;obtain ⟨p1,p2⟩:=p;dsimp only at pk eb;obtain ⟨i,rfl⟩:=iA pk.1;obtain ⟨j,rfl⟩:=iA pk.2.2.1;have hi:i<n:=by lia
   have hj:j<n:=by lia
   refine ⟨b,_,rfl,.of (sc _ _ eb),rfl,_,_,rfl,_,_,rfl,rfl,?_⟩;obtain ⟨q1,K1⟩:=KL.put hi hj trivial n9;obtain ⟨q2,K2⟩:=K1.put hj hi trivial n9;refine ⟨_,rfl,_,rfl,D,_,_,_,rfl,rfl,.of KL.lst,KL.ix hi,_,rfl,_,_,rfl,q1,?_⟩;refine ⟨_,rfl,_,rfl,D,_,_,_,rfl,rfl,.of K1.lst,K1.ix hj,_,rfl,_,_,rfl,q2,?_⟩;have off:∀(Hx:Hp) (i:Nat) (o:HO),i<n→ao H Hx→ao H (upd Hx (ds i) o):=fun Hx i o hi sx a u e=>by
    rw [aM (fun z=>by rw [z,fr i hi] at e;cases e)]
    exact sx _ _ e
   exact ⟨_,_,_,rfl,off _ _ _ hj (off _ _ _ hi sc),K2,by rw [tk];exact nb.more hi hj⟩
  ·rintro σ Hc ⟨f,v2,v3,rfl,sc,KL,nb⟩
   rw [hL.1,gh] at nb;exact ⟨_,rfl,kk _ _ _ _ sc nD fr KL nb⟩
theorem W_:b8 ["many"] ["many"] (bA BK):=cL
theorem NF(T:Txt K mg t):bQ P w K mg base cV 1 t.sC t.vC ["many"] Ud:=by have S:=W_;refine T.tI.dX S (fun _ _ _ _ H _ _ _ hr h=>?_);obtain ⟨m,rfl,m1,k⟩:=h;refine ⟨_,(aI (bX (bh fD (bh fD (bh i_ (pv 0) (pv 0)) (bh i_ aF (pv 0))) aF))),?_⟩;exact ⟨_,rfl,_,rfl,_,_,rfl,rfl,.inl ⟨by lia,by lia⟩,_,rfl,_,_,rfl,rfl,.inl ⟨by lia,by lia⟩,_,_,rfl,rfl,_,_,rfl,rfl,k⟩
theorem Xa:b8 ["shape"] ["shape"] (bA BM):=cL
theorem Gh(T:Txt K mg t):bQ P w K mg base (fF P w) 1 t.sF t.vE ["shape"] Ue:=by
 have S:=Xa;obtain ⟨uM,hM,rM⟩:=T.NA;refine T.qe.eW S (fun _ _ _ _ H _ _ _ hr h L=>?_);obtain ⟨tp,n,Lk,rfl,⟨lt,us,dH,elt,om⟩,n9,k⟩:=h;refine ⟨_,(aI (cm (b5 oi (bN gO (pv 0) aF) (Pf (v:=.int 9) rfl hM rM)) (aI (JA L rfl PySem.F.excBase_ValueError T.NC rfl T.Nu (ai Io aq))) ck)),?_⟩;refine ⟨_,rfl,tp,_,_,_,rfl,rfl,.of dH,rfl,_,_,rfl,rfl,_,rfl,bZ (fun hc=>?_) (fun hc=>?_)⟩
 ·have hc:(9:Int)<(n:Int):=fP hc
  lia
 ·exact k
theorem Xb:b8 ["linked","done","place","met","waiting","here","other"] ["linked","done","place"] (bA BN):=cL
theorem Xc(T:Txt K mg t):bQ P w K mg base cV 1 t.sG t.vF ["linked","done","place"] Uj:=by
 have S:=Xb
 refine T.wx.dX S (fun _ _ _ _ H vs Q _ hr h=>?_)
 obtain ⟨D,d,n,ds,f,done,p,rfl,KL,ed,ld,pn,Cu,kk⟩:=h
 have hu:=fg (gJ (show 1≤64 by decide) _) hr.units
 refine ⟨_,(aD (putL 3 S.nd (KG (KA (pv 2) hE Kz) rfl rfl (fun h=>by cases h) (by decide)))
  (aD (putL 4 S.nd (eR (ai (pv 2) aq)))
  (aD (Aq dB (b5 oi (cI jN rfl T.fN fS (ai (pv 4) aq)) aF) (aD (putL 5 S.nd (Jp i5 Dy Dz Jt (pv 4)))
  (aI (dN dB rfl (Bb (bN dv (pv 0) (pv 5))) (cy (i:=6) S.nd rfl (Or.inl rfl))
   (aI (cm (Iq (Kx hu (pv 6) (pv 3)) rfl) (aD (gF hu (pv 3) (pv 6) hE rfl)
  (aI (cm (pL DZ (pv 6) (pv 1) rfl) (aI (gr (ku i5 mM mO je (pv 4) (ai (pv 6) aq)))) ck))) ck))))))
  (aI (bX (jg (N:=["other","place","done"]) (ρ:=(fun σ=>[σ[2]?.join,σ[1]?.join])) (fX [2,1] rfl) rfl (Bb (pv 3)) (fun _ _ _=>(.one (PW.pt (pw_and (b5 qW (pv 0) (pv 1)) (pw_and1 (pL (Bj (K:=K)) (pv 0) (pv 2) rfl)))))) (fun _ _ _=>(pv 0)))))))),?_⟩
 refine di fun _ mw=>(fj fun mt jX=>⟨_,rfl,au,[((Sum.inl (p:Int):Key),V.bl true)],rfl,by show 1≤15;decide,?_⟩)
 have acQ:=jX
 have s0:∀b o,b≠mt→H b=some o→upd (upd H mt (.dK [])) mt (.dK (mh [] [((Sum.inl (p:Int):Key),V.bl true)])) b=some o:=fun b o ne e=>by rw [aM ne,aM ne];exact e
 have em:upd (upd H mt (.dK [])) mt (.dK (mh [] [((Sum.inl (p:Int):Key),V.bl true)])) mt=some (.dK (dk [p])):=by rw [au];rfl
 generalize upd (upd H mt (.dK [])) mt (.dK (mh [] [((Sum.inl (p:Int):Key),V.bl true)]))=H1 at s0 em ⊢
 have sm:ao H H1:=fun b o e=>s0 b o (fun z=>by rw [z,jX] at e;cases e) e
 dsimp only [aP]
 refine mw _ _ ?_
 refine di fun _ iV=>⟨_,rfl,by show 1≤sizeLine;decide,fun l nl=>?_⟩
 have sl:ao H1 (upd H1 l (.lst [V.int (p:Int)])):=aH nl
 have el:upd H1 l (.lst [V.int (p:Int)]) l=some (.lst (([p]:List Nat).map fun k:Nat=>V.int (k:Int))):=au
 generalize upd H1 l (.lst [V.int (p:Int)])=H2 at sl el ⊢
 have nM:H l=none:=none_of sm nl
 have lm:l≠mt:=fun z=>by rw [z,em] at nl;cases nl
 have s2:=sm.trans sl
 have mD:mt≠D:=fun z=>absurd KL.lst (by rw [←z,jX];exact fun h=>by cases h)
 have lD:l≠D:=fun z=>absurd KL.lst (by rw [←z,nM];exact fun h=>by cases h)
 have Gi:∀i,i<n→ds i≠mt:=fun i hi z=>absurd (KL.at' i hi trivial) (by rw [z,jX];exact fun h=>by cases h)
 have Cv:∀i,i<n→ds i≠l:=fun i hi z=>absurd (KL.at' i hi trivial) (by rw [z,nM];exact fun h=>by cases h)
 have NG:∀i,i<n→d≠ds i:=fun i hi z=>absurd (KL.at' i hi trivial) (by rw [←z,ed];exact fun h=>by cases h)
 dsimp only [aP]
 refine iV _ _ ?_
 refine cW ⟨fun m σ Hc=>∃(ks ws:List Nat) (v5 v6:Option V),σ=[some (.ref D),some (.ref d),some (.int (p:Int)),some (.ref mt),some (.ref l),v5,v6]∧m=2*(n-ks.length)+ws.length∧rQ n ds H Hc∧oH Hc D n ds f∧Hc mt=some (.dK (dk ks))∧Hc l=some (.lst (ws.map fun k:Nat=>V.int (k:Int)))∧dU n (gT n f) (·∈done) p none (fun _=>True) ks ws∧ws.length≤ks.length,⟨_,[p],[p],_,_,rfl,rfl,fun b o e _=>s2 _ _ e,(KL.mono s2).fr,sl _ _ em,el,dU.start pn,aC _⟩,?_⟩
 rintro m' σ Hc ⟨ks,ws,v5,v6,rfl,Xd,oc,Kc,zi,oQ,wk,wl⟩
 have Gj:=wk.pl.len
 refine ⟨_,rfl,l,_,rfl,.inl (.of oQ),_,_,rfl,rfl,_,rfl,bZ (fun hb=>?_) (fun hb=>?_)⟩
 ·have hb:(0:Int)<((ws.map fun k:Nat=>V.int (k:Int)).length:Int):=fP hb
  rw [aG] at hb
  have zj:ws≠[]:=fun z=>by rw [z] at hb;simp at hb
  obtain ⟨us,h,rfl⟩:∃us h,ws=us++[h]:=⟨ws.dropLast,ws.getLast zj,(List.dropLast_concat_getLast zj).symm⟩
  have Xe:(us++[h]).length=us.length+1:=by simp
  have hh:=wk.wt h (dR _ (bY.mpr rfl))
  have hn:h<n:=wk.pl.2 h hh.1
  have my:=wk.pop
  refine ⟨_,fun _ _ h=>h,?_⟩
  refine ⟨_,rfl,.inl ⟨rfl,_,.of oQ⟩,l,_,.int (h:Int),rfl,rfl,oQ,by simp,?_⟩
  rw [fC,dq,t9,List.dropLast_concat]
  have o1:∀b u,b≠l→Hc b=some u→upd Hc l (.lst (us.map fun k:Nat=>V.int (k:Int))) b=some u:=fun b u ne e=>by rw [aM ne];exact e
  have zl:upd Hc l (.lst (us.map fun k:Nat=>V.int (k:Int))) l=some (.lst (us.map fun k:Nat=>V.int (k:Int))):=au
  have zo:∀{Hx Hy:Hp},rQ n ds H Hx→(∀b u,b≠l→Hx b=some u→Hy b=some u)→rQ n ds H Hy:=fun h k b u e ne=>k b u (fun z=>by rw [z,nM] at e;cases e) (h b u e ne)
  have Gk:∀{Hx Hy:Hp},rQ n ds H Hx→(∀b u,b≠mt→Hx b=some u→Hy b=some u)→rQ n ds H Hy:=fun h k b u e ne=>k b u (fun z=>by rw [z,jX] at e;cases e) (h b u e ne)
  have K1:=Kc.keep o1 lD Cv
  have tO:=zo oc o1
  have zp:=o1 _ _ (Ne.symm lm) zi
  generalize upd Hc l (.lst (us.map fun k:Nat=>V.int (k:Int)))=H3 at o1 zl K1 tO zp ⊢
  dsimp only [aP]
  refine E_ (a:=ds h) (kvs:=dk (f h)) (fun Q q=>⟨_,rfl,_,rfl,D,_,_,_,rfl,rfl,.of K1.lst,rO hn,q⟩) (K1.at' h hn) fun ob Hf jv off=>?_
  have Kf:=K1.aW off hn jv KL.inj (KL.ne h hn)
  have Xf:rQ n ds H Hf:=fun b u e ne=>off b u (ne h hn) (tO b u e ne)
  have Xg:=off _ _ (Ne.symm (Gi h hn)) zp
  have Xh:=off _ _ (Ne.symm (Cv h hn)) zl
  refine Uk (fun i σ He=>∃(ks us:List Nat) (v6:Option V),σ=[some (.ref D),some (.ref d),some (.int (p:Int)),some (.ref mt),some (.ref l),some (.int (h:Int)),v6]∧rQ n ds H He∧oH He D n ds f∧He (ds h)=some (.aW ob (.dK (dk (f h))))∧He mt=some (.dK (dk ks))∧He l=some (.lst (us.map fun k:Nat=>V.int (k:Int)))∧dU n (gT n f) (·∈done) p (some h) (·∈(f h).take i) ks us∧us.length≤ks.length∧h∈ks∧2*(n-ks.length)+us.length<m') ⟨ks,us,_,rfl,Xf,Kf,jv,Xg,Xh,⟨my.pl,my.st,my.rc,my.wt,fun x hx ox=>(my.cl x hx ox).imp id fun e b hb=>(e b hb).imp id fun z=>⟨z.1,by simp⟩⟩,by lia,hh.1,by lia⟩ (fun i σ He _ ⟨_,_,_,_,_,_,e,_⟩=>e) ?_ ?_
  ·rintro i k σ He hk ⟨ks,us,v6,rfl,oe,Ke,Gm,mB,oR,gW,ul,jY,lt⟩
   have km:k∈f h:=iz hk
   have kn:k<n:=(KL.pl h hn).2 k km
   have tk:=take_snoc hk
   have Xi:=gW.pl.len
   dsimp only [aP]
   refine ⟨_,rfl,_,rfl,mt,_,rfl,.inl ⟨dk ks,Sum.inl (k:Int),.inl mB,rfl,rfl⟩,_,rfl,?_⟩
   rw [KN]
   by_cases jZ:k∈ks
   ·rw [aj jZ]
    refine iH ⟨ks,us,_,rfl,oe,Ke,Gm,mB,oR,?_,ul,jY,lt⟩
    have w2:=gW.old jZ
    refine ⟨w2.pl,w2.st,w2.rc,w2.wt,fun x hx ox=>(w2.cl x hx ox).imp id fun e b hb=>(e b hb).imp id fun z=>⟨z.1,fun q=>z.2 ?_⟩⟩
    rw [tk] at q
    exact (cH.mp q).imp id bY.mp
   ·rw [aa jZ]
    refine qY ?_
    have al:=KZ jZ
    have o4:∀b u,b≠mt→He b=some u→upd He mt (.dK (dk (b_ ks k))) b=some u:=fun b u ne e=>by rw [aM ne];exact e
    refine cW ⟨_,rfl,_,rfl,mt,upd He mt (.dK (dk (b_ ks k))),rfl,.inl ⟨dk ks,Sum.inl (k:Int),mB,rfl,by rw [yK];exact bS (by lia),by rw [E6]⟩,?_⟩
    have tP:upd He mt (.dK (dk (b_ ks k))) mt=some (.dK (dk (b_ ks k))):=au
    have K4:=Ke.keep o4 mD Gi
    have oS:=Gk oe o4
    have oT:=o4 _ _ lm oR
    have Gn:=o4 _ _ (Gi h hn) Gm
    generalize upd He mt (.dK (dk (b_ ks k)))=H4 at o4 tP K4 oS oT Gn ⊢
    have conv:∀{vs:List Nat},dU n (gT n f) (·∈done) p (some h) (fun x=>x∈(f h).take i∨x=k) (b_ ks k) vs→dU n (gT n f) (·∈done) p (some h) (·∈(f h).take (i+1)) (b_ ks k) vs:=fun w2=>⟨w2.pl,w2.st,w2.rc,w2.wt,fun x hx ox=>(w2.cl x hx ox).imp id fun e b hb=>(e b hb).imp id fun z=>⟨z.1,fun q=>z.2 (by
     rw [tk] at q
     exact (cH.mp q).imp id bY.mp)⟩⟩
    have Xj:=(gW.pl.add kn).len
    dsimp only
    refine ⟨_,rfl,_,rfl,d,_,rfl,.inr (.of (oS d _ ed NG)),rfl,Bk done,_,rfl,bZ (fun hb=>?_) (fun hb=>?_)⟩
    ·have hb:jd (.int (k:Int)) (done.map fun k:Nat=>V.int (k:Int))=true:=hb
     rw [oJ,fR] at hb
     refine ⟨_,rfl,.inl ⟨rfl,_,.of oT⟩,_,rfl,l,_,_,rfl,rfl,oT,bS (by rw [aG];lia),?_⟩
     have o5:∀b u,b≠l→H4 b=some u→upd H4 l (.lst ((us.map fun k:Nat=>V.int (k:Int))++[V.int (k:Int)])) b=some u:=fun b u ne e=>by rw [aM ne];exact e
     exact ⟨b_ ks k,us++[k],_,rfl,zo oS o5,K4.keep o5 lD Cv,o5 _ _ (Cv h hn) Gn,o5 _ _ (Ne.symm lm) tP,by rw [au,fC];rfl,conv (gW.new jZ kn jY hh.2 ⟨hn,km⟩ (.inl ⟨hb,rfl⟩)),by rw [al,c_,lp];lia,ir.mpr (.inl jY),by rw [al,c_,lp];lia⟩
    ·have hb:¬jd (.int (k:Int)) (done.map fun k:Nat=>V.int (k:Int))=true:=hb
     rw [oJ,fR] at hb
     exact ⟨b_ ks k,us,_,rfl,oS,K4,Gn,tP,oT,conv (gW.new jZ kn jY hh.2 ⟨hn,km⟩ (.inr ⟨hb,rfl⟩)),by rw [al];lia,ir.mpr (.inl jY),by rw [al];lia⟩
  ·rintro σ He ⟨ks,us,v6,rfl,oe,Ke,Gm,mB,oR,gW,ul,jY,lt⟩
   rw [gh] at gW
   exact ⟨_,lt,ks,us,_,_,rfl,rfl,oe,Ke,mB,oR,gW.next fun b hb=>hb.2,ul⟩
 ·have w0:ws=[]:=by
   cases ws with
   | nil=>rfl
   | cons x r=>
    refine absurd (bV ?_) hb
    show (0:Int)<_
    simp
  subst w0
  dsimp only
  refine uU (Bi (E_ (a:=mt) (kvs:=dk ks) (fun Q q=>⟨_,rfl,q⟩) (.inl zi) fun ob Hf jv off=>?_))
  have Gp:Hf d=some (.tup (done.map fun k:Nat=>V.int (k:Int))):=off _ _ (fun z=>by rw [z,jX] at ed;cases ed) (oc d _ ed NG)
  refine E8 jv (fun q=>!decide (q=p) && !decide (q∈done)) (bS (by lia)) ?_ ?_ ?_
  ·intro q hq Hx R sx hR
   refine ⟨_,rfl,_,rfl,rfl,_,rfl,bZ (fun hb=>?_) (fun hb=>?_)⟩
   ·have ne:¬q=p:=fun z=>by
     subst z
     rw [jh,bV rfl] at hb
     cases hb
    refine ⟨_,rfl,_,rfl,d,_,rfl,.inr (.of (sx _ _ Gp)),rfl,Bk done,_,rfl,?_⟩
    rw [b3 ne,xR,xJ] at hR
    have e:(if true=true then !jd (.int (q:Int)) (done.map fun k:Nat=>V.int (k:Int)) else jd (.int (q:Int)) (done.map fun k:Nat=>V.int (k:Int))) = !decide (q∈done):=by rw [aj rfl,oJ]
    rw [e]
    exact hR
   ·have eq:q=p:=by
     by_cases z:(q:Int)=(p:Int)
     ·lia
     ·exact absurd (by rw [jh,b3 z];rfl) hb
    rw [bV eq,xQ,t7] at hR
    exact hR
  ·intro q hq Hx R hR
   exact ⟨_,rfl,hR⟩
  ·intro r Hg nr sg eg
   refine kk Hg r _ (fun b u e ne=>sg _ _ (off _ _ (fun z=>by rw [z,jX] at e;cases e) (oc b u e ne))) eg ⟨ks,wk.pl,wk.done,by rw [aG]⟩
theorem Xk:b8 ["shape","done","place"] ["shape","done","place"] (bA BO):=cL
theorem Xl(T:Txt K mg t):bQ P w K mg base (fF P w) 2 t.sI t.vG ["shape","done","place"] Um:=by
 have S:=Xk;refine T.wA.eW S (fun _ _ _ _ H _ _ _ hr h L=>?_);obtain ⟨tp,d,n,Lk,done,p,rfl,hS,hL,n9,ed,ld,pn,kk⟩:=h
 refine ⟨_,(aD (gr (a8 (Gh T) hr T.Cp T.qe.kp T.Co (m5 L) (ai (pv 0) aq)))
  (aI (bX (a8 (NF T) hr T.FX T.tI.kp T.FW bR (ai (cI jN rfl T.fN fS (ai (a8 (Xc T) hr T.MO T.wx.kp T.MN bR (ai (a8 (ND T) hr T.FV T.tH.kp T.FU bR (ai (pv 0) aq)) (ai (pv 1) (ai (pv 2) aq)))) aq)) aq))))),?_⟩
 refine ⟨_,rfl,tp,n,Lk,rfl,hS,n9,?_⟩;refine ⟨_,rfl,tp,n,Lk,rfl,hS,hL,by lia,fun H1 D ds f s1 nD Gq KL nb=>?_⟩
 refine ⟨_,rfl,_,rfl,D,d,n,ds,f,done,p,rfl,KL,s1 _ _ ed,ld,pn,by lia,fun H2 r xs off er near=>?_⟩
 have s2:ao H H2:=fun b u e=>off b u (s1 _ _ e) fun i hi z=>by rw [z,Gq i hi] at e;cases e
 have c9:=near.le;exact ⟨r,xs,rfl,.inl (.of er),xs.length,rfl,by lia,kk H2 f xs.length s2 nb near⟩
theorem Xm:b8 ["done","place"] ["done","place"] (bA BQ):=cL
theorem NH(T:Txt K mg t):bQ P w K mg base cV 1 t.sL t.vI ["done","place"] Vm:=by
 have S:=Xm;refine T.tK.dX S (fun _ _ _ _ H _ Q _ hr h=>?_);obtain ⟨d,done,p,rfl,ed,l1,kk⟩:=h;refine ⟨_,(aI (bX (gu D4 rfl T.zh boot_tuple (ai (cI Ls rfl T.tN uB (ai (bh (E9 (K:=K)) (pv 0) (d7 (ai (pv 1) aq))) aq)) aq)))),?_⟩;have fin:∀(H1:Hp) (b:Addr),ao H H1→H1 b=some (.tup ((done++[p]).map V.int))→uN Fm (fun σ H Q=>Q [.ref b] H) [] H1 (fun x H2=>∃q ys,[x]=[V.ref q]∧((bz K H2 q ys∧∀l,H2 l=none→Q (.ref l) (upd H2 l (.tup ys)))∨(dG K H2 q ys∧Q (.ref q) H2))):=fun H1 b s1 eb=>by
  refine ⟨b,done++[p],rfl,eb,by simp;lia,fun ws D pm so nD=>⟨D,_,rfl,.inl ⟨.of au,fun l nl=>?_⟩⟩⟩
  exact kk _ l ws pm so (none_of s1 (none_of (aH nD) nl)) (s1.trans ((aH nD).trans (aH nl))) au
 refine ⟨_,rfl,_,rfl,by show 1≤sizeLine;decide,fun b nb=>?_⟩
 have s1:ao H (upd H b (.tup [.int p])):=aH nb;have eb:upd H b (.tup [.int p]) b=some (.tup [.int p]):=au;generalize upd H b (.tup [.int p])=H1 at s1 eb ⊢;refine ⟨d,b,_,_,rfl,rfl,.of (s1 _ _ ed),.of eb,by simp,Ly (by rw [aG];simp;lia),fun e0=>?_,fun e1 c nc=>?_⟩
 ·have:done=[]:=xP.mp e0
  subst this;exact fin H1 b s1 eb
 ·refine fin _ c (s1.trans (aH nc)) ?_
  rw [au,fC];rfl
theorem Xn:b8 ["n","told","place"] ["n"] (bA BP):=cL
theorem NI(T:Txt K mg t):bQ P w K mg base cV 1 t.sJ t.vH ["n"] Lz:=by
 have S:=Xn;refine T.tJ.dX S (fun _ _ _ _ H _ _ _ hr h=>?_);obtain ⟨n,rfl,n9,kk⟩:=h
 refine ⟨_,(aD (putL 1 S.nd (eR (ai (d7 aq) aq)))
  (aD (dN dB rfl (mV rfl T.gU (ai (pv 0) aq)) (cy (i:=2) S.nd rfl (Or.inr rfl))
   (aI (putL 1 S.nd (bh Ea (pv 1) (jg (N:=["each","place"]) (ρ:=(fun σ=>[σ[2]?.join])) (fX [2] rfl) rfl (dM (pv 1)) (fun _ _ _=>.nil) (fun _ _ _=>(bh (E9 (K:=K)) (pv 0) (d7 (ai (pv 1) aq)))))))))
  (aI (bX (pv 1))))),?_⟩
 refine ⟨bG _,fun b nb=>⟨by show 1≤sizeLine;decide,fun l nl=>?_⟩⟩
 have s0:ao H (upd (upd H b (.tup [])) l (.lst [.ref b])):=(aH nb).trans (aH nl);have lb:b≠l:=fun z=>by rw [z,au] at nl;cases nl
 have eb:upd (upd H b (.tup [])) l (.lst [.ref b]) b=some (.tup []):=by rw [aM lb,au]
 have el:upd (upd H b (.tup [])) l (.lst [.ref b]) l=some (.lst [.ref b]):=au;generalize upd (upd H b (.tup [])) l (.lst [.ref b])=H0 at s0 eb el ⊢;dsimp only [aP];refine cW ⟨_,rfl,(n:Int),rfl,by lia,by lia,?_⟩
 rw [dF];refine pJ (fun k σ Hc=>∃(D:Addr) (xs:List V) (v2:Option V),σ=[some (.int (n:Int)),some (.ref D),v2]∧ao H Hc∧H D=none∧Hc D=some (.lst xs)∧e_ Hc xs (ar k)) ⟨l,_,_,rfl,s0,none_of (aH nb) nl,el,⟨rfl,fun i v q h1 h2=>?_⟩⟩ ?_ ?_
 ·match i,h1,h2 with
  | 0,h1,h2=>cases h1;cases h2;exact ⟨b,rfl,eb⟩
  | i+1,h1,h2=>simp at h1
 ·rintro k σ Hc hk ⟨D,xs,v2,rfl,sc,nD,eD,tu⟩
  have p2:2 ^ k≤512:=a9 (mH (by decide) (show k≤9 by lia)) (by decide)
  have lx:xs.length=2 ^ k:=tu.1.trans (kT k);dsimp only [aP];refine fj ⟨_,rfl,pP (xs:=xs) (fun R h=>⟨_,rfl,D,rfl,⟨_,.of eD⟩,h _ _ (ao.refl _) (kC (.of eD))⟩) (bS (by lia)) (fun _ i y Hz=>∀q,(ar k)[i]?=some q→∃(b:Addr),y=.ref b∧Hz b=some (.tup ((q++[k]).map fun k:Nat=>V.int (k:Int)))) (fun Dd i y Ha Hb ys h e f q hq=>by obtain ⟨b,h1,h2⟩:=h q hq;exact ⟨b,h1,f b _ (fun z=>by rw [z,e] at h2;cases h2) h2⟩) ?_ ?_⟩
  ·intro Dd i x hx Hz R sz _ kz
   have hi:i<(ar k).length:=by rw [←tu.1];exact (bx.mp hx).1
   obtain ⟨b,rfl,eb⟩:=tu.2 i x _ hx (bg hi);have fL:(ar k)[i]?=some (ar k)[i]:=bg hi;generalize (ar k)[i]=us at eb fL;have lu:us.length≤60:=by obtain ⟨u1,u2⟩:=cq.mp (iz fL);have:=p_ u1 u2;lia
   refine ⟨_,rfl,_,rfl,by show 1≤sizeLine;decide,fun q nq=>?_⟩
   have tQ:=sz _ _ eb;have bq:b≠q:=fun z=>by rw [z,nq] at tQ;cases tQ
   have Gr:upd Hz q (.tup [V.int (0+(k:Int))]) b=some (.tup (us.map fun k:Nat=>V.int (k:Int))):=(aM bq).trans tQ;refine ⟨b,q,_,_,rfl,rfl,.of Gr,.of au,by simp,a9 (show _≤100 by simp;lia) (by decide),fun e=>?_,fun ne p np=>?_⟩
   ·refine kz _ _ (aH nq) fun r hr=>⟨q,rfl,?_⟩
    rw [fL] at hr;cases hr;have:us=[]:=xP.mp e;subst this;rw [au,iB];rfl
   ·refine kz _ _ ((aH nq).trans (aH np)) fun r hr=>⟨p,rfl,?_⟩
    rw [fL] at hr;cases hr;rw [au,iB,fC];rfl
  ·intro Dd ys Hd Cw sd k8 mC oU
   refine ⟨D,Dd,xs,ys,rfl,rfl,sd _ _ eD,oU,a9 (show _≤2000 by lia) (by decide),fun l2 tR=>?_⟩
   have ty:e_ Hd ys ((ar k).map (·++[k])):=⟨by rw [k8,aG,tu.1],fun i v q h1 h2=>by
    rw [bP] at h2;cases e:(ar k)[i]? with
    | none=>rw [e] at h2;cases h2
    | some r=>rw [e] at h2;cases h2;exact mC i v h1 r e⟩
   exact ⟨l2,_,_,rfl,(sc.trans sd).trans (aH tR),none_of (sc.trans sd) tR,au,((tu.mono sd).cat ty).mono (aH tR)⟩
 ·rintro σ Hc ⟨D,xs,v2,rfl,sc,nD,eD,tu⟩
  exact ⟨_,rfl,kk D xs Hc sc nD eD tu⟩
theorem Xo:b8 ["shape","done","worth_of","left"] ["shape","done","worth_of"] (bA BR):=cL
theorem Gs(T:Txt K mg t):bQ P w K mg base (fF P w) 3 t.sM t.vJ ["shape","done","worth_of"] Vp:=by
 have S:=Xo;refine T.qf.eW S (fun _ _ _ _ H _ _ _ hr h L=>?_);obtain ⟨tp,d,wo,n,Lk,done,kvs,W,rfl,eK,cE,n9,ed,hd,nN,hW,kk⟩:=h;have iy:=hr.units;have tS:=fg (gJ (show 1≤64 by decide) _) hr.units
 refine ⟨_,(aD (ym (i0:=3) (N:=["place","done"]) (ρ:=(fun σ=>[σ[1]?.join])) (fX [1] rfl) rfl S.nd rfl (Or.inl rfl) (mV rfl T.gU (ai (bN gO (pv 0) aF) aq)) (fun _ _ _=>(.one (pL (Bj (K:=K)) (pv 0) (pv 1) rfl))) (fun _ _ _=>(pv 0)))
  (aI (bX (jg (N:=["place","shape","done","worth_of"]) (ρ:=(fun σ=>[σ[0]?.join,σ[1]?.join,σ[2]?.join])) (fX [0,1,2] rfl) rfl (dM (pv 3)) (fun _ _ _=>.nil) (fun _ _ _=>(d7 (ai (bh fD (a8 (Xl T) hr T.MQ T.wA.kp T.MP qZ (ai (pv 1) (ai (pv 2) (ai (pv 0) aq)))) (fK tS (pv 3) (a8 (NH T) hr T.Ga T.tK.kp T.F_ bR (ai (pv 2) (ai (pv 0) aq))) (fun _ _=>rfl))) (ai (pv 0) aq)))))))),?_⟩
 obtain ⟨lt,us,dH,elt,om⟩:=id eK;obtain ⟨dup,Xp⟩:=cq.mp hd;have dl:done.length≤9:=a9 (p_ dup Xp) n9;have fl:(done.map fun k:Nat=>V.int (k:Int)).all jc=true:=by rw [iY];intro v hv;obtain ⟨q,_,rfl⟩:=b7.mp hv;rfl
 have Ct:((List.range n).map fun i:Nat=>V.int (0+(i:Int))).length=n:=by rw [aG,dJ]
 refine cW (fj (Fg (xs:=(List.range n).map fun i:Nat=>V.int (0+(i:Int))) (y4 done) (fun R h=>⟨_,rfl,tp,_,_,_,rfl,rfl,.of dH,rfl,(n:Int),rfl,by lia,by lia,h _ _ (ao.refl _) (by rw [dF];exact El)⟩) (bS (by lia)) ?_ (fun x Hx R h=>⟨_,rfl,h⟩) fun l H1 nl s1 el=>?_))
 ·intro x Xq Hd R sd kR
  obtain ⟨q,hq,rfl⟩:=b7.mp Xq;refine ⟨_,rfl,_,rfl,d,_,rfl,.inr (.of (sd _ _ ed)),rfl,fl,_,rfl,?_⟩;rw [Vn] at kR;exact kR
 rw [Vo] at el;dsimp only [aP];have lle:(aQ n done).length≤n:=a9 (j9 _ _) (by rw [dJ];exact aC _)
 refine uU (pP (xs:=(aQ n done).map fun k:Nat=>V.int (k:Int)) (fun R h=>⟨_,rfl,l,rfl,⟨_,.of el⟩,h _ _ (ao.refl _) (kC (.of el))⟩) (bS (by rw [aG];lia)) (fun _ i y Hz=>∀p,(aQ n done)[i]?=some p→∃b,y=.ref b∧Hz b=some (.tup [.int (bW n Lk done p+W (aV done p)),.int (p:Int)])) (fun Dd i y Ha Hb ys h e f q hq=>by obtain ⟨b,h1,h2⟩:=h q hq;exact ⟨b,h1,f b _ (fun z=>by rw [z,e] at h2;cases h2) h2⟩) ?_ ?_)
 ·intro Dd i x hx Hz R sz _ kz
  rw [bP] at hx;cases ep:(aQ n done)[i]? with
  | none=>rw [ep] at hx;cases hx
  | some p=>
   rw [ep] at hx;cases hx;have pm:=iz ep;have pn:p<n:=by have:=(cG.mp pm).1;exact cu.mp this
   have pd:p∉done:=by have:=(cG.mp pm).2;simpa using this
   have w5:=s1.trans sz;refine ⟨_,rfl,_,rfl,_,rfl,tp,d,n,Lk,done,p,rfl,eK.mono w5,cE,n9,w5 _ _ ed,by lia,pn,fun H2 f c s2 nb near=>?_⟩
   have fb:=w5.trans s2;refine ⟨_,rfl,_,rfl,_,rfl,d,done.map iN,(p:Int),rfl,by rw [fb _ _ ed,bw];rfl,by rw [aG];lia,fun H3 tq ws pm so Gu s3 w6=>?_⟩
   have ew:=Fq dup pd pm so;subst ew;have fz:=fb.trans s3;refine ⟨wo,_,rfl,(hW p pn pd)▸dE.t (k:=aA (aV done p)) (fz _ _ nN) (by rw [w6];unfold aA;rw [bw,bw];rfl),_,_,rfl,rfl,_,rfl,by show 2≤sizeLine;decide,fun q nq=>?_⟩
   refine kz _ _ ((s2.trans s3).trans (aH nq)) fun r hr=>⟨q,rfl,?_⟩;rw [ep] at hr;cases hr;rw [au,Fp nb near]
 ·intro Dd ys Hd Cw sd k8 mC oU
  rw [aG] at k8;exact kk Hd Dd ys (s1.trans sd) oU ⟨k8,fun i v p h1 h2=>mC i v h1 p h2⟩
theorem Xr:b8 ["shape","told","done"] ["shape"] (bA BS):=cL
theorem Xs(T:Txt K mg t):bQ P w K mg base (fF P w) 4 t.sN t.vK ["shape"] Vr:=by
 have S:=Xr;refine T.wB.eW S (fun _ _ _ _ H _ _ _ hr h L=>?_);obtain ⟨tp,n,Lk,rfl,eK,cE,n9,kk⟩:=h;have hu:=fg (gJ (show 1≤64 by decide) _) hr.units
 refine ⟨_,(aD (gr (a8 (Gh T) hr T.Cp T.qe.kp T.Co (m5 L) (ai (pv 0) aq)))
  (aD (putL 1 S.nd E3)
  (aD (dN (KU L) rfl (dM (U6 (ai (a8 (NI T) hr T.FZ T.tJ.kp T.FY bR (ai (bN gO (pv 0) aF) aq)) aq) rfl T.tN uB rfl T.fN fS)) (cy (i:=2) S.nd rfl (Or.inl rfl))
   (aI (gF hu (pv 1) (pv 2) (Lx rfl (ai (JN (N:=["total","place"]) (ρ:=(fun σ=>[])) (Ep [] rfl) rfl (dM (a8 (Gs T) hr T.Cr T.qf.kp T.Cq (m5 L) (ai (pv 0) (ai (pv 2) (ai (pv 1) aq))))) (fun _ _ _=>.nil) (fun _ _ _=>(pv 0))) aq) aF rfl T.zg boot_min) rfl)))
  (aI (bX (pv 1)))))),?_⟩
 refine ⟨_,rfl,tp,n,Lk,rfl,eK,n9,?_⟩;intro D nD;have s0:ao H (upd H D (.dT [])):=aH nD;have nO:upd H D (.dT []) D=some (.dT []):=au;dsimp only [aP];generalize upd H D (.dT [])=H0 at s0 nO ⊢;obtain ⟨lt,us,dH,elt,om⟩:=id (eK.mono s0);refine cW ⟨_,rfl,tp,_,_,_,rfl,rfl,.of dH,rfl,n,rfl,n9,fun Dx xs H1 s1 NJ fO tu=>?_⟩;have qg:(ar n).length≤512:=by rw [kT];exact a9 (mH (by decide) n9) (by decide)
 refine ⟨Dx,xs,fun i=>((ar n).getD i []).length,rfl,fO,by have:=tu.1;lia,(fun i v hv=>?_),fun D2 p zq fp=>?_⟩
 ·have hi:i<(ar n).length:=by rw [←tu.1];exact (bx.mp hv).1
  obtain ⟨b,e,g⟩:=tu.2 i v _ hv (bg hi);have lq:(ar n)[i].length≤9:=by obtain ⟨q1,q2⟩:=cq.mp (cB hi);exact a9 (p_ q1 q2) n9
  exact ⟨b,_,e,g,by rw [aG];show ((ar n).getD i []).length=_;rw [eN,bg hi];rfl,by rw [aG];lia⟩
 rw [tu.1] at fp;have fq:=Vt fp;have tq:=(Vw tu (p:=p) fun i hi=>cu.mp (fp.pm.mem_iff.mp hi)).mono (aH (o:=.lst (p.map fun i=>xs.getD i .aS)) zq);have k_:upd H1 D2 (.lst (p.map fun i=>xs.getD i .aS)) D2=some (.lst (p.map fun i=>xs.getD i .aS)):=au;have zr:ao H0 (upd H1 D2 (.lst (p.map fun i=>xs.getD i .aS))):=s1.trans (aH zq);generalize upd H1 D2 (.lst (p.map fun i=>xs.getD i .aS))=H2 at tq k_ zr ⊢;generalize (p.map fun i=>xs.getD i .aS)=Xt at tq k_ ⊢;generalize (p.map fun i=>(ar n).getD i [])=qs at tq fq;have lqs:qs.length≤512:=by rw [fq.pm.length_eq];exact qg
 have Xu:D2≠D:=fun z=>by rw [z,zr _ _ nO] at k_;cases k_
 refine ⟨D2,rfl,⟨_,.of k_⟩,?_⟩;refine jI (K:=K) (a:=D2) (xs:=Xt) (fun j σ Hc=>∃(v2:Option V),σ=[some (.ref tp),some (.ref D),v2]∧ao H Hc∧(∀b o,b≠D→H2 b=some o→Hc b=some o)∧Hc D=some (.dT (wD (wW n Lk) (qs.take j)))) ⟨_,rfl,s0.trans zr,fun b o _ e=>e,zr _ _ nO⟩ (fun j σ Hc _ ⟨_,_,_,kc,_⟩=>.of (kc _ _ Xu k_)) ?_ ?_
 ·rintro j x σ Hc hx ⟨v2,rfl,sc,kc,eD⟩
  have hj:j<qs.length:=by rw [←tq.1];exact (bx.mp hx).1
  have hq:qs[j]?=some qs[j]:=bg hj;obtain ⟨b,rfl,eb⟩:=tq.2 j x _ hx hq;generalize qs[j]=q at hq eb;have bD:b≠D:=fun z=>by rw [z,zr _ _ nO] at eb;cases eb
  have tU:=kc _ _ bD eb;have qm:q∈ar n:=fq.pm.mem_iff.mp (iz hq);obtain ⟨nq,tk⟩:=Vv fq hq;have ll:(aQ n q).length≤9:=a9 (j9 _ _) (by rw [dJ];exact n9)
  dsimp only [aP];refine Vs (Vq (Z:=(aQ n q).map fun p=>(bW n Lk q p+wW n Lk (aV q p),(p:Int))) (fun R h=>?_) (bS (by rw [aG];lia)) (fun z _ Hx R h=>⟨_,rfl,h⟩) fun D3 H4 Xv s4 j4=>?_)
  ·refine ⟨_,rfl,_,rfl,_,rfl,tp,b,D,n,Lk,q,_,wW n Lk,rfl,eK.mono sc,cE,n9,tU,qm,eD,(fun p pn pq=>y7 _ (Vu fq hq pn pq)),fun H3 Dc ys s3 oV ch=>?_⟩
   exact ⟨Dc,rfl,⟨_,.of oV⟩,h _ _ s3 (LC oV (Fu ch))⟩
  ·refine ⟨D3,_,0,rfl,rfl,j4,by rw [aG,aG];lia,fun m hm=>?_⟩
   have em:m=wW n Lk q:=by rw [LD hm,bw,Fs qm];rfl
   subst em;refine ⟨_,rfl,_,rfl,D,_,rfl,gE.t (k:=aA q) (s4 _ _ eD) (by rw [s4 _ _ tU];unfold aA;rw [bw];rfl) (bS (by unfold wD;rw [aG,oW];lia)),?_⟩
   refine ⟨_,rfl,fun c o e=>?_,fun c o cD e=>(aM cD).trans (s4 _ _ (kc c o cD e)),by rw [au,LG _ nq,tk]⟩
   rw [aM (fun z=>by rw [z,nD] at e;cases e)]
   exact s4 _ _ (sc _ _ e)
 ·rintro σ Hc ⟨v2,rfl,sc,kc,eD⟩
  rw [tq.1,gh] at eD;exact ⟨_,rfl,kk Hc D qs sc nD eD fq.pm⟩
theorem Xw:b8 ["shape","worth_of","order","done","place"] ["shape"] (bA BU):=cL
theorem Xx(T:Txt K mg t):bQ P w K mg base (fF P w) 5 t.sO t.vL ["shape"] VA:=by
 have S:=Xw;refine T.wC.eW S (fun _ _ _ _ H _ _ _ hr h L=>?_);obtain ⟨tp,n,Lk,rfl,eK,cE,n9,kk⟩:=h;have iy:=hr.units;have hu:=fg (gJ (show 1≤64 by decide) _) hr.units
 refine ⟨_,(aD (putL 1 S.nd (a8 (Xs T) hr T.MS T.wB.kp T.MR (m5 L) (ai (pv 0) aq)))
  (aD (putL 2 S.nd (eR aq))
  (aD (putL 3 S.nd (d7 aq))
  (aD (Aq (KU L) (b5 Av (cI jN rfl T.fN fS (ai (pv 2) aq)) (bN gO (pv 0) aF)) (aD (putL 4 S.nd (bN gO (cI (Vk rfl iy) rfl T.zg boot_min (ai (a8 (Gs T) hr T.Cr T.qf.kp T.Cq (m5 L) (ai (pv 0) (ai (pv 3) (ai (pv 1) aq)))) aq)) aF))
  (aD (gr (ku i5 mM mO je (pv 2) (ai (pv 4) aq)))
  (aI (putL 3 S.nd (a8 (NH T) hr T.Ga T.tK.kp T.F_ bR (ai (pv 3) (ai (pv 4) aq))))))))
  (aI (bX (d7 (ai (pv 2) (ai (fK hu (pv 1) (d7 aq) (fun _ _=>rfl)) aq))))))))),?_⟩
 refine ⟨_,rfl,tp,n,Lk,rfl,eK,cE,n9,fun H1 D qs s1 nD eD pq=>?_⟩;dsimp only [aP];refine ⟨bG _,fun lo zt=>?_⟩;have s2:ao H1 (upd H1 lo (.lst [])):=aH zt;have zu:upd H1 lo (.lst []) lo=some (.lst []):=au;have NK:H lo=none:=none_of s1 zt;have k_:=s2 _ _ eD;dsimp only [aP];generalize upd H1 lo (.lst [])=H2 at s2 zu k_ ⊢;refine ⟨bG _,fun td Xy=>?_⟩;have s3:ao H2 (upd H2 td (.tup [])):=aH Xy;have NL:upd H2 td (.tup []) td=some (.tup []):=au;have Cy:=s3 _ _ zu;have j4:=s3 _ _ k_;dsimp only [aP];generalize upd H2 td (.tup [])=H3 at s3 NL Cy j4 ⊢;have fz:=s1.trans (s2.trans s3);have Xz:lo≠D:=fun z=>by rw [z,j4] at Cy;cases Cy
 have tV:∀q,q∈ar n→a7 (wD (wW n Lk) qs) (aA q)=some (.int (wW n Lk q)):=fun q hq=>y7 _ (pq.mem_iff.mpr hq);refine cW ⟨fun m σ Hc=>∃(o Sd:List Nat) (dn:Addr) (v4:Option V),σ=[some (.ref tp),some (.ref D),some (.ref lo),some (.ref dn),v4]∧m=n-o.length∧ao H Hc∧Hc D=some (.dT (wD (wW n Lk) qs))∧Hc lo=some (.lst (o.map fun k:Nat=>V.int (k:Int)))∧Hc dn=some (.tup (Sd.map fun k:Nat=>V.int (k:Int)))∧rW n Lk o Sd,⟨_,[],[],td,_,rfl,rfl,fz,j4,Cy,NL,rW.start n Lk⟩,?_⟩;rintro m σ Hc ⟨o,Sd,dn,v4,rfl,rfl,sc,oV,Cz,CB,fw⟩;obtain ⟨lt,us,dH,elt,om⟩:=id (eK.mono sc);obtain ⟨m1,m2⟩:=cq.mp fw.mem;have lS:Sd.length=o.length:=fw.pm.length_eq;have lo9:o.length≤n:=by rw [←lS];exact p_ m1 m2
 refine ⟨_,rfl,lo,_,rfl,.inl (.of Cz),_,rfl,tp,_,_,_,rfl,rfl,.of dH,rfl,_,_,rfl,rfl,_,rfl,bZ (fun hc=>?_) (fun hc=>?_)⟩
 ·have hc:((o.map fun k:Nat=>V.int (k:Int)).length:Int)<(n:Int):=fP hc
  rw [aG] at hc;have olt:o.length<n:=by lia
  refine ⟨_,fun _ _ h=>h,?_⟩;refine ⟨_,rfl,_,rfl,_,rfl,tp,dn,D,n,Lk,Sd,_,wW n Lk,rfl,eK.mono sc,cE,n9,CB,fw.mem,oV,(fun p pn pd=>tV _ (cq.mpr ⟨nE m1 pd,fun x hx=>by
   rcases jW.mp hx with rfl | hx;·exact pn
   ·exact m2 x hx⟩)),fun H4 Dc ys s4 XA ch=>?_⟩
  have XB:0<(aQ n Sd).length:=Vy fw.mem (by lia)
  have lk:=Fu ch;refine ⟨Dc,ys,(fun i=>(((aQ n Sd).map fun p=>(bW n Lk Sd p+wW n Lk (aV Sd p),(p:Int))).getD i (0,0)).1),(fun i=>(((aQ n Sd).map fun p=>(bW n Lk Sd p+wW n Lk (aV Sd p),(p:Int))).getD i (0,0)).2),rfl,XA,by rw [ch.1];exact XB,(fun i v hv=>?_),fun i v hv best=>?_⟩
  ·have hi:i<(aQ n Sd).length:=by rw [←ch.1];exact (bx.mp hv).1
   obtain ⟨b,e,g⟩:=ch.2 i v _ hv (bg hi);have pl:(aQ n Sd)[i]<n:=cu.mp (cG.mp (cB hi)).1;simp only [eN,bP,bg hi,um,Option.getD_some];exact ⟨⟨b,e,g⟩,by lia,by lia⟩
  ·have hi:i<(aQ n Sd).length:=by rw [←ch.1];exact (bx.mp hv).1
   obtain ⟨b,rfl,g⟩:=ch.2 i v _ hv (bg hi);have zv:(aQ n Sd)[i]∈aQ n Sd:=cB hi;have pl:(aQ n Sd)[i]<n:=cu.mp (cG.mp zv).1;have rV:∀q∈aQ n Sd,bW n Lk Sd (aQ n Sd)[i]+wW n Lk (aV Sd (aQ n Sd)[i])≤bW n Lk Sd q+wW n Lk (aV Sd q):=fun q hq=>by
    obtain ⟨j,hj,rfl⟩:=uc hq;have ql:(aQ n Sd)[j]<n:=cu.mp (cG.mp hq).1;have:=best j (by rw [ch.1];exact hj)
    simp only [eN,bP,bg hi,bg hj,um,Option.getD_some] at this;lia
   generalize (aQ n Sd)[i]=p at g zv pl rV;have pS:p∉Sd:=by have:=(cG.mp zv).2;simpa using this
   have NM:=s4 _ _ Cz;refine ⟨b,_,_,_,rfl,rfl,.of g,rfl,?_⟩;dsimp only [aP];refine ⟨_,rfl,.inl ⟨rfl,_,.of NM⟩,_,rfl,lo,_,_,rfl,rfl,NM,bS (by rw [aG];lia),?_⟩
   have off:∀c u,c≠lo→H4 c=some u→upd H4 lo (.lst ((o.map fun k:Nat=>V.int (k:Int))++[V.int (p:Int)])) c=some u:=fun c u cl e=>(aM cl).trans e;have NN:upd H4 lo (.lst ((o.map fun k:Nat=>V.int (k:Int))++[V.int (p:Int)])) lo=some (.lst ((o++[p]).map fun k:Nat=>V.int (k:Int))):=by rw [au,fC];rfl
   have XC:dn≠lo:=fun z=>by rw [z,Cz] at CB;cases CB
   have NP:=off _ _ XC (s4 _ _ CB);have NQ:=off _ _ Xz.symm (s4 _ _ oV);have s5:ao H (upd H4 lo (.lst ((o.map fun k:Nat=>V.int (k:Int))++[V.int (p:Int)]))):=fun c u e=>off c u (fun z=>by rw [z,NK] at e;cases e) (s4 _ _ (sc _ _ e))
   generalize upd H4 lo (.lst ((o.map fun k:Nat=>V.int (k:Int))++[V.int (p:Int)]))=H5 at NN NP NQ s5 ⊢;dsimp only;refine ⟨_,rfl,_,rfl,dn,Sd.map iN,(p:Int),rfl,by rw [NP,bw];rfl,by rw [aG];lia,fun H6 tq ws pm so Gu s6 w6=>?_⟩
   have ew:=Fq m1 pS pm so;subst ew;refine ⟨_,?_,o++[p],aV Sd p,tq,_,rfl,rfl,s5.trans s6,s6 _ _ NQ,s6 _ _ NN,by rw [w6,bw];rfl,fw.next zv rV⟩
   rw [c_];simp only [lp];lia
 ·have hc:¬((o.map fun k:Nat=>V.int (k:Int)).length:Int)<(n:Int):=fun z=>hc (bV z)
  rw [aG] at hc;have oe:o.length=n:=by lia
  have sf:=Vz fw.mem (by lia)
  have w0:wW n Lk Sd=0:=by unfold wW;rw [lS,oe,qw];rfl
  have tt:=fw.LI;refine ⟨_,rfl,_,rfl,bG _,fun e0 qh=>?_⟩;have s6:ao Hc (upd Hc e0 (.tup [])):=aH qh;have e6:upd Hc e0 (.tup []) e0=some (.tup []):=au;generalize upd Hc e0 (.tup [])=H6 at s6 e6 ⊢;refine ⟨D,_,rfl,(tV [] (cq.mpr ⟨.nil,fun x h=>by cases h⟩))▸dE.t (k:=aA []) (s6 _ _ oV) e6,by show 2≤sizeLine;decide,fun t nt=>?_⟩
  exact kk _ t lo o (sc.trans (s6.trans (aH nt))) NK au (aH nt _ _ (s6 _ _ Cz)) (fw.pm.symm.trans (sf▸.refl _)) (by lia)
theorem XD:b8 ["thing","n"] ["thing","n"] (bA BF):=cL
theorem XE(T:Txt K mg t):bQ P w K mg base cV 2 t.si t.vw ["thing","n"] TK:=by
 have S:=XD;refine T.wg.dX S (fun _ _ _ _ H _ _ _ hr h=>?_);obtain ⟨a,zs,n,rfl,ea,tW,n1,k⟩:=h;have iy:=hr.units
 refine ⟨_,(aD (cm (PW.pt (pw_or (uG (pF (cI (AL (K:=K)) rfl T.zf boot_isinstance (ai (pv 0) (ai (An (v:=.ty "list") rfl T.oP boot_list rfl) aq))))) (pw_or1 (uG (pF (cI (yj (K:=K) rfl) rfl T.wZ boot_all (ai (jg (N:=["place"]) (ρ:=(fun σ=>[])) (fX [] rfl) rfl (dM (pv 0)) (fun _ _ _=>.nil) (fun _ _ _=>(a8 (W8 T) hr T.MA T.we.kp T.Mz bR (ai (pv 0) aq)))) aq))))))) (aI (bX hE)) ck)
  (aI (bX (mX (TF iy) (cI KI rfl T.tN uB (ai (pv 0) aq)) (gu (Ej rfl) rfl T.oP boot_list (ai (gu AN rfl T.gU AO (ai (pv 1) aq)) aq)))))),?_⟩
 refine ⟨_,rfl,_,_,_,true,rfl,rfl,.of (.lst ea),RL,true,rfl,iH ?_⟩;unfold Ir tB;refine rA (RO (xs:=zs.map V.int) (fun R h=>⟨_,rfl,a,rfl,⟨_,.of ea⟩,h _ _ (ao.refl _) (kC (.of ea))⟩) (by rw [aG];exact bS (by lia)) (fun _ i y _=>y=.bl true) (fun _ _ _ _ _ _ h _ _=>h) ?_ ?_)
 ·intro D i v hi Hc R sc _ kc
  obtain ⟨z,rfl⟩:∃z:Int,v=.int z:=by
   rw [bP] at hi;cases e:zs[i]? with
   | none=>rw [e] at hi;cases hi
   | some z=>rw [e] at hi;exact ⟨z,(Option.some.inj hi).symm⟩
  exact ⟨_,rfl,.int z,rfl,.int z,kc _ Hc (ao.refl _) rfl⟩
 ·intro D ys Hc sc mC hP eD
  refine ⟨D,List.replicate ys.length true,rfl,.of (by rw [eD];exact eL _ (eL _ (RV hP))),?_⟩
  rw [RW];refine ⟨true,rfl,iH ?_⟩;dsimp only [kh];have XF:=sc _ _ ea;refine ⟨_,rfl,a,zs,rfl,XF,tW,fun ws D2 p o n2=>?_⟩;refine ⟨_,rfl,(n:Int),rfl,fun p1 Gv=>⟨p1,n,rfl,au,by lia,fun l nl=>?_⟩⟩
  have d1:D2≠p1:=fun z=>by rw [←z,au] at Gv;cases Gv
  have d2:D2≠l:=fun z=>by rw [←z,aM d1,au] at nl;cases nl
  refine ⟨D2,l,ws,(List.range n).map iN,rfl,rfl,.of ?_,.of ?_,?_⟩;·rw [aM d2,aM d1,au]
  ·rw [au]
   unfold cJ;rw [bw];rfl
  ·rw [TJ p o]
   exact k _ (Bh (Bh (Bh sc n2) Gv) nl)
theorem XG:b8 ["order","n"] ["order","n"] (bA BG):=cL
theorem XH(T:Txt K mg t):bQ P w K mg base (fF P w) 3 t.sj t.vx ["order","n"] (TL t.nK):=by
 have S:=XG;refine T.wj.eW S (fun _ _ _ _ H _ _ _ hr h L=>?_);obtain ⟨a,zs,n,rfl,ea,tW,n1,kE,k⟩:=h;refine ⟨_,(aI (cm (uG (pF (a8 (XE T) hr T.MC T.wg.kp T.MB bR (ai (pv 0) (ai (pv 1) aq))))) (aI (JA L rfl PySem.F.excBase_ValueError T.NB rfl T.Nt (ai Io aq))) ck)),?_⟩;refine ⟨_,rfl,_,rfl,a,zs,n,rfl,ea,tW,n1,fun H1 s1=>⟨_,rfl,bZ (fun hb=>?_) (fun hb=>?_)⟩⟩;·exact ⟨by show 1≤sizeLine;decide,kE (by simpa using hb) _ s1⟩
 ·exact k (by simpa using hb) _ s1
theorem XI:b8 ["order","turns","turn","place"] ["order"] (bA BH):=cL
theorem XJ(T:Txt K mg t):bQ P w K mg base cV 1 t.sq t.vy ["order"] TN:=by
 have S:=XI;refine T.wm.dX S (fun _ _ _ _ H _ _ _ hr h=>?_);obtain ⟨a,n,o,rfl,⟨ea,ho⟩,n1,kk⟩:=h;have lo:=va ho;have lm:(o.map fun k:Nat=>V.int (k:Int)).length=n:=by rw [aG,lo]
 refine ⟨_,(aD (putL 1 S.nd (bh Q2 (eR (ai aF aq)) (cI jN rfl T.fN fS (ai (pv 0) aq))))
  (aD (dN dB rfl (R1 rfl T.Nv (ai (pv 0) aq)) (qQ rfl (i8 (cy (i:=2) S.nd rfl (Or.inl rfl)) (i8 (cy (i:=3) S.nd rfl (Or.inl rfl)) qP)))
   (aI (@x4 _ _ _ _ _ _ (pv 2) (xZ (pv 1) (pv 3) set_list) (by rfl) (by rfl) (by rfl))))
  (aI (bX (pv 1))))),?_⟩
 refine ⟨by show 1≤sizeLine;decide,fun l nl=>?_⟩
 have al:a≠l:=fun z=>by rw [z,nl] at ea;cases ea
 refine ⟨_,rfl,a,_,rfl,.inl (.of (by rw [aM al];exact ea)),l,_,_,rfl,rfl,au,by lia,by rw [lm];lia,?_,fun c nc=>?_⟩
 ·rw [lm,dF]
  show 1*n≤sizeLine;rw [gY];lia
 rw [lm,dF,TV n o];have CF:H c=none:=none_of (aH nl) nc;have s0:ao H (upd (upd H l (.lst [.int 0])) c (.lst ((List.range n).map fun p=>V.int (kK o 0 p)))):=(aH nl).trans (aH nc);have e0:upd (upd H l (.lst [.int 0])) c (.lst ((List.range n).map fun p=>V.int (kK o 0 p))) c=_:=au;generalize upd (upd H l (.lst [.int 0])) c (.lst ((List.range n).map fun p=>V.int (kK o 0 p)))=H0 at s0 e0 ⊢;dsimp only [aP];refine cW ⟨_,rfl,a,rfl,⟨_,.of (s0 _ _ ea)⟩,?_⟩
 refine R3 (K:=K) (l:=a) (xs:=o.map fun k:Nat=>V.int (k:Int)) (fun i σ Hc=>ao H Hc∧∃(v2 v3:Option V),σ=[some (.ref a),some (.ref c),v2,v3]∧Hc c=some (.lst ((List.range n).map fun p=>V.int (kK o i p))))
  ⟨s0,_,_,rfl,e0⟩ (fun i σ Hc ⟨z,_⟩=>.of (z _ _ ea)) ?_ ?_
 ·rintro i x σ Hc Tt hx ⟨sc,v2,v3,rfl,ec⟩ nT
  have hi:i<o.length:=by have:=(bx.mp hx).1;simpa using this
  have ex:x=.int ((o[i]:Nat):Int):=by rw [bP] at hx;simp [hi] at hx;exact hx.symm
  subst ex;have hp:o[i]<n:=(jT ho).mp (cB hi);have sT:ao Hc (upd Hc Tt (.tup [.int (i:Int),.int ((o[i]:Nat):Int)])):=aH nT;have eT:upd Hc Tt (.tup [.int (i:Int),.int ((o[i]:Nat):Int)]) Tt=_:=au;generalize upd Hc Tt (.tup [.int (i:Int),.int ((o[i]:Nat):Int)])=H1 at sT eT ⊢;refine ⟨Tt,_,rfl,.of eT,rfl,_,_,rfl,_,_,rfl,rfl,?_⟩;refine ⟨_,rfl,_,rfl,_,rfl,c,_,_,o[i],rfl,rfl,sT _ _ ec,by rw [aG,dJ];exact KO hp,?_⟩
  exact ⟨fG (sc.trans sT) CF,_,_,rfl,by rw [au,TR ho hi]⟩
 ·rintro σ Hc ⟨sc,v2,v3,rfl,ec⟩
  rw [aG,TY ho] at ec;exact ⟨_,rfl,kk c Hc sc CF ec⟩
theorem XM:b8 ["linked","places","one","other"] ["linked","places"] (bA BI):=cL
theorem XN(T:Txt K mg t):bQ P w K mg base cV 1 t.sr t.vz ["linked","places"] TZ:=by
 have S:=XM;refine T.wq.dX S (fun _ _ _ _ H _ _ _ hr h=>?_);obtain ⟨D,pl,n,ds,un,f,ps,rfl,KL,w9,XO,n9,kk⟩:=h;have hu:=fg (gJ (show 1≤64 by decide) _) hr.units
 have cO:∀i,i<n→un i→pl≠ds i:=fun i hi ui z=>by rw [z,KL.at' i hi ui] at w9;cases w9
 have NR:∀{i:Nat} {x:V},(ps.map fun k:Nat=>V.int (k:Int))[i]?=some x→∃p:Nat,ps[i]?=some p∧x=.int (p:Int)∧p<n∧un p:=fun{i x} hx=>by
  rw [bP] at hx;cases e:ps[i]? with
  | none=>rw [e] at hx;cases hx
  | some p=>rw [e] at hx;exact ⟨p,rfl,(Option.some.inj hx).symm,XO p (iz e)⟩
 refine ⟨_,(aI (dN dB rfl (dM (pv 1)) (cy (i:=2) S.nd rfl (Or.inl rfl))
   (aI (dN dB rfl (dM (pv 1)) (cy (i:=3) S.nd rfl (Or.inl rfl))
   (aI (cm (b5 qW (pv 2) (pv 3)) (aI (gF hu (bN dv (pv 0) (pv 2)) (pv 3) hE rfl)) ck)))))),?_⟩
 refine ⟨_,rfl,pl,rfl,⟨_,.of w9⟩,?_⟩;refine jI (K:=K) (a:=pl) (xs:=ps.map fun k:Nat=>V.int (k:Int)) (fun i σ Hc=>∃(g:Nat→List Nat) (v2 v3:Option V),σ=[some (.ref D),some (.ref pl),v2,v3]∧pX n ds un H Hc∧dQ Hc D n ds un g∧iu n f ps i 0 g) ⟨f,_,_,rfl,.refl,KL,iu.start n f ps⟩ (fun i σ Hc _ ⟨_,_,_,_,oc,_⟩=>.of (oc _ _ w9 cO)) ?_ ?_
 ·rintro i x σ Hc hx ⟨g,v2,v3,rfl,oc,Kc,la⟩
  obtain ⟨p,hp,rfl,pn,up⟩:=NR hx;refine ⟨_,rfl,pl,rfl,⟨_,.of (oc _ _ w9 cO)⟩,?_⟩;refine jI (K:=K) (a:=pl) (xs:=ps.map fun k:Nat=>V.int (k:Int)) (fun j σ Hd=>∃(g:Nat→List Nat) (v3:Option V),σ=[some (.ref D),some (.ref pl),some (.int (p:Int)),v3]∧pX n ds un H Hd∧dQ Hd D n ds un g∧iu n f ps i j g) ⟨g,_,rfl,oc,Kc,la⟩ (fun i σ Hc _ ⟨_,_,_,oc,_⟩=>.of (oc _ _ w9 cO)) ?_ ?_
  ·rintro j y σ Hd hy ⟨g,v3,rfl,od,Kd,la⟩
   obtain ⟨q,hq,rfl,qn,uq⟩:=NR hy;refine ⟨_,rfl,_,rfl,rfl,_,rfl,bZ (fun hb=>?_) (fun hb=>?_)⟩
   ·have ne:p≠q:=fun z=>by subst z;rw [jh,bV rfl] at hb;cases hb
    obtain ⟨q1,K1⟩:=Kd.put pn qn up n9;exact ⟨_,rfl,_,rfl,D,_,_,_,rfl,rfl,.of Kd.lst,Kd.ix pn,_,rfl,_,_,rfl,q1,_,_,rfl,od.put pn up,K1,la.put hp hq ne⟩
   ·have e:p=q:=by
     by_cases z:(p:Int)=(q:Int);·lia
     ·exact absurd (by rw [jh,b3 z];rfl) hb
    subst e;exact ⟨_,_,rfl,od,Kd,la.same hp hq⟩
  ·rintro σ Hd ⟨g,v3,rfl,od,Kd,la⟩
   rw [aG] at la;exact ⟨g,_,_,rfl,od,Kd,la.row⟩
 ·rintro σ Hc ⟨g,v2,v3,rfl,oc,Kc,la⟩
  rw [aG] at la;exact kk _ g oc Kc la.done
theorem XQ:b8 ["shape","order","linked","turns","told","place"] ["shape","order"] (bA BJ):=cL
theorem XR(T:Txt K mg t):bQ P w K mg base (fF P w) 4 t.su t.vB ["shape","order"] (Uq t.nK):=by
 have S:=XQ;refine T.wu.eW S (fun _ _ _ _ H _ _ _ hr h L=>?_);obtain ⟨tp,a,n,Lk,zs,rfl,hS,hL,ns,Cu,ea,tW,kE,kk⟩:=h;obtain ⟨lt,us,dH,elt,om⟩:=id hS
 refine ⟨_,(aD (gr (a8 (XH T) hr T.ME T.wj.kp T.MD (m5 L) (ai (pv 1) (ai (bN gO (pv 0) aF) aq))))
  (gq.qN (aD (putL 2 S.nd (a8 (ND T) hr T.FV T.tH.kp T.FU bR (ai (pv 0) aq)))
  (aD (JJ 3 S.nd (a8 (XJ T) hr T.MG T.wm.kp T.MF bR (ai (pv 1) aq)))
  (aD (ym (i0:=4) (N:=["place"]) (ρ:=(fun σ=>[])) (fX [] rfl) rfl S.nd rfl (Or.inl rfl) (dM (pv 1)) (fun _ _ _=>.nil) (fun _ _ _=>(eR aq)))
  (aD (dN dB rfl (dM (pv 1)) (cy (i:=5) S.nd rfl (Or.inr rfl))
   (aD (@x4 _ _ _ _ _ _ (cI KI rfl T.tN uB (ai (jg (N:=["other","turns","place"]) (ρ:=(fun σ=>[σ[3]?.join,σ[5]?.join])) (fX [3,5] rfl) rfl (Bb (bN dv (pv 2) (pv 5))) (fun _ _ _=>(.one (b5 oi (bN (JP (K:=K)) (pv 1) (pv 0)) (bN (JP (K:=K)) (pv 1) (pv 2))))) (fun _ _ _=>(pv 0))) aq)) (xZ (pv 4) (pv 5) set_list) (by rfl) (by rfl) (by rfl))
  (aI (gr (a8 (XN T) hr T.MK T.wq.kp T.MJ bR (ai (pv 2) (ai (bN dv (pv 4) (pv 5)) aq)))))))
  (aI (bX (pv 4))))))))),?_⟩
 refine ⟨_,rfl,_,rfl,tp,_,_,_,rfl,rfl,.of dH,rfl,a,zs,n,rfl,ea,tW,by lia,fun no H1 s1=>kE no H1 s1,fun yes H1 s1=>?_⟩
 obtain ⟨o,rfl,ho⟩:=T7 yes;have kk:=kk o rfl ho;have lo:=va ho;have nd:=yL ho;have zw:H a=some (.lst (o.map fun k:Nat=>V.int (k:Int))):=by rw [ea,bw];rfl
 have lm:(o.map fun k:Nat=>V.int (k:Int)).length=n:=by rw [aG,lo]
 refine ⟨_,rfl,tp,n,Lk,rfl,⟨lt,us,s1 _ _ dH,s1 _ _ elt,om.mono s1⟩,hL,by lia,fun H2 D ds f s2 nD Gq KL nb=>?_⟩
 have Gw:=none_of s1 nD;have NS:∀i,i<n→H (ds i)=none:=fun i hi=>none_of s1 (Gq i hi);have fb:=s1.trans s2;dsimp only [aP];refine ⟨_,rfl,a,n,o,rfl,⟨fb _ _ zw,ho⟩,by lia,fun tr H3 s3 XS e3=>?_⟩
 have fz:=fb.trans s3;have acV:=none_of fb XS;have K3:=KL.mono s3;dsimp only [aP];refine cW (fj (Eu (xs:=o.map fun k:Nat=>V.int (k:Int)) (n:=n) lm (fun R h=>⟨_,rfl,a,rfl,⟨_,.of (fz _ _ zw)⟩,h _ _ (ao.refl _) (kC (.of (fz _ _ zw)))⟩) (bS (by lia)) (fun _ i y Hx=>H3 y=none) (fun _ _ _ _ _ _ h _ _ _=>h) ?_ ?_))
 ·intro D' i x hx Hc R sc _ kc
  refine ⟨by show 0≤sizeLine;exact bG _,fun p np=>kc p _ (aH np) np ⟨_,au⟩ (none_of sc np)⟩
 ·intro c zA H4 nc s4 _ hA ec
  have nQ:=fz.trans s4;have NT:=none_of fz nc;have K4:=K3.mono s4;have e4:=s4 _ _ e3;have cD:c≠D:=fun z=>by rw [z,K3.lst] at nc;cases nc
  have XT:c≠tr:=fun z=>by rw [z,e3] at nc;cases nc
  dsimp only [aP];refine cW ⟨_,rfl,a,rfl,⟨_,.of (nQ _ _ zw)⟩,?_⟩
  refine jI (K:=K) (a:=a) (xs:=o.map fun k:Nat=>V.int (k:Int)) (fun k σ Hc=>∃(rs:Nat→Addr) (f g:Nat→List Nat) (v5:Option V),σ=[some (.ref tp),some (.ref a),some (.ref D),some (.ref tr),some (.ref c),v5]∧ao H Hc∧dQ Hc D n ds (fun p=>k≤o.idxOf p) f∧Hc tr=some (.lst ((List.range n).map fun p=>V.int (o.idxOf p:Int)))∧Hc c=some (.lst ((List.range n).map fun p=>V.ref (rs p))) ∧
    (∀p,p<n→o.idxOf p<k→H (rs p)=none∧rs p≠c∧Hc (rs p)=some (.lst ((g p).map fun k:Nat=>V.int (k:Int)))∧kL n o p (g p)∧mq n Lk o p (g p))∧rR n Lk o k f) ⟨zA,f,fun _=>[],_,rfl,nQ,K4.less (fun _ _ _=>trivial),e4,ec,fun p _ h=>absurd h (xD _),rR.start nb ns⟩ (fun k σ Hc _ ⟨_,_,_,_,_,sc,_⟩=>.of (sc _ _ zw)) ?_ ?_
  ·rintro k x σ Hc hx ⟨rs,f,g,v5,rfl,sc,Kc,Gx,CG,done,Gy⟩
   have hk:k<o.length:=by have:=(bx.mp hx).1;simpa using this
   have ex:x=.int ((o[k]:Nat):Int):=by rw [bP] at hx;simp [hk] at hx;exact hx.symm
   subst ex;have hp:o[k]<n:=(jT ho).mp (cB hk);have ip:o.idxOf o[k]=k:=KP nd hk;generalize o[k]=p at hp ip ⊢;dsimp only [aP];have NU:=Kc.at' p hp (by lia)
   refine cW (fj (rA (Bi ⟨_,rfl,_,rfl,D,_,_,_,rfl,rfl,.of Kc.lst,Kc.ix hp,ds p,dk (f p),rfl,.inl ⟨NU,fun ob=>?_⟩⟩)));have Kf:dQ (upd Hc (ds p) (.aW ob (.dK (dk (f p))))) D n ds (fun q=>k+1≤o.idxOf q) f:=(Kc.less (fun i hi (ui:k+1≤o.idxOf i)=>show k≤o.idxOf i by lia)).upd (Kc.ne p hp) (fun i hi (ui:k+1≤o.idxOf i) z=>by have:=Kc.inj i p hi hp z;subst this;lia)
   have Gz:∀{b:Addr} {xs:List V},Hc b=some (.lst xs)→b≠ds p:=fun{b xs} e z=>by rw [z,NU] at e;cases e
   have CH:upd Hc (ds p) (.aW ob (.dK (dk (f p)))) tr=_:=(aM (Gz Gx)).trans Gx;have CI:upd Hc (ds p) (.aW ob (.dK (dk (f p)))) c=_:=(aM (Gz CG)).trans CG;have sf:ao H (upd Hc (ds p) (.aW ob (.dK (dk (f p))))):=fun b u e=>by
    rw [aM (fun z=>by rw [z,NS p hp] at e;cases e)]
    exact sc _ _ e
   have GA:∀q,q<n→o.idxOf q<k→H (rs q)=none∧rs q≠c∧upd Hc (ds p) (.aW ob (.dK (dk (f p)))) (rs q)=some (.lst ((g q).map fun k:Nat=>V.int (k:Int)))∧kL n o q (g q)∧mq n Lk o q (g q):=fun q hq CJ=>by obtain ⟨d1,d2,d3,d4⟩:=done q hq CJ;exact ⟨d1,d2,(aM (Gz d3)).trans d3,d4⟩
   have jv:upd Hc (ds p) (.aW ob (.dK (dk (f p)))) (ds p)=some (.aW ob (.dK (dk (f p)))):=au;generalize upd Hc (ds p) (.aW ob (.dK (dk (f p))))=Hf at Kf CH CI sf GA jv ⊢;have zB:=Kc.pl p hp;refine E8 jv (fun q=>decide ((o.idxOf p:Int)<(o.idxOf q:Int))) (fg zB.len (bS (by lia))) ?_ ?_ ?_
   ·intro q hq Hx R sx hR
    have qn:=zB.2 q hq;exact ⟨_,rfl,_,rfl,tr,_,_,_,rfl,rfl,.of (sx _ _ CH),rO qn,_,rfl,_,rfl,tr,_,_,_,rfl,rfl,.of (sx _ _ CH),rO hp,_,_,rfl,rfl,_,rfl,hR⟩
   ·intro q hq Hx R hR
    exact ⟨_,rfl,hR⟩
   ·intro D1 H1 nD1 NV NW
    rw [Ub] at NW;have fl:((f p).filter fun q=>decide (o.idxOf p<o.idxOf q)).length≤n:=a9 (j9 _ _) zB.len;refine ⟨D1,((f p).filter fun q=>decide (o.idxOf p<o.idxOf q)).map iN,rfl,by rw [NW,bw];rfl,by rw [aG];lia,fun ws D2 pw so zq=>?_⟩
    obtain ⟨ms,rfl,pm⟩:=KR pw;have CK:=T5 zB pm so;have hm:∀q,q∈ms↔q∈f p∧k<o.idxOf q:=fun q=>by rw [pm.mem_iff,cG,fR,ip]
    have XU:mq n Lk o p ms:=fun q=>by
     rw [hm q,ip];constructor
     ·rintro ⟨h1,h2⟩
      have qn:=zB.2 q h1;exact ⟨qn,h2,((Gy p q hp qn (by lia) (by lia)).mp h1).2⟩
     ·rintro ⟨h1,h2,h3⟩
      exact ⟨(Gy p q hp h1 (by lia) (by lia)).mpr ⟨fun e=>by subst e;lia,h3⟩,h2⟩
    have tX:ao Hf (upd H1 D2 (.lst ((ms.map iN).map V.int))):=Bh NV zq;have k_:upd H1 D2 (.lst ((ms.map iN).map V.int)) D2=some (.lst (ms.map fun k:Nat=>V.int (k:Int))):=by rw [au,bw];rfl
    have GB:Hf D2=none:=none_of NV zq;have XW:H D2=none:=none_of sf GB;generalize upd H1 D2 (.lst ((ms.map iN).map V.int))=Hg at tX k_ ⊢;have NX:D2≠c:=fun z=>by rw [z,CI] at GB;cases GB
    refine ⟨_,rfl,_,rfl,c,_,_,p,rfl,rfl,tX _ _ CI,by rw [aG,dJ];exact KO hp,?_⟩
    rw [T8];have Kg:=Kf.mono tX;have Kh:dQ (upd Hg c (.lst ((List.range n).map fun q=>V.ref (kM rs p D2 q)))) D n ds (fun q=>k+1≤o.idxOf q) f:=Kg.upd cD (fun i hi ui z=>by have:=Kg.at' i hi ui;rw [z,tX _ _ CI] at this;cases this)
    have sh:ao H (upd Hg c (.lst ((List.range n).map fun q=>V.ref (kM rs p D2 q)))):=fG (sf.trans tX) NT;have GC:upd Hg c (.lst ((List.range n).map fun q=>V.ref (kM rs p D2 q))) c=_:=au;have NY:upd Hg c (.lst ((List.range n).map fun q=>V.ref (kM rs p D2 q))) tr=_:=(aM (Ne.symm XT)).trans (tX _ _ CH);have GD:upd Hg c (.lst ((List.range n).map fun q=>V.ref (kM rs p D2 q))) D2=_:=(aM NX).trans k_;have NZ:∀q,q<n→o.idxOf q<k→upd Hg c (.lst ((List.range n).map fun q=>V.ref (kM rs p D2 q))) (rs q)=some (.lst ((g q).map fun k:Nat=>V.int (k:Int))):=fun q hq CJ=>by obtain ⟨d1,d2,d3,d4⟩:=GA q hq CJ;exact (aM d2).trans (tX _ _ d3)
    generalize upd Hg c (.lst ((List.range n).map fun q=>V.ref (kM rs p D2 q)))=Hh at Kh sh GC NY GD NZ ⊢;refine ⟨_,rfl,_,rfl,_,rfl,c,_,_,_,rfl,rfl,.of GC,rO hp,?_⟩;rw [KS];refine ⟨D,D2,n,ds,_,f,ms,rfl,Kh,GD,fun q hq=>⟨CK.lt q hq,by have:=CK.la q hq;lia⟩,by lia,fun H5 g5 off K5 con=>?_⟩
    have cO:∀{b:Addr} {xs:List V},Hh b=some (.lst xs)→H5 b=some (.lst xs):=fun{b xs} e=>off _ _ e fun i hi ui z=>by rw [z,Kh.at' i hi ui] at e;cases e
    refine ⟨kM rs p D2,g5,eF g p ms,_,rfl,fun b u e=>off _ _ (sh _ _ e) (fun i hi _ z=>by rw [z,NS i hi] at e;cases e),K5,cO NY,cO GC,fun q hq CJ=>?_,Gy.step ho hp ip hm CK.lt con⟩
    by_cases e:q=p
    ·subst e
     rw [KS,T_];exact ⟨XW,NX,cO GD,CK,XU⟩
    ·rw [T9 e,Ua e]
     have ne:=yN ho hq hp e;have N0:o.idxOf q<k:=by lia
     obtain ⟨d1,d2,d3,d4⟩:=GA q hq N0;exact ⟨d1,d2,cO (NZ q hq N0),d4⟩
  ·rintro σ Hc ⟨rs,f,g,v5,rfl,sc,Kc,Gx,CG,done,_⟩
   rw [lm] at done;have lt:∀p,p<n→o.idxOf p<n:=fun p hp=>by have:=(yM ((jT ho).mpr hp)).1;lia
   exact ⟨_,rfl,kk Hc c rs g sc NT (fun p hp=>(done p hp (lt p hp)).1) ⟨CG,fun p hp=>(done p hp (lt p hp)).2.2.1⟩ fun p hp=>(done p hp (lt p hp)).2.2.2⟩
theorem XX:b8 ["shape","order"] ["shape","order"] (bA BL):=cL
theorem CL(T:Txt K mg t):bQ P w K mg base (fF P w) 5 t.sE t.vD ["shape","order"] (UG t.nK):=by
 have S:=XX;refine T.oO.eW S (fun _ _ _ _ H _ _ _ hr h L=>?_);obtain ⟨tp,a,n,Lk,zs,rfl,hS,hL,ns,n9,ea,tW,kE,kk⟩:=h
 refine ⟨_,(aD (bX (cI (RT (K:=K) rfl) rfl T.Nz boot_sum (ai (jg (N:=["others"]) (ρ:=(fun σ=>[])) (fX [] rfl) rfl (dM (a8 (XR T) hr T.MM T.wu.kp T.ML (m5 L) (ai (pv 0) (ai (pv 1) aq)))) (fun _ _ _=>.nil) (fun _ _ _=>(a8 (NF T) hr T.FX T.tI.kp T.FW bR (ai (cI (Es (K:=K)) rfl T.fN fS (ai (pv 0) aq)) aq)))) aq)))
  (gq.qN ck)),?_⟩
 refine uU (rA (Bi ⟨_,rfl,_,rfl,tp,a,n,Lk,zs,rfl,hS,hL,ns,by lia,ea,tW,kE,fun o ez ho H1 D rs g s1 nD GF la ok=>⟨D,rfl,⟨_,.of la.1⟩,?_⟩⟩))
 have GG:((List.range n).map fun p=>V.ref (rs p)).length=n:=by rw [aG,dJ]
 refine pP (xs:=(List.range n).map fun p=>V.ref (rs p)) (fun R h=>h _ _ (ao.refl _) (kC (.of la.1))) (by rw [GG];exact bS (by lia)) (fun _ i y _=>y=.int (((g i).length:Int)*(g i).length+3*(g i).length+1)) (fun _ _ _ _ _ _ h _ _=>h) ?_ ?_
 ·intro D' k x hx Hc R sc _ kc
  have hk:k<n:=by have:=(bx.mp hx).1;rw [GG] at this;exact this
  have ex:x=.ref (rs k):=by rw [bP,qv hk] at hx;exact (Option.some.inj hx).symm
  subst ex;have lg:(g k).length≤30:=a9 (Uc ho (ok k hk).1) (by lia)
  refine ⟨_,rfl,rs k,_,rfl,.inl (.of (sc _ _ (la.2 k hk))),(g k).length,by rw [aG];rfl,by lia,kc _ Hc (ao.refl _) rfl⟩
 ·intro D' ys Hc GH sc k8 mC GI
  rw [GG] at k8;have ey:ys=((List.range n).map fun i=>((g i).length:Int)*(g i).length+3*(g i).length+1).map V.int:=by
   refine g7 (by simp [k8]) fun i h1 h2=>?_
   rw [fQ,fQ,qD];exact mC i _ (bg h1)
  have es:((List.range n).map fun i=>((g i).length:Int)*(g i).length+3*(g i).length+1).sum=((((List.range n).map fun i=>(g i).length*(g i).length+3*(g i).length+1).sum:Nat):Int):=by
   generalize List.range n=l;clear ey mC k8 kk
   induction l with
   | nil=>rfl
   | cons x l ih=>rw [dq,g9,dq,g9,ih];push_cast;rfl
  refine ⟨D',_,rfl,.of (by rw [GI,ey]),?_⟩
  rw [es];exact kk o ez ho _ (s1.trans sc) _ fun M fs=>Lj ho fs ok
theorem XY:b8 ["_law_cell","_law_at","_law_x"] ["_law_cell","_law_at"] (bA BX):=cL
theorem XZ(T:Txt K mg t):bQ P w K mg base cV 1 t.sR t.vP ["_law_cell","_law_at"] RX:=by
 have S:=XY;refine T.wI.dX S (fun _ _ _ _ H _ _ _ hr h=>?_);obtain ⟨c,a,rfl,ha,k⟩:=h
 refine ⟨_,(aD (cm (b5 PY (pv 0) (bh PR aF aF)) (aI (bX (pv 0))) ck)
  (aD (putL 2 S.nd (bh qV (bh fD (bh fD (bh i_ (bh qV (pv 0) aF) aF) (bh i_ (pv 1) aF)) aF) aF))
  (aD (putL 2 S.nd (bh qV (bh fD (bh fD (bh i_ (pv 2) (pv 2)) (bh i_ aF (pv 2))) (pv 1)) aF))
  (aI (bX (bh fD (bh i_ (pv 2) aF) (bh qV (bh fD (bh i_ (pv 2) (pv 2)) (bh i_ aF (pv 1))) aF))))))),?_⟩
 refine ⟨_,rfl,_,_,rfl,rfl,⟨by decide,by decide,by decide⟩,_,_,rfl,rfl,_,rfl,bZ (fun h=>?_) (fun h=>?_)⟩
 ·have h:=fP h
  exact ⟨_,rfl,k _ (dt (by decide) h)⟩
 ·refine ⟨_,rfl,_,_,rfl,rfl,(by show (0:Int)<2147483647;decide),_,_,rfl,rfl,.inr ⟨by decide,by decide⟩,_,rfl,_,_,rfl,rfl,.inr ⟨by decide,by decide⟩,_,_,rfl,rfl,_,_,rfl,rfl,_,_,rfl,rfl,(by show (0:Int)<2147483629;decide),?_⟩
  have b0:=nZ (c % 2147483647*48271+a*69621+11) (show (2147483629:Int)≠0 by decide)
  have b1:=qI (c % 2147483647*48271+a*69621+11) (show (0:Int)<2147483629 by decide)
  generalize (c % 2147483647*48271+a*69621+11) % 2147483629=x at b0 b1 ⊢;refine ⟨_,rfl,_,rfl,_,_,rfl,rfl,.inl ⟨by lia,by lia⟩,_,rfl,_,_,rfl,rfl,.inl ⟨by decide,by decide⟩,_,_,rfl,rfl,_,rfl,_,_,rfl,rfl,_,_,rfl,rfl,(by show (0:Int)<2147483587;decide),?_⟩
  have c0:=nZ (x*x+48271*x+a) (show (2147483587:Int)≠0 by decide)
  have c1:=qI (x*x+48271*x+a) (show (0:Int)<2147483587 by decide)
  generalize (x*x+48271*x+a) % 2147483587=y at c0 c1 ⊢;refine ⟨_,rfl,_,_,rfl,rfl,.inr ⟨by decide,by decide⟩,_,rfl,_,rfl,_,_,rfl,rfl,.inl ⟨by lia,by lia⟩,_,rfl,_,_,rfl,rfl,.inl ⟨by decide,by decide⟩,_,_,rfl,rfl,_,_,rfl,rfl,(by show (0:Int)<2147483579;decide),_,_,rfl,rfl,k _ (Int.add_nonneg (Int.mul_nonneg (nZ _ (by decide)) (by decide)) (nZ _ (by decide)))⟩
theorem X0:b8 ["_law_pen","_law_many","_law_at","_law_cell","_law_found"] ["_law_pen","_law_many"] (bA BY):=cL
theorem mE(T:Txt K mg t):bQ P w K mg base cV 2 t.sS t.vQ ["_law_pen","_law_many"] (RY K):=by
 have S:=X0;refine T.eJ.dX S (fun _ _ _ _ H _ _ _ hr h=>?_);obtain ⟨P0,a,ns,many,rfl,⟨x,y,eP,hx,hy⟩,hS,m1,mm,k⟩:=h;have iy:=hr.units
 refine ⟨_,(aD (cm (b5 Av (bN dv (pv 0) aF) (pv 1)) (aD (putL 2 S.nd (bN dv (pv 0) aF))
  (aD (putL 3 S.nd aF)
  (aD (cm (b5 Av (pv 2) (cI jN rfl T.fN fS (ai (bN dv (pv 0) aF) aq))) (aI (putL 3 S.nd (bN dv (bN dv (pv 0) aF) (pv 2)))) (aI (cm (b5 oi (cI jN rfl T.fN fS (ai (bN dv (pv 0) aF) aq)) aF) (aI (putL 3 S.nd (bh fD (bh qV (bN dv (bN dv (pv 0) aF) (bh qV (bh i_ (pv 2) aF) (cI jN rfl T.fN fS (ai (bN dv (pv 0) aF) aq)))) aF) (bh i_ (pv 2) aF)))) ck)))
  (aD (@x4 _ _ _ _ _ _ (bh fD (pv 2) aF) (xZ (pv 0) aF set_list) (by rfl) (by rfl) (by rfl))
  (aI (@x4 _ _ _ _ _ _ (a8 (XZ T) hr T.M0 T.wI.kp T.MZ bR (ai (pv 3) (ai (pv 2) aq))) (xZ (pv 0) aF set_list) (by rfl) (by rfl) (by rfl))))))) ck)
  (aD (putL 4 S.nd (bh qV (bN dv (pv 0) aF) (pv 1)))
  (aD (@x4 _ _ _ _ _ _ (bh RF (bN dv (pv 0) aF) (pv 1)) (xZ (pv 0) aF set_list) (by rfl) (by rfl) (by rfl))
  (aI (bX (pv 4)))))),?_⟩
 have nu:=AS.seq hS;refine ⟨_,rfl,P0,_,_,_,rfl,rfl,.of eP,rfl,_,rfl,_,_,rfl,rfl,_,rfl,bZ (fun aT=>?_) (fun aT=>?_)⟩
 ·refine ⟨_,rfl,P0,_,_,_,rfl,rfl,.of eP,rfl,?_⟩
  refine ⟨_,rfl,_,rfl,P0,_,_,_,rfl,rfl,.of eP,rfl,a,ns.map V.int,rfl,.inl nu,_,_,rfl,rfl,_,rfl,bZ (fun h1=>?_) (fun h1=>?_)⟩
  ·have h1:x<((ns.map V.int).length:Int):=fP h1
   obtain ⟨v,hv,mv⟩:=JK (xs:=ns.map V.int) hx h1;obtain ⟨c,_,rfl⟩:=b7.mp mv;refine ⟨_,rfl,P0,_,_,_,rfl,rfl,.of eP,rfl,_,rfl,a,ns.map V.int,_,_,rfl,rfl,nu,hv,?_⟩;refine ⟨_,rfl,_,_,rfl,rfl,_,rfl,P0,_,1,1,rfl,rfl,eP,rfl,?_⟩;refine ⟨_,rfl,_,rfl,c,x,rfl,hx,fun r zC=>⟨_,rfl,P0,_,2,2,rfl,rfl,au,rfl,?_⟩⟩;have q0:=nZ (r) (show many≠0 by lia)
   have q1:=qI (r) (show 0<many by lia)
   have q2:=Aj (zC) (show 0≤many by lia)
   refine ⟨_,rfl,P0,_,_,_,rfl,rfl,.of au,rfl,_,rfl,_,_,rfl,rfl,(show 0<many by lia),?_⟩
   refine ⟨_,rfl,P0,_,_,_,rfl,rfl,.of au,rfl,_,rfl,_,_,rfl,rfl,⟨show 0<many by lia,mm⟩,_,rfl,P0,_,2,2,rfl,rfl,au,rfl,?_⟩
   exact ⟨_,rfl,k _ _ q0 q1 (((aU.refl H).trans aU.bu).trans (aU.bu.trans aU.bu)) ⟨x+1,r / many,au,by lia,q2⟩⟩
  ·refine ⟨_,rfl,P0,_,_,_,rfl,rfl,.of eP,rfl,a,ns.map V.int,rfl,.inl nu,_,_,rfl,rfl,_,rfl,?_⟩
   have CM:=eP;have N1:=nu;have sl:=ao.refl H;refine bZ (fun h2=>?_) (fun h2=>?_)
   ·have hl:0<(ns.map V.int).length:=by have:=fP h2;lia
    have X1:=nZ (x*7) (show ((ns.map V.int).length:Int)≠0 by lia)
    have yU:=qI (x*7) (show (0:Int)<((ns.map V.int).length:Int) by lia)
    obtain ⟨v,hv,mv⟩:=JK (xs:=ns.map V.int) X1 yU;obtain ⟨c,_,rfl⟩:=b7.mp mv;refine ⟨_,rfl,P0,_,_,_,rfl,rfl,.of CM,rfl,_,rfl,_,_,rfl,rfl,.inr ⟨by decide,by decide⟩,_,rfl,P0,_,_,_,rfl,rfl,.of CM,rfl,a,ns.map V.int,rfl,.inl N1,_,_,rfl,rfl,(show (0:Int)<((ns.map V.int).length:Int) by lia),a,ns.map V.int,_,_,rfl,rfl,N1,hv,_,_,rfl,rfl,(show (0:Int)<1000003 by decide),_,rfl,_,_,rfl,rfl,.inr ⟨by decide,by decide⟩,_,_,rfl,rfl,?_⟩
    refine ⟨_,rfl,_,_,rfl,rfl,_,rfl,P0,_,1,1,rfl,rfl,CM,rfl,?_⟩;refine ⟨_,rfl,_,rfl,_,x,rfl,hx,fun r zC=>⟨_,rfl,P0,_,2,2,rfl,rfl,au,rfl,?_⟩⟩;have q0:=nZ (r) (show many≠0 by lia)
    have q1:=qI (r) (show 0<many by lia)
    have q2:=Aj (zC) (show 0≤many by lia)
    refine ⟨_,rfl,P0,_,_,_,rfl,rfl,.of au,rfl,_,rfl,_,_,rfl,rfl,(show 0<many by lia),?_⟩
    refine ⟨_,rfl,P0,_,_,_,rfl,rfl,.of au,rfl,_,rfl,_,_,rfl,rfl,⟨show 0<many by lia,mm⟩,_,rfl,P0,_,2,2,rfl,rfl,au,rfl,?_⟩
    exact ⟨_,rfl,k _ _ q0 q1 (((aU.of sl).trans aU.bu).trans (aU.bu.trans aU.bu)) ⟨x+1,r / many,au,by lia,q2⟩⟩
   ·
    refine ⟨_,rfl,_,_,rfl,rfl,_,rfl,P0,_,1,1,rfl,rfl,CM,rfl,?_⟩;refine ⟨_,rfl,_,rfl,0,x,rfl,hx,fun r zC=>⟨_,rfl,P0,_,2,2,rfl,rfl,au,rfl,?_⟩⟩;have q0:=nZ (r) (show many≠0 by lia)
    have q1:=qI (r) (show 0<many by lia)
    have q2:=Aj (zC) (show 0≤many by lia)
    refine ⟨_,rfl,P0,_,_,_,rfl,rfl,.of au,rfl,_,rfl,_,_,rfl,rfl,(show 0<many by lia),?_⟩
    refine ⟨_,rfl,P0,_,_,_,rfl,rfl,.of au,rfl,_,rfl,_,_,rfl,rfl,⟨show 0<many by lia,mm⟩,_,rfl,P0,_,2,2,rfl,rfl,au,rfl,?_⟩
    exact ⟨_,rfl,k _ _ q0 q1 (((aU.of sl).trans aU.bu).trans (aU.bu.trans aU.bu)) ⟨x+1,r / many,au,by lia,q2⟩⟩
 ·dsimp only [kh]
  have q0:=nZ (y) (show many≠0 by lia)
  have q1:=qI (y) (show 0<many by lia)
  have q2:=Aj (hy) (show 0≤many by lia)
  refine ⟨_,rfl,P0,_,_,_,rfl,rfl,.of eP,rfl,_,rfl,_,_,rfl,rfl,(show 0<many by lia),?_⟩
  refine ⟨_,rfl,P0,_,_,_,rfl,rfl,.of eP,rfl,_,rfl,_,_,rfl,rfl,⟨show 0<many by lia,mm⟩,_,rfl,P0,_,2,2,rfl,rfl,eP,rfl,?_⟩
  exact ⟨_,rfl,k _ _ q0 q1 (aU.bu) ⟨x,y / many,au,hx,q2⟩⟩
theorem X2:b8 ["_law_pen","_law_some","_law_left","_law_found"] ["_law_pen","_law_some"] (bA BZ):=cL
theorem N2(T:Txt K mg t):bQ P w K mg base cV 3 t.sU t.vR ["_law_pen","_law_some"] (SO K):=by
 have S:=X2;refine T.tL.dX S (fun _ _ _ _ H _ _ _ hr h=>?_);obtain ⟨P0,a,l,ns,xs,rfl,pc,hS,nl,el,acX,kk⟩:=h;have iy:=hr.units
 refine ⟨_,(aD (putL 2 S.nd (gu Jn rfl T.oP boot_list (ai (pv 1) aq)))
  (aD (putL 3 S.nd (eR aq))
  (aD (Aq dB (b5 (ET iy) (pv 2) (eR aq)) (aI (gr (ku i5 mM mO je (pv 3) (ai (ku i5 Dy Dz QZ (pv 2) (ai (a8 (mE T) hr T.gf T.eJ.kp T.gc bR (ai (pv 0) (ai (cI jN rfl T.fN fS (ai (pv 2) aq)) aq))) aq)) aq)))))
  (aI (bX (pv 3)))))),?_⟩
 refine ⟨_,rfl,l,xs,rfl,.inl (.of el),fun l1 n1=>?_⟩;have s1:ao H (upd H l1 (.lst xs)):=aH n1;have e1:upd H l1 (.lst xs) l1=some (.lst xs):=au;dsimp only [aP];generalize upd H l1 (.lst xs)=H1 at s1 e1 ⊢;refine ⟨by show 0≤sizeLine;decide,fun l2 n2=>?_⟩
 have s2:ao H1 (upd H1 l2 (.lst [])):=aH n2;have e2:upd H1 l2 (.lst []) l2=some (.lst []):=au;dsimp only [aP];generalize upd H1 l2 (.lst [])=H2 at s2 e2 ⊢;have N3:l1≠P0:=pc.ne n1;have CN:l2≠P0:=(pc.mono s1).ne n2;have N4:H l2=none:=none_of s1 n2;have N5:l1≠l2:=fun e=>by rw [e,n2] at e1;cases e1
 refine cW ⟨fun m σ Hc=>∃zs ys:List V,σ=[some (.ref P0),some (.ref l),some (.ref l1),some (.ref l2)]∧m=zs.length∧Hc l1=some (.lst zs)∧Hc l2=some (.lst ys)∧(zs++ys).Perm xs∧aU P0 H Hc∧bt Hc P0 a,⟨_,xs,[],rfl,rfl,s2 _ _ e1,e2,by rw [t8],aU.of (s1.trans s2),(pc.mono s1).mono s2⟩,?_⟩
 rintro m σ Hc ⟨zs,ys,rfl,rfl,ez,ey,pm,sc,p1⟩;have lz:zs.length≤100:=by have:=pm.length_eq;rw [c_] at this;lia
 have ly:ys.length≤100:=by have:=pm.length_eq;rw [c_] at this;lia
 refine ⟨_,rfl,by show 0≤sizeLine;decide,fun le qi=>?_⟩
 have s3:ao Hc (upd Hc le (.lst [])):=aH qi;have e3:upd Hc le (.lst []) le=some (.lst []):=au;generalize upd Hc le (.lst [])=H3 at s3 e3 ⊢;refine ⟨l1,le,zs,rfl,rfl,.of (s3 _ _ ez),e3,_,rfl,bZ (fun hz=>?_) (fun hz=>?_)⟩
 ·have z0:1≤zs.length:=by
   cases zs with
   | nil=>cases hz
   | cons=>simp
  have N6:=sc.trans (aU.of s3);refine ⟨_,fun _ _ h=>h,?_⟩;refine ⟨_,rfl,.inl ⟨rfl,_,.of (s3 _ _ ey)⟩,_,rfl,.inl ⟨rfl,_,.of (s3 _ _ ez)⟩,_,rfl,_,rfl,l1,zs,rfl,.inl (.of (s3 _ _ ez)),P0,a,ns,(zs.length:Int),rfl,p1.mono s3,ao.seq N6 hS,by lia,gv.of_lt (by lia) (by lia),fun c H4 c0 c1 s4 p4=>?_⟩
  obtain ⟨k,rfl⟩:=iA c0;have hk:k<zs.length:=by lia
  have X3:=s4.at N3 (s3 _ _ ez);have X4:=s4.at CN (s3 _ _ ey);have sx:seqIndex? (k:Int) zs.length=some k:=by unfold seqIndex?;simp;lia
  refine ⟨l1,zs,(k:Int),k,zs[k],rfl,rfl,X3,by lia,by lia,sx,by simp [hk],?_⟩
  have nn:l2≠l1:=fun e=>N5 e.symm;refine ⟨l2,ys,zs[k],rfl,rfl,by rw [aM nn];exact X4,bS (by lia),?_⟩
  refine ⟨_,?_,zs.eraseIdx k,ys++[zs[k]],rfl,rfl,by rw [aM N5,au],au,?_,?_,?_⟩
  ·rw [List.length_eraseIdx_of_lt hk]
   lia
  ·refine List.Perm.trans ?_ pm
   rw [←jz];refine (xC).trans ?_;show (zs[k]::(zs.eraseIdx k++ys)).Perm (zs++ys);exact (Ka zs k hk).append_right ys
  ·exact ((N6.trans s4).but n1).but N4
  ·exact ((p4.upd N3).upd CN)
 ·have z0:zs=[]:=by
   cases zs with
   | nil=>rfl
   | cons=>exact absurd rfl hz
  subst z0;refine ⟨_,rfl,kk l2 ys H3 (sc.trans (aU.of s3)) (p1.mono s3) ?_ CN (s3 _ _ ey) pm⟩;rw [fk CN];exact N4
theorem X5:b8 ["_law_pen","_law_way","_law_size","_law_wide","_law_i","_law_j"] ["_law_pen","_law_way","_law_size","_law_wide","_law_i","_law_j"] (bA B_):=cL
theorem X6(T:Txt K mg t):bQ P w K mg base cV 3 t.sV t.vS ["_law_pen","_law_way","_law_size","_law_wide","_law_i","_law_j"] (SQ K):=by
 have S:=X5;refine T.wJ.dX S (fun _ _ _ _ H _ _ _ hr h=>?_);obtain ⟨P0,a,ns,way,size,wide,i,j,rfl,pc,hS,kk⟩:=h
 refine ⟨_,(aD (cm (b5 d6 (pv 1) aF) (aI (bX (mX d6 (a8 (mE T) hr T.gf T.eJ.kp T.gc bR (ai (pv 0) (ai aF aq))) aF))) ck)
  (aD (cm (b5 d6 (pv 1) aF) (aI (bX (mX d6 (a8 (mE T) hr T.gf T.eJ.kp T.gc bR (ai (pv 0) (ai aF aq))) aF))) ck)
  (aD (cm (b5 d6 (pv 1) aF) (aI (bX (mX oi (a8 (mE T) hr T.gf T.eJ.kp T.gc bR (ai (pv 0) (ai aF aq))) aF))) ck)
  (aD (cm (b5 d6 (pv 1) aF) (aI (bX (Pn (mX d6 (bh lK (pv 5) (pv 4)) aF) (DE (mX d6 (bh lK (pv 5) (pv 4)) (bh lK (pv 2) aF)))))) ck)
  (aI (bX (mX DR (bh lK (pv 5) (pv 4)) (pv 3)))))))),?_⟩
 refine ⟨_,rfl,rfl,_,rfl,bZ (fun _=>?_) (fun _=>?_)⟩;·exact ⟨_,rfl,P0,a,ns,2,rfl,pc,hS,by decide,gv.of_lt (by decide) (by decide),fun c H1 _ _ s1 p1=>⟨rfl,kk _ H1 s1 p1⟩⟩
 dsimp only [kh];refine ⟨_,rfl,rfl,_,rfl,bZ (fun _=>?_) (fun _=>?_)⟩;·exact ⟨_,rfl,P0,a,ns,4,rfl,pc,hS,by decide,gv.of_lt (by decide) (by decide),fun c H1 _ _ s1 p1=>⟨rfl,kk _ H1 s1 p1⟩⟩
 dsimp only [kh];refine ⟨_,rfl,rfl,_,rfl,bZ (fun _=>?_) (fun _=>?_)⟩;·exact ⟨_,rfl,P0,a,ns,4,rfl,pc,hS,by decide,gv.of_lt (by decide) (by decide),fun c H1 _ _ s1 p1=>⟨_,_,rfl,rfl,kk _ H1 s1 p1⟩⟩
 dsimp only [kh];refine ⟨_,rfl,rfl,_,rfl,bZ (fun _=>?_) (fun _=>?_)⟩
 ·refine ⟨_,rfl,_,rfl,_,_,rfl,rfl,rfl,_,rfl,bZ (fun _=>?_) (fun _=>?_)⟩
  ·exact kk _ H (aU.refl _) pc
  ·exact ⟨_,rfl,_,rfl,_,_,rfl,rfl,_,rfl,_,_,rfl,rfl,rfl,kk _ H (aU.refl _) pc⟩
 dsimp only [kh];exact ⟨_,rfl,_,rfl,_,_,rfl,rfl,_,rfl,_,_,rfl,rfl,kk _ H (aU.refl _) pc⟩
theorem X7:b8 ["_law_size","_law_links","_law_names","_law_found","_law_i","_law_j","_law_one"] ["_law_size","_law_links","_law_names"] (bA Cc):=cL
theorem X8(T:Txt K mg t):bQ P w K mg base cV 3 t.sY t.vV ["_law_size","_law_links","_law_names"] SU:=by
 have S:=X7;refine T.wM.dX S (fun _ _ _ _ H _ _ _ hr h=>?_);obtain ⟨l,r,n,us,ws,L,nm,rfl,el,hL,ok,zD,zE,lw,hw,N,kk⟩:=h
 refine ⟨_,(aD (putL 3 S.nd (eR aq))
  (aD (dN dB rfl (dM (pv 1)) (qQ rfl (i8 (cy (i:=4) S.nd rfl (Or.inl rfl)) (i8 (cy (i:=5) S.nd rfl (Or.inl rfl)) qP)))
   (aD (putL 6 S.nd (cI (P6 rfl) rfl T.zg boot_min (ai (bN dv (pv 2) (pv 4)) (ai (bN dv (pv 2) (pv 5)) aq))))
  (aI (gr (ku i5 mM mO je (pv 3) (ai (d7 (ai (pv 6) (ai (cI (P5 rfl) rfl T.Nx boot_max (ai (bN dv (pv 2) (pv 4)) (ai (bN dv (pv 2) (pv 5)) aq))) aq))) aq))))))
  (aI (bX (d7 (ai (pv 0) (ai (gu D4 rfl T.zh boot_tuple (ai (cI SM rfl T.tN uB (ai (pv 3) aq)) aq)) aq))))))),?_⟩
 refine ⟨by show 0≤sizeLine;decide,fun fd jw=>?_⟩
 have s0:ao H (upd H fd (.lst [])):=aH jw;have N7:upd H fd (.lst []) fd=some (.lst []):=au;dsimp only [aP];generalize upd H fd (.lst [])=H1 at s0 N7 ⊢;refine ⟨_,rfl,l,rfl,⟨_,.of (s0 _ _ el)⟩,?_⟩;refine jI (K:=K) (a:=l) (xs:=us) (fun k σ Hc=>∃(xs:List V) (v4 v5 v6:Option V),σ=[some (.int (n:Int)),some (.ref l),some (.ref r),some (.ref fd),v4,v5,v6]∧ao H Hc∧Hc fd=some (.lst xs)∧cz Hc xs ((L.take k).map (iT nm))) ⟨[],_,_,_,rfl,s0,N7,cz.nil _⟩ (fun k σ Hc _ ⟨_,_,_,_,_,sc,_⟩=>.of (sc _ _ el)) ?_ ?_
 ·rintro k x σ Hc hx ⟨xs,v4,v5,v6,rfl,sc,ef,hX⟩
  have hk:k<L.length:=by rw [←hL.1];exact (bx.mp hx).1
  obtain ⟨b,rfl,eb⟩:=(hL.mono sc).2 k x L[k] hx (by simp [hk])
  have pk:=ok.lt L[k] (cB hk);have tk:(L.take (k+1)).map (iT nm)=(L.take k).map (iT nm)++[iT nm L[k]]:=by rw [iZ,bg hk,fC];rfl
  have lX:=hX.1;rw [aG,oW] at lX;have eB:L.length≤450:=a9 ok.eB (by have:n*n≤30*30:=xS zD zD;lia)
  generalize L[k]=p at eb pk tk;obtain ⟨p1,p2⟩:=p;dsimp only at pk;obtain ⟨i,rfl⟩:=iA pk.1;obtain ⟨j,rfl⟩:=iA (show 0≤p2 by lia)
  have N8:jM ws (i:Int)=some (.int (nm i)):=pN (hw i (by lia))
  have at2:jM ws (j:Int)=some (.int (nm j)):=pN (hw j (by lia))
  have CO:=sc _ _ zE;refine ⟨b,_,rfl,.of eb,rfl,_,_,rfl,_,_,rfl,rfl,?_⟩;refine ⟨_,rfl,_,rfl,r,ws,_,.int (nm i),rfl,rfl,.of CO,N8,_,rfl,_,rfl,r,ws,_,.int (nm j),rfl,rfl,.of CO,at2,nm i,nm j,rfl,?_⟩;dsimp only [aP];refine ⟨_,rfl,.inl ⟨rfl,_,.of ef⟩,_,rfl,_,rfl,_,rfl,r,ws,_,.int (nm i),rfl,rfl,.of CO,N8,_,rfl,_,rfl,r,ws,_,.int (nm j),rfl,rfl,.of CO,at2,nm i,nm j,rfl,by show 2≤sizeLine;decide,fun tp jx=>?_⟩
  have eq:iT nm ((i:Int),(j:Int))=(if nm j<nm i then nm j else nm i,if nm j>nm i then nm j else nm i):=by
   unfold iT;simp only [dF];refine Prod.ext ?_ ?_
   ·show min (nm i) (nm j)=_
    split <;> lia
   ·show max (nm i) (nm j)=_
    split <;> lia
  have st:ao Hc (upd Hc tp (.tup [.int (if nm j<nm i then nm j else nm i),.int (if nm j>nm i then nm j else nm i)])):=aH jx
  have dH:upd Hc tp (.tup [.int (if nm j<nm i then nm j else nm i),.int (if nm j>nm i then nm j else nm i)]) tp=some (.tup [.int (iT nm ((i:Int),(j:Int))).1,.int (iT nm ((i:Int),(j:Int))).2]):=by rw [au,eq]
  generalize upd Hc tp (.tup [.int (if nm j<nm i then nm j else nm i),.int (if nm j>nm i then nm j else nm i)])=Hd at st dH ⊢
  have iW:=st _ _ ef;refine ⟨fd,xs,_,rfl,rfl,iW,bS (by lia),xs++[.ref tp],_,_,_,rfl,fG (sc.trans st) jw,au,?_⟩
  rw [tk];exact ((hX.mono st).push dH).cO iW fun b o nb e=>by rw [aM nb];exact e
 ·rintro σ Hc ⟨xs,v4,v5,v6,rfl,sc,ef,hX⟩
  rw [hL.1,gh] at hX;have CP:=SS ok N;have lX:=hX.1;have eB:L.length≤450:=a9 ok.eB (by have:n*n≤30*30:=xS zD zD;lia)
  have lM:(L.map (iT nm)).length=L.length:=aG ..;have small:∀q∈L.map (iT nm),0≤q.2∧q.2<1000:=fun q hq=>by have:=CP.lt q hq;lia
  generalize hM:L.map (iT nm)=M at hX CP lX lM small kk;dsimp only;refine ⟨_,rfl,_,rfl,fd,xs,fun i=>(M.getD i (0,0)).1,fun i=>(M.getD i (0,0)).2,rfl,ef,by lia,fun i v hv=>?_,fun p l' hp hu GJ=>?_⟩
  ·have hi:i<M.length:=by rw [←lX];exact (bx.mp hv).1
   obtain ⟨b,rfl,eb⟩:=hX.2 i v M[i] hv (by simp [hi])
   dsimp only;rw [getD_at hi];exact ⟨⟨b,rfl,eb⟩,small _ (cB hi)⟩
  rw [lX] at hp hu;obtain ⟨pm,pw⟩:=SR hp hu CP.nd small;have sl:ao Hc (upd Hc l' (.lst (p.toList.map fun i=>xs.getD i .aS))):=aH GJ;have hP:cz Hc (p.toList.map fun i=>xs.getD i .aS) (p.toList.map fun i=>M.getD i (0,0)):=hX.pick _ fun i hi=>by have:p.toList.Perm (List.range M.length):=ue.mp hp;exact cu.mp (this.mem_iff.mp hi)
  generalize (p.toList.map fun i=>xs.getD i .aS)=zs at sl hP ⊢;refine ⟨l',zs,rfl,.inl ⟨.of au,fun lt X9=>?_⟩⟩;have jK:=sl.trans (aH (o:=.tup zs) X9);have elt:upd (upd Hc l' (.lst zs)) lt (.tup zs) lt=some (.tup zs):=au;generalize upd (upd Hc l' (.lst zs)) lt (.tup zs)=Hd at jK elt ⊢;refine ⟨by show 2≤sizeLine;decide,fun tp jx=>?_⟩
  have st:ao Hd (upd Hd tp (.tup [.int (n:Int),.ref lt])):=aH jx;have sT:=sc.trans (jK.trans st);exact kk tp _ _ sT (none_of (sc.trans jK) jx) ⟨lt,zs,au,st _ _ elt,(hP.mono jK).mono st⟩ (CP.perm pm) pw pm
theorem X_:b8 ["_law_pen","_law_size","_law_ahead","_law_found","_law_j","_law_at","_law_some"] ["_law_pen","_law_size"] (bA Ca):=cL
theorem Ya(T:Txt K mg t):bQ P w K mg base cV 3 t.sW t.vT ["_law_pen","_law_size"] (SW K):=by
 have S:=X_;refine T.wK.dX S (fun _ _ _ _ H vs _ _ hr h=>?_);obtain ⟨P0,a,ns,n,rfl,pc,hS,n1,zD,kk⟩:=h
 refine ⟨_,(aD (putL 2 S.nd (eR (ai (eR aq) aq)))
  (aD (putL 3 S.nd (eR aq))
  (aD (dN dB rfl (PK rfl T.gU (ai aF (ai (pv 1) aq))) (cy (i:=4) S.nd rfl (Or.inr rfl))
   (aD (putL 5 S.nd (a8 (mE T) hr T.gf T.eJ.kp T.gc bR (ai (pv 0) (ai (pv 4) aq))))
  (aD (putL 6 S.nd (bh Ea (eR (ai (pv 5) aq)) (jg (N:=["_law_i","_law_pen"]) (ρ:=(fun σ=>[σ[0]?.join])) (fX [0] rfl) rfl (dM (bN dv (pv 2) (pv 5))) (fun _ _ _=>(.one (b5 oi (a8 (mE T) hr T.gf T.eJ.kp T.gc bR (ai (pv 1) (ai aF aq))) aF))) (fun _ _ _=>(pv 0)))))
  (aD (cm (b5 d6 (a8 (mE T) hr T.gf T.eJ.kp T.gc bR (ai (pv 0) (ai aF aq))) aF) (aI (putL 6 S.nd (eR aq))) ck)
  (aD (gr (ku i5 mM mO je (pv 2) (ai (pv 6) aq)))
  (aI (gr (ku i5 PySem.F.slot_list_extend PySem.F.type_list_extend QU (pv 3) (ai (jg (N:=["_law_i","_law_j"]) (ρ:=(fun σ=>[σ[4]?.join])) (fX [4] rfl) rfl (dM (pv 6)) (fun _ _ _=>.nil) (fun _ _ _=>(d7 (ai (pv 0) (ai (pv 1) aq))))) aq)))))))))
  (aI (bX (pv 3)))))),?_⟩
 refine di fun _ mw=>⟨by show 0≤sizeLine;decide,fun l0 nM=>⟨by show 1≤sizeLine;decide,fun la zF=>?_⟩⟩
 have s1:ao H (upd H l0 (.lst [])):=aH nM;have e0:upd H l0 (.lst []) l0=some (.lst []):=au;generalize upd H l0 (.lst [])=H1 at s1 e0 zF ⊢;have s2:ao H1 (upd H1 la (.lst [.ref l0])):=aH zF;have ea:upd H1 la (.lst [.ref l0]) la=some (.lst [.ref l0]):=au;dsimp only [aP];refine mw _ _ ?_;generalize upd H1 la (.lst [.ref l0])=H2 at s2 ea ⊢;refine di fun _ iV=>⟨by show 0≤sizeLine;decide,fun fd jw=>?_⟩
 have s3:ao H2 (upd H2 fd (.lst [])):=aH jw;have ef:upd H2 fd (.lst []) fd=some (.lst []):=au;dsimp only [aP];refine iV _ _ ?_;generalize upd H2 fd (.lst [])=H3 at s3 ef ⊢;have fz:=s1.trans (s2.trans s3);have zG:la≠P0:=(pc.mono s1).ne zF;have j6:fd≠P0:=((pc.mono s1).mono s2).ne jw;have Yb:l0≠P0:=pc.ne nM;have Yc:H la=none:=none_of s1 zF;have CQ:H fd=none:=none_of (s1.trans s2) jw;have af:la≠fd:=fun e=>by rw [e,jw] at ea;cases ea
 refine ⟨_,rfl,_,_,rfl,⟨by decide,by decide,by lia,by lia⟩,?_⟩
 rw [show ((n:Int)-1).toNat=n-1 by lia]
 refine pJ (fun k σ Hc=>∃(vs us:List V) (L:aE) (D:Nat→List Nat) (v4 v5 v6:Option V),σ=[some (.ref P0),some (.int (n:Int)),some (.ref la),some (.ref fd),v4,v5,v6]∧aU P0 H Hc∧bt Hc P0 a∧Hc la=some (.lst vs)∧SX (er P0 Hc) vs (k+1) D∧(∀(i:Nat) (b:Addr),vs[i]?=some (V.ref b)→b≠la∧b≠fd)∧Hc fd=some (.lst us)∧cz (er P0 Hc) us L∧oF (k+1) L) ?_ ?_ ?_
 ·refine ⟨[.ref l0],[],[],fun _=>[],_,_,_,rfl,aU.of fz,pc.mono fz,s3 _ _ ea,⟨rfl,fun k hk=>⟨gC.nil k,l0,by rw [show k=0 by lia];rfl,?_⟩⟩,fun i b hb=>?_,ef,cz.nil _,oF.nil⟩
  ·rw [fk Yb]
   exact s3 _ _ (s2 _ _ e0)
  ·match i,hb with
   | 0,hb=>cases hb;exact ⟨(fun e=>by rw [e,zF] at e0;cases e0),(fun e=>by rw [←e] at jw;rw [s2 _ _ e0] at jw;cases jw)⟩
   | i+1,hb=>simp at hb
 ·rintro k σ Hc hk ⟨vs,us,L,D,v4,v5,v6,rfl,sc,p1,CS,ah,ap,iW,hL,ok⟩
  refine ⟨_,rfl,_,rfl,P0,a,ns,1+(k:Int),rfl,p1,ao.seq sc hS,by lia,gv.of_lt (by lia) (by lia),fun c H4 c0 c1 s4 p4=>?_⟩
  obtain ⟨c,rfl⟩:=iA c0;have hc:c<k+1:=by lia
  obtain ⟨fc,b,Yd,zH⟩:=ah.2 c hc;have Ye:b≠P0:=fun z=>by rw [z] at zH;unfold er at zH;rw [aj rfl] at zH;cases zH
  have Yf:=ah.1;have Yg:=sc.trans s4;have Yh:=s4.at zG CS;have N9:H4 b=some (.lst (fI (D c))):=AS _ _ (s4 _ _ zH);dsimp only [aP];simp only [List.set_cons_zero,List.set_cons_succ];refine di fun _ tY=>⟨_,rfl,by show 1≤sizeLine;decide,fun w_ A9=>?_⟩
  have s5:ao H4 (upd H4 w_ (.lst [.int (c:Int)])):=aH A9;have e5:upd H4 w_ (.lst [.int (c:Int)]) w_=some (.lst [.int (c:Int)]):=au;have Yi:w_≠P0:=p4.ne A9;generalize upd H4 w_ (.lst [.int (c:Int)])=H5 at s5 e5 ⊢;have lD:(D c).length≤30:=a9 fc.len (by lia)
  have lV:(fI (D c)).length≤30:=by unfold fI;rw [aG];exact lD
  have N_:=Yg.trans (aU.of s5);refine SV (K:=K) (l:=b) (xs:=fI (D c)) (bS (by lia)) Ye (s5 _ _ N9) (p4.mono s5) (fun R h=>⟨_,rfl,_,rfl,la,vs,_,.ref b,rfl,rfl,.of (s5 _ _ Yh),pN Yd,b,rfl,⟨_,.of (s5 _ _ N9)⟩,h⟩) (fun i x hx Hx R sx px k=>⟨_,rfl,P0,a,ns,3,rfl,px,ao.seq (N_.trans sx) hS,by decide,gv.of_lt (by decide) (by decide),fun c' H' _ _ s' p'=>⟨_,_,rfl,rfl,_,rfl,k _ H' s' p'⟩⟩) (fun x Hx R h=>⟨_,rfl,h⟩) fun D' ys Hx GH fD' sx px sub GI=>?_
  obtain ⟨e,JB,rfl⟩:=EW sub;have fe:=(fc.sub JB).put hc;have le':(fI e).length≤30:=a9 sub.length_le lV;refine ⟨w_,D',_,_,rfl,rfl,sx.at Yi e5,GI,a9 (show _≤900 by simp;lia) (by decide),fun c2 n2=>?_⟩
  have s6:ao Hx (upd Hx c2 (.lst ([.int (c:Int)]++fI e))):=aH n2;have e6:upd Hx c2 (.lst ([.int (c:Int)]++fI e)) c2=some (.lst (fI (c::e))):=au;have Oa:=(N_.trans sx).trans (aU.of s6);have p6:=px.mono s6;have GK:aU P0 H4 (upd Hx c2 (.lst ([.int (c:Int)]++fI e))):=(aU.of s5).trans (sx.trans (aU.of s6));have GL:c2≠P0:=px.ne n2;have f2:er P0 Hc c2=none:=none_of (s4.trans ((aU.of s5).trans sx)) (by rw [fk GL];exact n2)
  dsimp only [aP];refine tY _ _ ?_;generalize upd Hx c2 (.lst ([.int (c:Int)]++fI e))=H6 at s6 e6 Oa p6 GK ⊢;simp only [List.set_cons_zero,List.set_cons_succ];refine cW (J_ (fun σ Hy=>∃(lc:Addr) (d:List Nat),σ=[some (.ref P0),some (.int (n:Int)),some (.ref la),some (.ref fd),some (.int (1+(k:Int))),some (.int (c:Int)),some (.ref lc)]∧aU P0 Hc Hy∧bt Hy P0 a∧Hy lc=some (.lst (fI d))∧gC (k+1) d∧lc≠P0∧er P0 Hc lc=none) ?_ ?_)
  ·rintro σ Hy ⟨lc,d,rfl,sy,py,oQ,GN,xc,CU⟩
   have ly:lc≠la:=fun z=>by rw [z,fk zG,CS] at CU;cases CU
   have lf:lc≠fd:=fun z=>by rw [z,fk j6,iW] at CU;cases CU
   have GO:=sy.at zG CS;have Yj:=sy.at j6 iW;have ldd:d.length≤30:=a9 GN.len (by lia)
   dsimp only;refine ⟨_,rfl,.inl ⟨rfl,_,.of GO⟩,_,rfl,la,vs,_,rfl,rfl,GO,bS (by lia),?_⟩
   have e7:upd Hy la (.lst (vs++[.ref lc])) la=some (.lst (vs++[.ref lc])):=au;have k7:∀b o,b≠la→Hy b=some o→upd Hy la (.lst (vs++[.ref lc])) b=some o:=fun b o nb e=>by rw [aM nb];exact e
   have p7:=py.upd (o:=.lst (vs++[.ref lc])) zG;have r7:=EX (P:=P0) (H:=Hy) (r:=la) (o:=.lst (vs++[.ref lc]));have Ob:aU P0 H (upd Hy la (.lst (vs++[.ref lc]))):=(sc.trans sy).but Yc;generalize upd Hy la (.lst (vs++[.ref lc]))=H7 at e7 k7 p7 r7 Ob ⊢;have GP:=k7 fd _ (fun z=>af z.symm) Yj;have GQ:=k7 lc _ ly oQ;have Yk:(fI d).length=d.length:=by unfold fI;rw [aG]
   refine ⟨_,rfl,.inl ⟨rfl,_,.of GP⟩,pP (xs:=fI d) (fun R h=>⟨_,rfl,lc,rfl,⟨_,.of GQ⟩,h _ _ (ao.refl _) (kC (.of GQ))⟩) (bS (by lia)) (fun _ i y Hz=>∃(b:Addr) (x:Nat),y=.ref b∧d[i]?=some x∧Hz b=some (.tup [.int (x:Int),.int (1+(k:Int))])) (fun Dd i y Ha Hb ys ⟨b,x,h1,h2,h3⟩ e f=>⟨b,x,h1,h2,f b _ (fun z=>by rw [z,e] at h3;cases h3) h3⟩) ?_ ?_⟩
   ·intro Dd i x hx Hz R sz _ kz
    obtain ⟨y,hy,rfl⟩:=SY hx;refine ⟨_,rfl,_,rfl,by show 2≤sizeLine;decide,fun tp jx=>?_⟩
    exact kz _ _ (aH jx) ⟨tp,y,rfl,hy,au⟩
   ·intro Dd zs H8 Cw s8 GR GS oU
    have lL:=hL.1;have l2:us.length≤450:=by
     have:=ok.eB;have:(k+1)*(k+1-1)≤30*30:=xS (by lia) (by lia)
     lia
    refine ⟨fd,Dd,us,zs,rfl,rfl,s8 _ _ GP,oU,a9 (show _≤900 by lia) (by decide),?_⟩
    have k9:∀b o,b≠fd→H8 b=some o→upd H8 fd (.lst (us++zs)) b=some o:=fun b o nb e=>by rw [aM nb];exact e
    have p8:=p7.mono s8;have r9:=EX (P:=P0) (H:=H8) (r:=fd) (o:=.lst (us++zs));have Oc:er P0 H8 fd=some (.lst us):=by rw [fk j6];exact s8 _ _ GP
    have Yl:er P0 Hy la=some (.lst vs):=by rw [fk zG];exact GO
    refine ⟨vs++[.ref lc],us++zs,L++d.map fun(x:Nat)=>((x:Int),((k+1:Nat):Int)),fun i=>if i=k+1 then d else D i,_,_,_,rfl,(Ob.trans (aU.of s8)).but CQ,p8.upd j6,k9 la _ af (s8 _ _ e7),⟨by simp [Yf],fun i hi=>?_⟩,fun i b' fE=>?_,au,?_,ok.more GN⟩
    ·dsimp only
     by_cases z:i=k+1
     ·subst z
      rw [aj rfl];refine ⟨GN,lc,by rw [gG (by lia),show k+1-vs.length=0 by lia];rfl,?_⟩
      exact r9 _ _ lf (by rw [fk xc];exact s8 _ _ GQ)
     ·rw [aa z]
      obtain ⟨f1,b1,v1,h1⟩:=ah.2 i (by lia)
      obtain ⟨a1,a2⟩:=ap i b1 v1;refine ⟨f1,b1,by rw [gZ (by lia)];exact v1,?_⟩
      exact r9 _ _ a2 (AU s8 _ _ (r7 _ _ a1 (sy _ _ h1)))
    ·by_cases z:i<vs.length
     ·rw [gZ z] at fE
      exact ap i b' fE
     ·have a_:=(bx.mp fE).1
      rw [c_,lp] at a_;rw [gG (by lia),show i-vs.length=0 by lia] at fE
      cases fE;exact ⟨ly,lf⟩
    ·refine cz.cat ?_ ?_
     ·exact (((hL.mono sy).cO Yl r7).mono (AU s8)).cO Oc r9
     ·refine cz.cO (H:=er P0 H8) ⟨by rw [GR,Yk,aG],fun i v p h1 h2=>?_⟩ Oc r9
      obtain ⟨b',x,rfl,hx,e'⟩:=GS i v h1;rw [bP,hx] at h2;cases h2;refine ⟨b',rfl,?_⟩;rw [show (((k+1:Nat):Int))=1+(k:Int) by lia]
      exact yH p8 e'
  ·intro R hR
   refine ⟨_,rfl,P0,a,ns,9,rfl,p6,ao.seq Oa hS,by decide,gv.of_lt (by decide) (by decide),fun c' H7 _ _ s7 p7=>⟨rfl,_,rfl,bZ (fun _=>?_) (fun _=>?_)⟩⟩
   ·refine ⟨by show 0≤sizeLine;decide,fun lc xc=>?_⟩
    have nP:=p7.ne xc;have Od:=s4.trans (GK.trans s7);exact hR _ _ ⟨lc,[],rfl,Od.trans (aU.of (aH xc)),p7.mono (aH xc),au,gC.nil _,nP,none_of Od (by rw [fk nP];exact xc)⟩
   ·exact hR _ _ ⟨c2,c::e,rfl,s4.trans (GK.trans s7),p7,s7.at GL e6,fe,GL,f2⟩
 ·rintro σ Hc ⟨vs,us,L,D,v4,v5,v6,rfl,sc,p1,CS,ah,ap,iW,hL,ok⟩
  rw [show n-1+1=n by lia] at ok
  exact ⟨_,rfl,kk fd us L Hc sc p1 (by rw [fk j6];exact CQ) j6 iW hL ok.ok⟩
theorem Ym:b8 ["_law_pen","_law_most","_law_size","_law_way","_law_wide","_law_links","_law_j","_law_i"] ["_law_pen","_law_most"] (bA Cb):=cL
theorem Yn(T:Txt K mg t):bQ P w K mg base cV 4 t.sX t.vU ["_law_pen","_law_most"] (S2 K):=by
 have S:=Ym;refine T.wL.dX S (fun _ _ _ _ H _ _ _ hr h=>?_);obtain ⟨P0,a,ns,most,rfl,pc,hS,m1,m10,kk⟩:=h
 refine ⟨_,(aD (putL 2 S.nd (bh fD aF (a8 (mE T) hr T.gf T.eJ.kp T.gc bR (ai (pv 0) (ai (pv 1) aq)))))
  (aD (putL 3 S.nd (a8 (mE T) hr T.gf T.eJ.kp T.gc bR (ai (pv 0) (ai aF aq))))
  (aD (putL 4 S.nd (a8 (mE T) hr T.gf T.eJ.kp T.gc bR (ai (pv 0) (ai (pv 2) aq))))
  (aD (putL 5 S.nd (eR aq))
  (aD (dN dB rfl (mV rfl T.gU (ai (pv 2) aq)) (cy (i:=6) S.nd rfl (Or.inl rfl))
   (aI (dN dB rfl (mV rfl T.gU (ai (pv 6) aq)) (cy (i:=7) S.nd rfl (Or.inl rfl))
   (aI (cm (pF (a8 (X6 T) hr T.M4 T.wJ.kp T.M3 bR (ai (pv 0) (ai (pv 3) (ai (pv 2) (ai (pv 4) (ai (pv 7) (ai (pv 6) aq)))))))) (aI (gr (ku i5 mM mO je (pv 5) (ai (d7 (ai (pv 7) (ai (pv 6) aq))) aq)))) ck)))))
  (aD (cm (b5 d6 (pv 3) aF) (aI (putL 5 S.nd (a8 (Ya T) hr T.M6 T.wK.kp T.M5 bR (ai (pv 0) (ai (pv 2) aq))))) ck)
  (aI (bX (a8 (X8 T) hr T.Na T.wM.kp T.M_ bR (ai (pv 2) (ai (pv 5) (ai (a8 (N2 T) hr T.Gd T.tL.kp T.Gb bR (ai (pv 0) (ai (gu (Ej rfl) rfl T.oP boot_list (ai (gu AN rfl T.gU AO (ai (pv 2) aq)) aq)) aq))) aq)))))))))))),?_⟩
 refine di fun _ mw=>⟨_,rfl,_,rfl,P0,a,ns,(most:Int),rfl,pc,hS,by lia,gv.of_lt (by lia) (by lia),fun c H1 c0 c1 s1 p1=>⟨_,_,rfl,rfl,?_⟩⟩
 obtain ⟨c,rfl⟩:=iA c0;dsimp only [aP];refine mw _ _ ?_;rw [show 1+(c:Int)=((c+1:Nat):Int) by lia]
 have n1:1≤c+1:=by lia
 have nm:c+1≤most:=by lia
 generalize c+1=n at n1 nm ⊢;have Yo:bz K (er P0 H1) a (ns.map V.int):=ao.seq s1 hS;refine di fun _ iV=>⟨_,rfl,P0,a,ns,6,rfl,p1,Yo,by decide,gv.of_lt (by decide) (by decide),fun way H2 _ _ s2 p2=>?_⟩
 have fb:=s1.trans s2;dsimp only [aP];refine iV _ _ ?_;refine di fun _ tY=>⟨_,rfl,_,rfl,P0,a,ns,(n:Int),rfl,p2,ao.seq fb hS,by lia,gv.of_lt (by lia) (by lia),fun wide H3 _ _ s3 p3=>?_⟩
 have fz:=fb.trans s3;dsimp only [aP];refine tY _ _ ?_;refine di fun _ zI=>⟨by show 0≤sizeLine;decide,fun fd jw=>?_⟩
 have s4:ao H3 (upd H3 fd (.lst [])):=aH jw;have ef:upd H3 fd (.lst []) fd=some (.lst []):=au;dsimp only [aP];refine zI _ _ ?_;generalize upd H3 fd (.lst [])=H4 at s4 ef ⊢;have nQ:=fz.trans (aU.of s4);have p4:=p3.mono s4;have j6:fd≠P0:=p3.ne jw;have Oe:er P0 H fd=none:=none_of fz (by rw [fk j6];exact jw)
 have CQ:H fd=none:=by rw [fk j6] at Oe;exact Oe
 refine ⟨_,rfl,(n:Int),rfl,by lia,by lia,?_⟩
 rw [dF];refine pJ (fun j σ Hc=>∃(us:List V) (L:aE) (v6 v7:Option V),σ=[some (.ref P0),some (.int (most:Int)),some (.int (n:Int)),some (.int way),some (.int wide),some (.ref fd),v6,v7]∧aU P0 H Hc∧bt Hc P0 a∧Hc fd=some (.lst us)∧cz (er P0 Hc) us L∧iq j 0 L) ⟨[],[],_,_,rfl,nQ,p4,ef,cz.nil _,iq.start⟩ ?_ ?_
 ·rintro j σ Hc hj ⟨us,L,v6,v7,rfl,sc,p5,iW,hL,ok⟩
  dsimp only [aP];simp only [List.set_cons_zero,List.set_cons_succ];refine ⟨_,rfl,(j:Int),by rw [iB],by lia,by lia,?_⟩
  rw [dF];refine pJ (fun i σ Hd=>∃(us:List V) (L:aE) (v7:Option V),σ=[some (.ref P0),some (.int (most:Int)),some (.int (n:Int)),some (.int way),some (.int wide),some (.ref fd),some (.int (0+(j:Int))),v7]∧aU P0 H Hd∧bt Hd P0 a∧Hd fd=some (.lst us)∧cz (er P0 Hd) us L∧iq j i L) ⟨us,L,_,rfl,sc,p5,iW,hL,ok⟩ ?_ ?_
  ·rintro i σ Hd hi ⟨us,L,v7,rfl,sd,p6,iW,hL,ok⟩
   refine ⟨_,rfl,_,rfl,_,rfl,_,rfl,_,rfl,_,rfl,P0,a,ns,way,(n:Int),wide,0+(i:Int),0+(j:Int),rfl,p6,ao.seq sd hS,fun b He se pe=>?_⟩;have GU:=se.at j6 iW;have Of:=hL.mono se;have lL:=hL.1;have l2:us.length≤900:=by
    have:=ok.eB;have:j*(j-1)≤30*30:=xS (by lia) (by lia)
    lia
   cases b with
   | true=>
    refine ⟨true,rfl,qY ?_⟩;refine ⟨_,rfl,.inl ⟨rfl,_,.of GU⟩,_,rfl,_,rfl,by show 2≤sizeLine;decide,fun tp jx=>?_⟩
    have st:ao He (upd He tp (.tup [.int (0+(i:Int)),.int (0+(j:Int))])):=aH jx;have et:upd He tp (.tup [.int (0+(i:Int)),.int (0+(j:Int))]) tp=some (.tup [.int (i:Int),.int (j:Int)]):=by rw [au,iB,iB]
    generalize upd He tp (.tup [.int (0+(i:Int)),.int (0+(j:Int))])=Hf at st et ⊢;have pf:=pe.mono st;have Og:=st _ _ GU;refine ⟨fd,us,_,rfl,rfl,Og,bS (by lia),us++[.ref tp],L++[((i:Int),(j:Int))],_,rfl,((sd.trans se).trans (aU.of st)).but CQ,pf.upd j6,au,?_,ok.push hi⟩
    refine cz.cO (H:=er P0 Hf) ((Of.mono (AU st)).push (yH pf et)) (by rw [fk j6];exact Og) EX
   | false=>exact ⟨false,rfl,iH ⟨us,L,_,rfl,sd.trans se,pe,GU,Of,ok.skip⟩⟩
  ·rintro σ Hd ⟨us,L,v7,rfl,sd,p6,iW,hL,ok⟩
   exact ⟨us,L,_,_,rfl,sd,p6,iW,hL,ok.next⟩
 ·rintro σ Hc ⟨us,L,v6,v7,rfl,sc,p5,iW,hL,ok⟩
  dsimp only;refine cW (J_ (fun σ Hy=>∃(lk:Addr) (us:List V) (L:aE),σ=[some (.ref P0),some (.int (most:Int)),some (.int (n:Int)),some (.int way),some (.int wide),some (.ref lk),v6,v7]∧aU P0 H Hy∧bt Hy P0 a∧lk≠P0∧Hy lk=some (.lst us)∧cz (er P0 Hy) us L∧kJ n L) ?_ ?_)
  ·rintro σ Hy ⟨lk,us,L,rfl,sy,py,Yp,Yq,hL,ok⟩
   dsimp only;refine ⟨_,rfl,_,rfl,_,rfl,_,rfl,(n:Int),rfl,fun pr Yr=>?_⟩;have s6:ao Hy (upd Hy pr (.gp 0 (n:Int))):=aH Yr;refine ⟨pr,n,rfl,au,by lia,fun l0 n0=>?_⟩
   have s7:=s6.trans (aH (o:=.lst (cJ n)) n0);have e0:upd (upd Hy pr (.gp 0 (n:Int))) l0 (.lst (cJ n)) l0=some (.lst (cJ n)):=au;have nM:l0≠P0:=(py.mono s6).ne n0;generalize upd (upd Hy pr (.gp 0 (n:Int))) l0 (.lst (cJ n))=Hz at s7 e0 ⊢;have lu:(cJ n).length=n:=by unfold cJ;simp
   refine ⟨P0,a,l0,ns,cJ n,rfl,py.mono s7,ao.seq (sy.trans (aU.of s7)) hS,nM,e0,by lia,fun r ys Hw sw pw fr nr zE pm=>?_⟩
   obtain ⟨Ys,ly,hy,NO⟩:=S1 pm;have CV:=(aU.of s7).trans sw;refine ⟨lk,r,n,us,ys,L,Ys,rfl,CV.at Yp Yq,(hL.mono CV).mono AS,ok,by lia,zE,ly,hy,NO,fun tt L' Hv sv Oh sh GV Yt zv=>?_⟩
   have nt:tt≠P0:=pw.ne Oh;exact kk tt n L' Hv ((sy.trans CV).trans (aU.of sv)) (pw.mono sv) (none_of (sy.trans CV) (by rw [fk nt];exact Oh)) nt (sh.er (pw.mono sv)) GV Yt n1 nm
  ·intro R hR
   refine ⟨_,rfl,rfl,_,rfl,bZ (fun _=>?_) (fun _=>?_)⟩
   ·refine ⟨_,rfl,_,rfl,P0,a,ns,n,rfl,p5,ao.seq sc hS,n1,by lia,fun r Yu L' Hy sy py fr nr zE Yv GV=>?_⟩
    exact hR _ _ ⟨r,Yu,L',rfl,sc.trans sy,py,nr,zE,Yv,GV⟩
   ·exact hR _ _ ⟨fd,us,L,rfl,sc,p5,j6,iW,hL,ok.ok⟩
theorem Yw:b8 ["_law_shape","_law_found","_law_i","_law_j"] ["_law_shape"] (bA Cd):=cL
theorem Yx(T:Txt K mg t):bQ P w K mg base cV 1 t.sZ t.vW ["_law_shape"] Uo:=by
 have S:=Yw;refine T.wN.dX S (fun _ _ _ _ H _ _ _ hr h=>?_);obtain ⟨tp,n,L,rfl,⟨lt,us,dH,elt,hL⟩,ok,n9,l2,kk⟩:=h;have Ct:((List.range n).map fun i:Nat=>V.int (0+(i:Int))).length=n:=by rw [aG,dJ]
 refine ⟨_,(aD (ym (i0:=1) (N:=["_law_k"]) (ρ:=(fun σ=>[])) (fX [] rfl) rfl S.nd rfl (Or.inl rfl) (mV rfl T.gU (ai (bN gO (pv 0) aF) aq)) (fun _ _ _=>.nil) (fun _ _ _=>(eR aq)))
  (aD (dN dB rfl (IA (bN gO (pv 0) aF)) (qQ rfl (i8 (cy (i:=2) S.nd rfl (Or.inl rfl)) (i8 (cy (i:=3) S.nd rfl (Or.inl rfl)) qP)))
   (aD (gr (ku i5 mM mO je (bN dv (pv 1) (pv 2)) (ai (pv 3) aq)))
  (aI (gr (ku i5 mM mO je (bN dv (pv 1) (pv 3)) (ai (pv 2) aq))))))
  (aI (bX (pv 1))))),?_⟩
 refine cW (fj (Eu (xs:=(List.range n).map fun i:Nat=>V.int (0+(i:Int))) (n:=n) Ct (fun R h=>⟨_,rfl,tp,_,_,_,rfl,rfl,.of dH,rfl,(n:Int),rfl,by lia,by lia,h _ _ (ao.refl _) (by rw [dF];exact El)⟩) (bS (by lia)) (fun _ i y Hx=>Hx y=some (.lst [])∧H y=none) ?_ ?_ ?_))
 ·intro D i y Ha Hb ys ⟨h1,h2⟩ hy e f
  exact ⟨f y _ hy h1,h2⟩
 ·intro D i x hx Hc R sc _ kc
  exact ⟨bG _,fun p np=>kc p _ (fG (ao.refl _) np) np ⟨_,au⟩ ⟨au,none_of sc np⟩⟩
 ·intro D rs H1 nD s1 inj hA eD
  have K0:iw H1 D n rs (fun _=>[]):=⟨eD,inj,fun i hi=>(hA i hi).2,fun i hi=>(hA i hi).1.1⟩;have fr:∀i,i<n→H (rs i)=none:=fun i hi=>(hA i hi).1.2;dsimp only [aP];refine cW ⟨_,rfl,tp,_,_,_,rfl,rfl,.of (s1 _ _ dH),rfl,lt,rfl,⟨_,.of (s1 _ _ elt)⟩,?_⟩;refine IG (K:=K) (a:=lt) (xs:=us) (fun k σ Hc=>∃(g:Nat→List Nat) (v2 v3:Option V),σ=[some (.ref tp),some (.ref D),v2,v3]∧ao H Hc∧iw Hc D n rs g∧fv n (L.take k) g∧∀a,(g a).length≤2*k) ⟨_,_,_,rfl,s1,K0,fv.nil n,fun _=>aC _⟩ (fun k σ Hc _ ⟨_,_,_,_,sc,_⟩=>.of (sc _ _ elt)) ?_ ?_
  ·rintro k x σ Hc hx ⟨g,v2,v3,rfl,sc,KL,nb,gl⟩
   have hk:k<L.length:=by rw [←hL.1];exact (bx.mp hx).1
   obtain ⟨b,rfl,eb⟩:=hL.2 k x L[k] hx (by simp [hk])
   have pk:=ok L[k] (cB hk);have tk:L.take (k+1)=L.take k++[L[k]]:=by rw [iZ,bg hk];rfl
   generalize L[k]=p at eb pk tk;obtain ⟨p1,p2⟩:=p;dsimp only at pk eb;obtain ⟨i,rfl⟩:=iA pk.1;obtain ⟨j,rfl⟩:=iA pk.2.2.1;have hi:i<n:=by lia
   have hj:j<n:=by lia
   refine ⟨b,_,rfl,.of (sc _ _ eb),rfl,_,_,rfl,_,_,rfl,rfl,?_⟩;have off:∀(Hx:Hp) (i:Nat) (o:HO),i<n→ao H Hx→ao H (upd Hx (rs i) o):=fun Hx i o hi sx a u e=>by
    rw [aM (fun z=>by rw [z,fr i hi] at e;cases e)]
    exact sx _ _ e
   have K1:=KL.snoc j hi;have K2:=K1.snoc i hj;have g1:=gl i;have g2:(oK g i j j).length≤2*k+1:=a9 Fb (by have:=gl j;lia)
   refine ⟨_,rfl,_,rfl,D,_,_,_,rfl,rfl,.of KL.lst,rO hi,.inl ⟨rfl,_,.of (KL.at' i hi)⟩,_,rfl,rs i,_,_,rfl,rfl,KL.at' i hi,bS (by rw [aG];lia),?_⟩
   refine ⟨_,rfl,_,rfl,D,_,_,_,rfl,rfl,.of K1.lst,rO hj,.inl ⟨rfl,_,.of (K1.at' j hj)⟩,_,rfl,rs j,_,_,rfl,rfl,K1.at' j hj,bS (by rw [aG];lia),?_⟩
   exact ⟨_,_,_,rfl,off _ _ _ hj (off _ _ _ hi sc),K2,by rw [tk];exact nb.snoc,fun a=>a9 Fb (by have:=Fb (g:=g) (i:=i) (j:=j) (a:=a);have:=gl a;lia)⟩
  ·rintro σ Hc ⟨g,v2,v3,rfl,sc,KL,nb,_⟩
   rw [hL.1,gh] at nb;exact ⟨_,rfl,kk _ _ _ _ sc nD fr KL nb⟩
theorem Yy:b8 ["_law_beside_here","_law_through","_law_start","_law_met","_law_row","_law_other"] ["_law_beside_here","_law_through","_law_start"] (bA Ce):=cL
theorem Yz(T:Txt K mg t):bQ P w K mg base cV 1 t.s_ t.vX ["_law_beside_here","_law_through","_law_start"] V9:=by
 have S:=Yy
 refine T.wO.dX S (fun _ _ _ _ H vs _ _ hr h=>?_)
 obtain ⟨D,d,n,rs,g,done,p,rfl,KL,gn,ed,ld,pn,Cu,kk⟩:=h
 have hu:=fg (gJ (show 1≤64 by decide) _) hr.units
 have iy:=hr.units
 refine ⟨_,(aD (putL 3 S.nd (KG (KA (pv 2) hE Kz) rfl rfl (fun h=>by cases h) (by decide)))
  (aD (putL 4 S.nd (eR (ai (pv 2) aq)))
  (aD (Aq dB (b5 (ET iy) (pv 4) (eR aq)) (aI (dN dB rfl (dM (bN dv (pv 0) (Jp i5 Dy Dz Jt (pv 4)))) (cy (i:=5) S.nd rfl (Or.inl rfl))
   (aI (cm (Iq (Kx hu (pv 5) (pv 3)) rfl) (aD (gF hu (pv 3) (pv 5) hE rfl)
  (aI (cm (pL DZ (pv 5) (pv 1) rfl) (aI (gr (ku i5 mM mO je (pv 4) (ai (pv 5) aq)))) ck))) ck)))))
  (aI (bX (pv 3)))))),?_⟩
 refine di fun _ mw=>(fj fun mt jX=>⟨_,rfl,au,[((Sum.inl (p:Int):Key),V.bl true)],rfl,by show 1≤15;decide,?_⟩)
 have s0:∀b o,b≠mt→H b=some o→upd (upd H mt (.dK [])) mt (.dK (mh [] [((Sum.inl (p:Int):Key),V.bl true)])) b=some o:=fun b o ne e=>by rw [aM ne,aM ne];exact e
 have em:upd (upd H mt (.dK [])) mt (.dK (mh [] [((Sum.inl (p:Int):Key),V.bl true)])) mt=some (.dK (dk [p])):=by rw [au];rfl
 generalize upd (upd H mt (.dK [])) mt (.dK (mh [] [((Sum.inl (p:Int):Key),V.bl true)]))=H1 at s0 em ⊢
 have sm:ao H H1:=fun b o e=>s0 b o (fun z=>by rw [z,jX] at e;cases e) e
 dsimp only [aP]
 refine mw _ _ ?_
 refine di fun _ iV=>⟨_,rfl,by show 1≤sizeLine;decide,fun l nl=>?_⟩
 have sl:ao H1 (upd H1 l (.lst [V.int (p:Int)])):=aH nl
 have el:upd H1 l (.lst [V.int (p:Int)]) l=some (.lst (([p]:List Nat).map fun k:Nat=>V.int (k:Int))):=au
 generalize upd H1 l (.lst [V.int (p:Int)])=H2 at sl el ⊢
 have nM:H l=none:=none_of sm nl
 have lm:l≠mt:=fun z=>by rw [z,em] at nl;cases nl
 have s2:=sm.trans sl
 dsimp only [aP]
 refine iV _ _ ?_
 refine cW ⟨fun m σ Hc=>∃(ks ws:List Nat) (v5:Option V),σ=[some (.ref D),some (.ref d),some (.int (p:Int)),some (.ref mt),some (.ref l),v5]∧m=2*(n-ks.length)+ws.length∧ao H Hc∧Hc mt=some (.dK (dk ks))∧Hc l=some (.lst (ws.map fun k:Nat=>V.int (k:Int)))∧dU n (gT n g) (·∈done) p none (fun _=>True) ks ws∧ws.length≤ks.length,⟨_,[p],[p],_,rfl,rfl,s2,sl _ _ em,el,dU.start pn,aC _⟩,?_⟩
 rintro m' σ Hc ⟨ks,ws,v5,rfl,Xd,oc,zi,oQ,wk,wl⟩
 have Gj:=wk.pl.len
 refine ⟨_,rfl,by show 0≤sizeLine;decide,fun le qi=>?_⟩
 have s3:ao Hc (upd Hc le (.lst [])):=aH qi
 have e3:upd Hc le (.lst []) le=some (.lst []):=au
 generalize upd Hc le (.lst [])=Hn at s3 e3 ⊢
 refine ⟨l,le,_,rfl,rfl,.of (s3 _ _ oQ),e3,_,rfl,bZ (fun hz=>?_) (fun hz=>?_)⟩
 ·have zj:ws≠[]:=fun z=>by rw [z] at hz;cases hz
  obtain ⟨us,h,rfl⟩:∃us h,ws=us++[h]:=⟨ws.dropLast,ws.getLast zj,(List.dropLast_concat_getLast zj).symm⟩
  have Xe:(us++[h]).length=us.length+1:=by simp
  have hh:=wk.wt h (dR _ (bY.mpr rfl))
  have hn:h<n:=wk.pl.2 h hh.1
  have my:=wk.pop
  refine ⟨_,fun _ _ h=>h,?_⟩
  refine ⟨_,rfl,_,rfl,.inl ⟨rfl,_,.of (s3 _ _ oQ)⟩,l,_,.int (h:Int),rfl,rfl,s3 _ _ oQ,by simp,?_⟩
  rw [fC,dq,t9,List.dropLast_concat]
  have sn:=oc.trans s3
  have o1:∀b u,b≠l→Hn b=some u→upd Hn l (.lst (us.map fun k:Nat=>V.int (k:Int))) b=some u:=fun b u ne e=>by rw [aM ne];exact e
  have zl:upd Hn l (.lst (us.map fun k:Nat=>V.int (k:Int))) l=some (.lst (us.map fun k:Nat=>V.int (k:Int))):=au
  have zo:∀{Hx Hy:Hp},ao H Hx→(∀b u,b≠l→Hx b=some u→Hy b=some u)→ao H Hy:=fun h k b u e=>k b u (fun z=>by rw [z,nM] at e;cases e) (h b u e)
  have Gk:∀{Hx Hy:Hp},ao H Hx→(∀b u,b≠mt→Hx b=some u→Hy b=some u)→ao H Hy:=fun h k b u e=>k b u (fun z=>by rw [z,jX] at e;cases e) (h b u e)
  have tO:=zo sn o1
  have zp:=o1 _ _ (Ne.symm lm) (s3 _ _ zi)
  generalize upd Hn l (.lst (us.map fun k:Nat=>V.int (k:Int)))=H3 at o1 zl tO zp ⊢
  refine ⟨D,_,_,_,rfl,rfl,.of (tO _ _ KL.lst),rO hn,rs h,rfl,⟨_,.of (tO _ _ (KL.at' h hn))⟩,?_⟩
  refine jI (K:=K) (a:=rs h) (xs:=(g h).map fun k:Nat=>V.int (k:Int)) (fun i σ He=>∃(ks us:List Nat) (v5:Option V),σ=[some (.ref D),some (.ref d),some (.int (p:Int)),some (.ref mt),some (.ref l),v5]∧ao H He∧He mt=some (.dK (dk ks))∧He l=some (.lst (us.map fun k:Nat=>V.int (k:Int)))∧dU n (gT n g) (·∈done) p (some h) (·∈(g h).take i) ks us∧us.length≤ks.length∧h∈ks∧2*(n-ks.length)+us.length<m') ⟨ks,us,_,rfl,tO,zp,zl,⟨my.pl,my.st,my.rc,my.wt,fun x hx ox=>(my.cl x hx ox).imp id fun e b hb=>(e b hb).imp id fun z=>⟨z.1,by simp⟩⟩,by lia,hh.1,by lia⟩ (fun i σ He _ ⟨_,_,_,_,e,_⟩=>.of (e _ _ (KL.at' h hn))) ?_ ?_
  ·rintro i x σ He hx ⟨ks,us,v5,rfl,oe,mB,oR,gW,ul,jY,lt⟩
   obtain ⟨k,hk,rfl⟩:∃k:Nat,(g h)[i]?=some k∧x=.int (k:Int):=by
    rw [bP] at hx
    cases e:(g h)[i]? with
    | none=>rw [e] at hx;cases hx
    | some q=>rw [e] at hx;exact ⟨q,rfl,(Option.some.inj hx).symm⟩
   have km:k∈g h:=iz hk
   have kn:k<n:=gn h hn k km
   have tk:=take_snoc hk
   have Xi:=gW.pl.len
   dsimp only [aP]
   refine ⟨_,rfl,_,rfl,mt,_,rfl,.inl ⟨dk ks,Sum.inl (k:Int),.inl mB,rfl,rfl⟩,_,rfl,?_⟩
   rw [KN]
   by_cases jZ:k∈ks
   ·rw [aj jZ]
    refine iH ⟨ks,us,_,rfl,oe,mB,oR,?_,ul,jY,lt⟩
    have w2:=gW.old jZ
    refine ⟨w2.pl,w2.st,w2.rc,w2.wt,fun x hx ox=>(w2.cl x hx ox).imp id fun e b hb=>(e b hb).imp id fun z=>⟨z.1,fun q=>z.2 ?_⟩⟩
    rw [tk] at q
    exact (cH.mp q).imp id bY.mp
   ·rw [aa jZ]
    refine qY ?_
    have al:=KZ jZ
    have o4:∀b u,b≠mt→He b=some u→upd He mt (.dK (dk (b_ ks k))) b=some u:=fun b u ne e=>by rw [aM ne];exact e
    refine cW ⟨_,rfl,_,rfl,mt,upd He mt (.dK (dk (b_ ks k))),rfl,.inl ⟨dk ks,Sum.inl (k:Int),mB,rfl,by rw [yK];exact bS (by lia),by rw [E6]⟩,?_⟩
    have tP:upd He mt (.dK (dk (b_ ks k))) mt=some (.dK (dk (b_ ks k))):=au
    have oS:=Gk oe o4
    have oT:=o4 _ _ lm oR
    generalize upd He mt (.dK (dk (b_ ks k)))=H4 at o4 tP oS oT ⊢
    have conv:∀{vs:List Nat},dU n (gT n g) (·∈done) p (some h) (fun x=>x∈(g h).take i∨x=k) (b_ ks k) vs→dU n (gT n g) (·∈done) p (some h) (·∈(g h).take (i+1)) (b_ ks k) vs:=fun w2=>⟨w2.pl,w2.st,w2.rc,w2.wt,fun x hx ox=>(w2.cl x hx ox).imp id fun e b hb=>(e b hb).imp id fun z=>⟨z.1,fun q=>z.2 (by
     rw [tk] at q
     exact (cH.mp q).imp id bY.mp)⟩⟩
    have Xj:=(gW.pl.add kn).len
    dsimp only
    refine ⟨_,rfl,_,rfl,d,_,rfl,.inr (.of (oS _ _ ed)),rfl,Bk done,_,rfl,bZ (fun hb=>?_) (fun hb=>?_)⟩
    ·have hb:jd (.int (k:Int)) (done.map fun k:Nat=>V.int (k:Int))=true:=hb
     rw [oJ,fR] at hb
     refine ⟨_,rfl,.inl ⟨rfl,_,.of oT⟩,_,rfl,l,_,_,rfl,rfl,oT,bS (by rw [aG];lia),?_⟩
     have o5:∀b u,b≠l→H4 b=some u→upd H4 l (.lst ((us.map fun k:Nat=>V.int (k:Int))++[V.int (k:Int)])) b=some u:=fun b u ne e=>by rw [aM ne];exact e
     exact ⟨b_ ks k,us++[k],_,rfl,zo oS o5,o5 _ _ (Ne.symm lm) tP,by rw [au,fC];rfl,conv (gW.new jZ kn jY hh.2 ⟨hn,km⟩ (.inl ⟨hb,rfl⟩)),by rw [al,c_,lp];lia,ir.mpr (.inl jY),by rw [al,c_,lp];lia⟩
    ·have hb:¬jd (.int (k:Int)) (done.map fun k:Nat=>V.int (k:Int))=true:=hb
     rw [oJ,fR] at hb
     exact ⟨b_ ks k,us,_,rfl,oS,tP,oT,conv (gW.new jZ kn jY hh.2 ⟨hn,km⟩ (.inr ⟨hb,rfl⟩)),by rw [al];lia,ir.mpr (.inl jY),by rw [al];lia⟩
  ·rintro σ He ⟨ks,us,v5,rfl,oe,mB,oR,gW,ul,jY,lt⟩
   rw [aG,gh] at gW
   exact ⟨_,lt,ks,us,_,rfl,rfl,oe,mB,oR,gW.next fun b hb=>hb.2,ul⟩
 ·have w0:ws=[]:=by
   cases ws with
   | nil=>rfl
   | cons x r=>exact absurd rfl hz
  subst w0
  exact ⟨_,rfl,kk _ mt ks (oc.trans s3) jX (s3 _ _ zi) wk.pl wk.done⟩
theorem YA:b8 ["_law_beside_here","_law_done","_law_place","_law_met","_law_many"] ["_law_beside_here","_law_done","_law_place"] (bA Cf):=cL
theorem YB(T:Txt K mg t):bQ P w K mg base cV 2 t.tj t.vY ["_law_beside_here","_law_done","_law_place"] V_:=by
 have S:=YA;refine T.wQ.dX S (fun _ _ _ _ H _ Q _ hr h=>?_);obtain ⟨D,d,n,rs,g,done,p,rfl,KL,gn,ed,ld,pn,Cu,kk⟩:=h
 refine ⟨_,(aD (putL 3 S.nd (a8 (Yz T) hr T.Nf T.wO.kp T.Nd bR (ai (pv 0) (ai (pv 1) (ai (pv 2) aq)))))
  (aD (putL 4 S.nd (cI jN rfl T.fN fS (ai (jg (N:=["_law_other","_law_place","_law_done"]) (ρ:=(fun σ=>[σ[2]?.join,σ[1]?.join])) (fX [2,1] rfl) rfl (Bb (pv 3)) (fun _ _ _=>(.one (PW.pt (pw_and (b5 qW (pv 0) (pv 1)) (pw_and1 (pL (Bj (K:=K)) (pv 0) (pv 2) rfl)))))) (fun _ _ _=>(pv 0))) aq)))
  (aI (bX (bh fD (bh fD (bh i_ (pv 4) (pv 4)) (bh i_ aF (pv 4))) aF))))),?_⟩
 refine ⟨_,rfl,_,rfl,_,rfl,D,d,n,rs,g,done,p,rfl,KL,gn,ed,ld,pn,Cu,fun H1 mt ks s1 jX YC pl ik=>?_⟩;dsimp only [aP];have Gj:=pl.len;refine cW (fj (rA (Bi (E_ (a:=mt) (kvs:=dk ks) (fun Q q=>⟨_,rfl,q⟩) (.inl YC) fun ob Hf jv off=>?_))));have sf:ao H Hf:=fun b u e=>off _ _ (fun z=>by rw [z,jX] at e;cases e) (s1 _ _ e)
 have Gp:=sf _ _ ed;refine E8 jv (fun q=>!decide (q=p) && !decide (q∈done)) (bS (by lia)) ?_ ?_ ?_
 ·intro q hq Hx R sx hR
  refine ⟨_,rfl,_,rfl,rfl,_,rfl,bZ (fun hb=>?_) (fun hb=>?_)⟩
  ·have ne:¬q=p:=fun z=>by subst z;rw [jh,bV rfl] at hb;cases hb
   refine ⟨_,rfl,_,rfl,d,_,rfl,.inr (.of (sx _ _ Gp)),rfl,Bk done,_,rfl,?_⟩;rw [b3 ne,xR,xJ] at hR;have e:(if true=true then !jd (.int (q:Int)) (done.map fun k:Nat=>V.int (k:Int)) else jd (.int (q:Int)) (done.map fun k:Nat=>V.int (k:Int))) = !decide (q∈done):=by rw [aj rfl,oJ]
   rw [e];exact hR
  ·have eq:q=p:=by
    by_cases z:(q:Int)=(p:Int);·lia
    ·exact absurd (by rw [jh,b3 z];rfl) hb
   rw [bV eq,xQ,t7] at hR;exact hR
 ·intro q hq Hx R hR
  exact ⟨_,rfl,hR⟩
 ·intro r Hg nr sg eg
  have c9:(ks.filter fun q=>!decide (q=p) && !decide (q∈done)).length≤n:=a9 (j9 _ _) Gj;have lmap:((ks.filter fun q=>!decide (q=p) && !decide (q∈done)).map fun k:Nat=>V.int (k:Int)).length=(ks.filter fun q=>!decide (q=p) && !decide (q∈done)).length:=aG _;refine ⟨r,_,rfl,.inl (.of eg),?_⟩;dsimp only [aP];rw [lmap];exact ⟨_,rfl,_,rfl,_,_,rfl,rfl,.inl ⟨by lia,by lia⟩,_,rfl,_,_,rfl,rfl,.inl ⟨by lia,by lia⟩,_,_,rfl,rfl,_,_,rfl,rfl,kk Hg _ (sf.trans sg) ⟨ks,pl,ik,rfl⟩⟩
theorem YD:b8 ["_law_size","_law_found","_law_place"] ["_law_size"] (bA Cg):=cL
theorem YE(T:Txt K mg t):bQ P w K mg base cV 1 t.tm t.vZ ["_law_size"] Lz:=by
 have S:=YD;refine T.wR.dX S (fun _ _ _ _ H _ _ _ hr h=>?_);obtain ⟨n,rfl,n9,kk⟩:=h
 refine ⟨_,(aD (putL 1 S.nd (eR (ai (d7 aq) aq)))
  (aD (dN dB rfl (mV rfl T.gU (ai (pv 0) aq)) (cy (i:=2) S.nd rfl (Or.inr rfl))
   (aI (putL 1 S.nd (bh Ea (pv 1) (jg (N:=["_law_part","_law_place"]) (ρ:=(fun σ=>[σ[2]?.join])) (fX [2] rfl) rfl (dM (pv 1)) (fun _ _ _=>.nil) (fun _ _ _=>(bh (E9 (K:=K)) (pv 0) (d7 (ai (pv 1) aq)))))))))
  (aI (bX (pv 1))))),?_⟩
 refine ⟨bG _,fun b nb=>⟨by show 1≤sizeLine;decide,fun l nl=>?_⟩⟩
 have s0:ao H (upd (upd H b (.tup [])) l (.lst [.ref b])):=(aH nb).trans (aH nl);have lb:b≠l:=fun z=>by rw [z,au] at nl;cases nl
 have eb:upd (upd H b (.tup [])) l (.lst [.ref b]) b=some (.tup []):=by rw [aM lb,au]
 have el:upd (upd H b (.tup [])) l (.lst [.ref b]) l=some (.lst [.ref b]):=au;generalize upd (upd H b (.tup [])) l (.lst [.ref b])=H0 at s0 eb el ⊢;dsimp only [aP];refine cW ⟨_,rfl,(n:Int),rfl,by lia,by lia,?_⟩
 rw [dF];refine pJ (fun k σ Hc=>∃(D:Addr) (xs:List V) (v2:Option V),σ=[some (.int (n:Int)),some (.ref D),v2]∧ao H Hc∧H D=none∧Hc D=some (.lst xs)∧e_ Hc xs (ar k)) ⟨l,_,_,rfl,s0,none_of (aH nb) nl,el,⟨rfl,fun i v q h1 h2=>?_⟩⟩ ?_ ?_
 ·match i,h1,h2 with
  | 0,h1,h2=>cases h1;cases h2;exact ⟨b,rfl,eb⟩
  | i+1,h1,h2=>simp at h1
 ·rintro k σ Hc hk ⟨D,xs,v2,rfl,sc,nD,eD,tu⟩
  have p2:2 ^ k≤512:=a9 (mH (by decide) (show k≤9 by lia)) (by decide)
  have lx:xs.length=2 ^ k:=tu.1.trans (kT k);dsimp only [aP];refine fj ⟨_,rfl,pP (xs:=xs) (fun R h=>⟨_,rfl,D,rfl,⟨_,.of eD⟩,h _ _ (ao.refl _) (kC (.of eD))⟩) (bS (by lia)) (fun _ i y Hz=>∀q,(ar k)[i]?=some q→∃(b:Addr),y=.ref b∧Hz b=some (.tup ((q++[k]).map fun k:Nat=>V.int (k:Int)))) (fun Dd i y Ha Hb ys h e f q hq=>by obtain ⟨b,h1,h2⟩:=h q hq;exact ⟨b,h1,f b _ (fun z=>by rw [z,e] at h2;cases h2) h2⟩) ?_ ?_⟩
  ·intro Dd i x hx Hz R sz _ kz
   have hi:i<(ar k).length:=by rw [←tu.1];exact (bx.mp hx).1
   obtain ⟨b,rfl,eb⟩:=tu.2 i x _ hx (bg hi);have fL:(ar k)[i]?=some (ar k)[i]:=bg hi;generalize (ar k)[i]=us at eb fL;have lu:us.length≤60:=by obtain ⟨u1,u2⟩:=cq.mp (iz fL);have:=p_ u1 u2;lia
   refine ⟨_,rfl,_,rfl,by show 1≤sizeLine;decide,fun q nq=>?_⟩
   have tQ:=sz _ _ eb;have bq:b≠q:=fun z=>by rw [z,nq] at tQ;cases tQ
   have Gr:upd Hz q (.tup [V.int (0+(k:Int))]) b=some (.tup (us.map fun k:Nat=>V.int (k:Int))):=(aM bq).trans tQ;refine ⟨b,q,_,_,rfl,rfl,.of Gr,.of au,by simp,a9 (show _≤100 by simp;lia) (by decide),fun e=>?_,fun ne p np=>?_⟩
   ·refine kz _ _ (aH nq) fun r hr=>⟨q,rfl,?_⟩
    rw [fL] at hr;cases hr;have:us=[]:=xP.mp e;subst this;rw [au,iB];rfl
   ·refine kz _ _ ((aH nq).trans (aH np)) fun r hr=>⟨p,rfl,?_⟩
    rw [fL] at hr;cases hr;rw [au,iB,fC];rfl
  ·intro Dd ys Hd Cw sd k8 mC oU
   refine ⟨D,Dd,xs,ys,rfl,rfl,sd _ _ eD,oU,a9 (show _≤2000 by lia) (by decide),fun l2 tR=>?_⟩
   have ty:e_ Hd ys ((ar k).map (·++[k])):=⟨by rw [k8,aG,tu.1],fun i v q h1 h2=>by
    rw [bP] at h2;cases e:(ar k)[i]? with
    | none=>rw [e] at h2;cases h2
    | some r=>rw [e] at h2;cases h2;exact mC i v h1 r e⟩
   exact ⟨l2,_,_,rfl,(sc.trans sd).trans (aH tR),none_of (sc.trans sd) tR,au,((tu.mono sd).cat ty).mono (aH tR)⟩
 ·rintro σ Hc ⟨D,xs,v2,rfl,sc,nD,eD,tu⟩
  exact ⟨_,rfl,kk D xs Hc sc nD eD tu⟩
theorem YF:b8 ["shape","done","worth_of"] ["shape","done","worth_of"] (bA BV):=cL
theorem YG(T:Txt K mg t):bQ P w K mg base (fF P w) 4 t.sP t.vM ["shape","done","worth_of"] VH:=by
 have S:=YF;refine T.wG.eW S (fun _ _ _ _ H _ _ _ hr h L=>?_);obtain ⟨tp,d,wo,n,Lk,done,kvs,W,rfl,eK,cE,n9,ed,hd,nN,hW,YH,kk⟩:=h;have tS:=fg (gJ (show 1≤64 by decide) _) hr.units
 have ll:(aQ n done).length≤9:=a9 (j9 _ _) (by rw [dJ];exact n9)
 refine ⟨_,(aI (bX (cI (yj (K:=K) rfl) rfl T.wZ boot_all (ai (JN (N:=["total","place","worth_of","done"]) (ρ:=(fun σ=>[σ[2]?.join,σ[1]?.join])) (Ep [2,1] rfl) rfl (dM (a8 (Gs T) hr T.Cr T.qf.kp T.Cq (m5 L) (ai (pv 0) (ai (pv 1) (ai (pv 2) aq))))) (fun _ _ _=>.nil) (fun _ _ _=>(mX DR (fK tS (pv 2) (pv 3) (fun _ _=>rfl)) (pv 0)))) aq)))),?_⟩;refine uU (VG (VF (Z:=(aQ n done).map fun p=>(bW n Lk done p+W (aV done p),(p:Int))) (fun z=>.bl (decide (W done≤z.1))) (fun R h=>?_) (bS (by rw [aG];lia)) (fun z _ Hc R sc kR=>?_) fun D3 H4 Xv s4 j4=>?_))
 ·refine ⟨_,rfl,_,rfl,_,rfl,tp,d,wo,n,Lk,done,kvs,W,rfl,eK,cE,n9,ed,hd,nN,hW,fun H3 Dc ys s3 oV ch=>?_⟩
  exact ⟨Dc,rfl,⟨_,.of oV⟩,h _ _ s3 (LC oV (Fu ch))⟩
 ·refine ⟨_,rfl,_,rfl,wo,_,rfl,YH▸dE.t (k:=aA done) (sc _ _ nN) (by rw [sc _ _ ed];unfold aA;rw [bw];rfl),_,rfl,_,_,rfl,rfl,kR⟩
 ·refine ⟨D3,((aQ n done).map fun p=>decide (W done≤bW n Lk done p+W (aV done p))),rfl,.of (by rw [j4,bw,bw];rfl),?_⟩
  have e:((aQ n done).map fun p=>decide (W done≤bW n Lk done p+W (aV done p))).all id=mr n Lk W done:=by
   unfold mr;rw [nV,iY,fR];constructor
   ·intro h p hp
    exact fP (h _ (b7.mpr ⟨p,hp,rfl⟩))
   ·intro h b hb
    obtain ⟨p,hp,rfl⟩:=b7.mp hb;exact bV (h p hp)
  rw [e];exact kk _ s4
variable {H:Hp}
theorem GW{Q:VK}{b c:Bool}(h:Q (.bl b) H)(e:b=c):Q (.bl c) H:=e▸h
theorem YI:b8 ["shape","order","worths","many","tuples"] ["shape","order","worths"] (bA BW):=cL
theorem YJ(T:Txt K mg t):bQ P w K mg base (fF P w) 6 t.sQ t.vO ["shape","order","worths"] (Wi t.nK):=by
 have S:=YI
 refine T.wH.eW S (fun _ _ _ _ H _ Q _ hr h L=>?_)
 obtain ⟨tp,a,wo,n,Lk,o,kvs,W,rfl,eK,cE,xf,n9,ea,ho,nN,CW,hW,kk⟩:=h
 have hu:=fg (gJ (show 1≤64 by decide) _) hr.units
 have lo:=va ho
 have qg:(ar n).length≤512:=by
  rw [kT]
  exact a9 (mH (by decide) n9) (by decide)
 refine ⟨_,(aD (gr (a8 (Gh T) hr T.Cp T.qe.kp T.Co (m5 L) (ai (pv 0) aq)))
  (aD (putL 3 S.nd (a8 (CL T) hr T.ze T.oO.kp T.zd (m5 L) (ai (pv 0) (ai (pv 1) aq))))
  (aD (putL 4 S.nd (a8 (NI T) hr T.FZ T.tJ.kp T.FY bR (ai (bN gO (pv 0) aF) aq)))
  (aD (cm (PW.pt (pw_or (b5 qW (cI VE rfl T.fN fS (ai (pv 2) aq)) (cI jN rfl T.fN fS (ai (pv 4) aq))) (pw_or1 (uG (pF (cI (yj (K:=K) rfl) rfl T.wZ boot_all (ai (jg (N:=["done","worths"]) (ρ:=(fun σ=>[σ[2]?.join])) (fX [2] rfl) rfl (dM (pv 4)) (fun _ _ _=>.nil) (fun _ _ _=>(Ip (Kw hu (pv 0) (pv 1)) rfl))) aq))))))) (aI (bX hE)) ck)
  (aD (cm (PW.pt (pw_or (b5 oi (fK hu (pv 2) (gu (VP rfl) rfl T.zh boot_tuple (ai (gu AN rfl T.gU AO (ai (bN gO (pv 0) aF) aq)) aq)) (fun _ _=>rfl)) aF) (pw_or1 (b5 qW (fK hu (pv 2) (d7 aq) (fun _ _=>rfl)) (pv 3))))) (aI (bX hE)) ck)
  (aI (bX (cI (yj (K:=K) rfl) rfl T.wZ boot_all (ai (jg (N:=["done","shape","worths"]) (ρ:=(fun σ=>[σ[0]?.join,σ[2]?.join])) (fX [0,2] rfl) rfl (dM (pv 4)) (fun _ _ _=>.nil) (fun _ _ _=>(a8 (YG T) hr T.MW T.wG.kp T.MV qZ (ai (pv 1) (ai (pv 0) (ai (pv 2) aq)))))) aq))))))))),?_⟩
 refine ⟨_,rfl,tp,n,Lk,rfl,eK,n9,?_⟩
 refine ⟨_,rfl,_,rfl,tp,a,n,Lk,o.map iN,rfl,eK,cE,xf,by lia,by rw [ea,bw];rfl,by rw [aG];lia,fun no=>absurd (ho.map iN) no,fun o' e' kd H1 s1 d hd=>?_⟩
 have eo:o'=o:=by
  have:=eL (List.map Int.toNat) e'
  rw [bw,bw] at this
  have zc:∀l:List Nat,l.map (Int.toNat ∘ iN)=l:=fun l=>by
   conv=>rhs;rw [←ph l]
   exact g8 fun k _=>dF k
  rw [zc,zc] at this
  exact this.symm
 subst eo
 dsimp only [aP]
 obtain ⟨lt,us,dH,elt,om⟩:=id (eK.mono s1)
 refine ⟨_,rfl,tp,_,_,_,rfl,rfl,.of dH,rfl,n,rfl,n9,fun Dx xs H2 s2 NJ fO tu=>?_⟩
 have fb:=s1.trans s2
 dsimp only [aP]
 refine cW ⟨_,rfl,wo,_,rfl,fb _ _ nN,by lia,_,rfl,Dx,xs,rfl,.inl (.of fO),rfl,_,rfl,bZ (fun hb=>?_) (fun hl=>?_)⟩
 ·refine GW (kk _ d fb hd) ?_
  rw [jh,tu.1] at hb
  unfold nI
  rw [b3 fun z=>by rw [z,bV rfl] at hb;cases hb]
  rfl
 have hl:kvs.length=(ar n).length:=by
  rw [jh,tu.1] at hl
  by_cases z:kvs.length=(ar n).length
  ·exact z
  ·rw [b3 (by lia)] at hl
   exact absurd rfl hl
 dsimp only [kh]
 have lx:xs.length=(ar n).length:=tu.1
 have Oi:∀(i:Nat) (x:V),xs[i]?=some x→∃q b,(ar n)[i]?=some q∧q∈ar n∧x=V.ref b∧H2 b=some (.tup (q.map fun k:Nat=>V.int (k:Int))):=fun i x hx=>by
  have hi:i<(ar n).length:=by
   rw [←lx]
   exact (bx.mp hx).1
  obtain ⟨b,e,g⟩:=tu.2 i x _ hx (bg hi)
  exact ⟨_,b,bg hi,cB hi,e,g⟩
 refine rA (pP (xs:=xs) (fun R h=>⟨_,rfl,Dx,rfl,⟨_,.of fO⟩,h _ _ (ao.refl _) (kC (.of fO))⟩) (bS (by lia)) (fun _ i y _=>∀q,(ar n)[i]?=some q→y=.bl (a7 kvs (aA q)).isSome) (fun _ _ _ _ _ _ h _ _=>h) ?_ ?_)
 ·intro Dd i x hx Hz R sz _ kz
  obtain ⟨q,b,fL,qm,rfl,eb⟩:=Oi i x hx
  refine ⟨_,rfl,_,rfl,wo,_,rfl,dE.t (k:=aA q) ((fb.trans sz) _ _ nN) (by rw [sz _ _ eb];unfold aA;rw [bw];rfl),?_⟩
  refine kz _ _ (ao.refl _) fun r hr=>?_
  rw [fL] at hr
  cases hr
  rfl
 ·intro Dd ys H3 Cw s3 k8 mC oU
  have ey:ys=((ar n).map fun q=>(a7 kvs (aA q)).isSome).map V.bl:=by
   refine g7 (by rw [k8,lx,aG,aG]) fun i h1 h2=>?_
   have hi:i<(ar n).length:=by simpa using h2
   rw [fQ,fQ]
   exact mC i _ (bg h1) _ (bg hi)
  have fz:=fb.trans s3
  refine ⟨Dd,_,rfl,.of (by rw [oU,ey]),_,rfl,?_⟩
  rw [List.all_map]
  by_cases hJ:((ar n).all (id ∘ fun q=>(a7 kvs (aA q)).isSome))=true
  rotate_left
  ·have hf:((ar n).all (id ∘ fun q=>(a7 kvs (aA q)).isSome))=false:=by
    cases z:(ar n).all (id ∘ fun q=>(a7 kvs (aA q)).isSome) with
    | false=>rfl
    | true=>exact absurd z hJ
   rw [hf]
   refine qY ?_
   refine GW (kk _ d fz hd) ?_
   unfold nI
   rw [show ((ar n).all fun q=>(a7 kvs (aA q)).isSome)=false from hf,ua]
   rfl
  rw [hJ]
  have tV:∀q,q∈ar n→a7 kvs (aA q)=some (.int (W q)):=fun q hq=>hW q hq (iY.mp hJ q hq)
  have hh:nI n kvs=true:=by
   unfold nI
   rw [bV hl,show ((ar n).all fun q=>(a7 kvs (aA q)).isSome)=true from hJ]
   rfl
  refine iH ?_
  have GX:∀{Hx:Hp} {b:Bool},ao H Hx→b=kU n Lk W d→Q (.bl b) Hx:=fun sx e=>GW (kk _ d sx hd) (by rw [hh,e];rfl)
  have qj:=(s2.trans s3) _ _ dH
  refine cW ⟨_,rfl,_,rfl,tp,_,_,_,rfl,rfl,.of qj,rfl,(n:Int),rfl,fun q1 CY=>⟨q1,n,rfl,au,by lia,fun tq Gu=>?_⟩⟩
  have s4:ao H3 (upd (upd H3 q1 (.gp 0 (n:Int))) tq (.tup (cJ n))):=(aH CY).trans (aH Gu)
  have w6:upd (upd H3 q1 (.gp 0 (n:Int))) tq (.tup (cJ n)) tq=some (.tup (cJ n)):=au
  generalize upd (upd H3 q1 (.gp 0 (n:Int))) tq (.tup (cJ n))=H4 at s4 w6 ⊢
  have nQ:=fz.trans s4
  refine ⟨wo,_,rfl,(tV (List.range n) (cq.mpr ⟨ve n,fun x hx=>cu.mp hx⟩))▸dE.t (k:=aA (List.range n)) (nQ _ _ nN) (by rw [w6];unfold aA cJ;rw [bw];rfl),_,_,rfl,rfl,_,rfl,bZ (fun hb=>?_) (fun hb=>?_)⟩
  ·refine GX nQ ?_
   have hb:decide (0<W (List.range n))=true:=hb
   unfold kU
   rw [hb]
   rfl
  have hb:decide (0<W (List.range n))=false:=by
   cases z:decide (0<W (List.range n)) with
   | false=>rfl
   | true=>exact absurd z hb
  refine ⟨_,rfl,bG _,fun e0 qh=>?_⟩
  have s5:ao H4 (upd H4 e0 (.tup [])):=aH qh
  have e5:upd H4 e0 (.tup []) e0=some (.tup []):=au
  generalize upd H4 e0 (.tup [])=H5 at s5 e5 ⊢
  have CZ:=nQ.trans s5
  refine ⟨wo,_,rfl,(tV [] (cq.mpr ⟨.nil,fun x h=>by cases h⟩))▸dE.t (k:=aA []) (CZ _ _ nN) e5,_,rfl,rfl,_,rfl,bZ (fun hc=>?_) (fun hc=>?_)⟩
  ·refine GX CZ ?_
   rw [jh] at hc
   have i7:decide (W []=(d:Int))=false:=by
    cases z:decide (W []=(d:Int)) with
    | false=>rfl
    | true=>rw [z] at hc;cases hc
   unfold kU
   rw [hb,i7]
   rfl
  have hc:decide (W []=(d:Int))=true:=by
   rw [jh] at hc
   cases z:decide (W []=(d:Int)) with
   | true=>rfl
   | false=>rw [z] at hc;exact absurd rfl hc
  have Oj:=s3.trans (s4.trans s5)
  have Ol:=Oj _ _ fO
  dsimp only [kh]
  refine uU (rA (pP (xs:=xs) (fun R h=>⟨_,rfl,Dx,rfl,⟨_,.of Ol⟩,h _ _ (ao.refl _) (kC (.of Ol))⟩) (bS (by lia)) (fun _ i y _=>∀q,(ar n)[i]?=some q→y=.bl (mr n Lk W q)) (fun _ _ _ _ _ _ h _ _=>h) ?_ ?_))
  ·intro De i x hx Hz R sz _ kz
   obtain ⟨q,b,fL,qm,rfl,eb⟩:=Oi i x hx
   have w5:=CZ.trans sz
   obtain ⟨m1,m2⟩:=cq.mp qm
   refine ⟨_,rfl,_,rfl,_,rfl,tp,b,wo,n,Lk,q,_,W,rfl,eK.mono w5,cE,n9,(Oj.trans sz) _ _ eb,qm,w5 _ _ nN,(fun p pn pd=>tV _ (cq.mpr ⟨nE m1 pd,fun x hx=>by
    rcases jW.mp hx with rfl | hx
    ·exact pn
    ·exact m2 x hx⟩)),tV q qm,fun H6 s6=>kz _ _ s6 fun r hr=>?_⟩
   rw [fL] at hr
   cases hr
   rfl
  ·intro De zs H6 nDe s6 GR GS YK
   refine ⟨De,(ar n).map (mr n Lk W),rfl,.of ?_,GX (CZ.trans s6) ?_⟩
   ·rw [YK]
    congr 2
    refine g7 (by rw [GR,lx,aG,aG]) fun i h1 h2=>?_
    have hi:i<(ar n).length:=by simpa using h2
    rw [fQ,fQ]
    exact GS i _ (bg h1) _ (bg hi)
   ·unfold kU
    rw [hb,hc,List.all_map]
    rfl
variable {H':Hp}
theorem YL{D l:Addr}(k:∀b o,b≠D→H b=some o→H' b=some o)(e:H' l=none)(n:l≠D):H l=none:=by
 cases z:H l with
 | none=>rfl
 | some o=>rw [k l o n z] at e;cases e
theorem YM:b8 ["_law_shape","_law_beside_here","_law_found","_law_part","_law_place","_law_later"] ["_law_shape"] (bA Ci):=cL
theorem YN(T:Txt K mg t):bQ P w K mg base cV 3 t.tw t.v_ ["_law_shape"] Wj:=by
 have S:=YM;refine T.wU.dX S (fun _ _ _ _ H _ Q _ hr h=>?_);obtain ⟨tp,n,L,rfl,eK,cE,n9,l2,kk⟩:=h;have iy:=hr.units;have hu:=fg (gJ (show 1≤64 by decide) _) hr.units
 refine ⟨_,(aD (putL 1 S.nd (a8 (Yx T) hr T.Nc T.wN.kp T.Nb bR (ai (pv 0) aq)))
  (aD (putL 2 S.nd E3)
  (aD (dN dB rfl (dM (a8 (YE T) hr T.Nj T.wR.kp T.Ni bR (ai (bN gO (pv 0) aF) aq))) (cy (i:=3) S.nd rfl (Or.inl rfl))
   (aD (gF hu (pv 2) (pv 3) (eR aq) rfl)
  (aI (dN dB rfl (mV rfl T.gU (ai (bN gO (pv 0) aF) aq)) (cy (i:=4) S.nd rfl (Or.inl rfl))
   (aI (cm (pL (Bj (K:=K)) (pv 4) (pv 3) rfl) (aD (putL 5 S.nd (gu D4 rfl T.zh boot_tuple (ai (cI Ls rfl T.tN uB (ai (bh KY (pv 3) (d7 (ai (pv 4) aq))) aq)) aq)))
  (aI (gr (ku i5 mM mO je (fK hu (pv 2) (pv 3) (fun _ _=>rfl)) (ai (d7 (ai (pv 5) (ai (a8 (YB T) hr T.Nh T.wQ.kp T.Ng bR (ai (pv 1) (ai (pv 3) (ai (pv 4) aq)))) aq))) aq))))) ck))))))
  (aI (bX (pv 2)))))),?_⟩
 refine di fun _ mw=>⟨_,rfl,tp,n,L,rfl,eK,cE,by lia,l2,fun H1 B zA g s1 nB GF KL nb=>?_⟩
 refine mw _ _ ?_
 try dsimp only [aP]
 refine di fun _ iV=>fj fun D nD=>?_;refine iV _ _ ?_;have sD:ao H1 (upd H1 D (.dT [])):=aH nD;have nO:upd H1 D (.dT []) D=some (.dT []):=au;have Gw:H D=none:=none_of s1 nD;have GY:=s1.trans sD;have Om:=KL.mono sD;generalize upd H1 D (.dT [])=H2 at sD nO GY Om ⊢;obtain ⟨lt,us,dH,elt,om⟩:=id (eK.mono GY)
 try dsimp only [aP]
 refine di fun _ tY=>?_;refine ⟨_,rfl,tp,_,_,_,rfl,rfl,.of dH,rfl,n,rfl,n9,fun Dx xs H3 s3 NJ fO tu=>?_⟩;have j4:=s3 _ _ nO;have YO:=Om.mono s3;have qj:=s3 _ _ dH;have Oo:=GY.trans s3;have YQ:Dx≠D:=fun z=>by rw [z,j4] at fO;cases fO
 have Oq:tp≠D:=fun z=>by rw [z,j4] at qj;cases qj
 have qg:(ar n).length≤512:=by rw [kT];exact a9 (mH (by decide) n9) (by decide)
 have gn:∀i,i<n→∀j∈g i,j<n:=fun i hi j hj=>by
  rcases (nb i j hi).mp hj with h | h
  ·have:=(cE _ h).2.2.2
   lia
  ·have:=(cE _ h).2.1
   lia
 have YR:=vi n;refine ⟨Dx,rfl,⟨_,.of fO⟩,?_⟩;refine jI (K:=K) (a:=Dx) (xs:=xs) (fun i σ Hc=>∃(rs:List Nat→Addr) (v3 v4 v5:Option V),σ=[some (.ref tp),some (.ref B),some (.ref D),v3,v4,v5]∧(∀b o,b≠D→H3 b=some o→Hc b=some o)∧Ma Hc n L D rs ((ar n).take i)∧∀q∈(ar n).take i,H (rs q)=none) ⟨fun _=>D,_,_,_,rfl,fun b o _ e=>e,⟨j4,fun q hq=>by cases hq⟩,fun q hq=>by cases hq⟩ (fun i σ Hc _ ⟨_,_,_,_,_,kc,_⟩=>.of (kc _ _ YQ fO)) ?_ ?_
 ·rintro i x σ Hc hx ⟨rs,v3,v4,v5,rfl,kc,RD,fr⟩
  have hi:i<(ar n).length:=by rw [←tu.1];exact (bx.mp hx).1
  have C0:(ar n)[i]?=some (ar n)[i]:=bg hi;obtain ⟨b,rfl,eb⟩:=tu.2 i x _ hx C0;have tk:(ar n).take (i+1)=(ar n).take i++[(ar n)[i]]:=by rw [iZ,C0];rfl
  have nq:(ar n)[i]∉(ar n).take i:=LW YR C0;have qp:=cB hi;generalize (ar n)[i]=q at eb tk nq qp C0;have xg:=cq.mp qp;have ln:q.length≤9:=a9 (p_ xg.1 xg.2) n9;have bD:b≠D:=fun z=>by rw [z,j4] at eb;cases eb
  have tU:=kc _ _ bD eb;have YS:iw Hc B n zA g:=YO.FA fun c ys e=>kc _ _ (fun z=>by rw [z,j4] at e;cases e) e
  have GZ:=kc _ _ Oq qj;have fl:(q.map fun k:Nat=>V.int (k:Int)).all jc=true:=by rw [iY];intro v hv;obtain ⟨q,_,rfl⟩:=b7.mp hv;rfl
  dsimp only [aP];refine di fun _ zJ=>?_;refine ⟨bG _,fun l nl=>?_⟩;have s5:ao Hc (upd Hc l (.lst [])):=aH nl;have el:upd Hc l (.lst []) l=some (.lst []):=au;generalize upd Hc l (.lst [])=H5 at s5 el ⊢;have lD:l≠D:=fun z=>by rw [z,RD.d] at nl;cases nl
  have ltk:((ar n).take i).length≤512:=a9 (by rw [oW];lia) qg
  refine ⟨_,rfl,_,rfl,D,_,rfl,gE.t (k:=aA q) (v:=.ref l) (s5 _ _ RD.d) (by rw [s5 _ _ tU];unfold aA;rw [bw];rfl) (bS (by unfold cT;rw [aG];lia)),?_⟩
  refine zJ _ _ ?_;rw [S7 _ (Mb rs nq)];have qk:upd H5 D (.dT (cT rs ((ar n).take i)++[(aA q,V.ref l)])) D=some (.dT (cT (fun r=>if r=q then l else rs r) ((ar n).take (i+1)))):=by
   rw [au,tk];unfold cT;rw [fC]
   congr 3
   ·refine g8 fun r hr=>?_
    have ne:r≠q:=fun z=>nq (by rw [←z];exact hr)
    show _=(aA r,V.ref (if r=q then l else rs r))
    rw [aa ne]
   ·simp
  have k6:∀c o,c≠D→H5 c=some o→upd H5 D (.dT (cT rs ((ar n).take i)++[(aA q,V.ref l)])) c=some o:=fun c o ne e=>(aM ne).trans e;generalize upd H5 D (.dT (cT rs ((ar n).take i)++[(aA q,V.ref l)]))=H6 at qk k6 ⊢;have val:some (V.ref l)=a7 (cT (fun r=>if r=q then l else rs r) ((ar n).take (i+1))) (aA q):=by
   rw [Bw (fun r=>if r=q then l else rs r) (show q∈(ar n).take (i+1) by rw [tk];simp)]
   show _=some (V.ref (if q=q then l else rs q))
   rw [aj rfl]
  have c6:∀c o,c≠D→Hc c=some o→H6 c=some o:=fun c o ne e=>k6 _ _ ne (s5 _ _ e);have C1:=k6 _ _ lD el;have tpl:tp≠l:=fun z=>by rw [z,nl] at GZ;cases GZ
  have bl:b≠l:=fun z=>by rw [z,nl] at tU;cases tU
  have nH:H l=none:=none_of Oo (YL kc nl lD);refine ⟨_,rfl,tp,_,_,_,rfl,rfl,.of (c6 _ _ Oq GZ),rfl,(n:Int),rfl,by lia,by lia,?_⟩
  rw [dF];refine pJ (fun k σ Hx=>∃(v4 v5:Option V) (ys:List V),σ=[some (.ref tp),some (.ref B),some (.ref D),some (.ref b),v4,v5]∧(∀c o,c≠l→H6 c=some o→Hx c=some o)∧Hx l=some (.lst ys)∧oN Hx n L q (aQ k q) ys) ⟨_,_,[],rfl,fun c o _ e=>e,C1,⟨rfl,fun i y p h=>by cases h⟩⟩ ?_ ?_
  ·rintro k σ Hx hk ⟨v4,v5,ys,rfl,kx,ex,RA⟩
   have xh:=kx _ _ bl (c6 _ _ bD tU);have fO:=kx _ _ (Ne.symm lD) qk;have YT:iw Hx B n zA g:=YS.FA fun c zs e=>kx _ _ (fun z=>by rw [z,nl] at e;cases e) (c6 _ _ (fun z=>by rw [z,RD.d] at e;cases e) e)
   have yl:ys.length≤9:=by rw [RA.1];unfold aQ;exact a9 (j9 _ _) (by rw [dJ];lia)
   dsimp only [aP];refine ⟨_,rfl,_,rfl,b,_,rfl,.inr (.of xh),rfl,fl,_,rfl,bZ (fun hb=>?_) (fun hb=>?_)⟩
   ·have kq:k∉q:=fun z=>by
     have e:jd (.int (0+(k:Int))) (q.map fun k:Nat=>V.int (k:Int))=true:=by rw [iB,oJ,bV z]
     rw [aj rfl,e] at hb;cases hb
    refine di fun R G0=>fj ?_;have cont:∀(H7:Hp) (c:Addr),ao Hx H7→H7 c=some (.tup ((aV q k).map fun k:Nat=>V.int (k:Int)))→R [some (.ref tp),some (.ref B),some (.ref D),some (.ref b),some (.int (0+(k:Int))),some (.ref c)] H7:=fun H7 c s7 ec=>by
     refine G0 _ _ ?_;have Ot:=s7 _ _ ex;have YU:=s7 _ _ fO;have tZ:=s7 _ _ xh;refine ⟨_,rfl,_,rfl,D,.ref l,rfl,val▸dE.t (k:=aA q) YU (by rw [tZ];unfold aA;rw [bw];rfl),.inl ⟨rfl,_,.of Ot⟩,_,rfl,_,rfl,_,rfl,_,rfl,B,b,n,zA,g,q,k,by rw [iB];rfl,YT.mono s7,gn,tZ,by lia,hk,by lia,fun H8 c8 s8 near=>?_⟩
     refine ⟨by show 2≤sizeLine;decide,fun t nt=>?_⟩
     rw [Fp nb near];have s9:ao H8 (upd H8 t (.tup [.ref c,.int (bW n L q k)])):=aH nt;have et:upd H8 t (.tup [.ref c,.int (bW n L q k)]) t=some (.tup [.ref c,.int (bW n L q k)]):=au;generalize upd H8 t (.tup [.ref c,.int (bW n L q k)])=H9 at s9 et ⊢;have G1:=s8.trans s9;have Ou:=s7.trans G1;have Ov:=G1 _ _ Ot;refine ⟨l,ys,_,rfl,rfl,Ov,bS (by lia),?_⟩
     have YV:∀a zs,H9 a=some (.tup zs)→upd H9 l (.lst (ys++[.ref t])) a=some (.tup zs):=fun a zs e=>(aM fun z=>by rw [z,Ov] at e;cases e).trans e
     refine ⟨_,_,_,rfl,fun a o ne e=>(aM ne).trans (Ou _ _ (kx _ _ ne e)),au,?_⟩;rw [L_,aa kq];exact ((RA.dW fun a zs e=>Ou _ _ e).snoc et (G1 _ _ ec)).dW YV
    have fin:∀(H7:Hp) (c:Addr),ao Hx H7→H7 c=some (.tup ((q.map iN++[(k:Int)]).map V.int))→uN Fm (fun σ H Q=>Q [.ref c] H) [] H7 (fun x H2=>∃q ys,[x]=[V.ref q]∧((bz K H2 q ys∧∀l,H2 l=none→R [some (.ref tp),some (.ref B),some (.ref D),some (.ref b),some (.int (0+(k:Int))),some (.ref l)] (upd H2 l (.tup ys)))∨(dG K H2 q ys∧R [some (.ref tp),some (.ref B),some (.ref D),some (.ref b),some (.int (0+(k:Int))),some (.ref q)] H2))):=fun H7 c s7 ec=>by
     refine ⟨c,q.map iN++[(k:Int)],rfl,ec,by simp;lia,fun ws D' pm so GH=>⟨D',_,rfl,.inl ⟨.of au,fun l' GJ=>?_⟩⟩⟩
     have ew:=Fq xg.1 kq pm so;subst ew;refine cont _ l' (s7.trans ((aH GH).trans (aH GJ))) ?_;rw [au,bw];rfl
    refine ⟨_,rfl,_,rfl,by show 1≤sizeLine;decide,fun c nc=>?_⟩
    have s6:ao Hx (upd Hx c (.tup [.int (0+(k:Int))])):=aH nc;have ec:upd Hx c (.tup [.int (0+(k:Int))]) c=some (.tup [.int (0+(k:Int))]):=au;generalize upd Hx c (.tup [.int (0+(k:Int))])=H7 at s6 ec ⊢;refine ⟨b,c,_,_,rfl,rfl,.of (s6 _ _ xh),.of ec,by simp,Ly (by rw [aG];simp;lia),fun e0=>?_,fun e1 c' CF=>?_⟩
    ·have:q=[]:=xP.mp e0
     subst this;exact fin H7 c s6 (by rw [ec,iB];rfl)
    ·refine fin _ c' (s6.trans (aH CF)) ?_
     rw [au,fC,bw,iB];rfl
   ·have kq:k∈q:=Decidable.byContradiction fun z=>hb (by rw [aj rfl,iB,oJ,b3 z];rfl)
    refine ⟨_,_,ys,rfl,kx,ex,?_⟩;rw [L_,aj kq,t8];exact RA
  ·rintro σ Hx ⟨v4,v5,ys,rfl,kx,ex,RA⟩
   have fO:=kx _ _ (Ne.symm lD) qk;refine ⟨fun r=>if r=q then l else rs r,_,_,_,rfl,fun c o ne e=>kx _ _ (fun z=>by rw [z] at e;exact absurd (kc _ _ lD e) (by rw [nl];exact fun z=>nomatch z)) (c6 _ _ ne (kc _ _ ne e)),⟨fO,fun r hr=>?_⟩,fun r hr=>?_⟩
   ·rw [tk,cH,bY] at hr
    by_cases e:r=q
    ·subst e
     exact ⟨ys,by rw [aj rfl];exact ex,RA⟩
    ·obtain ⟨zs,h1,h2⟩:=RD.r r (hr.resolve_right e)
     refine ⟨zs,?_,h2.dW fun a us e=>kx _ _ (fun z=>by rw [z,nl] at e;cases e) (c6 _ _ (fun z=>by rw [z,RD.d] at e;cases e) e)⟩
     rw [aa e];exact kx _ _ (fun z=>by rw [z,nl] at h1;cases h1) (c6 _ _ (fun z=>by rw [z,RD.d] at h1;cases h1) h1)
   ·rw [tk,cH,bY] at hr
    dsimp only;by_cases e:r=q
    ·rw [aj e]
     exact nH
    ·rw [aa e]
     exact fr r (hr.resolve_right e)
 ·rintro σ Hc ⟨rs,v3,v4,v5,rfl,kc,RD,fr⟩
  rw [show xs.length=(ar n).length from tu.1,gh] at RD fr;refine tY _ _ ?_;exact ⟨_,rfl,kk _ D rs (fun c o e=>kc _ _ (fun z=>by rw [z,Gw] at e;cases e) (Oo _ _ e)) Gw fr RD⟩
theorem eG.but{n:Nat}{L:aE}{C:Addr}{rs:List Nat→Addr}(h:eG H n L C rs)(k:∀b o,b≠C→(∀kvs,o≠.dT kvs)→H b=some o→H' b=some o)(c:H' C=some (.dT (cT rs (ar n)))∨∃o,H' C=some (.aW o (.dT (cT rs (ar n))))):eG H' n L C rs:=⟨c,fun q hq=>by
 obtain ⟨ys,e,r⟩:=h.2 q hq;have nC:∀{b:Addr} {o:HO},H b=some o→(∀kvs,o≠.dT kvs)→(∀ob u,o≠.aW ob u)→b≠C:=fun e h1 h2 z=>by
  rcases h.1 with hc | ⟨o,hc⟩;·rw [z,hc] at e;cases e;exact h1 _ rfl
  ·rw [z,hc] at e;cases e;exact h2 _ _ rfl
 exact ⟨ys,k _ _ (nC e (fun _ z=>by cases z) fun _ _ z=>by cases z) (fun _ z=>by cases z) e,r.dW fun b zs eb=>k _ _ (nC eb (fun _ z=>by cases z) fun _ _ z=>by cases z) (fun _ z=>by cases z) eb⟩⟩
theorem YW:b8 ["_law_size","_law_costs","_law_found","_law_many","_law_part","_law_best"] ["_law_size","_law_costs"] (bA Cj):=cL
theorem YX(T:Txt K mg t):bQ P w K mg base cV 3 t.tD t.wa ["_law_size","_law_costs"] Wq:=by
 have S:=YW;refine T.wV.dX S (fun _ _ _ _ H _ _ _ hr h=>?_);obtain ⟨n,L,C,rs,rfl,n9,CA,kk⟩:=h;have iy:=hr.units;have tS:=fg (gJ (show 1≤64 by decide) _) hr.units
 have hu:=fg (gJ (show 1≤64 by decide) _) hr.units
 refine ⟨_,(aD (JJ 2 S.nd E3)
  (aD (dN dB rfl (VZ rfl T.Ny rfl T.gU (ai (bh fD (pv 0) aF) aq)) (cy (i:=3) S.nd rfl (Or.inr rfl))
   (aI (dN dB rfl (dM (jg (N:=["_law_one","_law_many"]) (ρ:=(fun σ=>[σ[3]?.join])) (fX [3] rfl) rfl (FF (pv 1)) (fun _ _ _=>(.one (b5 d6 (cI (Es (K:=K)) rfl T.fN fS (ai (pv 0) aq)) (pv 1)))) (fun _ _ _=>(pv 0)))) (cy (i:=4) S.nd rfl (Or.inl rfl))
   (aD (W3 (i0:=5) (N:=["_law_later","_law_more","_law_found"]) (ρ:=(fun σ=>[σ[2]?.join])) (Ep [2] rfl) rfl S.nd rfl (Or.inl rfl) (dM (fK hu (pv 1) (pv 4) (fun _ _=>rfl))) (fun _ _ _=>.nil) (fun _ _ _=>(bh fD (pv 1) (fK tS (pv 2) (pv 0) (fun _ _=>rfl)))))
  (aI (gF hu (pv 2) (pv 4) (Lx rfl (ai (pv 5) aq) aF rfl T.zg boot_min) rfl))))))
  (aI (bX (pv 2))))),?_⟩
 refine di fun _ iV=>fj fun D nD=>?_;refine iV _ _ ?_;have sD:ao H (upd H D (.dT [])):=aH nD;have nO:upd H D (.dT []) D=some (.dT []):=au;have Ow:eG (upd H D (.dT [])) n L C rs:=CA.but (fun b o _ _ e=>sD _ _ e) (CA.1.imp (fun e=>sD _ _ e) fun⟨o,e⟩=>⟨o,sD _ _ e⟩);have CD:C≠D:=fun z=>by
  rcases CA.1 with e | ⟨o,e⟩;·rw [z,nD] at e;cases e
  ·rw [z,nD] at e;cases e
 generalize upd H D (.dT [])=H2 at sD nO Ow ⊢;have qg:(ar n).length≤512:=by rw [kT];exact a9 (mH (by decide) n9) (by decide)
 dsimp only [aP];refine di fun _ zI=>⟨_,rfl,_,_,rfl,rfl,(n:Int)+1,rfl,by lia,by lia,?_⟩
 rw [show (n:Int)+1-1=(n:Int) by lia,show ((n:Int)+1).toNat=n+1 by lia]
 refine R5 (lo:=(n:Int)) (n:=n+1) (fun i σ Hc=>∃(qs:List (List Nat)) (v3 v4 v5:Option V),σ=[some (.int (n:Int)),some (.ref C),some (.ref D),v3,v4,v5]∧(∀b o,b≠D→b≠C→H2 b=some o→Hc b=some o)∧eG Hc n L C rs∧Hc D=some (.dT (wD (wW n L) qs))∧qs.Nodup∧∀q,q∈qs↔q∈ar n∧n<q.length+i) ⟨[],_,_,_,rfl,fun b o _ _ e=>e,Ow,nO,qE,fun q=>⟨(fun h=>by cases h),fun h=>?_⟩⟩ ?_ ?_
 ·obtain ⟨u1,u2⟩:=cq.mp h.1
  have:=p_ u1 u2;lia
 ·rintro i σ Hc hi ⟨qs,v3,v4,v5,rfl,kc,mF,eD,nd,hq⟩
  dsimp only [aP];refine Wa (Wl (a:=C) (kvs:=cT rs (ar n)) (vj Hc (n-i)) (fun R h=>⟨_,rfl,h⟩) mF.1 (bS (by unfold cT;rw [aG];lia)) ?_ (fun x Hx R h=>⟨_,rfl,h⟩) fun ob xs Df H4 ks e4 k4 nDf zK=>?_)
  ·intro xs Hf ks kf x hx Hx R sx hR
   obtain ⟨k,hk⟩:=Ah hx;have qo:k<(ar n).length:=by
    have:=(bx.mp hk).1;rw [ks.1] at this;unfold cT at this
    rwa [aG] at this
   obtain ⟨b,rfl,eb⟩:=ks.2 k x _ hk (by unfold cT;rw [bP,bg qo];rfl)
   dsimp only at eb;generalize (ar n)[k]=q at eb;have eb:Hc b=some (.tup (q.map fun k:Nat=>V.int (k:Int))):=by rw [eb];unfold aA;rw [bw];rfl
   have bC:b≠C:=fun z=>by
    rcases mF.1 with e | ⟨o,e⟩;·rw [z,e] at eb;cases eb
    ·rw [z,e] at eb;cases eb
   rw [LV eb] at hR;refine ⟨_,rfl,b,_,rfl,.inr (.of (sx _ _ (kf _ _ bC eb))),_,rfl,rfl,_,rfl,?_⟩;have e:decide (V.int ((q.map fun k:Nat=>V.int (k:Int)).length:Int)=V.int ((n:Int)-(i:Int)))=decide ((q.map fun k:Nat=>V.int (k:Int)).length=n-i):=by
    refine qB.mpr ⟨fun z=>?_,fun z=>?_⟩
    ·injection z with z
     lia
    ·congr 1
     lia
   rw [e];exact hR
  have YY:∀{b:Addr} {ys:List V},Hc b=some (.tup ys)→b≠C:=fun eb z=>by
   rcases mF.1 with e | ⟨o,e⟩;·rw [z,e] at eb;cases eb
   ·rw [z,e] at eb;cases eb
  have G3:e_ Hc xs (ar n):=⟨by rw [ks.1];unfold cT;rw [aG],fun k v q h1 h2=>by
   obtain ⟨b,e,eb⟩:=ks.2 k v (aA q,V.ref (rs q)) h1 (by unfold cT;rw [bP,h2];rfl)
   exact ⟨b,e,by rw [eb];unfold aA;rw [bw];rfl⟩⟩
  have G4:=LU (c:=vj Hc (n-i)) (f:=fun q=>decide (q.length=n-i)) G3 fun k v q h1 h2=>by obtain ⟨b,rfl,eb⟩:=G3.2 k v q h1 h2;rw [LV eb,aG]
  have tf:e_ H4 (xs.filter (vj Hc (n-i))) ((ar n).filter fun q=>decide (q.length=n-i)):=⟨G4.1,fun k v q h1 h2=>by obtain ⟨b,e,eb⟩:=G4.2 k v q h1 h2;exact ⟨b,e,k4 _ _ (YY eb) eb⟩⟩
  have fl:((ar n).filter fun q=>decide (q.length=n-i)).length≤512:=a9 (j9 _ _) qg;have fm:∀q,q∈(ar n).filter (fun q=>decide (q.length=n-i))↔q∈ar n∧q.length=n-i:=fun q=>by rw [cG,fR]
  have Ox:((ar n).filter fun q=>decide (q.length=n-i)).Nodup:=(vi n).filter _;clear G4 G3 ks;generalize (ar n).filter (fun q=>decide (q.length=n-i))=F at tf fl fm Ox;generalize xs.filter (vj Hc (n-i))=ys at tf zK;have xi:=k4 _ _ (Ne.symm CD) eD;have YZ:Df≠D:=fun z=>by rw [z,xi] at zK;cases zK
  have zL:eG H4 n L C rs:=mF.but (fun b o ne _ e=>k4 _ _ ne e) (.inr ⟨ob,e4⟩);refine ⟨Df,rfl,⟨_,.of zK⟩,?_⟩;refine jI (K:=K) (a:=Df) (xs:=ys) (fun j σ Hx=>∃(qs:List (List Nat)) (v4 v5:Option V),σ=[some (.int (n:Int)),some (.ref C),some (.ref D),some (.int ((n:Int)-(i:Int))),v4,v5]∧(∀b o,b≠D→H4 b=some o→Hx b=some o)∧Hx D=some (.dT (wD (wW n L) qs))∧qs.Nodup∧∀q,q∈qs↔(q∈ar n∧n<q.length+i)∨q∈F.take j) ⟨qs,_,_,rfl,fun b o _ e=>e,xi,nd,fun q=>by rw [hq q];simp⟩ (fun j σ Hx _ ⟨_,_,_,_,kx,_⟩=>.of (kx _ _ YZ zK)) ?_ ?_
  ·clear hq nd
   rintro j x σ Hx hx ⟨qs,v4,v5,rfl,kx,fO,nd,hq⟩;have hj:j<F.length:=by rw [←tf.1];exact (bx.mp hx).1
   have C2:F[j]?=some F[j]:=bg hj;obtain ⟨b,rfl,eb⟩:=tf.2 j x _ hx C2;have tk:F.take (j+1)=F.take j++[F[j]]:=by rw [iZ,C2];rfl
   have nF:F[j]∉F.take j:=LW Ox C2;have qm:=(fm F[j]).mp (cB hj);generalize F[j]=q at eb tk nF qm C2;obtain ⟨qp,ql⟩:=qm;have nq:q∉qs:=fun z=>by
    rcases (hq q).mp z with z | z
    ·have:=z.2
     lia
    ·exact nF z
   have bD:b≠D:=fun z=>by rw [z,xi] at eb;cases eb
   have xh:=kx _ _ bD eb;have xg:=cq.mp qp;obtain ⟨zs,ez,RA⟩:=zL.2 q qp;have Oy:=kx _ _ (fun z=>by rw [z,xi] at ez;cases ez) ez
   have xj:=RA.dW (H':=Hx) fun a us e=>kx _ _ (fun z=>by rw [z,xi] at e;cases e) e
   have Y0:=kx _ _ CD e4;have ll:(aQ n q).length≤9:=a9 (j9 _ _) (by rw [dJ];exact n9)
   obtain ⟨Z,lZ,hZ⟩:=pick (R:=fun(i:Nat) (y:V) (z:V×V)=>∀p:Nat,(aQ n q)[i]?=some p→∃t b:Addr,y=.ref t∧Hx t=some (.tup [z.1,z.2])∧z.1=.ref b∧z.2=.int (bW n L q p)∧Hx b=some (.tup ((aV q p).map fun k:Nat=>V.int (k:Int)))) (xs:=zs) (fun i y hy=>by
    have hi:i<(aQ n q).length:=by rw [←xj.1];exact (bx.mp hy).1
    obtain ⟨t,b,e,e1,e2⟩:=xj.2 i y _ hy (bg hi);refine ⟨(.ref b,.int (bW n L q (aQ n q)[i])),fun p hp=>?_⟩;rw [bg hi] at hp;cases hp;exact ⟨t,b,e,e1,rfl,rfl,e2⟩)
   have Oz:Z.length=(aQ n q).length:=by rw [lZ,xj.1]
   dsimp only [aP];refine di fun _ zJ=>fj (Wo (Z:=Z) (BA Hx (wW n L)) (fun R h=>?_) (bS (by lia)) (fun z mz Hy R sy hR=>?_) fun Dl H5 nDl s5 OA=>?_)
   ·refine ⟨_,rfl,_,rfl,C,.ref (rs q),rfl,(show some (V.ref (rs q))=a7 (cT rs (ar n)) (aA q) from (Bw rs qp).symm)▸.inr ⟨_,aA q,b,.inr ⟨_,Y0⟩,rfl,by rw [xh];unfold aA;rw [bw];rfl,rfl⟩,rs q,rfl,⟨_,.of Oy⟩,h _ _ (ao.refl _) (Wn Oy ⟨by rw [lZ],fun k v z h1 h2=>?_⟩)⟩
    have hk:k<(aQ n q).length:=by rw [←xj.1];exact (bx.mp h1).1
    obtain ⟨t,_,e,e1,_⟩:=hZ k v z h1 h2 _ (bg hk);exact ⟨t,e,e1⟩
   ·obtain ⟨k,hk⟩:=Ah mz
    have qo:k<(aQ n q).length:=by rw [←Oz];exact (bx.mp hk).1
    obtain ⟨t,b',_,_,e2,e3,zM⟩:=hZ k zs[k] z (by simp [show k<zs.length by rw [xj.1];exact qo]) hk _ (bg qo)
    obtain ⟨p1,p2⟩:=cG.mp (cB qo);generalize (aQ n q)[k]=p at e3 zM p1 p2;have pn:=cu.mp p1;have pq:p∉q:=by simpa using p2
    obtain ⟨z1,z2⟩:=z;dsimp only at e2 e3;subst e2;subst e3;rw [Me zM] at hR;have im:aV q p∈qs:=(hq _).mpr (.inl ⟨cq.mpr ⟨nE xg.1 pq,fun x hx=>by
     rcases jW.mp hx with rfl | hx;·exact pn
     ·exact xg.2 x hx⟩,by rw [yZ];lia⟩)
    exact ⟨_,rfl,_,rfl,_,rfl,D,_,rfl,(y7 (wW n L) im)▸dE.t (k:=aA (aV q p)) (sy _ _ fO) (by rw [sy _ _ zM];unfold aA;rw [bw];rfl),_,_,rfl,rfl,hR⟩
   ·refine zJ _ _ ?_
    have ef:Z.map (BA Hx (wW n L))=((aQ n q).map fun p=>bW n L q p+wW n L (aV q p)).map V.int:=by
     refine g7 (by rw [aG,aG,aG,Oz]) fun k h1 h2=>?_
     rw [aG] at h1;have qo:k<(aQ n q).length:=by lia
     obtain ⟨t,b',_,_,e2,e3,zM⟩:=hZ k zs[k] Z[k] (by simp [show k<zs.length by rw [xj.1];exact qo]) (by simp [h1]) _ (bg qo)
     rw [fQ,fQ,fQ,show Z[k]=(Z[k].1,Z[k].2) from rfl,e2,e3,Me zM]
    rw [ef] at OA;have lq:(wD (wW n L) qs).length≤512:=by
     unfold wD;rw [aG];refine a9 (LX nd fun x hx=>?_) qg;rcases (hq x).mp hx with h | h;·exact h.1
     ·exact ((fm x).mp (List.mem_of_mem_take h)).1
    refine ⟨_,rfl,Dl,_,0,rfl,rfl,OA,by rw [aG];lia,fun m hm=>?_⟩
    have em:m=wW n L q:=by rw [LD hm,Fs qp]
    subst em;refine ⟨_,rfl,_,rfl,D,_,rfl,gE.t (k:=aA q) (s5 _ _ fO) (by rw [s5 _ _ xh];unfold aA;rw [bw];rfl) (bS (by lia)),?_⟩
    refine ⟨qs++[q],_,_,rfl,fun c o cD e=>(aM cD).trans (s5 _ _ (kx c o cD e)),by rw [au,LG _ nq],nX.mpr ⟨nd,(by simp),fun a ha b hb e=>nq (by rw [bY.mp hb] at e;exact e▸ha)⟩,fun r=>?_⟩
    rw [tk,cH,cH,hq r,or_assoc]
  ·rintro σ Hx ⟨qs,v4,v5,rfl,kx,fO,nd,hq⟩
   refine ⟨qs,_,_,_,rfl,fun b o bD bC e=>kx _ _ bD (k4 _ _ bC (kc _ _ bD bC e)),zL.but (fun b o _ nd e=>kx _ _ (fun z=>by rw [z,xi] at e;cases e;exact nd _ rfl) e) (.inr ⟨ob,kx _ _ CD e4⟩),fO,nd,fun q=>?_⟩
   rw [hq q,show ys.length=F.length from tf.1,gh,fm];constructor
   ·rintro (⟨h1,h2⟩ | ⟨h1,h2⟩)
    ·exact ⟨h1,by lia⟩
    ·exact ⟨h1,by lia⟩
   ·rintro ⟨h1,h2⟩
    by_cases z:n<q.length+i;·exact .inl ⟨h1,z⟩
    ·exact .inr ⟨h1,by lia⟩
 ·rintro σ Hc ⟨qs,v3,v4,v5,rfl,kc,mF,eD,nd,hq⟩
  refine zI _ _ ?_;refine ⟨_,rfl,kk _ D qs (fun b o bC e=>?_) mF nD eD ?_⟩;·exact kc _ _ (fun z=>by rw [z,nD] at e;cases e) bC (sD _ _ e)
  ·refine (ur nd (vi n)).mpr fun q=>?_
   rw [hq q];exact ⟨fun h=>h.1,fun h=>⟨h,by lia⟩⟩
theorem Y1:b8 ["_law_costs","_law_told","_law_many","_law_part","_law_later","_law_more"] ["_law_costs","_law_told","_law_many"] (bA Cm):=cL
theorem OB(T:Txt K mg t):bQ P w K mg base cV 3 t.tF t.wc ["_law_costs","_law_told","_law_many"] WT:=by
 have S:=Y1;refine T.tM.dX S (fun _ _ _ _ H _ _ _ hr h=>?_);obtain ⟨n,L,C,To,rs,kvs,d,rfl,n9,CA,CT,eT,CW,TD,kk⟩:=h;have iy:=hr.units;have tS:=fg (gJ (show 1≤64 by decide) _) hr.units
 have hu:=fg (gJ (show 1≤64 by decide) _) hr.units
 refine ⟨_,(aD (cm (PW.pt (pw_or (b5 qW (cI L5 rfl T.fN fS (ai (pv 1) aq)) (cI L5 rfl T.fN fS (ai (pv 0) aq))) (pw_or1 (uG (pF (cI (yj (K:=K) rfl) rfl T.wZ boot_all (ai (jg (N:=["_law_part","_law_told"]) (ρ:=(fun σ=>[σ[1]?.join])) (fX [1] rfl) rfl (FF (pv 0)) (fun _ _ _=>.nil) (fun _ _ _=>(Ip (Kw hu (pv 0) (pv 1)) rfl))) aq))))))) (aI (bX hE)) ck)
  (aD (dN dB rfl (FF (pv 0)) (cy (i:=3) S.nd rfl (Or.inl rfl))
   (aI (dN dB rfl (dM (fK hu (pv 0) (pv 3) (fun _ _=>rfl))) (qQ rfl (i8 (cy (i:=4) S.nd rfl (Or.inl rfl)) (i8 (cy (i:=5) S.nd rfl (Or.inl rfl)) qP)))
   (aI (cm (b5 oi (fK hu (pv 1) (pv 3) (fun _ _=>rfl)) (bh fD (pv 5) (fK hu (pv 1) (pv 4) (fun _ _=>rfl)))) (aI (bX hE)) ck)))))
  (aI (bX (Iu (mX DR (fK hu (pv 1) (bN dv (gu (L6 rfl) rfl T.oP boot_list (ai (pv 0) aq)) (DN DQ aF)) (fun _ _=>rfl)) aF) (DE (mX d6 (fK hu (pv 1) (d7 aq) (fun _ _=>rfl)) (pv 2)))))))),?_⟩
 have qg:(ar n).length≤512:=by rw [kT];exact a9 (mH (by decide) n9) (by decide)
 have lr:(cT rs (ar n)).length=(ar n).length:=by unfold cT;rw [aG]
 refine cW ⟨_,rfl,To,_,rfl,.inl eT,by lia,_,rfl,C,_,rfl,CA.1,by lia,rfl,_,rfl,bZ (fun hb=>?_) (fun hb=>?_)⟩
 ·refine qY ?_
  refine kk _ _ (fun _ _ _ e=>e) CA fun d' _=>?_;rw [lr,jh] at hb;unfold nI;rw [b3 fun z=>by rw [z,bV rfl] at hb;cases hb]
  rfl
 have hl:kvs.length=(ar n).length:=by
  rw [lr,jh] at hb;by_cases z:kvs.length=(ar n).length;·exact z
  ·rw [b3 (by lia)] at hb
   exact absurd rfl hb
 refine rA (WN (a:=C) (kvs:=cT rs (ar n)) (fun k=>.bl (a7 kvs k).isSome) (fun R h=>⟨_,rfl,h⟩) CA.1 (bS (by lia)) ?_ fun ob D Hc eC kc nD eD=>?_)
 ·intro Hf x b kv kf _ ex eb Y2 R hR
  subst ex;exact ⟨_,rfl,_,rfl,To,_,rfl,dE.t (k:=kv.1) (kf _ _ (Ne.symm CT) eT) Y2,hR⟩
 have em:(cT rs (ar n)).map (fun kv=>V.bl (a7 kvs kv.1).isSome)=((ar n).map fun q=>(a7 kvs (aA q)).isSome).map V.bl:=by unfold cT;rw [bw,bw];rfl
 rw [em] at eD;have mF:eG Hc n L C rs:=CA.but (fun b o ne _ e=>kc _ _ ne e) (.inr ⟨ob,eC⟩);have G8:=kc _ _ (Ne.symm CT) eT;refine ⟨D,_,rfl,.of eD,_,rfl,?_⟩;rw [List.all_map];by_cases hJ:((ar n).all (id ∘ fun q=>(a7 kvs (aA q)).isSome))=true
 rotate_left
 ·have hf:((ar n).all (id ∘ fun q=>(a7 kvs (aA q)).isSome))=false:=by
   cases z:(ar n).all (id ∘ fun q=>(a7 kvs (aA q)).isSome) with
   | false=>rfl
   | true=>exact absurd z hJ
  rw [hf];refine qY ?_;refine kk _ _ kc mF fun d' _=>?_;unfold nI;rw [show ((ar n).all fun q=>(a7 kvs (aA q)).isSome)=false from hf,ua];rfl
 rw [hJ];have hh:nI n kvs=true:=by unfold nI;rw [bV hl,show ((ar n).all fun q=>(a7 kvs (aA q)).isSome)=true from hJ];rfl
 have hW:∀q,q∈ar n→a7 kvs (aA q)=some (.int (kW kvs q)):=fun q hq=>TD.val (iY.mp hJ q hq);refine iH ?_;dsimp only [kh];refine di fun _ iV=>?_;refine ⟨_,rfl,C,_,rfl,.inr ⟨ob,eC,fun ko=>?_⟩⟩;have xk:∀(i:Nat) (x:V),(keysOf ob)[i]?=some x→∃q b,(ar n)[i]?=some q∧q∈ar n∧x=.ref b∧Hc b=some (.tup (q.map fun k:Nat=>V.int (k:Int))):=fun i x hx=>by
  have hi:i<(ar n).length:=by rw [←lr,←ko.1];exact (bx.mp hx).1
  obtain ⟨b,e,eb⟩:=ko.2 i x (aA (ar n)[i],V.ref (rs (ar n)[i])) hx (by unfold cT;rw [bP,bg hi];rfl)
  exact ⟨_,b,bg hi,cB hi,e,by rw [eb];unfold aA;rw [bw];rfl⟩
 refine Wg (fun i σ Hx=>∃(v3 v4 v5:Option V),σ=[some (.ref C),some (.ref To),some (.int d),v3,v4,v5]∧Hx=Hc∧∀q∈(ar n).take i,FO n L (kW kvs) q) ⟨_,_,_,rfl,rfl,fun q hq=>by cases hq⟩ (fun i σ Hx _ ⟨_,_,_,_,e,_⟩=>by rw [e];exact eC) ?_ ?_
 ·rintro i x σ Hx hi hx ⟨v3,v4,v5,rfl,rfl,hq⟩
  obtain ⟨q,b,fL,qm,rfl,eb⟩:=xk i x hx;dsimp only [aP];have tk:(ar n).take (i+1)=(ar n).take i++[q]:=by rw [iZ,fL];rfl
  obtain ⟨ys,ez,RA⟩:=mF.2 q qm;have OC:Hx b=some (.tup ((aA q).map kV)):=by rw [eb];unfold aA;rw [bw];rfl
  obtain ⟨m1,m2⟩:=cq.mp qm;refine ⟨_,rfl,_,rfl,C,.ref (rs q),rfl,(show some (V.ref (rs q))=a7 (cT rs (ar n)) (aA q) from (Bw rs qm).symm)▸.inr ⟨_,aA q,b,.inr ⟨_,eC⟩,rfl,OC,rfl⟩,rs q,rfl,⟨_,.of ez⟩,?_⟩;refine jI (K:=K) (a:=rs q) (xs:=ys) (fun j σ Hy=>∃(v4 v5:Option V),σ=[some (.ref C),some (.ref To),some (.int d),some (.ref b),v4,v5]∧Hy=Hx∧∀p∈(aQ n q).take j,¬bW n L q p+kW kvs (aV q p)<kW kvs q) ⟨_,_,rfl,rfl,fun p hp=>by cases hp⟩ (fun j σ Hy _ ⟨_,_,_,e,_⟩=>by rw [e];exact .of ez) ?_ ?_
  ·rintro j y σ Hy hy ⟨v4,v5,rfl,rfl,hp⟩
   have hj:j<(aQ n q).length:=by rw [←RA.1];exact (bx.mp hy).1
   have ep:(aQ n q)[j]?=some (aQ n q)[j]:=bg hj;have tk:(aQ n q).take (j+1)=(aQ n q).take j++[(aQ n q)[j]]:=by rw [iZ,ep];rfl
   obtain ⟨tt,b2,rfl,et,nJ⟩:=RA.2 j y _ hy ep;have pl:=cB hj;generalize (aQ n q)[j]=p at et nJ ep tk pl;obtain ⟨p1,p2⟩:=cG.mp pl;have pn:=cu.mp p1;have pq:p∉q:=by simpa using p2
   have im:aV q p∈ar n:=cq.mpr ⟨nE m1 pq,fun x hx=>by
    rcases jW.mp hx with rfl | hx;·exact pn
    ·exact m2 x hx⟩
   refine ⟨tt,_,rfl,.of et,rfl,_,_,rfl,_,_,rfl,rfl,?_⟩;refine ⟨_,rfl,_,rfl,To,_,rfl,hW q qm▸dE.t (k:=aA q) G8 OC,_,rfl,_,rfl,_,rfl,To,_,rfl,hW _ im▸dE.t (k:=aA (aV q p)) G8 (by rw [nJ];unfold aA;rw [bw];rfl),_,_,rfl,rfl,_,_,rfl,rfl,_,rfl,bZ (fun hb=>?_) (fun hb=>?_)⟩
   ·refine kk _ _ kc mF fun d' _=>?_
    rw [WS qm fun z=>z p pl (fP hb),ua]
   ·refine ⟨_,_,rfl,rfl,fun r hr=>?_⟩
    rw [tk] at hr;rcases cH.mp hr with hr | hr;·exact hp r hr
    ·rw [bY.mp hr]
     exact fun z=>hb (bV z)
  ·rintro σ Hy ⟨v4,v5,rfl,rfl,hp⟩
   refine ⟨_,_,_,rfl,rfl,fun r hr=>?_⟩;rw [tk] at hr;rcases cH.mp hr with hr | hr;·exact hq r hr
   ·rw [bY.mp hr]
    intro p ja;exact hp p (by rw [RA.1,gh];exact ja)
 ·rintro σ Hx ⟨v3,v4,v5,rfl,rfl,hq⟩
  rw [lr,gh] at hq;refine iV _ _ ?_;have l0:1≤(ar n).length:=by rw [kT];exact Nat.one_le_two_pow
  refine uU ⟨_,rfl,_,rfl,C,_,rfl,.inr ⟨ob,eC⟩,by lia,fun l bs nl kb=>?_⟩
  obtain ⟨v,hv⟩:∃v,bs[bs.length-1]?=some v:=⟨bs[bs.length-1]'(by rw [kb.1,lr];lia),bg _⟩
  obtain ⟨b,rfl,eb⟩:=kb.2 _ v (aA (List.range n),V.ref (rs (List.range n))) hv (by rw [kb.1,lr];unfold cT;rw [bP,Mr];rfl)
  have sl:ao Hx (upd Hx l (.lst bs)):=aH nl;have G_:=sl _ _ G8;have OD:=sl _ _ eb;have C3:eG (upd Hx l (.lst bs)) n L C rs:=mF.but (fun b o ne _ e=>sl _ _ e) (.inr ⟨ob,sl _ _ eC⟩);have el:upd Hx l (.lst bs) l=some (.lst bs):=au;have kl:∀b o,b≠C→H b=some o→upd Hx l (.lst bs) b=some o:=fun b o ne e=>sl _ _ (kc b o ne e);generalize upd Hx l (.lst bs)=H5 at sl G_ OD C3 el kl ⊢;have rm:List.range n∈ar n:=cq.mpr ⟨ve n,fun x hx=>cu.mp hx⟩;refine ⟨_,rfl,l,bs,-1,_,rfl,rfl,.of el,K7 (by rw [kb.1,lr];exact l0) hv,To,_,rfl,hW _ rm▸dE.t (k:=aA (List.range n)) G_ OD,_,_,rfl,rfl,_,rfl,bZ (fun hb=>?_) (fun hb=>?_)⟩
  ·refine ⟨_,rfl,bG _,fun e0 qh=>?_⟩
   have s5:ao H5 (upd H5 e0 (.tup [])):=aH qh;refine ⟨To,_,rfl,hW [] (qa n)▸dE.t (k:=aA []) (s5 _ _ G_) au,_,rfl,rfl,?_⟩;refine kk _ _ (fun b o ne e=>s5 _ _ (kl b o ne e)) (C3.but (fun b o ne _ e=>s5 _ _ e) (C3.1.imp (fun e=>s5 _ _ e) fun⟨o,e⟩=>⟨o,s5 _ _ e⟩)) fun d' e=>?_;subst e;rw [hh,Ms hq,show decide (kW kvs (List.range n)≤0)=true from hb,jh];rfl
  ·refine kk _ _ kl C3 fun d' e=>?_
   rw [hh,Ms hq,show decide (kW kvs (List.range n)≤0)=false from ub.mpr hb];rfl
theorem Y3:b8 ["_law_pen","_law_costs","_law_due","_law_found","_law_some","_law_part","_law_way","_law_other","_law_wide","_law_less"] ["_law_pen","_law_costs","_law_due"] (bA Ck):=cL
theorem Y4(T:Txt K mg t):bQ P w K mg base cV 4 t.tE t.wb ["_law_pen","_law_costs","_law_due"] (WX K):=by
 have S:=Y3;have qq:=mE (P:=P) (w:=w) (base:=base) T;refine T.wX.dX S (fun _ _ _ _ H _ _ _ hr h=>?_);obtain ⟨P0,a,C,U,ns,n,L,rs,uk,rfl,pc,hS,n1,n5,CA,rp,UC,eU,TU,hU,lU,kk⟩:=h;have iy:=hr.units;have tS:=fg (gJ (show 1≤64 by decide) _) hr.units
 have hu:=fg (gJ (show 1≤64 by decide) _) hr.units
 refine ⟨_,(aD (putL 3 S.nd (gu FL rfl T.Cs boot_dict (ai (pv 2) aq)))
  (aD (putL 4 S.nd (gu (L6 rfl) rfl T.oP boot_list (ai (pv 1) aq)))
  (aD (putL 5 S.nd (bN dv (pv 4) (a8 qq hr T.gf T.eJ.kp T.gc bR (ai (pv 0) (ai (cI jN rfl T.fN fS (ai (pv 4) aq)) aq)))))
  (aD (putL 6 S.nd (a8 qq hr T.gf T.eJ.kp T.gc bR (ai (pv 0) (ai aF aq))))
  (aD (cm (b5 d6 (pv 6) aF) (aI (gF hu (pv 3) (pv 5) (bh fD (fK hu (pv 3) (pv 5) (fun _ _=>rfl)) aF) rfl)) ck)
  (aD (cm (b5 d6 (pv 6) aF) (aI (gF hu (pv 3) (bN dv (pv 4) (DN DQ aF)) (bh lK (a8 qq hr T.gf T.eJ.kp T.gc bR (ai (pv 0) (ai aF aq))) aF) rfl)) ck)
  (aD (cm (b5 d6 (pv 6) aF) (aI (gF hu (pv 3) (d7 aq) (bh fD (bh lK (fK hu (pv 3) (d7 aq) (fun _ _=>rfl)) aF) (bh i_ aF (a8 qq hr T.gf T.eJ.kp T.gc bR (ai (pv 0) (ai aF aq))))) rfl)) ck)
  (aD (cm (b5 d6 (pv 6) aF) (aI (gr (FN hu (pv 3) (pv 5) ⟨rfl,rfl,rfl,rfl⟩))) ck)
  (aD (cm (b5 d6 (pv 6) aF) (aI (gF hu (pv 3) (d7 (ai aF (ai aF aq))) aF rfl)) ck)
  (aD (cm (b5 d6 (pv 6) aF) (aD (gr (FN hu (pv 3) (pv 5) ⟨rfl,rfl,rfl,rfl⟩))
  (aI (gF hu (pv 3) (d7 (ai aF (ai aF aq))) aF rfl))) ck)
  (aD (cm (b5 d6 (pv 6) aF) (aI (dN dB rfl (dM (QA QM (pv 4) (Qy aF) Qx)) (cy (i:=7) S.nd rfl (Or.inl rfl))
   (aI (gF hu (pv 3) (pv 7) (bh fD (fK hu (pv 3) (pv 7) (fun _ _=>rfl)) (a8 qq hr T.gf T.eJ.kp T.gc bR (ai (pv 0) (ai aF aq)))) rfl)))) ck)
  (aD (cm (b5 d6 (pv 6) aF) (aI (dN dB rfl (dM (pv 4)) (cy (i:=7) S.nd rfl (Or.inl rfl))
   (aI (gF hu (pv 3) (pv 7) (bh lK (fK hu (pv 3) (pv 7) (fun _ _=>rfl)) aF) rfl)))) ck)
  (aD (cm (b5 d6 (pv 6) aF) (aI (gF hu (pv 3) (pv 5) (bh lK (bh lK (fK hu (pv 3) (pv 5) (fun _ _=>rfl)) aF) (a8 qq hr T.gf T.eJ.kp T.gc bR (ai (pv 0) (ai aF aq)))) rfl)) ck)
  (aD (ym (i0:=8) (N:=["_law_one"]) (ρ:=(fun σ=>[])) (fX [] rfl) rfl S.nd rfl (Or.inl rfl) (dM (pv 4)) (fun _ _ _=>(.one (b5 oi (cI (Es (K:=K)) rfl T.fN fS (ai (pv 0) aq)) aF))) (fun _ _ _=>(pv 0)))
  (aD (cm (PW.pt (pw_and (b5 d6 (pv 6) aF) (pw_and1 (b5 (ET iy) (pv 8) (eR aq))))) (aD (putL 5 S.nd (bN dv (pv 8) (a8 qq hr T.gf T.eJ.kp T.gc bR (ai (pv 0) (ai (cI jN rfl T.fN fS (ai (pv 8) aq)) aq)))))
  (aI (gF hu (pv 3) (WM (pv 5) (DN DQ aF)) (FN hu (pv 3) (pv 5) ⟨rfl,rfl,rfl,rfl⟩) rfl))) ck)
  (aD (cm (pL DZ (pv 6) (d7 (ai aF (ai aF aq))) rfl) (aI (dN dB rfl (dM (pv 4)) (cy (i:=7) S.nd rfl (Or.inl rfl))
   (aD (putL 9 S.nd (gu FL rfl T.Cs boot_dict (ai (pv 3) aq)))
  (aD (gF hu (pv 9) (pv 7) (bh lK (bh lK (fK hu (pv 9) (pv 7) (fun _ _=>rfl)) aF) (a8 qq hr T.gf T.eJ.kp T.gc bR (ai (pv 0) (ai aF aq)))) rfl)
  (aI (cm (pF (a8 (OB T) hr T.Gf T.tM.kp T.Ge bR (ai (pv 1) (ai (pv 9) (ai (fK hu (pv 2) (d7 aq) (fun _ _=>rfl)) aq))))) (aI (putL 3 S.nd (pv 9))) ck)))))) ck)
  (aI (bX (pv 3))))))))))))))))))),?_⟩
 have lr:(cT rs (ar n)).length=(ar n).length:=by unfold cT;rw [aG]
 have Y5:(ar n).length≤32:=by rw [kT];exact a9 (mH (by decide) n5) (by decide)
 have p1:1≤(ar n).length:=by rw [kT];exact Nat.one_le_two_pow
 have C4:uk≠[]:=fun z=>by have:=hU [] (qa n);rw [z] at this;cases this
 refine cW (fj ⟨_,rfl,U,uk,rfl,.inl eU,C4,TU.ok,fun F nF=>?_⟩);have s1:ao H (upd H F (.dT uk)):=aH nF;have Hi:upd H F (.dT uk) F=some (.dT uk):=au;generalize upd H F (.dT uk)=H1 at s1 Hi ⊢;have C5:eG H1 n L C rs:=CA.but (fun b o _ _ e=>s1 _ _ e) (CA.1.imp (fun e=>s1 _ _ e) fun⟨o,e⟩=>⟨o,s1 _ _ e⟩);have FC:F≠C:=fun z=>by
  rcases CA.1 with e | ⟨o,e⟩;·rw [←z,nF] at e;cases e
  ·rw [←z,nF] at e;cases e
 dsimp only [aP];refine cW (fj ⟨_,rfl,C,_,rfl,C5.1,by lia,fun Sd bs nS kb=>?_⟩)
 have s2:ao H1 (upd H1 Sd (.lst bs)):=aH nS;have eS:upd H1 Sd (.lst bs) Sd=some (.lst bs):=au;have Hj:eG (upd H1 Sd (.lst bs)) n L C rs:=C5.but (fun b o _ _ e=>s2 _ _ e) (C5.1.imp (fun e=>s2 _ _ e) fun⟨o,e⟩=>⟨o,s2 _ _ e⟩);have tb:e_ (upd H1 Sd (.lst bs)) bs (ar n):=⟨by rw [kb.1,lr],fun i v q h1 h2=>by
  obtain ⟨b,e,eb⟩:=kb.2 i v (aA q,V.ref (rs q)) h1 (by unfold cT;rw [bP,h2];rfl)
  exact ⟨b,e,s2 _ _ (by rw [eb];unfold aA;rw [bw];rfl)⟩⟩
 generalize upd H1 Sd (.lst bs)=H2 at s2 eS Hj tb ⊢;have fb:=s1.trans s2;have B2:dz K H P0 a C ns n L rs Sd bs H2:=⟨⟨fun b o _ _ e=>fb _ _ e,pc.mono fb,ao.seq (aU.of fb) hS,Hj,rp⟩,eS,tb,(pc.mono s1).ne nS⟩;have F2:dm H C F n True uk H2:=⟨s2 _ _ Hi,nF,FC,TU,C4,by lia,fun _=>⟨hU,lU⟩⟩
 clear kb C5 Hj tb eS Hi s1 s2 fb;have lb:bs.length=(ar n).length:=B2.b.1;dsimp only [aP];refine cW (fj ⟨_,rfl,_,rfl,_,rfl,Sd,bs,rfl,.inl (.of B2.s),P0,a,ns,(bs.length:Int),rfl,B2.bu,B2.iU,by lia,qc (by lia) (by lia),fun c H3 c0 c1 s3 p3=>?_⟩)
 obtain ⟨c,rfl⟩:=iA c0;have hc:c<bs.length:=by lia
 have B3:=B2.next s3 p3;have F3:=F2.next s3 B2.bu;have hx:=cB hc;have ex:bs[c]?=some bs[c]:=bg hc;generalize bs[c]=x at hx ex;refine ⟨Sd,bs,(c:Int),x,rfl,rfl,.of B3.s,pN ex,?_⟩;dsimp only [aP];refine cW (fj ⟨_,rfl,P0,a,ns,12,rfl,B3.bu,B3.iU,by decide,qc (by decide) (by decide),fun wy H4 w0 w1 s4 p4=>?_⟩)
 have B4:=B3.next s4 p4;have F4:=F3.next s4 B3.bu;dsimp only [aP];have hW:∀(i:Int),decide (V.int wy=V.int i)=true→wy=i:=fun i h=>by rw [jh] at h;exact fP h
 have hN:∀(i:Int),¬decide (V.int wy=V.int i)=true→wy≠i:=fun i h z=>h (by rw [z];exact bV rfl)
 refine WZ (kZ K H P0 a C U ns n L rs Sd bs x wy (0≤wy)) ⟨F,uk,_,_,_,rfl,B4,F4.weak fun _=>True.intro⟩ fun σ Hc J=>?_;clear B2 B3 B4 F2 F3 F4 s3 p3 s4 p4 nF nS;have zN:∀{Hc:Hp},dz K H P0 a C ns n L rs Sd bs Hc→∃q pb,q∈ar n∧x=.ref pb∧Hc pb=some (.tup (q.map fun k:Nat=>V.int (k:Int))):=fun B=>B.b.mem hx;refine kX (kZ K H P0 a C U ns n L rs Sd bs x wy (1≤wy)) (fun R hR=>?_) (fun σ Hc J=>?_)
 ·obtain ⟨F,kvs,v7,v8,v9,rfl,B,Fd⟩:=J
  obtain ⟨q,pb,hq,rfl,eb⟩:=zN B;refine ⟨_,rfl,rfl,_,rfl,bZ (fun hb=>?_) (fun hb=>hR _ _ ⟨F,kvs,_,_,_,rfl,B,Fd.weak (by lia)⟩)⟩
  have hb:=hW _ hb;refine ⟨_,rfl,_,rfl,F,_,rfl,Fd.val (by lia) hq▸dE.t (k:=aA q) Fd.f (ju eb),_,_,rfl,rfl,_,rfl,_,rfl,F,_,rfl,gE.t (k:=aA q) Fd.f (ju eb) (bS (by have:=Fd.len;lia)),?_⟩
  exact hR _ _ ⟨F,_,_,_,_,rfl,B.put Fd.f Fd.fn Fd.fc,Fd.rZ (vk n5 hq) (by have:=(Fd.held (by lia)).2;lia) (by lia) _⟩
 refine kX (kZ K H P0 a C U ns n L rs Sd bs x wy (2≤wy)) (fun R hR=>?_) (fun σ Hc J=>?_)
 ·obtain ⟨F,kvs,v7,v8,v9,rfl,B,Fd⟩:=J
  refine ⟨_,rfl,rfl,_,rfl,bZ (fun hb=>?_) (fun hb=>hR _ _ ⟨F,kvs,_,_,_,rfl,B,Fd.weak (by lia)⟩)⟩
  have hb:=hW _ hb;refine ⟨_,rfl,P0,a,ns,3,rfl,B.bu,B.iU,by decide,qc (by decide) (by decide),fun c H5 c0 c1 s5 p5=>?_⟩
  have B5:=B.next s5 p5;have F5:=Fd.next s5 B.bu;have el:bs[bs.length-1]?=some (bs[bs.length-1]'(by lia)):=bg (by lia)
  have em:bs[bs.length-1]'(by lia)∈bs:=cB (by lia)
  generalize bs[bs.length-1]'(by lia)=y at el em
  obtain ⟨q,pb,hq,rfl,eb⟩:=B5.b.mem em;refine ⟨_,_,rfl,rfl,_,rfl,_,rfl,_,rfl,Sd,bs,-1,_,rfl,rfl,.of B5.s,K7 (by lia) el,F,_,rfl,gE.t (k:=aA q) F5.f (ju eb) (bS (by have:=Fd.len;lia)),?_⟩
  exact hR _ _ ⟨F,_,_,_,_,rfl,B5.put F5.f F5.fn F5.fc,F5.rZ (vk n5 hq) (by have:=(F5.held (by lia)).2;lia) (by lia) _⟩
 refine kX (kZ K H P0 a C U ns n L rs Sd bs x wy (3≤wy)) (fun R hR=>?_) (fun σ Hc J=>?_)
 ·obtain ⟨F,kvs,v7,v8,v9,rfl,B,Fd⟩:=J
  refine ⟨_,rfl,rfl,_,rfl,bZ (fun hb=>?_) (fun hb=>hR _ _ ⟨F,kvs,_,_,_,rfl,B,Fd.weak (by lia)⟩)⟩
  have hb:=hW _ hb;refine ⟨_,rfl,bG _,fun e0 qh=>?_⟩;have B0:=B.mono (aH (o:=.tup []) qh);have F0:=Fd.mono (aH (o:=.tup []) qh);have OE:upd Hc e0 (.tup []) e0=some (.tup []):=au;generalize upd Hc e0 (.tup [])=H5 at B0 F0 OE ⊢;refine ⟨F,_,rfl,F0.val (by lia) (qa n)▸dE.t (k:=aA []) F0.f OE,_,_,rfl,rfl,_,rfl,P0,a,ns,2,rfl,B0.bu,B0.iU,by decide,qc (by decide) (by decide),fun c H6 c0 c1 s6 p6=>?_⟩
  have B6:=B0.next s6 p6;have F6:=F0.next s6 B0.bu;refine ⟨_,_,rfl,rfl,.inl ⟨by decide,by decide⟩,_,_,rfl,rfl,_,rfl,bG _,fun e1 ne1=>?_⟩
  have B7:=B6.mono (aH (o:=.tup []) ne1);have F7:=F6.mono (aH (o:=.tup []) ne1);have OF:upd H6 e1 (.tup []) e1=some (.tup []):=au;generalize upd H6 e1 (.tup [])=H7 at B7 F7 OF ⊢;refine ⟨F,_,rfl,gE.t (k:=aA []) F7.f OF (bS (by have:=Fd.len;lia)),?_⟩
  exact hR _ _ ⟨F,_,_,_,_,rfl,B7.put F7.f F7.fn F7.fc,F7.rZ (vk n5 (qa n)) (by have:=(F7.held (by lia)).2;lia) (by lia) _⟩
 refine kX (kZ K H P0 a C U ns n L rs Sd bs x wy (4≤wy)) (fun R hR=>?_) (fun σ Hc J=>?_)
 ·obtain ⟨F,kvs,v7,v8,v9,rfl,B,Fd⟩:=J
  obtain ⟨q,pb,hq,rfl,eb⟩:=zN B;refine ⟨_,rfl,rfl,_,rfl,bZ (fun hb=>?_) (fun hb=>hR _ _ ⟨F,kvs,_,_,_,rfl,B,Fd.weak (by lia)⟩)⟩
  have hb:=hW _ hb;refine ⟨_,rfl,F,rfl,.inr ⟨kvs,.inl Fd.f⟩,_,rfl,kvs,aA q,pb,_,Fd.f,rfl,ju eb,(Fd.val (by lia) hq).symm,?_⟩
  exact hR _ _ ⟨F,_,_,_,_,rfl,B.put Fd.f Fd.fn Fd.fc,Fd.FQ (by lia) n1 q (by lia)⟩
 have zz:∀{Hx:Hp} {e:Addr},upd Hx e (.tup [.int 0,.int 0]) e=some (.tup ((aA [0,0]).map kV)):=fun{Hx e}=>au;refine kX (kZ K H P0 a C U ns n L rs Sd bs x wy (5≤wy)) (fun R hR=>?_) (fun σ Hc J=>?_)
 ·obtain ⟨F,kvs,v7,v8,v9,rfl,B,Fd⟩:=J
  refine ⟨_,rfl,rfl,_,rfl,bZ (fun hb=>?_) (fun hb=>hR _ _ ⟨F,kvs,_,_,_,rfl,B,Fd.weak (by lia)⟩)⟩
  have hb:=hW _ hb;refine ⟨_,rfl,by show 2≤sizeLine;decide,fun e ne=>?_⟩
  have B7:=B.mono (aH (o:=.tup [.int 0,.int 0]) ne);have F7:=Fd.mono (aH (o:=.tup [.int 0,.int 0]) ne);refine ⟨F,_,rfl,gE.t (k:=aA [0,0]) F7.f zz (bS (by have:=Fd.len;lia)),?_⟩
  exact hR _ _ ⟨F,_,_,_,_,rfl,B7.put F7.f F7.fn F7.fc,F7.rZ Mq (by have:=(F7.held (by lia)).2;lia) (by lia) _⟩
 refine kX (kZ K H P0 a C U ns n L rs Sd bs x wy (6≤wy)) (fun R hR=>?_) (fun σ Hc J=>?_)
 ·obtain ⟨F,kvs,v7,v8,v9,rfl,B,Fd⟩:=J
  obtain ⟨q,pb,hq,rfl,eb⟩:=zN B;refine ⟨_,rfl,rfl,_,rfl,bZ (fun hb=>?_) (fun hb=>hR _ _ ⟨F,kvs,_,_,_,rfl,B,Fd.weak (by lia)⟩)⟩
  have hb:=hW _ hb;refine cW ⟨_,rfl,F,rfl,.inr ⟨kvs,.inl Fd.f⟩,_,rfl,kvs,aA q,pb,_,Fd.f,rfl,ju eb,(Fd.val (by lia) hq).symm,?_⟩
  have B6:=B.put (kvs':=eE kvs (aA q)) Fd.f Fd.fn Fd.fc;have F6:=Fd.FQ (G':=False) (by lia) n1 q (fun z=>z)
  have l6:(eE kvs (aA q)).length≤39:=by have:=Be kvs (aA q);have:=(Fd.held (by lia)).2;lia
  generalize eE kvs (aA q)=t5 at B6 F6 l6 ⊢;generalize upd Hc F (.dT t5)=H6 at B6 F6 ⊢;refine ⟨_,rfl,by show 2≤sizeLine;decide,fun e ne=>?_⟩
  have B7:=B6.mono (aH (o:=.tup [.int 0,.int 0]) ne);have F7:=F6.mono (aH (o:=.tup [.int 0,.int 0]) ne);refine ⟨F,_,rfl,gE.t (k:=aA [0,0]) F7.f zz (bS (by lia)),?_⟩
  exact hR _ _ ⟨F,_,_,_,_,rfl,B7.put F7.f F7.fn F7.fc,F7.rZ Mq l6 (by lia) _⟩
 refine kX (kZ K H P0 a C U ns n L rs Sd bs x wy (7≤wy)) (fun R hR=>?_) (fun σ Hc J=>?_)
 ·obtain ⟨F,kvs,v7,v8,v9,rfl,B,Fd⟩:=J
  refine ⟨_,rfl,rfl,_,rfl,bZ (fun hb=>?_) (fun hb=>hR _ _ ⟨F,kvs,_,_,_,rfl,B,Fd.weak (by lia)⟩)⟩
  have hb:=hW _ hb;refine ⟨_,rfl,1,rfl,Sd,bs,rfl,.of B.s,fun l nl=>⟨l,rfl,⟨_,.of au⟩,?_⟩⟩;have B1:=B.mono (aH (o:=.lst (jL bs (some 1) none)) nl);have F1:=(Fd.mono (aH (o:=.lst (jL bs (some 1) none)) nl)).weak (G':=True) (fun _=>by lia)
  have el:upd Hc l (.lst (jL bs (some 1) none)) l=some (.lst (jL bs (some 1) none)):=au;have lP:l≠P0:=B.bu.ne nl;have lF:l≠F:=fun z=>by rw [z,Fd.f] at nl;cases nl
  generalize upd Hc l (.lst (jL bs (some 1) none))=H1 at B1 F1 el ⊢;refine jI (K:=K) (a:=l) (xs:=jL bs (some 1) none) (fun i σ Hx=>∃(kvs:List (List Key×V)) (v7:Option V),σ=[some (.ref P0),some (.ref C),some (.ref U),some (.ref F),some (.ref Sd),some x,some (.int wy),v7,v8,v9]∧dz K H P0 a C ns n L rs Sd bs Hx∧dm H C F n True kvs Hx∧Hx l=some (.lst (jL bs (some 1) none))) ⟨kvs,_,rfl,B1,F1,el⟩ (fun i σ Hx _ ⟨_,_,_,_,_,e⟩=>.of e) ?_ ?_
  ·rintro i y σ Hx hy ⟨kvs,v7,rfl,Bx,Fx,ex⟩
   obtain ⟨q,b,hq,rfl,eb⟩:=Bx.b.mem (WY (iz hy));dsimp only [aP];refine ⟨_,rfl,_,rfl,F,_,rfl,Fx.val True.intro hq▸dE.t (k:=aA q) Fx.f (ju eb),_,rfl,P0,a,ns,3,rfl,Bx.bu,Bx.iU,by decide,qc (by decide) (by decide),fun c H5 c0 c1 s5 p5=>?_⟩
   have B5:=Bx.next s5 p5;have F5:=Fx.next s5 Bx.bu;refine ⟨_,_,rfl,rfl,_,rfl,_,rfl,F,_,rfl,gE.t (k:=aA q) F5.f (ju (s5.at (bt.kY Bx.bu eb fun _ z=>by cases z) eb)) (bS (by have:=F5.len;lia)),?_⟩
   exact ⟨_,_,rfl,B5.put F5.f F5.fn F5.fc,F5.FP True.intro n5 hq _,(aM lF).trans (s5.at lP ex)⟩
  ·rintro σ Hx ⟨kvs,v7,rfl,Bx,Fx,ex⟩
   exact hR _ _ ⟨F,kvs,_,_,_,rfl,Bx,Fx.weak fun _=>True.intro⟩
 refine kX (kZ K H P0 a C U ns n L rs Sd bs x wy (8≤wy)) (fun R hR=>?_) (fun σ Hc J=>?_)
 ·obtain ⟨F,kvs,v7,v8,v9,rfl,B,Fd⟩:=J
  refine ⟨_,rfl,rfl,_,rfl,bZ (fun hb=>?_) (fun hb=>hR _ _ ⟨F,kvs,_,_,_,rfl,B,Fd.weak (by lia)⟩)⟩
  have hb:=hW _ hb;refine ⟨_,rfl,Sd,rfl,⟨_,.of B.s⟩,?_⟩;refine jI (K:=K) (a:=Sd) (xs:=bs) (fun i σ Hx=>∃(kvs:List (List Key×V)) (v7:Option V),σ=[some (.ref P0),some (.ref C),some (.ref U),some (.ref F),some (.ref Sd),some x,some (.int wy),v7,v8,v9]∧dz K H P0 a C ns n L rs Sd bs Hx∧dm H C F n True kvs Hx) ⟨kvs,_,rfl,B,Fd.weak (fun _=>by lia)⟩ (fun i σ Hx _ ⟨_,_,_,Bx,_⟩=>.of Bx.s) ?_ ?_
  ·rintro i y σ Hx hy ⟨kvs,v7,rfl,Bx,Fx⟩
   obtain ⟨q,b,hq,rfl,eb⟩:=Bx.b.mem (iz hy);dsimp only [aP];refine ⟨_,rfl,_,rfl,F,_,rfl,Fx.val True.intro hq▸dE.t (k:=aA q) Fx.f (ju eb),_,_,rfl,rfl,_,rfl,_,rfl,F,_,rfl,gE.t (k:=aA q) Fx.f (ju eb) (bS (by have:=Fx.len;lia)),?_⟩
   exact ⟨_,_,rfl,Bx.put Fx.f Fx.fn Fx.fc,Fx.FP True.intro n5 hq _⟩
  ·rintro σ Hx ⟨kvs,v7,rfl,Bx,Fx⟩
   exact hR _ _ ⟨F,kvs,_,_,_,rfl,Bx,Fx.weak fun _=>True.intro⟩
 refine kX (kZ K H P0 a C U ns n L rs Sd bs x wy (9≤wy)) (fun R hR=>?_) (fun σ Hc J=>?_)
 ·obtain ⟨F,kvs,v7,v8,v9,rfl,B,Fd⟩:=J
  obtain ⟨q,pb,hq,rfl,eb⟩:=zN B;refine ⟨_,rfl,rfl,_,rfl,bZ (fun hb=>?_) (fun hb=>hR _ _ ⟨F,kvs,_,_,_,rfl,B,Fd.weak (by lia)⟩)⟩
  have hb:=hW _ hb;refine ⟨_,rfl,_,rfl,F,_,rfl,Fd.val (by lia) hq▸dE.t (k:=aA q) Fd.f (ju eb),_,_,rfl,rfl,_,rfl,P0,a,ns,5,rfl,B.bu,B.iU,by decide,qc (by decide) (by decide),fun c H5 c0 c1 s5 p5=>?_⟩
  have B5:=B.next s5 p5;have F5:=Fd.next s5 B.bu;refine ⟨_,_,rfl,rfl,_,rfl,_,rfl,F,_,rfl,gE.t (k:=aA q) F5.f (ju (s5.at (bt.kY B.bu eb fun _ z=>by cases z) eb)) (bS (by have:=Fd.len;lia)),?_⟩
  exact hR _ _ ⟨F,_,_,_,_,rfl,B5.put F5.f F5.fn F5.fc,F5.rZ (vk n5 hq) (by have:=(Fd.held (by lia)).2;lia) (by lia) _⟩
 obtain ⟨F,kvs,v7,v8,v9,rfl,B,Fd⟩:=J;refine cW (fj (Fg (xs:=bs) (vn Hc) (fun R h=>⟨_,rfl,Sd,rfl,⟨_,.of B.s⟩,h _ _ (ao.refl _) (kC (.of B.s))⟩) (bS (by lia)) (fun y hy Hx R sx hR=>?_) (fun y Hx R h=>⟨_,rfl,h⟩) fun D H5 nD s5 eD=>?_))
 ·obtain ⟨q,b,hq,rfl,eb⟩:=B.b.mem hy
  rw [Mv eb] at hR;refine ⟨_,rfl,b,_,rfl,.inr (.of (sx _ _ eb)),_,_,rfl,rfl,_,rfl,?_⟩;rw [show decide ((1:Int)<((q.map fun k:Nat=>V.int (k:Int)).length:Int))=decide (1<(q.map fun k:Nat=>V.int (k:Int)).length) from qB.mpr (by lia)]
  exact hR
 have B5:=B.mono s5;have F5:=Fd.mono s5;have DP:D≠P0:=B.bu.ne nD;have DF:D≠F:=fun z=>by rw [z,Fd.f] at nD;cases nD
 have hw:∀y∈bs.filter (vn Hc),∃q b,q∈ar n∧1<q.length∧y=.ref b∧H5 b=some (.tup (q.map fun k:Nat=>V.int (k:Int))):=fun y hy=>by obtain ⟨h1,h2⟩:=cG.mp hy;obtain ⟨q,b,hq,rfl,eb⟩:=B.b.mem h1;rw [Mv eb,aG] at h2;exact ⟨q,b,hq,fP h2,rfl,s5 _ _ eb⟩
 have lw:(bs.filter (vn Hc)).length≤32:=a9 (j9 _ _) (by lia)
 generalize bs.filter (vn Hc)=ws at eD hw lw;clear B Fd s5 nD;dsimp only [aP];refine kX (fun σ Hx=>∃x',kZ K H P0 a C U ns n L rs Sd bs x' wy (9≤wy∧wy≠11) σ Hx) (fun R hR=>?_) (fun σ Hc J=>?_)
 ·refine ⟨_,rfl,rfl,_,rfl,bZ (fun hb=>?_) (fun hb=>iH (hR _ _ ⟨_,F,kvs,_,_,_,rfl,B5,F5.weak (fun z=>z.1)⟩))⟩
  have hb:=hW _ hb;refine ⟨_,rfl,bG _,fun le qi=>?_⟩;have B6:=B5.mono (aH (o:=.lst []) qi);have F6:=F5.mono (aH (o:=.lst []) qi);have qk:=aH (o:=.lst []) qi _ _ eD;have OG:∀y∈ws,∃q b,q∈ar n∧1<q.length∧y=.ref b∧upd H5 le (.lst []) b=some (.tup (q.map fun k:Nat=>V.int (k:Int))):=fun y hy=>by obtain ⟨q,b,h1,h2,h3,h4⟩:=hw y hy;exact ⟨q,b,h1,h2,h3,aH (o:=.lst []) qi _ _ h4⟩
  have C1:upd H5 le (.lst []) le=some (.lst []):=au;generalize upd H5 le (.lst [])=H6 at B6 F6 qk OG C1 ⊢;refine ⟨D,le,ws,rfl,rfl,.of qk,C1,_,rfl,bZ (fun hz=>?_) (fun hz=>hR _ _ ⟨_,F,kvs,_,_,_,rfl,B6,F6.weak (fun z=>z.1)⟩)⟩;have w1:1≤ws.length:=by
   cases ws with
   | nil=>cases hz
   | cons=>simp
  refine cW (fj ⟨_,rfl,_,rfl,_,rfl,D,ws,rfl,.inl (.of qk),P0,a,ns,(ws.length:Int),rfl,B6.bu,B6.iU,by lia,qc (by lia) (by lia),fun c H7 c0 c1 s7 p7=>?_⟩)
  obtain ⟨c,rfl⟩:=iA c0;have hc:c<ws.length:=by lia
  have B7:=B6.next s7 p7;have F7:=F6.next s7 B6.bu;have hy:=cB hc;have ey:ws[c]?=some ws[c]:=bg hc;generalize ws[c]=y at hy ey;obtain ⟨q,b,hq,hl,rfl,eb⟩:=OG y hy;have tZ:=s7.at (bt.kY B6.bu eb fun _ z=>by cases z) eb
  refine ⟨D,ws,(c:Int),_,rfl,rfl,.of (s7.at DP qk),pN ey,?_⟩;dsimp only [aP];refine ⟨_,rfl,F,rfl,.inr ⟨kvs,.inl F7.f⟩,_,rfl,kvs,aA q,b,_,F7.f,rfl,ju tZ,(F7.val (by lia) hq).symm,?_⟩
  have B8:=B7.put (kvs':=eE kvs (aA q)) F7.f F7.fn F7.fc;have F8:=F7.FQ (G':=False) (by lia) n1 q (fun z=>z)
  have l8:(eE kvs (aA q)).length≤39:=by have:=Be kvs (aA q);have:=(F7.held (by lia)).2;lia
  have Hk:upd H7 F (.dT (eE kvs (aA q))) b=some (.tup (q.map fun k:Nat=>V.int (k:Int))):=(aM (fun z=>by rw [z,F7.f] at tZ;cases tZ)).trans tZ
  generalize eE kvs (aA q)=t5 at B8 F8 l8 Hk ⊢;generalize upd H7 F (.dT t5)=H8 at B8 F8 Hk ⊢;refine ⟨_,rfl,_,rfl,_,rfl,rfl,b,_,rfl,Hk,fun p np=>?_⟩;have B9:=B8.mono (aH (o:=.tup (q.map fun k:Nat=>V.int (k:Int)).reverse) np);have F9:=F8.mono (aH (o:=.tup (q.map fun k:Nat=>V.int (k:Int)).reverse) np);refine ⟨F,_,rfl,gE.t (k:=aA q.reverse) F9.f (W0 au) (bS (by lia)),?_⟩
  exact hR _ _ ⟨_,F,_,_,_,_,rfl,B9.put F9.f F9.fn F9.fc,F9.rZ (WQ n5 hq hl) l8 (by lia) _⟩
 clear zN;obtain ⟨x',F,kvs,v7,v8,v9,rfl,B,Fd⟩:=J;refine kX (fun σ Hx=>∃x',kZ K H P0 a C U ns n L rs Sd bs x' wy False σ Hx) (fun R hR=>?_) (fun σ Hc J=>?_)
 ·refine ⟨_,rfl,by show 2≤sizeLine;decide,fun tp jx=>⟨tp,[.int 9,.int 10],rfl,.inr (.of au),rfl,rfl,_,rfl,bZ (fun hb=>?_) (fun hb=>hR _ _ ⟨_,F,kvs,_,_,_,rfl,B.mono (aH jx),(Fd.mono (aH jx)).weak False.elim⟩)⟩⟩
  have hb:wy=9∨wy=10:=by have hb:((decide ((9:Int)=wy)) || ((decide ((10:Int)=wy)) || false))=true:=hb;rw [Bool.or_false,Bool.or_eq_true,fR,fR] at hb;lia
  have B1:=B.mono (aH (o:=.tup [.int 9,.int 10]) jx);have F1:=(Fd.mono (aH (o:=.tup [.int 9,.int 10]) jx)).weak (G':=True) (fun _=>by lia)
  generalize upd Hc tp (.tup [.int 9,.int 10])=H1 at B1 F1 ⊢;have UP:U≠P0:=bt.kY pc eU fun _ z=>by cases z
  refine ⟨_,rfl,Sd,rfl,⟨_,.of B1.s⟩,?_⟩;refine jI (K:=K) (a:=Sd) (xs:=bs) (fun i σ Hx=>∃(F:Addr) (kvs:List (List Key×V)) (v7 v9:Option V),σ=[some (.ref P0),some (.ref C),some (.ref U),some (.ref F),some (.ref Sd),some x',some (.int wy),v7,v8,v9]∧dz K H P0 a C ns n L rs Sd bs Hx∧dm H C F n True kvs Hx) ⟨F,kvs,_,_,rfl,B1,F1⟩ (fun i σ Hx _ ⟨_,_,_,_,_,Bx,_⟩=>.of Bx.s) ?_ ?_
  ·clear B Fd B1 F1
   rintro i y σ Hx hy ⟨F,kvs,v7,v9,rfl,Bx,Fx⟩;obtain ⟨q,b,hq,rfl,eb⟩:=Bx.b.mem (iz hy);dsimp only [aP];refine cW (fj ⟨_,rfl,F,kvs,rfl,.inl Fx.f,Fx.ne,Fx.told.ok,fun D nD=>?_⟩);have B2:=Bx.mono (aH (o:=.dT kvs) nD);have F2:=Fx.mono (aH (o:=.dT kvs) nD);have G2:=Fx.copy Bx nD;have FD:F≠D:=fun z=>by rw [←z,Fx.f] at nD;cases nD
   have nJ:=aH (o:=.dT kvs) nD _ _ eb;generalize upd Hx D (.dT kvs)=H2 at B2 F2 G2 nJ ⊢;dsimp only [aP];refine cW ⟨_,rfl,_,rfl,D,_,rfl,G2.val True.intro hq▸dE.t (k:=aA q) G2.f (ju nJ),_,_,rfl,rfl,_,rfl,P0,a,ns,3,rfl,B2.bu,B2.iU,by decide,qc (by decide) (by decide),fun c H5 c0 c1 s5 p5=>?_⟩
   have B5:=B2.next s5 p5;have F5:=F2.next s5 B2.bu;have G5:=G2.next s5 B2.bu;refine ⟨_,_,rfl,rfl,_,rfl,_,rfl,D,_,rfl,gE.t (k:=aA q) G5.f (ju (s5.at (bt.kY B2.bu nJ fun _ z=>by cases z) nJ)) (bS (by have:=G5.len;lia)),?_⟩
   dsimp only;generalize kW kvs q-1-c=nw;have B6:=B5.put (kvs':=putK kvs (aA q) (.int nw)) G5.f G5.fn G5.fc;have F6:=F5.at (H':=upd H5 D (.dT (putK kvs (aA q) (.int nw)))) ((aM FD).trans F5.f);have G6:=G5.FP True.intro n5 hq nw;generalize putK kvs (aA q) (.int nw)=t5 at B6 F6 G6 ⊢;generalize upd H5 D (.dT t5)=H6 at B6 F6 G6 ⊢;refine ⟨_,rfl,_,rfl,_,rfl,bG _,fun e ne=>?_⟩;have B7:=B6.mono (aH (o:=.tup []) ne);have F7:=F6.mono (aH (o:=.tup []) ne);have G7:=G6.mono (aH (o:=.tup []) ne);have e7:upd H6 e (.tup []) e=some (.tup []):=au;generalize upd H6 e (.tup [])=H7 at B7 F7 G7 e7 ⊢;refine ⟨U,_,rfl,(TU.val (hU [] (qa n)))▸dE.t (k:=aA []) (B7.kp U _ UP UC eU) e7,n,L,C,D,rs,t5,_,rfl,by lia,B7.cost,Ne.symm G7.fc,G7.f,by have:=G7.len;lia,G7.told,fun H9 bb k9 c9 _=>⟨_,rfl,?_⟩⟩
   have B9:=B7.shown k9 c9;have F9:=F7.at (k9 _ _ F7.fc F7.f);have G9:=G7.at (k9 _ _ G7.fc G7.f);cases bb with
   | true=>refine qY ?_;exact ⟨_,rfl,D,t5,_,_,rfl,B9,G9⟩
   | false=>refine iH ?_;exact ⟨F,kvs,_,_,rfl,B9,F9⟩
  ·rintro σ Hx ⟨F,kvs,v7,v9,rfl,Bx,Fx⟩
   exact hR _ _ ⟨_,F,kvs,_,_,_,rfl,Bx,Fx.weak False.elim⟩
 ·obtain ⟨x',F,kvs,v7,v8,v9,rfl,B,Fd⟩:=J
  refine ⟨_,rfl,?_⟩;exact kk Hc F kvs B.kp B.bu B.cost Fd.fn Fd.fc Fd.f Fd.told Fd.ne (by have:=Fd.len;lia)
theorem Y6:b8 ["script","_law_pen","_law_k","_law_shape","_law_costs","_law_due","_law_turn","_law_told","_law_any","_law_order","_law_handed","_law_line","_law_found"] ["script"] (bA Cn):=cL
theorem Y7(T:Txt K mg t):bQ P w K mg base cV 12 t.qd t.tG ["script"] (AR K):=by
 have S:=Y6;refine T.wY.dX S (fun _ A _ _ H _ _ _ hr h=>?_);obtain ⟨a,ns,rfl,hS,hlen,kQ⟩:=h;have iy:=hr.units;have hu:=fg (gJ (show 1≤64 by decide) _) hr.units
 refine ⟨_,(aD (putL 1 S.nd (eR (ai (pv 0) (ai aF (ai aF aq)))))
  (aD (dN dB rfl (mV rfl T.gU (ai aF aq)) (cy (i:=2) S.nd rfl (Or.inl rfl))
   (aD (putL 3 S.nd (a8 (Yn T) hr T.M9 T.wL.kp T.M7 bR (ai (pv 1) (ai aF aq))))
  (aD (putL 4 S.nd (a8 (YN T) hr T.Nl T.wU.kp T.Nk bR (ai (pv 3) aq)))
  (aD (putL 5 S.nd (a8 (YX T) hr T.Nn T.wV.kp T.Nm bR (ai (bN gO (pv 3) aF) (ai (pv 4) aq))))
  (aI (dN dB rfl (mV rfl T.gU (ai aF aq)) (cy (i:=6) S.nd rfl (Or.inl rfl))
   (aD (putL 7 S.nd (Pq (b5 d6 (pv 6) aF) (pv 5) (a8 (Y4 T) hr T.Nq T.wX.kp T.Np bR (ai (pv 1) (ai (pv 4) (ai (pv 5) aq))))))
  (aD (putL 8 S.nd (a8 (N2 T) hr T.Gd T.tL.kp T.Gb bR (ai (pv 1) (ai (gu (Ej rfl) rfl T.oP boot_list (ai (gu AN rfl T.gU AO (ai (bN gO (pv 3) aF) aq)) aq)) aq))))
  (aI (dN dB rfl (dM (eR (ai (bN gO (a8 (Xx T) hr T.MU T.wC.kp T.MT qZ (ai (pv 3) aq)) aF) (ai (pv 8) aq)))) (cy (i:=9) S.nd rfl (Or.inl rfl))
   (aD (putL 10 S.nd (gu FL rfl T.Cs boot_dict (ai (pv 7) aq)))
  (aD (putL 11 S.nd (gu Jn rfl T.oP boot_list (ai (pv 9) aq)))
  (aD (putL 12 S.nd (a8 (YJ T) hr T.MY T.wH.kp T.MX qZ (ai (pv 3) (ai (pv 11) (ai (pv 10) aq)))))
  (aD (cm (PW.pt (pw_or (uG (pF (cI (AL (K:=K)) rfl T.zf boot_isinstance (ai (pv 12) (ai (An (v:=.ty "bool") rfl T.Gg boot_bool rfl) aq))))) (pw_or (b5 (W2 hu) (pv 10) (pv 7)) (pw_or1 (b5 (R7 iy) (pv 11) (pv 9)))))) (aI (bX hE)) ck)
  (aD (cm (b5 qW (pv 12) (a8 (OB T) hr T.Gf T.tM.kp T.Ge bR (ai (pv 4) (ai (pv 7) (ai (a8 (CL T) hr T.ze T.oO.kp T.zd qZ (ai (pv 3) (ai (pv 9) aq))) aq))))) (aI (bX hE)) ck)
  (aI (cm (PW.pt (pw_and (P4 (pv 12) (fun _=>rfl)) (pw_and1 (b5 Av (a8 (CL T) hr T.ze T.oO.kp T.zd qZ (ai (pv 3) (ai (pv 8) aq))) (a8 (CL T) hr T.ze T.oO.kp T.zd qZ (ai (pv 3) (ai (pv 9) aq))))))) (aI (bX hE)) ck)))))))))))))))))
  (aI (bX hE)))),?_⟩
 refine di fun _ mw=>⟨_,rfl,by show 3≤sizeLine;decide,fun P0 nP=>?_⟩
 refine mw _ _ ?_;have p0:bt (upd H P0 (.lst [.ref a,.int 0,.int 0])) P0 a:=⟨0,0,au,by decide,by decide⟩
 have yY:bz K (er P0 (upd H P0 (.lst [.ref a,.int 0,.int 0]))) a (ns.map V.int):=by rw [JQ];exact ao.seq (fun b o e=>uV (mQ e nP) e) hS
 generalize upd H P0 (.lst [.ref a,.int 0,.int 0])=H1 at p0 yY ⊢
 try dsimp only [aP]
 refine di fun _ iV=>⟨2,rfl,by decide,by decide,?_⟩
 refine pJ (fun i σ Hc=>∃(v2 v3 v4 v5 v6 v7 v8 v9 v10 v11 lh:Option V),σ=[some (.ref a),some (.ref P0),v2,v3,v4,v5,v6,v7,v8,v9,v10,v11,lh]∧aU P0 H1 Hc∧bt Hc P0 a) ⟨_,_,_,_,_,_,_,_,_,_,_,rfl,aU.refl _,p0⟩ ?_ ?_
 ·rintro i σ Hc hi ⟨v2,v3,v4,v5,v6,v7,v8,v9,v10,v11,lh,rfl,sT,pc⟩
  have OH:bz K (er P0 Hc) a (ns.map V.int):=ao.seq sT yY;dsimp only [aP];refine di fun _ tY=>⟨_,rfl,P0,a,ns,5,rfl,pc,OH,by decide,by decide,fun tp n L H2 s2 p2 jx tpP eK ok pw n1 n5=>?_⟩
  refine tY _ _ ?_;have n9:n≤9:=by lia
  have cE:gR n L:=fun p hp=>by have:=ok.lt p hp;exact ⟨this.1,by lia,by lia,this.2.2⟩
  have xf:yQ L:=fun p hp=>by have:=ok.lt p hp;lia
  have eB:L.length≤81:=a9 ok.eB (a9 (Nat.div_le_self _ _) (xS n9 n9));have Hl:dS H2 tp n L:=eK.mono AS
  try dsimp only [aP]
  refine di fun _ zI=>⟨_,rfl,tp,n,L,rfl,Hl,cE,n9,by lia,fun H3 C rs s3 nC GF RD=>?_⟩
  refine zI _ _ ?_;have Hm:=Hl.mono s3;have L3:cf K H3 P0 a C ns n L rs H3:=⟨fun _ _ _ _ e=>e,p2.mono s3,ao.seq (aU.of s3) (ao.seq s2 OH),⟨.inl RD.d,RD.r⟩,fun q hq=>p2.ne (GF q hq)⟩;obtain ⟨lt3,us3,qj,_,_⟩:=id Hm
  try dsimp only [aP]
  refine di fun _ zJ=>⟨_,rfl,tp,_,_,_,rfl,rfl,.of qj,rfl,_,rfl,n,L,C,rs,rfl,n9,L3.cost,fun H4 U qs k4 zL nU eU pq=>?_⟩;refine zJ _ _ ?_;have Ho:=L3.shown k4 zL;have Hq:=L3.shape Ho Hm;have L4:=Ho.base;have UC:U≠C:=fun z=>by
   rcases L3.cost.1 with e | ⟨o,e⟩;·rw [←z,nU] at e;cases e
   ·rw [←z,nU] at e;cases e
  have UP:U≠P0:=bt.kY L4.bu eU fun _ z=>by cases z
  obtain ⟨TU,hU,lU⟩:=WR (W:=wW n L) n5 pq;have Y5:(ar n).length≤32:=by rw [kT];exact a9 (mH (by decide) n5) (by decide)
  have Y8:∀b o,b≠P0→Hc b=some o→H4 b=some o:=fun b o nb e=>by have e2:=s2.at nb e;exact k4 _ _ (fun z=>by rw [z,nC] at e2;cases e2) (s3 _ _ e2)
  have Y9:∀b o,b≠P0→Hc b=some o→b≠C:=fun b o nb e z=>by have e2:=s2.at nb e;rw [z,nC] at e2;cases e2
  generalize wD (wW n L) qs=uk at eU TU hU lU ⊢;clear k4 zL Ho L3 RD Hm Hl eK qj
  try dsimp only [aP]
  refine ⟨5,rfl,by decide,by decide,?_⟩
  refine pJ (fun j σ Hd=>∃(v6 v7 v8 v9 v10 v11 lh:Option V),σ=[some (.ref a),some (.ref P0),some (.int (0+(i:Int))),some (.ref tp),some (.ref C),some (.ref U),v6,v7,v8,v9,v10,v11,lh]∧cf K H4 P0 a C ns n L rs Hd) ⟨_,_,_,_,_,_,_,rfl,L4⟩ ?_ ?_
  ·rintro j σ Hd hj ⟨v6,v7,v8,v9,v10,v11,lh,rfl,Bd⟩
   dsimp only [aP];refine kX (fun σ Hx=>∃(T:Addr) (kvs:List (List Key×V)),σ=[some (.ref a),some (.ref P0),some (.int (0+(i:Int))),some (.ref tp),some (.ref C),some (.ref U),some (.int (0+(j:Int))),some (.ref T),v8,v9,v10,v11,lh]∧cf K H4 P0 a C ns n L rs Hx∧Hx T=some (.dT kvs)∧T≠C∧jt kvs∧kvs≠[]∧kvs.length≤600) (fun R hR=>?_) (fun σ Hx J=>?_)
   ·have C4:uk≠[]:=fun z=>by have:=hU [] (qa n);rw [z] at this;cases this
    have OI:=Bd.kp _ _ UP UC eU;refine ⟨_,rfl,rfl,_,rfl,bZ (fun _=>?_) (fun _=>?_)⟩;·exact ⟨_,rfl,hR _ _ ⟨U,uk,rfl,Bd,OI,UC,TU,C4,by lia⟩⟩
    ·refine ⟨_,rfl,_,rfl,_,rfl,P0,a,C,U,ns,n,L,rs,uk,rfl,Bd.bu,Bd.iU,n1,n5,Bd.cost,Bd.rp,UC,OI,TU,hU,by lia,fun H' T kvs kp Y_ Za nT TC eT tT ne l=>?_⟩
     exact hR _ _ ⟨T,kvs,rfl,Bd.Mt kp Y_ Za,eT,TC,tT,ne,l⟩
   clear Bd;obtain ⟨T,kvs,rfl,Bx,eT,TC,TD,Zb,CW⟩:=J;obtain ⟨lt,us,dH,_,_⟩:=id (L4.shape Bx Hq);refine di fun _ Zc=>⟨_,rfl,_,rfl,tp,_,_,_,rfl,rfl,.of dH,rfl,(n:Int),rfl,fun q1 CY=>⟨q1,n,rfl,au,by lia,fun l nl=>?_⟩⟩
   have sl:ao Hx (upd (upd Hx q1 (.gp 0 (n:Int))) l (.lst (cJ n))):=(aH CY).trans (aH nl);have el:upd (upd Hx q1 (.gp 0 (n:Int))) l (.lst (cJ n)) l=some (.lst (cJ n)):=au;have lP:l≠P0:=Bx.bu.ne (none_of (aH CY) nl);generalize upd (upd Hx q1 (.gp 0 (n:Int))) l (.lst (cJ n))=H7 at sl el ⊢;have B7:=Bx.mono sl;have lu:(cJ n).length=n:=by unfold cJ;simp
   refine ⟨P0,a,l,ns,cJ n,rfl,B7.bu,B7.iU,lP,el,by lia,fun r ys H8 s8 p8 nr rP OJ pm=>?_⟩
   obtain ⟨o8,rfl,C6⟩:=Ug pm;have B8:=B7.next s8 p8;have TP:T≠P0:=bt.kY Bx.bu eT fun _ z=>by cases z
   have OK:=s8.at TP (sl _ _ eT);refine Zc _ _ ?_;clear Bx B7 s8 eT dH
   try dsimp only [aP]
   refine ⟨_,rfl,tp,n,L,rfl,L4.shape B8 Hq,cE,n9,fun H9 ft lo o9 s9 zt OL zu Zd ac_=>⟨ft,_,_,_,rfl,rfl,.of OL,rfl,_,rfl,by show 2≤sizeLine;decide,fun ol C7=>⟨ol,rfl,⟨_,.of au⟩,?_⟩⟩⟩
   have B9:=B8.mono s9;have t6:=(B9.mono (aH (o:=.lst [.ref lo,.ref r]) C7));have zO:ao H9 (upd H9 ol (.lst [.ref lo,.ref r])):=aH C7;have Hr:upd H9 ol (.lst [.ref lo,.ref r]) ol=some (.lst [.ref lo,.ref r]):=au;have Ze:ol≠P0:=B9.bu.ne C7;generalize upd H9 ol (.lst [.ref lo,.ref r])=OM at t6 zO Hr ⊢;have Zf:=L4.shape t6 Hq;have Zg:=zO _ _ (s9 _ _ OK);have ON:=zO _ _ zu;have Hs:=zO _ _ (s9 _ _ OJ);have lC:∀{b:Addr} {xs:List V},OM b=some (.lst xs)→b≠C:=fun{b xs} e=>t6.cost.ne e (fun _ z=>by cases z) fun _ _ z=>by cases z
   have Zh:=lC Hr;have OO:=lC ON;have rC:=lC Hs;have OP:lo≠P0:=B8.bu.ne zt;have OQ:=t6.base;clear B8 B9 s9 zO zt C7 OL zu OJ OK;refine jI (K:=K) (a:=ol) (xs:=[.ref lo,.ref r]) (fun m σ Hx=>∃(v9 v10 v11 lh:Option V),σ=[some (.ref a),some (.ref P0),some (.int (0+(i:Int))),some (.ref tp),some (.ref C),some (.ref U),some (.int (0+(j:Int))),some (.ref T),some (.ref r),v9,v10,v11,lh]∧cf K OM P0 a C ns n L rs Hx) ⟨_,_,_,_,rfl,OQ⟩ (fun m σ Hx _ ⟨_,_,_,_,_,B⟩=>.of (B.kp _ _ Ze Zh Hr)) ?_ ?_
   ·rintro m v σ Hx hv ⟨v9,v10,v11,lh,rfl,Bx⟩
    have rX:∃(ob:Addr) (o:List Nat),v=.ref ob∧Hx ob=some (.lst (o.map fun k:Nat=>V.int (k:Int)))∧o.Perm (List.range n)∧ob≠P0∧ob≠C:=by
     match m,hv with
     | 0,h=>exact ⟨lo,o9,(Option.some.inj h).symm,Bx.kp _ _ OP OO ON,Zd,OP,OO⟩
     | 1,h=>exact ⟨r,o8,(Option.some.inj h).symm,Bx.kp _ _ rP rC Hs,C6,rP,rC⟩
     | m+2,h=>simp at h
    obtain ⟨ob,o,rfl,jv,po,Zi,Zj⟩:=rX;have lo8:=va C6;have loo:=va po;have sh:=OQ.shape Bx Zf;have eT:=Bx.kp _ _ TP TC Zg;have er:=Bx.kp _ _ rP rC Hs;dsimp only [aP];refine di fun _ G0=>⟨_,rfl,T,kvs,rfl,.inl eT,Zb,TD.ok,fun A nA=>G0 _ _ ?_⟩;have sA:ao Hx (upd Hx A (.dT kvs)):=aH nA;have eA:upd Hx A (.dT kvs) A=some (.dT kvs):=au;generalize upd Hx A (.dT kvs)=C8 at sA eA ⊢
    try dsimp only [aP]
    refine di fun _ Zk=>⟨_,rfl,ob,_,rfl,.inl (.of (sA _ _ jv)),fun l nl=>Zk _ _ ?_⟩;have sl:ao C8 (upd C8 l (.lst (o.map fun k:Nat=>V.int (k:Int)))):=aH nl;have el:upd C8 l (.lst (o.map fun k:Nat=>V.int (k:Int))) l=some (.lst (o.map fun k:Nat=>V.int (k:Int))):=au;generalize upd C8 l (.lst (o.map fun k:Nat=>V.int (k:Int)))=H12 at sl el ⊢;have fb:=sA.trans sl
    try dsimp only [aP]
    refine di fun _ Zl=>⟨_,rfl,_,rfl,_,rfl,tp,l,A,n,L,o,kvs,kW kvs,rfl,sh.mono fb,cE,xf,n9,el,po,sl _ _ eA,CW,fun q hq h=>TD.val h,fun H13 d fz hd=>Zl _ _ ?_⟩;have sx:=fb.trans fz;have hm:∀k:List Nat,(k.map fun k:Nat=>V.int (k:Int))=(k.map iN).map V.int:=fun k=>by rw [bw];rfl
    try dsimp only [aP]
    refine di fun _ Zm=>⟨_,rfl,_,_,_,_,rfl,rfl,.of (.bl _),rfl,true,rfl,iH ?_⟩;refine ⟨_,rfl,_,rfl,A,T,kvs,rfl,rfl,(sl.trans fz) _ _ eA,sx _ _ eT,TD.i,false,rfl,iH ?_⟩;refine ⟨_,rfl,_,rfl,l,ob,o.map iN,o.map iN,rfl,rfl,.of (by rw [←hm];exact fz _ _ el),.of (by rw [←hm];exact sx _ _ jv),false,by simp,iH (Zm _ _ ?_)⟩
    try dsimp only [kh]
    refine di fun _ Zn=>⟨_,rfl,_,rfl,_,rfl,_,rfl,_,rfl,tp,ob,n,L,o.map iN,rfl,sh.mono sx,cE,xf,by lia,by rw [←hm];exact sx _ _ jv,by rw [aG];lia,fun no=>absurd (po.map iN) no,fun o' e' kd H14 nQ d' mR=>?_⟩
    have Zo:=FR e';subst Zo;obtain ⟨M,fM⟩:=LO n L o';have dd:d'=d:=by rw [hd M fM,mR M fM]
    subst dd;have sy:=sx.trans nQ;have By:=Bx.mono sy;refine ⟨n,L,C,T,rs,kvs,(d':Int),rfl,n9,By.cost,Ne.symm TC,sy _ _ eT,CW,TD,fun Zp bb OR OS hb=>⟨rfl,false,?_,iH (Zn _ _ ?_)⟩⟩
    ·rw [hb d' rfl]
     simp
    have B15:=By.shown OR OS;have zP:cf K Hx P0 a C ns n L rs Zp:=(Bx.base.mono sy).shown OR OS;have OT:=Bx.shape zP sh;have Zq:=zP.kp _ _ Zi Zj jv;have Zr:=zP.kp _ _ rP rC er;clear hb
    try dsimp only [kh]
    refine ⟨_,rfl,_,rfl,bZ (fun hf=>?_) (fun hf=>iH ⟨_,_,_,_,rfl,t6.base.trans (Bx.trans zP)⟩)⟩;rw [xu] at hf;refine ⟨_,rfl,_,rfl,tp,r,n,L,o8.map iN,rfl,OT,cE,xf,by lia,by rw [←hm];exact Zr,by rw [aG];lia,fun no=>absurd (C6.map iN) no,fun o2 e2 lQ H16 Ht d8 Zs=>?_⟩
    have Zt:=FR e2;subst Zt;refine ⟨_,rfl,_,rfl,tp,ob,n,L,o'.map iN,rfl,OT.mono Ht,cE,xf,by lia,by rw [←hm];exact Ht _ _ Zq,by rw [aG];lia,fun no=>absurd (po.map iN) no,fun o3 e3 ho3 H17 Zu d9 Zv=>?_⟩
    have Zw:=FR e3;subst Zw;obtain ⟨M8,OU⟩:=LO n L o2;have e9:d9=d':=by rw [Zv M fM,mR M fM]
    have le:=Wh (o:=o2) (M:=M8) cE hf.2 C6 OU (Zs M8 OU);refine ⟨_,_,rfl,rfl,false,eL V.bl (b3 (by lia)),iH ⟨_,_,_,_,rfl,(t6.base.trans (Bx.trans zP)).mono (Ht.trans Zu)⟩⟩
   ·rintro σ Hx ⟨v9,v10,v11,lh,rfl,Bx⟩
    exact ⟨_,_,_,_,_,_,_,rfl,t6.trans Bx⟩
  ·rintro σ Hd ⟨v6,v7,v8,v9,v10,v11,lh,rfl,Bd⟩
   exact ⟨_,_,_,_,_,_,_,_,_,_,_,rfl,sT.trans (aU.kp fun b o nb e=>Bd.kp b o nb (Y9 b o nb e) (Y8 b o nb e)),Bd.bu⟩
 ·rintro σ Hc ⟨v2,v3,v4,v5,v6,v7,v8,v9,v10,v11,lh,rfl,_⟩
  refine iV _ _ ?_;exact kQ _
theorem Zx{l:PySem.W.OpenLaw}(T:Txt K mg t):∃fd:FuncData,(∀(s:Shared) (v:Value),BindsTo s fd ⟨[v],[]⟩ [("script",v)])∧∀base:Heap,K.In base→base.Ns mainGlobals mg→bQ l.prog w K mg base cV 12 t.qd fd ["script"] (AR K):=by obtain ⟨oc,od,kV,doc,pm,an,cg,ct,mZ,e,lk,fU⟩:=T.wY.ex;refine ⟨t.tG,fun s v=>?_,fun base _ _=>Y7 T⟩;rw [e];exact .of_eq rfl
end
theorem walk{l:PySem.W.OpenLaw}{q:Program}{loose:List Str}{XP:(Str→Option Value)→Heap→Prop}{YP:World→Heap→Prop}{d:DefRec}{K:Params→PySem.W.Frag}(hn:l.most=some 63)(yb:d.params.defaults=[])
  (hY:∀(w:World) (h:Heap),YP w h→(K w.params).In h)
  (F:∀(w:World) (mg:dC) (fa:Addr) (h:Heap),(K w.params).In h→h.Ns mainGlobals mg→mg d.name=some (.ref fa)→
   ∃fd:FuncData,(∀(s:Shared) (u:Value),BindsTo s fd ⟨[u],[]⟩ [("script",u)])∧∀base:Heap,(K w.params).In base→base.Ns mainGlobals mg→bQ l.prog w (K w.params) mg base cV 12 fa fd ["script"] (AR (K w.params))) :
  PySem.W.WalkO q loose XP YP l.row.toRowW d [] (fun f vs=>PySem.call f vs):=
 L2.Rf (n:=63) (k:=12) (x:="script") (CX:=fun _=>cV) (sp:=fun w=>AR (K w.params)) hn (by decide) yb ⟨rfl,by decide,by decide⟩ hY F (fun _ _ a ns hl _ hS=>⟨a,ns,rfl,hS,hl,fun _=>rfl⟩) fun _ _ _ _ _ z=>z
theorem Zy{K:aK}{h:Heap}{mg:dC}(X:K.In h)(G:h.Ns mainGlobals mg)
  {nK:Addr}
  {wd:Addr}
  {Zz:Tok}
  {r6 r_ si sj sq sr su sC sE sF sG sI sJ sL sM sN sO sP sQ sR sS sU sV sW sX sY sZ s_ tj tm tw tD tE tF qd:Addr} {vt vv vw vx vy vz vB vC vD vE vF vG vH vI vJ vK vL vM vO vP vQ vR vS vT vU vV vW vX vY vZ v_ wa wb wc tG:FuncData}
  (Hu:PySem.W.nsIn K mainGlobals "NoOrder"=some (some (.ref nK)))
  (HA:PySem.W.nsIn K mainGlobals "NoSize"=some (some (.ref wd)))
  (ZA:mg "is_whole"=some (.ref r6))
  (we:aY K "is_whole" BD r6 vt)
  (ZC:mg "neighbours"=some (.ref r_))
  (tH:aY K "neighbours" BE r_ vv)
  (ZD:mg "is_order"=some (.ref si))
  (wg:aY K "is_order" BF si vw)
  (ZE:mg "check_order"=some (.ref sj))
  (wj:aY K "check_order" BG sj vx)
  (ZF:mg "turns_of"=some (.ref sq))
  (wm:aY K "turns_of" BH sq vy)
  (ZG:mg "link_all"=some (.ref sr))
  (wq:aY K "link_all" BI sr vz)
  (ZH:mg "later"=some (.ref su))
  (wu:aY K "later" BJ su vB)
  (ZI:mg "place_deeds"=some (.ref sC))
  (tI:aY K "place_deeds" BK sC vC)
  (ZJ:mg "deeds"=some (.ref sE))
  (oO:aY K "deeds" BL sE vD)
  (ZK:mg "check_size"=some (.ref sF))
  (qe:aY K "check_size" BM sF vE)
  (ZL:mg "still_near"=some (.ref sG))
  (wx:aY K "still_near" BN sG vF)
  (ZM:mg "cost"=some (.ref sI))
  (wA:aY K "cost" BO sI vG)
  (ZN:mg "rising_tuples"=some (.ref sJ))
  (tJ:aY K "rising_tuples" BP sJ vH)
  (ZO:mg "and_done"=some (.ref sL))
  (tK:aY K "and_done" BQ sL vI)
  (ZP:mg "choices"=some (.ref sM))
  (qf:aY K "choices" BR sM vJ)
  (ZQ:mg "worths"=some (.ref sN))
  (wB:aY K "worths" BS sN vK)
  (ZR:mg "fewest"=some (.ref sO))
  (wC:aY K "fewest" BU sO vL)
  (ZS:mg "keeps_to_costs"=some (.ref sP))
  (wG:aY K "keeps_to_costs" BV sP vM)
  (ZT:mg "shows_fewest"=some (.ref sQ))
  (wH:aY K "shows_fewest" BW sQ vO)
  (ZU:mg "_law_fill"=some (.ref sR))
  (wI:aY K "_law_fill" BX sR vP)
  (ZV:mg "_law_next"=some (.ref sS))
  (eJ:aY K "_law_next" BY sS vQ)
  (ZW:mg "_law_turned"=some (.ref sU))
  (tL:aY K "_law_turned" BZ sU vR)
  (ZX:mg "_law_tied_by"=some (.ref sV))
  (wJ:aY K "_law_tied_by" B_ sV vS)
  (ZY:mg "_law_grown_links"=some (.ref sW))
  (wK:aY K "_law_grown_links" Ca sW vT)
  (ZZ:mg "_law_drawn"=some (.ref sX))
  (wL:aY K "_law_drawn" Cb sX vU)
  (Z0:mg "_law_named"=some (.ref sY))
  (wM:aY K "_law_named" Cc sY vV)
  (Z1:mg "_law_beside"=some (.ref sZ))
  (wN:aY K "_law_beside" Cd sZ vW)
  (Z2:mg "_law_walks"=some (.ref s_))
  (wO:aY K "_law_walks" Ce s_ vX)
  (Z3:mg "_law_cost"=some (.ref tj))
  (wQ:aY K "_law_cost" Cf tj vY)
  (Z4:mg "_law_parts"=some (.ref tm))
  (wR:aY K "_law_parts" Cg tm vZ)
  (Z5:mg "_law_rows"=some (.ref tw))
  (wU:aY K "_law_rows" Ci tw v_)
  (Z6:mg "_law_worths"=some (.ref tD))
  (wV:aY K "_law_worths" Cj tD wa)
  (Z7:mg "_law_bent"=some (.ref tE))
  (wX:aY K "_law_bent" Ck tE wb)
  (Z8:mg "_law_shown"=some (.ref tF))
  (tM:aY K "_law_shown" Cm tF wc)
  (Z9:mg "law"=some (.ref qd))
  (wY:aY K "law" Cn qd tG)
  (HB:PySem.W.nsIn K mainGlobals "ValueError"=some none)
  (HC:PySem.W.nsIn K mainGlobals "all"=some none)
  (HD:PySem.W.nsIn K mainGlobals "any"=some none)
  (HE:PySem.W.nsIn K mainGlobals "bool"=some none)
  (HF:PySem.W.nsIn K mainGlobals "dict"=some none)
  (HG:PySem.W.nsIn K mainGlobals "enumerate"=some none)
  (HH:PySem.W.nsIn K mainGlobals "int"=some none)
  (HJ:PySem.W.nsIn K mainGlobals "isinstance"=some none)
  (HK:PySem.W.nsIn K mainGlobals "len"=some none)
  (HL:PySem.W.nsIn K mainGlobals "list"=some none)
  (HM:PySem.W.nsIn K mainGlobals "max"=some none)
  (HN:PySem.W.nsIn K mainGlobals "min"=some none)
  (HP:PySem.W.nsIn K mainGlobals "range"=some none)
  (HQ:PySem.W.nsIn K mainGlobals "reversed"=some none)
  (HR:PySem.W.nsIn K mainGlobals "sorted"=some none)
  (HS:PySem.W.nsIn K mainGlobals "sum"=some none)
  (HU:PySem.W.nsIn K mainGlobals "tuple"=some none)
  (HV:PySem.W.nsIn K mainGlobals "MOST"=some (some (.int 9 Zz)))
  (HW:PySem.W.excIn K nK [.type "ValueError",.type "Exception",.type "BaseException",.type "object"] "ValueError.__new__"=true)
  (HX:PySem.W.excIn K wd [.type "ValueError",.type "Exception",.type "BaseException",.type "object"] "ValueError.__new__"=true)
  : ∃t:FT,Txt K mg t:=by
 refine ⟨⟨r6,vt,r_,vv,si,vw,sj,vx,sq,vy,sr,vz,su,vB,sC,vC,sE,vD,sF,vE,sG,vF,sI,vG,sJ,vH,sL,vI,sM,vJ,sN,vK,sO,vL,sP,vM,sQ,vO,sR,vP,sS,vQ,sU,vR,sV,vS,sW,vT,sX,vU,sY,vV,sZ,vW,s_,vX,tj,vY,tm,vZ,tw,v_,tD,wa,tE,wb,tF,wc,qd,tG,nK,wd⟩,?_⟩
 exact {
  we:=we
  Mz:=we.cM
  MA:=ZA
  tH:=tH
  FU:=tH.cM
  FV:=ZC
  wg:=wg
  MB:=wg.cM
  MC:=ZD
  wj:=wj
  MD:=wj.cM
  ME:=ZE
  wm:=wm
  MF:=wm.cM
  MG:=ZF
  wq:=wq
  MJ:=wq.cM
  MK:=ZG
  wu:=wu
  ML:=wu.cM
  MM:=ZH
  tI:=tI
  FW:=tI.cM
  FX:=ZI
  oO:=oO
  zd:=oO.cM
  ze:=ZJ
  qe:=qe
  Co:=qe.cM
  Cp:=ZK
  wx:=wx
  MN:=wx.cM
  MO:=ZL
  wA:=wA
  MP:=wA.cM
  MQ:=ZM
  tJ:=tJ
  FY:=tJ.cM
  FZ:=ZN
  tK:=tK
  F_:=tK.cM
  Ga:=ZO
  qf:=qf
  Cq:=qf.cM
  Cr:=ZP
  wB:=wB
  MR:=wB.cM
  MS:=ZQ
  wC:=wC
  MT:=wC.cM
  MU:=ZR
  wG:=wG
  MV:=wG.cM
  MW:=ZS
  wH:=wH
  MX:=wH.cM
  MY:=ZT
  wI:=wI
  MZ:=wI.cM
  M0:=ZU
  eJ:=eJ
  gc:=eJ.cM
  gf:=ZV
  tL:=tL
  Gb:=tL.cM
  Gd:=ZW
  wJ:=wJ
  M3:=wJ.cM
  M4:=ZX
  wK:=wK
  M5:=wK.cM
  M6:=ZY
  wL:=wL
  M7:=wL.cM
  M9:=ZZ
  wM:=wM
  M_:=wM.cM
  Na:=Z0
  wN:=wN
  Nb:=wN.cM
  Nc:=Z1
  wO:=wO
  Nd:=wO.cM
  Nf:=Z2
  wQ:=wQ
  Ng:=wQ.cM
  Nh:=Z3
  wR:=wR
  Ni:=wR.cM
  Nj:=Z4
  wU:=wU
  Nk:=wU.cM
  Nl:=Z5
  wV:=wV
  Nm:=wV.cM
  Nn:=Z6
  wX:=wX
  Np:=wX.cM
  Nq:=Z7
  tM:=tM
  Ge:=tM.cM
  Gf:=Z8
  wY:=wY
  W4:=wY.cM
  Nr:=Z9
  Nt:=cx X G Hu
  Nu:=cx X G HA
  W5:=gK X G HB
  wZ:=gK X G HC
  W6:=gK X G HD
  Gg:=gK X G HE
  Cs:=gK X G HF
  Nv:=gK X G HG
  Nw:=gK X G HH
  zf:=gK X G HJ
  fN:=gK X G HK
  oP:=gK X G HL
  Nx:=gK X G HM
  zg:=gK X G HN
  gU:=gK X G HP
  Ny:=gK X G HQ
  tN:=gK X G HR
  Nz:=gK X G HS
  zh:=gK X G HU
  NA:=⟨_,cx X G HV,_,rfl⟩
  NB:=HW
  NC:=HX
 }
end My
namespace PySem.W.Fast
def tw17796987393837712651:Unit:=()
def tw6141184850216457370:Unit:=()
def tw14679108480092201268:Unit:=()
def tw954650222571370181:Unit:=()
def tw12403304750158358472:Unit:=()
def tw5842728358134399975:Unit:=()
def tw10354016716569177059:Unit:=()
def tw3620967229371514828:Unit:=()
def tw6304425307240246547:Unit:=()
def tw17577995666775232913:Unit:=()
def tw292196168940173136:Unit:=()
def tw12649860724629284539:Unit:=()
def tw15757589036500447452:Unit:=()
def tw9432036705783026102:Unit:=()
def tw7378352030399141329:Unit:=()
def tw6820078013360762398:Unit:=()
def tw12738046383247290373:Unit:=()
def tw4742629248866604026:Unit:=()
def tw5402497798181618515:Unit:=()
def tw1818531613722835593:Unit:=()
def tw4149760143657518100:Unit:=()
def tw399914428629975664:Unit:=()
def tw8948236668612141992:Unit:=()
def tw11567189147318458437:Unit:=()
def tw15347204975576339308:Unit:=()
def tw3476999125332756486:Unit:=()
def tw13658951080636355548:Unit:=()
def tw4931883311261895834:Unit:=()
def tw13144849277241596832:Unit:=()
def tw9500709491034560068:Unit:=()
def tw11114130844480697393:Unit:=()
def tw9329154851668956879:Unit:=()
def tw4382417944017369391:Unit:=()
def tw6714091543774966900:Unit:=()
def tw9532712760411284154:Unit:=()
def tw12524425146620996090:Unit:=()
def tw689889637430309407:Unit:=()
def tw13102228659287511258:Unit:=()
def tw18410115690220864709:Unit:=()
def tw5819563425103081710:Unit:=()
def tw15052644442989359632:Unit:=()
def tw16538703270565387878:Unit:=()
def tw10681356535077314183:Unit:=()
def tw11043424539358702286:Unit:=()
def tw10516935887521651911:Unit:=()
def tw15190963441382055120:Unit:=()
def tw17207945857972816192:Unit:=()
def tw5211197025650105079:Unit:=()
def tw2953702540074518686:Unit:=()
def tw11642401146507700489:Unit:=()
def tw13120038494642010500:Unit:=()
def tw18275387144990938154:Unit:=()
def tw8912080724604597149:Unit:=()
def tw1578666134082734501:Unit:=()
def tw1466009511931104038:Unit:=()
def tw11243118396134160659:Unit:=()
def tw12090802340140331616:Unit:=()
def tw17553184446068771319:Unit:=()
def tw2525948923167339842:Unit:=()
def tw3117409634026238417:Unit:=()
def tw15900090386640954556:Unit:=()
def tw3845491698276816216:Unit:=()
def tw8262308926171708524:Unit:=()
def tw6142630023692184646:Unit:=()
def tw9449241719617640287:Unit:=()
def tw10836950795628101884:Unit:=()
def tw7576829587108648932:Unit:=()
def tw17428556751636408595:Unit:=()
def tw17616898735520969524:Unit:=()
def tw17099217570073874863:Unit:=()
def tw4587357766015551076:Unit:=()
def tw15169238541703818907:Unit:=()
def tw6653432360006990578:Unit:=()
def tw6886395970332213715:Unit:=()
def tw12475325419146627735:Unit:=()
def tw627351770396116676:Unit:=()
def tw8540076353584551961:Unit:=()
def tw13289867509517221785:Unit:=()
def tw10408851455298077422:Unit:=()
def tw13128736674591109404:Unit:=()
def tw15390764985768731929:Unit:=()
def tw17592529893442169497:Unit:=()
def tw13600265833405101595:Unit:=()
def tw10630499587132594062:Unit:=()
def tw8008428231080094926:Unit:=()
def tw17270951636137433144:Unit:=()
def tw4618750508990639178:Unit:=()
def tw12356254756023092173:Unit:=()
def tw11365254199533244828:Unit:=()
def tw1811904510367175662:Unit:=()
def tw10767830009078713171:Unit:=()
def tw15154419186834790850:Unit:=()
def tw17117964340201619782:Unit:=()
def tw11685967582911102262:Unit:=()
def tw16183346816686514262:Unit:=()
def tw9174093806052544663:Unit:=()
def tw14826007658772081247:Unit:=()
def tw7255926070573751363:Unit:=()
def tw11851773680272383770:Unit:=()
def tw2491724645634568508:Unit:=()
def tw18151292989915194044:Unit:=()
def tw16469359771374128946:Unit:=()
def tw3292742123225080855:Unit:=()
def tw5815411042153744141:Unit:=()
def tw8287022268032014280:Unit:=()
def tw17381866354689234412:Unit:=()
def tw14376816946682202483:Unit:=()
def tw4158370169870326767:Unit:=()
def tw13458098755244605517:Unit:=()
def tw11143502441555895150:Unit:=()
def tw5269034842392444311:Unit:=()
def tw124504611333854329:Unit:=()
def tw11040575259524914051:Unit:=()
def tw7412174862058832664:Unit:=()
def tw1573214751497027927:Unit:=()
def tw16437239252879813286:Unit:=()
def tw9538703300830319707:Unit:=()
def tw12917532991800728928:Unit:=()
def tw10766749393554364368:Unit:=()
def tw4659522724381684168:Unit:=()
def tw2103312828644537773:Unit:=()
def tw7943169930317409897:Unit:=()
def tw293438423222977790:Unit:=()
def tw18391032609788950230:Unit:=()
def tw13726444932099883010:Unit:=()
def tw17079483469008773850:Unit:=()
def tw12051272868574542671:Unit:=()
def tw9608645578174902830:Unit:=()
def tw12010930991469632688:Unit:=()
def tw4169532940352503853:Unit:=()
def tw6129044525535953508:Unit:=()
def tw10009372750594049857:Unit:=()
def tw3048772115817025277:Unit:=()
def tw12300045080531293317:Unit:=()
def tw11316800023595030599:Unit:=()
def tw4093951096390391036:Unit:=()
def tw17054889537504124338:Unit:=()
def tw121847833459531868:Unit:=()
def tw5825959245683880723:Unit:=()
def tw7515971671058709891:Unit:=()
def tw9845020408975888238:Unit:=()
def tw2413053670520760667:Unit:=()
def tw10824751261617557464:Unit:=()
def tw13458604445150294253:Unit:=()
def tw15165761242000478019:Unit:=()
def tw18191597193964728648:Unit:=()
def tw2075728458031210126:Unit:=()
def tw2658869029878114496:Unit:=()
def tw3038025432986824122:Unit:=()
def tw1090346437105631562:Unit:=()
def tw1640761850685918472:Unit:=()
def tw2919064325884306836:Unit:=()
def tw8812503225344642989:Unit:=()
def tw14256834131424191447:Unit:=()
def tw7600742566663777605:Unit:=()
def tw9474321086819176534:Unit:=()
def tw5189517441502336736:Unit:=()
def tw13987975414422484783:Unit:=()
def tw9334392318371186473:Unit:=()
def tw7200353662590087101:Unit:=()
def tw16977835685187206495:Unit:=()
def tw13205259246242418060:Unit:=()
def tw5457965635088155461:Unit:=()
def tw15353615777562818135:Unit:=()
def tw6857557410185896807:Unit:=()
def tw4770087583307434965:Unit:=()
def tw4861213983673169230:Unit:=()
def tw2813969862735925227:Unit:=()
def tw5765023105306571020:Unit:=()
def tw6644004126402478670:Unit:=()
def tw1671711867898628113:Unit:=()
def tw6464926659777705267:Unit:=()
end PySem.W.Fast
open PySem PySem.W PyProof.Rows
set_option maxRecDepth 100000 in
set_option maxHeartbeats 0 in
theorem PySem.Challenge.cw_bandwright_k28_worths_looked_at_holds : PySem.Challenge.rw_bandwright_k28_worths_looked_at.Holds := by
 w_on;o_law;k_head;(case hw=>w_witness2)
 k_fill
 refine My.walk (l:=PySem.Challenge.rw_bandwright_k28_worths_looked_at) rfl rfl (fun w h Y=>PySem.W.kIn_of Y) ?F
 case F=>
  intro w mg fa h KX G yc
  have T:∃t,My.Txt (L2.Jz KX) mg t:=by
   dsimp only [L2.Jz]
   refine' My.Zy KX G ?Hu ?HA (cx KX G ?Z_) (L2.cN (st:=My.BD) ?aaa ?aab ?aac) (cx KX G ?aad) (L2.cN (st:=My.BE) ?aae ?aaf ?aag) (cx KX G ?aah) (L2.cN (st:=My.BF) ?aai ?aaj ?aak) (cx KX G ?aal) (L2.cN (st:=My.BG) ?aam ?aan ?aao) (cx KX G ?aap) (L2.cN (st:=My.BH) ?aaq ?aar ?aas) (cx KX G ?aat) (L2.cN (st:=My.BI) ?aau ?aav ?aaw) (cx KX G ?aax) (L2.cN (st:=My.BJ) ?aay ?aaz ?aaA) (cx KX G ?aaB) (L2.cN (st:=My.BK) ?aaC ?aaD ?aaE) (cx KX G ?aaF) (L2.cN (st:=My.BL) ?aaG ?aaH ?aaI) (cx KX G ?aaJ) (L2.cN (st:=My.BM) ?aaK ?aaL ?aaM) (cx KX G ?aaN) (L2.cN (st:=My.BN) ?aaO ?aaP ?aaQ) (cx KX G ?aaR) (L2.cN (st:=My.BO) ?aaS ?aaT ?aaU) (cx KX G ?aaV) (L2.cN (st:=My.BP) ?aaW ?aaX ?aaY) (cx KX G ?aaZ) (L2.cN (st:=My.BQ) ?aa0 ?aa1 ?aa2) (cx KX G ?aa3) (L2.cN (st:=My.BR) ?aa4 ?aa5 ?aa6) (cx KX G ?aa7) (L2.cN (st:=My.BS) ?aa8 ?aa9 ?aa_) (cx KX G ?aba) (L2.cN (st:=My.BU) ?abb ?abc ?abd) (cx KX G ?abe) (L2.cN (st:=My.BV) ?abf ?abg ?abh) (cx KX G ?abi) (L2.cN (st:=My.BW) ?abj ?abk ?abl) (cx KX G ?abm) (L2.cN (st:=My.BX) ?abn ?abo ?abp) (cx KX G ?abq) (L2.cN (st:=My.BY) ?abr ?abt ?abu) (cx KX G ?abv) (L2.cN (st:=My.BZ) ?abw ?abx ?aby) (cx KX G ?abz) (L2.cN (st:=My.B_) ?abA ?abB ?abC) (cx KX G ?abD) (L2.cN (st:=My.Ca) ?abE ?abF ?abG) (cx KX G ?abH) (L2.cN (st:=My.Cb) ?abI ?abJ ?abK) (cx KX G ?abL) (L2.cN (st:=My.Cc) ?abM ?abN ?abO) (cx KX G ?abP) (L2.cN (st:=My.Cd) ?abQ ?abR ?abS) (cx KX G ?abT) (L2.cN (st:=My.Ce) ?abU ?abV ?abW) (cx KX G ?abX) (L2.cN (st:=My.Cf) ?abY ?abZ ?ab0) (cx KX G ?ab1) (L2.cN (st:=My.Cg) ?ab2 ?ab3 ?ab4) (cx KX G ?ab5) (L2.cN (st:=My.Ci) ?ab6 ?ab7 ?ab8) (cx KX G ?ab9) (L2.cN (st:=My.Cj) ?ab_ ?acd ?ace) (cx KX G ?acf) (L2.cN (st:=My.Ck) ?acg ?ach ?aci) (cx KX G ?acj) (L2.cN (st:=My.Cm) ?ack ?acm ?acn) (cx KX G ?aco) (L2.cN (st:=My.Cn) ?acp ?acq ?acr) ?HB ?HC ?HD ?HE ?HF ?HG ?HH ?HJ ?HK ?HL ?HM ?HN ?HP ?HQ ?HR ?HS ?HU ?HV ?HW ?HX
   (case Hu|HA|Z_|aaa|aab|aac|aad|aae|aaf|aag|aah|aai|aaj|aak|aal|aam|aan|aao|aap|aaq|aar|aas|aat|aau|aav|aaw|aax|aay|aaz|aaA|aaB|aaC|aaD|aaE|aaF|aaG|aaH|aaI|aaJ|aaK|aaL|aaM|aaN|aaO|aaP|aaQ|aaR|aaS|aaT|aaU|aaV|aaW|aaX|aaY|aaZ|aa0|aa1|aa2|aa3|aa4|aa5|aa6|aa7|aa8|aa9|aa_|aba|abb|abc|abd|abe|abf|abg|abh|abi|abj|abk|abl|abm|abn|abo|abp|abq|abr|abt|abu|abv|abw|abx|aby|abz|abA|abB|abC|abD|abE|abF|abG|abH|abI|abJ|abK|abL|abM|abN|abO|abP|abQ|abR|abS|abT|abU|abV|abW|abX|abY|abZ|ab0|ab1|ab2|ab3|ab4|ab5|ab6|ab7|ab8|ab9|ab_|acd|ace|acf|acg|ach|aci|acj|ack|acm|acn|aco|acp|acq|acr|HB|HC|HD|HE|HF|HG|HH|HJ|HK|HL|HM|HN|HP|HQ|HR|HS|HU|HV=>k_is)
   (case HW|HX=>k_exc)
  obtain ⟨t,T⟩:=T
  have e0:=yc.symm.trans T.Nr
  cases e0
  exact My.Zx T
#print axioms PySem.Challenge.cw_bandwright_k28_worths_looked_at_holds
